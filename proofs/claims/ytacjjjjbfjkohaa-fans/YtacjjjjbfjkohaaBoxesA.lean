/-
  Numbers that a call itself gathers; the law Boxes.
-/
import Derived.Test.YtacjjjjbfjkohaaBoxesM
namespace Go.Proofs.Ytacjjjjbfjkohaa
open Go.RowKit

theorem Try.info3 : (Try.prog.info? 3).map (fun i => (i.zero, i.size, i.bytes)) = some (some (.int .i64 0), 1, 8) := by kernel_rfl
def OwnI (w : World) (B : Nat) (v : Value) (l : List Int) : Prop := w.ownsRow B 3 1 v l.length (l.map (Value.int .i64))
theorem ownI_nil (w : World) (B : Nat) : OwnI w B (.slice none 0 0) [] := World.ownsRow_nil _ _ _ _
theorem OwnI.kept {w w' : World} {B : Nat} {v : Value} {l : List Int} {row : Option Nat} (h : OwnI w B v l) (hg : w.grownBy w' row) (hne : ∀ g, v.ownBlock = some g → row ≠ some g) : OwnI w' B v l := by
  obtain ⟨h1, h2⟩ := h
  refine ⟨h1, ?_⟩
  rcases h2 with h2 | ⟨g, cap, cur, hv, hg', hh, r⟩
  · exact Or.inl h2
  · refine Or.inr ⟨g, cap, cur, hv, hg', ?_, r⟩
    have hlt : g < w.heap.size := (Array.getElem?_eq_some_iff.1 hh).1
    rw [hg.block g hlt (fun e => hne g (by rw [hv]; rfl) e.symm)]
    exact hh
theorem OwnI.on {w w' : World} {B : Nat} {v : Value} {l : List Int} (h : OwnI w B v l) (hb : Below w.heap.size w w') : OwnI w' B v l := by
  obtain ⟨h1, h2⟩ := h
  refine ⟨h1, ?_⟩
  rcases h2 with h2 | ⟨g, cap, cur, hv, hg, hh, r⟩
  · exact Or.inl h2
  · exact Or.inr ⟨g, cap, cur, hv, hg, blk_on hh hb, r⟩
theorem OwnI.is {w : World} {B : Nat} {v : Value} {l : List Int} (h : OwnI w B v l) (hl : 0 < l.length) (X : Nat → Int) (hX : ∀ i, i < l.length → l[i]? = some (X i)) : IsAt w v l.length X := by
  have h0 := h
  rcases h.2 with ⟨_, hn⟩ | ⟨g, cap, cur, rfl, _, hg, _⟩
  · omega
  · refine ⟨g, 0, cap, rfl, (Array.getElem?_eq_some_iff.1 hg).1, fun i hi => ?_⟩
    rw [Nat.zero_add, World.ownsRow.cellAt h0 i (by omega), List.getElem?_map, hX i hi]
    rfl
theorem ap_int {ops : Array Oper} {rest : List Oper} {o : Oper} {a : Act} {Q : Exit → Act → World → Prop} (hgd : o.guard = none) (s x : Operand)
    (ho : o.op = .call { callee := .builtin .append, args := #[s, x], argTypes := #[46, 46] })
    (W : World) (B : Nat) (v : Value) (l : List Int) (b : Int) (hs : a.eval s = v) (hown : OwnI W B v l) (hx : a.eval x = .slice (some ⟨W.heap.size, 0, none⟩) 1 1)
    (hlen : l.length ≤ 1000) (hB : B ≤ W.heap.size)
    (h : ∀ v' w', OwnI w' B v' (l ++ [b]) → (W.alloc (.cells #[.int .i64 b] 3)).grownBy w' v.ownBlock → (v'.ownBlock = v.ownBlock ∨ ∀ g, v'.ownBlock = some g → W.heap.size < g) → wpList Try.prog ops Q rest (a.put o.dst v') w') :
    wpList Try.prog ops Q (o :: rest) a (W.alloc (.cells #[.int .i64 b] 3)) := by
  obtain ⟨i0, hi, hz0, hz1, hz2⟩ := info_parts Try.info3
  refine ap_own _ hgd s x 46 ho B 3 i0 (.int .i64 0) 1 8 Try.underlying46 hi hz0 hz1 hz2 rfl (by decide) v l.length (l.map (Value.int .i64)) hs (World.ownsRow.alloc hown _) ⟨W.heap.size, 0, none⟩ 1 [.int .i64 b] hx rfl (cell_one_new _ _ _) ?_ ?_ ?_ ?_ ?_
  · intro u hu; simp at hu; subst hu; rfl
  · omega
  · omega
  · simp; omega
  · intro v' w' r1 r2 r3
    refine h v' w' ?_ r2 ?_
    · unfold OwnI
      simpa using r1
    · rcases r3 with r3 | r3
      · exact Or.inl r3
      · right
        intro g hg
        have := r3 g hg
        simp at this
        omega
def lst (F : Nat → Int) (k : Nat) : List Int := (List.range k).map F
theorem lst_succ (F : Nat → Int) (k : Nat) : lst F (k + 1) = lst F k ++ [F k] := by simp [lst, List.range_succ]
theorem lst_len (F : Nat → Int) (k : Nat) : (lst F k).length = k := by simp [lst]
theorem order_out (a b : Int) (ha : W30 a) (hb : W30 b) : ∃ l e : Int, l ≤ e ∧ W30 l ∧ W30 e ∧ ∀ W : World, Calls Try.prog 26 #[.int .i64 a, .int .i64 b] W fun en w' => en = .returned (.tuple #[.int .i64 l, .int .i64 e]) ∧ W = w' := by
  by_cases h : b < a
  · refine ⟨b, a, by omega, hb, ha, fun W => ?_⟩
    have := order_any a b W
    rw [if_pos h, if_pos h] at this
    exact this
  · refine ⟨a, b, by omega, ha, hb, fun W => ?_⟩
    have := order_any a b W
    rw [if_neg h, if_neg h] at this
    exact this
theorem bx_cell (l e : Int) (J : Nat) (h : J < 4) : (#[Value.int .i64 l, Value.int .i64 e, Value.int .i64 e, Value.int .i64 l] : Array Value)[J]? = some (.int .i64 (bxX l e J)) := by
  have : J = 0 ∨ J = 1 ∨ J = 2 ∨ J = 3 := by omega
  rcases this with rfl | rfl | rfl | rfl <;> rfl
theorem by_cell (t s : Int) (J : Nat) (h : J < 4) : (#[Value.int .i64 t, Value.int .i64 t, Value.int .i64 s, Value.int .i64 s] : Array Value)[J]? = some (.int .i64 (bxY t s J)) := by
  have : J = 0 ∨ J = 1 ∨ J = 2 ∨ J = 3 := by omega
  rcases this with rfl | rfl | rfl | rfl <;> rfl
theorem three_blocks (w : World) (o o' o'' : Obj) : (((w.alloc o).alloc o').alloc o'').heap[w.heap.size]? = some o ∧ (((w.alloc o).alloc o').alloc o'').heap[w.heap.size + 1]? = some o' ∧ (((w.alloc o).alloc o').alloc o'').heap[w.heap.size + 2]? = some o'' ∧ (((w.alloc o).alloc o').alloc o'').heap.size = w.heap.size + 3 ∧ Below w.heap.size w (((w.alloc o).alloc o').alloc o'') := by
  obtain ⟨a, b, c⟩ := two_blocks w o o'
  refine ⟨?_, ?_, ?_, by simp, below_alloc c (Nat.le_refl _) _⟩
  · rw [Below.heap_alloc _ _ _ (by simp; omega)]; exact a
  · rw [Below.heap_alloc _ _ _ (by simp)]; exact b
  · simpa using heap_alloc_new ((w.alloc o).alloc o') o''
theorem W30_pk (c : Int) : W30 (pk c 1073741825) := by have := pk_in c (n := 1073741825) (by omega); unfold W30; omega

theorem OwnI.alloc {w : World} {B : Nat} {v : Value} {l : List Int} (h : OwnI w B v l) (o : Obj) : OwnI (w.alloc o) B v l := World.ownsRow.alloc h o
theorem OwnI.lt {w : World} {B : Nat} {v : Value} {l : List Int} (h : OwnI w B v l) : ∀ k, v.ownBlock = some k → B ≤ k ∧ k < w.heap.size := World.ownsRow.lt h
def I64 (a : Int) : Prop := -9223372036854775808 ≤ a ∧ a ≤ 9223372036854775807

set_option maxRecDepth 10000 in
set_option maxHeartbeats 3200000 in
theorem boxes_walk (raw : Nat → Int) (zoom x0 y0 x1 y1 px py turn : Int) (w : World) (hF : F64 raw) (r1 : I64 zoom) (r2 : I64 x0) (r3 : I64 y0) (r4 : I64 x1) (r5 : I64 y1) (r6 : I64 px) (r7 : I64 py) (r8 : I64 turn) :
    Calls Try.prog 8 #[.agg (fc raw), .int .i64 zoom, .int .i64 x0, .int .i64 y0, .int .i64 x1, .int .i64 y1, .int .i64 px, .int .i64 py, .int .i64 turn] w fun e w' => e = .returned (.bool true) ∧ Below w.heap.size w w' := by
  unfold I64 at r1 r2 r3 r4 r5 r6 r7 r8
  have PZ := fun W => pick_any zoom 23 W r1 (by omega)
  have PA := fun W => pick_any x0 1073741825 W r2 (by omega)
  have PB := fun W => pick_any x1 1073741825 W r4 (by omega)
  have PC := fun W => pick_any y0 1073741825 W r3 (by omega)
  have PD := fun W => pick_any y1 1073741825 W r5 (by omega)
  have PX := fun W => pick_any px 1073741825 W r6 (by omega)
  have PY := fun W => pick_any py 1073741825 W r7 (by omega)
  have PT := fun W => pick_any turn 4 W r8 (by omega)
  have bz := pk_in zoom (n := 23) (by omega)
  have bt := pk_in turn (n := 4) (by omega)
  obtain ⟨l, ea, hle, wl, we, OX⟩ := order_out (pk x0 1073741825) (pk x1 1073741825) (W30_pk x0) (W30_pk x1)
  obtain ⟨t, so, hts, wt, ws, OY⟩ := order_out (pk y0 1073741825) (pk y1 1073741825) (W30_pk y0) (W30_pk y1)
  have wx := W30_pk px
  have wy := W30_pk py
  generalize pk px 1073741825 = x at PX wx
  generalize pk py 1073741825 = y at PY wy
  generalize hz : pk zoom 23 = z at PZ bz
  obtain ⟨q, hq⟩ : ∃ q : Nat, pk turn 4 = (q : Int) := ⟨(pk turn 4).toNat, by omega⟩
  have HQ := hide hq
  rw [hq] at PT bt
  clear hq hz
  obtain ⟨k0, k1, k2, ksz, kb⟩ := three_blocks w (.cells (fc raw) 26 (0, 0)) (.cells #[.int .i64 l, .int .i64 ea, .int .i64 ea, .int .i64 l] 3 (0, 0)) (.cells #[.int .i64 t, .int .i64 t, .int .i64 so, .int .i64 so] 3 (0, 0))
  have HK0 := hide k0
  have HK1 := hide k1
  have HK2 := hide k2
  have HKS := hide ksz
  have HKB := hide kb
  clear k0 k1 k2 ksz kb
  go_enter Try.func8, Try.ntmps8
  go_wp2_with fail
  refine (PZ _).mono ?_
  rintro e w9 ⟨rfl, rfl⟩
  go_wp2_with fail
  refine (PA _).mono ?_
  rintro e w9 ⟨rfl, rfl⟩
  go_wp2_with fail
  refine (PB _).mono ?_
  rintro e w9 ⟨rfl, rfl⟩
  go_wp2_with fail
  refine (OX _).mono ?_
  rintro e w9 ⟨rfl, rfl⟩
  go_wp2_with fail
  refine (PC _).mono ?_
  rintro e w9 ⟨rfl, rfl⟩
  go_wp2_with fail
  refine (PD _).mono ?_
  rintro e w9 ⟨rfl, rfl⟩
  go_wp2_with fail
  refine (OY _).mono ?_
  rintro e w9 ⟨rfl, rfl⟩
  go_wp2_with fail
  refine (PX _).mono ?_
  rintro e w9 ⟨rfl, rfl⟩
  go_wp2_with fail
  refine (PY _).mono ?_
  rintro e w9 ⟨rfl, rfl⟩
  go_wp2_with fail
  generalize ((w.alloc (.cells (fc raw) 26)).alloc (.cells #[.int .i64 l, .int .i64 ea, .int .i64 ea, .int .i64 l] 3)).alloc (.cells #[.int .i64 t, .int .i64 t, .int .i64 so, .int .i64 so] 3) = w3 at HK0 HK1 HK2 HKS HKB ⊢
  have HQT : Hid (∀ i : Nat, bxJ turn i = if turn < 0 then 3 - (q + i) % 4 else (q + i) % 4) := by
    intro i
    unfold bxJ
    rw [unhide HQ, Int.toNat_natCast]
  obtain ⟨FX, hFX⟩ : ∃ F : Nat → Int, F = fun i => bxX l ea (bxJ turn i) := ⟨_, rfl⟩
  obtain ⟨FY, hFY⟩ : ∃ F : Nat → Int, F = fun i => bxY t so (bxJ turn i) := ⟨_, rfl⟩
  have HFX : Hid (∀ i, FX i = bxX l ea (bxJ turn i)) := fun i => by rw [hFX]
  have HFY : Hid (∀ i, FY i = bxY t so (bxJ turn i)) := fun i => by rw [hFY]
  clear hFX hFY
  go_loopw [29, 30, 31, 32] (fun xv yv i _ wr => ∃ k : Nat, k ≤ 4 ∧ i = .int .i64 k ∧ OwnI wr (w.heap.size + 3) xv (lst FX k) ∧ OwnI wr (w.heap.size + 3) yv (lst FY k) ∧ Hid (∀ g, xv.ownBlock = some g → yv.ownBlock ≠ some g) ∧ Below (w.heap.size + 3) w3 wr) (fun _ _ i _ _ => 4 - (intOf i).toNat)
  case atStart => exact ⟨0, by omega, rfl, ownI_nil _ _, ownI_nil _ _, hide (fun g hg => by simp [Value.ownBlock] at hg), Below.refl _ _⟩
  case round =>
    obtain ⟨k, hk, rfl, hox, hoy, hdj, hb⟩ := hrel
    have hsz : w.heap.size + 3 ≤ wr.heap.size := by have := hb.size; rw [unhide HKS] at this; exact this
    by_cases hlt : k < 4
    · have hk4 : (k : Int) < 4 := by omega
      have hj0 : ((q : Int) + (k : Int)) % 4 = (((q + k) % 4 : Nat) : Int) := by omega
      have hJ0 : (q + k) % 4 < 4 := by omega
      by_cases hneg : turn < 0
      · have hJ : bxJ turn k = 3 - (q + k) % 4 := by rw [unhide HQT k, if_pos hneg]
        generalize (q + k) % 4 = J0 at hj0 hJ0 hJ
        have hj1 : (3 : Int) - (J0 : Int) = ((3 - J0 : Nat) : Int) := by omega
        have hJ4 : 3 - J0 < 4 := by omega
        generalize 3 - J0 = J at hj1 hJ4 hJ
        have hj3 : (J : Int) < 4 := by omega
        have cX : wr.cell? ⟨w.heap.size + 1, J, none⟩ = some (.int .i64 (FX k)) := by
          rw [hb.cell (p := ⟨w.heap.size + 1, J, none⟩) (by simp), blk_cells (unhide HK1), bx_cell _ _ J hJ4, unhide HFX k, hJ]
        have cY : w3.cell? ⟨w.heap.size + 1 + 1, J, none⟩ = some (.int .i64 (FY k)) := by
          rw [show w3.cell? ⟨w.heap.size + 1 + 1, J, none⟩ = _ from blk_cells (unhide HK2) J, by_cell _ _ J hJ4, unhide HFY k, hJ]
        clear hJ
        go_wp2_with fail
        refine (PT _).mono ?_
        rintro e w9 ⟨rfl, rfl⟩
        go_wp2_with (at_builtin; refine ap_int rfl (.tmp 93) (.tmp 98) rfl _ (w.heap.size + 3) _ (lst FX k) (FX k) rfl hox rfl ?_ ?_ ?_)
        · rw [lst_len]; omega
        · exact hsz
        intro v4 w4 ho4 hg4 hd4
        have hoy4 := (hoy.alloc (.cells #[.int .i64 (FX k)] 3)).kept hg4 (fun g hg e => unhide hdj g e hg)
        have hb4 := (hb.alloc hsz (.cells #[.int .i64 (FX k)] 3)).grown hg4 (by simp; omega) (fun k hk => (hox.lt k hk).1)
        have cY4 := (hb4.cell (p := ⟨w.heap.size + 1 + 1, J, none⟩) (by simp)).trans cY
        have hsz4 : w.heap.size + 3 ≤ w4.heap.size := by have := hb4.size; rw [unhide HKS] at this; exact this
        have hd4' : ∀ g, v4.ownBlock = some g → u30.ownBlock ≠ some g := by
          intro g hg e
          rcases hd4 with d | d
          · rw [d] at hg; exact unhide hdj g hg e
          · have h1 := d g hg
            have h2 := (hoy.lt g e).2
            omega
        have HB4 := hide hb4
        have HD4 := hide hd4'
        have HO4 := hide ho4
        clear hox hb hg4 hd4 hb4 hoy cX cY hd4' ho4
        go_wp2_with (at_builtin; refine ap_int rfl (.tmp 100) (.tmp 105) rfl _ (w.heap.size + 3) _ (lst FY k) (FY k) rfl hoy4 rfl ?_ ?_ ?_)
        · rw [lst_len]; omega
        · exact hsz4
        intro v5 w5 ho5 hg5 hd5
        have hox5 := ((unhide HO4).alloc (.cells #[.int .i64 (FY k)] 3)).kept hg5 (fun g hg e => unhide HD4 g hg e)
        have hb5 := ((unhide HB4).alloc hsz4 (.cells #[.int .i64 (FY k)] 3)).grown hg5 (by simp; omega) (fun k hk => (hoy4.lt k hk).1)
        have hd5' : ∀ g, v4.ownBlock = some g → v5.ownBlock ≠ some g := by
          intro g hg e
          rcases hd5 with d | d
          · rw [d] at e; exact unhide HD4 g hg e
          · have h1 := d g e
            have h2 := ((unhide HO4).lt g hg).2
            omega
        have HD5 := hide hd5'
        have HO5 := hide (And.intro hox5 ho5)
        have HB5 := hide hb5
        clear hoy4 hg5 hd5 hb5 hox5 ho5 hd5' cY4
        go_wp2_with fail
        go_roundw
        case rel => exact ⟨k + 1, by omega, by go_num, by rw [lst_succ]; exact (unhide HO5).1, by rw [lst_succ]; exact (unhide HO5).2, unhide HD5, unhide HB5⟩
        case measure => simp [intOf]; omega
      · have hJ : bxJ turn k = (q + k) % 4 := by rw [unhide HQT k, if_neg hneg]
        generalize (q + k) % 4 = J at hj0 hJ0 hJ
        have hj3 : (J : Int) < 4 := by omega
        have cX : wr.cell? ⟨w.heap.size + 1, J, none⟩ = some (.int .i64 (FX k)) := by
          rw [hb.cell (p := ⟨w.heap.size + 1, J, none⟩) (by simp), blk_cells (unhide HK1), bx_cell _ _ J hJ0, unhide HFX k, hJ]
        have cY : w3.cell? ⟨w.heap.size + 1 + 1, J, none⟩ = some (.int .i64 (FY k)) := by
          rw [show w3.cell? ⟨w.heap.size + 1 + 1, J, none⟩ = _ from blk_cells (unhide HK2) J, by_cell _ _ J hJ0, unhide HFY k, hJ]
        clear hJ
        go_wp2_with fail
        refine (PT _).mono ?_
        rintro e w9 ⟨rfl, rfl⟩
        go_wp2_with (at_builtin; refine ap_int rfl (.tmp 93) (.tmp 98) rfl _ (w.heap.size + 3) _ (lst FX k) (FX k) rfl hox rfl ?_ ?_ ?_)
        · rw [lst_len]; omega
        · exact hsz
        intro v4 w4 ho4 hg4 hd4
        have hoy4 := (hoy.alloc (.cells #[.int .i64 (FX k)] 3)).kept hg4 (fun g hg e => unhide hdj g e hg)
        have hb4 := (hb.alloc hsz (.cells #[.int .i64 (FX k)] 3)).grown hg4 (by simp; omega) (fun k hk => (hox.lt k hk).1)
        have cY4 := (hb4.cell (p := ⟨w.heap.size + 1 + 1, J, none⟩) (by simp)).trans cY
        have hsz4 : w.heap.size + 3 ≤ w4.heap.size := by have := hb4.size; rw [unhide HKS] at this; exact this
        have hd4' : ∀ g, v4.ownBlock = some g → u30.ownBlock ≠ some g := by
          intro g hg e
          rcases hd4 with d | d
          · rw [d] at hg; exact unhide hdj g hg e
          · have h1 := d g hg
            have h2 := (hoy.lt g e).2
            omega
        have HB4 := hide hb4
        have HD4 := hide hd4'
        have HO4 := hide ho4
        clear hox hb hg4 hd4 hb4 hoy cX cY hd4' ho4
        go_wp2_with (at_builtin; refine ap_int rfl (.tmp 100) (.tmp 105) rfl _ (w.heap.size + 3) _ (lst FY k) (FY k) rfl hoy4 rfl ?_ ?_ ?_)
        · rw [lst_len]; omega
        · exact hsz4
        intro v5 w5 ho5 hg5 hd5
        have hox5 := ((unhide HO4).alloc (.cells #[.int .i64 (FY k)] 3)).kept hg5 (fun g hg e => unhide HD4 g hg e)
        have hb5 := ((unhide HB4).alloc hsz4 (.cells #[.int .i64 (FY k)] 3)).grown hg5 (by simp; omega) (fun k hk => (hoy4.lt k hk).1)
        have hd5' : ∀ g, v4.ownBlock = some g → v5.ownBlock ≠ some g := by
          intro g hg e
          rcases hd5 with d | d
          · rw [d] at e; exact unhide HD4 g hg e
          · have h1 := d g e
            have h2 := ((unhide HO4).lt g hg).2
            omega
        have HD5 := hide hd5'
        have HO5 := hide (And.intro hox5 ho5)
        have HB5 := hide hb5
        clear hoy4 hg5 hd5 hb5 hox5 ho5 hd5' cY4
        go_wp2_with fail
        go_roundw
        case rel => exact ⟨k + 1, by omega, by go_num, by rw [lst_succ]; exact (unhide HO5).1, by rw [lst_succ]; exact (unhide HO5).2, unhide HD5, unhide HB5⟩
        case measure => simp [intOf]; omega
    · have hk4 : k = 4 := by omega
      subst hk4
      have iX : IsAt wr u29 4 FX := by
        have := hox.is (by rw [lst_len]; omega) FX (fun i hi => by rw [lst_len] at hi; simp [lst, hi])
        rwa [lst_len] at this
      have iY : IsAt wr u30 4 FY := by
        have := hoy.is (by rw [lst_len]; omega) FY (fun i hi => by rw [lst_len] at hi; simp [lst, hi])
        rwa [lst_len] at this
      have hr0 : wr.heap[w.heap.size]? = some (.cells (fc raw) 26 (0, 0)) := (hb.block _ (by omega)).trans (unhide HK0)
      have HBw := hide ((unhide HKB).trans (hb.mono (by omega)))
      have AR := hide (fun W h h' => area_any raw u29 u30 4 FX FY W hF h h')
      have HI := hide (And.intro iX iY)
      have HRT := hide (right_any (upd raw 2 1))
      have HF1 := hide (F64_upd hF 2 1 (by omega))
      clear hox hoy hdj hb iX iY hsz hlt hF
      go_wp2_with (refine ld26 rfl _ rfl _ rfl raw hr0 ?_)
      refine (unhide AR _ (unhide HI).1 (unhide HI).2).mono ?_
      rintro e w5 ⟨⟨G, hAr, rfl⟩, hb5⟩
      have hcv := box_cov (z := z) (x := x) (y := y) hAr (unhide HFX) (unhide HFY) hle hts wl we wt ws (by omega) (by omega) wx wy
      have CG := fun W => Covers_any G z x y W
      rw [hcv] at CG
      obtain ⟨bb, hbb⟩ : ∃ b : Bool, decide (l ≤ x ∧ x < ea ∧ t ≤ y ∧ y < so) = b := ⟨_, rfl⟩
      rw [hbb] at CG
      have HBB := hide hbb
      have hr5 := blk_on hr0 hb5
      have hB5 := (unhide HBw).trans (hb5.mono (unhide HBw).size)
      have hA := heap_alloc_new w5 (.cells (fc zf) 26 (0, 0))
      have hA1 := setRow_heap _ _ _ (fc G) _ _ hA
      have hl5 : w.heap.size < w5.heap.size := (Array.getElem?_eq_some_iff.1 hr5).1
      have hr6 := (setRow_other (show w5.heap.size ≠ w.heap.size by omega) (fc G)).trans ((Below.heap_alloc w5 (.cells (fc zf) 26) _ hl5).trans hr5)
      have HB6 := hide (below_setRow (below_alloc hB5 (Nat.le_refl _) (.cells (fc zf) 26)) (show w.heap.size ≤ w5.heap.size by omega) (fc G))
      have HR6 := hide hr6
      clear hb5 hr0 hAr hcv hbb hB5 hr5 hr6 AR HI HBw HFX HFY
      go_wp2_with (first | refine al26 rfl rfl w5.heap.size rfl ?_ | refine st26 rfl _ _ rfl w5.heap.size G rfl rfl zf hA ?_ | refine ld26 rfl _ rfl _ rfl G hA1 ?_)
      refine (CG _).mono ?_
      rintro e w7 ⟨rfl, hb7⟩
      have hr7 := blk_on (unhide HR6) hb7
      have HB7 := hide ((unhide HB6).trans (hb7.mono (unhide HB6).size))
      clear hb7 hA hA1 CG HR6 HB6 hl5
      go_upto_region 20 with fail
      go_cut [34, 135] (fun _ b wr => b = .bool false ∧ wr = w7)
      case first =>
        by_cases h1 : l ≤ x
        · by_cases h2 : x < ea
          · by_cases h3 : t ≤ y
            · by_cases h4 : y < so
              · have hb : bb = true := by rw [← unhide HBB]; simp [h1, h2, h3, h4]
                go_wp2_with fail
                go_meet
                exact ⟨rfl, rfl⟩
              · have hb : bb = false := by rw [← unhide HBB]; simp [h1, h2, h3, h4]
                go_wp2_with fail
                go_meet
                exact ⟨rfl, rfl⟩
            · have hb : bb = false := by rw [← unhide HBB]; simp [h1, h2, h3]
              go_wp2_with fail
              go_meet
              exact ⟨rfl, rfl⟩
          · have hb : bb = false := by rw [← unhide HBB]; simp [h1, h2]
            go_wp2_with fail
            go_meet
            exact ⟨rfl, rfl⟩
        · have hb : bb = false := by rw [← unhide HBB]; simp [h1]
          go_wp2_with fail
          go_meet
          exact ⟨rfl, rfl⟩
      case rest =>
        obtain ⟨hc1, hc2⟩ := hcut
        subst hc1
        subst hc2
        have g8 := set_blk hr7 (show 2 < 24 by omega) 1
        have m2 := fc_at raw 2 (by decide)
        have p7 := blk_cells hr7
        have f7 := frz_blk hr7
        have HB8 := hide ((unhide HB7).setCell (p := ⟨w.heap.size, 2, none⟩) (by simp) (.int .i64 1))
        clear HBB HB7
        go_wp2_with (refine ld26 rfl _ rfl _ rfl (upd raw 2 1) g8 ?_)
        refine (unhide HRT _ (unhide HF1)).mono ?_
        rintro e w9 ⟨rfl, hb9⟩
        have HB9 := hide ((unhide HB8).trans (hb9.mono (unhide HB8).size))
        clear hb9 g8 m2 p7 f7 hr7 HB8 HRT HF1
        have hA := heap_alloc_new w9 (.cells (fc zf) 26 (0, 0))
        have hA1 := setRow_heap _ _ _ (fc (mk (upd raw 2 1))) _ _ hA
        have hA2 := set_blk hA1 (show 8 < 24 by omega) x
        have hA3 := set_blk hA2 (show 16 < 24 by omega) y
        have n1 := fc_at (mk (upd raw 2 1)) 8 (by decide)
        have n2 := fc_at (upd (mk (upd raw 2 1)) 8 x) 16 (by decide)
        have p1 := blk_cells hA1
        have f1 := frz_blk hA1
        have p2 := blk_cells hA2
        have f2 := frz_blk hA2
        have hle9 : w.heap.size ≤ w9.heap.size := (unhide HB9).size
        have HB10 := hide (((below_setRow (below_alloc (unhide HB9) (Nat.le_refl _) (.cells (fc zf) 26)) hle9 (fc (mk (upd raw 2 1)))).setCell (p := ⟨w9.heap.size, 8, none⟩) hle9 (.int .i64 x)).setCell (p := ⟨w9.heap.size, 16, none⟩) hle9 (.int .i64 y))
        have HA3 := hide hA3
        clear hA3 HB9
        go_wp2_with (first | refine al26 rfl rfl w9.heap.size rfl ?_ | refine st26 rfl _ _ rfl w9.heap.size (mk (upd raw 2 1)) rfl rfl zf hA ?_)
        have hA3 : _ = some (Obj.cells (fc (dotF raw x y)) 26 (0, 0)) := unhide HA3
        generalize (((w9.alloc (.cells (fc zf) 26)).setRow w9.heap.size (fc (mk (upd raw 2 1)))).setCell ⟨w9.heap.size, 8, none⟩ (.int .i64 x)).setCell ⟨w9.heap.size, 16, none⟩ (.int .i64 y) = w10 at HB10 hA3 ⊢
        clear hA hA1 hA2 n1 n2 p1 p2 f1 f2 HA3
        have z1 : 0 ≤ z := by omega
        have z2 : z ≤ 22 := by omega
        have U := fun W => keepUnit_any z W z1 z2
        obtain ⟨u1, u2⟩ := un_in z z1 z2
        have q10 := blk_cells hA3
        have c6 := fc_at (dotF raw x y) 6 (by decide)
        obtain ⟨_, _, _, _, e6, s1, s2⟩ := dot_rt raw x y wx wy
        rw [e6] at c6
        have D := fun d hd R hR => dot_all raw x y z d wx wy z1 z2 hd R hR
        have HD := hide D
        clear D e6
        obtain ⟨u, hu⟩ : ∃ u, un z = u := ⟨_, rfl⟩
        rw [hu] at U u1 u2 HD
        obtain ⟨S, hS⟩ : ∃ S, mk (upd raw 2 1) 6 = S := ⟨_, rfl⟩
        rw [hS] at c6 s1 s2 HD
        clear hu hS
        have hSu : 0 ≤ S * u ∧ S * u ≤ 1073741824 := by
          have : S = 1 ∨ S = 2 ∨ S = 3 := by omega
          rcases this with rfl | rfl | rfl <;> omega
        obtain ⟨R, hR⟩ : ∃ R, S * u = R := ⟨_, rfl⟩
        have hm : IntKind.i64.wrap (S * u) = R := by rw [← hR]; exact i64_in _ (by omega)
        have HR := hide hR
        rw [hR] at hSu
        clear hR
        go_quiet (exact (U _).mono fun e w' h => ⟨h.1, _, h.2.symm⟩)
        have PF := fun W => pick_any x0 (3 * u + 2) W r2 (by omega)
        have bf := pk_in x0 (n := 3 * u + 2) (by omega)
        have HDD := hide (unhide HD (pk x0 (3 * u + 2)) bf.1 R (unhide HR))
        generalize pk x0 (3 * u + 2) = d at PF bf HDD
        have HA3 : (w10.drewN nq).heap[w9.heap.size]? = some (Obj.cells (fc (dotF raw x y)) 26 (0, 0)) := hA3
        have HB11 := hide (below_drewN (unhide HB10) nq)
        generalize w10.drewN nq = w11 at HA3 HB11 ⊢
        clear hA3 q10 c6 HB10 HD HR hm
        go_wp2_with fail
        refine (U _).mono ?_
        rintro e w19 ⟨rfl, rfl⟩
        go_wp2_with fail
        refine (PF _).mono ?_
        rintro e w19 ⟨rfl, rfl⟩
        have C1 := fun W => Covers_any (dotF raw x y) z (x + d) y W
        have C2 := fun W => Covers_any (dotF raw x y) z x (y - d) W
        have C3 := fun W => Covers_any (dotF raw x y) z (x - d) y W
        have C4 := fun W => Covers_any (dotF raw x y) z x (y + d) W
        rw [(unhide HDD).1] at C1
        rw [(unhide HDD).2.1] at C2
        rw [(unhide HDD).2.2.1] at C3
        rw [(unhide HDD).2.2.2] at C4
        obtain ⟨b1, hb1⟩ : ∃ b : Bool, decide (d ≤ R ∧ x + d ≤ 1073741824) = b := ⟨_, rfl⟩
        obtain ⟨b2, hb2⟩ : ∃ b : Bool, decide (d ≤ R ∧ 0 ≤ y - d) = b := ⟨_, rfl⟩
        obtain ⟨b3, hb3⟩ : ∃ b : Bool, decide (d ≤ R ∧ 0 ≤ x - d) = b := ⟨_, rfl⟩
        obtain ⟨b4, hb4⟩ : ∃ b : Bool, decide (d ≤ R ∧ y + d ≤ 1073741824) = b := ⟨_, rfl⟩
        rw [hb1] at C1
        rw [hb2] at C2
        rw [hb3] at C3
        rw [hb4] at C4
        have HBs := hide (And.intro hb1 (And.intro hb2 (And.intro hb3 hb4)))
        clear hb1 hb2 hb3 hb4 HDD PF U
        unfold W30 at wx wy
        go_wp2_with (refine ld26 rfl _ rfl _ rfl (dotF raw x y) HA3 ?_)
        refine (C1 _).mono ?_
        rintro e w12 ⟨rfl, h12⟩
        have A12 := blk_on HA3 h12
        have B12 := hide ((unhide HB11).trans (h12.mono (unhide HB11).size))
        clear h12 HA3 HB11
        go_wp2_with (refine ld26 rfl _ rfl _ rfl (dotF raw x y) A12 ?_)
        refine (C2 _).mono ?_
        rintro e w13 ⟨rfl, h13⟩
        have A13 := blk_on A12 h13
        have B13 := hide ((unhide B12).trans (h13.mono (unhide B12).size))
        clear h13 A12 B12
        go_wp2_with (refine ld26 rfl _ rfl _ rfl (dotF raw x y) A13 ?_)
        refine (C3 _).mono ?_
        rintro e w14 ⟨rfl, h14⟩
        have A14 := blk_on A13 h14
        have B14 := hide ((unhide B13).trans (h14.mono (unhide B13).size))
        clear h14 A13 B13
        go_wp2_with (refine ld26 rfl _ rfl _ rfl (dotF raw x y) A14 ?_)
        refine (C4 _).mono ?_
        rintro e w15 ⟨rfl, h15⟩
        have B15 := hide ((unhide B14).trans (h15.mono (unhide B14).size))
        clear h15 A14 B14 C1 C2 C3 C4
        obtain ⟨v1, v2, v3, v4⟩ := unhide HBs
        clear HBs PA PB PC PD OX OY PT HQ HQT
        have g1 : d ≤ R → b1 = decide (x + d ≤ 1073741824) := fun h => by rw [← v1, decide_eq_decide]; omega
        have g2 : d ≤ R → b2 = decide (d ≤ y) := fun h => by rw [← v2, decide_eq_decide]; omega
        have g3 : d ≤ R → b3 = decide (d ≤ x) := fun h => by rw [← v3, decide_eq_decide]; omega
        have g4 : d ≤ R → b4 = decide (y + d ≤ 1073741824) := fun h => by rw [← v4, decide_eq_decide]; omega
        have k1 : ¬ d ≤ R → b1 = false := fun h => by rw [← v1, decide_eq_false_iff_not]; omega
        have k2 : ¬ d ≤ R → b2 = false := fun h => by rw [← v2, decide_eq_false_iff_not]; omega
        have k3 : ¬ d ≤ R → b3 = false := fun h => by rw [← v3, decide_eq_false_iff_not]; omega
        have k4 : ¬ d ≤ R → b4 = false := fun h => by rw [← v4, decide_eq_false_iff_not]; omega
        have HG := hide (And.intro g1 (And.intro g2 (And.intro g3 (And.intro g4 (And.intro k1 (And.intro k2 (And.intro k3 k4)))))))
        clear v1 v2 v3 v4 g1 g2 g3 g4 k1 k2 k3 k4
        go_upto_region 32 with fail
        go_cut [38, 39, 207] (fun _ _ b wr => b = .bool false ∧ wr = w15)
        case first =>
          by_cases hfr : d ≤ R
          · have f1 := (unhide HG).1 hfr
            have f2 := (unhide HG).2.1 hfr
            by_cases ha : x + d ≤ 1073741824
            · by_cases hb : d ≤ y
              · rw [decide_eq_true ha] at f1
                rw [decide_eq_true hb] at f2
                have hb' : (0 : Int) ≤ y - d := by omega
                go_wp2_with fail
                go_meet
                exact ⟨rfl, rfl⟩
              · rw [decide_eq_true ha] at f1
                rw [decide_eq_false hb] at f2
                have hb' : ¬ (0 : Int) ≤ y - d := by omega
                go_wp2_with fail
                go_meet
                exact ⟨rfl, rfl⟩
            · by_cases hb : d ≤ y
              · rw [decide_eq_false ha] at f1
                rw [decide_eq_true hb] at f2
                have hb' : (0 : Int) ≤ y - d := by omega
                have ha' : decide (x + d ≤ 1073741824) = false := decide_eq_false ha
                go_wp2_with fail
                go_meet
                exact ⟨rfl, rfl⟩
              · rw [decide_eq_false ha] at f1
                rw [decide_eq_false hb] at f2
                have hb' : ¬ (0 : Int) ≤ y - d := by omega
                have ha' : decide (x + d ≤ 1073741824) = false := decide_eq_false ha
                go_wp2_with fail
                go_meet
                exact ⟨rfl, rfl⟩
          · have f1 := (unhide HG).2.2.2.2.1 (by omega)
            have f2 := (unhide HG).2.2.2.2.2.1 (by omega)
            go_wp2_with fail
            go_meet
            exact ⟨rfl, rfl⟩
        case rest =>
          obtain ⟨hc1, hc2⟩ := hcut
          subst hc1
          subst hc2
          by_cases hfr : d ≤ R
          · have f3 := (unhide HG).2.2.1 hfr
            have f4 := (unhide HG).2.2.2.1 hfr
            by_cases hc : d ≤ x
            · have hc' : (0 : Int) ≤ x - d := by omega
              rw [decide_eq_true hc] at f3
              by_cases hd : y + d ≤ 1073741824
              · rw [decide_eq_true hd] at f4
                go_wp2_with fail
                all_goals (go_ret; exact ⟨rfl, unhide B15⟩)
              · rw [decide_eq_false hd] at f4
                have hd' : decide (y + d ≤ 1073741824) = false := decide_eq_false hd
                go_wp2_with fail
                all_goals (go_ret; exact ⟨by first | rfl | exact ret_bool (by simp [hd]), unhide B15⟩)
            · have hc' : ¬ (0 : Int) ≤ x - d := by omega
              rw [decide_eq_false hc] at f3
              by_cases hd : y + d ≤ 1073741824
              · rw [decide_eq_true hd] at f4
                go_wp2_with fail
                all_goals (go_ret; exact ⟨by first | rfl | exact ret_bool (by simp [hd]), unhide B15⟩)
              · rw [decide_eq_false hd] at f4
                have hd' : decide (y + d ≤ 1073741824) = false := decide_eq_false hd
                go_wp2_with fail
                all_goals (go_ret; exact ⟨by first | rfl | exact ret_bool (by simp [hd]), unhide B15⟩)
          · have f3 := (unhide HG).2.2.2.2.2.2.1 (by omega)
            have f4 := (unhide HG).2.2.2.2.2.2.2 (by omega)
            go_wp2_with fail
            all_goals (go_ret; exact ⟨rfl, unhide B15⟩)
end Go.Proofs.Ytacjjjjbfjkohaa
