/-
  Store.Apply.
-/
import Derived.Test.YtppcpbhnpdjfpabStC
namespace Go.Proofs.Ytppcpbhnpdjfpab
open Go.RowKit

/-- The first k edits, done. -/
def AppK (ver : Int) (es : Nat → Nat → Int) (LS : List (Nat → Int)) : Nat → List (Nat → Int) → Prop
  | 0, LS' => LS' = LS
  | k + 1, LS' => ∃ LSm, AppK ver es LS k LSm ∧ EditR ver (es k) LSm 0 LS'
theorem AppK.len {ver : Int} {es : Nat → Nat → Int} {LS : List (Nat → Int)} : ∀ {k : Nat} {LS' : List (Nat → Int)}, AppK ver es LS k LS' → LS'.length ≤ LS.length + k
  | 0, _, h => by rw [show _ = LS from h]; omega
  | k + 1, _, h => by
    obtain ⟨LSm, h1, h2⟩ := h
    have := h1.len
    have := h2.len
    omega
theorem sz56 (f : Nat → Int) : (Try.prog.info? 56).map (·.size) = some (cc 25 f).size := by rw [cc_size]; kernel_rfl
theorem ldm56 {ops : Array Oper} {rest : List Oper} {o : Oper} {a : Act} {w : World} {Q : Exit → Act → World → Prop} (hw : Region.wanted o (yielded ops a.tmps) = true) (x : Operand) (ho : o.op = .load 56 x)
    (b off : Nat) (hx : a.eval x = .pointer (some ⟨b, off, none⟩)) (f : Nat → Int) (hc : w.rangeAt b off (cc 25 f).toList)
    (h : wpList Try.prog ops Q rest (a.put o.dst (.agg (cc 25 f))) w) : wpList Try.prog ops Q (o :: rest) a w := by
  unfold wpList
  rw [if_pos hw]
  exact Or.inl (wp_load_mid 56 x ho b off hx (cc 25 f).toList _ hc Try.underlying56 rfl (by rw [Array.length_toList]; exact sz56 f) h)
theorem run_ap60_nil (w : World) : (Builtin.append_ #[60, 60] 60 #[.slice none 0 0, .slice none 0 0]).run Try.prog w = .ok (.slice none 0 0) w := by kernel_rfl
/-- All lives, copied. -/
theorem run_ap60s (w : World) (B : Nat) (sl : Value) (LS : List (Nat → Int)) {Bs : Nat} (ho : OwnC 80 26 w Bs sl LS) (hl : LS.length ≤ 1000) (hB : B ≤ w.heap.size) :
    ∃ v' w', (Builtin.append_ #[60, 60] 60 #[.slice none 0 0, sl]).run Try.prog w = .ok v' w' ∧ OwnC 80 26 w' B v' LS ∧ w.grownBy w' none := by
  have h0 := ho
  rcases ho.2 with ⟨rfl, hn⟩ | ⟨g, cap, cur, rfl, _, hg, _⟩
  · obtain rfl : LS = [] := List.eq_nil_of_length_eq_zero hn
    exact ⟨_, _, run_ap60_nil w, ownC_nil _ _ _ _, World.grownBy.refl _ _⟩
  · obtain ⟨v', w', r1, r2, r3⟩ := run_ap60 w B (.slice none 0 0) [] LS (ownC_nil _ _ _ _) g 0 cap (fun i hi j hj => by
      have hlt : i * 26 + j < LS.length * 26 := by omega
      rw [Nat.zero_add, World.ownsRow.cellAt h0 (i * 26 + j) hlt, fl_at 26 LS i j hi hj]) (by simp; omega) hB
    exact ⟨v', w', r1, by simpa using r2, r3⟩

/-- How Apply ends. -/
def ApR (sb : Nat) (keep ver : Int) (pv : Value) (LS : List (Nat → Int)) (n : Nat) (es : Nat → Nat → Int) (w : World) (e : Ending) (w' : World) : Prop :=
  (n = 0 ∧ e = .returned (.tuple #[.int .i64 0, .int .i64 8]) ∧ Below w.heap.size w w') ∨ (0 < n ∧ 100 ≤ ver ∧ e = .returned (.tuple #[.int .i64 0, .int .i64 11]) ∧ Below w.heap.size w w') ∨
  (0 < n ∧ ver < 100 ∧ ∃ k LSk, AppK (ver + 1) es LS k LSk ∧
    ((k = n ∧ e = .returned (.tuple #[.int .i64 (ver + 1), .int .i64 0]) ∧ w.grownBy w' (some sb) ∧ ∃ sl', w'.heap[sb]? = some (.cells #[.int .i64 keep, .int .i64 (ver + 1), sl', pv] 62 (0, 0)) ∧ OwnC 80 26 w' w.heap.size sl' LSk) ∨
     (k < n ∧ ∃ r LS', EditR (ver + 1) (es k) LSk r LS' ∧ r ≠ 0 ∧ e = .returned (.tuple #[.int .i64 0, .int .i64 r]) ∧ Below w.heap.size w w')))

set_option maxHeartbeats 6400000 in
theorem Apply_any (sb : Nat) (keep ver : Int) (sl pv : Value) (LS : List (Nat → Int)) (v : Value) (n : Nat) (es : Nat → Nat → Int) (w : World) (hs : w.heap[sb]? = some (.cells #[.int .i64 keep, .int .i64 ver, sl, pv] 62 (0, 0)))
    (ho : OwnC 80 26 w (sb + 1) sl LS) (hl : LS.length ≤ 800) (hv : CsAt 25 w v n es) (hn : n ≤ 8) (hver : 0 ≤ ver ∧ ver ≤ 100) :
    Calls Try.prog 14 #[.pointer (some ⟨sb, 0, none⟩), v] w fun e w' => ApR sb keep ver pv LS n es w e w' := by
  obtain ⟨oa, cap, rfl, _, hc⟩ := hv
  have HC := hide hc
  have hlt : sb < w.heap.size := (Array.getElem?_eq_some_iff.1 hs).1
  have s1 := (blk_cells hs 1).trans (show _ = some (Value.int .i64 ver) from rfl)
  have HS := hide hs
  have HO := hide ho
  clear hs ho hc
  by_cases h0 : n = 0
  · have H : ApR sb keep ver pv LS n es w (.returned (.tuple #[.int .i64 0, .int .i64 8])) w := Or.inl ⟨h0, rfl, Below.refl _ _⟩
    have HH := hide H
    subst h0
    clear H
    go_enter Try.func14, Try.ntmps14
    go_wp2_with fail
    go_ret2
    exact unhide HH
  · have h1 : ¬ (n : Int) < 1 := by omega
    have h8 : ¬ (8 : Int) < n := by omega
    by_cases h100 : 100 ≤ ver
    · have HH : Hid (ApR sb keep ver pv LS n es w (.returned (.tuple #[.int .i64 0, .int .i64 11])) w) := Or.inr (Or.inl ⟨by omega, h100, rfl, Below.refl _ _⟩)
      go_enter Try.func14, Try.ntmps14
      go_wp2_with fail
      go_ret2
      exact unhide HH
    · obtain ⟨V, hV⟩ : ∃ V, ver + 1 = V := ⟨_, rfl⟩
      have hVr : 1 ≤ V ∧ V ≤ 100 := by omega
      have hw : IntKind.i64.wrap (ver + 1) = V := by rw [hV]; exact i64_in _ (by omega)
      have hw' : wrap64 (ver + 1) = V := by rw [hV]; exact IntWalk.wrap64_in _ ⟨by omega, by omega⟩
      have HVE := hide hV
      clear hV
      have hvl : ¬ (100 : Int) ≤ ver := by omega
      go_enter Try.func14, Try.ntmps14
      go_wp2_with fail
      have hA := heap_alloc_new w (.cells #[.int .i64 V, .slice none 0 0] 76 (0, 0))
      have hB := below_one w (.cells #[.int .i64 V, .slice none 0 0] 76)
      have hs2 := blk_on (unhide HS) hB
      have ho2 := (unhide HO).on hB
      refine wp_region_held (S := fun w' => w'.heap[sb]? = some (.cells #[.int .i64 keep, .int .i64 ver, sl, pv] 62 (0, 0))) (by kernel_rfl) ?_
      change wpAnyH _ _ _ _ _ _ _ _ (World.drew _)
      have hS : (World.drew (w.alloc (.cells #[.int .i64 V, .slice none 0 0] 76))).heap[sb]? = some (.cells #[.int .i64 keep, .int .i64 ver, sl, pv] 62 (0, 0)) := hs2
      have hk : (World.drew (w.alloc (.cells #[.int .i64 V, .slice none 0 0] 76))).heap[w.heap.size]? = some (.cells #[.int .i64 V, .slice none 0 0] 76 (0, 0)) := hA
      have ho3 : OwnC 80 26 (World.drew (w.alloc (.cells #[.int .i64 V, .slice none 0 0] 76))) (sb + 1) sl LS := ho2
      have hB3 : Below w.heap.size w (World.drew (w.alloc (.cells #[.int .i64 V, .slice none 0 0] 76))) := Below.drew hB
      have hz3 : (World.drew (w.alloc (.cells #[.int .i64 V, .slice none 0 0] 76))).heap.size = w.heap.size + 1 := by simp [World.drew]
      generalize World.drew (w.alloc (.cells #[.int .i64 V, .slice none 0 0] 76)) = w3 at hS hk ho3 hB3 hz3 ⊢
      clear hA hB hs2 ho2
      obtain ⟨k0, k1⟩ := dr_cells hk
      obtain ⟨v4, w4, hr4, ho4, hg4⟩ := run_ap60s w3 (w.heap.size + 1) sl LS ho3 (by omega) (by omega)
      have hS4 : w4.heap[sb]? = some (.cells #[.int .i64 keep, .int .i64 ver, sl, pv] 62 (0, 0)) := (hg4.block sb (by omega) (by simp)).trans hS
      have hk4 : w4.heap[w.heap.size]? = some (.cells #[.int .i64 V, .slice none 0 0] 76 (0, 0)) := (hg4.block w.heap.size (by omega) (by simp)).trans hk
      have hB4 := hB3.grown hg4 (by omega) (fun k hk => by cases hk)
      refine t_take 0 rfl (.pointer (some ⟨w.heap.size, 1, none⟩)) (by kernel_rfl) (by kernel_rfl) (by kernel_rfl) (fun _ _ _ h => h) rfl (fun w' hw' => by simp [go_sem]) hS ?_
      simp only [Act.put, List.setIfInBounds_toArray, List.set_cons_succ, List.set_cons_zero]
      refine t_take 2 rfl (.pointer (some ⟨sb, 0, none⟩)) (by kernel_rfl) (by kernel_rfl) (by kernel_rfl) (fun _ _ _ h => h) rfl (fun w' hw' => by simp [go_sem]) hS ?_
      simp only [Act.put, List.setIfInBounds_toArray, List.set_cons_succ, List.set_cons_zero]
      refine t_take 3 rfl (.pointer (some ⟨sb, 0, none⟩)) (by kernel_rfl) (by kernel_rfl) (by kernel_rfl) (fun _ _ _ h => h) rfl (fun w' hw' => by simp [go_sem]) hS ?_
      simp only [Act.put, List.setIfInBounds_toArray, List.set_cons_succ, List.set_cons_zero]
      refine t_take 4 rfl (.pointer (some ⟨sb, 2, none⟩)) (by kernel_rfl) (by kernel_rfl) (by kernel_rfl) (fun _ _ _ h => h) rfl (fun w' hw' => by simp [go_sem]) hS ?_
      simp only [Act.put, List.setIfInBounds_toArray, List.set_cons_succ, List.set_cons_zero]
      refine t_take 5 rfl (sl) (by kernel_rfl) (by kernel_rfl) (by kernel_rfl) (fun _ _ _ h => h) rfl (fun w' hw' => by simp [go_sem, (blk_cells hw' 2).trans (show _ = some sl from rfl)]) hS ?_
      simp only [Act.put, List.setIfInBounds_toArray, List.set_cons_succ, List.set_cons_zero]
      refine wpAnyH_all (rs := [1]) (by kernel_rfl) (by simp) ?_
      intro i hi
      simp only [List.mem_singleton] at hi
      subst hi
      refine t_op 1 rfl rfl (.slice none 0 0) w3 (by simp [go_sem, k1]) hS ?_
      simp only [Act.put, List.setIfInBounds_toArray, List.set_cons_succ, List.set_cons_zero]
      refine wpAnyH_all (rs := [6]) (by kernel_rfl) (by simp) ?_
      intro i hi
      simp only [List.mem_singleton] at hi
      subst hi
      refine t_op 6 rfl rfl v4 w4 (ex_ap60 hr4 _ _ _ _ rfl rfl rfl rfl) hS4 ?_
      simp only [Act.put, List.setIfInBounds_toArray, List.set_cons_succ, List.set_cons_zero]
      have hS := hS4
      refine t_take 7 rfl (.pointer (some ⟨w.heap.size, 1, none⟩)) (by kernel_rfl) (by kernel_rfl) (by kernel_rfl) (fun _ _ _ h => h) rfl (fun w' hw' => by simp [go_sem]) hS ?_
      simp only [Act.put, List.setIfInBounds_toArray, List.set_cons_succ, List.set_cons_zero]
      refine wpAnyH_all (rs := [8]) (by kernel_rfl) (by simp) ?_
      intro i hi
      simp only [List.mem_singleton] at hi
      subst hi
      have hS5 := (Below.heap_setCell w4 ⟨w.heap.size, 1, none⟩ v4 sb (by simp; omega)).trans hS4
      have hD5 : Dr (w4.setCell ⟨w.heap.size, 1, none⟩ v4) w.heap.size V LS v4 := ⟨blk_set hk4 v4, ho4.same (fun g hg => Below.heap_setCell _ _ _ _ (by have := (ho4.lt g hg).1; simp; omega))⟩
      have hB5 := hB4.setCell (p := ⟨w.heap.size, 1, none⟩) (Nat.le_refl _) v4
      refine t_skip 8 rfl rfl (w4.setCell ⟨w.heap.size, 1, none⟩ v4) (run_st60 _ _ _ _ rfl w.heap.size v4 rfl rfl V hk4 _ ho4) hS5 ?_
      simp only [Act.put]
      refine wpAnyH_done (by kernel_rfl) ?_ _
      have HD5 := hide hD5
      have HB5 := hide hB5
      clear hS hS4 hk4 hB4 hS5 hD5 hB5 hr4 ho4 hg4 hk k0 k1 ho3 hB3 hz3 hw hw' h1 h8 h100
      go_wp2_with fail
      go_loopw [7, 8] (fun i _ wr => ∃ (k : Nat) (LSk : List (Nat → Int)) (lv : Value), k ≤ n ∧ i = .int .i64 k ∧ Hid (AppK V es LS k LSk) ∧ Hid (Dr wr w.heap.size V LSk lv) ∧ Below w.heap.size w wr) (fun i _ _ => n - (intOf i).toNat)
      case atStart => exact ⟨0, LS, v4, by omega, rfl, hide rfl, HD5, unhide HB5⟩
      case round =>
        obtain ⟨k, LSk, lv, hkn, rfl, hA, hD, hb⟩ := hrel
        clear s1
        by_cases hlk : k < n
        · have hk8 : (k : Int) < n := by omega
          obtain ⟨b, off, rfl, hbl, hc0⟩ := unhide HC (by omega)
          have hrg := cs_rng (fun i hi j hj => (hb.cell (p := ⟨b, off + i * 25 + j, none⟩) hbl).trans (hc0 i hi j hj)) hlk
          have EA := edit_any w.heap.size V lv LSk (es k) wr (unhide hD) (by have := (unhide hA).len; omega)
          have HBr := hide hb
          have HEA := hide EA
          clear hc0 hb EA
          go_wp2_with (refine ldm56 rfl _ rfl b (off + k * 25) rfl (es k) hrg ?_)
          refine (unhide HEA).mono ?_
          rintro en w6 ⟨r, LS6, lv6, rfl, hE, hD6, hb6⟩
          have HE := hide hE
          have HD6 := hide hD6
          have HB6 := hide ((unhide HBr).trans hb6)
          clear hE hD6 hb6 hrg HEA
          by_cases hr : r = 0
          · subst hr
            go_wp2_with fail
            go_roundw
            case rel => exact ⟨k + 1, LS6, lv6, by omega, by go_num, hide ⟨LSk, unhide hA, unhide HE⟩, HD6, unhide HB6⟩
            case measure => simp [intOf]; omega
          · have HH : Hid (ApR sb keep ver pv LS n es w (.returned (.tuple #[.int .i64 0, .int .i64 r])) w6) := Or.inr (Or.inr ⟨by omega, by omega, k, LSk, by rw [unhide HVE]; exact unhide hA, Or.inr ⟨hlk, r, LS6, by rw [unhide HVE]; exact unhide HE, hr, rfl, unhide HB6⟩⟩)
            go_wp2_with fail
            go_ret2
            exact unhide HH
        · have hkn : k = n := by omega
          subst hkn
          have hdk := (unhide hD).blk
          have hsr := (hb.block sb hlt).trans (unhide HS)
          obtain ⟨d0, d1⟩ := dr_cells hdk
          obtain ⟨oa2, n2, cap2, hlv⟩ : ∃ oa n cap, lv = .slice oa n cap := by
            rcases (unhide hD).own.2 with ⟨h, _⟩ | ⟨g, cap, cur, h, _⟩
            · exact ⟨_, _, _, h⟩
            · exact ⟨_, _, _, h⟩
          subst hlv
          have q1 := blk_set (i := 2) hsr (.slice oa2 n2 cap2)
          have q2 := blk_set (i := 1) q1 (.int .i64 V)
          have fz1 := frz_blk hsr
          have fz2 := frz_blk q1
          have ce1 := (blk_cells hsr 2).trans (show _ = some sl from rfl)
          have ce2 := (blk_cells q1 1).trans (show _ = some (Value.int .i64 ver) from rfl)
          have ce3 := (blk_cells q2 1).trans (show _ = some (Value.int .i64 V) from rfl)
          have d0' := (World.cell?_of_block (a := ⟨w.heap.size, 0, none⟩) (Below.heap_setCell wr ⟨sb, 2, none⟩ (.slice oa2 n2 cap2) w.heap.size (by simp; omega))).trans d0
          have hown : OwnC 80 26 ((wr.setCell ⟨sb, 2, none⟩ (.slice oa2 n2 cap2)).setCell ⟨sb, 1, none⟩ (.int .i64 V)) w.heap.size (.slice oa2 n2 cap2) LSk := ((unhide hD).own.same (fun g hg => (Below.heap_setCell _ _ _ _ (by have := ((unhide hD).own.lt g hg).1; simp; omega)).trans (Below.heap_setCell _ _ _ _ (by have := ((unhide hD).own.lt g hg).1; simp; omega)))).mono (by omega)
          have HH : Hid (ApR sb keep ver pv LS k es w (.returned (.tuple #[.int .i64 V, .int .i64 0])) ((wr.setCell ⟨sb, 2, none⟩ (.slice oa2 n2 cap2)).setCell ⟨sb, 1, none⟩ (.int .i64 V))) := Or.inr (Or.inr ⟨by omega, by omega, k, LSk, by rw [unhide HVE]; exact unhide hA, Or.inl ⟨rfl, by rw [unhide HVE], ⟨hb.os, hb.tape, hb.output, by simpa [World.setCell] using hb.size, fun q hq hne => (Below.heap_setCell _ _ _ _ (fun e => hne (by rw [e]))).trans ((Below.heap_setCell _ _ _ _ (fun e => hne (by rw [e]))).trans (hb.block q hq))⟩, _, by rw [unhide HVE]; exact q2, hown⟩⟩)
          clear hb hdk hsr hown q1 q2
          go_wp2_with fail
          go_ret2
          exact unhide HH
end Go.Proofs.Ytppcpbhnpdjfpab
