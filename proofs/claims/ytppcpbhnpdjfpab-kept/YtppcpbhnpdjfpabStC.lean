/-
  draft.put, draft.drop, draft.edit.
-/
import Derived.Test.YtppcpbhnpdjfpabStB
namespace Go.Proofs.Ytppcpbhnpdjfpab
open Go.RowKit

/-- The first life of the feature with the id that is there. -/
def Fst (LS : List (Nat → Int)) (id : Int) (i : Nat) : Prop := i < LS.length ∧ Lv (gf LS i) id ∧ ∀ j, j < i → ¬ Lv (gf LS j) id
def Non (LS : List (Nat → Int)) (id : Int) : Prop := ∀ i, i < LS.length → ¬ Lv (gf LS i) id
/-- A new life. -/
def lifeOf (f : Nat → Int) (ver : Int) : Nat → Int := fun j => if j < 24 then f j else if j = 24 then ver else 0
def PutR (ver : Int) (f : Nat → Int) (LS : List (Nat → Int)) (r : Int) (LS' : List (Nat → Int)) : Prop :=
  (right f = false ∧ r = 7 ∧ LS' = LS) ∨ (right f = true ∧ ((∃ i, Fst LS (f 0) i ∧ r = 0 ∧ LS' = setL LS i 25 ver ++ [lifeOf f ver]) ∨
    (Non LS (f 0) ∧ 40 ≤ cntL LS LS.length ∧ r = 11 ∧ LS' = LS) ∨ (Non LS (f 0) ∧ cntL LS LS.length < 40 ∧ r = 0 ∧ LS' = LS ++ [lifeOf f ver])))
def DropR (ver : Int) (id : Int) (LS : List (Nat → Int)) (r : Int) (LS' : List (Nat → Int)) : Prop :=
  (∃ i, Fst LS id i ∧ r = 0 ∧ LS' = setL LS i 25 ver) ∨ (Non LS id ∧ r = 10 ∧ LS' = LS)
def EditR (ver : Int) (e : Nat → Int) (LS : List (Nat → Int)) (r : Int) (LS' : List (Nat → Int)) : Prop :=
  (e 0 = 0 ∧ PutR ver (fun j => e (1 + j)) LS r LS') ∨ (e 0 = 1 ∧ DropR ver (e 1) LS r LS') ∨ (e 0 ≠ 0 ∧ e 0 ≠ 1 ∧ r = 9 ∧ LS' = LS)
theorem PutR.len {ver : Int} {f : Nat → Int} {LS LS' : List (Nat → Int)} {r : Int} (h : PutR ver f LS r LS') : LS'.length ≤ LS.length + 1 := by
  rcases h with ⟨_, _, rfl⟩ | ⟨_, ⟨i, _, _, rfl⟩ | ⟨_, _, _, rfl⟩ | ⟨_, _, _, rfl⟩⟩
  · omega
  · simp [setL_len]
  · omega
  · simp
theorem DropR.len {ver id : Int} {LS LS' : List (Nat → Int)} {r : Int} (h : DropR ver id LS r LS') : LS'.length ≤ LS.length + 1 := by
  rcases h with ⟨i, _, _, rfl⟩ | ⟨_, _, rfl⟩
  · simp [setL_len]
  · omega
theorem EditR.len {ver : Int} {e : Nat → Int} {LS LS' : List (Nat → Int)} {r : Int} (h : EditR ver e LS r LS') : LS'.length ≤ LS.length + 1 := by
  rcases h with ⟨_, h⟩ | ⟨_, h⟩ | ⟨_, _, _, rfl⟩
  · exact h.len
  · exact h.len
  · omega
/-- What a draft has: its version, its lives. -/
structure Dr (w : World) (db : Nat) (ver : Int) (LS : List (Nat → Int)) (lv : Value) : Prop where
  blk : w.heap[db]? = some (.cells #[.int .i64 ver, lv] 76 (0, 0))
  own : OwnC 80 26 w (db + 1) lv LS
theorem Dr.lt {w : World} {db : Nat} {ver : Int} {LS : List (Nat → Int)} {lv : Value} (h : Dr w db ver LS lv) : db < w.heap.size := (Array.getElem?_eq_some_iff.1 h.blk).1
theorem Dr.on {w w' : World} {db : Nat} {ver : Int} {LS : List (Nat → Int)} {lv : Value} (h : Dr w db ver LS lv) (hb : Below w.heap.size w w') : Dr w' db ver LS lv := ⟨blk_on h.blk hb, h.own.on hb⟩

set_option maxHeartbeats 1600000 in
theorem drop_any (db : Nat) (ver : Int) (lv : Value) (LS : List (Nat → Int)) (id : Int) (w : World) (hd : Dr w db ver LS lv) (hl : LS.length ≤ 900) :
    Calls Try.prog 48 #[.pointer (some ⟨db, 0, none⟩), .int .i64 id] w fun e w' => ∃ r LS' lv', e = .returned (.int .i64 r) ∧ DropR ver id LS r LS' ∧ Dr w' db ver LS' lv' ∧ Below db w w' := by
  have E := end_any db (db + 1) ver lv LS id w hd.blk hd.own (by omega)
  have HD := hide hd
  clear hd
  go_enter Try.func48, Try.ntmps48
  go_wp2_with fail
  refine E.mono ?_
  rintro e w1 (⟨rfl, rfl, hno⟩ | ⟨i, hi, hlv, hfst, rfl, ho, hg⟩)
  · have HN := hide hno
    clear hno E
    go_wp2_with fail
    go_ret
    exact ⟨_, _, _, rfl, Or.inr ⟨unhide HN, rfl, rfl⟩, unhide HD, Below.refl _ _⟩
  · have HF := hide (And.intro hi (And.intro hlv hfst))
    have HO := hide ho
    have hb1 := (Below.refl db w).grown hg (Nat.le_of_lt (unhide HD).lt) (fun k hk => by have := ((unhide HD).own.lt k hk).1; omega)
    have hblk : w1.heap[db]? = some (.cells #[.int .i64 ver, lv] 76 (0, 0)) := (hg.block db (unhide HD).lt (fun e => by have := ((unhide HD).own.lt db e.symm).1; omega)).trans (unhide HD).blk
    have HB := hide hb1
    have HK := hide hblk
    clear E hi hlv hfst ho hg hb1 hblk
    go_wp2_with fail
    go_ret
    exact ⟨_, _, _, rfl, Or.inl ⟨i, unhide HF, rfl, rfl⟩, ⟨unhide HK, unhide HO⟩, unhide HB⟩

theorem built80 (f : Nat → Int) (ver : Int) : Try.prog.built 80 [(0, .agg (fc f)), (1, .int .i64 ver)] = some (cc 26 (lifeOf f ver)) := by kernel_rfl
theorem run_build80 (f : Nat → Int) (ver : Int) (A : Act) (o : Oper) (x y : Operand) (ho : o.op = .build 80 #[(0, x), (1, y)]) (hx : A.eval x = .agg (fc f)) (hy : A.eval y = .int .i64 ver) (w : World) :
    (execOp A.eval o).run Try.prog w = .ok (.value (.agg (cc 26 (lifeOf f ver)))) w := by
  have hb := run_build (P := Try.prog) w 80 #[(0, .agg (fc f)), (1, .int .i64 ver)] (cc 26 (lifeOf f ver)) (built80 f ver)
  unfold execOp
  simp [ho, hx, hy, hb]
theorem run_bs60 (ev : Operand → Value) (o : Oper) (x : Operand) (ho : o.op = .buildSlice 60 1 #[(0, x)]) (f : Nat → Int) (hx : ev x = .agg (cc 26 f)) (w : World) : (execOp ev o).run Try.prog w = .ok (.value (.slice (some ⟨w.heap.size, 0, none⟩) 1 1)) (w.alloc (.cells (cc 26 f) 80)) := by
  unfold execOp
  simp only [ho]
  simp only [List.map_toArray, List.map_cons, List.map_nil, hx]
  kernel_rfl
theorem Try.info80 : (Try.prog.info? 80).map (fun i => (i.zero, i.size, i.bytes)) = some (some (.agg (cc 26 zf)), 26, 208) := by kernel_rfl
/-- Lives are appended: where they lie then. -/
theorem run_ap60 (w : World) (B : Nat) (v : Value) (l news : List (Nat → Int)) (hown : OwnC 80 26 w B v l) (b off c : Nat) (hnews : ∀ i, i < news.length → ∀ j, j < 26 → w.cell? ⟨b, off + i * 26 + j, none⟩ = some (.int .i64 (gf news i j)))
    (hlen : l.length + news.length ≤ 10000) (hB : B ≤ w.heap.size) :
    ∃ v' w', (Builtin.append_ #[60, 60] 60 #[v, .slice (some ⟨b, off, none⟩) news.length c]).run Try.prog w = .ok v' w' ∧ OwnC 80 26 w' B v' (l ++ news) ∧ w.grownBy w' v.ownBlock := by
  obtain ⟨i0, hi, hz0, hz1, hz2⟩ := info_parts Try.info80
  obtain ⟨v', w', hrun, r1, r2, _⟩ := run_append_own (P := Try.prog) w B 60 60 80 i0 (.agg (cc 26 zf)) 26 208 Try.underlying60 hi hz0 hz1 hz2 (cc_size 26 zf) (by decide) v l.length (fl 26 l) hown ⟨b, off, none⟩ news.length c (fl 26 news) (fl_len 26 news)
    (fun j u hj => by
      have hlt : j < news.length * 26 := by
        have := (List.getElem?_eq_some_iff.1 hj).1
        rwa [fl_len] at this
      have h1 : j / 26 < news.length := by omega
      have e : j / 26 * 26 + j % 26 = j := by omega
      rw [← e, fl_at 26 news _ _ h1 (by omega)] at hj
      rw [Addr.add_mid, ← Option.some.inj hj, show off + j = off + j / 26 * 26 + j % 26 by omega]
      exact hnews _ h1 _ (by omega))
    (fl_one 26 news) (by unfold maxLen; omega) (by omega) hB
  refine ⟨v', w', hrun, ?_, r2⟩
  unfold OwnC
  rw [fl_app]
  simpa using r1
theorem ex_ap60 {w w' : World} {v x' v' : Value} (hr : (Builtin.append_ #[60, 60] 60 #[v, x']).run Try.prog w = .ok v' w') (a : Act) (o : Oper) (s x : Operand) (ho : o.op = .call { callee := .builtin .append, args := #[s, x], argTypes := #[60, 60] }) (ht : o.type = 60) (hs : a.eval s = v) (hx : a.eval x = x') : (execOp a.eval o).run Try.prog w = .ok (.value v') w' := by
  unfold execOp
  simp only [ho, resolve, invoke, builtin]
  simp [hs, hx, ht, hr, Result.andThen]
theorem t_skip {l : List Oper} {Q : Exit → Act → World → Prop} {S : World → Prop} {listed : Array Bool} {a : Act} {w : World} {fuel : Nat} {o : Oper} {rest : List Oper} (i : Nat) (hd : l.drop i = o :: rest) (hw : Region.wanted o (yielded l.toArray a.tmps) = true) (w1 : World) (h0 : (execOp a.eval o).run Try.prog w = .ok .skip w1) (hS : S w1)
    (h : wpAnyH Try.prog .any l.toArray Q S fuel (listed.setIfInBounds i true) (a.put o.dst undef) w1) :
    wpOp Try.prog l.toArray Q i (fun a' w' => S w' ∧ wpAnyH Try.prog .any l.toArray Q S fuel (listed.setIfInBounds i true) a' w') a w := by
  unfold wpOp
  simp only [at_drop hd]
  rw [if_pos hw]
  left
  unfold Oper.wp
  rw [h0]
  exact ⟨hS, h⟩

theorem blk_set {w : World} {g i : Nat} {cs : Array Value} {t : TypeId} (h : w.heap[g]? = some (.cells cs t (0, 0))) (v : Value) : (w.setCell ⟨g, i, none⟩ v).heap[g]? = some (.cells (cs.setIfInBounds i v) t (0, 0)) := by
  simp [World.setCell, Array.getElem?_modify, h]
/-- Single operations, run. -/
theorem run_ld54 (ev : Operand → Value) (o : Oper) (x : Operand) (ho : o.op = .load 54 x) (g : Nat) (hx : ev x = .pointer (some ⟨g, 0, none⟩)) (f : Nat → Int) {w : World} (hg : w.heap[g]? = some (.cells (fc f) 54 (0, 0))) : (execOp ev o).run Try.prog w = .ok (.value (.agg (fc f))) w := by
  have hr : w.rangeAt g 0 (fc f).toList := fun j v hv => by
    rw [blk_cells hg, Nat.zero_add]
    simpa using hv
  have h := run_loadVar_mid w g 0 54 (fc f).toList _ hr Try.underlying54 rfl (by rw [Array.length_toList]; exact szf f)
  unfold execOp
  simp only [ho, hx, Instr.loadAt, Instr.sureAddr, Sem.run_bind, Sem.run_pure, Result.andThen_ok, h]
theorem run_st60 (ev : Operand → Value) (o : Oper) (x y : Operand) (ho : o.op = .store 60 x y) (db : Nat) (v : Value) (hx : ev x = .pointer (some ⟨db, 1, none⟩)) (hy : ev y = v) (ver : Int) {lv : Value} {w : World} (hk : w.heap[db]? = some (.cells #[.int .i64 ver, lv] 76 (0, 0))) (l : List (Nat → Int)) {B : Nat} (hv : OwnC 80 26 w B v l) : (execOp ev o).run Try.prog w = .ok .skip (w.setCell ⟨db, 1, none⟩ v) := by
  have hc := (dr_cells hk).2
  have hf := frz_blk hk 1
  obtain ⟨oa, n, cap, rfl⟩ : ∃ oa n cap, v = .slice oa n cap := by
    rcases hv.2 with ⟨rfl, _⟩ | ⟨g, cap, cur, rfl, _⟩
    · exact ⟨_, _, _, rfl⟩
    · exact ⟨_, _, _, rfl⟩
  unfold execOp
  simp only [ho, hx, hy]
  simp [go_sem, hc, hf]

set_option maxHeartbeats 6400000 in
theorem put_any (db : Nat) (ver : Int) (lv : Value) (LS : List (Nat → Int)) (f : Nat → Int) (w : World) (hd : Dr w db ver LS lv) (hl : LS.length ≤ 900) :
    Calls Try.prog 47 #[.pointer (some ⟨db, 0, none⟩), .agg (fc f)] w fun e w' => ∃ r LS' lv', e = .returned (.int .i64 r) ∧ PutR ver f LS r LS' ∧ Dr w' db ver LS' lv' ∧ Below db w w' := by
  have hg0 := heap_alloc_new w (.cells (fc f) 54 (0, 0))
  have HD := hide hd
  clear hd
  cases hr : right f with
  | false =>
    go_enter Try.func47, Try.ntmps47
    go_wp2_with (refine ld26 rfl _ rfl _ rfl f hg0 ?_)
    refine (check_f hr _).mono ?_
    rintro e w1 ⟨rfl, hb1⟩
    have hb := (below_one w (.cells (fc f) 54)).trans (hb1.mono (by simp))
    have HDN := hide ((unhide HD).on hb)
    have HB := hide (hb.mono (Nat.le_of_lt (unhide HD).lt))
    clear hb1 hb
    go_wp2_with fail
    go_ret
    exact ⟨_, _, _, rfl, Or.inl ⟨hr, rfl, rfl⟩, unhide HDN, unhide HB⟩
  | true =>
    have f0 := fc_at f 0 (by decide)
    obtain ⟨I, hI⟩ : ∃ I, f 0 = I := ⟨_, rfl⟩
    rw [hI] at f0
    go_enter Try.func47, Try.ntmps47
    go_wp2_with (refine ld26 rfl _ rfl _ rfl f hg0 ?_)
    refine (check_t hr _).mono ?_
    rintro e w1 ⟨rfl, hb1⟩
    have hb := (below_one w (.cells (fc f) 54)).trans (hb1.mono (by simp))
    have hd1 := (unhide HD).on hb
    have HB1 := hide (hb.mono (Nat.le_of_lt (unhide HD).lt))
    have hg1 := blk_on hg0 hb1
    have hc1 := blk_cells hg1
    have hlw : db < w.heap.size := (unhide HD).lt
    clear hb1 hb hg0
    have E := end_any db (db + 1) ver lv LS I w1 hd1.blk hd1.own (by omega)
    have HD1 := hide hd1
    clear hd1
    go_wp2_with fail
    refine E.mono ?_
    rintro e w2 (⟨rfl, rfl, hno⟩ | ⟨i, hi, hlv, hfst, rfl, ho, hg⟩)
    · have HN := hide hno
      have C := count_any db (db + 1) ver lv LS w1 (unhide HD1).blk (unhide HD1).own (by omega)
      have hcl := cntL_le LS LS.length
      have HC := hide C
      clear hno E C
      obtain ⟨N, hN⟩ : ∃ N, cntL LS LS.length = N := ⟨_, rfl⟩
      rw [hN] at hcl
      by_cases h40 : 40 ≤ N
      · have h40' : (40 : Int) ≤ N := by omega
        go_wp2_with fail
        refine (unhide HC).mono ?_
        rintro e w9 ⟨rfl, rfl⟩
        rw [hN]
        go_wp2_with fail
        go_ret
        exact ⟨_, _, _, rfl, Or.inr ⟨hr, Or.inr (Or.inl ⟨by rw [hI]; exact unhide HN, by rw [hN]; exact h40, rfl, rfl⟩)⟩, unhide HD1, unhide HB1⟩
      · have h40' : ¬ (40 : Int) ≤ N := by omega
        go_wp2_with fail
        refine (unhide HC).mono ?_
        rintro e w9 ⟨rfl, rfl⟩
        rw [hN]
        go_wp2_with fail
        have HD2 := HD1
        have HB2 := HB1
        have hg2 := hg1
        have HL : Hid (LS.length ≤ 900) := hl
        have HPR : Hid (PutR ver f LS 0 (LS ++ [lifeOf f ver])) := Or.inr ⟨hr, Or.inr (Or.inr ⟨by rw [hI]; exact unhide HN, by rw [hN]; omega, rfl, rfl⟩)⟩
        clear hg1 hc1 h40 h40' hcl hN HC HN
        have HAP : Hid (lv.ownBlock ≠ some w.heap.size) := fun e => by have := ((unhide HD).own.lt _ e).2; omega
        have hblk := (unhide HD2).blk
        obtain ⟨dc0, dc1⟩ := dr_cells hblk
        refine wp_region_held (S := fun w' => w'.heap[w.heap.size]? = some (.cells (fc f) 54 (0, 0)) ∧ w'.cell? ⟨db, 0, none⟩ = some (.int .i64 ver)) (by kernel_rfl) ?_
        change wpAnyH _ _ _ _ _ _ _ _ (World.drew _)
        have hS : (World.drew w1).heap[w.heap.size]? = some (.cells (fc f) 54 (0, 0)) ∧ (World.drew w1).cell? ⟨db, 0, none⟩ = some (.int .i64 ver) := ⟨hg2, dc0⟩
        have hD3 : Dr (World.drew w1) db ver (LS) lv := ⟨hblk, (unhide HD2).own⟩
        have hB3 : Below db w (World.drew w1) := Below.drew (unhide HB2)
        have hC3 : (World.drew w1).cell? ⟨db, 1, none⟩ = some lv := dc1
        generalize World.drew w1 = w5 at hS hD3 hB3 hC3 ⊢
        clear hblk dc0 dc1 HD2 HB2 hg2
        have hl5 : db + 1 ≤ w5.heap.size := hD3.lt
        have hA6 := heap_alloc_new w5 (.cells (cc 26 (lifeOf f ver)) 80 (0, 0))
        have hS6 : (w5.alloc (.cells (cc 26 (lifeOf f ver)) 80)).heap[w.heap.size]? = some (.cells (fc f) 54 (0, 0)) ∧ (w5.alloc (.cells (cc 26 (lifeOf f ver)) 80)).cell? ⟨db, 0, none⟩ = some (.int .i64 ver) := ⟨(Below.heap_alloc _ _ _ (Array.getElem?_eq_some_iff.1 hS.1).1).trans hS.1, (World.cell?_of_block (Below.heap_alloc _ _ _ hD3.lt)).trans hS.2⟩
        have hC6 : (w5.alloc (.cells (cc 26 (lifeOf f ver)) 80)).cell? ⟨db, 1, none⟩ = some lv := (World.cell?_of_block (Below.heap_alloc _ _ _ hD3.lt)).trans hC3
        have hO6 := hD3.own.alloc (.cells (cc 26 (lifeOf f ver)) 80)
        have hK6 := (Below.heap_alloc w5 (.cells (cc 26 (lifeOf f ver)) 80) db hD3.lt).trans hD3.blk
        have hB6 := hB3.alloc (by omega) (.cells (cc 26 (lifeOf f ver)) 80)
        have APP := run_ap60 (w5.alloc (.cells (cc 26 (lifeOf f ver)) 80)) (db + 1) lv (LS) [lifeOf f ver] hO6 w5.heap.size 0 1 (fun i hi j hj => by
          obtain rfl : i = 0 := by simp at hi; omega
          rw [blk_cells hA6]
          simpa [gf] using cc_at 26 (lifeOf f ver) j hj) (by have := unhide HL; simp; omega) (by simp; omega)
        refine t_take 0 rfl (.pointer (some ⟨db, 0, none⟩)) (by kernel_rfl) (by kernel_rfl) (by kernel_rfl) (fun _ _ _ h => h) rfl (fun w' hw' => by simp [go_sem]) hS ?_
        simp only [Act.put, List.setIfInBounds_toArray, List.set_cons_succ, List.set_cons_zero]
        refine t_take 1 rfl (.pointer (some ⟨db, 0, none⟩)) (by kernel_rfl) (by kernel_rfl) (by kernel_rfl) (fun _ _ _ h => h) rfl (fun w' hw' => by simp [go_sem]) hS ?_
        simp only [Act.put, List.setIfInBounds_toArray, List.set_cons_succ, List.set_cons_zero]
        refine t_take 2 rfl (.pointer (some ⟨db, 0, none⟩)) (by kernel_rfl) (by kernel_rfl) (by kernel_rfl) (fun _ _ _ h => h) rfl (fun w' hw' => by simp [go_sem]) hS ?_
        simp only [Act.put, List.setIfInBounds_toArray, List.set_cons_succ, List.set_cons_zero]
        refine t_take 3 rfl (.pointer (some ⟨db, 1, none⟩)) (by kernel_rfl) (by kernel_rfl) (by kernel_rfl) (fun _ _ _ h => h) rfl (fun w' hw' => by simp [go_sem]) hS ?_
        simp only [Act.put, List.setIfInBounds_toArray, List.set_cons_succ, List.set_cons_zero]
        refine t_take 5 rfl (.agg (fc f)) (by kernel_rfl) (by kernel_rfl) (by kernel_rfl) (fun _ _ _ h => h) rfl (fun w' hw' => run_ld54 _ _ _ rfl _ rfl f hw'.1) hS ?_
        simp only [Act.put, List.setIfInBounds_toArray, List.set_cons_succ, List.set_cons_zero]
        refine t_take 6 rfl (.pointer (some ⟨db, 0, none⟩)) (by kernel_rfl) (by kernel_rfl) (by kernel_rfl) (fun _ _ _ h => h) rfl (fun w' hw' => by simp [go_sem]) hS ?_
        simp only [Act.put, List.setIfInBounds_toArray, List.set_cons_succ, List.set_cons_zero]
        refine t_take 7 rfl (.pointer (some ⟨db, 0, none⟩)) (by kernel_rfl) (by kernel_rfl) (by kernel_rfl) (fun _ _ _ h => h) rfl (fun w' hw' => by simp [go_sem]) hS ?_
        simp only [Act.put, List.setIfInBounds_toArray, List.set_cons_succ, List.set_cons_zero]
        refine t_take 8 rfl (.pointer (some ⟨db, 0, none⟩)) (by kernel_rfl) (by kernel_rfl) (by kernel_rfl) (fun _ _ _ h => h) rfl (fun w' hw' => by simp [go_sem]) hS ?_
        simp only [Act.put, List.setIfInBounds_toArray, List.set_cons_succ, List.set_cons_zero]
        refine t_take 9 rfl (.int .i64 ver) (by kernel_rfl) (by kernel_rfl) (by kernel_rfl) (fun _ _ _ h => h) rfl (fun w' hw' => by simp [go_sem, hw'.2]) hS ?_
        simp only [Act.put, List.setIfInBounds_toArray, List.set_cons_succ, List.set_cons_zero]
        refine t_take 10 rfl (.agg (cc 26 (lifeOf f ver))) (by kernel_rfl) (by kernel_rfl) (by kernel_rfl) (fun _ _ _ h => h) rfl (fun w' hw' => run_build80 f ver _ _ _ _ rfl rfl rfl w') hS ?_
        simp only [Act.put, List.setIfInBounds_toArray, List.set_cons_succ, List.set_cons_zero]
        refine wpAnyH_all (rs := [4, 11]) (by kernel_rfl) (by simp) ?_
        intro i hi
        simp only [List.mem_cons, List.not_mem_nil, or_false] at hi
        rcases hi with rfl | rfl
        · refine t_op 4 rfl rfl lv w5 (by simp [go_sem, hC3]) hS ?_
          simp only [Act.put, List.setIfInBounds_toArray, List.set_cons_succ, List.set_cons_zero]
          refine wpAnyH_all (rs := [11]) (by kernel_rfl) (by simp) ?_
          intro i hi
          simp only [List.mem_singleton] at hi
          subst hi
          refine t_op 11 rfl rfl (.slice (some ⟨w5.heap.size, 0, none⟩) 1 1) _ (run_bs60 _ _ _ rfl (lifeOf f ver) rfl w5) hS6 ?_
          simp only [Act.put, List.setIfInBounds_toArray, List.set_cons_succ, List.set_cons_zero]
          obtain ⟨v7, w7, hr7, ho7, hg7⟩ := APP
          have hk7 : w7.heap[db]? = some (.cells #[.int .i64 ver, lv] 76 (0, 0)) := (hg7.block db (by simp; omega) (fun e => by have := (hO6.lt db e.symm).1; omega)).trans hK6
          have hf7 : w7.heap[w.heap.size]? = some (.cells (fc f) 54 (0, 0)) := (hg7.block w.heap.size (Array.getElem?_eq_some_iff.1 hS6.1).1 (fun e => unhide HAP e.symm)).trans hS6.1
          have hS7 : w7.heap[w.heap.size]? = some (.cells (fc f) 54 (0, 0)) ∧ w7.cell? ⟨db, 0, none⟩ = some (.int .i64 ver) := ⟨hf7, (dr_cells hk7).1⟩
          have hB7 := hB6.grown hg7 (by simp; omega) (fun k hk => by have := (hO6.lt k hk).1; omega)
          refine wpAnyH_all (rs := [12]) (by kernel_rfl) (by simp) ?_
          intro i hi
          simp only [List.mem_singleton] at hi
          subst hi
          refine t_op 12 rfl rfl v7 w7 (ex_ap60 hr7 _ _ _ _ rfl rfl rfl rfl) hS7 ?_
          simp only [Act.put, List.setIfInBounds_toArray, List.set_cons_succ, List.set_cons_zero]
          have hS := hS7
          refine t_take 13 rfl (.pointer (some ⟨db, 0, none⟩)) (by kernel_rfl) (by kernel_rfl) (by kernel_rfl) (fun _ _ _ h => h) rfl (fun w' hw' => by simp [go_sem]) hS ?_
          simp only [Act.put, List.setIfInBounds_toArray, List.set_cons_succ, List.set_cons_zero]
          refine t_take 14 rfl (.pointer (some ⟨db, 1, none⟩)) (by kernel_rfl) (by kernel_rfl) (by kernel_rfl) (fun _ _ _ h => h) rfl (fun w' hw' => by simp [go_sem]) hS ?_
          simp only [Act.put, List.setIfInBounds_toArray, List.set_cons_succ, List.set_cons_zero]
          refine wpAnyH_all (rs := [15]) (by kernel_rfl) (by simp) ?_
          intro i hi
          simp only [List.mem_singleton] at hi
          subst hi
          have hk8 : (w7.setCell ⟨db, 1, none⟩ v7).heap[db]? = some (.cells #[.int .i64 ver, v7] 76 (0, 0)) := blk_set hk7 v7
          have ho8 : OwnC 80 26 (w7.setCell ⟨db, 1, none⟩ v7) (db + 1) v7 (LS ++ [lifeOf f ver]) := ho7.same (fun g hg => Below.heap_setCell _ _ _ _ (by have := (ho7.lt g hg).1; simp; omega))
          have hB8 := hB7.setCell (p := ⟨db, 1, none⟩) (Nat.le_refl _) v7
          refine t_skip 15 rfl rfl (w7.setCell ⟨db, 1, none⟩ v7) (run_st60 _ _ _ _ rfl db v7 rfl rfl ver hk7 _ ho7) ⟨(Below.heap_setCell _ _ _ _ (by simp; omega)).trans hf7, (dr_cells hk8).1⟩ ?_
          simp only [Act.put]
          refine wpAnyH_done (by kernel_rfl) ?_ _
          have HF := hide (And.intro (Dr.mk hk8 ho8) hB8)
          clear hk8 ho8 hB8 hB7 hS hS7 hf7 hk7 hr7 ho7 hg7 hA6 hS6 hC6 hO6 hK6 hB6 hD3 hB3 hC3
          go_wp2_with fail
          go_ret
          exact ⟨_, _, _, rfl, unhide HPR, (unhide HF).1, (unhide HF).2⟩
        · refine t_op 11 rfl rfl (.slice (some ⟨w5.heap.size, 0, none⟩) 1 1) _ (run_bs60 _ _ _ rfl (lifeOf f ver) rfl w5) hS6 ?_
          simp only [Act.put, List.setIfInBounds_toArray, List.set_cons_succ, List.set_cons_zero]
          refine wpAnyH_all (rs := [4]) (by kernel_rfl) (by simp) ?_
          intro i hi
          simp only [List.mem_singleton] at hi
          subst hi
          refine t_op 4 rfl rfl lv (w5.alloc (.cells (cc 26 (lifeOf f ver)) 80)) (by simp [go_sem, hC6]) hS6 ?_
          simp only [Act.put, List.setIfInBounds_toArray, List.set_cons_succ, List.set_cons_zero]
          obtain ⟨v7, w7, hr7, ho7, hg7⟩ := APP
          have hk7 : w7.heap[db]? = some (.cells #[.int .i64 ver, lv] 76 (0, 0)) := (hg7.block db (by simp; omega) (fun e => by have := (hO6.lt db e.symm).1; omega)).trans hK6
          have hf7 : w7.heap[w.heap.size]? = some (.cells (fc f) 54 (0, 0)) := (hg7.block w.heap.size (Array.getElem?_eq_some_iff.1 hS6.1).1 (fun e => unhide HAP e.symm)).trans hS6.1
          have hS7 : w7.heap[w.heap.size]? = some (.cells (fc f) 54 (0, 0)) ∧ w7.cell? ⟨db, 0, none⟩ = some (.int .i64 ver) := ⟨hf7, (dr_cells hk7).1⟩
          have hB7 := hB6.grown hg7 (by simp; omega) (fun k hk => by have := (hO6.lt k hk).1; omega)
          refine wpAnyH_all (rs := [12]) (by kernel_rfl) (by simp) ?_
          intro i hi
          simp only [List.mem_singleton] at hi
          subst hi
          refine t_op 12 rfl rfl v7 w7 (ex_ap60 hr7 _ _ _ _ rfl rfl rfl rfl) hS7 ?_
          simp only [Act.put, List.setIfInBounds_toArray, List.set_cons_succ, List.set_cons_zero]
          have hS := hS7
          refine t_take 13 rfl (.pointer (some ⟨db, 0, none⟩)) (by kernel_rfl) (by kernel_rfl) (by kernel_rfl) (fun _ _ _ h => h) rfl (fun w' hw' => by simp [go_sem]) hS ?_
          simp only [Act.put, List.setIfInBounds_toArray, List.set_cons_succ, List.set_cons_zero]
          refine t_take 14 rfl (.pointer (some ⟨db, 1, none⟩)) (by kernel_rfl) (by kernel_rfl) (by kernel_rfl) (fun _ _ _ h => h) rfl (fun w' hw' => by simp [go_sem]) hS ?_
          simp only [Act.put, List.setIfInBounds_toArray, List.set_cons_succ, List.set_cons_zero]
          refine wpAnyH_all (rs := [15]) (by kernel_rfl) (by simp) ?_
          intro i hi
          simp only [List.mem_singleton] at hi
          subst hi
          have hk8 : (w7.setCell ⟨db, 1, none⟩ v7).heap[db]? = some (.cells #[.int .i64 ver, v7] 76 (0, 0)) := blk_set hk7 v7
          have ho8 : OwnC 80 26 (w7.setCell ⟨db, 1, none⟩ v7) (db + 1) v7 (LS ++ [lifeOf f ver]) := ho7.same (fun g hg => Below.heap_setCell _ _ _ _ (by have := (ho7.lt g hg).1; simp; omega))
          have hB8 := hB7.setCell (p := ⟨db, 1, none⟩) (Nat.le_refl _) v7
          refine t_skip 15 rfl rfl (w7.setCell ⟨db, 1, none⟩ v7) (run_st60 _ _ _ _ rfl db v7 rfl rfl ver hk7 _ ho7) ⟨(Below.heap_setCell _ _ _ _ (by simp; omega)).trans hf7, (dr_cells hk8).1⟩ ?_
          simp only [Act.put]
          refine wpAnyH_done (by kernel_rfl) ?_ _
          have HF := hide (And.intro (Dr.mk hk8 ho8) hB8)
          clear hk8 ho8 hB8 hB7 hS hS7 hf7 hk7 hr7 ho7 hg7 hA6 hS6 hC6 hO6 hK6 hB6 hD3 hB3 hC3
          go_wp2_with fail
          go_ret
          exact ⟨_, _, _, rfl, unhide HPR, (unhide HF).1, (unhide HF).2⟩
    · have hd2 : Dr w2 db ver (setL LS i 25 ver) lv := ⟨(hg.block db (unhide HD1).lt (fun e => by have := ((unhide HD1).own.lt db e.symm).1; omega)).trans (unhide HD1).blk, ho⟩
      have HAP : Hid (lv.ownBlock ≠ some w.heap.size) := fun e => by have := ((unhide HD).own.lt _ e).2; omega
      have hg2 : w2.heap[w.heap.size]? = some (.cells (fc f) 54 (0, 0)) := (hg.block w.heap.size (Array.getElem?_eq_some_iff.1 hg1).1 (fun e => unhide HAP e.symm)).trans hg1
      have HB2 := hide ((unhide HB1).grown hg (Nat.le_of_lt (unhide HD1).lt) (fun k hk => by have := ((unhide HD1).own.lt k hk).1; omega))
      have HD2 := hide hd2
      have HL : Hid (LS.length ≤ 900) := hl
      have HPR : Hid (PutR ver f LS 0 (setL LS i 25 ver ++ [lifeOf f ver])) := Or.inr ⟨hr, Or.inl ⟨i, by rw [hI]; exact ⟨hi, hlv, hfst⟩, rfl, rfl⟩⟩
      clear E hg hd2 ho hi hlv hfst hg1 hc1
      go_wp2_with fail
      have hblk := (unhide HD2).blk
      obtain ⟨dc0, dc1⟩ := dr_cells hblk
      refine wp_region_held (S := fun w' => w'.heap[w.heap.size]? = some (.cells (fc f) 54 (0, 0)) ∧ w'.cell? ⟨db, 0, none⟩ = some (.int .i64 ver)) (by kernel_rfl) ?_
      change wpAnyH _ _ _ _ _ _ _ _ (World.drew _)
      have hS : (World.drew w2).heap[w.heap.size]? = some (.cells (fc f) 54 (0, 0)) ∧ (World.drew w2).cell? ⟨db, 0, none⟩ = some (.int .i64 ver) := ⟨hg2, dc0⟩
      have hD3 : Dr (World.drew w2) db ver (setL LS i 25 ver) lv := ⟨hblk, (unhide HD2).own⟩
      have hB3 : Below db w (World.drew w2) := Below.drew (unhide HB2)
      have hC3 : (World.drew w2).cell? ⟨db, 1, none⟩ = some lv := dc1
      generalize World.drew w2 = w5 at hS hD3 hB3 hC3 ⊢
      clear hblk dc0 dc1 HD2 HB2 hg2
      have hl5 : db + 1 ≤ w5.heap.size := hD3.lt
      have hA6 := heap_alloc_new w5 (.cells (cc 26 (lifeOf f ver)) 80 (0, 0))
      have hS6 : (w5.alloc (.cells (cc 26 (lifeOf f ver)) 80)).heap[w.heap.size]? = some (.cells (fc f) 54 (0, 0)) ∧ (w5.alloc (.cells (cc 26 (lifeOf f ver)) 80)).cell? ⟨db, 0, none⟩ = some (.int .i64 ver) := ⟨(Below.heap_alloc _ _ _ (Array.getElem?_eq_some_iff.1 hS.1).1).trans hS.1, (World.cell?_of_block (Below.heap_alloc _ _ _ hD3.lt)).trans hS.2⟩
      have hC6 : (w5.alloc (.cells (cc 26 (lifeOf f ver)) 80)).cell? ⟨db, 1, none⟩ = some lv := (World.cell?_of_block (Below.heap_alloc _ _ _ hD3.lt)).trans hC3
      have hO6 := hD3.own.alloc (.cells (cc 26 (lifeOf f ver)) 80)
      have hK6 := (Below.heap_alloc w5 (.cells (cc 26 (lifeOf f ver)) 80) db hD3.lt).trans hD3.blk
      have hB6 := hB3.alloc (by omega) (.cells (cc 26 (lifeOf f ver)) 80)
      have APP := run_ap60 (w5.alloc (.cells (cc 26 (lifeOf f ver)) 80)) (db + 1) lv (setL LS i 25 ver) [lifeOf f ver] hO6 w5.heap.size 0 1 (fun i hi j hj => by
        obtain rfl : i = 0 := by simp at hi; omega
        rw [blk_cells hA6]
        simpa [gf] using cc_at 26 (lifeOf f ver) j hj) (by have := unhide HL; simp [setL_len]; omega) (by simp; omega)
      refine t_take 0 rfl (.pointer (some ⟨db, 0, none⟩)) (by kernel_rfl) (by kernel_rfl) (by kernel_rfl) (fun _ _ _ h => h) rfl (fun w' hw' => by simp [go_sem]) hS ?_
      simp only [Act.put, List.setIfInBounds_toArray, List.set_cons_succ, List.set_cons_zero]
      refine t_take 1 rfl (.pointer (some ⟨db, 0, none⟩)) (by kernel_rfl) (by kernel_rfl) (by kernel_rfl) (fun _ _ _ h => h) rfl (fun w' hw' => by simp [go_sem]) hS ?_
      simp only [Act.put, List.setIfInBounds_toArray, List.set_cons_succ, List.set_cons_zero]
      refine t_take 2 rfl (.pointer (some ⟨db, 0, none⟩)) (by kernel_rfl) (by kernel_rfl) (by kernel_rfl) (fun _ _ _ h => h) rfl (fun w' hw' => by simp [go_sem]) hS ?_
      simp only [Act.put, List.setIfInBounds_toArray, List.set_cons_succ, List.set_cons_zero]
      refine t_take 3 rfl (.pointer (some ⟨db, 1, none⟩)) (by kernel_rfl) (by kernel_rfl) (by kernel_rfl) (fun _ _ _ h => h) rfl (fun w' hw' => by simp [go_sem]) hS ?_
      simp only [Act.put, List.setIfInBounds_toArray, List.set_cons_succ, List.set_cons_zero]
      refine t_take 5 rfl (.agg (fc f)) (by kernel_rfl) (by kernel_rfl) (by kernel_rfl) (fun _ _ _ h => h) rfl (fun w' hw' => run_ld54 _ _ _ rfl _ rfl f hw'.1) hS ?_
      simp only [Act.put, List.setIfInBounds_toArray, List.set_cons_succ, List.set_cons_zero]
      refine t_take 6 rfl (.pointer (some ⟨db, 0, none⟩)) (by kernel_rfl) (by kernel_rfl) (by kernel_rfl) (fun _ _ _ h => h) rfl (fun w' hw' => by simp [go_sem]) hS ?_
      simp only [Act.put, List.setIfInBounds_toArray, List.set_cons_succ, List.set_cons_zero]
      refine t_take 7 rfl (.pointer (some ⟨db, 0, none⟩)) (by kernel_rfl) (by kernel_rfl) (by kernel_rfl) (fun _ _ _ h => h) rfl (fun w' hw' => by simp [go_sem]) hS ?_
      simp only [Act.put, List.setIfInBounds_toArray, List.set_cons_succ, List.set_cons_zero]
      refine t_take 8 rfl (.pointer (some ⟨db, 0, none⟩)) (by kernel_rfl) (by kernel_rfl) (by kernel_rfl) (fun _ _ _ h => h) rfl (fun w' hw' => by simp [go_sem]) hS ?_
      simp only [Act.put, List.setIfInBounds_toArray, List.set_cons_succ, List.set_cons_zero]
      refine t_take 9 rfl (.int .i64 ver) (by kernel_rfl) (by kernel_rfl) (by kernel_rfl) (fun _ _ _ h => h) rfl (fun w' hw' => by simp [go_sem, hw'.2]) hS ?_
      simp only [Act.put, List.setIfInBounds_toArray, List.set_cons_succ, List.set_cons_zero]
      refine t_take 10 rfl (.agg (cc 26 (lifeOf f ver))) (by kernel_rfl) (by kernel_rfl) (by kernel_rfl) (fun _ _ _ h => h) rfl (fun w' hw' => run_build80 f ver _ _ _ _ rfl rfl rfl w') hS ?_
      simp only [Act.put, List.setIfInBounds_toArray, List.set_cons_succ, List.set_cons_zero]
      refine wpAnyH_all (rs := [4, 11]) (by kernel_rfl) (by simp) ?_
      intro i hi
      simp only [List.mem_cons, List.not_mem_nil, or_false] at hi
      rcases hi with rfl | rfl
      · refine t_op 4 rfl rfl lv w5 (by simp [go_sem, hC3]) hS ?_
        simp only [Act.put, List.setIfInBounds_toArray, List.set_cons_succ, List.set_cons_zero]
        refine wpAnyH_all (rs := [11]) (by kernel_rfl) (by simp) ?_
        intro i hi
        simp only [List.mem_singleton] at hi
        subst hi
        refine t_op 11 rfl rfl (.slice (some ⟨w5.heap.size, 0, none⟩) 1 1) _ (run_bs60 _ _ _ rfl (lifeOf f ver) rfl w5) hS6 ?_
        simp only [Act.put, List.setIfInBounds_toArray, List.set_cons_succ, List.set_cons_zero]
        obtain ⟨v7, w7, hr7, ho7, hg7⟩ := APP
        have hk7 : w7.heap[db]? = some (.cells #[.int .i64 ver, lv] 76 (0, 0)) := (hg7.block db (by simp; omega) (fun e => by have := (hO6.lt db e.symm).1; omega)).trans hK6
        have hf7 : w7.heap[w.heap.size]? = some (.cells (fc f) 54 (0, 0)) := (hg7.block w.heap.size (Array.getElem?_eq_some_iff.1 hS6.1).1 (fun e => unhide HAP e.symm)).trans hS6.1
        have hS7 : w7.heap[w.heap.size]? = some (.cells (fc f) 54 (0, 0)) ∧ w7.cell? ⟨db, 0, none⟩ = some (.int .i64 ver) := ⟨hf7, (dr_cells hk7).1⟩
        have hB7 := hB6.grown hg7 (by simp; omega) (fun k hk => by have := (hO6.lt k hk).1; omega)
        refine wpAnyH_all (rs := [12]) (by kernel_rfl) (by simp) ?_
        intro i hi
        simp only [List.mem_singleton] at hi
        subst hi
        refine t_op 12 rfl rfl v7 w7 (ex_ap60 hr7 _ _ _ _ rfl rfl rfl rfl) hS7 ?_
        simp only [Act.put, List.setIfInBounds_toArray, List.set_cons_succ, List.set_cons_zero]
        have hS := hS7
        refine t_take 13 rfl (.pointer (some ⟨db, 0, none⟩)) (by kernel_rfl) (by kernel_rfl) (by kernel_rfl) (fun _ _ _ h => h) rfl (fun w' hw' => by simp [go_sem]) hS ?_
        simp only [Act.put, List.setIfInBounds_toArray, List.set_cons_succ, List.set_cons_zero]
        refine t_take 14 rfl (.pointer (some ⟨db, 1, none⟩)) (by kernel_rfl) (by kernel_rfl) (by kernel_rfl) (fun _ _ _ h => h) rfl (fun w' hw' => by simp [go_sem]) hS ?_
        simp only [Act.put, List.setIfInBounds_toArray, List.set_cons_succ, List.set_cons_zero]
        refine wpAnyH_all (rs := [15]) (by kernel_rfl) (by simp) ?_
        intro i hi
        simp only [List.mem_singleton] at hi
        subst hi
        have hk8 : (w7.setCell ⟨db, 1, none⟩ v7).heap[db]? = some (.cells #[.int .i64 ver, v7] 76 (0, 0)) := blk_set hk7 v7
        have ho8 : OwnC 80 26 (w7.setCell ⟨db, 1, none⟩ v7) (db + 1) v7 (setL LS i 25 ver ++ [lifeOf f ver]) := ho7.same (fun g hg => Below.heap_setCell _ _ _ _ (by have := (ho7.lt g hg).1; simp; omega))
        have hB8 := hB7.setCell (p := ⟨db, 1, none⟩) (Nat.le_refl _) v7
        refine t_skip 15 rfl rfl (w7.setCell ⟨db, 1, none⟩ v7) (run_st60 _ _ _ _ rfl db v7 rfl rfl ver hk7 _ ho7) ⟨(Below.heap_setCell _ _ _ _ (by simp; omega)).trans hf7, (dr_cells hk8).1⟩ ?_
        simp only [Act.put]
        refine wpAnyH_done (by kernel_rfl) ?_ _
        have HF := hide (And.intro (Dr.mk hk8 ho8) hB8)
        clear hk8 ho8 hB8 hB7 hS hS7 hf7 hk7 hr7 ho7 hg7 hA6 hS6 hC6 hO6 hK6 hB6 hD3 hB3 hC3
        go_wp2_with fail
        go_ret
        exact ⟨_, _, _, rfl, unhide HPR, (unhide HF).1, (unhide HF).2⟩
      · refine t_op 11 rfl rfl (.slice (some ⟨w5.heap.size, 0, none⟩) 1 1) _ (run_bs60 _ _ _ rfl (lifeOf f ver) rfl w5) hS6 ?_
        simp only [Act.put, List.setIfInBounds_toArray, List.set_cons_succ, List.set_cons_zero]
        refine wpAnyH_all (rs := [4]) (by kernel_rfl) (by simp) ?_
        intro i hi
        simp only [List.mem_singleton] at hi
        subst hi
        refine t_op 4 rfl rfl lv (w5.alloc (.cells (cc 26 (lifeOf f ver)) 80)) (by simp [go_sem, hC6]) hS6 ?_
        simp only [Act.put, List.setIfInBounds_toArray, List.set_cons_succ, List.set_cons_zero]
        obtain ⟨v7, w7, hr7, ho7, hg7⟩ := APP
        have hk7 : w7.heap[db]? = some (.cells #[.int .i64 ver, lv] 76 (0, 0)) := (hg7.block db (by simp; omega) (fun e => by have := (hO6.lt db e.symm).1; omega)).trans hK6
        have hf7 : w7.heap[w.heap.size]? = some (.cells (fc f) 54 (0, 0)) := (hg7.block w.heap.size (Array.getElem?_eq_some_iff.1 hS6.1).1 (fun e => unhide HAP e.symm)).trans hS6.1
        have hS7 : w7.heap[w.heap.size]? = some (.cells (fc f) 54 (0, 0)) ∧ w7.cell? ⟨db, 0, none⟩ = some (.int .i64 ver) := ⟨hf7, (dr_cells hk7).1⟩
        have hB7 := hB6.grown hg7 (by simp; omega) (fun k hk => by have := (hO6.lt k hk).1; omega)
        refine wpAnyH_all (rs := [12]) (by kernel_rfl) (by simp) ?_
        intro i hi
        simp only [List.mem_singleton] at hi
        subst hi
        refine t_op 12 rfl rfl v7 w7 (ex_ap60 hr7 _ _ _ _ rfl rfl rfl rfl) hS7 ?_
        simp only [Act.put, List.setIfInBounds_toArray, List.set_cons_succ, List.set_cons_zero]
        have hS := hS7
        refine t_take 13 rfl (.pointer (some ⟨db, 0, none⟩)) (by kernel_rfl) (by kernel_rfl) (by kernel_rfl) (fun _ _ _ h => h) rfl (fun w' hw' => by simp [go_sem]) hS ?_
        simp only [Act.put, List.setIfInBounds_toArray, List.set_cons_succ, List.set_cons_zero]
        refine t_take 14 rfl (.pointer (some ⟨db, 1, none⟩)) (by kernel_rfl) (by kernel_rfl) (by kernel_rfl) (fun _ _ _ h => h) rfl (fun w' hw' => by simp [go_sem]) hS ?_
        simp only [Act.put, List.setIfInBounds_toArray, List.set_cons_succ, List.set_cons_zero]
        refine wpAnyH_all (rs := [15]) (by kernel_rfl) (by simp) ?_
        intro i hi
        simp only [List.mem_singleton] at hi
        subst hi
        have hk8 : (w7.setCell ⟨db, 1, none⟩ v7).heap[db]? = some (.cells #[.int .i64 ver, v7] 76 (0, 0)) := blk_set hk7 v7
        have ho8 : OwnC 80 26 (w7.setCell ⟨db, 1, none⟩ v7) (db + 1) v7 (setL LS i 25 ver ++ [lifeOf f ver]) := ho7.same (fun g hg => Below.heap_setCell _ _ _ _ (by have := (ho7.lt g hg).1; simp; omega))
        have hB8 := hB7.setCell (p := ⟨db, 1, none⟩) (Nat.le_refl _) v7
        refine t_skip 15 rfl rfl (w7.setCell ⟨db, 1, none⟩ v7) (run_st60 _ _ _ _ rfl db v7 rfl rfl ver hk7 _ ho7) ⟨(Below.heap_setCell _ _ _ _ (by simp; omega)).trans hf7, (dr_cells hk8).1⟩ ?_
        simp only [Act.put]
        refine wpAnyH_done (by kernel_rfl) ?_ _
        have HF := hide (And.intro (Dr.mk hk8 ho8) hB8)
        clear hk8 ho8 hB8 hB7 hS hS7 hf7 hk7 hr7 ho7 hg7 hA6 hS6 hC6 hO6 hK6 hB6 hD3 hB3 hC3
        go_wp2_with fail
        go_ret
        exact ⟨_, _, _, rfl, unhide HPR, (unhide HF).1, (unhide HF).2⟩

theorem ec_F (e : Nat → Int) {w : World} {b : Nat} (h : w.heap[b]? = some (.cells (cc 25 e) 56 (0, 0))) : w.rangeAt b 1 (fc fun j => e (1 + j)).toList := by
  intro j v hv
  have hj : j < 24 := by
    have := (List.getElem?_eq_some_iff.1 hv).1
    simpa [fc_size] using this
  have q : (fc fun j => e (1 + j))[j]? = some v := by simpa using hv
  rw [fc_at _ j hj] at q
  rw [blk_cells h, cc_at 25 e (1 + j) (by omega), q]

set_option maxHeartbeats 1600000 in
theorem edit_any (db : Nat) (ver : Int) (lv : Value) (LS : List (Nat → Int)) (e : Nat → Int) (w : World) (hd : Dr w db ver LS lv) (hl : LS.length ≤ 900) :
    Calls Try.prog 31 #[.pointer (some ⟨db, 0, none⟩), .agg (cc 25 e)] w fun en w' => ∃ r LS' lv', en = .returned (.int .i64 r) ∧ EditR ver e LS r LS' ∧ Dr w' db ver LS' lv' ∧ Below db w w' := by
  have hg0 := heap_alloc_new w (.cells (cc 25 e) 56 (0, 0))
  have e0 := cc_at 25 e 0 (by decide)
  have e1 := cc_at 25 e 1 (by decide)
  have hrg := ec_F e hg0
  have hb := below_one w (.cells (cc 25 e) 56)
  have hdb := Nat.le_of_lt hd.lt
  have hd1 := hd.on hb
  have HB := hide (hb.mono hdb)
  have HD1 := hide hd1
  have PA := put_any db ver lv LS (fun j => e (1 + j)) _ hd1 hl
  obtain ⟨O, hO⟩ : ∃ O, e 0 = O := ⟨_, rfl⟩
  obtain ⟨I, hI⟩ : ∃ O, e 1 = O := ⟨_, rfl⟩
  rw [hO] at e0
  rw [hI] at e1
  have DA := drop_any db ver lv LS I _ hd1 hl
  clear hd hd1 hb
  by_cases h0 : O = 0
  · subst h0
    go_enter Try.func31, Try.ntmps31
    go_wp2_with (refine ldm26 rfl _ rfl w.heap.size 1 rfl _ hrg ?_)
    refine PA.mono ?_
    rintro en w1 ⟨r, LS', lv', rfl, hP, hD, hb1⟩
    have H := hide (And.intro hP (And.intro hD ((unhide HB).trans hb1)))
    clear hP hD hb1 DA
    go_wp2_with fail
    go_ret
    exact ⟨_, _, _, rfl, Or.inl ⟨hO, (unhide H).1⟩, (unhide H).2.1, (unhide H).2.2⟩
  · by_cases h1 : O = 1
    · subst h1
      go_enter Try.func31, Try.ntmps31
      go_wp2_with fail
      refine DA.mono ?_
      rintro en w1 ⟨r, LS', lv', rfl, hP, hD, hb1⟩
      have H := hide (And.intro hP (And.intro hD ((unhide HB).trans hb1)))
      clear hP hD hb1 PA
      go_wp2_with fail
      go_ret
      exact ⟨_, _, _, rfl, Or.inr (Or.inl ⟨hO, by rw [hI]; exact (unhide H).1⟩), (unhide H).2.1, (unhide H).2.2⟩
    · go_enter Try.func31, Try.ntmps31
      go_wp2_with fail
      go_ret
      exact ⟨_, _, _, rfl, Or.inr (Or.inr ⟨by rw [hO]; exact h0, by rw [hO]; exact h1, rfl, rfl⟩), unhide HD1, unhide HB⟩
end Go.Proofs.Ytppcpbhnpdjfpab
