/-
  A REGION THAT DRAWS ITS ORDER, WHOSE CALLEES MAKE BLOCKS OF THEIR OWN: one walk in the order of the text. shape.corner, shape.covers.
-/
import Derived.Test.YtppcpbhnpdjfpabLeafF
namespace Go.Proofs.Ytppcpbhnpdjfpab
open Go.RowKit

/-- The class of worlds: w, with new blocks behind it. -/
abbrev Cq (w : World) : World → Prop := fun w' => Below w.heap.size w w'

theorem region_bq {id : Nat} {Q : Exit → Act → World → Prop} {a : Act} {w : World} {l : List Oper} (hm : Try.prog.follows .mixedOrders = true) (hB : Region.lexB .any l.toArray = true)
    (h : wpQuiet Try.prog l.toArray (Cq w) (fun a' => ∀ w', Below w.heap.size w w' → Q .normal a' w') l a) : (Code.region id l.toArray true).wp Try.prog Q a w :=
  wp_region_quiet (C := Cq w) hm hB (Below.drew (Below.refl _ _)) (by simpa using h)

section
variable {ops : Array Oper} {w : World} {Q : Act → Prop} {a : Act} {o : Oper} {rest : List Oper}
theorem q_val (hw : Region.wanted o (yielded ops a.tmps) = true) (v : Value) (h : ∀ w', Below w.heap.size w w' → (execOp a.eval o).run Try.prog w' = .ok (.value v) w') (hk : wpQuiet Try.prog ops (Cq w) Q rest (a.put o.dst v)) :
    wpQuiet Try.prog ops (Cq w) Q (o :: rest) a :=
  BigFrame.wpQuiet_want hw fun _ hK => ⟨v, fun w' hw' => by unfold Oper.quietAt; rw [h w' hw']; exact ⟨rfl, rfl⟩, hK _ hk⟩
theorem q_move (hw : Region.wanted o (yielded ops a.tmps) = true) (x : Operand) (ho : o.op = .move x) (v : Value) (hv : a.eval x = v) (hk : wpQuiet Try.prog ops (Cq w) Q rest (a.put o.dst v)) :
    wpQuiet Try.prog ops (Cq w) Q (o :: rest) a :=
  BigFrame.wpQuiet_want hw fun _ hK => BigFrame.quiet_move x ho (by rw [hv]; exact hK _ hk)
theorem q_assign (hw : Region.wanted o (yielded ops a.tmps) = true) (x : Operand) (ho : o.op = .assign x) (v : Value) (hv : a.eval x = v) (hk : wpQuiet Try.prog ops (Cq w) Q rest (a.put o.dst v)) :
    wpQuiet Try.prog ops (Cq w) Q (o :: rest) a :=
  BigFrame.wpQuiet_want hw fun _ hK => BigFrame.quiet_assign x ho (by rw [hv]; exact hK _ hk)
theorem q_skip (hw : Region.wanted o (yielded ops a.tmps) = false) (hk : wpQuiet Try.prog ops (Cq w) Q rest (a.put o.dst undef)) :
    wpQuiet Try.prog ops (Cq w) Q (o :: rest) a := BigFrame.wpQuiet_skip hw hk
/-- A row of cells (a struct, an array) is read whole. -/
theorem q_load (hw : Region.wanted o (yielded ops a.tmps) = true) (ty : TypeId) (x : Operand) (ho : o.op = .load ty x) (b off : Nat) (hx : a.eval x = .pointer (some ⟨b, off, none⟩)) (cs : Array Value) (d : TypeDesc)
    (hu : Try.prog.underlying ty = some d) (hd : d.isRow = true) (hi : (Try.prog.info? ty).map (·.size) = some cs.size)
    (hc : ∀ w', Below w.heap.size w w' → w'.rangeAt b off cs.toList) (hk : wpQuiet Try.prog ops (Cq w) Q rest (a.put o.dst (.agg cs))) :
    wpQuiet Try.prog ops (Cq w) Q (o :: rest) a := by
  refine q_val hw _ (fun w' hw' => ?_) hk
  have := run_loadVar_mid (P := Try.prog) w' b off ty cs.toList d (hc w' hw') hu hd (by simpa using hi)
  unfold execOp
  simp only [ho, hx, Instr.loadAt, Instr.sureAddr, Sem.run_bind, Sem.run_pure, Result.andThen_ok, this, Array.toArray_toList]
/-- One cell is read. -/
theorem q_call (hw : Region.wanted o (yielded ops a.tmps) = true) (f : FuncId) (args : Array Value) (h0 : ∀ w', (execOp a.eval o).run Try.prog w' = .ok (.enter f args) w') (v : Value)
    (hc : ∀ w', Calls Try.prog f args w' fun e w'' => e = .returned v ∧ Below w'.heap.size w' w'') (hk : wpQuiet Try.prog ops (Cq w) Q rest (a.put o.dst v)) :
    wpQuiet Try.prog ops (Cq w) Q (o :: rest) a :=
  BigFrame.wpQuiet_want hw fun _ hK => ⟨v, fun w' hw' => by
    unfold Oper.quietAt; rw [h0 w']
    exact ⟨rfl, (hc w').mono fun e w'' h => ⟨h.1, Below.trans hw' (h.2.mono hw'.size)⟩⟩, hK _ hk⟩
end

theorem rng_of {W : World} {b : Nat} {cs : Array Value} {t : TypeId} (h : W.heap[b]? = some (.cells cs t (0, 0))) : W.rangeAt b 0 cs.toList := by
  intro j v hv
  rw [Nat.zero_add, blk_cells h]
  simpa using hv
theorem rng_on {W W' : World} {b : Nat} {cs : Array Value} {t : TypeId} (h : W.heap[b]? = some (.cells cs t (0, 0))) (hb : Below W.heap.size W W') : W'.rangeAt b 0 cs.toList := rng_of (blk_on h hb)
theorem sz59 (x y : Int) : (Try.prog.info? 88).map (·.size) = some (#[Value.int .i64 x, Value.int .i64 y] : Array Value).size := by kernel_rfl

/-- Point i of a feature; behind the last one the first comes again. -/
def cix (f : Nat → Int) (i : Int) : Nat := if i < 0 ∨ f 7 ≤ i ∨ 8 ≤ i then 0 else i.toNat

set_option maxHeartbeats 1600000 in
theorem corner_any (f : Nat → Int) (i : Int) (w : World) :
    Calls Try.prog 58 #[.agg (fc f), .int .i64 i] w fun e w' => e = .returned (.agg #[.int .i64 (f (8 + cix f i)), .int .i64 (f (16 + cix f i))]) ∧ Below w.heap.size w w' := by
  have c7 := fc_at f 7 (by decide)
  have c8 := fc_at f 8 (by decide)
  have c16 := fc_at f 16 (by decide)
  obtain ⟨N, hN⟩ : ∃ K, f 7 = K := ⟨_, rfl⟩
  rw [hN] at c7
  by_cases h1 : i < 0
  · have H : Hid (cix f i = 0) := by show cix f i = 0; simp [cix, h1]
    clear hN
    go_enter Try.func58, Try.ntmps58
    go_wp2
    refine bodyPost_ret (v := .agg #[.int .i64 (f 8), .int .i64 (f 16)]) (by simp [results, Try.results58, go_sem]) rfl ⟨by rw [unhide H], ?_⟩
    repeat first | exact Below.refl _ _ | refine below_drewN ?_ _ | refine Below.drew ?_ | refine below_alloc ?_ (Nat.le_refl _) _
  by_cases h2 : N ≤ i
  · have H : Hid (cix f i = 0) := by show cix f i = 0; simp [cix, h2, hN]
    clear hN
    go_enter Try.func58, Try.ntmps58
    go_wp2
    refine bodyPost_ret (v := .agg #[.int .i64 (f 8), .int .i64 (f 16)]) (by simp [results, Try.results58, go_sem]) rfl ⟨by rw [unhide H], ?_⟩
    repeat first | exact Below.refl _ _ | refine below_drewN ?_ _ | refine Below.drew ?_ | refine below_alloc ?_ (Nat.le_refl _) _
  by_cases h3 : 8 ≤ i
  · have H : Hid (cix f i = 0) := by show cix f i = 0; simp [cix, h3]
    clear hN
    go_enter Try.func58, Try.ntmps58
    go_wp2
    refine bodyPost_ret (v := .agg #[.int .i64 (f 8), .int .i64 (f 16)]) (by simp [results, Try.results58, go_sem]) rfl ⟨by rw [unhide H], ?_⟩
    repeat first | exact Below.refl _ _ | refine below_drewN ?_ _ | refine Below.drew ?_ | refine below_alloc ?_ (Nat.le_refl _) _
  obtain ⟨k, rfl⟩ := Int.eq_ofNat_of_zero_le (show 0 ≤ i by omega)
  have H : Hid (cix f (k : Int) = k) := by show cix f (k : Int) = k; unfold cix; rw [if_neg (by rw [hN]; omega)]; simp
  have cx := fc_at f (8 + k) (by omega)
  have cy := fc_at f (16 + k) (by omega)
  have hk8 : k < 8 := by omega
  clear hN
  go_enter Try.func58, Try.ntmps58
  go_wp2
  go_region
  all_goals
    go_wp2
    refine bodyPost_ret (v := .agg #[.int .i64 (f (8 + k)), .int .i64 (f (16 + k))]) (by simp [results, Try.results58, go_sem]) rfl ⟨by rw [unhide H], ?_⟩
    repeat first | exact Below.refl _ _ | refine below_drewN ?_ _ | refine Below.drew ?_ | refine below_alloc ?_ (Nat.le_refl _) _

/-- Edge k of an area of n points: does it count? -/
def edge (f : Nat → Int) (n : Int) (k : Nat) (x y : Int) : Bool :=
  cnt (f (8 + k)) (f (16 + k)) (f (8 + (if n ≤ (k : Int) + 1 then 0 else k + 1))) (f (16 + (if n ≤ (k : Int) + 1 then 0 else k + 1))) x y
def par (f : Nat → Int) (n : Int) (x y : Int) : Nat → Bool
  | 0 => false
  | k + 1 => par f n x y k != edge f n k x y
/-- Does a right feature cover a point of the world, u being the unit? -/
def cov (f : Nat → Int) (u x y : Int) : Bool := if f 2 = 1 then near (f 8) (f 16) (f 6 * u) x y else par f (f 7) x y (f 7).toNat

theorem inR_out {n lo hi : Int} (h : inR n lo hi = true) : lo ≤ n ∧ n ≤ hi := by simpa [inR] using h
structure Rt (f : Nat → Int) : Prop where
  id : 1 ≤ f 0 ∧ f 0 ≤ 1000
  la : 0 ≤ f 1 ∧ f 1 ≤ 3
  ink : 1 ≤ f 3 ∧ f 3 ≤ 15
  rk : 0 ≤ f 4 ∧ f 4 ≤ 9
  fr : 0 ≤ f 5 ∧ f 5 ≤ 22
  kind : (f 2 = 0 ∧ f 6 = 0 ∧ 3 ≤ f 7 ∧ f 7 ≤ 8) ∨ (f 2 = 1 ∧ 1 ≤ f 6 ∧ f 6 ≤ 3 ∧ f 7 = 1)
  px : ∀ i, i < 8 → W30 (f (8 + i))
  py : ∀ i, i < 8 → W30 (f (16 + i))
  rest : ∀ i : Nat, i < 8 → f 7 ≤ (i : Int) → f (8 + i) = 0 ∧ f (16 + i) = 0
theorem right_out {f : Nat → Int} (h : right f = true) : Rt f := by
  simp only [right, traits, Bool.and_eq_true] at h
  obtain ⟨⟨⟨⟨⟨⟨h0, h1⟩, h3⟩, h4⟩, h5⟩, hf⟩, hp⟩ := h
  simp only [pts, List.all_eq_true, List.mem_range, pt, Bool.and_eq_true, Bool.not_eq_true', Bool.and_eq_false_iff, Bool.or_eq_false_iff, decide_eq_false_iff_not, Decidable.not_not] at hp
  refine ⟨inR_out h0, inR_out h1, inR_out h3, inR_out h4, inR_out h5, ?_, fun i hi => inR_out (hp i hi).1.1, fun i hi => inR_out (hp i hi).1.2, fun i hi hn => ?_⟩
  · unfold form at hf
    split at hf
    · rename_i e
      simp only [Bool.and_eq_true, decide_eq_true_eq] at hf
      have := inR_out hf.2
      exact Or.inl ⟨e, hf.1, this.1, this.2⟩
    · split at hf
      · rename_i e
        simp only [Bool.and_eq_true, decide_eq_true_eq] at hf
        have := inR_out hf.1
        exact Or.inr ⟨e, this.1, this.2, hf.2⟩
      · cases hf
  · rcases (hp i hi).2 with h | h
    · exact absurd hn h
    · exact h

theorem cix_at {f : Nat → Int} (k : Nat) (h1 : (k : Int) < f 7) (h2 : f 7 ≤ 8) : cix f (k : Int) = k := by
  unfold cix; rw [if_neg (by omega)]; simp
theorem cix_next {f : Nat → Int} (k : Nat) (h2 : f 7 ≤ 8) : cix f ((k : Int) + 1) = if f 7 ≤ (k : Int) + 1 then 0 else k + 1 := by
  unfold cix
  by_cases h : f 7 ≤ (k : Int) + 1
  · rw [if_pos (Or.inr (Or.inl h)), if_pos h]
  · rw [if_neg (by omega), if_neg h]; omega

set_option maxHeartbeats 1600000 in
theorem covers_any (f : Nat → Int) (u x y : Int) (w : World) (hr : Rt f) (hx : W30 x) (hy : W30 y) (hu : 0 ≤ u ∧ u ≤ 134217728) :
    Calls Try.prog 46 #[.agg (fc f), .int .i64 u, .agg #[.int .i64 x, .int .i64 y]] w fun e w' => e = .returned (.bool (cov f u x y)) ∧ Below w.heap.size w w' := by
  have c2 := fc_at f 2 (by decide)
  have c6 := fc_at f 6 (by decide)
  have c7 := fc_at f 7 (by decide)
  have c8 := fc_at f 8 (by decide)
  have c16 := fc_at f 16 (by decide)
  have HR := hide hr
  rcases hr.kind with ⟨k2, k6, n1, n2⟩ | ⟨k2, k6, k6', k7⟩
  · have H : Hid (cov f u x y = par f (f 7) x y (f 7).toNat) := by show cov f u x y = _; simp [cov, k2]
    rw [k2] at c2
    obtain ⟨N, hN⟩ : ∃ N, f 7 = N := ⟨_, rfl⟩
    rw [hN] at c7 n1 n2
    have HN := hide hN
    clear k2 k6 hr hN
    go_enter Try.func46, Try.ntmps46
    go_wp2
    go_loopw [7, 8] (fun v i wr => ∃ k : Nat, (k : Int) ≤ N ∧ i = .int .i64 k ∧ v = .bool (par f N x y k) ∧ wr.heap[w.heap.size]? = some (.cells (fc f) 54 (0, 0)) ∧ wr.heap[w.heap.size + 1]? = some (.cells #[.int .i64 x, .int .i64 y] 88 (0, 0)) ∧ Below w.heap.size w wr) (fun _ i _ => 8 - (intOf i).toNat)
    case atStart =>
      refine ⟨0, by omega, rfl, rfl, ?_, ?_, ?_⟩
      · rw [Below.heap_alloc _ _ _ (by simp)]; exact heap_alloc_new _ _
      · simpa using heap_alloc_new (w.alloc (.cells (fc f) 54 (0, 0))) (.cells #[.int .i64 x, .int .i64 y] 88 (0, 0))
      · repeat first | exact Below.refl _ _ | refine below_drewN ?_ _ | refine Below.drew ?_ | refine below_alloc ?_ (Nat.le_refl _) _
    case round =>
      obtain ⟨k, hk, rfl, rfl, hg, hp, hb⟩ := hrel
      have hcell := blk_cells hg
      have hbw := hb.size
      by_cases hlt : (k : Int) < N
      · have e1 := cix_at (f := f) k (by rw [unhide HN]; omega) (by rw [unhide HN]; omega)
        have e2 := cix_next (f := f) k (by rw [unhide HN]; omega)
        rw [unhide HN] at e2
        obtain ⟨j, hj⟩ : ∃ j, (if N ≤ (k : Int) + 1 then 0 else k + 1) = j := ⟨_, rfl⟩
        have hj8 : j < 8 := by rw [← hj]; split <;> omega
        have C1 := fun W => corner_any f (k : Int) W
        have C2 := fun W => corner_any f ((k : Int) + 1) W
        rw [e1] at C1
        rw [e2, hj] at C2
        have C3 := fun W => counts_any (f (8 + k)) (f (16 + k)) (f (8 + j)) (f (16 + j)) x y W ((unhide HR).px k (by omega)) ((unhide HR).py k (by omega)) ((unhide HR).px j hj8) ((unhide HR).py j hj8) hx hy
        have he' : Hid (edge f N k x y = cnt (f (8 + k)) (f (16 + k)) (f (8 + j)) (f (16 + j)) x y) := by show edge f N k x y = _; unfold edge; rw [hj]
        have hw1 := i64_in ((k : Int) + 1) (by omega)
        clear e1 e2 hj
        cases he : edge f N k x y with
        | true =>
          rw [← unhide he', he] at C3
          go_wp2
          refine region_bq (by kernel_rfl) (by kernel_rfl) ?_
          refine q_load rfl 54 _ rfl w.heap.size 0 rfl (fc f) _ Try.underlying54 rfl (szf f) (fun w' h => rng_on hg h) ?_
          simp only [Act.put, List.setIfInBounds_toArray, List.set_cons_succ, List.set_cons_zero]
          refine q_move rfl _ rfl (.int .i64 k) rfl ?_
          simp only [Act.put, List.setIfInBounds_toArray, List.set_cons_succ, List.set_cons_zero]
          refine q_call rfl 58 #[.agg (fc f), .int .i64 k] (fun _ => by simp [go_sem]) _ C1 ?_
          simp only [Act.put, List.setIfInBounds_toArray, List.set_cons_succ, List.set_cons_zero]
          refine q_load rfl 54 _ rfl w.heap.size 0 rfl (fc f) _ Try.underlying54 rfl (szf f) (fun w' h => rng_on hg h) ?_
          simp only [Act.put, List.setIfInBounds_toArray, List.set_cons_succ, List.set_cons_zero]
          refine q_move rfl _ rfl (.int .i64 k) rfl ?_
          simp only [Act.put, List.setIfInBounds_toArray, List.set_cons_succ, List.set_cons_zero]
          refine q_val rfl (.int .i64 ((k : Int) + 1)) (fun _ _ => by simp [go_sem, hw1]) ?_
          simp only [Act.put, List.setIfInBounds_toArray, List.set_cons_succ, List.set_cons_zero]
          refine q_call rfl 58 #[.agg (fc f), .int .i64 ((k : Int) + 1)] (fun _ => by simp [go_sem]) _ C2 ?_
          simp only [Act.put, List.setIfInBounds_toArray, List.set_cons_succ, List.set_cons_zero]
          refine q_load rfl 88 _ rfl (w.heap.size + 1) 0 rfl #[.int .i64 x, .int .i64 y] _ Try.underlying88 rfl (sz59 x y) (fun w' h => rng_on hp h) ?_
          simp only [Act.put, List.setIfInBounds_toArray, List.set_cons_succ, List.set_cons_zero]
          refine q_call rfl 57 #[.agg #[.int .i64 (f (8 + k)), .int .i64 (f (16 + k))], .agg #[.int .i64 (f (8 + j)), .int .i64 (f (16 + j))], .agg #[.int .i64 x, .int .i64 y]] (fun _ => by simp [go_sem]) _ C3 ?_
          simp only [Act.put, List.setIfInBounds_toArray, List.set_cons_succ, List.set_cons_zero]
          refine wpQuiet_nil ?_
          intro w' hw'
          go_wp2
          go_roundw
          case rel => exact ⟨k + 1, by omega, by go_num, congrArg Value.bool (by simp [par, he]), blk_on hg hw', blk_on hp hw', hb.trans (hw'.mono hbw)⟩
          case measure => simp [intOf]; omega
        | false =>
          rw [← unhide he', he] at C3
          go_wp2
          refine region_bq (by kernel_rfl) (by kernel_rfl) ?_
          refine q_load rfl 54 _ rfl w.heap.size 0 rfl (fc f) _ Try.underlying54 rfl (szf f) (fun w' h => rng_on hg h) ?_
          simp only [Act.put, List.setIfInBounds_toArray, List.set_cons_succ, List.set_cons_zero]
          refine q_move rfl _ rfl (.int .i64 k) rfl ?_
          simp only [Act.put, List.setIfInBounds_toArray, List.set_cons_succ, List.set_cons_zero]
          refine q_call rfl 58 #[.agg (fc f), .int .i64 k] (fun _ => by simp [go_sem]) _ C1 ?_
          simp only [Act.put, List.setIfInBounds_toArray, List.set_cons_succ, List.set_cons_zero]
          refine q_load rfl 54 _ rfl w.heap.size 0 rfl (fc f) _ Try.underlying54 rfl (szf f) (fun w' h => rng_on hg h) ?_
          simp only [Act.put, List.setIfInBounds_toArray, List.set_cons_succ, List.set_cons_zero]
          refine q_move rfl _ rfl (.int .i64 k) rfl ?_
          simp only [Act.put, List.setIfInBounds_toArray, List.set_cons_succ, List.set_cons_zero]
          refine q_val rfl (.int .i64 ((k : Int) + 1)) (fun _ _ => by simp [go_sem, hw1]) ?_
          simp only [Act.put, List.setIfInBounds_toArray, List.set_cons_succ, List.set_cons_zero]
          refine q_call rfl 58 #[.agg (fc f), .int .i64 ((k : Int) + 1)] (fun _ => by simp [go_sem]) _ C2 ?_
          simp only [Act.put, List.setIfInBounds_toArray, List.set_cons_succ, List.set_cons_zero]
          refine q_load rfl 88 _ rfl (w.heap.size + 1) 0 rfl #[.int .i64 x, .int .i64 y] _ Try.underlying88 rfl (sz59 x y) (fun w' h => rng_on hp h) ?_
          simp only [Act.put, List.setIfInBounds_toArray, List.set_cons_succ, List.set_cons_zero]
          refine q_call rfl 57 #[.agg #[.int .i64 (f (8 + k)), .int .i64 (f (16 + k))], .agg #[.int .i64 (f (8 + j)), .int .i64 (f (16 + j))], .agg #[.int .i64 x, .int .i64 y]] (fun _ => by simp [go_sem]) _ C3 ?_
          simp only [Act.put, List.setIfInBounds_toArray, List.set_cons_succ, List.set_cons_zero]
          refine wpQuiet_nil ?_
          intro w' hw'
          go_wp2
          go_roundw
          case rel => exact ⟨k + 1, by omega, by go_num, congrArg Value.bool (by simp [par, he]), blk_on hg hw', blk_on hp hw', hb.trans (hw'.mono hbw)⟩
          case measure => simp [intOf]; omega
      · have hkN : (k : Int) = N := by omega
        have HK : Hid ((f 7).toNat = k ∧ f 7 = N) := by show (f 7).toNat = k ∧ f 7 = N; rw [unhide HN]; omega
        clear hkN
        go_wp2
        go_ret
        refine ⟨ret_bool ?_, hb⟩
        rw [unhide H, (unhide HK).1, (unhide HK).2]
  · have H : Hid (cov f u x y = near (f 8) (f 16) (f 6 * u) x y) := by show cov f u x y = _; simp [cov, k2]
    rw [k2] at c2
    obtain ⟨S, hS⟩ : ∃ S, f 6 = S := ⟨_, rfl⟩
    rw [hS] at c6 k6 k6'
    have HS := hide hS
    have hSu : W30 (S * u) := by
      have : S = 1 ∨ S = 2 ∨ S = 3 := by omega
      unfold W30
      rcases this with rfl | rfl | rfl <;> omega
    have hm : wrap64 (S * u) = S * u := by unfold W30 at hSu; exact IntWalk.wrap64_in _ ⟨by omega, by omega⟩
    have HA : Hid (W30 (f 8) ∧ W30 (f 16)) := ⟨hr.px 0 (by omega), hr.py 0 (by omega)⟩
    have HW := hide hSu
    clear k2 k6 k6' k7 hr hS hSu
    go_enter Try.func46, Try.ntmps46
    go_wp2_with (go_at_call 56; refine (isNear_any _ _ _ _ _ _ ?_ ?_ ?_ ?_ ?_).mono ?_)
    all_goals first | exact (unhide HA).1 | exact (unhide HA).2 | exact hx | exact hy | exact unhide HW | skip
    rintro e w1 ⟨rfl, hb1⟩
    have HB : Hid (Below w.heap.size w w1) := by
      refine Below.trans ?_ (hb1.mono ?_)
      · repeat first | exact Below.refl _ _ | refine below_drewN ?_ _ | refine Below.drew ?_ | refine below_alloc ?_ (Nat.le_refl _) _
      · simp; omega
    clear hb1
    go_wp2_with fail
    go_ret
    refine ⟨ret_bool ?_, unhide HB⟩
    rw [unhide H, unhide HS]
end Go.Proofs.Ytppcpbhnpdjfpab
