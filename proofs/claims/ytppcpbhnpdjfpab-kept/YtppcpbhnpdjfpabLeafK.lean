/-
  shape.Touches, atlasref.Touches.
-/
import Derived.Test.YtppcpbhnpdjfpabLeafJ
namespace Go.Proofs.Ytppcpbhnpdjfpab
open Go.RowKit

def axT (g : Nat → Int) (n : Nat) (r lo hi : Int) : Bool := !(apB g r lo n || apA g r hi n)
/-- P7's Touches. -/
def Tch (f : Nat → Int) (l z x y : Int) : Bool :=
  right f && decide (keyErr l z x y = 0) && shw f l z && (axT (fun i => f (8 + i)) (f 7).toNat (f 6 * un z) (8 * x * un z) (8 * (x + 1) * un z) && axT (fun i => f (16 + i)) (f 7).toNat (f 6 * un z) (8 * y * un z) (8 * (y + 1) * un z))

theorem mnC_spec (g : Nat → Int) : ∀ n, 1 ≤ n → (∀ i, i < n → mnC g n ≤ g i) ∧ ∃ i, i < n ∧ g i = mnC g n
  | 0, h => by omega
  | 1, _ => by
    refine ⟨fun i hi => ?_, 0, by omega, by simp [mnC]⟩
    have : i = 0 := by omega
    subst this; simp [mnC]
  | n + 2, _ => by
    obtain ⟨h1, i, hi, h2⟩ := mnC_spec g (n + 1) (by omega)
    rw [mnC]
    by_cases h : g (n + 1) < mnC g (n + 1)
    · rw [if_pos h]
      refine ⟨fun j hj => ?_, n + 1, by omega, rfl⟩
      rcases Nat.lt_or_ge j (n + 1) with h' | h'
      · have := h1 j h'; omega
      · have : j = n + 1 := by omega
        subst this; exact Int.le_refl _
    · rw [if_neg h]
      refine ⟨fun j hj => ?_, i, by omega, h2⟩
      rcases Nat.lt_or_ge j (n + 1) with h' | h'
      · exact h1 j h'
      · have : j = n + 1 := by omega
        subst this; omega
theorem mxC_spec (g : Nat → Int) : ∀ n, 1 ≤ n → (∀ i, i < n → g i ≤ mxC g n) ∧ ∃ i, i < n ∧ g i = mxC g n
  | 0, h => by omega
  | 1, _ => by
    refine ⟨fun i hi => ?_, 0, by omega, by simp [mxC]⟩
    have : i = 0 := by omega
    subst this; simp [mxC]
  | n + 2, _ => by
    obtain ⟨h1, i, hi, h2⟩ := mxC_spec g (n + 1) (by omega)
    rw [mxC]
    by_cases h : mxC g (n + 1) < g (n + 1)
    · rw [if_pos h]
      refine ⟨fun j hj => ?_, n + 1, by omega, rfl⟩
      rcases Nat.lt_or_ge j (n + 1) with h' | h'
      · have := h1 j h'; omega
      · have : j = n + 1 := by omega
        subst this; exact Int.le_refl _
    · rw [if_neg h]
      refine ⟨fun j hj => ?_, i, by omega, h2⟩
      rcases Nat.lt_or_ge j (n + 1) with h' | h'
      · exact h1 j h'
      · have : j = n + 1 := by omega
        subst this; omega
theorem apB_eq (g : Nat → Int) (n : Nat) (r lo : Int) (h : 1 ≤ n) : apB g r lo n = decide (mxC g n + r < lo) := by
  obtain ⟨b1, j, hj, b2⟩ := mxC_spec g n h
  rw [Bool.eq_iff_iff]
  simp only [apB, decide_eq_true_eq, List.all_eq_true, List.mem_range]
  constructor
  · intro H; have := H j hj; omega
  · intro H k hk; have := b1 k hk; omega
theorem apA_eq (g : Nat → Int) (n : Nat) (r hi : Int) (h : 1 ≤ n) : apA g r hi n = decide (hi < mnC g n - r) := by
  obtain ⟨b1, j, hj, b2⟩ := mnC_spec g n h
  rw [Bool.eq_iff_iff]
  simp only [apA, decide_eq_true_eq, List.all_eq_true, List.mem_range]
  constructor
  · intro H; have := H j hj; omega
  · intro H k hk; have := b1 k hk; omega
theorem axT_eq (g : Nat → Int) (n : Nat) (r lo hi : Int) (h : 1 ≤ n) : (decide (mnC g n - r ≤ hi) && decide (lo ≤ mxC g n + r)) = axT g n r lo hi := by
  rw [axT, apB_eq g n r lo h, apA_eq g n r hi h, Bool.eq_iff_iff]
  simp only [Bool.and_eq_true, decide_eq_true_eq, Bool.not_eq_true', Bool.or_eq_false_iff, decide_eq_false_iff_not]
  omega

theorem keyErr_zero {l z x y : Int} (h : keyErr l z x y = 0) : (0 ≤ l ∧ l ≤ 3) ∧ (0 ≤ z ∧ z ≤ 22) ∧ (0 ≤ x ∧ x < (2 : Int) ^ z.toNat) ∧ (0 ≤ y ∧ y < (2 : Int) ^ z.toNat) := by
  unfold keyErr at h
  by_cases h1 : l < 0 ∨ 3 < l
  · rw [if_pos h1] at h; cases h
  rw [if_neg h1] at h
  by_cases h2 : z < 0 ∨ 22 < z
  · rw [if_pos h2] at h; cases h
  rw [if_neg h2] at h
  by_cases h3 : x < 0 ∨ (2 : Int) ^ z.toNat ≤ x ∨ y < 0 ∨ (2 : Int) ^ z.toNat ≤ y
  · rw [if_pos h3] at h; cases h
  omega
theorem sq_in {z x : Int} (h1 : 0 ≤ z) (h2 : z ≤ 22) (h3 : 0 ≤ x) (h4 : x < (2 : Int) ^ z.toNat) : (0 ≤ x ∧ x ≤ 4194304) ∧ (0 ≤ 8 * x * un z ∧ 8 * x * un z ≤ 1073741824) ∧ (0 ≤ 8 * (x + 1) * un z ∧ 8 * (x + 1) * un z ≤ 1073741824) := by
  obtain ⟨_, a, b, c⟩ := un_eq z.toNat (by omega)
  have hp := (pow_cap z h2).2
  unfold un
  generalize (2 : Int) ^ (27 - z.toNat) = u at *
  generalize (2 : Int) ^ z.toNat = p at *
  have m1 : (x + 1) * u ≤ p * u := Int.mul_le_mul_of_nonneg_right (by omega) (by omega)
  have m2 : 0 ≤ x * u := Int.mul_nonneg h3 (by omega)
  rw [c] at m1
  rw [Int.mul_assoc, Int.mul_assoc]
  rw [Int.add_mul] at m1 ⊢
  generalize x * u = v at *
  omega
theorem size_in {f : Nat → Int} (h : Rt f) {u : Int} (hu : 0 ≤ u ∧ u ≤ 134217728) : W30 (f 6 * u) := by
  have : f 6 = 0 ∨ f 6 = 1 ∨ f 6 = 2 ∨ f 6 = 3 := by rcases h.kind with h | h <;> omega
  unfold W30
  rcases this with e | e | e | e <;> rw [e] <;> omega
theorem n_in {f : Nat → Int} (h : Rt f) : 1 ≤ f 7 ∧ f 7 ≤ 8 := by rcases h.kind with h | h <;> omega
theorem sza (g : Nat → Int) : (Try.prog.info? 52).map (·.size) = some (ac g).size := by rw [ac_size]; kernel_rfl
theorem rng8 {W : World} {b : Nat} {f : Nat → Int} (h : W.heap[b]? = some (.cells (fc f) 54 (0, 0))) : W.rangeAt b 8 (ac fun i => f (8 + i)).toList := by
  intro j v hv
  rw [blk_cells h]
  have hj : j < 8 := by
    have := (List.getElem?_eq_some_iff.1 hv).1
    simpa [ac_size] using this
  have e : (ac fun i => f (8 + i))[j]? = some v := by simpa using hv
  rw [ac_at _ j hj] at e
  rw [fc_at f (8 + j) (by omega)]; exact e
theorem rng16 {W : World} {b : Nat} {f : Nat → Int} (h : W.heap[b]? = some (.cells (fc f) 54 (0, 0))) : W.rangeAt b 16 (ac fun i => f (16 + i)).toList := by
  intro j v hv
  rw [blk_cells h]
  have hj : j < 8 := by
    have := (List.getElem?_eq_some_iff.1 hv).1
    simpa [ac_size] using this
  have e : (ac fun i => f (16 + i))[j]? = some v := by simpa using hv
  rw [ac_at _ j hj] at e
  rw [fc_at f (16 + j) (by omega)]; exact e

theorem two_blocks (w : World) (o o' : Obj) : ((w.alloc o).alloc o').heap[w.heap.size]? = some o ∧ ((w.alloc o).alloc o').heap[w.heap.size + 1]? = some o' ∧ Below w.heap.size w ((w.alloc o).alloc o') := by
  refine ⟨?_, ?_, ?_⟩
  · rw [Below.heap_alloc _ _ _ (by simp)]; exact heap_alloc_new _ _
  · simpa using heap_alloc_new (w.alloc o) o'
  · repeat first | exact Below.refl _ _ | refine below_drewN ?_ _ | refine Below.drew ?_ | refine below_alloc ?_ (Nat.le_refl _) _

set_option maxHeartbeats 3200000 in
theorem Touches_no (f : Nat → Int) (l z x y : Int) (w : World) (h : right f = false ∨ ¬ keyErr l z x y = 0 ∨ shw f l z = false) :
    Calls Try.prog 32 #[.agg (fc f), .agg #[.int .i64 l, .int .i64 z, .int .i64 x, .int .i64 y]] w fun e w' => e = .returned (.bool (Tch f l z x y)) ∧ Below w.heap.size w w' := by
  obtain ⟨hg0, hk0, hb0⟩ := two_blocks w (.cells (fc f) 54 (0, 0)) (.cells #[.int .i64 l, .int .i64 z, .int .i64 x, .int .i64 y] 41 (0, 0))
  have HB0 := hide hb0
  clear hb0
  cases hr : right f with
  | false =>
    have H : Hid (Tch f l z x y = false) := by show Tch f l z x y = _; simp [Tch, hr]
    clear h
    go_enter Try.func32, Try.ntmps32
    go_wp2_with (refine ld26 rfl _ rfl _ rfl f hg0 ?_)
    refine (check_f hr _).mono ?_
    rintro e w1 ⟨rfl, hb1⟩
    have HB := hide ((unhide HB0).trans (hb1.mono (unhide HB0).size))
    clear hb1
    go_wp2_with fail
    go_ret
    exact ⟨ret_bool (unhide H).symm, unhide HB⟩
  | true =>
  by_cases he : keyErr l z x y = 0
  · have hs : shw f l z = false := by
      rcases h with h | h | h
      · rw [hr] at h; cases h
      · exact absurd he h
      · exact h
    have H : Hid (Tch f l z x y = false) := by show Tch f l z x y = _; simp [Tch, hs]
    have K := fun W => keyError_any l z x y W
    have S := fun W => shows48_any f l z x y W
    rw [he] at K
    rw [hs] at S
    clear h he
    go_enter Try.func32, Try.ntmps32
    go_wp2_with (refine ld26 rfl _ rfl _ rfl f hg0 ?_)
    refine (check_t hr _).mono ?_
    rintro e w1 ⟨rfl, hb1⟩
    have hg1 := blk_on hg0 hb1
    have hk1 := blk_on hk0 hb1
    have hc1 := blk_cells hk1
    have HB := hide ((unhide HB0).trans (hb1.mono (unhide HB0).size))
    clear hb1
    go_wp2_with fail
    refine (K _).mono ?_
    rintro e w2 ⟨rfl, hb2⟩
    have hg2 := blk_on hg1 hb2
    have hk2 := blk_on hk1 hb2
    have hc2 := blk_cells hk2
    have HB2 := hide ((unhide HB).trans (hb2.mono (unhide HB).size))
    clear hb2 hg1 hk1 hc1
    go_wp2_with (refine ld26 rfl _ rfl _ rfl f hg2 ?_)
    refine (S _).mono ?_
    rintro e w3 ⟨rfl, hb3⟩
    have HB3 := hide ((unhide HB2).trans (hb3.mono (unhide HB2).size))
    clear hb3 hg2 hk2 hc2
    go_wp2_with fail
    go_ret
    exact ⟨ret_bool (unhide H).symm, unhide HB3⟩
  · have H : Hid (Tch f l z x y = false) := by show Tch f l z x y = _; simp [Tch, he]
    have K := fun W => keyError_any l z x y W
    have hne : (keyErr l z x y == 0) = false := by simp [he]
    clear h he
    go_enter Try.func32, Try.ntmps32
    go_wp2_with (refine ld26 rfl _ rfl _ rfl f hg0 ?_)
    refine (check_t hr _).mono ?_
    rintro e w1 ⟨rfl, hb1⟩
    have hg1 := blk_on hg0 hb1
    have hk1 := blk_on hk0 hb1
    have hc1 := blk_cells hk1
    have HB := hide ((unhide HB0).trans (hb1.mono (unhide HB0).size))
    clear hb1
    go_wp2_with fail
    refine (K _).mono ?_
    rintro e w2 ⟨rfl, hb2⟩
    have HB2 := hide ((unhide HB).trans (hb2.mono (unhide HB).size))
    clear hb2 hg1 hk1 hc1
    go_wp2_with fail
    go_ret
    exact ⟨ret_bool (unhide H).symm, unhide HB2⟩

set_option maxHeartbeats 3200000 in
theorem Touches_yes (f : Nat → Int) (l z x y : Int) (w : World) (hr : right f = true) (he : keyErr l z x y = 0) (hs : shw f l z = true) :
    Calls Try.prog 32 #[.agg (fc f), .agg #[.int .i64 l, .int .i64 z, .int .i64 x, .int .i64 y]] w fun e w' => e = .returned (.bool (Tch f l z x y)) ∧ Below w.heap.size w w' := by
  obtain ⟨hg0, hk0, hb0⟩ := two_blocks w (.cells (fc f) 54 (0, 0)) (.cells #[.int .i64 l, .int .i64 z, .int .i64 x, .int .i64 y] 41 (0, 0))
  have HB0 := hide hb0
  clear hb0
  have hR := right_out hr
  have K := fun W => keyError_any l z x y W
  have S := fun W => shows48_any f l z x y W
  rw [he] at K
  rw [hs] at S
  obtain ⟨_, ⟨z1, z2⟩, ⟨x1, x2⟩, ⟨y1, y2⟩⟩ := keyErr_zero he
  have U := fun W => unit_yes z W z1 z2
  obtain ⟨sx1, sx2, sx3⟩ := sq_in z1 z2 x1 x2
  obtain ⟨sy1, sy2, sy3⟩ := sq_in z1 z2 y1 y2
  obtain ⟨u1, u2⟩ := un_in z z1 z2
  obtain ⟨n1, n2⟩ := n_in hR
  have H : Hid (Tch f l z x y = (axT (fun i => f (8 + i)) (f 7).toNat (f 6 * un z) (8 * x * un z) (8 * (x + 1) * un z) && axT (fun i => f (16 + i)) (f 7).toNat (f 6 * un z) (8 * y * un z) (8 * (y + 1) * un z))) := by show Tch f l z x y = _; simp [Tch, hr, he, hs]
  obtain ⟨u, hu⟩ : ∃ u, un z = u := ⟨_, rfl⟩
  rw [hu] at H U sx2 sx3 sy2 sy3 u1 u2
  have B1 := fun W => boxSide_any f (fun i => f (8 + i)) u W ⟨n1, n2⟩ hR.px (size_in hR ⟨by omega, by omega⟩)
  have B2 := fun W => boxSide_any f (fun i => f (16 + i)) u W ⟨n1, n2⟩ hR.py (size_in hR ⟨by omega, by omega⟩)
  have S1 := fun W => squareSide_any x u W sx1 sx2 sx3
  have S2 := fun W => squareSide_any y u W sy1 sy2 sy3
  have M1 := fun W => meet_any (mnC (fun i => f (8 + i)) (f 7).toNat - f 6 * u) (mxC (fun i => f (8 + i)) (f 7).toNat + f 6 * u) (8 * x * u) (8 * (x + 1) * u) W
  have M2 := fun W => meet_any (mnC (fun i => f (16 + i)) (f 7).toNat - f 6 * u) (mxC (fun i => f (16 + i)) (f 7).toNat + f 6 * u) (8 * y * u) (8 * (y + 1) * u) W
  rw [axT_eq _ _ _ _ _ (by omega)] at M1 M2
  obtain ⟨bx, hbx⟩ : ∃ b, axT (fun i => f (8 + i)) (f 7).toNat (f 6 * u) (8 * x * u) (8 * (x + 1) * u) = b := ⟨_, rfl⟩
  obtain ⟨bY, hby⟩ : ∃ b, axT (fun i => f (16 + i)) (f 7).toNat (f 6 * u) (8 * y * u) (8 * (y + 1) * u) = b := ⟨_, rfl⟩
  rw [hbx, hby] at H
  rw [hbx] at M1
  rw [hby] at M2
  clear hbx hby he hu hR
  cases bx with
  | true =>
    go_enter Try.func32, Try.ntmps32
    go_wp2_with (refine ld26 rfl _ rfl _ rfl f hg0 ?_)
    refine (check_t hr _).mono ?_
    rintro e w1 ⟨rfl, hb1⟩
    have hg1 := blk_on hg0 hb1
    have hk1 := blk_on hk0 hb1
    have hc1 := blk_cells hk1
    have HB := hide ((unhide HB0).trans (hb1.mono (unhide HB0).size))
    clear hb1
    go_wp2_with fail
    refine (K _).mono ?_
    rintro e w2 ⟨rfl, hb2⟩
    have hg2 := blk_on hg1 hb2
    have hk2 := blk_on hk1 hb2
    have hc2 := blk_cells hk2
    have HB2 := hide ((unhide HB).trans (hb2.mono (unhide HB).size))
    clear hb2 hg1 hk1 hc1
    go_wp2_with (refine ld26 rfl _ rfl _ rfl f hg2 ?_)
    refine (S _).mono ?_
    rintro e w3 ⟨rfl, hb3⟩
    have hg3 := blk_on hg2 hb3
    have hk3 := blk_on hk2 hb3
    have hc3 := blk_cells hk3
    have HB3 := hide ((unhide HB2).trans (hb3.mono (unhide HB2).size))
    clear hb3 hg2 hk2 hc2
    go_wp2_with (go_at_call 42; refine (U _).mono ?_; rintro e w9 ⟨rfl, rfl⟩)
    refine region_bq (by kernel_rfl) (by kernel_rfl) ?_
    refine q_load rfl 54 _ rfl w.heap.size 0 rfl (fc f) _ Try.underlying54 rfl (szf f) (fun w' h => rng_on hg3 h) ?_
    simp only [Act.put, List.setIfInBounds_toArray, List.set_cons_succ, List.set_cons_zero]
    refine q_val rfl (.pointer (some ⟨w.heap.size, 8, none⟩)) (fun _ _ => by simp [go_sem]) ?_
    simp only [Act.put, List.setIfInBounds_toArray, List.set_cons_succ, List.set_cons_zero]
    refine q_load rfl 52 _ rfl w.heap.size 8 rfl (ac fun i => f (8 + i)) _ Try.underlying52 rfl (sza _) (fun w' h => rng8 (blk_on hg3 h)) ?_
    simp only [Act.put, List.setIfInBounds_toArray, List.set_cons_succ, List.set_cons_zero]
    refine q_move rfl _ rfl (.int .i64 u) rfl ?_
    simp only [Act.put, List.setIfInBounds_toArray, List.set_cons_succ, List.set_cons_zero]
    refine q_call rfl 50 #[.agg (fc f), .agg (ac fun i => f (8 + i)), .int .i64 u] (fun _ => by simp [go_sem]) _ B1 ?_
    simp only [Act.put, List.setIfInBounds_toArray, List.set_cons_succ, List.set_cons_zero]
    refine q_val rfl (.pointer (some ⟨w.heap.size + 1, 2, none⟩)) (fun _ _ => by simp [go_sem]) ?_
    simp only [Act.put, List.setIfInBounds_toArray, List.set_cons_succ, List.set_cons_zero]
    refine q_val rfl (.int .i64 x) (fun w' h => by simp [go_sem, blk_cells (blk_on hk3 h)]) ?_
    simp only [Act.put, List.setIfInBounds_toArray, List.set_cons_succ, List.set_cons_zero]
    refine q_move rfl _ rfl (.int .i64 u) rfl ?_
    simp only [Act.put, List.setIfInBounds_toArray, List.set_cons_succ, List.set_cons_zero]
    refine q_call rfl 51 #[.int .i64 x, .int .i64 u] (fun _ => by simp [go_sem]) _ S1 ?_
    simp only [Act.put, List.setIfInBounds_toArray, List.set_cons_succ, List.set_cons_zero]
    refine q_call rfl 49 #[.agg #[_, _], .agg #[_, _]] (fun _ => by simp [go_sem]) _ M1 ?_
    simp only [Act.put, List.setIfInBounds_toArray, List.set_cons_succ, List.set_cons_zero]
    refine q_assign rfl _ rfl _ rfl ?_
    simp only [Act.put, List.setIfInBounds_toArray, List.set_cons_succ, List.set_cons_zero]
    refine wpQuiet_nil ?_
    intro w4 hb_w4
    have hg4 := blk_on hg3 hb_w4
    have hk4 := blk_on hk3 hb_w4
    have HB4 := hide ((unhide HB3).trans (hb_w4.mono (unhide HB3).size))
    clear hb_w4 hg3 hk3 hc3
    go_wp2_with fail
    refine region_bq (by kernel_rfl) (by kernel_rfl) ?_
    refine q_load rfl 54 _ rfl w.heap.size 0 rfl (fc f) _ Try.underlying54 rfl (szf f) (fun w' h => rng_on hg4 h) ?_
    simp only [Act.put, List.setIfInBounds_toArray, List.set_cons_succ, List.set_cons_zero]
    refine q_val rfl (.pointer (some ⟨w.heap.size, 16, none⟩)) (fun _ _ => by simp [go_sem]) ?_
    simp only [Act.put, List.setIfInBounds_toArray, List.set_cons_succ, List.set_cons_zero]
    refine q_load rfl 52 _ rfl w.heap.size 16 rfl (ac fun i => f (16 + i)) _ Try.underlying52 rfl (sza _) (fun w' h => rng16 (blk_on hg4 h)) ?_
    simp only [Act.put, List.setIfInBounds_toArray, List.set_cons_succ, List.set_cons_zero]
    refine q_move rfl _ rfl (.int .i64 u) rfl ?_
    simp only [Act.put, List.setIfInBounds_toArray, List.set_cons_succ, List.set_cons_zero]
    refine q_call rfl 50 #[.agg (fc f), .agg (ac fun i => f (16 + i)), .int .i64 u] (fun _ => by simp [go_sem]) _ B2 ?_
    simp only [Act.put, List.setIfInBounds_toArray, List.set_cons_succ, List.set_cons_zero]
    refine q_val rfl (.pointer (some ⟨w.heap.size + 1, 3, none⟩)) (fun _ _ => by simp [go_sem]) ?_
    simp only [Act.put, List.setIfInBounds_toArray, List.set_cons_succ, List.set_cons_zero]
    refine q_val rfl (.int .i64 y) (fun w' h => by simp [go_sem, blk_cells (blk_on hk4 h)]) ?_
    simp only [Act.put, List.setIfInBounds_toArray, List.set_cons_succ, List.set_cons_zero]
    refine q_move rfl _ rfl (.int .i64 u) rfl ?_
    simp only [Act.put, List.setIfInBounds_toArray, List.set_cons_succ, List.set_cons_zero]
    refine q_call rfl 51 #[.int .i64 y, .int .i64 u] (fun _ => by simp [go_sem]) _ S2 ?_
    simp only [Act.put, List.setIfInBounds_toArray, List.set_cons_succ, List.set_cons_zero]
    refine q_call rfl 49 #[.agg #[_, _], .agg #[_, _]] (fun _ => by simp [go_sem]) _ M2 ?_
    simp only [Act.put, List.setIfInBounds_toArray, List.set_cons_succ, List.set_cons_zero]
    refine q_assign rfl _ rfl _ rfl ?_
    simp only [Act.put, List.setIfInBounds_toArray, List.set_cons_succ, List.set_cons_zero]
    refine wpQuiet_nil ?_
    intro w5 hb_w5
    have HB5 := hide ((unhide HB4).trans (hb_w5.mono (unhide HB4).size))
    clear hb_w5 hg4 hk4
    go_wp2_with fail
    go_ret
    exact ⟨ret_bool (by rw [unhide H]; simp), unhide HB5⟩
  | false =>
    go_enter Try.func32, Try.ntmps32
    go_wp2_with (refine ld26 rfl _ rfl _ rfl f hg0 ?_)
    refine (check_t hr _).mono ?_
    rintro e w1 ⟨rfl, hb1⟩
    have hg1 := blk_on hg0 hb1
    have hk1 := blk_on hk0 hb1
    have hc1 := blk_cells hk1
    have HB := hide ((unhide HB0).trans (hb1.mono (unhide HB0).size))
    clear hb1
    go_wp2_with fail
    refine (K _).mono ?_
    rintro e w2 ⟨rfl, hb2⟩
    have hg2 := blk_on hg1 hb2
    have hk2 := blk_on hk1 hb2
    have hc2 := blk_cells hk2
    have HB2 := hide ((unhide HB).trans (hb2.mono (unhide HB).size))
    clear hb2 hg1 hk1 hc1
    go_wp2_with (refine ld26 rfl _ rfl _ rfl f hg2 ?_)
    refine (S _).mono ?_
    rintro e w3 ⟨rfl, hb3⟩
    have hg3 := blk_on hg2 hb3
    have hk3 := blk_on hk2 hb3
    have hc3 := blk_cells hk3
    have HB3 := hide ((unhide HB2).trans (hb3.mono (unhide HB2).size))
    clear hb3 hg2 hk2 hc2
    go_wp2_with (go_at_call 42; refine (U _).mono ?_; rintro e w9 ⟨rfl, rfl⟩)
    refine region_bq (by kernel_rfl) (by kernel_rfl) ?_
    refine q_load rfl 54 _ rfl w.heap.size 0 rfl (fc f) _ Try.underlying54 rfl (szf f) (fun w' h => rng_on hg3 h) ?_
    simp only [Act.put, List.setIfInBounds_toArray, List.set_cons_succ, List.set_cons_zero]
    refine q_val rfl (.pointer (some ⟨w.heap.size, 8, none⟩)) (fun _ _ => by simp [go_sem]) ?_
    simp only [Act.put, List.setIfInBounds_toArray, List.set_cons_succ, List.set_cons_zero]
    refine q_load rfl 52 _ rfl w.heap.size 8 rfl (ac fun i => f (8 + i)) _ Try.underlying52 rfl (sza _) (fun w' h => rng8 (blk_on hg3 h)) ?_
    simp only [Act.put, List.setIfInBounds_toArray, List.set_cons_succ, List.set_cons_zero]
    refine q_move rfl _ rfl (.int .i64 u) rfl ?_
    simp only [Act.put, List.setIfInBounds_toArray, List.set_cons_succ, List.set_cons_zero]
    refine q_call rfl 50 #[.agg (fc f), .agg (ac fun i => f (8 + i)), .int .i64 u] (fun _ => by simp [go_sem]) _ B1 ?_
    simp only [Act.put, List.setIfInBounds_toArray, List.set_cons_succ, List.set_cons_zero]
    refine q_val rfl (.pointer (some ⟨w.heap.size + 1, 2, none⟩)) (fun _ _ => by simp [go_sem]) ?_
    simp only [Act.put, List.setIfInBounds_toArray, List.set_cons_succ, List.set_cons_zero]
    refine q_val rfl (.int .i64 x) (fun w' h => by simp [go_sem, blk_cells (blk_on hk3 h)]) ?_
    simp only [Act.put, List.setIfInBounds_toArray, List.set_cons_succ, List.set_cons_zero]
    refine q_move rfl _ rfl (.int .i64 u) rfl ?_
    simp only [Act.put, List.setIfInBounds_toArray, List.set_cons_succ, List.set_cons_zero]
    refine q_call rfl 51 #[.int .i64 x, .int .i64 u] (fun _ => by simp [go_sem]) _ S1 ?_
    simp only [Act.put, List.setIfInBounds_toArray, List.set_cons_succ, List.set_cons_zero]
    refine q_call rfl 49 #[.agg #[_, _], .agg #[_, _]] (fun _ => by simp [go_sem]) _ M1 ?_
    simp only [Act.put, List.setIfInBounds_toArray, List.set_cons_succ, List.set_cons_zero]
    refine q_assign rfl _ rfl _ rfl ?_
    simp only [Act.put, List.setIfInBounds_toArray, List.set_cons_succ, List.set_cons_zero]
    refine wpQuiet_nil ?_
    intro w4 hb_w4
    have hg4 := blk_on hg3 hb_w4
    have hk4 := blk_on hk3 hb_w4
    have HB4 := hide ((unhide HB3).trans (hb_w4.mono (unhide HB3).size))
    clear hb_w4 hg3 hk3 hc3
    go_wp2_with fail
    refine region_bq (by kernel_rfl) (by kernel_rfl) ?_
    refine q_load rfl 54 _ rfl w.heap.size 0 rfl (fc f) _ Try.underlying54 rfl (szf f) (fun w' h => rng_on hg4 h) ?_
    simp only [Act.put, List.setIfInBounds_toArray, List.set_cons_succ, List.set_cons_zero]
    refine q_val rfl (.pointer (some ⟨w.heap.size, 16, none⟩)) (fun _ _ => by simp [go_sem]) ?_
    simp only [Act.put, List.setIfInBounds_toArray, List.set_cons_succ, List.set_cons_zero]
    refine q_load rfl 52 _ rfl w.heap.size 16 rfl (ac fun i => f (16 + i)) _ Try.underlying52 rfl (sza _) (fun w' h => rng16 (blk_on hg4 h)) ?_
    simp only [Act.put, List.setIfInBounds_toArray, List.set_cons_succ, List.set_cons_zero]
    refine q_move rfl _ rfl (.int .i64 u) rfl ?_
    simp only [Act.put, List.setIfInBounds_toArray, List.set_cons_succ, List.set_cons_zero]
    refine q_call rfl 50 #[.agg (fc f), .agg (ac fun i => f (16 + i)), .int .i64 u] (fun _ => by simp [go_sem]) _ B2 ?_
    simp only [Act.put, List.setIfInBounds_toArray, List.set_cons_succ, List.set_cons_zero]
    refine q_val rfl (.pointer (some ⟨w.heap.size + 1, 3, none⟩)) (fun _ _ => by simp [go_sem]) ?_
    simp only [Act.put, List.setIfInBounds_toArray, List.set_cons_succ, List.set_cons_zero]
    refine q_val rfl (.int .i64 y) (fun w' h => by simp [go_sem, blk_cells (blk_on hk4 h)]) ?_
    simp only [Act.put, List.setIfInBounds_toArray, List.set_cons_succ, List.set_cons_zero]
    refine q_move rfl _ rfl (.int .i64 u) rfl ?_
    simp only [Act.put, List.setIfInBounds_toArray, List.set_cons_succ, List.set_cons_zero]
    refine q_call rfl 51 #[.int .i64 y, .int .i64 u] (fun _ => by simp [go_sem]) _ S2 ?_
    simp only [Act.put, List.setIfInBounds_toArray, List.set_cons_succ, List.set_cons_zero]
    refine q_call rfl 49 #[.agg #[_, _], .agg #[_, _]] (fun _ => by simp [go_sem]) _ M2 ?_
    simp only [Act.put, List.setIfInBounds_toArray, List.set_cons_succ, List.set_cons_zero]
    refine q_assign rfl _ rfl _ rfl ?_
    simp only [Act.put, List.setIfInBounds_toArray, List.set_cons_succ, List.set_cons_zero]
    refine wpQuiet_nil ?_
    intro w5 hb_w5
    have HB5 := hide ((unhide HB4).trans (hb_w5.mono (unhide HB4).size))
    clear hb_w5 hg4 hk4
    go_wp2_with fail
    go_ret
    exact ⟨ret_bool (by rw [unhide H]; simp), unhide HB5⟩
theorem Touches_any (f : Nat → Int) (l z x y : Int) (w : World) :
    Calls Try.prog 32 #[.agg (fc f), .agg #[.int .i64 l, .int .i64 z, .int .i64 x, .int .i64 y]] w fun e w' => e = .returned (.bool (Tch f l z x y)) ∧ Below w.heap.size w w' := by
  cases hr : right f with
  | false => exact Touches_no f l z x y w (Or.inl hr)
  | true =>
  by_cases he : keyErr l z x y = 0
  · cases hs : shw f l z with
    | false => exact Touches_no f l z x y w (Or.inr (Or.inr hs))
    | true => exact Touches_yes f l z x y w hr he hs
  · exact Touches_no f l z x y w (Or.inr (Or.inl he))

/-- An array of eight is read whole. -/
theorem ld24 {ops : Array Oper} {rest : List Oper} {o : Oper} {a : Act} {w : World} {Q : Exit → Act → World → Prop} (hw : Region.wanted o (yielded ops a.tmps) = true) (x : Operand) (ho : o.op = .load 52 x)
    (b off : Nat) (hx : a.eval x = .pointer (some ⟨b, off, none⟩)) (g : Nat → Int) (hc : w.rangeAt b off (ac g).toList)
    (h : wpList Try.prog ops Q rest (a.put o.dst (.agg (ac g))) w) : wpList Try.prog ops Q (o :: rest) a w := by
  unfold wpList
  rw [if_pos hw]
  exact Or.inl (wp_load_mid 52 x ho b off hx (ac g).toList _ hc Try.underlying52 rfl (by rw [Array.length_toList]; exact sza g) h)
end Go.Proofs.Ytppcpbhnpdjfpab
