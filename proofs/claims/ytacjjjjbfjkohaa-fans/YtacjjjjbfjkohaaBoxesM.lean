/-
  How far a dot reaches along its row and its column; what a box covers.
-/
import Derived.Test.YtacjjjjbfjkohaaMakeD
import Derived.Test.YtacjjjjbfjkohaaInkD
namespace Go.Proofs.Ytacjjjjbfjkohaa
open Go.RowKit

theorem box_cov {raw : Nat → Int} {FX FY G : Nat → Int} {l ea t so z x y turn : Int} (hAr : Ar raw 4 FX FY 8 G) (hFX : ∀ i, FX i = bxX l ea (bxJ turn i)) (hFY : ∀ i, FY i = bxY t so (bxJ turn i)) (hle : l ≤ ea) (hts : t ≤ so)
    (wl : W30 l) (we : W30 ea) (wt : W30 t) (ws : W30 so) (z1 : 0 ≤ z) (z2 : z ≤ 22) (wx : W30 x) (wy : W30 y) : Cov G z x y = decide (l ≤ x ∧ x < ea ∧ t ≤ y ∧ y < so) := by
  have bX : ∀ j, W30 (bxX l ea j) := fun j => by unfold bxX; split <;> (try split) <;> (try split) <;> assumption
  have bY : ∀ j, W30 (bxY t so j) := fun j => by unfold bxY; split <;> (try split) <;> (try split) <;> assumption
  obtain ⟨hR, h2⟩ := ar_rt hAr ⟨by omega, by omega⟩ (fun i _ => by rw [hFX]; exact bX _) (fun i _ => by rw [hFY]; exact bY _)
  rw [Cov_eq (right_in hR) z1 z2 wx wy]
  have h7 : G 7 = 4 := hAr.n7
  unfold cov
  rw [if_neg (by omega), h7]
  exact box_par l ea t so x y turn G hle hts (fun i hi => by rw [hAr.px i (by omega), if_pos hi, hFX]) (fun i hi => by rw [hAr.py i (by omega), if_pos hi, hFY])

/-- The dot that Boxes makes. -/
def dotF (raw : Nat → Int) (x y : Int) : Nat → Int := upd (upd (mk (upd raw 2 1)) 8 x) 16 y
theorem dot_kind (raw : Nat → Int) : mk (upd raw 2 1) 2 = 1 := by rw [mk_lo _ 2 (by omega)]; simp [base, upd, pk]
theorem dot_rt (raw : Nat → Int) (x y : Int) (hx : W30 x) (hy : W30 y) : Rt (dotF raw x y) ∧ dotF raw x y 2 = 1 ∧ dotF raw x y 8 = x ∧ dotF raw x y 16 = y ∧ dotF raw x y 6 = mk (upd raw 2 1) 6 ∧ (1 ≤ mk (upd raw 2 1) 6 ∧ mk (upd raw 2 1) 6 ≤ 3) := by
  have m := mk_rt (upd raw 2 1)
  have k2 := dot_kind raw
  have lo : ∀ j, j < 8 → dotF raw x y j = mk (upd raw 2 1) j := fun j hj => by unfold dotF upd; rw [if_neg (by omega), if_neg (by omega)]
  have kk : 1 ≤ mk (upd raw 2 1) 6 ∧ mk (upd raw 2 1) 6 ≤ 3 ∧ mk (upd raw 2 1) 7 = 1 := by
    rcases m.kind with ⟨a, _⟩ | ⟨_, b, c, d⟩
    · omega
    · exact ⟨b, c, d⟩
  refine ⟨⟨?_, ?_, ?_, ?_, ?_, Or.inr ⟨?_, ?_, ?_, ?_⟩, fun i hi => ?_, fun i hi => ?_, fun i hi hi' => ?_⟩, ?_, ?_, ?_, lo 6 (by omega), kk.1, kk.2.1⟩
  · rw [lo 0 (by omega)]; exact m.id
  · rw [lo 1 (by omega)]; exact m.la
  · rw [lo 3 (by omega)]; exact m.ink
  · rw [lo 4 (by omega)]; exact m.rk
  · rw [lo 5 (by omega)]; exact m.fr
  · rw [lo 2 (by omega)]; exact k2
  · rw [lo 6 (by omega)]; exact kk.1
  · rw [lo 6 (by omega)]; exact kk.2.1
  · rw [lo 7 (by omega)]; exact kk.2.2
  · unfold dotF; rw [upd, if_neg (by omega), upd]
    split
    · exact hx
    · exact m.px i hi
  · unfold dotF; rw [upd]
    split
    · exact hy
    · rw [upd, if_neg (by omega)]; exact m.py i hi
  · rw [lo 7 (by omega), kk.2.2] at hi'
    have r := m.rest i hi (by rw [kk.2.2]; exact hi')
    unfold dotF
    rw [upd, if_neg (by omega), upd, if_neg (by omega), upd, if_neg (by omega), upd, if_neg (by omega)]
    exact r
  · rw [lo 2 (by omega)]; exact k2
  · unfold dotF; rw [upd, if_neg (by omega), upd, if_pos rfl]
  · unfold dotF; rw [upd, if_pos rfl]
theorem dot_cov (raw : Nat → Int) (x y z a b : Int) (hx : W30 x) (hy : W30 y) (z1 : 0 ≤ z) (z2 : z ≤ 22) (wa : W30 a) (wb : W30 b) : Cov (dotF raw x y) z a b = near x y (mk (upd raw 2 1) 6 * un z) a b := by
  obtain ⟨hR, h2, h8, h16, h6, _⟩ := dot_rt raw x y hx hy
  rw [Cov_eq (right_in hR) z1 z2 wa wb]
  unfold cov
  rw [if_pos h2, h8, h16, h6]
theorem cov_out (f : Nat → Int) (z a b : Int) (h : ¬ (0 ≤ a ∧ a ≤ 1073741824) ∨ ¬ (0 ≤ b ∧ b ≤ 1073741824)) : Cov f z a b = false := by
  unfold Cov
  rcases h with h | h
  · have : inR a 0 1073741824 = false := by simp only [inR, decide_eq_false_iff_not]; exact h
    simp [this]
  · have : inR b 0 1073741824 = false := by simp only [inR, decide_eq_false_iff_not]; exact h
    simp [this]
theorem near_row (x y r d : Int) (hr : 0 ≤ r) (hd : 0 ≤ d) : near x y r (x + d) y = decide (d ≤ r) ∧ near x y r (x - d) y = decide (d ≤ r) ∧ near x y r x (y + d) = decide (d ≤ r) ∧ near x y r x (y - d) = decide (d ≤ r) := by
  have s := sq_le d r hd hr
  have e1 : (x + d - x) * (x + d - x) + (y - y) * (y - y) = d * d := by rw [show x + d - x = d by omega, Int.sub_self, Int.zero_mul, Int.add_zero]
  have e2 : (x - d - x) * (x - d - x) + (y - y) * (y - y) = d * d := by rw [show x - d - x = -d by omega, Int.sub_self, Int.zero_mul, Int.add_zero, Int.neg_mul_neg]
  have e3 : (x - x) * (x - x) + (y + d - y) * (y + d - y) = d * d := by rw [show y + d - y = d by omega, Int.sub_self, Int.zero_mul, Int.zero_add]
  have e4 : (x - x) * (x - x) + (y - d - y) * (y - d - y) = d * d := by rw [show y - d - y = -d by omega, Int.sub_self, Int.zero_mul, Int.zero_add, Int.neg_mul_neg]
  unfold near
  rw [e1, e2, e3, e4]
  refine ⟨?_, ?_, ?_, ?_⟩ <;> (rw [decide_eq_decide]; exact s)
theorem dot_all (raw : Nat → Int) (x y z d : Int) (hx : W30 x) (hy : W30 y) (z1 : 0 ≤ z) (z2 : z ≤ 22) (hd : 0 ≤ d) (R : Int) (hR : mk (upd raw 2 1) 6 * un z = R) :
    Cov (dotF raw x y) z (x + d) y = decide (d ≤ R ∧ x + d ≤ 1073741824) ∧ Cov (dotF raw x y) z x (y - d) = decide (d ≤ R ∧ 0 ≤ y - d) ∧ Cov (dotF raw x y) z (x - d) y = decide (d ≤ R ∧ 0 ≤ x - d) ∧ Cov (dotF raw x y) z x (y + d) = decide (d ≤ R ∧ y + d ≤ 1073741824) := by
  obtain ⟨u1, u2⟩ := un_in z z1 z2
  obtain ⟨_, _, _, _, _, s1, s2⟩ := dot_rt raw x y hx hy
  have hr : 0 ≤ R := by rw [← hR]; exact Int.mul_nonneg (by omega) (by omega)
  obtain ⟨n1, n2, n3, n4⟩ := near_row x y R d hr hd
  have hx' := hx
  have hy' := hy
  unfold W30 at hx' hy'
  refine ⟨?_, ?_, ?_, ?_⟩
  · by_cases h : x + d ≤ 1073741824
    · rw [dot_cov raw x y z _ _ hx hy z1 z2 ⟨by omega, h⟩ hy, hR, n1]; simp [h]
    · rw [cov_out _ _ _ _ (Or.inl (by omega))]; simp [h]
  · by_cases h : 0 ≤ y - d
    · rw [dot_cov raw x y z _ _ hx hy z1 z2 hx ⟨h, by omega⟩, hR, n4, decide_eq_decide]; omega
    · rw [cov_out _ _ _ _ (Or.inr (by omega))]; symm; rw [decide_eq_false_iff_not]; omega
  · by_cases h : 0 ≤ x - d
    · rw [dot_cov raw x y z _ _ hx hy z1 z2 ⟨h, by omega⟩ hy, hR, n2, decide_eq_decide]; omega
    · rw [cov_out _ _ _ _ (Or.inl (by omega))]; symm; rw [decide_eq_false_iff_not]; omega
  · by_cases h : y + d ≤ 1073741824
    · rw [dot_cov raw x y z _ _ hx hy z1 z2 hx ⟨by omega, h⟩, hR, n3]; simp [h]
    · rw [cov_out _ _ _ _ (Or.inr (by omega))]; simp [h]
end Go.Proofs.Ytacjjjjbfjkohaa
