/-
  Triangles: what lies inside, what lies outside; an area as the fan of its triangles.
-/
import Derived.Test.YtacjjjjbfjkohaaMakeD
namespace Go.Proofs.Ytacjjjjbfjkohaa
open Go.RowKit

/-- On which side of the line from a to b is the point? -/
def crs (ax ay bx yb x y : Int) : Int := (bx - ax) * (y - ay) - (yb - ay) * (x - ax)
/-- Does an edge count whose ends lie v and q below the point, g being the side on which the point lies? -/
def eg (v q g : Int) : Bool := if v ≤ 0 ∧ 0 < q then decide (0 < g) else if q ≤ 0 ∧ 0 < v then decide (g < 0) else false

theorem cnt_eg (ax ay bx yb x y : Int) : cnt ax ay bx yb x y = eg (ay - y) (yb - y) (crs ax ay bx yb x y) := by
  unfold cnt eg crs
  by_cases h1 : ay ≤ y ∧ y < yb
  · rw [if_pos h1, if_pos (by omega), decide_eq_decide, Int.mul_comm (x - ax)]
    omega
  · rw [if_neg h1, if_neg (c := ay - y ≤ 0 ∧ 0 < yb - y) (by omega)]
    by_cases h2 : yb ≤ y ∧ y < ay
    · rw [if_pos h2, if_pos (by omega), decide_eq_decide]
      simp only [Int.mul_sub, Int.mul_comm]
      omega
    · rw [if_neg h2, if_neg (by omega)]
theorem eg_sym (v q g : Int) : eg v q g = eg q v (-g) := by
  unfold eg
  by_cases h1 : v ≤ 0 ∧ 0 < q
  · rw [if_pos h1, if_neg (by omega), if_pos (by omega), decide_eq_decide]; omega
  · rw [if_neg h1]
    by_cases h2 : q ≤ 0 ∧ 0 < v
    · rw [if_pos h2, if_pos (by omega), decide_eq_decide]; omega
    · rw [if_neg h2, if_neg (by omega), if_neg (by omega)]
theorem crs_sym (ax ay bx yb x y : Int) : crs bx yb ax ay x y = - crs ax ay bx yb x y := by
  unfold crs
  simp only [Int.mul_sub, Int.mul_comm]
  omega
theorem cnt_sym (ax ay bx yb x y : Int) : cnt ax ay bx yb x y = cnt bx yb ax ay x y := by
  rw [cnt_eg, cnt_eg, eg_sym, crs_sym, Int.neg_neg]
theorem crs_sum (ax ay bx yb cx cy x y : Int) : crs ax ay bx yb x y + crs bx yb cx cy x y + crs cx cy ax ay x y = crs ax ay bx yb cx cy := by
  unfold crs
  simp only [Int.mul_sub, Int.mul_comm]
  omega
theorem crs_bal (ax ay bx yb cx cy x y : Int) : crs bx yb cx cy x y * (ay - y) + crs cx cy ax ay x y * (yb - y) + crs ax ay bx yb x y * (cy - y) = 0 := by
  unfold crs
  simp only [Int.mul_sub, Int.mul_comm, Int.mul_left_comm]
  omega

theorem sgn_pp {a b : Int} (ha : 0 ≤ a) (hb : 0 ≤ b) : 0 ≤ a * b := Int.mul_nonneg ha hb
theorem sgn_pn {a b : Int} (ha : 0 ≤ a) (hb : b ≤ 0) : a * b ≤ 0 := Int.mul_nonpos_of_nonneg_of_nonpos ha hb
theorem sgn_np {a b : Int} (ha : a ≤ 0) (hb : 0 ≤ b) : a * b ≤ 0 := Int.mul_nonpos_of_nonpos_of_nonneg ha hb
theorem sgn_nn {a b : Int} (ha : a ≤ 0) (hb : b ≤ 0) : 0 ≤ a * b := Int.mul_nonneg_of_nonpos_of_nonpos ha hb
theorem sgn_PP {a b : Int} (ha : 0 < a) (hb : 0 < b) : 0 < a * b := Int.mul_pos ha hb
theorem sgn_NP {a b : Int} (ha : a < 0) (hb : 0 < b) : a * b < 0 := Int.mul_neg_of_neg_of_pos ha hb

/-- One corner alone on its side of the level line: the two edges that lead to it lie on different sides of the point. -/
theorem opp {w w1 w2 h h1 h2 : Int} (hs : 0 < w + w1 + w2) (hn : w < 0 ∨ w1 < 0 ∨ w2 < 0) (hb : w1 * h1 + w * h + w2 * h2 = 0) (hh : (0 < h ∧ h1 ≤ 0 ∧ h2 ≤ 0) ∨ (h ≤ 0 ∧ 0 < h1 ∧ 0 < h2)) : (0 < w1 ∧ w2 < 0) ∨ (w1 < 0 ∧ 0 < w2) := by
  refine Classical.byContradiction fun hc => ?_
  have hcase : (0 ≤ w1 ∧ 0 ≤ w2) ∨ (w1 ≤ 0 ∧ w2 ≤ 0) := by omega
  rcases hh with ⟨a, b, c⟩ | ⟨a, b, c⟩
  · rcases hcase with ⟨p, q⟩ | ⟨p, q⟩
    · have t1 := sgn_pn p b
      have t2 := sgn_pn q c
      have t3 := sgn_NP (show w < 0 by omega) a
      omega
    · have t1 := sgn_nn p b
      have t2 := sgn_nn q c
      have t3 := sgn_PP (show 0 < w by omega) a
      omega
  · rcases hcase with ⟨p, q⟩ | ⟨p, q⟩
    · have t3 := sgn_nn (show w ≤ 0 by omega) a
      rcases Int.lt_or_eq_of_le p with p' | p'
      · have t1 := sgn_PP p' b
        have t2 := sgn_pp q (show 0 ≤ h2 by omega)
        omega
      · rcases Int.lt_or_eq_of_le q with q' | q'
        · have t1 := sgn_pp p (show 0 ≤ h1 by omega)
          have t2 := sgn_PP q' c
          omega
        · omega
    · have t3 := sgn_pn (show 0 ≤ w by omega) a
      rcases Int.lt_or_eq_of_le p with p' | p'
      · have t1 := sgn_NP p' b
        have t2 := sgn_np q (show 0 ≤ h2 by omega)
        omega
      · rcases Int.lt_or_eq_of_le q with q' | q'
        · have t1 := sgn_np p (show 0 ≤ h1 by omega)
          have t2 := sgn_NP q' c
          omega
        · omega
/-- The corners on a line. -/
theorem opp0 {w w1 w2 h h1 h2 : Int} (hs : w + w1 + w2 = 0) (hb : w1 * h1 + w * h + w2 * h2 = 0) (hh : (0 < h ∧ h1 ≤ 0 ∧ h2 ≤ 0) ∨ (h ≤ 0 ∧ 0 < h1 ∧ 0 < h2)) : (0 < w1 ∧ w2 < 0) ∨ (w1 < 0 ∧ 0 < w2) ∨ (w1 = 0 ∧ w2 = 0) := by
  have e : w1 * (h1 - h) + w2 * (h2 - h) = 0 := by
    have : w = -w1 - w2 := by omega
    subst this
    simp only [Int.mul_sub, Int.sub_mul, Int.neg_mul] at hb ⊢
    omega
  refine Classical.byContradiction fun hc => ?_
  have hcase : (0 ≤ w1 ∧ 0 ≤ w2 ∧ (0 < w1 ∨ 0 < w2)) ∨ (w1 ≤ 0 ∧ w2 ≤ 0 ∧ (w1 < 0 ∨ w2 < 0)) := by omega
  rcases hh with ⟨a, b, c⟩ | ⟨a, b, c⟩
  · have d1 : 0 < h - h1 := by omega
    have d2 : 0 < h - h2 := by omega
    have e' : w1 * (h - h1) + w2 * (h - h2) = 0 := by simp only [Int.mul_sub] at e ⊢; omega
    rcases hcase with ⟨p, q, r | r⟩ | ⟨p, q, r | r⟩
    · have := sgn_PP r d1; have := sgn_pp q (Int.le_of_lt d2); omega
    · have := sgn_PP r d2; have := sgn_pp p (Int.le_of_lt d1); omega
    · have := sgn_NP r d1; have := sgn_np q (Int.le_of_lt d2); omega
    · have := sgn_NP r d2; have := sgn_np p (Int.le_of_lt d1); omega
  · have d1 : 0 < h1 - h := by omega
    have d2 : 0 < h2 - h := by omega
    rcases hcase with ⟨p, q, r | r⟩ | ⟨p, q, r | r⟩
    · have := sgn_PP r d1; have := sgn_pp q (Int.le_of_lt d2); omega
    · have := sgn_PP r d2; have := sgn_pp p (Int.le_of_lt d1); omega
    · have := sgn_NP r d1; have := sgn_np q (Int.le_of_lt d2); omega
    · have := sgn_NP r d2; have := sgn_np p (Int.le_of_lt d1); omega

/-- Three edges: v, q, s how far the corners lie below the point; a, b, c the sides of the edges. -/
def x3 (v q s a b c : Int) : Bool := (eg v q a != eg q s b) != eg s v c
theorem x3_even {v q s a b c : Int} (H : ∀ w w1 w2 h h1 h2 : Int, ((w, w1, w2, h, h1, h2) = (c, a, b, q, s, v) ∨ (w, w1, w2, h, h1, h2) = (a, b, c, s, v, q) ∨ (w, w1, w2, h, h1, h2) = (b, c, a, v, q, s)) →
      ((0 < h ∧ h1 ≤ 0 ∧ h2 ≤ 0) ∨ (h ≤ 0 ∧ 0 < h1 ∧ 0 < h2)) → (0 < w1 ∧ w2 < 0) ∨ (w1 < 0 ∧ 0 < w2) ∨ (w1 = 0 ∧ w2 = 0)) : x3 v q s a b c = false := by
  have hB := H c a b q s v (Or.inl rfl)
  have hC := H a b c s v q (Or.inr (Or.inl rfl))
  have hA := H b c a v q s (Or.inr (Or.inr rfl))
  unfold x3 eg
  by_cases hv : v ≤ 0 <;> by_cases hq : q ≤ 0 <;> by_cases hs : s ≤ 0
  · simp [hv, hq, hs, Int.not_lt.2 hv, Int.not_lt.2 hq, Int.not_lt.2 hs]
  · have t := hC (Or.inl ⟨by omega, hv, hq⟩)
    simp [hv, hq, hs, Int.not_lt.2 hv, Int.not_lt.2 hq, Int.not_le.1 hs]
    omega
  · have t := hB (Or.inl ⟨by omega, hs, hv⟩)
    simp [hv, hq, hs, Int.not_lt.2 hv, Int.not_lt.2 hs, Int.not_le.1 hq]
    omega
  · have t := hA (Or.inr ⟨hv, by omega, by omega⟩)
    simp [hv, hq, hs, Int.not_lt.2 hv, Int.not_le.1 hq, Int.not_le.1 hs]
    omega
  · have t := hA (Or.inl ⟨by omega, hq, hs⟩)
    simp [hv, hq, hs, Int.not_le.1 hv, Int.not_lt.2 hq, Int.not_lt.2 hs]
    omega
  · have t := hB (Or.inr ⟨hq, by omega, by omega⟩)
    simp [hv, hq, hs, Int.not_le.1 hv, Int.not_lt.2 hq, Int.not_le.1 hs]
    omega
  · have t := hC (Or.inr ⟨hs, by omega, by omega⟩)
    simp [hv, hq, hs, Int.not_le.1 hv, Int.not_le.1 hq, Int.not_lt.2 hs]
    omega
  · simp [hv, hq, hs]
/-- A point inside: its sides all alike. -/
theorem x3_odd {v q s a b c : Int} (hs : (0 < a ∧ 0 < b ∧ 0 < c) ∨ (a < 0 ∧ b < 0 ∧ c < 0)) (hup : ¬ (v ≤ 0 ∧ q ≤ 0 ∧ s ≤ 0)) (hdn : ¬ (0 < v ∧ 0 < q ∧ 0 < s)) : x3 v q s a b c = true := by
  unfold x3 eg
  rcases hs with ⟨ha, hb, hc⟩ | ⟨ha, hb, hc⟩
  · by_cases hv : v ≤ 0 <;> by_cases hq : q ≤ 0 <;> by_cases hs : s ≤ 0 <;>
      simp [hv, hq, hs, Int.not_lt.2, Int.not_le.1, ha, hb, hc, Int.not_lt.2 (Int.le_of_lt ha), Int.not_lt.2 (Int.le_of_lt hb), Int.not_lt.2 (Int.le_of_lt hc)] <;> omega
  · by_cases hv : v ≤ 0 <;> by_cases hq : q ≤ 0 <;> by_cases hs : s ≤ 0 <;>
      simp [hv, hq, hs, Int.not_lt.2, Int.not_le.1, ha, hb, hc, Int.not_lt.2 (Int.le_of_lt ha), Int.not_lt.2 (Int.le_of_lt hb), Int.not_lt.2 (Int.le_of_lt hc)] <;> omega
end Go.Proofs.Ytacjjjjbfjkohaa
