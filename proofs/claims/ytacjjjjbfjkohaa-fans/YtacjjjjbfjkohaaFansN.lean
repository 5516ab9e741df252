/-
  A triangle covers what lies inside it and nothing that lies outside; an area is the fan of its triangles.
-/
import Derived.Test.YtacjjjjbfjkohaaFansM
import Derived.Test.YtacjjjjbfjkohaaInkD
namespace Go.Proofs.Ytacjjjjbfjkohaa
open Go.RowKit

def sgn (n : Int) : Int := if 0 < n then 1 else if n < 0 then -1 else 0
theorem sgn_cases (n : Int) : (0 < n ∧ sgn n = 1) ∨ (n < 0 ∧ sgn n = -1) ∨ (n = 0 ∧ sgn n = 0) := by
  unfold sgn
  by_cases h : 0 < n
  · rw [if_pos h]; exact Or.inl ⟨h, rfl⟩
  · rw [if_neg h]
    by_cases g : n < 0
    · rw [if_pos g]; exact Or.inr (Or.inl ⟨g, rfl⟩)
    · rw [if_neg g]; exact Or.inr (Or.inr ⟨by omega, rfl⟩)

/-- The three edges of a triangle. -/
def tri (ax ay bx yb cx cy x y : Int) : Bool := (cnt ax ay bx yb x y != cnt bx yb cx cy x y) != cnt cx cy ax ay x y
theorem tri_x3 (ax ay bx yb cx cy x y : Int) : tri ax ay bx yb cx cy x y = x3 (ay - y) (yb - y) (cy - y) (crs ax ay bx yb x y) (crs bx yb cx cy x y) (crs cx cy ax ay x y) := by
  unfold tri x3
  rw [cnt_eg, cnt_eg, cnt_eg]

theorem opp' {w w1 w2 h h1 h2 : Int} (hs : (0 < w + w1 + w2 ∧ (w < 0 ∨ w1 < 0 ∨ w2 < 0)) ∨ (w + w1 + w2 < 0 ∧ (0 < w ∨ 0 < w1 ∨ 0 < w2)) ∨ w + w1 + w2 = 0) (hb : w1 * h1 + w * h + w2 * h2 = 0) (hh : (0 < h ∧ h1 ≤ 0 ∧ h2 ≤ 0) ∨ (h ≤ 0 ∧ 0 < h1 ∧ 0 < h2)) : (0 < w1 ∧ w2 < 0) ∨ (w1 < 0 ∧ 0 < w2) ∨ (w1 = 0 ∧ w2 = 0) := by
  rcases hs with ⟨s, n⟩ | ⟨s, n⟩ | s
  · have := opp s n hb hh
    omega
  · have := opp (w := -w) (w1 := -w1) (w2 := -w2) (h := h) (h1 := h1) (h2 := h2) (by omega) (by omega) (by simp only [Int.neg_mul]; omega) hh
    omega
  · exact opp0 s hb hh

theorem tri_out (ax ay bx yb cx cy x y : Int) (h : (0 < crs ax ay bx yb cx cy ∧ (crs ax ay bx yb x y < 0 ∨ crs bx yb cx cy x y < 0 ∨ crs cx cy ax ay x y < 0)) ∨ (crs ax ay bx yb cx cy < 0 ∧ (0 < crs ax ay bx yb x y ∨ 0 < crs bx yb cx cy x y ∨ 0 < crs cx cy ax ay x y)) ∨ crs ax ay bx yb cx cy = 0) :
    tri ax ay bx yb cx cy x y = false := by
  have e1 := crs_sum ax ay bx yb cx cy x y
  have e2 := crs_bal ax ay bx yb cx cy x y
  rw [tri_x3]
  rw [← e1] at h
  generalize crs ax ay bx yb x y = a at h e2 ⊢
  generalize crs bx yb cx cy x y = b at h e2 ⊢
  generalize crs cx cy ax ay x y = c at h e2 ⊢
  clear e1
  generalize ay - y = v at e2 ⊢
  generalize yb - y = q at e2 ⊢
  generalize cy - y = s at e2 ⊢
  refine x3_even fun w w1 w2 g g1 g2 hc hh => ?_
  rcases hc with hc | hc | hc
  all_goals
    simp only [Prod.mk.injEq] at hc
    obtain ⟨rfl, rfl, rfl, rfl, rfl, rfl⟩ := hc
    exact opp' (w := w) (w1 := w1) (w2 := w2) (h := g) (h1 := g1) (h2 := g2) (by omega) (by omega) hh

theorem tri_in (ax ay bx yb cx cy x y : Int) (h : (0 < crs ax ay bx yb x y ∧ 0 < crs bx yb cx cy x y ∧ 0 < crs cx cy ax ay x y) ∨ (crs ax ay bx yb x y < 0 ∧ crs bx yb cx cy x y < 0 ∧ crs cx cy ax ay x y < 0)) :
    tri ax ay bx yb cx cy x y = true := by
  have e2 := crs_bal ax ay bx yb cx cy x y
  have z : ay - y = 0 → yb - y = 0 → crs ax ay bx yb x y = 0 := fun p q => by
    unfold crs
    rw [show y - ay = 0 by omega, show yb - ay = 0 by omega]; simp
  rw [tri_x3]
  generalize crs ax ay bx yb x y = a at h e2 z ⊢
  generalize crs bx yb cx cy x y = b at h e2 ⊢
  generalize crs cx cy ax ay x y = c at h e2 ⊢
  generalize ay - y = v at e2 z ⊢
  generalize yb - y = q at e2 z ⊢
  generalize cy - y = s at e2 ⊢
  have h0 : ∀ {a b c v q s : Int}, (v = 0 → q = 0 → a = 0) → 0 < a → 0 < b → 0 < c → b * v + c * q + a * s = 0 → ¬ (v ≤ 0 ∧ q ≤ 0 ∧ s ≤ 0) ∧ ¬ (0 < v ∧ 0 < q ∧ 0 < s) := by
    intro a b c v q s z ha hb hc e
    refine ⟨fun ⟨p1, p2, p3⟩ => ?_, fun ⟨p1, p2, p3⟩ => ?_⟩
    · have t1 := sgn_pn (Int.le_of_lt hb) p1
      have t2 := sgn_pn (Int.le_of_lt hc) p2
      have t3 := sgn_pn (Int.le_of_lt ha) p3
      have u1 : v = 0 := by
        rcases Int.lt_or_eq_of_le p1 with g | g
        · have := sgn_NP g hb
          rw [Int.mul_comm] at this
          omega
        · exact g
      have u2 : q = 0 := by
        rcases Int.lt_or_eq_of_le p2 with g | g
        · have := sgn_NP g hc
          rw [Int.mul_comm] at this
          omega
        · exact g
      have := z u1 u2
      omega
    · have t1 := sgn_PP hb p1
      have t2 := sgn_PP hc p2
      have t3 := sgn_PP ha p3
      omega
  rcases h with ⟨ha, hb, hc⟩ | ⟨ha, hb, hc⟩
  · obtain ⟨u, d⟩ := h0 z ha hb hc e2
    exact x3_odd (Or.inl ⟨ha, hb, hc⟩) u d
  · obtain ⟨u, d⟩ := h0 (a := -a) (b := -b) (c := -c) (v := v) (q := q) (s := s) (fun p q => by have := z p q; omega) (by omega) (by omega) (by omega) (by simp only [Int.neg_mul]; omega)
    exact x3_odd (Or.inr ⟨ha, hb, hc⟩) u d

/-- What inner answers: 1 inside, 0 outside or on a line, -1 on an edge's line and not outside. -/
def inr (ax ay bx yb cx cy x y : Int) : Int :=
  if sgn (crs ax ay bx yb cx cy) = 0 then 0
  else if sgn (crs ax ay bx yb x y) = - sgn (crs ax ay bx yb cx cy) ∨ sgn (crs bx yb cx cy x y) = - sgn (crs ax ay bx yb cx cy) ∨ sgn (crs cx cy ax ay x y) = - sgn (crs ax ay bx yb cx cy) then 0
  else if sgn (crs ax ay bx yb x y) = 0 ∨ sgn (crs bx yb cx cy x y) = 0 ∨ sgn (crs cx cy ax ay x y) = 0 then -1 else 1
theorem inr_one (ax ay bx yb cx cy x y : Int) (h : inr ax ay bx yb cx cy x y = 1) : tri ax ay bx yb cx cy x y = true := by
  apply tri_in
  unfold inr at h
  have c0 := sgn_cases (crs ax ay bx yb cx cy)
  have c1 := sgn_cases (crs ax ay bx yb x y)
  have c2 := sgn_cases (crs bx yb cx cy x y)
  have c3 := sgn_cases (crs cx cy ax ay x y)
  split at h
  · omega
  · split at h
    · omega
    · split at h <;> omega
theorem inr_zero (ax ay bx yb cx cy x y : Int) (h : inr ax ay bx yb cx cy x y = 0) : tri ax ay bx yb cx cy x y = false := by
  apply tri_out
  unfold inr at h
  have c0 := sgn_cases (crs ax ay bx yb cx cy)
  have c1 := sgn_cases (crs ax ay bx yb x y)
  have c2 := sgn_cases (crs bx yb cx cy x y)
  have c3 := sgn_cases (crs cx cy ax ay x y)
  split at h
  · omega
  · split at h
    · omega
    · split at h <;> omega

/-- The first k triangles of an area's fan. -/
def trk (f : Nat → Int) (x y : Int) (k : Nat) : Bool := tri (f 8) (f 16) (f (8 + (k + 1))) (f (16 + (k + 1))) (f (8 + (k + 2))) (f (16 + (k + 2))) x y
def fan (f : Nat → Int) (x y : Int) : Nat → Bool
  | 0 => false
  | k + 1 => fan f x y k != trk f x y k
theorem fan_par (f : Nat → Int) (n : Int) (x y : Int) : ∀ k : Nat, (k : Int) + 1 < n → fan f x y k = (par f n x y (k + 1) != cnt (f (8 + (k + 1))) (f (16 + (k + 1))) (f 8) (f 16) x y)
  | 0, h => by
    have e : edge f n 0 x y = cnt (f 8) (f 16) (f (8 + (0 + 1))) (f (16 + (0 + 1))) x y := by
      unfold edge
      rw [if_neg (by omega)]
    rw [fan, par, par, e, cnt_sym (f 8)]
    simp
  | k + 1, h => by
    have ih := fan_par f n x y k (by omega)
    have e : edge f n (k + 1) x y = cnt (f (8 + (k + 1))) (f (16 + (k + 1))) (f (8 + (k + 2))) (f (16 + (k + 2))) x y := by
      unfold edge
      rw [if_neg (by omega)]
    rw [fan, ih, show par f n x y (k + 1 + 1) = (par f n x y (k + 1) != edge f n (k + 1) x y) from rfl, e, trk, tri, cnt_sym (f 8) (f 16)]
    generalize par f n x y (k + 1) = p
    generalize cnt (f (8 + (k + 1))) (f (16 + (k + 1))) (f 8) (f 16) x y = q
    generalize cnt (f (8 + (k + 1))) (f (16 + (k + 1))) (f (8 + (k + 2))) (f (16 + (k + 2))) x y = r
    show _ = ((p != r) != cnt (f (8 + (k + 2))) (f (16 + (k + 2))) (f 8) (f 16) x y)
    generalize cnt (f (8 + (k + 2))) (f (16 + (k + 2))) (f 8) (f 16) x y = s
    cases p <;> cases q <;> cases r <;> cases s <;> rfl
theorem fan_cov {f : Nat → Int} {z x y : Int} (hR : Rt f) (h2 : f 2 = 0) (k : Nat) (hk : f 7 = (k : Int) + 2) (z1 : 0 ≤ z) (z2 : z ≤ 22) (wx : W30 x) (wy : W30 y) : Cov f z x y = fan f x y k := by
  rw [Cov_eq (right_in hR) z1 z2 wx wy]
  unfold cov
  rw [if_neg (by omega), fan_par f (f 7) x y k (by omega), show (f 7).toNat = (k + 1) + 1 by omega, par]
  have e : edge f (f 7) (k + 1) x y = cnt (f (8 + (k + 1))) (f (16 + (k + 1))) (f 8) (f 16) x y := by
    unfold edge
    rw [if_pos (by omega)]
  rw [e]
theorem tri_cov {raw X Y G : Nat → Int} {z x y : Int} (hAr : Ar raw 3 X Y 8 G) (hX : ∀ i, i < 3 → W30 (X i)) (hY : ∀ i, i < 3 → W30 (Y i)) (z1 : 0 ≤ z) (z2 : z ≤ 22) (wx : W30 x) (wy : W30 y) : Cov G z x y = tri (X 0) (Y 0) (X 1) (Y 1) (X 2) (Y 2) x y := by
  obtain ⟨hR, h2⟩ := ar_rt hAr ⟨by omega, by omega⟩ hX hY
  have h7 : G 7 = 3 := hAr.n7
  rw [fan_cov hR h2 1 (by omega) z1 z2 wx wy]
  have px := fun i (h : i < 3) => (hAr.px i (by omega)).trans (if_pos h)
  have py := fun i (h : i < 3) => (hAr.py i (by omega)).trans (if_pos h)
  rw [fan, fan, trk]
  rw [show G 8 = X 0 from px 0 (by omega), show G 16 = Y 0 from py 0 (by omega), px 1 (by omega), px 2 (by omega), py 1 (by omega), py 2 (by omega)]
  simp
end Go.Proofs.Ytacjjjjbfjkohaa
