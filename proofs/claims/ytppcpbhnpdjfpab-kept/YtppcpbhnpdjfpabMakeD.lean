/-
  What is made is right; upright boxes; dots along a row and a column.
-/
import Derived.Test.YtppcpbhnpdjfpabMakeC
namespace Go.Proofs.Ytppcpbhnpdjfpab
open Go.RowKit

theorem right_in {f : Nat → Int} (h : Rt f) : right f = true := by
  have hp : pts f 8 = true := by
    simp only [pts, List.all_eq_true, List.mem_range]
    intro i hi
    refine pt_t rfl rfl rfl (inR_t (h.px i hi).1 (h.px i hi).2) (inR_t (h.py i hi).1 (h.py i hi).2) ?_
    by_cases hn : f 7 ≤ (i : Int)
    · exact Or.inr (h.rest i hi hn)
    · exact Or.inl (by omega)
  have hf : form f = true := by
    unfold form
    rcases h.kind with ⟨a, b, c, d⟩ | ⟨a, b, c, d⟩
    · rw [if_pos a, inR_t c d]; simp [b]
    · rw [if_neg (by omega), if_pos a, inR_t b c]; simp [d]
  simp [right, traits, hp, hf, inR_t h.id.1 h.id.2, inR_t h.la.1 h.la.2, inR_t h.ink.1 h.ink.2, inR_t h.rk.1 h.rk.2, inR_t h.fr.1 h.fr.2]

theorem mkS_lo (f : Nat → Int) (j : Nat) (hj : j < 8) : ∀ k, mkS f k j = mk0 f j
  | 0 => rfl
  | k + 1 => by
    rw [mkS, upd, if_neg (by omega), upd, if_neg (by omega)]
    exact mkS_lo f j hj k
theorem base_hi (f : Nat → Int) (j : Nat) (hj : 6 ≤ j) : base f j = 0 := by
  unfold base
  rw [if_neg (by omega), if_neg (by omega), if_neg (by omega), if_neg (by omega), if_neg (by omega), if_neg (by omega)]
theorem mk0_hi (f : Nat → Int) (j : Nat) (hj : 8 ≤ j) : mk0 f j = 0 := by
  unfold mk0
  split
  · rw [upd, if_neg (by omega), upd, if_neg (by omega)]; exact base_hi f j (by omega)
  · rw [upd, if_neg (by omega)]; exact base_hi f j (by omega)
theorem mkS_x (f : Nat → Int) (i : Nat) (hi : i < 8) : ∀ k, k ≤ 8 → mkS f k (8 + i) = if i < k then pk (f (8 + i)) 1073741825 else 0
  | 0, _ => by rw [if_neg (by omega)]; exact mk0_hi f _ (by omega)
  | k + 1, h => by
    rw [mkS, upd, if_neg (by omega), upd]
    by_cases e : 8 + i = 8 + k
    · rw [if_pos e, if_pos (by omega), e]
    · rw [if_neg e, mkS_x f i hi k (by omega)]
      by_cases e' : i < k
      · rw [if_pos e', if_pos (by omega)]
      · rw [if_neg e', if_neg (by omega)]
theorem mkS_y (f : Nat → Int) (i : Nat) (hi : i < 8) : ∀ k, k ≤ 8 → mkS f k (16 + i) = if i < k then pk (f (16 + i)) 1073741825 else 0
  | 0, _ => by rw [if_neg (by omega)]; exact mk0_hi f _ (by omega)
  | k + 1, h => by
    rw [mkS, upd]
    by_cases e : 16 + i = 16 + k
    · rw [if_pos e, if_pos (by omega), e]
    · rw [if_neg e, upd, if_neg (by omega), mkS_y f i hi k (by omega)]
      by_cases e' : i < k
      · rw [if_pos e', if_pos (by omega)]
      · rw [if_neg e', if_neg (by omega)]
theorem mk0_lo (f : Nat → Int) (j : Nat) (hj : j < 6) : mk0 f j = base f j := by
  unfold mk0
  split
  · rw [upd, if_neg (by omega), upd, if_neg (by omega)]
  · rw [upd, if_neg (by omega)]
theorem mk_lo (f : Nat → Int) (j : Nat) (hj : j < 6) : mk f j = base f j := (mkS_lo f j (by omega) _).trans (mk0_lo f j hj)
theorem mk_rt (f : Nat → Int) : Rt (mk f) := by
  have n := mkN_in f
  have W : ∀ c : Int, W30 (pk c 1073741825) := fun c => by have := pk_in c (n := 1073741825) (by omega); unfold W30; omega
  have q0 := pk_in (f 0) (n := 1000) (by omega)
  have q1 := pk_in (f 1) (n := 4) (by omega)
  have q2 := pk_in (f 2) (n := 2) (by omega)
  have q3 := pk_in (f 3) (n := 15) (by omega)
  have q4 := pk_in (f 4) (n := 10) (by omega)
  have q5 := pk_in (f 5) (n := 23) (by omega)
  have q6 := pk_in (f 6) (n := 3) (by omega)
  have q7 := pk_in (f 7) (n := 6) (by omega)
  have e7 : mk f 7 = mkN f := mkS_7 f _
  refine ⟨?_, ?_, ?_, ?_, ?_, ?_, fun i hi => ?_, fun i hi => ?_, fun i hi hn => ?_⟩
  · rw [mk_lo f 0 (by omega)]; simp [base]; omega
  · rw [mk_lo f 1 (by omega)]; simp [base]; omega
  · rw [mk_lo f 3 (by omega)]; simp [base]; omega
  · rw [mk_lo f 4 (by omega)]; simp [base]; omega
  · rw [mk_lo f 5 (by omega)]; simp [base]; omega
  · rw [mk_lo f 2 (by omega), e7, show mk f 6 = mk0 f 6 from mkS_lo f 6 (by omega) _]
    have e2 : base f 2 = pk (f 2) 2 := by simp [base]
    rw [e2]
    unfold mk0 mkN
    by_cases h : pk (f 2) 2 = 1
    · right
      simp only [if_pos h, upd]
      simp; omega
    · left
      simp only [if_neg h, upd]
      simp [base]; omega
  · rw [show mk f (8 + i) = _ from mkS_x f i hi _ (by omega)]
    split
    · exact W _
    · unfold W30; omega
  · rw [show mk f (16 + i) = _ from mkS_y f i hi _ (by omega)]
    split
    · exact W _
    · unfold W30; omega
  · rw [e7] at hn
    rw [show mk f (8 + i) = _ from mkS_x f i hi _ (by omega), show mk f (16 + i) = _ from mkS_y f i hi _ (by omega), if_neg (by omega), if_neg (by omega)]
    exact ⟨rfl, rfl⟩
theorem ar_rt {raw : Nat → Int} {n : Nat} {X Y G : Nat → Int} (h : Ar raw n X Y 8 G) (hn : 3 ≤ n ∧ n ≤ 8) (hX : ∀ i, i < n → W30 (X i)) (hY : ∀ i, i < n → W30 (Y i)) : Rt G ∧ G 2 = 0 := by
  have m := mk_rt (upd (upd raw 2 0) 7 0)
  have l := h.lo
  have k2 : Go.Proofs.Ytppcpbhnpdjfpab.mk (upd (upd raw 2 0) 7 0) 2 = 0 := by
    rw [mk_lo _ 2 (by omega)]; simp [base, upd, pk]
  have k6 : Go.Proofs.Ytppcpbhnpdjfpab.mk (upd (upd raw 2 0) 7 0) 6 = 0 := by
    rcases m.kind with ⟨_, b, _⟩ | ⟨a, _⟩
    · exact b
    · omega
  have z : ∀ v : Int, v = 0 → W30 v := fun v e => by subst e; unfold W30; omega
  refine ⟨⟨?_, ?_, ?_, ?_, ?_, Or.inl ⟨?_, ?_, ?_⟩, fun i hi => ?_, fun i hi => ?_, fun i hi hi' => ?_⟩, (l 2 (by omega)).trans k2⟩
  · rw [l 0 (by omega)]; exact m.id
  · rw [l 1 (by omega)]; exact m.la
  · rw [l 3 (by omega)]; exact m.ink
  · rw [l 4 (by omega)]; exact m.rk
  · rw [l 5 (by omega)]; exact m.fr
  · rw [l 2 (by omega), k2]
  · rw [l 6 (by omega), k6]
  · rw [h.n7]; omega
  · rw [h.px i hi]
    split
    · exact hX i (by assumption)
    · exact z _ rfl
  · rw [h.py i hi]
    split
    · exact hY i (by assumption)
    · exact z _ rfl
  · rw [h.n7] at hi'
    rw [h.px i hi, h.py i hi, if_neg (by omega), if_neg (by omega)]
    exact ⟨rfl, rfl⟩

/-! Upright boxes. -/
theorem cnt_h (a b Y x y : Int) : cnt a Y b Y x y = false := by unfold cnt; rw [if_neg (by omega), if_neg (by omega)]
theorem mul_pos_iff (a b : Int) (hb : 0 < b) : a * b < 0 ↔ a < 0 := by
  constructor
  · intro h
    refine Classical.byContradiction fun hn => ?_
    have := Int.mul_nonneg (show 0 ≤ a by omega) (show 0 ≤ b by omega)
    omega
  · intro h
    exact Int.mul_neg_of_neg_of_pos h hb
theorem cnt_v (X t s x y : Int) (h : t ≤ s) : cnt X t X s x y = decide (t ≤ y ∧ y < s ∧ x < X) := by
  unfold cnt
  by_cases h1 : t ≤ y ∧ y < s
  · rw [if_pos h1, Bool.eq_iff_iff, decide_eq_true_eq, decide_eq_true_eq, show (X - X) * (y - t) = 0 by rw [Int.sub_self, Int.zero_mul], mul_pos_iff _ _ (by omega)]
    omega
  · rw [if_neg h1, if_neg (by omega)]
    symm; rw [decide_eq_false_iff_not]; omega
theorem cnt_v' (X t s x y : Int) (h : t ≤ s) : cnt X s X t x y = decide (t ≤ y ∧ y < s ∧ x < X) := by
  unfold cnt
  by_cases h1 : t ≤ y ∧ y < s
  · rw [if_neg (by omega), if_pos h1, Bool.eq_iff_iff, decide_eq_true_eq, decide_eq_true_eq, show (X - X) * (y - t) = 0 by rw [Int.sub_self, Int.zero_mul], mul_pos_iff _ _ (by omega)]
    omega
  · rw [if_neg (by omega), if_neg h1]
    symm; rw [decide_eq_false_iff_not]; omega
/-- Corner j of the box; which corner comes i-th. -/
def bxX (l e : Int) (j : Nat) : Int := if j = 0 then l else if j = 1 then e else if j = 2 then e else l
def bxY (t s : Int) (j : Nat) : Int := if j = 0 then t else if j = 1 then t else if j = 2 then s else s
def bxJ (turn : Int) (i : Nat) : Nat := if turn < 0 then 3 - ((pk turn 4).toNat + i) % 4 else ((pk turn 4).toNat + i) % 4
theorem box_par (l e t s x y turn : Int) (G : Nat → Int) (hl : l ≤ e) (ht : t ≤ s) (hx : ∀ i, i < 4 → G (8 + i) = bxX l e (bxJ turn i)) (hy : ∀ i, i < 4 → G (16 + i) = bxY t s (bxJ turn i)) :
    par G 4 x y 4 = decide (l ≤ x ∧ x < e ∧ t ≤ y ∧ y < s) := by
  have x0 := hx 0 (by omega)
  have x1 := hx 1 (by omega)
  have x2 := hx 2 (by omega)
  have x3 := hx 3 (by omega)
  have y0 := hy 0 (by omega)
  have y1 := hy 1 (by omega)
  have y2 := hy 2 (by omega)
  have y3 := hy 3 (by omega)
  have hq := pk_in turn (n := 4) (by omega)
  obtain ⟨q, hq'⟩ : ∃ q : Nat, pk turn 4 = (q : Int) := ⟨(pk turn 4).toNat, by omega⟩
  have hq4 : q < 4 := by omega
  unfold bxJ at x0 x1 x2 x3 y0 y1 y2 y3
  rw [hq', Int.toNat_natCast] at x0 x1 x2 x3 y0 y1 y2 y3
  have fin : (decide (t ≤ y ∧ y < s ∧ x < l) != decide (t ≤ y ∧ y < s ∧ x < e)) = decide (l ≤ x ∧ x < e ∧ t ≤ y ∧ y < s) := by
    by_cases a1 : t ≤ y ∧ y < s <;> by_cases a2 : x < l <;> by_cases a3 : x < e <;> simp [a1, a2, a3] <;> omega
  have fin' : (decide (t ≤ y ∧ y < s ∧ x < e) != decide (t ≤ y ∧ y < s ∧ x < l)) = decide (l ≤ x ∧ x < e ∧ t ≤ y ∧ y < s) := by
    rw [← fin]; cases decide (t ≤ y ∧ y < s ∧ x < l) <;> cases decide (t ≤ y ∧ y < s ∧ x < e) <;> rfl
  by_cases hneg : turn < 0
  · simp only [if_pos hneg] at x0 x1 x2 x3 y0 y1 y2 y3
    have : q = 0 ∨ q = 1 ∨ q = 2 ∨ q = 3 := by omega
    rcases this with rfl | rfl | rfl | rfl <;>
      simp [bxX, bxY] at x0 x1 x2 x3 y0 y1 y2 y3 <;>
      simp [par, edge, x0, x1, x2, x3, y0, y1, y2, y3, cnt_h, cnt_v _ _ _ _ _ ht, cnt_v' _ _ _ _ _ ht, -Bool.decide_and] <;>
      first | exact fin | exact fin'
  · simp only [if_neg hneg] at x0 x1 x2 x3 y0 y1 y2 y3
    have : q = 0 ∨ q = 1 ∨ q = 2 ∨ q = 3 := by omega
    rcases this with rfl | rfl | rfl | rfl <;>
      simp [bxX, bxY] at x0 x1 x2 x3 y0 y1 y2 y3 <;>
      simp [par, edge, x0, x1, x2, x3, y0, y1, y2, y3, cnt_h, cnt_v _ _ _ _ _ ht, cnt_v' _ _ _ _ _ ht, -Bool.decide_and] <;>
      first | exact fin | exact fin'
theorem sq_le (a b : Int) (ha : 0 ≤ a) (hb : 0 ≤ b) : a * a ≤ b * b ↔ a ≤ b := by
  constructor
  · intro h
    refine Classical.byContradiction fun hn => ?_
    have h1 : b * b ≤ b * a := Int.mul_le_mul_of_nonneg_left (by omega) hb
    have h2 : b * a < a * a := Int.mul_lt_mul_of_pos_right (by omega) (by omega)
    omega
  · intro h
    exact Int.mul_le_mul h h ha hb
end Go.Proofs.Ytppcpbhnpdjfpab
