/-
  WHAT COVERS A POINT OF A SQUARE TOUCHES THE SQUARE; WHAT LIES ON TOP.
-/
import Derived.Test.YtppcpbhnpdjfpabInkD
import Derived.Test.YtppcpbhnpdjfpabMakeD
namespace Go.Proofs.Ytppcpbhnpdjfpab
open Go.RowKit

theorem cnt_left {ax ay bx yb x y : Int} (h1 : ax < x) (h2 : bx < x) : cnt ax ay bx yb x y = false := by
  have key : ∀ a p b q : Int, a < x → b < x → p ≤ y → y < q → ¬ (x - a) * (q - p) < (b - a) * (y - p) := by
    intro a p b q ha hb hp hq h
    have m1 : 0 < (x - a) * (q - y) := Int.mul_pos (by omega) (by omega)
    have m2 : 0 ≤ (x - b) * (y - p) := Int.mul_nonneg (by omega) (by omega)
    have e1 : (x - a) * (q - p) = (x - a) * (q - y) + (x - a) * (y - p) := by rw [← Int.mul_add]; congr 1; omega
    have e2 : (x - a) * (y - p) = (x - b) * (y - p) + (b - a) * (y - p) := by rw [← Int.add_mul]; congr 1; omega
    omega
  unfold cnt
  split
  · next h => exact decide_eq_false (key ax ay bx yb h1 h2 h.1 h.2)
  · split
    · next h => exact decide_eq_false (key bx yb ax ay h2 h1 h.1 h.2)
    · rfl
theorem cnt_right {ax ay bx yb x y : Int} (h1 : x < ax) (h2 : x < bx) : cnt ax ay bx yb x y = (decide (ay ≤ y) != decide (yb ≤ y)) := by
  have key : ∀ a p b q : Int, x < a → x < b → p ≤ y → y < q → (x - a) * (q - p) < (b - a) * (y - p) := by
    intro a p b q ha hb hp hq
    have m1 : 0 < (a - x) * (q - y) := Int.mul_pos (by omega) (by omega)
    have m2 : 0 ≤ (b - x) * (y - p) := Int.mul_nonneg (by omega) (by omega)
    have e1 : (x - a) * (q - p) = - ((a - x) * (q - y)) - (a - x) * (y - p) := by simp only [Int.mul_sub, Int.sub_mul]; omega
    have e2 : (b - a) * (y - p) = (b - x) * (y - p) - (a - x) * (y - p) := by rw [← Int.sub_mul]; congr 1; omega
    omega
  unfold cnt
  split
  · next h => rw [decide_eq_true (key ax ay bx yb h1 h2 h.1 h.2), decide_eq_true h.1, decide_eq_false (by omega : ¬ yb ≤ y)]; rfl
  · split
    · next h => rw [decide_eq_true (key bx yb ax ay h2 h1 h.1 h.2), decide_eq_true h.1, decide_eq_false (by omega : ¬ ay ≤ y)]; rfl
    · next h h' =>
      by_cases c : ay ≤ y
      · rw [decide_eq_true c, decide_eq_true (by omega : yb ≤ y)]; rfl
      · rw [decide_eq_false c, decide_eq_false (by omega : ¬ yb ≤ y)]; rfl
theorem cnt_off {ax ay bx yb x y : Int} (h : (ay < y ∧ yb < y) ∨ (y < ay ∧ y < yb)) : cnt ax ay bx yb x y = false := by
  unfold cnt; rw [if_neg (by omega), if_neg (by omega)]
theorem par_no {f : Nat → Int} {n : Int} {x y : Int} : ∀ k : Nat, (∀ i, i < k → edge f n i x y = false) → par f n x y k = false
  | 0, _ => rfl
  | k + 1, h => by rw [par, par_no k fun i hi => h i (by omega), h k (by omega)]; rfl
theorem par_tel {f : Nat → Int} {x y : Int} {n : Nat} (h : ∀ i, i < n → x < f (8 + i)) (hn : 1 ≤ n) : ∀ k : Nat, k < n → par f n x y k = (decide (f 16 ≤ y) != decide (f (16 + k) ≤ y))
  | 0, _ => by simp [par]
  | k + 1, hk => by
    rw [par, par_tel h hn k (by omega), edge, if_neg (by omega), cnt_right (h k (by omega)) (h (k + 1) hk)]
    cases decide (f 16 ≤ y) <;> cases decide (f (16 + k) ≤ y) <;> cases decide (f (16 + (k + 1)) ≤ y) <;> rfl
theorem par_right {f : Nat → Int} {x y : Int} {n : Nat} (h : ∀ i, i < n → x < f (8 + i)) (hn : 1 ≤ n) : par f n x y n = false := by
  obtain ⟨m, rfl⟩ : ∃ m, n = m + 1 := ⟨n - 1, by omega⟩
  rw [par, par_tel h hn m (by omega), edge, if_pos (by omega), cnt_right (h m (by omega)) (h 0 hn)]
  cases decide (f 16 ≤ y) <;> cases decide (f (16 + m) ≤ y) <;> simp_all
theorem sq_lt {a r : Int} (hr : 0 ≤ r) (h : r < a ∨ a < -r) : r * r < a * a := by
  rcases h with h | h
  · have m1 : 0 ≤ r * (a - r) := Int.mul_nonneg hr (by omega)
    have m2 : 0 < a * (a - r) := Int.mul_pos (by omega) (by omega)
    rw [Int.mul_sub] at m1 m2
    have := Int.mul_comm a r
    omega
  · have m1 : 0 ≤ r * (-a - r) := Int.mul_nonneg hr (by omega)
    have m2 : 0 < -a * (-a - r) := Int.mul_pos (by omega) (by omega)
    rw [Int.mul_sub] at m1 m2
    rw [Int.neg_mul_neg, Int.neg_mul] at m2
    rw [Int.mul_neg] at m1
    have := Int.mul_comm a r
    omega
theorem near_x {mx my r x y : Int} (hr : 0 ≤ r) (h : r < x - mx ∨ x - mx < -r) : near mx my r x y = false := by
  have a := sq_lt hr h
  have b : 0 ≤ (y - my) * (y - my) := by
    rcases Int.le_total 0 (y - my) with h | h
    · exact Int.mul_nonneg h h
    · exact Int.mul_nonneg_of_nonpos_of_nonpos h h
  unfold near; exact decide_eq_false (by omega)
theorem near_y {mx my r x y : Int} (hr : 0 ≤ r) (h : r < y - my ∨ y - my < -r) : near mx my r x y = false := by
  have a := sq_lt hr h
  have b : 0 ≤ (x - mx) * (x - mx) := by
    rcases Int.le_total 0 (x - mx) with h | h
    · exact Int.mul_nonneg h h
    · exact Int.mul_nonneg_of_nonpos_of_nonpos h h
  unfold near; exact decide_eq_false (by omega)
/-- The next corner of an area. -/
theorem nx_lt {n : Nat} (i : Nat) (hi : i < n) : (if (n : Int) ≤ (i : Int) + 1 then 0 else i + 1) < n := by split <;> omega
theorem far_x {f : Nat → Int} {u x y : Int} (hR : Rt f) (hu : 0 ≤ u) (h : (∀ i, i < (f 7).toNat → f (8 + i) + f 6 * u < x) ∨ ∀ i, i < (f 7).toNat → x < f (8 + i) - f 6 * u) : cov f u x y = false := by
  unfold cov
  rcases hR.kind with ⟨k2, k6, n1, n2⟩ | ⟨k2, k6, k6', k7⟩
  · rw [if_neg (by omega)]
    simp only [k6, Int.zero_mul, Int.add_zero, Int.sub_zero] at h
    obtain ⟨n, hn⟩ : ∃ n : Nat, f 7 = n := ⟨(f 7).toNat, by omega⟩
    simp only [hn, Int.toNat_natCast] at h ⊢
    rcases h with h | h
    · exact par_no n fun i hi => cnt_left (h i hi) (h _ (nx_lt i hi))
    · exact par_right h (by omega)
  · rw [if_pos k2]
    have hs : 0 ≤ f 6 * u := Int.mul_nonneg (by omega) hu
    have e : (f 7).toNat = 1 := by omega
    simp only [e] at h
    refine near_x hs ?_
    rcases h with h | h
    · have := h 0 (by omega); left; simp only [Nat.add_zero] at this; omega
    · have := h 0 (by omega); right; simp only [Nat.add_zero] at this; omega
theorem far_y {f : Nat → Int} {u x y : Int} (hR : Rt f) (hu : 0 ≤ u) (h : (∀ i, i < (f 7).toNat → f (16 + i) + f 6 * u < y) ∨ ∀ i, i < (f 7).toNat → y < f (16 + i) - f 6 * u) : cov f u x y = false := by
  unfold cov
  rcases hR.kind with ⟨k2, k6, n1, n2⟩ | ⟨k2, k6, k6', k7⟩
  · rw [if_neg (by omega)]
    simp only [k6, Int.zero_mul, Int.add_zero, Int.sub_zero] at h
    obtain ⟨n, hn⟩ : ∃ n : Nat, f 7 = n := ⟨(f 7).toNat, by omega⟩
    simp only [hn, Int.toNat_natCast] at h ⊢
    rcases h with h | h
    · exact par_no n fun i hi => cnt_off (Or.inl ⟨h i hi, h _ (nx_lt i hi)⟩)
    · exact par_no n fun i hi => cnt_off (Or.inr ⟨h i hi, h _ (nx_lt i hi)⟩)
  · rw [if_pos k2]
    have hs : 0 ≤ f 6 * u := Int.mul_nonneg (by omega) hu
    have e : (f 7).toNat = 1 := by omega
    simp only [e] at h
    refine near_y hs ?_
    rcases h with h | h
    · have := h 0 (by omega); left; simp only [Nat.add_zero] at this; omega
    · have := h 0 (by omega); right; simp only [Nat.add_zero] at this; omega
theorem ax_no {g : Nat → Int} {n : Nat} {r lo hi x : Int} (h : axT g n r lo hi = false) (h1 : lo ≤ x) (h2 : x ≤ hi) : (∀ i, i < n → g i + r < x) ∨ ∀ i, i < n → x < g i - r := by
  simp only [axT, Bool.not_eq_false', Bool.or_eq_true, apB, apA, List.all_eq_true, List.mem_range, decide_eq_true_eq] at h
  rcases h with h | h
  · exact Or.inl fun i hi => by have := h i hi; omega
  · exact Or.inr fun i hi => by have := h i hi; omega
/-- What covers a point of a square touches the square. -/
theorem cov_touch {f : Nat → Int} {u x y l1 h1 l2 h2 : Int} (hR : Rt f) (hu : 0 ≤ u) (hc : cov f u x y = true) (a1 : l1 ≤ x) (a2 : x ≤ h1) (b1 : l2 ≤ y) (b2 : y ≤ h2) :
    (axT (fun i => f (8 + i)) (f 7).toNat (f 6 * u) l1 h1 && axT (fun i => f (16 + i)) (f 7).toNat (f 6 * u) l2 h2) = true := by
  cases h : axT (fun i => f (8 + i)) (f 7).toNat (f 6 * u) l1 h1 with
  | false => rw [far_x hR hu (ax_no h a1 a2)] at hc; cases hc
  | true =>
    cases h' : axT (fun i => f (16 + i)) (f 7).toNat (f 6 * u) l2 h2 with
    | false => rw [far_y hR hu (ax_no h' b1 b2)] at hc; cases hc
    | true => rfl

/-- How high a feature lies. -/
def hgt (f : Nat → Int) : Int := f 4 * 2000 + f 0
def vis (f : Nat → Int) (l z u px py : Int) : Bool := shw f l z && cov f u px py
theorem isAb_hgt {a b : Nat → Int} (ha : 0 ≤ a 0 ∧ a 0 ≤ 1000) (hb : 0 ≤ b 0 ∧ b 0 ≤ 1000) : isAb a b = decide (hgt b < hgt a) := by
  unfold isAb hgt
  split
  · next h => rw [h]; congr 1; exact propext ⟨fun _ => by omega, fun _ => by omega⟩
  · congr 1; exact propext ⟨fun _ => by omega, fun _ => by omega⟩
theorem top_congr {fs gs : Nat → Nat → Int} {l z u px py : Int} : ∀ k, (∀ i, i < k → fs i = gs i) → top fs l z u px py k = top gs l z u px py k
  | 0, _ => rfl
  | k + 1, h => by rw [top, top, top_congr k fun i hi => h i (by omega), h k (by omega)]
theorem top_skip {fs : Nat → Nat → Int} {l z u px py : Int} {k : Nat} (h : vis (fs k) l z u px py = false) : top fs l z u px py (k + 1) = top fs l z u px py k := by
  rw [top]
  unfold vis at h
  cases hs : shw (fs k) l z with
  | false => rfl
  | true => rw [hs, Bool.true_and] at h; rw [h, Bool.and_false]; rfl
theorem top_step {fs gs : Nat → Nat → Int} {l z u px py : Int} {k m : Nat} (h : top gs l z u px py m = top fs l z u px py k) (e : gs m = fs k) : top gs l z u px py (m + 1) = top fs l z u px py (k + 1) := by
  rw [top, top, h, e]
/-- What lies on top: nothing, or the highest of those that are seen. -/
theorem top_spec {fs : Nat → Nat → Int} (l z u px py : Int) : ∀ n, (∀ i, i < n → Rt (fs i)) →
    (top fs l z u px py n = zf ∧ ∀ i, i < n → vis (fs i) l z u px py = false) ∨ ∃ i, i < n ∧ top fs l z u px py n = fs i ∧ vis (fs i) l z u px py = true ∧ ∀ j, j < n → vis (fs j) l z u px py = true → hgt (fs j) ≤ hgt (fs i)
  | 0, _ => Or.inl ⟨rfl, fun i hi => by omega⟩
  | n + 1, hr => by
    have ih := top_spec (fs := fs) l z u px py n fun i hi => hr i (by omega)
    have rn := hr n (by omega)
    cases hv : vis (fs n) l z u px py with
    | false =>
      rw [top_skip hv]
      rcases ih with ⟨a, b⟩ | ⟨i, hi, a, b, c⟩
      · refine Or.inl ⟨a, fun i hi => ?_⟩
        by_cases e : i = n
        · rw [e]; exact hv
        · exact b i (by omega)
      · refine Or.inr ⟨i, by omega, a, b, fun j hj hvj => ?_⟩
        by_cases e : j = n
        · rw [e, hv] at hvj; cases hvj
        · exact c j (by omega) hvj
    | true =>
      have hv' := hv
      unfold vis at hv
      rw [Bool.and_eq_true] at hv
      rcases ih with ⟨a, b⟩ | ⟨i, hi, a, b, c⟩
      · refine Or.inr ⟨n, by omega, ?_, hv', fun j hj hvj => ?_⟩
        · have i0 := rn.id
          have r0 := rn.rk
          rw [top, a, isAb_hgt (a := zf) (by simp [zf]) (by omega), hv.1, hv.2, decide_eq_false (by simp only [hgt, zf]; omega)]; rfl
        · by_cases e : j = n
          · rw [e]; omega
          · rw [b j (by omega)] at hvj; cases hvj
      · have ri := hr i (by omega)
        have i0 := rn.id
        have i1 := ri.id
        by_cases hh : hgt (fs n) < hgt (fs i)
        · refine Or.inr ⟨i, by omega, ?_, b, fun j hj hvj => ?_⟩
          · rw [top, a, isAb_hgt (by omega) (by omega), hv.1, hv.2, decide_eq_true hh]; rfl
          · by_cases e : j = n
            · rw [e]; omega
            · exact c j (by omega) hvj
        · refine Or.inr ⟨n, by omega, ?_, hv', fun j hj hvj => ?_⟩
          · rw [top, a, isAb_hgt (by omega) (by omega), hv.1, hv.2, decide_eq_false hh]; rfl
          · by_cases e : j = n
            · rw [e]; omega
            · have := c j (by omega) hvj; omega
/-- The order doesn't matter where no two have one id. -/
theorem top_back {fs gs : Nat → Nat → Int} {n : Nat} (l z u px py : Int) (hr : ∀ i, i < n → Rt (fs i)) (hb : ∀ i, i < n → gs i = fs (n - 1 - i)) (hd : ∀ i j, i < n → j < n → fs i 0 = fs j 0 → i = j) :
    top gs l z u px py n = top fs l z u px py n := by
  have hg : ∀ i, i < n → Rt (gs i) := fun i hi => by rw [hb i hi]; exact hr _ (by omega)
  rcases top_spec (fs := fs) l z u px py n hr with ⟨a, b⟩ | ⟨i, hi, a, b, c⟩
  · rcases top_spec (fs := gs) l z u px py n hg with ⟨a', _⟩ | ⟨j, hj, _, b', _⟩
    · rw [a, a']
    · rw [hb j hj, b _ (by omega)] at b'; cases b'
  · rcases top_spec (fs := gs) l z u px py n hg with ⟨_, b'⟩ | ⟨j, hj, a', b', c'⟩
    · have := b' (n - 1 - i) (by omega)
      rw [hb _ (by omega), show n - 1 - (n - 1 - i) = i by omega, b] at this; cases this
    · rw [a, a', hb j hj]
      rw [hb j hj] at b' c'
      have h1 := c (n - 1 - j) (by omega) b'
      have h2 := c' (n - 1 - i) (by omega) (by rw [hb _ (by omega), show n - 1 - (n - 1 - i) = i by omega]; exact b)
      rw [hb _ (by omega), show n - 1 - (n - 1 - i) = i by omega] at h2
      have i0 := (hr i hi).id
      have j0 := (hr (n - 1 - j) (by omega)).id
      have := hd (n - 1 - j) i (by omega) hi (by unfold hgt at h1 h2; omega)
      rw [this]
/-- One set of what is seen, one top. -/
theorem top_set {fs gs : Nat → Nat → Int} {n m : Nat} (l z u px py : Int) (hr : ∀ i, i < n → Rt (fs i)) (hg : ∀ i, i < m → Rt (gs i))
    (h1 : ∀ i, i < n → vis (fs i) l z u px py = true → ∃ j, j < m ∧ gs j = fs i) (h2 : ∀ j, j < m → vis (gs j) l z u px py = true → ∃ i, i < n ∧ fs i = gs j)
    (hd : ∀ i j, i < n → j < n → fs i 0 = fs j 0 → fs i = fs j) : top gs l z u px py m = top fs l z u px py n := by
  rcases top_spec (fs := fs) l z u px py n hr with ⟨a, b⟩ | ⟨i, hi, a, b, c⟩
  · rcases top_spec (fs := gs) l z u px py m hg with ⟨a', _⟩ | ⟨j, hj, _, b', _⟩
    · rw [a, a']
    · obtain ⟨i, hi, e⟩ := h2 j hj b'
      rw [← e, b i hi] at b'; cases b'
  · rcases top_spec (fs := gs) l z u px py m hg with ⟨_, b'⟩ | ⟨j, hj, a', b', c'⟩
    · obtain ⟨j, hj, e⟩ := h1 i hi b
      have := b' j hj
      rw [e, b] at this; cases this
    · obtain ⟨i', hi', e'⟩ := h2 j hj b'
      obtain ⟨j', hj', e⟩ := h1 i hi b
      have q1 := c i' hi' (by rw [e']; exact b')
      have q2 := c' j' hj' (by rw [e]; exact b)
      rw [e, ← e'] at q2
      have i0 := (hr i hi).id
      have j0 := (hr i' hi').id
      rw [a, a', ← e']
      exact hd i' i hi' hi (by unfold hgt at q1 q2; omega)
/-- What doesn't touch a key is seen at none of its pixels. -/
theorem far_vis {f : Nat → Int} {l z x y : Int} (hR : Rt f) (he : keyErr l z x y = 0) (h : Tch f l z x y = false) (p : Nat) (hp : p < 64) :
    vis f l z (un z) (cen x (un z) ((p : Int) % 8)) (cen y (un z) ((p : Int) / 8)) = false := by
  obtain ⟨_, ⟨z1, z2⟩, ⟨x1, x2⟩, ⟨y1, y2⟩⟩ := keyErr_zero he
  obtain ⟨p1, p2, p3, p4⟩ := mod8 p hp
  obtain ⟨_, _, _, _, _, _, a1, a2⟩ := cen_in z1 z2 x1 x2 p1 p2
  obtain ⟨_, _, _, _, _, _, b1, b2⟩ := cen_in z1 z2 y1 y2 p3 p4
  have hu := un_in z z1 z2
  unfold Tch at h
  rw [right_in hR, he] at h
  unfold vis
  cases hs : shw f l z with
  | false => rfl
  | true =>
    rw [hs] at h
    cases hc : cov f (un z) (cen x (un z) ((p : Int) % 8)) (cen y (un z) ((p : Int) / 8)) with
    | false => rfl
    | true => rw [cov_touch hR (by omega) hc a1 a2 b1 b2] at h; simp at h
theorem ink_of_top {fs gs : Nat → Nat → Int} {n m : Nat} {l z x y : Int} (h : ∀ p : Nat, p < 64 → top gs l z (un z) (cen x (un z) ((p : Int) % 8)) (cen y (un z) ((p : Int) / 8)) m = top fs l z (un z) (cen x (un z) ((p : Int) % 8)) (cen y (un z) ((p : Int) / 8)) n) : pic gs m l z x y 64 = pic fs n l z x y 64 := by
  unfold pic
  refine List.map_congr_left fun p hp => ?_
  unfold ink
  rw [h p (List.mem_range.1 hp)]
end Go.Proofs.Ytppcpbhnpdjfpab
