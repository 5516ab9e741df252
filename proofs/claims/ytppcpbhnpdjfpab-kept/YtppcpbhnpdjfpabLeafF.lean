/-
  Products, edges that count, what is near.
-/
import Derived.Test.YtppcpbhnpdjfpabLeafE
namespace Go.Proofs.Ytppcpbhnpdjfpab
open Go.RowKit

/-- Products of two lengths of the world. -/
theorem mul_in (a b : Int) (ha : -1073741824 ≤ a ∧ a ≤ 1073741824) (hb : -1073741824 ≤ b ∧ b ≤ 1073741824) : -1152921504606846976 ≤ a * b ∧ a * b ≤ 1152921504606846976 := by
  have h := Nat.mul_le_mul (show a.natAbs ≤ 1073741824 by omega) (show b.natAbs ≤ 1073741824 by omega)
  rw [← Int.natAbs_mul] at h
  generalize a * b = c at *
  omega
theorem mul_w (a b : Int) (ha : -1073741824 ≤ a ∧ a ≤ 1073741824) (hb : -1073741824 ≤ b ∧ b ≤ 1073741824) : wrap64 (a * b) = a * b := by
  have := mul_in a b ha hb
  exact IntWalk.wrap64_in _ ⟨by omega, by omega⟩

theorem i64_in (x : Int) (h : -9223372036854775808 ≤ x ∧ x ≤ 9223372036854775807) : IntKind.i64.wrap x = x := by rw [IntKind.wrap_i64]; omega
theorem below_alloc {B : Nat} {a w : World} (h : Below B a w) (hB : B ≤ a.heap.size) (o : Obj) : Below B a (w.alloc o) := h.alloc (Nat.le_trans hB h.size) o
theorem below_drewN {B : Nat} {a w : World} (h : Below B a w) (n : Nat) : Below B a (w.drewN n) := ⟨h.os, h.tape, h.output, h.size, h.block⟩

theorem product_any (a b : Int) (w : World) (ha : -1073741824 ≤ a ∧ a ≤ 1073741824) (hb : -1073741824 ≤ b ∧ b ≤ 1073741824) :
    Calls Try.prog 61 #[.int .i64 a, .int .i64 b] w fun e w' => e = .returned (.int .i64 (a * b)) ∧ w = w' := by
  have h := mul_w a b ha hb
  clear ha hb
  go_enter Try.func61, Try.ntmps61
  go_wp2
  go_ret
  exact ⟨ret_int h, rfl⟩

/-- Does the edge from a to b count for the point (x, y)? -/
def cnt (ax ay bx yb x y : Int) : Bool :=
  if ay ≤ y ∧ y < yb then decide ((x - ax) * (yb - ay) < (bx - ax) * (y - ay))
  else if yb ≤ y ∧ y < ay then decide ((x - bx) * (ay - yb) < (ax - bx) * (y - yb)) else false

def W30 (a : Int) : Prop := 0 ≤ a ∧ a ≤ 1073741824

set_option maxHeartbeats 1600000 in
theorem counts_up (ax ay bx yb x y : Int) (w : World) (h1 : W30 ax) (h2 : W30 ay) (h3 : W30 bx) (h4 : W30 yb) (h5 : W30 x) (h6 : W30 y) (c1 : ay ≤ y) (c2 : y < yb) :
    Calls Try.prog 57 #[.agg #[.int .i64 ax, .int .i64 ay], .agg #[.int .i64 bx, .int .i64 yb], .agg #[.int .i64 x, .int .i64 y]] w fun e w' => e = .returned (.bool (cnt ax ay bx yb x y)) ∧ Below w.heap.size w w' := by
  unfold W30 at h1 h2 h3 h4 h5 h6
  have H : Hid (cnt ax ay bx yb x y = decide ((x - ax) * (yb - ay) < (bx - ax) * (y - ay))) := by show cnt ax ay bx yb x y = _; simp [cnt, c1, c2]
  have c3 : ¬ yb < ay := by omega
  have c4 : decide (y < ay) = false := decide_eq_false (by omega)
  have e1 := i64_in (bx - ax) (by omega)
  have e2 := i64_in (y - ay) (by omega)
  have e3 := i64_in (x - ax) (by omega)
  have e4 := i64_in (yb - ay) (by omega)
  have P1 := fun W => product_any (bx - ax) (y - ay) W (by omega) (by omega)
  have P2 := fun W => product_any (x - ax) (yb - ay) W (by omega) (by omega)
  go_enter Try.func57, Try.ntmps57
  go_wp2
  go_region
  all_goals
    go_wp2
    go_quiet (first | exact (P1 _).mono fun e w' h => ⟨h.1, _, h.2.symm⟩ | exact (P2 _).mono fun e w' h => ⟨h.1, _, h.2.symm⟩)
    go_wp2
    go_ret
    refine ⟨ret_bool (unhide H).symm, ?_⟩
    repeat first | exact Below.refl _ _ | refine below_drewN ?_ _ | refine Below.drew ?_ | refine below_alloc ?_ (Nat.le_refl _) _
set_option maxHeartbeats 1600000 in
theorem counts_down (ax ay bx yb x y : Int) (w : World) (h1 : W30 ax) (h2 : W30 ay) (h3 : W30 bx) (h4 : W30 yb) (h5 : W30 x) (h6 : W30 y) (c1 : yb ≤ y) (c2 : y < ay) :
    Calls Try.prog 57 #[.agg #[.int .i64 ax, .int .i64 ay], .agg #[.int .i64 bx, .int .i64 yb], .agg #[.int .i64 x, .int .i64 y]] w fun e w' => e = .returned (.bool (cnt ax ay bx yb x y)) ∧ Below w.heap.size w w' := by
  unfold W30 at h1 h2 h3 h4 h5 h6
  have H : Hid (cnt ax ay bx yb x y = decide ((x - bx) * (ay - yb) < (ax - bx) * (y - yb))) := by show cnt ax ay bx yb x y = _; simp [cnt, c1, c2]; intros; omega
  have c3 : yb < ay := by omega
  have c4 : decide (y < yb) = false := decide_eq_false (by omega)
  have e1 := i64_in (ax - bx) (by omega)
  have e2 := i64_in (y - yb) (by omega)
  have e3 := i64_in (x - bx) (by omega)
  have e4 := i64_in (ay - yb) (by omega)
  have P1 := fun W => product_any (ax - bx) (y - yb) W (by omega) (by omega)
  have P2 := fun W => product_any (x - bx) (ay - yb) W (by omega) (by omega)
  go_enter Try.func57, Try.ntmps57
  go_wp2
  go_region
  all_goals
    go_wp2
    go_region
    all_goals
      go_wp2
      go_quiet (first | exact (P1 _).mono fun e w' h => ⟨h.1, _, h.2.symm⟩ | exact (P2 _).mono fun e w' h => ⟨h.1, _, h.2.symm⟩)
      go_wp2
      go_ret
      refine ⟨ret_bool (unhide H).symm, ?_⟩
      repeat first | exact Below.refl _ _ | refine below_drewN ?_ _ | refine Below.drew ?_ | refine below_alloc ?_ (Nat.le_refl _) _
set_option maxHeartbeats 1600000 in
theorem counts_no (ax ay bx yb x y : Int) (w : World) (h : (y < ay ∧ y < yb) ∨ (ay ≤ y ∧ yb ≤ y)) :
    Calls Try.prog 57 #[.agg #[.int .i64 ax, .int .i64 ay], .agg #[.int .i64 bx, .int .i64 yb], .agg #[.int .i64 x, .int .i64 y]] w fun e w' => e = .returned (.bool (cnt ax ay bx yb x y)) ∧ Below w.heap.size w w' := by
  have H : Hid (cnt ax ay bx yb x y = false) := by
    show cnt ax ay bx yb x y = _
    unfold cnt
    rw [if_neg (by omega), if_neg (by omega)]
  rcases h with ⟨c1, c2⟩ | ⟨c1, c2⟩
  · have d1 : decide (y < ay) = true := decide_eq_true c1
    have d2 : decide (y < yb) = true := decide_eq_true c2
    clear c1 c2
    go_enter Try.func57, Try.ntmps57
    go_wp2
    go_ret
    refine ⟨ret_bool (unhide H).symm, ?_⟩
    repeat first | exact Below.refl _ _ | refine below_drewN ?_ _ | refine Below.drew ?_ | refine below_alloc ?_ (Nat.le_refl _) _
  · have d1 : decide (y < ay) = false := decide_eq_false (by omega)
    have d2 : decide (y < yb) = false := decide_eq_false (by omega)
    clear c1 c2
    go_enter Try.func57, Try.ntmps57
    go_wp2
    go_ret
    refine ⟨ret_bool (unhide H).symm, ?_⟩
    repeat first | exact Below.refl _ _ | refine below_drewN ?_ _ | refine Below.drew ?_ | refine below_alloc ?_ (Nat.le_refl _) _
theorem counts_any (ax ay bx yb x y : Int) (w : World) (h1 : W30 ax) (h2 : W30 ay) (h3 : W30 bx) (h4 : W30 yb) (h5 : W30 x) (h6 : W30 y) :
    Calls Try.prog 57 #[.agg #[.int .i64 ax, .int .i64 ay], .agg #[.int .i64 bx, .int .i64 yb], .agg #[.int .i64 x, .int .i64 y]] w fun e w' => e = .returned (.bool (cnt ax ay bx yb x y)) ∧ Below w.heap.size w w' := by
  by_cases c1 : ay ≤ y
  · by_cases c2 : y < yb
    · exact counts_up ax ay bx yb x y w h1 h2 h3 h4 h5 h6 c1 c2
    · exact counts_no ax ay bx yb x y w (by omega)
  · by_cases c2 : yb ≤ y
    · exact counts_down ax ay bx yb x y w h1 h2 h3 h4 h5 h6 c2 (by omega)
    · exact counts_no ax ay bx yb x y w (by omega)

/-- Is the point (x, y) at most r away from (mx, my)? -/
def near (mx my r x y : Int) : Bool := decide ((x - mx) * (x - mx) + (y - my) * (y - my) ≤ r * r)
set_option maxHeartbeats 1600000 in
theorem isNear_any (mx my r x y : Int) (w : World) (h1 : W30 mx) (h2 : W30 my) (h5 : W30 x) (h6 : W30 y) (h7 : W30 r) :
    Calls Try.prog 56 #[.agg #[.int .i64 mx, .int .i64 my], .int .i64 r, .agg #[.int .i64 x, .int .i64 y]] w fun e w' => e = .returned (.bool (near mx my r x y)) ∧ Below w.heap.size w w' := by
  unfold W30 at h1 h2 h5 h6 h7
  have m1 := mul_in (x - mx) (x - mx) (by omega) (by omega)
  have m2 := mul_in (y - my) (y - my) (by omega) (by omega)
  have m3 : wrap64 ((x - mx) * (x - mx) + (y - my) * (y - my)) = (x - mx) * (x - mx) + (y - my) * (y - my) := IntWalk.wrap64_in _ ⟨by omega, by omega⟩
  clear m1 m2
  go_enter Try.func56, Try.ntmps56
  go_wp2_with (go_at_call 61; refine (product_any _ _ _ ⟨by omega, by omega⟩ ⟨by omega, by omega⟩).mono ?_; rintro e w1 ⟨rfl, rfl⟩)
  go_ret
  refine ⟨ret_bool ?_, ?_⟩
  · rfl
  · repeat first | exact Below.refl _ _ | refine below_drewN ?_ _ | refine Below.drew ?_ | refine below_alloc ?_ (Nat.le_refl _) _
end Go.Proofs.Ytppcpbhnpdjfpab
