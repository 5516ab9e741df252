/-
  shape.Covers, atlasref.Covers.
-/
import Derived.Test.YtppcpbhnpdjfpaaLeafG
namespace Go.Proofs.Ytppcpbhnpdjfpaa
open Go.RowKit

/-- P7's Covers. -/
def Cov (f : Nat → Int) (z x y : Int) : Bool := right f && inR z 0 22 && inR x 0 1073741824 && inR y 0 1073741824 && cov f (un z) x y

theorem check_t {f : Nat → Int} (h : right f = true) (w : World) : Calls Try.prog 13 #[.agg (fc f)] w fun e w' => e = .returned (.int .i64 0) ∧ Below w.heap.size w w' := by
  have := check_any f w; rw [h] at this; exact this
theorem check_f {f : Nat → Int} (h : right f = false) (w : World) : Calls Try.prog 13 #[.agg (fc f)] w fun e w' => e = .returned (.int .i64 7) ∧ Below w.heap.size w w' := by
  have := check_any f w; rw [h] at this; exact this
theorem un_in (z : Int) (h1 : 0 ≤ z) (h2 : z ≤ 22) : 32 ≤ un z ∧ un z ≤ 134217728 := by
  have := un_eq z.toNat (by omega)
  unfold un; exact ⟨this.2.1, this.2.2.1⟩

set_option maxHeartbeats 1600000 in
theorem Covers_any (f : Nat → Int) (z x y : Int) (w : World) :
    Calls Try.prog 15 #[.agg (fc f), .int .i64 z, .int .i64 x, .int .i64 y] w fun e w' => e = .returned (.bool (Cov f z x y)) ∧ Below w.heap.size w w' := by
  have hg0 := heap_alloc_new w (.cells (fc f) 26 (0, 0))
  cases hz : inR z 0 22 with
  | false =>
    have H : Hid (Cov f z x y = false) := by show Cov f z x y = _; simp [Cov, hz]
    have U := fun W => unit_no z W hz
    go_enter Try.func15, Try.ntmps15
    go_wp2_with (go_at_call 41; refine (U _).mono ?_; rintro e w1 ⟨rfl, rfl⟩)
    go_ret
    exact ⟨ret_bool (unhide H).symm, below_one _ _⟩
  | true =>
  have z1 := (inR_out hz).1
  have z2 := (inR_out hz).2
  have U := fun W => unit_yes z W z1 z2
  obtain ⟨u1, u2⟩ := un_in z z1 z2
  obtain ⟨u, hu⟩ : ∃ u, un z = u := ⟨_, rfl⟩
  rw [hu] at U u1 u2
  have u0 : (u == 0) = false := by simp; omega
  have HU := hide hu
  clear hu
  cases hx : inR x 0 1073741824 with
  | false =>
    have H : Hid (Cov f z x y = false) := by show Cov f z x y = _; simp [Cov, hx]
    go_enter Try.func15, Try.ntmps15
    go_wp2_with (first | (go_at_call 41; refine (U _).mono ?_; rintro e w1 ⟨rfl, rfl⟩) | (go_at_call 42; refine (isPlace_any _ _).mono ?_; rintro e w1 ⟨rfl, rfl⟩))
    go_ret
    exact ⟨ret_bool (unhide H).symm, below_one _ _⟩
  | true =>
  cases hy : inR y 0 1073741824 with
  | false =>
    have H : Hid (Cov f z x y = false) := by show Cov f z x y = _; simp [Cov, hy]
    go_enter Try.func15, Try.ntmps15
    go_wp2_with (first | (go_at_call 41; refine (U _).mono ?_; rintro e w1 ⟨rfl, rfl⟩) | (go_at_call 42; refine (isPlace_any _ _).mono ?_; rintro e w1 ⟨rfl, rfl⟩))
    go_ret
    exact ⟨ret_bool (unhide H).symm, below_one _ _⟩
  | true =>
  have hx' : W30 x := inR_out hx
  have hy' : W30 y := inR_out hy
  have HX := hide hx'
  have HY := hide hy'
  clear hx' hy'
  cases hr : right f with
  | false =>
    have H : Hid (Cov f z x y = false) := by show Cov f z x y = _; simp [Cov, hr]
    go_enter Try.func15, Try.ntmps15
    go_wp2_with (first | (go_at_call 41; refine (U _).mono ?_; rintro e w1 ⟨rfl, rfl⟩) | (go_at_call 42; refine (isPlace_any _ _).mono ?_; rintro e w1 ⟨rfl, rfl⟩) | (refine ld26 rfl _ rfl _ rfl f hg0 ?_))
    refine (check_f hr _).mono ?_
    rintro e w1 ⟨rfl, hb1⟩
    have HB := hide ((below_one _ _).trans (hb1.mono (by simp)))
    clear hb1
    go_wp2_with fail
    go_ret
    exact ⟨ret_bool (unhide H).symm, unhide HB⟩
  | true =>
    have H : Hid (Cov f z x y = cov f u x y) := by show Cov f z x y = _; simp [Cov, hz, hx, hy, hr, unhide HU]
    have HRT := hide (right_out hr)
    go_enter Try.func15, Try.ntmps15
    go_wp2_with (first | (go_at_call 41; refine (U _).mono ?_; rintro e w1 ⟨rfl, rfl⟩) | (go_at_call 42; refine (isPlace_any _ _).mono ?_; rintro e w1 ⟨rfl, rfl⟩) | (refine ld26 rfl _ rfl _ rfl f hg0 ?_))
    refine (check_t hr _).mono ?_
    rintro e w1 ⟨rfl, hb1⟩
    have hg1 := blk_on hg0 hb1
    have HB := hide ((below_one _ _).trans (hb1.mono (by simp)))
    clear hb1
    go_wp2_with (refine ld26 rfl _ rfl _ rfl f hg1 ?_)
    refine (covers_any f u x y _ (unhide HRT) (unhide HX) (unhide HY) ⟨by omega, by omega⟩).mono ?_
    rintro e w2 ⟨rfl, hb2⟩
    have HB2 := hide ((unhide HB).trans (hb2.mono (unhide HB).size))
    clear hb2 hg1
    go_wp2_with fail
    go_ret
    exact ⟨ret_bool (unhide H).symm, unhide HB2⟩

theorem refRight_t {f : Nat → Int} (h : right f = true) (w : World) : Calls Try.prog 40 #[.agg (fc f)] w fun e w' => e = .returned (.bool true) ∧ Below w.heap.size w w' := by
  have := refRight_any f w; rw [h] at this; exact this
theorem refRight_f {f : Nat → Int} (h : right f = false) (w : World) : Calls Try.prog 40 #[.agg (fc f)] w fun e w' => e = .returned (.bool false) ∧ Below w.heap.size w w' := by
  have := refRight_any f w; rw [h] at this; exact this
end Go.Proofs.Ytppcpbhnpdjfpaa
