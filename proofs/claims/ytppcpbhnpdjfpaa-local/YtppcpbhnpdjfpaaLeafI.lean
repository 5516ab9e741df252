/-
  atlasref.Covers.
-/
import Derived.Test.YtppcpbhnpdjfpaaLeafH
namespace Go.Proofs.Ytppcpbhnpdjfpaa
open Go.RowKit

theorem par_cnt (b : Bool) (p : Bool) (c : Nat) (h : p = decide (c % 2 = 1)) : (p != b) = decide ((bif b then c + 1 else c) % 2 = 1) := by
  subst h
  cases b
  · simp
  · rcases Nat.mod_two_eq_zero_or_one c with h | h
    · have : (c + 1) % 2 = 1 := by omega
      simp [h, this]
    · have : (c + 1) % 2 = 0 := by omega
      simp [h, this]
theorem par_end (c : Nat) : ((c : Int) % 2 == 1) = decide (c % 2 = 1) := by
  rw [Bool.eq_iff_iff]; simp; omega
set_option maxHeartbeats 3200000 in
theorem refCovers_no (f : Nat → Int) (z x y : Int) (w : World) (h : right f = false ∨ inR z 0 22 = false ∨ inR x 0 1073741824 = false ∨ inR y 0 1073741824 = false) :
    Calls Try.prog 16 #[.agg (fc f), .int .i64 z, .int .i64 x, .int .i64 y] w fun e w' => e = .returned (.bool (Cov f z x y)) ∧ Below w.heap.size w w' := by
  have hg0 := heap_alloc_new w (.cells (fc f) 26 (0, 0))
  cases hr : right f with
  | false =>
    have H : Hid (Cov f z x y = false) := by show Cov f z x y = _; simp [Cov, hr]
    clear h
    go_enter Try.func16, Try.ntmps16
    go_wp2_with (refine ld26 rfl _ rfl _ rfl f hg0 ?_)
    refine (refRight_f hr _).mono ?_
    rintro e w1 ⟨rfl, hb1⟩
    have hg1 := blk_on hg0 hb1
    have hcell := blk_cells hg1
    have HB := hide ((below_one _ _).trans (hb1.mono (by simp)))
    clear hb1
    go_wp2_with (go_at_call 44; refine (in_any _ _ _ _).mono ?_; rintro e w3 ⟨rfl, rfl⟩)
    go_ret
    exact ⟨ret_bool (unhide H).symm, unhide HB⟩
  | true =>
  cases hz : inR z 0 22 with
  | false =>
    clear h
    have H : Hid (Cov f z x y = false) := by show Cov f z x y = _; simp [Cov, hz]
    go_enter Try.func16, Try.ntmps16
    go_wp2_with (refine ld26 rfl _ rfl _ rfl f hg0 ?_)
    refine (refRight_t hr _).mono ?_
    rintro e w1 ⟨rfl, hb1⟩
    have hg1 := blk_on hg0 hb1
    have hcell := blk_cells hg1
    have HB := hide ((below_one _ _).trans (hb1.mono (by simp)))
    clear hb1
    go_wp2_with (go_at_call 44; refine (in_any _ _ _ _).mono ?_; rintro e w3 ⟨rfl, rfl⟩)
    go_ret
    exact ⟨ret_bool (unhide H).symm, unhide HB⟩
  | true =>
  cases hx : inR x 0 1073741824 with
  | false =>
    clear h
    have H : Hid (Cov f z x y = false) := by show Cov f z x y = _; simp [Cov, hx]
    go_enter Try.func16, Try.ntmps16
    go_wp2_with (refine ld26 rfl _ rfl _ rfl f hg0 ?_)
    refine (refRight_t hr _).mono ?_
    rintro e w1 ⟨rfl, hb1⟩
    have hg1 := blk_on hg0 hb1
    have hcell := blk_cells hg1
    have HB := hide ((below_one _ _).trans (hb1.mono (by simp)))
    clear hb1
    go_wp2_with (go_at_call 44; refine (in_any _ _ _ _).mono ?_; rintro e w3 ⟨rfl, rfl⟩)
    go_ret
    exact ⟨ret_bool (unhide H).symm, unhide HB⟩
  | true =>
  cases hy : inR y 0 1073741824 with
  | false =>
    clear h
    have H : Hid (Cov f z x y = false) := by show Cov f z x y = _; simp [Cov, hy]
    go_enter Try.func16, Try.ntmps16
    go_wp2_with (refine ld26 rfl _ rfl _ rfl f hg0 ?_)
    refine (refRight_t hr _).mono ?_
    rintro e w1 ⟨rfl, hb1⟩
    have hg1 := blk_on hg0 hb1
    have hcell := blk_cells hg1
    have HB := hide ((below_one _ _).trans (hb1.mono (by simp)))
    clear hb1
    go_wp2_with (go_at_call 44; refine (in_any _ _ _ _).mono ?_; rintro e w3 ⟨rfl, rfl⟩)
    go_ret
    exact ⟨ret_bool (unhide H).symm, unhide HB⟩
  | true =>
    simp [hr, hz, hx, hy] at h
set_option maxHeartbeats 3200000 in
theorem refCovers_dot (f : Nat → Int) (z x y : Int) (w : World) (hr : right f = true) (hz : inR z 0 22 = true) (hx : inR x 0 1073741824 = true) (hy : inR y 0 1073741824 = true) (k2 : f 2 = 1) :
    Calls Try.prog 16 #[.agg (fc f), .int .i64 z, .int .i64 x, .int .i64 y] w fun e w' => e = .returned (.bool (Cov f z x y)) ∧ Below w.heap.size w w' := by
  have hg0 := heap_alloc_new w (.cells (fc f) 26 (0, 0))
  have hx' := inR_out hx
  have hy' := inR_out hy
  have z1 := (inR_out hz).1
  have z2 := (inR_out hz).2
  have U := fun W => refUnit_yes z W z1 z2
  obtain ⟨u1, u2⟩ := un_in z z1 z2
  obtain ⟨u, hu⟩ : ∃ u, un z = u := ⟨_, rfl⟩
  rw [hu] at U u1 u2
  have hR := right_out hr
  have c2 := fc_at f 2 (by decide)
  have c6 := fc_at f 6 (by decide)
  have c8 := fc_at f 8 (by decide)
  have c16 := fc_at f 16 (by decide)
  rw [k2] at c2
  obtain ⟨S, hS⟩ : ∃ S, f 6 = S := ⟨_, rfl⟩
  obtain ⟨X, hX⟩ : ∃ S, f 8 = S := ⟨_, rfl⟩
  obtain ⟨Y, hY⟩ : ∃ S, f 16 = S := ⟨_, rfl⟩
  have H : Hid (Cov f z x y = near X Y (S * u) x y) := by show Cov f z x y = _; simp [Cov, hr, hz, hx, hy, cov, k2, hu, hS, hX, hY]
  have wX : W30 X := hX ▸ hR.px 0 (by omega)
  have wY : W30 Y := hY ▸ hR.py 0 (by omega)
  have wS : 1 ≤ S ∧ S ≤ 3 := by
    rcases hR.kind with ⟨e, _⟩ | ⟨_, a, b, _⟩
    · omega
    · omega
  rw [hS] at c6; rw [hX] at c8; rw [hY] at c16
  have hSu : 0 ≤ S * u ∧ S * u ≤ 1073741824 := by
    have : S = 1 ∨ S = 2 ∨ S = 3 := by omega
    rcases this with rfl | rfl | rfl <;> omega
  unfold W30 at wX wY
  have hm := i64_in (S * u) (by omega)
  have m1 := mul_in (x - X) (x - X) (by omega) (by omega)
  have m2 := mul_in (y - Y) (y - Y) (by omega) (by omega)
  have q1 := mul_w (x - X) (x - X) (by omega) (by omega)
  have q2 := mul_w (y - Y) (y - Y) (by omega) (by omega)
  have q3 := mul_w (S * u) (S * u) (by omega) (by omega)
  have q4 : wrap64 ((x - X) * (x - X) + (y - Y) * (y - Y)) = (x - X) * (x - X) + (y - Y) * (y - Y) := IntWalk.wrap64_in _ ⟨by omega, by omega⟩
  clear k2 hu hR hS hX hY m1 m2
  go_enter Try.func16, Try.ntmps16
  go_wp2_with (refine ld26 rfl _ rfl _ rfl f hg0 ?_)
  refine (refRight_t hr _).mono ?_
  rintro e w1 ⟨rfl, hb1⟩
  have hg1 := blk_on hg0 hb1
  have hcell := blk_cells hg1
  have HB := hide ((below_one _ _).trans (hb1.mono (by simp)))
  clear hb1
  go_wp2_with (go_at_call 44; refine (in_any _ _ _ _).mono ?_; rintro e w3 ⟨rfl, rfl⟩)
  go_quiet (exact (U _).mono fun e w' h => ⟨h.1, _, h.2.symm⟩)
  go_wp2
  go_ret
  refine ⟨ret_bool ?_, below_drewN (unhide HB) _⟩
  rw [unhide H]
  rfl
set_option maxHeartbeats 3200000 in
theorem refCovers_area (f : Nat → Int) (z x y : Int) (w : World) (hr : right f = true) (hz : inR z 0 22 = true) (hx : inR x 0 1073741824 = true) (hy : inR y 0 1073741824 = true) (k2 : f 2 = 0) :
    Calls Try.prog 16 #[.agg (fc f), .int .i64 z, .int .i64 x, .int .i64 y] w fun e w' => e = .returned (.bool (Cov f z x y)) ∧ Below w.heap.size w w' := by
  have hg0 := heap_alloc_new w (.cells (fc f) 26 (0, 0))
  have hx' : W30 x := inR_out hx
  have hy' : W30 y := inR_out hy
  have HR := hide (right_out hr)
  have c2 := fc_at f 2 (by decide)
  have c7 := fc_at f 7 (by decide)
  rw [k2] at c2
  obtain ⟨N, hN⟩ : ∃ S, f 7 = S := ⟨_, rfl⟩
  have H : Hid (Cov f z x y = par f N x y N.toNat) := by show Cov f z x y = _; simp [Cov, hr, hz, hx, hy, cov, k2, hN]
  have n1 : 3 ≤ N ∧ N ≤ 8 := by
    rcases (unhide HR).kind with ⟨_, _, a, b⟩ | ⟨e, _⟩
    · omega
    · omega
  obtain ⟨n1, n2⟩ := n1
  rw [hN] at c7
  clear k2 hN
  go_enter Try.func16, Try.ntmps16
  go_wp2_with (refine ld26 rfl _ rfl _ rfl f hg0 ?_)
  refine (refRight_t hr _).mono ?_
  rintro e w1 ⟨rfl, hb1⟩
  have hg1 := blk_on hg0 hb1
  have hcell := blk_cells hg1
  have HB := hide ((below_one _ _).trans (hb1.mono (by simp)))
  clear hb1
  go_wp2_with (go_at_call 44; refine (in_any _ _ _ _).mono ?_; rintro e w3 ⟨rfl, rfl⟩)
  go_loopw [16, 17, 18, 19] (fun n i _ _ wr => ∃ k c : Nat, (k : Int) ≤ N ∧ c ≤ k ∧ i = .int .i64 k ∧ n = .int .i64 c ∧ Hid (par f N x y k = decide (c % 2 = 1)) ∧ ∃ q, wr = w1.drewN q) (fun _ i _ _ _ => 8 - (intOf i).toNat)
  case atStart => exact ⟨0, 0, by omega, by omega, rfl, rfl, hide rfl, 0, rfl⟩
  case round =>
    obtain ⟨k, c, hk, hck, rfl, rfl, hpar, q, rfl⟩ := hrel
    by_cases hlt : (k : Int) < N
    · have cx := fc_at f (8 + k) (by omega)
      have cy := fc_at f (16 + k) (by omega)
      have hkb : (k : Int) < 8 := by omega
      by_cases hj : (k : Int) + 1 = N
      · have C := fun W => refCounts_any (f (8 + k)) (f (16 + k)) (f 8) (f 16) x y W ((unhide HR).px k (by omega)) ((unhide HR).py k (by omega)) ((unhide HR).px 0 (by omega)) ((unhide HR).py 0 (by omega)) hx' hy'
        have he : Hid (edge f N k x y = cnt (f (8 + k)) (f (16 + k)) (f 8) (f 16) x y) := by show edge f N k x y = _; unfold edge; rw [if_pos (by omega)]
        have c8 := fc_at f 8 (by decide)
        have c16 := fc_at f 16 (by decide)
        have hjb : ((k : Int) + 1 == N) = true := by simp [hj]
        clear hj
        cases hb : cnt (f (8 + k)) (f (16 + k)) (f 8) (f 16) x y with
        | true =>
          have HE := hide ((unhide he).trans hb)
          rw [hb] at C
          clear hb he
          go_wp2
          go_quiet (exact (C _).mono fun e w' h => ⟨h.1, _, h.2.symm⟩)
          go_wp2
          go_roundw
          case rel => exact ⟨k + 1, c + 1, by omega, by omega, by go_num, by go_num, hide (by rw [par, par_cnt _ _ c (unhide hpar), unhide HE]; rfl), _, rfl⟩
          case measure => simp [intOf]; omega
        | false =>
          have HE := hide ((unhide he).trans hb)
          rw [hb] at C
          clear hb he
          go_wp2
          go_quiet (exact (C _).mono fun e w' h => ⟨h.1, _, h.2.symm⟩)
          go_wp2
          go_roundw
          case rel => exact ⟨k + 1, c, by omega, by omega, by go_num, by go_num, hide (by rw [par, par_cnt _ _ c (unhide hpar), unhide HE]; rfl), _, rfl⟩
          case measure => simp [intOf]; omega
      · have C := fun W => refCounts_any (f (8 + k)) (f (16 + k)) (f (8 + (k + 1))) (f (16 + (k + 1))) x y W ((unhide HR).px k (by omega)) ((unhide HR).py k (by omega)) ((unhide HR).px (k + 1) (by omega)) ((unhide HR).py (k + 1) (by omega)) hx' hy'
        have he : Hid (edge f N k x y = cnt (f (8 + k)) (f (16 + k)) (f (8 + (k + 1))) (f (16 + (k + 1))) x y) := by show edge f N k x y = _; unfold edge; rw [if_neg (by omega)]
        have c8 := fc_at f (8 + (k + 1)) (by omega)
        have c16 := fc_at f (16 + (k + 1)) (by omega)
        have hjb : ((k : Int) + 1 == N) = false := by simp [hj]
        have hj1 : (k : Int) + 1 < 8 := by omega
        have hj2 : ((k : Int) + 1).toNat = k + 1 := by omega
        have hj3 : (0 : Int) ≤ (k : Int) + 1 := by omega
        clear hj
        cases hb : cnt (f (8 + k)) (f (16 + k)) (f (8 + (k + 1))) (f (16 + (k + 1))) x y with
        | true =>
          have HE := hide ((unhide he).trans hb)
          rw [hb] at C
          clear hb he
          go_wp2
          go_quiet (exact (C _).mono fun e w' h => ⟨h.1, _, h.2.symm⟩)
          go_wp2
          go_roundw
          case rel => exact ⟨k + 1, c + 1, by omega, by omega, by go_num, by go_num, hide (by rw [par, par_cnt _ _ c (unhide hpar), unhide HE]; rfl), _, rfl⟩
          case measure => simp [intOf]; omega
        | false =>
          have HE := hide ((unhide he).trans hb)
          rw [hb] at C
          clear hb he
          go_wp2
          go_quiet (exact (C _).mono fun e w' h => ⟨h.1, _, h.2.symm⟩)
          go_wp2
          go_roundw
          case rel => exact ⟨k + 1, c, by omega, by omega, by go_num, by go_num, hide (by rw [par, par_cnt _ _ c (unhide hpar), unhide HE]; rfl), _, rfl⟩
          case measure => simp [intOf]; omega
    · have hkN : Hid (N.toNat = k) := by show N.toNat = k; omega
      go_wp2
      go_ret
      refine ⟨ret_bool ?_, below_drewN (unhide HB) _⟩
      rw [unhide H, unhide hkN, unhide hpar]
      exact par_end c
theorem refCovers_any (f : Nat → Int) (z x y : Int) (w : World) :
    Calls Try.prog 16 #[.agg (fc f), .int .i64 z, .int .i64 x, .int .i64 y] w fun e w' => e = .returned (.bool (Cov f z x y)) ∧ Below w.heap.size w w' := by
  cases hr : right f with
  | false => exact refCovers_no f z x y w (Or.inl hr)
  | true =>
  cases hz : inR z 0 22 with
  | false => exact refCovers_no f z x y w (Or.inr (Or.inl hz))
  | true =>
  cases hx : inR x 0 1073741824 with
  | false => exact refCovers_no f z x y w (Or.inr (Or.inr (Or.inl hx)))
  | true =>
  cases hy : inR y 0 1073741824 with
  | false => exact refCovers_no f z x y w (Or.inr (Or.inr (Or.inr hy)))
  | true =>
  rcases (right_out hr).kind with ⟨k, _⟩ | ⟨k, _⟩
  · exact refCovers_area f z x y w hr hz hx hy k
  · exact refCovers_dot f z x y w hr hz hx hy k
end Go.Proofs.Ytppcpbhnpdjfpaa
