/-
  atlasref.Touches; the law Shapes.
-/
import Derived.Test.YtppcpbhnpdjfpaaLeafK
namespace Go.Proofs.Ytppcpbhnpdjfpaa
open Go.RowKit

set_option maxHeartbeats 3200000 in
theorem refTouches_no (f : Nat → Int) (l z x y : Int) (w : World) (h : right f = false ∨ ¬ keyErr l z x y = 0 ∨ shw f l z = false) :
    Calls Try.prog 18 #[.agg (fc f), .agg #[.int .i64 l, .int .i64 z, .int .i64 x, .int .i64 y]] w fun e w' => e = .returned (.bool (Tch f l z x y)) ∧ Below w.heap.size w w' := by
  obtain ⟨hg0, hk0, hb0⟩ := two_blocks w (.cells (fc f) 26 (0, 0)) (.cells #[.int .i64 l, .int .i64 z, .int .i64 x, .int .i64 y] 28 (0, 0))
  have HB0 := hide hb0
  clear hb0
  cases hr : right f with
  | false =>
    have H : Hid (Tch f l z x y = false) := by show Tch f l z x y = _; simp [Tch, hr]
    have K := fun W => refKeyError_any l z x y W
    clear h
    go_enter Try.func18, Try.ntmps18
    go_wp2_with (refine ld26 rfl _ rfl _ rfl f hg0 ?_)
    refine (refRight_f hr _).mono ?_
    rintro e w1 ⟨rfl, hb1⟩
    have hg1 := blk_on hg0 hb1
    have hk1 := blk_on hk0 hb1
    have hc1 := blk_cells hk1
    have HB := hide ((unhide HB0).trans (hb1.mono (unhide HB0).size))
    clear hb1
    go_wp2_with fail
    refine (K _).mono ?_
    rintro e w2 ⟨rfl, hb2⟩
    have hg2 := blk_on hg1 hb2
    have hk2 := blk_on hk1 hb2
    have hc2 := blk_cells hk2
    have hd2 := blk_cells hg2
    have HB2 := hide ((unhide HB).trans (hb2.mono (unhide HB).size))
    clear hb2 hg1 hk1 hc1
    go_wp2_with fail
    go_ret
    exact ⟨ret_bool (unhide H).symm, unhide HB2⟩
  | true =>
  by_cases he : keyErr l z x y = 0
  · have hs : shw f l z = false := by
      rcases h with h | h | h
      · rw [hr] at h; cases h
      · exact absurd he h
      · exact h
    have H : Hid (Tch f l z x y = false) := by show Tch f l z x y = _; simp [Tch, hs]
    have K := fun W => refKeyError_any l z x y W
    have S := fun W => shows53_any f l z x y W
    rw [he] at K
    rw [hs] at S
    clear h he
    go_enter Try.func18, Try.ntmps18
    go_wp2_with (refine ld26 rfl _ rfl _ rfl f hg0 ?_)
    refine (refRight_t hr _).mono ?_
    rintro e w1 ⟨rfl, hb1⟩
    have hg1 := blk_on hg0 hb1
    have hk1 := blk_on hk0 hb1
    have hc1 := blk_cells hk1
    have HB := hide ((unhide HB0).trans (hb1.mono (unhide HB0).size))
    clear hb1
    go_wp2_with fail
    refine (K _).mono ?_
    rintro e w2 ⟨rfl, hb2⟩
    have hg2 := blk_on hg1 hb2
    have hk2 := blk_on hk1 hb2
    have hc2 := blk_cells hk2
    have hd2 := blk_cells hg2
    have HB2 := hide ((unhide HB).trans (hb2.mono (unhide HB).size))
    clear hb2 hg1 hk1 hc1
    go_wp2_with (refine ld26 rfl _ rfl _ rfl f hg2 ?_)
    refine (S _).mono ?_
    rintro e w3 ⟨rfl, hb3⟩
    have HB3 := hide ((unhide HB2).trans (hb3.mono (unhide HB2).size))
    clear hb3 hg2 hk2 hc2
    go_wp2_with fail
    go_ret
    exact ⟨ret_bool (unhide H).symm, unhide HB3⟩
  · have H : Hid (Tch f l z x y = false) := by show Tch f l z x y = _; simp [Tch, he]
    have K := fun W => refKeyError_any l z x y W
    have hne : (keyErr l z x y == 0) = false := by simp [he]
    clear h he
    go_enter Try.func18, Try.ntmps18
    go_wp2_with (refine ld26 rfl _ rfl _ rfl f hg0 ?_)
    refine (refRight_t hr _).mono ?_
    rintro e w1 ⟨rfl, hb1⟩
    have hg1 := blk_on hg0 hb1
    have hk1 := blk_on hk0 hb1
    have hc1 := blk_cells hk1
    have HB := hide ((unhide HB0).trans (hb1.mono (unhide HB0).size))
    clear hb1
    go_wp2_with fail
    refine (K _).mono ?_
    rintro e w2 ⟨rfl, hb2⟩
    have hg2 := blk_on hg1 hb2
    have hk2 := blk_on hk1 hb2
    have hc2 := blk_cells hk2
    have hd2 := blk_cells hg2
    have HB2 := hide ((unhide HB).trans (hb2.mono (unhide HB).size))
    clear hb2 hg1 hk1 hc1
    go_wp2_with fail
    go_ret
    exact ⟨ret_bool (unhide H).symm, unhide HB2⟩

set_option maxHeartbeats 3200000 in
theorem refTouches_yes (f : Nat → Int) (l z x y : Int) (w : World) (hr : right f = true) (he : keyErr l z x y = 0) (hs : shw f l z = true) :
    Calls Try.prog 18 #[.agg (fc f), .agg #[.int .i64 l, .int .i64 z, .int .i64 x, .int .i64 y]] w fun e w' => e = .returned (.bool (Tch f l z x y)) ∧ Below w.heap.size w w' := by
  obtain ⟨hg0, hk0, hb0⟩ := two_blocks w (.cells (fc f) 26 (0, 0)) (.cells #[.int .i64 l, .int .i64 z, .int .i64 x, .int .i64 y] 28 (0, 0))
  have HB0 := hide hb0
  clear hb0
  have hR := right_out hr
  have K := fun W => refKeyError_any l z x y W
  have S := fun W => shows53_any f l z x y W
  rw [he] at K
  rw [hs] at S
  obtain ⟨_, ⟨z1, z2⟩, ⟨x1, x2⟩, ⟨y1, y2⟩⟩ := keyErr_zero he
  have U := fun W => refUnit_yes z W z1 z2
  obtain ⟨⟨sx0, sx1⟩, sx2, sx3⟩ := sq_in z1 z2 x1 x2
  obtain ⟨⟨sy0, sy1⟩, sy2, sy3⟩ := sq_in z1 z2 y1 y2
  obtain ⟨u1, u2⟩ := un_in z z1 z2
  obtain ⟨n1, n2⟩ := n_in hR
  have c6 := fc_at f 6 (by decide)
  have c7 := fc_at f 7 (by decide)
  have H : Hid (Tch f l z x y = (axT (fun i => f (8 + i)) (f 7).toNat (f 6 * un z) (8 * x * un z) (8 * (x + 1) * un z) && axT (fun i => f (16 + i)) (f 7).toNat (f 6 * un z) (8 * y * un z) (8 * (y + 1) * un z))) := by show Tch f l z x y = _; simp [Tch, hr, he, hs]
  obtain ⟨u, hu⟩ : ∃ u, un z = u := ⟨_, rfl⟩
  rw [hu] at H U sx2 sx3 sy2 sy3 u1 u2
  have wS := size_in hR (u := u) ⟨by omega, by omega⟩
  obtain ⟨n, hn⟩ : ∃ n : Nat, f 7 = (n : Int) := ⟨(f 7).toNat, by omega⟩
  have hn' : (f 7).toNat = n := by omega
  have A1 := fun W => apart_any (fun i => f (8 + i)) n (f 6 * u) (8 * x * u) (8 * (x + 1) * u) W (by omega) hR.px wS
  have A2 := fun W => apart_any (fun i => f (16 + i)) n (f 6 * u) (8 * y * u) (8 * (y + 1) * u) W (by omega) hR.py wS
  rw [hn'] at H
  rw [hn] at c7
  unfold W30 at wS
  have q0 : wrap64 (f 6 * u) = f 6 * u := IntWalk.wrap64_in _ ⟨by omega, by omega⟩
  have q1 : wrap64 (8 * x * u) = 8 * x * u := IntWalk.wrap64_in _ ⟨by omega, by omega⟩
  have q2 : wrap64 (8 * (x + 1) * u) = 8 * (x + 1) * u := IntWalk.wrap64_in _ ⟨by omega, by omega⟩
  have q3 : wrap64 (8 * y * u) = 8 * y * u := IntWalk.wrap64_in _ ⟨by omega, by omega⟩
  have q4 : wrap64 (8 * (y + 1) * u) = 8 * (y + 1) * u := IntWalk.wrap64_in _ ⟨by omega, by omega⟩
  unfold axT at H
  obtain ⟨bx, hbx⟩ : ∃ b, (apB (fun i => f (8 + i)) (f 6 * u) (8 * x * u) n || apA (fun i => f (8 + i)) (f 6 * u) (8 * (x + 1) * u) n) = b := ⟨_, rfl⟩
  obtain ⟨bY, hby⟩ : ∃ b, (apB (fun i => f (16 + i)) (f 6 * u) (8 * y * u) n || apA (fun i => f (16 + i)) (f 6 * u) (8 * (y + 1) * u) n) = b := ⟨_, rfl⟩
  rw [hbx, hby] at H
  rw [hbx] at A1
  rw [hby] at A2
  clear hbx hby he hu hR hn hn' sx2 sx3 sy2 sy3 wS x2 y2
  cases bx with
  | true =>
    go_enter Try.func18, Try.ntmps18
    go_wp2_with (refine ld26 rfl _ rfl _ rfl f hg0 ?_)
    refine (refRight_t hr _).mono ?_
    rintro e w1 ⟨rfl, hb1⟩
    have hg1 := blk_on hg0 hb1
    have hk1 := blk_on hk0 hb1
    have hc1 := blk_cells hk1
    have HB := hide ((unhide HB0).trans (hb1.mono (unhide HB0).size))
    clear hb1
    go_wp2_with fail
    refine (K _).mono ?_
    rintro e w2 ⟨rfl, hb2⟩
    have hg2 := blk_on hg1 hb2
    have hk2 := blk_on hk1 hb2
    have hc2 := blk_cells hk2
    have hd2 := blk_cells hg2
    have HB2 := hide ((unhide HB).trans (hb2.mono (unhide HB).size))
    clear hb2 hg1 hk1 hc1
    go_wp2_with (refine ld26 rfl _ rfl _ rfl f hg2 ?_)
    refine (S _).mono ?_
    rintro e w3 ⟨rfl, hb3⟩
    have hg3 := blk_on hg2 hb3
    have hk3 := blk_on hk2 hb3
    have hc3 := blk_cells hk3
    have hd3 := blk_cells hg3
    have HB3 := hide ((unhide HB2).trans (hb3.mono (unhide HB2).size))
    clear hb3 hg2 hk2 hc2 hd2
    go_wp2_with (first | (go_at_call 45; refine (U _).mono ?_; rintro e w9 ⟨rfl, rfl⟩) | (refine ld24 rfl _ rfl w.heap.size 8 rfl (fun i => f (8 + i)) (rng8 hg3) ?_))
    refine (A1 _).mono ?_
    rintro e w4 ⟨rfl, hb4⟩
    have hg4 := blk_on hg3 hb4
    have hk4 := blk_on hk3 hb4
    have hc4 := blk_cells hk4
    have hd4 := blk_cells hg4
    have HB4 := hide ((unhide HB3).trans (hb4.mono (unhide HB3).size))
    clear hb4 hg3 hk3 hc3 hd3
    go_wp2_with (refine ld24 rfl _ rfl w.heap.size 16 rfl (fun i => f (16 + i)) (rng16 hg4) ?_)
    refine (A2 _).mono ?_
    rintro e w5 ⟨rfl, hb5⟩
    have HB5 := hide ((unhide HB4).trans (hb5.mono (unhide HB4).size))
    clear hb5 hg4 hk4 hc4 hd4
    go_wp2_with fail
    go_ret
    exact ⟨ret_bool (by rw [unhide H]; simp), unhide HB5⟩
  | false =>
    go_enter Try.func18, Try.ntmps18
    go_wp2_with (refine ld26 rfl _ rfl _ rfl f hg0 ?_)
    refine (refRight_t hr _).mono ?_
    rintro e w1 ⟨rfl, hb1⟩
    have hg1 := blk_on hg0 hb1
    have hk1 := blk_on hk0 hb1
    have hc1 := blk_cells hk1
    have HB := hide ((unhide HB0).trans (hb1.mono (unhide HB0).size))
    clear hb1
    go_wp2_with fail
    refine (K _).mono ?_
    rintro e w2 ⟨rfl, hb2⟩
    have hg2 := blk_on hg1 hb2
    have hk2 := blk_on hk1 hb2
    have hc2 := blk_cells hk2
    have hd2 := blk_cells hg2
    have HB2 := hide ((unhide HB).trans (hb2.mono (unhide HB).size))
    clear hb2 hg1 hk1 hc1
    go_wp2_with (refine ld26 rfl _ rfl _ rfl f hg2 ?_)
    refine (S _).mono ?_
    rintro e w3 ⟨rfl, hb3⟩
    have hg3 := blk_on hg2 hb3
    have hk3 := blk_on hk2 hb3
    have hc3 := blk_cells hk3
    have hd3 := blk_cells hg3
    have HB3 := hide ((unhide HB2).trans (hb3.mono (unhide HB2).size))
    clear hb3 hg2 hk2 hc2 hd2
    go_wp2_with (first | (go_at_call 45; refine (U _).mono ?_; rintro e w9 ⟨rfl, rfl⟩) | (refine ld24 rfl _ rfl w.heap.size 8 rfl (fun i => f (8 + i)) (rng8 hg3) ?_))
    refine (A1 _).mono ?_
    rintro e w4 ⟨rfl, hb4⟩
    have hg4 := blk_on hg3 hb4
    have hk4 := blk_on hk3 hb4
    have hc4 := blk_cells hk4
    have hd4 := blk_cells hg4
    have HB4 := hide ((unhide HB3).trans (hb4.mono (unhide HB3).size))
    clear hb4 hg3 hk3 hc3 hd3
    go_wp2_with (refine ld24 rfl _ rfl w.heap.size 16 rfl (fun i => f (16 + i)) (rng16 hg4) ?_)
    refine (A2 _).mono ?_
    rintro e w5 ⟨rfl, hb5⟩
    have HB5 := hide ((unhide HB4).trans (hb5.mono (unhide HB4).size))
    clear hb5 hg4 hk4 hc4 hd4
    go_wp2_with fail
    go_ret
    exact ⟨ret_bool (by rw [unhide H]; simp), unhide HB5⟩

theorem refTouches_any (f : Nat → Int) (l z x y : Int) (w : World) :
    Calls Try.prog 18 #[.agg (fc f), .agg #[.int .i64 l, .int .i64 z, .int .i64 x, .int .i64 y]] w fun e w' => e = .returned (.bool (Tch f l z x y)) ∧ Below w.heap.size w w' := by
  cases hr : right f with
  | false => exact refTouches_no f l z x y w (Or.inl hr)
  | true =>
  by_cases he : keyErr l z x y = 0
  · cases hs : shw f l z with
    | false => exact refTouches_no f l z x y w (Or.inr (Or.inr hs))
    | true => exact refTouches_yes f l z x y w hr he hs
  · exact refTouches_no f l z x y w (Or.inr (Or.inl he))

set_option maxHeartbeats 3200000 in
theorem shapes_walk (f : Nat → Int) (zoom px py l z x y : Int) (w : World) :
    Calls Try.prog 4 #[.agg (fc f), .int .i64 zoom, .int .i64 px, .int .i64 py, .agg #[.int .i64 l, .int .i64 z, .int .i64 x, .int .i64 y]] w fun e w' => e = .returned (.bool true) ∧ Below w.heap.size w w' := by
  obtain ⟨hg0, hk0, hb0⟩ := two_blocks w (.cells (fc f) 26 (0, 0)) (.cells #[.int .i64 l, .int .i64 z, .int .i64 x, .int .i64 y] 28 (0, 0))
  have HB0 := hide hb0
  clear hb0
  have C1 := fun W => check_any f W
  have C2 := fun W => refCheck_any f W
  have C3 := fun W => Covers_any f zoom px py W
  have C4 := fun W => refCovers_any f zoom px py W
  have C5 := fun W => Touches_any f l z x y W
  have C6 := fun W => refTouches_any f l z x y W
  generalize (bif right f then (0 : Int) else 7) = E at C1 C2
  generalize Cov f zoom px py = B at C3 C4
  generalize Tch f l z x y = D at C5 C6
  go_enter Try.func4, Try.ntmps4
  go_wp2_with (refine ld26 rfl _ rfl _ rfl f hg0 ?_)
  refine (C1 _).mono ?_
  rintro e w1 ⟨rfl, hb1⟩
  have hg1 := blk_on hg0 hb1
  have hk1 := blk_on hk0 hb1
  have hc1 := blk_cells hk1
  have HB1 := hide ((unhide HB0).trans (hb1.mono (unhide HB0).size))
  clear hb1
  go_wp2_with (refine ld26 rfl _ rfl _ rfl f hg1 ?_)
  refine (C2 _).mono ?_
  rintro e w2 ⟨rfl, hb2⟩
  have hg2 := blk_on hg1 hb2
  have hk2 := blk_on hk1 hb2
  have hc2 := blk_cells hk2
  have HB2 := hide ((unhide HB1).trans (hb2.mono (unhide HB1).size))
  clear hb2 hg1 hk1 hc1
  go_wp2_with (refine ld26 rfl _ rfl _ rfl f hg2 ?_)
  refine (C3 _).mono ?_
  rintro e w3 ⟨rfl, hb3⟩
  have hg3 := blk_on hg2 hb3
  have hk3 := blk_on hk2 hb3
  have hc3 := blk_cells hk3
  have HB3 := hide ((unhide HB2).trans (hb3.mono (unhide HB2).size))
  clear hb3 hg2 hk2 hc2
  go_wp2_with (refine ld26 rfl _ rfl _ rfl f hg3 ?_)
  refine (C4 _).mono ?_
  rintro e w4 ⟨rfl, hb4⟩
  have hg4 := blk_on hg3 hb4
  have hk4 := blk_on hk3 hb4
  have hc4 := blk_cells hk4
  have HB4 := hide ((unhide HB3).trans (hb4.mono (unhide HB3).size))
  clear hb4 hg3 hk3 hc3
  go_wp2_with (refine ld26 rfl _ rfl _ rfl f hg4 ?_)
  refine (C5 _).mono ?_
  rintro e w5 ⟨rfl, hb5⟩
  have hg5 := blk_on hg4 hb5
  have hk5 := blk_on hk4 hb5
  have hc5 := blk_cells hk5
  have HB5 := hide ((unhide HB4).trans (hb5.mono (unhide HB4).size))
  clear hb5 hg4 hk4 hc4
  go_wp2_with (refine ld26 rfl _ rfl _ rfl f hg5 ?_)
  refine (C6 _).mono ?_
  rintro e w6 ⟨rfl, hb6⟩
  have hg6 := blk_on hg5 hb6
  have hk6 := blk_on hk5 hb6
  have hc6 := blk_cells hk6
  have HB6 := hide ((unhide HB5).trans (hb6.mono (unhide HB5).size))
  clear hb6 hg5 hk5 hc5
  go_wp2_with (refine ld26 rfl _ rfl _ rfl f hg6 ?_)
  go_ret
  exact ⟨rfl, unhide HB6⟩
end Go.Proofs.Ytppcpbhnpdjfpaa
