/-
  atlasref.Right, atlasref.Check.
-/
import Derived.Test.YtppcpbhnpdjfpaaLeafC
namespace Go.Proofs.Ytppcpbhnpdjfpaa
open Go.RowKit

set_option maxHeartbeats 3200000 in
theorem refRight_any (f : Nat → Int) (w : World) :
    Calls Try.prog 40 #[.agg (fc f)] w fun e w' => e = .returned (.bool (right f)) ∧ Below w.heap.size w w' := by
  have c0 := fc_at f 0 (by decide)
  have c1 := fc_at f 1 (by decide)
  have c3 := fc_at f 3 (by decide)
  have c4 := fc_at f 4 (by decide)
  have c5 := fc_at f 5 (by decide)
  have c2 := fc_at f 2 (by decide)
  have c6 := fc_at f 6 (by decide)
  have c7 := fc_at f 7 (by decide)
  obtain ⟨K, hK⟩ : ∃ K, f 2 = K := ⟨_, rfl⟩
  obtain ⟨S, hS⟩ : ∃ K, f 6 = K := ⟨_, rfl⟩
  obtain ⟨N, hN⟩ : ∃ K, f 7 = K := ⟨_, rfl⟩
  rw [hK] at c2; rw [hS] at c6; rw [hN] at c7
  cases h0 : inR (f 0) 1 1000 with
  | false =>
    have H : Hid (right f = false) := by show right f = _; simp [right, traits, h0]
    clear hK hS hN
    go_enter Try.func40, Try.ntmps40
    go_wp2_with (go_at_call 44; refine (in_any _ _ _ _).mono ?_; rintro e w1 ⟨rfl, rfl⟩)
    go_ret
    exact ⟨ret_bool (unhide H).symm, below_one _ _⟩
  | true =>
  cases h1 : inR (f 1) 0 3 with
  | false =>
    have H : Hid (right f = false) := by show right f = _; simp [right, traits, h1]
    clear hK hS hN
    go_enter Try.func40, Try.ntmps40
    go_wp2_with (go_at_call 44; refine (in_any _ _ _ _).mono ?_; rintro e w1 ⟨rfl, rfl⟩)
    go_ret
    exact ⟨ret_bool (unhide H).symm, below_one _ _⟩
  | true =>
  cases h3 : inR (f 3) 1 15 with
  | false =>
    have H : Hid (right f = false) := by show right f = _; simp [right, traits, h3]
    clear hK hS hN
    go_enter Try.func40, Try.ntmps40
    go_wp2_with (go_at_call 44; refine (in_any _ _ _ _).mono ?_; rintro e w1 ⟨rfl, rfl⟩)
    go_ret
    exact ⟨ret_bool (unhide H).symm, below_one _ _⟩
  | true =>
  cases h4 : inR (f 4) 0 9 with
  | false =>
    have H : Hid (right f = false) := by show right f = _; simp [right, traits, h4]
    clear hK hS hN
    go_enter Try.func40, Try.ntmps40
    go_wp2_with (go_at_call 44; refine (in_any _ _ _ _).mono ?_; rintro e w1 ⟨rfl, rfl⟩)
    go_ret
    exact ⟨ret_bool (unhide H).symm, below_one _ _⟩
  | true =>
  cases h5 : inR (f 5) 0 22 with
  | false =>
    have H : Hid (right f = false) := by show right f = _; simp [right, traits, h5]
    clear hK hS hN
    go_enter Try.func40, Try.ntmps40
    go_wp2_with (go_at_call 44; refine (in_any _ _ _ _).mono ?_; rintro e w1 ⟨rfl, rfl⟩)
    go_ret
    exact ⟨ret_bool (unhide H).symm, below_one _ _⟩
  | true =>
  by_cases hk0 : K = 0
  · subst hk0
    cases hq : inR N 3 8 with
    | false =>
      have H : Hid (right f = false) := by show right f = _; simp [right, form, hK, hN, hq]
      clear hK hS hN
      go_enter Try.func40, Try.ntmps40
      go_wp2_with (go_at_call 44; refine (in_any _ _ _ _).mono ?_; rintro e w1 ⟨rfl, rfl⟩)
      go_ret
      exact ⟨ret_bool (unhide H).symm, below_one _ _⟩
    | true =>
      by_cases h6 : S = 0
      · subst h6
        have H : Hid (right f = pts f 8) := by show right f = _; simp [right, traits, form, hK, hS, hN, h0, h1, h3, h4, h5, hq]
        have HN := hide hN
        clear hK hS hN
        go_enter Try.func40, Try.ntmps40
        go_wp2_with (go_at_call 44; refine (in_any _ _ _ _).mono ?_; rintro e w1 ⟨rfl, rfl⟩)
        go_loop [10, 11, 12] (fun i _ _ => ∃ k : Nat, k ≤ 8 ∧ i = .int .i64 k ∧ Hid (pts f k = true)) (fun i _ _ => 8 - (intOf i).toNat)
        case atStart => exact ⟨0, by decide, rfl, hide rfl⟩
        case round =>
          obtain ⟨k, hk, rfl, hall⟩ := hrel
          by_cases hlt : k < 8
          · have cx := fc_at f (8 + k) (by omega)
            have cy := fc_at f (16 + k) (by omega)
            obtain ⟨X, hX⟩ : ∃ K, f (8 + k) = K := ⟨_, rfl⟩
            obtain ⟨Y, hY⟩ : ∃ K, f (16 + k) = K := ⟨_, rfl⟩
            rw [hX] at cx; rw [hY] at cy
            have HX := hide hX
            have HY := hide hY
            clear hX hY
            cases hx : inR X 0 1073741824 with
            | false =>
              go_wp2_with (go_at_call 44; refine (in_any _ _ _ _).mono ?_; rintro e w1 ⟨rfl, rfl⟩)
              go_ret
              exact ⟨ret_bool ((unhide H).trans (pts_false f k hlt (pt_x (unhide HX) hx))).symm, below_one _ _⟩
            | true =>
            cases hy : inR Y 0 1073741824 with
            | false =>
              go_wp2_with (go_at_call 44; refine (in_any _ _ _ _).mono ?_; rintro e w1 ⟨rfl, rfl⟩)
              go_ret
              exact ⟨ret_bool ((unhide H).trans (pts_false f k hlt (pt_y (unhide HY) hy))).symm, below_one _ _⟩
            | true =>
            by_cases hn : N ≤ (k : Int)
            · by_cases hx0 : X = 0
              · by_cases hy0 : Y = 0
                · subst hx0
                  subst hy0
                  go_wp2_with (go_at_call 44; refine (in_any _ _ _ _).mono ?_; rintro e w1 ⟨rfl, rfl⟩)
                  go_round
                  case rel => exact ⟨k + 1, by omega, by go_num, hide (pts_snoc f k (unhide hall) (pt_t (unhide HX) (unhide HY) (unhide HN) rfl rfl (Or.inr ⟨rfl, rfl⟩)))⟩
                  case measure => simp [intOf]; omega
                · subst hx0
                  go_wp2_with (go_at_call 44; refine (in_any _ _ _ _).mono ?_; rintro e w1 ⟨rfl, rfl⟩)
                  go_ret
                  exact ⟨ret_bool ((unhide H).trans (pts_false f k hlt (pt_f (unhide HX) (unhide HY) (unhide HN) hn (Or.inr hy0)))).symm, below_one _ _⟩
              · go_wp2_with (go_at_call 44; refine (in_any _ _ _ _).mono ?_; rintro e w1 ⟨rfl, rfl⟩)
                go_ret
                exact ⟨ret_bool ((unhide H).trans (pts_false f k hlt (pt_f (unhide HX) (unhide HY) (unhide HN) hn (Or.inl hx0)))).symm, below_one _ _⟩
            · go_wp2_with (go_at_call 44; refine (in_any _ _ _ _).mono ?_; rintro e w1 ⟨rfl, rfl⟩)
              go_round
              case rel => exact ⟨k + 1, by omega, by go_num, hide (pts_snoc f k (unhide hall) (pt_t (unhide HX) (unhide HY) (unhide HN) hx hy (Or.inl (by omega))))⟩
              case measure => simp [intOf]; omega
          · go_wp2
            go_ret
            have hk8 : k = 8 := by omega
            subst hk8
            exact ⟨ret_bool ((unhide H).trans (unhide hall)).symm, below_one _ _⟩
      · have H : Hid (right f = false) := by show right f = _; simp [right, form, hK, hS, h6]
        clear hK hS hN
        go_enter Try.func40, Try.ntmps40
        go_wp2_with (go_at_call 44; refine (in_any _ _ _ _).mono ?_; rintro e w1 ⟨rfl, rfl⟩)
        go_ret
        exact ⟨ret_bool (unhide H).symm, below_one _ _⟩
  by_cases hk1 : K = 1
  · subst hk1
    cases hq : inR S 1 3 with
    | false =>
      have H : Hid (right f = false) := by show right f = _; simp [right, form, hK, hS, hq]
      clear hK hS hN
      go_enter Try.func40, Try.ntmps40
      go_wp2_with (go_at_call 44; refine (in_any _ _ _ _).mono ?_; rintro e w1 ⟨rfl, rfl⟩)
      go_ret
      exact ⟨ret_bool (unhide H).symm, below_one _ _⟩
    | true =>
      by_cases h7 : N = 1
      · subst h7
        have H : Hid (right f = pts f 8) := by show right f = _; simp [right, traits, form, hK, hS, hN, h0, h1, h3, h4, h5, hq]
        have HN := hide hN
        clear hK hS hN
        go_enter Try.func40, Try.ntmps40
        go_wp2_with (go_at_call 44; refine (in_any _ _ _ _).mono ?_; rintro e w1 ⟨rfl, rfl⟩)
        go_loop [10, 11, 12] (fun i _ _ => ∃ k : Nat, k ≤ 8 ∧ i = .int .i64 k ∧ Hid (pts f k = true)) (fun i _ _ => 8 - (intOf i).toNat)
        case atStart => exact ⟨0, by decide, rfl, hide rfl⟩
        case round =>
          obtain ⟨k, hk, rfl, hall⟩ := hrel
          by_cases hlt : k < 8
          · have cx := fc_at f (8 + k) (by omega)
            have cy := fc_at f (16 + k) (by omega)
            obtain ⟨X, hX⟩ : ∃ K, f (8 + k) = K := ⟨_, rfl⟩
            obtain ⟨Y, hY⟩ : ∃ K, f (16 + k) = K := ⟨_, rfl⟩
            rw [hX] at cx; rw [hY] at cy
            have HX := hide hX
            have HY := hide hY
            clear hX hY
            cases hx : inR X 0 1073741824 with
            | false =>
              go_wp2_with (go_at_call 44; refine (in_any _ _ _ _).mono ?_; rintro e w1 ⟨rfl, rfl⟩)
              go_ret
              exact ⟨ret_bool ((unhide H).trans (pts_false f k hlt (pt_x (unhide HX) hx))).symm, below_one _ _⟩
            | true =>
            cases hy : inR Y 0 1073741824 with
            | false =>
              go_wp2_with (go_at_call 44; refine (in_any _ _ _ _).mono ?_; rintro e w1 ⟨rfl, rfl⟩)
              go_ret
              exact ⟨ret_bool ((unhide H).trans (pts_false f k hlt (pt_y (unhide HY) hy))).symm, below_one _ _⟩
            | true =>
            by_cases hn : (1 : Int) ≤ (k : Int)
            · by_cases hx0 : X = 0
              · by_cases hy0 : Y = 0
                · subst hx0
                  subst hy0
                  go_wp2_with (go_at_call 44; refine (in_any _ _ _ _).mono ?_; rintro e w1 ⟨rfl, rfl⟩)
                  go_round
                  case rel => exact ⟨k + 1, by omega, by go_num, hide (pts_snoc f k (unhide hall) (pt_t (unhide HX) (unhide HY) (unhide HN) rfl rfl (Or.inr ⟨rfl, rfl⟩)))⟩
                  case measure => simp [intOf]; omega
                · subst hx0
                  go_wp2_with (go_at_call 44; refine (in_any _ _ _ _).mono ?_; rintro e w1 ⟨rfl, rfl⟩)
                  go_ret
                  exact ⟨ret_bool ((unhide H).trans (pts_false f k hlt (pt_f (unhide HX) (unhide HY) (unhide HN) hn (Or.inr hy0)))).symm, below_one _ _⟩
              · go_wp2_with (go_at_call 44; refine (in_any _ _ _ _).mono ?_; rintro e w1 ⟨rfl, rfl⟩)
                go_ret
                exact ⟨ret_bool ((unhide H).trans (pts_false f k hlt (pt_f (unhide HX) (unhide HY) (unhide HN) hn (Or.inl hx0)))).symm, below_one _ _⟩
            · go_wp2_with (go_at_call 44; refine (in_any _ _ _ _).mono ?_; rintro e w1 ⟨rfl, rfl⟩)
              go_round
              case rel => exact ⟨k + 1, by omega, by go_num, hide (pts_snoc f k (unhide hall) (pt_t (unhide HX) (unhide HY) (unhide HN) hx hy (Or.inl (by omega))))⟩
              case measure => simp [intOf]; omega
          · go_wp2
            go_ret
            have hk8 : k = 8 := by omega
            subst hk8
            exact ⟨ret_bool ((unhide H).trans (unhide hall)).symm, below_one _ _⟩
      · have H : Hid (right f = false) := by show right f = _; simp [right, form, hK, hN, h7]
        clear hK hS hN
        go_enter Try.func40, Try.ntmps40
        go_wp2_with (go_at_call 44; refine (in_any _ _ _ _).mono ?_; rintro e w1 ⟨rfl, rfl⟩)
        go_ret
        exact ⟨ret_bool (unhide H).symm, below_one _ _⟩
  · have H : Hid (right f = false) := by show right f = _; simp [right, form, hK, hk0, hk1]
    clear hK hS hN
    go_enter Try.func40, Try.ntmps40
    go_wp2_with (go_at_call 44; refine (in_any _ _ _ _).mono ?_; rintro e w1 ⟨rfl, rfl⟩)
    go_ret
    exact ⟨ret_bool (unhide H).symm, below_one _ _⟩

set_option maxHeartbeats 800000 in
theorem refCheck_any (f : Nat → Int) (w : World) :
    Calls Try.prog 14 #[.agg (fc f)] w fun e w' => e = .returned (.int .i64 (bif right f then 0 else 7)) ∧ Below w.heap.size w w' := by
  have hg0 := heap_alloc_new w (.cells (fc f) 26 (0, 0))
  cases h1 : right f with
  | false =>
    go_enter Try.func14, Try.ntmps14
    go_wp2_with (refine ld26 rfl _ rfl _ rfl f hg0 ?_)
    refine (refRight_any f _).mono ?_
    rintro e w1 ⟨rfl, hb1⟩
    have HB := hide ((below_one _ _).trans (hb1.mono (by simp)))
    clear hb1
    go_wp2_with fail
    go_ret
    exact ⟨rfl, unhide HB⟩
  | true =>
    go_enter Try.func14, Try.ntmps14
    go_wp2_with (refine ld26 rfl _ rfl _ rfl f hg0 ?_)
    refine (refRight_any f _).mono ?_
    rintro e w1 ⟨rfl, hb1⟩
    have HB := hide ((below_one _ _).trans (hb1.mono (by simp)))
    clear hb1
    go_wp2_with fail
    go_ret
    exact ⟨rfl, unhide HB⟩
end Go.Proofs.Ytppcpbhnpdjfpaa
