/-
  Is a feature right? Its form, its points; Check.
-/
import Derived.Test.YtppcpbhnpdjfpabLeaf
namespace Go.Proofs.Ytppcpbhnpdjfpab
open Go.RowKit

def form (f : Nat → Int) : Bool :=
  if f 2 = 0 then decide (f 6 = 0) && inR (f 7) 3 8 else if f 2 = 1 then inR (f 6) 1 3 && decide (f 7 = 1) else false
def pt (f : Nat → Int) (i : Nat) : Bool :=
  inR (f (8 + i)) 0 1073741824 && inR (f (16 + i)) 0 1073741824 && !(decide (f 7 ≤ (i : Int)) && (decide (f (8 + i) ≠ 0) || decide (f (16 + i) ≠ 0)))
def pts (f : Nat → Int) (k : Nat) : Bool := (List.range k).all (pt f)
def right (f : Nat → Int) : Bool := traits f && form f && pts f 8

theorem pts_snoc (f : Nat → Int) (k : Nat) (h : pts f k = true) (h' : pt f k = true) : pts f (k + 1) = true := by
  unfold pts at *; rw [List.range_succ, List.all_append, h]; simp [h']
theorem pts_false (f : Nat → Int) (k : Nat) (hk : k < 8) (h : pt f k = false) : pts f 8 = false := by
  rw [Bool.eq_false_iff]; intro ht
  simp only [pts, List.all_eq_true, List.mem_range] at ht
  rw [ht k hk] at h; cases h
theorem pt_x {f : Nat → Int} {k : Nat} {X : Int} (e : f (8 + k) = X) (h : inR X 0 1073741824 = false) : pt f k = false := by simp [pt, e, h]
theorem pt_y {f : Nat → Int} {k : Nat} {X : Int} (e : f (16 + k) = X) (h : inR X 0 1073741824 = false) : pt f k = false := by simp [pt, e, h]
theorem pt_t {f : Nat → Int} {k : Nat} {X Y N : Int} (e : f (8 + k) = X) (e' : f (16 + k) = Y) (en : f 7 = N) (h : inR X 0 1073741824 = true) (h' : inR Y 0 1073741824 = true) (hn : (k : Int) < N ∨ (X = 0 ∧ Y = 0)) : pt f k = true := by
  simp only [pt, e, e', en, h, h', Bool.true_and, Bool.not_eq_true', Bool.and_eq_false_iff, decide_eq_false_iff_not, Bool.or_eq_false_iff]
  rcases hn with hn | ⟨a, b⟩
  · left; omega
  · right; simp [a, b]
theorem pt_f {f : Nat → Int} {k : Nat} {X Y N : Int} (e : f (8 + k) = X) (e' : f (16 + k) = Y) (en : f 7 = N) (hn : N ≤ (k : Int)) (h : ¬ X = 0 ∨ ¬ Y = 0) : pt f k = false := by
  simp only [pt, e, e', en, Bool.and_eq_false_iff, Bool.not_eq_false', Bool.and_eq_true, Bool.or_eq_true, decide_eq_true_eq]
  right; exact ⟨hn, h⟩

set_option maxHeartbeats 800000 in
theorem hasForm_any (f : Nat → Int) (w : World) :
    Calls Try.prog 40 #[.agg (fc f)] w fun e w' => e = .returned (.bool (form f)) ∧ Below w.heap.size w w' := by
  have c2 := fc_at f 2 (by decide)
  have c6 := fc_at f 6 (by decide)
  have c7 := fc_at f 7 (by decide)
  obtain ⟨K, hK⟩ : ∃ K, f 2 = K := ⟨_, rfl⟩
  obtain ⟨S, hS⟩ : ∃ K, f 6 = K := ⟨_, rfl⟩
  obtain ⟨N, hN⟩ : ∃ K, f 7 = K := ⟨_, rfl⟩
  rw [hK] at c2; rw [hS] at c6; rw [hN] at c7
  by_cases h0 : K = 0
  · subst h0
    by_cases h6 : S = 0
    · subst h6
      have H : Hid (form f = inR N 3 8) := by show form f = _; simp [form, hK, hS, hN]
      clear hK hS hN
      go_enter Try.func40, Try.ntmps40
      go_wp2_with (go_at_call 54; refine (within_any _ _ _ _).mono ?_; rintro e w1 ⟨rfl, rfl⟩)
      go_ret
      exact ⟨ret_bool (unhide H).symm, below_one _ _⟩
    · have H : Hid (form f = false) := by show form f = _; simp [form, hK, hS, h6]
      clear hK hS hN
      go_enter Try.func40, Try.ntmps40
      go_wp2_with (go_at_call 54; refine (within_any _ _ _ _).mono ?_; rintro e w1 ⟨rfl, rfl⟩)
      go_ret
      exact ⟨ret_bool (unhide H).symm, below_one _ _⟩
  by_cases h1 : K = 1
  · subst h1
    cases hs : inR S 1 3 with
    | true =>
      have H : Hid (form f = (N == 1)) := by show form f = _; simp [form, hK, hS, hN, hs, BEq.beq]
      clear hK hS hN
      go_enter Try.func40, Try.ntmps40
      go_wp2_with (go_at_call 54; refine (within_any _ _ _ _).mono ?_; rintro e w1 ⟨rfl, rfl⟩)
      go_ret
      exact ⟨ret_bool (unhide H).symm, below_one _ _⟩
    | false =>
      have H : Hid (form f = false) := by show form f = _; simp [form, hK, hS, hs]
      clear hK hS hN
      go_enter Try.func40, Try.ntmps40
      go_wp2_with (go_at_call 54; refine (within_any _ _ _ _).mono ?_; rintro e w1 ⟨rfl, rfl⟩)
      go_ret
      exact ⟨ret_bool (unhide H).symm, below_one _ _⟩
  · have H : Hid (form f = false) := by show form f = _; simp [form, hK, h0, h1]
    clear hK hS hN
    go_enter Try.func40, Try.ntmps40
    go_wp2_with (go_at_call 54; refine (within_any _ _ _ _).mono ?_; rintro e w1 ⟨rfl, rfl⟩)
    go_ret
    exact ⟨ret_bool (unhide H).symm, below_one _ _⟩

set_option maxHeartbeats 800000 in
theorem hasPoints_any (f : Nat → Int) (w : World) :
    Calls Try.prog 41 #[.agg (fc f)] w fun e w' => e = .returned (.bool (pts f 8)) ∧ Below w.heap.size w w' := by
  have c7 := fc_at f 7 (by decide)
  obtain ⟨N, hN⟩ : ∃ K, f 7 = K := ⟨_, rfl⟩
  rw [hN] at c7
  have HN := hide hN
  clear hN
  go_enter Try.func41, Try.ntmps41
  go_wp2
  go_loop [3] (fun i => ∃ k : Nat, k ≤ 8 ∧ i = .int .i64 k ∧ Hid (pts f k = true)) (fun i => 8 - (intOf i).toNat)
  case atStart => exact ⟨0, by decide, rfl, hide rfl⟩
  case round =>
    obtain ⟨k, hk, rfl, hall⟩ := hrel
    by_cases hlt : k < 8
    · have cx := fc_at f (8 + k) (by omega)
      have cy := fc_at f (16 + k) (by omega)
      obtain ⟨X, hX⟩ : ∃ K, f (8 + k) = K := ⟨_, rfl⟩
      obtain ⟨Y, hY⟩ : ∃ K, f (16 + k) = K := ⟨_, rfl⟩
      rw [hX] at cx; rw [hY] at cy
      have HX := hide hX
      have HY := hide hY
      clear hX hY
      cases hx : inR X 0 1073741824 with
      | false =>
        go_wp2_with (go_at_call 55; refine (isPlace_any _ _).mono ?_; rintro e w1 ⟨rfl, rfl⟩)
        go_ret
        exact ⟨ret_bool (pts_false f k hlt (pt_x (unhide HX) hx)).symm, below_one _ _⟩
      | true =>
      cases hy : inR Y 0 1073741824 with
      | false =>
        go_wp2_with (go_at_call 55; refine (isPlace_any _ _).mono ?_; rintro e w1 ⟨rfl, rfl⟩)
        go_ret
        exact ⟨ret_bool (pts_false f k hlt (pt_y (unhide HY) hy)).symm, below_one _ _⟩
      | true =>
      by_cases hn : N ≤ (k : Int)
      · by_cases hx0 : X = 0
        · by_cases hy0 : Y = 0
          · subst hx0
            subst hy0
            go_wp2_with (go_at_call 55; refine (isPlace_any _ _).mono ?_; rintro e w1 ⟨rfl, rfl⟩)
            go_round
            case rel => exact ⟨k + 1, by omega, by go_num, hide (pts_snoc f k (unhide hall) (pt_t (unhide HX) (unhide HY) (unhide HN) rfl rfl (Or.inr ⟨rfl, rfl⟩)))⟩
            case measure => simp [intOf]; omega
          · subst hx0
            go_wp2_with (go_at_call 55; refine (isPlace_any _ _).mono ?_; rintro e w1 ⟨rfl, rfl⟩)
            go_ret
            exact ⟨ret_bool (pts_false f k hlt (pt_f (unhide HX) (unhide HY) (unhide HN) hn (Or.inr hy0))).symm, below_one _ _⟩
        · go_wp2_with (go_at_call 55; refine (isPlace_any _ _).mono ?_; rintro e w1 ⟨rfl, rfl⟩)
          go_ret
          exact ⟨ret_bool (pts_false f k hlt (pt_f (unhide HX) (unhide HY) (unhide HN) hn (Or.inl hx0))).symm, below_one _ _⟩
      · go_wp2_with (go_at_call 55; refine (isPlace_any _ _).mono ?_; rintro e w1 ⟨rfl, rfl⟩)
        go_round
        case rel => exact ⟨k + 1, by omega, by go_num, hide (pts_snoc f k (unhide hall) (pt_t (unhide HX) (unhide HY) (unhide HN) hx hy (Or.inl (by omega))))⟩
        case measure => simp [intOf]; omega
    · go_wp2
      go_ret
      have hk8 : k = 8 := by omega
      subst hk8
      exact ⟨ret_bool (unhide hall).symm, below_one _ _⟩
end Go.Proofs.Ytppcpbhnpdjfpab
