/-
  Keys, units, products, edges that count.
-/
import Derived.Test.YtppcpbhnpdjfpabLeafD
namespace Go.Proofs.Ytppcpbhnpdjfpab
open Go.RowKit

def keyErr (l z x y : Int) : Int :=
  if l < 0 ∨ 3 < l then 2 else if z < 0 ∨ 22 < z then 3
  else if x < 0 ∨ (2 : Int) ^ z.toNat ≤ x ∨ y < 0 ∨ (2 : Int) ^ z.toNat ≤ y then 4 else 0

theorem isZoom_any (z : Int) (w : World) :
    Calls Try.prog 38 #[.int .i64 z] w fun e w' => e = .returned (.bool (inR z 0 22)) ∧ w = w' := by
  by_cases h1 : 0 ≤ z
  · by_cases h2 : z ≤ 22
    · have H := hide (inR_t h1 h2)
      go_enter Try.func38, Try.ntmps38
      go_wp2
      go_ret
      exact ⟨ret_bool (unhide H).symm, rfl⟩
    · have H := hide (inR_f2 (n := z) (lo := 0) (hi := 22) (by omega))
      go_enter Try.func38, Try.ntmps38
      go_wp2
      go_ret
      exact ⟨ret_bool (unhide H).symm, rfl⟩
  · have H := hide (inR_f1 (n := z) (lo := 0) (hi := 22) (by omega))
    go_enter Try.func38, Try.ntmps38
    go_wp2
    go_ret
    exact ⟨ret_bool (unhide H).symm, rfl⟩

theorem pow_cap (z : Int) (h : z ≤ 22) : (1 : Int) ≤ (2 : Int) ^ z.toNat ∧ (2 : Int) ^ z.toNat ≤ 4194304 := by
  have h1 : z.toNat ≤ 22 := by omega
  have h2 : (2 : Nat) ^ z.toNat ≤ 2 ^ 22 := Nat.pow_le_pow_right (by decide) h1
  have h3 : 1 ≤ (2 : Nat) ^ z.toNat := Nat.one_le_two_pow
  have e : ((2 : Int) ^ z.toNat) = (((2 : Nat) ^ z.toNat : Nat) : Int) := by simp
  rw [e]
  omega
theorem div_pos_iff (x N : Int) (h : 1 ≤ N) : 0 < x / N ↔ N ≤ x := by
  have := Int.le_ediv_iff_mul_le (a := 1) (b := x) (c := N) (by omega)
  omega
theorem keyErr_2 (l z x y : Int) (h : l < 0 ∨ 3 < l) : keyErr l z x y = 2 := by unfold keyErr; rw [if_pos h]
theorem keyErr_3 (l z x y : Int) (h : ¬ (l < 0 ∨ 3 < l)) (h' : z < 0 ∨ 22 < z) : keyErr l z x y = 3 := by unfold keyErr; rw [if_neg h, if_pos h']
theorem keyErr_4 (l z x y : Int) (h : ¬ (l < 0 ∨ 3 < l)) (h' : ¬ (z < 0 ∨ 22 < z)) (h'' : x < 0 ∨ (2 : Int) ^ z.toNat ≤ x ∨ y < 0 ∨ (2 : Int) ^ z.toNat ≤ y) : keyErr l z x y = 4 := by unfold keyErr; rw [if_neg h, if_neg h', if_pos h'']
theorem keyErr_0 (l z x y : Int) (h : ¬ (l < 0 ∨ 3 < l)) (h' : ¬ (z < 0 ∨ 22 < z)) (h'' : ¬ (x < 0 ∨ (2 : Int) ^ z.toNat ≤ x ∨ y < 0 ∨ (2 : Int) ^ z.toNat ≤ y)) : keyErr l z x y = 0 := by unfold keyErr; rw [if_neg h, if_neg h', if_neg h'']

set_option maxHeartbeats 1600000 in
theorem keyError_any (l z x y : Int) (w : World) :
    Calls Try.prog 27 #[.agg #[.int .i64 l, .int .i64 z, .int .i64 x, .int .i64 y]] w fun e w' => e = .returned (.int .i64 (keyErr l z x y)) ∧ Below w.heap.size w w' := by
  by_cases h1 : l < 0
  · have HK := hide (keyErr_2 l z x y (Or.inl h1))
    go_enter Try.func27, Try.ntmps27
    go_wp2_with (go_at_call 38; refine (isZoom_any _ _).mono ?_; rintro e w1 ⟨rfl, rfl⟩)
    go_ret
    exact ⟨ret_int (unhide HK).symm, (Below.refl _ _).alloc (Nat.le_refl _) _⟩
  by_cases h2 : 3 < l
  · have HK := hide (keyErr_2 l z x y (Or.inr h2))
    go_enter Try.func27, Try.ntmps27
    go_wp2_with (go_at_call 38; refine (isZoom_any _ _).mono ?_; rintro e w1 ⟨rfl, rfl⟩)
    go_ret
    exact ⟨ret_int (unhide HK).symm, (Below.refl _ _).alloc (Nat.le_refl _) _⟩
  have hl : ¬ (l < 0 ∨ 3 < l) := by omega
  by_cases h3 : z < 0
  · have HK := hide (keyErr_3 l z x y hl (Or.inl h3))
    have hzz := inR_f1 (n := z) (lo := 0) (hi := 22) h3
    clear hl
    go_enter Try.func27, Try.ntmps27
    go_wp2_with (go_at_call 38; refine (isZoom_any _ _).mono ?_; rintro e w1 ⟨rfl, rfl⟩)
    go_ret
    exact ⟨ret_int (unhide HK).symm, (Below.refl _ _).alloc (Nat.le_refl _) _⟩
  by_cases h4 : 22 < z
  · have HK := hide (keyErr_3 l z x y hl (Or.inr h4))
    have hzz := inR_f2 (n := z) (lo := 0) (hi := 22) h4
    clear hl
    go_enter Try.func27, Try.ntmps27
    go_wp2_with (go_at_call 38; refine (isZoom_any _ _).mono ?_; rintro e w1 ⟨rfl, rfl⟩)
    go_ret
    exact ⟨ret_int (unhide HK).symm, (Below.refl _ _).alloc (Nat.le_refl _) _⟩
  have hz : ¬ (z < 0 ∨ 22 < z) := by omega
  have hzz := inR_t (n := z) (lo := 0) (hi := 22) (by omega) (by omega)
  have K4 := hide (keyErr_4 l z x y hl hz)
  have K0 := hide (keyErr_0 l z x y hl hz)
  obtain ⟨p1, p2⟩ := pow_cap z (by omega)
  have hw : wrap64 ((2 : Int) ^ z.toNat) = (2 : Int) ^ z.toNat := IntWalk.wrap64_in _ ⟨by omega, by omega⟩
  obtain ⟨N, hN⟩ : ∃ N, (2 : Int) ^ z.toNat = N := ⟨_, rfl⟩
  rw [hN] at p1 p2 K4 K0
  have hw' : wrap64 ((2 : Int) ^ z.toNat) = N := hw.trans hN
  clear hN hw hl hz
  by_cases h5 : x < 0
  · have HK := hide (unhide K4 (Or.inl h5))
    clear K4 K0
    go_enter Try.func27, Try.ntmps27
    go_wp2_with (go_at_call 38; refine (isZoom_any _ _).mono ?_; rintro e w1 ⟨rfl, rfl⟩)
    go_ret
    exact ⟨ret_int (unhide HK).symm, (Below.refl _ _).alloc (Nat.le_refl _) _⟩
  by_cases h6 : N ≤ x
  · have HK := hide (unhide K4 (Or.inr (Or.inl h6)))
    clear K4 K0
    go_enter Try.func27, Try.ntmps27
    go_wp2_with (go_at_call 38; refine (isZoom_any _ _).mono ?_; rintro e w1 ⟨rfl, rfl⟩)
    go_ret
    exact ⟨ret_int (unhide HK).symm, (Below.refl _ _).alloc (Nat.le_refl _) _⟩
  by_cases h7 : y < 0
  · have HK := hide (unhide K4 (Or.inr (Or.inr (Or.inl h7))))
    clear K4 K0
    go_enter Try.func27, Try.ntmps27
    go_wp2_with (go_at_call 38; refine (isZoom_any _ _).mono ?_; rintro e w1 ⟨rfl, rfl⟩)
    go_ret
    exact ⟨ret_int (unhide HK).symm, (Below.refl _ _).alloc (Nat.le_refl _) _⟩
  by_cases h8 : N ≤ y
  · have HK := hide (unhide K4 (Or.inr (Or.inr (Or.inr h8))))
    clear K4 K0
    go_enter Try.func27, Try.ntmps27
    go_wp2_with (go_at_call 38; refine (isZoom_any _ _).mono ?_; rintro e w1 ⟨rfl, rfl⟩)
    go_ret
    exact ⟨ret_int (unhide HK).symm, (Below.refl _ _).alloc (Nat.le_refl _) _⟩
  have HK := hide (unhide K0 (by omega))
  clear K4 K0
  go_enter Try.func27, Try.ntmps27
  go_wp2_with (go_at_call 38; refine (isZoom_any _ _).mono ?_; rintro e w1 ⟨rfl, rfl⟩)
  go_ret
  exact ⟨ret_int (unhide HK).symm, (Below.refl _ _).alloc (Nat.le_refl _) _⟩
/-- The unit of a zoom. -/
def un (z : Int) : Int := (2 : Int) ^ (27 - z.toNat)
theorem un_eq (n : Nat) (h : n ≤ 22) : (134217728 : Int) / (2 : Int) ^ n = (2 : Int) ^ (27 - n) ∧ (32 : Int) ≤ (2 : Int) ^ (27 - n) ∧ (2 : Int) ^ (27 - n) ≤ 134217728 ∧ (2 : Int) ^ n * (2 : Int) ^ (27 - n) = 134217728 := by
  have : n ∈ List.range 23 := by simp; omega
  have key : ∀ m ∈ List.range 23, (134217728 : Int) / (2 : Int) ^ m = (2 : Int) ^ (27 - m) ∧ (32 : Int) ≤ (2 : Int) ^ (27 - m) ∧ (2 : Int) ^ (27 - m) ≤ 134217728 ∧ (2 : Int) ^ m * (2 : Int) ^ (27 - m) = 134217728 := by decide
  exact key n this

theorem unit_no (z : Int) (w : World) (h : inR z 0 22 = false) :
    Calls Try.prog 42 #[.int .i64 z] w fun e w' => e = .returned (.int .i64 0) ∧ w = w' := by
  go_enter Try.func42, Try.ntmps42
  go_wp2_with (go_at_call 38; refine (isZoom_any _ _).mono ?_; rintro e w1 ⟨rfl, rfl⟩)
  go_ret
  exact ⟨rfl, rfl⟩
theorem unit_yes (z : Int) (w : World) (h1 : 0 ≤ z) (h2 : z ≤ 22) :
    Calls Try.prog 42 #[.int .i64 z] w fun e w' => e = .returned (.int .i64 (un z)) ∧ w = w' := by
  have h := inR_t h1 h2
  have H := hide (un_eq z.toNat (by omega)).1
  go_enter Try.func42, Try.ntmps42
  go_wp2_with (go_at_call 38; refine (isZoom_any _ _).mono ?_; rintro e w1 ⟨rfl, rfl⟩)
  go_ret
  exact ⟨ret_int (unhide H), rfl⟩
end Go.Proofs.Ytppcpbhnpdjfpab
