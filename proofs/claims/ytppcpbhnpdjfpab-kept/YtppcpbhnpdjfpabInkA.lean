/-
  What hides what; the centres of pixels.
-/
import Derived.Test.YtppcpbhnpdjfpabLeafL
namespace Go.Proofs.Ytppcpbhnpdjfpab
open Go.RowKit

/-- Does a hide b, wherever each of them stands? -/
def isAb (a b : Nat → Int) : Bool := if a 4 = b 4 then decide (b 0 < a 0) else decide (b 4 < a 4)

set_option maxHeartbeats 800000 in
theorem isAbove_any (a b : Nat → Int) (w : World) :
    Calls Try.prog 45 #[.agg (fc a), .agg (fc b)] w fun e w' => e = .returned (.bool (isAb a b)) ∧ Below w.heap.size w w' := by
  have a0 := fc_at a 0 (by decide)
  have a4 := fc_at a 4 (by decide)
  have b0 := fc_at b 0 (by decide)
  have b4 := fc_at b 4 (by decide)
  obtain ⟨R, hR⟩ : ∃ S, a 4 = S := ⟨_, rfl⟩
  obtain ⟨S, hS⟩ : ∃ S, b 4 = S := ⟨_, rfl⟩
  rw [hR] at a4; rw [hS] at b4
  have HR := hide hR
  have HS := hide hS
  clear hR hS
  by_cases h : R = S
  · subst h
    go_enter Try.func45, Try.ntmps45
    go_wp2
    go_ret
    refine ⟨ret_bool ?_, ?_⟩
    · simp [isAb, unhide HR, unhide HS]
    · repeat first | exact Below.refl _ _ | refine below_drewN ?_ _ | refine Below.drew ?_ | refine below_alloc ?_ (Nat.le_refl _) _
  · go_enter Try.func45, Try.ntmps45
    go_wp2
    go_ret
    refine ⟨ret_bool ?_, ?_⟩
    · simp [isAb, unhide HR, unhide HS, h]
    · repeat first | exact Below.refl _ _ | refine below_drewN ?_ _ | refine Below.drew ?_ | refine below_alloc ?_ (Nat.le_refl _) _

def cen (x u c : Int) : Int := (8 * x + c) * u + u / 2
theorem cen_in {z x c : Int} (h1 : 0 ≤ z) (h2 : z ≤ 22) (h3 : 0 ≤ x) (h4 : x < (2 : Int) ^ z.toNat) (c1 : 0 ≤ c) (c2 : c ≤ 7) :
    (0 ≤ x ∧ x ≤ 4194304) ∧ (0 ≤ (8 * x + c) * un z ∧ (8 * x + c) * un z ≤ 1073741824) ∧ W30 (cen x (un z) c) ∧ (0 ≤ 8 * x * un z ∧ 8 * x * un z ≤ 1073741824) ∧ (0 ≤ c * un z ∧ c * un z ≤ 1073741824) ∧ cen x (un z) c = 8 * x * un z + c * un z + un z / 2 ∧ 8 * x * un z ≤ cen x (un z) c ∧ cen x (un z) c ≤ 8 * (x + 1) * un z := by
  obtain ⟨_, a, b, d⟩ := un_eq z.toNat (by omega)
  have hp := (pow_cap z h2).2
  unfold cen un
  generalize (2 : Int) ^ (27 - z.toNat) = u at *
  generalize (2 : Int) ^ z.toNat = p at *
  have m1 : (x + 1) * u ≤ p * u := Int.mul_le_mul_of_nonneg_right (by omega) (by omega)
  have m2 : 0 ≤ x * u := Int.mul_nonneg h3 (by omega)
  have m3 : 0 ≤ c * u := Int.mul_nonneg c1 (by omega)
  have m4 : c * u ≤ 7 * u := Int.mul_le_mul_of_nonneg_right c2 (by omega)
  rw [d] at m1
  have e1 : 8 * x * u = 8 * (x * u) := Int.mul_assoc _ _ _
  have e2 : 8 * (x + 1) * u = 8 * (x * u) + 8 * u := by rw [Int.mul_assoc, Int.add_mul, Int.one_mul, Int.mul_add]
  have e3 : (8 * x + c) * u = 8 * (x * u) + c * u := by rw [Int.add_mul, Int.mul_assoc]
  rw [Int.add_mul, Int.one_mul] at m1
  rw [e1, e2, e3]
  unfold W30
  generalize x * u = v at *
  generalize c * u = t at *
  omega
theorem mod8 (p : Nat) (h : p < 64) : 0 ≤ (p : Int) % 8 ∧ (p : Int) % 8 ≤ 7 ∧ 0 ≤ (p : Int) / 8 ∧ (p : Int) / 8 ≤ 7 := by omega

set_option maxHeartbeats 800000 in
theorem centre_any (l z x y : Int) (p : Nat) (w : World) (he : keyErr l z x y = 0) (hp : p < 64) :
    Calls Try.prog 43 #[.agg #[.int .i64 l, .int .i64 z, .int .i64 x, .int .i64 y], .int .i64 (un z), .int .i64 p] w fun e w' => e = .returned (.agg #[.int .i64 (cen x (un z) ((p : Int) % 8)), .int .i64 (cen y (un z) ((p : Int) / 8))]) ∧ Below w.heap.size w w' := by
  obtain ⟨_, ⟨z1, z2⟩, ⟨x1, x2⟩, ⟨y1, y2⟩⟩ := keyErr_zero he
  obtain ⟨p1, p2, p3, p4⟩ := mod8 p hp
  obtain ⟨⟨kx1, kx2⟩, ax, bx, _⟩ := cen_in z1 z2 x1 x2 p1 p2
  obtain ⟨⟨ky1, ky2⟩, ay, by_, _⟩ := cen_in z1 z2 y1 y2 p3 p4
  obtain ⟨u1, u2⟩ := un_in z z1 z2
  generalize un z = u at *
  unfold W30 cen at bx by_
  have q1 : wrap64 ((8 * x + (p : Int) % 8) * u) = (8 * x + (p : Int) % 8) * u := IntWalk.wrap64_in _ ⟨by omega, by omega⟩
  have q2 : wrap64 ((8 * y + (p : Int) / 8) * u) = (8 * y + (p : Int) / 8) * u := IntWalk.wrap64_in _ ⟨by omega, by omega⟩
  have q3 : wrap64 ((8 * x + (p : Int) % 8) * u + u / 2) = (8 * x + (p : Int) % 8) * u + u / 2 := IntWalk.wrap64_in _ ⟨by omega, by omega⟩
  have q4 : wrap64 ((8 * y + (p : Int) / 8) * u + u / 2) = (8 * y + (p : Int) / 8) * u + u / 2 := IntWalk.wrap64_in _ ⟨by omega, by omega⟩
  clear he ax ay bx by_ x2 y2
  go_enter Try.func43, Try.ntmps43
  go_wp2
  refine bodyPost_ret (v := .agg #[.int .i64 (cen x u ((p : Int) % 8)), .int .i64 (cen y u ((p : Int) / 8))]) (by simp [results, Try.results43, go_sem, cen, q1, q2, q3, q4]) rfl ⟨rfl, ?_⟩
  repeat first | exact Below.refl _ _ | refine below_drewN ?_ _ | refine Below.drew ?_ | refine below_alloc ?_ (Nat.le_refl _) _
end Go.Proofs.Ytppcpbhnpdjfpab
