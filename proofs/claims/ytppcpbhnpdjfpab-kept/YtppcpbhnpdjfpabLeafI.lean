/-
  atlasref.Covers.
-/
import Derived.Test.YtppcpbhnpdjfpabLeafH
namespace Go.Proofs.Ytppcpbhnpdjfpab
open Go.RowKit

theorem par_cnt (b : Bool) (p : Bool) (c : Nat) (h : p = decide (c % 2 = 1)) : (p != b) = decide ((bif b then c + 1 else c) % 2 = 1) := by
  subst h
  cases b
  · simp
  · rcases Nat.mod_two_eq_zero_or_one c with h | h
    · have : (c + 1) % 2 = 1 := by omega
      simp [h, this]
    · have : (c + 1) % 2 = 0 := by omega
      simp [h, this]
theorem par_end (c : Nat) : ((c : Int) % 2 == 1) = decide (c % 2 = 1) := by
  rw [Bool.eq_iff_iff]; simp; omega
end Go.Proofs.Ytppcpbhnpdjfpab
