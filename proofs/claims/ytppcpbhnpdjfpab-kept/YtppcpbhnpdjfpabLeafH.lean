/-
  shape.Covers, atlasref.Covers.
-/
import Derived.Test.YtppcpbhnpdjfpabLeafG
namespace Go.Proofs.Ytppcpbhnpdjfpab
open Go.RowKit

/-- P7's Covers. -/
def Cov (f : Nat → Int) (z x y : Int) : Bool := right f && inR z 0 22 && inR x 0 1073741824 && inR y 0 1073741824 && cov f (un z) x y

theorem check_t {f : Nat → Int} (h : right f = true) (w : World) : Calls Try.prog 28 #[.agg (fc f)] w fun e w' => e = .returned (.int .i64 0) ∧ Below w.heap.size w w' := by
  have := check_any f w; rw [h] at this; exact this
theorem check_f {f : Nat → Int} (h : right f = false) (w : World) : Calls Try.prog 28 #[.agg (fc f)] w fun e w' => e = .returned (.int .i64 7) ∧ Below w.heap.size w w' := by
  have := check_any f w; rw [h] at this; exact this
theorem un_in (z : Int) (h1 : 0 ≤ z) (h2 : z ≤ 22) : 32 ≤ un z ∧ un z ≤ 134217728 := by
  have := un_eq z.toNat (by omega)
  unfold un; exact ⟨this.2.1, this.2.2.1⟩

end Go.Proofs.Ytppcpbhnpdjfpab
