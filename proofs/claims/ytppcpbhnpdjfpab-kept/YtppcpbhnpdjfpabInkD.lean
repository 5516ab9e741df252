/-
  atlasref.ink.
-/
import Derived.Test.YtppcpbhnpdjfpabInkC
namespace Go.Proofs.Ytppcpbhnpdjfpab
open Go.RowKit

theorem Paint_any (v : Value) (n : Nat) (fs : Nat → Nat → Int) (l z x y : Int) (w : World) (hv : FsAt w v n fs) :
    Calls Try.prog 11 #[v, .agg #[.int .i64 l, .int .i64 z, .int .i64 x, .int .i64 y]] w fun e w' => e = .returned (.tuple #[.string ⟨(pPic fs n l z x y).toArray⟩, .int .i64 (pErr fs n l z x y)]) ∧ Below w.heap.size w w' := by
  by_cases he : keyErr l z x y = 0
  · by_cases hn : n ≤ 40
    · exact Paint_in v n fs l z x y w hv he hn
    · exact Paint_key v n fs l z x y w hv (Or.inr (by omega))
  · exact Paint_key v n fs l z x y w hv (Or.inl he)

theorem Cov_eq {f : Nat → Int} {z x y : Int} (hr : right f = true) (h1 : 0 ≤ z) (h2 : z ≤ 22) (hx : W30 x) (hy : W30 y) : Cov f z x y = cov f (un z) x y := by
  simp [Cov, hr, inR_t h1 h2, inR_t hx.1 hx.2, inR_t hy.1 hy.2]
theorem isAb_zf {f : Nat → Int} (hr : right f = true) : isAb zf f = false := by
  have h := right_out hr
  have h0 := h.id
  have h4 := h.rk
  unfold isAb zf
  split
  · simp; omega
  · simp; omega
theorem ht_on {fs : Nat → Nat → Int} {T : Nat → Int} {t : Int} {k : Nat} (h : (t = -1 ∧ T = zf) ∨ ∃ m : Nat, t = m ∧ m < k ∧ T = fs m) : (t = -1 ∧ T = zf) ∨ ∃ m : Nat, t = m ∧ m < k + 1 ∧ T = fs m := by
  rcases h with h | ⟨m, a, b, c⟩
  · exact Or.inl h
  · exact Or.inr ⟨m, a, by omega, c⟩

end Go.Proofs.Ytppcpbhnpdjfpab
