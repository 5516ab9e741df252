/-
  atlaskeep.inner.
-/
import Derived.Test.YtacjjjjbfjkohaaFansA
namespace Go.Proofs.Ytacjjjjbfjkohaa
open Go.RowKit

def ir (s a b c : Int) : Int := if s = 0 then 0 else if a = -s ∨ b = -s ∨ c = -s then 0 else if a = 0 ∨ b = 0 ∨ c = 0 then -1 else 1

set_option maxHeartbeats 3200000 in
theorem inner_core (bx ox cx b_ oy cy : Nat) (x0 x1 x2 y0 y1 y2 x y s a b c : Int) (w : World)
    (p0 : w.cell? ⟨bx, ox, none⟩ = some (.int .i64 x0)) (p1 : w.cell? ⟨bx, ox + 1, none⟩ = some (.int .i64 x1)) (p2 : w.cell? ⟨bx, ox + 2, none⟩ = some (.int .i64 x2))
    (q0 : w.cell? ⟨b_, oy, none⟩ = some (.int .i64 y0)) (q1 : w.cell? ⟨b_, oy + 1, none⟩ = some (.int .i64 y1)) (q2 : w.cell? ⟨b_, oy + 2, none⟩ = some (.int .i64 y2))
    (S : ∀ W, Calls Try.prog 62 #[.int .i64 x0, .int .i64 y0, .int .i64 x1, .int .i64 y1, .int .i64 x2, .int .i64 y2] W fun e w' => e = .returned (.int .i64 s) ∧ W = w')
    (A : ∀ W, Calls Try.prog 62 #[.int .i64 x0, .int .i64 y0, .int .i64 x1, .int .i64 y1, .int .i64 x, .int .i64 y] W fun e w' => e = .returned (.int .i64 a) ∧ W = w')
    (B : ∀ W, Calls Try.prog 62 #[.int .i64 x1, .int .i64 y1, .int .i64 x2, .int .i64 y2, .int .i64 x, .int .i64 y] W fun e w' => e = .returned (.int .i64 b) ∧ W = w')
    (C : ∀ W, Calls Try.prog 62 #[.int .i64 x2, .int .i64 y2, .int .i64 x0, .int .i64 y0, .int .i64 x, .int .i64 y] W fun e w' => e = .returned (.int .i64 c) ∧ W = w')
    (hs : s = 1 ∨ s = -1 ∨ s = 0) (ha : a = 1 ∨ a = -1 ∨ a = 0) (hb : b = 1 ∨ b = -1 ∨ b = 0) (hc : c = 1 ∨ c = -1 ∨ c = 0) :
    Calls Try.prog 30 #[.slice (some ⟨bx, ox, none⟩) 3 cx, .slice (some ⟨b_, oy, none⟩) 3 cy, .int .i64 x, .int .i64 y] w fun e w' => e = .returned (.int .i64 (ir s a b c)) ∧ Below w.heap.size w w' := by
  rcases hs with rfl | rfl | rfl
  · go_enter Try.func30, Try.ntmps30
    go_wp2
    go_quiet (exact (S _).mono fun e w' h => ⟨h.1, _, h.2.symm⟩)
    go_wp2
    refine wp_loop_rounds 5 ?_
    rw [rounds_succ]
    go_wp2_with fail
    go_quiet (exact (A _).mono fun e w' h => ⟨h.1, _, h.2.symm⟩)
    rcases ha with rfl | rfl | rfl
    · go_wp2_with fail
      rw [rounds_succ]
      go_wp2_with fail
      go_quiet (exact (B _).mono fun e w' h => ⟨h.1, _, h.2.symm⟩)
      rcases hb with rfl | rfl | rfl
      · go_wp2_with fail
        rw [rounds_succ]
        go_wp2_with fail
        go_quiet (exact (C _).mono fun e w' h => ⟨h.1, _, h.2.symm⟩)
        rcases hc with rfl | rfl | rfl
        · go_wp2_with fail
          rw [rounds_succ]
          go_wp2_with fail
          go_ret
          exact ⟨rfl, below_drewN (Below.refl _ _) _⟩
        · go_wp2_with fail
          go_ret
          exact ⟨rfl, below_drewN (Below.refl _ _) _⟩
        · go_wp2_with fail
          rw [rounds_succ]
          go_wp2_with fail
          go_ret
          exact ⟨rfl, below_drewN (Below.refl _ _) _⟩
      · go_wp2_with fail
        go_ret
        exact ⟨rfl, below_drewN (Below.refl _ _) _⟩
      · go_wp2_with fail
        rw [rounds_succ]
        go_wp2_with fail
        go_quiet (exact (C _).mono fun e w' h => ⟨h.1, _, h.2.symm⟩)
        rcases hc with rfl | rfl | rfl
        · go_wp2_with fail
          rw [rounds_succ]
          go_wp2_with fail
          go_ret
          exact ⟨rfl, below_drewN (Below.refl _ _) _⟩
        · go_wp2_with fail
          go_ret
          exact ⟨rfl, below_drewN (Below.refl _ _) _⟩
        · go_wp2_with fail
          rw [rounds_succ]
          go_wp2_with fail
          go_ret
          exact ⟨rfl, below_drewN (Below.refl _ _) _⟩
    · go_wp2_with fail
      go_ret
      exact ⟨rfl, below_drewN (Below.refl _ _) _⟩
    · go_wp2_with fail
      rw [rounds_succ]
      go_wp2_with fail
      go_quiet (exact (B _).mono fun e w' h => ⟨h.1, _, h.2.symm⟩)
      rcases hb with rfl | rfl | rfl
      · go_wp2_with fail
        rw [rounds_succ]
        go_wp2_with fail
        go_quiet (exact (C _).mono fun e w' h => ⟨h.1, _, h.2.symm⟩)
        rcases hc with rfl | rfl | rfl
        · go_wp2_with fail
          rw [rounds_succ]
          go_wp2_with fail
          go_ret
          exact ⟨rfl, below_drewN (Below.refl _ _) _⟩
        · go_wp2_with fail
          go_ret
          exact ⟨rfl, below_drewN (Below.refl _ _) _⟩
        · go_wp2_with fail
          rw [rounds_succ]
          go_wp2_with fail
          go_ret
          exact ⟨rfl, below_drewN (Below.refl _ _) _⟩
      · go_wp2_with fail
        go_ret
        exact ⟨rfl, below_drewN (Below.refl _ _) _⟩
      · go_wp2_with fail
        rw [rounds_succ]
        go_wp2_with fail
        go_quiet (exact (C _).mono fun e w' h => ⟨h.1, _, h.2.symm⟩)
        rcases hc with rfl | rfl | rfl
        · go_wp2_with fail
          rw [rounds_succ]
          go_wp2_with fail
          go_ret
          exact ⟨rfl, below_drewN (Below.refl _ _) _⟩
        · go_wp2_with fail
          go_ret
          exact ⟨rfl, below_drewN (Below.refl _ _) _⟩
        · go_wp2_with fail
          rw [rounds_succ]
          go_wp2_with fail
          go_ret
          exact ⟨rfl, below_drewN (Below.refl _ _) _⟩
  · go_enter Try.func30, Try.ntmps30
    go_wp2
    go_quiet (exact (S _).mono fun e w' h => ⟨h.1, _, h.2.symm⟩)
    go_wp2
    refine wp_loop_rounds 5 ?_
    rw [rounds_succ]
    go_wp2_with fail
    go_quiet (exact (A _).mono fun e w' h => ⟨h.1, _, h.2.symm⟩)
    rcases ha with rfl | rfl | rfl
    · go_wp2_with fail
      go_ret
      exact ⟨rfl, below_drewN (Below.refl _ _) _⟩
    · go_wp2_with fail
      rw [rounds_succ]
      go_wp2_with fail
      go_quiet (exact (B _).mono fun e w' h => ⟨h.1, _, h.2.symm⟩)
      rcases hb with rfl | rfl | rfl
      · go_wp2_with fail
        go_ret
        exact ⟨rfl, below_drewN (Below.refl _ _) _⟩
      · go_wp2_with fail
        rw [rounds_succ]
        go_wp2_with fail
        go_quiet (exact (C _).mono fun e w' h => ⟨h.1, _, h.2.symm⟩)
        rcases hc with rfl | rfl | rfl
        · go_wp2_with fail
          go_ret
          exact ⟨rfl, below_drewN (Below.refl _ _) _⟩
        · go_wp2_with fail
          rw [rounds_succ]
          go_wp2_with fail
          go_ret
          exact ⟨rfl, below_drewN (Below.refl _ _) _⟩
        · go_wp2_with fail
          rw [rounds_succ]
          go_wp2_with fail
          go_ret
          exact ⟨rfl, below_drewN (Below.refl _ _) _⟩
      · go_wp2_with fail
        rw [rounds_succ]
        go_wp2_with fail
        go_quiet (exact (C _).mono fun e w' h => ⟨h.1, _, h.2.symm⟩)
        rcases hc with rfl | rfl | rfl
        · go_wp2_with fail
          go_ret
          exact ⟨rfl, below_drewN (Below.refl _ _) _⟩
        · go_wp2_with fail
          rw [rounds_succ]
          go_wp2_with fail
          go_ret
          exact ⟨rfl, below_drewN (Below.refl _ _) _⟩
        · go_wp2_with fail
          rw [rounds_succ]
          go_wp2_with fail
          go_ret
          exact ⟨rfl, below_drewN (Below.refl _ _) _⟩
    · go_wp2_with fail
      rw [rounds_succ]
      go_wp2_with fail
      go_quiet (exact (B _).mono fun e w' h => ⟨h.1, _, h.2.symm⟩)
      rcases hb with rfl | rfl | rfl
      · go_wp2_with fail
        go_ret
        exact ⟨rfl, below_drewN (Below.refl _ _) _⟩
      · go_wp2_with fail
        rw [rounds_succ]
        go_wp2_with fail
        go_quiet (exact (C _).mono fun e w' h => ⟨h.1, _, h.2.symm⟩)
        rcases hc with rfl | rfl | rfl
        · go_wp2_with fail
          go_ret
          exact ⟨rfl, below_drewN (Below.refl _ _) _⟩
        · go_wp2_with fail
          rw [rounds_succ]
          go_wp2_with fail
          go_ret
          exact ⟨rfl, below_drewN (Below.refl _ _) _⟩
        · go_wp2_with fail
          rw [rounds_succ]
          go_wp2_with fail
          go_ret
          exact ⟨rfl, below_drewN (Below.refl _ _) _⟩
      · go_wp2_with fail
        rw [rounds_succ]
        go_wp2_with fail
        go_quiet (exact (C _).mono fun e w' h => ⟨h.1, _, h.2.symm⟩)
        rcases hc with rfl | rfl | rfl
        · go_wp2_with fail
          go_ret
          exact ⟨rfl, below_drewN (Below.refl _ _) _⟩
        · go_wp2_with fail
          rw [rounds_succ]
          go_wp2_with fail
          go_ret
          exact ⟨rfl, below_drewN (Below.refl _ _) _⟩
        · go_wp2_with fail
          rw [rounds_succ]
          go_wp2_with fail
          go_ret
          exact ⟨rfl, below_drewN (Below.refl _ _) _⟩
  · go_enter Try.func30, Try.ntmps30
    go_wp2
    go_quiet (exact (S _).mono fun e w' h => ⟨h.1, _, h.2.symm⟩)
    go_wp2
    go_ret
    exact ⟨rfl, below_drewN (Below.refl _ _) _⟩
end Go.Proofs.Ytacjjjjbfjkohaa
