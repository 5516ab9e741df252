/-
  atlaskeep.side and atlaskeep.inner.
-/
import Derived.Test.YtacjjjjbfjkohaaFansN
import Derived.Test.YtacjjjjbfjkohaaBoxesM
namespace Go.Proofs.Ytacjjjjbfjkohaa
open Go.RowKit

set_option maxHeartbeats 800000 in
theorem side_any (ax ay bx yb x y : Int) (w : World) (h1 : W30 ax) (h2 : W30 ay) (h3 : W30 bx) (h4 : W30 yb) (h5 : W30 x) (h6 : W30 y) :
    Calls Try.prog 62 #[.int .i64 ax, .int .i64 ay, .int .i64 bx, .int .i64 yb, .int .i64 x, .int .i64 y] w fun e w' => e = .returned (.int .i64 (sgn (crs ax ay bx yb x y))) ∧ w = w' := by
  unfold W30 at h1 h2 h3 h4 h5 h6
  have m1 := mul_w (bx - ax) (y - ay) (by omega) (by omega)
  have m2 := mul_w (yb - ay) (x - ax) (by omega) (by omega)
  have b1 := mul_in (bx - ax) (y - ay) (by omega) (by omega)
  have b2 := mul_in (yb - ay) (x - ax) (by omega) (by omega)
  have m3 : wrap64 ((bx - ax) * (y - ay) - (yb - ay) * (x - ax)) = (bx - ax) * (y - ay) - (yb - ay) * (x - ax) := IntWalk.wrap64_in _ ⟨by omega, by omega⟩
  have C := sgn_cases (crs ax ay bx yb x y)
  unfold crs at C
  rcases C with ⟨c, d⟩ | ⟨c, d⟩ | ⟨c, d⟩
  · have H := hide d
    have c1 : 0 < (bx - ax) * (y - ay) - (yb - ay) * (x - ax) := c
    clear d c b1 b2
    go_enter Try.func62, Try.ntmps62
    go_wp2
    go_ret
    exact ⟨ret_int (unhide H).symm, rfl⟩
  · have H := hide d
    have c1 : ¬ 0 < (bx - ax) * (y - ay) - (yb - ay) * (x - ax) := by omega
    clear d b1 b2
    go_enter Try.func62, Try.ntmps62
    go_wp2
    go_ret
    exact ⟨ret_int (unhide H).symm, rfl⟩
  · have H := hide d
    have c1 : ¬ 0 < (bx - ax) * (y - ay) - (yb - ay) * (x - ax) := by omega
    have c2 : ¬ (bx - ax) * (y - ay) - (yb - ay) * (x - ax) < 0 := by omega
    clear d c b1 b2
    go_enter Try.func62, Try.ntmps62
    go_wp2
    go_ret
    exact ⟨ret_int (unhide H).symm, rfl⟩
end Go.Proofs.Ytacjjjjbfjkohaa
