/-
  atlasref.Touches; the law Shapes.
-/
import Derived.Test.YtppcpbhnpdjfpabLeafK
namespace Go.Proofs.Ytppcpbhnpdjfpab
open Go.RowKit

end Go.Proofs.Ytppcpbhnpdjfpab
