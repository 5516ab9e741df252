/-
  atlasref.Right, atlasref.Check.
-/
import Derived.Test.YtppcpbhnpdjfpabLeafC
namespace Go.Proofs.Ytppcpbhnpdjfpab
open Go.RowKit

end Go.Proofs.Ytppcpbhnpdjfpab
