/-
  The laws' own comparisons of rows and of banks.
-/
import Derived.Test.YtchebficbmepnagS2
namespace Go.Proofs.Ytchebficbmepnag
open Go.ChangeShapes Go.WideShapes Go.ChangeAt Go.RowKit
end Go.Proofs.Ytchebficbmepnag
