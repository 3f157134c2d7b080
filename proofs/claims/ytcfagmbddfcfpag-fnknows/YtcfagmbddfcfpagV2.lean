/-
  The laws' own comparisons of rows and of banks.
-/
import Derived.Test.YtcfagmbddfcfpagS2
namespace Go.Proofs.Ytcfagmbddfcfpag
open Go.ChangeShapes Go.WideShapes Go.ChangeAt Go.RowKit
end Go.Proofs.Ytcfagmbddfcfpag
