/-
  The laws' own comparisons of rows and of banks.
-/
import Derived.Test.YtpaedkefmebjjagS2
namespace Go.Proofs.Ytpaedkefmebjjag
open Go.ChangeShapes Go.WideShapes Go.ChangeAt Go.RowKit
end Go.Proofs.Ytpaedkefmebjjag
