/-
  The laws' own comparisons of rows and of banks.
-/
import Derived.Test.YtbgohnknfdiinagS2
namespace Go.Proofs.Ytbgohnknfdiinag
open Go.ChangeShapes Go.WideShapes Go.ChangeAt Go.RowKit
end Go.Proofs.Ytbgohnknfdiinag
