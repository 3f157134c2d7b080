/-
  The laws' own comparisons of rows and of banks.
-/
import Derived.Test.YtcmjecgkeocabagS2
namespace Go.Proofs.Ytcmjecgkeocabag
open Go.ChangeShapes Go.WideShapes Go.ChangeAt Go.RowKit
end Go.Proofs.Ytcmjecgkeocabag
