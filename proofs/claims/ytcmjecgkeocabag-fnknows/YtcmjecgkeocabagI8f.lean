/-
  The program's picture unit (chapter 8), by its contracts: PpuNew, PpuWrite, PpuRead.
-/
import Derived.Test.YtcmjecgkeocabagI8b
import Derived.Test.YtcmjecgkeocabagI8e
import Derived.Test.YtcmjecgkeocabagW8
namespace Go.Proofs.Ytcmjecgkeocabag
set_option linter.unusedVariables false
set_option linter.unusedSimpArgs false
open Go.ChangeShapes Go.WideShapes Go.ChangeAt Go.RowKit
end Go.Proofs.Ytcmjecgkeocabag
