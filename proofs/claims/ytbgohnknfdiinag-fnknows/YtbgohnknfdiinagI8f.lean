/-
  The program's picture unit (chapter 8), by its contracts: PpuNew, PpuWrite, PpuRead.
-/
import Derived.Test.YtbgohnknfdiinagI8b
import Derived.Test.YtbgohnknfdiinagI8e
import Derived.Test.YtbgohnknfdiinagW8
namespace Go.Proofs.Ytbgohnknfdiinag
set_option linter.unusedVariables false
set_option linter.unusedSimpArgs false
open Go.ChangeShapes Go.WideShapes Go.ChangeAt Go.RowKit
end Go.Proofs.Ytbgohnknfdiinag
