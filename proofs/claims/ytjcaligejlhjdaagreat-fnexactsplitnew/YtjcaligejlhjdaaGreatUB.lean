/-
  A console apart out of its mirror.
-/
import Derived.Test.YtjcaligejlhjdaaGreatUA
import Derived.Deep.DeepCutAuto
import Derived.Deep.WholeRow
namespace Go.Proofs.YtjcaligejlhjdaaGreat
set_option linter.unusedVariables false
set_option linter.unusedSimpArgs false
open Go.ChangeShapes Go.WideShapes Go.ChangeAt Go.RowKit
theorem wrote_setRowU {w : World} {g : Nat} {old : Array Value} {t : TypeId} (hg : w.heap[g]? = some (.cells old t (0, 0))) (cs : Array Value) : Wrote (fun b _ => b = g) w (w.setRow g cs) :=
  ⟨rfl, rfl, rfl, by simp [World.setRow], fun k hk hn => setRow_other _ _ _ _ (fun e => hn 0 e), fun b o hb hn => cell_setRow_other _ _ _ _ hn, fun b o hb => by
    by_cases e : b = g
    · subst e
      rw [boxF (setRow_heap _ _ _ _ _ _ hg), boxF hg]
    · simp [World.frozen?, setRow_other _ _ _ _ e]⟩
theorem infoSplit : (Tryz.prog.info? 46).map (·.size) = some 42 := by kernel_rfl
end Go.Proofs.YtjcaligejlhjdaaGreat
