/-
  A region whose operations only read, over a frame of which some slots are known: one operation at a time, the frame a variable.
-/
import Derived.Test.YtpaedkefmebjjafDoorV0
import Derived.Lib.QuietBelow
namespace Go.Proofs.YtpaedkefmebjjafDoor
set_option linter.unusedVariables false
open Go.Sort
/-- What stays of a frame when slots of a list are put. -/
structure Fs (ts : List Nat) (a0 a : Act) : Prop where
  defers : a.defers = a0.defers
  size : a.tmps.size = a0.tmps.size
  keep : ∀ t, t ∉ ts → a.tmps[t]? = a0.tmps[t]?
theorem Fs.refl (ts : List Nat) (a : Act) : Fs ts a a := ⟨rfl, rfl, fun _ _ => rfl⟩
theorem put_ne {a : Act} {d t : Nat} {v : Value} (h : d ≠ t) : (a.put (some d) v).tmps[t]? = a.tmps[t]? := by simp [Act.put, h]
theorem put_eq {a : Act} {d : Nat} {v : Value} (h : d < a.tmps.size) : (a.put (some d) v).tmps[d]? = some v := by simp [Act.put, h]
theorem Fs.fr {ts : List Nat} {a0 a : Act} (h : Fs ts a0 a) : Fr ts a0 a := ⟨h.defers, h.size, fun t ht => by rw [h.keep t ht]⟩
theorem quiet_into {P : Program} {ops : Array Oper} {C : World → Prop} {Q : Act → Prop} {rest : List Oper} {ts : List Nat} {a0 a : Act} {d : Nat} {v : Value} (F : Fs ts a0 a) (hd : d < a0.tmps.size) (hm : d ∈ ts)
    (h : ∀ a1 : Act, Fs ts a0 a1 → (∀ t, d ≠ t → a1.tmps[t]? = a.tmps[t]?) → a1.tmps[d]? = some v → wpQuiet P ops C Q rest a1) : wpQuiet P ops C Q rest (a.put (some d) v) :=
  h _ ⟨defers_put.trans F.defers, size_put.trans F.size, fun t ht => (put_ne (fun e => ht (by subst e; exact hm))).trans (F.keep t ht)⟩ (fun t ht => put_ne ht) (put_eq (by rw [F.size]; exact hd))
end Go.Proofs.YtpaedkefmebjjafDoor
