import Derived.Test.YtijljlnooibbmaaGreatDoorRows
import Derived.WalkKit
namespace Go
@[reducible] def Value.i (x : Int) : Value := .int .i64 x
@[reducible] def Lit.i (x : Int) : Lit := .int .i64 x
@[reducible] def Value.sl (b o n c : Nat) : Value := .slice (some ⟨b, o, none⟩) n c
@[reducible] def World.sc (w : World) (b o : Nat) (v : Value) : World := w.setCell ⟨b, o, none⟩ v
@[reducible] def World.al (w : World) (cs : Array Value) (t : TypeId) : World := w.alloc (.cells cs t)
end Go
namespace Go.Proofs.YtijljlnooibbmaaGreatDoor
open Go Go.RowKit
@[reducible] def pt (b o : Nat) : Value := .pointer (some ⟨b, o, none⟩)
@[reducible] def CB (f : FuncId) (xs : Array Value) (w : World) (v : Value) : Prop := Calls Tryz.prog f xs w fun e w' => e = .returned v ∧ Below w.heap.size w w'
theorem Sa {α : Type} (l : List α) (i : Nat) (a : α) : l.toArray.setIfInBounds i a = (l.set i a).toArray := by simp
theorem Sb {α : Type} (x : α) (xs : List α) (n : Nat) (a : α) : (x :: xs).set (n + 1) a = x :: xs.set n a := rfl
theorem Sc {α : Type} (x : α) (xs : List α) (a : α) : (x :: xs).set 0 a = a :: xs := rfl
theorem Sd {α : Type} (l : List α) (i : Nat) (h : i < l.toArray.size) : l.toArray[i] = l[i]'(by simpa using h) := by simp
theorem Se {α : Type} (x : α) (l : List α) (h : 0 < (x :: l).length) : (x :: l)[0] = x := rfl
theorem Sf {α : Type} (x : α) (l : List α) (i : Nat) (h : i + 1 < (x :: l).length) : (x :: l)[i + 1] = l[i]'(Nat.lt_of_succ_lt_succ h) := rfl
theorem Sg {α : Type} (l : List α) (i : Nat) : l.toArray[i]? = l[i]? := by simp
theorem Sh {α : Type} (x : α) (l : List α) : (x :: l)[0]? = some x := rfl
theorem Si {α : Type} (x : α) (l : List α) (i : Nat) : (x :: l)[i + 1]? = l[i]? := rfl
@[reducible] def tv (a : Act) (k : Nat) : Value := a.tmps[k]?.getD undef
@[reducible] def cR (A X S Pc : Int) (Z N C I : Bool) : Array Value := #[.int .i64 A, .int .i64 X, .int .i64 S, .int .i64 Pc, .bool Z, .bool N, .bool C, .bool I]
@[reducible] def cZ : Array Value := #[.int .i64 0, .int .i64 0, .int .i64 0, .int .i64 0, .bool false, .bool false, .bool false, .bool false]
@[reducible] def pR (t c s d p : Int) (b : Bool) (u v : Value) : Array Value := #[.int .i64 t, .int .i64 c, .int .i64 s, .int .i64 d, .int .i64 p, .bool b, u, v]
@[reducible] def aR (T P C B L : Int) (S Q : Bool) : Array Value := #[.int .i64 T, .int .i64 P, .int .i64 C, .int .i64 B, .int .i64 L, .bool S, .bool Q]
@[reducible] def rR (u : Value) (k A X S Pc : Int) (Z N C I : Bool) (a r : Int) : Array Value := #[u, .int .i64 k, .int .i64 A, .int .i64 X, .int .i64 S, .int .i64 Pc, .bool Z, .bool N, .bool C, .bool I, .int .i64 a, .int .i64 r]
@[reducible] def mZ : Array Value := #[.slice none 0 0, .int .i64 0]
@[reducible] def oZ : Array Value := #[.slice none 0 0, .slice none 0 0, .slice none 0 0]
@[reducible] def zR : Array Value := #[.slice none 0 0, .slice none 0 0, .slice none 0 0, .int .i64 0, .int .i64 0, .int .i64 0, .int .i64 0, .int .i64 0, .bool false, .bool false, .bool false, .bool false, .int .i64 0, .int .i64 0, .int .i64 0, .int .i64 0, .int .i64 0, .bool false, .slice none 0 0, .slice none 0 0, .int .i64 0, .int .i64 0, .int .i64 0, .int .i64 0, .int .i64 0, .bool false, .bool false, .bool false, .int .i64 0, .bool false, .int .i64 0, .slice none 0 0, .slice none 0 0, .slice none 0 0]
theorem Hq {p q r : Nat → Prop} (h : ∀ j, p j → q j → r j) (j : Nat) (h1 : p j := by kernel_rfl) (h2 : q j := by kernel_rfl) : r j := h j h1 h2
theorem Hr {p r : Nat → Prop} (h : ∀ j, p j → r j) (j : Nat) (h1 : p j := by kernel_rfl) : r j := h j h1
theorem Hd {p r : Nat → Prop} (h : ∀ j, p j → r j) (j : Nat) (h1 : p j := by decide) : r j := h j h1
theorem Hf {p r : Nat → Prop} {q : Nat → Nat → Prop} (h : ∀ i, p i → (∀ j, q i j) → r i) (i : Nat) (h1 : p i := by decide) (h2 : ∀ j, q i j := by intro j; simp) : r i := h i h1 h2
end Go.Proofs.YtijljlnooibbmaaGreatDoor
