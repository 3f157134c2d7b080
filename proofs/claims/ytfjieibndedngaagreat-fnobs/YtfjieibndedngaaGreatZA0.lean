import Derived.WalkKit
namespace Go
@[reducible] def Value.i (x : Int) : Value := .int .i64 x
@[reducible] def Lit.i (x : Int) : Lit := .int .i64 x
end Go
namespace Go.Proofs.YtfjieibndedngaaGreat
open Go
@[reducible] def pt (b o : Nat) : Value := .pointer (some ⟨b, o, none⟩)
@[reducible] def tv (a : Act) (k : Nat) : Value := a.tmps[k]?.getD undef
@[reducible] def cR (A X S Pc : Int) (Z N C I : Bool) : Array Value := #[.int .i64 A, .int .i64 X, .int .i64 S, .int .i64 Pc, .bool Z, .bool N, .bool C, .bool I]
@[reducible] def cZ : Array Value := #[.int .i64 0, .int .i64 0, .int .i64 0, .int .i64 0, .bool false, .bool false, .bool false, .bool false]
@[reducible] def pR (t c s d p : Int) (b : Bool) (u v : Value) : Array Value := #[.int .i64 t, .int .i64 c, .int .i64 s, .int .i64 d, .int .i64 p, .bool b, u, v]
@[reducible] def aR (T P C B L : Int) (S Q : Bool) : Array Value := #[.int .i64 T, .int .i64 P, .int .i64 C, .int .i64 B, .int .i64 L, .bool S, .bool Q]
@[reducible] def rR (u : Value) (k A X S Pc : Int) (Z N C I : Bool) (a r : Int) : Array Value := #[u, .int .i64 k, .int .i64 A, .int .i64 X, .int .i64 S, .int .i64 Pc, .bool Z, .bool N, .bool C, .bool I, .int .i64 a, .int .i64 r]
@[reducible] def mZ : Array Value := #[.slice none 0 0, .int .i64 0]
@[reducible] def oZ : Array Value := #[.slice none 0 0, .slice none 0 0, .slice none 0 0]
@[reducible] def zR : Array Value := #[.slice none 0 0, .slice none 0 0, .slice none 0 0, .int .i64 0, .int .i64 0, .int .i64 0, .int .i64 0, .int .i64 0, .bool false, .bool false, .bool false, .bool false, .int .i64 0, .int .i64 0, .int .i64 0, .int .i64 0, .int .i64 0, .bool false, .slice none 0 0, .slice none 0 0, .int .i64 0, .int .i64 0, .int .i64 0, .int .i64 0, .int .i64 0, .bool false, .bool false, .bool false, .int .i64 0, .bool false, .int .i64 0, .slice none 0 0, .slice none 0 0, .slice none 0 0]
theorem Hq {p q r : Nat → Prop} (h : ∀ j, p j → q j → r j) (j : Nat) (h1 : p j := by kernel_rfl) (h2 : q j := by kernel_rfl) : r j := h j h1 h2
theorem Hr {p r : Nat → Prop} (h : ∀ j, p j → r j) (j : Nat) (h1 : p j := by kernel_rfl) : r j := h j h1
theorem Hd {p r : Nat → Prop} (h : ∀ j, p j → r j) (j : Nat) (h1 : p j := by decide) : r j := h j h1
theorem Hf {p r : Nat → Prop} {q : Nat → Nat → Prop} (h : ∀ i, p i → (∀ j, q i j) → r i) (i : Nat) (h1 : p i := by decide) (h2 : ∀ j, q i j := by intro j; simp) : r i := h i h1 h2
end Go.Proofs.YtfjieibndedngaaGreat
