/-
  Memory: what a call may have written (Wrote), rows of integers that a slice leads to (Ints), rows of rows (IntSS), and what keeps them.
-/
import Derived.WalkKit
import Derived.ProofKit
import Derived.Below
import Derived.OpenShut
import Derived.Laws.Rows
import Derived.Laws.OwnMore
import Derived.Deep.QuietTactic
import Derived.BigQuiet
import Derived.WalkSpells
import Derived.Outline
import Derived.OwnWalk
namespace Go.Proofs.YteefbbnkfclllaaDoor
open Go.ChangeShapes Go.WideShapes Go.ChangeAt Go.RowKit
theorem hide {p : Prop} (h : p) : Hid p := h
theorem unhide {p : Prop} (h : Hid p) : p := h
theorem drew2 (w : World) (a b : Nat) : ∃ d, (w.drewN a).drewN b = w.drewN d := ⟨a + b, by simp [World.drewN, Nat.add_assoc]⟩
theorem quiet_of2 {P : Program} {f : FuncId} {args : Array Value} {w : World} {d n : Nat} {v : Value}
    (h : Calls P f args (w.drewN (d + n)) fun e w' => e = .returned v ∧ ∃ m, w' = (w.drewN (d + n)).drewN m) : Calls P f args (w.drewN (d + n)) fun e w'' => e = .returned v ∧ ∃ m, w'' = w.drewN (d + m) :=
  h.mono fun _ _ ⟨he, m, hm⟩ => ⟨he, n + m, by rw [hm, World.drewN_drewN, Nat.add_assoc]⟩
structure Wrote (R : Nat → Nat → Prop) (w w' : World) : Prop where
  os : w'.os = w.os
  tape : w'.tape = w.tape
  output : w'.output = w.output
  size : w.heap.size ≤ w'.heap.size
  block : ∀ k, k < w.heap.size → (∀ o, ¬ R k o) → w'.heap[k]? = w.heap[k]?
  cell : ∀ b o, b < w.heap.size → ¬ R b o → w'.cell? ⟨b, o, none⟩ = w.cell? ⟨b, o, none⟩
  frozen : ∀ b o, b < w.heap.size → w'.frozen? ⟨b, o, none⟩ = w.frozen? ⟨b, o, none⟩
abbrev Nowhere : Nat → Nat → Prop := fun _ _ => False
theorem Wrote.refl (R : Nat → Nat → Prop) (w : World) : Wrote R w w := ⟨rfl, rfl, rfl, Nat.le_refl _, fun _ _ _ => rfl, fun _ _ _ _ => rfl, fun _ _ _ => rfl⟩
theorem Wrote.trans {R : Nat → Nat → Prop} {u v w : World} (h : Wrote R u v) (k : Wrote R v w) : Wrote R u w :=
  ⟨k.os.trans h.os, k.tape.trans h.tape, k.output.trans h.output, Nat.le_trans h.size k.size,
    fun i hi hr => (k.block i (Nat.lt_of_lt_of_le hi h.size) hr).trans (h.block i hi hr),
    fun b o hb hr => (k.cell b o (Nat.lt_of_lt_of_le hb h.size) hr).trans (h.cell b o hb hr),
    fun b o hb => (k.frozen b o (Nat.lt_of_lt_of_le hb h.size)).trans (h.frozen b o hb)⟩
theorem Wrote.mono {R S : Nat → Nat → Prop} {w w' : World} (h : Wrote R w w') (hs : ∀ b o, b < w.heap.size → R b o → S b o) : Wrote S w w' :=
  ⟨h.os, h.tape, h.output, h.size, fun k hk hr => h.block k hk (fun o ho => hr o (hs k o hk ho)), fun b o hb hr => h.cell b o hb (fun ho => hr (hs b o hb ho)), h.frozen⟩
theorem wrote_below {w w' : World} (h : Below w.heap.size w w') (R : Nat → Nat → Prop) : Wrote R w w' :=
  ⟨h.os, h.tape, h.output, h.size, fun k hk _ => h.block k hk, fun _ _ hb _ => h.cell hb, fun _ _ hb => h.frozen hb⟩
theorem Wrote.below {R : Nat → Nat → Prop} {w w' : World} {B : Nat} (h : Wrote R w w') (hB : B ≤ w.heap.size) (hr : ∀ b o, b < B → ¬ R b o) : Below B w w' :=
  ⟨h.os, h.tape, h.output, h.size, fun k hk => h.block k (by omega) (fun o => hr k o hk)⟩
theorem Wrote.drewN {R : Nat → Nat → Prop} {u w : World} (h : Wrote R u w) (n : Nat) : Wrote R u (w.drewN n) := ⟨h.os, h.tape, h.output, h.size, h.block, h.cell, h.frozen⟩
theorem Wrote.drew {R : Nat → Nat → Prop} {u w : World} (h : Wrote R u w) : Wrote R u w.drew := ⟨h.os, h.tape, h.output, h.size, h.block, h.cell, h.frozen⟩
theorem Wrote.alloc {R : Nat → Nat → Prop} {u w : World} (h : Wrote R u w) (o : Obj) : Wrote R u (w.alloc o) :=
  h.trans (wrote_below ((Below.refl _ _).alloc (Nat.le_refl _) o) R)
theorem Wrote.setCell {R : Nat → Nat → Prop} {u w : World} (h : Wrote R u w) {b o : Nat} (hr : b < u.heap.size → R b o) (x : Value) : Wrote R u (w.setCell ⟨b, o, none⟩ x) := by
  refine ⟨h.os, h.tape, h.output, by simpa [World.setCell] using h.size, fun k hk hn => ?_, fun b' o' hb hn => ?_, fun b' o' hb => ?_⟩
  · rw [Below.heap_setCell _ _ _ _ (by rintro rfl; exact hn o (hr hk))]
    exact h.block k hk hn
  · have e : (⟨b, o, none⟩ : Addr) ≠ ⟨b', o', none⟩ := by
      intro e
      simp only [Addr.mk.injEq, and_true] at e
      obtain ⟨rfl, rfl⟩ := e
      exact hn (hr hb)
    exact (World.cell?_setCell_other _ _ _ _ e).trans (h.cell b' o' hb hn)
  · rw [World.frozen?_setCell]
    exact h.frozen b' o' hb
def Foot (a : Option Addr) (n : Nat) : Nat → Nat → Prop := fun b o => ∃ off, a = some ⟨b, off, none⟩ ∧ off ≤ o ∧ o < off + n
def RowOf (k : IntKind) (w : World) (a : Option Addr) (n : Nat) (f : Nat → Int) : Prop :=
  ∀ i, i < n → ∃ b off, a = some ⟨b, off, none⟩ ∧ w.cell? ⟨b, off + i, none⟩ = some (.int k (f i))
def Free (w : World) (F : Nat → Nat → Prop) : Prop := ∀ b o, F b o → b < w.heap.size ∧ w.frozen? ⟨b, o, none⟩ = false
theorem foot_at {b off n i : Nat} (hi : i < n) : Foot (some ⟨b, off, none⟩) n b (off + i) := ⟨off, rfl, by omega, by omega⟩
theorem RowOf.keep {k : IntKind} {w w' : World} {R : Nat → Nat → Prop} {a : Option Addr} {n : Nat} {f : Nat → Int} (h : RowOf k w a n f) (hw : Wrote R w w') (hd : ∀ b o, Foot a n b o → ¬ R b o) : RowOf k w' a n f := fun i hi => by
  obtain ⟨b, off, rfl, hcell⟩ := h i hi
  exact ⟨b, off, rfl, by rw [hw.cell b (off + i) (block_lt_of_cell hcell) (hd _ _ (foot_at hi))]; exact hcell⟩
theorem RowOf.congr {k : IntKind} {w : World} {a : Option Addr} {n : Nat} {f g : Nat → Int} (h : RowOf k w a n f) (e : ∀ i, i < n → f i = g i) : RowOf k w a n g := fun i hi => by
  obtain ⟨b, off, ha, hcell⟩ := h i hi
  exact ⟨b, off, ha, by rw [hcell, e i hi]⟩
theorem RowOf.lt {k : IntKind} {w : World} {a : Option Addr} {n : Nat} {f : Nat → Int} (h : RowOf k w a n f) {b o : Nat} (hf : Foot a n b o) : b < w.heap.size := by
  obtain ⟨off, rfl, h1, h2⟩ := hf
  obtain ⟨b', off', e, hcell⟩ := h (o - off) (by omega)
  simp only [Option.some.injEq, Addr.mk.injEq, and_true] at e
  obtain ⟨rfl, rfl⟩ := e
  exact block_lt_of_cell hcell
theorem Free.keep {w w' : World} {R F : Nat → Nat → Prop} (h : Free w F) (hw : Wrote R w w') : Free w' F := fun b o hb =>
  ⟨Nat.lt_of_lt_of_le (h b o hb).1 hw.size, (hw.frozen b o (h b o hb).1).trans (h b o hb).2⟩
def Ints (k : IntKind) (w : World) (F : Nat → Nat → Prop) (v : Value) (n : Nat) (f : Nat → Int) : Prop :=
  ∃ a cap, v = .slice a n cap ∧ n ≤ 1048576 ∧ RowOf k w a n f ∧ ∀ b o, Foot a n b o → F b o
theorem Ints.keep {k : IntKind} {w w' : World} {R F : Nat → Nat → Prop} {v : Value} {n : Nat} {f : Nat → Int} (h : Ints k w F v n f) (hw : Wrote R w w') (hd : ∀ b o, F b o → ¬ R b o) : Ints k w' F v n f := by
  obtain ⟨a, cap, hv, hn, hc, hF⟩ := h
  exact ⟨a, cap, hv, hn, hc.keep hw (fun b o h => hd b o (hF b o h)), hF⟩
theorem Ints.mono {k : IntKind} {w : World} {F G : Nat → Nat → Prop} {v : Value} {n : Nat} {f : Nat → Int} (h : Ints k w F v n f) (hd : ∀ b o, b < w.heap.size → F b o → G b o) : Ints k w G v n f := by
  obtain ⟨a, cap, hv, hn, hc, hF⟩ := h
  exact ⟨a, cap, hv, hn, hc, fun b o h => hd b o (hc.lt h) (hF b o h)⟩
theorem Ints.congr {k : IntKind} {w : World} {F : Nat → Nat → Prop} {v : Value} {n : Nat} {f g : Nat → Int} (h : Ints k w F v n f) (e : ∀ i, i < n → f i = g i) : Ints k w F v n g := by
  obtain ⟨a, cap, hv, hn, hc, hF⟩ := h
  exact ⟨a, cap, hv, hn, hc.congr e, hF⟩
def IntSS (k : IntKind) (w : World) (F : Nat → Nat → Prop) (v : Value) (m : Nat) (ln : Nat → Nat) (f : Nat → Nat → Int) : Prop :=
  ∃ a cap, v = .slice a m cap ∧ m ≤ 1048576 ∧ (∀ b o, Foot a m b o → F b o) ∧ ∀ i, i < m → ∃ b off u, a = some ⟨b, off, none⟩ ∧ w.cell? ⟨b, off + i, none⟩ = some u ∧ Ints k w F u (ln i) (f i)
theorem IntSS.keep {k : IntKind} {w w' : World} {R F : Nat → Nat → Prop} {v : Value} {m : Nat} {ln : Nat → Nat} {f : Nat → Nat → Int} (h : IntSS k w F v m ln f) (hw : Wrote R w w') (hd : ∀ b o, F b o → ¬ R b o) : IntSS k w' F v m ln f := by
  obtain ⟨a, cap, hv, hn, hF, hc⟩ := h
  refine ⟨a, cap, hv, hn, hF, fun i hi => ?_⟩
  obtain ⟨b, off, u, rfl, hcell, hu⟩ := hc i hi
  exact ⟨b, off, u, rfl, by rw [hw.cell b (off + i) (block_lt_of_cell hcell) (hd _ _ (hF _ _ (foot_at hi)))]; exact hcell, hu.keep hw hd⟩
theorem IntSS.mono {k : IntKind} {w : World} {F G : Nat → Nat → Prop} {v : Value} {m : Nat} {ln : Nat → Nat} {f : Nat → Nat → Int} (h : IntSS k w F v m ln f) (hd : ∀ b o, b < w.heap.size → F b o → G b o) : IntSS k w G v m ln f := by
  obtain ⟨a, cap, hv, hn, hF, hc⟩ := h
  refine ⟨a, cap, hv, hn, fun b o h => ?_, fun i hi => ?_⟩
  · obtain ⟨off, rfl, h1, h2⟩ := id h
    obtain ⟨b', off', u, e, hcell, _⟩ := hc (o - off) (by omega)
    simp only [Option.some.injEq, Addr.mk.injEq, and_true] at e
    obtain ⟨rfl, rfl⟩ := e
    exact hd b o (block_lt_of_cell hcell) (hF b o h)
  · obtain ⟨b, off, u, ha, hcell, hu⟩ := hc i hi
    exact ⟨b, off, u, ha, hcell, hu.mono hd⟩
def psum (ln : Nat → Nat) : Nat → Nat
  | 0 => 0
  | i + 1 => psum ln i + ln i
theorem psum_mono (ln : Nat → Nat) {i j : Nat} (h : i ≤ j) : psum ln i ≤ psum ln j := by
  induction j with
  | zero => simp at h; subst h; exact Nat.le_refl _
  | succ j ih =>
    by_cases e : i = j + 1
    · subst e; exact Nat.le_refl _
    · exact Nat.le_trans (ih (by omega)) (Nat.le_add_right _ _)
end Go.Proofs.YteefbbnkfclllaaDoor
