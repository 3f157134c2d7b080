/-
  The specification's Poke (chapter 6), by its contract.
-/
import Derived.Test.YtpaedkefmebjjarC8
import Derived.Test.YtpaedkefmebjjarU0
import Derived.Deep.RegionHeld3
namespace Go.Proofs.Ytpaedkefmebjjar
set_option linter.unusedVariables false
open Go.ChangeShapes Go.WideShapes Go.ChangeAt Go.RowKit
def setAt (g : Nat → Int) (k : Nat) (x : Int) : Nat → Int := fun i => if i = k then x else g i
def pokeG (ok : Bool) (g : Nat → Int) (a v : Int) : Nat → Int := if ok = true ∧ rgN a = 1 then setAt g (rgP a).toNat (v % 256) else g
def pokeB (ok : Bool) (m : Nat) (bank a v : Int) : Int := if ok = true ∧ (rgN a = 5 ∨ rgN a = 6) then v % 256 % (m : Int) else bank
theorem OwnInts.keepL {w w' : World} {lo : Nat} {v : Value} {n : Nat} {f : Nat → Int} (h : OwnInts w lo v n f) (hb : Below w.heap.size w w') : OwnInts w' lo v n f := by
  obtain ⟨a, cap, hv, hn, hR, hF, hL⟩ := h
  exact ⟨a, cap, hv, hn, hR.keep (wrote_below hb Nowhere) (fun _ _ _ x => x), hF.keep (wrote_below hb Nowhere), hL⟩
theorem OwnInts.away {w w' : World} {lo : Nat} {v : Value} {n : Nat} {f : Nat → Int} {R : Nat → Nat → Prop} (h : OwnInts w lo v n f) (hw : Wrote R w w') (hR : ∀ b o, lo ≤ b → b < w.heap.size → ¬ R b o) : OwnInts w' lo v n f := by
  obtain ⟨a, cap, hv, hn, hr, hF, hL⟩ := h
  exact ⟨a, cap, hv, hn, hr.keep hw (fun b o hf => hR b o (hL b o hf) (hF b o hf).1), hF.keep hw, hL⟩
/-- The row of an answer, with one number put. -/
theorem OwnInts.put {w : World} {lo : Nat} {b off cap n : Nat} {f : Nat → Int} (h : OwnInts w lo (.slice (some ⟨b, off, none⟩) n cap) n f) (k : Nat) (hk : k < n) (x : Int) : OwnInts (w.setCell ⟨b, off + k, none⟩ (.int .i64 x)) lo (.slice (some ⟨b, off, none⟩) n cap) n (setAt f k x) := by
  obtain ⟨a, cap', hv, hn, hr, hF, hL⟩ := h
  simp only [Value.slice.injEq] at hv
  obtain ⟨rfl, -, rfl⟩ := hv
  have W1 : Wrote (fun b' o' => b' = b ∧ o' = off + k) w (w.setCell ⟨b, off + k, none⟩ (.int .i64 x)) := Wrote.setCell (Wrote.refl _ w) (fun _ => ⟨rfl, rfl⟩) _
  exact ⟨_, _, rfl, hn, row_marked hr hk, hF.keep W1, hL⟩
theorem OwnInts.cellAt {w : World} {lo : Nat} {b off cap n : Nat} {f : Nat → Int} (h : OwnInts w lo (.slice (some ⟨b, off, none⟩) n cap) n f) (k : Nat) (hk : k < n) : w.cell? ⟨b, off + k, none⟩ = some (.int .i64 (f k)) ∧ w.frozen? ⟨b, off + k, none⟩ = false ∧ lo ≤ b ∧ b < w.heap.size := by
  obtain ⟨a, cap', hv, hn, hr, hF, hL⟩ := h
  simp only [Value.slice.injEq] at hv
  obtain ⟨rfl, -, rfl⟩ := hv
  obtain ⟨b', off', e, hc⟩ := hr k hk
  simp only [Option.some.injEq, Addr.mk.injEq] at e
  obtain ⟨rfl, rfl, -⟩ := e
  exact ⟨hc, (hF b (off + k) (foot_at hk)).2, hL b (off + k) (foot_at hk), (hF b (off + k) (foot_at hk)).1⟩
theorem box_set_ne {w : World} {b d o : Nat} {ob : Obj} {x : Value} (h : w.heap[b]? = some ob) (hd : b ≠ d) : (w.setCell ⟨d, o, none⟩ x).heap[b]? = some ob :=
  ((Wrote.setCell (R := fun b' _ => b' = d) (Wrote.refl _ w) (fun _ => rfl) x).block b (boxLt h) (fun _ e => hd e)).trans h
end Go.Proofs.Ytpaedkefmebjjar
