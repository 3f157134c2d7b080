/-
  The program's memory (chapter 6): what is read, copied, put, by their contracts.
-/
import Derived.Test.YtpaedkefmebjjafDoorCA
import Derived.Test.YtpaedkefmebjjafDoorI6b
import Derived.ArgAppend
import Derived.Deep.RegionLaw
import Derived.Deep.RegionHeld3
namespace Go.Proofs.YtpaedkefmebjjafDoor
set_option linter.unusedVariables false
open Go.ChangeShapes Go.WideShapes Go.ChangeAt Go.RowKit
set_option maxHeartbeats 1000000 in
theorem implPeek (w : World) (F G : Nat → Nat → Prop) (v u : Value) (m : Nat) (ln : Nat → Nat) (f : Nat → Nat → Int) (n : Nat) (g : Nat → Int) (bank x : Int) (H : IntSS .i64 w F v m ln f) (K : Ints .i64 w G u n g) :
    Calls Tryd.prog 8 #[.agg #[v], .agg #[u, .int .i64 bank], .int .i64 x] w fun e w' => e = .returned (.int .i64 (peekV m ln f n g bank x)) ∧ Below w.heap.size w w' := by
  have L0 : Below w.heap.size w ((w.alloc (.cells #[v] 26)).alloc (.cells #[u, .int .i64 bank] 29)) := ((Below.refl _ _).alloc (Nat.le_refl _) _).alloc (by simp) _
  have H0 := H.keep (wrote_below L0 Nowhere) (fun _ _ _ x => x)
  have K0 := K.keep (wrote_below L0 Nowhere) (fun _ _ _ x => x)
  obtain ⟨ia, icap, rfl, im, -, -⟩ := H
  obtain ⟨ua, ucap, rfl, un, -, -⟩ := K
  have a0 : 0 ≤ x % 65536 := by omega
  have a1 : x % 65536 < 65536 := by omega
  go_enter Tryd.func8, Tryd.ntmps8
  go_wp2_with fail
  refine (implMemOk _ F G _ _ m ln f n g bank H0 K0).mono ?_
  rintro e w1 ⟨rfl, L1⟩
  have c1 : w1.cell? ⟨w.heap.size, 0, none⟩ = some (.slice ia m icap) := (L1.cell (by simp; omega)).trans (by go_simp)
  have c2 : w1.cell? ⟨w.heap.size + 1, 0, none⟩ = some (.slice ua n ucap) := (L1.cell (by simp)).trans (by go_simp)
  have c3 : w1.cell? ⟨w.heap.size + 1, 1, none⟩ = some (.int .i64 bank) := (L1.cell (by simp)).trans (by go_simp)
  have hz : w.heap.size + 2 ≤ w1.heap.size := by have := L1.size; simp at this; omega
  have C1 := L0.trans (L1.mono L0.size)
  have H1 := H0.keep (wrote_below L1 Nowhere) (fun _ _ _ x => x)
  have K1 := K0.keep (wrote_below L1 Nowhere) (fun _ _ _ x => x)
  clear L1 L0 H0 K0
  cases hO : okMem m ln f n g bank
  · have HE : Hid (peekV m ln f n g bank x = 0) := by show _ = _; unfold peekV; rw [hO]; rfl
    clear hO
    go_wp2
    go_ret
    exact ⟨ret_int HE.out.symm, C1⟩
  · have HE : Hid (peekV m ln f n g bank x = peekOf m f g bank (x % 65536)) := by show _ = _; unfold peekV; rw [hO]; rfl
    have HO := hide hO
    clear hO
    have HH := hide (show IntSS .i64 w1.drew F _ m ln f from H1)
    have HK := hide (show Ints .i64 w1.drew G _ n g from K1)
    clear H1 K1
    go_wp2_with fail
    go_region_held3 (fun w' => w'.cell? ⟨w.heap.size, 0, none⟩ = some (.slice ia m icap) ∧ w'.cell? ⟨w.heap.size + 1, 0, none⟩ = some (.slice ua n ucap) ∧ w'.cell? ⟨w.heap.size + 1, 1, none⟩ = some (.int .i64 bank)) (first | assumption | go_keep) (first | (go_at_call 28; refine (regionAt _ _ a0 a1).mono ?_; rintro e w' ⟨rfl, rfl⟩) | (go_at_call 27; refine (readAt _ F G _ _ m ln f n g bank _ a0 a1 (unhide HH) (unhide HK) (unhide HO)).mono ?_; rintro e w2 ⟨rfl, L2⟩; have d1 := (L2.cell (p := ⟨w.heap.size, 0, none⟩) (show w.heap.size < w1.heap.size by omega)).trans c1; have d2 := (L2.cell (p := ⟨w.heap.size + 1, 0, none⟩) (show w.heap.size + 1 < w1.heap.size by omega)).trans c2; have d3 := (L2.cell (p := ⟨w.heap.size + 1, 1, none⟩) (show w.heap.size + 1 < w1.heap.size by omega)).trans c3))
    all_goals
      go_wp2
      go_ret
      exact ⟨ret_int HE.out.symm, C1.trans (Below.trans (⟨rfl, rfl, rfl, Nat.le_refl _, fun _ _ => rfl⟩ : Below w.heap.size w1 w1.drew) (L2.mono C1.size))⟩
theorem own_none {w : World} {lo : Nat} {a : Option Addr} {c : Nat} (g : Nat → Int) : OwnInts w lo (.slice a 0 c) 0 g := ⟨_, _, rfl, by omega, fun i hi => absurd hi (Nat.not_lt_zero _), fun b o hF => absurd hF (foot_none _ _ _), fun b o hF => absurd hF (foot_none _ _ _)⟩
end Go.Proofs.YtpaedkefmebjjafDoor
