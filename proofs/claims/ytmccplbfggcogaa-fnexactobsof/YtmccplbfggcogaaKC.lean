/-
  Chapter 12 of the specification by its contracts: lists of lists copied.
-/
import Derived.Test.YtmccplbfggcogaaKB
import Derived.Test.YtmccplbfggcogaaG0
import Derived.Deep.DeepCutAuto
namespace Go.Proofs.Ytmccplbfggcogaa
set_option linter.unusedVariables false
set_option linter.unusedSimpArgs false
open Go.ChangeShapes Go.WideShapes Go.ChangeAt Go.RowKit
set_option maxRecDepth 40000 in
set_option maxHeartbeats 2000000 in
theorem l12List (w : World) (F : Nat → Nat → Prop) (u : Value) (m : Nat) (ln : Nat → Nat) (f : Nat → Nat → Int) (H : IntSS .i64 w F u m ln f) : Calls Try.prog 32 #[u] w fun e w' => ∃ ov gb cp, e = .returned ov ∧ SG w' w.heap.size ov m gb cp ln f ∧ Below w.heap.size w w' := by
  obtain ⟨a, cap, rfl, hn, -, hc⟩ := H
  have L0 : Below w.heap.size w (w.alloc (.cells #[] 25)) := (Below.refl _ _).alloc (Nat.le_refl _) _
  have B0 := box_new w #[] 25
  have HL := hide hc
  clear hc
  go_enter Try.func32, Try.ntmps32
  go_wp2
  generalize w.alloc (.cells #[] 25) = W0 at *
  go_loopw [3, 4] (fun ov i wr => ∃ (q : Nat) (gb cp : Nat → Nat), q ≤ m ∧ i = .int .i64 q ∧ SG wr w.heap.size ov q gb cp ln f ∧ Below w.heap.size w wr) (fun _ i _ => m - (intOf i).toNat)
  case atStart => exact ⟨0, fun _ => 0, fun _ => 0, Nat.zero_le _, rfl, SG.start B0 (Nat.le_refl _) _ _ _ _, L0⟩
  case round =>
    obtain ⟨q, gb, cp, hq, rfl, hG, hL⟩ := hrel
    clear B0 L0
    by_cases hqm : q < m
    · have hqm' : (q : Int) < (m : Int) := by omega
      obtain ⟨b, off, u', rfl, hcell, hI⟩ := HL.out q hqm
      have hbl := block_lt_of_cell hcell
      obtain ⟨ua, ux, rfl, un, ur, uF⟩ := id hI
      have LA : Below w.heap.size w (wr.alloc (.cells #[] 3)) := hL.alloc hL.size _
      have ca : (wr.alloc (.cells #[] 3)).cell? ⟨b, off + q, none⟩ = some (.slice ua (ln q) ux) := (LA.cell hbl).trans hcell
      have hE := box_new wr #[] 3
      have GA := hide (hG.below ((Below.refl _ wr).alloc (Nat.le_refl _) (.cells #[] 3)))
      have hob : ∀ g, u3.ownBlock = some g → w.heap.size ≤ g ∧ g < wr.heap.size := fun g hg => own_at hG.own hg
      have hgb : ∀ i, i < q → gb i < wr.heap.size := fun i hi => (hG.rows i hi).parts.2.1
      have hLs := hL.size
      have wq : IntKind.i64.wrap (q : Int) = q := by rw [IntKind.wrap_i64]; omega
      have hsz : (wr.alloc (.cells #[] 3)).heap.size = wr.heap.size + 1 := by simp
      have HSZ := hide hsz
      clear hG hcell hsz
      go_wp2_with (at_builtin; refine wpList_copy _ rfl _ _ rfl wr.heap.size rfl hE w.heap.size hLs F (.slice ua (ln q) ux) (ln q) (f q) rfl (hI.keep (wrote_below LA Nowhere) (fun _ _ _ x => x)) ?_)
      intro gN cN W2 RN L2 hat
      have hgN : wr.heap.size ≤ gN := by have := HSZ.out; rcases hat with h | h <;> omega
      replace L2 : Below (wr.alloc (.cells #[] 3)).heap.size (wr.alloc (.cells #[] 3)) W2 := by rw [HSZ.out]; exact L2
      have G2 := GA.out.below L2
      have LB := below_snoc LA L2
      clear GA LA L2 hat HSZ ca hE
      have LX : Below W2.heap.size W2 (W2.alloc (.cells #[.slice (some ⟨gN, 0, none⟩) (ln q) cN] 25)) := (Below.refl _ _).alloc (Nat.le_refl _) _
      have hB := boxC (box_new W2 #[.slice (some ⟨gN, 0, none⟩) (ln q) cN] 25) 0
      have G3 := hide (G2.below LX)
      have R3 := hide (RN.below LX)
      have LC := hide (below_snoc LB LX)
      clear G2 RN LB LX
      go_wp2_with (at_builtin; refine wpList_pushS _ rfl _ _ rfl w.heap.size u3 q _ rfl G3.out.own (by omega) LC.out.size W2.heap.size (.slice (some ⟨gN, 0, none⟩) (ln q) cN) rfl rfl hB ?_)
      intro g' c' W4 own' hW hat'
      have GN := hide (G3.out.push hW own' (by simpa using hat') R3.out (fun e => by have := hob _ e; omega) (fun i hi e => by have := hgb i hi; omega) (by omega))
      have LD := LC.out.trans (hW.below LC.out.size (fun b o hb (e : u3.ownBlock = some b) => by have := hob _ e; omega))
      clear G3 R3 LC own' hW hat' hB
      go_wp2
      go_roundw
      case rel => exact ⟨q + 1, _, _, by omega, by go_num, GN.out, LD⟩
      case measure => simp [intOf]; omega
    · have hqm' : ¬ (q : Int) < (m : Int) := by omega
      obtain rfl : q = m := by omega
      have HP := hide (And.intro hG hL)
      clear hG hL HL
      go_wp2
      go_ret
      first | exact ⟨_, gb, cp, rfl, HP.out.1, HP.out.2⟩ | exact ⟨_, rfl, ⟨gb, cp, HP.out.1⟩, HP.out.2⟩
end Go.Proofs.Ytmccplbfggcogaa
