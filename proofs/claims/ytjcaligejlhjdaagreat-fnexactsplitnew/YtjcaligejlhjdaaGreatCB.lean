/-
  Chapter 7 of the specification by its contracts: what is fetched, what it accesses, a new processor.
-/
import Derived.Test.YtjcaligejlhjdaaGreatC8
import Derived.Test.YtjcaligejlhjdaaGreatS2
import Derived.Deep.RegionHeld3
namespace Go.Proofs.YtjcaligejlhjdaaGreat
set_option linter.unusedVariables false
open Go.ChangeShapes Go.WideShapes Go.ChangeAt Go.RowKit
theorem peekV_wrapK (m : Nat) (ln : Nat → Nat) (f : Nat → Nat → Int) (n : Nat) (g : Nat → Int) (bank x : Int) : peekV m ln f n g bank (IntKind.i64.wrap x) = peekV m ln f n g bank x := by
  have e : IntKind.i64.wrap x % 65536 = x % 65536 := by rw [IntKind.wrap_i64]; omega
  unfold peekV
  rw [e]
def newPc (m : Nat) (ln : Nat → Nat) (f : Nat → Nat → Int) : Int := peekV m ln f 512 (fun _ => 0) 0 65532 % 256 + 256 * (peekV m ln f 512 (fun _ => 0) 0 65533 % 256)
theorem put8_ne (w : World) (d : Nat) (v0 v1 v2 v3 v4 v5 v6 v7 : Value) {b o : Nat} (h : b ≠ d) : ((((((((w.setCell ⟨d, 0, none⟩ (v0)).setCell ⟨d, 1, none⟩ (v1)).setCell ⟨d, 2, none⟩ (v2)).setCell ⟨d, 3, none⟩ (v3)).setCell ⟨d, 4, none⟩ (v4)).setCell ⟨d, 5, none⟩ (v5)).setCell ⟨d, 6, none⟩ (v6)).setCell ⟨d, 7, none⟩ (v7)).cell? ⟨b, o, none⟩ = w.cell? ⟨b, o, none⟩ := by
  have e : ∀ (W : World) (k : Nat) (v : Value), (W.setCell ⟨d, k, none⟩ v).cell? ⟨b, o, none⟩ = W.cell? ⟨b, o, none⟩ := fun W k v => World.cell?_setCell_other _ _ _ _ (fun e => h (congrArg Addr.block e).symm)
  rw [e, e, e, e, e, e, e, e]
set_option maxRecDepth 20000 in
set_option maxHeartbeats 4000000 in
theorem specCpuNew (w : World) (F : Nat → Nat → Prop) (v : Value) (m : Nat) (ln : Nat → Nat) (f : Nat → Nat → Int) (H : IntSS .i64 w F v m ln f) :
    Calls Tryz.prog 27 #[.agg #[v]] w fun e w' => e = .returned (.agg #[.int .i64 0, .int .i64 0, .int .i64 255, .int .i64 (newPc m ln f), .bool false, .bool false, .bool false, .bool true]) ∧ Below w.heap.size w w' := by
  obtain ⟨ia, icap, rfl, im, iF, iR⟩ := H
  have H : IntSS .i64 w F (.slice ia m icap) m ln f := ⟨ia, icap, rfl, im, iF, iR⟩
  clear iF iR
  have C0 : Below w.heap.size w ((w.alloc (.cells #[.slice ia m icap] 27)).alloc (.cells #[.int .i64 0, .int .i64 0, .int .i64 0, .int .i64 0, .bool false, .bool false, .bool false, .bool false] 31)) := ((Below.refl _ _).alloc (Nat.le_refl _) _).alloc (by simp) _
  have k0 : ((w.alloc (.cells #[.slice ia m icap] 27)).alloc (.cells #[.int .i64 0, .int .i64 0, .int .i64 0, .int .i64 0, .bool false, .bool false, .bool false, .bool false] 31)).heap[w.heap.size]? = some (.cells #[.slice ia m icap] 27 (0, 0)) := boxA (box_new w _ _) _
  have k1 : ((w.alloc (.cells #[.slice ia m icap] 27)).alloc (.cells #[.int .i64 0, .int .i64 0, .int .i64 0, .int .i64 0, .bool false, .bool false, .bool false, .bool false] 31)).heap[w.heap.size + 1]? = some (.cells #[.int .i64 0, .int .i64 0, .int .i64 0, .int .i64 0, .bool false, .bool false, .bool false, .bool false] 31 (0, 0)) := by simpa using box_new (w.alloc (.cells #[.slice ia m icap] 27)) #[.int .i64 0, .int .i64 0, .int .i64 0, .int .i64 0, .bool false, .bool false, .bool false, .bool false] 31
  have HPC : Hid (newPc m ln f = (peekV m ln f 512 (fun _ => 0) 0 65532 % 256 + 256 * (peekV m ln f 512 (fun _ => 0) 0 65533 % 256))) := rfl
  go_enter Tryz.func27, Tryz.ntmps27
  go_wp2_with fail
  generalize ((w.alloc (.cells #[.slice ia m icap] 27)).alloc (.cells #[.int .i64 0, .int .i64 0, .int .i64 0, .int .i64 0, .bool false, .bool false, .bool false, .bool false] 31)) = W0 at *
  refine (specMemNew _).mono ?_
  rintro e W1 ⟨q, rfl, O1, L⟩
  obtain ⟨qa, qc, hq, -, qr, -, -⟩ := id O1
  subst hq
  have LB : Below W1.heap.size W1 (W1.alloc (.cells #[.slice qa 512 qc, .int .i64 0] 29)) := (Below.refl _ _).alloc (Nat.le_refl _) _
  have C1 := below_snoc C0 L
  have C2 := below_snoc C1 LB
  have B2 : (W1.alloc (.cells #[.slice qa 512 qc, .int .i64 0] 29)).heap[w.heap.size]? = some (.cells #[.slice ia m icap] 27 (0, 0)) ∧ (W1.alloc (.cells #[.slice qa 512 qc, .int .i64 0] 29)).heap[w.heap.size + 1]? = some (.cells #[.int .i64 0, .int .i64 0, .int .i64 0, .int .i64 0, .bool false, .bool false, .bool false, .bool false] 31 (0, 0)) ∧ (W1.alloc (.cells #[.slice qa 512 qc, .int .i64 0] 29)).heap[W1.heap.size]? = some (.cells #[.slice qa 512 qc, .int .i64 0] 29 (0, 0)) :=
    ⟨boxA (box_keep k0 L (boxLt k0)) _, boxA (box_keep k1 L (boxLt k1)) _, box_new _ _ _⟩
  have hf : w.heap.size + 1 < W1.heap.size := boxLt (box_keep k1 L (boxLt k1))
  have H2 := H.keep (wrote_below C2 Nowhere) (fun _ _ _ x => x)
  have K2 : Ints .i64 (W1.alloc (.cells #[.slice qa 512 qc, .int .i64 0] 29)) (fun _ _ => True) (.slice qa 512 qc) 512 (fun _ => 0) := Ints.keep (F := fun _ _ => True) ⟨_, _, rfl, by omega, qr, fun _ _ _ => trivial⟩ (wrote_below LB Nowhere) (fun _ _ _ x => x)
  clear C0 k0 k1 O1 L LB C1 qr
  go_upto_region 2 with (fail)
  generalize hp : W1.heap.size = p at *
  generalize (W1.alloc (.cells #[.slice qa 512 qc, .int .i64 0] 29)) = W3 at *
  clear hp
  have HH := hide (show IntSS .i64 W3.drew F _ m ln f from H2)
  have HK := hide (show Ints .i64 W3.drew (fun _ _ => True) _ 512 (fun _ => 0) from K2)
  have HT1 := hide (specPeek W3.drew F (fun _ _ => True) (.slice ia m icap) (.slice qa 512 qc) m ln f 512 (fun _ => 0) 0 65532 (unhide HH) (unhide HK))
  have c1 : W3.cell? ⟨w.heap.size, 0, none⟩ = some (.slice ia m icap) := boxC B2.1 0
  have c2 : W3.cell? ⟨p, 0, none⟩ = some (.slice qa 512 qc) := boxC B2.2.2 0
  have c3 : W3.cell? ⟨p, 1, none⟩ = some (.int .i64 0) := boxC B2.2.2 1
  have HB := hide B2
  clear H2 K2 B2
  go_region_held3 (fun w' => w'.cell? ⟨w.heap.size, 0, none⟩ = some (.slice ia m icap) ∧ w'.cell? ⟨p, 0, none⟩ = some (.slice qa 512 qc) ∧ w'.cell? ⟨p, 1, none⟩ = some (.int .i64 0)) (first | (with_reducible assumption) | (refine ⟨?_, ?_, ?_⟩ <;> with_reducible assumption) | go_keep) (first
    | (go_at_call 79; refine (specJoin _ _ _).mono ?_; rintro e W5 ⟨rfl, rfl⟩)
    | (go_at_call 80; refine (unhide HT2).mono ?_; rintro e W5 ⟨rfl, L5⟩; have C5 := below_snoc L4 L5; have B5 : W5.heap[w.heap.size]? = some (.cells #[.slice ia m icap] 27 (0, 0)) ∧ W5.heap[w.heap.size + 1]? = some (.cells #[.int .i64 0, .int .i64 0, .int .i64 0, .int .i64 0, .bool false, .bool false, .bool false, .bool false] 31 (0, 0)) ∧ W5.heap[p]? = some (.cells #[.slice qa 512 qc, .int .i64 0] 29 (0, 0)) := ⟨box_keep (unhide HB).1 C5 (boxLt (unhide HB).1), box_keep (unhide HB).2.1 C5 (boxLt (unhide HB).2.1), box_keep (unhide HB).2.2 C5 (boxLt (unhide HB).2.2)⟩; have r1 := boxC B5.2.1; have rf := boxF B5.2.1; have g1 : W5.cell? ⟨w.heap.size, 0, none⟩ = some (.slice ia m icap) := boxC B5.1 0; have g1' : ((((((((W5.setCell ⟨w.heap.size + 1, 0, none⟩ (.int .i64 0)).setCell ⟨w.heap.size + 1, 1, none⟩ (.int .i64 0)).setCell ⟨w.heap.size + 1, 2, none⟩ (.int .i64 255)).setCell ⟨w.heap.size + 1, 3, none⟩ (.int .i64 (peekV m ln f 512 (fun _ => 0) 0 65532 % 256 + 256 * (peekV m ln f 512 (fun _ => 0) 0 65533 % 256)))).setCell ⟨w.heap.size + 1, 4, none⟩ (.bool false)).setCell ⟨w.heap.size + 1, 5, none⟩ (.bool false)).setCell ⟨w.heap.size + 1, 6, none⟩ (.bool false)).setCell ⟨w.heap.size + 1, 7, none⟩ (.bool true)).cell? ⟨w.heap.size, 0, none⟩ = some (.slice ia m icap) := (put8_ne W5 (w.heap.size + 1) _ _ _ _ _ _ _ _ (by omega)).trans g1; have g2 : W5.cell? ⟨p, 0, none⟩ = some (.slice qa 512 qc) := boxC B5.2.2 0; have g2' : ((((((((W5.setCell ⟨w.heap.size + 1, 0, none⟩ (.int .i64 0)).setCell ⟨w.heap.size + 1, 1, none⟩ (.int .i64 0)).setCell ⟨w.heap.size + 1, 2, none⟩ (.int .i64 255)).setCell ⟨w.heap.size + 1, 3, none⟩ (.int .i64 (peekV m ln f 512 (fun _ => 0) 0 65532 % 256 + 256 * (peekV m ln f 512 (fun _ => 0) 0 65533 % 256)))).setCell ⟨w.heap.size + 1, 4, none⟩ (.bool false)).setCell ⟨w.heap.size + 1, 5, none⟩ (.bool false)).setCell ⟨w.heap.size + 1, 6, none⟩ (.bool false)).setCell ⟨w.heap.size + 1, 7, none⟩ (.bool true)).cell? ⟨p, 0, none⟩ = some (.slice qa 512 qc) := (put8_ne W5 (w.heap.size + 1) _ _ _ _ _ _ _ _ (by omega)).trans g2; have g3 : W5.cell? ⟨p, 1, none⟩ = some (.int .i64 0) := boxC B5.2.2 1; have g3' : ((((((((W5.setCell ⟨w.heap.size + 1, 0, none⟩ (.int .i64 0)).setCell ⟨w.heap.size + 1, 1, none⟩ (.int .i64 0)).setCell ⟨w.heap.size + 1, 2, none⟩ (.int .i64 255)).setCell ⟨w.heap.size + 1, 3, none⟩ (.int .i64 (peekV m ln f 512 (fun _ => 0) 0 65532 % 256 + 256 * (peekV m ln f 512 (fun _ => 0) 0 65533 % 256)))).setCell ⟨w.heap.size + 1, 4, none⟩ (.bool false)).setCell ⟨w.heap.size + 1, 5, none⟩ (.bool false)).setCell ⟨w.heap.size + 1, 6, none⟩ (.bool false)).setCell ⟨w.heap.size + 1, 7, none⟩ (.bool true)).cell? ⟨p, 1, none⟩ = some (.int .i64 0) := (put8_ne W5 (w.heap.size + 1) _ _ _ _ _ _ _ _ (by omega)).trans g3; clear B5 L5)
    | (go_at_call 80; refine (unhide HT1).mono ?_; rintro e W4 ⟨rfl, L4'⟩; have L4 : Below W3.heap.size W3 W4 := Below.trans (⟨rfl, rfl, rfl, Nat.le_refl _, fun _ _ => rfl⟩ : Below W3.heap.size W3 W3.drew) L4'; have k1 : W4.cell? ⟨w.heap.size, 0, none⟩ = some (.slice ia m icap) := boxC (box_keep (unhide HB).1 L4 (boxLt (unhide HB).1)) 0; have k2 : W4.cell? ⟨p, 0, none⟩ = some (.slice qa 512 qc) := boxC (box_keep (unhide HB).2.2 L4 (boxLt (unhide HB).2.2)) 0; have k3 : W4.cell? ⟨p, 1, none⟩ = some (.int .i64 0) := boxC (box_keep (unhide HB).2.2 L4 (boxLt (unhide HB).2.2)) 1; have HH4 := hide ((unhide HH).keep (wrote_below L4' Nowhere) (fun _ _ _ x => x)); have HK4 := hide ((unhide HK).keep (wrote_below L4' Nowhere) (fun _ _ _ x => x)); have HT2 := hide (specPeek W4 F (fun _ _ => True) (.slice ia m icap) (.slice qa 512 qc) m ln f 512 (fun _ => 0) 0 65533 (unhide HH4) (unhide HK4)); clear L4'))
  all_goals
    go_wp2
    refine bodyPost_ret (v := .agg #[.int .i64 0, .int .i64 0, .int .i64 255, .int .i64 (peekV m ln f 512 (fun _ => 0) 0 65532 % 256 + 256 * (peekV m ln f 512 (fun _ => 0) 0 65533 % 256)), .bool false, .bool false, .bool false, .bool true]) (by simp [results, Tryz.results27, go_sem, r1]) rfl ?_
    exact ⟨by rw [HPC.out], (C2.trans (C5.mono C2.size)).trans ((only8' W5 (w.heap.size + 1) _ _ _ _ _ _ _ _).mono (by omega))⟩
end Go.Proofs.YtjcaligejlhjdaaGreat
