/-
  The program's chapter 7 by its contracts: what is fetched, what it accesses, a new processor.
-/
import Derived.Test.YtjcaligejlhjdaaGreatV0
import Derived.Test.YtjcaligejlhjdaaGreatCB
import Derived.Test.YtjcaligejlhjdaaGreatC8
import Derived.Test.YtjcaligejlhjdaaGreatI6c
import Derived.Lib.QuietBelow
namespace Go.Proofs.YtjcaligejlhjdaaGreat
set_option linter.unusedVariables false
open Go.ChangeShapes Go.WideShapes Go.ChangeAt Go.RowKit
set_option maxHeartbeats 2000000 in
theorem addrAt (w : World) (F G : Nat → Nat → Prop) (v u : Value) (m : Nat) (ln : Nat → Nat) (f : Nat → Nat → Int) (n : Nat) (g : Nat → Int) (bank x : Int) (H : IntSS .i64 w F v m ln f) (K : Ints .i64 w G u n g) :
    Calls Tryz.prog 90 #[.agg #[v], .agg #[u, .int .i64 bank], .int .i64 x] w fun e w' => e = .returned (.int .i64 (peekV m ln f n g bank x % 256 + 256 * (peekV m ln f n g bank (x + 1) % 256))) ∧ Below w.heap.size w w' := by
  obtain ⟨ia, icap, rfl, im, iF, iR⟩ := H
  obtain ⟨ua, ucap, rfl, un, uR, uF⟩ := K
  have H : IntSS .i64 w F (.slice ia m icap) m ln f := ⟨ia, icap, rfl, im, iF, iR⟩
  have K : Ints .i64 w G (.slice ua n ucap) n g := ⟨ua, ucap, rfl, un, uR, uF⟩
  clear iF iR uR uF
  have C0 : Below w.heap.size w ((w.alloc (.cells #[.slice ia m icap] 27)).alloc (.cells #[.slice ua n ucap, .int .i64 bank] 29)) := ((Below.refl _ _).alloc (Nat.le_refl _) _).alloc (by simp) _
  have k0 := boxA (box_new w #[.slice ia m icap] 27) (.cells #[.slice ua n ucap, .int .i64 bank] 29)
  have k1 : ((w.alloc (.cells #[.slice ia m icap] 27)).alloc (.cells #[.slice ua n ucap, .int .i64 bank] 29)).heap[w.heap.size + 1]? = some (.cells #[.slice ua n ucap, .int .i64 bank] 29 (0, 0)) := by simpa using box_new (w.alloc (.cells #[.slice ia m icap] 27)) #[.slice ua n ucap, .int .i64 bank] 29
  have HP1 := hide (peekV_wrapK m ln f n g bank (x + 1))
  go_enter Tryz.func90, Tryz.ntmps90
  go_upto_region 1 with (fail)
  generalize ((w.alloc (.cells #[.slice ia m icap] 27)).alloc (.cells #[.slice ua n ucap, .int .i64 bank] 29)) = W0 at *
  have c1 : ∀ d os, (Go.Sort.grow (redrawn W0 d) os).cell? ⟨w.heap.size, 0, none⟩ = some (.slice ia m icap) := fun d os => cell_regrown (boxC k0 0) d os
  have c2 : ∀ d os, (Go.Sort.grow (redrawn W0 d) os).cell? ⟨w.heap.size + 1, 0, none⟩ = some (.slice ua n ucap) := fun d os => cell_regrown (boxC k1 0) d os
  have c3 : ∀ d os, (Go.Sort.grow (redrawn W0 d) os).cell? ⟨w.heap.size + 1, 1, none⟩ = some (.int .i64 bank) := fun d os => cell_regrown (boxC k1 1) d os
  have HT : Hid (∀ d os y, Calls Tryz.prog 125 #[.agg #[.slice ia m icap], .agg #[.slice ua n ucap, .int .i64 bank], .int .i64 y] (Go.Sort.grow (redrawn W0 d) os) fun e w' => e = .returned (.int .i64 (peekV m ln f n g bank y)) ∧ Below (Go.Sort.grow (redrawn W0 d) os).heap.size (Go.Sort.grow (redrawn W0 d) os) w') := fun d os y =>
    have L := below_snoc C0 (below_regrown W0 d os)
    implPeek _ F G _ _ m ln f n g bank y (H.keep (wrote_below L Nowhere) (fun _ _ _ x => x)) (K.keep (wrote_below L Nowhere) (fun _ _ _ x => x))
  clear H K k0 k1
  refine wp_region_quiet_below (by kernel_rfl) (by kernel_rfl) ?_
  repeat (quiet_step (first
    | (go_at_call 124; exact Calls.regrown_of ((implJoin _ _ _).mono (fun _ _ h => ⟨h.1, h.2 ▸ Below.refl _ _⟩)))
    | (go_at_call 125; exact Calls.regrown_of (HT.out _ _ _))))
  refine wpQuiet_nil ?_
  intro _ hw'
  obtain ⟨⟨dq, osq⟩, hw''⟩ := hw'
  subst hw''
  have LQ := below_snoc C0 (below_regrown W0 dq osq)
  generalize Go.Sort.grow (redrawn W0 dq) osq = W1 at *
  go_wp2_with fail
  go_ret
  exact ⟨by rw [HP1.out]; rfl, LQ⟩
set_option maxHeartbeats 2000000 in
theorem implCpuNew (w : World) (F : Nat → Nat → Prop) (v : Value) (m : Nat) (ln : Nat → Nat) (f : Nat → Nat → Int) (H : IntSS .i64 w F v m ln f) :
    Calls Tryz.prog 33 #[.agg #[v]] w fun e w' => e = .returned (.agg #[.int .i64 0, .int .i64 0, .int .i64 255, .int .i64 (newPc m ln f), .bool false, .bool false, .bool false, .bool true]) ∧ Below w.heap.size w w' := by
  obtain ⟨ia, icap, rfl, im, iF, iR⟩ := H
  have H : IntSS .i64 w F (.slice ia m icap) m ln f := ⟨ia, icap, rfl, im, iF, iR⟩
  clear iF iR
  have C0 : Below w.heap.size w ((w.alloc (.cells #[.slice ia m icap] 27)).alloc (.cells #[.int .i64 0, .int .i64 0, .int .i64 0, .int .i64 0, .bool false, .bool false, .bool false, .bool false] 31)) := ((Below.refl _ _).alloc (Nat.le_refl _) _).alloc (by simp) _
  have k0 : ((w.alloc (.cells #[.slice ia m icap] 27)).alloc (.cells #[.int .i64 0, .int .i64 0, .int .i64 0, .int .i64 0, .bool false, .bool false, .bool false, .bool false] 31)).heap[w.heap.size]? = some (.cells #[.slice ia m icap] 27 (0, 0)) := boxA (box_new w _ _) _
  have k1 : ((w.alloc (.cells #[.slice ia m icap] 27)).alloc (.cells #[.int .i64 0, .int .i64 0, .int .i64 0, .int .i64 0, .bool false, .bool false, .bool false, .bool false] 31)).heap[w.heap.size + 1]? = some (.cells #[.int .i64 0, .int .i64 0, .int .i64 0, .int .i64 0, .bool false, .bool false, .bool false, .bool false] 31 (0, 0)) := by simpa using box_new (w.alloc (.cells #[.slice ia m icap] 27)) #[.int .i64 0, .int .i64 0, .int .i64 0, .int .i64 0, .bool false, .bool false, .bool false, .bool false] 31
  have HPC : Hid (newPc m ln f = (peekV m ln f 512 (fun _ => 0) 0 65532 % 256 + 256 * (peekV m ln f 512 (fun _ => 0) 0 (65532 + 1) % 256))) := rfl
  go_enter Tryz.func33, Tryz.ntmps33
  go_upto_region 1 with (fail)
  generalize ((w.alloc (.cells #[.slice ia m icap] 27)).alloc (.cells #[.int .i64 0, .int .i64 0, .int .i64 0, .int .i64 0, .bool false, .bool false, .bool false, .bool false] 31)) = W0 at *
  have H0 := H.keep (wrote_below C0 Nowhere) (fun _ _ _ x => x)
  have HH := hide (show IntSS .i64 W0.drew F _ m ln f from H0)
  clear H0
  have c1 : W0.cell? ⟨w.heap.size, 0, none⟩ = some (.slice ia m icap) := boxC k0 0
  have HB := hide (And.intro C0 (And.intro k0 k1))
  clear C0 k0 k1 H
  go_region_held3 (fun w' => w'.cell? ⟨w.heap.size, 0, none⟩ = some (.slice ia m icap)) (first | (with_reducible assumption) | go_keep) (first
    | (go_at_call 90; refine (addrAt _ F (fun _ _ => True) (.slice ia m icap) (.slice qa 512 qc) m ln f 512 (fun _ => 0) 0 65532 (unhide HH4) (unhide HK4)).mono ?_; rintro e W5 ⟨rfl, L5⟩; rw [← HPC.out]; have C5 := below_snoc L4 L5; have B5 := box_keep (unhide HB).2.2 C5 (boxLt (unhide HB).2.2); have r1 := boxC B5; have rf := boxF B5; have g1 : W5.cell? ⟨w.heap.size, 0, none⟩ = some (.slice ia m icap) := boxC (box_keep (unhide HB).2.1 C5 (boxLt (unhide HB).2.1)) 0; have g1' : ((((((((W5.setCell ⟨w.heap.size + 1, 0, none⟩ (.int .i64 0)).setCell ⟨w.heap.size + 1, 1, none⟩ (.int .i64 0)).setCell ⟨w.heap.size + 1, 2, none⟩ (.int .i64 255)).setCell ⟨w.heap.size + 1, 3, none⟩ (.int .i64 (newPc m ln f))).setCell ⟨w.heap.size + 1, 4, none⟩ (.bool false)).setCell ⟨w.heap.size + 1, 5, none⟩ (.bool false)).setCell ⟨w.heap.size + 1, 6, none⟩ (.bool false)).setCell ⟨w.heap.size + 1, 7, none⟩ (.bool true)).cell? ⟨w.heap.size, 0, none⟩ = some (.slice ia m icap) := (put8_ne W5 (w.heap.size + 1) _ _ _ _ _ _ _ _ (by omega)).trans g1; clear B5 L5)
    | (go_at_call 32; refine (implMemNew _).mono ?_; rintro e W4 ⟨q, rfl, O4, L4'⟩; obtain ⟨qa, qc, hq, -, qr, -, -⟩ := id O4; subst hq; have L4 : Below W0.heap.size W0 W4 := Below.trans (⟨rfl, rfl, rfl, Nat.le_refl _, fun _ _ => rfl⟩ : Below W0.heap.size W0 W0.drew) L4'; have k1 : W4.cell? ⟨w.heap.size, 0, none⟩ = some (.slice ia m icap) := boxC (box_keep (unhide HB).2.1 L4 (boxLt (unhide HB).2.1)) 0; have HH4 := hide ((unhide HH).keep (wrote_below L4' Nowhere) (fun _ _ _ x => x)); have HK4 := hide (show Ints .i64 W4 (fun _ _ => True) (.slice qa 512 qc) 512 (fun _ => 0) from ⟨_, _, rfl, by omega, qr, fun _ _ _ => trivial⟩); clear L4' O4 qr))
  all_goals
    go_wp2
    refine bodyPost_ret (v := .agg #[.int .i64 0, .int .i64 0, .int .i64 255, .int .i64 (newPc m ln f), .bool false, .bool false, .bool false, .bool true]) (by simp [results, Tryz.results33, go_sem, r1]) rfl ?_
    exact ⟨rfl, (below_snoc HB.out.1 C5).trans ((only8' W5 (w.heap.size + 1) _ _ _ _ _ _ _ _).mono (by omega))⟩
end Go.Proofs.YtjcaligejlhjdaaGreat
