/-
  Chapter 8 of the specification by its contracts: registers.
-/
import Derived.Test.YtpaedkefmebjjarE8
namespace Go.Proofs.Ytpaedkefmebjjar
set_option linter.unusedVariables false
open Go.ChangeShapes Go.WideShapes Go.ChangeAt Go.RowKit
theorem specPpuNew (w : World) : Calls Try.prog 57 #[] w fun e w' => ∃ p, e = .returned (.agg #[.int .i64 0, .int .i64 0, .int .i64 0, .int .i64 0, .int .i64 0, .bool false, .slice (some ⟨p, 0, none⟩) 16 16, .slice none 0 0]) ∧ Row w' w.heap.size p 16 16 (fun _ => 0) ∧ Below w.heap.size w w' := by
  obtain ⟨ob, hmk, hrow⟩ : ∃ ob : Obj, (∀ W : World, (Instr.makeSlice 25 (.int .i64 16) (.int .i64 16)).run Try.prog W = .ok (.slice (some ⟨W.heap.size, 0, none⟩) 16 16) (W.alloc ob)) ∧ Hid (∀ W : World, (W.alloc ob).rowIs W.heap.size 3 16 (fun _ => .int .i64 0)) :=
    ⟨_, run_make_row' (P := Try.prog) 25 3 (.int .i64 0) 8 Try.underlying25 info3 rfl .i64 .i64 16 (by omega) (by omega), fun W => World.rowIs_made W _ _ _⟩
  have hr := hide (hrow.out (w.alloc (.cells #[.int .i64 0, .int .i64 0, .int .i64 0, .int .i64 0, .int .i64 0, .bool false, .slice (some ⟨w.heap.size + 1, 0, none⟩) 16 16, .slice none 0 0] 45)))
  have L0 : Below w.heap.size w ((w.alloc (.cells #[.int .i64 0, .int .i64 0, .int .i64 0, .int .i64 0, .int .i64 0, .bool false, .slice (some ⟨w.heap.size + 1, 0, none⟩) 16 16, .slice none 0 0] 45)).alloc ob) := ((Below.refl _ _).alloc (Nat.le_refl _) _).alloc (by simp) _
  go_enter Try.func57, Try.ntmps57
  go_wp2
  have hr' := unhide hr
  simp only [World.size_alloc] at hr'
  refine bodyPost_ret (v := .agg #[.int .i64 0, .int .i64 0, .int .i64 0, .int .i64 0, .int .i64 0, .bool false, .slice (some ⟨w.heap.size + 1, 0, none⟩) 16 16, .slice none 0 0]) (by simp [results, Try.results57, go_sem]) rfl ?_
  exact ⟨_, rfl, Row.fresh hr' (by omega) (by omega), L0⟩
def wrC (ok : Bool) (reg v c : Int) : Int := if ok = true ∧ reg = 0 then v % 256 else c
def wrS (ok : Bool) (reg v s : Int) : Int := if ok = true ∧ reg = 1 then v % 256 else s
def wrA (ok : Bool) (reg v ad : Int) : Int := if ok = true ∧ reg = 3 then v % 256 % 16 else if ok = true ∧ reg = 4 then (ad + 1) % 16 else ad
def wrP (ok : Bool) (reg v pl : Int) : Int := if ok = true ∧ reg = 5 then v % 256 % 64 else pl
def wrT (ok : Bool) (reg v ad : Int) (f : Nat → Int) : Nat → Int := if ok = true ∧ reg = 4 then (fun i => if i = ad.toNat then v % 256 % 64 else f i) else f
end Go.Proofs.Ytpaedkefmebjjar
