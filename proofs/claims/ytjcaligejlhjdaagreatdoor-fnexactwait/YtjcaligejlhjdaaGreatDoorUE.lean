/-
  Chapter 15 of the specification by its contracts: Wait.
-/
import Derived.Test.YtjcaligejlhjdaaGreatDoorUD
import Derived.Test.YtjcaligejlhjdaaGreatDoorC5
import Derived.Conc.RwLib
import Derived.Conc.MuLone
import Derived.Laws.LoneSync
import Derived.BigQuiet
import Derived.Defers
import Derived.KernelRfl
namespace Go.Proofs.YtjcaligejlhjdaaGreatDoor
set_option linter.unusedVariables false
set_option linter.unusedSimpArgs false
open Go.ChangeShapes Go.WideShapes Go.ChangeAt Go.RowKit Go.Sort
def waitS (d : SpD) : Int := if okSplit d = true then waitU d else 6
theorem okSplit_T {d : SpD} (h : okSplit d = true) : d.T ≤ 20000 ∧ 0 ≤ d.T := by
  unfold okSplit at h
  simp only [Bool.and_eq_true] at h
  have := (inB_iff _ _ _).1 h.2.2.2.2.2.2.2.1
  omega
set_option maxHeartbeats 1000000 in
theorem specWait (w : World) (D : Nat → Nat → Prop) (v : Value) (d : SpD) (H : SplitOn w D v d) : Calls Tryz.prog 5 #[v] w fun e w' => e = .returned (.int .i64 (waitS d)) ∧ Below w.heap.size w w' := by
  obtain ⟨cs, rfl, hsz, -⟩ := H.agg
  have HSZ := hide hsz
  have HH := hide H
  obtain ⟨ok, hok⟩ : ∃ b, Hid (b = okSplit d) := ⟨_, rfl⟩
  obtain ⟨r, hr⟩ : ∃ r, Hid (r = waitS d) := ⟨_, rfl⟩
  obtain ⟨u, hu⟩ : ∃ r, Hid (r = waitU d) := ⟨_, rfl⟩
  rw [← hr.out]
  have HR : Hid (r = if ok = true then u else 6) := by show _ = _; rw [hr.out, hok.out, hu.out]; rfl
  have HO := hide (fun W L => specSplitOk W D (.agg cs) d (HH.out.keep (wrote_below L Nowhere) (fun _ _ _ _ _ x => x)))
  rw [← hok.out] at HO
  have HW := hide (fun W L (h : ok = true) => l15Wait W D cs d (HH.out.keep (wrote_below L Nowhere) (fun _ _ _ _ _ x => x)) (okSplit_T (by rw [← hok.out]; exact h)))
  rw [← hu.out] at HW
  have C0 : Below w.heap.size w (w.alloc (.cells cs 61)) := (Below.refl _ _).alloc (Nat.le_refl _) _
  have k0 := box_new w cs 61
  clear H hsz hok hr hu
  go_enter Tryz.func5, Tryz.ntmps5
  go_upto_region 1 with (fail)
  generalize w.alloc (.cells cs 61) = W0 at *
  refine wp_region_lit ?_
  refine wpList_load_row rfl _ _ rfl (w.heap.size) rfl _ _ _ _ k0 Tryz.underlying61 rfl (infoAtU infoSplit HSZ.out) ?_
  go_wp2_with fail
  refine (HO.out _ C0).mono ?_
  rintro e W1 ⟨rfl, L⟩
  replace C0 := below_snoc C0 L
  replace k0 := box_keep k0 L (boxLt k0)
  clear L
  cases ok
  · have HE : Hid (r = 6) := by show _ = _; rw [HR.out]; rfl
    go_wp2
    go_ret
    exact ⟨ret_int HE.out.symm, C0⟩
  · have HE : Hid (r = u) := by show _ = _; rw [HR.out]; rfl
    go_upto_region 3 with (fail)
    refine wp_region_lit ?_
    refine wpList_load_row rfl _ _ rfl (w.heap.size) rfl _ _ _ _ k0 Tryz.underlying61 rfl (infoAtU infoSplit HSZ.out) ?_
    go_wp2_with fail
    refine (HW.out _ C0 (by trivial)).mono ?_
    rintro e W2 ⟨rfl, L⟩
    go_wp2
    go_ret
    exact ⟨ret_int HE.out.symm, below_snoc C0 L⟩
end Go.Proofs.YtjcaligejlhjdaaGreatDoor
namespace Go.Proofs.YtjcaligejlhjdaaGreatDoor
set_option linter.unusedVariables false
set_option linter.unusedSimpArgs false
open Go.ChangeShapes Go.WideShapes Go.ChangeAt Go.RowKit
abbrev muLink : Go.Conc.Locks.MuLink := { lock := 101, unlock := 102, ilock := 128, iunlock := 129, lockSlow := 150, unlockSlow := 153, disable := 146, enable := 148, acquire := 149, relMerge := 151, cas32 := 147, add32 := 152, tMutex := 129, tIMutex := 127, tPMutex := 172, tPIMutex := 188, tPI32 := 190, tUP := 192, tNoCopy := 124, tU32 := 125 }
theorem muLib : Go.Conc.Locks.MuLib Tryz.prog muLink :=
  ⟨Tryz.func101, Tryz.func102, Tryz.func128, Tryz.func129, Tryz.func146, Tryz.func148, Tryz.func149, Tryz.func151, Tryz.func147, Tryz.func152, Tryz.underlying127, Tryz.runUnderlying127, Tryz.sizeOf127, Tryz.isAgg127, Tryz.zeroValue127, Tryz.underlying129, Tryz.runUnderlying129, Tryz.sizeOf129, Tryz.isAgg129, Tryz.zeroValue129, Tryz.underlying172, Tryz.runUnderlying172, Tryz.sizeOf172, Tryz.isAgg172, Tryz.zeroValue172, Tryz.underlying188, Tryz.runUnderlying188, Tryz.sizeOf188, Tryz.isAgg188, Tryz.zeroValue188, Tryz.underlying190, Tryz.runUnderlying190, Tryz.sizeOf190, Tryz.isAgg190, Tryz.zeroValue190, Tryz.underlying192, Tryz.runUnderlying192, Tryz.sizeOf192, Tryz.isAgg192, Tryz.zeroValue192, Tryz.underlying124, Tryz.runUnderlying124, Tryz.sizeOf124, Tryz.isAgg124, Tryz.zeroValue124, Tryz.underlying21, Tryz.runUnderlying21, Tryz.sizeOf21, Tryz.isAgg21, Tryz.zeroValue21, (by kernel_rfl)⟩
theorem i64Store (w : World) (b o : Nat) (x y : Int) (h : w.cell? ⟨b, o, none⟩ = some (.int .i64 x)) (hf : w.frozen? ⟨b, o, none⟩ = false) : Calls Tryz.prog 100 #[.pointer (some ⟨b, o, none⟩), .int .i64 y] w fun e w' => e = .returned (.tuple #[]) ∧ w' = w.setCell ⟨b, o, none⟩ (.int .i64 y) := by
  have hs := run_call_store (P := Tryz.prog) Tryz.func127 (by kernel_rfl) (by kernel_rfl) (by kernel_rfl) (by kernel_rfl) (k := .i64) (y := y) h hf
  go_enter Tryz.func100, Tryz.ntmps100
  go_wp2
  go_end0
  exact ⟨rfl, rfl⟩
theorem i64Load (w : World) (b o : Nat) (x : Int) (h : w.cell? ⟨b, o, none⟩ = some (.int .i64 x)) : Calls Tryz.prog 113 #[.pointer (some ⟨b, o, none⟩)] w fun e w' => e = .returned (.int .i64 x) ∧ w' = w := by
  have hs := run_call_load (P := Tryz.prog) Tryz.func140 (by kernel_rfl) (by kernel_rfl) (by kernel_rfl) .i64 (by kernel_rfl) h
  go_enter Tryz.func113, Tryz.ntmps113
  go_wp2
  go_ret
  exact ⟨rfl, rfl⟩
theorem clockPut (w : World) (b o : Nat) (x y : Int) (h : w.cell? ⟨b, o, none⟩ = some (.int .i64 x)) (hf : w.frozen? ⟨b, o, none⟩ = false) : Calls Tryz.prog 64 #[.pointer (some ⟨b, o, none⟩), .int .i64 y] w fun e w' => e = .returned (.tuple #[]) ∧ w' = w.setCell ⟨b, o, none⟩ (.int .i64 y) := by
  have hs := hide (i64Store w b o x y h hf)
  go_enter Tryz.func64, Tryz.ntmps64
  go_wp2_with fail
  refine hs.out.mono ?_
  rintro e w' ⟨rfl, rfl⟩
  go_wp2
  go_end0
  exact ⟨rfl, rfl⟩
theorem clockNow (w : World) (b o : Nat) (x : Int) (h : w.cell? ⟨b, o, none⟩ = some (.int .i64 x)) : Calls Tryz.prog 69 #[.pointer (some ⟨b, o, none⟩)] w fun e w' => e = .returned (.int .i64 x) ∧ w' = w := by
  have hs := hide (i64Load w b o x h)
  go_enter Tryz.func69, Tryz.ntmps69
  go_wp2_with fail
  refine hs.out.mono ?_
  rintro e w' ⟨rfl, rfl⟩
  go_wp2
  go_ret
  exact ⟨rfl, rfl⟩
theorem wroteZ (w : World) (z o : Nat) (v : Value) : Wrote (fun b _ => b = z) w (w.setCell ⟨z, o, none⟩ v) := Wrote.setCell (R := fun b _ => b = z) (Wrote.refl _ _) (fun _ => rfl) v
theorem boxSetZ {W : World} {z : Nat} {cs : Array Value} {t : TypeId} {fr : Nat × Nat} (h : W.heap[z]? = some (.cells cs t fr)) (o : Nat) (x : Value) : (W.setCell ⟨z, o, none⟩ x).heap[z]? = some (.cells (cs.setIfInBounds o x) t fr) := by
  simp [World.setCell, Array.getElem?_modify, h]
theorem set_back {cs : Array Value} {o : Nat} {x : Value} (h : cs[o]? = some x) (y : Value) : (cs.setIfInBounds o y).setIfInBounds o x = cs := by
  apply Array.ext_getElem?
  intro i
  by_cases e : i = o
  · subst e
    have := (Array.getElem?_eq_some_iff.1 h).1
    simp [this]
    exact (Array.getElem?_eq_some_iff.1 h).2.symm
  · simp [Array.getElem?_setIfInBounds, Ne.symm e]
open Go.MuLone in
theorem hearGet (w : World) (z o : Nat) (cs : Array Value) (T : TypeId) (kn : Bool) (ka : Int) (k : w.heap[z]? = some (.cells cs T (0, 0))) (h0 : cs[o]? = some (.int .i32 0)) (h2 : cs[o + 2]? = some (.bool kn)) (h3 : cs[o + 3]? = some (.int .i64 ka)) : Calls Tryz.prog 103 #[.pointer (some ⟨z, o, none⟩)] w fun e w' => e = .returned (.tuple #[.bool kn, .int .i64 ka]) ∧ Wrote (fun b _ => b = z) w w' ∧ w'.heap[z]? = some (.cells cs T (0, 0)) := by
  have c0 : w.cell? ⟨z, o, none⟩ = some (.int .i32 0) := (boxC k o).trans h0
  have f0 : w.frozen? ⟨z, o, none⟩ = false := boxF k o
  have k1 := boxSetZ k o (.int .i32 1)
  have w1 := wroteZ w z o (.int .i32 1)
  have d0 : (w.setCell ⟨z, o, none⟩ (.int .i32 1)).cell? ⟨z, o, none⟩ = some (.int .i32 1) := World.cell?_setCell_same w ⟨z, o, none⟩ (.int .i32 1) c0
  have d2 : (w.setCell ⟨z, o, none⟩ (.int .i32 1)).cell? ⟨z, o + 2, none⟩ = some (.bool kn) := (World.cell?_setCell_other w ⟨z, o, none⟩ ⟨z, o + 2, none⟩ _ (by simp)).trans ((boxC k _).trans h2)
  have d3 : (w.setCell ⟨z, o, none⟩ (.int .i32 1)).cell? ⟨z, o + 3, none⟩ = some (.int .i64 ka) := (World.cell?_setCell_other w ⟨z, o, none⟩ ⟨z, o + 3, none⟩ _ (by simp)).trans ((boxC k _).trans h3)
  have g0 : (w.setCell ⟨z, o, none⟩ (.int .i32 1)).frozen? ⟨z, o, none⟩ = false := boxF k1 o
  go_enter_defers Tryz.func103, Tryz.ntmps103
  go_wp2_with (go_at_call 101; refine (lock_free muLib ⟨z, o, none⟩ _ c0 f0).mono ?_; rintro e w' ⟨rfl, rfl⟩)
  generalize w.setCell ⟨z, o, none⟩ (.int .i32 1) = W1 at *
  go_big_quiet (fail)
  go_wp2_with fail
  refine leaves_cons (f := 102) (args := #[.pointer (some ⟨z, o, none⟩)]) (by simp) (by simp [go_sem]) ?_
  refine (unlock_deferred muLib ⟨z, o, none⟩ .returning _ ?_ ?_).mono ?_
  · exact d0
  · exact g0
  rintro e u' w'' ⟨rfl, rfl, rfl⟩
  refine ⟨_, results_tmp2 rfl _ _ _, rfl, (w1.drewN _).trans (wroteZ _ z o _), ?_⟩
  have k2 := boxSetZ (W := W1.drewN nq) k1 o (.int .i32 0)
  rw [set_back h0] at k2
  exact k2
open Go.MuLone in
theorem hearPut (w : World) (z o : Nat) (cs : Array Value) (T : TypeId) (kn kn' : Bool) (ka ka' : Int) (k : w.heap[z]? = some (.cells cs T (0, 0))) (h0 : cs[o]? = some (.int .i32 0)) (h2 : cs[o + 2]? = some (.bool kn)) (h3 : cs[o + 3]? = some (.int .i64 ka)) : Calls Tryz.prog 65 #[.pointer (some ⟨z, o, none⟩), .bool kn', .int .i64 ka'] w fun e w' => e = .returned (.tuple #[]) ∧ Wrote (fun b _ => b = z) w w' ∧ w'.heap[z]? = some (.cells ((cs.setIfInBounds (o + 2) (.bool kn')).setIfInBounds (o + 3) (.int .i64 ka')) T (0, 0)) := by
  have c0 : w.cell? ⟨z, o, none⟩ = some (.int .i32 0) := (boxC k o).trans h0
  have f0 : w.frozen? ⟨z, o, none⟩ = false := boxF k o
  have k1 := boxSetZ k o (.int .i32 1)
  have w1 := wroteZ w z o (.int .i32 1)
  have g2 : (w.setCell ⟨z, o, none⟩ (.int .i32 1)).frozen? ⟨z, o + 2, none⟩ = false := boxF k1 _
  have g3 : (w.setCell ⟨z, o, none⟩ (.int .i32 1)).frozen? ⟨z, o + 3, none⟩ = false := boxF k1 _
  have d0 : (w.setCell ⟨z, o, none⟩ (.int .i32 1)).cell? ⟨z, o, none⟩ = some (.int .i32 1) := World.cell?_setCell_same w ⟨z, o, none⟩ (.int .i32 1) c0
  have d2 : (w.setCell ⟨z, o, none⟩ (.int .i32 1)).cell? ⟨z, o + 2, none⟩ = some (.bool kn) := (World.cell?_setCell_other w ⟨z, o, none⟩ ⟨z, o + 2, none⟩ _ (by simp)).trans ((boxC k _).trans h2)
  have d3 : (w.setCell ⟨z, o, none⟩ (.int .i32 1)).cell? ⟨z, o + 3, none⟩ = some (.int .i64 ka) := (World.cell?_setCell_other w ⟨z, o, none⟩ ⟨z, o + 3, none⟩ _ (by simp)).trans ((boxC k _).trans h3)
  go_enter_defers Tryz.func65, Tryz.ntmps65
  go_wp2_with (go_at_call 101; refine (lock_free muLib ⟨z, o, none⟩ _ c0 f0).mono ?_; rintro e w' ⟨rfl, rfl⟩)
  have k3 := boxSetZ (boxSetZ k1 (o + 2) (.bool kn')) (o + 3) (.int .i64 ka')
  have w3 := (w1.trans (wroteZ _ z (o + 2) (.bool kn'))).trans (wroteZ _ z (o + 3) (.int .i64 ka'))
  refine leaves_cons (f := 102) (args := #[.pointer (some ⟨z, o, none⟩)]) (by simp) (by simp [go_sem]) ?_
  refine (unlock_deferred muLib ⟨z, o, none⟩ .returning _ ?_ ?_).mono ?_
  · exact (World.cell?_setCell_other _ ⟨z, o + 3, none⟩ ⟨z, o, none⟩ _ (by simp)).trans ((World.cell?_setCell_other _ ⟨z, o + 2, none⟩ ⟨z, o, none⟩ _ (by simp)).trans d0)
  · exact boxF k3 _
  rintro e u' w'' ⟨rfl, rfl, rfl⟩
  refine ⟨_, results_none rfl _ _ _, rfl, w3.trans (wroteZ _ z o _), ?_⟩
  have k4 := boxSetZ k3 o (.int .i32 0)
  rw [Array.setIfInBounds_comm (i := o + 3) (j := o) _ _ (by omega), Array.setIfInBounds_comm (i := o + 2) (j := o) _ _ (by omega), set_back h0] at k4
  exact k4
end Go.Proofs.YtjcaligejlhjdaaGreatDoor
