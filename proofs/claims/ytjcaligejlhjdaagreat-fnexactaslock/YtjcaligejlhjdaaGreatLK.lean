/-
  The numbers under which this dump holds sync.Mutex, sync/atomic's Int64, and their contracts in a run of one goroutine.
-/
import Derived.Test.YtjcaligejlhjdaaGreatJ2
import Derived.Test.YtjcaligejlhjdaaGreatUW
import Derived.Test.YtjcaligejlhjdaaGreatUI
import Derived.Test.YtjcaligejlhjdaaGreatV0
import Derived.Test.YtjcaligejlhjdaaGreatC7
import Derived.Test.YtjcaligejlhjdaaGreatU0
import Derived.Test.YtjcaligejlhjdaaGreatS2
import Derived.Test.YtjcaligejlhjdaaGreatI9
import Derived.Test.YtjcaligejlhjdaaGreatG1
import Derived.Conc.RwLib
import Derived.Conc.MuLone
import Derived.Laws.LoneSync
import Derived.BigQuiet
import Derived.Defers
import Derived.KernelRfl
import Derived.Deep.RegionHeld3
import Derived.Lib.QuietBelow
import Derived.Laws.EntriesVeiled
import Derived.Deep.DeepCutAuto
namespace Go.Proofs.YtjcaligejlhjdaaGreat
set_option linter.unusedVariables false
set_option linter.unusedSimpArgs false
open Go.ChangeShapes Go.WideShapes Go.ChangeAt Go.RowKit
abbrev muLink : Go.Conc.Locks.MuLink := { lock := 164, unlock := 165, ilock := 173, iunlock := 174, lockSlow := 180, unlockSlow := 183, disable := 176, enable := 178, acquire := 179, relMerge := 181, cas32 := 177, add32 := 182, tMutex := 167, tIMutex := 165, tPMutex := 210, tPIMutex := 212, tPI32 := 214, tUP := 216, tNoCopy := 162, tU32 := 163 }
theorem muLib : Go.Conc.Locks.MuLib Tryz.prog muLink :=
  ⟨Tryz.func164, Tryz.func165, Tryz.func173, Tryz.func174, Tryz.func176, Tryz.func178, Tryz.func179, Tryz.func181, Tryz.func177, Tryz.func182, Tryz.underlying165, Tryz.runUnderlying165, Tryz.sizeOf165, Tryz.isAgg165, Tryz.zeroValue165, Tryz.underlying167, Tryz.runUnderlying167, Tryz.sizeOf167, Tryz.isAgg167, Tryz.zeroValue167, Tryz.underlying210, Tryz.runUnderlying210, Tryz.sizeOf210, Tryz.isAgg210, Tryz.zeroValue210, Tryz.underlying212, Tryz.runUnderlying212, Tryz.sizeOf212, Tryz.isAgg212, Tryz.zeroValue212, Tryz.underlying214, Tryz.runUnderlying214, Tryz.sizeOf214, Tryz.isAgg214, Tryz.zeroValue214, Tryz.underlying216, Tryz.runUnderlying216, Tryz.sizeOf216, Tryz.isAgg216, Tryz.zeroValue216, Tryz.underlying162, Tryz.runUnderlying162, Tryz.sizeOf162, Tryz.isAgg162, Tryz.zeroValue162, Tryz.underlying21, Tryz.runUnderlying21, Tryz.sizeOf21, Tryz.isAgg21, Tryz.zeroValue21, (by kernel_rfl)⟩
theorem i64Store (w : World) (b o : Nat) (x y : Int) (h : w.cell? ⟨b, o, none⟩ = some (.int .i64 x)) (hf : w.frozen? ⟨b, o, none⟩ = false) : Calls Tryz.prog 163 #[.pointer (some ⟨b, o, none⟩), .int .i64 y] w fun e w' => e = .returned (.tuple #[]) ∧ w' = w.setCell ⟨b, o, none⟩ (.int .i64 y) := by
  have hs := run_call_store (P := Tryz.prog) Tryz.func172 (by kernel_rfl) (by kernel_rfl) (by kernel_rfl) (by kernel_rfl) (k := .i64) (y := y) h hf
  go_enter Tryz.func163, Tryz.ntmps163
  go_wp2
  go_end0
  exact ⟨rfl, rfl⟩
theorem i64Load (w : World) (b o : Nat) (x : Int) (h : w.cell? ⟨b, o, none⟩ = some (.int .i64 x)) : Calls Tryz.prog 175 #[.pointer (some ⟨b, o, none⟩)] w fun e w' => e = .returned (.int .i64 x) ∧ w' = w := by
  have hs := run_call_load (P := Tryz.prog) Tryz.func184 (by kernel_rfl) (by kernel_rfl) (by kernel_rfl) .i64 (by kernel_rfl) h
  go_enter Tryz.func175, Tryz.ntmps175
  go_wp2
  go_ret
  exact ⟨rfl, rfl⟩
theorem clockPut (w : World) (b o : Nat) (x y : Int) (h : w.cell? ⟨b, o, none⟩ = some (.int .i64 x)) (hf : w.frozen? ⟨b, o, none⟩ = false) : Calls Tryz.prog 143 #[.pointer (some ⟨b, o, none⟩), .int .i64 y] w fun e w' => e = .returned (.tuple #[]) ∧ w' = w.setCell ⟨b, o, none⟩ (.int .i64 y) := by
  have hs := hide (i64Store w b o x y h hf)
  go_enter Tryz.func143, Tryz.ntmps143
  go_wp2_with fail
  refine hs.out.mono ?_
  rintro e w' ⟨rfl, rfl⟩
  go_wp2
  go_end0
  exact ⟨rfl, rfl⟩
theorem clockNow (w : World) (b o : Nat) (x : Int) (h : w.cell? ⟨b, o, none⟩ = some (.int .i64 x)) : Calls Tryz.prog 166 #[.pointer (some ⟨b, o, none⟩)] w fun e w' => e = .returned (.int .i64 x) ∧ w' = w := by
  have hs := hide (i64Load w b o x h)
  go_enter Tryz.func166, Tryz.ntmps166
  go_wp2_with fail
  refine hs.out.mono ?_
  rintro e w' ⟨rfl, rfl⟩
  go_wp2
  go_ret
  exact ⟨rfl, rfl⟩
theorem wroteZ (w : World) (z o : Nat) (v : Value) : Wrote (fun b _ => b = z) w (w.setCell ⟨z, o, none⟩ v) := Wrote.setCell (R := fun b _ => b = z) (Wrote.refl _ _) (fun _ => rfl) v
theorem boxSetZ {W : World} {z : Nat} {cs : Array Value} {t : TypeId} {fr : Nat × Nat} (h : W.heap[z]? = some (.cells cs t fr)) (o : Nat) (x : Value) : (W.setCell ⟨z, o, none⟩ x).heap[z]? = some (.cells (cs.setIfInBounds o x) t fr) := by
  simp [World.setCell, Array.getElem?_modify, h]
theorem set_back {cs : Array Value} {o : Nat} {x : Value} (h : cs[o]? = some x) (y : Value) : (cs.setIfInBounds o y).setIfInBounds o x = cs := by
  apply Array.ext_getElem?
  intro i
  by_cases e : i = o
  · subst e
    have := (Array.getElem?_eq_some_iff.1 h).1
    simp [this]
    exact (Array.getElem?_eq_some_iff.1 h).2.symm
  · simp [Array.getElem?_setIfInBounds, Ne.symm e]
open Go.MuLone in
theorem hearPut (w : World) (z o : Nat) (cs : Array Value) (T : TypeId) (kn kn' : Bool) (ka ka' : Int) (k : w.heap[z]? = some (.cells cs T (0, 0))) (h0 : cs[o]? = some (.int .i32 0)) (h2 : cs[o + 2]? = some (.bool kn)) (h3 : cs[o + 3]? = some (.int .i64 ka)) : Calls Tryz.prog 144 #[.pointer (some ⟨z, o, none⟩), .bool kn', .int .i64 ka'] w fun e w' => e = .returned (.tuple #[]) ∧ Wrote (fun b _ => b = z) w w' ∧ w'.heap[z]? = some (.cells ((cs.setIfInBounds (o + 2) (.bool kn')).setIfInBounds (o + 3) (.int .i64 ka')) T (0, 0)) := by
  have c0 : w.cell? ⟨z, o, none⟩ = some (.int .i32 0) := (boxC k o).trans h0
  have f0 : w.frozen? ⟨z, o, none⟩ = false := boxF k o
  have k1 := boxSetZ k o (.int .i32 1)
  have w1 := wroteZ w z o (.int .i32 1)
  have g2 : (w.setCell ⟨z, o, none⟩ (.int .i32 1)).frozen? ⟨z, o + 2, none⟩ = false := boxF k1 _
  have g3 : (w.setCell ⟨z, o, none⟩ (.int .i32 1)).frozen? ⟨z, o + 3, none⟩ = false := boxF k1 _
  have d0 : (w.setCell ⟨z, o, none⟩ (.int .i32 1)).cell? ⟨z, o, none⟩ = some (.int .i32 1) := World.cell?_setCell_same w ⟨z, o, none⟩ (.int .i32 1) c0
  have d2 : (w.setCell ⟨z, o, none⟩ (.int .i32 1)).cell? ⟨z, o + 2, none⟩ = some (.bool kn) := (World.cell?_setCell_other w ⟨z, o, none⟩ ⟨z, o + 2, none⟩ _ (by simp)).trans ((boxC k _).trans h2)
  have d3 : (w.setCell ⟨z, o, none⟩ (.int .i32 1)).cell? ⟨z, o + 3, none⟩ = some (.int .i64 ka) := (World.cell?_setCell_other w ⟨z, o, none⟩ ⟨z, o + 3, none⟩ _ (by simp)).trans ((boxC k _).trans h3)
  go_enter_defers Tryz.func144, Tryz.ntmps144
  go_wp2_with (go_at_call 164; refine (lock_free muLib ⟨z, o, none⟩ _ c0 f0).mono ?_; rintro e w' ⟨rfl, rfl⟩)
  have k3 := boxSetZ (boxSetZ k1 (o + 2) (.bool kn')) (o + 3) (.int .i64 ka')
  have w3 := (w1.trans (wroteZ _ z (o + 2) (.bool kn'))).trans (wroteZ _ z (o + 3) (.int .i64 ka'))
  refine leaves_cons (f := 165) (args := #[.pointer (some ⟨z, o, none⟩)]) (by simp) (by simp [go_sem]) ?_
  refine (unlock_deferred muLib ⟨z, o, none⟩ .returning _ ?_ ?_).mono ?_
  · exact (World.cell?_setCell_other _ ⟨z, o + 3, none⟩ ⟨z, o, none⟩ _ (by simp)).trans ((World.cell?_setCell_other _ ⟨z, o + 2, none⟩ ⟨z, o, none⟩ _ (by simp)).trans d0)
  · exact boxF k3 _
  rintro e u' w'' ⟨rfl, rfl, rfl⟩
  refine ⟨_, results_none rfl _ _ _, rfl, w3.trans (wroteZ _ z o _), ?_⟩
  have k4 := boxSetZ k3 o (.int .i32 0)
  rw [Array.setIfInBounds_comm (i := o + 3) (j := o) _ _ (by omega), Array.setIfInBounds_comm (i := o + 2) (j := o) _ _ (by omega), set_back h0] at k4
  exact k4
end Go.Proofs.YtjcaligejlhjdaaGreat
namespace Go.Proofs.YtjcaligejlhjdaaGreat
set_option linter.unusedVariables false
set_option linter.unusedSimpArgs false
open Go.ChangeShapes Go.WideShapes Go.ChangeAt Go.RowKit Go.Sort
/-- The cells of a console at work: its Split, three clocks, what was heard. -/
structure ApB (bs cs : Array Value) (T p s : Int) (kn : Bool) (ka : Int) : Prop where
  sz : bs.size = 49
  lo : ∀ i, i < 42 → bs[i]? = cs[i]?
  c42 : bs[42]? = some (.int .i64 T)
  c43 : bs[43]? = some (.int .i64 p)
  c44 : bs[44]? = some (.int .i64 s)
  c45 : bs[45]? = some (.int .i32 0)
  c47 : bs[47]? = some (.bool kn)
  c48 : bs[48]? = some (.int .i64 ka)
theorem ApB.heard {bs cs : Array Value} {T p s : Int} {kn : Bool} {ka : Int} (H : ApB bs cs T p s kn ka) (kn' : Bool) (ka' : Int) : ApB ((bs.setIfInBounds 47 (.bool kn')).setIfInBounds 48 (.int .i64 ka')) cs T p s kn' ka' := by
  have hs := H.sz
  refine ⟨by simp [hs], fun i hi => ?_, ?_, ?_, ?_, ?_, ?_, ?_⟩
  · rw [Array.getElem?_setIfInBounds_ne (by omega), Array.getElem?_setIfInBounds_ne (by omega)]; exact H.lo i hi
  · rw [Array.getElem?_setIfInBounds_ne (by omega), Array.getElem?_setIfInBounds_ne (by omega)]; exact H.c42
  · rw [Array.getElem?_setIfInBounds_ne (by omega), Array.getElem?_setIfInBounds_ne (by omega)]; exact H.c43
  · rw [Array.getElem?_setIfInBounds_ne (by omega), Array.getElem?_setIfInBounds_ne (by omega)]; exact H.c44
  · rw [Array.getElem?_setIfInBounds_ne (by omega), Array.getElem?_setIfInBounds_ne (by omega)]; exact H.c45
  · rw [Array.getElem?_setIfInBounds_ne (by omega), Array.getElem?_setIfInBounds_self_of_lt (by omega)]
  · rw [Array.getElem?_setIfInBounds_self_of_lt (by simp; omega)]
/-- A console at work in a box z. -/
structure ApBox (W : World) (z : Nat) (cs : Array Value) (T p s : Int) (kn : Bool) (ka : Int) : Prop where
  ex : ∃ bs : Array Value, W.heap[z]? = some (.cells bs 171 (0, 0)) ∧ ApB bs cs T p s kn ka
theorem ApBox.below {W W' : World} {z : Nat} {cs : Array Value} {T p s : Int} {kn : Bool} {ka : Int} (H : ApBox W z cs T p s kn ka) (L : Below W.heap.size W W') : ApBox W' z cs T p s kn ka := by
  obtain ⟨bs, k, hb⟩ := H
  exact ⟨bs, box_keep k L (boxLt k), hb⟩
theorem ApBox.lt {W : World} {z : Nat} {cs : Array Value} {T p s : Int} {kn : Bool} {ka : Int} (H : ApBox W z cs T p s kn ka) : z < W.heap.size := by
  obtain ⟨bs, k, hb⟩ := H
  exact boxLt k
theorem nowAny (W : World) (z o : Nat) (bs : Array Value) (ty : TypeId) (x : Int) (k : W.heap[z]? = some (.cells bs ty (0, 0))) (h : bs[o]? = some (.int .i64 x)) (dd : Nat) (os : Array Obj) : Calls Tryz.prog 166 #[.pointer (some ⟨z, o, none⟩)] (grow (redrawn W dd) os) fun e w' => e = .returned (.int .i64 x) ∧ Below (grow (redrawn W dd) os).heap.size (grow (redrawn W dd) os) w' :=
  (clockNow _ z o x ((boxU k dd os o).trans h)).mono (fun e w' ⟨he, hw⟩ => ⟨he, by rw [hw]; exact Below.refl _ _⟩)
set_option maxHeartbeats 1000000 in
theorem caughtUp (w : World) (z : Nat) (bs : Array Value) (o : Nat) (x T cap : Int) (b : Option Addr) (n y : Nat) (hn : n ≤ 1048576) (k : w.heap[z]? = some (.cells bs 171 (0, 0))) (h42 : bs[42]? = some (.int .i64 T)) (ho : bs[o]? = some (.int .i64 x)) :
    Calls Tryz.prog 145 #[.pointer (some ⟨z, 0, none⟩), .pointer (some ⟨z, o, none⟩), .agg #[.int .i64 cap, .slice b n y]] w fun e w' => e = .returned (.bool ((x == T) && (n == 0))) ∧ Below w.heap.size w w' := by
  have C0 : Below w.heap.size w (w.alloc (.cells #[.int .i64 cap, .slice b n y] 38)) := (Below.refl _ _).alloc (Nat.le_refl _) _
  have k0 := box_new w #[.int .i64 cap, .slice b n y] 38
  replace k := boxA k (.cells #[.int .i64 cap, .slice b n y] 38)
  obtain ⟨r, hr⟩ : ∃ r, Hid (r = ((x == T) && (n == 0))) := ⟨_, rfl⟩
  rw [← hr.out]
  obtain ⟨b1, x1⟩ : ∃ b, (x == T) = b := ⟨_, rfl⟩
  obtain ⟨b2, x2⟩ : ∃ b, ((n : Int) == 0) = b := ⟨_, rfl⟩
  have HR : Hid (r = (b1 && b2)) := by
    show _ = _
    rw [hr.out, x1, ← x2]
    congr 1
    by_cases h : n = 0
    · subst h; rfl
    · rw [show (n == 0) = false by simpa using h, show ((n : Int) == 0) = false by simp; omega]
  clear hr
  go_enter Tryz.func145, Tryz.ntmps145
  go_upto_region 1 with (fail)
  generalize w.alloc (.cells #[.int .i64 cap, .slice b n y] 38) = W0 at *
  have N1 := hide (nowAny W0 z o bs _ x k ho)
  have N2 := hide (nowAny W0 z 42 bs _ T k h42)
  have c0 := boxU k0
  refine wp_region_quiet_below (by kernel_rfl) (by kernel_rfl) ?_
  repeat (go_big_quiet_step (first | (go_at_call 166; first | with_reducible exact Calls.regrown_of (N1.out _ _) | with_reducible exact Calls.regrown_of (N2.out _ _))))
  cases b1
  all_goals
    repeat (go_big_quiet_step (fail))
    refine wpQuiet_nil ?_
    intro _ hw'
    obtain ⟨⟨dq, osq⟩, hw''⟩ := hw'
    subst hw''
    have LQ := below_snoc C0 (below_regrown W0 dq osq)
    generalize grow (redrawn W0 dq) osq = w4 at *
    clear c0
    go_wp2
    go_ret
    exact ⟨ret_bool HR.out.symm, LQ⟩
theorem pictureThere (w : World) (z : Nat) (cs : Array Value) (T p s cap : Int) (kn : Bool) (ka : Int) (b : Option Addr) (n y : Nat) (hn : n ≤ 1048576) (H : ApBox w z cs T p s kn ka) (f29 : cs[29]? = some (.int .i64 cap)) (f30 : cs[30]? = some (.slice b n y)) :
    Calls Tryz.prog 112 #[.pointer (some ⟨z, 0, none⟩)] w fun e w' => e = .returned (.bool ((p == T) && (n == 0))) ∧ Below w.heap.size w w' := by
  obtain ⟨bs, k, hb⟩ := H
  have g29 := (hb.lo 29 (by omega)).trans f29
  have g30 := (hb.lo 30 (by omega)).trans f30
  obtain ⟨r, hr⟩ : ∃ r, Hid (r = ((p == T) && (n == 0))) := ⟨_, rfl⟩
  rw [← hr.out]
  have HC := hide (fun (dd : Nat) (os : Array Obj) => caughtUp (grow (redrawn w dd) os) z bs 43 p T cap b n y hn (((below_regrown w dd os).block _ (boxLt k)).trans k) hb.c42 hb.c43)
  rw [← hr.out] at HC
  have c0 := boxU k
  clear hr
  go_enter Tryz.func112, Tryz.ntmps112
  go_upto_region 1 with (fail)
  refine wp_region_quiet_below (by kernel_rfl) (by kernel_rfl) ?_
  repeat (go_big_quiet_step (first | (go_at_call 145; with_reducible exact Calls.regrown_of (HC.out _ _))))
  refine wpQuiet_nil ?_
  intro _ hw'
  obtain ⟨⟨dq, osq⟩, hw''⟩ := hw'
  subst hw''
  have LQ := below_regrown w dq osq
  generalize grow (redrawn w dq) osq = w4 at *
  clear c0
  go_wp2
  go_ret
  exact ⟨rfl, LQ⟩
theorem soundThere (w : World) (z : Nat) (cs : Array Value) (T p s cap : Int) (kn : Bool) (ka : Int) (b : Option Addr) (n y : Nat) (hn : n ≤ 1048576) (H : ApBox w z cs T p s kn ka) (f39 : cs[39]? = some (.int .i64 cap)) (f40 : cs[40]? = some (.slice b n y)) :
    Calls Tryz.prog 113 #[.pointer (some ⟨z, 0, none⟩)] w fun e w' => e = .returned (.bool ((s == T) && (n == 0))) ∧ Below w.heap.size w w' := by
  obtain ⟨bs, k, hb⟩ := H
  have g39 := (hb.lo 39 (by omega)).trans f39
  have g40 := (hb.lo 40 (by omega)).trans f40
  obtain ⟨r, hr⟩ : ∃ r, Hid (r = ((s == T) && (n == 0))) := ⟨_, rfl⟩
  rw [← hr.out]
  have HC := hide (fun (dd : Nat) (os : Array Obj) => caughtUp (grow (redrawn w dd) os) z bs 44 s T cap b n y hn (((below_regrown w dd os).block _ (boxLt k)).trans k) hb.c42 hb.c44)
  rw [← hr.out] at HC
  have c0 := boxU k
  clear hr
  go_enter Tryz.func113, Tryz.ntmps113
  go_upto_region 1 with (fail)
  refine wp_region_quiet_below (by kernel_rfl) (by kernel_rfl) ?_
  repeat (go_big_quiet_step (first | (go_at_call 145; with_reducible exact Calls.regrown_of (HC.out _ _))))
  refine wpQuiet_nil ?_
  intro _ hw'
  obtain ⟨⟨dq, osq⟩, hw''⟩ := hw'
  subst hw''
  have LQ := below_regrown w dq osq
  generalize grow (redrawn w dq) osq = w4 at *
  clear c0
  go_wp2
  go_ret
  exact ⟨rfl, LQ⟩
theorem box_wroteE {R : Nat → Nat → Prop} {w w' : World} {b : Nat} {o : Obj} (h : w.heap[b]? = some o) (hw : Wrote R w w') (hd : ∀ o, ¬ R b o) : w'.heap[b]? = some o := (hw.block b (boxLt h) hd).trans h
end Go.Proofs.YtjcaligejlhjdaaGreat
