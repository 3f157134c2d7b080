/-
  Chapter 15 of the program by its contracts: a console at work (clocks, what was heard), what it waits for.
-/
import Derived.Test.YtjcaligejlhjdaaGreatDoorUE
import Derived.Test.YtjcaligejlhjdaaGreatDoorUI
import Derived.Test.YtjcaligejlhjdaaGreatDoorIJ
import Derived.Test.YtjcaligejlhjdaaGreatDoorAIa
import Derived.Test.YtjcaligejlhjdaaGreatDoorGL
import Derived.Laws.EntriesVeiled
import Derived.Deep.RegionHeld3
import Derived.Lib.QuietBelow
import Derived.BigQuiet
import Derived.Deep.DeepCutAuto
namespace Go.Proofs.YtjcaligejlhjdaaGreatDoor
set_option linter.unusedVariables false
set_option linter.unusedSimpArgs false
open Go.ChangeShapes Go.WideShapes Go.ChangeAt Go.RowKit Go.Sort
/-- The cells of a console at work: its Split, three clocks, what was heard. -/
structure ApB (bs cs : Array Value) (T p s : Int) (kn : Bool) (ka : Int) : Prop where
  sz : bs.size = 49
  lo : ∀ i, i < 42 → bs[i]? = cs[i]?
  c42 : bs[42]? = some (.int .i64 T)
  c43 : bs[43]? = some (.int .i64 p)
  c44 : bs[44]? = some (.int .i64 s)
  c45 : bs[45]? = some (.int .i32 0)
  c47 : bs[47]? = some (.bool kn)
  c48 : bs[48]? = some (.int .i64 ka)
theorem ApB.heard {bs cs : Array Value} {T p s : Int} {kn : Bool} {ka : Int} (H : ApB bs cs T p s kn ka) (kn' : Bool) (ka' : Int) : ApB ((bs.setIfInBounds 47 (.bool kn')).setIfInBounds 48 (.int .i64 ka')) cs T p s kn' ka' := by
  have hs := H.sz
  refine ⟨by simp [hs], fun i hi => ?_, ?_, ?_, ?_, ?_, ?_, ?_⟩
  · rw [Array.getElem?_setIfInBounds_ne (by omega), Array.getElem?_setIfInBounds_ne (by omega)]; exact H.lo i hi
  · rw [Array.getElem?_setIfInBounds_ne (by omega), Array.getElem?_setIfInBounds_ne (by omega)]; exact H.c42
  · rw [Array.getElem?_setIfInBounds_ne (by omega), Array.getElem?_setIfInBounds_ne (by omega)]; exact H.c43
  · rw [Array.getElem?_setIfInBounds_ne (by omega), Array.getElem?_setIfInBounds_ne (by omega)]; exact H.c44
  · rw [Array.getElem?_setIfInBounds_ne (by omega), Array.getElem?_setIfInBounds_ne (by omega)]; exact H.c45
  · rw [Array.getElem?_setIfInBounds_ne (by omega), Array.getElem?_setIfInBounds_self_of_lt (by omega)]
  · rw [Array.getElem?_setIfInBounds_self_of_lt (by simp; omega)]
/-- A console at work in a box z. -/
structure ApBox (W : World) (z : Nat) (cs : Array Value) (T p s : Int) (kn : Bool) (ka : Int) : Prop where
  ex : ∃ bs : Array Value, W.heap[z]? = some (.cells bs 133 (0, 0)) ∧ ApB bs cs T p s kn ka
theorem ApBox.below {W W' : World} {z : Nat} {cs : Array Value} {T p s : Int} {kn : Bool} {ka : Int} (H : ApBox W z cs T p s kn ka) (L : Below W.heap.size W W') : ApBox W' z cs T p s kn ka := by
  obtain ⟨bs, k, hb⟩ := H
  exact ⟨bs, box_keep k L (boxLt k), hb⟩
theorem ApBox.lt {W : World} {z : Nat} {cs : Array Value} {T p s : Int} {kn : Bool} {ka : Int} (H : ApBox W z cs T p s kn ka) : z < W.heap.size := by
  obtain ⟨bs, k, hb⟩ := H
  exact boxLt k
theorem nowAny (W : World) (z o : Nat) (bs : Array Value) (ty : TypeId) (x : Int) (k : W.heap[z]? = some (.cells bs ty (0, 0))) (h : bs[o]? = some (.int .i64 x)) (dd : Nat) (os : Array Obj) : Calls Tryz.prog 69 #[.pointer (some ⟨z, o, none⟩)] (grow (redrawn W dd) os) fun e w' => e = .returned (.int .i64 x) ∧ Below (grow (redrawn W dd) os).heap.size (grow (redrawn W dd) os) w' :=
  (clockNow _ z o x ((boxU k dd os o).trans h)).mono (fun e w' ⟨he, hw⟩ => ⟨he, by rw [hw]; exact Below.refl _ _⟩)
set_option maxHeartbeats 1000000 in
theorem caughtUp (w : World) (z : Nat) (bs : Array Value) (o : Nat) (x T cap : Int) (b : Option Addr) (n y : Nat) (hn : n ≤ 1048576) (k : w.heap[z]? = some (.cells bs 133 (0, 0))) (h42 : bs[42]? = some (.int .i64 T)) (ho : bs[o]? = some (.int .i64 x)) :
    Calls Tryz.prog 131 #[.pointer (some ⟨z, 0, none⟩), .pointer (some ⟨z, o, none⟩), .agg #[.int .i64 cap, .slice b n y]] w fun e w' => e = .returned (.bool ((x == T) && (n == 0))) ∧ Below w.heap.size w w' := by
  have C0 : Below w.heap.size w (w.alloc (.cells #[.int .i64 cap, .slice b n y] 54)) := (Below.refl _ _).alloc (Nat.le_refl _) _
  have k0 := box_new w #[.int .i64 cap, .slice b n y] 54
  replace k := boxA k (.cells #[.int .i64 cap, .slice b n y] 54)
  obtain ⟨r, hr⟩ : ∃ r, Hid (r = ((x == T) && (n == 0))) := ⟨_, rfl⟩
  rw [← hr.out]
  obtain ⟨b1, x1⟩ : ∃ b, (x == T) = b := ⟨_, rfl⟩
  obtain ⟨b2, x2⟩ : ∃ b, ((n : Int) == 0) = b := ⟨_, rfl⟩
  have HR : Hid (r = (b1 && b2)) := by
    show _ = _
    rw [hr.out, x1, ← x2]
    congr 1
    by_cases h : n = 0
    · subst h; rfl
    · rw [show (n == 0) = false by simpa using h, show ((n : Int) == 0) = false by simp; omega]
  clear hr
  go_enter Tryz.func131, Tryz.ntmps131
  go_upto_region 1 with (fail)
  generalize w.alloc (.cells #[.int .i64 cap, .slice b n y] 54) = W0 at *
  have N1 := hide (nowAny W0 z o bs _ x k ho)
  have N2 := hide (nowAny W0 z 42 bs _ T k h42)
  have c0 := boxU k0
  refine wp_region_quiet_below (by kernel_rfl) (by kernel_rfl) ?_
  repeat (go_big_quiet_step (first | (go_at_call 69; first | with_reducible exact Calls.regrown_of (N1.out _ _) | with_reducible exact Calls.regrown_of (N2.out _ _))))
  cases b1
  all_goals
    repeat (go_big_quiet_step (fail))
    refine wpQuiet_nil ?_
    intro _ hw'
    obtain ⟨⟨dq, osq⟩, hw''⟩ := hw'
    subst hw''
    have LQ := below_snoc C0 (below_regrown W0 dq osq)
    generalize grow (redrawn W0 dq) osq = w4 at *
    clear c0
    go_wp2
    go_ret
    exact ⟨ret_bool HR.out.symm, LQ⟩
theorem pictureThere (w : World) (z : Nat) (cs : Array Value) (T p s cap : Int) (kn : Bool) (ka : Int) (b : Option Addr) (n y : Nat) (hn : n ≤ 1048576) (H : ApBox w z cs T p s kn ka) (f29 : cs[29]? = some (.int .i64 cap)) (f30 : cs[30]? = some (.slice b n y)) :
    Calls Tryz.prog 111 #[.pointer (some ⟨z, 0, none⟩)] w fun e w' => e = .returned (.bool ((p == T) && (n == 0))) ∧ Below w.heap.size w w' := by
  obtain ⟨bs, k, hb⟩ := H
  have g29 := (hb.lo 29 (by omega)).trans f29
  have g30 := (hb.lo 30 (by omega)).trans f30
  obtain ⟨r, hr⟩ : ∃ r, Hid (r = ((p == T) && (n == 0))) := ⟨_, rfl⟩
  rw [← hr.out]
  have HC := hide (fun (dd : Nat) (os : Array Obj) => caughtUp (grow (redrawn w dd) os) z bs 43 p T cap b n y hn (((below_regrown w dd os).block _ (boxLt k)).trans k) hb.c42 hb.c43)
  rw [← hr.out] at HC
  have c0 := boxU k
  clear hr
  go_enter Tryz.func111, Tryz.ntmps111
  go_upto_region 1 with (fail)
  refine wp_region_quiet_below (by kernel_rfl) (by kernel_rfl) ?_
  repeat (go_big_quiet_step (first | (go_at_call 131; with_reducible exact Calls.regrown_of (HC.out _ _))))
  refine wpQuiet_nil ?_
  intro _ hw'
  obtain ⟨⟨dq, osq⟩, hw''⟩ := hw'
  subst hw''
  have LQ := below_regrown w dq osq
  generalize grow (redrawn w dq) osq = w4 at *
  clear c0
  go_wp2
  go_ret
  exact ⟨rfl, LQ⟩
theorem soundThere (w : World) (z : Nat) (cs : Array Value) (T p s cap : Int) (kn : Bool) (ka : Int) (b : Option Addr) (n y : Nat) (hn : n ≤ 1048576) (H : ApBox w z cs T p s kn ka) (f39 : cs[39]? = some (.int .i64 cap)) (f40 : cs[40]? = some (.slice b n y)) :
    Calls Tryz.prog 105 #[.pointer (some ⟨z, 0, none⟩)] w fun e w' => e = .returned (.bool ((s == T) && (n == 0))) ∧ Below w.heap.size w w' := by
  obtain ⟨bs, k, hb⟩ := H
  have g39 := (hb.lo 39 (by omega)).trans f39
  have g40 := (hb.lo 40 (by omega)).trans f40
  obtain ⟨r, hr⟩ : ∃ r, Hid (r = ((s == T) && (n == 0))) := ⟨_, rfl⟩
  rw [← hr.out]
  have HC := hide (fun (dd : Nat) (os : Array Obj) => caughtUp (grow (redrawn w dd) os) z bs 44 s T cap b n y hn (((below_regrown w dd os).block _ (boxLt k)).trans k) hb.c42 hb.c44)
  rw [← hr.out] at HC
  have c0 := boxU k
  clear hr
  go_enter Tryz.func105, Tryz.ntmps105
  go_upto_region 1 with (fail)
  refine wp_region_quiet_below (by kernel_rfl) (by kernel_rfl) ?_
  repeat (go_big_quiet_step (first | (go_at_call 131; with_reducible exact Calls.regrown_of (HC.out _ _))))
  refine wpQuiet_nil ?_
  intro _ hw'
  obtain ⟨⟨dq, osq⟩, hw''⟩ := hw'
  subst hw''
  have LQ := below_regrown w dq osq
  generalize grow (redrawn w dq) osq = w4 at *
  clear c0
  go_wp2
  go_ret
  exact ⟨rfl, LQ⟩
theorem box_wroteE {R : Nat → Nat → Prop} {w w' : World} {b : Nat} {o : Obj} (h : w.heap[b]? = some o) (hw : Wrote R w w') (hd : ∀ o, ¬ R b o) : w'.heap[b]? = some o := (hw.block b (boxLt h) hd).trans h
theorem belowZ {w0 w w' : World} {z : Nat} (L : Below w0.heap.size w0 w) (hz : w0.heap.size ≤ z) (h : Wrote (fun b _ => b = z) w w') : Below w0.heap.size w0 w' := L.trans (h.below L.size (fun b o hb (e : b = z) => by omega))
def hearR (nm I beat up : Bool) : Bool := nm || (I || (!beat || up))
def hearK (nm I beat up Q kn : Bool) : Bool := if !nm && (!I && (beat && up)) then Q else kn
def hearA (nm I beat up : Bool) (T ka : Int) : Int := if !nm && (!I && (beat && up)) then T else ka
set_option maxHeartbeats 2000000 in
theorem hearAp (w : World) (z : Nat) (cs : Array Value) (T p s : Int) (kn : Bool) (ka : Int) (nm I Q : Bool) (cap : Int) (b : Option Addr) (n y : Nat) (hn : n ≤ 1048576) (H : ApBox w z cs T p s kn ka)
    (f11 : cs[11]? = some (.bool I)) (f15 : cs[15]? = some (.bool nm)) (f38 : cs[38]? = some (.bool Q)) (f39 : cs[39]? = some (.int .i64 cap)) (f40 : cs[40]? = some (.slice b n y)) :
    Calls Tryz.prog 66 #[.pointer (some ⟨z, 0, none⟩)] w fun e w' => e = .returned (.bool (hearR nm I (in9 ka T 0 32) ((s == T) && (n == 0)))) ∧ ApBox w' z cs T p s (hearK nm I (in9 ka T 0 32) ((s == T) && (n == 0)) Q kn) (hearA nm I (in9 ka T 0 32) ((s == T) && (n == 0)) T ka) ∧ Wrote (fun b _ => b = z) w w' := by
  obtain ⟨bs, k, hb⟩ := H
  have g11 := (hb.lo 11 (by omega)).trans f11
  have g15 := (hb.lo 15 (by omega)).trans f15
  have g38 := (hb.lo 38 (by omega)).trans f38
  have h42 := hb.c42
  have h45 := hb.c45
  have h47 := hb.c47
  have h48 := hb.c48
  have HB := hide hb
  obtain ⟨beat, hbt⟩ : ∃ x, Hid (x = in9 ka T 0 32) := ⟨_, rfl⟩
  obtain ⟨up, hup⟩ : ∃ x, Hid (x = ((s == T) && (n == 0))) := ⟨_, rfl⟩
  rw [← hbt.out, ← hup.out]
  clear hb
  have HG := hide (hearGet w z 45 bs _ kn ka k h45 h47 h48)
  go_enter Tryz.func66, Tryz.ntmps66
  go_wp2_with fail
  refine HG.out.mono ?_
  clear HG
  rintro e W1 ⟨rfl, hW1, k1⟩
  have L1 := hW1
  have c1 := boxC k1
  clear hW1 k
  cases nm
  case true =>
    go_wp2
    go_ret
    exact ⟨ret_bool rfl, ⟨bs, k1, HB.out⟩, L1⟩
  cases I
  case true =>
    go_wp2
    go_ret
    exact ⟨ret_bool rfl, ⟨bs, k1, HB.out⟩, L1⟩
  have HN := hide (clockNow W1 z 42 T ((c1 42).trans h42))
  go_wp2_with fail
  refine HN.out.mono ?_
  clear HN
  rintro e W2 ⟨rfl, hW2⟩
  rw [hW2]
  clear hW2 W2
  have HT := hide (implBeatIn W1 ka T)
  rw [← hbt.out] at HT
  go_wp2_with fail
  refine HT.out.mono ?_
  clear HT
  rintro e W2 ⟨rfl, LB⟩
  have L2 := L1.trans (wrote_below LB _)
  have k2 := box_keep k1 LB (boxLt k1)
  clear c1 k1 LB L1
  cases beat
  case false =>
    go_wp2
    go_ret
    exact ⟨ret_bool rfl, ⟨bs, k2, HB.out⟩, L2⟩
  have HS := hide (soundThere W2 z cs T p s cap kn ka b n y hn ⟨bs, k2, HB.out⟩ f39 f40)
  rw [← hup.out] at HS
  go_wp2_with fail
  refine HS.out.mono ?_
  clear HS
  rintro e W3 ⟨rfl, LB⟩
  have L3 := L2.trans (wrote_below LB _)
  have k3 := box_keep k2 LB (boxLt k2)
  clear k2 LB L2
  cases up
  case false =>
    go_wp2
    go_ret
    exact ⟨ret_bool rfl, ⟨bs, k3, HB.out⟩, L3⟩
  go_upto_region 6 with (fail)
  rename_i K6 hK6
  refine wp_region_eff [some 37, some 38, some 39, some 40, some 41, some 42, some 43, some 44, some 45, some 46, some 47, some 48, some 49, some 50, some 51] (by kernel_rfl) (by kernel_rfl) (by kernel_rfl) (by kernel_rfl) (by first | (simp [slotsOf]; done) | (simp [slotsOf, Act.put]; done))
    (fun j b _ => (j = 14 ∧ b = z))
    (fun i v W => match i with
      | 0 => v = .pointer (some ⟨z, 0, none⟩)
      | 1 => v = .pointer (some ⟨z, 0, none⟩)
      | 2 => v = .pointer (some ⟨z, 45, none⟩)
      | 3 => v = .pointer (some ⟨z, 0, none⟩)
      | 4 => v = .pointer (some ⟨z, 0, none⟩)
      | 5 => v = .pointer (some ⟨z, 0, none⟩)
      | 6 => v = .pointer (some ⟨z, 32, none⟩)
      | 7 => v = .pointer (some ⟨z, 32, none⟩)
      | 8 => v = .pointer (some ⟨z, 38, none⟩)
      | 9 => v = .bool Q
      | 10 => v = .pointer (some ⟨z, 0, none⟩)
      | 11 => v = .pointer (some ⟨z, 0, none⟩)
      | 12 => v = .pointer (some ⟨z, 42, none⟩)
      | 13 => v = .int .i64 T
      | _ => W.heap[z]? = some (.cells ((bs.setIfInBounds 47 (.bool Q)).setIfInBounds 48 (.int .i64 T)) 133 (0, 0))) ?_ ?_ ?_
  · intro i j o v W W' hij ho _ hW h
    match i, hij, ho, h with
    | 0, hij, _, h => exact h
    | 1, hij, _, h => exact h
    | 2, hij, _, h => exact h
    | 3, hij, _, h => exact h
    | 4, hij, _, h => exact h
    | 5, hij, _, h => exact h
    | 6, hij, _, h => exact h
    | 7, hij, _, h => exact h
    | 8, hij, _, h => exact h
    | 9, hij, _, h => exact h
    | 10, hij, _, h => exact h
    | 11, hij, _, h => exact h
    | 12, hij, _, h => exact h
    | 13, hij, _, h => exact h
    | 14, hij, _, h => exact box_wroteE h hW (fun o e => by omega)
    | _ + 15, _, ho, _ => simp at ho
  · intro i o a' W K8 ho F L hw hK
    match i with
    | 0 =>
      simp only [List.getElem?_toArray, List.getElem?_cons_zero, List.getElem?_cons_succ, Option.some.injEq] at ho
      subst ho
      have t0 := F.get (t := 0) (v := .pointer (some ⟨z, 0, none⟩)) (by decide) rfl
      go_simp
      exact hK _ _ (Wrote.refl _ _) rfl
    | 1 =>
      simp only [List.getElem?_toArray, List.getElem?_cons_zero, List.getElem?_cons_succ, Option.some.injEq] at ho
      subst ho
      have q0 : a'.tmps[37]?.getD undef = .pointer (some ⟨z, 0, none⟩) := hw 0 (by kernel_rfl)
      go_simp
      exact hK _ _ (Wrote.refl _ _) rfl
    | 2 =>
      simp only [List.getElem?_toArray, List.getElem?_cons_zero, List.getElem?_cons_succ, Option.some.injEq] at ho
      subst ho
      have q1 : a'.tmps[38]?.getD undef = .pointer (some ⟨z, 0, none⟩) := hw 1 (by kernel_rfl)
      go_simp
      exact hK _ _ (Wrote.refl _ _) rfl
    | 3 =>
      simp only [List.getElem?_toArray, List.getElem?_cons_zero, List.getElem?_cons_succ, Option.some.injEq] at ho
      subst ho
      have t0 := F.get (t := 0) (v := .pointer (some ⟨z, 0, none⟩)) (by decide) rfl
      go_simp
      exact hK _ _ (Wrote.refl _ _) rfl
    | 4 =>
      simp only [List.getElem?_toArray, List.getElem?_cons_zero, List.getElem?_cons_succ, Option.some.injEq] at ho
      subst ho
      have q3 : a'.tmps[40]?.getD undef = .pointer (some ⟨z, 0, none⟩) := hw 3 (by kernel_rfl)
      go_simp
      exact hK _ _ (Wrote.refl _ _) rfl
    | 5 =>
      simp only [List.getElem?_toArray, List.getElem?_cons_zero, List.getElem?_cons_succ, Option.some.injEq] at ho
      subst ho
      have q4 : a'.tmps[41]?.getD undef = .pointer (some ⟨z, 0, none⟩) := hw 4 (by kernel_rfl)
      go_simp
      exact hK _ _ (Wrote.refl _ _) rfl
    | 6 =>
      simp only [List.getElem?_toArray, List.getElem?_cons_zero, List.getElem?_cons_succ, Option.some.injEq] at ho
      subst ho
      have q5 : a'.tmps[42]?.getD undef = .pointer (some ⟨z, 0, none⟩) := hw 5 (by kernel_rfl)
      go_simp
      exact hK _ _ (Wrote.refl _ _) rfl
    | 7 =>
      simp only [List.getElem?_toArray, List.getElem?_cons_zero, List.getElem?_cons_succ, Option.some.injEq] at ho
      subst ho
      have q6 : a'.tmps[43]?.getD undef = .pointer (some ⟨z, 32, none⟩) := hw 6 (by kernel_rfl)
      go_simp
      exact hK _ _ (Wrote.refl _ _) rfl
    | 8 =>
      simp only [List.getElem?_toArray, List.getElem?_cons_zero, List.getElem?_cons_succ, Option.some.injEq] at ho
      subst ho
      have q7 : a'.tmps[44]?.getD undef = .pointer (some ⟨z, 32, none⟩) := hw 7 (by kernel_rfl)
      go_simp
      exact hK _ _ (Wrote.refl _ _) rfl
    | 9 =>
      simp only [List.getElem?_toArray, List.getElem?_cons_zero, List.getElem?_cons_succ, Option.some.injEq] at ho
      subst ho
      have q8 : a'.tmps[45]?.getD undef = .pointer (some ⟨z, 38, none⟩) := hw 8 (by kernel_rfl)
      have rB := box_wroteE k3 L (fun o ⟨j, oj, hj, hoj, hwj, e⟩ => by rcases e with ⟨rfl, e⟩ <;> first | omega | (simp only [List.getElem?_toArray, List.getElem?_cons_zero, List.getElem?_cons_succ, Option.some.injEq] at hoj; subst hoj; cases hwj.symm.trans (show waitsB _ 9 = true by kernel_rfl)))
      have rb := boxC rB
      go_simp
      exact hK _ _ (Wrote.refl _ _) rfl
    | 10 =>
      simp only [List.getElem?_toArray, List.getElem?_cons_zero, List.getElem?_cons_succ, Option.some.injEq] at ho
      subst ho
      have t0 := F.get (t := 0) (v := .pointer (some ⟨z, 0, none⟩)) (by decide) rfl
      go_simp
      exact hK _ _ (Wrote.refl _ _) rfl
    | 11 =>
      simp only [List.getElem?_toArray, List.getElem?_cons_zero, List.getElem?_cons_succ, Option.some.injEq] at ho
      subst ho
      have q10 : a'.tmps[47]?.getD undef = .pointer (some ⟨z, 0, none⟩) := hw 10 (by kernel_rfl)
      go_simp
      exact hK _ _ (Wrote.refl _ _) rfl
    | 12 =>
      simp only [List.getElem?_toArray, List.getElem?_cons_zero, List.getElem?_cons_succ, Option.some.injEq] at ho
      subst ho
      have q11 : a'.tmps[48]?.getD undef = .pointer (some ⟨z, 0, none⟩) := hw 11 (by kernel_rfl)
      go_simp
      exact hK _ _ (Wrote.refl _ _) rfl
    | 13 =>
      simp only [List.getElem?_toArray, List.getElem?_cons_zero, List.getElem?_cons_succ, Option.some.injEq] at ho
      subst ho
      have q12 : a'.tmps[49]?.getD undef = .pointer (some ⟨z, 42, none⟩) := hw 12 (by kernel_rfl)
      have rB := box_wroteE k3 L (fun o ⟨j, oj, hj, hoj, hwj, e⟩ => by obtain ⟨rfl, -⟩ := e; simp only [List.getElem?_toArray, List.getElem?_cons_zero, List.getElem?_cons_succ, Option.some.injEq] at hoj; subst hoj; cases hwj.symm.trans (show waitsB _ 13 = true by kernel_rfl))
      go_simp
      refine (clockNow W z 42 T ((boxC rB 42).trans h42)).mono ?_
      rintro e W' ⟨rfl, rfl⟩
      exact hK _ _ (Wrote.refl _ _) rfl
    | 14 =>
      simp only [List.getElem?_toArray, List.getElem?_cons_zero, List.getElem?_cons_succ, Option.some.injEq] at ho
      subst ho
      have q2 : a'.tmps[39]?.getD undef = .pointer (some ⟨z, 45, none⟩) := hw 2 (by kernel_rfl)
      have q9 : a'.tmps[46]?.getD undef = .bool Q := hw 9 (by kernel_rfl)
      have q13 : a'.tmps[50]?.getD undef = .int .i64 T := hw 13 (by kernel_rfl)
      have rB := box_wroteE k3 L (fun o ⟨j, oj, hj, hoj, hwj, e⟩ => by omega)
      go_simp
      refine (hearPut W z 45 bs _ kn Q ka T rB h45 h47 h48).mono ?_
      rintro e W' ⟨rfl, hW, kk⟩
      exact hK _ _ (hW.mono (fun b o _ e => ⟨rfl, e⟩)) kk
    | _ + 15 => simp at ho
  · intro a' W F L hφ
    have p37 : a'.tmps[37]?.getD undef = .pointer (some ⟨z, 0, none⟩) := hφ 0 (by decide)
    have p38 : a'.tmps[38]?.getD undef = .pointer (some ⟨z, 0, none⟩) := hφ 1 (by decide)
    have p39 : a'.tmps[39]?.getD undef = .pointer (some ⟨z, 45, none⟩) := hφ 2 (by decide)
    have p40 : a'.tmps[40]?.getD undef = .pointer (some ⟨z, 0, none⟩) := hφ 3 (by decide)
    have p41 : a'.tmps[41]?.getD undef = .pointer (some ⟨z, 0, none⟩) := hφ 4 (by decide)
    have p42 : a'.tmps[42]?.getD undef = .pointer (some ⟨z, 0, none⟩) := hφ 5 (by decide)
    have p43 : a'.tmps[43]?.getD undef = .pointer (some ⟨z, 32, none⟩) := hφ 6 (by decide)
    have p44 : a'.tmps[44]?.getD undef = .pointer (some ⟨z, 32, none⟩) := hφ 7 (by decide)
    have p45 : a'.tmps[45]?.getD undef = .pointer (some ⟨z, 38, none⟩) := hφ 8 (by decide)
    have p46 : a'.tmps[46]?.getD undef = .bool Q := hφ 9 (by decide)
    have p47 : a'.tmps[47]?.getD undef = .pointer (some ⟨z, 0, none⟩) := hφ 10 (by decide)
    have p48 : a'.tmps[48]?.getD undef = .pointer (some ⟨z, 0, none⟩) := hφ 11 (by decide)
    have p49 : a'.tmps[49]?.getD undef = .pointer (some ⟨z, 42, none⟩) := hφ 12 (by decide)
    have p50 : a'.tmps[50]?.getD undef = .int .i64 T := hφ 13 (by decide)
    have e14 := hφ 14 (by decide)
    rw [F.same, show slotsOf [some 37, some 38, some 39, some 40, some 41, some 42, some 43, some 44, some 45, some 46, some 47, some 48, some 49, some 50, some 51] = [37, 38, 39, 40, 41, 42, 43, 44, 45, 46, 47, 48, 49, 50, 51] from rfl]
    simp only [List.foldl_cons, List.foldl_nil]
    have LB := L3.trans (L.mono (fun b o _ ⟨j, e⟩ => e.2))
    clear hφ F L
    generalize a'.tmps[51]?.getD undef = g51
    rw [p37, p38, p39, p40, p41, p42, p43, p44, p45, p46, p47, p48, p49, p50]
    clear p37 p38 p39 p40 p41 p42 p43 p44 p45 p46 p47 p48 p49 p50
    refine hK6 _ _ ?_
    clear hK6
    go_simp
    go_wp2
    go_ret
    exact ⟨ret_bool rfl, ⟨_, e14, (ApB.heard HB.out Q T)⟩, LB⟩
set_option maxHeartbeats 1000000 in
theorem askedAp (w : World) (z : Nat) (cs : Array Value) (T p s : Int) (kn : Bool) (ka : Int) (I : Bool) (H : ApBox w z cs T p s kn ka) (f11 : cs[11]? = some (.bool I)) :
    Calls Tryz.prog 106 #[.pointer (some ⟨z, 0, none⟩)] w fun e w' => e = .returned (.bool (kn && !I)) ∧ ApBox w' z cs T p s kn ka ∧ Wrote (fun b _ => b = z) w w' := by
  obtain ⟨bs, k, hb⟩ := H
  have g11 := (hb.lo 11 (by omega)).trans f11
  have HB := hide hb
  have HG := hide (hearGet w z 45 bs _ kn ka k hb.c45 hb.c47 hb.c48)
  clear hb
  go_enter Tryz.func106, Tryz.ntmps106
  go_wp2_with fail
  refine HG.out.mono ?_
  clear HG
  rintro e W1 ⟨rfl, hW1, k1⟩
  have L1 := hW1
  have c1 := boxC k1
  clear hW1 k
  cases kn
  case false =>
    go_wp2
    go_ret
    exact ⟨ret_bool rfl, ⟨bs, k1, HB.out⟩, L1⟩
  go_wp2
  go_ret
  exact ⟨ret_bool rfl, ⟨bs, k1, HB.out⟩, L1⟩
end Go.Proofs.YtjcaligejlhjdaaGreatDoor
