/-
  The program's chapter 10 by its contracts: the sound unit.
-/
import Derived.Test.YtpaedkefmebjjarGreatAIc
import Derived.Laws.EntriesVeiled
import Derived.Deep.RegionHeld3
namespace Go.Proofs.YtpaedkefmebjjarGreat
set_option linter.unusedVariables false
set_option linter.unusedSimpArgs false
open Go.ChangeShapes Go.WideShapes Go.ChangeAt Go.RowKit Go.Sort
theorem below_drew10 {n : Nat} {u w : World} (h : Below n u w) : Below n u w.drew := ⟨h.os, h.tape, h.output, h.size, h.block⟩
theorem apuRegs (w : World) : Calls Tryz.prog 127 #[] w fun e w' => e = .returned (.agg #[.func (.func 137) #[] #[], .func (.func 138) #[] #[], .func (.func 139) #[] #[], .func (.func 140) #[] #[]]) ∧ Below w.heap.size w w' := by
  have hmf : ∀ (fn : Fn) (first cap : Array Value) (w : World), (Instr.makeFunc fn first cap).run Tryz.prog w = .ok (.func fn first cap) w := fun _ _ _ _ => rfl
  have k0 := box_new w #[.nilFunc, .nilFunc, .nilFunc, .nilFunc] 134
  have L0 : Below w.heap.size w (w.alloc (.cells #[.nilFunc, .nilFunc, .nilFunc, .nilFunc] 134)) := (Below.refl _ _).alloc (Nat.le_refl _) _
  go_enter Tryz.func127, Tryz.ntmps127
  go_upto_region 1 with (fail)
  generalize w.alloc (.cells #[.nilFunc, .nilFunc, .nilFunc, .nilFunc] 134) = W0 at *
  have c0 := boxC k0
  have f0 := boxF k0
  have k4 := box_set7 (box_set7 (box_set7 (box_set7 k0 0 (.func (.func 137) #[] #[])) 1 (.func (.func 138) #[] #[])) 2 (.func (.func 139) #[] #[])) 3 (.func (.func 140) #[] #[])
  simp only [List.setIfInBounds_toArray, List.set_cons_succ, List.set_cons_zero] at k4
  have c4 := boxC k4
  go_wp2
  refine bodyPost_ret (v := .agg #[.func (.func 137) #[] #[], .func (.func 138) #[] #[], .func (.func 139) #[] #[], .func (.func 140) #[] #[]]) (by simp [results, Tryz.results127, go_sem, c4]) rfl ?_
  exact ⟨rfl, (((L0.setCell (Nat.le_refl _) _).setCell (Nat.le_refl _) _).setCell (Nat.le_refl _) _).setCell (Nat.le_refl _) _⟩
theorem setPeriod (w : World) (z : Nat) (T P C B L : Int) (S Q : Bool) (v : Int) (hb : w.heap[z]? = some (.cells #[.int .i64 T, .int .i64 P, .int .i64 C, .int .i64 B, .int .i64 L, .bool S, .bool Q] 45 (0, 0))) :
    Calls Tryz.prog 137 #[.pointer (some ⟨z, 0, none⟩), .int .i64 (v % 256)] w fun e w' => e = .returned (.tuple #[]) ∧ w'.heap[z]? = some (.cells #[.int .i64 T, .int .i64 (v % 256), .int .i64 C, .int .i64 B, .int .i64 L, .bool S, .bool Q] 45 (0, 0)) ∧ Wrote (fun b _ => b = z) w w' := by
  obtain ⟨u, hu⟩ : ∃ u, Hid (u = v % 256) := ⟨_, rfl⟩
  have u0 : 0 ≤ u := by rw [hu.out]; omega
  have u1 : u < 256 := by rw [hu.out]; omega
  rw [← hu.out]
  have hc := boxC hb
  have hf := boxF hb
  have hb2 := box_set7 hb 1 (.int .i64 u)
  simp only [List.setIfInBounds_toArray, List.set_cons_succ, List.set_cons_zero] at hb2
  have HX := hide (And.intro hb2 (Wrote.setCell (R := fun b _ => b = z) (b := z) (o := 1) (Wrote.refl _ w) (fun _ => rfl) (.int .i64 u)))
  clear hb2 hb
  go_enter Tryz.func137, Tryz.ntmps137
  go_wp2
  ((try simp only [Exit.inBlock, Exit.then]); first | (refine bodyPost_ret (results_none rfl _ _ _) rfl ?_) | (refine bodyPost_end (results_none rfl _ _ _) rfl ?_))
  exact ⟨rfl, HX.out.1, HX.out.2⟩
theorem setLength (w : World) (z : Nat) (T P C B L : Int) (S Q : Bool) (v : Int) (hb : w.heap[z]? = some (.cells #[.int .i64 T, .int .i64 P, .int .i64 C, .int .i64 B, .int .i64 L, .bool S, .bool Q] 45 (0, 0))) :
    Calls Tryz.prog 138 #[.pointer (some ⟨z, 0, none⟩), .int .i64 (v % 256)] w fun e w' => e = .returned (.tuple #[]) ∧ w'.heap[z]? = some (.cells #[.int .i64 T, .int .i64 P, .int .i64 C, .int .i64 B, .int .i64 (v % 32), .bool S, .bool Q] 45 (0, 0)) ∧ Wrote (fun b _ => b = z) w w' := by
  obtain ⟨u, hu⟩ : ∃ u, Hid (u = v % 256) := ⟨_, rfl⟩
  have u0 : 0 ≤ u := by rw [hu.out]; omega
  have u1 : u < 256 := by rw [hu.out]; omega
  have HE : Hid (v % 32 = u % 32) := by show _ = _; rw [hu.out]; omega
  rw [← hu.out, HE.out]
  have tm : u.tmod 32 = u % 32 := Int.tmod_eq_emod_of_nonneg u0
  have hc := boxC hb
  have hf := boxF hb
  have hb2 := box_set7 hb 4 (.int .i64 (u % 32))
  simp only [List.setIfInBounds_toArray, List.set_cons_succ, List.set_cons_zero] at hb2
  have HX := hide (And.intro hb2 (Wrote.setCell (R := fun b _ => b = z) (b := z) (o := 4) (Wrote.refl _ w) (fun _ => rfl) (.int .i64 (u % 32))))
  clear hb2 hb
  go_enter Tryz.func138, Tryz.ntmps138
  go_wp2
  ((try simp only [Exit.inBlock, Exit.then]); first | (refine bodyPost_ret (results_none rfl _ _ _) rfl ?_) | (refine bodyPost_end (results_none rfl _ _ _) rfl ?_))
  exact ⟨rfl, HX.out.1, HX.out.2⟩
theorem setAsks (w : World) (z : Nat) (T P C B L : Int) (S Q : Bool) (v : Int) (hb : w.heap[z]? = some (.cells #[.int .i64 T, .int .i64 P, .int .i64 C, .int .i64 B, .int .i64 L, .bool S, .bool Q] 45 (0, 0))) :
    Calls Tryz.prog 139 #[.pointer (some ⟨z, 0, none⟩), .int .i64 (v % 256)] w fun e w' => e = .returned (.tuple #[]) ∧ w'.heap[z]? = some (.cells #[.int .i64 T, .int .i64 P, .int .i64 C, .int .i64 B, .int .i64 L, .bool (v % 2 == 1), .bool (Q && (v % 2 == 1))] 45 (0, 0)) ∧ Wrote (fun b _ => b = z) w w' := by
  obtain ⟨u, hu⟩ : ∃ u, Hid (u = v % 256) := ⟨_, rfl⟩
  have u0 : 0 ≤ u := by rw [hu.out]; omega
  have u1 : u < 256 := by rw [hu.out]; omega
  have tm : u.tmod 2 = u % 2 := Int.tmod_eq_emod_of_nonneg u0
  obtain ⟨o, ho⟩ : ∃ o, Hid (o = (v % 2 == 1)) := ⟨_, rfl⟩
  have ho2 : (u % 2 != 0) = o := by
    rw [ho.out]
    have : u % 2 = v % 2 := by rw [hu.out]; omega
    rw [this]
    rcases Int.emod_two_eq v with h | h <;> rw [h] <;> rfl
  rw [← hu.out, ← ho.out]
  clear hu ho
  have hc := boxC hb
  have hf := boxF hb
  have hb1 := box_set7 hb 5 (.bool o)
  simp only [List.setIfInBounds_toArray, List.set_cons_succ, List.set_cons_zero] at hb1
  have hb2 := box_set7 hb1 6 (.bool (Q && o))
  simp only [List.setIfInBounds_toArray, List.set_cons_succ, List.set_cons_zero] at hb2
  have hc1 := boxC hb1
  have hf1 := boxF hb1
  have HX := hide (And.intro hb2 (Wrote.setCell (b := z) (o := 6) (Wrote.setCell (R := fun b _ => b = z) (b := z) (o := 5) (Wrote.refl _ w) (fun _ => rfl) (.bool o)) (fun _ => rfl) (.bool (Q && o))))
  clear hb2 hb1 hb
  cases Q
  · go_enter Tryz.func139, Tryz.ntmps139
    go_wp2
    ((try simp only [Exit.inBlock, Exit.then]); first | (refine bodyPost_ret (results_none rfl _ _ _) rfl ?_) | (refine bodyPost_end (results_none rfl _ _ _) rfl ?_))
    exact ⟨rfl, HX.out.1, HX.out.2⟩
  · go_enter Tryz.func139, Tryz.ntmps139
    go_wp2
    ((try simp only [Exit.inBlock, Exit.then]); first | (refine bodyPost_ret (results_none rfl _ _ _) rfl ?_) | (refine bodyPost_end (results_none rfl _ _ _) rfl ?_))
    exact ⟨rfl, HX.out.1, HX.out.2⟩
theorem hushA (w : World) (z : Nat) (T P C B L : Int) (S Q : Bool) (v : Int) (hb : w.heap[z]? = some (.cells #[.int .i64 T, .int .i64 P, .int .i64 C, .int .i64 B, .int .i64 L, .bool S, .bool Q] 45 (0, 0))) :
    Calls Tryz.prog 140 #[.pointer (some ⟨z, 0, none⟩), .int .i64 (v % 256)] w fun e w' => e = .returned (.tuple #[]) ∧ w'.heap[z]? = some (.cells #[.int .i64 T, .int .i64 P, .int .i64 C, .int .i64 B, .int .i64 L, .bool S, .bool false] 45 (0, 0)) ∧ Wrote (fun b _ => b = z) w w' := by
  generalize v % 256 = u
  have hc := boxC hb
  have hf := boxF hb
  have hb2 := box_set7 hb 6 (.bool false)
  simp only [List.setIfInBounds_toArray, List.set_cons_succ, List.set_cons_zero] at hb2
  have HX := hide (And.intro hb2 (Wrote.setCell (R := fun b _ => b = z) (b := z) (o := 6) (Wrote.refl _ w) (fun _ => rfl) (.bool false)))
  clear hb2 hb
  go_enter Tryz.func140, Tryz.ntmps140
  go_wp2
  ((try simp only [Exit.inBlock, Exit.then]); first | (refine bodyPost_ret (results_none rfl _ _ _) rfl ?_) | (refine bodyPost_end (results_none rfl _ _ _) rfl ?_))
  exact ⟨rfl, HX.out.1, HX.out.2⟩
set_option maxHeartbeats 2000000 in
theorem implApuWrite (w : World) (T P C B L : Int) (S Q : Bool) (reg v : Int) : Calls Tryz.prog 98 #[.agg #[.int .i64 T, .int .i64 P, .int .i64 C, .int .i64 B, .int .i64 L, .bool S, .bool Q], .int .i64 reg, .int .i64 v] w
    fun e w' => e = .returned (.agg #[.int .i64 T, .int .i64 (wpA true P reg v), .int .i64 C, .int .i64 B, .int .i64 (wlA true L reg v), .bool (wsA true S reg v), .bool (wqA true Q reg v)]) ∧ Below w.heap.size w w' := by
  have k0 : ((w.alloc (.cells #[.int .i64 T, .int .i64 P, .int .i64 C, .int .i64 B, .int .i64 L, .bool S, .bool Q] 45)).alloc (.cells #[.int .i64 0, .int .i64 0, .int .i64 0, .int .i64 0, .int .i64 0, .bool false, .bool false] 45)).heap[w.heap.size]? = some (.cells #[.int .i64 T, .int .i64 P, .int .i64 C, .int .i64 B, .int .i64 L, .bool S, .bool Q] 45 (0, 0)) := boxA (box_new w #[.int .i64 T, .int .i64 P, .int .i64 C, .int .i64 B, .int .i64 L, .bool S, .bool Q] 45) _
  have k1 : ((w.alloc (.cells #[.int .i64 T, .int .i64 P, .int .i64 C, .int .i64 B, .int .i64 L, .bool S, .bool Q] 45)).alloc (.cells #[.int .i64 0, .int .i64 0, .int .i64 0, .int .i64 0, .int .i64 0, .bool false, .bool false] 45)).heap[w.heap.size + 1]? = some (.cells #[.int .i64 0, .int .i64 0, .int .i64 0, .int .i64 0, .int .i64 0, .bool false, .bool false] 45 (0, 0)) := by simpa using box_new (w.alloc (.cells #[.int .i64 T, .int .i64 P, .int .i64 C, .int .i64 B, .int .i64 L, .bool S, .bool Q] 45)) #[.int .i64 0, .int .i64 0, .int .i64 0, .int .i64 0, .int .i64 0, .bool false, .bool false] 45
  have C0 : Below w.heap.size w ((w.alloc (.cells #[.int .i64 T, .int .i64 P, .int .i64 C, .int .i64 B, .int .i64 L, .bool S, .bool Q] 45)).alloc (.cells #[.int .i64 0, .int .i64 0, .int .i64 0, .int .i64 0, .int .i64 0, .bool false, .bool false] 45)) := ((Below.refl _ _).alloc (Nat.le_refl _) _).alloc (by simp) _
  by_cases hr : 0 ≤ reg ∧ reg < 4
  · obtain ⟨r0, r4⟩ := hr
    by_cases e0 : reg = 0
    · subst e0
      have HE : Hid (wpA true P 0 v = v % 256 ∧ wlA true L 0 v = L ∧ wsA true S 0 v = S ∧ wqA true Q 0 v = Q) := by show _ ∧ _; simp [wpA, wlA, wsA, wqA]
      rw [HE.out.1, HE.out.2.1, HE.out.2.2.1, HE.out.2.2.2]
      clear HE
      have HS := hide (fun W k => setPeriod W w.heap.size T P C B L S Q v k)
      have HY := hide (fun W => implByte v W)
      obtain ⟨u, hu⟩ : ∃ u, Hid (u = v % 256) := ⟨_, rfl⟩
      simp only [← hu.out] at HS HY ⊢
      clear hu
      go_enter Tryz.func98, Tryz.ntmps98
      go_wp2_with fail
      generalize (w.alloc (.cells #[.int .i64 T, .int .i64 P, .int .i64 C, .int .i64 B, .int .i64 L, .bool S, .bool Q] 45)).alloc (.cells #[.int .i64 0, .int .i64 0, .int .i64 0, .int .i64 0, .int .i64 0, .bool false, .bool false] 45) = W0 at *
      refine (apuRegs _).mono ?_
      rintro e W1 ⟨rfl, L1⟩
      replace k0 := box_keep k0 L1 (boxLt k0)
      replace k1 := box_keep k1 L1 (boxLt k1)
      have C1 := below_snoc C0 L1
      clear C0 L1
      go_upto_region 3 with (fail)
      have kR := box_new W1 #[.func (.func 137) #[] #[], .func (.func 138) #[] #[], .func (.func 139) #[] #[], .func (.func 140) #[] #[]] 134
      have hz : w.heap.size ≠ W1.heap.size := fun e => by have := boxLt k0; omega
      replace k0 := boxA k0 (.cells #[.func (.func 137) #[] #[], .func (.func 138) #[] #[], .func (.func 139) #[] #[], .func (.func 140) #[] #[]] 134)
      replace k1 := boxA k1 (.cells #[.func (.func 137) #[] #[], .func (.func 138) #[] #[], .func (.func 139) #[] #[], .func (.func 140) #[] #[]] 134)
      replace C1 := below_snoc C1 ((Below.refl W1.heap.size W1).alloc (Nat.le_refl _) (.cells #[.func (.func 137) #[] #[], .func (.func 138) #[] #[], .func (.func 139) #[] #[], .func (.func 140) #[] #[]] 134))
      obtain ⟨zr, hzr⟩ : ∃ z, Hid (z = W1.heap.size) := ⟨_, rfl⟩
      generalize W1.alloc (.cells #[.func (.func 137) #[] #[], .func (.func 138) #[] #[], .func (.func 139) #[] #[], .func (.func 140) #[] #[]] 134) = W2 at *
      rw [← hzr.out] at kR hz ⊢
      clear hzr
      have HC := hide (HS.out W2.drew k0)
      clear HS
      have hS : ∀ j, W2.cell? ⟨zr, j, none⟩ = #[.func (.func 137) #[] #[], .func (.func 138) #[] #[], .func (.func 139) #[] #[], .func (.func 140) #[] #[]][j]? := boxC kR
      have hSd : ∀ j, W2.drew.cell? ⟨zr, j, none⟩ = #[.func (.func 137) #[] #[], .func (.func 138) #[] #[], .func (.func 139) #[] #[], .func (.func 140) #[] #[]][j]? := boxC (show W2.drew.heap[zr]? = _ from kR)
      have HK := hide (And.intro kR (And.intro k1 C1))
      clear kR k1 C1 k0
      go_region_held3 (fun w' => ∀ j, w'.cell? ⟨zr, j, none⟩ = #[.func (.func 137) #[] #[], .func (.func 138) #[] #[], .func (.func 139) #[] #[], .func (.func 140) #[] #[]][j]?) (first | (with_reducible assumption) | go_keep) ((first | (go_at_call 111; refine (HY.out _).mono ?_; rintro e w' ⟨rfl, rfl⟩) | (go_at_call 137; refine HC.out.mono ?_; rintro e W3 ⟨rfl, k3, L3⟩; have hS3 : ∀ j, W3.cell? ⟨zr, j, none⟩ = #[.func (.func 137) #[] #[], .func (.func 138) #[] #[], .func (.func 139) #[] #[], .func (.func 140) #[] #[]][j]? := boxC ((L3.block zr (boxLt (show W2.drew.heap[zr]? = _ from HK.out.1)) (fun o e => hz e.symm)).trans HK.out.1); skip)))
      all_goals
        have k4 : W3.heap[w.heap.size + 1]? = some (.cells #[.int .i64 0, .int .i64 0, .int .i64 0, .int .i64 0, .int .i64 0, .bool false, .bool false] 45 (0, 0)) := (L3.block _ (boxLt (show W2.drew.heap[w.heap.size + 1]? = _ from HK.out.2.1)) (fun o e => by omega)).trans HK.out.2.1
        have C3 : Below w.heap.size w W3 := (below_drew10 HK.out.2.2).trans (L3.below (below_drew10 HK.out.2.2).size (fun b o hb e => by omega))
        have c3 := boxC k3
        have c4 := boxC k4
        have f4 := boxF k4
        clear hS hSd hS3 L3 HC HY HK k3 hz
        go_wp2
        refine bodyPost_ret (v := .agg #[.int .i64 T, .int .i64 u, .int .i64 C, .int .i64 B, .int .i64 L, .bool S, .bool Q]) (by simp [results, Tryz.results98, go_sem, fun (x0 x1 x2 x3 x4 x5 x6 : Value) => boxC (put7_box k4 x0 x1 x2 x3 x4 x5 x6)]) rfl ?_
        exact ⟨rfl, C3.trans ((put7 W3 _ _ _ _ _ _ _ _).mono (by omega))⟩
    by_cases e1 : reg = 1
    · subst e1
      have HE : Hid (wpA true P 1 v = P ∧ wlA true L 1 v = v % 32 ∧ wsA true S 1 v = S ∧ wqA true Q 1 v = Q) := by show _ ∧ _; simp [wpA, wlA, wsA, wqA]
      rw [HE.out.1, HE.out.2.1, HE.out.2.2.1, HE.out.2.2.2]
      clear HE
      have HS := hide (fun W k => setLength W w.heap.size T P C B L S Q v k)
      have HY := hide (fun W => implByte v W)
      obtain ⟨u, hu⟩ : ∃ u, Hid (u = v % 256) := ⟨_, rfl⟩
      obtain ⟨l, hl⟩ : ∃ l, Hid (l = v % 32) := ⟨_, rfl⟩
      simp only [← hu.out, ← hl.out] at HS HY ⊢
      clear hu hl
      go_enter Tryz.func98, Tryz.ntmps98
      go_wp2_with fail
      generalize (w.alloc (.cells #[.int .i64 T, .int .i64 P, .int .i64 C, .int .i64 B, .int .i64 L, .bool S, .bool Q] 45)).alloc (.cells #[.int .i64 0, .int .i64 0, .int .i64 0, .int .i64 0, .int .i64 0, .bool false, .bool false] 45) = W0 at *
      refine (apuRegs _).mono ?_
      rintro e W1 ⟨rfl, L1⟩
      replace k0 := box_keep k0 L1 (boxLt k0)
      replace k1 := box_keep k1 L1 (boxLt k1)
      have C1 := below_snoc C0 L1
      clear C0 L1
      go_upto_region 3 with (fail)
      have kR := box_new W1 #[.func (.func 137) #[] #[], .func (.func 138) #[] #[], .func (.func 139) #[] #[], .func (.func 140) #[] #[]] 134
      have hz : w.heap.size ≠ W1.heap.size := fun e => by have := boxLt k0; omega
      replace k0 := boxA k0 (.cells #[.func (.func 137) #[] #[], .func (.func 138) #[] #[], .func (.func 139) #[] #[], .func (.func 140) #[] #[]] 134)
      replace k1 := boxA k1 (.cells #[.func (.func 137) #[] #[], .func (.func 138) #[] #[], .func (.func 139) #[] #[], .func (.func 140) #[] #[]] 134)
      replace C1 := below_snoc C1 ((Below.refl W1.heap.size W1).alloc (Nat.le_refl _) (.cells #[.func (.func 137) #[] #[], .func (.func 138) #[] #[], .func (.func 139) #[] #[], .func (.func 140) #[] #[]] 134))
      obtain ⟨zr, hzr⟩ : ∃ z, Hid (z = W1.heap.size) := ⟨_, rfl⟩
      generalize W1.alloc (.cells #[.func (.func 137) #[] #[], .func (.func 138) #[] #[], .func (.func 139) #[] #[], .func (.func 140) #[] #[]] 134) = W2 at *
      rw [← hzr.out] at kR hz ⊢
      clear hzr
      have HC := hide (HS.out W2.drew k0)
      clear HS
      have hS : ∀ j, W2.cell? ⟨zr, j, none⟩ = #[.func (.func 137) #[] #[], .func (.func 138) #[] #[], .func (.func 139) #[] #[], .func (.func 140) #[] #[]][j]? := boxC kR
      have hSd : ∀ j, W2.drew.cell? ⟨zr, j, none⟩ = #[.func (.func 137) #[] #[], .func (.func 138) #[] #[], .func (.func 139) #[] #[], .func (.func 140) #[] #[]][j]? := boxC (show W2.drew.heap[zr]? = _ from kR)
      have HK := hide (And.intro kR (And.intro k1 C1))
      clear kR k1 C1 k0
      go_region_held3 (fun w' => ∀ j, w'.cell? ⟨zr, j, none⟩ = #[.func (.func 137) #[] #[], .func (.func 138) #[] #[], .func (.func 139) #[] #[], .func (.func 140) #[] #[]][j]?) (first | (with_reducible assumption) | go_keep) ((first | (go_at_call 111; refine (HY.out _).mono ?_; rintro e w' ⟨rfl, rfl⟩) | (go_at_call 138; refine HC.out.mono ?_; rintro e W3 ⟨rfl, k3, L3⟩; have hS3 : ∀ j, W3.cell? ⟨zr, j, none⟩ = #[.func (.func 137) #[] #[], .func (.func 138) #[] #[], .func (.func 139) #[] #[], .func (.func 140) #[] #[]][j]? := boxC ((L3.block zr (boxLt (show W2.drew.heap[zr]? = _ from HK.out.1)) (fun o e => hz e.symm)).trans HK.out.1); skip)))
      all_goals
        have k4 : W3.heap[w.heap.size + 1]? = some (.cells #[.int .i64 0, .int .i64 0, .int .i64 0, .int .i64 0, .int .i64 0, .bool false, .bool false] 45 (0, 0)) := (L3.block _ (boxLt (show W2.drew.heap[w.heap.size + 1]? = _ from HK.out.2.1)) (fun o e => by omega)).trans HK.out.2.1
        have C3 : Below w.heap.size w W3 := (below_drew10 HK.out.2.2).trans (L3.below (below_drew10 HK.out.2.2).size (fun b o hb e => by omega))
        have c3 := boxC k3
        have c4 := boxC k4
        have f4 := boxF k4
        clear hS hSd hS3 L3 HC HY HK k3 hz
        go_wp2
        refine bodyPost_ret (v := .agg #[.int .i64 T, .int .i64 P, .int .i64 C, .int .i64 B, .int .i64 l, .bool S, .bool Q]) (by simp [results, Tryz.results98, go_sem, fun (x0 x1 x2 x3 x4 x5 x6 : Value) => boxC (put7_box k4 x0 x1 x2 x3 x4 x5 x6)]) rfl ?_
        exact ⟨rfl, C3.trans ((put7 W3 _ _ _ _ _ _ _ _).mono (by omega))⟩
    by_cases e2 : reg = 2
    · subst e2
      have HE : Hid (wpA true P 2 v = P ∧ wlA true L 2 v = L ∧ wsA true S 2 v = (v % 2 == 1) ∧ wqA true Q 2 v = (Q && (v % 2 == 1))) := by show _ ∧ _; simp [wpA, wlA, wsA, wqA]
      rw [HE.out.1, HE.out.2.1, HE.out.2.2.1, HE.out.2.2.2]
      clear HE
      have HS := hide (fun W k => setAsks W w.heap.size T P C B L S Q v k)
      have HY := hide (fun W => implByte v W)
      obtain ⟨u, hu⟩ : ∃ u, Hid (u = v % 256) := ⟨_, rfl⟩
      obtain ⟨o, ho⟩ : ∃ o, Hid (o = (v % 2 == 1)) := ⟨_, rfl⟩
      obtain ⟨q, hq⟩ : ∃ q, Hid (q = (Q && o)) := ⟨_, rfl⟩
      simp only [← hu.out, ← ho.out, ← hq.out] at HS HY ⊢
      clear hu ho hq
      go_enter Tryz.func98, Tryz.ntmps98
      go_wp2_with fail
      generalize (w.alloc (.cells #[.int .i64 T, .int .i64 P, .int .i64 C, .int .i64 B, .int .i64 L, .bool S, .bool Q] 45)).alloc (.cells #[.int .i64 0, .int .i64 0, .int .i64 0, .int .i64 0, .int .i64 0, .bool false, .bool false] 45) = W0 at *
      refine (apuRegs _).mono ?_
      rintro e W1 ⟨rfl, L1⟩
      replace k0 := box_keep k0 L1 (boxLt k0)
      replace k1 := box_keep k1 L1 (boxLt k1)
      have C1 := below_snoc C0 L1
      clear C0 L1
      go_upto_region 3 with (fail)
      have kR := box_new W1 #[.func (.func 137) #[] #[], .func (.func 138) #[] #[], .func (.func 139) #[] #[], .func (.func 140) #[] #[]] 134
      have hz : w.heap.size ≠ W1.heap.size := fun e => by have := boxLt k0; omega
      replace k0 := boxA k0 (.cells #[.func (.func 137) #[] #[], .func (.func 138) #[] #[], .func (.func 139) #[] #[], .func (.func 140) #[] #[]] 134)
      replace k1 := boxA k1 (.cells #[.func (.func 137) #[] #[], .func (.func 138) #[] #[], .func (.func 139) #[] #[], .func (.func 140) #[] #[]] 134)
      replace C1 := below_snoc C1 ((Below.refl W1.heap.size W1).alloc (Nat.le_refl _) (.cells #[.func (.func 137) #[] #[], .func (.func 138) #[] #[], .func (.func 139) #[] #[], .func (.func 140) #[] #[]] 134))
      obtain ⟨zr, hzr⟩ : ∃ z, Hid (z = W1.heap.size) := ⟨_, rfl⟩
      generalize W1.alloc (.cells #[.func (.func 137) #[] #[], .func (.func 138) #[] #[], .func (.func 139) #[] #[], .func (.func 140) #[] #[]] 134) = W2 at *
      rw [← hzr.out] at kR hz ⊢
      clear hzr
      have HC := hide (HS.out W2.drew k0)
      clear HS
      have hS : ∀ j, W2.cell? ⟨zr, j, none⟩ = #[.func (.func 137) #[] #[], .func (.func 138) #[] #[], .func (.func 139) #[] #[], .func (.func 140) #[] #[]][j]? := boxC kR
      have hSd : ∀ j, W2.drew.cell? ⟨zr, j, none⟩ = #[.func (.func 137) #[] #[], .func (.func 138) #[] #[], .func (.func 139) #[] #[], .func (.func 140) #[] #[]][j]? := boxC (show W2.drew.heap[zr]? = _ from kR)
      have HK := hide (And.intro kR (And.intro k1 C1))
      clear kR k1 C1 k0
      go_region_held3 (fun w' => ∀ j, w'.cell? ⟨zr, j, none⟩ = #[.func (.func 137) #[] #[], .func (.func 138) #[] #[], .func (.func 139) #[] #[], .func (.func 140) #[] #[]][j]?) (first | (with_reducible assumption) | go_keep) ((first | (go_at_call 111; refine (HY.out _).mono ?_; rintro e w' ⟨rfl, rfl⟩) | (go_at_call 139; refine HC.out.mono ?_; rintro e W3 ⟨rfl, k3, L3⟩; have hS3 : ∀ j, W3.cell? ⟨zr, j, none⟩ = #[.func (.func 137) #[] #[], .func (.func 138) #[] #[], .func (.func 139) #[] #[], .func (.func 140) #[] #[]][j]? := boxC ((L3.block zr (boxLt (show W2.drew.heap[zr]? = _ from HK.out.1)) (fun o e => hz e.symm)).trans HK.out.1); skip)))
      all_goals
        have k4 : W3.heap[w.heap.size + 1]? = some (.cells #[.int .i64 0, .int .i64 0, .int .i64 0, .int .i64 0, .int .i64 0, .bool false, .bool false] 45 (0, 0)) := (L3.block _ (boxLt (show W2.drew.heap[w.heap.size + 1]? = _ from HK.out.2.1)) (fun o e => by omega)).trans HK.out.2.1
        have C3 : Below w.heap.size w W3 := (below_drew10 HK.out.2.2).trans (L3.below (below_drew10 HK.out.2.2).size (fun b o hb e => by omega))
        have c3 := boxC k3
        have c4 := boxC k4
        have f4 := boxF k4
        clear hS hSd hS3 L3 HC HY HK k3 hz
        go_wp2
        refine bodyPost_ret (v := .agg #[.int .i64 T, .int .i64 P, .int .i64 C, .int .i64 B, .int .i64 L, .bool o, .bool q]) (by simp [results, Tryz.results98, go_sem, fun (x0 x1 x2 x3 x4 x5 x6 : Value) => boxC (put7_box k4 x0 x1 x2 x3 x4 x5 x6)]) rfl ?_
        exact ⟨rfl, C3.trans ((put7 W3 _ _ _ _ _ _ _ _).mono (by omega))⟩
    by_cases e3 : reg = 3
    · subst e3
      have HE : Hid (wpA true P 3 v = P ∧ wlA true L 3 v = L ∧ wsA true S 3 v = S ∧ wqA true Q 3 v = false) := by show _ ∧ _; simp [wpA, wlA, wsA, wqA]
      rw [HE.out.1, HE.out.2.1, HE.out.2.2.1, HE.out.2.2.2]
      clear HE
      have HS := hide (fun W k => hushA W w.heap.size T P C B L S Q v k)
      have HY := hide (fun W => implByte v W)
      obtain ⟨u, hu⟩ : ∃ u, Hid (u = v % 256) := ⟨_, rfl⟩
      simp only [← hu.out] at HS HY ⊢
      clear hu
      go_enter Tryz.func98, Tryz.ntmps98
      go_wp2_with fail
      generalize (w.alloc (.cells #[.int .i64 T, .int .i64 P, .int .i64 C, .int .i64 B, .int .i64 L, .bool S, .bool Q] 45)).alloc (.cells #[.int .i64 0, .int .i64 0, .int .i64 0, .int .i64 0, .int .i64 0, .bool false, .bool false] 45) = W0 at *
      refine (apuRegs _).mono ?_
      rintro e W1 ⟨rfl, L1⟩
      replace k0 := box_keep k0 L1 (boxLt k0)
      replace k1 := box_keep k1 L1 (boxLt k1)
      have C1 := below_snoc C0 L1
      clear C0 L1
      go_upto_region 3 with (fail)
      have kR := box_new W1 #[.func (.func 137) #[] #[], .func (.func 138) #[] #[], .func (.func 139) #[] #[], .func (.func 140) #[] #[]] 134
      have hz : w.heap.size ≠ W1.heap.size := fun e => by have := boxLt k0; omega
      replace k0 := boxA k0 (.cells #[.func (.func 137) #[] #[], .func (.func 138) #[] #[], .func (.func 139) #[] #[], .func (.func 140) #[] #[]] 134)
      replace k1 := boxA k1 (.cells #[.func (.func 137) #[] #[], .func (.func 138) #[] #[], .func (.func 139) #[] #[], .func (.func 140) #[] #[]] 134)
      replace C1 := below_snoc C1 ((Below.refl W1.heap.size W1).alloc (Nat.le_refl _) (.cells #[.func (.func 137) #[] #[], .func (.func 138) #[] #[], .func (.func 139) #[] #[], .func (.func 140) #[] #[]] 134))
      obtain ⟨zr, hzr⟩ : ∃ z, Hid (z = W1.heap.size) := ⟨_, rfl⟩
      generalize W1.alloc (.cells #[.func (.func 137) #[] #[], .func (.func 138) #[] #[], .func (.func 139) #[] #[], .func (.func 140) #[] #[]] 134) = W2 at *
      rw [← hzr.out] at kR hz ⊢
      clear hzr
      have HC := hide (HS.out W2.drew k0)
      clear HS
      have hS : ∀ j, W2.cell? ⟨zr, j, none⟩ = #[.func (.func 137) #[] #[], .func (.func 138) #[] #[], .func (.func 139) #[] #[], .func (.func 140) #[] #[]][j]? := boxC kR
      have hSd : ∀ j, W2.drew.cell? ⟨zr, j, none⟩ = #[.func (.func 137) #[] #[], .func (.func 138) #[] #[], .func (.func 139) #[] #[], .func (.func 140) #[] #[]][j]? := boxC (show W2.drew.heap[zr]? = _ from kR)
      have HK := hide (And.intro kR (And.intro k1 C1))
      clear kR k1 C1 k0
      go_region_held3 (fun w' => ∀ j, w'.cell? ⟨zr, j, none⟩ = #[.func (.func 137) #[] #[], .func (.func 138) #[] #[], .func (.func 139) #[] #[], .func (.func 140) #[] #[]][j]?) (first | (with_reducible assumption) | go_keep) ((first | (go_at_call 111; refine (HY.out _).mono ?_; rintro e w' ⟨rfl, rfl⟩) | (go_at_call 140; refine HC.out.mono ?_; rintro e W3 ⟨rfl, k3, L3⟩; have hS3 : ∀ j, W3.cell? ⟨zr, j, none⟩ = #[.func (.func 137) #[] #[], .func (.func 138) #[] #[], .func (.func 139) #[] #[], .func (.func 140) #[] #[]][j]? := boxC ((L3.block zr (boxLt (show W2.drew.heap[zr]? = _ from HK.out.1)) (fun o e => hz e.symm)).trans HK.out.1); skip)))
      all_goals
        have k4 : W3.heap[w.heap.size + 1]? = some (.cells #[.int .i64 0, .int .i64 0, .int .i64 0, .int .i64 0, .int .i64 0, .bool false, .bool false] 45 (0, 0)) := (L3.block _ (boxLt (show W2.drew.heap[w.heap.size + 1]? = _ from HK.out.2.1)) (fun o e => by omega)).trans HK.out.2.1
        have C3 : Below w.heap.size w W3 := (below_drew10 HK.out.2.2).trans (L3.below (below_drew10 HK.out.2.2).size (fun b o hb e => by omega))
        have c3 := boxC k3
        have c4 := boxC k4
        have f4 := boxF k4
        clear hS hSd hS3 L3 HC HY HK k3 hz
        go_wp2
        refine bodyPost_ret (v := .agg #[.int .i64 T, .int .i64 P, .int .i64 C, .int .i64 B, .int .i64 L, .bool S, .bool false]) (by simp [results, Tryz.results98, go_sem, fun (x0 x1 x2 x3 x4 x5 x6 : Value) => boxC (put7_box k4 x0 x1 x2 x3 x4 x5 x6)]) rfl ?_
        exact ⟨rfl, C3.trans ((put7 W3 _ _ _ _ _ _ _ _).mono (by omega))⟩
    exfalso
    omega
  · have HE : Hid (wpA true P reg v = P ∧ wlA true L reg v = L ∧ wsA true S reg v = S ∧ wqA true Q reg v = Q) := by
      show _ ∧ _
      have n0 : ¬ reg = 0 := by omega
      have n1 : ¬ reg = 1 := by omega
      have n2 : ¬ reg = 2 := by omega
      have n3 : ¬ reg = 3 := by omega
      simp [wpA, wlA, wsA, wqA, n0, n1, n2, n3]
    rw [HE.out.1, HE.out.2.1, HE.out.2.2.1, HE.out.2.2.2]
    clear HE
    by_cases r0 : 0 ≤ reg
    all_goals
      go_enter Tryz.func98, Tryz.ntmps98
      go_wp2_with fail
      generalize (w.alloc (.cells #[.int .i64 T, .int .i64 P, .int .i64 C, .int .i64 B, .int .i64 L, .bool S, .bool Q] 45)).alloc (.cells #[.int .i64 0, .int .i64 0, .int .i64 0, .int .i64 0, .int .i64 0, .bool false, .bool false] 45) = W0 at *
      refine (apuRegs _).mono ?_
      rintro e W1 ⟨rfl, L1⟩
      replace k0 := box_keep k0 L1 (boxLt k0)
      replace k1 := box_keep k1 L1 (boxLt k1)
      have C1 := below_snoc C0 L1
      clear C0 L1
      have r4 : decide (0 ≤ reg) = true → decide (reg < 4) = false := fun h => decide_eq_false (fun h' => hr ⟨of_decide_eq_true h, h'⟩)
      first | (have r4 : ¬ reg < 4 := fun h => hr ⟨(by omega), h⟩; clear hr; go_upto_region 4 with (fail); skip) | (clear hr; go_upto_region 4 with (fail))
      have kA := boxA k0 (.cells #[.func (.func 137) #[] #[], .func (.func 138) #[] #[], .func (.func 139) #[] #[], .func (.func 140) #[] #[]] 134)
      have kB := boxA k1 (.cells #[.func (.func 137) #[] #[], .func (.func 138) #[] #[], .func (.func 139) #[] #[], .func (.func 140) #[] #[]] 134)
      replace C1 := below_snoc C1 ((Below.refl W1.heap.size W1).alloc (Nat.le_refl _) (.cells #[.func (.func 137) #[] #[], .func (.func 138) #[] #[], .func (.func 139) #[] #[], .func (.func 140) #[] #[]] 134))
      generalize W1.alloc (.cells #[.func (.func 137) #[] #[], .func (.func 138) #[] #[], .func (.func 139) #[] #[], .func (.func 140) #[] #[]] 134) = W2 at *
      have c3 := boxC kA
      have c4 := boxC kB
      have f4 := boxF kB
      clear kA k0 k1
      go_wp2
      refine bodyPost_ret (v := .agg #[.int .i64 T, .int .i64 P, .int .i64 C, .int .i64 B, .int .i64 L, .bool S, .bool Q]) (by simp [results, Tryz.results98, go_sem, fun (x0 x1 x2 x3 x4 x5 x6 : Value) => boxC (put7_box kB x0 x1 x2 x3 x4 x5 x6)]) rfl ?_
      exact ⟨rfl, C1.trans ((put7 W2 _ _ _ _ _ _ _ _).mono (by omega))⟩
end Go.Proofs.YtpaedkefmebjjarGreat
