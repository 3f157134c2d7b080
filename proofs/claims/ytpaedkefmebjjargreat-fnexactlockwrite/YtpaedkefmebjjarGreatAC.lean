/-
  Chapter 10: the specification's cycle, write and read of whatever sound unit.
-/
import Derived.Test.YtpaedkefmebjjarGreatAB
namespace Go.Proofs.YtpaedkefmebjjarGreat
set_option linter.unusedVariables false
set_option linter.unusedSimpArgs false
open Go.ChangeShapes Go.WideShapes Go.ChangeAt Go.RowKit
theorem box_set7 {W : World} {b : Nat} {cs : Array Value} {t : TypeId} {fr : Nat × Nat} (h : W.heap[b]? = some (.cells cs t fr)) (o : Nat) (x : Value) : (W.setCell ⟨b, o, none⟩ x).heap[b]? = some (.cells (cs.setIfInBounds o x) t fr) := by
  simp [World.setCell, Array.getElem?_modify, h]
theorem box_ne7 {w : World} {b d : Nat} {ob : Obj} (h : w.heap[b]? = some ob) (hd : b ≠ d) (o : Nat) (x : Value) : (w.setCell ⟨d, o, none⟩ x).heap[b]? = some ob := by
  simp [World.setCell, Array.getElem?_modify, h, Ne.symm hd]
theorem put7_box {W : World} {d : Nat} {T : TypeId} {u0 u1 u2 u3 u4 u5 u6 : Value} (h : W.heap[d]? = some (.cells #[u0, u1, u2, u3, u4, u5, u6] T (0, 0))) (v0 v1 v2 v3 v4 v5 v6 : Value) : (((((((W.setCell ⟨d, 0, none⟩ v0).setCell ⟨d, 1, none⟩ v1).setCell ⟨d, 2, none⟩ v2).setCell ⟨d, 3, none⟩ v3).setCell ⟨d, 4, none⟩ v4).setCell ⟨d, 5, none⟩ v5).setCell ⟨d, 6, none⟩ v6).heap[d]? = some (.cells #[v0, v1, v2, v3, v4, v5, v6] T (0, 0)) := by
  have h0 := box_set7 h 0 v0
  simp only [List.setIfInBounds_toArray, List.set_cons_zero, List.set_cons_succ] at h0
  have h1 := box_set7 h0 1 v1
  simp only [List.setIfInBounds_toArray, List.set_cons_zero, List.set_cons_succ] at h1
  have h2 := box_set7 h1 2 v2
  simp only [List.setIfInBounds_toArray, List.set_cons_zero, List.set_cons_succ] at h2
  have h3 := box_set7 h2 3 v3
  simp only [List.setIfInBounds_toArray, List.set_cons_zero, List.set_cons_succ] at h3
  have h4 := box_set7 h3 4 v4
  simp only [List.setIfInBounds_toArray, List.set_cons_zero, List.set_cons_succ] at h4
  have h5 := box_set7 h4 5 v5
  simp only [List.setIfInBounds_toArray, List.set_cons_zero, List.set_cons_succ] at h5
  have h6 := box_set7 h5 6 v6
  simp only [List.setIfInBounds_toArray, List.set_cons_zero, List.set_cons_succ] at h6
  exact h6
theorem put7 (w : World) (d : Nat) (v0 v1 v2 v3 v4 v5 v6 : Value) : Below d w (((((((w.setCell ⟨d, 0, none⟩ v0).setCell ⟨d, 1, none⟩ v1).setCell ⟨d, 2, none⟩ v2).setCell ⟨d, 3, none⟩ v3).setCell ⟨d, 4, none⟩ v4).setCell ⟨d, 5, none⟩ v5).setCell ⟨d, 6, none⟩ v6) :=
  ((((((((Below.refl d w).setCell (Nat.le_refl _) _).setCell (Nat.le_refl _) _).setCell (Nat.le_refl _) _).setCell (Nat.le_refl _) _).setCell (Nat.le_refl _) _).setCell (Nat.le_refl _) _).setCell (Nat.le_refl _) _)
def wpA (ok : Bool) (P reg v : Int) : Int := if ok = true ∧ reg = 0 then v % 256 else P
def wlA (ok : Bool) (L reg v : Int) : Int := if ok = true ∧ reg = 1 then v % 32 else L
def wsA (ok : Bool) (S : Bool) (reg v : Int) : Bool := if ok = true ∧ reg = 2 then v % 2 == 1 else S
def wqA (ok : Bool) (Q : Bool) (reg v : Int) : Bool := if ok = true ∧ reg = 2 then Q && (v % 2 == 1) else if ok = true ∧ reg = 3 then false else Q
def rqA (ok : Bool) (Q : Bool) (reg : Int) : Bool := if ok = true ∧ reg = 2 then false else Q
def rvA (ok : Bool) (L : Int) (Q : Bool) (reg : Int) : Int := if ok = true ∧ reg = 2 then 128 * bitOf Q + bitOf (decide (0 < L)) else 0
theorem okApu_of {T P C B L : Int} (h : okApu T P C B L = true) : IsApu T P C B L := (okApu_iff _ _ _ _ _).1 h
theorem okApu_is {T P C B L : Int} (h : IsApu T P C B L) : okApu T P C B L = true := (okApu_iff _ _ _ _ _).2 h
/- Whatever a cycle makes of it: seven fields, a number, a truth. -/
theorem tickA_flat (T P C B L : Int) (S Q : Bool) : ∃ t p c b l : Int, ∃ s q : Bool, ∃ v : Int, ∃ d : Bool, tickA T P C B L S Q = .tuple #[.agg #[.int .i64 t, .int .i64 p, .int .i64 c, .int .i64 b, .int .i64 l, .bool s, .bool q], .int .i64 v, .bool d] := by
  unfold tickA
  split
  · split
    · exact ⟨_, _, _, _, _, _, _, _, _, rfl⟩
    · exact ⟨_, _, _, _, _, _, _, _, _, rfl⟩
  · exact ⟨_, _, _, _, _, _, _, _, _, rfl⟩
set_option maxHeartbeats 2000000 in
theorem specApuWrite (w : World) (T P C B L : Int) (S Q : Bool) (reg v : Int) : Calls Tryz.prog 94 #[.agg #[.int .i64 T, .int .i64 P, .int .i64 C, .int .i64 B, .int .i64 L, .bool S, .bool Q], .int .i64 reg, .int .i64 v] w
    fun e w' => e = .returned (.agg #[.int .i64 T, .int .i64 (wpA (okApu T P C B L) P reg v), .int .i64 C, .int .i64 B, .int .i64 (wlA (okApu T P C B L) L reg v), .bool (wsA (okApu T P C B L) S reg v), .bool (wqA (okApu T P C B L) Q reg v)]) ∧ Below w.heap.size w w' := by
  have k0 : ((w.alloc (.cells #[.int .i64 T, .int .i64 P, .int .i64 C, .int .i64 B, .int .i64 L, .bool S, .bool Q] 45)).alloc (.cells #[.int .i64 0, .int .i64 0, .int .i64 0, .int .i64 0, .int .i64 0, .bool false, .bool false] 45)).heap[w.heap.size]? = some (.cells #[.int .i64 T, .int .i64 P, .int .i64 C, .int .i64 B, .int .i64 L, .bool S, .bool Q] 45 (0, 0)) := boxA (box_new w #[.int .i64 T, .int .i64 P, .int .i64 C, .int .i64 B, .int .i64 L, .bool S, .bool Q] 45) _
  have k1 : ((w.alloc (.cells #[.int .i64 T, .int .i64 P, .int .i64 C, .int .i64 B, .int .i64 L, .bool S, .bool Q] 45)).alloc (.cells #[.int .i64 0, .int .i64 0, .int .i64 0, .int .i64 0, .int .i64 0, .bool false, .bool false] 45)).heap[w.heap.size + 1]? = some (.cells #[.int .i64 0, .int .i64 0, .int .i64 0, .int .i64 0, .int .i64 0, .bool false, .bool false] 45 (0, 0)) := by simpa using box_new (w.alloc (.cells #[.int .i64 T, .int .i64 P, .int .i64 C, .int .i64 B, .int .i64 L, .bool S, .bool Q] 45)) #[.int .i64 0, .int .i64 0, .int .i64 0, .int .i64 0, .int .i64 0, .bool false, .bool false] 45
  have C0 : Below w.heap.size w ((w.alloc (.cells #[.int .i64 T, .int .i64 P, .int .i64 C, .int .i64 B, .int .i64 L, .bool S, .bool Q] 45)).alloc (.cells #[.int .i64 0, .int .i64 0, .int .i64 0, .int .i64 0, .int .i64 0, .bool false, .bool false] 45)) := ((Below.refl _ _).alloc (Nat.le_refl _) _).alloc (by simp) _
  have FIN : ∀ (W1 : World) (x0 x1 x2 x3 x4 x5 x6 : Value), Below w.heap.size w W1 → Below w.heap.size w (((((((W1.setCell ⟨(w.heap.size + 1), 0, none⟩ x0).setCell ⟨(w.heap.size + 1), 1, none⟩ x1).setCell ⟨(w.heap.size + 1), 2, none⟩ x2).setCell ⟨(w.heap.size + 1), 3, none⟩ x3).setCell ⟨(w.heap.size + 1), 4, none⟩ x4).setCell ⟨(w.heap.size + 1), 5, none⟩ x5).setCell ⟨(w.heap.size + 1), 6, none⟩ x6) := fun W1 x0 x1 x2 x3 x4 x5 x6 h => h.trans ((put7 W1 _ _ _ _ _ _ _ _).mono (by omega))
  cases hok : okApu T P C B L
  · have HV : Hid (wpA false P reg v = P ∧ wlA false L reg v = L ∧ wsA false S reg v = S ∧ wqA false Q reg v = Q) := by
      show _ ∧ _
      simp [wpA, wlA, wsA, wqA]
    rw [HV.out.1, HV.out.2.1, HV.out.2.2.1, HV.out.2.2.2]
    clear HV
    go_enter Tryz.func94, Tryz.ntmps94
    go_wp2_with fail
    generalize (w.alloc (.cells #[.int .i64 T, .int .i64 P, .int .i64 C, .int .i64 B, .int .i64 L, .bool S, .bool Q] 45)).alloc (.cells #[.int .i64 0, .int .i64 0, .int .i64 0, .int .i64 0, .int .i64 0, .bool false, .bool false] 45) = W0 at *
    refine (specApuOk _ T P C B L S Q).mono ?_
    rintro e W1 ⟨rfl, L1⟩
    rw [hok]
    replace k0 := box_keep k0 L1 (boxLt k0)
    replace k1 := box_keep k1 L1 (boxLt k1)
    have C1 := below_snoc C0 L1
    have c0 := boxC k0
    have c1 := boxC k1
    have f1 := boxF k1
    go_wp2
    have r1 := boxC (put7_box k1 (.int .i64 T) (.int .i64 P) (.int .i64 C) (.int .i64 B) (.int .i64 L) (.bool S) (.bool Q))
    refine bodyPost_ret (v := .agg #[.int .i64 T, .int .i64 P, .int .i64 C, .int .i64 B, .int .i64 L, .bool S, .bool Q]) (by simp [results, Tryz.results94, go_sem, r1]) rfl ?_
    exact ⟨rfl, FIN _ _ _ _ _ _ _ _ C1⟩
  · have m32 : (v % 256).tmod 32 = v % 32 := by rw [Int.tmod_eq_emod_of_nonneg (by omega)]; omega
    have m2 : (v % 256).tmod 2 = v % 2 := by rw [Int.tmod_eq_emod_of_nonneg (by omega)]; omega
    have hne : w.heap.size + 1 ≠ w.heap.size := by omega
    have HB := hide (fun W => specByte v W)
    by_cases h0 : reg = 0
    · have HV : Hid (wpA true P reg v = v % 256 ∧ wlA true L reg v = L ∧ wsA true S reg v = S ∧ wqA true Q reg v = Q) := by
        show _ ∧ _
        simp [wpA, wlA, wsA, wqA, h0]
      rw [HV.out.1, HV.out.2.1, HV.out.2.2.1, HV.out.2.2.2]
      clear HV
      subst h0
      go_enter Tryz.func94, Tryz.ntmps94
      go_wp2_with fail
      generalize (w.alloc (.cells #[.int .i64 T, .int .i64 P, .int .i64 C, .int .i64 B, .int .i64 L, .bool S, .bool Q] 45)).alloc (.cells #[.int .i64 0, .int .i64 0, .int .i64 0, .int .i64 0, .int .i64 0, .bool false, .bool false] 45) = W0 at *
      refine (specApuOk _ T P C B L S Q).mono ?_
      rintro e W1 ⟨rfl, L1⟩
      rw [hok]
      replace k0 := box_keep k0 L1 (boxLt k0)
      replace k1 := box_keep k1 L1 (boxLt k1)
      have C1 := below_snoc C0 L1
      have c0 := boxC k0
      have f0 := boxF k0
      have c1 := boxC k1
      have f1 := boxF k1
      go_wp2_with (go_at_call 125; refine (unhide HB _).mono ?_; rintro e w' ⟨rfl, rfl⟩)
      all_goals (
        refine bodyPost_ret (v := .agg #[.int .i64 T, .int .i64 (v % 256), .int .i64 C, .int .i64 B, .int .i64 (L), .bool (S), .bool (Q)]) (by simp [results, Tryz.results94, go_sem, fun (o : Nat) (x x0 x1 x2 x3 x4 x5 x6 : Value) => boxC (put7_box (box_ne7 k1 hne o x) x0 x1 x2 x3 x4 x5 x6)]) rfl ?_
        exact ⟨rfl, FIN _ _ _ _ _ _ _ _ (C1.setCell (p := ⟨w.heap.size, _, none⟩) (Nat.le_refl _) _)⟩)
    by_cases h1 : reg = 1
    · have HV : Hid (wpA true P reg v = P ∧ wlA true L reg v = v % 32 ∧ wsA true S reg v = S ∧ wqA true Q reg v = Q) := by
        show _ ∧ _
        simp [wpA, wlA, wsA, wqA, h1]
      rw [HV.out.1, HV.out.2.1, HV.out.2.2.1, HV.out.2.2.2]
      clear HV
      subst h1; clear h0
      go_enter Tryz.func94, Tryz.ntmps94
      go_wp2_with fail
      generalize (w.alloc (.cells #[.int .i64 T, .int .i64 P, .int .i64 C, .int .i64 B, .int .i64 L, .bool S, .bool Q] 45)).alloc (.cells #[.int .i64 0, .int .i64 0, .int .i64 0, .int .i64 0, .int .i64 0, .bool false, .bool false] 45) = W0 at *
      refine (specApuOk _ T P C B L S Q).mono ?_
      rintro e W1 ⟨rfl, L1⟩
      rw [hok]
      replace k0 := box_keep k0 L1 (boxLt k0)
      replace k1 := box_keep k1 L1 (boxLt k1)
      have C1 := below_snoc C0 L1
      have c0 := boxC k0
      have f0 := boxF k0
      have c1 := boxC k1
      have f1 := boxF k1
      go_wp2_with (go_at_call 125; refine (unhide HB _).mono ?_; rintro e w' ⟨rfl, rfl⟩)
      all_goals (
        refine bodyPost_ret (v := .agg #[.int .i64 T, .int .i64 (P), .int .i64 C, .int .i64 B, .int .i64 (v % 32), .bool (S), .bool (Q)]) (by simp [results, Tryz.results94, go_sem, fun (o : Nat) (x x0 x1 x2 x3 x4 x5 x6 : Value) => boxC (put7_box (box_ne7 k1 hne o x) x0 x1 x2 x3 x4 x5 x6)]) rfl ?_
        exact ⟨rfl, FIN _ _ _ _ _ _ _ _ (C1.setCell (p := ⟨w.heap.size, _, none⟩) (Nat.le_refl _) _)⟩)
    by_cases h2 : reg = 2
    · have HV : Hid (wpA true P reg v = P ∧ wlA true L reg v = L ∧ wsA true S reg v = (v % 2 == 1) ∧ wqA true Q reg v = (Q && (v % 2 == 1))) := by
        show _ ∧ _
        simp [wpA, wlA, wsA, wqA, h2]
      rw [HV.out.1, HV.out.2.1, HV.out.2.2.1, HV.out.2.2.2]
      clear HV
      subst h2; clear h0 h1
      cases Q
      · go_enter Tryz.func94, Tryz.ntmps94
        go_wp2_with fail
        generalize (w.alloc (.cells #[.int .i64 T, .int .i64 P, .int .i64 C, .int .i64 B, .int .i64 L, .bool S, .bool false] 45)).alloc (.cells #[.int .i64 0, .int .i64 0, .int .i64 0, .int .i64 0, .int .i64 0, .bool false, .bool false] 45) = W0 at *
        refine (specApuOk _ T P C B L S false).mono ?_
        rintro e W1 ⟨rfl, L1⟩
        rw [hok]
        replace k0 := box_keep k0 L1 (boxLt k0)
        replace k1 := box_keep k1 L1 (boxLt k1)
        have C1 := below_snoc C0 L1
        have c0 := boxC k0
        have f0 := boxF k0
        have c1 := boxC k1
        have f1 := boxF k1
        go_wp2_with (go_at_call 125; refine (unhide HB _).mono ?_; rintro e w' ⟨rfl, rfl⟩)
        all_goals (
          refine bodyPost_ret (v := .agg #[.int .i64 T, .int .i64 (P), .int .i64 C, .int .i64 B, .int .i64 (L), .bool (v % 2 == 1), .bool (false)]) (by simp [results, Tryz.results94, go_sem, fun (o o2 : Nat) (x y x0 x1 x2 x3 x4 x5 x6 : Value) => boxC (put7_box (box_ne7 (box_ne7 k1 hne o x) hne o2 y) x0 x1 x2 x3 x4 x5 x6)]) rfl ?_
          exact ⟨rfl, FIN _ _ _ _ _ _ _ _ ((C1.setCell (p := ⟨w.heap.size, _, none⟩) (Nat.le_refl _) _).setCell (p := ⟨w.heap.size, _, none⟩) (Nat.le_refl _) _)⟩)
      · go_enter Tryz.func94, Tryz.ntmps94
        go_wp2_with fail
        generalize (w.alloc (.cells #[.int .i64 T, .int .i64 P, .int .i64 C, .int .i64 B, .int .i64 L, .bool S, .bool true] 45)).alloc (.cells #[.int .i64 0, .int .i64 0, .int .i64 0, .int .i64 0, .int .i64 0, .bool false, .bool false] 45) = W0 at *
        refine (specApuOk _ T P C B L S true).mono ?_
        rintro e W1 ⟨rfl, L1⟩
        rw [hok]
        replace k0 := box_keep k0 L1 (boxLt k0)
        replace k1 := box_keep k1 L1 (boxLt k1)
        have C1 := below_snoc C0 L1
        have c0 := boxC k0
        have f0 := boxF k0
        have c1 := boxC k1
        have f1 := boxF k1
        go_wp2_with (go_at_call 125; refine (unhide HB _).mono ?_; rintro e w' ⟨rfl, rfl⟩)
        all_goals (
          refine bodyPost_ret (v := .agg #[.int .i64 T, .int .i64 (P), .int .i64 C, .int .i64 B, .int .i64 (L), .bool (v % 2 == 1), .bool (v % 2 == 1)]) (by simp [results, Tryz.results94, go_sem, fun (o o2 : Nat) (x y x0 x1 x2 x3 x4 x5 x6 : Value) => boxC (put7_box (box_ne7 (box_ne7 k1 hne o x) hne o2 y) x0 x1 x2 x3 x4 x5 x6)]) rfl ?_
          exact ⟨rfl, FIN _ _ _ _ _ _ _ _ ((C1.setCell (p := ⟨w.heap.size, _, none⟩) (Nat.le_refl _) _).setCell (p := ⟨w.heap.size, _, none⟩) (Nat.le_refl _) _)⟩)
    by_cases h3 : reg = 3
    · have HV : Hid (wpA true P reg v = P ∧ wlA true L reg v = L ∧ wsA true S reg v = S ∧ wqA true Q reg v = false) := by
        show _ ∧ _
        simp [wpA, wlA, wsA, wqA, h3]
      rw [HV.out.1, HV.out.2.1, HV.out.2.2.1, HV.out.2.2.2]
      clear HV
      subst h3; clear h0 h1 h2
      go_enter Tryz.func94, Tryz.ntmps94
      go_wp2_with fail
      generalize (w.alloc (.cells #[.int .i64 T, .int .i64 P, .int .i64 C, .int .i64 B, .int .i64 L, .bool S, .bool Q] 45)).alloc (.cells #[.int .i64 0, .int .i64 0, .int .i64 0, .int .i64 0, .int .i64 0, .bool false, .bool false] 45) = W0 at *
      refine (specApuOk _ T P C B L S Q).mono ?_
      rintro e W1 ⟨rfl, L1⟩
      rw [hok]
      replace k0 := box_keep k0 L1 (boxLt k0)
      replace k1 := box_keep k1 L1 (boxLt k1)
      have C1 := below_snoc C0 L1
      have c0 := boxC k0
      have f0 := boxF k0
      have c1 := boxC k1
      have f1 := boxF k1
      go_wp2_with (go_at_call 125; refine (unhide HB _).mono ?_; rintro e w' ⟨rfl, rfl⟩)
      all_goals (
        refine bodyPost_ret (v := .agg #[.int .i64 T, .int .i64 (P), .int .i64 C, .int .i64 B, .int .i64 (L), .bool (S), .bool (false)]) (by simp [results, Tryz.results94, go_sem, fun (o : Nat) (x x0 x1 x2 x3 x4 x5 x6 : Value) => boxC (put7_box (box_ne7 k1 hne o x) x0 x1 x2 x3 x4 x5 x6)]) rfl ?_
        exact ⟨rfl, FIN _ _ _ _ _ _ _ _ (C1.setCell (p := ⟨w.heap.size, _, none⟩) (Nat.le_refl _) _)⟩)
    · have HV : Hid (wpA true P reg v = P ∧ wlA true L reg v = L ∧ wsA true S reg v = S ∧ wqA true Q reg v = Q) := by
        show _ ∧ _
        simp [wpA, wlA, wsA, wqA, h0, h1, h2, h3]
      rw [HV.out.1, HV.out.2.1, HV.out.2.2.1, HV.out.2.2.2]
      clear HV
      go_enter Tryz.func94, Tryz.ntmps94
      go_wp2_with fail
      generalize (w.alloc (.cells #[.int .i64 T, .int .i64 P, .int .i64 C, .int .i64 B, .int .i64 L, .bool S, .bool Q] 45)).alloc (.cells #[.int .i64 0, .int .i64 0, .int .i64 0, .int .i64 0, .int .i64 0, .bool false, .bool false] 45) = W0 at *
      refine (specApuOk _ T P C B L S Q).mono ?_
      rintro e W1 ⟨rfl, L1⟩
      rw [hok]
      replace k0 := box_keep k0 L1 (boxLt k0)
      replace k1 := box_keep k1 L1 (boxLt k1)
      have C1 := below_snoc C0 L1
      have c0 := boxC k0
      have f0 := boxF k0
      have c1 := boxC k1
      have f1 := boxF k1
      go_wp2_with (go_at_call 125; refine (unhide HB _).mono ?_; rintro e w' ⟨rfl, rfl⟩)
      all_goals (
        refine bodyPost_ret (v := .agg #[.int .i64 T, .int .i64 (P), .int .i64 C, .int .i64 B, .int .i64 (L), .bool (S), .bool (Q)]) (by simp [results, Tryz.results94, go_sem, fun (x0 x1 x2 x3 x4 x5 x6 : Value) => boxC (put7_box k1 x0 x1 x2 x3 x4 x5 x6)]) rfl ?_
        exact ⟨rfl, FIN _ _ _ _ _ _ _ _ C1⟩)
set_option maxHeartbeats 2000000 in
theorem specApuRead (w : World) (T P C B L : Int) (S Q : Bool) (reg : Int) : Calls Tryz.prog 68 #[.agg #[.int .i64 T, .int .i64 P, .int .i64 C, .int .i64 B, .int .i64 L, .bool S, .bool Q], .int .i64 reg] w
    fun e w' => e = .returned (.tuple #[.agg #[.int .i64 T, .int .i64 P, .int .i64 C, .int .i64 B, .int .i64 L, .bool S, .bool (rqA (okApu T P C B L) Q reg)], .int .i64 (rvA (okApu T P C B L) L Q reg)]) ∧ Below w.heap.size w w' := by
  have k0 : ((w.alloc (.cells #[.int .i64 T, .int .i64 P, .int .i64 C, .int .i64 B, .int .i64 L, .bool S, .bool Q] 45)).alloc (.cells #[.int .i64 0, .int .i64 0, .int .i64 0, .int .i64 0, .int .i64 0, .bool false, .bool false] 45)).heap[w.heap.size]? = some (.cells #[.int .i64 T, .int .i64 P, .int .i64 C, .int .i64 B, .int .i64 L, .bool S, .bool Q] 45 (0, 0)) := boxA (box_new w #[.int .i64 T, .int .i64 P, .int .i64 C, .int .i64 B, .int .i64 L, .bool S, .bool Q] 45) _
  have k1 : ((w.alloc (.cells #[.int .i64 T, .int .i64 P, .int .i64 C, .int .i64 B, .int .i64 L, .bool S, .bool Q] 45)).alloc (.cells #[.int .i64 0, .int .i64 0, .int .i64 0, .int .i64 0, .int .i64 0, .bool false, .bool false] 45)).heap[w.heap.size + 1]? = some (.cells #[.int .i64 0, .int .i64 0, .int .i64 0, .int .i64 0, .int .i64 0, .bool false, .bool false] 45 (0, 0)) := by simpa using box_new (w.alloc (.cells #[.int .i64 T, .int .i64 P, .int .i64 C, .int .i64 B, .int .i64 L, .bool S, .bool Q] 45)) #[.int .i64 0, .int .i64 0, .int .i64 0, .int .i64 0, .int .i64 0, .bool false, .bool false] 45
  have C0 : Below w.heap.size w ((w.alloc (.cells #[.int .i64 T, .int .i64 P, .int .i64 C, .int .i64 B, .int .i64 L, .bool S, .bool Q] 45)).alloc (.cells #[.int .i64 0, .int .i64 0, .int .i64 0, .int .i64 0, .int .i64 0, .bool false, .bool false] 45)) := ((Below.refl _ _).alloc (Nat.le_refl _) _).alloc (by simp) _
  have FIN : ∀ (W1 : World) (x0 x1 x2 x3 x4 x5 x6 : Value), Below w.heap.size w W1 → Below w.heap.size w (((((((W1.setCell ⟨(w.heap.size + 1), 0, none⟩ x0).setCell ⟨(w.heap.size + 1), 1, none⟩ x1).setCell ⟨(w.heap.size + 1), 2, none⟩ x2).setCell ⟨(w.heap.size + 1), 3, none⟩ x3).setCell ⟨(w.heap.size + 1), 4, none⟩ x4).setCell ⟨(w.heap.size + 1), 5, none⟩ x5).setCell ⟨(w.heap.size + 1), 6, none⟩ x6) := fun W1 x0 x1 x2 x3 x4 x5 x6 h => h.trans ((put7 W1 _ _ _ _ _ _ _ _).mono (by omega))
  have hne : w.heap.size + 1 ≠ w.heap.size := by omega
  by_cases hr : okApu T P C B L = true ∧ reg = 2
  · obtain ⟨hok, rfl⟩ := hr
    have HV : Hid (rqA true Q 2 = false ∧ rvA true L Q 2 = 128 * bitOf Q + bitOf (decide (0 < L))) := by
      show _ ∧ _
      simp [rqA, rvA]
    rw [hok, HV.out.1, HV.out.2]
    clear HV
    have hz : 0 ≤ bitOf Q ∧ bitOf Q ≤ 1 := by cases Q <;> decide
    have hn : 0 ≤ bitOf (decide (0 < L)) ∧ bitOf (decide (0 < L)) ≤ 1 := by cases decide (0 < L) <;> decide
    go_enter Tryz.func68, Tryz.ntmps68
    go_wp2_with fail
    generalize (w.alloc (.cells #[.int .i64 T, .int .i64 P, .int .i64 C, .int .i64 B, .int .i64 L, .bool S, .bool Q] 45)).alloc (.cells #[.int .i64 0, .int .i64 0, .int .i64 0, .int .i64 0, .int .i64 0, .bool false, .bool false] 45) = W0 at *
    refine (specApuOk _ T P C B L S Q).mono ?_
    rintro e W1 ⟨rfl, L1⟩
    rw [hok]
    replace k0 := box_keep k0 L1 (boxLt k0)
    replace k1 := box_keep k1 L1 (boxLt k1)
    have C1 := below_snoc C0 L1
    have c0 := boxC k0
    have f0 := boxF k0
    have c1 := boxC k1
    have f1 := boxF k1
    clear L1 C0
    go_wp2_with fail
    go_quiet ((go_at_call 105; exact Calls.quiet_of (same_q (l1Bit _ _))))
    rename_i nq
    have D1 : Below W1.heap.size W1 (W1.drewN nq) := ⟨rfl, rfl, rfl, Nat.le_refl _, fun _ _ => rfl⟩
    replace k0 := box_keep k0 D1 (boxLt k0)
    replace k1 := box_keep k1 D1 (boxLt k1)
    replace C1 := below_snoc C1 D1
    clear c0 f0 c1 f1 D1
    generalize W1.drewN nq = W2 at *
    have c0 := boxC k0
    have f0 := boxF k0
    have c1 := boxC k1
    have f1 := boxF k1
    go_wp2
    refine bodyPost_ret (v := .tuple #[.agg #[.int .i64 T, .int .i64 P, .int .i64 C, .int .i64 B, .int .i64 L, .bool S, .bool false], .int .i64 (128 * bitOf Q + bitOf (decide (0 < L)))]) (by simp [results, Tryz.results68, go_sem, fun (o : Nat) (x x0 x1 x2 x3 x4 x5 x6 : Value) => boxC (put7_box (box_ne7 k1 hne o x) x0 x1 x2 x3 x4 x5 x6)]) rfl ?_
    exact ⟨rfl, FIN _ _ _ _ _ _ _ _ (C1.setCell (p := ⟨w.heap.size, _, none⟩) (Nat.le_refl _) _)⟩
  · have HV : Hid (rqA (okApu T P C B L) Q reg = Q ∧ rvA (okApu T P C B L) L Q reg = 0) := by
      show _ ∧ _
      rw [rqA, rvA, if_neg hr, if_neg hr]
      exact ⟨rfl, rfl⟩
    rw [HV.out.1, HV.out.2]
    clear HV
    generalize hok : okApu T P C B L = ok at *
    have hr' : ok = true → (reg == 2) = false := fun e => beq_eq_false_iff_ne.2 (fun e2 => hr ⟨e, e2⟩)
    clear hr
    cases ok
    · go_enter Tryz.func68, Tryz.ntmps68
      go_wp2_with fail
      generalize (w.alloc (.cells #[.int .i64 T, .int .i64 P, .int .i64 C, .int .i64 B, .int .i64 L, .bool S, .bool Q] 45)).alloc (.cells #[.int .i64 0, .int .i64 0, .int .i64 0, .int .i64 0, .int .i64 0, .bool false, .bool false] 45) = W0 at *
      refine (specApuOk _ T P C B L S Q).mono ?_
      rintro e W1 ⟨rfl, L1⟩
      rw [hok]
      replace k0 := box_keep k0 L1 (boxLt k0)
      replace k1 := box_keep k1 L1 (boxLt k1)
      have C1 := below_snoc C0 L1
      have c0 := boxC k0
      have c1 := boxC k1
      have f1 := boxF k1
      go_wp2
      refine bodyPost_ret (v := .tuple #[.agg #[.int .i64 T, .int .i64 P, .int .i64 C, .int .i64 B, .int .i64 L, .bool S, .bool Q], .int .i64 0]) (by simp [results, Tryz.results68, go_sem, fun (x0 x1 x2 x3 x4 x5 x6 : Value) => boxC (put7_box k1 x0 x1 x2 x3 x4 x5 x6)]) rfl ?_
      exact ⟨rfl, FIN _ _ _ _ _ _ _ _ C1⟩
    · have hr2 : reg ≠ 2 := fun e => by have := hr' rfl; simp [e] at this
      go_enter Tryz.func68, Tryz.ntmps68
      go_wp2_with fail
      generalize (w.alloc (.cells #[.int .i64 T, .int .i64 P, .int .i64 C, .int .i64 B, .int .i64 L, .bool S, .bool Q] 45)).alloc (.cells #[.int .i64 0, .int .i64 0, .int .i64 0, .int .i64 0, .int .i64 0, .bool false, .bool false] 45) = W0 at *
      refine (specApuOk _ T P C B L S Q).mono ?_
      rintro e W1 ⟨rfl, L1⟩
      rw [hok]
      replace k0 := box_keep k0 L1 (boxLt k0)
      replace k1 := box_keep k1 L1 (boxLt k1)
      have C1 := below_snoc C0 L1
      have c0 := boxC k0
      have c1 := boxC k1
      have f1 := boxF k1
      go_wp2
      refine bodyPost_ret (v := .tuple #[.agg #[.int .i64 T, .int .i64 P, .int .i64 C, .int .i64 B, .int .i64 L, .bool S, .bool Q], .int .i64 0]) (by simp [results, Tryz.results68, go_sem, fun (x0 x1 x2 x3 x4 x5 x6 : Value) => boxC (put7_box k1 x0 x1 x2 x3 x4 x5 x6)]) rfl ?_
      exact ⟨rfl, FIN _ _ _ _ _ _ _ _ C1⟩
end Go.Proofs.YtpaedkefmebjjarGreat
