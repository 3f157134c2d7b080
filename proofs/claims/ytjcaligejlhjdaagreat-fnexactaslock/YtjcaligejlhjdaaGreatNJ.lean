/-
  Chapter 15 of the program by its contracts: Wait.
-/
import Derived.Test.YtjcaligejlhjdaaGreatLK
import Derived.Deep.DeepCutAuto
namespace Go.Proofs.YtjcaligejlhjdaaGreat
set_option linter.unusedVariables false
set_option linter.unusedSimpArgs false
open Go.ChangeShapes Go.WideShapes Go.ChangeAt Go.RowKit Go.Sort
theorem ApB.put42J {bs cs : Array Value} {T p s : Int} {kn : Bool} {ka : Int} (H : ApB bs cs T p s kn ka) (T' : Int) : ApB (bs.setIfInBounds 42 (.int .i64 T')) cs T' p s kn ka := by
  have hs := H.sz
  refine ⟨by simp [hs], fun i hi => ?_, ?_, ?_, ?_, ?_, ?_, ?_⟩
  · rw [Array.getElem?_setIfInBounds_ne (by omega)]; exact H.lo i hi
  · rw [Array.getElem?_setIfInBounds_self_of_lt (by omega)]
  · rw [Array.getElem?_setIfInBounds_ne (by omega)]; exact H.c43
  · rw [Array.getElem?_setIfInBounds_ne (by omega)]; exact H.c44
  · rw [Array.getElem?_setIfInBounds_ne (by omega)]; exact H.c45
  · rw [Array.getElem?_setIfInBounds_ne (by omega)]; exact H.c47
  · rw [Array.getElem?_setIfInBounds_ne (by omega)]; exact H.c48
theorem ApB.put43J {bs cs : Array Value} {T p s : Int} {kn : Bool} {ka : Int} (H : ApB bs cs T p s kn ka) (p' : Int) : ApB (bs.setIfInBounds 43 (.int .i64 p')) cs T p' s kn ka := by
  have hs := H.sz
  refine ⟨by simp [hs], fun i hi => ?_, ?_, ?_, ?_, ?_, ?_, ?_⟩
  · rw [Array.getElem?_setIfInBounds_ne (by omega)]; exact H.lo i hi
  · rw [Array.getElem?_setIfInBounds_ne (by omega)]; exact H.c42
  · rw [Array.getElem?_setIfInBounds_self_of_lt (by omega)]
  · rw [Array.getElem?_setIfInBounds_ne (by omega)]; exact H.c44
  · rw [Array.getElem?_setIfInBounds_ne (by omega)]; exact H.c45
  · rw [Array.getElem?_setIfInBounds_ne (by omega)]; exact H.c47
  · rw [Array.getElem?_setIfInBounds_ne (by omega)]; exact H.c48
theorem ApB.put44J {bs cs : Array Value} {T p s : Int} {kn : Bool} {ka : Int} (H : ApB bs cs T p s kn ka) (s' : Int) : ApB (bs.setIfInBounds 44 (.int .i64 s')) cs T p s' kn ka := by
  have hs := H.sz
  refine ⟨by simp [hs], fun i hi => ?_, ?_, ?_, ?_, ?_, ?_, ?_⟩
  · rw [Array.getElem?_setIfInBounds_ne (by omega)]; exact H.lo i hi
  · rw [Array.getElem?_setIfInBounds_ne (by omega)]; exact H.c42
  · rw [Array.getElem?_setIfInBounds_ne (by omega)]; exact H.c43
  · rw [Array.getElem?_setIfInBounds_self_of_lt (by omega)]
  · rw [Array.getElem?_setIfInBounds_ne (by omega)]; exact H.c45
  · rw [Array.getElem?_setIfInBounds_ne (by omega)]; exact H.c47
  · rw [Array.getElem?_setIfInBounds_ne (by omega)]; exact H.c48
theorem wpList_buildLJ {P : Program} {ops : Array Oper} {rest : List Oper} {o : Oper} {a : Act} {w : World} {Q : Exit → Act → World → Prop} (hg : o.guard = none) (t : TypeId) (parts : Array (Nat × Operand)) (ho : o.op = .build t parts) (l : List (Nat × Value)) (hl : (parts.map fun (i, x) => (i, a.eval x)).toList = l) (bs : Array Value) (hb : P.built t l = some bs)
    (h : wpList P ops Q rest (a.put o.dst (.agg bs)) w) : wpList P ops Q (o :: rest) a w := by
  subst hl
  exact wpList_build hg t parts ho (by rw [hb]; rfl) (by rw [hb]; exact h)
theorem built_apartJ (e0 e1 e2 e3 e4 e5 e6 e7 e8 e9 e10 e11 e12 e13 e14 e15 e16 e17 e18 e19 e20 e21 e22 e23 e24 e25 e26 e27 e28 e29 e30 e31 e32 e33 e34 e35 e36 e37 e38 e39 e40 e41 : Value) : Tryz.prog.built 171 [(0, .agg #[e0, e1, e2, e3, e4, e5, e6, e7, e8, e9, e10, e11, e12, e13, e14, e15, e16, e17, e18, e19, e20, e21, e22, e23, e24, e25, e26, e27, e28, e29, e30, e31, e32, e33, e34, e35, e36, e37, e38, e39, e40, e41])] = some #[e0, e1, e2, e3, e4, e5, e6, e7, e8, e9, e10, e11, e12, e13, e14, e15, e16, e17, e18, e19, e20, e21, e22, e23, e24, e25, e26, e27, e28, e29, e30, e31, e32, e33, e34, e35, e36, e37, e38, e39, e40, e41, .int .i64 0, .int .i64 0, .int .i64 0, .int .i32 0, .int .u32 0, .bool false, .int .i64 0] := by kernel_rfl
theorem built_apart_ofJ {cs : Array Value} (hsz : cs.size = 42) : ∃ bs, Tryz.prog.built 171 [(0, .agg cs)] = some bs ∧ ApB bs cs 0 0 0 false 0 := by
  obtain ⟨e0, e1, e2, e3, e4, e5, e6, e7, e8, e9, e10, e11, e12, e13, e14, e15, e16, e17, e18, e19, e20, e21, e22, e23, e24, e25, e26, e27, e28, e29, e30, e31, e32, e33, e34, e35, e36, e37, e38, e39, e40, e41, rfl⟩ : ∃ e0 e1 e2 e3 e4 e5 e6 e7 e8 e9 e10 e11 e12 e13 e14 e15 e16 e17 e18 e19 e20 e21 e22 e23 e24 e25 e26 e27 e28 e29 e30 e31 e32 e33 e34 e35 e36 e37 e38 e39 e40 e41, cs = #[e0, e1, e2, e3, e4, e5, e6, e7, e8, e9, e10, e11, e12, e13, e14, e15, e16, e17, e18, e19, e20, e21, e22, e23, e24, e25, e26, e27, e28, e29, e30, e31, e32, e33, e34, e35, e36, e37, e38, e39, e40, e41] := by
    rcases cs with ⟨l⟩
    match l, hsz with
    | e0 :: e1 :: e2 :: e3 :: e4 :: e5 :: e6 :: e7 :: e8 :: e9 :: e10 :: e11 :: e12 :: e13 :: e14 :: e15 :: e16 :: e17 :: e18 :: e19 :: e20 :: e21 :: e22 :: e23 :: e24 :: e25 :: e26 :: e27 :: e28 :: e29 :: e30 :: e31 :: e32 :: e33 :: e34 :: e35 :: e36 :: e37 :: e38 :: e39 :: e40 :: e41 :: [], _ => exact ⟨_, _, _, _, _, _, _, _, _, _, _, _, _, _, _, _, _, _, _, _, _, _, _, _, _, _, _, _, _, _, _, _, _, _, _, _, _, _, _, _, _, _, rfl⟩
  refine ⟨_, built_apartJ _ _ _ _ _ _ _ _ _ _ _ _ _ _ _ _ _ _ _ _ _ _ _ _ _ _ _ _ _ _ _ _ _ _ _ _ _ _ _ _ _ _, ⟨rfl, fun i hi => ?_, rfl, rfl, rfl, rfl, rfl, rfl⟩⟩
  have key : ∀ (l k : List Value) (i : Nat), i < l.length → (l ++ k).toArray[i]? = l.toArray[i]? := fun l k i h => by simp [List.getElem?_append_left h]
  exact key [e0, e1, e2, e3, e4, e5, e6, e7, e8, e9, e10, e11, e12, e13, e14, e15, e16, e17, e18, e19, e20, e21, e22, e23, e24, e25, e26, e27, e28, e29, e30, e31, e32, e33, e34, e35, e36, e37, e38, e39, e40, e41] [.int .i64 0, .int .i64 0, .int .i64 0, .int .i32 0, .int .u32 0, .bool false, .int .i64 0] i hi
set_option maxHeartbeats 4000000 in
theorem apartOfCJ (w : World) (cs : Array Value) (T p s : Int) (kn : Bool) (ka : Int) (hsz : cs.size = 42) (f14 : cs[14]? = some (.int .i64 T)) (f17 : cs[17]? = some (.bool kn)) (f18 : cs[18]? = some (.int .i64 ka)) (f21 : cs[21]? = some (.int .i64 p)) (f32 : cs[32]? = some (.int .i64 s)) :
    Calls Tryz.prog 111 #[.agg cs] w fun e w' => ∃ z, e = .returned (.pointer (some ⟨z, 0, none⟩)) ∧ w.heap.size ≤ z ∧ ApBox w' z cs T p s kn ka ∧ Below w.heap.size w w' := by
  obtain ⟨bs0, hbu, hb0⟩ := built_apart_ofJ hsz
  have HSZ := hide hsz
  have HB0 := hide hb0
  have HBU := hide hbu
  clear hsz hb0 hbu
  have C0 : Below w.heap.size w (w.alloc (.cells cs 46)) := (Below.refl _ _).alloc (Nat.le_refl _) _
  have kS := box_new w cs 46
  go_enter Tryz.func111, Tryz.ntmps111
  go_upto_region 1 with (fail)
  generalize w.alloc (.cells cs 46) = W0 at *
  rename_i K1 hK1
  refine wp_region_lit ?_
  refine wpList_load_row rfl _ _ rfl (w.heap.size) rfl _ _ _ _ kS Tryz.underlying46 rfl (infoAtU infoSplit HSZ.out) ?_
  refine wpList_buildLJ rfl _ _ rfl [(0, .agg cs)] (by first | rfl | simp [Act.eval, Act.put]) bs0 HBU.out ?_
  clear HBU
  (refine wpList_plain rfl (fun K9 hK9 => ?_); go_simp; refine hK9 _ _ ?_; clear hK9)
  have LA : Below W0.heap.size W0 (W0.alloc (.cells bs0 171)) := (Below.refl _ _).alloc (Nat.le_refl _) _
  have k0 := box_new W0 bs0 171
  have hz1 := boxLt kS
  replace kS := boxA kS (.cells bs0 171)
  replace C0 := below_snoc C0 LA
  clear LA
  obtain ⟨z, hz⟩ : ∃ q, Hid (q = W0.heap.size) := ⟨_, rfl⟩
  rw [← hz.out] at k0 hz1 ⊢
  clear hz
  generalize W0.alloc (.cells bs0 171) = W1 at *
  (refine wpList_plain rfl (fun K9 hK9 => ?_); go_simp; refine hK9 _ _ ?_; clear hK9)
  refine hK1 _ _ ?_
  clear hK1
  go_simp
  go_upto_region 2 with (fail)
  rename_i K2 hK2
  refine wp_region_eff [some 7, some 8, some 9, some 10, some 11, some 12] (by kernel_rfl) (by kernel_rfl) (by kernel_rfl) (by kernel_rfl) (by first | (simp [slotsOf]; done) | (simp [slotsOf, Act.put]; done))
    (fun j b _ => (j = 5 ∧ b = z))
    (fun i v W => match i with
      | 0 => v = .pointer (some ⟨z, 0, none⟩)
      | 1 => v = .pointer (some ⟨z, 0, none⟩)
      | 2 => v = .pointer (some ⟨z, 42, none⟩)
      | 3 => v = .pointer (some ⟨w.heap.size, 14, none⟩)
      | 4 => v = .int .i64 T
      | _ => W.heap[z]? = some (.cells (bs0.setIfInBounds 42 (.int .i64 T)) 171 (0, 0))) ?_ ?_ ?_
  · intro i j o v W W' hij ho _ hW h
    match i, hij, ho, h with
    | 0, hij, _, h => exact h
    | 1, hij, _, h => exact h
    | 2, hij, _, h => exact h
    | 3, hij, _, h => exact h
    | 4, hij, _, h => exact h
    | 5, hij, _, h => exact box_wroteE h hW (fun o e => by omega)
    | _ + 6, _, ho, _ => simp at ho
  · intro i o a' W K8 ho F L hw hK
    match i with
    | 0 =>
      simp only [List.getElem?_toArray, List.getElem?_cons_zero, List.getElem?_cons_succ, Option.some.injEq] at ho
      subst ho
      have t3 := F.get (t := 3) (v := .pointer (some ⟨z, 0, none⟩)) (by decide) rfl
      go_simp
      exact hK _ _ (Wrote.refl _ _) rfl
    | 1 =>
      simp only [List.getElem?_toArray, List.getElem?_cons_zero, List.getElem?_cons_succ, Option.some.injEq] at ho
      subst ho
      have q0 : a'.tmps[7]?.getD undef = .pointer (some ⟨z, 0, none⟩) := hw 0 (by kernel_rfl)
      go_simp
      exact hK _ _ (Wrote.refl _ _) rfl
    | 2 =>
      simp only [List.getElem?_toArray, List.getElem?_cons_zero, List.getElem?_cons_succ, Option.some.injEq] at ho
      subst ho
      have q1 : a'.tmps[8]?.getD undef = .pointer (some ⟨z, 0, none⟩) := hw 1 (by kernel_rfl)
      go_simp
      exact hK _ _ (Wrote.refl _ _) rfl
    | 3 =>
      simp only [List.getElem?_toArray, List.getElem?_cons_zero, List.getElem?_cons_succ, Option.some.injEq] at ho
      subst ho
      have t1 := F.get (t := 1) (v := .pointer (some ⟨w.heap.size, 0, none⟩)) (by decide) rfl
      go_simp
      exact hK _ _ (Wrote.refl _ _) rfl
    | 4 =>
      simp only [List.getElem?_toArray, List.getElem?_cons_zero, List.getElem?_cons_succ, Option.some.injEq] at ho
      subst ho
      have q3 : a'.tmps[10]?.getD undef = .pointer (some ⟨w.heap.size, 14, none⟩) := hw 3 (by kernel_rfl)
      have rB := box_wroteE kS L (fun o ⟨j, oj, hj, hoj, hwj, e⟩ => by omega)
      have rb := boxC rB
      go_simp
      exact hK _ _ (Wrote.refl _ _) rfl
    | 5 =>
      simp only [List.getElem?_toArray, List.getElem?_cons_zero, List.getElem?_cons_succ, Option.some.injEq] at ho
      subst ho
      have q2 : a'.tmps[9]?.getD undef = .pointer (some ⟨z, 42, none⟩) := hw 2 (by kernel_rfl)
      have q4 : a'.tmps[11]?.getD undef = .int .i64 T := hw 4 (by kernel_rfl)
      have rB := box_wroteE k0 L (fun o ⟨j, oj, hj, hoj, hwj, e⟩ => by omega)
      go_simp
      refine (clockPut W z 42 0 T ((boxC rB 42).trans HB0.out.c42) (boxF rB 42)).mono ?_
      rintro e W' ⟨rfl, rfl⟩
      exact hK _ _ ((wroteZ W z 42 _).mono (fun b o _ e => ⟨rfl, e⟩)) (boxSetZ rB 42 _)
    | _ + 6 => simp at ho
  · intro a' W F L hφ
    have p7 : a'.tmps[7]?.getD undef = .pointer (some ⟨z, 0, none⟩) := hφ 0 (by decide)
    have p8 : a'.tmps[8]?.getD undef = .pointer (some ⟨z, 0, none⟩) := hφ 1 (by decide)
    have p9 : a'.tmps[9]?.getD undef = .pointer (some ⟨z, 42, none⟩) := hφ 2 (by decide)
    have p10 : a'.tmps[10]?.getD undef = .pointer (some ⟨w.heap.size, 14, none⟩) := hφ 3 (by decide)
    have p11 : a'.tmps[11]?.getD undef = .int .i64 T := hφ 4 (by decide)
    have e5 := hφ 5 (by decide)
    rw [F.same, show slotsOf [some 7, some 8, some 9, some 10, some 11, some 12] = [7, 8, 9, 10, 11, 12] from rfl]
    simp only [List.foldl_cons, List.foldl_nil]
    have LZ := L.mono (S := fun b _ => b = z) (fun b o _ ⟨j, e⟩ => e.2)
    replace kS := box_wroteE kS LZ (fun o (e : _ = _) => by omega)
    replace C0 := C0.trans (LZ.below C0.size (fun b o hb (e : b = z) => by omega))
    have k1 : W.heap[z]? = some (.cells (bs0.setIfInBounds 42 (.int .i64 T)) 171 (0, 0)) := e5
    have HB1 := hide (ApB.put42J HB0.out T)
    clear hφ F L LZ e5 k0 HB0
    generalize a'.tmps[12]?.getD undef = g12
    rw [p7, p8, p9, p10, p11]
    clear p7 p8 p9 p10 p11
    generalize hbs1 : (bs0.setIfInBounds 42 (.int .i64 T)) = bs1 at *
    clear hbs1
    refine hK2 _ _ ?_
    clear hK2
    go_simp
    go_upto_region 3 with (fail)
    rename_i K3 hK3
    refine wp_region_eff [some 13, some 14, some 15, some 16, some 17, some 18, some 19, some 20] (by kernel_rfl) (by kernel_rfl) (by kernel_rfl) (by kernel_rfl) (by first | (simp [slotsOf]; done) | (simp [slotsOf, Act.put]; done))
      (fun j b _ => (j = 7 ∧ b = z))
      (fun i v W => match i with
        | 0 => v = .pointer (some ⟨z, 0, none⟩)
        | 1 => v = .pointer (some ⟨z, 0, none⟩)
        | 2 => v = .pointer (some ⟨z, 43, none⟩)
        | 3 => v = .pointer (some ⟨w.heap.size, 21, none⟩)
        | 4 => v = .pointer (some ⟨w.heap.size, 21, none⟩)
        | 5 => v = .pointer (some ⟨w.heap.size, 21, none⟩)
        | 6 => v = .int .i64 p
        | _ => W.heap[z]? = some (.cells (bs1.setIfInBounds 43 (.int .i64 p)) 171 (0, 0))) ?_ ?_ ?_
    · intro i j o v W W' hij ho _ hW h
      match i, hij, ho, h with
      | 0, hij, _, h => exact h
      | 1, hij, _, h => exact h
      | 2, hij, _, h => exact h
      | 3, hij, _, h => exact h
      | 4, hij, _, h => exact h
      | 5, hij, _, h => exact h
      | 6, hij, _, h => exact h
      | 7, hij, _, h => exact box_wroteE h hW (fun o e => by omega)
      | _ + 8, _, ho, _ => simp at ho
    · intro i o a' W K8 ho F L hw hK
      match i with
      | 0 =>
        simp only [List.getElem?_toArray, List.getElem?_cons_zero, List.getElem?_cons_succ, Option.some.injEq] at ho
        subst ho
        have t3 := F.get (t := 3) (v := .pointer (some ⟨z, 0, none⟩)) (by decide) rfl
        go_simp
        exact hK _ _ (Wrote.refl _ _) rfl
      | 1 =>
        simp only [List.getElem?_toArray, List.getElem?_cons_zero, List.getElem?_cons_succ, Option.some.injEq] at ho
        subst ho
        have q0 : a'.tmps[13]?.getD undef = .pointer (some ⟨z, 0, none⟩) := hw 0 (by kernel_rfl)
        go_simp
        exact hK _ _ (Wrote.refl _ _) rfl
      | 2 =>
        simp only [List.getElem?_toArray, List.getElem?_cons_zero, List.getElem?_cons_succ, Option.some.injEq] at ho
        subst ho
        have q1 : a'.tmps[14]?.getD undef = .pointer (some ⟨z, 0, none⟩) := hw 1 (by kernel_rfl)
        go_simp
        exact hK _ _ (Wrote.refl _ _) rfl
      | 3 =>
        simp only [List.getElem?_toArray, List.getElem?_cons_zero, List.getElem?_cons_succ, Option.some.injEq] at ho
        subst ho
        have t1 := F.get (t := 1) (v := .pointer (some ⟨w.heap.size, 0, none⟩)) (by decide) rfl
        go_simp
        exact hK _ _ (Wrote.refl _ _) rfl
      | 4 =>
        simp only [List.getElem?_toArray, List.getElem?_cons_zero, List.getElem?_cons_succ, Option.some.injEq] at ho
        subst ho
        have q3 : a'.tmps[16]?.getD undef = .pointer (some ⟨w.heap.size, 21, none⟩) := hw 3 (by kernel_rfl)
        go_simp
        exact hK _ _ (Wrote.refl _ _) rfl
      | 5 =>
        simp only [List.getElem?_toArray, List.getElem?_cons_zero, List.getElem?_cons_succ, Option.some.injEq] at ho
        subst ho
        have q4 : a'.tmps[17]?.getD undef = .pointer (some ⟨w.heap.size, 21, none⟩) := hw 4 (by kernel_rfl)
        go_simp
        exact hK _ _ (Wrote.refl _ _) rfl
      | 6 =>
        simp only [List.getElem?_toArray, List.getElem?_cons_zero, List.getElem?_cons_succ, Option.some.injEq] at ho
        subst ho
        have q5 : a'.tmps[18]?.getD undef = .pointer (some ⟨w.heap.size, 21, none⟩) := hw 5 (by kernel_rfl)
        have rB := box_wroteE kS L (fun o ⟨j, oj, hj, hoj, hwj, e⟩ => by omega)
        have rb := boxC rB
        go_simp
        exact hK _ _ (Wrote.refl _ _) rfl
      | 7 =>
        simp only [List.getElem?_toArray, List.getElem?_cons_zero, List.getElem?_cons_succ, Option.some.injEq] at ho
        subst ho
        have q2 : a'.tmps[15]?.getD undef = .pointer (some ⟨z, 43, none⟩) := hw 2 (by kernel_rfl)
        have q6 : a'.tmps[19]?.getD undef = .int .i64 p := hw 6 (by kernel_rfl)
        have rB := box_wroteE k1 L (fun o ⟨j, oj, hj, hoj, hwj, e⟩ => by omega)
        go_simp
        refine (clockPut W z 43 0 p ((boxC rB 43).trans HB1.out.c43) (boxF rB 43)).mono ?_
        rintro e W' ⟨rfl, rfl⟩
        exact hK _ _ ((wroteZ W z 43 _).mono (fun b o _ e => ⟨rfl, e⟩)) (boxSetZ rB 43 _)
      | _ + 8 => simp at ho
    · intro a' W F L hφ
      have p13 : a'.tmps[13]?.getD undef = .pointer (some ⟨z, 0, none⟩) := hφ 0 (by decide)
      have p14 : a'.tmps[14]?.getD undef = .pointer (some ⟨z, 0, none⟩) := hφ 1 (by decide)
      have p15 : a'.tmps[15]?.getD undef = .pointer (some ⟨z, 43, none⟩) := hφ 2 (by decide)
      have p16 : a'.tmps[16]?.getD undef = .pointer (some ⟨w.heap.size, 21, none⟩) := hφ 3 (by decide)
      have p17 : a'.tmps[17]?.getD undef = .pointer (some ⟨w.heap.size, 21, none⟩) := hφ 4 (by decide)
      have p18 : a'.tmps[18]?.getD undef = .pointer (some ⟨w.heap.size, 21, none⟩) := hφ 5 (by decide)
      have p19 : a'.tmps[19]?.getD undef = .int .i64 p := hφ 6 (by decide)
      have e7 := hφ 7 (by decide)
      rw [F.same, show slotsOf [some 13, some 14, some 15, some 16, some 17, some 18, some 19, some 20] = [13, 14, 15, 16, 17, 18, 19, 20] from rfl]
      simp only [List.foldl_cons, List.foldl_nil]
      have LZ := L.mono (S := fun b _ => b = z) (fun b o _ ⟨j, e⟩ => e.2)
      replace kS := box_wroteE kS LZ (fun o (e : _ = _) => by omega)
      replace C0 := C0.trans (LZ.below C0.size (fun b o hb (e : b = z) => by omega))
      have k2 : W.heap[z]? = some (.cells (bs1.setIfInBounds 43 (.int .i64 p)) 171 (0, 0)) := e7
      have HB2 := hide (ApB.put43J HB1.out p)
      clear hφ F L LZ e7 k1 HB1
      generalize a'.tmps[20]?.getD undef = g20
      rw [p13, p14, p15, p16, p17, p18, p19]
      clear p13 p14 p15 p16 p17 p18 p19
      generalize hbs2 : (bs1.setIfInBounds 43 (.int .i64 p)) = bs2 at *
      clear hbs2
      refine hK3 _ _ ?_
      clear hK3
      go_simp
      go_upto_region 4 with (fail)
      rename_i K4 hK4
      refine wp_region_eff [some 21, some 22, some 23, some 24, some 25, some 26, some 27, some 28] (by kernel_rfl) (by kernel_rfl) (by kernel_rfl) (by kernel_rfl) (by first | (simp [slotsOf]; done) | (simp [slotsOf, Act.put]; done))
        (fun j b _ => (j = 7 ∧ b = z))
        (fun i v W => match i with
          | 0 => v = .pointer (some ⟨z, 0, none⟩)
          | 1 => v = .pointer (some ⟨z, 0, none⟩)
          | 2 => v = .pointer (some ⟨z, 44, none⟩)
          | 3 => v = .pointer (some ⟨w.heap.size, 32, none⟩)
          | 4 => v = .pointer (some ⟨w.heap.size, 32, none⟩)
          | 5 => v = .pointer (some ⟨w.heap.size, 32, none⟩)
          | 6 => v = .int .i64 s
          | _ => W.heap[z]? = some (.cells (bs2.setIfInBounds 44 (.int .i64 s)) 171 (0, 0))) ?_ ?_ ?_
      · intro i j o v W W' hij ho _ hW h
        match i, hij, ho, h with
        | 0, hij, _, h => exact h
        | 1, hij, _, h => exact h
        | 2, hij, _, h => exact h
        | 3, hij, _, h => exact h
        | 4, hij, _, h => exact h
        | 5, hij, _, h => exact h
        | 6, hij, _, h => exact h
        | 7, hij, _, h => exact box_wroteE h hW (fun o e => by omega)
        | _ + 8, _, ho, _ => simp at ho
      · intro i o a' W K8 ho F L hw hK
        match i with
        | 0 =>
          simp only [List.getElem?_toArray, List.getElem?_cons_zero, List.getElem?_cons_succ, Option.some.injEq] at ho
          subst ho
          have t3 := F.get (t := 3) (v := .pointer (some ⟨z, 0, none⟩)) (by decide) rfl
          go_simp
          exact hK _ _ (Wrote.refl _ _) rfl
        | 1 =>
          simp only [List.getElem?_toArray, List.getElem?_cons_zero, List.getElem?_cons_succ, Option.some.injEq] at ho
          subst ho
          have q0 : a'.tmps[21]?.getD undef = .pointer (some ⟨z, 0, none⟩) := hw 0 (by kernel_rfl)
          go_simp
          exact hK _ _ (Wrote.refl _ _) rfl
        | 2 =>
          simp only [List.getElem?_toArray, List.getElem?_cons_zero, List.getElem?_cons_succ, Option.some.injEq] at ho
          subst ho
          have q1 : a'.tmps[22]?.getD undef = .pointer (some ⟨z, 0, none⟩) := hw 1 (by kernel_rfl)
          go_simp
          exact hK _ _ (Wrote.refl _ _) rfl
        | 3 =>
          simp only [List.getElem?_toArray, List.getElem?_cons_zero, List.getElem?_cons_succ, Option.some.injEq] at ho
          subst ho
          have t1 := F.get (t := 1) (v := .pointer (some ⟨w.heap.size, 0, none⟩)) (by decide) rfl
          go_simp
          exact hK _ _ (Wrote.refl _ _) rfl
        | 4 =>
          simp only [List.getElem?_toArray, List.getElem?_cons_zero, List.getElem?_cons_succ, Option.some.injEq] at ho
          subst ho
          have q3 : a'.tmps[24]?.getD undef = .pointer (some ⟨w.heap.size, 32, none⟩) := hw 3 (by kernel_rfl)
          go_simp
          exact hK _ _ (Wrote.refl _ _) rfl
        | 5 =>
          simp only [List.getElem?_toArray, List.getElem?_cons_zero, List.getElem?_cons_succ, Option.some.injEq] at ho
          subst ho
          have q4 : a'.tmps[25]?.getD undef = .pointer (some ⟨w.heap.size, 32, none⟩) := hw 4 (by kernel_rfl)
          go_simp
          exact hK _ _ (Wrote.refl _ _) rfl
        | 6 =>
          simp only [List.getElem?_toArray, List.getElem?_cons_zero, List.getElem?_cons_succ, Option.some.injEq] at ho
          subst ho
          have q5 : a'.tmps[26]?.getD undef = .pointer (some ⟨w.heap.size, 32, none⟩) := hw 5 (by kernel_rfl)
          have rB := box_wroteE kS L (fun o ⟨j, oj, hj, hoj, hwj, e⟩ => by omega)
          have rb := boxC rB
          go_simp
          exact hK _ _ (Wrote.refl _ _) rfl
        | 7 =>
          simp only [List.getElem?_toArray, List.getElem?_cons_zero, List.getElem?_cons_succ, Option.some.injEq] at ho
          subst ho
          have q2 : a'.tmps[23]?.getD undef = .pointer (some ⟨z, 44, none⟩) := hw 2 (by kernel_rfl)
          have q6 : a'.tmps[27]?.getD undef = .int .i64 s := hw 6 (by kernel_rfl)
          have rB := box_wroteE k2 L (fun o ⟨j, oj, hj, hoj, hwj, e⟩ => by omega)
          go_simp
          refine (clockPut W z 44 0 s ((boxC rB 44).trans HB2.out.c44) (boxF rB 44)).mono ?_
          rintro e W' ⟨rfl, rfl⟩
          exact hK _ _ ((wroteZ W z 44 _).mono (fun b o _ e => ⟨rfl, e⟩)) (boxSetZ rB 44 _)
        | _ + 8 => simp at ho
      · intro a' W F L hφ
        have p21 : a'.tmps[21]?.getD undef = .pointer (some ⟨z, 0, none⟩) := hφ 0 (by decide)
        have p22 : a'.tmps[22]?.getD undef = .pointer (some ⟨z, 0, none⟩) := hφ 1 (by decide)
        have p23 : a'.tmps[23]?.getD undef = .pointer (some ⟨z, 44, none⟩) := hφ 2 (by decide)
        have p24 : a'.tmps[24]?.getD undef = .pointer (some ⟨w.heap.size, 32, none⟩) := hφ 3 (by decide)
        have p25 : a'.tmps[25]?.getD undef = .pointer (some ⟨w.heap.size, 32, none⟩) := hφ 4 (by decide)
        have p26 : a'.tmps[26]?.getD undef = .pointer (some ⟨w.heap.size, 32, none⟩) := hφ 5 (by decide)
        have p27 : a'.tmps[27]?.getD undef = .int .i64 s := hφ 6 (by decide)
        have e7 := hφ 7 (by decide)
        rw [F.same, show slotsOf [some 21, some 22, some 23, some 24, some 25, some 26, some 27, some 28] = [21, 22, 23, 24, 25, 26, 27, 28] from rfl]
        simp only [List.foldl_cons, List.foldl_nil]
        have LZ := L.mono (S := fun b _ => b = z) (fun b o _ ⟨j, e⟩ => e.2)
        replace kS := box_wroteE kS LZ (fun o (e : _ = _) => by omega)
        replace C0 := C0.trans (LZ.below C0.size (fun b o hb (e : b = z) => by omega))
        have k3 : W.heap[z]? = some (.cells (bs2.setIfInBounds 44 (.int .i64 s)) 171 (0, 0)) := e7
        have HB3 := hide (ApB.put44J HB2.out s)
        clear hφ F L LZ e7 k2 HB2
        generalize a'.tmps[28]?.getD undef = g28
        rw [p21, p22, p23, p24, p25, p26, p27]
        clear p21 p22 p23 p24 p25 p26 p27
        generalize hbs3 : (bs2.setIfInBounds 44 (.int .i64 s)) = bs3 at *
        clear hbs3
        refine hK4 _ _ ?_
        clear hK4
        go_simp
        go_upto_region 5 with (fail)
        rename_i K5 hK5
        refine wp_region_eff [some 29, some 30, some 31, some 32, some 33, some 34, some 35, some 36] (by kernel_rfl) (by kernel_rfl) (by kernel_rfl) (by kernel_rfl) (by first | (simp [slotsOf]; done) | (simp [slotsOf, Act.put]; done))
          (fun j b _ => (j = 7 ∧ b = z))
          (fun i v W => match i with
            | 0 => v = .pointer (some ⟨z, 0, none⟩)
            | 1 => v = .pointer (some ⟨z, 0, none⟩)
            | 2 => v = .pointer (some ⟨z, 45, none⟩)
            | 3 => v = .pointer (some ⟨w.heap.size, 17, none⟩)
            | 4 => v = .bool kn
            | 5 => v = .pointer (some ⟨w.heap.size, 18, none⟩)
            | 6 => v = .int .i64 ka
            | _ => W.heap[z]? = some (.cells ((bs3.setIfInBounds 47 (.bool kn)).setIfInBounds 48 (.int .i64 ka)) 171 (0, 0))) ?_ ?_ ?_
        · intro i j o v W W' hij ho _ hW h
          match i, hij, ho, h with
          | 0, hij, _, h => exact h
          | 1, hij, _, h => exact h
          | 2, hij, _, h => exact h
          | 3, hij, _, h => exact h
          | 4, hij, _, h => exact h
          | 5, hij, _, h => exact h
          | 6, hij, _, h => exact h
          | 7, hij, _, h => exact box_wroteE h hW (fun o e => by omega)
          | _ + 8, _, ho, _ => simp at ho
        · intro i o a' W K8 ho F L hw hK
          match i with
          | 0 =>
            simp only [List.getElem?_toArray, List.getElem?_cons_zero, List.getElem?_cons_succ, Option.some.injEq] at ho
            subst ho
            have t3 := F.get (t := 3) (v := .pointer (some ⟨z, 0, none⟩)) (by decide) rfl
            go_simp
            exact hK _ _ (Wrote.refl _ _) rfl
          | 1 =>
            simp only [List.getElem?_toArray, List.getElem?_cons_zero, List.getElem?_cons_succ, Option.some.injEq] at ho
            subst ho
            have q0 : a'.tmps[29]?.getD undef = .pointer (some ⟨z, 0, none⟩) := hw 0 (by kernel_rfl)
            go_simp
            exact hK _ _ (Wrote.refl _ _) rfl
          | 2 =>
            simp only [List.getElem?_toArray, List.getElem?_cons_zero, List.getElem?_cons_succ, Option.some.injEq] at ho
            subst ho
            have q1 : a'.tmps[30]?.getD undef = .pointer (some ⟨z, 0, none⟩) := hw 1 (by kernel_rfl)
            go_simp
            exact hK _ _ (Wrote.refl _ _) rfl
          | 3 =>
            simp only [List.getElem?_toArray, List.getElem?_cons_zero, List.getElem?_cons_succ, Option.some.injEq] at ho
            subst ho
            have t1 := F.get (t := 1) (v := .pointer (some ⟨w.heap.size, 0, none⟩)) (by decide) rfl
            go_simp
            exact hK _ _ (Wrote.refl _ _) rfl
          | 4 =>
            simp only [List.getElem?_toArray, List.getElem?_cons_zero, List.getElem?_cons_succ, Option.some.injEq] at ho
            subst ho
            have q3 : a'.tmps[32]?.getD undef = .pointer (some ⟨w.heap.size, 17, none⟩) := hw 3 (by kernel_rfl)
            have rB := box_wroteE kS L (fun o ⟨j, oj, hj, hoj, hwj, e⟩ => by omega)
            have rb := boxC rB
            go_simp
            exact hK _ _ (Wrote.refl _ _) rfl
          | 5 =>
            simp only [List.getElem?_toArray, List.getElem?_cons_zero, List.getElem?_cons_succ, Option.some.injEq] at ho
            subst ho
            have t1 := F.get (t := 1) (v := .pointer (some ⟨w.heap.size, 0, none⟩)) (by decide) rfl
            go_simp
            exact hK _ _ (Wrote.refl _ _) rfl
          | 6 =>
            simp only [List.getElem?_toArray, List.getElem?_cons_zero, List.getElem?_cons_succ, Option.some.injEq] at ho
            subst ho
            have q5 : a'.tmps[34]?.getD undef = .pointer (some ⟨w.heap.size, 18, none⟩) := hw 5 (by kernel_rfl)
            have rB := box_wroteE kS L (fun o ⟨j, oj, hj, hoj, hwj, e⟩ => by omega)
            have rb := boxC rB
            go_simp
            exact hK _ _ (Wrote.refl _ _) rfl
          | 7 =>
            simp only [List.getElem?_toArray, List.getElem?_cons_zero, List.getElem?_cons_succ, Option.some.injEq] at ho
            subst ho
            have q2 : a'.tmps[31]?.getD undef = .pointer (some ⟨z, 45, none⟩) := hw 2 (by kernel_rfl)
            have q4 : a'.tmps[33]?.getD undef = .bool kn := hw 4 (by kernel_rfl)
            have q6 : a'.tmps[35]?.getD undef = .int .i64 ka := hw 6 (by kernel_rfl)
            have rB := box_wroteE k3 L (fun o ⟨j, oj, hj, hoj, hwj, e⟩ => by omega)
            go_simp
            refine (hearPut W z 45 bs3 _ false kn 0 ka rB HB3.out.c45 HB3.out.c47 HB3.out.c48).mono ?_
            rintro e W' ⟨rfl, hW, kk⟩
            exact hK _ _ (hW.mono (fun b o _ e => ⟨rfl, e⟩)) kk
          | _ + 8 => simp at ho
        · intro a' W F L hφ
          have p29 : a'.tmps[29]?.getD undef = .pointer (some ⟨z, 0, none⟩) := hφ 0 (by decide)
          have p30 : a'.tmps[30]?.getD undef = .pointer (some ⟨z, 0, none⟩) := hφ 1 (by decide)
          have p31 : a'.tmps[31]?.getD undef = .pointer (some ⟨z, 45, none⟩) := hφ 2 (by decide)
          have p32 : a'.tmps[32]?.getD undef = .pointer (some ⟨w.heap.size, 17, none⟩) := hφ 3 (by decide)
          have p33 : a'.tmps[33]?.getD undef = .bool kn := hφ 4 (by decide)
          have p34 : a'.tmps[34]?.getD undef = .pointer (some ⟨w.heap.size, 18, none⟩) := hφ 5 (by decide)
          have p35 : a'.tmps[35]?.getD undef = .int .i64 ka := hφ 6 (by decide)
          have e7 := hφ 7 (by decide)
          rw [F.same, show slotsOf [some 29, some 30, some 31, some 32, some 33, some 34, some 35, some 36] = [29, 30, 31, 32, 33, 34, 35, 36] from rfl]
          simp only [List.foldl_cons, List.foldl_nil]
          have LZ := L.mono (S := fun b _ => b = z) (fun b o _ ⟨j, e⟩ => e.2)
          replace kS := box_wroteE kS LZ (fun o (e : _ = _) => by omega)
          replace C0 := C0.trans (LZ.below C0.size (fun b o hb (e : b = z) => by omega))
          have k4 : W.heap[z]? = some (.cells ((bs3.setIfInBounds 47 (.bool kn)).setIfInBounds 48 (.int .i64 ka)) 171 (0, 0)) := e7
          have HB4 := hide (ApB.heard HB3.out kn ka)
          clear hφ F L LZ e7 k3 HB3
          generalize a'.tmps[36]?.getD undef = g36
          rw [p29, p30, p31, p32, p33, p34, p35]
          clear p29 p30 p31 p32 p33 p34 p35
          generalize hbs4 : ((bs3.setIfInBounds 47 (.bool kn)).setIfInBounds 48 (.int .i64 ka)) = bs4 at *
          clear hbs4
          refine hK5 _ _ ?_
          clear hK5
          go_simp
          go_wp2
          go_ret
          exact ⟨z, rfl, by omega, ⟨_, k4, HB4.out⟩, C0⟩
end Go.Proofs.YtjcaligejlhjdaaGreat
