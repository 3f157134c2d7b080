/-
  Chapter 15 of the program by its contracts: what a console at work does next, what it lacks.
-/
import Derived.Test.YtjcaligejlhjdaaGreatDoorUK
import Derived.Deep.DeepCutAuto
namespace Go.Proofs.YtjcaligejlhjdaaGreatDoor
set_option linter.unusedVariables false
set_option linter.unusedSimpArgs false
open Go.ChangeShapes Go.WideShapes Go.ChangeAt Go.RowKit Go.Sort
theorem infoDeed : (Tryz.prog.info? 81).map (·.size) = some 7 := by kernel_rfl
theorem infoInstrK : (Tryz.prog.info? 79).map (·.size) = some 2 := by kernel_rfl
def deedU (nm as' : Bool) (op arg A X : Int) : Array Value := if nm = true then #[.int .i64 65530, .int .i64 0, .int .i64 0, .int .i64 0, .int .i64 0, .int .i64 0, .int .i64 7] else if as' = true then #[.int .i64 65534, .int .i64 0, .int .i64 0, .int .i64 0, .int .i64 0, .int .i64 0, .int .i64 7] else #[.int .i64 0, .int .i64 op, .int .i64 arg, .int .i64 (accOf op), .int .i64 (accAt op arg X), .int .i64 (accV op A), .int .i64 (cycOf op)]
theorem wroteRowK {w : World} {g : Nat} {old : Array Value} {t : TypeId} (hg : w.heap[g]? = some (.cells old t (0, 0))) (cs : Array Value) : Wrote (fun b _ => b = g) w (w.setRow g cs) := wrote_setRowU hg cs
/-- What is written behind into a block that is newer. -/
theorem Wrote.behind {R : Nat → Nat → Prop} {u v w x : World} {g : Nat} (h : Wrote R u v) (k : Wrote R v w) (hg : u.heap.size ≤ g) (l : Wrote (fun b _ => b = g) w x) : Wrote R u x :=
  have h2 := h.trans k
  ⟨l.os.trans h2.os, l.tape.trans h2.tape, l.output.trans h2.output, Nat.le_trans h2.size l.size,
    fun i hi hr => (l.block i (Nat.lt_of_lt_of_le hi h2.size) (fun _ e => by omega)).trans (h2.block i hi hr),
    fun b o hb hr => (l.cell b o (Nat.lt_of_lt_of_le hb h2.size) (fun e => by omega)).trans (h2.cell b o hb hr),
    fun b o hb => (l.frozen b o (Nat.lt_of_lt_of_le hb h2.size)).trans (h2.frozen b o hb)⟩
set_option maxHeartbeats 4000000 in
theorem nextAp (w0 w : World) (z : Nat) (cs : Array Value) (T p s : Int) (kn : Bool) (ka : Int) (F G : Nat → Nat → Prop) (u0 u2 : Value) (m : Nat) (ln : Nat → Nat) (f : Nat → Nat → Int) (nr : Nat) (g : Nat → Int) (bank A X S Pc : Int) (Z N C I nm : Bool) (L0 : Below w0.heap.size w0 w) (hz : w0.heap.size ≤ z) (H : ApBox w z cs T p s kn ka) (T0 : OpTab w0)
    (i0 : IntSS .i64 w0 F u0 m ln f) (i2 : Ints .i64 w0 G u2 nr g) (f0 : cs[0]? = some u0) (f2 : cs[2]? = some u2) (f3 : cs[3]? = some (.int .i64 bank)) (f4 : cs[4]? = some (.int .i64 A)) (f5 : cs[5]? = some (.int .i64 X)) (f6 : cs[6]? = some (.int .i64 S)) (f7 : cs[7]? = some (.int .i64 Pc)) (f8 : cs[8]? = some (.bool Z)) (f9 : cs[9]? = some (.bool N)) (f10 : cs[10]? = some (.bool C)) (f11 : cs[11]? = some (.bool I)) (f15 : cs[15]? = some (.bool nm)) :
    Calls Tryz.prog 67 #[.pointer (some ⟨z, 0, none⟩)] w fun e w' => e = .returned (.agg (deedU nm (kn && !I) (peekV m ln f nr g bank Pc) (fetchA (peekV m ln f nr g bank) Pc) A X)) ∧ ApBox w' z cs T p s kn ka ∧ Wrote (fun b _ => b = z) w w' := by
  obtain ⟨op, hop⟩ : ∃ x, Hid (x = peekV m ln f nr g bank Pc) := ⟨_, rfl⟩
  obtain ⟨arg, harg⟩ : ∃ x, Hid (x = fetchA (peekV m ln f nr g bank) Pc) := ⟨_, rfl⟩
  rw [← hop.out, ← harg.out]
  obtain ⟨as', has⟩ : ∃ x, Hid (x = (kn && !I)) := ⟨_, rfl⟩
  rw [← has.out]
  have HAs := hide (fun W h => askedAp W z cs T p s kn ka I h f11)
  rw [← has.out] at HAs
  obtain ⟨bs, k, hb⟩ := H
  have HB := hide hb
  have g15 := (hb.lo 15 (by omega)).trans f15
  clear hb
  have C0 : Below w.heap.size w (w.alloc (.cells #[.int .i64 0, .int .i64 0, .int .i64 0, .int .i64 0, .int .i64 0, .int .i64 0, .int .i64 0] 81)) := (Below.refl _ _).alloc (Nat.le_refl _) _
  have kD := box_new w #[.int .i64 0, .int .i64 0, .int .i64 0, .int .i64 0, .int .i64 0, .int .i64 0, .int .i64 0] 81
  have hzw : z < w.heap.size := boxLt k
  replace k := boxA k (.cells #[.int .i64 0, .int .i64 0, .int .i64 0, .int .i64 0, .int .i64 0, .int .i64 0, .int .i64 0] 81)
  go_enter Tryz.func67, Tryz.ntmps67
  go_upto_region 1 with (fail)
  generalize w.alloc (.cells #[.int .i64 0, .int .i64 0, .int .i64 0, .int .i64 0, .int .i64 0, .int .i64 0, .int .i64 0] 81) = W0 at *
  have c0 := boxC k
  cases nm
  case true =>
    go_wp2_with (refine wpList_store_row rfl _ _ _ rfl (w.heap.size) #[.int .i64 65530, .int .i64 0, .int .i64 0, .int .i64 0, .int .i64 0, .int .i64 0, .int .i64 7] rfl rfl _ _ kD infoDeed rfl (by kernel_rfl) ?_)
    have kF := setRow_heap _ _ _ #[.int .i64 65530, .int .i64 0, .int .i64 0, .int .i64 0, .int .i64 0, .int .i64 0, .int .i64 7] _ _ kD
    have WW := wroteRowK kD #[.int .i64 65530, .int .i64 0, .int .i64 0, .int .i64 0, .int .i64 0, .int .i64 0, .int .i64 7]
    have k3 := box_wroteE k WW (fun o (e : _ = _) => by omega)
    have L3 := (Wrote.refl (fun b _ => b = z) w).behind (wrote_below C0 _) (Nat.le_refl _) WW
    clear c0 k kD WW C0
    generalize W0.setRow w.heap.size #[.int .i64 65530, .int .i64 0, .int .i64 0, .int .i64 0, .int .i64 0, .int .i64 0, .int .i64 7] = W4 at *
    go_wp2
    refine bodyPost_ret (v := .agg #[.int .i64 65530, .int .i64 0, .int .i64 0, .int .i64 0, .int .i64 0, .int .i64 0, .int .i64 7]) (by exact results_cell_row Tryz.results67 _ _ w.heap.size _ _ _ _ rfl kF Tryz.underlying81 rfl infoDeed) rfl ?_
    exact ⟨rfl, ⟨bs, k3, HB.out⟩, L3⟩
  go_wp2_with fail
  refine (HAs.out W0 ⟨bs, k, HB.out⟩).mono ?_
  clear c0 HAs
  rintro e W1 ⟨rfl, HX, hW1⟩
  obtain ⟨bs', k1, hb'⟩ := HX
  have kD1 := box_wroteE kD hW1 (fun o (e : _ = _) => by omega)
  have LW := hide ((wrote_below C0 (fun b _ => b = z)).trans hW1)
  have HB' := hide hb'
  have g0 := (hb'.lo 0 (by omega)).trans f0
  have g2 := (hb'.lo 2 (by omega)).trans f2
  have g3 := (hb'.lo 3 (by omega)).trans f3
  have g4 := (hb'.lo 4 (by omega)).trans f4
  have g5 := (hb'.lo 5 (by omega)).trans f5
  have g6 := (hb'.lo 6 (by omega)).trans f6
  have g7 := (hb'.lo 7 (by omega)).trans f7
  have g8 := (hb'.lo 8 (by omega)).trans f8
  have g9 := (hb'.lo 9 (by omega)).trans f9
  have g10 := (hb'.lo 10 (by omega)).trans f10
  have g11 := (hb'.lo 11 (by omega)).trans f11
  clear hb' kD k hW1 HB
  have c1 := boxC k1
  cases as'
  case true =>
    go_wp2_with (refine wpList_store_row rfl _ _ _ rfl (w.heap.size) #[.int .i64 65534, .int .i64 0, .int .i64 0, .int .i64 0, .int .i64 0, .int .i64 0, .int .i64 7] rfl rfl _ _ kD1 infoDeed rfl (by kernel_rfl) ?_)
    have kF := setRow_heap _ _ _ #[.int .i64 65534, .int .i64 0, .int .i64 0, .int .i64 0, .int .i64 0, .int .i64 0, .int .i64 7] _ _ kD1
    have WW := wroteRowK kD1 #[.int .i64 65534, .int .i64 0, .int .i64 0, .int .i64 0, .int .i64 0, .int .i64 0, .int .i64 7]
    have k3 := box_wroteE k1 WW (fun o (e : _ = _) => by omega)
    have L3 := LW.out.behind (Wrote.refl _ _) (Nat.le_refl _) WW
    clear c1 k1 kD1 WW C0 LW
    generalize W1.setRow w.heap.size #[.int .i64 65534, .int .i64 0, .int .i64 0, .int .i64 0, .int .i64 0, .int .i64 0, .int .i64 7] = W4 at *
    go_wp2
    refine bodyPost_ret (v := .agg #[.int .i64 65534, .int .i64 0, .int .i64 0, .int .i64 0, .int .i64 0, .int .i64 0, .int .i64 7]) (by exact results_cell_row Tryz.results67 _ _ w.heap.size _ _ _ _ rfl kF Tryz.underlying81 rfl infoDeed) rfl ?_
    exact ⟨rfl, ⟨bs', k3, HB'.out⟩, L3⟩
  have LT := hide (belowZ L0 hz LW.out)
  obtain ⟨S1, hS1⟩ : ∃ x, Hid (x = W1.heap.size) := ⟨_, rfl⟩
  have hS : Hid (S1 ≤ W1.heap.size) := by show _ ≤ _; rw [hS1.out]; exact Nat.le_refl _
  have hwS : w.heap.size < S1 := by rw [hS1.out]; exact boxLt kD1
  have HFt := hide (fun W (L : Wrote Nowhere W1 W) => implFetch W F G u0 u2 m ln f nr g bank Pc (i0.keep (wrote_below (LT.out.trans (L.below LT.out.size (fun _ _ _ x => x))) Nowhere) (fun _ _ _ x => x)) (i2.keep (wrote_below (LT.out.trans (L.below LT.out.size (fun _ _ _ x => x))) Nowhere) (fun _ _ _ x => x)) (T0.mono (LT.out.trans (L.below LT.out.size (fun _ _ _ x => x)))))
  rw [← hop.out, ← harg.out] at HFt
  clear c1 C0
  go_upto_region 5 with (fail)
  rename_i K5 hK5
  refine wp_region_effL 18 [some 18, some 19, some 20, some 21, some 22, some 23, some 24, some 25, some 26, some 27, some 28, some 29, some 30, some 31, some 32, some 33, some 34, some 3, none] (by kernel_rfl) (by kernel_rfl) (by kernel_rfl) (by kernel_rfl) (by kernel_rfl) (by first | (simp [slotsOf]; done) | (simp [slotsOf, Act.put]; done))
    (fun _ => Nowhere)
    (fun i V lo hi W => match i with
      | 0 => V 0 = .pointer (some ⟨z, 0, none⟩)
      | 1 => V 1 = .pointer (some ⟨z, 0, none⟩)
      | 2 => V 2 = .pointer (some ⟨z, 0, none⟩)
      | 3 => V 3 = .pointer (some ⟨z, 0, none⟩)
      | 4 => V 4 = .agg #[u0]
      | 5 => V 5 = .pointer (some ⟨z, 0, none⟩)
      | 6 => V 6 = .pointer (some ⟨z, 0, none⟩)
      | 7 => V 7 = .pointer (some ⟨z, 0, none⟩)
      | 8 => V 8 = .pointer (some ⟨z, 2, none⟩)
      | 9 => V 9 = .agg #[u2, .int .i64 bank]
      | 10 => V 10 = .pointer (some ⟨z, 0, none⟩)
      | 11 => V 11 = .pointer (some ⟨z, 0, none⟩)
      | 12 => V 12 = .pointer (some ⟨z, 0, none⟩)
      | 13 => V 13 = .pointer (some ⟨z, 4, none⟩)
      | 14 => V 14 = .pointer (some ⟨z, 7, none⟩)
      | 15 => V 15 = .int .i64 Pc
      | 16 => V 16 = .agg #[.int .i64 op, .int .i64 arg]
      | 17 => ∃ q17, V 17 = .pointer (some ⟨q17, 0, none⟩) ∧ W.heap[q17]? = some (.cells #[.int .i64 0, .int .i64 0] 79 (0, 0)) ∧ S1 ≤ q17
      | _ => True) ?_ ?_ ?_
  · intro i j o V x lo hi W W' hij _ _ ho hnw hlo hhi hW h
    match i, hij, h with
    | 0, hij, h => exact (updV_ne V x hij).trans h
    | 1, hij, h => exact (updV_ne V x hij).trans h
    | 2, hij, h => exact (updV_ne V x hij).trans h
    | 3, hij, h => exact (updV_ne V x hij).trans h
    | 4, hij, h => exact (updV_ne V x hij).trans h
    | 5, hij, h => exact (updV_ne V x hij).trans h
    | 6, hij, h => exact (updV_ne V x hij).trans h
    | 7, hij, h => exact (updV_ne V x hij).trans h
    | 8, hij, h => exact (updV_ne V x hij).trans h
    | 9, hij, h => exact (updV_ne V x hij).trans h
    | 10, hij, h => exact (updV_ne V x hij).trans h
    | 11, hij, h => exact (updV_ne V x hij).trans h
    | 12, hij, h => exact (updV_ne V x hij).trans h
    | 13, hij, h => exact (updV_ne V x hij).trans h
    | 14, hij, h => exact (updV_ne V x hij).trans h
    | 15, hij, h => exact (updV_ne V x hij).trans h
    | 16, hij, h => exact (updV_ne V x hij).trans h
    | 17, hij, ⟨q, h1, h2, h3⟩ => exact ⟨q, (updV_ne V x hij).trans h1, box_wrote h2 hW (fun _ x => x), h3⟩
    | _ + 18, _, _ => exact trivial
  · intro i o a' W K8 hin ho F L hw hK
    have LN : Wrote Nowhere W1 W := L.mono (fun b o _ ⟨j, _, _, _, _, h⟩ => h)
    have hSW : S1 ≤ W.heap.size := Nat.le_trans hS.out LN.size
    match i with
    | 0 =>
      simp only [List.getElem?_toArray, List.getElem?_cons_zero, List.getElem?_cons_succ, Option.some.injEq] at ho
      subst ho
      have t0 := F.get (t := 0) (v := .pointer (some ⟨z, 0, none⟩)) (by decide) rfl
      go_simp
      exact hK _ _ (Wrote.refl _ _) (updV_same _ _ _)
    | 1 =>
      simp only [List.getElem?_toArray, List.getElem?_cons_zero, List.getElem?_cons_succ, Option.some.injEq] at ho
      subst ho
      have q0 : a'.tmps[18]?.getD undef = .pointer (some ⟨z, 0, none⟩) := by obtain ⟨_, _, _, _, q⟩ := hw 0 (by kernel_rfl); exact q
      go_simp
      exact hK _ _ (Wrote.refl _ _) (updV_same _ _ _)
    | 2 =>
      simp only [List.getElem?_toArray, List.getElem?_cons_zero, List.getElem?_cons_succ, Option.some.injEq] at ho
      subst ho
      have q1 : a'.tmps[19]?.getD undef = .pointer (some ⟨z, 0, none⟩) := by obtain ⟨_, _, _, _, q⟩ := hw 1 (by kernel_rfl); exact q
      go_simp
      exact hK _ _ (Wrote.refl _ _) (updV_same _ _ _)
    | 3 =>
      simp only [List.getElem?_toArray, List.getElem?_cons_zero, List.getElem?_cons_succ, Option.some.injEq] at ho
      subst ho
      have q2 : a'.tmps[20]?.getD undef = .pointer (some ⟨z, 0, none⟩) := by obtain ⟨_, _, _, _, q⟩ := hw 2 (by kernel_rfl); exact q
      go_simp
      exact hK _ _ (Wrote.refl _ _) (updV_same _ _ _)
    | 4 =>
      simp only [List.getElem?_toArray, List.getElem?_cons_zero, List.getElem?_cons_succ, Option.some.injEq] at ho
      subst ho
      have q3 : a'.tmps[21]?.getD undef = .pointer (some ⟨z, 0, none⟩) := by obtain ⟨_, _, _, _, q⟩ := hw 3 (by kernel_rfl); exact q
      have rb := boxC (box_wrote k1 LN (fun _ x => x))
      go_simp
      exact hK _ _ (Wrote.refl _ _) (updV_same _ _ _)
    | 5 =>
      simp only [List.getElem?_toArray, List.getElem?_cons_zero, List.getElem?_cons_succ, Option.some.injEq] at ho
      subst ho
      have t0 := F.get (t := 0) (v := .pointer (some ⟨z, 0, none⟩)) (by decide) rfl
      go_simp
      exact hK _ _ (Wrote.refl _ _) (updV_same _ _ _)
    | 6 =>
      simp only [List.getElem?_toArray, List.getElem?_cons_zero, List.getElem?_cons_succ, Option.some.injEq] at ho
      subst ho
      have q5 : a'.tmps[23]?.getD undef = .pointer (some ⟨z, 0, none⟩) := by obtain ⟨_, _, _, _, q⟩ := hw 5 (by kernel_rfl); exact q
      go_simp
      exact hK _ _ (Wrote.refl _ _) (updV_same _ _ _)
    | 7 =>
      simp only [List.getElem?_toArray, List.getElem?_cons_zero, List.getElem?_cons_succ, Option.some.injEq] at ho
      subst ho
      have q6 : a'.tmps[24]?.getD undef = .pointer (some ⟨z, 0, none⟩) := by obtain ⟨_, _, _, _, q⟩ := hw 6 (by kernel_rfl); exact q
      go_simp
      exact hK _ _ (Wrote.refl _ _) (updV_same _ _ _)
    | 8 =>
      simp only [List.getElem?_toArray, List.getElem?_cons_zero, List.getElem?_cons_succ, Option.some.injEq] at ho
      subst ho
      have q7 : a'.tmps[25]?.getD undef = .pointer (some ⟨z, 0, none⟩) := by obtain ⟨_, _, _, _, q⟩ := hw 7 (by kernel_rfl); exact q
      go_simp
      exact hK _ _ (Wrote.refl _ _) (updV_same _ _ _)
    | 9 =>
      simp only [List.getElem?_toArray, List.getElem?_cons_zero, List.getElem?_cons_succ, Option.some.injEq] at ho
      subst ho
      have q8 : a'.tmps[26]?.getD undef = .pointer (some ⟨z, 2, none⟩) := by obtain ⟨_, _, _, _, q⟩ := hw 8 (by kernel_rfl); exact q
      have rb := boxC (box_wrote k1 LN (fun _ x => x))
      go_simp
      exact hK _ _ (Wrote.refl _ _) (updV_same _ _ _)
    | 10 =>
      simp only [List.getElem?_toArray, List.getElem?_cons_zero, List.getElem?_cons_succ, Option.some.injEq] at ho
      subst ho
      have t0 := F.get (t := 0) (v := .pointer (some ⟨z, 0, none⟩)) (by decide) rfl
      go_simp
      exact hK _ _ (Wrote.refl _ _) (updV_same _ _ _)
    | 11 =>
      simp only [List.getElem?_toArray, List.getElem?_cons_zero, List.getElem?_cons_succ, Option.some.injEq] at ho
      subst ho
      have q10 : a'.tmps[28]?.getD undef = .pointer (some ⟨z, 0, none⟩) := by obtain ⟨_, _, _, _, q⟩ := hw 10 (by kernel_rfl); exact q
      go_simp
      exact hK _ _ (Wrote.refl _ _) (updV_same _ _ _)
    | 12 =>
      simp only [List.getElem?_toArray, List.getElem?_cons_zero, List.getElem?_cons_succ, Option.some.injEq] at ho
      subst ho
      have q11 : a'.tmps[29]?.getD undef = .pointer (some ⟨z, 0, none⟩) := by obtain ⟨_, _, _, _, q⟩ := hw 11 (by kernel_rfl); exact q
      go_simp
      exact hK _ _ (Wrote.refl _ _) (updV_same _ _ _)
    | 13 =>
      simp only [List.getElem?_toArray, List.getElem?_cons_zero, List.getElem?_cons_succ, Option.some.injEq] at ho
      subst ho
      have q12 : a'.tmps[30]?.getD undef = .pointer (some ⟨z, 0, none⟩) := by obtain ⟨_, _, _, _, q⟩ := hw 12 (by kernel_rfl); exact q
      go_simp
      exact hK _ _ (Wrote.refl _ _) (updV_same _ _ _)
    | 14 =>
      simp only [List.getElem?_toArray, List.getElem?_cons_zero, List.getElem?_cons_succ, Option.some.injEq] at ho
      subst ho
      have q13 : a'.tmps[31]?.getD undef = .pointer (some ⟨z, 4, none⟩) := by obtain ⟨_, _, _, _, q⟩ := hw 13 (by kernel_rfl); exact q
      go_simp
      exact hK _ _ (Wrote.refl _ _) (updV_same _ _ _)
    | 15 =>
      simp only [List.getElem?_toArray, List.getElem?_cons_zero, List.getElem?_cons_succ, Option.some.injEq] at ho
      subst ho
      have q14 : a'.tmps[32]?.getD undef = .pointer (some ⟨z, 7, none⟩) := by obtain ⟨_, _, _, _, q⟩ := hw 14 (by kernel_rfl); exact q
      have rb := boxC (box_wrote k1 LN (fun _ x => x))
      go_simp
      exact hK _ _ (Wrote.refl _ _) (updV_same _ _ _)
    | 16 =>
      simp only [List.getElem?_toArray, List.getElem?_cons_zero, List.getElem?_cons_succ, Option.some.injEq] at ho
      subst ho
      have q4 : a'.tmps[22]?.getD undef = .agg #[u0] := by obtain ⟨_, _, _, _, q⟩ := hw 4 (by kernel_rfl); exact q
      have q9 : a'.tmps[27]?.getD undef = .agg #[u2, .int .i64 bank] := by obtain ⟨_, _, _, _, q⟩ := hw 9 (by kernel_rfl); exact q
      have q15 : a'.tmps[33]?.getD undef = .int .i64 Pc := by obtain ⟨_, _, _, _, q⟩ := hw 15 (by kernel_rfl); exact q
      go_simp
      refine (HFt.out W LN).mono ?_
      rintro e W' ⟨rfl, LX⟩
      exact hK _ _ (wrote_below LX _) (updV_same _ _ _)
    | 17 =>
      simp only [List.getElem?_toArray, List.getElem?_cons_zero, List.getElem?_cons_succ, Option.some.injEq] at ho
      subst ho
      go_simp
      exact hK _ _ ((Wrote.refl _ W).alloc _) ⟨_, updV_same _ _ _, box_new W _ _, hSW⟩
    | _ + 18 => omega
  · intro o a' W K8 ho F L lo hi hφ hap hK
    have LN : Wrote Nowhere W1 W := L.mono (fun b o _ ⟨j, h⟩ => h)
    have e0 : a'.tmps[18]?.getD undef = .pointer (some ⟨z, 0, none⟩) := (hφ 0 (by decide)).2.2.2
    have e1 : a'.tmps[19]?.getD undef = .pointer (some ⟨z, 0, none⟩) := (hφ 1 (by decide)).2.2.2
    have e2 : a'.tmps[20]?.getD undef = .pointer (some ⟨z, 0, none⟩) := (hφ 2 (by decide)).2.2.2
    have e3 : a'.tmps[21]?.getD undef = .pointer (some ⟨z, 0, none⟩) := (hφ 3 (by decide)).2.2.2
    have e4 : a'.tmps[22]?.getD undef = .agg #[u0] := (hφ 4 (by decide)).2.2.2
    have e5 : a'.tmps[23]?.getD undef = .pointer (some ⟨z, 0, none⟩) := (hφ 5 (by decide)).2.2.2
    have e6 : a'.tmps[24]?.getD undef = .pointer (some ⟨z, 0, none⟩) := (hφ 6 (by decide)).2.2.2
    have e7 : a'.tmps[25]?.getD undef = .pointer (some ⟨z, 0, none⟩) := (hφ 7 (by decide)).2.2.2
    have e8 : a'.tmps[26]?.getD undef = .pointer (some ⟨z, 2, none⟩) := (hφ 8 (by decide)).2.2.2
    have e9 : a'.tmps[27]?.getD undef = .agg #[u2, .int .i64 bank] := (hφ 9 (by decide)).2.2.2
    have e10 : a'.tmps[28]?.getD undef = .pointer (some ⟨z, 0, none⟩) := (hφ 10 (by decide)).2.2.2
    have e11 : a'.tmps[29]?.getD undef = .pointer (some ⟨z, 0, none⟩) := (hφ 11 (by decide)).2.2.2
    have e12 : a'.tmps[30]?.getD undef = .pointer (some ⟨z, 0, none⟩) := (hφ 12 (by decide)).2.2.2
    have e13 : a'.tmps[31]?.getD undef = .pointer (some ⟨z, 4, none⟩) := (hφ 13 (by decide)).2.2.2
    have e14 : a'.tmps[32]?.getD undef = .pointer (some ⟨z, 7, none⟩) := (hφ 14 (by decide)).2.2.2
    have e15 : a'.tmps[33]?.getD undef = .int .i64 Pc := (hφ 15 (by decide)).2.2.2
    have e16 : a'.tmps[34]?.getD undef = .agg #[.int .i64 op, .int .i64 arg] := (hφ 16 (by decide)).2.2.2
    obtain ⟨q17, e17, k17, s17⟩ := (hφ 17 (by decide)).2.2.2
    replace e17 : a'.tmps[3]?.getD undef = .pointer (some ⟨q17, 0, none⟩) := e17
    simp only [List.getElem?_toArray, List.getElem?_cons_zero, List.getElem?_cons_succ, Option.some.injEq] at ho
    subst ho
    refine wp_store_row _ _ _ rfl q17 #[.int .i64 op, .int .i64 arg] (by simpa [Act.eval] using e17) (by simpa [Act.eval] using e16) _ _ k17 infoInstrK rfl (by kernel_rfl) ?_
    refine hK _ _ ?_
    have WW := wroteRowK k17 #[.int .i64 op, .int .i64 arg]
    have kI := setRow_heap _ _ _ #[.int .i64 op, .int .i64 arg] _ _ k17
    have sD := boxLt kD1
    have sz := boxLt k1
    have kD2 := box_wroteE (box_wroteE kD1 LN (fun _ x => x)) WW (fun o (e : _ = _) => by omega)
    have k2 := box_wroteE (box_wroteE k1 LN (fun _ x => x)) WW (fun o (e : _ = _) => by omega)
    have L2 : Wrote (fun b _ => b = z) w (W.setRow q17 #[.int .i64 op, .int .i64 arg]) := LW.out.behind (LN.mono (fun _ _ _ h => h.elim)) (by omega) WW
    rw [F.same, show slotsOf [some 18, some 19, some 20, some 21, some 22, some 23, some 24, some 25, some 26, some 27, some 28, some 29, some 30, some 31, some 32, some 33, some 34, some 3, none] = [18, 19, 20, 21, 22, 23, 24, 25, 26, 27, 28, 29, 30, 31, 32, 33, 34, 3] from rfl]
    simp only [List.foldl_cons, List.foldl_nil]
    rw [e17]
    generalize a'.tmps[18]?.getD undef = g18
    generalize a'.tmps[19]?.getD undef = g19
    generalize a'.tmps[20]?.getD undef = g20
    generalize a'.tmps[21]?.getD undef = g21
    generalize a'.tmps[22]?.getD undef = g22
    generalize a'.tmps[23]?.getD undef = g23
    generalize a'.tmps[24]?.getD undef = g24
    generalize a'.tmps[25]?.getD undef = g25
    generalize a'.tmps[26]?.getD undef = g26
    generalize a'.tmps[27]?.getD undef = g27
    generalize a'.tmps[28]?.getD undef = g28
    generalize a'.tmps[29]?.getD undef = g29
    generalize a'.tmps[30]?.getD undef = g30
    generalize a'.tmps[31]?.getD undef = g31
    generalize a'.tmps[32]?.getD undef = g32
    generalize a'.tmps[33]?.getD undef = g33
    generalize a'.tmps[34]?.getD undef = g34
    have LT2 := hide (belowZ L0 hz L2)
    clear hφ hap F L LN WW k17 e17 hK kD1 k1 LW
    generalize W.setRow q17 #[.int .i64 op, .int .i64 arg] = W2 at *
    refine hK5 _ _ ?_
    clear hK5
    have HAc := hide (fun W (L : Below w0.heap.size w0 W) => implAccess W op arg A X S Pc Z N C I (T0.mono L))
    have HCy := hide (fun W (L : Below w0.heap.size w0 W) => implOpCycles W op (T0.mono L))
    have c2 := boxU k2
    have cI := boxU kI
    go_simp
    go_upto_region 6 with (fail)
    refine wp_region_quiet_below (by kernel_rfl) (by kernel_rfl) ?_
    repeat (go_big_quiet_step (first | (go_at_call 108; with_reducible exact Calls.regrown_of (HAc.out _ (below_snoc LT2.out (below_regrown W2 _ _))))))
    refine wpQuiet_nil ?_
    intro _ hw'
    obtain ⟨⟨dq, osq⟩, hw''⟩ := hw'
    subst hw''
    have LQ := below_regrown W2 dq osq
    replace L2 := L2.trans (wrote_below LQ _)
    replace LT2 := hide (below_snoc LT2.out LQ)
    replace k2 := box_keep k2 LQ (boxLt k2)
    replace kI := box_keep kI LQ (boxLt kI)
    replace kD2 := box_keep kD2 LQ (boxLt kD2)
    clear c2 cI LQ
    generalize grow (redrawn W2 dq) osq = W3 at *
    go_upto_region 7 with (fail)
    rename_i K7 hK7
    have hS : Hid (S1 ≤ W3.heap.size) := by have := boxLt kI; show _ ≤ _; omega
    refine wp_region_effL 8 [some 46, some 47, some 48, some 49, some 50, some 51, some 52, some 53, none] (by kernel_rfl) (by kernel_rfl) (by kernel_rfl) (by kernel_rfl) (by kernel_rfl) (by first | (simp [slotsOf]; done) | (simp [slotsOf, Act.put]; done))
      (fun _ => Nowhere)
      (fun i V lo hi W => match i with
        | 0 => V 0 = .agg #[.int .i64 op, .int .i64 arg]
        | 1 => V 1 = .int .i64 (accOf op)
        | 2 => V 2 = .int .i64 (accAt op arg X)
        | 3 => V 3 = .int .i64 (accV op A)
        | 4 => V 4 = .pointer (some ⟨q17, 0, none⟩)
        | 5 => V 5 = .int .i64 op
        | 6 => V 6 = .int .i64 (cycOf op)
        | 7 => V 7 = .agg #[.int .i64 0, .int .i64 op, .int .i64 arg, .int .i64 (accOf op), .int .i64 (accAt op arg X), .int .i64 (accV op A), .int .i64 (cycOf op)]
        | _ => True) ?_ ?_ ?_
    · intro i j o V x lo hi W W' hij _ _ ho hnw hlo hhi hW h
      match i, hij, h with
      | 0, hij, h => exact (updV_ne V x hij).trans h
      | 1, hij, h => exact (updV_ne V x hij).trans h
      | 2, hij, h => exact (updV_ne V x hij).trans h
      | 3, hij, h => exact (updV_ne V x hij).trans h
      | 4, hij, h => exact (updV_ne V x hij).trans h
      | 5, hij, h => exact (updV_ne V x hij).trans h
      | 6, hij, h => exact (updV_ne V x hij).trans h
      | 7, hij, h => exact (updV_ne V x hij).trans h
      | _ + 8, _, _ => exact trivial
    · intro i o a' W K8 hin ho F L hw hK
      have LN : Wrote Nowhere W3 W := L.mono (fun b o _ ⟨j, _, _, _, _, h⟩ => h)
      have hSW : S1 ≤ W.heap.size := Nat.le_trans hS.out LN.size
      match i with
      | 0 =>
        simp only [List.getElem?_toArray, List.getElem?_cons_zero, List.getElem?_cons_succ, Option.some.injEq] at ho
        subst ho
        have t3 := F.get (t := 3) (v := .pointer (some ⟨q17, 0, none⟩)) (by decide) rfl
        have rb := boxC (box_wrote kI LN (fun _ x => x))
        go_simp
        exact hK _ _ (Wrote.refl _ _) (updV_same _ _ _)
      | 1 =>
        simp only [List.getElem?_toArray, List.getElem?_cons_zero, List.getElem?_cons_succ, Option.some.injEq] at ho
        subst ho
        have t4 := F.get (t := 4) (v := .int .i64 (accOf op)) (by decide) rfl
        go_simp
        exact hK _ _ (Wrote.refl _ _) (updV_same _ _ _)
      | 2 =>
        simp only [List.getElem?_toArray, List.getElem?_cons_zero, List.getElem?_cons_succ, Option.some.injEq] at ho
        subst ho
        have t5 := F.get (t := 5) (v := .int .i64 (accAt op arg X)) (by decide) rfl
        go_simp
        exact hK _ _ (Wrote.refl _ _) (updV_same _ _ _)
      | 3 =>
        simp only [List.getElem?_toArray, List.getElem?_cons_zero, List.getElem?_cons_succ, Option.some.injEq] at ho
        subst ho
        have t6 := F.get (t := 6) (v := .int .i64 (accV op A)) (by decide) rfl
        go_simp
        exact hK _ _ (Wrote.refl _ _) (updV_same _ _ _)
      | 4 =>
        simp only [List.getElem?_toArray, List.getElem?_cons_zero, List.getElem?_cons_succ, Option.some.injEq] at ho
        subst ho
        have t3 := F.get (t := 3) (v := .pointer (some ⟨q17, 0, none⟩)) (by decide) rfl
        go_simp
        exact hK _ _ (Wrote.refl _ _) (updV_same _ _ _)
      | 5 =>
        simp only [List.getElem?_toArray, List.getElem?_cons_zero, List.getElem?_cons_succ, Option.some.injEq] at ho
        subst ho
        have q4 : a'.tmps[50]?.getD undef = .pointer (some ⟨q17, 0, none⟩) := by obtain ⟨_, _, _, _, q⟩ := hw 4 (by kernel_rfl); exact q
        have rb := boxC (box_wrote kI LN (fun _ x => x))
        go_simp
        exact hK _ _ (Wrote.refl _ _) (updV_same _ _ _)
      | 6 =>
        simp only [List.getElem?_toArray, List.getElem?_cons_zero, List.getElem?_cons_succ, Option.some.injEq] at ho
        subst ho
        have q5 : a'.tmps[51]?.getD undef = .int .i64 op := by obtain ⟨_, _, _, _, q⟩ := hw 5 (by kernel_rfl); exact q
        go_simp
        refine (HCy.out W (LT2.out.trans ((LN).below LT2.out.size (fun _ _ _ x => x)))).mono ?_
        rintro e W' ⟨rfl, LX⟩
        exact hK _ _ (wrote_below LX _) (updV_same _ _ _)
      | 7 =>
        simp only [List.getElem?_toArray, List.getElem?_cons_zero, List.getElem?_cons_succ, Option.some.injEq] at ho
        subst ho
        have q0 : a'.tmps[46]?.getD undef = .agg #[.int .i64 op, .int .i64 arg] := by obtain ⟨_, _, _, _, q⟩ := hw 0 (by kernel_rfl); exact q
        have q1 : a'.tmps[47]?.getD undef = .int .i64 (accOf op) := by obtain ⟨_, _, _, _, q⟩ := hw 1 (by kernel_rfl); exact q
        have q2 : a'.tmps[48]?.getD undef = .int .i64 (accAt op arg X) := by obtain ⟨_, _, _, _, q⟩ := hw 2 (by kernel_rfl); exact q
        have q3 : a'.tmps[49]?.getD undef = .int .i64 (accV op A) := by obtain ⟨_, _, _, _, q⟩ := hw 3 (by kernel_rfl); exact q
        have q6 : a'.tmps[52]?.getD undef = .int .i64 (cycOf op) := by obtain ⟨_, _, _, _, q⟩ := hw 6 (by kernel_rfl); exact q
        go_simp
        exact hK _ _ (Wrote.refl _ _) (updV_same _ _ _)
      | _ + 8 => omega
    · intro o a' W K8 ho F L lo hi hφ hap hK
      have LN : Wrote Nowhere W3 W := L.mono (fun b o _ ⟨j, h⟩ => h)
      have e0 : a'.tmps[46]?.getD undef = .agg #[.int .i64 op, .int .i64 arg] := (hφ 0 (by decide)).2.2.2
      have e1 : a'.tmps[47]?.getD undef = .int .i64 (accOf op) := (hφ 1 (by decide)).2.2.2
      have e2 : a'.tmps[48]?.getD undef = .int .i64 (accAt op arg X) := (hφ 2 (by decide)).2.2.2
      have e3 : a'.tmps[49]?.getD undef = .int .i64 (accV op A) := (hφ 3 (by decide)).2.2.2
      have e4 : a'.tmps[50]?.getD undef = .pointer (some ⟨q17, 0, none⟩) := (hφ 4 (by decide)).2.2.2
      have e5 : a'.tmps[51]?.getD undef = .int .i64 op := (hφ 5 (by decide)).2.2.2
      have e6 : a'.tmps[52]?.getD undef = .int .i64 (cycOf op) := (hφ 6 (by decide)).2.2.2
      have e7 : a'.tmps[53]?.getD undef = .agg #[.int .i64 0, .int .i64 op, .int .i64 arg, .int .i64 (accOf op), .int .i64 (accAt op arg X), .int .i64 (accV op A), .int .i64 (cycOf op)] := (hφ 7 (by decide)).2.2.2
      simp only [List.getElem?_toArray, List.getElem?_cons_zero, List.getElem?_cons_succ, Option.some.injEq] at ho
      subst ho
      refine wp_store_row _ _ _ rfl w.heap.size #[.int .i64 0, .int .i64 op, .int .i64 arg, .int .i64 (accOf op), .int .i64 (accAt op arg X), .int .i64 (accV op A), .int .i64 (cycOf op)] (by simpa [Act.eval] using F.get (t := 2) (v := .pointer (some ⟨w.heap.size, 0, none⟩)) (by decide) rfl) (by simpa [Act.eval] using e7) _ _ (box_wroteE kD2 LN (fun _ x => x)) infoDeed rfl (by kernel_rfl) ?_
      refine hK _ _ ?_
      have kE := box_wroteE kD2 LN (fun _ x => x)
      have WW := wroteRowK kE #[.int .i64 0, .int .i64 op, .int .i64 arg, .int .i64 (accOf op), .int .i64 (accAt op arg X), .int .i64 (accV op A), .int .i64 (cycOf op)]
      have kF := setRow_heap _ _ _ #[.int .i64 0, .int .i64 op, .int .i64 arg, .int .i64 (accOf op), .int .i64 (accAt op arg X), .int .i64 (accV op A), .int .i64 (cycOf op)] _ _ kE
      have k3 := box_wroteE (box_wroteE k2 LN (fun _ x => x)) WW (fun o (e : _ = _) => by omega)
      have L3 : Wrote (fun b _ => b = z) w (W.setRow w.heap.size #[.int .i64 0, .int .i64 op, .int .i64 arg, .int .i64 (accOf op), .int .i64 (accAt op arg X), .int .i64 (accV op A), .int .i64 (cycOf op)]) := L2.behind (LN.mono (fun _ _ _ h => h.elim)) (Nat.le_refl _) WW
      rw [F.same, show slotsOf [some 46, some 47, some 48, some 49, some 50, some 51, some 52, some 53, none] = [46, 47, 48, 49, 50, 51, 52, 53] from rfl]
      simp only [List.foldl_cons, List.foldl_nil]
      generalize a'.tmps[46]?.getD undef = g46
      generalize a'.tmps[47]?.getD undef = g47
      generalize a'.tmps[48]?.getD undef = g48
      generalize a'.tmps[49]?.getD undef = g49
      generalize a'.tmps[50]?.getD undef = g50
      generalize a'.tmps[51]?.getD undef = g51
      generalize a'.tmps[52]?.getD undef = g52
      generalize a'.tmps[53]?.getD undef = g53
      clear hφ hap F L LN WW kE hK kD2 k2 kI L2 e7
      generalize W.setRow w.heap.size #[.int .i64 0, .int .i64 op, .int .i64 arg, .int .i64 (accOf op), .int .i64 (accAt op arg X), .int .i64 (accV op A), .int .i64 (cycOf op)] = W4 at *
      refine hK7 _ _ ?_
      clear hK7
      go_simp
      go_wp2
      refine bodyPost_ret (v := .agg #[.int .i64 0, .int .i64 op, .int .i64 arg, .int .i64 (accOf op), .int .i64 (accAt op arg X), .int .i64 (accV op A), .int .i64 (cycOf op)]) (by exact results_cell_row Tryz.results67 _ _ w.heap.size _ _ _ _ rfl kF Tryz.underlying81 rfl infoDeed) rfl ?_
      exact ⟨rfl, ⟨bs', k3, HB'.out⟩, L3⟩
end Go.Proofs.YtjcaligejlhjdaaGreatDoor
