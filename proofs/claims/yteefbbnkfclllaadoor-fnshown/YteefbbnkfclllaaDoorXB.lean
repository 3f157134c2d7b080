/-
  Chapter 19 of the specification by its contracts: CpuText.
-/
import Derived.Test.YteefbbnkfclllaaDoorC4
import Derived.Test.YteefbbnkfclllaaDoorC5
import Derived.Test.YteefbbnkfclllaaDoorG0
import Derived.Deep.DeepCutAuto
namespace Go.Proofs.YteefbbnkfclllaaDoor
set_option linter.unusedVariables false
set_option linter.unusedSimpArgs false
open Go.ChangeShapes Go.WideShapes Go.ChangeAt Go.RowKit
theorem size_app {a b : ByteArray} {n m : Nat} (ha : a.size ≤ n) (hb : b.size ≤ m) : (a ++ b).size ≤ n + m := by rw [ByteArray.size_append]; omega
/-- A number in digits. -/
def decS (n : Nat) : ByteArray := ⟨(decL n).toArray⟩
theorem decS_size {n : Nat} (h : n < 100000) : (decS n).size ≤ 5 := by
  show (decL n).toArray.size ≤ 5
  rw [List.size_toArray]
  unfold decL
  split
  · decide
  · exact dg_len 5 n (by omega)
theorem l4DigitsS (w : World) (n : Int) (h0 : 0 ≤ n) (h1 : n ≤ 65535) : Calls Tryd.prog 34 #[.int .i64 n] w fun e w' => e = .returned (.string (decS n.toNat)) ∧ Below w.heap.size w w' := by
  have e : n = (n.toNat : Int) := by omega
  rw [e]
  refine (l4Digits w n.toNat (by omega)).mono ?_
  rintro e w' ⟨⟨s, rfl, hs⟩, L⟩
  refine ⟨?_, L⟩
  have : s = decS n.toNat := by
    rw [ByteArray.toList_eq] at hs
    cases s
    unfold decS
    rw [← hs]
  rw [this]
  rfl
def numS (A X S Pc : Int) : ByteArray := (((((((⟨#[65]⟩ ++ decS A.toNat) ++ ⟨#[32, 88]⟩) ++ decS X.toNat) ++ ⟨#[32, 83]⟩) ++ decS S.toNat) ++ ⟨#[32, 80, 99]⟩) ++ decS Pc.toNat) ++ ⟨#[32]⟩
def flagL (Z N C I : Bool) : List UInt8 := (if C then [67] else []) ++ (if Z then [90] else []) ++ (if I then [73] else []) ++ (if N then [78] else [])
def flagS (Z N C I : Bool) : ByteArray := if flagL Z N C I = [] then ⟨#[45]⟩ else ⟨(flagL Z N C I).toArray⟩
def cpuS (A X S Pc : Int) (Z N C I : Bool) : ByteArray := if okCpu A X S Pc then numS A X S Pc ++ flagS Z N C I else ⟨#[]⟩
theorem boxC4 {W : World} {b : Nat} {t : TypeId} {a0 a1 a2 a3 a4 a5 a6 a7 : Value} (h : W.heap[b]? = some (.cells #[a0, a1, a2, a3, a4, a5, a6, a7] t (0, 0))) : W.cell? ⟨b, 4, none⟩ = some a4 ∧ W.cell? ⟨b, 5, none⟩ = some a5 ∧ W.cell? ⟨b, 6, none⟩ = some a6 ∧ W.cell? ⟨b, 7, none⟩ = some a7 := by
  refine ⟨?_, ?_, ?_, ?_⟩ <;> simp [World.cell?, h]
theorem okCpu_parts {A X S Pc : Int} (h : okCpu A X S Pc = true) : (0 ≤ A ∧ A ≤ 255) ∧ (0 ≤ X ∧ X ≤ 255) ∧ (0 ≤ S ∧ S ≤ 255) ∧ (0 ≤ Pc ∧ Pc ≤ 65535) := by
  unfold okCpu at h
  simp only [Bool.and_eq_true] at h
  obtain ⟨⟨⟨h1, h2⟩, h3⟩, h4⟩ := h
  exact ⟨(inB_iff _ _ _).1 h1, (inB_iff _ _ _).1 h2, (inB_iff _ _ _).1 h3, (inB_iff _ _ _).1 h4⟩
set_option maxHeartbeats 4000000 in
set_option maxRecDepth 20000 in
theorem specCpuText (w : World) (A X S Pc : Int) (Z N C I : Bool) : Calls Tryd.prog 17 #[.agg #[.int .i64 A, .int .i64 X, .int .i64 S, .int .i64 Pc, .bool Z, .bool N, .bool C, .bool I]] w fun e w' => e = .returned (.string (cpuS A X S Pc Z N C I)) ∧ Below w.heap.size w w' := by
  have C0 : Below w.heap.size w (w.alloc (.cells #[.int .i64 A, .int .i64 X, .int .i64 S, .int .i64 Pc, .bool Z, .bool N, .bool C, .bool I] 32)) := (Below.refl _ _).alloc (Nat.le_refl _) _
  have k0 : (w.alloc (.cells #[.int .i64 A, .int .i64 X, .int .i64 S, .int .i64 Pc, .bool Z, .bool N, .bool C, .bool I] 32)).heap[w.heap.size]? = some (.cells #[.int .i64 A, .int .i64 X, .int .i64 S, .int .i64 Pc, .bool Z, .bool N, .bool C, .bool I] 32 (0, 0)) := heap_alloc_new w _
  obtain ⟨r, hr⟩ : ∃ r, Hid (r = cpuS A X S Pc Z N C I) := ⟨_, rfl⟩
  rw [← hr.out]
  obtain ⟨ok, hok⟩ : ∃ x, Hid (x = okCpu A X S Pc) := ⟨_, rfl⟩
  have HC := hide (fun W => specCpuOk W A X S Pc Z N C I)
  rw [← hok.out] at HC
  go_enter Tryd.func17, Tryd.ntmps17
  go_wp2_with fail
  refine (HC.out _).mono ?_
  rintro e W1 ⟨rfl, L1⟩
  have C1 := C0.trans (L1.mono C0.size)
  replace k0 := box_keep k0 L1 (boxLt k0)
  clear L1 C0 HC
  cases ok
  · have HR : Hid (r = ⟨#[]⟩) := by show _ = _; rw [hr.out]; unfold cpuS; rw [← hok.out]; rfl
    go_wp2
    go_ret
    exact ⟨by rw [HR.out]; rfl, C1⟩
  · obtain ⟨⟨hA0, hA1⟩, ⟨hX0, hX1⟩, ⟨hS0, hS1⟩, ⟨hP0, hP1⟩⟩ := okCpu_parts hok.out.symm
    have HDA := hide (fun W => l4DigitsS W A hA0 (by omega))
    have HDX := hide (fun W => l4DigitsS W X hX0 (by omega))
    have HDS := hide (fun W => l4DigitsS W S hS0 (by omega))
    have HDPc := hide (fun W => l4DigitsS W Pc hP0 (by omega))
    have HSA := hide (decS_size (n := A.toNat) (by omega))
    have HSX := hide (decS_size (n := X.toNat) (by omega))
    have HSS := hide (decS_size (n := S.toNat) (by omega))
    have HSPc := hide (decS_size (n := Pc.toNat) (by omega))
    have HR : Hid (r = numS A X S Pc ++ flagS Z N C I) := by show _ = _; rw [hr.out]; unfold cpuS; rw [← hok.out]; rfl
    unfold numS at HR
    generalize decS A.toNat = sA at *
    generalize decS X.toNat = sX at *
    generalize decS S.toNat = sS at *
    generalize decS Pc.toNat = sPc at *
    clear hr hok
    obtain ⟨t1, HT1⟩ : ∃ x : ByteArray, Hid (x = ⟨#[65]⟩ ++ sA) := ⟨_, rfl⟩
    have HS1 : Hid (t1.size ≤ 8) := by show _ ≤ _; rw [HT1.out]; exact size_app (show ByteArray.size ⟨#[65]⟩ ≤ 3 by decide) HSA.out
    obtain ⟨t2, HT2⟩ : ∃ x : ByteArray, Hid (x = t1 ++ ⟨#[32, 88]⟩) := ⟨_, rfl⟩
    have HS2 : Hid (t2.size ≤ 11) := by show _ ≤ _; rw [HT2.out]; exact size_app HS1.out (show ByteArray.size ⟨#[32, 88]⟩ ≤ 3 by decide)
    obtain ⟨t3, HT3⟩ : ∃ x : ByteArray, Hid (x = t2 ++ sX) := ⟨_, rfl⟩
    have HS3 : Hid (t3.size ≤ 16) := by show _ ≤ _; rw [HT3.out]; exact size_app HS2.out HSX.out
    obtain ⟨t4, HT4⟩ : ∃ x : ByteArray, Hid (x = t3 ++ ⟨#[32, 83]⟩) := ⟨_, rfl⟩
    have HS4 : Hid (t4.size ≤ 19) := by show _ ≤ _; rw [HT4.out]; exact size_app HS3.out (show ByteArray.size ⟨#[32, 83]⟩ ≤ 3 by decide)
    obtain ⟨t5, HT5⟩ : ∃ x : ByteArray, Hid (x = t4 ++ sS) := ⟨_, rfl⟩
    have HS5 : Hid (t5.size ≤ 24) := by show _ ≤ _; rw [HT5.out]; exact size_app HS4.out HSS.out
    obtain ⟨t6, HT6⟩ : ∃ x : ByteArray, Hid (x = t5 ++ ⟨#[32, 80, 99]⟩) := ⟨_, rfl⟩
    have HS6 : Hid (t6.size ≤ 27) := by show _ ≤ _; rw [HT6.out]; exact size_app HS5.out (show ByteArray.size ⟨#[32, 80, 99]⟩ ≤ 3 by decide)
    obtain ⟨t7, HT7⟩ : ∃ x : ByteArray, Hid (x = t6 ++ sPc) := ⟨_, rfl⟩
    have HS7 : Hid (t7.size ≤ 32) := by show _ ≤ _; rw [HT7.out]; exact size_app HS6.out HSPc.out
    obtain ⟨t8, HT8⟩ : ∃ x : ByteArray, Hid (x = t7 ++ ⟨#[32]⟩) := ⟨_, rfl⟩
    have HS8 : Hid (t8.size ≤ 35) := by show _ ≤ _; rw [HT8.out]; exact size_app HS7.out (show ByteArray.size ⟨#[32]⟩ ≤ 3 by decide)
    rw [← HT1.out, ← HT2.out, ← HT3.out, ← HT4.out, ← HT5.out, ← HT6.out, ← HT7.out, ← HT8.out] at HR
    go_upto_region 3 with (fail)
    rename_i K3 hK3
    refine wp_region_eff [some 8, some 9, some 10, some 11, some 12, some 13, some 14, some 15, some 16, some 17, some 18, some 19, some 20, some 21, some 22, some 23, some 24, some 25, some 26, some 27, some 3] (by kernel_rfl) (by kernel_rfl) (by kernel_rfl) (by kernel_rfl) (by first | (simp [slotsOf]; done) | (simp [slotsOf, Act.put]; done))
      (fun j b _ => False)
      (fun i v W => match i with
        | 0 => v = .pointer (some ⟨w.heap.size, 0, none⟩)
        | 1 => v = .int .i64 A
        | 2 => v = .string sA
        | 3 => v = .string t1
        | 4 => v = .string t2
        | 5 => v = .pointer (some ⟨w.heap.size, 1, none⟩)
        | 6 => v = .int .i64 X
        | 7 => v = .string sX
        | 8 => v = .string t3
        | 9 => v = .string t4
        | 10 => v = .pointer (some ⟨w.heap.size, 2, none⟩)
        | 11 => v = .int .i64 S
        | 12 => v = .string sS
        | 13 => v = .string t5
        | 14 => v = .string t6
        | 15 => v = .pointer (some ⟨w.heap.size, 3, none⟩)
        | 16 => v = .int .i64 Pc
        | 17 => v = .string sPc
        | 18 => v = .string t7
        | 19 => v = .string t8
        | _ => v = .string t8) ?_ ?_ ?_
    · intro i j o v W W' hij ho _ hW h
      match i, hij, ho, h with
      | 0, hij, _, h => exact h
      | 1, hij, _, h => exact h
      | 2, hij, _, h => exact h
      | 3, hij, _, h => exact h
      | 4, hij, _, h => exact h
      | 5, hij, _, h => exact h
      | 6, hij, _, h => exact h
      | 7, hij, _, h => exact h
      | 8, hij, _, h => exact h
      | 9, hij, _, h => exact h
      | 10, hij, _, h => exact h
      | 11, hij, _, h => exact h
      | 12, hij, _, h => exact h
      | 13, hij, _, h => exact h
      | 14, hij, _, h => exact h
      | 15, hij, _, h => exact h
      | 16, hij, _, h => exact h
      | 17, hij, _, h => exact h
      | 18, hij, _, h => exact h
      | 19, hij, _, h => exact h
      | 20, hij, _, h => exact h
      | _ + 21, _, ho, _ => simp at ho
    · intro i o a' W K8 ho F L hw hK
      have LB : Below W1.heap.size W1 W := L.below (Nat.le_refl _) (fun b o _ ⟨j, _, _, _, _, h⟩ => h)
      match i with
      | 0 =>
        simp only [List.getElem?_toArray, List.getElem?_cons_zero, List.getElem?_cons_succ, Option.some.injEq] at ho
        subst ho
        have t1 := F.get (t := 1) (v := .pointer (some ⟨w.heap.size, 0, none⟩)) (by decide) rfl
        go_simp
        exact hK _ _ (Wrote.refl _ _) rfl
      | 1 =>
        simp only [List.getElem?_toArray, List.getElem?_cons_zero, List.getElem?_cons_succ, Option.some.injEq] at ho
        subst ho
        have q0 : a'.tmps[8]?.getD undef = .pointer (some ⟨w.heap.size, 0, none⟩) := hw 0 (by kernel_rfl)
        have rb := boxC (box_keep k0 LB (boxLt k0))
        go_simp
        exact hK _ _ (Wrote.refl _ _) rfl
      | 2 =>
        simp only [List.getElem?_toArray, List.getElem?_cons_zero, List.getElem?_cons_succ, Option.some.injEq] at ho
        subst ho
        have q1 : a'.tmps[9]?.getD undef = .int .i64 A := hw 1 (by kernel_rfl)
        go_simp
        refine (HDA.out W).mono ?_
        rintro e W' ⟨rfl, LX⟩
        exact hK _ _ (wrote_below LX _) rfl
      | 3 =>
        simp only [List.getElem?_toArray, List.getElem?_cons_zero, List.getElem?_cons_succ, Option.some.injEq] at ho
        subst ho
        have q2 : a'.tmps[10]?.getD undef = .string sA := hw 2 (by kernel_rfl)
        have s1 : ¬ 9223372036854775807 < 1 + sA.size := by have := HSA.out; omega
        go_simp
        exact hK _ _ (Wrote.refl _ _) (congrArg Value.string HT1.out.symm)
      | 4 =>
        simp only [List.getElem?_toArray, List.getElem?_cons_zero, List.getElem?_cons_succ, Option.some.injEq] at ho
        subst ho
        have q3 : a'.tmps[11]?.getD undef = .string t1 := hw 3 (by kernel_rfl)
        have s1 : ¬ 9223372036854775807 < t1.size + 2 := by have := HS1.out; omega
        go_simp
        exact hK _ _ (Wrote.refl _ _) (congrArg Value.string HT2.out.symm)
      | 5 =>
        simp only [List.getElem?_toArray, List.getElem?_cons_zero, List.getElem?_cons_succ, Option.some.injEq] at ho
        subst ho
        have t1 := F.get (t := 1) (v := .pointer (some ⟨w.heap.size, 0, none⟩)) (by decide) rfl
        go_simp
        exact hK _ _ (Wrote.refl _ _) rfl
      | 6 =>
        simp only [List.getElem?_toArray, List.getElem?_cons_zero, List.getElem?_cons_succ, Option.some.injEq] at ho
        subst ho
        have q5 : a'.tmps[13]?.getD undef = .pointer (some ⟨w.heap.size, 1, none⟩) := hw 5 (by kernel_rfl)
        have rb := boxC (box_keep k0 LB (boxLt k0))
        go_simp
        exact hK _ _ (Wrote.refl _ _) rfl
      | 7 =>
        simp only [List.getElem?_toArray, List.getElem?_cons_zero, List.getElem?_cons_succ, Option.some.injEq] at ho
        subst ho
        have q6 : a'.tmps[14]?.getD undef = .int .i64 X := hw 6 (by kernel_rfl)
        go_simp
        refine (HDX.out W).mono ?_
        rintro e W' ⟨rfl, LX⟩
        exact hK _ _ (wrote_below LX _) rfl
      | 8 =>
        simp only [List.getElem?_toArray, List.getElem?_cons_zero, List.getElem?_cons_succ, Option.some.injEq] at ho
        subst ho
        have q4 : a'.tmps[12]?.getD undef = .string t2 := hw 4 (by kernel_rfl)
        have q7 : a'.tmps[15]?.getD undef = .string sX := hw 7 (by kernel_rfl)
        have s1 : ¬ 9223372036854775807 < t2.size + sX.size := by have := HS2.out; have := HSX.out; omega
        go_simp
        exact hK _ _ (Wrote.refl _ _) (congrArg Value.string HT3.out.symm)
      | 9 =>
        simp only [List.getElem?_toArray, List.getElem?_cons_zero, List.getElem?_cons_succ, Option.some.injEq] at ho
        subst ho
        have q8 : a'.tmps[16]?.getD undef = .string t3 := hw 8 (by kernel_rfl)
        have s1 : ¬ 9223372036854775807 < t3.size + 2 := by have := HS3.out; omega
        go_simp
        exact hK _ _ (Wrote.refl _ _) (congrArg Value.string HT4.out.symm)
      | 10 =>
        simp only [List.getElem?_toArray, List.getElem?_cons_zero, List.getElem?_cons_succ, Option.some.injEq] at ho
        subst ho
        have t1 := F.get (t := 1) (v := .pointer (some ⟨w.heap.size, 0, none⟩)) (by decide) rfl
        go_simp
        exact hK _ _ (Wrote.refl _ _) rfl
      | 11 =>
        simp only [List.getElem?_toArray, List.getElem?_cons_zero, List.getElem?_cons_succ, Option.some.injEq] at ho
        subst ho
        have q10 : a'.tmps[18]?.getD undef = .pointer (some ⟨w.heap.size, 2, none⟩) := hw 10 (by kernel_rfl)
        have rb := boxC (box_keep k0 LB (boxLt k0))
        go_simp
        exact hK _ _ (Wrote.refl _ _) rfl
      | 12 =>
        simp only [List.getElem?_toArray, List.getElem?_cons_zero, List.getElem?_cons_succ, Option.some.injEq] at ho
        subst ho
        have q11 : a'.tmps[19]?.getD undef = .int .i64 S := hw 11 (by kernel_rfl)
        go_simp
        refine (HDS.out W).mono ?_
        rintro e W' ⟨rfl, LX⟩
        exact hK _ _ (wrote_below LX _) rfl
      | 13 =>
        simp only [List.getElem?_toArray, List.getElem?_cons_zero, List.getElem?_cons_succ, Option.some.injEq] at ho
        subst ho
        have q9 : a'.tmps[17]?.getD undef = .string t4 := hw 9 (by kernel_rfl)
        have q12 : a'.tmps[20]?.getD undef = .string sS := hw 12 (by kernel_rfl)
        have s1 : ¬ 9223372036854775807 < t4.size + sS.size := by have := HS4.out; have := HSS.out; omega
        go_simp
        exact hK _ _ (Wrote.refl _ _) (congrArg Value.string HT5.out.symm)
      | 14 =>
        simp only [List.getElem?_toArray, List.getElem?_cons_zero, List.getElem?_cons_succ, Option.some.injEq] at ho
        subst ho
        have q13 : a'.tmps[21]?.getD undef = .string t5 := hw 13 (by kernel_rfl)
        have s1 : ¬ 9223372036854775807 < t5.size + 3 := by have := HS5.out; omega
        go_simp
        exact hK _ _ (Wrote.refl _ _) (congrArg Value.string HT6.out.symm)
      | 15 =>
        simp only [List.getElem?_toArray, List.getElem?_cons_zero, List.getElem?_cons_succ, Option.some.injEq] at ho
        subst ho
        have t1 := F.get (t := 1) (v := .pointer (some ⟨w.heap.size, 0, none⟩)) (by decide) rfl
        go_simp
        exact hK _ _ (Wrote.refl _ _) rfl
      | 16 =>
        simp only [List.getElem?_toArray, List.getElem?_cons_zero, List.getElem?_cons_succ, Option.some.injEq] at ho
        subst ho
        have q15 : a'.tmps[23]?.getD undef = .pointer (some ⟨w.heap.size, 3, none⟩) := hw 15 (by kernel_rfl)
        have rb := boxC (box_keep k0 LB (boxLt k0))
        go_simp
        exact hK _ _ (Wrote.refl _ _) rfl
      | 17 =>
        simp only [List.getElem?_toArray, List.getElem?_cons_zero, List.getElem?_cons_succ, Option.some.injEq] at ho
        subst ho
        have q16 : a'.tmps[24]?.getD undef = .int .i64 Pc := hw 16 (by kernel_rfl)
        go_simp
        refine (HDPc.out W).mono ?_
        rintro e W' ⟨rfl, LX⟩
        exact hK _ _ (wrote_below LX _) rfl
      | 18 =>
        simp only [List.getElem?_toArray, List.getElem?_cons_zero, List.getElem?_cons_succ, Option.some.injEq] at ho
        subst ho
        have q14 : a'.tmps[22]?.getD undef = .string t6 := hw 14 (by kernel_rfl)
        have q17 : a'.tmps[25]?.getD undef = .string sPc := hw 17 (by kernel_rfl)
        have s1 : ¬ 9223372036854775807 < t6.size + sPc.size := by have := HS6.out; have := HSPc.out; omega
        go_simp
        exact hK _ _ (Wrote.refl _ _) (congrArg Value.string HT7.out.symm)
      | 19 =>
        simp only [List.getElem?_toArray, List.getElem?_cons_zero, List.getElem?_cons_succ, Option.some.injEq] at ho
        subst ho
        have q18 : a'.tmps[26]?.getD undef = .string t7 := hw 18 (by kernel_rfl)
        have s1 : ¬ 9223372036854775807 < t7.size + 1 := by have := HS7.out; omega
        go_simp
        exact hK _ _ (Wrote.refl _ _) (congrArg Value.string HT8.out.symm)
      | 20 =>
        simp only [List.getElem?_toArray, List.getElem?_cons_zero, List.getElem?_cons_succ, Option.some.injEq] at ho
        subst ho
        have q19 : a'.tmps[27]?.getD undef = .string t8 := hw 19 (by kernel_rfl)
        go_simp
        exact hK _ _ (Wrote.refl _ _) rfl
      | _ + 21 => simp at ho
    · intro a' W F L hφ
      have p8 : a'.tmps[8]?.getD undef = .pointer (some ⟨w.heap.size, 0, none⟩) := hφ 0 (by decide)
      have p9 : a'.tmps[9]?.getD undef = .int .i64 A := hφ 1 (by decide)
      have p10 : a'.tmps[10]?.getD undef = .string sA := hφ 2 (by decide)
      have p11 : a'.tmps[11]?.getD undef = .string t1 := hφ 3 (by decide)
      have p12 : a'.tmps[12]?.getD undef = .string t2 := hφ 4 (by decide)
      have p13 : a'.tmps[13]?.getD undef = .pointer (some ⟨w.heap.size, 1, none⟩) := hφ 5 (by decide)
      have p14 : a'.tmps[14]?.getD undef = .int .i64 X := hφ 6 (by decide)
      have p15 : a'.tmps[15]?.getD undef = .string sX := hφ 7 (by decide)
      have p16 : a'.tmps[16]?.getD undef = .string t3 := hφ 8 (by decide)
      have p17 : a'.tmps[17]?.getD undef = .string t4 := hφ 9 (by decide)
      have p18 : a'.tmps[18]?.getD undef = .pointer (some ⟨w.heap.size, 2, none⟩) := hφ 10 (by decide)
      have p19 : a'.tmps[19]?.getD undef = .int .i64 S := hφ 11 (by decide)
      have p20 : a'.tmps[20]?.getD undef = .string sS := hφ 12 (by decide)
      have p21 : a'.tmps[21]?.getD undef = .string t5 := hφ 13 (by decide)
      have p22 : a'.tmps[22]?.getD undef = .string t6 := hφ 14 (by decide)
      have p23 : a'.tmps[23]?.getD undef = .pointer (some ⟨w.heap.size, 3, none⟩) := hφ 15 (by decide)
      have p24 : a'.tmps[24]?.getD undef = .int .i64 Pc := hφ 16 (by decide)
      have p25 : a'.tmps[25]?.getD undef = .string sPc := hφ 17 (by decide)
      have p26 : a'.tmps[26]?.getD undef = .string t7 := hφ 18 (by decide)
      have p27 : a'.tmps[27]?.getD undef = .string t8 := hφ 19 (by decide)
      have p3 : a'.tmps[3]?.getD undef = .string t8 := hφ 20 (by decide)
      rw [F.same, show slotsOf [some 8, some 9, some 10, some 11, some 12, some 13, some 14, some 15, some 16, some 17, some 18, some 19, some 20, some 21, some 22, some 23, some 24, some 25, some 26, some 27, some 3] = [8, 9, 10, 11, 12, 13, 14, 15, 16, 17, 18, 19, 20, 21, 22, 23, 24, 25, 26, 27, 3] from rfl]
      simp only [List.foldl_cons, List.foldl_nil]
      have LB : Below W1.heap.size W1 W := L.below (Nat.le_refl _) (fun b o _ ⟨j, h⟩ => h)
      rw [p8, p9, p10, p11, p12, p13, p14, p15, p16, p17, p18, p19, p20, p21, p22, p23, p24, p25, p26, p27, p3]
      clear p8 p9 p10 p11 p12 p13 p14 p15 p16 p17 p18 p19 p20 p21 p22 p23 p24 p25 p26 p27 p3 hφ F L
      replace k0 := box_keep k0 LB (boxLt k0)
      replace C1 := below_snoc C1 LB
      clear LB
      refine hK3 _ _ ?_
      clear hK3
      have k4 := boxC4 k0
      obtain ⟨c4, c5, c6, c7⟩ := k4
      have z8 := HS8.out
      have z1 : ¬ 9223372036854775807 < t8.size + 1 := by omega
      have z2 : ¬ 9223372036854775807 < t8.size + 2 := by omega
      have z3 : ¬ 9223372036854775807 < t8.size + 3 := by omega
      have z4 : ¬ 9223372036854775807 < t8.size + 4 := by omega
      clear z8
      go_simp
      cases C <;> cases Z <;> cases I <;> cases N
      · go_wp2
        go_ret
        exact ⟨by rw [HR.out]; rfl, C1⟩
      · have a1 : (⟨#[]⟩ : ByteArray) ++ ⟨#[78]⟩ = ⟨#[78]⟩ := rfl
        have em : (⟨#[78]⟩ : ByteArray).toList.isEmpty = false := by rw [ByteArray.toList_eq]; rfl
        go_wp2
        go_ret
        exact ⟨by rw [HR.out]; rfl, C1⟩
      · have a1 : (⟨#[]⟩ : ByteArray) ++ ⟨#[73]⟩ = ⟨#[73]⟩ := rfl
        have em : (⟨#[73]⟩ : ByteArray).toList.isEmpty = false := by rw [ByteArray.toList_eq]; rfl
        go_wp2
        go_ret
        exact ⟨by rw [HR.out]; rfl, C1⟩
      · have a1 : (⟨#[]⟩ : ByteArray) ++ ⟨#[73]⟩ = ⟨#[73]⟩ := rfl
        have a2 : (⟨#[73]⟩ : ByteArray) ++ ⟨#[78]⟩ = ⟨#[73, 78]⟩ := rfl
        have em : (⟨#[73, 78]⟩ : ByteArray).toList.isEmpty = false := by rw [ByteArray.toList_eq]; rfl
        go_wp2
        go_ret
        exact ⟨by rw [HR.out]; rfl, C1⟩
      · have a1 : (⟨#[]⟩ : ByteArray) ++ ⟨#[90]⟩ = ⟨#[90]⟩ := rfl
        have em : (⟨#[90]⟩ : ByteArray).toList.isEmpty = false := by rw [ByteArray.toList_eq]; rfl
        go_wp2
        go_ret
        exact ⟨by rw [HR.out]; rfl, C1⟩
      · have a1 : (⟨#[]⟩ : ByteArray) ++ ⟨#[90]⟩ = ⟨#[90]⟩ := rfl
        have a2 : (⟨#[90]⟩ : ByteArray) ++ ⟨#[78]⟩ = ⟨#[90, 78]⟩ := rfl
        have em : (⟨#[90, 78]⟩ : ByteArray).toList.isEmpty = false := by rw [ByteArray.toList_eq]; rfl
        go_wp2
        go_ret
        exact ⟨by rw [HR.out]; rfl, C1⟩
      · have a1 : (⟨#[]⟩ : ByteArray) ++ ⟨#[90]⟩ = ⟨#[90]⟩ := rfl
        have a2 : (⟨#[90]⟩ : ByteArray) ++ ⟨#[73]⟩ = ⟨#[90, 73]⟩ := rfl
        have em : (⟨#[90, 73]⟩ : ByteArray).toList.isEmpty = false := by rw [ByteArray.toList_eq]; rfl
        go_wp2
        go_ret
        exact ⟨by rw [HR.out]; rfl, C1⟩
      · have a1 : (⟨#[]⟩ : ByteArray) ++ ⟨#[90]⟩ = ⟨#[90]⟩ := rfl
        have a2 : (⟨#[90]⟩ : ByteArray) ++ ⟨#[73]⟩ = ⟨#[90, 73]⟩ := rfl
        have a3 : (⟨#[90, 73]⟩ : ByteArray) ++ ⟨#[78]⟩ = ⟨#[90, 73, 78]⟩ := rfl
        have em : (⟨#[90, 73, 78]⟩ : ByteArray).toList.isEmpty = false := by rw [ByteArray.toList_eq]; rfl
        go_wp2
        go_ret
        exact ⟨by rw [HR.out]; rfl, C1⟩
      · have a1 : (⟨#[]⟩ : ByteArray) ++ ⟨#[67]⟩ = ⟨#[67]⟩ := rfl
        have em : (⟨#[67]⟩ : ByteArray).toList.isEmpty = false := by rw [ByteArray.toList_eq]; rfl
        go_wp2
        go_ret
        exact ⟨by rw [HR.out]; rfl, C1⟩
      · have a1 : (⟨#[]⟩ : ByteArray) ++ ⟨#[67]⟩ = ⟨#[67]⟩ := rfl
        have a2 : (⟨#[67]⟩ : ByteArray) ++ ⟨#[78]⟩ = ⟨#[67, 78]⟩ := rfl
        have em : (⟨#[67, 78]⟩ : ByteArray).toList.isEmpty = false := by rw [ByteArray.toList_eq]; rfl
        go_wp2
        go_ret
        exact ⟨by rw [HR.out]; rfl, C1⟩
      · have a1 : (⟨#[]⟩ : ByteArray) ++ ⟨#[67]⟩ = ⟨#[67]⟩ := rfl
        have a2 : (⟨#[67]⟩ : ByteArray) ++ ⟨#[73]⟩ = ⟨#[67, 73]⟩ := rfl
        have em : (⟨#[67, 73]⟩ : ByteArray).toList.isEmpty = false := by rw [ByteArray.toList_eq]; rfl
        go_wp2
        go_ret
        exact ⟨by rw [HR.out]; rfl, C1⟩
      · have a1 : (⟨#[]⟩ : ByteArray) ++ ⟨#[67]⟩ = ⟨#[67]⟩ := rfl
        have a2 : (⟨#[67]⟩ : ByteArray) ++ ⟨#[73]⟩ = ⟨#[67, 73]⟩ := rfl
        have a3 : (⟨#[67, 73]⟩ : ByteArray) ++ ⟨#[78]⟩ = ⟨#[67, 73, 78]⟩ := rfl
        have em : (⟨#[67, 73, 78]⟩ : ByteArray).toList.isEmpty = false := by rw [ByteArray.toList_eq]; rfl
        go_wp2
        go_ret
        exact ⟨by rw [HR.out]; rfl, C1⟩
      · have a1 : (⟨#[]⟩ : ByteArray) ++ ⟨#[67]⟩ = ⟨#[67]⟩ := rfl
        have a2 : (⟨#[67]⟩ : ByteArray) ++ ⟨#[90]⟩ = ⟨#[67, 90]⟩ := rfl
        have em : (⟨#[67, 90]⟩ : ByteArray).toList.isEmpty = false := by rw [ByteArray.toList_eq]; rfl
        go_wp2
        go_ret
        exact ⟨by rw [HR.out]; rfl, C1⟩
      · have a1 : (⟨#[]⟩ : ByteArray) ++ ⟨#[67]⟩ = ⟨#[67]⟩ := rfl
        have a2 : (⟨#[67]⟩ : ByteArray) ++ ⟨#[90]⟩ = ⟨#[67, 90]⟩ := rfl
        have a3 : (⟨#[67, 90]⟩ : ByteArray) ++ ⟨#[78]⟩ = ⟨#[67, 90, 78]⟩ := rfl
        have em : (⟨#[67, 90, 78]⟩ : ByteArray).toList.isEmpty = false := by rw [ByteArray.toList_eq]; rfl
        go_wp2
        go_ret
        exact ⟨by rw [HR.out]; rfl, C1⟩
      · have a1 : (⟨#[]⟩ : ByteArray) ++ ⟨#[67]⟩ = ⟨#[67]⟩ := rfl
        have a2 : (⟨#[67]⟩ : ByteArray) ++ ⟨#[90]⟩ = ⟨#[67, 90]⟩ := rfl
        have a3 : (⟨#[67, 90]⟩ : ByteArray) ++ ⟨#[73]⟩ = ⟨#[67, 90, 73]⟩ := rfl
        have em : (⟨#[67, 90, 73]⟩ : ByteArray).toList.isEmpty = false := by rw [ByteArray.toList_eq]; rfl
        go_wp2
        go_ret
        exact ⟨by rw [HR.out]; rfl, C1⟩
      · have a1 : (⟨#[]⟩ : ByteArray) ++ ⟨#[67]⟩ = ⟨#[67]⟩ := rfl
        have a2 : (⟨#[67]⟩ : ByteArray) ++ ⟨#[90]⟩ = ⟨#[67, 90]⟩ := rfl
        have a3 : (⟨#[67, 90]⟩ : ByteArray) ++ ⟨#[73]⟩ = ⟨#[67, 90, 73]⟩ := rfl
        have a4 : (⟨#[67, 90, 73]⟩ : ByteArray) ++ ⟨#[78]⟩ = ⟨#[67, 90, 73, 78]⟩ := rfl
        have em : (⟨#[67, 90, 73, 78]⟩ : ByteArray).toList.isEmpty = false := by rw [ByteArray.toList_eq]; rfl
        go_wp2
        go_ret
        exact ⟨by rw [HR.out]; rfl, C1⟩
end Go.Proofs.YteefbbnkfclllaaDoor
