/-
  The program's listings (chapter 4), by their contract.
-/
import Derived.Test.YtpaedkefmebjjalDoorB4
namespace Go.Proofs.YtpaedkefmebjjalDoor
set_option linter.unusedVariables false
open Go.ChangeShapes Go.WideShapes Go.ChangeAt Go.RowKit
theorem isB_keep {T e : TypeId} {B b : Nat} {bs : List Value} {w w' : World} (h : Lib.IsBuilder T e B b bs w) (hb : Below w.heap.size w w') : Lib.IsBuilder T e B b bs w' := by
  have key : ∀ p, Lib.BuilderAt T e B b p bs w → Lib.BuilderAt T e B b p bs w' := fun p ⟨hB, v, hbk, hown, hne⟩ =>
    ⟨hB, v, (hb.block b (heap_lt hbk)).trans hbk, hown.kept (row := none) ⟨hb.os, hb.tape, hb.output, hb.size, fun k hk _ => hb.block k hk⟩ (by cases v.ownBlock <;> simp), hne⟩
  rcases h with h | h
  · exact Or.inl (key _ h)
  · exact Or.inr (key _ h)
set_option maxRecDepth 20000 in
set_option maxHeartbeats 2000000 in
theorem implListing (w : World) (a : Option Addr) (n cap : Nat) (f : Nat → Int) (x many : Int) (H : RowOf .i64 w a n f) (hn : n ≤ 1048576) (hT : OpTab w) (hp : Pow w) : Calls Tryd.prog 6 #[.slice a n cap, .int .i64 x, .int .i64 many] w fun e w' => (∃ s : ByteArray, e = .returned (.string s) ∧ s.data.toList = lst n f (min many 256).toNat x) ∧ Below w.heap.size w w' := by
  obtain ⟨M, hM⟩ : ∃ M : Nat, M = (min many 256).toNat := ⟨_, rfl⟩
  have hM256 : M ≤ 256 := by omega
  have HMM : Hid (M = (min many 256).toNat) := hM
  rw [← hM]
  clear hM

  go_enter Tryd.func6, Tryd.ntmps6
  go_wp2_with fail
  have B0 : IsB w.heap.size w.heap.size [] (w.alloc (.cells #[.pointer none, .slice none 0 0] 33)) := Lib.fresh_isBuilder _ _ w
  have L0 : Below w.heap.size w (w.alloc (.cells #[.pointer none, .slice none 0 0] 33)) := (Below.refl _ _).alloc (Nat.le_refl _) _
  generalize hmm : min many 256 = mm at *
  have HMm := hide hmm
  clear hmm
  go_loopw [1, 12] (fun fx ix wr => ∃ (i : Nat) (y : Int) (l : List UInt8), i ≤ M ∧ fx = .int .i64 y ∧ ix = .int .i64 i ∧ IsB w.heap.size w.heap.size l wr ∧ Hid (l ++ lst n f (M - i) y = lst n f M x) ∧ Hid (l.length ≤ 11 * i) ∧ Below w.heap.size w wr) (fun _ ix _ => M - (intOf ix).toNat)
  case atStart => exact ⟨0, x, [], Nat.zero_le _, rfl, rfl, B0, by show [] ++ _ = _; simp, by show (0 : Nat) ≤ _; omega, L0⟩
  case round =>
    obtain ⟨i, y, l, hi, rfl, rfl, hB, HS, HZ, hbel⟩ := hrel
    clear B0 L0
    by_cases hlt : i < M
    · have hlt' : (i : Int) < mm := by have := HMM.out; have := HMm.out; omega
      have HR := H.keep (wrote_below hbel Nowhere) (fun _ _ _ x => x)
      have hz := HZ.out
      go_wp2_with fail
      refine (implLineOfI _ a n cap f y HR hn (hT.mono hbel) (hp.mono hbel)).mono ?_
      rintro e w2 ⟨⟨s, rfl, hl⟩, L2⟩
      have C2 := hbel.trans (L2.mono hbel.size)
      have hB2 := isB_keep hB L2
      by_cases hy : 0 ≤ y ∧ y < (n : Int)
      · obtain ⟨k, rfl⟩ : ∃ k : Nat, y = k := ⟨y.toNat, by omega⟩
        have e1 : lineNI n f k = lineN n f k := by unfold lineNI; rw [if_pos hy, Int.toNat_natCast]
        have e2 : lineTI n f k = lineT n f k := by unfold lineTI; rw [if_pos hy, Int.toNat_natCast]
        rw [e1]
        rw [e2] at hl
        obtain ⟨n1, n3⟩ := lineN_in n f k
        have hll : s.size ≤ 10 := by have := lineT_len n f k; rw [← hl] at this; exact this
        have HS2 : Hid ((l ++ s.data.toList ++ [10]) ++ lst n f (M - (i + 1)) (k + lineN n f k) = lst n f M x) := by
          show _ = _
          rw [← HS.out, show M - i = (M - (i + 1)) + 1 by omega, lst_yes n f _ k hy, Int.toNat_natCast, ← hl]
          simp
        have HZ2 : Hid ((l ++ s.data.toList ++ [10]).length ≤ 11 * (i + 1)) := by
          show _ ≤ _
          have : s.data.toList.length = s.size := rfl
          simp only [List.length_append, List.length_singleton]
          omega
        generalize lineN n f k = N at *
        have hN0 : (N == 0) = false := by simp; omega
        have hcl : (Lib.byteCells l).length = l.length := by simp [Lib.byteCells]
        clear hl e1 e2
        go_wp2_with fail
        refine (writeString _ _ _ s _ hB2 (by rw [hcl]; omega) C2.size).mono ?_
        rintro e w3 ⟨rfl, hB3, L3⟩
        rw [Lib.strCells_eq, ← Lib.byteCells_append] at hB3
        have C3 := C2.trans L3
        have hcl3 : (Lib.byteCells (l ++ s.data.toList)).length = l.length + s.size := by simp [Lib.byteCells]
        clear hB2 L3
        go_wp2_with fail
        refine (writeByte _ _ _ 10 _ hB3 (by rw [hcl3]; omega) C3.size).mono ?_
        rintro e w4 ⟨rfl, hB4, L4⟩
        have hB5 : IsB w.heap.size w.heap.size (l ++ s.data.toList ++ [10]) w4 := by
          have e : Lib.byteCells (l ++ s.data.toList ++ [10]) = Lib.byteCells (l ++ s.data.toList) ++ [.int .u8 10] := by rw [Lib.byteCells_append]; rfl
          unfold IsB
          rw [e]
          exact hB4
        have C4 := C3.trans L4
        clear hB3 hB4 L4 hB
        go_wp2
        go_roundw
        case rel => exact ⟨i + 1, _, _, by omega, rfl, by go_num, hB5, HS2, HZ2, C4⟩
        case measure => simp [intOf]; omega
      · have e1 : lineNI n f y = 0 := by unfold lineNI; rw [if_neg hy]
        rw [e1]
        have HE : Hid (l = lst n f M x) := by
          show _ = _
          rw [← HS.out, lst_no n f _ y hy]
          simp
        clear hl hy e1
        go_wp2_with fail
        refine (Tryd.Builder_String_any _ _ l _ hB2 C2.size).mono ?_
        rintro e w3 ⟨rfl, L3⟩
        go_wp2
        go_ret
        exact ⟨⟨_, rfl, HE.out⟩, C2.trans L3⟩
    · have hlt' : ¬ (i : Int) < mm := by have := HMM.out; have := HMm.out; omega
      have e : i = M := by omega
      subst e
      have HE : Hid (l = lst n f i x) := by
        show _ = _
        rw [← HS.out, Nat.sub_self]
        simp [lst]
      go_wp2_with fail
      refine (Tryd.Builder_String_any _ _ l _ hB hbel.size).mono ?_
      rintro e w3 ⟨rfl, L3⟩
      go_wp2
      go_ret
      exact ⟨⟨_, rfl, HE.out⟩, hbel.trans L3⟩
end Go.Proofs.YtpaedkefmebjjalDoor
