/-
  Chapter 19: the texts that its law draws.
-/
import Derived.Test.YteefbbnkfclllaaDoorXE
namespace Go.Proofs.YteefbbnkfclllaaDoor
set_option linter.unusedVariables false
set_option linter.unusedSimpArgs false
open Go.ChangeShapes Go.WideShapes Go.ChangeAt Go.RowKit
def pickX (j : Nat) : ByteArray := [⟨#[10]⟩, ⟨#[48]⟩, ⟨#[32]⟩, ⟨#[122]⟩].getD j ⟨#[]⟩
theorem pickX_size {j : Nat} (h : j < 4) : (pickX j).size = 1 := by
  rcases j with _ | _ | _ | _ | j
  · rfl
  · rfl
  · rfl
  · rfl
  · omega
theorem frameStr_size (n : Nat) (f : Nat → Int) : (frameStr n f).size ≤ 54 := by
  unfold frameStr
  split
  · rw [strB_size]; omega
  · exact Nat.zero_le _
set_option maxRecDepth 20000 in
set_option maxHeartbeats 4000000 in
theorem drawFrameRead (w : World) (B : Nat) (a : Option Addr) (len cap : Nat) (hB : B ≤ w.heap.size) (H : Code w B a len) :
    Calls Tryd.prog 10 #[.slice a len cap] w fun e w' => (∃ t : ByteArray, e = .returned (.string t) ∧ t.size ≤ 1000) ∧ Below w.heap.size w w' := by
  go_enter Tryd.func10, Tryd.ntmps10
  go_wp2_with fail
  refine (l1New _ B a len cap hB H).mono ?_
  rintro e w1 ⟨rfl, H1, L1, s1⟩
  have hs1 : w.heap.size < w1.heap.size := by omega
  clear s1
  go_wp2_with fail
  refine (drawFrame _ B _ a len cap H1 hs1).mono ?_
  rintro e w2 ⟨v, n, f, rfl, O2, H2, S2⟩
  have C2 := L1.trans (S2.below (Nat.le_refl _) (by omega))
  have hs2 := Nat.lt_of_lt_of_le hs1 S2.size
  obtain ⟨a2, c2, e2, hn2, hr2, hf2, -⟩ := O2.ex
  have HT := specFrameText w2 _ v n f ⟨a2, c2, e2, hn2, hr2, fun _ _ h => h⟩
  have HZ := frameStr_size n f
  generalize frameStr n f = s at HT HZ
  clear H1 L1 S2 O2 e2 hn2 hr2 hf2
  go_wp2_with fail
  refine HT.mono ?_
  rintro e w3 ⟨rfl, L3⟩
  have C3 := C2.trans (L3.mono C2.size)
  have H3 := H2.below L3 hs2
  have hs3 := Nat.lt_of_lt_of_le hs2 L3.size
  clear HT C2 H2 L3
  go_wp2_with fail
  refine (l1Below _ B _ a len cap H3 _).mono ?_
  rintro e w4 ⟨x, rfl, x0, x1, H4, O4⟩
  have C4 := C3.trans (O4.below (Nat.le_refl _))
  have hs4 : w.heap.size < w4.heap.size := by rw [O4.size]; exact hs3
  obtain ⟨q, rfl⟩ := Int.eq_ofNat_of_zero_le x0
  have hq : q ≤ s.size := by omega
  clear H3 O4 C3 x0 x1
  go_wp2_with fail
  refine (l1Below _ B _ a len cap H4 5).mono ?_
  rintro e w5 ⟨y, rfl, y0, y1, H5, O5⟩
  have C5 := C4.trans (O5.below (Nat.le_refl _))
  have hs5 : w.heap.size < w5.heap.size := by rw [O5.size]; exact hs4
  clear H4 O5 C4
  have hq' : (q : Int) ≤ (s.size : Int) := by omega
  by_cases e0 : y = 0
  · have q0 : (y == 0) = true := by simp [e0]
    clear e0 y0 y1
    go_wp2
    go_ret
    exact ⟨⟨_, rfl, by rw [ByteArray.size_extract]; omega⟩, C5⟩
  · have q0 : (y == 0) = false := by simp [e0]
    by_cases e1 : y = 1
    · have q1 : (y == 1) = true := by simp [e1]
      clear e0 e1 y0 y1
      have z1 : (s.extract 0 q).size ≤ 54 := by rw [ByteArray.size_extract]; omega
      have z2 : (s.extract q s.size).size ≤ 54 := by rw [ByteArray.size_extract]; omega
      generalize hA : s.extract 0 q = sA at *
      generalize hB' : s.extract q s.size = sB at *
      have HA := hide hA
      have HB := hide hB'
      clear hA hB'
      have LA : Below w5.heap.size w5 (w5.alloc (.cells #[.string ⟨#[10]⟩, .string ⟨#[48]⟩, .string ⟨#[32]⟩, .string ⟨#[122]⟩] 9)).drew := ((Below.refl _ _).alloc (Nat.le_refl _) _).drew
      have CALL : Calls Tryd.prog 27 #[.pointer (some ⟨w.heap.size, 0, none⟩), .slice (some ⟨w5.heap.size, 0, none⟩) 4 4] (w5.alloc (.cells #[.string ⟨#[10]⟩, .string ⟨#[48]⟩, .string ⟨#[32]⟩, .string ⟨#[122]⟩] 9)).drew (fun e w' => ∃ sP : ByteArray, e = .returned (.string sP) ∧ sP.size = 1 ∧ Below w.heap.size w w') := by
        refine (l1PickS _ B w.heap.size a len cap (H5.below LA hs5) w5.heap.size 4 (by omega) (by omega) (by omega) pickX ?_).mono ?_
        · intro j hj
          show (w5.alloc _).cell? _ = _
          rw [World.cell?_alloc_new]
          rcases j with _ | _ | _ | _ | j
          · rfl
          · rfl
          · rfl
          · rfl
          · omega
        · rintro e w6 ⟨j, rfl, hj, H6, O6⟩
          exact ⟨_, rfl, pickX_size hj, (C5.trans (LA.mono (by omega))).trans (O6.below (Nat.le_refl _))⟩
      have HCALL := hide CALL
      clear CALL LA
      have hA := HA.out
      have hB2 := HB.out
      go_wp2_with fail
      go_region_with ((go_at_call 27; refine HCALL.out.mono ?_; rintro e w6 ⟨sP, rfl, zj, C6⟩; have s1 : ¬ 9223372036854775807 < sA.size + sP.size := (by omega); have s2 : ¬ 9223372036854775807 < sA.size + sP.size + sB.size := (by omega); have s3 : (sA ++ sP).size = sA.size + sP.size := ByteArray.size_append))
      all_goals
        go_wp2
        go_ret
        exact ⟨⟨_, rfl, by rw [ByteArray.size_append, ByteArray.size_append]; omega⟩, C6⟩
    · have q1 : (y == 1) = false := by simp [e1]
      clear e0 e1 y0 y1
      go_wp2
      go_ret
      exact ⟨⟨_, rfl, by omega⟩, C5⟩
end Go.Proofs.YteefbbnkfclllaaDoor
