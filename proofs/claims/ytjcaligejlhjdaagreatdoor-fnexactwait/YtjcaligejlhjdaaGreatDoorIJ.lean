/-
  The program's chapter 7 by its contracts: what is fetched, what it accesses, a new processor.
-/
import Derived.Test.YtjcaligejlhjdaaGreatDoorC5
import Derived.Test.YtjcaligejlhjdaaGreatDoorCB
import Derived.Test.YtjcaligejlhjdaaGreatDoorC8
import Derived.Test.YtjcaligejlhjdaaGreatDoorT3
import Derived.Test.YtjcaligejlhjdaaGreatDoorI6b
import Derived.Lib.QuietBelow
namespace Go.Proofs.YtjcaligejlhjdaaGreatDoor
set_option linter.unusedVariables false
open Go.ChangeShapes Go.WideShapes Go.ChangeAt Go.RowKit
theorem peekV_byte (m : Nat) (ln : Nat → Nat) (f : Nat → Nat → Int) (n : Nat) (g : Nat → Int) (bank x : Int) : 0 ≤ peekV m ln f n g bank x ∧ peekV m ln f n g bank x ≤ 255 := by
  unfold peekV
  split
  · rename_i h
    obtain ⟨hi, hn, hb, hg⟩ := okMem_of h
    have hI := of_decide_eq_true hi
    have bk : ∀ i j, i < m → j < 256 → 0 ≤ f i j ∧ f i j ≤ 255 := fun i j h1 h2 => (okBank_of (hI.1 i h1)).2 j h2
    unfold peekOf
    rcases rg_cases (x % 65536) (by omega) (by omega) with ⟨e, p0, p1⟩ | ⟨e, p0, p1⟩ | ⟨e, p0, p1⟩ | e
    · rw [if_pos e]; exact hg _ (by omega)
    · rw [if_neg (by omega), if_pos e]; exact bk _ _ (by omega) (by omega)
    · rw [if_neg (by omega), if_neg (by omega), if_pos e]; exact bk _ _ (by omega) (by omega)
    · rw [if_neg (by omega), if_neg (by omega), if_neg (by omega)]; omega
  · omega
/-- Where the program's Fetch stands: its boxes. -/
structure FB (w W : World) (ia : Option Addr) (m icap : Nat) (ua : Option Addr) (n ucap : Nat) (bank : Int) : Prop where
  img : W.heap[w.heap.size]? = some (.cells #[.slice ia m icap] 47 (0, 0))
  mem : W.heap[w.heap.size + 1]? = some (.cells #[.slice ua n ucap, .int .i64 bank] 48 (0, 0))
  res : W.heap[w.heap.size + 1 + 1]? = some (.cells #[.int .i64 0, .int .i64 0] 79 (0, 0))
  low : Below w.heap.size w W
section
variable {w W W' : World} {ia : Option Addr} {m icap : Nat} {ua : Option Addr} {n ucap : Nat} {bank : Int}
theorem FB.below (D : FB w W ia m icap ua n ucap bank) (L : Below W.heap.size W W') : FB w W' ia m icap ua n ucap bank :=
  ⟨box_keep D.img L (boxLt D.img), box_keep D.mem L (boxLt D.mem), box_keep D.res L (boxLt D.res), below_snoc D.low L⟩
theorem FB.cells (D : FB w W ia m icap ua n ucap bank) : W.cell? ⟨w.heap.size, 0, none⟩ = some (.slice ia m icap) ∧ W.cell? ⟨w.heap.size + 1, 0, none⟩ = some (.slice ua n ucap) ∧ W.cell? ⟨w.heap.size + 1, 1, none⟩ = some (.int .i64 bank) :=
  ⟨boxC D.img 0, boxC D.mem 0, boxC D.mem 1⟩
end
set_option maxRecDepth 20000 in
set_option maxHeartbeats 4000000 in
theorem implFetch (w : World) (F G : Nat → Nat → Prop) (v u : Value) (m : Nat) (ln : Nat → Nat) (f : Nat → Nat → Int) (n : Nat) (g : Nat → Int) (bank x : Int) (H : IntSS .i64 w F v m ln f) (K : Ints .i64 w G u n g) (T : OpTab w) :
    Calls Tryz.prog 107 #[.agg #[v], .agg #[u, .int .i64 bank], .int .i64 x] w fun e w' => e = .returned (.agg #[.int .i64 (peekV m ln f n g bank x), .int .i64 (fetchA (peekV m ln f n g bank) x)]) ∧ Below w.heap.size w w' := by
  obtain ⟨ia, icap, rfl, im, iF, iR⟩ := H
  obtain ⟨ua, ucap, rfl, un, uR, uF⟩ := K
  have H : IntSS .i64 w F (.slice ia m icap) m ln f := ⟨ia, icap, rfl, im, iF, iR⟩
  have K : Ints .i64 w G (.slice ua n ucap) n g := ⟨ua, ucap, rfl, un, uR, uF⟩
  clear iF iR uR uF
  have HP1 := hide (peekV_wrap m ln f n g bank (x + 1))
  have HP2 := hide (peekV_wrap m ln f n g bank (x + 2))
  have HB := hide (peekV_byte m ln f n g bank (x + 1))
  have D0 : FB w (((w.alloc (.cells #[.slice ia m icap] 47)).alloc (.cells #[.slice ua n ucap, .int .i64 bank] 48)).alloc (.cells #[.int .i64 0, .int .i64 0] 79)) ia m icap ua n ucap bank :=
    ⟨boxA (boxA (box_new w #[.slice ia m icap] 47) (.cells #[.slice ua n ucap, .int .i64 bank] 48)) (.cells #[.int .i64 0, .int .i64 0] 79),
     by simpa using boxA (box_new (w.alloc (.cells #[.slice ia m icap] 47)) #[.slice ua n ucap, .int .i64 bank] 48) (.cells #[.int .i64 0, .int .i64 0] 79),
     by simpa using box_new ((w.alloc (.cells #[.slice ia m icap] 47)).alloc (.cells #[.slice ua n ucap, .int .i64 bank] 48)) #[.int .i64 0, .int .i64 0] 79,
     (((Below.refl _ _).alloc (Nat.le_refl _) _).alloc (by simp) _).alloc (by simp; omega) _⟩
  have HFA : Hid (∀ t, (opLn (peekV m ln f n g bank x) = 2 → t = peekV m ln f n g bank (x + 1)) → (opLn (peekV m ln f n g bank x) = 3 → t = peekV m ln f n g bank (x + 1) % 256 + 256 * (peekV m ln f n g bank (x + 2) % 256)) → (¬ opLn (peekV m ln f n g bank x) = 2 → ¬ opLn (peekV m ln f n g bank x) = 3 → t = 0) → fetchA (peekV m ln f n g bank) x = t) := by
    intro t h1 h2 h3
    unfold fetchA
    by_cases e2 : opLn (peekV m ln f n g bank x) = 2
    · rw [if_pos e2, h1 e2]
    · by_cases e3 : opLn (peekV m ln f n g bank x) = 3
      · rw [if_neg e2, if_pos e3, h2 e3]
      · rw [if_neg e2, if_neg e3, h3 e2 e3]
  go_enter Tryz.func107, Tryz.ntmps107
  go_wp2_with fail
  generalize (((w.alloc (.cells #[.slice ia m icap] 47)).alloc (.cells #[.slice ua n ucap, .int .i64 bank] 48)).alloc (.cells #[.int .i64 0, .int .i64 0] 79)) = W0 at *
  refine (implPeek _ F G _ _ m ln f n g bank x (H.keep (wrote_below D0.low Nowhere) (fun _ _ _ x => x)) (K.keep (wrote_below D0.low Nowhere) (fun _ _ _ x => x))).mono ?_
  rintro e W1 ⟨rfl, L⟩
  have D1 := D0.below L
  clear D0 L
  go_wp2_with fail
  refine (show Calls Tryz.prog 133 #[.int .i64 (peekV m ln f n g bank x)] W1 (fun e w' => e = .returned (.int .i64 (opLn (peekV m ln f n g bank x))) ∧ Below W1.heap.size W1 w') from implOpLen W1 _ (T.mono D1.low)).mono ?_
  rintro e W2 ⟨rfl, L⟩
  have D2 := D1.below L
  clear D1 L
  generalize opLn (peekV m ln f n g bank x) = len at *
  by_cases e2 : len = 2
  · have HE := hide (HFA.out _ (fun _ => rfl) (fun h => absurd h (by omega)) (fun h => absurd e2 h))
    clear HFA
    subst e2
    obtain ⟨c1, c2, c3⟩ := D2.cells
    go_wp2_with fail
    refine (implPeek _ F G _ _ m ln f n g bank _ (H.keep (wrote_below D2.low Nowhere) (fun _ _ _ x => x)) (K.keep (wrote_below D2.low Nowhere) (fun _ _ _ x => x))).mono ?_
    rintro e W3 ⟨rfl, L⟩
    rw [HP1.out]
    clear c1 c2 c3
    have D3 := D2.below L
    clear D2 L
    have d1 := boxC D3.res
    have d3 := boxF D3.res
    go_wp2_with (go_at_call 134; refine (implJoin _ _ _).mono ?_; rintro e w' ⟨rfl, rfl⟩)
    refine bodyPost_ret (v := .agg #[.int .i64 (peekV m ln f n g bank x), .int .i64 (peekV m ln f n g bank (x + 1) % 256)]) (by simp [results, Tryz.results107, go_sem, d1]) rfl ?_
    exact ⟨by rw [HE.out, Int.emod_eq_of_lt HB.out.1 (by have := HB.out.2; omega)], (D3.low.setCell (by simp; omega) _).setCell (by simp; omega) _⟩
  · have e2' : (len == 2) = false := by simpa using e2
    by_cases e3 : len = 3
    · have HE := hide (HFA.out _ (fun h => absurd h (by omega)) (fun _ => rfl) (fun _ h => absurd e3 h))
      clear HFA
      subst e3
      obtain ⟨c1, c2, c3⟩ := D2.cells
      go_wp2_with fail
      refine (implPeek _ F G _ _ m ln f n g bank _ (H.keep (wrote_below D2.low Nowhere) (fun _ _ _ x => x)) (K.keep (wrote_below D2.low Nowhere) (fun _ _ _ x => x))).mono ?_
      rintro e W3 ⟨rfl, L⟩
      rw [HP2.out]
      clear c1 c2 c3
      have D3 := D2.below L
      clear D2 L
      obtain ⟨c1, c2, c3⟩ := D3.cells
      go_wp2_with fail
      refine (implPeek _ F G _ _ m ln f n g bank _ (H.keep (wrote_below D3.low Nowhere) (fun _ _ _ x => x)) (K.keep (wrote_below D3.low Nowhere) (fun _ _ _ x => x))).mono ?_
      rintro e W4 ⟨rfl, L⟩
      rw [HP1.out]
      clear c1 c2 c3
      have D4 := D3.below L
      clear D3 L
      have d1 := boxC D4.res
      have d3 := boxF D4.res
      go_wp2_with (go_at_call 134; refine (implJoin _ _ _).mono ?_; rintro e w' ⟨rfl, rfl⟩)
      refine bodyPost_ret (v := .agg #[.int .i64 (peekV m ln f n g bank x), .int .i64 (peekV m ln f n g bank (x + 1) % 256 + 256 * (peekV m ln f n g bank (x + 2) % 256))]) (by simp [results, Tryz.results107, go_sem, d1]) rfl ?_
      exact ⟨by rw [HE.out], (D4.low.setCell (by simp; omega) _).setCell (by simp; omega) _⟩
    · have e3' : (len == 3) = false := by simpa using e3
      have HE := hide (HFA.out 0 (fun h => absurd h e2) (fun h => absurd h e3) (fun _ _ => rfl))
      clear e2 e3 HFA
      have d1 := boxC D2.res
      have d3 := boxF D2.res
      go_wp2_with (go_at_call 134; refine (implJoin _ _ _).mono ?_; rintro e w' ⟨rfl, rfl⟩)
      refine bodyPost_ret (v := .agg #[.int .i64 (peekV m ln f n g bank x), .int .i64 0]) (by simp [results, Tryz.results107, go_sem, d1]) rfl ?_
      exact ⟨by rw [HE.out], (D2.low.setCell (by simp; omega) _).setCell (by simp; omega) _⟩
def reachV (op arg X : Int) : Int := (if op = 14 ∨ op = 15 then arg + X else arg) % 65536
theorem nm_other : ∀ k : Fin 30, k.1 ≠ 14 → k.1 ≠ 15 → ((opNm.getD k.1 ByteArray.empty).toList == [108, 97, 120]) = false ∧ ((opNm.getD k.1 ByteArray.empty).toList == [115, 97, 120]) = false := by
  intro ⟨i, hi⟩ h14 h15
  show _ ∧ _
  match i, hi, h14, h15 with
  | 0, _, _, _ => exact ⟨by kernel_rfl, by kernel_rfl⟩
  | 1, _, _, _ => exact ⟨by kernel_rfl, by kernel_rfl⟩
  | 2, _, _, _ => exact ⟨by kernel_rfl, by kernel_rfl⟩
  | 3, _, _, _ => exact ⟨by kernel_rfl, by kernel_rfl⟩
  | 4, _, _, _ => exact ⟨by kernel_rfl, by kernel_rfl⟩
  | 5, _, _, _ => exact ⟨by kernel_rfl, by kernel_rfl⟩
  | 6, _, _, _ => exact ⟨by kernel_rfl, by kernel_rfl⟩
  | 7, _, _, _ => exact ⟨by kernel_rfl, by kernel_rfl⟩
  | 8, _, _, _ => exact ⟨by kernel_rfl, by kernel_rfl⟩
  | 9, _, _, _ => exact ⟨by kernel_rfl, by kernel_rfl⟩
  | 10, _, _, _ => exact ⟨by kernel_rfl, by kernel_rfl⟩
  | 11, _, _, _ => exact ⟨by kernel_rfl, by kernel_rfl⟩
  | 12, _, _, _ => exact ⟨by kernel_rfl, by kernel_rfl⟩
  | 13, _, _, _ => exact ⟨by kernel_rfl, by kernel_rfl⟩
  | 14, _, h, _ => exact absurd rfl h
  | 15, _, _, h => exact absurd rfl h
  | 16, _, _, _ => exact ⟨by kernel_rfl, by kernel_rfl⟩
  | 17, _, _, _ => exact ⟨by kernel_rfl, by kernel_rfl⟩
  | 18, _, _, _ => exact ⟨by kernel_rfl, by kernel_rfl⟩
  | 19, _, _, _ => exact ⟨by kernel_rfl, by kernel_rfl⟩
  | 20, _, _, _ => exact ⟨by kernel_rfl, by kernel_rfl⟩
  | 21, _, _, _ => exact ⟨by kernel_rfl, by kernel_rfl⟩
  | 22, _, _, _ => exact ⟨by kernel_rfl, by kernel_rfl⟩
  | 23, _, _, _ => exact ⟨by kernel_rfl, by kernel_rfl⟩
  | 24, _, _, _ => exact ⟨by kernel_rfl, by kernel_rfl⟩
  | 25, _, _, _ => exact ⟨by kernel_rfl, by kernel_rfl⟩
  | 26, _, _, _ => exact ⟨by kernel_rfl, by kernel_rfl⟩
  | 27, _, _, _ => exact ⟨by kernel_rfl, by kernel_rfl⟩
  | 28, _, _, _ => exact ⟨by kernel_rfl, by kernel_rfl⟩
  | 29, _, _, _ => exact ⟨by kernel_rfl, by kernel_rfl⟩
  | n + 30, hi, _, _ => exact absurd hi (by omega)
theorem nmOf_other (op : Int) (h : op ≠ 14) (g : op ≠ 15) : ((nmOf op).toList == [108, 97, 120]) = false ∧ ((nmOf op).toList == [115, 97, 120]) = false := by
  unfold nmOf
  split
  · rename_i k
    exact nm_other ⟨op.toNat, by omega⟩ (by show op.toNat ≠ 14; omega) (by show op.toNat ≠ 15; omega)
  · exact ⟨by kernel_rfl, by kernel_rfl⟩
theorem reachedAt (w : World) (op arg A X S Pc : Int) (Z N C I : Bool) (T : OpTab w) : Calls Tryz.prog 136 #[.agg #[.int .i64 op, .int .i64 arg], .agg #[.int .i64 A, .int .i64 X, .int .i64 S, .int .i64 Pc, .bool Z, .bool N, .bool C, .bool I]] w
    fun e w' => e = .returned (.int .i64 (reachV op arg X)) ∧ Below w.heap.size w w' := by
  have L0 : Below w.heap.size w ((w.alloc (.cells #[.int .i64 op, .int .i64 arg] 79)).alloc (.cells #[.int .i64 A, .int .i64 X, .int .i64 S, .int .i64 Pc, .bool Z, .bool N, .bool C, .bool I] 49)) := ((Below.refl _ _).alloc (Nat.le_refl _) _).alloc (by simp) _
  have k0 := boxA (box_new w #[.int .i64 op, .int .i64 arg] 79) (.cells #[.int .i64 A, .int .i64 X, .int .i64 S, .int .i64 Pc, .bool Z, .bool N, .bool C, .bool I] 49)
  have k1 : ((w.alloc (.cells #[.int .i64 op, .int .i64 arg] 79)).alloc (.cells #[.int .i64 A, .int .i64 X, .int .i64 S, .int .i64 Pc, .bool Z, .bool N, .bool C, .bool I] 49)).heap[w.heap.size + 1]? = some (.cells #[.int .i64 A, .int .i64 X, .int .i64 S, .int .i64 Pc, .bool Z, .bool N, .bool C, .bool I] 49 (0, 0)) := by simpa using box_new (w.alloc (.cells #[.int .i64 op, .int .i64 arg] 79)) #[.int .i64 A, .int .i64 X, .int .i64 S, .int .i64 Pc, .bool Z, .bool N, .bool C, .bool I] 49
  have HW : Hid (wrap64 (arg + X) % 65536 = (arg + X) % 65536) := by show _ = _; unfold wrap64; omega
  go_enter Tryz.func136, Tryz.ntmps136
  go_wp2_with fail
  generalize ((w.alloc (.cells #[.int .i64 op, .int .i64 arg] 79)).alloc (.cells #[.int .i64 A, .int .i64 X, .int .i64 S, .int .i64 Pc, .bool Z, .bool N, .bool C, .bool I] 49)) = W0 at *
  refine (implOpName _ _ (T.mono L0)).mono ?_
  rintro e W1 ⟨rfl, L⟩
  have c0 := boxC (box_keep k0 L (boxLt k0))
  have c1 := boxC (box_keep k1 L (boxLt k1))
  have L1 := below_snoc L0 L
  clear k0 k1 L0 L T
  by_cases h14 : op = 14
  · subst h14
    rw [show nmOf 14 = ⟨#[108, 97, 120]⟩ from rfl]
    go_wp2_with (go_at_call 92; refine (implAddr _ _).mono ?_; rintro e w' ⟨rfl, rfl⟩; rw [HW.out])
    go_ret
    exact ⟨rfl, L1⟩
  · by_cases h15 : op = 15
    · subst h15
      rw [show nmOf 15 = ⟨#[115, 97, 120]⟩ from rfl]
      go_wp2_with (go_at_call 92; refine (implAddr _ _).mono ?_; rintro e w' ⟨rfl, rfl⟩; rw [HW.out])
      go_ret
      exact ⟨rfl, L1⟩
    · have HE : Hid (reachV op arg X = arg % 65536) := by show _ = _; unfold reachV; rw [if_neg (by omega)]
      obtain ⟨n1, n2⟩ := nmOf_other op h14 h15
      clear h14 h15
      generalize nmOf op = nm at *
      go_wp2_with (go_at_call 92; refine (implAddr _ _).mono ?_; rintro e w' ⟨rfl, rfl⟩)
      go_ret
      exact ⟨ret_int HE.out.symm, L1⟩
set_option maxHeartbeats 2000000 in
theorem implAccess (w : World) (op arg A X S Pc : Int) (Z N C I : Bool) (T : OpTab w) : Calls Tryz.prog 108 #[.agg #[.int .i64 op, .int .i64 arg], .agg #[.int .i64 A, .int .i64 X, .int .i64 S, .int .i64 Pc, .bool Z, .bool N, .bool C, .bool I]] w
    fun e w' => e = .returned (.tuple #[.int .i64 (accOf op), .int .i64 (accAt op arg X), .int .i64 (accV op A)]) ∧ Below w.heap.size w w' := by
  have L0 : Below w.heap.size w ((w.alloc (.cells #[.int .i64 op, .int .i64 arg] 79)).alloc (.cells #[.int .i64 A, .int .i64 X, .int .i64 S, .int .i64 Pc, .bool Z, .bool N, .bool C, .bool I] 49)) := ((Below.refl _ _).alloc (Nat.le_refl _) _).alloc (by simp) _
  have k0 := boxA (box_new w #[.int .i64 op, .int .i64 arg] 79) (.cells #[.int .i64 A, .int .i64 X, .int .i64 S, .int .i64 Pc, .bool Z, .bool N, .bool C, .bool I] 49)
  have k1 : ((w.alloc (.cells #[.int .i64 op, .int .i64 arg] 79)).alloc (.cells #[.int .i64 A, .int .i64 X, .int .i64 S, .int .i64 Pc, .bool Z, .bool N, .bool C, .bool I] 49)).heap[w.heap.size + 1]? = some (.cells #[.int .i64 A, .int .i64 X, .int .i64 S, .int .i64 Pc, .bool Z, .bool N, .bool C, .bool I] 49 (0, 0)) := by simpa using box_new (w.alloc (.cells #[.int .i64 op, .int .i64 arg] 79)) #[.int .i64 A, .int .i64 X, .int .i64 S, .int .i64 Pc, .bool Z, .bool N, .bool C, .bool I] 49
  have HA : Hid ((accOf op = 0 → accAt op arg X = 0) ∧ (accOf op ≠ 0 → accAt op arg X = reachV op arg X) ∧ (accOf op = 2 → accV op A = A % 256) ∧ (accOf op ≠ 2 → accV op A = 0)) := by
    show _ ∧ _ ∧ _ ∧ _
    unfold accAt accV reachV
    exact ⟨fun h => if_pos h, fun h => if_neg h, fun h => if_pos h, fun h => if_neg h⟩
  have HC : Hid (accOf op = 0 ∨ accOf op = 1 ∨ accOf op = 2) := by
    show _ ∨ _ ∨ _
    unfold accOf
    split
    · exact Or.inr (Or.inl rfl)
    · split
      · exact Or.inr (Or.inr rfl)
      · exact Or.inl rfl
  go_enter Tryz.func108, Tryz.ntmps108
  go_wp2_with fail
  generalize ((w.alloc (.cells #[.int .i64 op, .int .i64 arg] 79)).alloc (.cells #[.int .i64 A, .int .i64 X, .int .i64 S, .int .i64 Pc, .bool Z, .bool N, .bool C, .bool I] 49)) = W0 at *
  refine (implOpAccess _ _ (T.mono L0)).mono ?_
  rintro e W1 ⟨rfl, L⟩
  rw [acOf_eq]
  have c0 := boxC (box_keep k0 L (boxLt k0))
  have c1 := boxC (box_keep k1 L (boxLt k1))
  have L1 := below_snoc L0 L
  have T1 := hide (T.mono L1)
  clear k0 k1 L0 L T
  generalize hac : accOf op = ac at *
  replace hac := hide hac
  rcases HC.out with rfl | rfl | rfl
  · have e1 := hide (HA.out.1 rfl)
    have e2 := hide (HA.out.2.2.2 (by decide))
    clear HA HC
    go_wp2
    go_ret3
    exact ⟨by rw [hac.out, e1.out, e2.out]; rfl, L1⟩
  · have e1 := hide (HA.out.2.1 (by decide))
    have e2 := hide (HA.out.2.2.2 (by decide))
    clear HA HC
    go_wp2_with (go_at_call 136; refine (reachedAt _ op arg A X S Pc Z N C I (unhide T1)).mono ?_; rintro e w' ⟨rfl, L2⟩)
    go_ret3
    exact ⟨by rw [hac.out, e1.out, e2.out]; rfl, below_snoc L1 L2⟩
  · have e1 := hide (HA.out.2.1 (by decide))
    have e2 := hide (HA.out.2.2.1 rfl)
    clear HA HC
    go_wp2_with (first | (go_at_call 91; refine (implByte _ _).mono ?_; rintro e w' ⟨rfl, rfl⟩) | (go_at_call 136; refine (reachedAt _ op arg A X S Pc Z N C I (unhide T1)).mono ?_; rintro e w' ⟨rfl, L2⟩))
    go_ret3
    exact ⟨by rw [hac.out, e1.out, e2.out]; rfl, below_snoc L1 L2⟩
end Go.Proofs.YtjcaligejlhjdaaGreatDoor
