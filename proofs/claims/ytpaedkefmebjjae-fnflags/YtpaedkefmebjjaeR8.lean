/-
  FnFlags' double assignment: two calls, two boxes, whatever order they come in.
-/
import Derived.Test.YtpaedkefmebjjaeV0
import Derived.Test.YtpaedkefmebjjaeD5
import Derived.Test.YtpaedkefmebjjaeI5
namespace Go.Proofs.Ytpaedkefmebjjae
set_option linter.unusedVariables false
open Go.ChangeShapes Go.WideShapes Go.ChangeAt Go.RowKit
abbrev ops8 : Array Oper := #[{ dst := some 52, op := Op.load 25 (Operand.tmp 6), type := 25, pos := "laws.go:632", after := #[], guard := none }, { dst := some 53, op := Op.move (Operand.tmp 7), type := 3, pos := "laws.go:632", after := #[], guard := none }, { dst := some 54, op := Op.call { callee := Callee.value (Operand.func 14), args := #[Operand.tmp 52, Operand.tmp 53], argTypes := #[25, 3] }, type := 25, pos := "laws.go:632", after := #[{ on := 0, ground := Ground.data }, { on := 1, ground := Ground.data }], guard := none }, { dst := some 55, op := Op.load 25 (Operand.tmp 6), type := 25, pos := "laws.go:632", after := #[], guard := none }, { dst := some 56, op := Op.move (Operand.tmp 7), type := 3, pos := "laws.go:632", after := #[], guard := none }, { dst := some 57, op := Op.call { callee := Callee.value (Operand.func 15), args := #[Operand.tmp 55, Operand.tmp 56], argTypes := #[25, 3] }, type := 25, pos := "laws.go:632", after := #[{ on := 3, ground := Ground.data }, { on := 4, ground := Ground.data }, { on := 2, ground := Ground.chain }], guard := none }, { dst := some 8, op := Op.alloc 25, type := 0, pos := "laws.go:632", after := #[], guard := none }, { dst := some 9, op := Op.alloc 25, type := 0, pos := "laws.go:632", after := #[], guard := none }, { dst := none, op := Op.store 25 (Operand.tmp 8) (Operand.tmp 54), type := 0, pos := "laws.go:632", after := #[{ on := 6, ground := Ground.data }, { on := 2, ground := Ground.data }, { on := 5, ground := Ground.chain }, { on := 0, ground := Ground.phase }, { on := 1, ground := Ground.phase }, { on := 2, ground := Ground.phase }, { on := 3, ground := Ground.textOnly Departure.lateStores }, { on := 4, ground := Ground.textOnly Departure.lateStores }, { on := 5, ground := Ground.textOnly Departure.lateStoresUnsure }, { on := 6, ground := Ground.phase }, { on := 7, ground := Ground.phase }], guard := none }, { dst := none, op := Op.store 25 (Operand.tmp 9) (Operand.tmp 57), type := 0, pos := "laws.go:632", after := #[{ on := 7, ground := Ground.data }, { on := 5, ground := Ground.data }, { on := 8, ground := Ground.chain }, { on := 0, ground := Ground.phase }, { on := 1, ground := Ground.phase }, { on := 2, ground := Ground.phase }, { on := 3, ground := Ground.phase }, { on := 4, ground := Ground.phase }, { on := 5, ground := Ground.phase }, { on := 6, ground := Ground.phase }, { on := 7, ground := Ground.phase }, { on := 8, ground := Ground.phase }], guard := none }]
def Sl8 : List Nat := [8, 9, 52, 53, 54, 55, 56, 57]
def J8 (w6 : World) (A X S Pc : Int) (Z N C I : Bool) (v : Int) (a0 : Act) (l : Array Bool) (a : Act) (W : World) : Prop :=
  ∃ b0 b1 b2 b3 b4 b5 b6 b7 b8 b9 : Bool, l = #[b0, b1, b2, b3, b4, b5, b6, b7, b8, b9] ∧ Fr Sl8 a0 a ∧ Below w6.heap.size w6 W ∧
    (b0 = true → a.tmps[52]?.getD undef = .agg #[.int .i64 A, .int .i64 X, .int .i64 S, .int .i64 Pc, .bool Z, .bool N, .bool C, .bool I]) ∧ (b1 = true → a.tmps[53]?.getD undef = .int .i64 v) ∧ (b2 = true → a.tmps[54]?.getD undef = .agg #[.int .i64 (v % 256), .int .i64 X, .int .i64 S, .int .i64 Pc, .bool (v % 256 == 0), .bool (decide (127 < v % 256)), .bool C, .bool I]) ∧ (b3 = true → a.tmps[55]?.getD undef = .agg #[.int .i64 A, .int .i64 X, .int .i64 S, .int .i64 Pc, .bool Z, .bool N, .bool C, .bool I]) ∧ (b4 = true → a.tmps[56]?.getD undef = .int .i64 v) ∧ (b5 = true → a.tmps[57]?.getD undef = .agg #[.int .i64 A, .int .i64 (v % 256), .int .i64 S, .int .i64 Pc, .bool (v % 256 == 0), .bool (decide (127 < v % 256)), .bool C, .bool I]) ∧
    (b6 = true → ∃ p, a.tmps[8]?.getD undef = .pointer (some ⟨p, 0, none⟩) ∧ w6.heap.size ≤ p ∧ W.heap[p]? = some (.cells (if b8 then #[.int .i64 (v % 256), .int .i64 X, .int .i64 S, .int .i64 Pc, .bool (v % 256 == 0), .bool (decide (127 < v % 256)), .bool C, .bool I] else #[.int .i64 0, .int .i64 0, .int .i64 0, .int .i64 0, .bool false, .bool false, .bool false, .bool false]) 25 (0, 0)) ∧ (b7 = true → a.tmps[9]?.getD undef ≠ .pointer (some ⟨p, 0, none⟩))) ∧
    (b7 = true → ∃ q, a.tmps[9]?.getD undef = .pointer (some ⟨q, 0, none⟩) ∧ w6.heap.size ≤ q ∧ W.heap[q]? = some (.cells (if b9 then #[.int .i64 A, .int .i64 (v % 256), .int .i64 S, .int .i64 Pc, .bool (v % 256 == 0), .bool (decide (127 < v % 256)), .bool C, .bool I] else #[.int .i64 0, .int .i64 0, .int .i64 0, .int .i64 0, .bool false, .bool false, .bool false, .bool false]) 25 (0, 0))) ∧ (b8 = true → b6 = true) ∧ (b9 = true → b7 = true)
set_option maxHeartbeats 2000000 in
theorem reg8 {Q : Exit → Act → World → Prop} {id : Nat} (w6 : World) (A X S Pc : Int) (Z N C I : Bool) (v : Int) (a0 : Act) (pe : Nat) (hsz : 57 < a0.tmps.size)
    (h6 : a0.tmps[6]?.getD undef = .pointer (some ⟨pe, 0, none⟩)) (h7 : a0.tmps[7]?.getD undef = .int .i64 v) (e6 : w6.heap[pe]? = some (.cells #[.int .i64 A, .int .i64 X, .int .i64 S, .int .i64 Pc, .bool Z, .bool N, .bool C, .bool I] 25 (0, 0)))
    (hQ : ∀ a W p q, Fr Sl8 a0 a → a.tmps[8]?.getD undef = .pointer (some ⟨p, 0, none⟩) → a.tmps[9]?.getD undef = .pointer (some ⟨q, 0, none⟩) → W.heap[p]? = some (.cells #[.int .i64 (v % 256), .int .i64 X, .int .i64 S, .int .i64 Pc, .bool (v % 256 == 0), .bool (decide (127 < v % 256)), .bool C, .bool I] 25 (0, 0)) → W.heap[q]? = some (.cells #[.int .i64 A, .int .i64 (v % 256), .int .i64 S, .int .i64 Pc, .bool (v % 256 == 0), .bool (decide (127 < v % 256)), .bool C, .bool I] 25 (0, 0)) → Below w6.heap.size w6 W → Q .normal a W) :
    (Code.region id ops8 true).wp Try.prog Q a0 w6 := by
  refine wp_region_inv (by kernel_rfl) (by kernel_rfl) (J8 w6 A X S Pc Z N C I v) ?_ ?_ ?_
  · refine ⟨false, false, false, false, false, false, false, false, false, false, rfl, ⟨rfl, rfl, fun _ _ => rfl⟩, (Below.refl _ _).drew, ?_⟩
    simp
  · rintro l a W i o K hl ⟨b0, b1, b2, b3, b4, b5, b6, b7, b8, b9, rfl, F, L, k0, k1, k2, k3, k4, k5, k6, k7, k8, k9⟩ ho hf ha hK
    have r := boxC (box_keep e6 L (boxLt e6))
    have f6 := F.get (t := 6) (by decide) h6
    have f7 := F.get (t := 7) (by decide) h7
    have hz : 57 < a.tmps.size := by rw [F.size]; exact hsz
    have hi : i = 0 ∨ i = 1 ∨ i = 2 ∨ i = 3 ∨ i = 4 ∨ i = 5 ∨ i = 6 ∨ i = 7 ∨ i = 8 ∨ i = 9 := by
      have : i < 10 := by
        rcases Nat.lt_or_ge i 10 with h | h
        · exact h
        · simp [Array.getElem?_eq_none (show (#[b0, b1, b2, b3, b4, b5, b6, b7, b8, b9] : Array Bool).size ≤ i from h)] at hf
      omega
    rcases hi with rfl | rfl | rfl | rfl | rfl | rfl | rfl | rfl | rfl | rfl
    all_goals (simp only [ops8, List.getElem?_toArray, List.getElem?_cons_zero, List.getElem?_cons_succ, Option.some.injEq] at ho; subst ho; refine wpOp_of rfl rfl ?_; simp [Region.binds] at ha hf; subst hf)
    · go_simp
      refine hK (a.put (some 52) _) W ⟨true, b1, b2, b3, b4, b5, b6, b7, b8, b9, rfl, F.put (by decide) _, L, fun _ => getD_put_eq (by omega), fun h => (getD_put_ne (by decide)).trans (k1 h), fun h => (getD_put_ne (by decide)).trans (k2 h), fun h => (getD_put_ne (by decide)).trans (k3 h), fun h => (getD_put_ne (by decide)).trans (k4 h), fun h => (getD_put_ne (by decide)).trans (k5 h), ?_, ?_, k8, k9⟩
      · intro h; obtain ⟨p, x1, x2, x3, x4⟩ := k6 h; exact ⟨p, (getD_put_ne (by decide)).trans x1, x2, x3, fun h' e => x4 h' ((getD_put_ne (by decide)).symm.trans e)⟩
      · intro h; obtain ⟨q, y1, y2, y3⟩ := k7 h; exact ⟨q, (getD_put_ne (by decide)).trans y1, y2, y3⟩
    · go_simp
      refine hK (a.put (some 53) _) W ⟨b0, true, b2, b3, b4, b5, b6, b7, b8, b9, rfl, F.put (by decide) _, L, fun h => (getD_put_ne (by decide)).trans (k0 h), fun _ => getD_put_eq (by omega), fun h => (getD_put_ne (by decide)).trans (k2 h), fun h => (getD_put_ne (by decide)).trans (k3 h), fun h => (getD_put_ne (by decide)).trans (k4 h), fun h => (getD_put_ne (by decide)).trans (k5 h), ?_, ?_, k8, k9⟩
      · intro h; obtain ⟨p, x1, x2, x3, x4⟩ := k6 h; exact ⟨p, (getD_put_ne (by decide)).trans x1, x2, x3, fun h' e => x4 h' ((getD_put_ne (by decide)).symm.trans e)⟩
      · intro h; obtain ⟨q, y1, y2, y3⟩ := k7 h; exact ⟨q, (getD_put_ne (by decide)).trans y1, y2, y3⟩
    · go_simp
      refine (implSetA _ A X S Pc Z N C I v).mono ?_
      rintro e W' ⟨rfl, LB⟩
      refine hK (a.put (some 54) _) W' ⟨b0, b1, true, b3, b4, b5, b6, b7, b8, b9, rfl, F.put (by decide) _, below_snoc L LB, fun h => (getD_put_ne (by decide)).trans (k0 h), fun h => (getD_put_ne (by decide)).trans (k1 h), fun _ => getD_put_eq (by omega), fun h => (getD_put_ne (by decide)).trans (k3 h), fun h => (getD_put_ne (by decide)).trans (k4 h), fun h => (getD_put_ne (by decide)).trans (k5 h), ?_, ?_, k8, k9⟩
      · intro h; obtain ⟨p, x1, x2, x3, x4⟩ := k6 h; exact ⟨p, (getD_put_ne (by decide)).trans x1, x2, box_keep x3 LB (boxLt x3), fun h' e => x4 h' ((getD_put_ne (by decide)).symm.trans e)⟩
      · intro h; obtain ⟨q, y1, y2, y3⟩ := k7 h; exact ⟨q, (getD_put_ne (by decide)).trans y1, y2, box_keep y3 LB (boxLt y3)⟩
    · go_simp
      refine hK (a.put (some 55) _) W ⟨b0, b1, b2, true, b4, b5, b6, b7, b8, b9, rfl, F.put (by decide) _, L, fun h => (getD_put_ne (by decide)).trans (k0 h), fun h => (getD_put_ne (by decide)).trans (k1 h), fun h => (getD_put_ne (by decide)).trans (k2 h), fun _ => getD_put_eq (by omega), fun h => (getD_put_ne (by decide)).trans (k4 h), fun h => (getD_put_ne (by decide)).trans (k5 h), ?_, ?_, k8, k9⟩
      · intro h; obtain ⟨p, x1, x2, x3, x4⟩ := k6 h; exact ⟨p, (getD_put_ne (by decide)).trans x1, x2, x3, fun h' e => x4 h' ((getD_put_ne (by decide)).symm.trans e)⟩
      · intro h; obtain ⟨q, y1, y2, y3⟩ := k7 h; exact ⟨q, (getD_put_ne (by decide)).trans y1, y2, y3⟩
    · go_simp
      refine hK (a.put (some 56) _) W ⟨b0, b1, b2, b3, true, b5, b6, b7, b8, b9, rfl, F.put (by decide) _, L, fun h => (getD_put_ne (by decide)).trans (k0 h), fun h => (getD_put_ne (by decide)).trans (k1 h), fun h => (getD_put_ne (by decide)).trans (k2 h), fun h => (getD_put_ne (by decide)).trans (k3 h), fun _ => getD_put_eq (by omega), fun h => (getD_put_ne (by decide)).trans (k5 h), ?_, ?_, k8, k9⟩
      · intro h; obtain ⟨p, x1, x2, x3, x4⟩ := k6 h; exact ⟨p, (getD_put_ne (by decide)).trans x1, x2, x3, fun h' e => x4 h' ((getD_put_ne (by decide)).symm.trans e)⟩
      · intro h; obtain ⟨q, y1, y2, y3⟩ := k7 h; exact ⟨q, (getD_put_ne (by decide)).trans y1, y2, y3⟩
    · go_simp
      refine (implSetX _ A X S Pc Z N C I v).mono ?_
      rintro e W' ⟨rfl, LB⟩
      refine hK (a.put (some 57) _) W' ⟨b0, b1, b2, b3, b4, true, b6, b7, b8, b9, rfl, F.put (by decide) _, below_snoc L LB, fun h => (getD_put_ne (by decide)).trans (k0 h), fun h => (getD_put_ne (by decide)).trans (k1 h), fun h => (getD_put_ne (by decide)).trans (k2 h), fun h => (getD_put_ne (by decide)).trans (k3 h), fun h => (getD_put_ne (by decide)).trans (k4 h), fun _ => getD_put_eq (by omega), ?_, ?_, k8, k9⟩
      · intro h; obtain ⟨p, x1, x2, x3, x4⟩ := k6 h; exact ⟨p, (getD_put_ne (by decide)).trans x1, x2, box_keep x3 LB (boxLt x3), fun h' e => x4 h' ((getD_put_ne (by decide)).symm.trans e)⟩
      · intro h; obtain ⟨q, y1, y2, y3⟩ := k7 h; exact ⟨q, (getD_put_ne (by decide)).trans y1, y2, box_keep y3 LB (boxLt y3)⟩
    · go_simp
      have hb8 : b8 = false := by cases b8 <;> simp_all
      subst hb8
      refine hK (a.put (some 8) _) _ ⟨b0, b1, b2, b3, b4, b5, true, b7, false, b9, rfl, F.put (by decide) _, L.alloc L.size _, fun h => (getD_put_ne (by decide)).trans (k0 h), fun h => (getD_put_ne (by decide)).trans (k1 h), fun h => (getD_put_ne (by decide)).trans (k2 h), fun h => (getD_put_ne (by decide)).trans (k3 h), fun h => (getD_put_ne (by decide)).trans (k4 h), fun h => (getD_put_ne (by decide)).trans (k5 h), ?_, ?_, fun _ => rfl, k9⟩
      · intro _; exact ⟨W.heap.size, getD_put_eq (by omega), L.size, box_new W _ _, fun h' e => by
          obtain ⟨q, y1, y2, y3⟩ := k7 h'
          rw [getD_put_ne (by decide), y1] at e
          have := boxLt y3
          simp at e <;> omega⟩
      · intro h; obtain ⟨q, y1, y2, y3⟩ := k7 h; exact ⟨q, (getD_put_ne (by decide)).trans y1, y2, boxA y3 _⟩
    · go_simp
      have hb9 : b9 = false := by cases b9 <;> simp_all
      subst hb9
      refine hK (a.put (some 9) _) _ ⟨b0, b1, b2, b3, b4, b5, b6, true, b8, false, rfl, F.put (by decide) _, L.alloc L.size _, fun h => (getD_put_ne (by decide)).trans (k0 h), fun h => (getD_put_ne (by decide)).trans (k1 h), fun h => (getD_put_ne (by decide)).trans (k2 h), fun h => (getD_put_ne (by decide)).trans (k3 h), fun h => (getD_put_ne (by decide)).trans (k4 h), fun h => (getD_put_ne (by decide)).trans (k5 h), ?_, ?_, k8, fun _ => rfl⟩
      · intro h; obtain ⟨p, x1, x2, x3, x4⟩ := k6 h
        refine ⟨p, (getD_put_ne (by decide)).trans x1, x2, boxA x3 _, fun _ e => ?_⟩
        rw [getD_put_eq (by omega)] at e
        have := boxLt x3
        simp at e <;> omega
      · intro _; exact ⟨W.heap.size, getD_put_eq (by omega), L.size, box_new W _ _⟩
    · have hb6 : b6 = true := by simp_all
      have hb7 : b7 = true := by simp_all
      obtain ⟨p, x1, x2, x3, x4⟩ := k6 hb6
      obtain ⟨q, y1, y2, y3⟩ := k7 hb7
      simp only [Bool.false_eq_true, if_false] at x3
      have hne : q ≠ p := fun e => x4 hb7 (by rw [y1, e])
      have c := boxC x3
      have f := boxF x3
      clear hz
      go_simp
      refine hK a _ ⟨b0, b1, b2, b3, b4, b5, b6, b7, true, b9, rfl, F, below_set8 L x2 _ _ _ _ _ _ _ _, k0, k1, k2, k3, k4, k5, fun _ => ⟨p, x1, x2, set8 x3 _ _ _ _ _ _ _ _, x4⟩, fun _ => ⟨q, y1, y2, (keep8 hne _ _ _ _ _ _ _ _).trans y3⟩, fun _ => hb6, k9⟩
    · have hb6 : b6 = true := by simp_all
      have hb7 : b7 = true := by simp_all
      obtain ⟨p, x1, x2, x3, x4⟩ := k6 hb6
      obtain ⟨q, y1, y2, y3⟩ := k7 hb7
      simp only [Bool.false_eq_true, if_false] at y3
      have hne : p ≠ q := fun e => x4 hb7 (by rw [y1, e])
      have c := boxC y3
      have f := boxF y3
      clear hz
      go_simp
      refine hK a _ ⟨b0, b1, b2, b3, b4, b5, b6, b7, b8, true, rfl, F, below_set8 L y2 _ _ _ _ _ _ _ _, k0, k1, k2, k3, k4, k5, fun _ => ⟨p, x1, x2, (keep8 hne _ _ _ _ _ _ _ _).trans x3, x4⟩, fun _ => ⟨q, y1, y2, set8 y3 _ _ _ _ _ _ _ _⟩, k8, fun _ => hb7⟩
  · rintro l a W hall ⟨b0, b1, b2, b3, b4, b5, b6, b7, b8, b9, rfl, F, L, k0, k1, k2, k3, k4, k5, k6, k7, k8, k9⟩
    have q8 : b8 = true := by simpa using hall 8 (by decide)
    have q9 : b9 = true := by simpa using hall 9 (by decide)
    subst q8 q9
    obtain ⟨p, x1, x2, x3, x4⟩ := k6 (k8 rfl)
    obtain ⟨q, y1, y2, y3⟩ := k7 (k9 rfl)
    exact hQ a W p q F x1 y1 x3 y3 L
end Go.Proofs.Ytpaedkefmebjjae
