/-
  FnExactFetch's call of the specification, whatever order its parts come in.
-/
import Derived.Test.YtpaedkefmebjjanDoorV0
import Derived.Test.YtpaedkefmebjjanDoorCB
import Derived.Test.YtpaedkefmebjjanDoorU0
namespace Go.Proofs.YtpaedkefmebjjanDoor
set_option linter.unusedVariables false
open Go.ChangeShapes Go.WideShapes Go.ChangeAt Go.RowKit
theorem onSpecFetch (w : World) (D E : Nat → Prop) (v u : Value) (m : Nat) (ln : Nat → Nat) (f : Nat → Nat → Int) (n : Nat) (g : Nat → Int) (bank x : Int) (H : ImgOn w D v m ln f) (K : MemOn w E u n g bank) :
    Calls Tryd.prog 8 #[v, u, .int .i64 x] w fun e w' => e = .returned (.agg #[.int .i64 (peekV m ln f n g bank x), .int .i64 (fetchA (peekV m ln f n g bank) x)]) ∧ Below w.heap.size w w' := by
  obtain ⟨v', F, rfl, hv⟩ := H.ints
  obtain ⟨u', rfl, hu⟩ := K.ints
  exact specFetch w F _ v' u' m ln f n g bank x hv hu
abbrev regFetchS_ops : Array Oper := #[{ dst := some 22, op := Op.load 24 (Operand.tmp 3), type := 24, pos := "exact.go:1802", after := #[], guard := none }, { dst := some 23, op := Op.call { callee := Callee.value (Operand.func 9), args := #[Operand.tmp 22], argTypes := #[24] }, type := 33, pos := "exact.go:1802", after := #[{ on := 0, ground := Ground.data }], guard := none }, { dst := some 24, op := Op.load 27 (Operand.tmp 4), type := 27, pos := "exact.go:1802", after := #[], guard := none }, { dst := some 25, op := Op.call { callee := Callee.value (Operand.func 10), args := #[Operand.tmp 24], argTypes := #[27] }, type := 35, pos := "exact.go:1802", after := #[{ on := 2, ground := Ground.data }, { on := 1, ground := Ground.chain }], guard := none }, { dst := some 26, op := Op.move (Operand.tmp 2), type := 3, pos := "exact.go:1802", after := #[], guard := none }, { dst := some 27, op := Op.call { callee := Callee.value (Operand.func 8), args := #[Operand.tmp 23, Operand.tmp 25, Operand.tmp 26], argTypes := #[33, 35, 3] }, type := 31, pos := "exact.go:1802", after := #[{ on := 1, ground := Ground.data }, { on := 3, ground := Ground.data }, { on := 4, ground := Ground.data }, { on := 3, ground := Ground.chain }], guard := none }, { dst := some 8, op := Op.alloc 31, type := 0, pos := "exact.go:1802", after := #[], guard := none }, { dst := none, op := Op.store 31 (Operand.tmp 8) (Operand.tmp 27), type := 0, pos := "exact.go:1802", after := #[{ on := 6, ground := Ground.data }, { on := 5, ground := Ground.data }, { on := 5, ground := Ground.chain }, { on := 0, ground := Ground.phase }, { on := 1, ground := Ground.phase }, { on := 2, ground := Ground.phase }, { on := 3, ground := Ground.phase }, { on := 4, ground := Ground.phase }, { on := 5, ground := Ground.phase }, { on := 6, ground := Ground.phase }], guard := none }]
def regFetchS_sl : List Nat := [8, 22, 23, 24, 25, 26, 27]
def regFetchS_J (w6 : World) (u0 : Value) (m0 : Nat) (ln0 : Nat → Nat) (f0 : Nat → Nat → Int) (u1 : Value) (n1 : Nat) (f1 : Nat → Int) (a1 : Int) (a2 : Int) (a0 : Act) (l : Array Bool) (a : Act) (W : World) : Prop :=
  ∃ b0 b1 b2 b3 b4 b5 b6 b7 : Bool, ∃ s8 s22 s23 s24 s25 s26 s27 : Value, l = #[b0, b1, b2, b3, b4, b5, b6, b7] ∧ Fr regFetchS_sl a0 a ∧ Below w6.heap.size w6 W ∧ (a.tmps[8]?.getD undef = s8 ∧ a.tmps[22]?.getD undef = s22 ∧ a.tmps[23]?.getD undef = s23 ∧ a.tmps[24]?.getD undef = s24 ∧ a.tmps[25]?.getD undef = s25 ∧ a.tmps[26]?.getD undef = s26 ∧ a.tmps[27]?.getD undef = s27) ∧
    (b0 = true → s22 = .agg #[u0]) ∧ (b1 = true → ImgOn W (fun b => w6.heap.size ≤ b ∧ (b6 = true → s8 ≠ .pointer (some ⟨b, 0, none⟩))) s23 m0 ln0 f0) ∧ (b2 = true → s24 = .agg #[u1, .int .i64 a1]) ∧ (b3 = true → MemOn W (fun b => w6.heap.size ≤ b ∧ (b6 = true → s8 ≠ .pointer (some ⟨b, 0, none⟩))) s25 n1 f1 a1) ∧ (b4 = true → s26 = .int .i64 a2) ∧ (b5 = true → s27 = .agg #[.int .i64 (peekV m0 ln0 f0 n1 f1 a1 a2), .int .i64 (fetchA (peekV m0 ln0 f0 n1 f1 a1) a2)]) ∧ (b6 = true → ∃ p, s8 = .pointer (some ⟨p, 0, none⟩) ∧ w6.heap.size ≤ p ∧ (b7 = false → W.heap[p]? = some (.cells #[.int .i64 0, .int .i64 0] 31 (0, 0))) ∧ (b7 = true → W.heap[p]? = some (.cells #[.int .i64 (peekV m0 ln0 f0 n1 f1 a1 a2), .int .i64 (fetchA (peekV m0 ln0 f0 n1 f1 a1) a2)] 31 (0, 0)))) ∧ (b7 = true → b6 = true) ∧ (b7 = true → b5 = true)
set_option maxHeartbeats 4000000 in
set_option maxRecDepth 20000 in
theorem regFetchS {F0 F1 : Nat → Nat → Prop} {B3 B4 : Nat} {Q : Exit → Act → World → Prop} {id : Nat} (w6 : World) (u0 : Value) (m0 : Nat) (ln0 : Nat → Nat) (f0 : Nat → Nat → Int) (u1 : Value) (n1 : Nat) (f1 : Nat → Int) (a1 : Int) (a2 : Int) (a0 : Act) (hsz : 27 < a0.tmps.size) (h3 : a0.tmps[3]?.getD undef = .pointer (some ⟨B3, 0, none⟩)) (h4 : a0.tmps[4]?.getD undef = .pointer (some ⟨B4, 0, none⟩)) (x3 : w6.heap[B3]? = some (.cells #[u0] 24 (0, 0))) (x4 : w6.heap[B4]? = some (.cells #[u1, .int .i64 a1] 27 (0, 0))) (h2 : a0.tmps[2]?.getD undef = .int .i64 a2) (hm : m0 + psum ln0 m0 ≤ 1048576) (hn : n1 ≤ 1048576) (HI : IntSS .i64 w6 F0 u0 m0 ln0 f0) (HK : Ints .i64 w6 F1 u1 n1 f1) (hQ : ∀ a W, ∀ p8 : Nat, Fr regFetchS_sl a0 a → a.tmps[8]?.getD undef = .pointer (some ⟨p8, 0, none⟩) → w6.heap.size ≤ p8 → W.heap[p8]? = some (.cells #[.int .i64 (peekV m0 ln0 f0 n1 f1 a1 a2), .int .i64 (fetchA (peekV m0 ln0 f0 n1 f1 a1) a2)] 31 (0, 0)) → Below w6.heap.size w6 W → Q .normal a W) : (Code.region id regFetchS_ops true).wp Tryd.prog Q a0 w6 := by
  refine wp_region_inv (by kernel_rfl) (by kernel_rfl) (regFetchS_J w6 u0 m0 ln0 f0 u1 n1 f1 a1 a2) ?_ ?_ ?_
  · refine ⟨false, false, false, false, false, false, false, false, _, _, _, _, _, _, _, rfl, ⟨rfl, rfl, fun _ _ => rfl⟩, (Below.refl _ _).drew, ⟨rfl, rfl, rfl, rfl, rfl, rfl, rfl⟩, ?_⟩
    simp
  · rintro l a W i o K hl ⟨b0, b1, b2, b3, b4, b5, b6, b7, s8, s22, s23, s24, s25, s26, s27, rfl, F, L, ⟨e8, e22, e23, e24, e25, e26, e27⟩, k0, k1, k2, k3, k4, k5, k6, d7, v7⟩ ho hf ha hK
    have r3 := boxC (box_keep x3 L (boxLt x3))
    have f3 := F.get (t := 3) (by decide) h3
    have r4 := boxC (box_keep x4 L (boxLt x4))
    have f4 := F.get (t := 4) (by decide) h4
    have f2 := F.get (t := 2) (by decide) h2
    have hz : 27 < a.tmps.size := by rw [F.size]; exact hsz
    have hi : i = 0 ∨ i = 1 ∨ i = 2 ∨ i = 3 ∨ i = 4 ∨ i = 5 ∨ i = 6 ∨ i = 7 := by
      have : i < 8 := by
        rcases Nat.lt_or_ge i 8 with h | h
        · exact h
        · simp [Array.getElem?_eq_none (show (#[b0, b1, b2, b3, b4, b5, b6, b7] : Array Bool).size ≤ i from h)] at hf
      omega
    rcases hi with rfl | rfl | rfl | rfl | rfl | rfl | rfl | rfl
    all_goals (simp only [regFetchS_ops, List.getElem?_toArray, List.getElem?_cons_zero, List.getElem?_cons_succ, Option.some.injEq] at ho; subst ho; refine wpOp_of rfl rfl ?_; simp [Region.binds] at ha hf; subst hf)
    · go_simp
      refine hK (a.put (some 22) _) W ⟨true, b1, b2, b3, b4, b5, b6, b7, s8, _, s23, s24, s25, s26, s27, rfl, F.put (by decide) _, L, ⟨(getD_put_ne (by decide)).trans e8, getD_put_eq (by omega), (getD_put_ne (by decide)).trans e23, (getD_put_ne (by decide)).trans e24, (getD_put_ne (by decide)).trans e25, (getD_put_ne (by decide)).trans e26, (getD_put_ne (by decide)).trans e27⟩, fun _ => rfl, k1, k2, k3, k4, k5, fun h => let ⟨p, z1, z2, z3, z4⟩ := k6 h; ⟨p, z1, z2, fun h' => (z3 h'), fun h' => (z4 h')⟩, @d7, @v7⟩
    · clear hz
      go_simp
      have hz : 27 < a.tmps.size := by rw [F.size]; exact hsz
      refine (onToImage W F0 u0 m0 ln0 f0 (HI.keep (wrote_below L Nowhere) (fun _ _ _ x => x)) hm).mono ?_
      rintro e W' ⟨v, rfl, O, LB⟩
      have lt6 : b6 = true → ∀ p, s8 = .pointer (some ⟨p, 0, none⟩) → p < W.heap.size := fun h p hp => by
        obtain ⟨p', z1, z2, z3, z4⟩ := k6 h
        rw [hp] at z1
        simp only [Value.pointer.injEq, Option.some.injEq, Addr.mk.injEq] at z1
        obtain ⟨rfl, -, -⟩ := z1
        cases hb : b7
        · exact boxLt (z3 hb)
        · exact boxLt (z4 hb)
      refine hK (a.put (some 23) _) W' ⟨b0, true, b2, b3, b4, b5, b6, b7, s8, s22, _, s24, s25, s26, s27, rfl, F.put (by decide) _, below_snoc L LB, ⟨(getD_put_ne (by decide)).trans e8, (getD_put_ne (by decide)).trans e22, getD_put_eq (by omega), (getD_put_ne (by decide)).trans e24, (getD_put_ne (by decide)).trans e25, (getD_put_ne (by decide)).trans e26, (getD_put_ne (by decide)).trans e27⟩, k0, fun _ => O.mono (fun b hb h => ⟨Nat.le_trans L.size h, fun h' e => Nat.not_lt.2 h (lt6 h' b e)⟩), k2, fun h => (k3 h).below LB, k4, k5, fun h => let ⟨p, z1, z2, z3, z4⟩ := k6 h; ⟨p, z1, z2, fun h' => box_keep (z3 h') LB (boxLt (z3 h')), fun h' => box_keep (z4 h') LB (boxLt (z4 h'))⟩, @d7, @v7⟩
    · go_simp
      refine hK (a.put (some 24) _) W ⟨b0, b1, true, b3, b4, b5, b6, b7, s8, s22, s23, _, s25, s26, s27, rfl, F.put (by decide) _, L, ⟨(getD_put_ne (by decide)).trans e8, (getD_put_ne (by decide)).trans e22, (getD_put_ne (by decide)).trans e23, getD_put_eq (by omega), (getD_put_ne (by decide)).trans e25, (getD_put_ne (by decide)).trans e26, (getD_put_ne (by decide)).trans e27⟩, k0, k1, fun _ => rfl, k3, k4, k5, fun h => let ⟨p, z1, z2, z3, z4⟩ := k6 h; ⟨p, z1, z2, fun h' => (z3 h'), fun h' => (z4 h')⟩, @d7, @v7⟩
    · clear hz
      go_simp
      have hz : 27 < a.tmps.size := by rw [F.size]; exact hsz
      refine (onToMem W F1 u1 n1 f1 a1 (HK.keep (wrote_below L Nowhere) (fun _ _ _ x => x)) hn).mono ?_
      rintro e W' ⟨v, rfl, O, LB⟩
      have lt6 : b6 = true → ∀ p, s8 = .pointer (some ⟨p, 0, none⟩) → p < W.heap.size := fun h p hp => by
        obtain ⟨p', z1, z2, z3, z4⟩ := k6 h
        rw [hp] at z1
        simp only [Value.pointer.injEq, Option.some.injEq, Addr.mk.injEq] at z1
        obtain ⟨rfl, -, -⟩ := z1
        cases hb : b7
        · exact boxLt (z3 hb)
        · exact boxLt (z4 hb)
      refine hK (a.put (some 25) _) W' ⟨b0, b1, b2, true, b4, b5, b6, b7, s8, s22, s23, s24, _, s26, s27, rfl, F.put (by decide) _, below_snoc L LB, ⟨(getD_put_ne (by decide)).trans e8, (getD_put_ne (by decide)).trans e22, (getD_put_ne (by decide)).trans e23, (getD_put_ne (by decide)).trans e24, getD_put_eq (by omega), (getD_put_ne (by decide)).trans e26, (getD_put_ne (by decide)).trans e27⟩, k0, fun h => (k1 h).below LB, k2, fun _ => O.mono (fun b hb h => ⟨Nat.le_trans L.size h, fun h' e => Nat.not_lt.2 h (lt6 h' b e)⟩), k4, k5, fun h => let ⟨p, z1, z2, z3, z4⟩ := k6 h; ⟨p, z1, z2, fun h' => box_keep (z3 h') LB (boxLt (z3 h')), fun h' => box_keep (z4 h') LB (boxLt (z4 h'))⟩, @d7, @v7⟩
    · go_simp
      refine hK (a.put (some 26) _) W ⟨b0, b1, b2, b3, true, b5, b6, b7, s8, s22, s23, s24, s25, _, s27, rfl, F.put (by decide) _, L, ⟨(getD_put_ne (by decide)).trans e8, (getD_put_ne (by decide)).trans e22, (getD_put_ne (by decide)).trans e23, (getD_put_ne (by decide)).trans e24, (getD_put_ne (by decide)).trans e25, getD_put_eq (by omega), (getD_put_ne (by decide)).trans e27⟩, k0, k1, k2, k3, fun _ => rfl, k5, fun h => let ⟨p, z1, z2, z3, z4⟩ := k6 h; ⟨p, z1, z2, fun h' => (z3 h'), fun h' => (z4 h')⟩, @d7, @v7⟩
    · have q1 := k1 (by simp_all)
      have q3 := k3 (by simp_all)
      clear hz
      go_simp
      have hz : 27 < a.tmps.size := by rw [F.size]; exact hsz
      refine (onSpecFetch W _ _ s23 s25 m0 ln0 f0 n1 f1 a1 a2 q1 q3).mono ?_
      rintro e W' ⟨rfl, LB⟩
      have lt6 : b6 = true → ∀ p, s8 = .pointer (some ⟨p, 0, none⟩) → p < W.heap.size := fun h p hp => by
        obtain ⟨p', z1, z2, z3, z4⟩ := k6 h
        rw [hp] at z1
        simp only [Value.pointer.injEq, Option.some.injEq, Addr.mk.injEq] at z1
        obtain ⟨rfl, -, -⟩ := z1
        cases hb : b7
        · exact boxLt (z3 hb)
        · exact boxLt (z4 hb)
      refine hK (a.put (some 27) _) W' ⟨b0, b1, b2, b3, b4, true, b6, b7, s8, s22, s23, s24, s25, s26, _, rfl, F.put (by decide) _, below_snoc L LB, ⟨(getD_put_ne (by decide)).trans e8, (getD_put_ne (by decide)).trans e22, (getD_put_ne (by decide)).trans e23, (getD_put_ne (by decide)).trans e24, (getD_put_ne (by decide)).trans e25, (getD_put_ne (by decide)).trans e26, getD_put_eq (by omega)⟩, k0, fun h => (k1 h).below LB, k2, fun h => (k3 h).below LB, k4, fun _ => rfl, fun h => let ⟨p, z1, z2, z3, z4⟩ := k6 h; ⟨p, z1, z2, fun h' => box_keep (z3 h') LB (boxLt (z3 h')), fun h' => box_keep (z4 h') LB (boxLt (z4 h'))⟩, @d7, fun _ => rfl⟩
    · have hst : b7 = false := by cases h : b7; rfl; exact absurd (d7 h) (by simp)
      subst hst
      clear hz
      go_simp
      have hz : 27 < a.tmps.size := by rw [F.size]; exact hsz
      have LA : Below W.heap.size W (W.alloc (.cells #[.int .i64 0, .int .i64 0] 31)) := (Below.refl _ _).alloc (Nat.le_refl _) _
      refine hK (a.put (some 8) _) _ ⟨b0, b1, b2, b3, b4, b5, true, false, _, s22, s23, s24, s25, s26, s27, rfl, F.put (by decide) _, L.alloc L.size _, ⟨getD_put_eq (by omega), (getD_put_ne (by decide)).trans e22, (getD_put_ne (by decide)).trans e23, (getD_put_ne (by decide)).trans e24, (getD_put_ne (by decide)).trans e25, (getD_put_ne (by decide)).trans e26, (getD_put_ne (by decide)).trans e27⟩, k0, fun h => ((k1 h).mono (fun b hb ⟨h0', h6'⟩ => ⟨h0', fun _ e => by simp only [Value.pointer.injEq, Option.some.injEq, Addr.mk.injEq] at e; omega⟩)).below LA, k2, fun h => ((k3 h).mono (fun b hb ⟨h0', h6'⟩ => ⟨h0', fun _ e => by simp only [Value.pointer.injEq, Option.some.injEq, Addr.mk.injEq] at e; omega⟩)).below LA, k4, k5, fun _ => ⟨W.heap.size, rfl, L.size, fun _ => box_new W _ _, fun h => absurd h (by simp)⟩, fun _ => rfl, fun h => absurd h (by simp)⟩
    · have hb6 : b6 = true := by simp_all
      have hvo : b5 = true := by simp_all
      obtain ⟨p, z1, z2, z3, z4⟩ := k6 hb6
      have c := boxC (z3 rfl)
      have f := boxF (z3 rfl)
      have hz' : a.tmps[8]?.getD undef = .pointer (some ⟨p, 0, none⟩) := e8.trans z1
      have hv : a.tmps[27]?.getD undef = .agg #[.int .i64 (peekV m0 ln0 f0 n1 f1 a1 a2), .int .i64 (fetchA (peekV m0 ln0 f0 n1 f1 a1) a2)] := e27.trans (k5 (by simp_all))
      clear hz
      go_simp
      refine hK a _ ⟨b0, b1, b2, b3, b4, b5, b6, true, s8, s22, s23, s24, s25, s26, s27, rfl, F, ((L.setCell (p := ⟨p, 0, none⟩) z2 _).setCell (p := ⟨p, 1, none⟩) z2 _), ⟨e8, e22, e23, e24, e25, e26, e27⟩, ?_⟩
      exact ⟨k0, fun h => (k1 h).keep (Wrote.setCell (R := fun b _ => b = p) (Wrote.setCell (R := fun b _ => b = p) (Wrote.refl (fun b _ => b = p) W) (fun _ => rfl) _) (fun _ => rfl) _) (fun b o hb _ e => hb.2 hb6 (by rw [z1, e])), k2, fun h => (k3 h).keep (Wrote.setCell (R := fun b _ => b = p) (Wrote.setCell (R := fun b _ => b = p) (Wrote.refl (fun b _ => b = p) W) (fun _ => rfl) _) (fun _ => rfl) _) (fun b o hb _ e => hb.2 hb6 (by rw [z1, e])), k4, k5, fun _ => ⟨p, z1, z2, fun h => absurd h (by simp), fun _ => box_set (box_set (z3 rfl) _) _⟩, fun _ => hb6, fun _ => hvo⟩
  · rintro l a W hall ⟨b0, b1, b2, b3, b4, b5, b6, b7, s8, s22, s23, s24, s25, s26, s27, rfl, F, L, ⟨e8, e22, e23, e24, e25, e26, e27⟩, k0, k1, k2, k3, k4, k5, k6, d7, v7⟩
    have t7 : b7 = true := by simpa using hall 7 (by decide)
    have u6 := d7 t7
    obtain ⟨p8, z8, y8, -, x8'⟩ := k6 u6
    replace x8' := x8' t7
    exact hQ a W p8  F (e8.trans z8) y8 x8' L
end Go.Proofs.YtpaedkefmebjjanDoor
