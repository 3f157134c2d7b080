/-
  FnExactPoke's calls of the specification and of the program, whatever order their parts come in.
-/
import Derived.Test.YtpaedkefmebjjamV0
import Derived.Test.YtpaedkefmebjjamC9
import Derived.Test.YtpaedkefmebjjamI6d
namespace Go.Proofs.Ytpaedkefmebjjam
set_option linter.unusedVariables false
open Go.ChangeShapes Go.WideShapes Go.ChangeAt Go.RowKit
abbrev regPokeS_ops : Array Oper := #[{ dst := some 28, op := Op.load 24 (Operand.tmp 4), type := 24, pos := "exact.go:1682", after := #[], guard := none }, { dst := some 29, op := Op.call { callee := Callee.value (Operand.func 12), args := #[Operand.tmp 28], argTypes := #[24] }, type := 31, pos := "exact.go:1682", after := #[{ on := 0, ground := Ground.data }], guard := none }, { dst := some 30, op := Op.load 27 (Operand.tmp 5), type := 27, pos := "exact.go:1682", after := #[], guard := none }, { dst := some 31, op := Op.call { callee := Callee.value (Operand.func 13), args := #[Operand.tmp 30], argTypes := #[27] }, type := 33, pos := "exact.go:1682", after := #[{ on := 2, ground := Ground.data }, { on := 1, ground := Ground.chain }], guard := none }, { dst := some 32, op := Op.move (Operand.tmp 2), type := 3, pos := "exact.go:1682", after := #[], guard := none }, { dst := some 33, op := Op.move (Operand.tmp 3), type := 3, pos := "exact.go:1682", after := #[], guard := none }, { dst := some 34, op := Op.call { callee := Callee.value (Operand.func 25), args := #[Operand.tmp 29, Operand.tmp 31, Operand.tmp 32, Operand.tmp 33], argTypes := #[31, 33, 3, 3] }, type := 33, pos := "exact.go:1682", after := #[{ on := 1, ground := Ground.data }, { on := 3, ground := Ground.data }, { on := 4, ground := Ground.data }, { on := 5, ground := Ground.data }, { on := 3, ground := Ground.chain }], guard := none }, { dst := some 10, op := Op.alloc 33, type := 0, pos := "exact.go:1682", after := #[], guard := none }, { dst := none, op := Op.store 33 (Operand.tmp 10) (Operand.tmp 34), type := 0, pos := "exact.go:1682", after := #[{ on := 7, ground := Ground.data }, { on := 6, ground := Ground.data }, { on := 6, ground := Ground.chain }, { on := 0, ground := Ground.phase }, { on := 1, ground := Ground.phase }, { on := 2, ground := Ground.phase }, { on := 3, ground := Ground.phase }, { on := 4, ground := Ground.phase }, { on := 5, ground := Ground.phase }, { on := 6, ground := Ground.phase }, { on := 7, ground := Ground.phase }], guard := none }]
def regPokeS_sl : List Nat := [10, 28, 29, 30, 31, 32, 33, 34]
def regPokeS_J (w6 : World) (u0 : Value) (m0 : Nat) (ln0 : Nat → Nat) (f0 : Nat → Nat → Int) (u1 : Value) (n1 : Nat) (f1 : Nat → Int) (a1 : Int) (a2 : Int) (a3 : Int) (a0 : Act) (l : Array Bool) (a : Act) (W : World) : Prop :=
  ∃ b0 b1 b2 b3 b4 b5 b6 b7 b8 : Bool, ∃ s10 s28 s29 s30 s31 s32 s33 s34 : Value, l = #[b0, b1, b2, b3, b4, b5, b6, b7, b8] ∧ Fr regPokeS_sl a0 a ∧ Below w6.heap.size w6 W ∧ (a.tmps[10]?.getD undef = s10 ∧ a.tmps[28]?.getD undef = s28 ∧ a.tmps[29]?.getD undef = s29 ∧ a.tmps[30]?.getD undef = s30 ∧ a.tmps[31]?.getD undef = s31 ∧ a.tmps[32]?.getD undef = s32 ∧ a.tmps[33]?.getD undef = s33 ∧ a.tmps[34]?.getD undef = s34) ∧
    (b0 = true → s28 = .agg #[u0]) ∧ (b1 = true → ImgOn W (fun b => w6.heap.size ≤ b ∧ (b7 = true → s10 ≠ .pointer (some ⟨b, 0, none⟩))) s29 m0 ln0 f0) ∧ (b2 = true → s30 = .agg #[u1, .int .i64 a1]) ∧ (b3 = true → MemOn W (fun b => w6.heap.size ≤ b ∧ (b7 = true → s10 ≠ .pointer (some ⟨b, 0, none⟩))) s31 n1 f1 a1) ∧ (b4 = true → s32 = .int .i64 a2) ∧ (b5 = true → s33 = .int .i64 a3) ∧ (b6 = true → MemOn W (fun b => w6.heap.size ≤ b ∧ (b7 = true → s10 ≠ .pointer (some ⟨b, 0, none⟩))) s34 n1 (pokeG (okMem m0 ln0 f0 n1 f1 a1) f1 (a2 % 65536) a3) (pokeB (okMem m0 ln0 f0 n1 f1 a1) m0 a1 (a2 % 65536) a3)) ∧ (b7 = true → ∃ p, s10 = .pointer (some ⟨p, 0, none⟩) ∧ w6.heap.size ≤ p ∧ (b8 = false → W.heap[p]? = some (.cells #[.slice none 0 0, .int .i64 0] 33 (0, 0))) ∧ (b8 = true → ∃ cs, s34 = .agg cs ∧ W.heap[p]? = some (.cells cs 33 (0, 0)))) ∧ (b8 = true → b7 = true) ∧ (b8 = true → b6 = true)
set_option maxHeartbeats 4000000 in
set_option maxRecDepth 20000 in
theorem regPokeS {F0 F1 : Nat → Nat → Prop} {B4 B5 : Nat} {Q : Exit → Act → World → Prop} {id : Nat} (w6 : World) (u0 : Value) (m0 : Nat) (ln0 : Nat → Nat) (f0 : Nat → Nat → Int) (u1 : Value) (n1 : Nat) (f1 : Nat → Int) (a1 : Int) (a2 : Int) (a3 : Int) (a0 : Act) (hsz : 34 < a0.tmps.size) (h4 : a0.tmps[4]?.getD undef = .pointer (some ⟨B4, 0, none⟩)) (h5 : a0.tmps[5]?.getD undef = .pointer (some ⟨B5, 0, none⟩)) (x4 : w6.heap[B4]? = some (.cells #[u0] 24 (0, 0))) (x5 : w6.heap[B5]? = some (.cells #[u1, .int .i64 a1] 27 (0, 0))) (h2 : a0.tmps[2]?.getD undef = .int .i64 a2) (h3 : a0.tmps[3]?.getD undef = .int .i64 a3) (hm : m0 + psum ln0 m0 ≤ 1048576) (hn : n1 ≤ 1048576) (HI : IntSS .i64 w6 F0 u0 m0 ln0 f0) (HK : Ints .i64 w6 F1 u1 n1 f1) (hQ : ∀ a W, ∀ p10 : Nat, ∀ cs10 : Array Value, Fr regPokeS_sl a0 a → a.tmps[10]?.getD undef = .pointer (some ⟨p10, 0, none⟩) → w6.heap.size ≤ p10 → W.heap[p10]? = some (.cells cs10 33 (0, 0)) → MemOn W (fun b => w6.heap.size ≤ b ∧ b ≠ p10) (.agg cs10) n1 (pokeG (okMem m0 ln0 f0 n1 f1 a1) f1 (a2 % 65536) a3) (pokeB (okMem m0 ln0 f0 n1 f1 a1) m0 a1 (a2 % 65536) a3) → Below w6.heap.size w6 W → Q .normal a W) : (Code.region id regPokeS_ops true).wp Try.prog Q a0 w6 := by
  refine wp_region_inv (by kernel_rfl) (by kernel_rfl) (regPokeS_J w6 u0 m0 ln0 f0 u1 n1 f1 a1 a2 a3) ?_ ?_ ?_
  · refine ⟨false, false, false, false, false, false, false, false, false, _, _, _, _, _, _, _, _, rfl, ⟨rfl, rfl, fun _ _ => rfl⟩, (Below.refl _ _).drew, ⟨rfl, rfl, rfl, rfl, rfl, rfl, rfl, rfl⟩, ?_⟩
    simp
  · rintro l a W i o K hl ⟨b0, b1, b2, b3, b4, b5, b6, b7, b8, s10, s28, s29, s30, s31, s32, s33, s34, rfl, F, L, ⟨e10, e28, e29, e30, e31, e32, e33, e34⟩, k0, k1, k2, k3, k4, k5, k6, k7, d8, v8⟩ ho hf ha hK
    have r4 := boxC (box_keep x4 L (boxLt x4))
    have f4 := F.get (t := 4) (by decide) h4
    have r5 := boxC (box_keep x5 L (boxLt x5))
    have f5 := F.get (t := 5) (by decide) h5
    have f2 := F.get (t := 2) (by decide) h2
    have f3 := F.get (t := 3) (by decide) h3
    have hz : 34 < a.tmps.size := by rw [F.size]; exact hsz
    have hi : i = 0 ∨ i = 1 ∨ i = 2 ∨ i = 3 ∨ i = 4 ∨ i = 5 ∨ i = 6 ∨ i = 7 ∨ i = 8 := by
      have : i < 9 := by
        rcases Nat.lt_or_ge i 9 with h | h
        · exact h
        · simp [Array.getElem?_eq_none (show (#[b0, b1, b2, b3, b4, b5, b6, b7, b8] : Array Bool).size ≤ i from h)] at hf
      omega
    rcases hi with rfl | rfl | rfl | rfl | rfl | rfl | rfl | rfl | rfl
    all_goals (simp only [regPokeS_ops, List.getElem?_toArray, List.getElem?_cons_zero, List.getElem?_cons_succ, Option.some.injEq] at ho; subst ho; refine wpOp_of rfl rfl ?_; simp [Region.binds] at ha hf; subst hf)
    · go_simp
      refine hK (a.put (some 28) _) W ⟨true, b1, b2, b3, b4, b5, b6, b7, b8, s10, _, s29, s30, s31, s32, s33, s34, rfl, F.put (by decide) _, L, ⟨(getD_put_ne (by decide)).trans e10, getD_put_eq (by omega), (getD_put_ne (by decide)).trans e29, (getD_put_ne (by decide)).trans e30, (getD_put_ne (by decide)).trans e31, (getD_put_ne (by decide)).trans e32, (getD_put_ne (by decide)).trans e33, (getD_put_ne (by decide)).trans e34⟩, fun _ => rfl, k1, k2, k3, k4, k5, k6, fun h => let ⟨p, z1, z2, z3, z4⟩ := k7 h; ⟨p, z1, z2, fun h' => (z3 h'), fun h' => let ⟨cs, c1, c2⟩ := z4 h'; ⟨cs, c1, c2⟩⟩, @d8, @v8⟩
    · clear hz
      go_simp
      have hz : 34 < a.tmps.size := by rw [F.size]; exact hsz
      refine (onToImage W F0 u0 m0 ln0 f0 (HI.keep (wrote_below L Nowhere) (fun _ _ _ x => x)) hm).mono ?_
      rintro e W' ⟨v, rfl, O, LB⟩
      have lt7 : b7 = true → ∀ p, s10 = .pointer (some ⟨p, 0, none⟩) → p < W.heap.size := fun h p hp => by
        obtain ⟨p', z1, z2, z3, z4⟩ := k7 h
        rw [hp] at z1
        simp only [Value.pointer.injEq, Option.some.injEq, Addr.mk.injEq] at z1
        obtain ⟨rfl, -, -⟩ := z1
        cases hb : b8
        · exact boxLt (z3 hb)
        · obtain ⟨cs, c1, c2⟩ := z4 hb; exact boxLt c2
      refine hK (a.put (some 29) _) W' ⟨b0, true, b2, b3, b4, b5, b6, b7, b8, s10, s28, _, s30, s31, s32, s33, s34, rfl, F.put (by decide) _, below_snoc L LB, ⟨(getD_put_ne (by decide)).trans e10, (getD_put_ne (by decide)).trans e28, getD_put_eq (by omega), (getD_put_ne (by decide)).trans e30, (getD_put_ne (by decide)).trans e31, (getD_put_ne (by decide)).trans e32, (getD_put_ne (by decide)).trans e33, (getD_put_ne (by decide)).trans e34⟩, k0, fun _ => O.mono (fun b hb h => ⟨Nat.le_trans L.size h, fun h' e => Nat.not_lt.2 h (lt7 h' b e)⟩), k2, fun h => (k3 h).below LB, k4, k5, fun h => (k6 h).below LB, fun h => let ⟨p, z1, z2, z3, z4⟩ := k7 h; ⟨p, z1, z2, fun h' => box_keep (z3 h') LB (boxLt (z3 h')), fun h' => let ⟨cs, c1, c2⟩ := z4 h'; ⟨cs, c1, box_keep c2 LB (boxLt c2)⟩⟩, @d8, @v8⟩
    · go_simp
      refine hK (a.put (some 30) _) W ⟨b0, b1, true, b3, b4, b5, b6, b7, b8, s10, s28, s29, _, s31, s32, s33, s34, rfl, F.put (by decide) _, L, ⟨(getD_put_ne (by decide)).trans e10, (getD_put_ne (by decide)).trans e28, (getD_put_ne (by decide)).trans e29, getD_put_eq (by omega), (getD_put_ne (by decide)).trans e31, (getD_put_ne (by decide)).trans e32, (getD_put_ne (by decide)).trans e33, (getD_put_ne (by decide)).trans e34⟩, k0, k1, fun _ => rfl, k3, k4, k5, k6, fun h => let ⟨p, z1, z2, z3, z4⟩ := k7 h; ⟨p, z1, z2, fun h' => (z3 h'), fun h' => let ⟨cs, c1, c2⟩ := z4 h'; ⟨cs, c1, c2⟩⟩, @d8, @v8⟩
    · clear hz
      go_simp
      have hz : 34 < a.tmps.size := by rw [F.size]; exact hsz
      refine (onToMem W F1 u1 n1 f1 a1 (HK.keep (wrote_below L Nowhere) (fun _ _ _ x => x)) hn).mono ?_
      rintro e W' ⟨v, rfl, O, LB⟩
      have lt7 : b7 = true → ∀ p, s10 = .pointer (some ⟨p, 0, none⟩) → p < W.heap.size := fun h p hp => by
        obtain ⟨p', z1, z2, z3, z4⟩ := k7 h
        rw [hp] at z1
        simp only [Value.pointer.injEq, Option.some.injEq, Addr.mk.injEq] at z1
        obtain ⟨rfl, -, -⟩ := z1
        cases hb : b8
        · exact boxLt (z3 hb)
        · obtain ⟨cs, c1, c2⟩ := z4 hb; exact boxLt c2
      refine hK (a.put (some 31) _) W' ⟨b0, b1, b2, true, b4, b5, b6, b7, b8, s10, s28, s29, s30, _, s32, s33, s34, rfl, F.put (by decide) _, below_snoc L LB, ⟨(getD_put_ne (by decide)).trans e10, (getD_put_ne (by decide)).trans e28, (getD_put_ne (by decide)).trans e29, (getD_put_ne (by decide)).trans e30, getD_put_eq (by omega), (getD_put_ne (by decide)).trans e32, (getD_put_ne (by decide)).trans e33, (getD_put_ne (by decide)).trans e34⟩, k0, fun h => (k1 h).below LB, k2, fun _ => O.mono (fun b hb h => ⟨Nat.le_trans L.size h, fun h' e => Nat.not_lt.2 h (lt7 h' b e)⟩), k4, k5, fun h => (k6 h).below LB, fun h => let ⟨p, z1, z2, z3, z4⟩ := k7 h; ⟨p, z1, z2, fun h' => box_keep (z3 h') LB (boxLt (z3 h')), fun h' => let ⟨cs, c1, c2⟩ := z4 h'; ⟨cs, c1, box_keep c2 LB (boxLt c2)⟩⟩, @d8, @v8⟩
    · go_simp
      refine hK (a.put (some 32) _) W ⟨b0, b1, b2, b3, true, b5, b6, b7, b8, s10, s28, s29, s30, s31, _, s33, s34, rfl, F.put (by decide) _, L, ⟨(getD_put_ne (by decide)).trans e10, (getD_put_ne (by decide)).trans e28, (getD_put_ne (by decide)).trans e29, (getD_put_ne (by decide)).trans e30, (getD_put_ne (by decide)).trans e31, getD_put_eq (by omega), (getD_put_ne (by decide)).trans e33, (getD_put_ne (by decide)).trans e34⟩, k0, k1, k2, k3, fun _ => rfl, k5, k6, fun h => let ⟨p, z1, z2, z3, z4⟩ := k7 h; ⟨p, z1, z2, fun h' => (z3 h'), fun h' => let ⟨cs, c1, c2⟩ := z4 h'; ⟨cs, c1, c2⟩⟩, @d8, @v8⟩
    · go_simp
      refine hK (a.put (some 33) _) W ⟨b0, b1, b2, b3, b4, true, b6, b7, b8, s10, s28, s29, s30, s31, s32, _, s34, rfl, F.put (by decide) _, L, ⟨(getD_put_ne (by decide)).trans e10, (getD_put_ne (by decide)).trans e28, (getD_put_ne (by decide)).trans e29, (getD_put_ne (by decide)).trans e30, (getD_put_ne (by decide)).trans e31, (getD_put_ne (by decide)).trans e32, getD_put_eq (by omega), (getD_put_ne (by decide)).trans e34⟩, k0, k1, k2, k3, k4, fun _ => rfl, k6, fun h => let ⟨p, z1, z2, z3, z4⟩ := k7 h; ⟨p, z1, z2, fun h' => (z3 h'), fun h' => let ⟨cs, c1, c2⟩ := z4 h'; ⟨cs, c1, c2⟩⟩, @d8, @v8⟩
    · have q1 := k1 (by simp_all)
      have q3 := k3 (by simp_all)
      clear hz
      go_simp
      have hz : 34 < a.tmps.size := by rw [F.size]; exact hsz
      refine (onSpecPoke W _ _ s29 s31 m0 ln0 f0 n1 f1 a1 a2 a3 q1 q3).mono ?_
      rintro e W' ⟨v, rfl, O, LB⟩
      have lt7 : b7 = true → ∀ p, s10 = .pointer (some ⟨p, 0, none⟩) → p < W.heap.size := fun h p hp => by
        obtain ⟨p', z1, z2, z3, z4⟩ := k7 h
        rw [hp] at z1
        simp only [Value.pointer.injEq, Option.some.injEq, Addr.mk.injEq] at z1
        obtain ⟨rfl, -, -⟩ := z1
        cases hb : b8
        · exact boxLt (z3 hb)
        · obtain ⟨cs, c1, c2⟩ := z4 hb; exact boxLt c2
      refine hK (a.put (some 34) _) W' ⟨b0, b1, b2, b3, b4, b5, true, b7, b8, s10, s28, s29, s30, s31, s32, s33, _, rfl, F.put (by decide) _, below_snoc L LB, ⟨(getD_put_ne (by decide)).trans e10, (getD_put_ne (by decide)).trans e28, (getD_put_ne (by decide)).trans e29, (getD_put_ne (by decide)).trans e30, (getD_put_ne (by decide)).trans e31, (getD_put_ne (by decide)).trans e32, (getD_put_ne (by decide)).trans e33, getD_put_eq (by omega)⟩, k0, fun h => (k1 h).below LB, k2, fun h => (k3 h).below LB, k4, k5, fun _ => O.mono (fun b hb h => ⟨Nat.le_trans L.size h, fun h' e => Nat.not_lt.2 h (lt7 h' b e)⟩), fun h => let ⟨p, z1, z2, z3, z4⟩ := k7 h; ⟨p, z1, z2, fun h' => box_keep (z3 h') LB (boxLt (z3 h')), fun h' => absurd (v8 h') (by simp)⟩, @d8, fun _ => rfl⟩
    · have hst : b8 = false := by cases h : b8; rfl; exact absurd (d8 h) (by simp)
      subst hst
      clear hz
      go_simp
      have hz : 34 < a.tmps.size := by rw [F.size]; exact hsz
      have LA : Below W.heap.size W (W.alloc (.cells #[.slice none 0 0, .int .i64 0] 33)) := (Below.refl _ _).alloc (Nat.le_refl _) _
      refine hK (a.put (some 10) _) _ ⟨b0, b1, b2, b3, b4, b5, b6, true, false, _, s28, s29, s30, s31, s32, s33, s34, rfl, F.put (by decide) _, L.alloc L.size _, ⟨getD_put_eq (by omega), (getD_put_ne (by decide)).trans e28, (getD_put_ne (by decide)).trans e29, (getD_put_ne (by decide)).trans e30, (getD_put_ne (by decide)).trans e31, (getD_put_ne (by decide)).trans e32, (getD_put_ne (by decide)).trans e33, (getD_put_ne (by decide)).trans e34⟩, k0, fun h => ((k1 h).mono (fun b hb ⟨h0', h7'⟩ => ⟨h0', fun _ e => by simp only [Value.pointer.injEq, Option.some.injEq, Addr.mk.injEq] at e; omega⟩)).below LA, k2, fun h => ((k3 h).mono (fun b hb ⟨h0', h7'⟩ => ⟨h0', fun _ e => by simp only [Value.pointer.injEq, Option.some.injEq, Addr.mk.injEq] at e; omega⟩)).below LA, k4, k5, fun h => ((k6 h).mono (fun b hb ⟨h0', h7'⟩ => ⟨h0', fun _ e => by simp only [Value.pointer.injEq, Option.some.injEq, Addr.mk.injEq] at e; omega⟩)).below LA, fun _ => ⟨W.heap.size, rfl, L.size, fun _ => box_new W _ _, fun h => absurd h (by simp)⟩, fun _ => rfl, fun h => absurd h (by simp)⟩
    · have hb7 : b7 = true := by simp_all
      have hvo : b6 = true := by simp_all
      obtain ⟨p, z1, z2, z3, z4⟩ := k7 hb7
      have c := boxC (z3 rfl)
      have f := boxF (z3 rfl)
      have hz' : a.tmps[10]?.getD undef = .pointer (some ⟨p, 0, none⟩) := e10.trans z1
      have qv := k6 (by simp_all)
      obtain ⟨ya, yc, hcs⟩ := qv.two
      have hv : a.tmps[34]?.getD undef = .agg #[.slice ya _ yc, .int .i64 _] := e34.trans hcs
      clear hz
      go_simp
      refine hK a _ ⟨b0, b1, b2, b3, b4, b5, b6, b7, true, s10, s28, s29, s30, s31, s32, s33, s34, rfl, F, ((L.setCell (p := ⟨p, 0, none⟩) z2 _).setCell (p := ⟨p, 1, none⟩) z2 _), ⟨e10, e28, e29, e30, e31, e32, e33, e34⟩, ?_⟩
      exact ⟨k0, fun h => (k1 h).keep (Wrote.setCell (R := fun b _ => b = p) (Wrote.setCell (R := fun b _ => b = p) (Wrote.refl (fun b _ => b = p) W) (fun _ => rfl) _) (fun _ => rfl) _) (fun b o hb _ e => hb.2 hb7 (by rw [z1, e])), k2, fun h => (k3 h).keep (Wrote.setCell (R := fun b _ => b = p) (Wrote.setCell (R := fun b _ => b = p) (Wrote.refl (fun b _ => b = p) W) (fun _ => rfl) _) (fun _ => rfl) _) (fun b o hb _ e => hb.2 hb7 (by rw [z1, e])), k4, k5, fun h => (k6 h).keep (Wrote.setCell (R := fun b _ => b = p) (Wrote.setCell (R := fun b _ => b = p) (Wrote.refl (fun b _ => b = p) W) (fun _ => rfl) _) (fun _ => rfl) _) (fun b o hb _ e => hb.2 hb7 (by rw [z1, e])), fun _ => ⟨p, z1, z2, fun h => absurd h (by simp), fun _ => ⟨_, hcs, box_set (box_set (z3 rfl) _) _⟩⟩, fun _ => hb7, fun _ => hvo⟩
  · rintro l a W hall ⟨b0, b1, b2, b3, b4, b5, b6, b7, b8, s10, s28, s29, s30, s31, s32, s33, s34, rfl, F, L, ⟨e10, e28, e29, e30, e31, e32, e33, e34⟩, k0, k1, k2, k3, k4, k5, k6, k7, d8, v8⟩
    have t8 : b8 = true := by simpa using hall 8 (by decide)
    have u7 := d8 t8
    obtain ⟨p10, z10, y10, -, x10'⟩ := k7 u7
    replace x10' := x10' t8
    obtain ⟨cs10, c10, x10'⟩ := x10'
    have v10 := k6 (by simpa using hall 6 (by decide))
    rw [c10] at v10
    exact hQ a W p10 cs10 F (e10.trans z10) y10 x10' (v10.mono (fun b _ hb => ⟨hb.1, fun e => hb.2 u7 (by rw [z10, e])⟩)) L
abbrev regPokeI_ops : Array Oper := #[{ dst := some 83, op := Op.load 24 (Operand.tmp 4), type := 24, pos := "exact.go:1711", after := #[], guard := none }, { dst := some 84, op := Op.call { callee := Callee.value (Operand.func 12), args := #[Operand.tmp 83], argTypes := #[24] }, type := 31, pos := "exact.go:1711", after := #[{ on := 0, ground := Ground.data }], guard := none }, { dst := some 85, op := Op.load 27 (Operand.tmp 5), type := 27, pos := "exact.go:1711", after := #[], guard := none }, { dst := some 86, op := Op.call { callee := Callee.value (Operand.func 13), args := #[Operand.tmp 85], argTypes := #[27] }, type := 33, pos := "exact.go:1711", after := #[{ on := 2, ground := Ground.data }, { on := 1, ground := Ground.chain }], guard := none }, { dst := some 87, op := Op.move (Operand.tmp 2), type := 3, pos := "exact.go:1711", after := #[], guard := none }, { dst := some 88, op := Op.move (Operand.tmp 3), type := 3, pos := "exact.go:1711", after := #[], guard := none }, { dst := some 89, op := Op.call { callee := Callee.value (Operand.func 26), args := #[Operand.tmp 84, Operand.tmp 86, Operand.tmp 87, Operand.tmp 88], argTypes := #[31, 33, 3, 3] }, type := 33, pos := "exact.go:1711", after := #[{ on := 1, ground := Ground.data }, { on := 3, ground := Ground.data }, { on := 4, ground := Ground.data }, { on := 5, ground := Ground.data }, { on := 3, ground := Ground.chain }], guard := none }, { dst := some 17, op := Op.alloc 33, type := 0, pos := "exact.go:1711", after := #[], guard := none }, { dst := none, op := Op.store 33 (Operand.tmp 17) (Operand.tmp 89), type := 0, pos := "exact.go:1711", after := #[{ on := 7, ground := Ground.data }, { on := 6, ground := Ground.data }, { on := 6, ground := Ground.chain }, { on := 0, ground := Ground.phase }, { on := 1, ground := Ground.phase }, { on := 2, ground := Ground.phase }, { on := 3, ground := Ground.phase }, { on := 4, ground := Ground.phase }, { on := 5, ground := Ground.phase }, { on := 6, ground := Ground.phase }, { on := 7, ground := Ground.phase }], guard := none }]
def regPokeI_sl : List Nat := [17, 83, 84, 85, 86, 87, 88, 89]
def regPokeI_J (w6 : World) (u0 : Value) (m0 : Nat) (ln0 : Nat → Nat) (f0 : Nat → Nat → Int) (u1 : Value) (n1 : Nat) (f1 : Nat → Int) (a1 : Int) (a2 : Int) (a3 : Int) (a0 : Act) (l : Array Bool) (a : Act) (W : World) : Prop :=
  ∃ b0 b1 b2 b3 b4 b5 b6 b7 b8 : Bool, ∃ s17 s83 s84 s85 s86 s87 s88 s89 : Value, l = #[b0, b1, b2, b3, b4, b5, b6, b7, b8] ∧ Fr regPokeI_sl a0 a ∧ Below w6.heap.size w6 W ∧ (a.tmps[17]?.getD undef = s17 ∧ a.tmps[83]?.getD undef = s83 ∧ a.tmps[84]?.getD undef = s84 ∧ a.tmps[85]?.getD undef = s85 ∧ a.tmps[86]?.getD undef = s86 ∧ a.tmps[87]?.getD undef = s87 ∧ a.tmps[88]?.getD undef = s88 ∧ a.tmps[89]?.getD undef = s89) ∧
    (b0 = true → s83 = .agg #[u0]) ∧ (b1 = true → ImgOn W (fun b => w6.heap.size ≤ b ∧ (b7 = true → s17 ≠ .pointer (some ⟨b, 0, none⟩))) s84 m0 ln0 f0) ∧ (b2 = true → s85 = .agg #[u1, .int .i64 a1]) ∧ (b3 = true → MemOn W (fun b => w6.heap.size ≤ b ∧ (b7 = true → s17 ≠ .pointer (some ⟨b, 0, none⟩))) s86 n1 f1 a1) ∧ (b4 = true → s87 = .int .i64 a2) ∧ (b5 = true → s88 = .int .i64 a3) ∧ (b6 = true → MemOn W (fun b => w6.heap.size ≤ b ∧ (b7 = true → s17 ≠ .pointer (some ⟨b, 0, none⟩))) s89 n1 (pokeG (okMem m0 ln0 f0 n1 f1 a1) f1 (a2 % 65536) a3) (pokeB (okMem m0 ln0 f0 n1 f1 a1) m0 a1 (a2 % 65536) a3)) ∧ (b7 = true → ∃ p, s17 = .pointer (some ⟨p, 0, none⟩) ∧ w6.heap.size ≤ p ∧ (b8 = false → W.heap[p]? = some (.cells #[.slice none 0 0, .int .i64 0] 33 (0, 0))) ∧ (b8 = true → ∃ cs, s89 = .agg cs ∧ W.heap[p]? = some (.cells cs 33 (0, 0)))) ∧ (b8 = true → b7 = true) ∧ (b8 = true → b6 = true)
set_option maxHeartbeats 4000000 in
set_option maxRecDepth 20000 in
theorem regPokeI {F0 F1 : Nat → Nat → Prop} {B4 B5 : Nat} {Q : Exit → Act → World → Prop} {id : Nat} (w6 : World) (u0 : Value) (m0 : Nat) (ln0 : Nat → Nat) (f0 : Nat → Nat → Int) (u1 : Value) (n1 : Nat) (f1 : Nat → Int) (a1 : Int) (a2 : Int) (a3 : Int) (a0 : Act) (hsz : 89 < a0.tmps.size) (h4 : a0.tmps[4]?.getD undef = .pointer (some ⟨B4, 0, none⟩)) (h5 : a0.tmps[5]?.getD undef = .pointer (some ⟨B5, 0, none⟩)) (x4 : w6.heap[B4]? = some (.cells #[u0] 24 (0, 0))) (x5 : w6.heap[B5]? = some (.cells #[u1, .int .i64 a1] 27 (0, 0))) (h2 : a0.tmps[2]?.getD undef = .int .i64 a2) (h3 : a0.tmps[3]?.getD undef = .int .i64 a3) (hm : m0 + psum ln0 m0 ≤ 1048576) (hn : n1 ≤ 1048576) (HI : IntSS .i64 w6 F0 u0 m0 ln0 f0) (HK : Ints .i64 w6 F1 u1 n1 f1) (hQ : ∀ a W, ∀ p17 : Nat, ∀ cs17 : Array Value, Fr regPokeI_sl a0 a → a.tmps[17]?.getD undef = .pointer (some ⟨p17, 0, none⟩) → w6.heap.size ≤ p17 → W.heap[p17]? = some (.cells cs17 33 (0, 0)) → MemOn W (fun b => w6.heap.size ≤ b ∧ b ≠ p17) (.agg cs17) n1 (pokeG (okMem m0 ln0 f0 n1 f1 a1) f1 (a2 % 65536) a3) (pokeB (okMem m0 ln0 f0 n1 f1 a1) m0 a1 (a2 % 65536) a3) → Below w6.heap.size w6 W → Q .normal a W) : (Code.region id regPokeI_ops true).wp Try.prog Q a0 w6 := by
  refine wp_region_inv (by kernel_rfl) (by kernel_rfl) (regPokeI_J w6 u0 m0 ln0 f0 u1 n1 f1 a1 a2 a3) ?_ ?_ ?_
  · refine ⟨false, false, false, false, false, false, false, false, false, _, _, _, _, _, _, _, _, rfl, ⟨rfl, rfl, fun _ _ => rfl⟩, (Below.refl _ _).drew, ⟨rfl, rfl, rfl, rfl, rfl, rfl, rfl, rfl⟩, ?_⟩
    simp
  · rintro l a W i o K hl ⟨b0, b1, b2, b3, b4, b5, b6, b7, b8, s17, s83, s84, s85, s86, s87, s88, s89, rfl, F, L, ⟨e17, e83, e84, e85, e86, e87, e88, e89⟩, k0, k1, k2, k3, k4, k5, k6, k7, d8, v8⟩ ho hf ha hK
    have r4 := boxC (box_keep x4 L (boxLt x4))
    have f4 := F.get (t := 4) (by decide) h4
    have r5 := boxC (box_keep x5 L (boxLt x5))
    have f5 := F.get (t := 5) (by decide) h5
    have f2 := F.get (t := 2) (by decide) h2
    have f3 := F.get (t := 3) (by decide) h3
    have hz : 89 < a.tmps.size := by rw [F.size]; exact hsz
    have hi : i = 0 ∨ i = 1 ∨ i = 2 ∨ i = 3 ∨ i = 4 ∨ i = 5 ∨ i = 6 ∨ i = 7 ∨ i = 8 := by
      have : i < 9 := by
        rcases Nat.lt_or_ge i 9 with h | h
        · exact h
        · simp [Array.getElem?_eq_none (show (#[b0, b1, b2, b3, b4, b5, b6, b7, b8] : Array Bool).size ≤ i from h)] at hf
      omega
    rcases hi with rfl | rfl | rfl | rfl | rfl | rfl | rfl | rfl | rfl
    all_goals (simp only [regPokeI_ops, List.getElem?_toArray, List.getElem?_cons_zero, List.getElem?_cons_succ, Option.some.injEq] at ho; subst ho; refine wpOp_of rfl rfl ?_; simp [Region.binds] at ha hf; subst hf)
    · go_simp
      refine hK (a.put (some 83) _) W ⟨true, b1, b2, b3, b4, b5, b6, b7, b8, s17, _, s84, s85, s86, s87, s88, s89, rfl, F.put (by decide) _, L, ⟨(getD_put_ne (by decide)).trans e17, getD_put_eq (by omega), (getD_put_ne (by decide)).trans e84, (getD_put_ne (by decide)).trans e85, (getD_put_ne (by decide)).trans e86, (getD_put_ne (by decide)).trans e87, (getD_put_ne (by decide)).trans e88, (getD_put_ne (by decide)).trans e89⟩, fun _ => rfl, k1, k2, k3, k4, k5, k6, fun h => let ⟨p, z1, z2, z3, z4⟩ := k7 h; ⟨p, z1, z2, fun h' => (z3 h'), fun h' => let ⟨cs, c1, c2⟩ := z4 h'; ⟨cs, c1, c2⟩⟩, @d8, @v8⟩
    · clear hz
      go_simp
      have hz : 89 < a.tmps.size := by rw [F.size]; exact hsz
      refine (onToImage W F0 u0 m0 ln0 f0 (HI.keep (wrote_below L Nowhere) (fun _ _ _ x => x)) hm).mono ?_
      rintro e W' ⟨v, rfl, O, LB⟩
      have lt7 : b7 = true → ∀ p, s17 = .pointer (some ⟨p, 0, none⟩) → p < W.heap.size := fun h p hp => by
        obtain ⟨p', z1, z2, z3, z4⟩ := k7 h
        rw [hp] at z1
        simp only [Value.pointer.injEq, Option.some.injEq, Addr.mk.injEq] at z1
        obtain ⟨rfl, -, -⟩ := z1
        cases hb : b8
        · exact boxLt (z3 hb)
        · obtain ⟨cs, c1, c2⟩ := z4 hb; exact boxLt c2
      refine hK (a.put (some 84) _) W' ⟨b0, true, b2, b3, b4, b5, b6, b7, b8, s17, s83, _, s85, s86, s87, s88, s89, rfl, F.put (by decide) _, below_snoc L LB, ⟨(getD_put_ne (by decide)).trans e17, (getD_put_ne (by decide)).trans e83, getD_put_eq (by omega), (getD_put_ne (by decide)).trans e85, (getD_put_ne (by decide)).trans e86, (getD_put_ne (by decide)).trans e87, (getD_put_ne (by decide)).trans e88, (getD_put_ne (by decide)).trans e89⟩, k0, fun _ => O.mono (fun b hb h => ⟨Nat.le_trans L.size h, fun h' e => Nat.not_lt.2 h (lt7 h' b e)⟩), k2, fun h => (k3 h).below LB, k4, k5, fun h => (k6 h).below LB, fun h => let ⟨p, z1, z2, z3, z4⟩ := k7 h; ⟨p, z1, z2, fun h' => box_keep (z3 h') LB (boxLt (z3 h')), fun h' => let ⟨cs, c1, c2⟩ := z4 h'; ⟨cs, c1, box_keep c2 LB (boxLt c2)⟩⟩, @d8, @v8⟩
    · go_simp
      refine hK (a.put (some 85) _) W ⟨b0, b1, true, b3, b4, b5, b6, b7, b8, s17, s83, s84, _, s86, s87, s88, s89, rfl, F.put (by decide) _, L, ⟨(getD_put_ne (by decide)).trans e17, (getD_put_ne (by decide)).trans e83, (getD_put_ne (by decide)).trans e84, getD_put_eq (by omega), (getD_put_ne (by decide)).trans e86, (getD_put_ne (by decide)).trans e87, (getD_put_ne (by decide)).trans e88, (getD_put_ne (by decide)).trans e89⟩, k0, k1, fun _ => rfl, k3, k4, k5, k6, fun h => let ⟨p, z1, z2, z3, z4⟩ := k7 h; ⟨p, z1, z2, fun h' => (z3 h'), fun h' => let ⟨cs, c1, c2⟩ := z4 h'; ⟨cs, c1, c2⟩⟩, @d8, @v8⟩
    · clear hz
      go_simp
      have hz : 89 < a.tmps.size := by rw [F.size]; exact hsz
      refine (onToMem W F1 u1 n1 f1 a1 (HK.keep (wrote_below L Nowhere) (fun _ _ _ x => x)) hn).mono ?_
      rintro e W' ⟨v, rfl, O, LB⟩
      have lt7 : b7 = true → ∀ p, s17 = .pointer (some ⟨p, 0, none⟩) → p < W.heap.size := fun h p hp => by
        obtain ⟨p', z1, z2, z3, z4⟩ := k7 h
        rw [hp] at z1
        simp only [Value.pointer.injEq, Option.some.injEq, Addr.mk.injEq] at z1
        obtain ⟨rfl, -, -⟩ := z1
        cases hb : b8
        · exact boxLt (z3 hb)
        · obtain ⟨cs, c1, c2⟩ := z4 hb; exact boxLt c2
      refine hK (a.put (some 86) _) W' ⟨b0, b1, b2, true, b4, b5, b6, b7, b8, s17, s83, s84, s85, _, s87, s88, s89, rfl, F.put (by decide) _, below_snoc L LB, ⟨(getD_put_ne (by decide)).trans e17, (getD_put_ne (by decide)).trans e83, (getD_put_ne (by decide)).trans e84, (getD_put_ne (by decide)).trans e85, getD_put_eq (by omega), (getD_put_ne (by decide)).trans e87, (getD_put_ne (by decide)).trans e88, (getD_put_ne (by decide)).trans e89⟩, k0, fun h => (k1 h).below LB, k2, fun _ => O.mono (fun b hb h => ⟨Nat.le_trans L.size h, fun h' e => Nat.not_lt.2 h (lt7 h' b e)⟩), k4, k5, fun h => (k6 h).below LB, fun h => let ⟨p, z1, z2, z3, z4⟩ := k7 h; ⟨p, z1, z2, fun h' => box_keep (z3 h') LB (boxLt (z3 h')), fun h' => let ⟨cs, c1, c2⟩ := z4 h'; ⟨cs, c1, box_keep c2 LB (boxLt c2)⟩⟩, @d8, @v8⟩
    · go_simp
      refine hK (a.put (some 87) _) W ⟨b0, b1, b2, b3, true, b5, b6, b7, b8, s17, s83, s84, s85, s86, _, s88, s89, rfl, F.put (by decide) _, L, ⟨(getD_put_ne (by decide)).trans e17, (getD_put_ne (by decide)).trans e83, (getD_put_ne (by decide)).trans e84, (getD_put_ne (by decide)).trans e85, (getD_put_ne (by decide)).trans e86, getD_put_eq (by omega), (getD_put_ne (by decide)).trans e88, (getD_put_ne (by decide)).trans e89⟩, k0, k1, k2, k3, fun _ => rfl, k5, k6, fun h => let ⟨p, z1, z2, z3, z4⟩ := k7 h; ⟨p, z1, z2, fun h' => (z3 h'), fun h' => let ⟨cs, c1, c2⟩ := z4 h'; ⟨cs, c1, c2⟩⟩, @d8, @v8⟩
    · go_simp
      refine hK (a.put (some 88) _) W ⟨b0, b1, b2, b3, b4, true, b6, b7, b8, s17, s83, s84, s85, s86, s87, _, s89, rfl, F.put (by decide) _, L, ⟨(getD_put_ne (by decide)).trans e17, (getD_put_ne (by decide)).trans e83, (getD_put_ne (by decide)).trans e84, (getD_put_ne (by decide)).trans e85, (getD_put_ne (by decide)).trans e86, (getD_put_ne (by decide)).trans e87, getD_put_eq (by omega), (getD_put_ne (by decide)).trans e89⟩, k0, k1, k2, k3, k4, fun _ => rfl, k6, fun h => let ⟨p, z1, z2, z3, z4⟩ := k7 h; ⟨p, z1, z2, fun h' => (z3 h'), fun h' => let ⟨cs, c1, c2⟩ := z4 h'; ⟨cs, c1, c2⟩⟩, @d8, @v8⟩
    · have q1 := k1 (by simp_all)
      have q3 := k3 (by simp_all)
      clear hz
      go_simp
      have hz : 89 < a.tmps.size := by rw [F.size]; exact hsz
      refine (onImplPoke W _ _ s84 s86 m0 ln0 f0 n1 f1 a1 a2 a3 q1 q3).mono ?_
      rintro e W' ⟨v, rfl, O, LB⟩
      have lt7 : b7 = true → ∀ p, s17 = .pointer (some ⟨p, 0, none⟩) → p < W.heap.size := fun h p hp => by
        obtain ⟨p', z1, z2, z3, z4⟩ := k7 h
        rw [hp] at z1
        simp only [Value.pointer.injEq, Option.some.injEq, Addr.mk.injEq] at z1
        obtain ⟨rfl, -, -⟩ := z1
        cases hb : b8
        · exact boxLt (z3 hb)
        · obtain ⟨cs, c1, c2⟩ := z4 hb; exact boxLt c2
      refine hK (a.put (some 89) _) W' ⟨b0, b1, b2, b3, b4, b5, true, b7, b8, s17, s83, s84, s85, s86, s87, s88, _, rfl, F.put (by decide) _, below_snoc L LB, ⟨(getD_put_ne (by decide)).trans e17, (getD_put_ne (by decide)).trans e83, (getD_put_ne (by decide)).trans e84, (getD_put_ne (by decide)).trans e85, (getD_put_ne (by decide)).trans e86, (getD_put_ne (by decide)).trans e87, (getD_put_ne (by decide)).trans e88, getD_put_eq (by omega)⟩, k0, fun h => (k1 h).below LB, k2, fun h => (k3 h).below LB, k4, k5, fun _ => O.mono (fun b hb h => ⟨Nat.le_trans L.size h, fun h' e => Nat.not_lt.2 h (lt7 h' b e)⟩), fun h => let ⟨p, z1, z2, z3, z4⟩ := k7 h; ⟨p, z1, z2, fun h' => box_keep (z3 h') LB (boxLt (z3 h')), fun h' => absurd (v8 h') (by simp)⟩, @d8, fun _ => rfl⟩
    · have hst : b8 = false := by cases h : b8; rfl; exact absurd (d8 h) (by simp)
      subst hst
      clear hz
      go_simp
      have hz : 89 < a.tmps.size := by rw [F.size]; exact hsz
      have LA : Below W.heap.size W (W.alloc (.cells #[.slice none 0 0, .int .i64 0] 33)) := (Below.refl _ _).alloc (Nat.le_refl _) _
      refine hK (a.put (some 17) _) _ ⟨b0, b1, b2, b3, b4, b5, b6, true, false, _, s83, s84, s85, s86, s87, s88, s89, rfl, F.put (by decide) _, L.alloc L.size _, ⟨getD_put_eq (by omega), (getD_put_ne (by decide)).trans e83, (getD_put_ne (by decide)).trans e84, (getD_put_ne (by decide)).trans e85, (getD_put_ne (by decide)).trans e86, (getD_put_ne (by decide)).trans e87, (getD_put_ne (by decide)).trans e88, (getD_put_ne (by decide)).trans e89⟩, k0, fun h => ((k1 h).mono (fun b hb ⟨h0', h7'⟩ => ⟨h0', fun _ e => by simp only [Value.pointer.injEq, Option.some.injEq, Addr.mk.injEq] at e; omega⟩)).below LA, k2, fun h => ((k3 h).mono (fun b hb ⟨h0', h7'⟩ => ⟨h0', fun _ e => by simp only [Value.pointer.injEq, Option.some.injEq, Addr.mk.injEq] at e; omega⟩)).below LA, k4, k5, fun h => ((k6 h).mono (fun b hb ⟨h0', h7'⟩ => ⟨h0', fun _ e => by simp only [Value.pointer.injEq, Option.some.injEq, Addr.mk.injEq] at e; omega⟩)).below LA, fun _ => ⟨W.heap.size, rfl, L.size, fun _ => box_new W _ _, fun h => absurd h (by simp)⟩, fun _ => rfl, fun h => absurd h (by simp)⟩
    · have hb7 : b7 = true := by simp_all
      have hvo : b6 = true := by simp_all
      obtain ⟨p, z1, z2, z3, z4⟩ := k7 hb7
      have c := boxC (z3 rfl)
      have f := boxF (z3 rfl)
      have hz' : a.tmps[17]?.getD undef = .pointer (some ⟨p, 0, none⟩) := e17.trans z1
      have qv := k6 (by simp_all)
      obtain ⟨ya, yc, hcs⟩ := qv.two
      have hv : a.tmps[89]?.getD undef = .agg #[.slice ya _ yc, .int .i64 _] := e89.trans hcs
      clear hz
      go_simp
      refine hK a _ ⟨b0, b1, b2, b3, b4, b5, b6, b7, true, s17, s83, s84, s85, s86, s87, s88, s89, rfl, F, ((L.setCell (p := ⟨p, 0, none⟩) z2 _).setCell (p := ⟨p, 1, none⟩) z2 _), ⟨e17, e83, e84, e85, e86, e87, e88, e89⟩, ?_⟩
      exact ⟨k0, fun h => (k1 h).keep (Wrote.setCell (R := fun b _ => b = p) (Wrote.setCell (R := fun b _ => b = p) (Wrote.refl (fun b _ => b = p) W) (fun _ => rfl) _) (fun _ => rfl) _) (fun b o hb _ e => hb.2 hb7 (by rw [z1, e])), k2, fun h => (k3 h).keep (Wrote.setCell (R := fun b _ => b = p) (Wrote.setCell (R := fun b _ => b = p) (Wrote.refl (fun b _ => b = p) W) (fun _ => rfl) _) (fun _ => rfl) _) (fun b o hb _ e => hb.2 hb7 (by rw [z1, e])), k4, k5, fun h => (k6 h).keep (Wrote.setCell (R := fun b _ => b = p) (Wrote.setCell (R := fun b _ => b = p) (Wrote.refl (fun b _ => b = p) W) (fun _ => rfl) _) (fun _ => rfl) _) (fun b o hb _ e => hb.2 hb7 (by rw [z1, e])), fun _ => ⟨p, z1, z2, fun h => absurd h (by simp), fun _ => ⟨_, hcs, box_set (box_set (z3 rfl) _) _⟩⟩, fun _ => hb7, fun _ => hvo⟩
  · rintro l a W hall ⟨b0, b1, b2, b3, b4, b5, b6, b7, b8, s17, s83, s84, s85, s86, s87, s88, s89, rfl, F, L, ⟨e17, e83, e84, e85, e86, e87, e88, e89⟩, k0, k1, k2, k3, k4, k5, k6, k7, d8, v8⟩
    have t8 : b8 = true := by simpa using hall 8 (by decide)
    have u7 := d8 t8
    obtain ⟨p17, z17, y17, -, x17'⟩ := k7 u7
    replace x17' := x17' t8
    obtain ⟨cs17, c17, x17'⟩ := x17'
    have v17 := k6 (by simpa using hall 6 (by decide))
    rw [c17] at v17
    exact hQ a W p17 cs17 F (e17.trans z17) y17 x17' (v17.mono (fun b _ hb => ⟨hb.1, fun e => hb.2 u7 (by rw [z17, e])⟩)) L
end Go.Proofs.Ytpaedkefmebjjam
