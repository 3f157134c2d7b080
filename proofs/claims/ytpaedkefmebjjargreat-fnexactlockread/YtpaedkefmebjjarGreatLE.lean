/-
  Chapter 12: LockRead, LockWrite.
-/
import Derived.Test.YtpaedkefmebjjarGreatAIb
import Derived.Test.YtpaedkefmebjjarGreatLB
import Derived.Test.YtpaedkefmebjjarGreatLA
import Derived.Test.YtpaedkefmebjjarGreatAI
import Derived.Test.YtpaedkefmebjjarGreatPI
import Derived.Test.YtpaedkefmebjjarGreatI8f
import Derived.Test.YtpaedkefmebjjarGreatI6d
import Derived.Test.YtpaedkefmebjjarGreatKS
import Derived.Test.YtpaedkefmebjjarGreatKIa
import Derived.Test.YtpaedkefmebjjarGreatG0
import Derived.Deep.DeepCutAuto
import Derived.Deep.RegionHeld3
namespace Go.Proofs.YtpaedkefmebjjarGreat
set_option linter.unusedVariables false
set_option linter.unusedSimpArgs false
open Go.ChangeShapes Go.WideShapes Go.ChangeAt Go.RowKit Go.Sort
set_option maxHeartbeats 2000000 in
theorem implApuRead (w : World) (T P C B L : Int) (S Q : Bool) (reg : Int) : Calls Tryz.prog 87 #[.agg #[.int .i64 T, .int .i64 P, .int .i64 C, .int .i64 B, .int .i64 L, .bool S, .bool Q], .int .i64 reg] w
    fun e w' => e = .returned (.tuple #[.agg #[.int .i64 T, .int .i64 P, .int .i64 C, .int .i64 B, .int .i64 L, .bool S, .bool (rqA true Q reg)], .int .i64 (rvA true L Q reg)]) ∧ Below w.heap.size w w' := by
  have k0 : ((w.alloc (.cells #[.int .i64 T, .int .i64 P, .int .i64 C, .int .i64 B, .int .i64 L, .bool S, .bool Q] 45)).alloc (.cells #[.int .i64 0, .int .i64 0, .int .i64 0, .int .i64 0, .int .i64 0, .bool false, .bool false] 45)).heap[w.heap.size]? = some (.cells #[.int .i64 T, .int .i64 P, .int .i64 C, .int .i64 B, .int .i64 L, .bool S, .bool Q] 45 (0, 0)) := boxA (box_new w _ _) _
  have k1 : ((w.alloc (.cells #[.int .i64 T, .int .i64 P, .int .i64 C, .int .i64 B, .int .i64 L, .bool S, .bool Q] 45)).alloc (.cells #[.int .i64 0, .int .i64 0, .int .i64 0, .int .i64 0, .int .i64 0, .bool false, .bool false] 45)).heap[w.heap.size + 1]? = some (.cells #[.int .i64 0, .int .i64 0, .int .i64 0, .int .i64 0, .int .i64 0, .bool false, .bool false] 45 (0, 0)) := by simpa using box_new (w.alloc (.cells #[.int .i64 T, .int .i64 P, .int .i64 C, .int .i64 B, .int .i64 L, .bool S, .bool Q] 45)) #[.int .i64 0, .int .i64 0, .int .i64 0, .int .i64 0, .int .i64 0, .bool false, .bool false] 45
  have L0 : Below w.heap.size w ((w.alloc (.cells #[.int .i64 T, .int .i64 P, .int .i64 C, .int .i64 B, .int .i64 L, .bool S, .bool Q] 45)).alloc (.cells #[.int .i64 0, .int .i64 0, .int .i64 0, .int .i64 0, .int .i64 0, .bool false, .bool false] 45)) := ((Below.refl _ _).alloc (Nat.le_refl _) _).alloc (by simp) _
  by_cases hr : reg = 2
  · subst hr
    have HQ' : Hid (rqA true Q 2 = false) := if_pos ⟨rfl, rfl⟩
    obtain ⟨b, hb⟩ : ∃ b, Hid (decide (0 < L) = b) := ⟨_, rfl⟩
    have HV : Hid (rvA true L Q 2 = 128 * bitOf Q + bitOf b) := by rw [← hb.out]; exact if_pos ⟨rfl, rfl⟩
    rw [HQ'.out, HV.out]
    clear HQ' HV
    have HS := hide (fun W h => apuSounds W w.heap.size T P C B L S Q h b hb.out)
    cases Q <;> cases b
    all_goals
      go_enter Tryz.func87, Tryz.ntmps87
      go_wp2_with fail
      generalize ((w.alloc (.cells #[.int .i64 T, .int .i64 P, .int .i64 C, .int .i64 B, .int .i64 L, .bool S, .bool _] 45)).alloc (.cells #[.int .i64 0, .int .i64 0, .int .i64 0, .int .i64 0, .int .i64 0, .bool false, .bool false] 45)) = W0 at *
      have c0 := boxC k0
      have c1 := boxC k1
      have f0 := boxF k0
      have f1 := boxF k1
      go_wp2_with fail
      refine (HS.out _ k0).mono ?_
      rintro e W1 ⟨rfl, rfl⟩
      go_wp2
      refine bodyPost_ret (v := .tuple #[.agg #[.int .i64 T, .int .i64 P, .int .i64 C, .int .i64 B, .int .i64 L, .bool S, .bool false], _]) (by simp [results, Tryz.results87, go_sem, c1]; rfl) rfl ?_
      refine ⟨by simp [bitOf], ?_⟩
      have hz0 := boxLt k1
      have fin : ∀ W5, Wrote (fun b _ => b = w.heap.size ∨ b = w.heap.size + 1) W1 W5 → Below w.heap.size w W5 := fun W5 h => L0.trans (h.below L0.size (fun b o hb e => by omega))
      refine fin _ ?_
      repeat (first | with_reducible exact Wrote.refl _ _ | with_reducible refine Wrote.drew ?_ | with_reducible refine Wrote.setCell ?_ (fun _ => by omega) _)
  · have HQ' : Hid (rqA true Q reg = Q) := if_neg (fun h => hr h.2)
    have HV : Hid (rvA true L Q reg = 0) := if_neg (fun h => hr h.2)
    rw [HQ'.out, HV.out]
    have hr' : (reg != 2) = true := by simpa using hr
    clear hr
    go_enter Tryz.func87, Tryz.ntmps87
    go_wp2
    refine bodyPost_ret (v := .tuple #[.agg #[.int .i64 T, .int .i64 P, .int .i64 C, .int .i64 B, .int .i64 L, .bool S, .bool Q], .int .i64 0]) (by simp [results, Tryz.results87, go_sem]) rfl ?_
    exact ⟨rfl, ((Below.refl _ _).alloc (Nat.le_refl _) _).alloc (by simp) _⟩
end Go.Proofs.YtpaedkefmebjjarGreat
namespace Go.Proofs.YtpaedkefmebjjarGreat
set_option linter.unusedVariables false
set_option linter.unusedSimpArgs false
open Go.ChangeShapes Go.WideShapes Go.ChangeAt Go.RowKit
theorem LockA.upTo {W : World} {lo N N' : Nat} {D : Nat → Nat → Prop} {u0 u1 u2 u3 u4 u5 u6 u7 : Value} {ob : Nat → Option Nat} {iv ov : Nat → Value} {o6 o7 : Option Nat} {d : LockD} (H : LockA W lo N D u0 u1 u2 u3 u4 u5 u6 u7 ob iv ov o6 o7 d) (h : N ≤ N') (h' : N' ≤ W.heap.size) : LockA W lo N' D u0 u1 u2 u3 u4 u5 u6 u7 ob iv ov o6 o7 d :=
  ⟨H.h0, H.h1, H.h2, H.h3, H.h5, H.h5D, H.h6, H.h6D, H.h7, H.h7D, H.dis, fun i b hb => ⟨(H.bd i b hb).1, Nat.lt_of_lt_of_le (H.bd i b hb).2 h⟩, h', H.hps⟩
/-- 'append(xs, x)', of a list that is none or begins a block of its own. -/
theorem wp_pushA (W : World) {o : Oper} {a : Act} {K : Act → World → Prop} {Q : Exit → Act → World → Prop} (s x : Operand) (hop : o.op = Op.call { callee := Callee.builtin Builtin.append, args := #[s, x], argTypes := #[25, 25] })
    (lo : Nat) (o7 : Option Nat) (u : Value) (n : Nat) (f : Nat → Int) (hs : a.eval s = u) (R : RowAt W lo o7 u n f) (hn : n < 1048576) (hlo : lo ≤ W.heap.size) (q : Nat) (y : Int) (hx : a.eval x = .slice (some ⟨q, 0, none⟩) 1 1) (hq : W.cell? ⟨q, 0, none⟩ = some (.int .i64 y))
    (h : ∀ g' c' W', RowAt W' lo (some g') (.slice (some ⟨g', 0, none⟩) (n + 1) c') (n + 1) (snoc f n y) → Wrote (fun b _ => o7 = some b) W W' → (o7 = some g' ∨ W.heap.size ≤ g') → K (a.put o.dst (.slice (some ⟨g', 0, none⟩) (n + 1) c')) W') : o.wp Tryz.prog a W K Q := by
  cases o7 with
  | some g =>
    obtain ⟨c, rfl, r⟩ := R
    exact wp_pushR W s x hop lo g n c f hs r hn q y hx hq (fun g' c' W' r1 r2 r3 => h g' c' W' ⟨c', rfl, r1⟩ (r2.mono (fun b o _ e => by rw [e.1])) (by rcases r3 with ⟨e, -⟩ | e; (left; rw [e]); (right; exact e)))
  | none =>
    obtain ⟨rfl, rfl⟩ := R
    obtain ⟨i0, hi, hz0, hz1, hz2⟩ := info_parts info3
    have hnews : ∀ j u, [Value.int .i64 y][j]? = some u → W.cell? ((⟨q, 0, none⟩ : Addr).add j) = some u := fun j u hh => by
      cases j with
      | zero => simp at hh; rw [← hh]; exact hq
      | succ j => simp at hh
    have own : W.ownsRow lo 3 1 (.slice none 0 0) 0 [] := ⟨rfl, Or.inl ⟨rfl, rfl⟩⟩
    obtain ⟨g', c', W', hrun, r1, r2, r3, r4⟩ := run_append_lies (P := Tryz.prog) (w := W) 25 o.type lo 3 i0 (.int .i64 0) 1 8 Tryz.underlying25 hi hz0 hz1 hz2 rfl (by decide) (.slice none 0 0) 0 [] own ⟨q, 0, none⟩ 1 1 [.int .i64 y] rfl hnews (fun u hu => by simp at hu; rw [hu]; rfl) (by omega) (by unfold maxLen; omega) (by omega) hlo W.heap.size rfl
    have L : Below W.heap.size W W' := (Below.refl _ _).grown r2 (Nat.le_refl _) (fun _ e => by cases e)
    have e1 : rowVals 1 (snoc f 0 y) = [.int .i64 y] := by simp [rowVals, snoc]
    unfold Oper.wp
    simp [execOp, hop, resolve, invoke, builtin, hs, hx, hrun, Result.andThen]
    exact h g' c' W' ⟨c', rfl, by rw [Nat.zero_add, e1]; exact r1, by omega⟩ (wrote_below L _) (Or.inr (by rcases r3 with r3 | r3; cases r3; omega))
theorem wpList_pushA (W : World) {ops : Array Oper} {rest : List Oper} {o : Oper} {a : Act} {Q : Exit → Act → World → Prop} (hg : o.guard = none) (s x : Operand) (hop : o.op = Op.call { callee := Callee.builtin Builtin.append, args := #[s, x], argTypes := #[25, 25] })
    (lo : Nat) (o7 : Option Nat) (u : Value) (n : Nat) (f : Nat → Int) (hs : a.eval s = u) (R : RowAt W lo o7 u n f) (hn : n < 1048576) (hlo : lo ≤ W.heap.size) (q : Nat) (y : Int) (hx : a.eval x = .slice (some ⟨q, 0, none⟩) 1 1) (hq : W.cell? ⟨q, 0, none⟩ = some (.int .i64 y))
    (h : ∀ g' c' W', RowAt W' lo (some g') (.slice (some ⟨g', 0, none⟩) (n + 1) c') (n + 1) (snoc f n y) → Wrote (fun b _ => o7 = some b) W W' → (o7 = some g' ∨ W.heap.size ≤ g') → wpList Tryz.prog ops Q rest (a.put o.dst (.slice (some ⟨g', 0, none⟩) (n + 1) c')) W') : wpList Tryz.prog ops Q (o :: rest) a W :=
  wpList_plain hg fun K hK => wp_pushA W s x hop lo o7 u n f hs R hn hlo q y hx hq (fun g c W' r1 r2 r3 => hK _ _ (h g c W' r1 r2 r3))
/-- A console in step in a box of its own. -/
structure LockBx (W : World) (lo z : Nat) (d : LockD) : Prop where
  ex : ∃ D u0 u1 u2 u3 u4 u5 u6 u7 ob iv ov o6 o7, LockA W lo W.heap.size D u0 u1 u2 u3 u4 u5 u6 u7 ob iv ov o6 o7 d ∧ (∀ i b, D i b → b ≠ z) ∧ W.heap[z]? = some (.cells #[u0, u1, u2, .int .i64 d.bank, .int .i64 d.A, .int .i64 d.X, .int .i64 d.S, .int .i64 d.Pc, .bool d.Z, .bool d.N, .bool d.C, .bool d.I, .int .i64 d.t, .int .i64 d.c, .int .i64 d.s, .int .i64 d.ad, .int .i64 d.pl, .bool d.bl, u3, u4, .int .i64 d.T, .int .i64 d.P, .int .i64 d.K, .int .i64 d.B, .int .i64 d.L, .bool d.Q, .bool d.R, .bool d.hd, .int .i64 d.sh, .bool d.nmi, .int .i64 d.st, u5, u6, u7] 49 (0, 0))
set_option maxRecDepth 40000 in
set_option maxHeartbeats 8000000 in
theorem lockRead (w : World) (lo z : Nat) (d : LockD) (a : Int) (H : LockBx w lo z d) (hlo : lo ≤ z) (hok : okLock d = true) (hnq : d.nq < 1048576) : Calls Tryz.prog 32 #[.pointer (some ⟨z, 0, none⟩), .int .i64 a] w fun e w' => e = .returned (.int .i64 (readV d a)) ∧ LockBx w' lo z (readD d a) ∧ Below lo w w' := by
  obtain ⟨okp, okm, oku, oka, oks⟩ := okLock_parts hok
  obtain ⟨D, u0, u1, u2, u3, u4, u5, u6, u7, ob, iv, ov, o6, o7, HQ, hz, B0⟩ := H
  obtain ⟨x0, y0, rfl⟩ := HQ.h0.form
  obtain ⟨x1, y1, rfl⟩ := HQ.h1.two
  obtain ⟨x2, y2, e2⟩ := HQ.h2.two
  simp only [Value.agg.injEq, Array.mk.injEq, List.cons.injEq, and_true] at e2
  subst e2
  obtain ⟨x3, y3, x4, y4, e3⟩ := HQ.h3.two
  simp only [Value.agg.injEq, Array.mk.injEq, List.cons.injEq, and_true, true_and] at e3
  obtain ⟨rfl, rfl⟩ := e3
  obtain ⟨x5, y5, rfl⟩ := HQ.h5.form
  obtain ⟨x6, y6, rfl⟩ := HQ.h6.form
  obtain ⟨x7, y7, rfl⟩ := HQ.h7.form
  have hzl := boxLt B0
  have hlw : lo ≤ w.heap.size := by omega
  have L0 : Below lo w w := ⟨rfl, rfl, rfl, Nat.le_refl _, fun _ _ => rfl⟩
  obtain ⟨rg, hrg⟩ : ∃ x, Hid (x = rgN (a % 65536)) := ⟨_, rfl⟩
  obtain ⟨at', hat⟩ : ∃ x, Hid (x = rgP (a % 65536)) := ⟨_, rfl⟩
  have HG := hide (fun W => implRegion W a)
  rw [← hrg.out, ← hat.out] at HG
  by_cases r2 : rg = 2
  · have HV : Hid (readV d a = rdV true at' d.bl d.ad d.tb ∧ readD d a = { d with ad := rdA true at' d.ad, bl := rdB true at' d.bl, nq := d.nq + 1, rd := snoc d.rd d.nq (rdV true at' d.bl d.ad d.tb) }) := by
      have e : rgN (a % 65536) = 2 := by rw [← hrg.out]; exact r2
      show _ ∧ _
      unfold readD readV
      simp only [e, if_true]
      rw [← hat.out]
      exact ⟨rfl, rfl⟩
    rw [HV.out.1, HV.out.2]
    subst r2
    clear HV hrg
    obtain ⟨x, hx⟩ : ∃ x, Hid (x = rdV true at' d.bl d.ad d.tb) := ⟨_, rfl⟩
    obtain ⟨ad', had⟩ : ∃ x, Hid (x = rdA true at' d.ad) := ⟨_, rfl⟩
    obtain ⟨bl', hbl⟩ : ∃ x, Hid (x = rdB true at' d.bl) := ⟨_, rfl⟩
    have HP := hide (fun W F G u u' h k => implPpuRead W F G d.t d.c d.s d.ad d.pl d.bl u u' d.nt d.tb d.nd d.dt at' h k)
    rw [oku, ← hx.out, ← had.out, ← hbl.out] at HP
    rw [← hx.out, ← had.out, ← hbl.out]
    clear hx had hbl hat
    obtain ⟨q3, q4, hq3, I3, I4⟩ := HQ.h3.ints
    simp only [Value.agg.injEq, Array.mk.injEq, List.cons.injEq, and_true, true_and] at hq3
    obtain ⟨rfl, rfl⟩ := hq3
    go_enter Tryz.func32, Tryz.ntmps32
    go_wp2_with fail
    refine (HG.out _).mono ?_
    rintro e W1 ⟨rfl, rfl⟩
    have c0' := boxC B0
    go_wp2_with fail
    clear c0'
    refine (HP.out _ _ _ _ _ I3 I4).mono ?_
    rintro e W2 ⟨v', rfl, P3, L⟩
    clear HP I3 I4
    obtain ⟨x3', y3', x4', y4', rfl⟩ := P3.two
    replace P3 := P3.mono (E := fun b => W1.heap.size ≤ b ∧ b < W2.heap.size) (fun b hb h => ⟨h, hb⟩)
    have l12 := L.size
    replace HQ := HQ.below L
    replace L0 := L0.trans (L.mono (Nat.le_trans hlw L0.size))
    replace B0 := box_keep B0 L (boxLt B0)
    obtain ⟨DD, HQ', hz'⟩ : ∃ DD, LockA W2 lo W2.heap.size DD (.slice x0 d.m y0) (.slice x1 d.np y1) (.slice x2 d.nr y2) (.slice x3' d.nt y3') (.slice x4' d.nd y4') (.slice x5 d.mf y5) (.slice x6 d.ns y6) (.slice x7 d.nq y7) ob iv ov o6 o7 { d with t := d.t, c := d.c, s := d.s, ad := ad', pl := d.pl, bl := bl', nt := d.nt, tb := d.tb, nd := d.nd, dt := d.dt } ∧ ∀ i b, DD i b → b ≠ z := ⟨_, HQ.ppu P3 (Nat.le_refl _) hlw l12 (Nat.le_refl _), fun i b h e => by
      rcases h with ⟨-, h1, h2⟩ | ⟨-, h⟩
      · omega
      · exact hz i b h e⟩
    clear HQ hz P3 L
    have HQ := HQ'
    have hz := hz'
    clear HQ' hz'
    have c0' := boxC B0
    have f0' := boxF B0
    go_upto_region 11 with (fail)
    clear c0' f0'
    have TT := Wrote.setCell (b := z) (o := 19) (R := fun b _ => b = z) (Wrote.setCell (b := z) (o := 18) (R := fun b _ => b = z) (Wrote.setCell (b := z) (o := 17) (R := fun b _ => b = z) (Wrote.setCell (b := z) (o := 16) (R := fun b _ => b = z) (Wrote.setCell (b := z) (o := 15) (R := fun b _ => b = z) (Wrote.setCell (b := z) (o := 14) (R := fun b _ => b = z) (Wrote.setCell (b := z) (o := 13) (R := fun b _ => b = z) (Wrote.setCell (b := z) (o := 12) (R := fun b _ => b = z) (Wrote.refl _ W2) (fun _ => rfl) (.int .i64 d.t)) (fun _ => rfl) (.int .i64 d.c)) (fun _ => rfl) (.int .i64 d.s)) (fun _ => rfl) (.int .i64 ad')) (fun _ => rfl) (.int .i64 d.pl)) (fun _ => rfl) (.bool bl')) (fun _ => rfl) (.slice x3' d.nt y3')) (fun _ => rfl) (.slice x4' d.nd y4')
    replace B0 := box_set (o := 12) B0 (.int .i64 d.t)
    replace B0 := box_set (o := 13) B0 (.int .i64 d.c)
    replace B0 := box_set (o := 14) B0 (.int .i64 d.s)
    replace B0 := box_set (o := 15) B0 (.int .i64 ad')
    replace B0 := box_set (o := 16) B0 (.int .i64 d.pl)
    replace B0 := box_set (o := 17) B0 (.bool bl')
    replace B0 := box_set (o := 18) B0 (.slice x3' d.nt y3')
    replace B0 := box_set (o := 19) B0 (.slice x4' d.nd y4')
    simp only [List.setIfInBounds_toArray, List.set_cons_succ, List.set_cons_zero] at B0
    replace HQ := HQ.keepD TT (fun i b o h (e : b = _) => hz i b h e)
    replace HQ := HQ.upTo TT.size (Nat.le_refl _)
    replace L0 := L0.trans (TT.below (Nat.le_trans hlw L0.size) (fun b o hb (h : b = _) => by omega))
    replace hzl := boxLt B0
    clear TT
    generalize (((((((W2.setCell ⟨z, 12, none⟩ (.int .i64 d.t)).setCell ⟨z, 13, none⟩ (.int .i64 d.c)).setCell ⟨z, 14, none⟩ (.int .i64 d.s)).setCell ⟨z, 15, none⟩ (.int .i64 ad')).setCell ⟨z, 16, none⟩ (.int .i64 d.pl)).setCell ⟨z, 17, none⟩ (.bool bl')).setCell ⟨z, 18, none⟩ (.slice x3' d.nt y3')).setCell ⟨z, 19, none⟩ (.slice x4' d.nd y4') = W3 at *
    have LA : Below W3.heap.size W3 (W3.alloc (.cells #[.int .i64 x] 3)) := (Below.refl _ _).alloc (Nat.le_refl _) _
    have hE := boxC (box_new W3 #[.int .i64 x] 3) 0
    have c0' := boxC (box_keep B0 LA (boxLt B0))
    have c0s := boxC B0
    have HQA := hide ((HQ.below LA).upTo LA.size (Nat.le_refl _))
    have LXA := hide (L0.trans (LA.mono (Nat.le_trans hlw L0.size)))
    have B0A := hide (box_keep B0 LA (boxLt B0))
    clear HQ L0 LA B0
    go_wp2_with (at_builtin; refine wpList_pushA _ rfl _ _ rfl lo o7 (.slice x7 d.nq y7) d.nq d.rd rfl HQA.out.h7 hnq (Nat.le_trans hlw LXA.out.size) W3.heap.size x rfl hE ?_)
    intro g9 c9 W9 R9 hW hat9
    clear c0' c0s hE
    replace hat9 : o7 = some g9 ∨ (W3.alloc (.cells #[.int .i64 x] 3)).heap.size ≤ g9 := by simpa using hat9
    have hs9 : (W3.alloc (.cells #[.int .i64 x] 3)).heap.size = W3.heap.size + 1 := by simp
    have HQN := HQA.out.push (Nat.le_trans hlw LXA.out.size) hW R9 hat9
    have B0 := box_wrote B0A.out hW (fun o e => hz 6 z (HQA.out.h7D z e) rfl)
    have LW : Below lo _ W9 := LXA.out.trans (hW.below (Nat.le_trans hlw LXA.out.size) (fun b o hb e => by have := HQA.out.bd 6 b (HQA.out.h7D b e); omega))
    have hg9 : g9 ≠ z := fun e => by
      subst e
      rcases hat9 with e | h
      · exact hz 6 g9 (HQA.out.h7D g9 e) rfl
      · omega
    have TT := Wrote.setCell (b := z) (o := 33) (R := fun b _ => b = z) (Wrote.refl _ W9) (fun _ => rfl) (.slice (some ⟨g9, 0, none⟩) (d.nq + 1) c9)
    have hz9 : ∀ i b, (i = 6 ∧ b = g9) ∨ (i ≠ 6 ∧ DD i b) → b ≠ z := fun i b h e => by
      rcases h with ⟨-, rfl⟩ | ⟨-, h⟩
      · exact hg9 e
      · exact hz i b h e
    have HF := hide ((HQN.keepD TT (fun i b o h (e : b = _) => hz9 i b h e)).upTo TT.size (Nat.le_refl _))
    have LF := hide (LW.trans (TT.below (Nat.le_trans hlw LW.size) (fun b o hb (e : b = _) => by omega)))
    have BF := box_set (o := 33) B0 (.slice (some ⟨g9, 0, none⟩) (d.nq + 1) c9)
    simp only [List.setIfInBounds_toArray, List.set_cons_succ, List.set_cons_zero] at BF
    have BFF := hide BF
    have c0' := boxC B0
    have f0' := boxF B0
    clear HQA LXA B0A hW R9 hat9 hs9 HQN TT LW BF B0
    go_wp2
    go_ret
    exact ⟨rfl, ⟨_, _, _, _, _, _, _, _, _, _, _, _, _, _, HF.out, hz9, BFF.out⟩, LF.out⟩
  by_cases r3 : rg = 3
  · have HV : Hid (readV d a = rvA true d.L d.R at' ∧ readD d a = { d with R := rqA true d.R at', nq := d.nq + 1, rd := snoc d.rd d.nq (rvA true d.L d.R at') }) := by
      have e : rgN (a % 65536) = 3 := by rw [← hrg.out]; exact r3
      show _ ∧ _
      unfold readD readV
      simp only [e, if_true, show ¬ ((3 : Int) = 2) by decide, if_false]
      rw [← hat.out]
      exact ⟨rfl, rfl⟩
    rw [HV.out.1, HV.out.2]
    subst r3
    clear HV hrg r2
    obtain ⟨x, hx⟩ : ∃ x, Hid (x = rvA true d.L d.R at') := ⟨_, rfl⟩
    obtain ⟨r', hr⟩ : ∃ x, Hid (x = rqA true d.R at') := ⟨_, rfl⟩
    have HP := hide (fun W => implApuRead W d.T d.P d.K d.B d.L d.Q d.R at')
    rw [← hx.out, ← hr.out] at HP
    rw [← hx.out, ← hr.out]
    clear hx hr hat
    obtain ⟨DD, hDD⟩ : ∃ DD, DD = D := ⟨_, rfl⟩
    subst hDD
    go_enter Tryz.func32, Tryz.ntmps32
    go_wp2_with fail
    refine (HG.out _).mono ?_
    rintro e W1 ⟨rfl, rfl⟩
    have c0' := boxC B0
    go_wp2_with fail
    clear c0'
    refine (HP.out _).mono ?_
    rintro e W2 ⟨rfl, L⟩
    clear HP
    replace HQ := (HQ.below L).upTo L.size (Nat.le_refl _)
    replace L0 := L0.trans (L.mono (Nat.le_trans hlw L0.size))
    replace B0 := box_keep B0 L (boxLt B0)
    replace HQ : LockA W2 lo W2.heap.size DD (.slice x0 d.m y0) (.slice x1 d.np y1) (.slice x2 d.nr y2) (.slice x3 d.nt y3) (.slice x4 d.nd y4) (.slice x5 d.mf y5) (.slice x6 d.ns y6) (.slice x7 d.nq y7) ob iv ov o6 o7 { d with R := r' } := ⟨HQ.h0, HQ.h1, HQ.h2, HQ.h3, HQ.h5, HQ.h5D, HQ.h6, HQ.h6D, HQ.h7, HQ.h7D, HQ.dis, HQ.bd, HQ.nN, HQ.hps⟩
    clear L
    have c0' := boxC B0
    have f0' := boxF B0
    go_upto_region 11 with (fail)
    clear c0' f0'
    have TT := Wrote.setCell (b := z) (o := 26) (R := fun b _ => b = z) (Wrote.setCell (b := z) (o := 25) (R := fun b _ => b = z) (Wrote.setCell (b := z) (o := 24) (R := fun b _ => b = z) (Wrote.setCell (b := z) (o := 23) (R := fun b _ => b = z) (Wrote.setCell (b := z) (o := 22) (R := fun b _ => b = z) (Wrote.setCell (b := z) (o := 21) (R := fun b _ => b = z) (Wrote.setCell (b := z) (o := 20) (R := fun b _ => b = z) (Wrote.refl _ W2) (fun _ => rfl) (.int .i64 d.T)) (fun _ => rfl) (.int .i64 d.P)) (fun _ => rfl) (.int .i64 d.K)) (fun _ => rfl) (.int .i64 d.B)) (fun _ => rfl) (.int .i64 d.L)) (fun _ => rfl) (.bool d.Q)) (fun _ => rfl) (.bool r')
    replace B0 := box_set (o := 20) B0 (.int .i64 d.T)
    replace B0 := box_set (o := 21) B0 (.int .i64 d.P)
    replace B0 := box_set (o := 22) B0 (.int .i64 d.K)
    replace B0 := box_set (o := 23) B0 (.int .i64 d.B)
    replace B0 := box_set (o := 24) B0 (.int .i64 d.L)
    replace B0 := box_set (o := 25) B0 (.bool d.Q)
    replace B0 := box_set (o := 26) B0 (.bool r')
    simp only [List.setIfInBounds_toArray, List.set_cons_succ, List.set_cons_zero] at B0
    replace HQ := HQ.keepD TT (fun i b o h (e : b = _) => hz i b h e)
    replace HQ := HQ.upTo TT.size (Nat.le_refl _)
    replace L0 := L0.trans (TT.below (Nat.le_trans hlw L0.size) (fun b o hb (h : b = _) => by omega))
    replace hzl := boxLt B0
    clear TT
    generalize ((((((W2.setCell ⟨z, 20, none⟩ (.int .i64 d.T)).setCell ⟨z, 21, none⟩ (.int .i64 d.P)).setCell ⟨z, 22, none⟩ (.int .i64 d.K)).setCell ⟨z, 23, none⟩ (.int .i64 d.B)).setCell ⟨z, 24, none⟩ (.int .i64 d.L)).setCell ⟨z, 25, none⟩ (.bool d.Q)).setCell ⟨z, 26, none⟩ (.bool r') = W3 at *
    have LA : Below W3.heap.size W3 (W3.alloc (.cells #[.int .i64 x] 3)) := (Below.refl _ _).alloc (Nat.le_refl _) _
    have hE := boxC (box_new W3 #[.int .i64 x] 3) 0
    have c0' := boxC (box_keep B0 LA (boxLt B0))
    have c0s := boxC B0
    have HQA := hide ((HQ.below LA).upTo LA.size (Nat.le_refl _))
    have LXA := hide (L0.trans (LA.mono (Nat.le_trans hlw L0.size)))
    have B0A := hide (box_keep B0 LA (boxLt B0))
    clear HQ L0 LA B0
    go_wp2_with (at_builtin; refine wpList_pushA _ rfl _ _ rfl lo o7 (.slice x7 d.nq y7) d.nq d.rd rfl HQA.out.h7 hnq (Nat.le_trans hlw LXA.out.size) W3.heap.size x rfl hE ?_)
    intro g9 c9 W9 R9 hW hat9
    clear c0' c0s hE
    replace hat9 : o7 = some g9 ∨ (W3.alloc (.cells #[.int .i64 x] 3)).heap.size ≤ g9 := by simpa using hat9
    have hs9 : (W3.alloc (.cells #[.int .i64 x] 3)).heap.size = W3.heap.size + 1 := by simp
    have HQN := HQA.out.push (Nat.le_trans hlw LXA.out.size) hW R9 hat9
    have B0 := box_wrote B0A.out hW (fun o e => hz 6 z (HQA.out.h7D z e) rfl)
    have LW : Below lo _ W9 := LXA.out.trans (hW.below (Nat.le_trans hlw LXA.out.size) (fun b o hb e => by have := HQA.out.bd 6 b (HQA.out.h7D b e); omega))
    have hg9 : g9 ≠ z := fun e => by
      subst e
      rcases hat9 with e | h
      · exact hz 6 g9 (HQA.out.h7D g9 e) rfl
      · omega
    have TT := Wrote.setCell (b := z) (o := 33) (R := fun b _ => b = z) (Wrote.refl _ W9) (fun _ => rfl) (.slice (some ⟨g9, 0, none⟩) (d.nq + 1) c9)
    have hz9 : ∀ i b, (i = 6 ∧ b = g9) ∨ (i ≠ 6 ∧ DD i b) → b ≠ z := fun i b h e => by
      rcases h with ⟨-, rfl⟩ | ⟨-, h⟩
      · exact hg9 e
      · exact hz i b h e
    have HF := hide ((HQN.keepD TT (fun i b o h (e : b = _) => hz9 i b h e)).upTo TT.size (Nat.le_refl _))
    have LF := hide (LW.trans (TT.below (Nat.le_trans hlw LW.size) (fun b o hb (e : b = _) => by omega)))
    have BF := box_set (o := 33) B0 (.slice (some ⟨g9, 0, none⟩) (d.nq + 1) c9)
    simp only [List.setIfInBounds_toArray, List.set_cons_succ, List.set_cons_zero] at BF
    have BFF := hide BF
    have c0' := boxC B0
    have f0' := boxF B0
    clear HQA LXA B0A hW R9 hat9 hs9 HQN TT LW BF B0
    go_wp2
    go_ret
    exact ⟨rfl, ⟨_, _, _, _, _, _, _, _, _, _, _, _, _, _, HF.out, hz9, BFF.out⟩, LF.out⟩
  by_cases r4 : rg = 4
  · have HV : Hid (readV d a = bitR d.hd d.sh d.np d.p d.t ∧ readD d a = { d with sh := shiftR d.hd d.sh d.np d.p d.t, nq := d.nq + 1, rd := snoc d.rd d.nq (bitR d.hd d.sh d.np d.p d.t) }) := by
      have e : rgN (a % 65536) = 4 := by rw [← hrg.out]; exact r4
      show _ ∧ _
      unfold readD readV
      simp only [e, if_true, show ¬ ((4 : Int) = 2) by decide, if_false, show ¬ ((4 : Int) = 3) by decide]
      first | exact ⟨rfl, rfl⟩ | exact ⟨trivial, rfl⟩ | exact ⟨trivial, trivial⟩ | trivial
    rw [HV.out.1, HV.out.2]
    subst r4
    clear HV hrg r2 r3 hat
    obtain ⟨x, hx⟩ : ∃ x, Hid (x = bitR d.hd d.sh d.np d.p d.t) := ⟨_, rfl⟩
    obtain ⟨s', hs'⟩ : ∃ x, Hid (x = shiftR d.hd d.sh d.np d.p d.t) := ⟨_, rfl⟩
    have HP := hide (fun W F u k => implPadRead W F d.hd d.sh u d.np d.p d.t (by have := (okPpu_range oku).2; omega) k)
    rw [← hx.out, ← hs'.out] at HP
    rw [← hx.out, ← hs'.out]
    clear hx hs'
    obtain ⟨DD, hDD⟩ : ∃ DD, DD = D := ⟨_, rfl⟩
    subst hDD
    have I1 : Ints .i64 w (On (DD 1)) (.slice x1 d.np y1) d.np d.p := by obtain ⟨aa, cc, e, hs⟩ := HQ.h1; rw [e]; exact hs.ints cc
    go_enter Tryz.func32, Tryz.ntmps32
    go_wp2_with fail
    refine (HG.out _).mono ?_
    rintro e W1 ⟨rfl, rfl⟩
    go_upto_region 10 with (fail)
    rename_i K2 hK2
    refine wp_region_eff [some 55, some 56, some 57, some 58, some 59, some 60, some 61, some 62, some 63, some 64, some 65, some 66, some 67, some 68, some 69, some 54, some 70, some 71, some 72, some 73, none, some 5] (by kernel_rfl) (by kernel_rfl) (by kernel_rfl) (by kernel_rfl) (by first | (simp [slotsOf]; done) | (simp [slotsOf, Act.put]; done))
        (fun j b _ => (j = 20 ∧ b = z))
        (fun i v W => match i with
          | 0 => v = .pointer (some ⟨z, 0, none⟩)
          | 1 => v = .pointer (some ⟨z, 0, none⟩)
          | 2 => v = .pointer (some ⟨z, 0, none⟩)
          | 3 => v = .pointer (some ⟨z, 27, none⟩)
          | 4 => v = .agg #[.bool d.hd, .int .i64 d.sh]
          | 5 => v = .pointer (some ⟨z, 0, none⟩)
          | 6 => v = .pointer (some ⟨z, 0, none⟩)
          | 7 => v = .pointer (some ⟨z, 1, none⟩)
          | 8 => v = .slice x1 d.np y1
          | 9 => v = .pointer (some ⟨z, 0, none⟩)
          | 10 => v = .pointer (some ⟨z, 0, none⟩)
          | 11 => v = .pointer (some ⟨z, 12, none⟩)
          | 12 => v = .pointer (some ⟨z, 12, none⟩)
          | 13 => v = .int .i64 d.t
          | 14 => v = .tuple #[.agg #[.bool d.hd, .int .i64 s'], .int .i64 x]
          | 15 => v = .tuple #[.agg #[.bool d.hd, .int .i64 s'], .int .i64 x]
          | 16 => v = .agg #[.bool d.hd, .int .i64 s']
          | 17 => v = .int .i64 x
          | 18 => v = .pointer (some ⟨z, 0, none⟩)
          | 19 => v = .pointer (some ⟨z, 27, none⟩)
          | 20 => W.heap[z]? = some (.cells #[.slice x0 d.m y0, .slice x1 d.np y1, .slice x2 d.nr y2, .int .i64 d.bank, .int .i64 d.A, .int .i64 d.X, .int .i64 d.S, .int .i64 d.Pc, .bool d.Z, .bool d.N, .bool d.C, .bool d.I, .int .i64 d.t, .int .i64 d.c, .int .i64 d.s, .int .i64 d.ad, .int .i64 d.pl, .bool d.bl, .slice x3 d.nt y3, .slice x4 d.nd y4, .int .i64 d.T, .int .i64 d.P, .int .i64 d.K, .int .i64 d.B, .int .i64 d.L, .bool d.Q, .bool d.R, .bool d.hd, .int .i64 s', .bool d.nmi, .int .i64 d.st, .slice x5 d.mf y5, .slice x6 d.ns y6, .slice x7 d.nq y7] 49 (0, 0))
          | _ => v = .int .i64 x) ?_ ?_ ?_
    · intro i j o v W W' hij ho _ hW h
      match i, hij, ho, h with
      | 0, hij, _, h => exact h
      | 1, hij, _, h => exact h
      | 2, hij, _, h => exact h
      | 3, hij, _, h => exact h
      | 4, hij, _, h => exact h
      | 5, hij, _, h => exact h
      | 6, hij, _, h => exact h
      | 7, hij, _, h => exact h
      | 8, hij, _, h => exact h
      | 9, hij, _, h => exact h
      | 10, hij, _, h => exact h
      | 11, hij, _, h => exact h
      | 12, hij, _, h => exact h
      | 13, hij, _, h => exact h
      | 14, hij, _, h => exact h
      | 15, hij, _, h => exact h
      | 16, hij, _, h => exact h
      | 17, hij, _, h => exact h
      | 18, hij, _, h => exact h
      | 19, hij, _, h => exact h
      | 20, hij, _, h => exact box_wrote h hW (fun o e => by omega)
      | 21, hij, _, h => exact h
      | _ + 22, _, ho, _ => simp at ho
    · intro i o a' W K ho F L hw hK
      match i with
      | 0 =>
          simp only [List.getElem?_toArray, List.getElem?_cons_zero, List.getElem?_cons_succ, Option.some.injEq] at ho
          subst ho
          have t0 := F.get (t := 0) (v := .pointer (some ⟨z, 0, none⟩)) (by decide) rfl
          go_simp
          exact hK _ _ (Wrote.refl _ _) rfl
      | 1 =>
          simp only [List.getElem?_toArray, List.getElem?_cons_zero, List.getElem?_cons_succ, Option.some.injEq] at ho
          subst ho
          have t0 := F.get (t := 0) (v := .pointer (some ⟨z, 0, none⟩)) (by decide) rfl
          go_simp
          exact hK _ _ (Wrote.refl _ _) rfl
      | 2 =>
          simp only [List.getElem?_toArray, List.getElem?_cons_zero, List.getElem?_cons_succ, Option.some.injEq] at ho
          subst ho
          have q1 : a'.tmps[56]?.getD undef = .pointer (some ⟨z, 0, none⟩) := hw 1 (by kernel_rfl)
          go_simp
          exact hK _ _ (Wrote.refl _ _) rfl
      | 3 =>
          simp only [List.getElem?_toArray, List.getElem?_cons_zero, List.getElem?_cons_succ, Option.some.injEq] at ho
          subst ho
          have q2 : a'.tmps[57]?.getD undef = .pointer (some ⟨z, 0, none⟩) := hw 2 (by kernel_rfl)
          go_simp
          exact hK _ _ (Wrote.refl _ _) rfl
      | 4 =>
          simp only [List.getElem?_toArray, List.getElem?_cons_zero, List.getElem?_cons_succ, Option.some.injEq] at ho
          subst ho
          have q3 : a'.tmps[58]?.getD undef = .pointer (some ⟨z, 27, none⟩) := hw 3 (by kernel_rfl)
          have rB := box_wrote B0 L (fun o ⟨j, oj, hj, hoj, hwj, e⟩ => by rcases e with ⟨rfl, e⟩ <;> first | omega | (simp only [List.getElem?_toArray, List.getElem?_cons_zero, List.getElem?_cons_succ, Option.some.injEq] at hoj; subst hoj; cases hwj.symm.trans (show waitsB _ 4 = true by kernel_rfl)))
          have rb := boxC rB
          go_simp
          exact hK _ _ (Wrote.refl _ _) rfl
      | 5 =>
          simp only [List.getElem?_toArray, List.getElem?_cons_zero, List.getElem?_cons_succ, Option.some.injEq] at ho
          subst ho
          have t0 := F.get (t := 0) (v := .pointer (some ⟨z, 0, none⟩)) (by decide) rfl
          go_simp
          exact hK _ _ (Wrote.refl _ _) rfl
      | 6 =>
          simp only [List.getElem?_toArray, List.getElem?_cons_zero, List.getElem?_cons_succ, Option.some.injEq] at ho
          subst ho
          have q5 : a'.tmps[60]?.getD undef = .pointer (some ⟨z, 0, none⟩) := hw 5 (by kernel_rfl)
          go_simp
          exact hK _ _ (Wrote.refl _ _) rfl
      | 7 =>
          simp only [List.getElem?_toArray, List.getElem?_cons_zero, List.getElem?_cons_succ, Option.some.injEq] at ho
          subst ho
          have q6 : a'.tmps[61]?.getD undef = .pointer (some ⟨z, 0, none⟩) := hw 6 (by kernel_rfl)
          go_simp
          exact hK _ _ (Wrote.refl _ _) rfl
      | 8 =>
          simp only [List.getElem?_toArray, List.getElem?_cons_zero, List.getElem?_cons_succ, Option.some.injEq] at ho
          subst ho
          have q7 : a'.tmps[62]?.getD undef = .pointer (some ⟨z, 1, none⟩) := hw 7 (by kernel_rfl)
          have rB := box_wrote B0 L (fun o ⟨j, oj, hj, hoj, hwj, e⟩ => by rcases e with ⟨rfl, e⟩ <;> first | omega | (simp only [List.getElem?_toArray, List.getElem?_cons_zero, List.getElem?_cons_succ, Option.some.injEq] at hoj; subst hoj; cases hwj.symm.trans (show waitsB _ 8 = true by kernel_rfl)))
          have rb := boxC rB
          go_simp
          exact hK _ _ (Wrote.refl _ _) rfl
      | 9 =>
          simp only [List.getElem?_toArray, List.getElem?_cons_zero, List.getElem?_cons_succ, Option.some.injEq] at ho
          subst ho
          have t0 := F.get (t := 0) (v := .pointer (some ⟨z, 0, none⟩)) (by decide) rfl
          go_simp
          exact hK _ _ (Wrote.refl _ _) rfl
      | 10 =>
          simp only [List.getElem?_toArray, List.getElem?_cons_zero, List.getElem?_cons_succ, Option.some.injEq] at ho
          subst ho
          have q9 : a'.tmps[64]?.getD undef = .pointer (some ⟨z, 0, none⟩) := hw 9 (by kernel_rfl)
          go_simp
          exact hK _ _ (Wrote.refl _ _) rfl
      | 11 =>
          simp only [List.getElem?_toArray, List.getElem?_cons_zero, List.getElem?_cons_succ, Option.some.injEq] at ho
          subst ho
          have q10 : a'.tmps[65]?.getD undef = .pointer (some ⟨z, 0, none⟩) := hw 10 (by kernel_rfl)
          go_simp
          exact hK _ _ (Wrote.refl _ _) rfl
      | 12 =>
          simp only [List.getElem?_toArray, List.getElem?_cons_zero, List.getElem?_cons_succ, Option.some.injEq] at ho
          subst ho
          have q11 : a'.tmps[66]?.getD undef = .pointer (some ⟨z, 12, none⟩) := hw 11 (by kernel_rfl)
          go_simp
          exact hK _ _ (Wrote.refl _ _) rfl
      | 13 =>
          simp only [List.getElem?_toArray, List.getElem?_cons_zero, List.getElem?_cons_succ, Option.some.injEq] at ho
          subst ho
          have q12 : a'.tmps[67]?.getD undef = .pointer (some ⟨z, 12, none⟩) := hw 12 (by kernel_rfl)
          have rB := box_wrote B0 L (fun o ⟨j, oj, hj, hoj, hwj, e⟩ => by rcases e with ⟨rfl, e⟩ <;> first | omega | (simp only [List.getElem?_toArray, List.getElem?_cons_zero, List.getElem?_cons_succ, Option.some.injEq] at hoj; subst hoj; cases hwj.symm.trans (show waitsB _ 13 = true by kernel_rfl)))
          have rb := boxC rB
          go_simp
          exact hK _ _ (Wrote.refl _ _) rfl
      | 14 =>
          simp only [List.getElem?_toArray, List.getElem?_cons_zero, List.getElem?_cons_succ, Option.some.injEq] at ho
          subst ho
          have q4 : a'.tmps[59]?.getD undef = .agg #[.bool d.hd, .int .i64 d.sh] := hw 4 (by kernel_rfl)
          have q8 : a'.tmps[63]?.getD undef = .slice x1 d.np y1 := hw 8 (by kernel_rfl)
          have q13 : a'.tmps[68]?.getD undef = .int .i64 d.t := hw 13 (by kernel_rfl)
          go_simp
          refine (HP.out W _ _ (I1.keep L (fun b o hb ⟨j, _, _, _, _, e⟩ => hz 1 b hb (by omega)))).mono ?_
          rintro e W' ⟨rfl, LX⟩
          exact hK _ _ (wrote_below LX _) rfl
      | 15 =>
          simp only [List.getElem?_toArray, List.getElem?_cons_zero, List.getElem?_cons_succ, Option.some.injEq] at ho
          subst ho
          have q14 : a'.tmps[69]?.getD undef = .tuple #[.agg #[.bool d.hd, .int .i64 s'], .int .i64 x] := hw 14 (by kernel_rfl)
          go_simp
          exact hK _ _ (Wrote.refl _ _) rfl
      | 16 =>
          simp only [List.getElem?_toArray, List.getElem?_cons_zero, List.getElem?_cons_succ, Option.some.injEq] at ho
          subst ho
          have q15 : a'.tmps[54]?.getD undef = .tuple #[.agg #[.bool d.hd, .int .i64 s'], .int .i64 x] := hw 15 (by kernel_rfl)
          go_simp
          exact hK _ _ (Wrote.refl _ _) rfl
      | 17 =>
          simp only [List.getElem?_toArray, List.getElem?_cons_zero, List.getElem?_cons_succ, Option.some.injEq] at ho
          subst ho
          have q15 : a'.tmps[54]?.getD undef = .tuple #[.agg #[.bool d.hd, .int .i64 s'], .int .i64 x] := hw 15 (by kernel_rfl)
          go_simp
          exact hK _ _ (Wrote.refl _ _) rfl
      | 18 =>
          simp only [List.getElem?_toArray, List.getElem?_cons_zero, List.getElem?_cons_succ, Option.some.injEq] at ho
          subst ho
          have q0 : a'.tmps[55]?.getD undef = .pointer (some ⟨z, 0, none⟩) := hw 0 (by kernel_rfl)
          go_simp
          exact hK _ _ (Wrote.refl _ _) rfl
      | 19 =>
          simp only [List.getElem?_toArray, List.getElem?_cons_zero, List.getElem?_cons_succ, Option.some.injEq] at ho
          subst ho
          have q18 : a'.tmps[72]?.getD undef = .pointer (some ⟨z, 0, none⟩) := hw 18 (by kernel_rfl)
          go_simp
          exact hK _ _ (Wrote.refl _ _) rfl
      | 20 =>
          simp only [List.getElem?_toArray, List.getElem?_cons_zero, List.getElem?_cons_succ, Option.some.injEq] at ho
          subst ho
          have q16 : a'.tmps[70]?.getD undef = .agg #[.bool d.hd, .int .i64 s'] := hw 16 (by kernel_rfl)
          have q19 : a'.tmps[73]?.getD undef = .pointer (some ⟨z, 27, none⟩) := hw 19 (by kernel_rfl)
          have rB := box_wrote B0 L (fun o ⟨j, oj, hj, hoj, hwj, e⟩ => by omega)
          have rb := boxC rB
          have rf := boxF rB
          have HB := box_set (o := 28) (box_set (o := 27) (rB) (.bool d.hd)) (.int .i64 s')
          simp only [List.setIfInBounds_toArray, List.set_cons_succ, List.set_cons_zero] at HB
          have HBB := hide HB
          clear HB rB
          go_simp
          exact hK undef _ (Wrote.setCell (Wrote.setCell (Wrote.refl _ W) (fun _ => ⟨rfl, rfl⟩) _) (fun _ => ⟨rfl, rfl⟩) _) HBB.out
      | 21 =>
          simp only [List.getElem?_toArray, List.getElem?_cons_zero, List.getElem?_cons_succ, Option.some.injEq] at ho
          subst ho
          have q17 : a'.tmps[71]?.getD undef = .int .i64 x := hw 17 (by kernel_rfl)
          go_simp
          exact hK _ _ (Wrote.refl _ _) rfl
      | _ + 22 => simp at ho
    · intro a' W F L hφ
      have RB0 : W.heap[z]? = some (.cells #[.slice x0 d.m y0, .slice x1 d.np y1, .slice x2 d.nr y2, .int .i64 d.bank, .int .i64 d.A, .int .i64 d.X, .int .i64 d.S, .int .i64 d.Pc, .bool d.Z, .bool d.N, .bool d.C, .bool d.I, .int .i64 d.t, .int .i64 d.c, .int .i64 d.s, .int .i64 d.ad, .int .i64 d.pl, .bool d.bl, .slice x3 d.nt y3, .slice x4 d.nd y4, .int .i64 d.T, .int .i64 d.P, .int .i64 d.K, .int .i64 d.B, .int .i64 d.L, .bool d.Q, .bool d.R, .bool d.hd, .int .i64 s', .bool d.nmi, .int .i64 d.st, .slice x5 d.mf y5, .slice x6 d.ns y6, .slice x7 d.nq y7] 49 (0, 0)) := hφ 20 (by decide)
      have p55 : a'.tmps[55]?.getD undef = .pointer (some ⟨z, 0, none⟩) := hφ 0 (by decide)
      have p56 : a'.tmps[56]?.getD undef = .pointer (some ⟨z, 0, none⟩) := hφ 1 (by decide)
      have p57 : a'.tmps[57]?.getD undef = .pointer (some ⟨z, 0, none⟩) := hφ 2 (by decide)
      have p58 : a'.tmps[58]?.getD undef = .pointer (some ⟨z, 27, none⟩) := hφ 3 (by decide)
      have p59 : a'.tmps[59]?.getD undef = .agg #[.bool d.hd, .int .i64 d.sh] := hφ 4 (by decide)
      have p60 : a'.tmps[60]?.getD undef = .pointer (some ⟨z, 0, none⟩) := hφ 5 (by decide)
      have p61 : a'.tmps[61]?.getD undef = .pointer (some ⟨z, 0, none⟩) := hφ 6 (by decide)
      have p62 : a'.tmps[62]?.getD undef = .pointer (some ⟨z, 1, none⟩) := hφ 7 (by decide)
      have p63 : a'.tmps[63]?.getD undef = .slice x1 d.np y1 := hφ 8 (by decide)
      have p64 : a'.tmps[64]?.getD undef = .pointer (some ⟨z, 0, none⟩) := hφ 9 (by decide)
      have p65 : a'.tmps[65]?.getD undef = .pointer (some ⟨z, 0, none⟩) := hφ 10 (by decide)
      have p66 : a'.tmps[66]?.getD undef = .pointer (some ⟨z, 12, none⟩) := hφ 11 (by decide)
      have p67 : a'.tmps[67]?.getD undef = .pointer (some ⟨z, 12, none⟩) := hφ 12 (by decide)
      have p68 : a'.tmps[68]?.getD undef = .int .i64 d.t := hφ 13 (by decide)
      have p69 : a'.tmps[69]?.getD undef = .tuple #[.agg #[.bool d.hd, .int .i64 s'], .int .i64 x] := hφ 14 (by decide)
      have p54 : a'.tmps[54]?.getD undef = .tuple #[.agg #[.bool d.hd, .int .i64 s'], .int .i64 x] := hφ 15 (by decide)
      have p70 : a'.tmps[70]?.getD undef = .agg #[.bool d.hd, .int .i64 s'] := hφ 16 (by decide)
      have p71 : a'.tmps[71]?.getD undef = .int .i64 x := hφ 17 (by decide)
      have p72 : a'.tmps[72]?.getD undef = .pointer (some ⟨z, 0, none⟩) := hφ 18 (by decide)
      have p73 : a'.tmps[73]?.getD undef = .pointer (some ⟨z, 27, none⟩) := hφ 19 (by decide)
      have p5 : a'.tmps[5]?.getD undef = .int .i64 x := hφ 21 (by decide)
      replace L0 := L0.trans (L.below (Nat.le_trans hlw L0.size) (fun b o hb ⟨j, e⟩ => by omega))
      replace B0 := RB0
      clear RB0
      replace HQ := (HQ.keepD L (fun i b o h ⟨j, e⟩ => hz i b h (by omega))).upTo L.size (Nat.le_refl _)
      rw [F.same, show slotsOf [some 55, some 56, some 57, some 58, some 59, some 60, some 61, some 62, some 63, some 64, some 65, some 66, some 67, some 68, some 69, some 54, some 70, some 71, some 72, some 73, none, some 5] = [55, 56, 57, 58, 59, 60, 61, 62, 63, 64, 65, 66, 67, 68, 69, 54, 70, 71, 72, 73, 5] from rfl]
      simp only [List.foldl_cons, List.foldl_nil]
      rw [p55, p56, p57, p58, p59, p60, p61, p62, p63, p64, p65, p66, p67, p68, p69, p54, p70, p71, p72, p73, p5]
      clear hφ L F p55 p56 p57 p58 p59 p60 p61 p62 p63 p64 p65 p66 p67 p68 p69 p54 p70 p71 p72 p73 p5
      replace HQ : LockA W lo W.heap.size DD (.slice x0 d.m y0) (.slice x1 d.np y1) (.slice x2 d.nr y2) (.slice x3 d.nt y3) (.slice x4 d.nd y4) (.slice x5 d.mf y5) (.slice x6 d.ns y6) (.slice x7 d.nq y7) ob iv ov o6 o7 { d with sh := s' } := ⟨HQ.h0, HQ.h1, HQ.h2, HQ.h3, HQ.h5, HQ.h5D, HQ.h6, HQ.h6D, HQ.h7, HQ.h7D, HQ.dis, HQ.bd, HQ.nN, HQ.hps⟩
      replace hzl := boxLt B0
      clear I1
      refine hK2 _ _ ?_
      clear hK2
      go_simp
      go_upto_region 11 with (fail)
      obtain ⟨W3, hW3⟩ : ∃ W3, W3 = W := ⟨_, rfl⟩
      subst hW3
      have LA : Below W3.heap.size W3 (W3.alloc (.cells #[.int .i64 x] 3)) := (Below.refl _ _).alloc (Nat.le_refl _) _
      have hE := boxC (box_new W3 #[.int .i64 x] 3) 0
      have c0' := boxC (box_keep B0 LA (boxLt B0))
      have c0s := boxC B0
      have HQA := hide ((HQ.below LA).upTo LA.size (Nat.le_refl _))
      have LXA := hide (L0.trans (LA.mono (Nat.le_trans hlw L0.size)))
      have B0A := hide (box_keep B0 LA (boxLt B0))
      clear HQ L0 LA B0
      go_wp2_with (at_builtin; refine wpList_pushA _ rfl _ _ rfl lo o7 (.slice x7 d.nq y7) d.nq d.rd rfl HQA.out.h7 hnq (Nat.le_trans hlw LXA.out.size) W3.heap.size x rfl hE ?_)
      intro g9 c9 W9 R9 hW hat9
      clear c0' c0s hE
      replace hat9 : o7 = some g9 ∨ (W3.alloc (.cells #[.int .i64 x] 3)).heap.size ≤ g9 := by simpa using hat9
      have hs9 : (W3.alloc (.cells #[.int .i64 x] 3)).heap.size = W3.heap.size + 1 := by simp
      have HQN := HQA.out.push (Nat.le_trans hlw LXA.out.size) hW R9 hat9
      have B0 := box_wrote B0A.out hW (fun o e => hz 6 z (HQA.out.h7D z e) rfl)
      have LW : Below lo _ W9 := LXA.out.trans (hW.below (Nat.le_trans hlw LXA.out.size) (fun b o hb e => by have := HQA.out.bd 6 b (HQA.out.h7D b e); omega))
      have hg9 : g9 ≠ z := fun e => by
        subst e
        rcases hat9 with e | h
        · exact hz 6 g9 (HQA.out.h7D g9 e) rfl
        · omega
      have TT := Wrote.setCell (b := z) (o := 33) (R := fun b _ => b = z) (Wrote.refl _ W9) (fun _ => rfl) (.slice (some ⟨g9, 0, none⟩) (d.nq + 1) c9)
      have hz9 : ∀ i b, (i = 6 ∧ b = g9) ∨ (i ≠ 6 ∧ DD i b) → b ≠ z := fun i b h e => by
        rcases h with ⟨-, rfl⟩ | ⟨-, h⟩
        · exact hg9 e
        · exact hz i b h e
      have HF := hide ((HQN.keepD TT (fun i b o h (e : b = _) => hz9 i b h e)).upTo TT.size (Nat.le_refl _))
      have LF := hide (LW.trans (TT.below (Nat.le_trans hlw LW.size) (fun b o hb (e : b = _) => by omega)))
      have BF := box_set (o := 33) B0 (.slice (some ⟨g9, 0, none⟩) (d.nq + 1) c9)
      simp only [List.setIfInBounds_toArray, List.set_cons_succ, List.set_cons_zero] at BF
      have BFF := hide BF
      have c0' := boxC B0
      have f0' := boxF B0
      clear HQA LXA B0A hW R9 hat9 hs9 HQN TT LW BF B0
      go_wp2
      go_ret
      exact ⟨rfl, ⟨_, _, _, _, _, _, _, _, _, _, _, _, _, _, HF.out, hz9, BFF.out⟩, LF.out⟩
  have HV : Hid (readV d a = peekOf d.m d.f d.g d.bank (a % 65536) ∧ readD d a = d) := by
    have e2 : ¬ rgN (a % 65536) = 2 := by rw [← hrg.out]; exact r2
    have e3 : ¬ rgN (a % 65536) = 3 := by rw [← hrg.out]; exact r3
    have e4 : ¬ rgN (a % 65536) = 4 := by rw [← hrg.out]; exact r4
    show _ ∧ _
    unfold readD readV
    rw [if_neg e2, if_neg e3, if_neg e4, if_neg e2, if_neg e3, if_neg e4]
    exact ⟨rfl, rfl⟩
  rw [HV.out.1, HV.out.2]
  clear HV hrg hat
  have q2 : (rg == 2) = false := beq_eq_false_iff_ne.2 r2
  have q3 : (rg == 3) = false := beq_eq_false_iff_ne.2 r3
  have q4 : (rg == 4) = false := beq_eq_false_iff_ne.2 r4
  clear r2 r3 r4
  obtain ⟨x, hx⟩ : ∃ x, Hid (x = peekOf d.m d.f d.g d.bank (a % 65536)) := ⟨_, rfl⟩
  have HP := hide (fun W F G v u h k => implPeek W F G v u d.m d.ln d.f d.nr d.g d.bank a h k)
  unfold peekV at HP
  rw [okm, if_pos rfl, ← hx.out] at HP
  rw [← hx.out]
  clear hx
  obtain ⟨q5, hq5, I2⟩ := HQ.h2.ints
  simp only [Value.agg.injEq, Array.mk.injEq, List.cons.injEq, and_true] at hq5
  subst hq5
  have I0 := HQ.h0.ints
  go_enter Tryz.func32, Tryz.ntmps32
  go_wp2_with fail
  refine (HG.out _).mono ?_
  rintro e W1 ⟨rfl, rfl⟩
  go_upto_region 4 with (fail)
  rename_i K2 hK2
  refine wp_region_eff [some 14, some 15, some 16, some 17, some 18, some 19, some 20, some 21, some 22, some 23, some 4] (by kernel_rfl) (by kernel_rfl) (by kernel_rfl) (by kernel_rfl) (by first | (simp [slotsOf]; done) | (simp [slotsOf, Act.put]; done))
      (fun j b _ => False)
      (fun i v W => match i with
        | 0 => v = .pointer (some ⟨z, 0, none⟩)
        | 1 => v = .pointer (some ⟨z, 0, none⟩)
        | 2 => v = .pointer (some ⟨z, 0, none⟩)
        | 3 => v = .agg #[.slice x0 d.m y0]
        | 4 => v = .pointer (some ⟨z, 0, none⟩)
        | 5 => v = .pointer (some ⟨z, 0, none⟩)
        | 6 => v = .pointer (some ⟨z, 2, none⟩)
        | 7 => v = .agg #[.slice x2 d.nr y2, .int .i64 d.bank]
        | 8 => v = .int .i64 a
        | 9 => v = .int .i64 x
        | _ => v = .int .i64 x) ?_ ?_ ?_
  · intro i j o v W W' hij ho _ hW h
    match i, hij, ho, h with
    | 0, hij, _, h => exact h
    | 1, hij, _, h => exact h
    | 2, hij, _, h => exact h
    | 3, hij, _, h => exact h
    | 4, hij, _, h => exact h
    | 5, hij, _, h => exact h
    | 6, hij, _, h => exact h
    | 7, hij, _, h => exact h
    | 8, hij, _, h => exact h
    | 9, hij, _, h => exact h
    | 10, hij, _, h => exact h
    | _ + 11, _, ho, _ => simp at ho
  · intro i o a' W K ho F L hw hK
    match i with
    | 0 =>
        simp only [List.getElem?_toArray, List.getElem?_cons_zero, List.getElem?_cons_succ, Option.some.injEq] at ho
        subst ho
        have t0 := F.get (t := 0) (v := .pointer (some ⟨z, 0, none⟩)) (by decide) rfl
        go_simp
        exact hK _ _ (Wrote.refl _ _) rfl
    | 1 =>
        simp only [List.getElem?_toArray, List.getElem?_cons_zero, List.getElem?_cons_succ, Option.some.injEq] at ho
        subst ho
        have q0 : a'.tmps[14]?.getD undef = .pointer (some ⟨z, 0, none⟩) := hw 0 (by kernel_rfl)
        go_simp
        exact hK _ _ (Wrote.refl _ _) rfl
    | 2 =>
        simp only [List.getElem?_toArray, List.getElem?_cons_zero, List.getElem?_cons_succ, Option.some.injEq] at ho
        subst ho
        have q1 : a'.tmps[15]?.getD undef = .pointer (some ⟨z, 0, none⟩) := hw 1 (by kernel_rfl)
        go_simp
        exact hK _ _ (Wrote.refl _ _) rfl
    | 3 =>
        simp only [List.getElem?_toArray, List.getElem?_cons_zero, List.getElem?_cons_succ, Option.some.injEq] at ho
        subst ho
        have q2 : a'.tmps[16]?.getD undef = .pointer (some ⟨z, 0, none⟩) := hw 2 (by kernel_rfl)
        have rB := box_wrote B0 L (fun o ⟨j, oj, hj, hoj, hwj, e⟩ => e)
        have rb := boxC rB
        go_simp
        exact hK _ _ (Wrote.refl _ _) rfl
    | 4 =>
        simp only [List.getElem?_toArray, List.getElem?_cons_zero, List.getElem?_cons_succ, Option.some.injEq] at ho
        subst ho
        have t0 := F.get (t := 0) (v := .pointer (some ⟨z, 0, none⟩)) (by decide) rfl
        go_simp
        exact hK _ _ (Wrote.refl _ _) rfl
    | 5 =>
        simp only [List.getElem?_toArray, List.getElem?_cons_zero, List.getElem?_cons_succ, Option.some.injEq] at ho
        subst ho
        have q4 : a'.tmps[18]?.getD undef = .pointer (some ⟨z, 0, none⟩) := hw 4 (by kernel_rfl)
        go_simp
        exact hK _ _ (Wrote.refl _ _) rfl
    | 6 =>
        simp only [List.getElem?_toArray, List.getElem?_cons_zero, List.getElem?_cons_succ, Option.some.injEq] at ho
        subst ho
        have q5 : a'.tmps[19]?.getD undef = .pointer (some ⟨z, 0, none⟩) := hw 5 (by kernel_rfl)
        go_simp
        exact hK _ _ (Wrote.refl _ _) rfl
    | 7 =>
        simp only [List.getElem?_toArray, List.getElem?_cons_zero, List.getElem?_cons_succ, Option.some.injEq] at ho
        subst ho
        have q6 : a'.tmps[20]?.getD undef = .pointer (some ⟨z, 2, none⟩) := hw 6 (by kernel_rfl)
        have rB := box_wrote B0 L (fun o ⟨j, oj, hj, hoj, hwj, e⟩ => e)
        have rb := boxC rB
        go_simp
        exact hK _ _ (Wrote.refl _ _) rfl
    | 8 =>
        simp only [List.getElem?_toArray, List.getElem?_cons_zero, List.getElem?_cons_succ, Option.some.injEq] at ho
        subst ho
        have t1 := F.get (t := 1) (v := .int .i64 a) (by decide) rfl
        go_simp
        exact hK _ _ (Wrote.refl _ _) rfl
    | 9 =>
        simp only [List.getElem?_toArray, List.getElem?_cons_zero, List.getElem?_cons_succ, Option.some.injEq] at ho
        subst ho
        have q3 : a'.tmps[17]?.getD undef = .agg #[.slice x0 d.m y0] := hw 3 (by kernel_rfl)
        have q7 : a'.tmps[21]?.getD undef = .agg #[.slice x2 d.nr y2, .int .i64 d.bank] := hw 7 (by kernel_rfl)
        have q8 : a'.tmps[22]?.getD undef = .int .i64 a := hw 8 (by kernel_rfl)
        go_simp
        refine (HP.out W _ _ _ _ (I0.keep L (fun b o hb ⟨j, _, _, _, _, e⟩ => e)) (I2.keep L (fun b o hb ⟨j, _, _, _, _, e⟩ => e))).mono ?_
        rintro e W' ⟨rfl, LX⟩
        exact hK _ _ (wrote_below LX _) rfl
    | 10 =>
        simp only [List.getElem?_toArray, List.getElem?_cons_zero, List.getElem?_cons_succ, Option.some.injEq] at ho
        subst ho
        have q9 : a'.tmps[23]?.getD undef = .int .i64 x := hw 9 (by kernel_rfl)
        go_simp
        exact hK _ _ (Wrote.refl _ _) rfl
    | _ + 11 => simp at ho
  · intro a' W F L hφ
    have p14 : a'.tmps[14]?.getD undef = .pointer (some ⟨z, 0, none⟩) := hφ 0 (by decide)
    have p15 : a'.tmps[15]?.getD undef = .pointer (some ⟨z, 0, none⟩) := hφ 1 (by decide)
    have p16 : a'.tmps[16]?.getD undef = .pointer (some ⟨z, 0, none⟩) := hφ 2 (by decide)
    have p17 : a'.tmps[17]?.getD undef = .agg #[.slice x0 d.m y0] := hφ 3 (by decide)
    have p18 : a'.tmps[18]?.getD undef = .pointer (some ⟨z, 0, none⟩) := hφ 4 (by decide)
    have p19 : a'.tmps[19]?.getD undef = .pointer (some ⟨z, 0, none⟩) := hφ 5 (by decide)
    have p20 : a'.tmps[20]?.getD undef = .pointer (some ⟨z, 2, none⟩) := hφ 6 (by decide)
    have p21 : a'.tmps[21]?.getD undef = .agg #[.slice x2 d.nr y2, .int .i64 d.bank] := hφ 7 (by decide)
    have p22 : a'.tmps[22]?.getD undef = .int .i64 a := hφ 8 (by decide)
    have p23 : a'.tmps[23]?.getD undef = .int .i64 x := hφ 9 (by decide)
    have p4 : a'.tmps[4]?.getD undef = .int .i64 x := hφ 10 (by decide)
    replace L0 := L0.trans (L.below (Nat.le_trans hlw L0.size) (fun b o hb ⟨j, e⟩ => e))
    replace B0 := box_wrote B0 L (fun o ⟨j, e⟩ => e)
    replace HQ := (HQ.keepD L (fun i b o h ⟨j, e⟩ => e)).upTo L.size (Nat.le_refl _)
    rw [F.same, show slotsOf [some 14, some 15, some 16, some 17, some 18, some 19, some 20, some 21, some 22, some 23, some 4] = [14, 15, 16, 17, 18, 19, 20, 21, 22, 23, 4] from rfl]
    simp only [List.foldl_cons, List.foldl_nil]
    rw [p14, p15, p16, p17, p18, p19, p20, p21, p22, p23, p4]
    clear hφ L F p14 p15 p16 p17 p18 p19 p20 p21 p22 p23 p4
    have HF := hide HQ
    have BF := hide B0
    have LF := hide L0
    clear HQ B0 L0 I0 I2
    refine hK2 _ _ ?_
    clear hK2
    go_simp
    go_wp2
    go_ret
    exact ⟨rfl, ⟨_, _, _, _, _, _, _, _, _, _, _, _, _, _, HF.out, hz, BF.out⟩, LF.out⟩
set_option maxRecDepth 40000 in
set_option maxHeartbeats 8000000 in
theorem lockWrite (w : World) (lo z : Nat) (d : LockD) (a y : Int) (H : LockBx w lo z d) (hlo : lo ≤ z) (hok : okLock d = true) : Calls Tryz.prog 52 #[.pointer (some ⟨z, 0, none⟩), .int .i64 a, .int .i64 y] w fun e w' => e = .returned (.tuple #[]) ∧ LockBx w' lo z (writeD d a y) ∧ Below lo w w' := by
  obtain ⟨okp, okm, oku, oka, oks⟩ := okLock_parts hok
  obtain ⟨D, u0, u1, u2, u3, u4, u5, u6, u7, ob, iv, ov, o6, o7, HQ, hz, B0⟩ := H
  obtain ⟨x0, y0, rfl⟩ := HQ.h0.form
  obtain ⟨x1, y1, rfl⟩ := HQ.h1.two
  obtain ⟨x2, y2, e2⟩ := HQ.h2.two
  simp only [Value.agg.injEq, Array.mk.injEq, List.cons.injEq, and_true] at e2
  subst e2
  obtain ⟨x3, y3, x4, y4, e3⟩ := HQ.h3.two
  simp only [Value.agg.injEq, Array.mk.injEq, List.cons.injEq, and_true, true_and] at e3
  obtain ⟨rfl, rfl⟩ := e3
  obtain ⟨x5, y5, rfl⟩ := HQ.h5.form
  obtain ⟨x6, y6, rfl⟩ := HQ.h6.form
  obtain ⟨x7, y7, rfl⟩ := HQ.h7.form
  have hzl := boxLt B0
  have hlw : lo ≤ w.heap.size := by omega
  have L0 : Below lo w w := ⟨rfl, rfl, rfl, Nat.le_refl _, fun _ _ => rfl⟩
  obtain ⟨rg, hrg⟩ : ∃ x, Hid (x = rgN (a % 65536)) := ⟨_, rfl⟩
  obtain ⟨at', hat⟩ : ∃ x, Hid (x = rgP (a % 65536)) := ⟨_, rfl⟩
  have HG := hide (fun W => implRegion W a)
  rw [← hrg.out, ← hat.out] at HG
  by_cases r2 : rg = 2
  · have HV : Hid (writeD d a y = { d with c := wrC true at' y d.c, s := wrS true at' y d.s, ad := wrA true at' y d.ad, pl := wrP true at' y d.pl, tb := wrT true at' y d.ad d.tb }) := by
      have e : rgN (a % 65536) = 2 := by rw [← hrg.out]; exact r2
      show _ = _
      unfold writeD
      simp only [e, if_true]
      all_goals (first | (rw [← hat.out]; done) | (rw [← hat.out]; rfl) | rfl | trivial)
    rw [HV.out]
    subst r2
    clear HV hrg
    obtain ⟨c', hc'⟩ : ∃ x, Hid (x = wrC true at' y d.c) := ⟨_, rfl⟩
    obtain ⟨s', hs'⟩ : ∃ x, Hid (x = wrS true at' y d.s) := ⟨_, rfl⟩
    obtain ⟨ad', had'⟩ : ∃ x, Hid (x = wrA true at' y d.ad) := ⟨_, rfl⟩
    obtain ⟨pl', hpl'⟩ : ∃ x, Hid (x = wrP true at' y d.pl) := ⟨_, rfl⟩
    obtain ⟨tb', htb'⟩ : ∃ x, Hid (x = wrT true at' y d.ad d.tb) := ⟨_, rfl⟩
    have HP := hide (fun W F G u u' h k => implPpuWrite W F G d.t d.c d.s d.ad d.pl d.bl u u' d.nt d.tb d.nd d.dt at' y h k)
    rw [oku, ← hc'.out, ← hs'.out, ← had'.out, ← hpl'.out, ← htb'.out] at HP
    rw [← hc'.out, ← hs'.out, ← had'.out, ← hpl'.out, ← htb'.out]
    clear hc' hs' had' hpl' htb' hat
    obtain ⟨q3, q4, hq3, I3, I4⟩ := HQ.h3.ints
    simp only [Value.agg.injEq, Array.mk.injEq, List.cons.injEq, and_true, true_and] at hq3
    obtain ⟨rfl, rfl⟩ := hq3
    go_enter Tryz.func52, Tryz.ntmps52
    go_wp2_with fail
    refine (HG.out _).mono ?_
    rintro e W1 ⟨rfl, rfl⟩
    have c0' := boxC B0
    go_wp2_with fail
    clear c0'
    refine (HP.out _ _ _ _ _ I3 I4).mono ?_
    rintro e W2 ⟨v', rfl, P3, L⟩
    clear HP I3 I4
    obtain ⟨x3', y3', x4', y4', rfl⟩ := P3.two
    replace P3 := P3.mono (E := fun b => W1.heap.size ≤ b ∧ b < W2.heap.size) (fun b hb h => ⟨h, hb⟩)
    have l12 := L.size
    replace HQ := HQ.below L
    replace L0 := L0.trans (L.mono (Nat.le_trans hlw L0.size))
    replace B0 := box_keep B0 L (boxLt B0)
    obtain ⟨DD, HQ', hz'⟩ : ∃ DD, LockA W2 lo W2.heap.size DD (.slice x0 d.m y0) (.slice x1 d.np y1) (.slice x2 d.nr y2) (.slice x3' d.nt y3') (.slice x4' d.nd y4') (.slice x5 d.mf y5) (.slice x6 d.ns y6) (.slice x7 d.nq y7) ob iv ov o6 o7 { d with t := d.t, c := c', s := s', ad := ad', pl := pl', bl := d.bl, nt := d.nt, tb := tb', nd := d.nd, dt := d.dt } ∧ ∀ i b, DD i b → b ≠ z := ⟨_, HQ.ppu P3 (Nat.le_refl _) hlw l12 (Nat.le_refl _), fun i b h e => by
      rcases h with ⟨-, h1, h2⟩ | ⟨-, h⟩
      · omega
      · exact hz i b h e⟩
    clear HQ hz P3 L
    have HQ := HQ'
    have hz := hz'
    clear HQ' hz'
    have c0' := boxC B0
    have f0' := boxF B0
    have TT := Wrote.setCell (b := z) (o := 19) (R := fun b _ => b = z) (Wrote.setCell (b := z) (o := 18) (R := fun b _ => b = z) (Wrote.setCell (b := z) (o := 17) (R := fun b _ => b = z) (Wrote.setCell (b := z) (o := 16) (R := fun b _ => b = z) (Wrote.setCell (b := z) (o := 15) (R := fun b _ => b = z) (Wrote.setCell (b := z) (o := 14) (R := fun b _ => b = z) (Wrote.setCell (b := z) (o := 13) (R := fun b _ => b = z) (Wrote.setCell (b := z) (o := 12) (R := fun b _ => b = z) (Wrote.refl _ W2) (fun _ => rfl) (.int .i64 d.t)) (fun _ => rfl) (.int .i64 c')) (fun _ => rfl) (.int .i64 s')) (fun _ => rfl) (.int .i64 ad')) (fun _ => rfl) (.int .i64 pl')) (fun _ => rfl) (.bool d.bl)) (fun _ => rfl) (.slice x3' d.nt y3')) (fun _ => rfl) (.slice x4' d.nd y4')
    have BF := box_set (o := 19) (box_set (o := 18) (box_set (o := 17) (box_set (o := 16) (box_set (o := 15) (box_set (o := 14) (box_set (o := 13) (box_set (o := 12) (B0) (.int .i64 d.t)) (.int .i64 c')) (.int .i64 s')) (.int .i64 ad')) (.int .i64 pl')) (.bool d.bl)) (.slice x3' d.nt y3')) (.slice x4' d.nd y4')
    simp only [List.setIfInBounds_toArray, List.set_cons_succ, List.set_cons_zero] at BF
    have BFF := hide BF
    have HF := hide ((HQ.keepD TT (fun i b o h (e : b = _) => hz i b h e)).upTo TT.size (Nat.le_refl _))
    have LF := hide (L0.trans (TT.below (Nat.le_trans hlw L0.size) (fun b o hb (h : b = _) => by omega)))
    clear TT BF HQ L0 B0
    go_wp2
    go_returns
    exact ⟨rfl, ⟨_, _, _, _, _, _, _, _, _, _, _, _, _, _, HF.out, hz, BFF.out⟩, LF.out⟩
  by_cases r3 : rg = 3
  · have HV : Hid (writeD d a y = { d with P := wpA true d.P at' y, L := wlA true d.L at' y, Q := wsA true d.Q at' y, R := wqA true d.R at' y }) := by
      have e : rgN (a % 65536) = 3 := by rw [← hrg.out]; exact r3
      show _ = _
      unfold writeD
      simp only [e, if_true, show ¬ ((3 : Int) = 2) by decide, if_false]
      all_goals (first | (rw [← hat.out]; done) | (rw [← hat.out]; rfl) | rfl | trivial)
    rw [HV.out]
    subst r3
    clear HV hrg r2
    obtain ⟨p', hp'⟩ : ∃ x, Hid (x = wpA true d.P at' y) := ⟨_, rfl⟩
    obtain ⟨l', hl'⟩ : ∃ x, Hid (x = wlA true d.L at' y) := ⟨_, rfl⟩
    obtain ⟨q', hq'⟩ : ∃ x, Hid (x = wsA true d.Q at' y) := ⟨_, rfl⟩
    obtain ⟨r', hr'⟩ : ∃ x, Hid (x = wqA true d.R at' y) := ⟨_, rfl⟩
    have HP := hide (fun W => implApuWrite W d.T d.P d.K d.B d.L d.Q d.R at' y)
    rw [← hp'.out, ← hl'.out, ← hq'.out, ← hr'.out] at HP
    rw [← hp'.out, ← hl'.out, ← hq'.out, ← hr'.out]
    clear hp' hl' hq' hr' hat
    go_enter Tryz.func52, Tryz.ntmps52
    go_wp2_with fail
    refine (HG.out _).mono ?_
    rintro e W1 ⟨rfl, rfl⟩
    have c0' := boxC B0
    go_wp2_with fail
    clear c0'
    refine (HP.out _).mono ?_
    rintro e W2 ⟨rfl, L⟩
    clear HP
    replace HQ := (HQ.below L).upTo L.size (Nat.le_refl _)
    replace L0 := L0.trans (L.mono (Nat.le_trans hlw L0.size))
    replace B0 := box_keep B0 L (boxLt B0)
    replace HQ : LockA W2 lo W2.heap.size D (.slice x0 d.m y0) (.slice x1 d.np y1) (.slice x2 d.nr y2) (.slice x3 d.nt y3) (.slice x4 d.nd y4) (.slice x5 d.mf y5) (.slice x6 d.ns y6) (.slice x7 d.nq y7) ob iv ov o6 o7 { d with P := p', L := l', Q := q', R := r' } := ⟨HQ.h0, HQ.h1, HQ.h2, HQ.h3, HQ.h5, HQ.h5D, HQ.h6, HQ.h6D, HQ.h7, HQ.h7D, HQ.dis, HQ.bd, HQ.nN, HQ.hps⟩
    clear L
    have c0' := boxC B0
    have f0' := boxF B0
    have TT := Wrote.setCell (b := z) (o := 26) (R := fun b _ => b = z) (Wrote.setCell (b := z) (o := 25) (R := fun b _ => b = z) (Wrote.setCell (b := z) (o := 24) (R := fun b _ => b = z) (Wrote.setCell (b := z) (o := 23) (R := fun b _ => b = z) (Wrote.setCell (b := z) (o := 22) (R := fun b _ => b = z) (Wrote.setCell (b := z) (o := 21) (R := fun b _ => b = z) (Wrote.setCell (b := z) (o := 20) (R := fun b _ => b = z) (Wrote.refl _ W2) (fun _ => rfl) (.int .i64 d.T)) (fun _ => rfl) (.int .i64 p')) (fun _ => rfl) (.int .i64 d.K)) (fun _ => rfl) (.int .i64 d.B)) (fun _ => rfl) (.int .i64 l')) (fun _ => rfl) (.bool q')) (fun _ => rfl) (.bool r')
    have BF := box_set (o := 26) (box_set (o := 25) (box_set (o := 24) (box_set (o := 23) (box_set (o := 22) (box_set (o := 21) (box_set (o := 20) (B0) (.int .i64 d.T)) (.int .i64 p')) (.int .i64 d.K)) (.int .i64 d.B)) (.int .i64 l')) (.bool q')) (.bool r')
    simp only [List.setIfInBounds_toArray, List.set_cons_succ, List.set_cons_zero] at BF
    have BFF := hide BF
    have HF := hide ((HQ.keepD TT (fun i b o h (e : b = _) => hz i b h e)).upTo TT.size (Nat.le_refl _))
    have LF := hide (L0.trans (TT.below (Nat.le_trans hlw L0.size) (fun b o hb (h : b = _) => by omega)))
    clear TT BF HQ L0 B0
    go_wp2
    go_returns
    exact ⟨rfl, ⟨_, _, _, _, _, _, _, _, _, _, _, _, _, _, HF.out, hz, BFF.out⟩, LF.out⟩
  by_cases r4 : rg = 4
  · have HV : Hid (writeD d a y = { d with hd := heldW y, sh := shiftW d.hd d.sh d.np d.p d.t y }) := by
      have e : rgN (a % 65536) = 4 := by rw [← hrg.out]; exact r4
      show _ = _
      unfold writeD
      simp only [e, if_true, show ¬ ((4 : Int) = 2) by decide, if_false, show ¬ ((4 : Int) = 3) by decide, if_false]
      all_goals (first | (rw [← hat.out]; done) | (rw [← hat.out]; rfl) | rfl | trivial)
    rw [HV.out]
    subst r4
    clear HV hrg r2 r3
    obtain ⟨h', hh'⟩ : ∃ x, Hid (x = heldW y) := ⟨_, rfl⟩
    obtain ⟨s', hs'⟩ : ∃ x, Hid (x = shiftW d.hd d.sh d.np d.p d.t y) := ⟨_, rfl⟩
    have HP := hide (fun W F u k => implPadWrite W F d.hd d.sh u d.np d.p d.t y (by have := (okPpu_range oku).2; omega) k)
    rw [← hh'.out, ← hs'.out] at HP
    rw [← hh'.out, ← hs'.out]
    clear hh' hs' hat
    have I1 : Ints .i64 w (On (D 1)) (.slice x1 d.np y1) d.np d.p := by obtain ⟨aa, cc, e, hs⟩ := HQ.h1; rw [e]; exact hs.ints cc
    go_enter Tryz.func52, Tryz.ntmps52
    go_wp2_with fail
    refine (HG.out _).mono ?_
    rintro e W1 ⟨rfl, rfl⟩
    go_upto_region 8 with (fail)
    refine wp_region_eff [some 54, some 55, some 56, some 57, some 58, some 59, some 60, some 61, some 62, some 63, some 64, some 65, some 66, some 67, some 68, some 69, some 70, some 71, none] (by kernel_rfl) (by kernel_rfl) (by kernel_rfl) (by kernel_rfl) (by first | (simp [slotsOf]; done) | (simp [slotsOf, Act.put]; done))
        (fun j b _ => (j = 18 ∧ b = z))
        (fun i v W => match i with
          | 0 => v = .pointer (some ⟨z, 0, none⟩)
          | 1 => v = .pointer (some ⟨z, 0, none⟩)
          | 2 => v = .pointer (some ⟨z, 0, none⟩)
          | 3 => v = .pointer (some ⟨z, 27, none⟩)
          | 4 => v = .agg #[.bool d.hd, .int .i64 d.sh]
          | 5 => v = .pointer (some ⟨z, 0, none⟩)
          | 6 => v = .pointer (some ⟨z, 0, none⟩)
          | 7 => v = .pointer (some ⟨z, 1, none⟩)
          | 8 => v = .slice x1 d.np y1
          | 9 => v = .pointer (some ⟨z, 0, none⟩)
          | 10 => v = .pointer (some ⟨z, 0, none⟩)
          | 11 => v = .pointer (some ⟨z, 12, none⟩)
          | 12 => v = .pointer (some ⟨z, 12, none⟩)
          | 13 => v = .int .i64 d.t
          | 14 => v = .int .i64 y
          | 15 => v = .agg #[.bool h', .int .i64 s']
          | 16 => v = .pointer (some ⟨z, 0, none⟩)
          | 17 => v = .pointer (some ⟨z, 27, none⟩)
          | _ => W.heap[z]? = some (.cells #[.slice x0 d.m y0, .slice x1 d.np y1, .slice x2 d.nr y2, .int .i64 d.bank, .int .i64 d.A, .int .i64 d.X, .int .i64 d.S, .int .i64 d.Pc, .bool d.Z, .bool d.N, .bool d.C, .bool d.I, .int .i64 d.t, .int .i64 d.c, .int .i64 d.s, .int .i64 d.ad, .int .i64 d.pl, .bool d.bl, .slice x3 d.nt y3, .slice x4 d.nd y4, .int .i64 d.T, .int .i64 d.P, .int .i64 d.K, .int .i64 d.B, .int .i64 d.L, .bool d.Q, .bool d.R, .bool h', .int .i64 s', .bool d.nmi, .int .i64 d.st, .slice x5 d.mf y5, .slice x6 d.ns y6, .slice x7 d.nq y7] 49 (0, 0))) ?_ ?_ ?_
    · intro i j o v W W' hij ho _ hW h
      match i, hij, ho, h with
      | 0, hij, _, h => exact h
      | 1, hij, _, h => exact h
      | 2, hij, _, h => exact h
      | 3, hij, _, h => exact h
      | 4, hij, _, h => exact h
      | 5, hij, _, h => exact h
      | 6, hij, _, h => exact h
      | 7, hij, _, h => exact h
      | 8, hij, _, h => exact h
      | 9, hij, _, h => exact h
      | 10, hij, _, h => exact h
      | 11, hij, _, h => exact h
      | 12, hij, _, h => exact h
      | 13, hij, _, h => exact h
      | 14, hij, _, h => exact h
      | 15, hij, _, h => exact h
      | 16, hij, _, h => exact h
      | 17, hij, _, h => exact h
      | 18, hij, _, h => exact box_wrote h hW (fun o e => by omega)
      | _ + 19, _, ho, _ => simp at ho
    · intro i o a' W K ho F L hw hK
      match i with
      | 0 =>
          simp only [List.getElem?_toArray, List.getElem?_cons_zero, List.getElem?_cons_succ, Option.some.injEq] at ho
          subst ho
          have t0 := F.get (t := 0) (v := .pointer (some ⟨z, 0, none⟩)) (by decide) rfl
          go_simp
          exact hK _ _ (Wrote.refl _ _) rfl
      | 1 =>
          simp only [List.getElem?_toArray, List.getElem?_cons_zero, List.getElem?_cons_succ, Option.some.injEq] at ho
          subst ho
          have t0 := F.get (t := 0) (v := .pointer (some ⟨z, 0, none⟩)) (by decide) rfl
          go_simp
          exact hK _ _ (Wrote.refl _ _) rfl
      | 2 =>
          simp only [List.getElem?_toArray, List.getElem?_cons_zero, List.getElem?_cons_succ, Option.some.injEq] at ho
          subst ho
          have q1 : a'.tmps[55]?.getD undef = .pointer (some ⟨z, 0, none⟩) := hw 1 (by kernel_rfl)
          go_simp
          exact hK _ _ (Wrote.refl _ _) rfl
      | 3 =>
          simp only [List.getElem?_toArray, List.getElem?_cons_zero, List.getElem?_cons_succ, Option.some.injEq] at ho
          subst ho
          have q2 : a'.tmps[56]?.getD undef = .pointer (some ⟨z, 0, none⟩) := hw 2 (by kernel_rfl)
          go_simp
          exact hK _ _ (Wrote.refl _ _) rfl
      | 4 =>
          simp only [List.getElem?_toArray, List.getElem?_cons_zero, List.getElem?_cons_succ, Option.some.injEq] at ho
          subst ho
          have q3 : a'.tmps[57]?.getD undef = .pointer (some ⟨z, 27, none⟩) := hw 3 (by kernel_rfl)
          have rB := box_wrote B0 L (fun o ⟨j, oj, hj, hoj, hwj, e⟩ => by rcases e with ⟨rfl, e⟩ <;> first | omega | (simp only [List.getElem?_toArray, List.getElem?_cons_zero, List.getElem?_cons_succ, Option.some.injEq] at hoj; subst hoj; cases hwj.symm.trans (show waitsB _ 4 = true by kernel_rfl)))
          have rb := boxC rB
          go_simp
          exact hK _ _ (Wrote.refl _ _) rfl
      | 5 =>
          simp only [List.getElem?_toArray, List.getElem?_cons_zero, List.getElem?_cons_succ, Option.some.injEq] at ho
          subst ho
          have t0 := F.get (t := 0) (v := .pointer (some ⟨z, 0, none⟩)) (by decide) rfl
          go_simp
          exact hK _ _ (Wrote.refl _ _) rfl
      | 6 =>
          simp only [List.getElem?_toArray, List.getElem?_cons_zero, List.getElem?_cons_succ, Option.some.injEq] at ho
          subst ho
          have q5 : a'.tmps[59]?.getD undef = .pointer (some ⟨z, 0, none⟩) := hw 5 (by kernel_rfl)
          go_simp
          exact hK _ _ (Wrote.refl _ _) rfl
      | 7 =>
          simp only [List.getElem?_toArray, List.getElem?_cons_zero, List.getElem?_cons_succ, Option.some.injEq] at ho
          subst ho
          have q6 : a'.tmps[60]?.getD undef = .pointer (some ⟨z, 0, none⟩) := hw 6 (by kernel_rfl)
          go_simp
          exact hK _ _ (Wrote.refl _ _) rfl
      | 8 =>
          simp only [List.getElem?_toArray, List.getElem?_cons_zero, List.getElem?_cons_succ, Option.some.injEq] at ho
          subst ho
          have q7 : a'.tmps[61]?.getD undef = .pointer (some ⟨z, 1, none⟩) := hw 7 (by kernel_rfl)
          have rB := box_wrote B0 L (fun o ⟨j, oj, hj, hoj, hwj, e⟩ => by rcases e with ⟨rfl, e⟩ <;> first | omega | (simp only [List.getElem?_toArray, List.getElem?_cons_zero, List.getElem?_cons_succ, Option.some.injEq] at hoj; subst hoj; cases hwj.symm.trans (show waitsB _ 8 = true by kernel_rfl)))
          have rb := boxC rB
          go_simp
          exact hK _ _ (Wrote.refl _ _) rfl
      | 9 =>
          simp only [List.getElem?_toArray, List.getElem?_cons_zero, List.getElem?_cons_succ, Option.some.injEq] at ho
          subst ho
          have t0 := F.get (t := 0) (v := .pointer (some ⟨z, 0, none⟩)) (by decide) rfl
          go_simp
          exact hK _ _ (Wrote.refl _ _) rfl
      | 10 =>
          simp only [List.getElem?_toArray, List.getElem?_cons_zero, List.getElem?_cons_succ, Option.some.injEq] at ho
          subst ho
          have q9 : a'.tmps[63]?.getD undef = .pointer (some ⟨z, 0, none⟩) := hw 9 (by kernel_rfl)
          go_simp
          exact hK _ _ (Wrote.refl _ _) rfl
      | 11 =>
          simp only [List.getElem?_toArray, List.getElem?_cons_zero, List.getElem?_cons_succ, Option.some.injEq] at ho
          subst ho
          have q10 : a'.tmps[64]?.getD undef = .pointer (some ⟨z, 0, none⟩) := hw 10 (by kernel_rfl)
          go_simp
          exact hK _ _ (Wrote.refl _ _) rfl
      | 12 =>
          simp only [List.getElem?_toArray, List.getElem?_cons_zero, List.getElem?_cons_succ, Option.some.injEq] at ho
          subst ho
          have q11 : a'.tmps[65]?.getD undef = .pointer (some ⟨z, 12, none⟩) := hw 11 (by kernel_rfl)
          go_simp
          exact hK _ _ (Wrote.refl _ _) rfl
      | 13 =>
          simp only [List.getElem?_toArray, List.getElem?_cons_zero, List.getElem?_cons_succ, Option.some.injEq] at ho
          subst ho
          have q12 : a'.tmps[66]?.getD undef = .pointer (some ⟨z, 12, none⟩) := hw 12 (by kernel_rfl)
          have rB := box_wrote B0 L (fun o ⟨j, oj, hj, hoj, hwj, e⟩ => by rcases e with ⟨rfl, e⟩ <;> first | omega | (simp only [List.getElem?_toArray, List.getElem?_cons_zero, List.getElem?_cons_succ, Option.some.injEq] at hoj; subst hoj; cases hwj.symm.trans (show waitsB _ 13 = true by kernel_rfl)))
          have rb := boxC rB
          go_simp
          exact hK _ _ (Wrote.refl _ _) rfl
      | 14 =>
          simp only [List.getElem?_toArray, List.getElem?_cons_zero, List.getElem?_cons_succ, Option.some.injEq] at ho
          subst ho
          have t2 := F.get (t := 2) (v := .int .i64 y) (by decide) rfl
          go_simp
          exact hK _ _ (Wrote.refl _ _) rfl
      | 15 =>
          simp only [List.getElem?_toArray, List.getElem?_cons_zero, List.getElem?_cons_succ, Option.some.injEq] at ho
          subst ho
          have q4 : a'.tmps[58]?.getD undef = .agg #[.bool d.hd, .int .i64 d.sh] := hw 4 (by kernel_rfl)
          have q8 : a'.tmps[62]?.getD undef = .slice x1 d.np y1 := hw 8 (by kernel_rfl)
          have q13 : a'.tmps[67]?.getD undef = .int .i64 d.t := hw 13 (by kernel_rfl)
          have q14 : a'.tmps[68]?.getD undef = .int .i64 y := hw 14 (by kernel_rfl)
          go_simp
          refine (HP.out W _ _ (I1.keep L (fun b o hb ⟨j, _, _, _, _, e⟩ => hz 1 b hb (by omega)))).mono ?_
          rintro e W' ⟨rfl, LX⟩
          exact hK _ _ (wrote_below LX _) rfl
      | 16 =>
          simp only [List.getElem?_toArray, List.getElem?_cons_zero, List.getElem?_cons_succ, Option.some.injEq] at ho
          subst ho
          have q0 : a'.tmps[54]?.getD undef = .pointer (some ⟨z, 0, none⟩) := hw 0 (by kernel_rfl)
          go_simp
          exact hK _ _ (Wrote.refl _ _) rfl
      | 17 =>
          simp only [List.getElem?_toArray, List.getElem?_cons_zero, List.getElem?_cons_succ, Option.some.injEq] at ho
          subst ho
          have q16 : a'.tmps[70]?.getD undef = .pointer (some ⟨z, 0, none⟩) := hw 16 (by kernel_rfl)
          go_simp
          exact hK _ _ (Wrote.refl _ _) rfl
      | 18 =>
          simp only [List.getElem?_toArray, List.getElem?_cons_zero, List.getElem?_cons_succ, Option.some.injEq] at ho
          subst ho
          have q15 : a'.tmps[69]?.getD undef = .agg #[.bool h', .int .i64 s'] := hw 15 (by kernel_rfl)
          have q17 : a'.tmps[71]?.getD undef = .pointer (some ⟨z, 27, none⟩) := hw 17 (by kernel_rfl)
          have rB := box_wrote B0 L (fun o ⟨j, oj, hj, hoj, hwj, e⟩ => by omega)
          have rb := boxC rB
          have rf := boxF rB
          have HB := box_set (o := 28) (box_set (o := 27) (rB) (.bool h')) (.int .i64 s')
          simp only [List.setIfInBounds_toArray, List.set_cons_succ, List.set_cons_zero] at HB
          have HBB := hide HB
          clear HB rB
          go_simp
          exact hK undef _ (Wrote.setCell (Wrote.setCell (Wrote.refl _ W) (fun _ => ⟨rfl, rfl⟩) _) (fun _ => ⟨rfl, rfl⟩) _) HBB.out
      | _ + 19 => simp at ho
    · intro a' W F L hφ
      have RB0 : W.heap[z]? = some (.cells #[.slice x0 d.m y0, .slice x1 d.np y1, .slice x2 d.nr y2, .int .i64 d.bank, .int .i64 d.A, .int .i64 d.X, .int .i64 d.S, .int .i64 d.Pc, .bool d.Z, .bool d.N, .bool d.C, .bool d.I, .int .i64 d.t, .int .i64 d.c, .int .i64 d.s, .int .i64 d.ad, .int .i64 d.pl, .bool d.bl, .slice x3 d.nt y3, .slice x4 d.nd y4, .int .i64 d.T, .int .i64 d.P, .int .i64 d.K, .int .i64 d.B, .int .i64 d.L, .bool d.Q, .bool d.R, .bool h', .int .i64 s', .bool d.nmi, .int .i64 d.st, .slice x5 d.mf y5, .slice x6 d.ns y6, .slice x7 d.nq y7] 49 (0, 0)) := hφ 18 (by decide)
      have p54 : a'.tmps[54]?.getD undef = .pointer (some ⟨z, 0, none⟩) := hφ 0 (by decide)
      have p55 : a'.tmps[55]?.getD undef = .pointer (some ⟨z, 0, none⟩) := hφ 1 (by decide)
      have p56 : a'.tmps[56]?.getD undef = .pointer (some ⟨z, 0, none⟩) := hφ 2 (by decide)
      have p57 : a'.tmps[57]?.getD undef = .pointer (some ⟨z, 27, none⟩) := hφ 3 (by decide)
      have p58 : a'.tmps[58]?.getD undef = .agg #[.bool d.hd, .int .i64 d.sh] := hφ 4 (by decide)
      have p59 : a'.tmps[59]?.getD undef = .pointer (some ⟨z, 0, none⟩) := hφ 5 (by decide)
      have p60 : a'.tmps[60]?.getD undef = .pointer (some ⟨z, 0, none⟩) := hφ 6 (by decide)
      have p61 : a'.tmps[61]?.getD undef = .pointer (some ⟨z, 1, none⟩) := hφ 7 (by decide)
      have p62 : a'.tmps[62]?.getD undef = .slice x1 d.np y1 := hφ 8 (by decide)
      have p63 : a'.tmps[63]?.getD undef = .pointer (some ⟨z, 0, none⟩) := hφ 9 (by decide)
      have p64 : a'.tmps[64]?.getD undef = .pointer (some ⟨z, 0, none⟩) := hφ 10 (by decide)
      have p65 : a'.tmps[65]?.getD undef = .pointer (some ⟨z, 12, none⟩) := hφ 11 (by decide)
      have p66 : a'.tmps[66]?.getD undef = .pointer (some ⟨z, 12, none⟩) := hφ 12 (by decide)
      have p67 : a'.tmps[67]?.getD undef = .int .i64 d.t := hφ 13 (by decide)
      have p68 : a'.tmps[68]?.getD undef = .int .i64 y := hφ 14 (by decide)
      have p69 : a'.tmps[69]?.getD undef = .agg #[.bool h', .int .i64 s'] := hφ 15 (by decide)
      have p70 : a'.tmps[70]?.getD undef = .pointer (some ⟨z, 0, none⟩) := hφ 16 (by decide)
      have p71 : a'.tmps[71]?.getD undef = .pointer (some ⟨z, 27, none⟩) := hφ 17 (by decide)
      replace L0 := L0.trans (L.below (Nat.le_trans hlw L0.size) (fun b o hb ⟨j, e⟩ => by omega))
      replace B0 := RB0
      clear RB0
      replace HQ := (HQ.keepD L (fun i b o h ⟨j, e⟩ => hz i b h (by omega))).upTo L.size (Nat.le_refl _)
      rw [F.same, show slotsOf [some 54, some 55, some 56, some 57, some 58, some 59, some 60, some 61, some 62, some 63, some 64, some 65, some 66, some 67, some 68, some 69, some 70, some 71, none] = [54, 55, 56, 57, 58, 59, 60, 61, 62, 63, 64, 65, 66, 67, 68, 69, 70, 71] from rfl]
      simp only [List.foldl_cons, List.foldl_nil]
      rw [p54, p55, p56, p57, p58, p59, p60, p61, p62, p63, p64, p65, p66, p67, p68, p69, p70, p71]
      clear hφ L F p54 p55 p56 p57 p58 p59 p60 p61 p62 p63 p64 p65 p66 p67 p68 p69 p70 p71
      replace HQ : LockA W lo W.heap.size D (.slice x0 d.m y0) (.slice x1 d.np y1) (.slice x2 d.nr y2) (.slice x3 d.nt y3) (.slice x4 d.nd y4) (.slice x5 d.mf y5) (.slice x6 d.ns y6) (.slice x7 d.nq y7) ob iv ov o6 o7 { d with hd := h', sh := s' } := ⟨HQ.h0, HQ.h1, HQ.h2, HQ.h3, HQ.h5, HQ.h5D, HQ.h6, HQ.h6D, HQ.h7, HQ.h7D, HQ.dis, HQ.bd, HQ.nN, HQ.hps⟩
      have HF := hide HQ
      have BF := hide B0
      have LF := hide L0
      clear HQ B0 L0 I1
      go_simp
      go_wp2
      go_returns
      exact ⟨rfl, ⟨_, _, _, _, _, _, _, _, _, _, _, _, _, _, HF.out, hz, BF.out⟩, LF.out⟩
  have HV : Hid (writeD d a y = { d with g := pokeG true d.g (a % 65536) y, bank := pokeB true d.m d.bank (a % 65536) y }) := by
    have e2 : ¬ rgN (a % 65536) = 2 := by rw [← hrg.out]; exact r2
    have e3 : ¬ rgN (a % 65536) = 3 := by rw [← hrg.out]; exact r3
    have e4 : ¬ rgN (a % 65536) = 4 := by rw [← hrg.out]; exact r4
    show _ = _
    unfold writeD
    rw [if_neg e2, if_neg e3, if_neg e4]
  rw [HV.out]
  clear HV hrg hat
  have q2 : (rg == 2) = false := beq_eq_false_iff_ne.2 r2
  have q3 : (rg == 3) = false := beq_eq_false_iff_ne.2 r3
  have q4 : (rg == 4) = false := beq_eq_false_iff_ne.2 r4
  clear r2 r3 r4
  obtain ⟨g', hg'⟩ : ∃ x, Hid (x = pokeG true d.g (a % 65536) y) := ⟨_, rfl⟩
  obtain ⟨bk, hbk⟩ : ∃ x, Hid (x = pokeB true d.m d.bank (a % 65536) y) := ⟨_, rfl⟩
  have HP := hide (fun W F G v u h k => implPoke W F G v u d.m d.ln d.f d.nr d.g d.bank a y h k)
  rw [okm, ← hg'.out, ← hbk.out] at HP
  rw [← hg'.out, ← hbk.out]
  clear hg' hbk
  obtain ⟨q5, hq5, I2⟩ := HQ.h2.ints
  simp only [Value.agg.injEq, Array.mk.injEq, List.cons.injEq, and_true] at hq5
  subst hq5
  have I0 := HQ.h0.ints
  go_enter Tryz.func52, Tryz.ntmps52
  go_wp2_with fail
  refine (HG.out _).mono ?_
  rintro e W1 ⟨rfl, rfl⟩
  go_upto_region 2 with (fail)
  refine wp_region_effI [some 14, some 15, some 16, some 17, some 18, some 19, some 20, some 21, some 22, some 23, some 24, some 25, some 26, some 27, none] (by kernel_rfl) (by kernel_rfl) (by kernel_rfl) (by kernel_rfl) (by first | (simp [slotsOf]; done) | (simp [slotsOf, Act.put]; done))
    (fun j b _ => j = 14 ∧ b = z)
    (fun i V lo hi W => match i with
      | 0 => V 0 = .pointer (some ⟨z, 0, none⟩)
      | 1 => V 1 = .pointer (some ⟨z, 0, none⟩)
      | 2 => V 2 = .pointer (some ⟨z, 0, none⟩)
      | 3 => V 3 = .pointer (some ⟨z, 0, none⟩)
      | 4 => V 4 = .agg #[.slice x0 d.m y0]
      | 5 => V 5 = .pointer (some ⟨z, 0, none⟩)
      | 6 => V 6 = .pointer (some ⟨z, 0, none⟩)
      | 7 => V 7 = .pointer (some ⟨z, 2, none⟩)
      | 8 => V 8 = .agg #[.slice x2 d.nr y2, .int .i64 d.bank]
      | 9 => V 9 = .int .i64 a
      | 10 => V 10 = .int .i64 y
      | 11 => ∃ q c, V 11 = .agg #[.slice q d.nr c, .int .i64 bk] ∧ MemOn W (fun b => lo ≤ b ∧ b < hi) (.agg #[.slice q d.nr c, .int .i64 bk]) d.nr g' bk
      | 12 => V 12 = .pointer (some ⟨z, 0, none⟩)
      | 13 => V 13 = .pointer (some ⟨z, 2, none⟩)
      | _ => ∃ q c, V 11 = .agg #[.slice q d.nr c, .int .i64 bk] ∧ W.heap[z]? = some (.cells #[.slice x0 d.m y0, .slice x1 d.np y1, .slice q d.nr c, .int .i64 bk, .int .i64 d.A, .int .i64 d.X, .int .i64 d.S, .int .i64 d.Pc, .bool d.Z, .bool d.N, .bool d.C, .bool d.I, .int .i64 d.t, .int .i64 d.c, .int .i64 d.s, .int .i64 d.ad, .int .i64 d.pl, .bool d.bl, .slice x3 d.nt y3, .slice x4 d.nd y4, .int .i64 d.T, .int .i64 d.P, .int .i64 d.K, .int .i64 d.B, .int .i64 d.L, .bool d.Q, .bool d.R, .bool d.hd, .int .i64 d.sh, .bool d.nmi, .int .i64 d.st, .slice x5 d.mf y5, .slice x6 d.ns y6, .slice x7 d.nq y7] 49 (0, 0))) ?_ ?_ ?_
  · intro i j o V x lo hi W W' hij ho hnw hlo' hhi hW h
    have nw : ∀ k, waitsB o k = true → k ≠ j := fun k hk e => by rw [e, hnw] at hk; cases hk
    match i, ho, hij, nw, h with
    | 0, _, hij, _, h => exact (updV_ne V x hij).trans h
    | 1, _, hij, _, h => exact (updV_ne V x hij).trans h
    | 2, _, hij, _, h => exact (updV_ne V x hij).trans h
    | 3, _, hij, _, h => exact (updV_ne V x hij).trans h
    | 4, _, hij, _, h => exact (updV_ne V x hij).trans h
    | 5, _, hij, _, h => exact (updV_ne V x hij).trans h
    | 6, _, hij, _, h => exact (updV_ne V x hij).trans h
    | 7, _, hij, _, h => exact (updV_ne V x hij).trans h
    | 8, _, hij, _, h => exact (updV_ne V x hij).trans h
    | 9, _, hij, _, h => exact (updV_ne V x hij).trans h
    | 10, _, hij, _, h => exact (updV_ne V x hij).trans h
    | 11, _, hij, _, h => obtain ⟨q, c, h1, h2⟩ := h; exact ⟨q, c, (updV_ne V x hij).trans h1, h2.keep hW (fun b o hb _ e => by obtain ⟨h3, h4⟩ := hb; omega)⟩
    | 12, _, hij, _, h => exact (updV_ne V x hij).trans h
    | 13, _, hij, _, h => exact (updV_ne V x hij).trans h
    | 14, ho, hij, nw, h =>
      simp only [List.getElem?_toArray, List.getElem?_cons_zero, List.getElem?_cons_succ, Option.some.injEq] at ho
      subst ho
      obtain ⟨q, c, h1, h2⟩ := h
      exact ⟨q, c, (updV_ne V x (nw 11 (by kernel_rfl))).trans h1, box_wrote h2 hW (fun o e => hij e.1.symm)⟩
    | n + 15, ho, _, _, _ => simp at ho
  · intro i o a' W K ho F L hw hK
    have t0 := F.get (t := 0) (v := .pointer (some ⟨z, 0, none⟩)) (by decide) rfl
    have t1 := F.get (t := 1) (v := .int .i64 a) (by decide) rfl
    have t2 := F.get (t := 2) (v := .int .i64 y) (by decide) rfl
    match i with
    | 0 =>
      simp only [List.getElem?_toArray, List.getElem?_cons_zero, List.getElem?_cons_succ, Option.some.injEq] at ho
      subst ho
      go_simp
      exact hK _ _ (Wrote.refl _ _) (updV_same _ _ _)
    | 1 =>
      simp only [List.getElem?_toArray, List.getElem?_cons_zero, List.getElem?_cons_succ, Option.some.injEq] at ho
      subst ho
      go_simp
      exact hK _ _ (Wrote.refl _ _) (updV_same _ _ _)
    | 2 =>
      simp only [List.getElem?_toArray, List.getElem?_cons_zero, List.getElem?_cons_succ, Option.some.injEq] at ho
      subst ho
      have q1 : a'.tmps[15]?.getD undef = .pointer (some ⟨z, 0, none⟩) := by obtain ⟨_, _, _, _, q⟩ := hw 1 (by kernel_rfl); exact q
      go_simp
      exact hK _ _ (Wrote.refl _ _) (updV_same _ _ _)
    | 3 =>
      simp only [List.getElem?_toArray, List.getElem?_cons_zero, List.getElem?_cons_succ, Option.some.injEq] at ho
      subst ho
      have q2 : a'.tmps[16]?.getD undef = .pointer (some ⟨z, 0, none⟩) := by obtain ⟨_, _, _, _, q⟩ := hw 2 (by kernel_rfl); exact q
      go_simp
      exact hK _ _ (Wrote.refl _ _) (updV_same _ _ _)
    | 4 =>
      simp only [List.getElem?_toArray, List.getElem?_cons_zero, List.getElem?_cons_succ, Option.some.injEq] at ho
      subst ho
      have q3 : a'.tmps[17]?.getD undef = .pointer (some ⟨z, 0, none⟩) := by obtain ⟨_, _, _, _, q⟩ := hw 3 (by kernel_rfl); exact q
      have rb := boxC (box_wrote B0 L (fun k ⟨j, oj, hj, hoj, hwj, hR⟩ => by
        obtain ⟨rfl, -⟩ := hR
        simp only [List.getElem?_toArray, List.getElem?_cons_zero, List.getElem?_cons_succ, Option.some.injEq] at hoj
        subst hoj
        cases hwj.symm.trans (show waitsB _ 4 = true by kernel_rfl)))
      go_simp
      exact hK _ _ (Wrote.refl _ _) (updV_same _ _ _)
    | 5 =>
      simp only [List.getElem?_toArray, List.getElem?_cons_zero, List.getElem?_cons_succ, Option.some.injEq] at ho
      subst ho
      go_simp
      exact hK _ _ (Wrote.refl _ _) (updV_same _ _ _)
    | 6 =>
      simp only [List.getElem?_toArray, List.getElem?_cons_zero, List.getElem?_cons_succ, Option.some.injEq] at ho
      subst ho
      have q5 : a'.tmps[19]?.getD undef = .pointer (some ⟨z, 0, none⟩) := by obtain ⟨_, _, _, _, q⟩ := hw 5 (by kernel_rfl); exact q
      go_simp
      exact hK _ _ (Wrote.refl _ _) (updV_same _ _ _)
    | 7 =>
      simp only [List.getElem?_toArray, List.getElem?_cons_zero, List.getElem?_cons_succ, Option.some.injEq] at ho
      subst ho
      have q6 : a'.tmps[20]?.getD undef = .pointer (some ⟨z, 0, none⟩) := by obtain ⟨_, _, _, _, q⟩ := hw 6 (by kernel_rfl); exact q
      go_simp
      exact hK _ _ (Wrote.refl _ _) (updV_same _ _ _)
    | 8 =>
      simp only [List.getElem?_toArray, List.getElem?_cons_zero, List.getElem?_cons_succ, Option.some.injEq] at ho
      subst ho
      have q7 : a'.tmps[21]?.getD undef = .pointer (some ⟨z, 2, none⟩) := by obtain ⟨_, _, _, _, q⟩ := hw 7 (by kernel_rfl); exact q
      have rb := boxC (box_wrote B0 L (fun k ⟨j, oj, hj, hoj, hwj, hR⟩ => by
        obtain ⟨rfl, -⟩ := hR
        simp only [List.getElem?_toArray, List.getElem?_cons_zero, List.getElem?_cons_succ, Option.some.injEq] at hoj
        subst hoj
        cases hwj.symm.trans (show waitsB _ 8 = true by kernel_rfl)))
      go_simp
      exact hK _ _ (Wrote.refl _ _) (updV_same _ _ _)
    | 9 =>
      simp only [List.getElem?_toArray, List.getElem?_cons_zero, List.getElem?_cons_succ, Option.some.injEq] at ho
      subst ho
      go_simp
      exact hK _ _ (Wrote.refl _ _) (updV_same _ _ _)
    | 10 =>
      simp only [List.getElem?_toArray, List.getElem?_cons_zero, List.getElem?_cons_succ, Option.some.injEq] at ho
      subst ho
      go_simp
      exact hK _ _ (Wrote.refl _ _) (updV_same _ _ _)
    | 11 =>
      simp only [List.getElem?_toArray, List.getElem?_cons_zero, List.getElem?_cons_succ, Option.some.injEq] at ho
      subst ho
      have q4 : a'.tmps[18]?.getD undef = .agg #[.slice x0 d.m y0] := by obtain ⟨_, _, _, _, q⟩ := hw 4 (by kernel_rfl); exact q
      have q8 : a'.tmps[22]?.getD undef = .agg #[.slice x2 d.nr y2, .int .i64 d.bank] := by obtain ⟨_, _, _, _, q⟩ := hw 8 (by kernel_rfl); exact q
      have q9 : a'.tmps[23]?.getD undef = .int .i64 a := by obtain ⟨_, _, _, _, q⟩ := hw 9 (by kernel_rfl); exact q
      have q10 : a'.tmps[24]?.getD undef = .int .i64 y := by obtain ⟨_, _, _, _, q⟩ := hw 10 (by kernel_rfl); exact q
      go_simp
      refine (HP.out W _ _ _ _ (I0.keep L (fun b o hb ⟨j, _, _, _, _, _, e⟩ => hz 0 b hb e)) (I2.keep L (fun b o hb ⟨j, _, _, _, _, _, e⟩ => hz 2 b hb e))).mono ?_
      rintro e W' ⟨q, rfl, hO, hB⟩
      have hM := (MemOn.own (bank := bk) hO).mono (E := fun b => W.heap.size ≤ b ∧ b < W'.heap.size) (fun b hb h => ⟨h, hb⟩)
      obtain ⟨qa, qc, e⟩ := hM.two
      simp only [Value.agg.injEq, Array.mk.injEq, List.cons.injEq, and_true] at e
      subst e
      exact hK _ _ (wrote_below hB _) ⟨qa, qc, updV_same _ _ _, hM⟩
    | 12 =>
      simp only [List.getElem?_toArray, List.getElem?_cons_zero, List.getElem?_cons_succ, Option.some.injEq] at ho
      subst ho
      have q0 : a'.tmps[14]?.getD undef = .pointer (some ⟨z, 0, none⟩) := by obtain ⟨_, _, _, _, q⟩ := hw 0 (by kernel_rfl); exact q
      go_simp
      exact hK _ _ (Wrote.refl _ _) (updV_same _ _ _)
    | 13 =>
      simp only [List.getElem?_toArray, List.getElem?_cons_zero, List.getElem?_cons_succ, Option.some.injEq] at ho
      subst ho
      have q12 : a'.tmps[26]?.getD undef = .pointer (some ⟨z, 0, none⟩) := by obtain ⟨_, _, _, _, q⟩ := hw 12 (by kernel_rfl); exact q
      go_simp
      exact hK _ _ (Wrote.refl _ _) (updV_same _ _ _)
    | 14 =>
      simp only [List.getElem?_toArray, List.getElem?_cons_zero, List.getElem?_cons_succ, Option.some.injEq] at ho
      subst ho
      have q13 : a'.tmps[27]?.getD undef = .pointer (some ⟨z, 2, none⟩) := by obtain ⟨_, _, _, _, q⟩ := hw 13 (by kernel_rfl); exact q
      obtain ⟨_, _, _, _, q, c, v11, _⟩ := hw 11 (by kernel_rfl)
      have s11 : a'.tmps[25]?.getD undef = .agg #[.slice q d.nr c, .int .i64 bk] := v11
      have rB := box_wrote B0 L (fun o ⟨j, oj, hj, _, _, e, _⟩ => hj e)
      have rb := boxC rB
      have rf := boxF rB
      have HB := box_set (o := 3) (box_set (o := 2) rB (.slice q d.nr c)) (.int .i64 bk)
      simp only [List.setIfInBounds_toArray, List.set_cons_succ, List.set_cons_zero] at HB
      have HBB := hide HB
      clear HB rB
      go_simp
      exact hK undef _ (Wrote.setCell (Wrote.setCell (Wrote.refl _ W) (fun _ => ⟨rfl, rfl⟩) _) (fun _ => ⟨rfl, rfl⟩) _) ⟨q, c, (updV_ne _ _ (by decide)).trans v11, HBB.out⟩
    | n + 15 => simp at ho
  · intro a' W F L lo' hi hφ hdj
    obtain ⟨a1, a2, a3, q, c, v11, hM⟩ := hφ 11 (by decide)
    obtain ⟨-, -, -, q', c', v11', BF⟩ := hφ 14 (by decide)
    rw [v11] at v11'
    simp only [Value.agg.injEq, Array.mk.injEq, List.cons.injEq, Value.slice.injEq, and_true, true_and] at v11'
    obtain ⟨rfl, rfl⟩ := v11'
    have l1 := L.size
    replace HQ := HQ.keepD L (fun i b o h ⟨j, _, e⟩ => hz i b h e)
    replace L0 := L0.trans (L.below (Nat.le_trans hlw L0.size) (fun b o hb ⟨j, _, e⟩ => by omega))
    obtain ⟨DD, HQ', hz'⟩ : ∃ DD, LockA W lo (hi 11) DD (.slice x0 d.m y0) (.slice x1 d.np y1) (.slice q d.nr c) (.slice x3 d.nt y3) (.slice x4 d.nd y4) (.slice x5 d.mf y5) (.slice x6 d.ns y6) (.slice x7 d.nq y7) ob iv ov o6 o7 { d with bank := bk, nr := d.nr, g := g' } ∧ ∀ i b, DD i b → b ≠ z := ⟨_, HQ.mem hM a1 hlw a2 a3, fun i b h e => by
      rcases h with ⟨-, h1, h2⟩ | ⟨-, h⟩
      · omega
      · exact hz i b h e⟩
    have HF := hide (HQ'.upTo a3 (Nat.le_refl _))
    have LF := hide L0
    have BFF := hide BF
    clear BF HQ HQ' hz L0 hM I0 I2 HP hφ hdj v11 B0
    rw [F.same, show slotsOf [some 14, some 15, some 16, some 17, some 18, some 19, some 20, some 21, some 22, some 23, some 24, some 25, some 26, some 27, none] = [14, 15, 16, 17, 18, 19, 20, 21, 22, 23, 24, 25, 26, 27] from rfl]
    simp only [List.foldl_cons, List.foldl_nil]
    generalize a'.tmps[14]?.getD undef = s14'
    generalize a'.tmps[15]?.getD undef = s15'
    generalize a'.tmps[16]?.getD undef = s16'
    generalize a'.tmps[17]?.getD undef = s17'
    generalize a'.tmps[18]?.getD undef = s18'
    generalize a'.tmps[19]?.getD undef = s19'
    generalize a'.tmps[20]?.getD undef = s20'
    generalize a'.tmps[21]?.getD undef = s21'
    generalize a'.tmps[22]?.getD undef = s22'
    generalize a'.tmps[23]?.getD undef = s23'
    generalize a'.tmps[24]?.getD undef = s24'
    generalize a'.tmps[25]?.getD undef = s25'
    generalize a'.tmps[26]?.getD undef = s26'
    generalize a'.tmps[27]?.getD undef = s27'
    go_simp
    go_wp2
    go_returns
    exact ⟨rfl, ⟨_, _, _, _, _, _, _, _, _, _, _, _, _, _, HF.out, hz', BFF.out⟩, LF.out⟩
end Go.Proofs.YtpaedkefmebjjarGreat
namespace Go.Proofs.YtpaedkefmebjjarGreat
set_option linter.unusedVariables false
set_option linter.unusedSimpArgs false
open Go.ChangeShapes Go.WideShapes Go.ChangeAt Go.RowKit
theorem LockOw.agg {W : World} {lo : Nat} {v : Value} {d : LockD} (H : LockOw W lo v d) : ∃ cs, v = .agg cs ∧ cs.size = 34 ∧ cs.all (·.oneCell') = true := by
  obtain ⟨D, h, -⟩ := H.on
  exact h.agg
theorem LockOw.below {W W' : World} {lo : Nat} {v : Value} {d : LockD} (H : LockOw W lo v d) (L : Below W.heap.size W W') : LockOw W' lo v d := by
  obtain ⟨D, u0, u1, u2, u3, u4, ov, gb, cp, g6, c6, g7, c7, rfl, h⟩ := LockP.of H
  exact (h.below L).ow
theorem LockOw.keepLo {W : World} {lo lo' : Nat} {v : Value} {d : LockD} (H : LockOw W lo v d) (h : lo' ≤ lo) : LockOw W lo' v d := by
  obtain ⟨D, u0, u1, u2, u3, u4, ov, gb, cp, g6, c6, g7, c7, e, h0, h1, h2, h3, h4, h4D, h6, h6D, h7, h7D, dis, bd, hps⟩ := H
  exact ⟨D, u0, u1, u2, u3, u4, ov, gb, cp, g6, c6, g7, c7, e, h0, h1, h2, h3, h4.mono h, h4D, h6.mono h, h6D, h7.mono h, h7D, dis, fun i b x => ⟨Nat.le_trans h (bd i b x).1, (bd i b x).2⟩, hps⟩
/-- A write into a block below what is owned. -/
theorem LockOw.low {R : Nat → Nat → Prop} {W W' : World} {lo : Nat} {v : Value} {d : LockD} (H : LockOw W lo v d) (hw : Wrote R W W') (hn : ∀ b o, R b o → b < lo) : LockOw W' lo v d := by
  obtain ⟨D, u0, u1, u2, u3, u4, ov, gb, cp, g6, c6, g7, c7, rfl, h⟩ := LockP.of H
  exact (h.keepD hw (fun i b o x y => by have := h.bd _ _ x; have := hn _ _ y; omega) (fun o y => by have := h.h6.parts.1; have := hn _ _ y; omega) (fun o y => by have := h.h7.parts.1; have := hn _ _ y; omega)).ow
set_option maxRecDepth 40000 in
set_option maxHeartbeats 4000000 in
theorem specLockRead (w : World) (D : Nat → Nat → Prop) (v : Value) (d : LockD) (a : Int) (H : LockOn w D v d) (hnq : okLock d = true → d.nq < 1048576) : Calls Tryz.prog 6 #[v, .int .i64 a] w fun e w' => ∃ v', e = .returned (.tuple #[v', .int .i64 (if okLock d then readV d a else 0)]) ∧ LockOw w' w.heap.size v' (if okLock d then readD d a else d) ∧ Below w.heap.size w w' := by
  obtain ⟨cs, rfl, hsz, hone⟩ := H.agg
  obtain ⟨rv, hrv⟩ : ∃ x, Hid (x = if okLock d then readV d a else 0) := ⟨_, rfl⟩
  obtain ⟨rd, hrd⟩ : ∃ x, Hid (x = if okLock d then readD d a else d) := ⟨_, rfl⟩
  rw [← hrv.out, ← hrd.out]
  have L0 : Below w.heap.size w ((w.alloc (.cells cs 49)).alloc (.cells #[.slice none 0 0, .slice none 0 0, .slice none 0 0, .int .i64 0, .int .i64 0, .int .i64 0, .int .i64 0, .int .i64 0, .bool false, .bool false, .bool false, .bool false, .int .i64 0, .int .i64 0, .int .i64 0, .int .i64 0, .int .i64 0, .bool false, .slice none 0 0, .slice none 0 0, .int .i64 0, .int .i64 0, .int .i64 0, .int .i64 0, .int .i64 0, .bool false, .bool false, .bool false, .int .i64 0, .bool false, .int .i64 0, .slice none 0 0, .slice none 0 0, .slice none 0 0] 49)) := ((Below.refl _ _).alloc (Nat.le_refl _) _).alloc (by simp) _
  have k0 : ((w.alloc (.cells cs 49)).alloc (.cells #[.slice none 0 0, .slice none 0 0, .slice none 0 0, .int .i64 0, .int .i64 0, .int .i64 0, .int .i64 0, .int .i64 0, .bool false, .bool false, .bool false, .bool false, .int .i64 0, .int .i64 0, .int .i64 0, .int .i64 0, .int .i64 0, .bool false, .slice none 0 0, .slice none 0 0, .int .i64 0, .int .i64 0, .int .i64 0, .int .i64 0, .int .i64 0, .bool false, .bool false, .bool false, .int .i64 0, .bool false, .int .i64 0, .slice none 0 0, .slice none 0 0, .slice none 0 0] 49)).heap[w.heap.size]? = some (.cells cs 49 (0, 0)) := boxA (box_new w _ _) _
  have k1 : ((w.alloc (.cells cs 49)).alloc (.cells #[.slice none 0 0, .slice none 0 0, .slice none 0 0, .int .i64 0, .int .i64 0, .int .i64 0, .int .i64 0, .int .i64 0, .bool false, .bool false, .bool false, .bool false, .int .i64 0, .int .i64 0, .int .i64 0, .int .i64 0, .int .i64 0, .bool false, .slice none 0 0, .slice none 0 0, .int .i64 0, .int .i64 0, .int .i64 0, .int .i64 0, .int .i64 0, .bool false, .bool false, .bool false, .int .i64 0, .bool false, .int .i64 0, .slice none 0 0, .slice none 0 0, .slice none 0 0] 49)).heap[w.heap.size + 1]? = some (.cells #[.slice none 0 0, .slice none 0 0, .slice none 0 0, .int .i64 0, .int .i64 0, .int .i64 0, .int .i64 0, .int .i64 0, .bool false, .bool false, .bool false, .bool false, .int .i64 0, .int .i64 0, .int .i64 0, .int .i64 0, .int .i64 0, .bool false, .slice none 0 0, .slice none 0 0, .int .i64 0, .int .i64 0, .int .i64 0, .int .i64 0, .int .i64 0, .bool false, .bool false, .bool false, .int .i64 0, .bool false, .int .i64 0, .slice none 0 0, .slice none 0 0, .slice none 0 0] 49 (0, 0)) := by simpa using box_new (w.alloc (.cells cs 49)) #[.slice none 0 0, .slice none 0 0, .slice none 0 0, .int .i64 0, .int .i64 0, .int .i64 0, .int .i64 0, .int .i64 0, .bool false, .bool false, .bool false, .bool false, .int .i64 0, .int .i64 0, .int .i64 0, .int .i64 0, .int .i64 0, .bool false, .slice none 0 0, .slice none 0 0, .int .i64 0, .int .i64 0, .int .i64 0, .int .i64 0, .int .i64 0, .bool false, .bool false, .bool false, .int .i64 0, .bool false, .int .i64 0, .slice none 0 0, .slice none 0 0, .slice none 0 0] 49
  go_enter Tryz.func6, Tryz.ntmps6
  go_upto_region 1 with (fail)
  generalize (w.alloc (.cells cs 49)).alloc (.cells #[.slice none 0 0, .slice none 0 0, .slice none 0 0, .int .i64 0, .int .i64 0, .int .i64 0, .int .i64 0, .int .i64 0, .bool false, .bool false, .bool false, .bool false, .int .i64 0, .int .i64 0, .int .i64 0, .int .i64 0, .int .i64 0, .bool false, .slice none 0 0, .slice none 0 0, .int .i64 0, .int .i64 0, .int .i64 0, .int .i64 0, .int .i64 0, .bool false, .bool false, .bool false, .int .i64 0, .bool false, .int .i64 0, .slice none 0 0, .slice none 0 0, .slice none 0 0] 49) = W0 at *
  refine wp_region_lit ?_
  refine wpList_load_row rfl _ _ rfl (w.heap.size) rfl _ _ _ _ k0 Tryz.underlying49 rfl (infoAt infoLock hsz) ?_
  go_wp2_with fail
  refine (l12Copy _ D _ d (H.below L0)).mono ?_
  rintro e W1 ⟨vC, rfl, oC, L⟩
  obtain ⟨cC, rfl, sC, oneC⟩ := oC.agg
  have hb1 := boxLt k1
  have C1 := below_snoc L0 L
  replace k0 := box_keep k0 L (boxLt k0)
  replace k1 := box_keep k1 L (boxLt k1)
  have l01 := L.size
  clear L L0
  have x6 := box_new W1 cC 49
  have LA : Below W1.heap.size W1 (W1.alloc (.cells cC 49)) := (Below.refl _ _).alloc (Nat.le_refl _) _
  replace C1 := below_snoc C1 LA
  replace k0 := box_keep k0 LA (boxLt k0)
  replace k1 := box_keep k1 LA (boxLt k1)
  replace oC := oC.below LA
  have lA := LA.size
  clear LA
  have hst := run_storeCells_new (P := Tryz.prog) W1 49 #[.slice none 0 0, .slice none 0 0, .slice none 0 0, .int .i64 0, .int .i64 0, .int .i64 0, .int .i64 0, .int .i64 0, .bool false, .bool false, .bool false, .bool false, .int .i64 0, .int .i64 0, .int .i64 0, .int .i64 0, .int .i64 0, .bool false, .slice none 0 0, .slice none 0 0, .int .i64 0, .int .i64 0, .int .i64 0, .int .i64 0, .int .i64 0, .bool false, .bool false, .bool false, .int .i64 0, .bool false, .int .i64 0, .slice none 0 0, .slice none 0 0, .slice none 0 0] cC (infoAt infoLock sC) (by rw [sC]; rfl) oneC
  go_upto_region 2 with (fail)
  clear hst
  obtain ⟨z, hz⟩ : ∃ z, Hid (z = W1.heap.size) := ⟨_, rfl⟩
  rw [← hz.out] at x6 ⊢
  clear hz
  generalize W1.alloc (.cells cC 49) = W2 at *
  refine wp_region_lit ?_
  refine wpList_load_row rfl _ _ rfl (w.heap.size) rfl _ _ _ _ k0 Tryz.underlying49 rfl (infoAt infoLock hsz) ?_
  go_wp2_with fail
  refine (specLockOk _ D _ d (H.keep (wrote_below C1 Nowhere) (fun _ _ _ _ _ x => x))).mono ?_
  rintro e W3 ⟨rfl, L⟩
  replace C1 := below_snoc C1 L
  replace k0 := box_keep k0 L (boxLt k0)
  replace k1 := box_keep k1 L (boxLt k1)
  replace x6 := box_keep x6 L (boxLt x6)
  replace oC := oC.below L
  have l23 := L.size
  clear L
  cases hok : okLock d
  · have E1 : Hid (rv = 0 ∧ rd = d) := ⟨by rw [hrv.out, hok]; rfl, by rw [hrd.out, hok]; rfl⟩
    go_upto_region 3 with (fail)
    rename_i K2 hK2
    refine wp_region_lit ?_
    refine wpList_load_row rfl _ _ rfl (z) rfl _ _ _ _ x6 Tryz.underlying49 rfl (infoAt infoLock sC) ?_
    refine wpList_store_row rfl _ _ _ rfl (w.heap.size + 1) cC rfl rfl _ _ k1 (infoAt infoLock sC) (by rw [sC]; rfl) oneC ?_
    have B3 := setRow_heap _ _ _ cC _ _ k1
    have WW := wrote_setRow k1 cC
    have OO := hide (oC.low WW (fun b o (e : b = _) => by omega))
    have LL := hide (C1.trans (WW.below C1.size (fun b o hb (e : b = _) => by omega)))
    clear WW oC C1 k0 x6
    generalize W3.setRow (w.heap.size + 1) cC = W4 at *
    refine wpList_plain rfl (fun K3 hK3 => ?_)
    go_simp
    refine hK3 _ _ ?_
    clear hK3
    refine hK2 _ _ ?_
    go_wp2
    refine bodyPost_ret (v := .tuple #[.agg cC, .int .i64 0]) (results_row_tmp Tryz.results6 _ _ (w.heap.size + 1) _ _ _ _ rfl B3 Tryz.underlying49 rfl (infoAt infoLock sC)) rfl ?_
    rw [E1.out.1, E1.out.2]
    exact ⟨_, rfl, OO.out.keepLo (by omega), LL.out⟩
  · have E1 : Hid (rv = readV d a ∧ rd = readD d a) := ⟨by rw [hrv.out, hok]; rfl, by rw [hrd.out, hok]; rfl⟩
    go_upto_region 4 with (fail)
    refine wp_region_lit ?_
    refine wpList_load_row rfl _ _ rfl (z) rfl _ _ _ _ x6 Tryz.underlying49 rfl (infoAt infoLock sC) ?_
    go_wp2_with fail
    refine (l12Read _ W0.heap.size _ d a oC (by omega) hok (hnq hok)).mono ?_
    rintro e W4 ⟨vR, rfl, oR, LB⟩
    obtain ⟨cR, rfl, sR, oneR⟩ := oR.agg
    replace C1 := C1.trans (LB.mono (by omega))
    replace k1 := box_keep k1 LB (by omega)
    have l34 := LB.size
    clear oC x6 k0 LB
    have x7 := box_new W4 cR 49
    have LA : Below W4.heap.size W4 (W4.alloc (.cells cR 49)) := (Below.refl _ _).alloc (Nat.le_refl _) _
    replace C1 := below_snoc C1 LA
    replace k1 := box_keep k1 LA (boxLt k1)
    replace oR := oR.below LA
    have lA2 := LA.size
    clear LA
    have hst := run_storeCells_new (P := Tryz.prog) W4 49 #[.slice none 0 0, .slice none 0 0, .slice none 0 0, .int .i64 0, .int .i64 0, .int .i64 0, .int .i64 0, .int .i64 0, .bool false, .bool false, .bool false, .bool false, .int .i64 0, .int .i64 0, .int .i64 0, .int .i64 0, .int .i64 0, .bool false, .slice none 0 0, .slice none 0 0, .int .i64 0, .int .i64 0, .int .i64 0, .int .i64 0, .int .i64 0, .bool false, .bool false, .bool false, .int .i64 0, .bool false, .int .i64 0, .slice none 0 0, .slice none 0 0, .slice none 0 0] cR (infoAt infoLock sR) (by rw [sR]; rfl) oneR
    go_upto_region 5 with (fail)
    clear hst
    obtain ⟨z7, hz7⟩ : ∃ z, Hid (z = W4.heap.size) := ⟨_, rfl⟩
    rw [← hz7.out] at x7 ⊢
    clear hz7
    generalize W4.alloc (.cells cR 49) = W5 at *
    rename_i K2 hK2
    refine wp_region_lit ?_
    refine wpList_load_row rfl _ _ rfl (z7) rfl _ _ _ _ x7 Tryz.underlying49 rfl (infoAt infoLock sR) ?_
    refine wpList_plain rfl (fun K3 hK3 => ?_)
    go_simp
    refine hK3 _ _ ?_
    clear hK3
    refine wpList_store_row rfl _ _ _ rfl (w.heap.size + 1) cR rfl rfl _ _ k1 (infoAt infoLock sR) (by rw [sR]; rfl) oneR ?_
    have B3 := setRow_heap _ _ _ cR _ _ k1
    have WW := wrote_setRow k1 cR
    have OO := hide (oR.low WW (fun b o (e : b = _) => by omega))
    have LL := hide (C1.trans (WW.below C1.size (fun b o hb (e : b = _) => by omega)))
    clear WW oR C1 x7
    generalize W5.setRow (w.heap.size + 1) cR = W6 at *
    refine wpList_plain rfl (fun K3 hK3 => ?_)
    go_simp
    refine hK3 _ _ ?_
    clear hK3
    refine hK2 _ _ ?_
    go_wp2
    refine bodyPost_ret (v := .tuple #[.agg cR, .int .i64 (readV d a)]) (results_row_tmp Tryz.results6 _ _ (w.heap.size + 1) _ _ _ _ rfl B3 Tryz.underlying49 rfl (infoAt infoLock sR)) rfl ?_
    rw [E1.out.1, E1.out.2]
    exact ⟨_, rfl, OO.out.keepLo (by omega), LL.out⟩
end Go.Proofs.YtpaedkefmebjjarGreat
namespace Go.Proofs.YtpaedkefmebjjarGreat
set_option linter.unusedVariables false
set_option linter.unusedSimpArgs false
open Go.ChangeShapes Go.WideShapes Go.ChangeAt Go.RowKit
set_option maxRecDepth 40000 in
set_option maxHeartbeats 4000000 in
theorem specLockWrite (w : World) (D : Nat → Nat → Prop) (v : Value) (d : LockD) (a y : Int) (H : LockOn w D v d) : Calls Tryz.prog 12 #[v, .int .i64 a, .int .i64 y] w fun e w' => ∃ v', e = .returned v' ∧ LockOw w' w.heap.size v' (if okLock d then writeD d a y else d) ∧ Below w.heap.size w w' := by
  obtain ⟨cs, rfl, hsz, hone⟩ := H.agg
  obtain ⟨rd, hrd⟩ : ∃ x, Hid (x = if okLock d then writeD d a y else d) := ⟨_, rfl⟩
  rw [← hrd.out]
  have L0 : Below w.heap.size w ((w.alloc (.cells cs 49)).alloc (.cells #[.slice none 0 0, .slice none 0 0, .slice none 0 0, .int .i64 0, .int .i64 0, .int .i64 0, .int .i64 0, .int .i64 0, .bool false, .bool false, .bool false, .bool false, .int .i64 0, .int .i64 0, .int .i64 0, .int .i64 0, .int .i64 0, .bool false, .slice none 0 0, .slice none 0 0, .int .i64 0, .int .i64 0, .int .i64 0, .int .i64 0, .int .i64 0, .bool false, .bool false, .bool false, .int .i64 0, .bool false, .int .i64 0, .slice none 0 0, .slice none 0 0, .slice none 0 0] 49)) := ((Below.refl _ _).alloc (Nat.le_refl _) _).alloc (by simp) _
  have k0 : ((w.alloc (.cells cs 49)).alloc (.cells #[.slice none 0 0, .slice none 0 0, .slice none 0 0, .int .i64 0, .int .i64 0, .int .i64 0, .int .i64 0, .int .i64 0, .bool false, .bool false, .bool false, .bool false, .int .i64 0, .int .i64 0, .int .i64 0, .int .i64 0, .int .i64 0, .bool false, .slice none 0 0, .slice none 0 0, .int .i64 0, .int .i64 0, .int .i64 0, .int .i64 0, .int .i64 0, .bool false, .bool false, .bool false, .int .i64 0, .bool false, .int .i64 0, .slice none 0 0, .slice none 0 0, .slice none 0 0] 49)).heap[w.heap.size]? = some (.cells cs 49 (0, 0)) := boxA (box_new w _ _) _
  have k1 : ((w.alloc (.cells cs 49)).alloc (.cells #[.slice none 0 0, .slice none 0 0, .slice none 0 0, .int .i64 0, .int .i64 0, .int .i64 0, .int .i64 0, .int .i64 0, .bool false, .bool false, .bool false, .bool false, .int .i64 0, .int .i64 0, .int .i64 0, .int .i64 0, .int .i64 0, .bool false, .slice none 0 0, .slice none 0 0, .int .i64 0, .int .i64 0, .int .i64 0, .int .i64 0, .int .i64 0, .bool false, .bool false, .bool false, .int .i64 0, .bool false, .int .i64 0, .slice none 0 0, .slice none 0 0, .slice none 0 0] 49)).heap[w.heap.size + 1]? = some (.cells #[.slice none 0 0, .slice none 0 0, .slice none 0 0, .int .i64 0, .int .i64 0, .int .i64 0, .int .i64 0, .int .i64 0, .bool false, .bool false, .bool false, .bool false, .int .i64 0, .int .i64 0, .int .i64 0, .int .i64 0, .int .i64 0, .bool false, .slice none 0 0, .slice none 0 0, .int .i64 0, .int .i64 0, .int .i64 0, .int .i64 0, .int .i64 0, .bool false, .bool false, .bool false, .int .i64 0, .bool false, .int .i64 0, .slice none 0 0, .slice none 0 0, .slice none 0 0] 49 (0, 0)) := by simpa using box_new (w.alloc (.cells cs 49)) #[.slice none 0 0, .slice none 0 0, .slice none 0 0, .int .i64 0, .int .i64 0, .int .i64 0, .int .i64 0, .int .i64 0, .bool false, .bool false, .bool false, .bool false, .int .i64 0, .int .i64 0, .int .i64 0, .int .i64 0, .int .i64 0, .bool false, .slice none 0 0, .slice none 0 0, .int .i64 0, .int .i64 0, .int .i64 0, .int .i64 0, .int .i64 0, .bool false, .bool false, .bool false, .int .i64 0, .bool false, .int .i64 0, .slice none 0 0, .slice none 0 0, .slice none 0 0] 49
  go_enter Tryz.func12, Tryz.ntmps12
  go_upto_region 1 with (fail)
  generalize (w.alloc (.cells cs 49)).alloc (.cells #[.slice none 0 0, .slice none 0 0, .slice none 0 0, .int .i64 0, .int .i64 0, .int .i64 0, .int .i64 0, .int .i64 0, .bool false, .bool false, .bool false, .bool false, .int .i64 0, .int .i64 0, .int .i64 0, .int .i64 0, .int .i64 0, .bool false, .slice none 0 0, .slice none 0 0, .int .i64 0, .int .i64 0, .int .i64 0, .int .i64 0, .int .i64 0, .bool false, .bool false, .bool false, .int .i64 0, .bool false, .int .i64 0, .slice none 0 0, .slice none 0 0, .slice none 0 0] 49) = W0 at *
  refine wp_region_lit ?_
  refine wpList_load_row rfl _ _ rfl (w.heap.size) rfl _ _ _ _ k0 Tryz.underlying49 rfl (infoAt infoLock hsz) ?_
  go_wp2_with fail
  refine (l12Copy _ D _ d (H.below L0)).mono ?_
  rintro e W1 ⟨vC, rfl, oC, L⟩
  obtain ⟨cC, rfl, sC, oneC⟩ := oC.agg
  have hb1 := boxLt k1
  have C1 := below_snoc L0 L
  replace k0 := box_keep k0 L (boxLt k0)
  replace k1 := box_keep k1 L (boxLt k1)
  have l01 := L.size
  clear L L0
  have x6 := box_new W1 cC 49
  have LA : Below W1.heap.size W1 (W1.alloc (.cells cC 49)) := (Below.refl _ _).alloc (Nat.le_refl _) _
  replace C1 := below_snoc C1 LA
  replace k0 := box_keep k0 LA (boxLt k0)
  replace k1 := box_keep k1 LA (boxLt k1)
  replace oC := oC.below LA
  have lA := LA.size
  clear LA
  have hst := run_storeCells_new (P := Tryz.prog) W1 49 #[.slice none 0 0, .slice none 0 0, .slice none 0 0, .int .i64 0, .int .i64 0, .int .i64 0, .int .i64 0, .int .i64 0, .bool false, .bool false, .bool false, .bool false, .int .i64 0, .int .i64 0, .int .i64 0, .int .i64 0, .int .i64 0, .bool false, .slice none 0 0, .slice none 0 0, .int .i64 0, .int .i64 0, .int .i64 0, .int .i64 0, .int .i64 0, .bool false, .bool false, .bool false, .int .i64 0, .bool false, .int .i64 0, .slice none 0 0, .slice none 0 0, .slice none 0 0] cC (infoAt infoLock sC) (by rw [sC]; rfl) oneC
  go_upto_region 2 with (fail)
  clear hst
  obtain ⟨z, hz⟩ : ∃ z, Hid (z = W1.heap.size) := ⟨_, rfl⟩
  rw [← hz.out] at x6 ⊢
  clear hz
  generalize W1.alloc (.cells cC 49) = W2 at *
  refine wp_region_lit ?_
  refine wpList_load_row rfl _ _ rfl (w.heap.size) rfl _ _ _ _ k0 Tryz.underlying49 rfl (infoAt infoLock hsz) ?_
  go_wp2_with fail
  refine (specLockOk _ D _ d (H.keep (wrote_below C1 Nowhere) (fun _ _ _ _ _ x => x))).mono ?_
  rintro e W3 ⟨rfl, L⟩
  replace C1 := below_snoc C1 L
  replace k0 := box_keep k0 L (boxLt k0)
  replace k1 := box_keep k1 L (boxLt k1)
  replace x6 := box_keep x6 L (boxLt x6)
  replace oC := oC.below L
  have l23 := L.size
  clear L
  cases hok : okLock d
  · have E1 : Hid (rd = d) := by show _ = _; rw [hrd.out, hok]; rfl
    go_upto_region 3 with (fail)
    rename_i K2 hK2
    refine wp_region_lit ?_
    refine wpList_load_row rfl _ _ rfl (z) rfl _ _ _ _ x6 Tryz.underlying49 rfl (infoAt infoLock sC) ?_
    refine wpList_store_row rfl _ _ _ rfl (w.heap.size + 1) cC rfl rfl _ _ k1 (infoAt infoLock sC) (by rw [sC]; rfl) oneC ?_
    have B3 := setRow_heap _ _ _ cC _ _ k1
    have WW := wrote_setRow k1 cC
    have OO := hide (oC.low WW (fun b o (e : b = _) => by omega))
    have LL := hide (C1.trans (WW.below C1.size (fun b o hb (e : b = _) => by omega)))
    clear WW oC C1 k0 x6
    generalize W3.setRow (w.heap.size + 1) cC = W4 at *
    refine hK2 _ _ ?_
    go_wp2
    refine bodyPost_ret (v := .agg cC) (results_cell_row Tryz.results12 _ _ (w.heap.size + 1) _ _ _ _ rfl B3 Tryz.underlying49 rfl (infoAt infoLock sC)) rfl ?_
    rw [E1.out]
    exact ⟨_, rfl, OO.out.keepLo (by omega), LL.out⟩
  · have E1 : Hid (rd = writeD d a y) := by show _ = _; rw [hrd.out, hok]; rfl
    go_upto_region 4 with (fail)
    rename_i K2 hK2
    refine wp_region_lit ?_
    refine wpList_load_row rfl _ _ rfl (z) rfl _ _ _ _ x6 Tryz.underlying49 rfl (infoAt infoLock sC) ?_
    go_wp2_with fail
    rename_i K3 hK3
    refine (l12Write _ W0.heap.size _ d a y oC (by omega) hok).mono ?_
    rintro e W4 ⟨vR, rfl, oR, LB⟩
    obtain ⟨cR, rfl, sR, oneR⟩ := oR.agg
    replace C1 := C1.trans (LB.mono (by omega))
    replace k1 := box_keep k1 LB (by omega)
    have l34 := LB.size
    clear oC x6 k0 LB
    refine hK3 _ _ ?_
    clear hK3
    refine wpList_store_row rfl _ _ _ rfl (w.heap.size + 1) cR rfl rfl _ _ k1 (infoAt infoLock sR) (by rw [sR]; rfl) oneR ?_
    have B3 := setRow_heap _ _ _ cR _ _ k1
    have WW := wrote_setRow k1 cR
    have OO := hide (oR.low WW (fun b o (e : b = _) => by omega))
    have LL := hide (C1.trans (WW.below C1.size (fun b o hb (e : b = _) => by omega)))
    clear WW oR C1
    generalize W4.setRow (w.heap.size + 1) cR = W6 at *
    refine hK2 _ _ ?_
    go_wp2
    refine bodyPost_ret (v := .agg cR) (results_cell_row Tryz.results12 _ _ (w.heap.size + 1) _ _ _ _ rfl B3 Tryz.underlying49 rfl (infoAt infoLock sR)) rfl ?_
    rw [E1.out]
    exact ⟨_, rfl, OO.out.keepLo (by omega), LL.out⟩
end Go.Proofs.YtpaedkefmebjjarGreat
namespace Go.Proofs.YtpaedkefmebjjarGreat
set_option linter.unusedVariables false
set_option linter.unusedSimpArgs false
open Go.ChangeShapes Go.WideShapes Go.ChangeAt Go.RowKit
theorem LockAw.agg {W : World} {lo : Nat} {v : Value} {d : LockD} (H : LockAw W lo v d) : ∃ cs, v = .agg cs ∧ cs.size = 34 ∧ cs.all (·.oneCell') = true := by
  obtain ⟨D, u0, u1, u2, u3, u4, u5, u6, u7, ob, iv, ov, o6, o7, rfl, h⟩ := H
  exact h.on.agg
/-- A console that is put into a new box. -/
theorem LockAw.bx {W : World} {lo : Nat} {cC : Array Value} {d : LockD} (H : LockAw W lo (.agg cC) d) : LockBx (W.alloc (.cells cC 49)) lo W.heap.size d := by
  obtain ⟨D, u0, u1, u2, u3, u4, u5, u6, u7, ob, iv, ov, o6, o7, e, h⟩ := H
  simp only [Value.agg.injEq] at e
  subst e
  have LA : Below W.heap.size W (W.alloc (.cells #[u0, u1, u2, .int .i64 d.bank, .int .i64 d.A, .int .i64 d.X, .int .i64 d.S, .int .i64 d.Pc, .bool d.Z, .bool d.N, .bool d.C, .bool d.I, .int .i64 d.t, .int .i64 d.c, .int .i64 d.s, .int .i64 d.ad, .int .i64 d.pl, .bool d.bl, u3, u4, .int .i64 d.T, .int .i64 d.P, .int .i64 d.K, .int .i64 d.B, .int .i64 d.L, .bool d.Q, .bool d.R, .bool d.hd, .int .i64 d.sh, .bool d.nmi, .int .i64 d.st, u5, u6, u7] 49)) := (Below.refl _ _).alloc (Nat.le_refl _) _
  exact ⟨D, u0, u1, u2, u3, u4, u5, u6, u7, ob, iv, ov, o6, o7, (h.below LA).upTo LA.size (Nat.le_refl _), fun i b hb e => by have := h.bd i b hb; omega, box_new W _ _⟩
theorem LockBx.below {W W' : World} {lo z : Nat} {d : LockD} (H : LockBx W lo z d) (L : Below W.heap.size W W') : LockBx W' lo z d := by
  obtain ⟨D, u0, u1, u2, u3, u4, u5, u6, u7, ob, iv, ov, o6, o7, h, hz, B⟩ := H
  exact ⟨D, u0, u1, u2, u3, u4, u5, u6, u7, ob, iv, ov, o6, o7, (h.below L).upTo L.size (Nat.le_refl _), hz, box_keep B L (boxLt B)⟩
/-- What lies in the box. -/
theorem LockBx.box {W : World} {lo z : Nat} {d : LockD} (H : LockBx W lo z d) : ∃ cC, W.heap[z]? = some (.cells cC 49 (0, 0)) ∧ cC.size = 34 ∧ cC.all (·.oneCell') = true ∧ ∃ D, LockOn W D (.agg cC) d ∧ Dis D ∧ ∀ i b, D i b → lo ≤ b ∧ b < W.heap.size := by
  obtain ⟨D, u0, u1, u2, u3, u4, u5, u6, u7, ob, iv, ov, o6, o7, h, hz, B⟩ := H
  obtain ⟨c, e, h1, h2⟩ := h.on.agg
  simp only [Value.agg.injEq] at e
  subst e
  exact ⟨_, B, h1, h2, D, h.on, h.dis, h.bd⟩
set_option maxRecDepth 40000 in
set_option maxHeartbeats 4000000 in
theorem implLockRead (w : World) (D : Nat → Nat → Prop) (v : Value) (d : LockD) (a : Int) (H : LockOn w D v d) (hnq : okLock d = true → d.nq < 1048576) : Calls Tryz.prog 8 #[v, .int .i64 a] w fun e w' => ∃ v', e = .returned (.tuple #[v', .int .i64 (if okLock d then readV d a else 0)]) ∧ (∃ D', LockOn w' D' v' (if okLock d then readD d a else d) ∧ Dis D' ∧ ∀ i b, D' i b → w.heap.size ≤ b ∧ b < w'.heap.size) ∧ Below w.heap.size w w' := by
  obtain ⟨cs, rfl, hsz, hone⟩ := H.agg
  obtain ⟨rv, hrv⟩ : ∃ x, Hid (x = if okLock d then readV d a else 0) := ⟨_, rfl⟩
  obtain ⟨rd, hrd⟩ : ∃ x, Hid (x = if okLock d then readD d a else d) := ⟨_, rfl⟩
  rw [← hrv.out, ← hrd.out]
  have L0 : Below w.heap.size w ((w.alloc (.cells cs 49)).alloc (.cells #[.slice none 0 0, .slice none 0 0, .slice none 0 0, .int .i64 0, .int .i64 0, .int .i64 0, .int .i64 0, .int .i64 0, .bool false, .bool false, .bool false, .bool false, .int .i64 0, .int .i64 0, .int .i64 0, .int .i64 0, .int .i64 0, .bool false, .slice none 0 0, .slice none 0 0, .int .i64 0, .int .i64 0, .int .i64 0, .int .i64 0, .int .i64 0, .bool false, .bool false, .bool false, .int .i64 0, .bool false, .int .i64 0, .slice none 0 0, .slice none 0 0, .slice none 0 0] 49)) := ((Below.refl _ _).alloc (Nat.le_refl _) _).alloc (by simp) _
  have k0 : ((w.alloc (.cells cs 49)).alloc (.cells #[.slice none 0 0, .slice none 0 0, .slice none 0 0, .int .i64 0, .int .i64 0, .int .i64 0, .int .i64 0, .int .i64 0, .bool false, .bool false, .bool false, .bool false, .int .i64 0, .int .i64 0, .int .i64 0, .int .i64 0, .int .i64 0, .bool false, .slice none 0 0, .slice none 0 0, .int .i64 0, .int .i64 0, .int .i64 0, .int .i64 0, .int .i64 0, .bool false, .bool false, .bool false, .int .i64 0, .bool false, .int .i64 0, .slice none 0 0, .slice none 0 0, .slice none 0 0] 49)).heap[w.heap.size]? = some (.cells cs 49 (0, 0)) := boxA (box_new w _ _) _
  have k1 : ((w.alloc (.cells cs 49)).alloc (.cells #[.slice none 0 0, .slice none 0 0, .slice none 0 0, .int .i64 0, .int .i64 0, .int .i64 0, .int .i64 0, .int .i64 0, .bool false, .bool false, .bool false, .bool false, .int .i64 0, .int .i64 0, .int .i64 0, .int .i64 0, .int .i64 0, .bool false, .slice none 0 0, .slice none 0 0, .int .i64 0, .int .i64 0, .int .i64 0, .int .i64 0, .int .i64 0, .bool false, .bool false, .bool false, .int .i64 0, .bool false, .int .i64 0, .slice none 0 0, .slice none 0 0, .slice none 0 0] 49)).heap[w.heap.size + 1]? = some (.cells #[.slice none 0 0, .slice none 0 0, .slice none 0 0, .int .i64 0, .int .i64 0, .int .i64 0, .int .i64 0, .int .i64 0, .bool false, .bool false, .bool false, .bool false, .int .i64 0, .int .i64 0, .int .i64 0, .int .i64 0, .int .i64 0, .bool false, .slice none 0 0, .slice none 0 0, .int .i64 0, .int .i64 0, .int .i64 0, .int .i64 0, .int .i64 0, .bool false, .bool false, .bool false, .int .i64 0, .bool false, .int .i64 0, .slice none 0 0, .slice none 0 0, .slice none 0 0] 49 (0, 0)) := by simpa using box_new (w.alloc (.cells cs 49)) #[.slice none 0 0, .slice none 0 0, .slice none 0 0, .int .i64 0, .int .i64 0, .int .i64 0, .int .i64 0, .int .i64 0, .bool false, .bool false, .bool false, .bool false, .int .i64 0, .int .i64 0, .int .i64 0, .int .i64 0, .int .i64 0, .bool false, .slice none 0 0, .slice none 0 0, .int .i64 0, .int .i64 0, .int .i64 0, .int .i64 0, .int .i64 0, .bool false, .bool false, .bool false, .int .i64 0, .bool false, .int .i64 0, .slice none 0 0, .slice none 0 0, .slice none 0 0] 49
  go_enter Tryz.func8, Tryz.ntmps8
  go_upto_region 1 with (fail)
  generalize (w.alloc (.cells cs 49)).alloc (.cells #[.slice none 0 0, .slice none 0 0, .slice none 0 0, .int .i64 0, .int .i64 0, .int .i64 0, .int .i64 0, .int .i64 0, .bool false, .bool false, .bool false, .bool false, .int .i64 0, .int .i64 0, .int .i64 0, .int .i64 0, .int .i64 0, .bool false, .slice none 0 0, .slice none 0 0, .int .i64 0, .int .i64 0, .int .i64 0, .int .i64 0, .int .i64 0, .bool false, .bool false, .bool false, .int .i64 0, .bool false, .int .i64 0, .slice none 0 0, .slice none 0 0, .slice none 0 0] 49) = W0 at *
  refine wp_region_lit ?_
  refine wpList_load_row rfl _ _ rfl (w.heap.size) rfl _ _ _ _ k0 Tryz.underlying49 rfl (infoAt infoLock hsz) ?_
  go_wp2_with fail
  refine (copyLock _ D _ d (H.below L0)).mono ?_
  rintro e W1 ⟨vC, rfl, oC, L⟩
  obtain ⟨cC, rfl, sC, oneC⟩ := oC.agg
  have hb1 := boxLt k1
  have C1 := below_snoc L0 L
  replace k0 := box_keep k0 L (boxLt k0)
  replace k1 := box_keep k1 L (boxLt k1)
  have l01 := L.size
  clear L L0
  have bx := oC.bx
  have LA : Below W1.heap.size W1 (W1.alloc (.cells cC 49)) := (Below.refl _ _).alloc (Nat.le_refl _) _
  replace C1 := below_snoc C1 LA
  replace k0 := box_keep k0 LA (boxLt k0)
  replace k1 := box_keep k1 LA (boxLt k1)
  have lA := LA.size
  clear LA oC
  have hst := run_storeCells_new (P := Tryz.prog) W1 49 #[.slice none 0 0, .slice none 0 0, .slice none 0 0, .int .i64 0, .int .i64 0, .int .i64 0, .int .i64 0, .int .i64 0, .bool false, .bool false, .bool false, .bool false, .int .i64 0, .int .i64 0, .int .i64 0, .int .i64 0, .int .i64 0, .bool false, .slice none 0 0, .slice none 0 0, .int .i64 0, .int .i64 0, .int .i64 0, .int .i64 0, .int .i64 0, .bool false, .bool false, .bool false, .int .i64 0, .bool false, .int .i64 0, .slice none 0 0, .slice none 0 0, .slice none 0 0] cC (infoAt infoLock sC) (by rw [sC]; rfl) oneC
  go_upto_region 2 with (fail)
  clear hst
  obtain ⟨z, hz⟩ : ∃ z, Hid (z = W1.heap.size) := ⟨_, rfl⟩
  rw [← hz.out] at bx l01 lA ⊢
  clear hz
  generalize W1.alloc (.cells cC 49) = W2 at *
  refine wp_region_lit ?_
  refine wpList_load_row rfl _ _ rfl (w.heap.size) rfl _ _ _ _ k0 Tryz.underlying49 rfl (infoAt infoLock hsz) ?_
  go_wp2_with fail
  refine (implLockOk _ D _ d (H.keep (wrote_below C1 Nowhere) (fun _ _ _ _ _ x => x))).mono ?_
  rintro e W3 ⟨rfl, L⟩
  replace C1 := below_snoc C1 L
  replace k1 := box_keep k1 L (boxLt k1)
  replace bx := bx.below L
  have l23 := L.size
  clear L k0 sC oneC
  cases hok : okLock d
  · have E1 : Hid (rv = 0 ∧ rd = d) := ⟨by rw [hrv.out, hok]; rfl, by rw [hrd.out, hok]; rfl⟩
    go_upto_region 3 with (fail)
    obtain ⟨cR, x6, sR, oneR, DR, oR, dR, bR⟩ := bx.box
    rename_i K2 hK2
    refine wp_region_lit ?_
    refine wpList_load_row rfl _ _ rfl (z) rfl _ _ _ _ x6 Tryz.underlying49 rfl (infoAt infoLock sR) ?_
    refine wpList_store_row rfl _ _ _ rfl (w.heap.size + 1) cR rfl rfl _ _ k1 (infoAt infoLock sR) (by rw [sR]; rfl) oneR ?_
    have B3 := setRow_heap _ _ _ cR _ _ k1
    have WW := wrote_setRow k1 cR
    have OO := hide (oR.keep WW (fun i b o h _ (e : b = _) => by have := bR _ _ h; omega))
    have LL := hide (C1.trans (WW.below C1.size (fun b o hb (e : b = _) => by omega)))
    have BB := hide (fun i b h => (⟨Nat.le_trans (by omega) (bR i b h).1, Nat.lt_of_lt_of_le (bR i b h).2 WW.size⟩ : w.heap.size ≤ b ∧ b < (W3.setRow (w.heap.size + 1) cR).heap.size))
    clear WW oR C1 x6 bx bR
    generalize W3.setRow (w.heap.size + 1) cR = W9 at *
    refine wpList_plain rfl (fun K3 hK3 => ?_)
    go_simp
    refine hK3 _ _ ?_
    clear hK3
    refine hK2 _ _ ?_
    go_wp2
    refine bodyPost_ret (v := .tuple #[.agg cR, .int .i64 0]) (results_row_tmp Tryz.results8 _ _ (w.heap.size + 1) _ _ _ _ rfl B3 Tryz.underlying49 rfl (infoAt infoLock sR)) rfl ?_
    rw [E1.out.1, E1.out.2]
    exact ⟨_, rfl, ⟨DR, OO.out, dR, BB.out⟩, LL.out⟩
  · have E1 : Hid (rv = readV d a ∧ rd = readD d a) := ⟨by rw [hrv.out, hok]; rfl, by rw [hrd.out, hok]; rfl⟩
    go_wp2_with fail
    refine (lockRead _ W0.heap.size z d a bx (by omega) hok (hnq hok)).mono ?_
    rintro e W4 ⟨rfl, bx', LB⟩
    replace C1 := C1.trans (LB.mono (by omega))
    replace k1 := box_keep k1 LB (by omega)
    have l34 := LB.size
    clear bx LB
    have bx := bx'
    clear bx'
    go_upto_region 5 with (fail)
    obtain ⟨cR, x6, sR, oneR, DR, oR, dR, bR⟩ := bx.box
    rename_i K2 hK2
    refine wp_region_lit ?_
    refine wpList_load_row rfl _ _ rfl (z) rfl _ _ _ _ x6 Tryz.underlying49 rfl (infoAt infoLock sR) ?_
    refine wpList_plain rfl (fun K3 hK3 => ?_)
    go_simp
    refine hK3 _ _ ?_
    clear hK3
    refine wpList_store_row rfl _ _ _ rfl (w.heap.size + 1) cR rfl rfl _ _ k1 (infoAt infoLock sR) (by rw [sR]; rfl) oneR ?_
    have B3 := setRow_heap _ _ _ cR _ _ k1
    have WW := wrote_setRow k1 cR
    have OO := hide (oR.keep WW (fun i b o h _ (e : b = _) => by have := bR _ _ h; omega))
    have LL := hide (C1.trans (WW.below C1.size (fun b o hb (e : b = _) => by omega)))
    have BB := hide (fun i b h => (⟨Nat.le_trans (by omega) (bR i b h).1, Nat.lt_of_lt_of_le (bR i b h).2 WW.size⟩ : w.heap.size ≤ b ∧ b < (W4.setRow (w.heap.size + 1) cR).heap.size))
    clear WW oR C1 x6 bx bR
    generalize W4.setRow (w.heap.size + 1) cR = W9 at *
    refine wpList_plain rfl (fun K3 hK3 => ?_)
    go_simp
    refine hK3 _ _ ?_
    clear hK3
    refine hK2 _ _ ?_
    go_wp2
    refine bodyPost_ret (v := .tuple #[.agg cR, .int .i64 (readV d a)]) (results_row_tmp Tryz.results8 _ _ (w.heap.size + 1) _ _ _ _ rfl B3 Tryz.underlying49 rfl (infoAt infoLock sR)) rfl ?_
    rw [E1.out.1, E1.out.2]
    exact ⟨_, rfl, ⟨DR, OO.out, dR, BB.out⟩, LL.out⟩
set_option maxRecDepth 40000 in
set_option maxHeartbeats 4000000 in
theorem implLockWrite (w : World) (D : Nat → Nat → Prop) (v : Value) (d : LockD) (a y : Int) (H : LockOn w D v d) : Calls Tryz.prog 13 #[v, .int .i64 a, .int .i64 y] w fun e w' => ∃ v', e = .returned v' ∧ (∃ D', LockOn w' D' v' (if okLock d then writeD d a y else d) ∧ Dis D' ∧ ∀ i b, D' i b → w.heap.size ≤ b ∧ b < w'.heap.size) ∧ Below w.heap.size w w' := by
  obtain ⟨cs, rfl, hsz, hone⟩ := H.agg
  obtain ⟨rd, hrd⟩ : ∃ x, Hid (x = if okLock d then writeD d a y else d) := ⟨_, rfl⟩
  rw [← hrd.out]
  have L0 : Below w.heap.size w ((w.alloc (.cells cs 49)).alloc (.cells #[.slice none 0 0, .slice none 0 0, .slice none 0 0, .int .i64 0, .int .i64 0, .int .i64 0, .int .i64 0, .int .i64 0, .bool false, .bool false, .bool false, .bool false, .int .i64 0, .int .i64 0, .int .i64 0, .int .i64 0, .int .i64 0, .bool false, .slice none 0 0, .slice none 0 0, .int .i64 0, .int .i64 0, .int .i64 0, .int .i64 0, .int .i64 0, .bool false, .bool false, .bool false, .int .i64 0, .bool false, .int .i64 0, .slice none 0 0, .slice none 0 0, .slice none 0 0] 49)) := ((Below.refl _ _).alloc (Nat.le_refl _) _).alloc (by simp) _
  have k0 : ((w.alloc (.cells cs 49)).alloc (.cells #[.slice none 0 0, .slice none 0 0, .slice none 0 0, .int .i64 0, .int .i64 0, .int .i64 0, .int .i64 0, .int .i64 0, .bool false, .bool false, .bool false, .bool false, .int .i64 0, .int .i64 0, .int .i64 0, .int .i64 0, .int .i64 0, .bool false, .slice none 0 0, .slice none 0 0, .int .i64 0, .int .i64 0, .int .i64 0, .int .i64 0, .int .i64 0, .bool false, .bool false, .bool false, .int .i64 0, .bool false, .int .i64 0, .slice none 0 0, .slice none 0 0, .slice none 0 0] 49)).heap[w.heap.size]? = some (.cells cs 49 (0, 0)) := boxA (box_new w _ _) _
  have k1 : ((w.alloc (.cells cs 49)).alloc (.cells #[.slice none 0 0, .slice none 0 0, .slice none 0 0, .int .i64 0, .int .i64 0, .int .i64 0, .int .i64 0, .int .i64 0, .bool false, .bool false, .bool false, .bool false, .int .i64 0, .int .i64 0, .int .i64 0, .int .i64 0, .int .i64 0, .bool false, .slice none 0 0, .slice none 0 0, .int .i64 0, .int .i64 0, .int .i64 0, .int .i64 0, .int .i64 0, .bool false, .bool false, .bool false, .int .i64 0, .bool false, .int .i64 0, .slice none 0 0, .slice none 0 0, .slice none 0 0] 49)).heap[w.heap.size + 1]? = some (.cells #[.slice none 0 0, .slice none 0 0, .slice none 0 0, .int .i64 0, .int .i64 0, .int .i64 0, .int .i64 0, .int .i64 0, .bool false, .bool false, .bool false, .bool false, .int .i64 0, .int .i64 0, .int .i64 0, .int .i64 0, .int .i64 0, .bool false, .slice none 0 0, .slice none 0 0, .int .i64 0, .int .i64 0, .int .i64 0, .int .i64 0, .int .i64 0, .bool false, .bool false, .bool false, .int .i64 0, .bool false, .int .i64 0, .slice none 0 0, .slice none 0 0, .slice none 0 0] 49 (0, 0)) := by simpa using box_new (w.alloc (.cells cs 49)) #[.slice none 0 0, .slice none 0 0, .slice none 0 0, .int .i64 0, .int .i64 0, .int .i64 0, .int .i64 0, .int .i64 0, .bool false, .bool false, .bool false, .bool false, .int .i64 0, .int .i64 0, .int .i64 0, .int .i64 0, .int .i64 0, .bool false, .slice none 0 0, .slice none 0 0, .int .i64 0, .int .i64 0, .int .i64 0, .int .i64 0, .int .i64 0, .bool false, .bool false, .bool false, .int .i64 0, .bool false, .int .i64 0, .slice none 0 0, .slice none 0 0, .slice none 0 0] 49
  go_enter Tryz.func13, Tryz.ntmps13
  go_upto_region 1 with (fail)
  generalize (w.alloc (.cells cs 49)).alloc (.cells #[.slice none 0 0, .slice none 0 0, .slice none 0 0, .int .i64 0, .int .i64 0, .int .i64 0, .int .i64 0, .int .i64 0, .bool false, .bool false, .bool false, .bool false, .int .i64 0, .int .i64 0, .int .i64 0, .int .i64 0, .int .i64 0, .bool false, .slice none 0 0, .slice none 0 0, .int .i64 0, .int .i64 0, .int .i64 0, .int .i64 0, .int .i64 0, .bool false, .bool false, .bool false, .int .i64 0, .bool false, .int .i64 0, .slice none 0 0, .slice none 0 0, .slice none 0 0] 49) = W0 at *
  refine wp_region_lit ?_
  refine wpList_load_row rfl _ _ rfl (w.heap.size) rfl _ _ _ _ k0 Tryz.underlying49 rfl (infoAt infoLock hsz) ?_
  go_wp2_with fail
  refine (copyLock _ D _ d (H.below L0)).mono ?_
  rintro e W1 ⟨vC, rfl, oC, L⟩
  obtain ⟨cC, rfl, sC, oneC⟩ := oC.agg
  have hb1 := boxLt k1
  have C1 := below_snoc L0 L
  replace k0 := box_keep k0 L (boxLt k0)
  replace k1 := box_keep k1 L (boxLt k1)
  have l01 := L.size
  clear L L0
  have bx := oC.bx
  have LA : Below W1.heap.size W1 (W1.alloc (.cells cC 49)) := (Below.refl _ _).alloc (Nat.le_refl _) _
  replace C1 := below_snoc C1 LA
  replace k0 := box_keep k0 LA (boxLt k0)
  replace k1 := box_keep k1 LA (boxLt k1)
  have lA := LA.size
  clear LA oC
  have hst := run_storeCells_new (P := Tryz.prog) W1 49 #[.slice none 0 0, .slice none 0 0, .slice none 0 0, .int .i64 0, .int .i64 0, .int .i64 0, .int .i64 0, .int .i64 0, .bool false, .bool false, .bool false, .bool false, .int .i64 0, .int .i64 0, .int .i64 0, .int .i64 0, .int .i64 0, .bool false, .slice none 0 0, .slice none 0 0, .int .i64 0, .int .i64 0, .int .i64 0, .int .i64 0, .int .i64 0, .bool false, .bool false, .bool false, .int .i64 0, .bool false, .int .i64 0, .slice none 0 0, .slice none 0 0, .slice none 0 0] cC (infoAt infoLock sC) (by rw [sC]; rfl) oneC
  go_upto_region 2 with (fail)
  clear hst
  obtain ⟨z, hz⟩ : ∃ z, Hid (z = W1.heap.size) := ⟨_, rfl⟩
  rw [← hz.out] at bx l01 lA ⊢
  clear hz
  generalize W1.alloc (.cells cC 49) = W2 at *
  refine wp_region_lit ?_
  refine wpList_load_row rfl _ _ rfl (w.heap.size) rfl _ _ _ _ k0 Tryz.underlying49 rfl (infoAt infoLock hsz) ?_
  go_wp2_with fail
  refine (implLockOk _ D _ d (H.keep (wrote_below C1 Nowhere) (fun _ _ _ _ _ x => x))).mono ?_
  rintro e W3 ⟨rfl, L⟩
  replace C1 := below_snoc C1 L
  replace k1 := box_keep k1 L (boxLt k1)
  replace bx := bx.below L
  have l23 := L.size
  clear L k0 sC oneC
  cases hok : okLock d
  · have E1 : Hid (rd = d) := by show _ = _; rw [hrd.out, hok]; rfl
    go_upto_region 4 with (fail)
    obtain ⟨cR, x6, sR, oneR, DR, oR, dR, bR⟩ := bx.box
    rename_i K2 hK2
    refine wp_region_lit ?_
    refine wpList_load_row rfl _ _ rfl (z) rfl _ _ _ _ x6 Tryz.underlying49 rfl (infoAt infoLock sR) ?_
    refine wpList_store_row rfl _ _ _ rfl (w.heap.size + 1) cR rfl rfl _ _ k1 (infoAt infoLock sR) (by rw [sR]; rfl) oneR ?_
    have B3 := setRow_heap _ _ _ cR _ _ k1
    have WW := wrote_setRow k1 cR
    have OO := hide (oR.keep WW (fun i b o h _ (e : b = _) => by have := bR _ _ h; omega))
    have LL := hide (C1.trans (WW.below C1.size (fun b o hb (e : b = _) => by omega)))
    have BB := hide (fun i b h => (⟨Nat.le_trans (by omega) (bR i b h).1, Nat.lt_of_lt_of_le (bR i b h).2 WW.size⟩ : w.heap.size ≤ b ∧ b < (W3.setRow (w.heap.size + 1) cR).heap.size))
    clear WW oR C1 x6 bx bR
    generalize W3.setRow (w.heap.size + 1) cR = W9 at *
    refine hK2 _ _ ?_
    go_wp2
    refine bodyPost_ret (v := .agg cR) (results_cell_row (by rfl) _ _ (w.heap.size + 1) _ _ _ _ rfl B3 Tryz.underlying49 rfl (infoAt infoLock sR)) rfl ?_
    rw [E1.out]
    exact ⟨_, rfl, ⟨DR, OO.out, dR, BB.out⟩, LL.out⟩
  · have E1 : Hid (rd = writeD d a y) := by show _ = _; rw [hrd.out, hok]; rfl
    go_wp2_with fail
    refine (lockWrite _ W0.heap.size z d a y bx (by omega) hok).mono ?_
    rintro e W4 ⟨rfl, bx', LB⟩
    replace C1 := C1.trans (LB.mono (by omega))
    replace k1 := box_keep k1 LB (by omega)
    have l34 := LB.size
    clear bx LB
    have bx := bx'
    clear bx'
    go_upto_region 4 with (fail)
    obtain ⟨cR, x6, sR, oneR, DR, oR, dR, bR⟩ := bx.box
    rename_i K2 hK2
    refine wp_region_lit ?_
    refine wpList_load_row rfl _ _ rfl (z) rfl _ _ _ _ x6 Tryz.underlying49 rfl (infoAt infoLock sR) ?_
    refine wpList_store_row rfl _ _ _ rfl (w.heap.size + 1) cR rfl rfl _ _ k1 (infoAt infoLock sR) (by rw [sR]; rfl) oneR ?_
    have B3 := setRow_heap _ _ _ cR _ _ k1
    have WW := wrote_setRow k1 cR
    have OO := hide (oR.keep WW (fun i b o h _ (e : b = _) => by have := bR _ _ h; omega))
    have LL := hide (C1.trans (WW.below C1.size (fun b o hb (e : b = _) => by omega)))
    have BB := hide (fun i b h => (⟨Nat.le_trans (by omega) (bR i b h).1, Nat.lt_of_lt_of_le (bR i b h).2 WW.size⟩ : w.heap.size ≤ b ∧ b < (W4.setRow (w.heap.size + 1) cR).heap.size))
    clear WW oR C1 x6 bx bR
    generalize W4.setRow (w.heap.size + 1) cR = W9 at *
    refine hK2 _ _ ?_
    go_wp2
    refine bodyPost_ret (v := .agg cR) (results_cell_row (by rfl) _ _ (w.heap.size + 1) _ _ _ _ rfl B3 Tryz.underlying49 rfl (infoAt infoLock sR)) rfl ?_
    rw [E1.out]
    exact ⟨_, rfl, ⟨DR, OO.out, dR, BB.out⟩, LL.out⟩
end Go.Proofs.YtpaedkefmebjjarGreat
namespace Go.Proofs.YtpaedkefmebjjarGreat
set_option linter.unusedVariables false
set_option linter.unusedSimpArgs false
open Go.ChangeShapes Go.WideShapes Go.ChangeAt Go.RowKit
theorem wpList_load_rowG {P : Program} {ops : Array Oper} {rest : List Oper} {o : Oper} {a : Act} {w : World} {Q : Exit → Act → World → Prop} (hw : Region.wanted o (yielded ops a.tmps) = true) (ty : TypeId) (x : Operand) (ho : o.op = .load ty x)
    (g : Nat) (hx : a.eval x = .pointer (some ⟨g, 0, none⟩)) (t : TypeId) (cs : Array Value) (fr : Nat × Nat) (d : TypeDesc) (hg : w.heap[g]? = some (.cells cs t fr))
    (hu : P.underlying ty = some d) (hd : (match d with | .struct _ | .array _ _ => true | _ => false) = true) (hi : (P.info? ty).map (·.size) = some cs.size)
    (h : wpList P ops Q rest (a.put o.dst (.agg cs)) w) : wpList P ops Q (o :: rest) a w :=
  wpList_step fun K hK => by rw [if_pos hw]; exact wp_load_row ty x ho g hx t cs fr d hg hu hd hi (hK _ _ h)
theorem markN_le {d : LockD} (hs : szD d ≤ 1048576) : 1 + markN d ≤ 1099511627776 ∧ 0 ≤ markN d := by
  unfold szD at hs
  unfold markN
  omega
theorem markN_read {d : LockD} (hs : szD d ≤ 1048576) (a : Int) : 1 + markN (if okLock d then readD d a else d) ≤ 1099511627776 ∧ 0 ≤ markN (if okLock d then readD d a else d) := by
  have key : markN (readD d a) = markN d ∨ markN (readD d a) = markN d + 1 := by
    unfold readD
    split
    · right; unfold markN; simp; omega
    · split
      · right; unfold markN; simp; omega
      · split
        · right; unfold markN; simp; omega
        · left; rfl
  have h := markN_le hs
  unfold szD at hs
  have h2 : markN d ≤ 1048576 := by unfold markN; omega
  split
  · omega
  · exact h
theorem hnq {d : LockD} (hs : szD d ≤ 1048576) (hok : okLock d = true) : d.nq < 1048576 := by
  have h := (okMem_of (okLock_parts hok).2.1).2.1
  unfold szD at hs
  omega
set_option maxRecDepth 40000 in
set_option maxHeartbeats 8000000 in
theorem lawLockRead (w : World) (d : LockD) (u0 : Value) (ra0 : Nat → Option Addr) (rc0 : Nat → Nat) (a1 : Option Addr) (c1 : Nat) (a2 : Option Addr) (c2 : Nat) (a3 : Option Addr) (c3 : Nat) (a4 : Option Addr) (c4 : Nat) (u5 : Value) (ra5 : Nat → Option Addr) (rc5 : Nat → Nat) (a6 : Option Addr) (c6 : Nat) (a7 : Option Addr) (c7 : Nat) (a : Int) (H : RawA w d u0 ra0 rc0 a1 c1 a2 c2 a3 c3 a4 c4 u5 ra5 rc5 a6 c6 a7 c7) :
    Calls Tryz.prog 3 #[.agg #[u0, .slice a1 d.np c1, .slice a2 d.nr c2, .int .i64 d.bank, .int .i64 d.A, .int .i64 d.X, .int .i64 d.S, .int .i64 d.Pc, .bool d.Z, .bool d.N, .bool d.C, .bool d.I, .int .i64 d.t, .int .i64 d.c, .int .i64 d.s, .int .i64 d.ad, .int .i64 d.pl, .bool d.bl, .slice a3 d.nt c3, .slice a4 d.nd c4, .int .i64 d.T, .int .i64 d.P, .int .i64 d.K, .int .i64 d.B, .int .i64 d.L, .bool d.Q, .bool d.R, .bool d.hd, .int .i64 d.sh, .bool d.nmi, .int .i64 d.st, u5, .slice a6 d.ns c6, .slice a7 d.nq c7], .int .i64 a] w fun e w' => e = .returned (.bool true) ∧ Below w.heap.size w w' := by
  obtain ⟨cs, hcs⟩ : ∃ cs : Array Value, Hid (cs = #[u0, .slice a1 d.np c1, .slice a2 d.nr c2, .int .i64 d.bank, .int .i64 d.A, .int .i64 d.X, .int .i64 d.S, .int .i64 d.Pc, .bool d.Z, .bool d.N, .bool d.C, .bool d.I, .int .i64 d.t, .int .i64 d.c, .int .i64 d.s, .int .i64 d.ad, .int .i64 d.pl, .bool d.bl, .slice a3 d.nt c3, .slice a4 d.nd c4, .int .i64 d.T, .int .i64 d.P, .int .i64 d.K, .int .i64 d.B, .int .i64 d.L, .bool d.Q, .bool d.R, .bool d.hd, .int .i64 d.sh, .bool d.nmi, .int .i64 d.st, u5, .slice a6 d.ns c6, .slice a7 d.nq c7]) := ⟨_, rfl⟩
  have hsz : cs.size = 34 := by rw [hcs.out]; rfl
  have HZ : Hid (∀ W, RawSS W u0 d.m ra0 d.ln rc0 d.f → RawSS W u5 d.mf ra5 d.lf rc5 d.fr → Calls Tryz.prog 5 #[.agg cs, .int .i64 1048576] W fun e w' => e = .returned (.int .i64 (szOut 1048576 (szD d))) ∧ Below W.heap.size W w') := fun W h0 h5 => by
    rw [hcs.out]
    exact szLock W d u0 ra0 rc0 a1 c1 a2 c2 a3 c3 a4 c4 u5 ra5 rc5 a6 c6 a7 c7 1048576 h0 h5 H.n1 H.n2 H.n3 H.n4 H.n6 H.n7 (by omega) (by omega)
  have HT : Hid (szD d ≤ 1048576 → ∀ W, Below w.heap.size w W → Calls Tryz.prog 7 #[.agg cs] W fun e w' => ∃ cs', cs'.size = 34 ∧ cs'.all (·.oneCell') = true ∧ e = .returned (.agg cs') ∧ (∃ D, LockOn w' D (.agg cs') d ∧ Dis D ∧ ∀ i b, D i b → W.heap.size ≤ b ∧ b < w'.heap.size) ∧ Below W.heap.size W w') := fun hs W L => by
    rw [hcs.out]
    refine (onToLock W u0 (.slice a1 d.np c1) (.slice a2 d.nr c2) (.slice a3 d.nt c3) (.slice a4 d.nd c4) u5 (.slice a6 d.ns c6) (.slice a7 d.nq c7) d (H.raw hs L) (szD_parts hs).1 (szD_parts hs).2).mono ?_
    rintro e w' ⟨v, rfl, ⟨D, o, h1, h2⟩, L'⟩
    obtain ⟨cs', rfl, hs', ho'⟩ := o.agg
    exact ⟨cs', hs', ho', rfl, ⟨D, o, h1, h2⟩, L'⟩
  rw [← hcs.out]
  clear hcs
  have C0 : Below w.heap.size w (w.alloc (.cells cs 39)) := (Below.refl _ _).alloc (Nat.le_refl _) _
  have k0 := box_new w cs 39
  have R0 := hide (H.r0.below C0)
  have R5 := hide (H.r5.below C0)
  clear H
  go_enter Tryz.func3, Tryz.ntmps3
  go_upto_region 2 with (fail)
  generalize w.alloc (.cells cs 39) = W0 at *
  refine wp_region_lit ?_
  refine wpList_load_row rfl _ _ rfl (w.heap.size) rfl _ _ _ _ k0 Tryz.underlying39 rfl (infoAt infoLaws hsz) ?_
  go_wp2_with fail
  refine (HZ.out _ R0.out R5.out).mono ?_
  rintro e W1 ⟨rfl, L⟩
  have C1 := below_snoc C0 L
  replace k0 := box_keep k0 L (boxLt k0)
  have hk00 := boxLt k0
  clear L C0 R0 R5 HZ
  by_cases hbig : (1048576 : Int) < (szD d : Int)
  · have HZ := hide (szOut_no hbig)
    rw [HZ.out]
    go_wp2
    go_ret
    exact ⟨rfl, C1⟩
  have HZ := hide (szOut_ok (show (szD d : Int) ≤ 1048576 by omega))
  rw [HZ.out]
  replace HT := hide (HT.out (by omega))
  have HS := hide (show szD d ≤ 1048576 by omega)
  obtain ⟨lf, hlf⟩ : ∃ lf : Int, Hid (lf = 1048576 - (szD d : Int)) := ⟨_, rfl⟩
  rw [← hlf.out]
  have hnn : ¬ (lf < 0) := by rw [hlf.out]; omega
  clear HZ hbig hlf
  go_upto_region 5 with (fail)
  refine wp_region_lit ?_
  refine wpList_load_row rfl _ _ rfl (w.heap.size) rfl _ _ _ _ k0 Tryz.underlying39 rfl (infoAt infoLaws hsz) ?_
  go_wp2_with fail
  refine (HT.out _ C1).mono ?_
  rintro e W2 ⟨cS, scS, onecS, rfl, ⟨DS, oS, -, -⟩, L⟩
  have C2 := below_snoc C1 L
  replace k0 := box_keep k0 L (boxLt k0)
  have sz2 := L.size
  clear L C1
  go_wp2_with fail
  refine (specLockRead _ DS _ d a oS (hnq HS.out)).mono ?_
  rintro e W3 ⟨vW, rfl, oW', L⟩
  have C3 := below_snoc C2 L
  replace k0 := box_keep k0 L (boxLt k0)
  have sz3 := L.size
  clear L C2
  clear oS
  obtain ⟨DW, oW, -, bW⟩ := oW'.on
  clear oW'
  obtain ⟨cW, rfl, scW, onecW⟩ := oW.agg
  obtain ⟨rd, hrd⟩ : ∃ x, Hid (x = if okLock d then readD d a else d) := ⟨_, rfl⟩
  obtain ⟨rv, hrv⟩ : ∃ x, Hid (x = if okLock d then readV d a else 0) := ⟨_, rfl⟩
  have HI := hide (fun W D v h => implLockRead W D v d a h (hnq HS.out))
  rw [← hrd.out, ← hrv.out] at HI
  rw [← hrd.out] at oW
  rw [← hrv.out]
  have HMR : Hid (1 + markN rd ≤ 1099511627776 ∧ 0 ≤ markN rd) := by rw [hrd.out]; exact markN_read HS.out a
  have HMD : Hid (1 + markN d ≤ 1099511627776 ∧ 0 ≤ markN d) := markN_le HS.out
  clear hrd hrv
  have hst := run_storeCells_new (P := Tryz.prog) W3 49 #[.slice none 0 0, .slice none 0 0, .slice none 0 0, .int .i64 0, .int .i64 0, .int .i64 0, .int .i64 0, .int .i64 0, .bool false, .bool false, .bool false, .bool false, .int .i64 0, .int .i64 0, .int .i64 0, .int .i64 0, .int .i64 0, .bool false, .slice none 0 0, .slice none 0 0, .int .i64 0, .int .i64 0, .int .i64 0, .int .i64 0, .int .i64 0, .bool false, .bool false, .bool false, .int .i64 0, .bool false, .int .i64 0, .slice none 0 0, .slice none 0 0, .slice none 0 0] cW (infoAt infoLock scW) (by rw [scW]; rfl) onecW
  have bxW := box_new W3 cW 49
  have LA : Below W3.heap.size W3 (W3.alloc (.cells cW 49)) := (Below.refl _ _).alloc (Nat.le_refl _) _
  go_upto_region 6 with (fail)
  clear hst
  have C4 := below_snoc C3 LA
  replace k0 := box_keep k0 LA (boxLt k0)
  replace oW := oW.below LA
  have sz4 := LA.size
  clear LA C3
  obtain ⟨zbxW, hzbxW⟩ : ∃ z, Hid (z = W3.heap.size) := ⟨_, rfl⟩
  rw [← hzbxW.out] at bxW ⊢
  generalize W3.alloc (.cells cW 49) = W4 at *
  have gzbxW : W3.heap.size ≤ zbxW := by rw [hzbxW.out]; exact Nat.le_refl _
  have lzbxW := boxLt bxW
  clear hzbxW
  refine wp_region_lit ?_
  refine wpList_load_row rfl _ _ rfl (w.heap.size) rfl _ _ _ _ k0 Tryz.underlying39 rfl (infoAt infoLaws hsz) ?_
  go_wp2_with fail
  refine (HT.out _ C4).mono ?_
  rintro e W5 ⟨c0, sc0, onec0, rfl, ⟨D0, o0, d0, b0⟩, L⟩
  have C5 := below_snoc C4 L
  replace k0 := box_keep k0 L (boxLt k0)
  replace bxW := box_keep bxW L (boxLt bxW)
  replace oW := oW.below L
  have sz5 := L.size
  clear L C4
  have hst := run_storeCells_new (P := Tryz.prog) W5 49 #[.slice none 0 0, .slice none 0 0, .slice none 0 0, .int .i64 0, .int .i64 0, .int .i64 0, .int .i64 0, .int .i64 0, .bool false, .bool false, .bool false, .bool false, .int .i64 0, .int .i64 0, .int .i64 0, .int .i64 0, .int .i64 0, .bool false, .slice none 0 0, .slice none 0 0, .int .i64 0, .int .i64 0, .int .i64 0, .int .i64 0, .int .i64 0, .bool false, .bool false, .bool false, .int .i64 0, .bool false, .int .i64 0, .slice none 0 0, .slice none 0 0, .slice none 0 0] c0 (infoAt infoLock sc0) (by rw [sc0]; rfl) onec0
  have bx0 := box_new W5 c0 49
  have LA : Below W5.heap.size W5 (W5.alloc (.cells c0 49)) := (Below.refl _ _).alloc (Nat.le_refl _) _
  go_upto_region 7 with (fail)
  clear hst
  have C6 := below_snoc C5 LA
  replace k0 := box_keep k0 LA (boxLt k0)
  replace bxW := box_keep bxW LA (boxLt bxW)
  replace oW := oW.below LA
  replace o0 := o0.below LA
  have sz6 := LA.size
  clear LA C5
  obtain ⟨zbx0, hzbx0⟩ : ∃ z, Hid (z = W5.heap.size) := ⟨_, rfl⟩
  rw [← hzbx0.out] at bx0 ⊢
  generalize W5.alloc (.cells c0 49) = W6 at *
  have gzbx0 : W5.heap.size ≤ zbx0 := by rw [hzbx0.out]; exact Nat.le_refl _
  have lzbx0 := boxLt bx0
  clear hzbx0
  refine wp_region_lit ?_
  refine wpList_load_row rfl _ _ rfl (zbx0) rfl _ _ _ _ bx0 Tryz.underlying49 rfl (infoAt infoLock sc0) ?_
  go_wp2_with fail
  refine (HI.out _ D0 _ o0).mono ?_
  rintro e W7 ⟨vG, rfl, ⟨DG, oG, dG, bG⟩, L⟩
  have C7 := below_snoc C6 L
  replace k0 := box_keep k0 L (boxLt k0)
  replace bxW := box_keep bxW L (boxLt bxW)
  replace bx0 := box_keep bx0 L (boxLt bx0)
  replace oW := oW.below L
  replace o0 := o0.below L
  have sz7 := L.size
  clear L C6
  obtain ⟨cG, rfl, scG, onecG⟩ := oG.agg
  have hst := run_storeCells_new (P := Tryz.prog) W7 49 #[.slice none 0 0, .slice none 0 0, .slice none 0 0, .int .i64 0, .int .i64 0, .int .i64 0, .int .i64 0, .int .i64 0, .bool false, .bool false, .bool false, .bool false, .int .i64 0, .int .i64 0, .int .i64 0, .int .i64 0, .int .i64 0, .bool false, .slice none 0 0, .slice none 0 0, .int .i64 0, .int .i64 0, .int .i64 0, .int .i64 0, .int .i64 0, .bool false, .bool false, .bool false, .int .i64 0, .bool false, .int .i64 0, .slice none 0 0, .slice none 0 0, .slice none 0 0] cG (infoAt infoLock scG) (by rw [scG]; rfl) onecG
  have bxG := box_new W7 cG 49
  have LA : Below W7.heap.size W7 (W7.alloc (.cells cG 49)) := (Below.refl _ _).alloc (Nat.le_refl _) _
  go_upto_region 8 with (fail)
  clear hst
  have C8 := below_snoc C7 LA
  replace k0 := box_keep k0 LA (boxLt k0)
  replace bxW := box_keep bxW LA (boxLt bxW)
  replace bx0 := box_keep bx0 LA (boxLt bx0)
  replace oW := oW.below LA
  replace o0 := o0.below LA
  replace oG := oG.below LA
  have sz8 := LA.size
  clear LA C7
  obtain ⟨zbxG, hzbxG⟩ : ∃ z, Hid (z = W7.heap.size) := ⟨_, rfl⟩
  rw [← hzbxG.out] at bxG ⊢
  generalize W7.alloc (.cells cG 49) = W8 at *
  have gzbxG : W7.heap.size ≤ zbxG := by rw [hzbxG.out]; exact Nat.le_refl _
  have lzbxG := boxLt bxG
  clear hzbxG
  refine wp_region_lit ?_
  refine wpList_load_row rfl _ _ rfl (zbxG) rfl _ _ _ _ bxG Tryz.underlying49 rfl (infoAt infoLock scG) ?_
  refine wpList_load_row rfl _ _ rfl (zbxW) rfl _ _ _ _ bxW Tryz.underlying49 rfl (infoAt infoLock scW) ?_
  go_wp2_with fail
  refine (onEqLock _ _ _ _ _ rd oG oW).mono ?_
  rintro e W9 ⟨rfl, L⟩
  have C9 := below_snoc C8 L
  replace k0 := box_keep k0 L (boxLt k0)
  replace bxW := box_keep bxW L (boxLt bxW)
  replace bx0 := box_keep bx0 L (boxLt bx0)
  replace bxG := box_keep bxG L (boxLt bxG)
  replace oW := oW.below L
  replace o0 := o0.below L
  replace oG := oG.below L
  have sz9 := L.size
  clear L C8
  have hrr : (rv != rv) = false := by simp
  go_upto_region 10 with (fail)
  rename_i K2 hK2 K3' hK3'
  refine wp_region_eff [some 45, some 46, some 47, some 48, some 49] (by kernel_rfl) (by kernel_rfl) (by kernel_rfl) (by kernel_rfl) (by simp [slotsOf])
    (fun _ _ _ => False)
    (fun i v W => match i with
      | 0 => v = .agg c0
      | 1 => v = .agg cs
      | 2 => ∃ cX DX, v = .agg cX ∧ LockOn W DX (.agg cX) d
      | 3 => v = .bool true
      | _ => v = .bool false) ?_ ?_ ?_
  · intro i j o v W W' hij _ _ hW h
    match i, h with
    | 0, h => exact h
    | 1, h => exact h
    | 2, ⟨cX, DX, h1, h2⟩ => exact ⟨cX, DX, h1, h2.keep hW (fun _ _ _ _ _ x => x)⟩
    | 3, h => exact h
    | _ + 4, h => exact h
  · intro i o a' W K ho F L hw hK
    have t1 := F.get (t := 2) (v := .pointer (some ⟨w.heap.size, 0, none⟩)) (by decide) rfl
    have t5 := F.get (t := 8) (v := .pointer (some ⟨zbx0, 0, none⟩)) (by decide) rfl
    have LB : Below W9.heap.size W9 W := L.below (Nat.le_refl _) (fun b o _ ⟨j, _, _, _, _, h⟩ => h)
    match i with
    | 0 =>
        simp only [List.getElem?_toArray, List.getElem?_cons_zero, List.getElem?_cons_succ, Option.some.injEq] at ho
        subst ho
        refine wp_load_row _ _ rfl zbx0 (by simpa [Act.eval] using t5) _ _ _ _ (box_keep bx0 LB (boxLt bx0)) Tryz.underlying49 rfl (infoAt infoLock sc0) ?_
        exact hK _ _ (Wrote.refl _ _) rfl
    | 1 =>
        simp only [List.getElem?_toArray, List.getElem?_cons_zero, List.getElem?_cons_succ, Option.some.injEq] at ho
        subst ho
        refine wp_load_row _ _ rfl w.heap.size (by simpa [Act.eval] using t1) _ _ _ _ (box_keep k0 LB (boxLt k0)) Tryz.underlying39 rfl (infoAt infoLaws hsz) ?_
        exact hK _ _ (Wrote.refl _ _) rfl
    | 2 =>
        simp only [List.getElem?_toArray, List.getElem?_cons_zero, List.getElem?_cons_succ, Option.some.injEq] at ho
        subst ho
        have q1 : a'.tmps[46]?.getD undef = .agg cs := hw 1 (by kernel_rfl)
        go_simp
        refine (HT.out W (below_snoc C9 LB)).mono ?_
        rintro e W' ⟨cX, -, -, rfl, ⟨DX, oX, -, -⟩, LX⟩
        exact hK _ _ (wrote_below LX _) ⟨cX, DX, rfl, oX⟩
    | 3 =>
        simp only [List.getElem?_toArray, List.getElem?_cons_zero, List.getElem?_cons_succ, Option.some.injEq] at ho
        subst ho
        have q0 : a'.tmps[45]?.getD undef = .agg c0 := hw 0 (by kernel_rfl)
        obtain ⟨cX, DX, q2, oX⟩ : ∃ cX DX, a'.tmps[47]?.getD undef = .agg cX ∧ LockOn W DX (.agg cX) d := hw 2 (by kernel_rfl)
        go_simp
        refine (onEqLock W _ _ _ _ d (o0.below LB) oX).mono ?_
        rintro e W' ⟨rfl, LX⟩
        exact hK _ _ (wrote_below LX _) rfl
    | 4 =>
        simp only [List.getElem?_toArray, List.getElem?_cons_zero, List.getElem?_cons_succ, Option.some.injEq] at ho
        subst ho
        have q3 : a'.tmps[48]?.getD undef = .bool true := hw 3 (by kernel_rfl)
        go_simp
        exact hK _ _ (Wrote.refl _ _) rfl
    | _ + 5 => simp at ho
  · intro a' W F L hφ
    have LB : Below W9.heap.size W9 W := L.below (Nat.le_refl _) (fun b o _ ⟨j, h⟩ => h)
    have v4 : a'.tmps[49]?.getD undef = .bool false := hφ 4 (by decide)
    rw [F.same, show slotsOf [some 45, some 46, some 47, some 48, some 49] = [45, 46, 47, 48, 49] from rfl]
    simp only [List.foldl_cons, List.foldl_nil]
    rw [v4]
    generalize a'.tmps[45]?.getD undef = s0
    generalize a'.tmps[46]?.getD undef = s1
    generalize a'.tmps[47]?.getD undef = s2
    generalize a'.tmps[48]?.getD undef = s3
    clear hφ L F v4
    refine hK3' _ _ ?_
    go_simp
    obtain ⟨W10, hWW⟩ : ∃ x, x = W := ⟨_, rfl⟩
    subst hWW
    have C10 := below_snoc C9 LB
    replace k0 := box_keep k0 LB (boxLt k0)
    replace bxW := box_keep bxW LB (boxLt bxW)
    replace bx0 := box_keep bx0 LB (boxLt bx0)
    replace bxG := box_keep bxG LB (boxLt bxG)
    replace oW := oW.below LB
    replace o0 := o0.below LB
    replace oG := oG.below LB
    have sz10 := LB.size
    clear LB C9
    go_upto_region 13 with (fail)
    refine wp_region_lit ?_
    refine wpList_load_row rfl _ _ rfl (zbx0) rfl _ _ _ _ bx0 Tryz.underlying49 rfl (infoAt infoLock sc0) ?_
    go_wp2_with fail
    refine (onMarkLock _ D0 _ d 1 o0 d0 (fun i b h => by have := b0 _ _ h; omega) (by omega) HMD.out.1).mono ?_
    rintro e W11 ⟨rfl, -, T⟩
    have C11 := C10.trans (T.below C10.size (fun b o hb ⟨i, h⟩ => by have := b0 _ _ h; omega))
    replace k0 := box_wrote k0 T (fun o ⟨i, h⟩ => by have := b0 _ _ h; omega)
    replace bxW := box_wrote bxW T (fun o ⟨i, h⟩ => by have := b0 _ _ h; omega)
    replace bx0 := box_wrote bx0 T (fun o ⟨i, h⟩ => by have := b0 _ _ h; omega)
    replace bxG := box_wrote bxG T (fun o ⟨i, h⟩ => by have := b0 _ _ h; omega)
    replace oW := oW.keep T (fun i b o hb _ ⟨i', h⟩ => by have := b0 _ _ h; have := bW _ _ hb; omega)
    replace oG := oG.keep T (fun i b o hb _ ⟨i', h⟩ => by have := b0 _ _ h; have := bG _ _ hb; omega)
    have sz11 := T.size
    clear T C10
    clear o0
    have HMD' := HMD.out.2
    obtain ⟨kd, hkd⟩ : ∃ k, Hid (k = 1 + markN d) := ⟨_, rfl⟩
    rw [← hkd.out]
    have hk0 : ¬ (kd < 0) := by rw [hkd.out]; omega
    have hk0' : decide (kd < 0) = false := decide_eq_false hk0
    clear hkd HMD'
    go_upto_region 14 with (fail)
    refine wp_region_lit ?_
    refine wpList_plain rfl (fun K3 hK3 => ?_)
    go_simp
    refine hK3 _ _ ?_
    clear hK3
    refine wpList_plain rfl (fun K3 hK3 => ?_)
    go_simp
    refine hK3 _ _ ?_
    clear hK3
    refine wpList_plain rfl (fun K3 hK3 => ?_)
    go_simp
    refine hK3 _ _ ?_
    clear hK3
    refine wpList_load_rowG (by kernel_rfl) _ _ rfl (zbxG) rfl _ _ _ _ bxG Tryz.underlying49 rfl (infoAt infoLock scG) ?_
    refine wpList_load_rowG (by kernel_rfl) _ _ rfl (zbxW) rfl _ _ _ _ bxW Tryz.underlying49 rfl (infoAt infoLock scW) ?_
    go_wp2_with fail
    refine (onEqLock _ _ _ _ _ rd oG oW).mono ?_
    rintro e W12 ⟨rfl, L⟩
    have C12 := below_snoc C11 L
    replace k0 := box_keep k0 L (boxLt k0)
    replace bxW := box_keep bxW L (boxLt bxW)
    replace bx0 := box_keep bx0 L (boxLt bx0)
    replace bxG := box_keep bxG L (boxLt bxG)
    replace oW := oW.below L
    replace oG := oG.below L
    have sz12 := L.size
    clear L C11
    go_upto_region 17 with (fail)
    refine wp_region_lit ?_
    refine wpList_load_row rfl _ _ rfl (zbxG) rfl _ _ _ _ bxG Tryz.underlying49 rfl (infoAt infoLock scG) ?_
    go_wp2_with fail
    refine (onMarkLock _ DG _ rd 1 oG dG (fun i b h => by have := bG _ _ h; omega) (by omega) HMR.out.1).mono ?_
    rintro e W13 ⟨rfl, oK, T⟩
    have C13 := C12.trans (T.below C12.size (fun b o hb ⟨i, h⟩ => by have := bG _ _ h; omega))
    replace k0 := box_wrote k0 T (fun o ⟨i, h⟩ => by have := bG _ _ h; omega)
    replace bxW := box_wrote bxW T (fun o ⟨i, h⟩ => by have := bG _ _ h; omega)
    replace bx0 := box_wrote bx0 T (fun o ⟨i, h⟩ => by have := bG _ _ h; omega)
    replace bxG := box_wrote bxG T (fun o ⟨i, h⟩ => by have := bG _ _ h; omega)
    replace oW := oW.keep T (fun i b o hb _ ⟨i', h⟩ => by have := bG _ _ h; have := bW _ _ hb; omega)
    have sz13 := T.size
    clear T C12
    clear oG
    have HHD := hide (fun W h => onHeldLock W DG (.agg cG) rd 1 h (by omega) HMR.out.1)
    obtain ⟨km, hkm⟩ : ∃ k, Hid (k = 1 + markN rd) := ⟨_, rfl⟩
    rw [← hkm.out] at HHD ⊢
    have hm0 : ¬ (km < 0) := by have := HMR.out.2; rw [hkm.out]; omega
    have hmm : (km != km) = false := by simp
    clear hkm
    go_upto_region 19 with (fail)
    refine wp_region_lit ?_
    refine wpList_load_row rfl _ _ rfl (zbxG) rfl _ _ _ _ bxG Tryz.underlying49 rfl (infoAt infoLock scG) ?_
    go_wp2_with fail
    refine (HHD.out _ oK).mono ?_
    rintro e W14 ⟨rfl, L⟩
    have C14 := below_snoc C13 L
    replace k0 := box_keep k0 L (boxLt k0)
    replace bxW := box_keep bxW L (boxLt bxW)
    replace bx0 := box_keep bx0 L (boxLt bx0)
    replace bxG := box_keep bxG L (boxLt bxG)
    replace oW := oW.below L
    replace oK := oK.below L
    have sz14 := L.size
    clear L C13
    go_upto_region 24 with (fail)
    refine wp_region_lit ?_
    refine wpList_load_row rfl _ _ rfl (w.heap.size) rfl _ _ _ _ k0 Tryz.underlying39 rfl (infoAt infoLaws hsz) ?_
    go_wp2_with fail
    refine (HT.out _ C14).mono ?_
    rintro e W15 ⟨cY, scY, onecY, rfl, ⟨DY, oY, -, -⟩, L⟩
    have C15 := below_snoc C14 L
    replace k0 := box_keep k0 L (boxLt k0)
    replace bxW := box_keep bxW L (boxLt bxW)
    replace bx0 := box_keep bx0 L (boxLt bx0)
    replace bxG := box_keep bxG L (boxLt bxG)
    replace oW := oW.below L
    replace oK := oK.below L
    have sz15 := L.size
    clear L C14
    go_wp2_with fail
    refine (HI.out _ DY _ oY).mono ?_
    rintro e W16 ⟨vH, rfl, ⟨DH, oH, -, -⟩, L⟩
    have C16 := below_snoc C15 L
    replace k0 := box_keep k0 L (boxLt k0)
    replace bxW := box_keep bxW L (boxLt bxW)
    replace bx0 := box_keep bx0 L (boxLt bx0)
    replace bxG := box_keep bxG L (boxLt bxG)
    replace oW := oW.below L
    replace oK := oK.below L
    have sz16 := L.size
    clear L C15
    clear oY
    obtain ⟨cH, rfl, scH, onecH⟩ := oH.agg
    have hst := run_storeCells_new (P := Tryz.prog) W16 49 #[.slice none 0 0, .slice none 0 0, .slice none 0 0, .int .i64 0, .int .i64 0, .int .i64 0, .int .i64 0, .int .i64 0, .bool false, .bool false, .bool false, .bool false, .int .i64 0, .int .i64 0, .int .i64 0, .int .i64 0, .int .i64 0, .bool false, .slice none 0 0, .slice none 0 0, .int .i64 0, .int .i64 0, .int .i64 0, .int .i64 0, .int .i64 0, .bool false, .bool false, .bool false, .int .i64 0, .bool false, .int .i64 0, .slice none 0 0, .slice none 0 0, .slice none 0 0] cH (infoAt infoLock scH) (by rw [scH]; rfl) onecH
    have bxH := box_new W16 cH 49
    have LA : Below W16.heap.size W16 (W16.alloc (.cells cH 49)) := (Below.refl _ _).alloc (Nat.le_refl _) _
    go_upto_region 25 with (fail)
    clear hst
    have C17 := below_snoc C16 LA
    replace k0 := box_keep k0 LA (boxLt k0)
    replace bxW := box_keep bxW LA (boxLt bxW)
    replace bx0 := box_keep bx0 LA (boxLt bx0)
    replace bxG := box_keep bxG LA (boxLt bxG)
    replace oW := oW.below LA
    replace oK := oK.below LA
    replace oH := oH.below LA
    have sz17 := LA.size
    clear LA C16
    obtain ⟨zbxH, hzbxH⟩ : ∃ z, Hid (z = W16.heap.size) := ⟨_, rfl⟩
    rw [← hzbxH.out] at bxH ⊢
    generalize W16.alloc (.cells cH 49) = W17 at *
    have gzbxH : W16.heap.size ≤ zbxH := by rw [hzbxH.out]; exact Nat.le_refl _
    have lzbxH := boxLt bxH
    clear hzbxH
    refine wp_region_lit ?_
    refine wpList_load_row rfl _ _ rfl (zbxH) rfl _ _ _ _ bxH Tryz.underlying49 rfl (infoAt infoLock scH) ?_
    refine wpList_load_row rfl _ _ rfl (zbxW) rfl _ _ _ _ bxW Tryz.underlying49 rfl (infoAt infoLock scW) ?_
    go_wp2_with fail
    refine (onEqLock _ _ _ _ _ rd oH oW).mono ?_
    rintro e W18 ⟨rfl, L⟩
    have C18 := below_snoc C17 L
    replace k0 := box_keep k0 L (boxLt k0)
    replace bxW := box_keep bxW L (boxLt bxW)
    replace bx0 := box_keep bx0 L (boxLt bx0)
    replace bxG := box_keep bxG L (boxLt bxG)
    replace bxH := box_keep bxH L (boxLt bxH)
    replace oW := oW.below L
    replace oK := oK.below L
    replace oH := oH.below L
    have sz18 := L.size
    clear L C17
    go_upto_region 28 with (fail)
    refine wp_region_lit ?_
    refine wpList_load_row rfl _ _ rfl (zbxG) rfl _ _ _ _ bxG Tryz.underlying49 rfl (infoAt infoLock scG) ?_
    go_wp2_with fail
    refine (HHD.out _ oK).mono ?_
    rintro e W19 ⟨rfl, L⟩
    have C19 := below_snoc C18 L
    replace k0 := box_keep k0 L (boxLt k0)
    replace bxW := box_keep bxW L (boxLt bxW)
    replace bx0 := box_keep bx0 L (boxLt bx0)
    replace bxG := box_keep bxG L (boxLt bxG)
    replace bxH := box_keep bxH L (boxLt bxH)
    replace oW := oW.below L
    replace oK := oK.below L
    replace oH := oH.below L
    have sz19 := L.size
    clear L C18
    go_wp2
    go_ret
    exact ⟨rfl, C19⟩
end Go.Proofs.YtpaedkefmebjjarGreat
namespace Go.Proofs.YtpaedkefmebjjarGreat
set_option linter.unusedVariables false
set_option linter.unusedSimpArgs false
open Go.ChangeShapes Go.WideShapes Go.ChangeAt Go.RowKit
theorem markN_write {d : LockD} (hs : szD d ≤ 1048576) (a y : Int) : 1 + markN (if okLock d then writeD d a y else d) ≤ 1099511627776 ∧ 0 ≤ markN (if okLock d then writeD d a y else d) := by
  have key : markN (writeD d a y) = markN d := by
    unfold writeD
    split
    · rfl
    · split
      · rfl
      · split <;> rfl
  have h := markN_le hs
  split
  · rw [key]; exact h
  · exact h
set_option maxRecDepth 40000 in
set_option maxHeartbeats 8000000 in
theorem lawLockWrite (w : World) (d : LockD) (u0 : Value) (ra0 : Nat → Option Addr) (rc0 : Nat → Nat) (a1 : Option Addr) (c1 : Nat) (a2 : Option Addr) (c2 : Nat) (a3 : Option Addr) (c3 : Nat) (a4 : Option Addr) (c4 : Nat) (u5 : Value) (ra5 : Nat → Option Addr) (rc5 : Nat → Nat) (a6 : Option Addr) (c6 : Nat) (a7 : Option Addr) (c7 : Nat) (a y : Int) (H : RawA w d u0 ra0 rc0 a1 c1 a2 c2 a3 c3 a4 c4 u5 ra5 rc5 a6 c6 a7 c7) :
    Calls Tryz.prog 4 #[.agg #[u0, .slice a1 d.np c1, .slice a2 d.nr c2, .int .i64 d.bank, .int .i64 d.A, .int .i64 d.X, .int .i64 d.S, .int .i64 d.Pc, .bool d.Z, .bool d.N, .bool d.C, .bool d.I, .int .i64 d.t, .int .i64 d.c, .int .i64 d.s, .int .i64 d.ad, .int .i64 d.pl, .bool d.bl, .slice a3 d.nt c3, .slice a4 d.nd c4, .int .i64 d.T, .int .i64 d.P, .int .i64 d.K, .int .i64 d.B, .int .i64 d.L, .bool d.Q, .bool d.R, .bool d.hd, .int .i64 d.sh, .bool d.nmi, .int .i64 d.st, u5, .slice a6 d.ns c6, .slice a7 d.nq c7], .int .i64 a, .int .i64 y] w fun e w' => e = .returned (.bool true) ∧ Below w.heap.size w w' := by
  obtain ⟨cs, hcs⟩ : ∃ cs : Array Value, Hid (cs = #[u0, .slice a1 d.np c1, .slice a2 d.nr c2, .int .i64 d.bank, .int .i64 d.A, .int .i64 d.X, .int .i64 d.S, .int .i64 d.Pc, .bool d.Z, .bool d.N, .bool d.C, .bool d.I, .int .i64 d.t, .int .i64 d.c, .int .i64 d.s, .int .i64 d.ad, .int .i64 d.pl, .bool d.bl, .slice a3 d.nt c3, .slice a4 d.nd c4, .int .i64 d.T, .int .i64 d.P, .int .i64 d.K, .int .i64 d.B, .int .i64 d.L, .bool d.Q, .bool d.R, .bool d.hd, .int .i64 d.sh, .bool d.nmi, .int .i64 d.st, u5, .slice a6 d.ns c6, .slice a7 d.nq c7]) := ⟨_, rfl⟩
  have hsz : cs.size = 34 := by rw [hcs.out]; rfl
  have HZ : Hid (∀ W, RawSS W u0 d.m ra0 d.ln rc0 d.f → RawSS W u5 d.mf ra5 d.lf rc5 d.fr → Calls Tryz.prog 5 #[.agg cs, .int .i64 1048576] W fun e w' => e = .returned (.int .i64 (szOut 1048576 (szD d))) ∧ Below W.heap.size W w') := fun W h0 h5 => by
    rw [hcs.out]
    exact szLock W d u0 ra0 rc0 a1 c1 a2 c2 a3 c3 a4 c4 u5 ra5 rc5 a6 c6 a7 c7 1048576 h0 h5 H.n1 H.n2 H.n3 H.n4 H.n6 H.n7 (by omega) (by omega)
  have HT : Hid (szD d ≤ 1048576 → ∀ W, Below w.heap.size w W → Calls Tryz.prog 7 #[.agg cs] W fun e w' => ∃ cs', cs'.size = 34 ∧ cs'.all (·.oneCell') = true ∧ e = .returned (.agg cs') ∧ (∃ D, LockOn w' D (.agg cs') d ∧ Dis D ∧ ∀ i b, D i b → W.heap.size ≤ b ∧ b < w'.heap.size) ∧ Below W.heap.size W w') := fun hs W L => by
    rw [hcs.out]
    refine (onToLock W u0 (.slice a1 d.np c1) (.slice a2 d.nr c2) (.slice a3 d.nt c3) (.slice a4 d.nd c4) u5 (.slice a6 d.ns c6) (.slice a7 d.nq c7) d (H.raw hs L) (szD_parts hs).1 (szD_parts hs).2).mono ?_
    rintro e w' ⟨v, rfl, ⟨D, o, h1, h2⟩, L'⟩
    obtain ⟨cs', rfl, hs', ho'⟩ := o.agg
    exact ⟨cs', hs', ho', rfl, ⟨D, o, h1, h2⟩, L'⟩
  rw [← hcs.out]
  clear hcs
  have C0 : Below w.heap.size w (w.alloc (.cells cs 39)) := (Below.refl _ _).alloc (Nat.le_refl _) _
  have k0 := box_new w cs 39
  have R0 := hide (H.r0.below C0)
  have R5 := hide (H.r5.below C0)
  clear H
  go_enter Tryz.func4, Tryz.ntmps4
  go_upto_region 2 with (fail)
  generalize w.alloc (.cells cs 39) = W0 at *
  refine wp_region_lit ?_
  refine wpList_load_row rfl _ _ rfl (w.heap.size) rfl _ _ _ _ k0 Tryz.underlying39 rfl (infoAt infoLaws hsz) ?_
  go_wp2_with fail
  refine (HZ.out _ R0.out R5.out).mono ?_
  rintro e W1 ⟨rfl, L⟩
  have C1 := below_snoc C0 L
  replace k0 := box_keep k0 L (boxLt k0)
  have hk00 := boxLt k0
  clear L C0 R0 R5 HZ
  by_cases hbig : (1048576 : Int) < (szD d : Int)
  · have HZ := hide (szOut_no hbig)
    rw [HZ.out]
    go_wp2
    go_ret
    exact ⟨rfl, C1⟩
  have HZ := hide (szOut_ok (show (szD d : Int) ≤ 1048576 by omega))
  rw [HZ.out]
  replace HT := hide (HT.out (by omega))
  have HS := hide (show szD d ≤ 1048576 by omega)
  obtain ⟨lf, hlf⟩ : ∃ lf : Int, Hid (lf = 1048576 - (szD d : Int)) := ⟨_, rfl⟩
  rw [← hlf.out]
  have hnn : ¬ (lf < 0) := by rw [hlf.out]; omega
  clear HZ hbig hlf
  go_upto_region 5 with (fail)
  refine wp_region_lit ?_
  refine wpList_load_row rfl _ _ rfl (w.heap.size) rfl _ _ _ _ k0 Tryz.underlying39 rfl (infoAt infoLaws hsz) ?_
  go_wp2_with fail
  refine (HT.out _ C1).mono ?_
  rintro e W2 ⟨cS, scS, onecS, rfl, ⟨DS, oS, -, -⟩, L⟩
  have C2 := below_snoc C1 L
  replace k0 := box_keep k0 L (boxLt k0)
  have sz2 := L.size
  clear L C1
  go_wp2_with fail
  refine (specLockWrite _ DS _ d a y oS).mono ?_
  rintro e W3 ⟨vW, rfl, oW', L⟩
  have C3 := below_snoc C2 L
  replace k0 := box_keep k0 L (boxLt k0)
  have sz3 := L.size
  clear L C2
  clear oS
  obtain ⟨DW, oW, -, bW⟩ := oW'.on
  clear oW'
  obtain ⟨cW, rfl, scW, onecW⟩ := oW.agg
  obtain ⟨rd, hrd⟩ : ∃ x, Hid (x = if okLock d then writeD d a y else d) := ⟨_, rfl⟩
  have HI := hide (fun W D v h => implLockWrite W D v d a y h)
  rw [← hrd.out] at HI
  rw [← hrd.out] at oW
  have HMR : Hid (1 + markN rd ≤ 1099511627776 ∧ 0 ≤ markN rd) := by rw [hrd.out]; exact markN_write HS.out a y
  have HMD : Hid (1 + markN d ≤ 1099511627776 ∧ 0 ≤ markN d) := markN_le HS.out
  clear hrd
  have hst := run_storeCells_new (P := Tryz.prog) W3 49 #[.slice none 0 0, .slice none 0 0, .slice none 0 0, .int .i64 0, .int .i64 0, .int .i64 0, .int .i64 0, .int .i64 0, .bool false, .bool false, .bool false, .bool false, .int .i64 0, .int .i64 0, .int .i64 0, .int .i64 0, .int .i64 0, .bool false, .slice none 0 0, .slice none 0 0, .int .i64 0, .int .i64 0, .int .i64 0, .int .i64 0, .int .i64 0, .bool false, .bool false, .bool false, .int .i64 0, .bool false, .int .i64 0, .slice none 0 0, .slice none 0 0, .slice none 0 0] cW (infoAt infoLock scW) (by rw [scW]; rfl) onecW
  have bxW := box_new W3 cW 49
  have LA : Below W3.heap.size W3 (W3.alloc (.cells cW 49)) := (Below.refl _ _).alloc (Nat.le_refl _) _
  go_upto_region 6 with (fail)
  clear hst
  have C4 := below_snoc C3 LA
  replace k0 := box_keep k0 LA (boxLt k0)
  replace oW := oW.below LA
  have sz4 := LA.size
  clear LA C3
  obtain ⟨zbxW, hzbxW⟩ : ∃ z, Hid (z = W3.heap.size) := ⟨_, rfl⟩
  rw [← hzbxW.out] at bxW ⊢
  generalize W3.alloc (.cells cW 49) = W4 at *
  have gzbxW : W3.heap.size ≤ zbxW := by rw [hzbxW.out]; exact Nat.le_refl _
  have lzbxW := boxLt bxW
  clear hzbxW
  refine wp_region_lit ?_
  refine wpList_load_row rfl _ _ rfl (w.heap.size) rfl _ _ _ _ k0 Tryz.underlying39 rfl (infoAt infoLaws hsz) ?_
  go_wp2_with fail
  refine (HT.out _ C4).mono ?_
  rintro e W5 ⟨c0, sc0, onec0, rfl, ⟨D0, o0, d0, b0⟩, L⟩
  have C5 := below_snoc C4 L
  replace k0 := box_keep k0 L (boxLt k0)
  replace bxW := box_keep bxW L (boxLt bxW)
  replace oW := oW.below L
  have sz5 := L.size
  clear L C4
  have hst := run_storeCells_new (P := Tryz.prog) W5 49 #[.slice none 0 0, .slice none 0 0, .slice none 0 0, .int .i64 0, .int .i64 0, .int .i64 0, .int .i64 0, .int .i64 0, .bool false, .bool false, .bool false, .bool false, .int .i64 0, .int .i64 0, .int .i64 0, .int .i64 0, .int .i64 0, .bool false, .slice none 0 0, .slice none 0 0, .int .i64 0, .int .i64 0, .int .i64 0, .int .i64 0, .int .i64 0, .bool false, .bool false, .bool false, .int .i64 0, .bool false, .int .i64 0, .slice none 0 0, .slice none 0 0, .slice none 0 0] c0 (infoAt infoLock sc0) (by rw [sc0]; rfl) onec0
  have bx0 := box_new W5 c0 49
  have LA : Below W5.heap.size W5 (W5.alloc (.cells c0 49)) := (Below.refl _ _).alloc (Nat.le_refl _) _
  go_upto_region 7 with (fail)
  clear hst
  have C6 := below_snoc C5 LA
  replace k0 := box_keep k0 LA (boxLt k0)
  replace bxW := box_keep bxW LA (boxLt bxW)
  replace oW := oW.below LA
  replace o0 := o0.below LA
  have sz6 := LA.size
  clear LA C5
  obtain ⟨zbx0, hzbx0⟩ : ∃ z, Hid (z = W5.heap.size) := ⟨_, rfl⟩
  rw [← hzbx0.out] at bx0 ⊢
  generalize W5.alloc (.cells c0 49) = W6 at *
  have gzbx0 : W5.heap.size ≤ zbx0 := by rw [hzbx0.out]; exact Nat.le_refl _
  have lzbx0 := boxLt bx0
  clear hzbx0
  refine wp_region_lit ?_
  refine wpList_load_row rfl _ _ rfl (zbx0) rfl _ _ _ _ bx0 Tryz.underlying49 rfl (infoAt infoLock sc0) ?_
  go_wp2_with fail
  refine (HI.out _ D0 _ o0).mono ?_
  rintro e W7 ⟨vG, rfl, ⟨DG, oG, dG, bG⟩, L⟩
  have C7 := below_snoc C6 L
  replace k0 := box_keep k0 L (boxLt k0)
  replace bxW := box_keep bxW L (boxLt bxW)
  replace bx0 := box_keep bx0 L (boxLt bx0)
  replace oW := oW.below L
  replace o0 := o0.below L
  have sz7 := L.size
  clear L C6
  obtain ⟨cG, rfl, scG, onecG⟩ := oG.agg
  have hst := run_storeCells_new (P := Tryz.prog) W7 49 #[.slice none 0 0, .slice none 0 0, .slice none 0 0, .int .i64 0, .int .i64 0, .int .i64 0, .int .i64 0, .int .i64 0, .bool false, .bool false, .bool false, .bool false, .int .i64 0, .int .i64 0, .int .i64 0, .int .i64 0, .int .i64 0, .bool false, .slice none 0 0, .slice none 0 0, .int .i64 0, .int .i64 0, .int .i64 0, .int .i64 0, .int .i64 0, .bool false, .bool false, .bool false, .int .i64 0, .bool false, .int .i64 0, .slice none 0 0, .slice none 0 0, .slice none 0 0] cG (infoAt infoLock scG) (by rw [scG]; rfl) onecG
  have bxG := box_new W7 cG 49
  have LA : Below W7.heap.size W7 (W7.alloc (.cells cG 49)) := (Below.refl _ _).alloc (Nat.le_refl _) _
  go_upto_region 8 with (fail)
  clear hst
  have C8 := below_snoc C7 LA
  replace k0 := box_keep k0 LA (boxLt k0)
  replace bxW := box_keep bxW LA (boxLt bxW)
  replace bx0 := box_keep bx0 LA (boxLt bx0)
  replace oW := oW.below LA
  replace o0 := o0.below LA
  replace oG := oG.below LA
  have sz8 := LA.size
  clear LA C7
  obtain ⟨zbxG, hzbxG⟩ : ∃ z, Hid (z = W7.heap.size) := ⟨_, rfl⟩
  rw [← hzbxG.out] at bxG ⊢
  generalize W7.alloc (.cells cG 49) = W8 at *
  have gzbxG : W7.heap.size ≤ zbxG := by rw [hzbxG.out]; exact Nat.le_refl _
  have lzbxG := boxLt bxG
  clear hzbxG
  refine wp_region_lit ?_
  refine wpList_load_row rfl _ _ rfl (zbxG) rfl _ _ _ _ bxG Tryz.underlying49 rfl (infoAt infoLock scG) ?_
  refine wpList_load_row rfl _ _ rfl (zbxW) rfl _ _ _ _ bxW Tryz.underlying49 rfl (infoAt infoLock scW) ?_
  go_wp2_with fail
  refine (onEqLock _ _ _ _ _ rd oG oW).mono ?_
  rintro e W9 ⟨rfl, L⟩
  have C9 := below_snoc C8 L
  replace k0 := box_keep k0 L (boxLt k0)
  replace bxW := box_keep bxW L (boxLt bxW)
  replace bx0 := box_keep bx0 L (boxLt bx0)
  replace bxG := box_keep bxG L (boxLt bxG)
  replace oW := oW.below L
  replace o0 := o0.below L
  replace oG := oG.below L
  have sz9 := L.size
  clear L C8
  go_upto_region 10 with (fail)
  rename_i K2 hK2 K3' hK3'
  refine wp_region_eff [some 35, some 36, some 37, some 38, some 39] (by kernel_rfl) (by kernel_rfl) (by kernel_rfl) (by kernel_rfl) (by simp [slotsOf])
    (fun _ _ _ => False)
    (fun i v W => match i with
      | 0 => v = .agg c0
      | 1 => v = .agg cs
      | 2 => ∃ cX DX, v = .agg cX ∧ LockOn W DX (.agg cX) d
      | 3 => v = .bool true
      | _ => v = .bool false) ?_ ?_ ?_
  · intro i j o v W W' hij _ _ hW h
    match i, h with
    | 0, h => exact h
    | 1, h => exact h
    | 2, ⟨cX, DX, h1, h2⟩ => exact ⟨cX, DX, h1, h2.keep hW (fun _ _ _ _ _ x => x)⟩
    | 3, h => exact h
    | _ + 4, h => exact h
  · intro i o a' W K ho F L hw hK
    have t1 := F.get (t := 3) (v := .pointer (some ⟨w.heap.size, 0, none⟩)) (by decide) rfl
    have t5 := F.get (t := 9) (v := .pointer (some ⟨zbx0, 0, none⟩)) (by decide) rfl
    have LB : Below W9.heap.size W9 W := L.below (Nat.le_refl _) (fun b o _ ⟨j, _, _, _, _, h⟩ => h)
    match i with
    | 0 =>
        simp only [List.getElem?_toArray, List.getElem?_cons_zero, List.getElem?_cons_succ, Option.some.injEq] at ho
        subst ho
        refine wp_load_row _ _ rfl zbx0 (by simpa [Act.eval] using t5) _ _ _ _ (box_keep bx0 LB (boxLt bx0)) Tryz.underlying49 rfl (infoAt infoLock sc0) ?_
        exact hK _ _ (Wrote.refl _ _) rfl
    | 1 =>
        simp only [List.getElem?_toArray, List.getElem?_cons_zero, List.getElem?_cons_succ, Option.some.injEq] at ho
        subst ho
        refine wp_load_row _ _ rfl w.heap.size (by simpa [Act.eval] using t1) _ _ _ _ (box_keep k0 LB (boxLt k0)) Tryz.underlying39 rfl (infoAt infoLaws hsz) ?_
        exact hK _ _ (Wrote.refl _ _) rfl
    | 2 =>
        simp only [List.getElem?_toArray, List.getElem?_cons_zero, List.getElem?_cons_succ, Option.some.injEq] at ho
        subst ho
        have q1 : a'.tmps[36]?.getD undef = .agg cs := hw 1 (by kernel_rfl)
        go_simp
        refine (HT.out W (below_snoc C9 LB)).mono ?_
        rintro e W' ⟨cX, -, -, rfl, ⟨DX, oX, -, -⟩, LX⟩
        exact hK _ _ (wrote_below LX _) ⟨cX, DX, rfl, oX⟩
    | 3 =>
        simp only [List.getElem?_toArray, List.getElem?_cons_zero, List.getElem?_cons_succ, Option.some.injEq] at ho
        subst ho
        have q0 : a'.tmps[35]?.getD undef = .agg c0 := hw 0 (by kernel_rfl)
        obtain ⟨cX, DX, q2, oX⟩ : ∃ cX DX, a'.tmps[37]?.getD undef = .agg cX ∧ LockOn W DX (.agg cX) d := hw 2 (by kernel_rfl)
        go_simp
        refine (onEqLock W _ _ _ _ d (o0.below LB) oX).mono ?_
        rintro e W' ⟨rfl, LX⟩
        exact hK _ _ (wrote_below LX _) rfl
    | 4 =>
        simp only [List.getElem?_toArray, List.getElem?_cons_zero, List.getElem?_cons_succ, Option.some.injEq] at ho
        subst ho
        have q3 : a'.tmps[38]?.getD undef = .bool true := hw 3 (by kernel_rfl)
        go_simp
        exact hK _ _ (Wrote.refl _ _) rfl
    | _ + 5 => simp at ho
  · intro a' W F L hφ
    have LB : Below W9.heap.size W9 W := L.below (Nat.le_refl _) (fun b o _ ⟨j, h⟩ => h)
    have v4 : a'.tmps[39]?.getD undef = .bool false := hφ 4 (by decide)
    rw [F.same, show slotsOf [some 35, some 36, some 37, some 38, some 39] = [35, 36, 37, 38, 39] from rfl]
    simp only [List.foldl_cons, List.foldl_nil]
    rw [v4]
    generalize a'.tmps[35]?.getD undef = s0
    generalize a'.tmps[36]?.getD undef = s1
    generalize a'.tmps[37]?.getD undef = s2
    generalize a'.tmps[38]?.getD undef = s3
    clear hφ L F v4
    refine hK3' _ _ ?_
    go_simp
    obtain ⟨W10, hWW⟩ : ∃ x, x = W := ⟨_, rfl⟩
    subst hWW
    have C10 := below_snoc C9 LB
    replace k0 := box_keep k0 LB (boxLt k0)
    replace bxW := box_keep bxW LB (boxLt bxW)
    replace bx0 := box_keep bx0 LB (boxLt bx0)
    replace bxG := box_keep bxG LB (boxLt bxG)
    replace oW := oW.below LB
    replace o0 := o0.below LB
    replace oG := oG.below LB
    have sz10 := LB.size
    clear LB C9
    go_upto_region 13 with (fail)
    refine wp_region_lit ?_
    refine wpList_load_row rfl _ _ rfl (zbx0) rfl _ _ _ _ bx0 Tryz.underlying49 rfl (infoAt infoLock sc0) ?_
    go_wp2_with fail
    refine (onMarkLock _ D0 _ d 1 o0 d0 (fun i b h => by have := b0 _ _ h; omega) (by omega) HMD.out.1).mono ?_
    rintro e W11 ⟨rfl, -, T⟩
    have C11 := C10.trans (T.below C10.size (fun b o hb ⟨i, h⟩ => by have := b0 _ _ h; omega))
    replace k0 := box_wrote k0 T (fun o ⟨i, h⟩ => by have := b0 _ _ h; omega)
    replace bxW := box_wrote bxW T (fun o ⟨i, h⟩ => by have := b0 _ _ h; omega)
    replace bx0 := box_wrote bx0 T (fun o ⟨i, h⟩ => by have := b0 _ _ h; omega)
    replace bxG := box_wrote bxG T (fun o ⟨i, h⟩ => by have := b0 _ _ h; omega)
    replace oW := oW.keep T (fun i b o hb _ ⟨i', h⟩ => by have := b0 _ _ h; have := bW _ _ hb; omega)
    replace oG := oG.keep T (fun i b o hb _ ⟨i', h⟩ => by have := b0 _ _ h; have := bG _ _ hb; omega)
    have sz11 := T.size
    clear T C10
    clear o0
    have HMD' := HMD.out.2
    obtain ⟨kd, hkd⟩ : ∃ k, Hid (k = 1 + markN d) := ⟨_, rfl⟩
    rw [← hkd.out]
    have hk0 : ¬ (kd < 0) := by rw [hkd.out]; omega
    have hk0' : decide (kd < 0) = false := decide_eq_false hk0
    clear hkd HMD'
    go_upto_region 14 with (fail)
    refine wp_region_lit ?_
    refine wpList_plain rfl (fun K3 hK3 => ?_)
    go_simp
    refine hK3 _ _ ?_
    clear hK3
    refine wpList_plain rfl (fun K3 hK3 => ?_)
    go_simp
    refine hK3 _ _ ?_
    clear hK3
    refine wpList_plain rfl (fun K3 hK3 => ?_)
    go_simp
    refine hK3 _ _ ?_
    clear hK3
    refine wpList_load_rowG (by kernel_rfl) _ _ rfl (zbxG) rfl _ _ _ _ bxG Tryz.underlying49 rfl (infoAt infoLock scG) ?_
    refine wpList_load_rowG (by kernel_rfl) _ _ rfl (zbxW) rfl _ _ _ _ bxW Tryz.underlying49 rfl (infoAt infoLock scW) ?_
    go_wp2_with fail
    refine (onEqLock _ _ _ _ _ rd oG oW).mono ?_
    rintro e W12 ⟨rfl, L⟩
    have C12 := below_snoc C11 L
    replace k0 := box_keep k0 L (boxLt k0)
    replace bxW := box_keep bxW L (boxLt bxW)
    replace bx0 := box_keep bx0 L (boxLt bx0)
    replace bxG := box_keep bxG L (boxLt bxG)
    replace oW := oW.below L
    replace oG := oG.below L
    have sz12 := L.size
    clear L C11
    go_upto_region 17 with (fail)
    refine wp_region_lit ?_
    refine wpList_load_row rfl _ _ rfl (zbxG) rfl _ _ _ _ bxG Tryz.underlying49 rfl (infoAt infoLock scG) ?_
    go_wp2_with fail
    refine (onMarkLock _ DG _ rd 1 oG dG (fun i b h => by have := bG _ _ h; omega) (by omega) HMR.out.1).mono ?_
    rintro e W13 ⟨rfl, oK, T⟩
    have C13 := C12.trans (T.below C12.size (fun b o hb ⟨i, h⟩ => by have := bG _ _ h; omega))
    replace k0 := box_wrote k0 T (fun o ⟨i, h⟩ => by have := bG _ _ h; omega)
    replace bxW := box_wrote bxW T (fun o ⟨i, h⟩ => by have := bG _ _ h; omega)
    replace bx0 := box_wrote bx0 T (fun o ⟨i, h⟩ => by have := bG _ _ h; omega)
    replace bxG := box_wrote bxG T (fun o ⟨i, h⟩ => by have := bG _ _ h; omega)
    replace oW := oW.keep T (fun i b o hb _ ⟨i', h⟩ => by have := bG _ _ h; have := bW _ _ hb; omega)
    have sz13 := T.size
    clear T C12
    clear oG
    have HHD := hide (fun W h => onHeldLock W DG (.agg cG) rd 1 h (by omega) HMR.out.1)
    obtain ⟨km, hkm⟩ : ∃ k, Hid (k = 1 + markN rd) := ⟨_, rfl⟩
    rw [← hkm.out] at HHD ⊢
    have hm0 : ¬ (km < 0) := by have := HMR.out.2; rw [hkm.out]; omega
    have hmm : (km != km) = false := by simp
    clear hkm
    go_upto_region 19 with (fail)
    refine wp_region_lit ?_
    refine wpList_load_row rfl _ _ rfl (zbxG) rfl _ _ _ _ bxG Tryz.underlying49 rfl (infoAt infoLock scG) ?_
    go_wp2_with fail
    refine (HHD.out _ oK).mono ?_
    rintro e W14 ⟨rfl, L⟩
    have C14 := below_snoc C13 L
    replace k0 := box_keep k0 L (boxLt k0)
    replace bxW := box_keep bxW L (boxLt bxW)
    replace bx0 := box_keep bx0 L (boxLt bx0)
    replace bxG := box_keep bxG L (boxLt bxG)
    replace oW := oW.below L
    replace oK := oK.below L
    have sz14 := L.size
    clear L C13
    go_upto_region 24 with (fail)
    refine wp_region_lit ?_
    refine wpList_load_row rfl _ _ rfl (w.heap.size) rfl _ _ _ _ k0 Tryz.underlying39 rfl (infoAt infoLaws hsz) ?_
    go_wp2_with fail
    refine (HT.out _ C14).mono ?_
    rintro e W15 ⟨cY, scY, onecY, rfl, ⟨DY, oY, -, -⟩, L⟩
    have C15 := below_snoc C14 L
    replace k0 := box_keep k0 L (boxLt k0)
    replace bxW := box_keep bxW L (boxLt bxW)
    replace bx0 := box_keep bx0 L (boxLt bx0)
    replace bxG := box_keep bxG L (boxLt bxG)
    replace oW := oW.below L
    replace oK := oK.below L
    have sz15 := L.size
    clear L C14
    go_wp2_with fail
    refine (HI.out _ DY _ oY).mono ?_
    rintro e W16 ⟨vH, rfl, ⟨DH, oH, -, -⟩, L⟩
    have C16 := below_snoc C15 L
    replace k0 := box_keep k0 L (boxLt k0)
    replace bxW := box_keep bxW L (boxLt bxW)
    replace bx0 := box_keep bx0 L (boxLt bx0)
    replace bxG := box_keep bxG L (boxLt bxG)
    replace oW := oW.below L
    replace oK := oK.below L
    have sz16 := L.size
    clear L C15
    clear oY
    obtain ⟨cH, rfl, scH, onecH⟩ := oH.agg
    have hst := run_storeCells_new (P := Tryz.prog) W16 49 #[.slice none 0 0, .slice none 0 0, .slice none 0 0, .int .i64 0, .int .i64 0, .int .i64 0, .int .i64 0, .int .i64 0, .bool false, .bool false, .bool false, .bool false, .int .i64 0, .int .i64 0, .int .i64 0, .int .i64 0, .int .i64 0, .bool false, .slice none 0 0, .slice none 0 0, .int .i64 0, .int .i64 0, .int .i64 0, .int .i64 0, .int .i64 0, .bool false, .bool false, .bool false, .int .i64 0, .bool false, .int .i64 0, .slice none 0 0, .slice none 0 0, .slice none 0 0] cH (infoAt infoLock scH) (by rw [scH]; rfl) onecH
    have bxH := box_new W16 cH 49
    have LA : Below W16.heap.size W16 (W16.alloc (.cells cH 49)) := (Below.refl _ _).alloc (Nat.le_refl _) _
    go_upto_region 25 with (fail)
    clear hst
    have C17 := below_snoc C16 LA
    replace k0 := box_keep k0 LA (boxLt k0)
    replace bxW := box_keep bxW LA (boxLt bxW)
    replace bx0 := box_keep bx0 LA (boxLt bx0)
    replace bxG := box_keep bxG LA (boxLt bxG)
    replace oW := oW.below LA
    replace oK := oK.below LA
    replace oH := oH.below LA
    have sz17 := LA.size
    clear LA C16
    obtain ⟨zbxH, hzbxH⟩ : ∃ z, Hid (z = W16.heap.size) := ⟨_, rfl⟩
    rw [← hzbxH.out] at bxH ⊢
    generalize W16.alloc (.cells cH 49) = W17 at *
    have gzbxH : W16.heap.size ≤ zbxH := by rw [hzbxH.out]; exact Nat.le_refl _
    have lzbxH := boxLt bxH
    clear hzbxH
    refine wp_region_lit ?_
    refine wpList_load_row rfl _ _ rfl (zbxH) rfl _ _ _ _ bxH Tryz.underlying49 rfl (infoAt infoLock scH) ?_
    refine wpList_load_row rfl _ _ rfl (zbxW) rfl _ _ _ _ bxW Tryz.underlying49 rfl (infoAt infoLock scW) ?_
    go_wp2_with fail
    refine (onEqLock _ _ _ _ _ rd oH oW).mono ?_
    rintro e W18 ⟨rfl, L⟩
    have C18 := below_snoc C17 L
    replace k0 := box_keep k0 L (boxLt k0)
    replace bxW := box_keep bxW L (boxLt bxW)
    replace bx0 := box_keep bx0 L (boxLt bx0)
    replace bxG := box_keep bxG L (boxLt bxG)
    replace bxH := box_keep bxH L (boxLt bxH)
    replace oW := oW.below L
    replace oK := oK.below L
    replace oH := oH.below L
    have sz18 := L.size
    clear L C17
    go_upto_region 28 with (fail)
    refine wp_region_lit ?_
    refine wpList_load_row rfl _ _ rfl (zbxG) rfl _ _ _ _ bxG Tryz.underlying49 rfl (infoAt infoLock scG) ?_
    go_wp2_with fail
    refine (HHD.out _ oK).mono ?_
    rintro e W19 ⟨rfl, L⟩
    have C19 := below_snoc C18 L
    replace k0 := box_keep k0 L (boxLt k0)
    replace bxW := box_keep bxW L (boxLt bxW)
    replace bx0 := box_keep bx0 L (boxLt bx0)
    replace bxG := box_keep bxG L (boxLt bxG)
    replace bxH := box_keep bxH L (boxLt bxH)
    replace oW := oW.below L
    replace oK := oK.below L
    replace oH := oH.below L
    have sz19 := L.size
    clear L C18
    go_wp2
    go_ret
    exact ⟨rfl, C19⟩
end Go.Proofs.YtpaedkefmebjjarGreat
