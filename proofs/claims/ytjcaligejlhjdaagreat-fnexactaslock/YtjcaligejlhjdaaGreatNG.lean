/-
  Chapter 17: what is seen of a console apart.
-/
import Derived.Test.YtjcaligejlhjdaaGreatUW
import Derived.Test.YtjcaligejlhjdaaGreatNB
import Derived.Test.YtjcaligejlhjdaaGreatG1
import Derived.Test.YtjcaligejlhjdaaGreatKC
import Derived.Deep.WholeRow
namespace Go.Proofs.YtjcaligejlhjdaaGreat
set_option linter.unusedVariables false
set_option linter.unusedSimpArgs false
open Go.ChangeShapes Go.WideShapes Go.ChangeAt Go.RowKit
/-- What is seen of a console apart, in numbers. -/
def obS (d : SpD) : ObD := ⟨d.pc.mf, d.pc.lf, d.pc.fr, d.sn.ns, d.sn.sm, d.nq, d.rd⟩
/-- What is seen, in new memory, its lists apart. -/
structure ObCp (w w' : World) (v : Value) (d : ObD) : Prop where
  ex : ∃ D, ObA w' D v d ∧ Dis D ∧ ∀ i b, D i b → w.heap.size ≤ b ∧ b < w'.heap.size
theorem infoObs17 : (Tryz.prog.info? 74).map (·.size) = some 3 := by kernel_rfl
/-- The lists that are seen stand at three cells. -/
theorem SplitOn.seen {W : World} {E : Nat → Nat → Prop} {v : Value} {d : SpD} (H : SplitOn W E v d) : ∃ cs : Array Value, v = .agg cs ∧ Hid (cs.size = 42) ∧ ∃ af cf am cm aq cq, cs[31]? = some (.slice af d.pc.mf cf) ∧ cs[41]? = some (.slice am d.sn.ns cm) ∧ cs[20]? = some (.slice aq d.nq cq) ∧ IntSS .i64 W (On (E 8)) (.slice af d.pc.mf cf) d.pc.mf d.pc.lf d.pc.fr ∧ Ints .i64 W (On (E 7)) (.slice am d.sn.ns cm) d.sn.ns d.sn.sm ∧ Ints .i64 W (On (E 3)) (.slice aq d.nq cq) d.nq d.rd ∧ psum d.pc.lf d.pc.mf ≤ 1099511627776 := by
  obtain ⟨u0, u1, u2, u3, q1, q2, q3, q4, r1, r2, rfl, h0, h1, h2, h3, h4, h5⟩ := H
  obtain ⟨x1, x2, x3, x4, e4, -, -, k4⟩ := h4
  simp only [Value.agg.injEq, Array.mk.injEq, List.cons.injEq, and_true, true_and] at e4
  obtain ⟨-, -, -, rfl⟩ := e4
  obtain ⟨y1, y2, e5, -, k5⟩ := h5
  simp only [Value.agg.injEq, Array.mk.injEq, List.cons.injEq, and_true, true_and] at e5
  obtain ⟨-, rfl⟩ := e5
  have hp := k4.small
  obtain ⟨af, cf, rfl⟩ := k4.form
  obtain ⟨am, cm, rfl⟩ := k5.two
  obtain ⟨aq, cq, rfl⟩ := h3.two
  exact ⟨_, rfl, rfl, af, cf, am, cm, aq, cq, rfl, rfl, rfl, k4.ints, k5.ints17, h3.ints17, hp⟩

theorem rowAt_on17 {W W' : World} {o : Option Nat} {a : Option Addr} {n x : Nat} {f : Nat → Int} (h : RowAt W' W.heap.size o (.slice a n x) n f) (hlt : ∀ b, o = some b → b < W'.heap.size) : ListOn W' (fun b => W.heap.size ≤ b ∧ b < W'.heap.size) (.slice a n x) n f := by
  obtain ⟨a', x', e, hS⟩ := h.sl
  refine ⟨a', x', e, hS.small, hS.row, hS.free, fun b k hF => ?_⟩
  have hb := hS.on b k hF
  subst hb
  exact ⟨h.lt.1, h.lt.2⟩
theorem sa_on17 {W W' : World} {v : Value} {m : Nat} {ob : Nat → Option Nat} {iv ov : Nat → Value} {ln : Nat → Nat} {f : Nat → Nat → Int} (H : SA W' W.heap.size v m m ob iv ov ln f) (hs : psum ln m ≤ 1099511627776) : SsOn W' (fun b => W.heap.size ≤ b ∧ b < W'.heap.size) v m ln f :=
  H.onD (fun b h => by
    rcases h with h | ⟨i, hi, h⟩
    · exact own_at H.own h
    · have := H.rows i hi
      rw [h] at this
      exact this.lt) hs
set_option maxRecDepth 40000 in
set_option maxHeartbeats 4000000 in
theorem implObsOf (w : World) (E : Nat → Nat → Prop) (v : Value) (d : SpD) (H : SplitOn w E v d) :
    Calls Tryz.prog 71 #[v] w fun e w' => ∃ v', e = .returned v' ∧ ObCp w w' v' (obS d) ∧ Below w.heap.size w w' := by
  obtain ⟨cs, rfl, hsz, af, cf, am, cm, aq, cq, hf31, hf41, hf20, iF, iS, iQ, hps⟩ := H.seen
  clear H
  have HF0 := hide (fun W (L : Below w.heap.size w W) => framesCopy W _ _ d.pc.mf d.pc.lf d.pc.fr (iF.keep (wrote_below L Nowhere) (fun _ _ _ x => x)))
  have HS0 := hide (fun W (L : Below w.heap.size w W) => listCopyI W _ _ d.sn.ns d.sn.sm (iS.keep (wrote_below L Nowhere) (fun _ _ _ x => x)))
  have HQ0 := hide (fun W (L : Below w.heap.size w W) => listCopyI W _ _ d.nq d.rd (iQ.keep (wrote_below L Nowhere) (fun _ _ _ x => x)))
  have HPS := hide hps
  clear iF iS iQ hps
  have C0 : Below w.heap.size w ((w.alloc (.cells cs 46)).alloc (.cells #[.slice none 0 0, .slice none 0 0, .slice none 0 0] 74)) := ((Below.refl _ _).alloc (Nat.le_refl _) _).alloc (by simp) _
  have k0 : ((w.alloc (.cells cs 46)).alloc (.cells #[.slice none 0 0, .slice none 0 0, .slice none 0 0] 74)).heap[w.heap.size]? = some (.cells cs 46 (0, 0)) := boxA (box_new w cs 46) _
  have kR : ((w.alloc (.cells cs 46)).alloc (.cells #[.slice none 0 0, .slice none 0 0, .slice none 0 0] 74)).heap[w.heap.size + 1]? = some (.cells #[.slice none 0 0, .slice none 0 0, .slice none 0 0] 74 (0, 0)) := by simpa using box_new (w.alloc (.cells cs 46)) #[.slice none 0 0, .slice none 0 0, .slice none 0 0] 74
  go_enter Tryz.func71, Tryz.ntmps71
  go_upto_region 1 with (fail)
  generalize ((w.alloc (.cells cs 46)).alloc (.cells #[.slice none 0 0, .slice none 0 0, .slice none 0 0] 74)) = W0 at *
  have hR0 := boxLt kR
  obtain ⟨S, hS⟩ : ∃ S, Hid (S = W0.heap.size) := ⟨_, rfl⟩
  have hSw : w.heap.size + 1 < S := by rw [hS.out]; exact hR0
  rename_i K1 hK1
  refine wp_region_effL 12 [some 3, some 4, some 5, some 6, some 7, some 8, some 9, some 10, some 11, some 12, some 13, some 14, none] (by kernel_rfl) (by kernel_rfl) (by kernel_rfl) (by kernel_rfl) (by kernel_rfl) (by first | (simp [slotsOf]; done) | (simp [slotsOf, Act.put]; done))
    (fun _ => Nowhere)
    (fun i V lo hi W => match i with
      | 0 => V 0 = .pointer (some ⟨w.heap.size, 21, none⟩)
      | 1 => V 1 = .pointer (some ⟨w.heap.size, 31, none⟩)
      | 2 => V 2 = .slice af d.pc.mf cf
      | 3 => ∃ a x, V 3 = .slice a d.pc.mf x ∧ SsOn W (fun b => lo ≤ b ∧ b < hi) (.slice a d.pc.mf x) d.pc.mf d.pc.lf d.pc.fr
      | 4 => V 4 = .pointer (some ⟨w.heap.size, 32, none⟩)
      | 5 => V 5 = .pointer (some ⟨w.heap.size, 41, none⟩)
      | 6 => V 6 = .slice am d.sn.ns cm
      | 7 => ∃ a x, V 7 = .slice a d.sn.ns x ∧ ListOn W (fun b => lo ≤ b ∧ b < hi) (.slice a d.sn.ns x) d.sn.ns d.sn.sm
      | 8 => V 8 = .pointer (some ⟨w.heap.size, 20, none⟩)
      | 9 => V 9 = .slice aq d.nq cq
      | 10 => ∃ a x, V 10 = .slice a d.nq x ∧ ListOn W (fun b => lo ≤ b ∧ b < hi) (.slice a d.nq x) d.nq d.rd
      | 11 => ∃ a1 x1 a2 x2 a3 x3, V 3 = .slice a1 d.pc.mf x1 ∧ V 7 = .slice a2 d.sn.ns x2 ∧ V 10 = .slice a3 d.nq x3 ∧ V 11 = .agg #[.slice a1 d.pc.mf x1, .slice a2 d.sn.ns x2, .slice a3 d.nq x3]
      | _ => True) ?_ ?_ ?_
  · intro i j o V x lo hi W W' hij _ _ ho hnw hlo hhi hW h
    have nw : ∀ k, waitsB o k = true → k ≠ j := fun k hk e => by rw [e, hnw] at hk; cases hk
    match i, ho, hij, nw, h with
    | 0, ho, hij, nw, h => exact (updV_ne V x hij).trans h
    | 1, ho, hij, nw, h => exact (updV_ne V x hij).trans h
    | 2, ho, hij, nw, h => exact (updV_ne V x hij).trans h
    | 3, ho, hij, nw, h => (obtain ⟨a, x', h1, h2⟩ := h; exact ⟨a, x', (updV_ne V x hij).trans h1, h2.keep hW (fun _ _ _ _ x => x)⟩)
    | 4, ho, hij, nw, h => exact (updV_ne V x hij).trans h
    | 5, ho, hij, nw, h => exact (updV_ne V x hij).trans h
    | 6, ho, hij, nw, h => exact (updV_ne V x hij).trans h
    | 7, ho, hij, nw, h => (obtain ⟨a, x', h1, h2⟩ := h; exact ⟨a, x', (updV_ne V x hij).trans h1, h2.keep hW (fun _ _ _ _ x => x)⟩)
    | 8, ho, hij, nw, h => exact (updV_ne V x hij).trans h
    | 9, ho, hij, nw, h => exact (updV_ne V x hij).trans h
    | 10, ho, hij, nw, h => (obtain ⟨a, x', h1, h2⟩ := h; exact ⟨a, x', (updV_ne V x hij).trans h1, h2.keep hW (fun _ _ _ _ x => x)⟩)
    | 11, ho, hij, nw, h => (simp only [List.getElem?_toArray, List.getElem?_cons_zero, List.getElem?_cons_succ, Option.some.injEq] at ho; subst ho; obtain ⟨a1, x1, a2, x2, a3, x3, h1, h2, h3, h4⟩ := h; exact ⟨a1, x1, a2, x2, a3, x3, (updV_ne V x (nw 3 (by kernel_rfl))).trans h1, (updV_ne V x (nw 7 (by kernel_rfl))).trans h2, (updV_ne V x (nw 10 (by kernel_rfl))).trans h3, (updV_ne V x hij).trans h4⟩)
    | _ + 12, _, _, _, _ => exact trivial
  · intro i o a' W K8 hin ho F L hw hK
    have LN : Wrote Nowhere W0 W := L.mono (fun b o _ ⟨j, _, _, _, _, h⟩ => h)
    match i with
    | 0 =>
      simp only [List.getElem?_toArray, List.getElem?_cons_zero, List.getElem?_cons_succ, Option.some.injEq] at ho
      subst ho
      have t1 := F.get (t := 1) (v := .pointer (some ⟨w.heap.size, 0, none⟩)) (by decide) rfl
      go_simp
      exact hK _ _ (Wrote.refl _ _) (updV_same _ _ _)
    | 1 =>
      simp only [List.getElem?_toArray, List.getElem?_cons_zero, List.getElem?_cons_succ, Option.some.injEq] at ho
      subst ho
      have q0 : a'.tmps[3]?.getD undef = .pointer (some ⟨w.heap.size, 21, none⟩) := by obtain ⟨_, _, _, _, q⟩ := hw 0 (by kernel_rfl); exact q
      go_simp
      exact hK _ _ (Wrote.refl _ _) (updV_same _ _ _)
    | 2 =>
      simp only [List.getElem?_toArray, List.getElem?_cons_zero, List.getElem?_cons_succ, Option.some.injEq] at ho
      subst ho
      have q1 : a'.tmps[4]?.getD undef = .pointer (some ⟨w.heap.size, 31, none⟩) := by obtain ⟨_, _, _, _, q⟩ := hw 1 (by kernel_rfl); exact q
      have rb := boxC (box_wrote k0 LN (fun _ x => x))
      go_simp
      exact hK _ _ (Wrote.refl _ _) (updV_same _ _ _)
    | 3 =>
      simp only [List.getElem?_toArray, List.getElem?_cons_zero, List.getElem?_cons_succ, Option.some.injEq] at ho
      subst ho
      have q2 : a'.tmps[5]?.getD undef = .slice af d.pc.mf cf := by obtain ⟨_, _, _, _, q⟩ := hw 2 (by kernel_rfl); exact q
      go_simp
      refine (HF0.out W (C0.trans (LN.below C0.size (fun _ _ _ x => x)))).mono ?_
      rintro e W' ⟨v, ob, iv, ov, rfl, hA, LB⟩
      obtain ⟨a, x, rfl⟩ := hA.form
      exact hK _ _ (wrote_below LB _) ⟨a, x, updV_same _ _ _, sa_on17 hA HPS.out⟩
    | 4 =>
      simp only [List.getElem?_toArray, List.getElem?_cons_zero, List.getElem?_cons_succ, Option.some.injEq] at ho
      subst ho
      have t1 := F.get (t := 1) (v := .pointer (some ⟨w.heap.size, 0, none⟩)) (by decide) rfl
      go_simp
      exact hK _ _ (Wrote.refl _ _) (updV_same _ _ _)
    | 5 =>
      simp only [List.getElem?_toArray, List.getElem?_cons_zero, List.getElem?_cons_succ, Option.some.injEq] at ho
      subst ho
      have q4 : a'.tmps[7]?.getD undef = .pointer (some ⟨w.heap.size, 32, none⟩) := by obtain ⟨_, _, _, _, q⟩ := hw 4 (by kernel_rfl); exact q
      go_simp
      exact hK _ _ (Wrote.refl _ _) (updV_same _ _ _)
    | 6 =>
      simp only [List.getElem?_toArray, List.getElem?_cons_zero, List.getElem?_cons_succ, Option.some.injEq] at ho
      subst ho
      have q5 : a'.tmps[8]?.getD undef = .pointer (some ⟨w.heap.size, 41, none⟩) := by obtain ⟨_, _, _, _, q⟩ := hw 5 (by kernel_rfl); exact q
      have rb := boxC (box_wrote k0 LN (fun _ x => x))
      go_simp
      exact hK _ _ (Wrote.refl _ _) (updV_same _ _ _)
    | 7 =>
      simp only [List.getElem?_toArray, List.getElem?_cons_zero, List.getElem?_cons_succ, Option.some.injEq] at ho
      subst ho
      have q6 : a'.tmps[9]?.getD undef = .slice am d.sn.ns cm := by obtain ⟨_, _, _, _, q⟩ := hw 6 (by kernel_rfl); exact q
      go_simp
      refine (HS0.out W (C0.trans (LN.below C0.size (fun _ _ _ x => x)))).mono ?_
      rintro e W' ⟨y, o, rfl, hA, hlt, LB⟩
      obtain ⟨a, x, rfl⟩ := hA.form
      exact hK _ _ (wrote_below LB _) ⟨a, x, updV_same _ _ _, (rowAt_on17 hA hlt)⟩
    | 8 =>
      simp only [List.getElem?_toArray, List.getElem?_cons_zero, List.getElem?_cons_succ, Option.some.injEq] at ho
      subst ho
      have t1 := F.get (t := 1) (v := .pointer (some ⟨w.heap.size, 0, none⟩)) (by decide) rfl
      go_simp
      exact hK _ _ (Wrote.refl _ _) (updV_same _ _ _)
    | 9 =>
      simp only [List.getElem?_toArray, List.getElem?_cons_zero, List.getElem?_cons_succ, Option.some.injEq] at ho
      subst ho
      have q8 : a'.tmps[11]?.getD undef = .pointer (some ⟨w.heap.size, 20, none⟩) := by obtain ⟨_, _, _, _, q⟩ := hw 8 (by kernel_rfl); exact q
      have rb := boxC (box_wrote k0 LN (fun _ x => x))
      go_simp
      exact hK _ _ (Wrote.refl _ _) (updV_same _ _ _)
    | 10 =>
      simp only [List.getElem?_toArray, List.getElem?_cons_zero, List.getElem?_cons_succ, Option.some.injEq] at ho
      subst ho
      have q9 : a'.tmps[12]?.getD undef = .slice aq d.nq cq := by obtain ⟨_, _, _, _, q⟩ := hw 9 (by kernel_rfl); exact q
      go_simp
      refine (HQ0.out W (C0.trans (LN.below C0.size (fun _ _ _ x => x)))).mono ?_
      rintro e W' ⟨y, o, rfl, hA, hlt, LB⟩
      obtain ⟨a, x, rfl⟩ := hA.form
      exact hK _ _ (wrote_below LB _) ⟨a, x, updV_same _ _ _, (rowAt_on17 hA hlt)⟩
    | 11 =>
      simp only [List.getElem?_toArray, List.getElem?_cons_zero, List.getElem?_cons_succ, Option.some.injEq] at ho
      subst ho
      obtain ⟨_, _, _, _, a1, x1, q3, -⟩ := hw 3 (by kernel_rfl)
      have q3' : a'.tmps[6]?.getD undef = .slice a1 d.pc.mf x1 := q3
      obtain ⟨_, _, _, _, a2, x2, q7, -⟩ := hw 7 (by kernel_rfl)
      have q7' : a'.tmps[10]?.getD undef = .slice a2 d.sn.ns x2 := q7
      obtain ⟨_, _, _, _, a3, x3, q10, -⟩ := hw 10 (by kernel_rfl)
      have q10' : a'.tmps[13]?.getD undef = .slice a3 d.nq x3 := q10
      go_simp
      exact hK _ _ (Wrote.refl _ _) ⟨a1, x1, a2, x2, a3, x3, (updV_ne _ _ (by decide)).trans q3, (updV_ne _ _ (by decide)).trans q7, (updV_ne _ _ (by decide)).trans q10, updV_same _ _ _⟩
    | _ + 12 => omega
  · intro o a' W K8 ho F L lo hi hφ hdj hK
    have LN : Wrote Nowhere W0 W := L.mono (fun b o _ ⟨j, h⟩ => h)
    simp only [List.getElem?_toArray, List.getElem?_cons_zero, List.getElem?_cons_succ, Option.some.injEq] at ho
    subst ho
    obtain ⟨l3, m3, z3, a1, x1, q3, hA⟩ := hφ 3 (by decide)
    obtain ⟨l7, m7, z7, a2, x2, q7, hB⟩ := hφ 7 (by decide)
    obtain ⟨l10, m10, z10, a3, x3, q10, hC⟩ := hφ 10 (by decide)
    obtain ⟨-, -, -, b1, y1, b2, y2, b3, y3, e3, e7, e10, sB⟩ := hφ 11 (by decide)
    rw [q3] at e3
    rw [q7] at e7
    rw [q10] at e10
    simp only [Value.slice.injEq, true_and] at e3 e7 e10
    obtain ⟨rfl, rfl⟩ := e3
    obtain ⟨rfl, rfl⟩ := e7
    obtain ⟨rfl, rfl⟩ := e10
    have d37 := hdj 3 7 (by decide) (by decide) (by decide)
    have d310 := hdj 3 10 (by decide) (by decide) (by decide)
    have d710 := hdj 7 10 (by decide) (by decide) (by decide)
    replace sB : a'.tmps[14]?.getD undef = .agg #[.slice a1 d.pc.mf x1, .slice a2 d.sn.ns x2, .slice a3 d.nq x3] := sB
    refine wp_store_row _ _ _ rfl (w.heap.size + 1) #[.slice a1 d.pc.mf x1, .slice a2 d.sn.ns x2, .slice a3 d.nq x3] (by simpa [Act.eval] using F.get (t := 2) (v := .pointer (some ⟨w.heap.size + 1, 0, none⟩)) (by decide) rfl) (by simpa [Act.eval] using sB) _ _ (box_wrote kR LN (fun _ x => x)) infoObs17 rfl (by first | kernel_rfl | simp [Value.oneCell']) ?_
    refine hK _ _ ?_
    have kE := box_wrote kR LN (fun _ x => x)
    have WW := wrote_setRowU kE #[.slice a1 d.pc.mf x1, .slice a2 d.sn.ns x2, .slice a3 d.nq x3]
    have kF := setRow_heap _ _ _ #[.slice a1 d.pc.mf x1, .slice a2 d.sn.ns x2, .slice a3 d.nq x3] _ _ kE
    have CF : Below w.heap.size w (W.setRow (w.heap.size + 1) #[.slice a1 d.pc.mf x1, .slice a2 d.sn.ns x2, .slice a3 d.nq x3]) := (C0.trans (LN.below C0.size (fun _ _ _ x => x))).trans (WW.below (Nat.le_trans C0.size LN.size) (fun b o hb (e : b = _) => by omega))
    have hWs : (W.setRow (w.heap.size + 1) #[.slice a1 d.pc.mf x1, .slice a2 d.sn.ns x2, .slice a3 d.nq x3]).heap.size = W.heap.size := by simp [World.setRow]
    have hC0 := C0.size
    have HF : Hid (ObCp w (W.setRow (w.heap.size + 1) #[.slice a1 d.pc.mf x1, .slice a2 d.sn.ns x2, .slice a3 d.nq x3]) (.agg #[.slice a1 d.pc.mf x1, .slice a2 d.sn.ns x2, .slice a3 d.nq x3]) (obS d)) := ⟨fun i b => (i = 4 ∧ (lo 3 ≤ b ∧ b < hi 3)) ∨ (i = 5 ∧ (lo 7 ≤ b ∧ b < hi 7)) ∨ (i = 6 ∧ (lo 10 ≤ b ∧ b < hi 10)), ⟨_, _, _, rfl, (hA.keep WW (fun b o hb hlt (e : b = _) => by omega)).mono (fun b _ h => Or.inl ⟨rfl, h⟩), (hB.keep WW (fun b o hb hlt (e : b = _) => by omega)).mono (fun b _ h => Or.inr (Or.inl ⟨rfl, h⟩)), (hC.keep WW (fun b o hb hlt (e : b = _) => by omega)).mono (fun b _ h => Or.inr (Or.inr ⟨rfl, h⟩))⟩, fun i j b h1 h2 => by rcases h1 with ⟨rfl, h1⟩ | ⟨rfl, h1⟩ | ⟨rfl, h1⟩ <;> rcases h2 with ⟨rfl, h2⟩ | ⟨rfl, h2⟩ | ⟨rfl, h2⟩ <;> first | rfl | omega, fun i b h => by rw [hWs]; rcases h with ⟨-, h⟩ | ⟨-, h⟩ | ⟨-, h⟩ <;> omega⟩
    rw [F.same, show slotsOf [some 3, some 4, some 5, some 6, some 7, some 8, some 9, some 10, some 11, some 12, some 13, some 14, none] = [3, 4, 5, 6, 7, 8, 9, 10, 11, 12, 13, 14] from rfl]
    simp only [List.foldl_cons, List.foldl_nil]
    generalize a'.tmps[3]?.getD undef = gv3
    generalize a'.tmps[4]?.getD undef = gv4
    generalize a'.tmps[5]?.getD undef = gv5
    generalize a'.tmps[6]?.getD undef = gv6
    generalize a'.tmps[7]?.getD undef = gv7
    generalize a'.tmps[8]?.getD undef = gv8
    generalize a'.tmps[9]?.getD undef = gv9
    generalize a'.tmps[10]?.getD undef = gv10
    generalize a'.tmps[11]?.getD undef = gv11
    generalize a'.tmps[12]?.getD undef = gv12
    generalize a'.tmps[13]?.getD undef = gv13
    generalize a'.tmps[14]?.getD undef = gv14
    clear hφ hdj F L LN WW kE hK kR sB hA hB hC
    generalize W.setRow (w.heap.size + 1) #[.slice a1 d.pc.mf x1, .slice a2 d.sn.ns x2, .slice a3 d.nq x3] = W4 at *
    refine hK1 _ _ ?_
    clear hK1
    go_simp
    go_wp2
    refine bodyPost_ret (v := .agg #[.slice a1 d.pc.mf x1, .slice a2 d.sn.ns x2, .slice a3 d.nq x3]) (by exact results_cell_row Tryz.results71 _ _ (w.heap.size + 1) _ _ _ _ rfl kF Tryz.underlying74 rfl infoObs17) rfl ?_
    exact ⟨_, rfl, HF.out, CF⟩
set_option maxRecDepth 40000 in
set_option maxHeartbeats 4000000 in
theorem specObsOf (w : World) (E : Nat → Nat → Prop) (v : Value) (d : SpD) (H : SplitOn w E v d) :
    Calls Tryz.prog 60 #[v] w fun e w' => ∃ v', e = .returned v' ∧ ObCp w w' v' (obS d) ∧ Below w.heap.size w w' := by
  obtain ⟨cs, rfl, hsz, af, cf, am, cm, aq, cq, hf31, hf41, hf20, iF, iS, iQ, hps⟩ := H.seen
  clear H
  have HF0 := hide (fun W (L : Below w.heap.size w W) => l12List W _ _ d.pc.mf d.pc.lf d.pc.fr (iF.keep (wrote_below L Nowhere) (fun _ _ _ x => x)))
  have HS0 := hide (fun W (L : Below w.heap.size w W) => iS.keep (wrote_below L Nowhere) (fun _ _ _ x => x))
  have HQ0 := hide (fun W (L : Below w.heap.size w W) => iQ.keep (wrote_below L Nowhere) (fun _ _ _ x => x))
  have HPS := hide hps
  clear iF iS iQ hps
  have C0 : Below w.heap.size w ((w.alloc (.cells cs 46)).alloc (.cells #[.slice none 0 0, .slice none 0 0, .slice none 0 0] 74)) := ((Below.refl _ _).alloc (Nat.le_refl _) _).alloc (by simp) _
  have k0 : ((w.alloc (.cells cs 46)).alloc (.cells #[.slice none 0 0, .slice none 0 0, .slice none 0 0] 74)).heap[w.heap.size]? = some (.cells cs 46 (0, 0)) := boxA (box_new w cs 46) _
  have kR : ((w.alloc (.cells cs 46)).alloc (.cells #[.slice none 0 0, .slice none 0 0, .slice none 0 0] 74)).heap[w.heap.size + 1]? = some (.cells #[.slice none 0 0, .slice none 0 0, .slice none 0 0] 74 (0, 0)) := by simpa using box_new (w.alloc (.cells cs 46)) #[.slice none 0 0, .slice none 0 0, .slice none 0 0] 74
  go_enter Tryz.func60, Tryz.ntmps60
  go_upto_region 1 with (fail)
  generalize ((w.alloc (.cells cs 46)).alloc (.cells #[.slice none 0 0, .slice none 0 0, .slice none 0 0] 74)) = W0 at *
  have hR0 := boxLt kR
  obtain ⟨S, hS⟩ : ∃ S, Hid (S = W0.heap.size) := ⟨_, rfl⟩
  have hSw : w.heap.size + 1 < S := by rw [hS.out]; exact hR0
  rename_i K1 hK1
  refine wp_region_effL 14 [some 3, some 4, some 5, some 6, some 7, some 8, some 9, some 10, some 11, some 12, some 13, some 14, some 15, some 16, none] (by kernel_rfl) (by kernel_rfl) (by kernel_rfl) (by kernel_rfl) (by kernel_rfl) (by first | (simp [slotsOf]; done) | (simp [slotsOf, Act.put]; done))
    (fun _ => Nowhere)
    (fun i V lo hi W => match i with
      | 0 => V 0 = .pointer (some ⟨w.heap.size, 21, none⟩)
      | 1 => V 1 = .pointer (some ⟨w.heap.size, 31, none⟩)
      | 2 => V 2 = .slice af d.pc.mf cf
      | 3 => ∃ a x, V 3 = .slice a d.pc.mf x ∧ SsOn W (fun b => lo ≤ b ∧ b < hi) (.slice a d.pc.mf x) d.pc.mf d.pc.lf d.pc.fr
      | 4 => ∃ g, V 4 = .slice (some ⟨g, 0, none⟩) 0 0 ∧ lo ≤ g ∧ g < hi ∧ W.heap[g]? = some (.cells #[] 3 (0, 0))
      | 5 => V 5 = .pointer (some ⟨w.heap.size, 32, none⟩)
      | 6 => V 6 = .pointer (some ⟨w.heap.size, 41, none⟩)
      | 7 => V 7 = .slice am d.sn.ns cm
      | 8 => ∃ g x, V 8 = .slice (some ⟨g, 0, none⟩) d.sn.ns x ∧ Row W S g d.sn.ns x d.sn.sm ∧ (V 4 = .slice (some ⟨g, 0, none⟩) 0 0 ∨ (lo ≤ g ∧ g < hi))
      | 9 => ∃ g, V 9 = .slice (some ⟨g, 0, none⟩) 0 0 ∧ lo ≤ g ∧ g < hi ∧ W.heap[g]? = some (.cells #[] 3 (0, 0))
      | 10 => V 10 = .pointer (some ⟨w.heap.size, 20, none⟩)
      | 11 => V 11 = .slice aq d.nq cq
      | 12 => ∃ g x, V 12 = .slice (some ⟨g, 0, none⟩) d.nq x ∧ Row W S g d.nq x d.rd ∧ (V 9 = .slice (some ⟨g, 0, none⟩) 0 0 ∨ (lo ≤ g ∧ g < hi))
      | 13 => ∃ a1 x1 a2 x2 a3 x3, V 3 = .slice a1 d.pc.mf x1 ∧ V 8 = .slice a2 d.sn.ns x2 ∧ V 12 = .slice a3 d.nq x3 ∧ V 13 = .agg #[.slice a1 d.pc.mf x1, .slice a2 d.sn.ns x2, .slice a3 d.nq x3]
      | _ => True) ?_ ?_ ?_
  · intro i j o V x lo hi W W' hij _ _ ho hnw hlo hhi hW h
    have nw : ∀ k, waitsB o k = true → k ≠ j := fun k hk e => by rw [e, hnw] at hk; cases hk
    match i, ho, hij, nw, h with
    | 0, ho, hij, nw, h => exact (updV_ne V x hij).trans h
    | 1, ho, hij, nw, h => exact (updV_ne V x hij).trans h
    | 2, ho, hij, nw, h => exact (updV_ne V x hij).trans h
    | 3, ho, hij, nw, h => (obtain ⟨a, x', h1, h2⟩ := h; exact ⟨a, x', (updV_ne V x hij).trans h1, h2.keep hW (fun _ _ _ _ x => x)⟩)
    | 4, ho, hij, nw, h => (obtain ⟨g, h1, h2, h3, h4⟩ := h; exact ⟨g, (updV_ne V x hij).trans h1, h2, h3, (hW.block g (by omega) (fun _ x => x)).trans h4⟩)
    | 5, ho, hij, nw, h => exact (updV_ne V x hij).trans h
    | 6, ho, hij, nw, h => exact (updV_ne V x hij).trans h
    | 7, ho, hij, nw, h => exact (updV_ne V x hij).trans h
    | 8, ho, hij, nw, h => (simp only [List.getElem?_toArray, List.getElem?_cons_zero, List.getElem?_cons_succ, Option.some.injEq] at ho; subst ho; obtain ⟨g, x', h1, h2, h3⟩ := h; refine ⟨g, x', (updV_ne V x hij).trans h1, h2.keep hW (fun _ x => x), ?_⟩; rw [updV_ne V x (nw 4 (by kernel_rfl))]; exact h3)
    | 9, ho, hij, nw, h => (obtain ⟨g, h1, h2, h3, h4⟩ := h; exact ⟨g, (updV_ne V x hij).trans h1, h2, h3, (hW.block g (by omega) (fun _ x => x)).trans h4⟩)
    | 10, ho, hij, nw, h => exact (updV_ne V x hij).trans h
    | 11, ho, hij, nw, h => exact (updV_ne V x hij).trans h
    | 12, ho, hij, nw, h => (simp only [List.getElem?_toArray, List.getElem?_cons_zero, List.getElem?_cons_succ, Option.some.injEq] at ho; subst ho; obtain ⟨g, x', h1, h2, h3⟩ := h; refine ⟨g, x', (updV_ne V x hij).trans h1, h2.keep hW (fun _ x => x), ?_⟩; rw [updV_ne V x (nw 9 (by kernel_rfl))]; exact h3)
    | 13, ho, hij, nw, h => (simp only [List.getElem?_toArray, List.getElem?_cons_zero, List.getElem?_cons_succ, Option.some.injEq] at ho; subst ho; obtain ⟨a1, x1, a2, x2, a3, x3, h1, h2, h3, h4⟩ := h; exact ⟨a1, x1, a2, x2, a3, x3, (updV_ne V x (nw 3 (by kernel_rfl))).trans h1, (updV_ne V x (nw 8 (by kernel_rfl))).trans h2, (updV_ne V x (nw 12 (by kernel_rfl))).trans h3, (updV_ne V x hij).trans h4⟩)
    | _ + 14, _, _, _, _ => exact trivial
  · intro i o a' W K8 hin ho F L hw hK
    have LN : Wrote Nowhere W0 W := L.mono (fun b o _ ⟨j, _, _, _, _, h⟩ => h)
    match i with
    | 0 =>
      simp only [List.getElem?_toArray, List.getElem?_cons_zero, List.getElem?_cons_succ, Option.some.injEq] at ho
      subst ho
      have t1 := F.get (t := 1) (v := .pointer (some ⟨w.heap.size, 0, none⟩)) (by decide) rfl
      go_simp
      exact hK _ _ (Wrote.refl _ _) (updV_same _ _ _)
    | 1 =>
      simp only [List.getElem?_toArray, List.getElem?_cons_zero, List.getElem?_cons_succ, Option.some.injEq] at ho
      subst ho
      have q0 : a'.tmps[3]?.getD undef = .pointer (some ⟨w.heap.size, 21, none⟩) := by obtain ⟨_, _, _, _, q⟩ := hw 0 (by kernel_rfl); exact q
      go_simp
      exact hK _ _ (Wrote.refl _ _) (updV_same _ _ _)
    | 2 =>
      simp only [List.getElem?_toArray, List.getElem?_cons_zero, List.getElem?_cons_succ, Option.some.injEq] at ho
      subst ho
      have q1 : a'.tmps[4]?.getD undef = .pointer (some ⟨w.heap.size, 31, none⟩) := by obtain ⟨_, _, _, _, q⟩ := hw 1 (by kernel_rfl); exact q
      have rb := boxC (box_wrote k0 LN (fun _ x => x))
      go_simp
      exact hK _ _ (Wrote.refl _ _) (updV_same _ _ _)
    | 3 =>
      simp only [List.getElem?_toArray, List.getElem?_cons_zero, List.getElem?_cons_succ, Option.some.injEq] at ho
      subst ho
      have q2 : a'.tmps[5]?.getD undef = .slice af d.pc.mf cf := by obtain ⟨_, _, _, _, q⟩ := hw 2 (by kernel_rfl); exact q
      go_simp
      refine (HF0.out W (C0.trans (LN.below C0.size (fun _ _ _ x => x)))).mono ?_
      rintro e W' ⟨ov, gb, cp, rfl, hA, LB⟩
      have hD := hA.on (D := fun b => W.heap.size ≤ b ∧ b < W'.heap.size) (fun b h1 h2 => ⟨h1, h2⟩) HPS.out
      obtain ⟨a, x, rfl⟩ := hD.form
      exact hK _ _ (wrote_below LB _) ⟨a, x, updV_same _ _ _, hD⟩
    | 4 =>
      simp only [List.getElem?_toArray, List.getElem?_cons_zero, List.getElem?_cons_succ, Option.some.injEq] at ho
      subst ho
      have hSN : S ≤ W.heap.size := by rw [hS.out]; exact LN.size
      have LA : Below W.heap.size W (W.alloc (.cells #[] 3)) := (Below.refl _ _).alloc (Nat.le_refl _) _
      go_simp
      exact hK _ _ (wrote_below LA _) ⟨W.heap.size, updV_same _ _ _, Nat.le_refl _, by simp, box_new W #[] 3⟩
    | 5 =>
      simp only [List.getElem?_toArray, List.getElem?_cons_zero, List.getElem?_cons_succ, Option.some.injEq] at ho
      subst ho
      have t1 := F.get (t := 1) (v := .pointer (some ⟨w.heap.size, 0, none⟩)) (by decide) rfl
      go_simp
      exact hK _ _ (Wrote.refl _ _) (updV_same _ _ _)
    | 6 =>
      simp only [List.getElem?_toArray, List.getElem?_cons_zero, List.getElem?_cons_succ, Option.some.injEq] at ho
      subst ho
      have q5 : a'.tmps[8]?.getD undef = .pointer (some ⟨w.heap.size, 32, none⟩) := by obtain ⟨_, _, _, _, q⟩ := hw 5 (by kernel_rfl); exact q
      go_simp
      exact hK _ _ (Wrote.refl _ _) (updV_same _ _ _)
    | 7 =>
      simp only [List.getElem?_toArray, List.getElem?_cons_zero, List.getElem?_cons_succ, Option.some.injEq] at ho
      subst ho
      have q6 : a'.tmps[9]?.getD undef = .pointer (some ⟨w.heap.size, 41, none⟩) := by obtain ⟨_, _, _, _, q⟩ := hw 6 (by kernel_rfl); exact q
      have rb := boxC (box_wrote k0 LN (fun _ x => x))
      go_simp
      exact hK _ _ (Wrote.refl _ _) (updV_same _ _ _)
    | 8 =>
      simp only [List.getElem?_toArray, List.getElem?_cons_zero, List.getElem?_cons_succ, Option.some.injEq] at ho
      subst ho
      have hSN : S ≤ W.heap.size := by rw [hS.out]; exact LN.size
      have q7 : a'.tmps[10]?.getD undef = .slice am d.sn.ns cm := by obtain ⟨_, _, _, _, q⟩ := hw 7 (by kernel_rfl); exact q
      obtain ⟨lo9, hi9, hlo9, hhi9, g0, qg, hg1, hg2, hg3⟩ := hw 4 (by kernel_rfl)
      have qg' : a'.tmps[7]?.getD undef = .slice (some ⟨g0, 0, none⟩) 0 0 := qg
      refine wp_copy W _ _ rfl g0 (by simpa [Act.eval] using qg') hg3 S (by rw [hS.out]; omega) _ (.slice am d.sn.ns cm) d.sn.ns d.sn.sm (by simpa [Act.eval] using q7) (HS0.out W (C0.trans (LN.below C0.size (fun _ _ _ x => x)))) ?_
      rintro g c W' hR LB hg
      refine hK _ _ (wrote_below LB _) ⟨g, c, updV_same _ _ _, hR, ?_⟩
      rw [updV_ne _ _ (by decide)]
      rcases hg with rfl | hg
      · exact Or.inl qg
      · exact Or.inr ⟨hg, hR.parts.2.1⟩
    | 9 =>
      simp only [List.getElem?_toArray, List.getElem?_cons_zero, List.getElem?_cons_succ, Option.some.injEq] at ho
      subst ho
      have hSN : S ≤ W.heap.size := by rw [hS.out]; exact LN.size
      have LA : Below W.heap.size W (W.alloc (.cells #[] 3)) := (Below.refl _ _).alloc (Nat.le_refl _) _
      go_simp
      exact hK _ _ (wrote_below LA _) ⟨W.heap.size, updV_same _ _ _, Nat.le_refl _, by simp, box_new W #[] 3⟩
    | 10 =>
      simp only [List.getElem?_toArray, List.getElem?_cons_zero, List.getElem?_cons_succ, Option.some.injEq] at ho
      subst ho
      have t1 := F.get (t := 1) (v := .pointer (some ⟨w.heap.size, 0, none⟩)) (by decide) rfl
      go_simp
      exact hK _ _ (Wrote.refl _ _) (updV_same _ _ _)
    | 11 =>
      simp only [List.getElem?_toArray, List.getElem?_cons_zero, List.getElem?_cons_succ, Option.some.injEq] at ho
      subst ho
      have q10 : a'.tmps[13]?.getD undef = .pointer (some ⟨w.heap.size, 20, none⟩) := by obtain ⟨_, _, _, _, q⟩ := hw 10 (by kernel_rfl); exact q
      have rb := boxC (box_wrote k0 LN (fun _ x => x))
      go_simp
      exact hK _ _ (Wrote.refl _ _) (updV_same _ _ _)
    | 12 =>
      simp only [List.getElem?_toArray, List.getElem?_cons_zero, List.getElem?_cons_succ, Option.some.injEq] at ho
      subst ho
      have hSN : S ≤ W.heap.size := by rw [hS.out]; exact LN.size
      have q11 : a'.tmps[14]?.getD undef = .slice aq d.nq cq := by obtain ⟨_, _, _, _, q⟩ := hw 11 (by kernel_rfl); exact q
      obtain ⟨lo9, hi9, hlo9, hhi9, g0, qg, hg1, hg2, hg3⟩ := hw 9 (by kernel_rfl)
      have qg' : a'.tmps[12]?.getD undef = .slice (some ⟨g0, 0, none⟩) 0 0 := qg
      refine wp_copy W _ _ rfl g0 (by simpa [Act.eval] using qg') hg3 S (by rw [hS.out]; omega) _ (.slice aq d.nq cq) d.nq d.rd (by simpa [Act.eval] using q11) (HQ0.out W (C0.trans (LN.below C0.size (fun _ _ _ x => x)))) ?_
      rintro g c W' hR LB hg
      refine hK _ _ (wrote_below LB _) ⟨g, c, updV_same _ _ _, hR, ?_⟩
      rw [updV_ne _ _ (by decide)]
      rcases hg with rfl | hg
      · exact Or.inl qg
      · exact Or.inr ⟨hg, hR.parts.2.1⟩
    | 13 =>
      simp only [List.getElem?_toArray, List.getElem?_cons_zero, List.getElem?_cons_succ, Option.some.injEq] at ho
      subst ho
      obtain ⟨_, _, _, _, a1, x1, q3, -⟩ := hw 3 (by kernel_rfl)
      have q3' : a'.tmps[6]?.getD undef = .slice a1 d.pc.mf x1 := q3
      obtain ⟨_, _, _, _, g2, x2, q8, -⟩ := hw 8 (by kernel_rfl)
      have q8' : a'.tmps[11]?.getD undef = .slice (some ⟨g2, 0, none⟩) d.sn.ns x2 := q8
      obtain ⟨_, _, _, _, g3, x3, q12, -⟩ := hw 12 (by kernel_rfl)
      have q12' : a'.tmps[15]?.getD undef = .slice (some ⟨g3, 0, none⟩) d.nq x3 := q12
      go_simp
      exact hK _ _ (Wrote.refl _ _) ⟨a1, x1, _, x2, _, x3, (updV_ne _ _ (by decide)).trans q3, (updV_ne _ _ (by decide)).trans q8, (updV_ne _ _ (by decide)).trans q12, updV_same _ _ _⟩
    | _ + 14 => omega
  · intro o a' W K8 ho F L lo hi hφ hdj hK
    have LN : Wrote Nowhere W0 W := L.mono (fun b o _ ⟨j, h⟩ => h)
    simp only [List.getElem?_toArray, List.getElem?_cons_zero, List.getElem?_cons_succ, Option.some.injEq] at ho
    subst ho
    obtain ⟨l3, m3, z3, a1, x1, q3, hA⟩ := hφ 3 (by decide)
    obtain ⟨l4, m4, z4, g4, q4, n4, n4', -⟩ := hφ 4 (by decide)
    obtain ⟨l8, m8, z8, g2, x2, q8, hB', hB2⟩ := hφ 8 (by decide)
    obtain ⟨l9, m9, z9, g9, q9, n9, n9', -⟩ := hφ 9 (by decide)
    obtain ⟨l12, m12, z12, g3, x3, q12, hC', hC2⟩ := hφ 12 (by decide)
    obtain ⟨-, -, -, b1, y1, b2, y2, b3, y3, e3, e7, e10, sB⟩ := hφ 13 (by decide)
    rw [q3] at e3
    rw [q8] at e7
    rw [q12] at e10
    simp only [Value.slice.injEq, true_and] at e3 e7 e10
    obtain ⟨rfl, rfl⟩ := e3
    obtain ⟨rfl, rfl⟩ := e7
    obtain ⟨rfl, rfl⟩ := e10
    have r2 : (lo 4 ≤ g2 ∧ g2 < hi 4) ∨ (lo 8 ≤ g2 ∧ g2 < hi 8) := by
      rcases hB2 with e | e
      · rw [q4] at e
        simp only [Value.slice.injEq, Option.some.injEq, Addr.mk.injEq, and_true] at e
        exact Or.inl (by omega)
      · exact Or.inr e
    have r3 : (lo 9 ≤ g3 ∧ g3 < hi 9) ∨ (lo 12 ≤ g3 ∧ g3 < hi 12) := by
      rcases hC2 with e | e
      · rw [q9] at e
        simp only [Value.slice.injEq, Option.some.injEq, Addr.mk.injEq, and_true] at e
        exact Or.inl (by omega)
      · exact Or.inr e
    have p24 : g2 ≠ g3 := fun e => by
      have e1 := hdj 4 9 (by decide) (by decide) (by decide)
      have e2 := hdj 4 12 (by decide) (by decide) (by decide)
      have e3 := hdj 8 9 (by decide) (by decide) (by decide)
      have e4 := hdj 8 12 (by decide) (by decide) (by decide)
      omega
    have p32 : ¬ (lo 3 ≤ g2 ∧ g2 < hi 3) := fun e => by
      have e1 := hdj 3 4 (by decide) (by decide) (by decide)
      have e2 := hdj 3 8 (by decide) (by decide) (by decide)
      omega
    have p33 : ¬ (lo 3 ≤ g3 ∧ g3 < hi 3) := fun e => by
      have e1 := hdj 3 9 (by decide) (by decide) (by decide)
      have e2 := hdj 3 12 (by decide) (by decide) (by decide)
      omega
    have b2 : W0.heap.size ≤ g2 ∧ g2 < W.heap.size := by omega
    have b3 : W0.heap.size ≤ g3 ∧ g3 < W.heap.size := by omega
    clear r2 r3 hB2 hC2 n4 n4' n9 n9' q4 q9 l4 m4 z4 l8 m8 z8 l9 m9 z9 l12 m12 z12
    have hB : ListOn W (fun b => b = g2) (.slice (some ⟨g2, 0, none⟩) d.sn.ns x2) d.sn.ns d.sn.sm := ⟨_, _, rfl, hB'.sl⟩
    have hC : ListOn W (fun b => b = g3) (.slice (some ⟨g3, 0, none⟩) d.nq x3) d.nq d.rd := ⟨_, _, rfl, hC'.sl⟩
    clear hB' hC'
    replace sB : a'.tmps[16]?.getD undef = .agg #[.slice a1 d.pc.mf x1, .slice (some ⟨g2, 0, none⟩) d.sn.ns x2, .slice (some ⟨g3, 0, none⟩) d.nq x3] := sB
    refine wp_store_row _ _ _ rfl (w.heap.size + 1) #[.slice a1 d.pc.mf x1, .slice (some ⟨g2, 0, none⟩) d.sn.ns x2, .slice (some ⟨g3, 0, none⟩) d.nq x3] (by simpa [Act.eval] using F.get (t := 2) (v := .pointer (some ⟨w.heap.size + 1, 0, none⟩)) (by decide) rfl) (by simpa [Act.eval] using sB) _ _ (box_wrote kR LN (fun _ x => x)) infoObs17 rfl (by first | kernel_rfl | simp [Value.oneCell']) ?_
    refine hK _ _ ?_
    have kE := box_wrote kR LN (fun _ x => x)
    have WW := wrote_setRowU kE #[.slice a1 d.pc.mf x1, .slice (some ⟨g2, 0, none⟩) d.sn.ns x2, .slice (some ⟨g3, 0, none⟩) d.nq x3]
    have kF := setRow_heap _ _ _ #[.slice a1 d.pc.mf x1, .slice (some ⟨g2, 0, none⟩) d.sn.ns x2, .slice (some ⟨g3, 0, none⟩) d.nq x3] _ _ kE
    have CF : Below w.heap.size w (W.setRow (w.heap.size + 1) #[.slice a1 d.pc.mf x1, .slice (some ⟨g2, 0, none⟩) d.sn.ns x2, .slice (some ⟨g3, 0, none⟩) d.nq x3]) := (C0.trans (LN.below C0.size (fun _ _ _ x => x))).trans (WW.below (Nat.le_trans C0.size LN.size) (fun b o hb (e : b = _) => by omega))
    have hWs : (W.setRow (w.heap.size + 1) #[.slice a1 d.pc.mf x1, .slice (some ⟨g2, 0, none⟩) d.sn.ns x2, .slice (some ⟨g3, 0, none⟩) d.nq x3]).heap.size = W.heap.size := by simp [World.setRow]
    have hC0 := C0.size
    have HF : Hid (ObCp w (W.setRow (w.heap.size + 1) #[.slice a1 d.pc.mf x1, .slice (some ⟨g2, 0, none⟩) d.sn.ns x2, .slice (some ⟨g3, 0, none⟩) d.nq x3]) (.agg #[.slice a1 d.pc.mf x1, .slice (some ⟨g2, 0, none⟩) d.sn.ns x2, .slice (some ⟨g3, 0, none⟩) d.nq x3]) (obS d)) := ⟨fun i b => (i = 4 ∧ (lo 3 ≤ b ∧ b < hi 3)) ∨ (i = 5 ∧ (b = g2)) ∨ (i = 6 ∧ (b = g3)), ⟨_, _, _, rfl, (hA.keep WW (fun b o hb hlt (e : b = _) => by omega)).mono (fun b _ h => Or.inl ⟨rfl, h⟩), (hB.keep WW (fun b o hb hlt (e : b = _) => by omega)).mono (fun b _ h => Or.inr (Or.inl ⟨rfl, h⟩)), (hC.keep WW (fun b o hb hlt (e : b = _) => by omega)).mono (fun b _ h => Or.inr (Or.inr ⟨rfl, h⟩))⟩, fun i j b h1 h2 => by rcases h1 with ⟨rfl, h1⟩ | ⟨rfl, h1⟩ | ⟨rfl, h1⟩ <;> rcases h2 with ⟨rfl, h2⟩ | ⟨rfl, h2⟩ | ⟨rfl, h2⟩ <;> first | rfl | omega, fun i b h => by rw [hWs]; rcases h with ⟨-, h⟩ | ⟨-, h⟩ | ⟨-, h⟩ <;> omega⟩
    rw [F.same, show slotsOf [some 3, some 4, some 5, some 6, some 7, some 8, some 9, some 10, some 11, some 12, some 13, some 14, some 15, some 16, none] = [3, 4, 5, 6, 7, 8, 9, 10, 11, 12, 13, 14, 15, 16] from rfl]
    simp only [List.foldl_cons, List.foldl_nil]
    generalize a'.tmps[3]?.getD undef = gv3
    generalize a'.tmps[4]?.getD undef = gv4
    generalize a'.tmps[5]?.getD undef = gv5
    generalize a'.tmps[6]?.getD undef = gv6
    generalize a'.tmps[7]?.getD undef = gv7
    generalize a'.tmps[8]?.getD undef = gv8
    generalize a'.tmps[9]?.getD undef = gv9
    generalize a'.tmps[10]?.getD undef = gv10
    generalize a'.tmps[11]?.getD undef = gv11
    generalize a'.tmps[12]?.getD undef = gv12
    generalize a'.tmps[13]?.getD undef = gv13
    generalize a'.tmps[14]?.getD undef = gv14
    generalize a'.tmps[15]?.getD undef = gv15
    generalize a'.tmps[16]?.getD undef = gv16
    clear hφ hdj F L LN WW kE hK kR sB hA hB hC
    generalize W.setRow (w.heap.size + 1) #[.slice a1 d.pc.mf x1, .slice (some ⟨g2, 0, none⟩) d.sn.ns x2, .slice (some ⟨g3, 0, none⟩) d.nq x3] = W4 at *
    refine hK1 _ _ ?_
    clear hK1
    go_simp
    go_wp2
    refine bodyPost_ret (v := .agg #[.slice a1 d.pc.mf x1, .slice (some ⟨g2, 0, none⟩) d.sn.ns x2, .slice (some ⟨g3, 0, none⟩) d.nq x3]) (by exact results_cell_row Tryz.results60 _ _ (w.heap.size + 1) _ _ _ _ rfl kF Tryz.underlying74 rfl infoObs17) rfl ?_
    exact ⟨_, rfl, HF.out, CF⟩
end Go.Proofs.YtjcaligejlhjdaaGreat
