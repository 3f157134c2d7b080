/-
  Chapter 17: a console apart as one in step.
-/
import Derived.Test.YtjcaligejlhjdaaGreatNH
import Derived.Test.YtjcaligejlhjdaaGreatKT
import Derived.Test.YtjcaligejlhjdaaGreatNJ
import Derived.Test.YtjcaligejlhjdaaGreatUI
import Derived.Test.YtjcaligejlhjdaaGreatUC
import Derived.Test.YtjcaligejlhjdaaGreatKIb
import Derived.Test.YtjcaligejlhjdaaGreatU0
import Derived.Test.YtjcaligejlhjdaaGreatKC
import Derived.Test.YtjcaligejlhjdaaGreatC7
import Derived.Test.YtjcaligejlhjdaaGreatE8
import Derived.Test.YtjcaligejlhjdaaGreatG0
import Derived.Deep.RegionHeld3
import Derived.Deep.DeepCutAuto
import Derived.Deep.WholeRow
namespace Go.Proofs.YtjcaligejlhjdaaGreat
set_option linter.unusedVariables false
set_option linter.unusedSimpArgs false
open Go.ChangeShapes Go.WideShapes Go.ChangeAt Go.RowKit

/-- What a console apart is in step, in numbers. -/
def asD (d : SpD) : LockD :=
  { m := d.m, ln := d.ln, f := d.f, np := d.np, p := d.p, nr := d.nr, g := d.g, bank := d.bank, A := d.A, X := d.X, S := d.S, Pc := d.Pc, Z := d.Z, N := d.N, C := d.C, I := d.I, t := d.pc.t, c := d.pc.c, s := d.pc.s, ad := d.pc.ad, pl := d.pc.pl, bl := d.pc.bl, nt := d.pc.nt, tb := d.pc.tb, nd := d.pc.nd, dt := d.pc.dt, T := d.sn.T, P := d.sn.P, K := d.sn.C, B := d.sn.B, L := d.sn.L, Q := d.sn.S, R := d.sn.Q, hd := d.hd, sh := d.sh, nmi := d.nmi, st := d.st, mf := d.pc.mf, lf := d.pc.lf, fr := d.pc.fr, ns := d.sn.ns, sm := d.sn.sm, nq := d.nq, rd := d.rd }
def zeroL17 : LockD :=
  { m := 0, ln := fun _ => 0, f := fun _ _ => 0, np := 0, p := fun _ => 0, nr := 0, g := fun _ => 0, bank := 0, A := 0, X := 0, S := 0, Pc := 0, Z := false, N := false, C := false, I := false, t := 0, c := 0, s := 0, ad := 0, pl := 0, bl := false, nt := 0, tb := fun _ => 0, nd := 0, dt := fun _ => 0, T := 0, P := 0, K := 0, B := 0, L := 0, Q := false, R := false, hd := false, sh := 0, nmi := false, st := 0, mf := 0, lf := fun _ => 0, fr := fun _ _ => 0, ns := 0, sm := fun _ => 0, nq := 0, rd := fun _ => 0 }
def asL (d : SpD) : LockD := if (okSplit d && (picUp d && sndUp d)) = true then asD d else zeroL17
theorem ssNone17 {W : World} {D : Nat → Prop} (f : Nat → Nat → Int) : SsOn W D (.slice none 0 0) 0 (fun _ => 0) f :=
  ⟨fun _ => none, fun _ => 0, ⟨⟨none, 0, rfl, by omega, fun i hi => absurd hi (Nat.not_lt_zero _)⟩, fun i hi => absurd hi (Nat.not_lt_zero _), fun i j hi => absurd hi (Nat.not_lt_zero _), by simp [psum]⟩, fun i hi => absurd hi (Nat.not_lt_zero _), fun i hi => absurd hi (Nat.not_lt_zero _), fun a cap e b o hF => absurd hF (foot_none _ _ _), fun i hi => absurd hi (Nat.not_lt_zero _)⟩
theorem zeroL17_on {W : World} {D : Nat → Nat → Prop} : LockOn W D (.agg #[.slice none 0 0, .slice none 0 0, .slice none 0 0, .int .i64 0, .int .i64 0, .int .i64 0, .int .i64 0, .int .i64 0, .bool false, .bool false, .bool false, .bool false, .int .i64 0, .int .i64 0, .int .i64 0, .int .i64 0, .int .i64 0, .bool false, .slice none 0 0, .slice none 0 0, .int .i64 0, .int .i64 0, .int .i64 0, .int .i64 0, .int .i64 0, .bool false, .bool false, .bool false, .int .i64 0, .bool false, .int .i64 0, .slice none 0 0, .slice none 0 0, .slice none 0 0]) zeroL17 :=
  ⟨_, _, _, _, _, _, _, _, rfl, ssNone17 _, ⟨_, _, rfl, SlOn.zero _ _⟩, ⟨_, _, rfl, by show (0 : Nat) ≤ _; omega, fun i hi => absurd hi (Nat.not_lt_zero _), fun b o hF => absurd hF (foot_none _ _ _), fun b o hF => absurd hF (foot_none _ _ _)⟩, ⟨_, _, _, _, rfl, SlOn.zero _ _, SlOn.zero _ _, fun b o h => absurd h (foot_none _ _ _)⟩, ⟨_, _, _, rfl, ssNone17 _, ⟨_, _, rfl, SlOn.zero _ _⟩, ⟨_, _, rfl, SlOn.zero _ _⟩⟩⟩
/-- A console in step in new memory, its lists apart. -/
structure LkCp (w w' : World) (v : Value) (d : LockD) : Prop where
  ex : ∃ D, LockOn w' D v d ∧ Dis D ∧ ∀ i b, D i b → w.heap.size ≤ b ∧ b < w'.heap.size
theorem infoLock17 : (Tryz.prog.info? 76).map (·.size) = some 34 := by kernel_rfl
theorem infoSplit17 : (Tryz.prog.info? 46).map (·.size) = some 42 := by kernel_rfl
theorem ObCp.parts17 {w w' : World} {v : Value} {d : SpD} (H : ObCp w w' v (obS d)) : ∃ a5 x5 a6 x6 a7 x7, v = .agg #[.slice a5 d.pc.mf x5, .slice a6 d.sn.ns x6, .slice a7 d.nq x7] ∧ ∃ D, ObA w' D v (obS d) ∧ Dis D ∧ ∀ i b, D i b → w.heap.size ≤ b ∧ b < w'.heap.size := by
  obtain ⟨D, h, h1, h2⟩ := H
  obtain ⟨u5, u6, u7, e, h5, h6, h7⟩ := id h
  obtain ⟨a5, x5, rfl⟩ := h5.form
  obtain ⟨a6, x6, rfl⟩ := h6.two
  obtain ⟨a7, x7, rfl⟩ := h7.two
  exact ⟨a5, x5, a6, x6, a7, x7, e, D, h, h1, h2⟩
theorem ppuRows17 {W W' : World} {p x q y n m : Nat} {f g : Nat → Int} {t c s ad pl : Int} {bl : Bool} (h1 : Row W' W.heap.size p n x f) (h2 : Row W' W.heap.size q m y g) (h3 : p ≠ q) :
    PpuOn W' (fun b => W.heap.size ≤ b ∧ b < W'.heap.size) (.agg #[.int .i64 t, .int .i64 c, .int .i64 s, .int .i64 ad, .int .i64 pl, .bool bl, .slice (some ⟨p, 0, none⟩) n x, .slice (some ⟨q, 0, none⟩) m y]) t c s ad pl bl n f m g :=
  (ppuOn_at (o := some p) (o' := some q) ⟨x, rfl, h1⟩ ⟨y, rfl, h2⟩ (fun b e1 e2 => h3 (by cases e1; cases e2; rfl))).mono (fun b hb h => by
    rcases h with h | h
    · cases h
      exact ⟨h1.parts.1, h1.parts.2.1⟩
    · cases h
      exact ⟨h2.parts.1, h2.parts.2.1⟩)

theorem obMono17 {W : World} {D E : Nat → Nat → Prop} {v : Value} {o : ObD} (H : ObA W D v o) (hd : ∀ i b, 4 ≤ i → D i b → E i b) : ObsOn W E v o.mf o.lf o.fr o.ns o.sm o.nq o.rd := by
  obtain ⟨u5, u6, u7, e, h5, h6, h7⟩ := H
  exact ⟨u5, u6, u7, e, h5.mono (fun b _ h => hd 4 b (by decide) h), h6.mono (fun b _ h => hd 5 b (by decide) h), h7.mono (fun b _ h => hd 6 b (by decide) h)⟩
theorem isLevel17 (w : World) (E : Nat → Nat → Prop) (cs : Array Value) (d : SpD) (H : SplitOn w E (.agg cs) d) :
    Calls Tryz.prog 66 #[.agg cs] w fun e w' => e = .returned (.bool (picUp d && sndUp d)) ∧ Below w.heap.size w w' := by
  obtain ⟨u0, u2, b3, y3, e1, z1, Fc⟩ := H.cells
  have HF := hide Fc
  have hsz : Hid ((Tryz.prog.info? 46).map (·.size) = some cs.size) := by show _ = _; rw [Fc.sz]; exact infoSplit17
  clear H Fc
  have C0 : Below w.heap.size w (w.alloc (.cells cs 46)) := (Below.refl _ _).alloc (Nat.le_refl _) _
  have k0 := box_new w cs 46
  go_enter Tryz.func66, Tryz.ntmps66
  go_upto_region 1 with (fail)
  generalize w.alloc (.cells cs 46) = W0 at *
  refine wp_region_lit ?_
  refine wpList_load_row rfl _ _ rfl (w.heap.size) rfl _ _ _ _ k0 Tryz.underlying46 rfl hsz.out ?_
  go_wp2_with fail
  refine (apartOfCJ _ cs d.T d.pc.t d.sn.T d.kn d.ka HF.out.sz HF.out.f14 HF.out.f17 HF.out.f18 HF.out.f21 HF.out.f32).mono ?_
  rintro e W1 ⟨z, rfl, -, hb, L⟩
  replace C0 := below_snoc C0 L
  clear L k0
  go_wp2_with fail
  refine (pictureThere _ z cs d.T d.pc.t d.sn.T d.pc.cap d.kn d.ka b3 d.pc.n y3 HF.out.n3 hb HF.out.f29 HF.out.f30).mono ?_
  rintro e W2 ⟨rfl, L⟩
  replace C0 := below_snoc C0 L
  replace hb := hb.below L
  clear L
  have ep := hide (show ((d.pc.t == d.T) && (d.pc.n == 0)) = picUp d from rfl)
  rw [ep.out]
  cases pu : picUp d
  · have PU := hide pu
    clear pu
    go_wp2
    go_ret
    exact ⟨ret_bool (by rw [PU.out]; rfl), C0⟩
  have PU := hide pu
  clear pu
  go_wp2_with fail
  refine (soundThere _ z cs d.T d.pc.t d.sn.T d.sn.cap d.kn d.ka e1 d.sn.n z1 HF.out.n5 hb HF.out.f39 HF.out.f40).mono ?_
  rintro e W3 ⟨rfl, L⟩
  replace C0 := below_snoc C0 L
  clear L
  have es := hide (show ((d.sn.T == d.T) && (d.sn.n == 0)) = sndUp d from rfl)
  rw [es.out]
  go_wp2
  go_ret
  exact ⟨ret_bool (by rw [PU.out]; rfl), C0⟩
set_option maxRecDepth 40000 in
set_option maxHeartbeats 16000000 in
theorem implAsLock (w : World) (E : Nat → Nat → Prop) (v : Value) (d : SpD) (H : SplitOn w E v d) :
    Calls Tryz.prog 20 #[v] w fun e w' => ∃ v', e = .returned v' ∧ LkCp w w' v' (asL d) ∧ Below w.heap.size w w' := by
  have HH := hide H
  obtain ⟨u0, u1, u2, u3, q1, q2, q3, q4, r1, r2, rfl, h0, h1, h2, h3, h4, h5⟩ := H
  have hpi := h0.small
  obtain ⟨a0, c0, rfl⟩ := h0.form
  obtain ⟨a1, c1, rfl⟩ := h1.two
  obtain ⟨w2, e2, g2⟩ := h2.ints
  simp only [Value.agg.injEq, Array.mk.injEq, List.cons.injEq, and_true] at e2
  subst e2
  obtain ⟨a2, c2, rfl, -⟩ := id g2
  obtain ⟨a3, c3, rfl⟩ := h3.two
  obtain ⟨b1, y1, b2, y2, b3, y3, b4, y4, e4⟩ := h4.form
  simp only [Value.agg.injEq, Array.mk.injEq, List.cons.injEq, and_true, true_and] at e4
  obtain ⟨rfl, rfl, rfl, rfl⟩ := e4
  obtain ⟨e1, z1, e2, z2, e5⟩ := h5.form
  simp only [Value.agg.injEq, Array.mk.injEq, List.cons.injEq, and_true, true_and] at e5
  obtain ⟨rfl, rfl⟩ := e5
  obtain ⟨p1, p2, p3, p4, ep, hP, -, -⟩ := h4
  simp only [Value.agg.injEq, Array.mk.injEq, List.cons.injEq, and_true, true_and] at ep
  obtain ⟨rfl, rfl, rfl, rfl⟩ := ep
  obtain ⟨v1, v2, ev, i1, i2⟩ := hP.ints
  simp only [Value.agg.injEq, Array.mk.injEq, List.cons.injEq, and_true, true_and] at ev
  obtain ⟨rfl, rfl⟩ := ev
  have HPI := hide hpi
  have HIm := hide (fun W (L : Below w.heap.size w W) => copyImage W _ _ d.m d.ln d.f (h0.ints.keep (wrote_below L Nowhere) (fun _ _ _ x => x)))
  have HPd := hide (fun W (L : Below w.heap.size w W) => listCopyI W _ _ d.np d.p (h1.keep (wrote_below L Nowhere) (fun _ _ _ _ x => x)).ints17)
  have HMe := hide (fun W (L : Below w.heap.size w W) => copyMem W _ _ d.nr d.g d.bank (g2.keep (wrote_below L Nowhere) (fun _ _ _ x => x)))
  have HPp := hide (fun W (L : Below w.heap.size w W) => copyPpu W _ _ d.pc.t d.pc.c d.pc.s d.pc.ad d.pc.pl d.pc.bl _ _ d.pc.nt d.pc.tb d.pc.nd d.pc.dt (i1.keep (wrote_below L Nowhere) (fun _ _ _ x => x)) (i2.keep (wrote_below L Nowhere) (fun _ _ _ x => x)))
  clear h0 h1 h2 h3 h5 g2 hP i1 i2 hpi
  obtain ⟨cs, hcs⟩ : ∃ cs : Array Value, Hid (cs = #[.slice a0 d.m c0, .slice a1 d.np c1, .slice a2 d.nr c2, .int .i64 d.bank, .int .i64 d.A, .int .i64 d.X, .int .i64 d.S, .int .i64 d.Pc, .bool d.Z, .bool d.N, .bool d.C, .bool d.I, .bool d.hd, .int .i64 d.sh, .int .i64 d.T, .bool d.nmi, .int .i64 d.ctrl, .bool d.kn, .int .i64 d.ka, .int .i64 d.st, .slice a3 d.nq c3, .int .i64 d.pc.t, .int .i64 d.pc.c, .int .i64 d.pc.s, .int .i64 d.pc.ad, .int .i64 d.pc.pl, .bool d.pc.bl, .slice b1 d.pc.nt y1, .slice b2 d.pc.nd y2, .int .i64 d.pc.cap, .slice b3 d.pc.n y3, .slice b4 d.pc.mf y4, .int .i64 d.sn.T, .int .i64 d.sn.P, .int .i64 d.sn.C, .int .i64 d.sn.B, .int .i64 d.sn.L, .bool d.sn.S, .bool d.sn.Q, .int .i64 d.sn.cap, .slice e1 d.sn.n z1, .slice e2 d.sn.ns z2]) := ⟨_, rfl⟩
  rw [← hcs.out] at HH ⊢
  have hsz : Hid ((Tryz.prog.info? 46).map (·.size) = some cs.size) := by show _ = _; rw [hcs.out]; exact infoSplit17
  have HOb := hide (fun W (L : Below w.heap.size w W) => implObsOf W E (.agg cs) d (HH.out.keep (wrote_below L Nowhere) (fun _ _ _ _ _ x => x)))
  have HOk := hide (fun W (L : Below w.heap.size w W) => implSplitOk W E (.agg cs) d (HH.out.keep (wrote_below L Nowhere) (fun _ _ _ _ _ x => x)))
  have HLv := hide (fun W (L : Below w.heap.size w W) => isLevel17 W E cs d (HH.out.keep (wrote_below L Nowhere) (fun _ _ _ _ _ x => x)))
  clear HH
  have C0 : Below w.heap.size w ((w.alloc (.cells cs 46)).alloc (.cells #[.slice none 0 0, .slice none 0 0, .slice none 0 0, .int .i64 0, .int .i64 0, .int .i64 0, .int .i64 0, .int .i64 0, .bool false, .bool false, .bool false, .bool false, .int .i64 0, .int .i64 0, .int .i64 0, .int .i64 0, .int .i64 0, .bool false, .slice none 0 0, .slice none 0 0, .int .i64 0, .int .i64 0, .int .i64 0, .int .i64 0, .int .i64 0, .bool false, .bool false, .bool false, .int .i64 0, .bool false, .int .i64 0, .slice none 0 0, .slice none 0 0, .slice none 0 0] 76)) := ((Below.refl _ _).alloc (Nat.le_refl _) _).alloc (by simp) _
  have k0' : ((w.alloc (.cells cs 46)).alloc (.cells #[.slice none 0 0, .slice none 0 0, .slice none 0 0, .int .i64 0, .int .i64 0, .int .i64 0, .int .i64 0, .int .i64 0, .bool false, .bool false, .bool false, .bool false, .int .i64 0, .int .i64 0, .int .i64 0, .int .i64 0, .int .i64 0, .bool false, .slice none 0 0, .slice none 0 0, .int .i64 0, .int .i64 0, .int .i64 0, .int .i64 0, .int .i64 0, .bool false, .bool false, .bool false, .int .i64 0, .bool false, .int .i64 0, .slice none 0 0, .slice none 0 0, .slice none 0 0] 76)).heap[w.heap.size]? = some (.cells cs 46 (0, 0)) := boxA (box_new w cs 46) _
  have kR : ((w.alloc (.cells cs 46)).alloc (.cells #[.slice none 0 0, .slice none 0 0, .slice none 0 0, .int .i64 0, .int .i64 0, .int .i64 0, .int .i64 0, .int .i64 0, .bool false, .bool false, .bool false, .bool false, .int .i64 0, .int .i64 0, .int .i64 0, .int .i64 0, .int .i64 0, .bool false, .slice none 0 0, .slice none 0 0, .int .i64 0, .int .i64 0, .int .i64 0, .int .i64 0, .int .i64 0, .bool false, .bool false, .bool false, .int .i64 0, .bool false, .int .i64 0, .slice none 0 0, .slice none 0 0, .slice none 0 0] 76)).heap[w.heap.size + 1]? = some (.cells #[.slice none 0 0, .slice none 0 0, .slice none 0 0, .int .i64 0, .int .i64 0, .int .i64 0, .int .i64 0, .int .i64 0, .bool false, .bool false, .bool false, .bool false, .int .i64 0, .int .i64 0, .int .i64 0, .int .i64 0, .int .i64 0, .bool false, .slice none 0 0, .slice none 0 0, .int .i64 0, .int .i64 0, .int .i64 0, .int .i64 0, .int .i64 0, .bool false, .bool false, .bool false, .int .i64 0, .bool false, .int .i64 0, .slice none 0 0, .slice none 0 0, .slice none 0 0] 76 (0, 0)) := by simpa using box_new (w.alloc (.cells cs 46)) #[.slice none 0 0, .slice none 0 0, .slice none 0 0, .int .i64 0, .int .i64 0, .int .i64 0, .int .i64 0, .int .i64 0, .bool false, .bool false, .bool false, .bool false, .int .i64 0, .int .i64 0, .int .i64 0, .int .i64 0, .int .i64 0, .bool false, .slice none 0 0, .slice none 0 0, .int .i64 0, .int .i64 0, .int .i64 0, .int .i64 0, .int .i64 0, .bool false, .bool false, .bool false, .int .i64 0, .bool false, .int .i64 0, .slice none 0 0, .slice none 0 0, .slice none 0 0] 76
  go_enter Tryz.func20, Tryz.ntmps20
  go_upto_region 1 with (fail)
  generalize (w.alloc (.cells cs 46)).alloc (.cells #[.slice none 0 0, .slice none 0 0, .slice none 0 0, .int .i64 0, .int .i64 0, .int .i64 0, .int .i64 0, .int .i64 0, .bool false, .bool false, .bool false, .bool false, .int .i64 0, .int .i64 0, .int .i64 0, .int .i64 0, .int .i64 0, .bool false, .slice none 0 0, .slice none 0 0, .int .i64 0, .int .i64 0, .int .i64 0, .int .i64 0, .int .i64 0, .bool false, .bool false, .bool false, .int .i64 0, .bool false, .int .i64 0, .slice none 0 0, .slice none 0 0, .slice none 0 0] 76) = V0 at *
  refine wp_region_lit ?_
  refine wpList_load_row rfl _ _ rfl (w.heap.size) rfl _ _ _ _ k0' Tryz.underlying46 rfl hsz.out ?_
  go_wp2_with fail
  refine (HOk.out _ C0).mono ?_
  clear HOk
  rintro e V1 ⟨rfl, L⟩
  replace C0 := below_snoc C0 L
  replace k0' := box_keep k0' L (boxLt k0')
  replace kR := box_keep kR L (boxLt kR)
  clear L
  cases ok : okSplit d
  · have OK := hide ok
    clear ok
    go_upto_region 2 with (fail)
    refine wp_region_lit ?_
    go_wp2_with (refine wpList_store_row rfl _ _ _ rfl (w.heap.size + 1) #[.slice none 0 0, .slice none 0 0, .slice none 0 0, .int .i64 0, .int .i64 0, .int .i64 0, .int .i64 0, .int .i64 0, .bool false, .bool false, .bool false, .bool false, .int .i64 0, .int .i64 0, .int .i64 0, .int .i64 0, .int .i64 0, .bool false, .slice none 0 0, .slice none 0 0, .int .i64 0, .int .i64 0, .int .i64 0, .int .i64 0, .int .i64 0, .bool false, .bool false, .bool false, .int .i64 0, .bool false, .int .i64 0, .slice none 0 0, .slice none 0 0, .slice none 0 0] rfl rfl _ _ kR infoLock17 rfl (by first | kernel_rfl | simp [Value.oneCell']) ?_)
    have kF := setRow_heap _ _ _ #[.slice none 0 0, .slice none 0 0, .slice none 0 0, .int .i64 0, .int .i64 0, .int .i64 0, .int .i64 0, .int .i64 0, .bool false, .bool false, .bool false, .bool false, .int .i64 0, .int .i64 0, .int .i64 0, .int .i64 0, .int .i64 0, .bool false, .slice none 0 0, .slice none 0 0, .int .i64 0, .int .i64 0, .int .i64 0, .int .i64 0, .int .i64 0, .bool false, .bool false, .bool false, .int .i64 0, .bool false, .int .i64 0, .slice none 0 0, .slice none 0 0, .slice none 0 0] _ _ kR
    have WW := wrote_setRowU kR #[.slice none 0 0, .slice none 0 0, .slice none 0 0, .int .i64 0, .int .i64 0, .int .i64 0, .int .i64 0, .int .i64 0, .bool false, .bool false, .bool false, .bool false, .int .i64 0, .int .i64 0, .int .i64 0, .int .i64 0, .int .i64 0, .bool false, .slice none 0 0, .slice none 0 0, .int .i64 0, .int .i64 0, .int .i64 0, .int .i64 0, .int .i64 0, .bool false, .bool false, .bool false, .int .i64 0, .bool false, .int .i64 0, .slice none 0 0, .slice none 0 0, .slice none 0 0]
    refine bodyPost_ret (v := .agg #[.slice none 0 0, .slice none 0 0, .slice none 0 0, .int .i64 0, .int .i64 0, .int .i64 0, .int .i64 0, .int .i64 0, .bool false, .bool false, .bool false, .bool false, .int .i64 0, .int .i64 0, .int .i64 0, .int .i64 0, .int .i64 0, .bool false, .slice none 0 0, .slice none 0 0, .int .i64 0, .int .i64 0, .int .i64 0, .int .i64 0, .int .i64 0, .bool false, .bool false, .bool false, .int .i64 0, .bool false, .int .i64 0, .slice none 0 0, .slice none 0 0, .slice none 0 0]) (by exact results_cell_row Tryz.results20 _ _ (w.heap.size + 1) _ _ _ _ rfl kF Tryz.underlying76 rfl infoLock17) rfl ?_
    refine ⟨_, rfl, ?_, C0.trans (WW.below C0.size (fun b o hb (e : b = _) => by omega))⟩
    rw [show asL d = zeroL17 by simp [asL, OK.out]]
    exact ⟨fun _ _ => False, zeroL17_on, fun _ _ _ h => h.elim, fun _ _ h => h.elim⟩
  have OK := hide ok
  clear ok
  go_wp2_with (first | (refine wpList_load_rowG17 (by kernel_rfl) _ _ rfl w.heap.size rfl _ _ _ _ k0' Tryz.underlying46 rfl hsz.out ?_))
  refine (HLv.out _ C0).mono ?_
  clear HLv
  rintro e V2 ⟨rfl, L⟩
  replace C0 := below_snoc C0 L
  replace k0' := box_keep k0' L (boxLt k0')
  replace kR := box_keep kR L (boxLt kR)
  clear L
  cases lv : (picUp d && sndUp d)
  · have LV := hide lv
    clear lv
    go_upto_region 2 with (fail)
    refine wp_region_lit ?_
    go_wp2_with (refine wpList_store_row rfl _ _ _ rfl (w.heap.size + 1) #[.slice none 0 0, .slice none 0 0, .slice none 0 0, .int .i64 0, .int .i64 0, .int .i64 0, .int .i64 0, .int .i64 0, .bool false, .bool false, .bool false, .bool false, .int .i64 0, .int .i64 0, .int .i64 0, .int .i64 0, .int .i64 0, .bool false, .slice none 0 0, .slice none 0 0, .int .i64 0, .int .i64 0, .int .i64 0, .int .i64 0, .int .i64 0, .bool false, .bool false, .bool false, .int .i64 0, .bool false, .int .i64 0, .slice none 0 0, .slice none 0 0, .slice none 0 0] rfl rfl _ _ kR infoLock17 rfl (by first | kernel_rfl | simp [Value.oneCell']) ?_)
    have kF := setRow_heap _ _ _ #[.slice none 0 0, .slice none 0 0, .slice none 0 0, .int .i64 0, .int .i64 0, .int .i64 0, .int .i64 0, .int .i64 0, .bool false, .bool false, .bool false, .bool false, .int .i64 0, .int .i64 0, .int .i64 0, .int .i64 0, .int .i64 0, .bool false, .slice none 0 0, .slice none 0 0, .int .i64 0, .int .i64 0, .int .i64 0, .int .i64 0, .int .i64 0, .bool false, .bool false, .bool false, .int .i64 0, .bool false, .int .i64 0, .slice none 0 0, .slice none 0 0, .slice none 0 0] _ _ kR
    have WW := wrote_setRowU kR #[.slice none 0 0, .slice none 0 0, .slice none 0 0, .int .i64 0, .int .i64 0, .int .i64 0, .int .i64 0, .int .i64 0, .bool false, .bool false, .bool false, .bool false, .int .i64 0, .int .i64 0, .int .i64 0, .int .i64 0, .int .i64 0, .bool false, .slice none 0 0, .slice none 0 0, .int .i64 0, .int .i64 0, .int .i64 0, .int .i64 0, .int .i64 0, .bool false, .bool false, .bool false, .int .i64 0, .bool false, .int .i64 0, .slice none 0 0, .slice none 0 0, .slice none 0 0]
    refine bodyPost_ret (v := .agg #[.slice none 0 0, .slice none 0 0, .slice none 0 0, .int .i64 0, .int .i64 0, .int .i64 0, .int .i64 0, .int .i64 0, .bool false, .bool false, .bool false, .bool false, .int .i64 0, .int .i64 0, .int .i64 0, .int .i64 0, .int .i64 0, .bool false, .slice none 0 0, .slice none 0 0, .int .i64 0, .int .i64 0, .int .i64 0, .int .i64 0, .int .i64 0, .bool false, .bool false, .bool false, .int .i64 0, .bool false, .int .i64 0, .slice none 0 0, .slice none 0 0, .slice none 0 0]) (by exact results_cell_row Tryz.results20 _ _ (w.heap.size + 1) _ _ _ _ rfl kF Tryz.underlying76 rfl infoLock17) rfl ?_
    refine ⟨_, rfl, ?_, C0.trans (WW.below C0.size (fun b o hb (e : b = _) => by omega))⟩
    rw [show asL d = zeroL17 by simp [asL, OK.out, LV.out]]
    exact ⟨fun _ _ => False, zeroL17_on, fun _ _ _ h => h.elim, fun _ _ h => h.elim⟩
  have LV := hide lv
  clear lv
  go_upto_region 3 with (fail)
  have AS := hide (show asD d = asL d by simp [asL, OK.out, LV.out])
  rename_i Kc hKc
  have k0 := k0'
  rw [hcs.out] at k0
  have hR0 := boxLt kR
  obtain ⟨W0, hW0⟩ : ∃ W0, Hid (W0 = V2) := ⟨_, rfl⟩
  rw [← hW0.out] at C0 k0 k0' kR hR0 ⊢
  clear hW0
  obtain ⟨S, hS⟩ : ∃ S, Hid (S = W0.heap.size) := ⟨_, rfl⟩
  have hSw : w.heap.size + 1 < S := by rw [hS.out]; exact hR0
  refine wp_region_effL 27 [some 12, some 13, some 14, some 15, some 16, some 17, some 18, some 19, some 20, some 21, some 22, some 23, some 24, some 25, some 26, some 27, some 28, some 29, some 30, some 31, some 32, some 33, some 34, some 35, some 36, some 37, some 38, none] (by kernel_rfl) (by kernel_rfl) (by kernel_rfl) (by kernel_rfl) (by kernel_rfl) (by first | (simp [slotsOf]; done) | (simp [slotsOf, Act.put]; done))
    (fun _ => Nowhere)
    (fun i V lo hi W => match i with
      | 0 => V 0 = .pointer (some ⟨w.heap.size, 0, none⟩)
      | 1 => V 1 = .agg #[.slice a0 d.m c0]
      | 2 => ∃ n0 x0, V 2 = .agg #[.slice n0 d.m x0] ∧ SsOn W (fun b => lo ≤ b ∧ b < hi) (.slice n0 d.m x0) d.m d.ln d.f
      | 3 => V 3 = .pointer (some ⟨w.heap.size, 1, none⟩)
      | 4 => V 4 = .slice a1 d.np c1
      | 5 => ∃ n1 x1, V 5 = .slice n1 d.np x1 ∧ ListOn W (fun b => lo ≤ b ∧ b < hi) (.slice n1 d.np x1) d.np d.p
      | 6 => V 6 = .pointer (some ⟨w.heap.size, 2, none⟩)
      | 7 => V 7 = .agg #[.slice a2 d.nr c2, .int .i64 d.bank]
      | 8 => ∃ n2 x2, V 8 = .agg #[.slice n2 d.nr x2, .int .i64 d.bank] ∧ MemOn W (fun b => lo ≤ b ∧ b < hi) (.agg #[.slice n2 d.nr x2, .int .i64 d.bank]) d.nr d.g d.bank
      | 9 => V 9 = .pointer (some ⟨w.heap.size, 4, none⟩)
      | 10 => V 10 = .agg #[.int .i64 d.A, .int .i64 d.X, .int .i64 d.S, .int .i64 d.Pc, .bool d.Z, .bool d.N, .bool d.C, .bool d.I]
      | 11 => V 11 = .pointer (some ⟨w.heap.size, 21, none⟩)
      | 12 => V 12 = .pointer (some ⟨w.heap.size, 21, none⟩)
      | 13 => V 13 = .agg #[.int .i64 d.pc.t, .int .i64 d.pc.c, .int .i64 d.pc.s, .int .i64 d.pc.ad, .int .i64 d.pc.pl, .bool d.pc.bl, .slice b1 d.pc.nt y1, .slice b2 d.pc.nd y2]
      | 14 => ∃ n3 x3 n4 x4, V 14 = .agg #[.int .i64 d.pc.t, .int .i64 d.pc.c, .int .i64 d.pc.s, .int .i64 d.pc.ad, .int .i64 d.pc.pl, .bool d.pc.bl, .slice n3 d.pc.nt x3, .slice n4 d.pc.nd x4] ∧ PpuOn W (fun b => lo ≤ b ∧ b < hi) (.agg #[.int .i64 d.pc.t, .int .i64 d.pc.c, .int .i64 d.pc.s, .int .i64 d.pc.ad, .int .i64 d.pc.pl, .bool d.pc.bl, .slice n3 d.pc.nt x3, .slice n4 d.pc.nd x4]) d.pc.t d.pc.c d.pc.s d.pc.ad d.pc.pl d.pc.bl d.pc.nt d.pc.tb d.pc.nd d.pc.dt
      | 15 => V 15 = .pointer (some ⟨w.heap.size, 32, none⟩)
      | 16 => V 16 = .pointer (some ⟨w.heap.size, 32, none⟩)
      | 17 => V 17 = .agg #[.int .i64 d.sn.T, .int .i64 d.sn.P, .int .i64 d.sn.C, .int .i64 d.sn.B, .int .i64 d.sn.L, .bool d.sn.S, .bool d.sn.Q]
      | 18 => V 18 = .pointer (some ⟨w.heap.size, 12, none⟩)
      | 19 => V 19 = .agg #[.bool d.hd, .int .i64 d.sh]
      | 20 => V 20 = .pointer (some ⟨w.heap.size, 15, none⟩)
      | 21 => V 21 = .bool d.nmi
      | 22 => V 22 = .pointer (some ⟨w.heap.size, 19, none⟩)
      | 23 => V 23 = .int .i64 d.st
      | 24 => V 24 = .agg cs
      | 25 => ∃ n5 x5 n6 x6 n7 x7, V 25 = .agg #[.slice n5 d.pc.mf x5, .slice n6 d.sn.ns x6, .slice n7 d.nq x7] ∧ ∃ D, ObA W D (.agg #[.slice n5 d.pc.mf x5, .slice n6 d.sn.ns x6, .slice n7 d.nq x7]) (obS d) ∧ Dis D ∧ ∀ i b, D i b → lo ≤ b ∧ b < hi
      | 26 => ∃ n0 x0 n1 x1 n2 x2 n3 x3 n4 x4 n5 x5 n6 x6 n7 x7, V 2 = .agg #[.slice n0 d.m x0] ∧ V 5 = .slice n1 d.np x1 ∧ V 8 = .agg #[.slice n2 d.nr x2, .int .i64 d.bank] ∧ V 14 = .agg #[.int .i64 d.pc.t, .int .i64 d.pc.c, .int .i64 d.pc.s, .int .i64 d.pc.ad, .int .i64 d.pc.pl, .bool d.pc.bl, .slice n3 d.pc.nt x3, .slice n4 d.pc.nd x4] ∧ V 25 = .agg #[.slice n5 d.pc.mf x5, .slice n6 d.sn.ns x6, .slice n7 d.nq x7] ∧ V 26 = .agg #[.slice n0 d.m x0, .slice n1 d.np x1, .slice n2 d.nr x2, .int .i64 d.bank, .int .i64 d.A, .int .i64 d.X, .int .i64 d.S, .int .i64 d.Pc, .bool d.Z, .bool d.N, .bool d.C, .bool d.I, .int .i64 d.pc.t, .int .i64 d.pc.c, .int .i64 d.pc.s, .int .i64 d.pc.ad, .int .i64 d.pc.pl, .bool d.pc.bl, .slice n3 d.pc.nt x3, .slice n4 d.pc.nd x4, .int .i64 d.sn.T, .int .i64 d.sn.P, .int .i64 d.sn.C, .int .i64 d.sn.B, .int .i64 d.sn.L, .bool d.sn.S, .bool d.sn.Q, .bool d.hd, .int .i64 d.sh, .bool d.nmi, .int .i64 d.st, .slice n5 d.pc.mf x5, .slice n6 d.sn.ns x6, .slice n7 d.nq x7]
      | _ => True) ?_ ?_ ?_
  · intro i j o V x lo hi W W' hij _ _ ho hnw hlo hhi hW h
    have nw : ∀ k, waitsB o k = true → k ≠ j := fun k hk e => by rw [e, hnw] at hk; cases hk
    match i, ho, hij, nw, h with
    | 0, ho, hij, nw, h => exact (updV_ne V x hij).trans h
    | 1, ho, hij, nw, h => exact (updV_ne V x hij).trans h
    | 2, ho, hij, nw, h => (obtain ⟨a, x', h1, h2⟩ := h; exact ⟨a, x', (updV_ne V x hij).trans h1, h2.keep hW (fun _ _ _ _ x => x)⟩)
    | 3, ho, hij, nw, h => exact (updV_ne V x hij).trans h
    | 4, ho, hij, nw, h => exact (updV_ne V x hij).trans h
    | 5, ho, hij, nw, h => (obtain ⟨a, x', h1, h2⟩ := h; exact ⟨a, x', (updV_ne V x hij).trans h1, h2.keep hW (fun _ _ _ _ x => x)⟩)
    | 6, ho, hij, nw, h => exact (updV_ne V x hij).trans h
    | 7, ho, hij, nw, h => exact (updV_ne V x hij).trans h
    | 8, ho, hij, nw, h => (obtain ⟨a, x', h1, h2⟩ := h; exact ⟨a, x', (updV_ne V x hij).trans h1, h2.keep hW (fun _ _ _ _ x => x)⟩)
    | 9, ho, hij, nw, h => exact (updV_ne V x hij).trans h
    | 10, ho, hij, nw, h => exact (updV_ne V x hij).trans h
    | 11, ho, hij, nw, h => exact (updV_ne V x hij).trans h
    | 12, ho, hij, nw, h => exact (updV_ne V x hij).trans h
    | 13, ho, hij, nw, h => exact (updV_ne V x hij).trans h
    | 14, ho, hij, nw, h => (obtain ⟨a, x', b, y', h1, h2⟩ := h; exact ⟨a, x', b, y', (updV_ne V x hij).trans h1, h2.keep hW (fun _ _ _ _ x => x)⟩)
    | 15, ho, hij, nw, h => exact (updV_ne V x hij).trans h
    | 16, ho, hij, nw, h => exact (updV_ne V x hij).trans h
    | 17, ho, hij, nw, h => exact (updV_ne V x hij).trans h
    | 18, ho, hij, nw, h => exact (updV_ne V x hij).trans h
    | 19, ho, hij, nw, h => exact (updV_ne V x hij).trans h
    | 20, ho, hij, nw, h => exact (updV_ne V x hij).trans h
    | 21, ho, hij, nw, h => exact (updV_ne V x hij).trans h
    | 22, ho, hij, nw, h => exact (updV_ne V x hij).trans h
    | 23, ho, hij, nw, h => exact (updV_ne V x hij).trans h
    | 24, ho, hij, nw, h => exact (updV_ne V x hij).trans h
    | 25, ho, hij, nw, h => (obtain ⟨n5, x5, n6, x6, n7, x7, h1, D, h2, h3, h4⟩ := h; exact ⟨n5, x5, n6, x6, n7, x7, (updV_ne V x hij).trans h1, D, ObsOn.keep h2 hW (fun _ _ _ _ _ _ x => x), h3, h4⟩)
    | 26, ho, hij, nw, h => (simp only [List.getElem?_toArray, List.getElem?_cons_zero, List.getElem?_cons_succ, Option.some.injEq] at ho; subst ho; obtain ⟨n0, x0, n1, x1, n2, x2, n3, x3, n4, x4, n5, x5, n6, x6, n7, x7, h0, h1, h2, h3, h4, h5⟩ := h; exact ⟨n0, x0, n1, x1, n2, x2, n3, x3, n4, x4, n5, x5, n6, x6, n7, x7, (updV_ne V x (nw 2 (by kernel_rfl))).trans h0, (updV_ne V x (nw 5 (by kernel_rfl))).trans h1, (updV_ne V x (nw 8 (by kernel_rfl))).trans h2, (updV_ne V x (nw 14 (by kernel_rfl))).trans h3, (updV_ne V x (nw 25 (by kernel_rfl))).trans h4, (updV_ne V x hij).trans h5⟩)
    | _ + 27, _, _, _, _ => exact trivial
  · intro i o a' W K8 hin ho F L hw hK
    have LN : Wrote Nowhere W0 W := L.mono (fun b o _ ⟨j, _, _, _, _, h⟩ => h)
    match i with
    | 0 =>
      simp only [List.getElem?_toArray, List.getElem?_cons_zero, List.getElem?_cons_succ, Option.some.injEq] at ho
      subst ho
      have t1 := F.get (t := 1) (v := .pointer (some ⟨w.heap.size, 0, none⟩)) (by decide) rfl
      go_simp
      exact hK _ _ (Wrote.refl _ _) (updV_same _ _ _)
    | 1 =>
      simp only [List.getElem?_toArray, List.getElem?_cons_zero, List.getElem?_cons_succ, Option.some.injEq] at ho
      subst ho
      have q0 : a'.tmps[12]?.getD undef = .pointer (some ⟨w.heap.size, 0, none⟩) := by obtain ⟨_, _, _, _, q⟩ := hw 0 (by kernel_rfl); exact q
      have rb := boxC (box_wrote k0 LN (fun _ x => x))
      go_simp
      exact hK _ _ (Wrote.refl _ _) (updV_same _ _ _)
    | 2 =>
      simp only [List.getElem?_toArray, List.getElem?_cons_zero, List.getElem?_cons_succ, Option.some.injEq] at ho
      subst ho
      have q1 : a'.tmps[13]?.getD undef = .agg #[.slice a0 d.m c0] := by obtain ⟨_, _, _, _, q⟩ := hw 1 (by kernel_rfl); exact q
      go_simp
      refine (HIm.out W (C0.trans (LN.below C0.size (fun _ _ _ x => x)))).mono ?_
      rintro e W' ⟨v, ob, iv, ov, rfl, hA, LB⟩
      obtain ⟨a, x, rfl⟩ := hA.form
      exact hK _ _ (wrote_below LB _) ⟨a, x, updV_same _ _ _, sa_on17 hA HPI.out⟩
    | 3 =>
      simp only [List.getElem?_toArray, List.getElem?_cons_zero, List.getElem?_cons_succ, Option.some.injEq] at ho
      subst ho
      have t1 := F.get (t := 1) (v := .pointer (some ⟨w.heap.size, 0, none⟩)) (by decide) rfl
      go_simp
      exact hK _ _ (Wrote.refl _ _) (updV_same _ _ _)
    | 4 =>
      simp only [List.getElem?_toArray, List.getElem?_cons_zero, List.getElem?_cons_succ, Option.some.injEq] at ho
      subst ho
      have q3 : a'.tmps[15]?.getD undef = .pointer (some ⟨w.heap.size, 1, none⟩) := by obtain ⟨_, _, _, _, q⟩ := hw 3 (by kernel_rfl); exact q
      have rb := boxC (box_wrote k0 LN (fun _ x => x))
      go_simp
      exact hK _ _ (Wrote.refl _ _) (updV_same _ _ _)
    | 5 =>
      simp only [List.getElem?_toArray, List.getElem?_cons_zero, List.getElem?_cons_succ, Option.some.injEq] at ho
      subst ho
      have q4 : a'.tmps[16]?.getD undef = .slice a1 d.np c1 := by obtain ⟨_, _, _, _, q⟩ := hw 4 (by kernel_rfl); exact q
      go_simp
      refine (HPd.out W (C0.trans (LN.below C0.size (fun _ _ _ x => x)))).mono ?_
      rintro e W' ⟨y, o, rfl, hA, hlt, LB⟩
      obtain ⟨a, x, rfl⟩ := hA.form
      exact hK _ _ (wrote_below LB _) ⟨a, x, updV_same _ _ _, rowAt_on17 hA hlt⟩
    | 6 =>
      simp only [List.getElem?_toArray, List.getElem?_cons_zero, List.getElem?_cons_succ, Option.some.injEq] at ho
      subst ho
      have t1 := F.get (t := 1) (v := .pointer (some ⟨w.heap.size, 0, none⟩)) (by decide) rfl
      go_simp
      exact hK _ _ (Wrote.refl _ _) (updV_same _ _ _)
    | 7 =>
      simp only [List.getElem?_toArray, List.getElem?_cons_zero, List.getElem?_cons_succ, Option.some.injEq] at ho
      subst ho
      have q6 : a'.tmps[18]?.getD undef = .pointer (some ⟨w.heap.size, 2, none⟩) := by obtain ⟨_, _, _, _, q⟩ := hw 6 (by kernel_rfl); exact q
      have rb := boxC (box_wrote k0 LN (fun _ x => x))
      go_simp
      exact hK _ _ (Wrote.refl _ _) (updV_same _ _ _)
    | 8 =>
      simp only [List.getElem?_toArray, List.getElem?_cons_zero, List.getElem?_cons_succ, Option.some.injEq] at ho
      subst ho
      have q7 : a'.tmps[19]?.getD undef = .agg #[.slice a2 d.nr c2, .int .i64 d.bank] := by obtain ⟨_, _, _, _, q⟩ := hw 7 (by kernel_rfl); exact q
      go_simp
      refine (HMe.out W (C0.trans (LN.below C0.size (fun _ _ _ x => x)))).mono ?_
      rintro e W' ⟨v, rfl, hA, LB⟩
      have hA' := (MemOn.own (bank := d.bank) hA).mono (E := fun b => W.heap.size ≤ b ∧ b < W'.heap.size) (fun b hb h => ⟨h, hb⟩)
      obtain ⟨a, x, e, -⟩ := id hA'
      simp only [Value.agg.injEq, Array.mk.injEq, List.cons.injEq, and_true] at e
      subst e
      exact hK _ _ (wrote_below LB _) ⟨a, x, updV_same _ _ _, hA'⟩
    | 9 =>
      simp only [List.getElem?_toArray, List.getElem?_cons_zero, List.getElem?_cons_succ, Option.some.injEq] at ho
      subst ho
      have t1 := F.get (t := 1) (v := .pointer (some ⟨w.heap.size, 0, none⟩)) (by decide) rfl
      go_simp
      exact hK _ _ (Wrote.refl _ _) (updV_same _ _ _)
    | 10 =>
      simp only [List.getElem?_toArray, List.getElem?_cons_zero, List.getElem?_cons_succ, Option.some.injEq] at ho
      subst ho
      have q9 : a'.tmps[21]?.getD undef = .pointer (some ⟨w.heap.size, 4, none⟩) := by obtain ⟨_, _, _, _, q⟩ := hw 9 (by kernel_rfl); exact q
      have rb := boxC (box_wrote k0 LN (fun _ x => x))
      go_simp
      exact hK _ _ (Wrote.refl _ _) (updV_same _ _ _)
    | 11 =>
      simp only [List.getElem?_toArray, List.getElem?_cons_zero, List.getElem?_cons_succ, Option.some.injEq] at ho
      subst ho
      have t1 := F.get (t := 1) (v := .pointer (some ⟨w.heap.size, 0, none⟩)) (by decide) rfl
      go_simp
      exact hK _ _ (Wrote.refl _ _) (updV_same _ _ _)
    | 12 =>
      simp only [List.getElem?_toArray, List.getElem?_cons_zero, List.getElem?_cons_succ, Option.some.injEq] at ho
      subst ho
      have q11 : a'.tmps[23]?.getD undef = .pointer (some ⟨w.heap.size, 21, none⟩) := by obtain ⟨_, _, _, _, q⟩ := hw 11 (by kernel_rfl); exact q
      go_simp
      exact hK _ _ (Wrote.refl _ _) (updV_same _ _ _)
    | 13 =>
      simp only [List.getElem?_toArray, List.getElem?_cons_zero, List.getElem?_cons_succ, Option.some.injEq] at ho
      subst ho
      have q12 : a'.tmps[24]?.getD undef = .pointer (some ⟨w.heap.size, 21, none⟩) := by obtain ⟨_, _, _, _, q⟩ := hw 12 (by kernel_rfl); exact q
      have rb := boxC (box_wrote k0 LN (fun _ x => x))
      go_simp
      exact hK _ _ (Wrote.refl _ _) (updV_same _ _ _)
    | 14 =>
      simp only [List.getElem?_toArray, List.getElem?_cons_zero, List.getElem?_cons_succ, Option.some.injEq] at ho
      subst ho
      have q13 : a'.tmps[25]?.getD undef = .agg #[.int .i64 d.pc.t, .int .i64 d.pc.c, .int .i64 d.pc.s, .int .i64 d.pc.ad, .int .i64 d.pc.pl, .bool d.pc.bl, .slice b1 d.pc.nt y1, .slice b2 d.pc.nd y2] := by obtain ⟨_, _, _, _, q⟩ := hw 13 (by kernel_rfl); exact q
      go_simp
      refine (HPp.out W (C0.trans (LN.below C0.size (fun _ _ _ x => x)))).mono ?_
      rintro e W' ⟨v, v', o, o', rfl, hA, hB, hT, LB⟩
      obtain ⟨p1, y1', rfl⟩ := hA.form
      obtain ⟨p2, y2', rfl⟩ := hB.form
      exact hK _ _ (wrote_below LB _) ⟨p1, y1', p2, y2', updV_same _ _ _, (ppuOn_at hA hB hT).mono (fun b hb h => ⟨at_lo hA hB b h, hb⟩)⟩
    | 15 =>
      simp only [List.getElem?_toArray, List.getElem?_cons_zero, List.getElem?_cons_succ, Option.some.injEq] at ho
      subst ho
      have t1 := F.get (t := 1) (v := .pointer (some ⟨w.heap.size, 0, none⟩)) (by decide) rfl
      go_simp
      exact hK _ _ (Wrote.refl _ _) (updV_same _ _ _)
    | 16 =>
      simp only [List.getElem?_toArray, List.getElem?_cons_zero, List.getElem?_cons_succ, Option.some.injEq] at ho
      subst ho
      have q15 : a'.tmps[27]?.getD undef = .pointer (some ⟨w.heap.size, 32, none⟩) := by obtain ⟨_, _, _, _, q⟩ := hw 15 (by kernel_rfl); exact q
      go_simp
      exact hK _ _ (Wrote.refl _ _) (updV_same _ _ _)
    | 17 =>
      simp only [List.getElem?_toArray, List.getElem?_cons_zero, List.getElem?_cons_succ, Option.some.injEq] at ho
      subst ho
      have q16 : a'.tmps[28]?.getD undef = .pointer (some ⟨w.heap.size, 32, none⟩) := by obtain ⟨_, _, _, _, q⟩ := hw 16 (by kernel_rfl); exact q
      have rb := boxC (box_wrote k0 LN (fun _ x => x))
      go_simp
      exact hK _ _ (Wrote.refl _ _) (updV_same _ _ _)
    | 18 =>
      simp only [List.getElem?_toArray, List.getElem?_cons_zero, List.getElem?_cons_succ, Option.some.injEq] at ho
      subst ho
      have t1 := F.get (t := 1) (v := .pointer (some ⟨w.heap.size, 0, none⟩)) (by decide) rfl
      go_simp
      exact hK _ _ (Wrote.refl _ _) (updV_same _ _ _)
    | 19 =>
      simp only [List.getElem?_toArray, List.getElem?_cons_zero, List.getElem?_cons_succ, Option.some.injEq] at ho
      subst ho
      have q18 : a'.tmps[30]?.getD undef = .pointer (some ⟨w.heap.size, 12, none⟩) := by obtain ⟨_, _, _, _, q⟩ := hw 18 (by kernel_rfl); exact q
      have rb := boxC (box_wrote k0 LN (fun _ x => x))
      go_simp
      exact hK _ _ (Wrote.refl _ _) (updV_same _ _ _)
    | 20 =>
      simp only [List.getElem?_toArray, List.getElem?_cons_zero, List.getElem?_cons_succ, Option.some.injEq] at ho
      subst ho
      have t1 := F.get (t := 1) (v := .pointer (some ⟨w.heap.size, 0, none⟩)) (by decide) rfl
      go_simp
      exact hK _ _ (Wrote.refl _ _) (updV_same _ _ _)
    | 21 =>
      simp only [List.getElem?_toArray, List.getElem?_cons_zero, List.getElem?_cons_succ, Option.some.injEq] at ho
      subst ho
      have q20 : a'.tmps[32]?.getD undef = .pointer (some ⟨w.heap.size, 15, none⟩) := by obtain ⟨_, _, _, _, q⟩ := hw 20 (by kernel_rfl); exact q
      have rb := boxC (box_wrote k0 LN (fun _ x => x))
      go_simp
      exact hK _ _ (Wrote.refl _ _) (updV_same _ _ _)
    | 22 =>
      simp only [List.getElem?_toArray, List.getElem?_cons_zero, List.getElem?_cons_succ, Option.some.injEq] at ho
      subst ho
      have t1 := F.get (t := 1) (v := .pointer (some ⟨w.heap.size, 0, none⟩)) (by decide) rfl
      go_simp
      exact hK _ _ (Wrote.refl _ _) (updV_same _ _ _)
    | 23 =>
      simp only [List.getElem?_toArray, List.getElem?_cons_zero, List.getElem?_cons_succ, Option.some.injEq] at ho
      subst ho
      have q22 : a'.tmps[34]?.getD undef = .pointer (some ⟨w.heap.size, 19, none⟩) := by obtain ⟨_, _, _, _, q⟩ := hw 22 (by kernel_rfl); exact q
      have rb := boxC (box_wrote k0 LN (fun _ x => x))
      go_simp
      exact hK _ _ (Wrote.refl _ _) (updV_same _ _ _)
    | 24 =>
      simp only [List.getElem?_toArray, List.getElem?_cons_zero, List.getElem?_cons_succ, Option.some.injEq] at ho
      subst ho
      have t1 := F.get (t := 1) (v := .pointer (some ⟨w.heap.size, 0, none⟩)) (by decide) rfl
      refine wp_load_row _ _ rfl w.heap.size (by simpa [Act.eval] using t1) _ _ _ _ (box_wrote k0' LN (fun _ x => x)) Tryz.underlying46 rfl hsz.out ?_
      exact hK _ _ (Wrote.refl _ _) (updV_same _ _ _)
    | 25 =>
      simp only [List.getElem?_toArray, List.getElem?_cons_zero, List.getElem?_cons_succ, Option.some.injEq] at ho
      subst ho
      have q24 : a'.tmps[36]?.getD undef = .agg cs := by obtain ⟨_, _, _, _, q⟩ := hw 24 (by kernel_rfl); exact q
      go_simp
      refine (HOb.out W (C0.trans (LN.below C0.size (fun _ _ _ x => x)))).mono ?_
      rintro e W' ⟨v, rfl, hA, LB⟩
      obtain ⟨n5, x5, n6, x6, n7, x7, rfl, D, hD⟩ := hA.parts17
      exact hK _ _ (wrote_below LB _) ⟨n5, x5, n6, x6, n7, x7, updV_same _ _ _, D, hD⟩
    | 26 =>
      simp only [List.getElem?_toArray, List.getElem?_cons_zero, List.getElem?_cons_succ, Option.some.injEq] at ho
      subst ho
      obtain ⟨_, _, _, _, n0, x0, q2, -⟩ := hw 2 (by kernel_rfl)
      have r2 : a'.tmps[14]?.getD undef = .agg #[.slice n0 d.m x0] := q2
      obtain ⟨_, _, _, _, n1, x1, q5, -⟩ := hw 5 (by kernel_rfl)
      have r5 : a'.tmps[17]?.getD undef = .slice n1 d.np x1 := q5
      obtain ⟨_, _, _, _, n2, x2, q8, -⟩ := hw 8 (by kernel_rfl)
      have r8 : a'.tmps[20]?.getD undef = .agg #[.slice n2 d.nr x2, .int .i64 d.bank] := q8
      obtain ⟨_, _, _, _, n3, x3, n4, x4, q14, -⟩ := hw 14 (by kernel_rfl)
      have r14 : a'.tmps[26]?.getD undef = .agg #[.int .i64 d.pc.t, .int .i64 d.pc.c, .int .i64 d.pc.s, .int .i64 d.pc.ad, .int .i64 d.pc.pl, .bool d.pc.bl, .slice n3 d.pc.nt x3, .slice n4 d.pc.nd x4] := q14
      obtain ⟨_, _, _, _, n5, x5, n6, x6, n7, x7, q25, -⟩ := hw 25 (by kernel_rfl)
      have r25 : a'.tmps[37]?.getD undef = .agg #[.slice n5 d.pc.mf x5, .slice n6 d.sn.ns x6, .slice n7 d.nq x7] := q25
      have q10 : a'.tmps[22]?.getD undef = .agg #[.int .i64 d.A, .int .i64 d.X, .int .i64 d.S, .int .i64 d.Pc, .bool d.Z, .bool d.N, .bool d.C, .bool d.I] := by obtain ⟨_, _, _, _, q⟩ := hw 10 (by kernel_rfl); exact q
      have q17 : a'.tmps[29]?.getD undef = .agg #[.int .i64 d.sn.T, .int .i64 d.sn.P, .int .i64 d.sn.C, .int .i64 d.sn.B, .int .i64 d.sn.L, .bool d.sn.S, .bool d.sn.Q] := by obtain ⟨_, _, _, _, q⟩ := hw 17 (by kernel_rfl); exact q
      have q19 : a'.tmps[31]?.getD undef = .agg #[.bool d.hd, .int .i64 d.sh] := by obtain ⟨_, _, _, _, q⟩ := hw 19 (by kernel_rfl); exact q
      have q21 : a'.tmps[33]?.getD undef = .bool d.nmi := by obtain ⟨_, _, _, _, q⟩ := hw 21 (by kernel_rfl); exact q
      have q23 : a'.tmps[35]?.getD undef = .int .i64 d.st := by obtain ⟨_, _, _, _, q⟩ := hw 23 (by kernel_rfl); exact q
      go_simp
      exact hK _ _ (Wrote.refl _ _) ⟨n0, x0, n1, x1, n2, x2, n3, x3, n4, x4, n5, x5, n6, x6, n7, x7, (updV_ne _ _ (by decide)).trans q2, (updV_ne _ _ (by decide)).trans q5, (updV_ne _ _ (by decide)).trans q8, (updV_ne _ _ (by decide)).trans q14, (updV_ne _ _ (by decide)).trans q25, updV_same _ _ _⟩
    | _ + 27 => omega
  · intro o a' W K8 ho F L lo hi hφ hdj hK
    have LN : Wrote Nowhere W0 W := L.mono (fun b o _ ⟨j, h⟩ => h)
    simp only [List.getElem?_toArray, List.getElem?_cons_zero, List.getElem?_cons_succ, Option.some.injEq] at ho
    subst ho
    obtain ⟨lI, mI, zI, n0, x0, qI, hA⟩ := hφ 2 (by decide)
    obtain ⟨lP, mP, zP, n1, x1, qP, hB⟩ := hφ 5 (by decide)
    obtain ⟨lM, mM, zM, n2, x2, qM, hC⟩ := hφ 8 (by decide)
    obtain ⟨lQ, mQ, zQ, n3, x3, n4, x4, qQ, hD⟩ := hφ 14 (by decide)
    obtain ⟨lO, mO, zO, n5, x5, n6, x6, n7, x7, qO, DO, hE, dO, bO⟩ := hφ 25 (by decide)
    obtain ⟨-, -, -, b0, e0, b1', e1', b2', e2', b3', e3', b4', e4', b5, e5, b6, e6, b7, e7, f0, f1, f2, f3, f4, sB⟩ := hφ 26 (by decide)
    rw [qI] at f0
    rw [qP] at f1
    rw [qM] at f2
    rw [qQ] at f3
    rw [qO] at f4
    simp only [Value.slice.injEq, true_and, Value.agg.injEq, Array.mk.injEq, List.cons.injEq, and_true, Option.some.injEq, Addr.mk.injEq] at f0 f1 f2 f3 f4
    obtain ⟨rfl, rfl⟩ := f0
    obtain ⟨rfl, rfl⟩ := f1
    obtain ⟨rfl, rfl⟩ := f2
    obtain ⟨⟨rfl, rfl⟩, rfl, rfl⟩ := f3
    obtain ⟨⟨rfl, rfl⟩, ⟨rfl, rfl⟩, rfl, rfl⟩ := f4
    have dj2_8 := hdj 2 8 (by decide) (by decide) (by decide)
    have dj2_14 := hdj 2 14 (by decide) (by decide) (by decide)
    have dj2_25 := hdj 2 25 (by decide) (by decide) (by decide)
    have dj2_5 := hdj 2 5 (by decide) (by decide) (by decide)
    have dj8_14 := hdj 8 14 (by decide) (by decide) (by decide)
    have dj8_25 := hdj 8 25 (by decide) (by decide) (by decide)
    have dj8_5 := hdj 8 5 (by decide) (by decide) (by decide)
    have dj14_25 := hdj 14 25 (by decide) (by decide) (by decide)
    have dj14_5 := hdj 14 5 (by decide) (by decide) (by decide)
    have dj25_5 := hdj 25 5 (by decide) (by decide) (by decide)
    replace sB : a'.tmps[38]?.getD undef = .agg #[.slice n0 d.m x0, .slice n1 d.np x1, .slice n2 d.nr x2, .int .i64 d.bank, .int .i64 d.A, .int .i64 d.X, .int .i64 d.S, .int .i64 d.Pc, .bool d.Z, .bool d.N, .bool d.C, .bool d.I, .int .i64 d.pc.t, .int .i64 d.pc.c, .int .i64 d.pc.s, .int .i64 d.pc.ad, .int .i64 d.pc.pl, .bool d.pc.bl, .slice n3 d.pc.nt x3, .slice n4 d.pc.nd x4, .int .i64 d.sn.T, .int .i64 d.sn.P, .int .i64 d.sn.C, .int .i64 d.sn.B, .int .i64 d.sn.L, .bool d.sn.S, .bool d.sn.Q, .bool d.hd, .int .i64 d.sh, .bool d.nmi, .int .i64 d.st, .slice n5 d.pc.mf x5, .slice n6 d.sn.ns x6, .slice n7 d.nq x7] := sB
    refine wp_store_row _ _ _ rfl (w.heap.size + 1) #[.slice n0 d.m x0, .slice n1 d.np x1, .slice n2 d.nr x2, .int .i64 d.bank, .int .i64 d.A, .int .i64 d.X, .int .i64 d.S, .int .i64 d.Pc, .bool d.Z, .bool d.N, .bool d.C, .bool d.I, .int .i64 d.pc.t, .int .i64 d.pc.c, .int .i64 d.pc.s, .int .i64 d.pc.ad, .int .i64 d.pc.pl, .bool d.pc.bl, .slice n3 d.pc.nt x3, .slice n4 d.pc.nd x4, .int .i64 d.sn.T, .int .i64 d.sn.P, .int .i64 d.sn.C, .int .i64 d.sn.B, .int .i64 d.sn.L, .bool d.sn.S, .bool d.sn.Q, .bool d.hd, .int .i64 d.sh, .bool d.nmi, .int .i64 d.st, .slice n5 d.pc.mf x5, .slice n6 d.sn.ns x6, .slice n7 d.nq x7] (by simpa [Act.eval] using F.get (t := 2) (v := .pointer (some ⟨w.heap.size + 1, 0, none⟩)) (by decide) rfl) (by simpa [Act.eval] using sB) _ _ (box_wrote kR LN (fun _ x => x)) infoLock17 rfl (by first | kernel_rfl | simp [Value.oneCell']) ?_
    refine hK _ _ ?_
    have kE := box_wrote kR LN (fun _ x => x)
    have WW := wrote_setRowU kE #[.slice n0 d.m x0, .slice n1 d.np x1, .slice n2 d.nr x2, .int .i64 d.bank, .int .i64 d.A, .int .i64 d.X, .int .i64 d.S, .int .i64 d.Pc, .bool d.Z, .bool d.N, .bool d.C, .bool d.I, .int .i64 d.pc.t, .int .i64 d.pc.c, .int .i64 d.pc.s, .int .i64 d.pc.ad, .int .i64 d.pc.pl, .bool d.pc.bl, .slice n3 d.pc.nt x3, .slice n4 d.pc.nd x4, .int .i64 d.sn.T, .int .i64 d.sn.P, .int .i64 d.sn.C, .int .i64 d.sn.B, .int .i64 d.sn.L, .bool d.sn.S, .bool d.sn.Q, .bool d.hd, .int .i64 d.sh, .bool d.nmi, .int .i64 d.st, .slice n5 d.pc.mf x5, .slice n6 d.sn.ns x6, .slice n7 d.nq x7]
    have kF := setRow_heap _ _ _ #[.slice n0 d.m x0, .slice n1 d.np x1, .slice n2 d.nr x2, .int .i64 d.bank, .int .i64 d.A, .int .i64 d.X, .int .i64 d.S, .int .i64 d.Pc, .bool d.Z, .bool d.N, .bool d.C, .bool d.I, .int .i64 d.pc.t, .int .i64 d.pc.c, .int .i64 d.pc.s, .int .i64 d.pc.ad, .int .i64 d.pc.pl, .bool d.pc.bl, .slice n3 d.pc.nt x3, .slice n4 d.pc.nd x4, .int .i64 d.sn.T, .int .i64 d.sn.P, .int .i64 d.sn.C, .int .i64 d.sn.B, .int .i64 d.sn.L, .bool d.sn.S, .bool d.sn.Q, .bool d.hd, .int .i64 d.sh, .bool d.nmi, .int .i64 d.st, .slice n5 d.pc.mf x5, .slice n6 d.sn.ns x6, .slice n7 d.nq x7] _ _ kE
    have CF : Below w.heap.size w (W.setRow (w.heap.size + 1) #[.slice n0 d.m x0, .slice n1 d.np x1, .slice n2 d.nr x2, .int .i64 d.bank, .int .i64 d.A, .int .i64 d.X, .int .i64 d.S, .int .i64 d.Pc, .bool d.Z, .bool d.N, .bool d.C, .bool d.I, .int .i64 d.pc.t, .int .i64 d.pc.c, .int .i64 d.pc.s, .int .i64 d.pc.ad, .int .i64 d.pc.pl, .bool d.pc.bl, .slice n3 d.pc.nt x3, .slice n4 d.pc.nd x4, .int .i64 d.sn.T, .int .i64 d.sn.P, .int .i64 d.sn.C, .int .i64 d.sn.B, .int .i64 d.sn.L, .bool d.sn.S, .bool d.sn.Q, .bool d.hd, .int .i64 d.sh, .bool d.nmi, .int .i64 d.st, .slice n5 d.pc.mf x5, .slice n6 d.sn.ns x6, .slice n7 d.nq x7]) := (C0.trans (LN.below C0.size (fun _ _ _ x => x))).trans (WW.below (Nat.le_trans C0.size LN.size) (fun b o hb (e : b = _) => by omega))
    have hWs : (W.setRow (w.heap.size + 1) #[.slice n0 d.m x0, .slice n1 d.np x1, .slice n2 d.nr x2, .int .i64 d.bank, .int .i64 d.A, .int .i64 d.X, .int .i64 d.S, .int .i64 d.Pc, .bool d.Z, .bool d.N, .bool d.C, .bool d.I, .int .i64 d.pc.t, .int .i64 d.pc.c, .int .i64 d.pc.s, .int .i64 d.pc.ad, .int .i64 d.pc.pl, .bool d.pc.bl, .slice n3 d.pc.nt x3, .slice n4 d.pc.nd x4, .int .i64 d.sn.T, .int .i64 d.sn.P, .int .i64 d.sn.C, .int .i64 d.sn.B, .int .i64 d.sn.L, .bool d.sn.S, .bool d.sn.Q, .bool d.hd, .int .i64 d.sh, .bool d.nmi, .int .i64 d.st, .slice n5 d.pc.mf x5, .slice n6 d.sn.ns x6, .slice n7 d.nq x7]).heap.size = W.heap.size := by simp [World.setRow]
    have hC0 := C0.size
    have HF : Hid (LkCp w (W.setRow (w.heap.size + 1) #[.slice n0 d.m x0, .slice n1 d.np x1, .slice n2 d.nr x2, .int .i64 d.bank, .int .i64 d.A, .int .i64 d.X, .int .i64 d.S, .int .i64 d.Pc, .bool d.Z, .bool d.N, .bool d.C, .bool d.I, .int .i64 d.pc.t, .int .i64 d.pc.c, .int .i64 d.pc.s, .int .i64 d.pc.ad, .int .i64 d.pc.pl, .bool d.pc.bl, .slice n3 d.pc.nt x3, .slice n4 d.pc.nd x4, .int .i64 d.sn.T, .int .i64 d.sn.P, .int .i64 d.sn.C, .int .i64 d.sn.B, .int .i64 d.sn.L, .bool d.sn.S, .bool d.sn.Q, .bool d.hd, .int .i64 d.sh, .bool d.nmi, .int .i64 d.st, .slice n5 d.pc.mf x5, .slice n6 d.sn.ns x6, .slice n7 d.nq x7]) (.agg #[.slice n0 d.m x0, .slice n1 d.np x1, .slice n2 d.nr x2, .int .i64 d.bank, .int .i64 d.A, .int .i64 d.X, .int .i64 d.S, .int .i64 d.Pc, .bool d.Z, .bool d.N, .bool d.C, .bool d.I, .int .i64 d.pc.t, .int .i64 d.pc.c, .int .i64 d.pc.s, .int .i64 d.pc.ad, .int .i64 d.pc.pl, .bool d.pc.bl, .slice n3 d.pc.nt x3, .slice n4 d.pc.nd x4, .int .i64 d.sn.T, .int .i64 d.sn.P, .int .i64 d.sn.C, .int .i64 d.sn.B, .int .i64 d.sn.L, .bool d.sn.S, .bool d.sn.Q, .bool d.hd, .int .i64 d.sh, .bool d.nmi, .int .i64 d.st, .slice n5 d.pc.mf x5, .slice n6 d.sn.ns x6, .slice n7 d.nq x7]) (asD d)) := ⟨fun i b => (i = 0 ∧ (lo 2 ≤ b ∧ b < hi 2)) ∨ (i = 1 ∧ (lo 5 ≤ b ∧ b < hi 5)) ∨ (i = 2 ∧ (lo 8 ≤ b ∧ b < hi 8)) ∨ (i = 3 ∧ (lo 14 ≤ b ∧ b < hi 14)) ∨ (4 ≤ i ∧ DO i b), ⟨_, _, _, _, _, _, _, _, rfl, (hA.keep WW (fun b o hb hlt (e : b = _) => by omega)).mono (fun b _ h => Or.inl ⟨rfl, h⟩), (hB.keep WW (fun b o hb hlt (e : b = _) => by omega)).mono (fun b _ h => Or.inr (Or.inl ⟨rfl, h⟩)), (hC.keep WW (fun b o hb hlt (e : b = _) => by omega)).mono (fun b _ h => Or.inr (Or.inr (Or.inl ⟨rfl, h⟩))), (hD.keep WW (fun b o hb hlt (e : b = _) => by omega)).mono (fun b _ h => Or.inr (Or.inr (Or.inr (Or.inl ⟨rfl, h⟩)))), obMono17 (ObsOn.keep hE WW (fun i b o _ hb _ (e : b = _) => by have := bO i b hb; omega)) (fun i b hi h => Or.inr (Or.inr (Or.inr (Or.inr ⟨hi, h⟩))))⟩, fun i j b h1 h2 => by
        have eO : ∀ k, DO k b → lo 25 ≤ b ∧ b < hi 25 := fun k h => bO k b h
        rcases h1 with ⟨rfl, h1⟩ | ⟨rfl, h1⟩ | ⟨rfl, h1⟩ | ⟨rfl, h1⟩ | ⟨h1', h1⟩ <;> rcases h2 with ⟨rfl, h2⟩ | ⟨rfl, h2⟩ | ⟨rfl, h2⟩ | ⟨rfl, h2⟩ | ⟨h2', h2⟩ <;> first | rfl | exact dO _ _ _ h1 h2 | (have := eO _ h1; subst_vars; omega) | (have := eO _ h2; subst_vars; omega) | (subst_vars; omega), fun i b h => by
        rw [hWs]
        rcases h with ⟨-, h⟩ | ⟨-, h⟩ | ⟨-, h⟩ | ⟨-, h⟩ | ⟨-, h⟩ <;> first | (have := bO _ _ h; omega) | (subst_vars; omega)⟩
    rw [F.same, show slotsOf [some 12, some 13, some 14, some 15, some 16, some 17, some 18, some 19, some 20, some 21, some 22, some 23, some 24, some 25, some 26, some 27, some 28, some 29, some 30, some 31, some 32, some 33, some 34, some 35, some 36, some 37, some 38, none] = [12, 13, 14, 15, 16, 17, 18, 19, 20, 21, 22, 23, 24, 25, 26, 27, 28, 29, 30, 31, 32, 33, 34, 35, 36, 37, 38] from rfl]
    simp only [List.foldl_cons, List.foldl_nil]
    generalize a'.tmps[12]?.getD undef = gv12
    generalize a'.tmps[13]?.getD undef = gv13
    generalize a'.tmps[14]?.getD undef = gv14
    generalize a'.tmps[15]?.getD undef = gv15
    generalize a'.tmps[16]?.getD undef = gv16
    generalize a'.tmps[17]?.getD undef = gv17
    generalize a'.tmps[18]?.getD undef = gv18
    generalize a'.tmps[19]?.getD undef = gv19
    generalize a'.tmps[20]?.getD undef = gv20
    generalize a'.tmps[21]?.getD undef = gv21
    generalize a'.tmps[22]?.getD undef = gv22
    generalize a'.tmps[23]?.getD undef = gv23
    generalize a'.tmps[24]?.getD undef = gv24
    generalize a'.tmps[25]?.getD undef = gv25
    generalize a'.tmps[26]?.getD undef = gv26
    generalize a'.tmps[27]?.getD undef = gv27
    generalize a'.tmps[28]?.getD undef = gv28
    generalize a'.tmps[29]?.getD undef = gv29
    generalize a'.tmps[30]?.getD undef = gv30
    generalize a'.tmps[31]?.getD undef = gv31
    generalize a'.tmps[32]?.getD undef = gv32
    generalize a'.tmps[33]?.getD undef = gv33
    generalize a'.tmps[34]?.getD undef = gv34
    generalize a'.tmps[35]?.getD undef = gv35
    generalize a'.tmps[36]?.getD undef = gv36
    generalize a'.tmps[37]?.getD undef = gv37
    generalize a'.tmps[38]?.getD undef = gv38
    clear hφ hdj F L LN WW kE hK kR sB hA hB hC hD hE dO bO
    generalize W.setRow (w.heap.size + 1) #[.slice n0 d.m x0, .slice n1 d.np x1, .slice n2 d.nr x2, .int .i64 d.bank, .int .i64 d.A, .int .i64 d.X, .int .i64 d.S, .int .i64 d.Pc, .bool d.Z, .bool d.N, .bool d.C, .bool d.I, .int .i64 d.pc.t, .int .i64 d.pc.c, .int .i64 d.pc.s, .int .i64 d.pc.ad, .int .i64 d.pc.pl, .bool d.pc.bl, .slice n3 d.pc.nt x3, .slice n4 d.pc.nd x4, .int .i64 d.sn.T, .int .i64 d.sn.P, .int .i64 d.sn.C, .int .i64 d.sn.B, .int .i64 d.sn.L, .bool d.sn.S, .bool d.sn.Q, .bool d.hd, .int .i64 d.sh, .bool d.nmi, .int .i64 d.st, .slice n5 d.pc.mf x5, .slice n6 d.sn.ns x6, .slice n7 d.nq x7] = W4 at *
    refine hKc _ _ ?_
    clear hKc
    go_simp
    go_wp2
    refine bodyPost_ret (v := .agg #[.slice n0 d.m x0, .slice n1 d.np x1, .slice n2 d.nr x2, .int .i64 d.bank, .int .i64 d.A, .int .i64 d.X, .int .i64 d.S, .int .i64 d.Pc, .bool d.Z, .bool d.N, .bool d.C, .bool d.I, .int .i64 d.pc.t, .int .i64 d.pc.c, .int .i64 d.pc.s, .int .i64 d.pc.ad, .int .i64 d.pc.pl, .bool d.pc.bl, .slice n3 d.pc.nt x3, .slice n4 d.pc.nd x4, .int .i64 d.sn.T, .int .i64 d.sn.P, .int .i64 d.sn.C, .int .i64 d.sn.B, .int .i64 d.sn.L, .bool d.sn.S, .bool d.sn.Q, .bool d.hd, .int .i64 d.sh, .bool d.nmi, .int .i64 d.st, .slice n5 d.pc.mf x5, .slice n6 d.sn.ns x6, .slice n7 d.nq x7]) (by exact results_cell_row Tryz.results20 _ _ (w.heap.size + 1) _ _ _ _ rfl kF Tryz.underlying76 rfl infoLock17) rfl ?_
    exact ⟨_, rfl, by rw [← AS.out]; exact HF.out, CF⟩
set_option maxRecDepth 40000 in
set_option maxHeartbeats 16000000 in
theorem specAsLock (w : World) (E : Nat → Nat → Prop) (v : Value) (d : SpD) (H : SplitOn w E v d) :
    Calls Tryz.prog 18 #[v] w fun e w' => ∃ v', e = .returned v' ∧ LkCp w w' v' (asL d) ∧ Below w.heap.size w w' := by
  have HH := hide H
  obtain ⟨u0, u1, u2, u3, q1, q2, q3, q4, r1, r2, rfl, h0, h1, h2, h3, h4, h5⟩ := H
  have hpi := h0.small
  obtain ⟨a0, c0, rfl⟩ := h0.form
  obtain ⟨a1, c1, rfl⟩ := h1.two
  obtain ⟨w2, e2, g2⟩ := h2.ints
  simp only [Value.agg.injEq, Array.mk.injEq, List.cons.injEq, and_true] at e2
  subst e2
  obtain ⟨a2, c2, rfl, -⟩ := id g2
  obtain ⟨a3, c3, rfl⟩ := h3.two
  obtain ⟨b1, y1, b2, y2, b3, y3, b4, y4, e4⟩ := h4.form
  simp only [Value.agg.injEq, Array.mk.injEq, List.cons.injEq, and_true, true_and] at e4
  obtain ⟨rfl, rfl, rfl, rfl⟩ := e4
  obtain ⟨e1, z1, e2, z2, e5⟩ := h5.form
  simp only [Value.agg.injEq, Array.mk.injEq, List.cons.injEq, and_true, true_and] at e5
  obtain ⟨rfl, rfl⟩ := e5
  obtain ⟨p1, p2, p3, p4, ep, hP, -, -⟩ := h4
  simp only [Value.agg.injEq, Array.mk.injEq, List.cons.injEq, and_true, true_and] at ep
  obtain ⟨rfl, rfl, rfl, rfl⟩ := ep
  obtain ⟨v1, v2, ev, i1, i2⟩ := hP.ints
  simp only [Value.agg.injEq, Array.mk.injEq, List.cons.injEq, and_true, true_and] at ev
  obtain ⟨rfl, rfl⟩ := ev
  have HPI := hide hpi
  have HIm := hide (fun W (L : Below w.heap.size w W) => l12Image W _ _ d.m d.ln d.f (h0.ints.keep (wrote_below L Nowhere) (fun _ _ _ x => x)))
  have HPd := hide (fun W (L : Below w.heap.size w W) => (h1.keep (wrote_below L Nowhere) (fun _ _ _ _ x => x)).ints17)
  have HMe := hide (fun W (L : Below w.heap.size w W) => l6Copy W _ _ d.nr d.g d.bank (g2.keep (wrote_below L Nowhere) (fun _ _ _ x => x)))
  have HPp := hide (fun W (L : Below w.heap.size w W) => l8Copy W _ _ d.pc.t d.pc.c d.pc.s d.pc.ad d.pc.pl d.pc.bl _ _ d.pc.nt d.pc.tb d.pc.nd d.pc.dt (i1.keep (wrote_below L Nowhere) (fun _ _ _ x => x)) (i2.keep (wrote_below L Nowhere) (fun _ _ _ x => x)))
  clear h0 h1 h2 h3 h5 g2 hP i1 i2 hpi
  obtain ⟨cs, hcs⟩ : ∃ cs : Array Value, Hid (cs = #[.slice a0 d.m c0, .slice a1 d.np c1, .slice a2 d.nr c2, .int .i64 d.bank, .int .i64 d.A, .int .i64 d.X, .int .i64 d.S, .int .i64 d.Pc, .bool d.Z, .bool d.N, .bool d.C, .bool d.I, .bool d.hd, .int .i64 d.sh, .int .i64 d.T, .bool d.nmi, .int .i64 d.ctrl, .bool d.kn, .int .i64 d.ka, .int .i64 d.st, .slice a3 d.nq c3, .int .i64 d.pc.t, .int .i64 d.pc.c, .int .i64 d.pc.s, .int .i64 d.pc.ad, .int .i64 d.pc.pl, .bool d.pc.bl, .slice b1 d.pc.nt y1, .slice b2 d.pc.nd y2, .int .i64 d.pc.cap, .slice b3 d.pc.n y3, .slice b4 d.pc.mf y4, .int .i64 d.sn.T, .int .i64 d.sn.P, .int .i64 d.sn.C, .int .i64 d.sn.B, .int .i64 d.sn.L, .bool d.sn.S, .bool d.sn.Q, .int .i64 d.sn.cap, .slice e1 d.sn.n z1, .slice e2 d.sn.ns z2]) := ⟨_, rfl⟩
  rw [← hcs.out] at HH ⊢
  have hsz : Hid ((Tryz.prog.info? 46).map (·.size) = some cs.size) := by show _ = _; rw [hcs.out]; exact infoSplit17
  have HOb := hide (fun W (L : Below w.heap.size w W) => specObsOf W E (.agg cs) d (HH.out.keep (wrote_below L Nowhere) (fun _ _ _ _ _ x => x)))
  have HOk := hide (fun W (L : Below w.heap.size w W) => specSplitOk W E (.agg cs) d (HH.out.keep (wrote_below L Nowhere) (fun _ _ _ _ _ x => x)))
  have HPu := hide (fun W (L : Below w.heap.size w W) => l15PictureUp W E cs d (HH.out.keep (wrote_below L Nowhere) (fun _ _ _ _ _ x => x)))
  have HSu := hide (fun W (L : Below w.heap.size w W) => l15SoundUp W E cs d (HH.out.keep (wrote_below L Nowhere) (fun _ _ _ _ _ x => x)))
  clear HH
  have C0 : Below w.heap.size w ((w.alloc (.cells cs 46)).alloc (.cells #[.slice none 0 0, .slice none 0 0, .slice none 0 0, .int .i64 0, .int .i64 0, .int .i64 0, .int .i64 0, .int .i64 0, .bool false, .bool false, .bool false, .bool false, .int .i64 0, .int .i64 0, .int .i64 0, .int .i64 0, .int .i64 0, .bool false, .slice none 0 0, .slice none 0 0, .int .i64 0, .int .i64 0, .int .i64 0, .int .i64 0, .int .i64 0, .bool false, .bool false, .bool false, .int .i64 0, .bool false, .int .i64 0, .slice none 0 0, .slice none 0 0, .slice none 0 0] 76)) := ((Below.refl _ _).alloc (Nat.le_refl _) _).alloc (by simp) _
  have k0' : ((w.alloc (.cells cs 46)).alloc (.cells #[.slice none 0 0, .slice none 0 0, .slice none 0 0, .int .i64 0, .int .i64 0, .int .i64 0, .int .i64 0, .int .i64 0, .bool false, .bool false, .bool false, .bool false, .int .i64 0, .int .i64 0, .int .i64 0, .int .i64 0, .int .i64 0, .bool false, .slice none 0 0, .slice none 0 0, .int .i64 0, .int .i64 0, .int .i64 0, .int .i64 0, .int .i64 0, .bool false, .bool false, .bool false, .int .i64 0, .bool false, .int .i64 0, .slice none 0 0, .slice none 0 0, .slice none 0 0] 76)).heap[w.heap.size]? = some (.cells cs 46 (0, 0)) := boxA (box_new w cs 46) _
  have kR : ((w.alloc (.cells cs 46)).alloc (.cells #[.slice none 0 0, .slice none 0 0, .slice none 0 0, .int .i64 0, .int .i64 0, .int .i64 0, .int .i64 0, .int .i64 0, .bool false, .bool false, .bool false, .bool false, .int .i64 0, .int .i64 0, .int .i64 0, .int .i64 0, .int .i64 0, .bool false, .slice none 0 0, .slice none 0 0, .int .i64 0, .int .i64 0, .int .i64 0, .int .i64 0, .int .i64 0, .bool false, .bool false, .bool false, .int .i64 0, .bool false, .int .i64 0, .slice none 0 0, .slice none 0 0, .slice none 0 0] 76)).heap[w.heap.size + 1]? = some (.cells #[.slice none 0 0, .slice none 0 0, .slice none 0 0, .int .i64 0, .int .i64 0, .int .i64 0, .int .i64 0, .int .i64 0, .bool false, .bool false, .bool false, .bool false, .int .i64 0, .int .i64 0, .int .i64 0, .int .i64 0, .int .i64 0, .bool false, .slice none 0 0, .slice none 0 0, .int .i64 0, .int .i64 0, .int .i64 0, .int .i64 0, .int .i64 0, .bool false, .bool false, .bool false, .int .i64 0, .bool false, .int .i64 0, .slice none 0 0, .slice none 0 0, .slice none 0 0] 76 (0, 0)) := by simpa using box_new (w.alloc (.cells cs 46)) #[.slice none 0 0, .slice none 0 0, .slice none 0 0, .int .i64 0, .int .i64 0, .int .i64 0, .int .i64 0, .int .i64 0, .bool false, .bool false, .bool false, .bool false, .int .i64 0, .int .i64 0, .int .i64 0, .int .i64 0, .int .i64 0, .bool false, .slice none 0 0, .slice none 0 0, .int .i64 0, .int .i64 0, .int .i64 0, .int .i64 0, .int .i64 0, .bool false, .bool false, .bool false, .int .i64 0, .bool false, .int .i64 0, .slice none 0 0, .slice none 0 0, .slice none 0 0] 76
  go_enter Tryz.func18, Tryz.ntmps18
  go_upto_region 1 with (fail)
  generalize (w.alloc (.cells cs 46)).alloc (.cells #[.slice none 0 0, .slice none 0 0, .slice none 0 0, .int .i64 0, .int .i64 0, .int .i64 0, .int .i64 0, .int .i64 0, .bool false, .bool false, .bool false, .bool false, .int .i64 0, .int .i64 0, .int .i64 0, .int .i64 0, .int .i64 0, .bool false, .slice none 0 0, .slice none 0 0, .int .i64 0, .int .i64 0, .int .i64 0, .int .i64 0, .int .i64 0, .bool false, .bool false, .bool false, .int .i64 0, .bool false, .int .i64 0, .slice none 0 0, .slice none 0 0, .slice none 0 0] 76) = V0 at *
  refine wp_region_lit ?_
  refine wpList_load_row rfl _ _ rfl (w.heap.size) rfl _ _ _ _ k0' Tryz.underlying46 rfl hsz.out ?_
  go_wp2_with fail
  refine (HOk.out _ C0).mono ?_
  clear HOk
  rintro e V1 ⟨rfl, L⟩
  replace C0 := below_snoc C0 L
  replace k0' := box_keep k0' L (boxLt k0')
  replace kR := box_keep kR L (boxLt kR)
  clear L
  cases ok : okSplit d
  · have OK := hide ok
    clear ok
    go_upto_region 2 with (fail)
    refine wp_region_lit ?_
    go_wp2_with (refine wpList_store_row rfl _ _ _ rfl (w.heap.size + 1) #[.slice none 0 0, .slice none 0 0, .slice none 0 0, .int .i64 0, .int .i64 0, .int .i64 0, .int .i64 0, .int .i64 0, .bool false, .bool false, .bool false, .bool false, .int .i64 0, .int .i64 0, .int .i64 0, .int .i64 0, .int .i64 0, .bool false, .slice none 0 0, .slice none 0 0, .int .i64 0, .int .i64 0, .int .i64 0, .int .i64 0, .int .i64 0, .bool false, .bool false, .bool false, .int .i64 0, .bool false, .int .i64 0, .slice none 0 0, .slice none 0 0, .slice none 0 0] rfl rfl _ _ kR infoLock17 rfl (by first | kernel_rfl | simp [Value.oneCell']) ?_)
    have kF := setRow_heap _ _ _ #[.slice none 0 0, .slice none 0 0, .slice none 0 0, .int .i64 0, .int .i64 0, .int .i64 0, .int .i64 0, .int .i64 0, .bool false, .bool false, .bool false, .bool false, .int .i64 0, .int .i64 0, .int .i64 0, .int .i64 0, .int .i64 0, .bool false, .slice none 0 0, .slice none 0 0, .int .i64 0, .int .i64 0, .int .i64 0, .int .i64 0, .int .i64 0, .bool false, .bool false, .bool false, .int .i64 0, .bool false, .int .i64 0, .slice none 0 0, .slice none 0 0, .slice none 0 0] _ _ kR
    have WW := wrote_setRowU kR #[.slice none 0 0, .slice none 0 0, .slice none 0 0, .int .i64 0, .int .i64 0, .int .i64 0, .int .i64 0, .int .i64 0, .bool false, .bool false, .bool false, .bool false, .int .i64 0, .int .i64 0, .int .i64 0, .int .i64 0, .int .i64 0, .bool false, .slice none 0 0, .slice none 0 0, .int .i64 0, .int .i64 0, .int .i64 0, .int .i64 0, .int .i64 0, .bool false, .bool false, .bool false, .int .i64 0, .bool false, .int .i64 0, .slice none 0 0, .slice none 0 0, .slice none 0 0]
    refine bodyPost_ret (v := .agg #[.slice none 0 0, .slice none 0 0, .slice none 0 0, .int .i64 0, .int .i64 0, .int .i64 0, .int .i64 0, .int .i64 0, .bool false, .bool false, .bool false, .bool false, .int .i64 0, .int .i64 0, .int .i64 0, .int .i64 0, .int .i64 0, .bool false, .slice none 0 0, .slice none 0 0, .int .i64 0, .int .i64 0, .int .i64 0, .int .i64 0, .int .i64 0, .bool false, .bool false, .bool false, .int .i64 0, .bool false, .int .i64 0, .slice none 0 0, .slice none 0 0, .slice none 0 0]) (by exact results_cell_row Tryz.results18 _ _ (w.heap.size + 1) _ _ _ _ rfl kF Tryz.underlying76 rfl infoLock17) rfl ?_
    refine ⟨_, rfl, ?_, C0.trans (WW.below C0.size (fun b o hb (e : b = _) => by omega))⟩
    rw [show asL d = zeroL17 by simp [asL, OK.out]]
    exact ⟨fun _ _ => False, zeroL17_on, fun _ _ _ h => h.elim, fun _ _ h => h.elim⟩
  have OK := hide ok
  clear ok
  go_wp2_with (first | (refine wpList_load_rowG17 (by kernel_rfl) _ _ rfl w.heap.size rfl _ _ _ _ k0' Tryz.underlying46 rfl hsz.out ?_))
  refine (HPu.out _ C0).mono ?_
  clear HPu
  rintro e V2 ⟨rfl, L⟩
  replace C0 := below_snoc C0 L
  replace k0' := box_keep k0' L (boxLt k0')
  replace kR := box_keep kR L (boxLt kR)
  clear L
  cases pu : picUp d
  · have PU := hide pu
    clear pu
    go_upto_region 2 with (fail)
    refine wp_region_lit ?_
    go_wp2_with (refine wpList_store_row rfl _ _ _ rfl (w.heap.size + 1) #[.slice none 0 0, .slice none 0 0, .slice none 0 0, .int .i64 0, .int .i64 0, .int .i64 0, .int .i64 0, .int .i64 0, .bool false, .bool false, .bool false, .bool false, .int .i64 0, .int .i64 0, .int .i64 0, .int .i64 0, .int .i64 0, .bool false, .slice none 0 0, .slice none 0 0, .int .i64 0, .int .i64 0, .int .i64 0, .int .i64 0, .int .i64 0, .bool false, .bool false, .bool false, .int .i64 0, .bool false, .int .i64 0, .slice none 0 0, .slice none 0 0, .slice none 0 0] rfl rfl _ _ kR infoLock17 rfl (by first | kernel_rfl | simp [Value.oneCell']) ?_)
    have kF := setRow_heap _ _ _ #[.slice none 0 0, .slice none 0 0, .slice none 0 0, .int .i64 0, .int .i64 0, .int .i64 0, .int .i64 0, .int .i64 0, .bool false, .bool false, .bool false, .bool false, .int .i64 0, .int .i64 0, .int .i64 0, .int .i64 0, .int .i64 0, .bool false, .slice none 0 0, .slice none 0 0, .int .i64 0, .int .i64 0, .int .i64 0, .int .i64 0, .int .i64 0, .bool false, .bool false, .bool false, .int .i64 0, .bool false, .int .i64 0, .slice none 0 0, .slice none 0 0, .slice none 0 0] _ _ kR
    have WW := wrote_setRowU kR #[.slice none 0 0, .slice none 0 0, .slice none 0 0, .int .i64 0, .int .i64 0, .int .i64 0, .int .i64 0, .int .i64 0, .bool false, .bool false, .bool false, .bool false, .int .i64 0, .int .i64 0, .int .i64 0, .int .i64 0, .int .i64 0, .bool false, .slice none 0 0, .slice none 0 0, .int .i64 0, .int .i64 0, .int .i64 0, .int .i64 0, .int .i64 0, .bool false, .bool false, .bool false, .int .i64 0, .bool false, .int .i64 0, .slice none 0 0, .slice none 0 0, .slice none 0 0]
    refine bodyPost_ret (v := .agg #[.slice none 0 0, .slice none 0 0, .slice none 0 0, .int .i64 0, .int .i64 0, .int .i64 0, .int .i64 0, .int .i64 0, .bool false, .bool false, .bool false, .bool false, .int .i64 0, .int .i64 0, .int .i64 0, .int .i64 0, .int .i64 0, .bool false, .slice none 0 0, .slice none 0 0, .int .i64 0, .int .i64 0, .int .i64 0, .int .i64 0, .int .i64 0, .bool false, .bool false, .bool false, .int .i64 0, .bool false, .int .i64 0, .slice none 0 0, .slice none 0 0, .slice none 0 0]) (by exact results_cell_row Tryz.results18 _ _ (w.heap.size + 1) _ _ _ _ rfl kF Tryz.underlying76 rfl infoLock17) rfl ?_
    refine ⟨_, rfl, ?_, C0.trans (WW.below C0.size (fun b o hb (e : b = _) => by omega))⟩
    rw [show asL d = zeroL17 by simp [asL, OK.out, PU.out]]
    exact ⟨fun _ _ => False, zeroL17_on, fun _ _ _ h => h.elim, fun _ _ h => h.elim⟩
  have PU := hide pu
  clear pu
  go_wp2_with (first | (refine wpList_load_rowG17 (by kernel_rfl) _ _ rfl w.heap.size rfl _ _ _ _ k0' Tryz.underlying46 rfl hsz.out ?_))
  refine (HSu.out _ C0).mono ?_
  clear HSu
  rintro e V3 ⟨rfl, L⟩
  replace C0 := below_snoc C0 L
  replace k0' := box_keep k0' L (boxLt k0')
  replace kR := box_keep kR L (boxLt kR)
  clear L
  cases su : sndUp d
  · have SU := hide su
    clear su
    go_upto_region 2 with (fail)
    refine wp_region_lit ?_
    go_wp2_with (refine wpList_store_row rfl _ _ _ rfl (w.heap.size + 1) #[.slice none 0 0, .slice none 0 0, .slice none 0 0, .int .i64 0, .int .i64 0, .int .i64 0, .int .i64 0, .int .i64 0, .bool false, .bool false, .bool false, .bool false, .int .i64 0, .int .i64 0, .int .i64 0, .int .i64 0, .int .i64 0, .bool false, .slice none 0 0, .slice none 0 0, .int .i64 0, .int .i64 0, .int .i64 0, .int .i64 0, .int .i64 0, .bool false, .bool false, .bool false, .int .i64 0, .bool false, .int .i64 0, .slice none 0 0, .slice none 0 0, .slice none 0 0] rfl rfl _ _ kR infoLock17 rfl (by first | kernel_rfl | simp [Value.oneCell']) ?_)
    have kF := setRow_heap _ _ _ #[.slice none 0 0, .slice none 0 0, .slice none 0 0, .int .i64 0, .int .i64 0, .int .i64 0, .int .i64 0, .int .i64 0, .bool false, .bool false, .bool false, .bool false, .int .i64 0, .int .i64 0, .int .i64 0, .int .i64 0, .int .i64 0, .bool false, .slice none 0 0, .slice none 0 0, .int .i64 0, .int .i64 0, .int .i64 0, .int .i64 0, .int .i64 0, .bool false, .bool false, .bool false, .int .i64 0, .bool false, .int .i64 0, .slice none 0 0, .slice none 0 0, .slice none 0 0] _ _ kR
    have WW := wrote_setRowU kR #[.slice none 0 0, .slice none 0 0, .slice none 0 0, .int .i64 0, .int .i64 0, .int .i64 0, .int .i64 0, .int .i64 0, .bool false, .bool false, .bool false, .bool false, .int .i64 0, .int .i64 0, .int .i64 0, .int .i64 0, .int .i64 0, .bool false, .slice none 0 0, .slice none 0 0, .int .i64 0, .int .i64 0, .int .i64 0, .int .i64 0, .int .i64 0, .bool false, .bool false, .bool false, .int .i64 0, .bool false, .int .i64 0, .slice none 0 0, .slice none 0 0, .slice none 0 0]
    refine bodyPost_ret (v := .agg #[.slice none 0 0, .slice none 0 0, .slice none 0 0, .int .i64 0, .int .i64 0, .int .i64 0, .int .i64 0, .int .i64 0, .bool false, .bool false, .bool false, .bool false, .int .i64 0, .int .i64 0, .int .i64 0, .int .i64 0, .int .i64 0, .bool false, .slice none 0 0, .slice none 0 0, .int .i64 0, .int .i64 0, .int .i64 0, .int .i64 0, .int .i64 0, .bool false, .bool false, .bool false, .int .i64 0, .bool false, .int .i64 0, .slice none 0 0, .slice none 0 0, .slice none 0 0]) (by exact results_cell_row Tryz.results18 _ _ (w.heap.size + 1) _ _ _ _ rfl kF Tryz.underlying76 rfl infoLock17) rfl ?_
    refine ⟨_, rfl, ?_, C0.trans (WW.below C0.size (fun b o hb (e : b = _) => by omega))⟩
    rw [show asL d = zeroL17 by simp [asL, OK.out, PU.out, SU.out]]
    exact ⟨fun _ _ => False, zeroL17_on, fun _ _ _ h => h.elim, fun _ _ h => h.elim⟩
  have SU := hide su
  clear su
  go_upto_region 3 with (fail)
  have AS := hide (show asD d = asL d by simp [asL, OK.out, PU.out, SU.out])
  rename_i Kc hKc
  have k0 := k0'
  rw [hcs.out] at k0
  have hR0 := boxLt kR
  obtain ⟨W0, hW0⟩ : ∃ W0, Hid (W0 = V3) := ⟨_, rfl⟩
  rw [← hW0.out] at C0 k0 k0' kR hR0 ⊢
  clear hW0
  obtain ⟨S, hS⟩ : ∃ S, Hid (S = W0.heap.size) := ⟨_, rfl⟩
  have hSw : w.heap.size + 1 < S := by rw [hS.out]; exact hR0
  refine wp_region_effL 28 [some 17, some 18, some 19, some 20, some 21, some 22, some 23, some 24, some 25, some 26, some 27, some 28, some 29, some 30, some 31, some 32, some 33, some 34, some 35, some 36, some 37, some 38, some 39, some 40, some 41, some 42, some 43, some 44, none] (by kernel_rfl) (by kernel_rfl) (by kernel_rfl) (by kernel_rfl) (by kernel_rfl) (by first | (simp [slotsOf]; done) | (simp [slotsOf, Act.put]; done))
    (fun _ => Nowhere)
    (fun i V lo hi W => match i with
      | 0 => V 0 = .pointer (some ⟨w.heap.size, 0, none⟩)
      | 1 => V 1 = .agg #[.slice a0 d.m c0]
      | 2 => ∃ n0 x0, V 2 = .agg #[.slice n0 d.m x0] ∧ SsOn W (fun b => lo ≤ b ∧ b < hi) (.slice n0 d.m x0) d.m d.ln d.f
      | 3 => ∃ g, V 3 = .slice (some ⟨g, 0, none⟩) 0 0 ∧ lo ≤ g ∧ g < hi ∧ W.heap[g]? = some (.cells #[] 3 (0, 0))
      | 4 => V 4 = .pointer (some ⟨w.heap.size, 1, none⟩)
      | 5 => V 5 = .slice a1 d.np c1
      | 6 => ∃ g x1, V 6 = .slice (some ⟨g, 0, none⟩) d.np x1 ∧ Row W S g d.np x1 d.p ∧ (V 3 = .slice (some ⟨g, 0, none⟩) 0 0 ∨ (lo ≤ g ∧ g < hi))
      | 7 => V 7 = .pointer (some ⟨w.heap.size, 2, none⟩)
      | 8 => V 8 = .agg #[.slice a2 d.nr c2, .int .i64 d.bank]
      | 9 => ∃ n2 x2, V 9 = .agg #[.slice n2 d.nr x2, .int .i64 d.bank] ∧ MemOn W (fun b => lo ≤ b ∧ b < hi) (.agg #[.slice n2 d.nr x2, .int .i64 d.bank]) d.nr d.g d.bank
      | 10 => V 10 = .pointer (some ⟨w.heap.size, 4, none⟩)
      | 11 => V 11 = .agg #[.int .i64 d.A, .int .i64 d.X, .int .i64 d.S, .int .i64 d.Pc, .bool d.Z, .bool d.N, .bool d.C, .bool d.I]
      | 12 => V 12 = .pointer (some ⟨w.heap.size, 21, none⟩)
      | 13 => V 13 = .pointer (some ⟨w.heap.size, 21, none⟩)
      | 14 => V 14 = .agg #[.int .i64 d.pc.t, .int .i64 d.pc.c, .int .i64 d.pc.s, .int .i64 d.pc.ad, .int .i64 d.pc.pl, .bool d.pc.bl, .slice b1 d.pc.nt y1, .slice b2 d.pc.nd y2]
      | 15 => ∃ n3 x3 n4 x4, V 15 = .agg #[.int .i64 d.pc.t, .int .i64 d.pc.c, .int .i64 d.pc.s, .int .i64 d.pc.ad, .int .i64 d.pc.pl, .bool d.pc.bl, .slice n3 d.pc.nt x3, .slice n4 d.pc.nd x4] ∧ PpuOn W (fun b => lo ≤ b ∧ b < hi) (.agg #[.int .i64 d.pc.t, .int .i64 d.pc.c, .int .i64 d.pc.s, .int .i64 d.pc.ad, .int .i64 d.pc.pl, .bool d.pc.bl, .slice n3 d.pc.nt x3, .slice n4 d.pc.nd x4]) d.pc.t d.pc.c d.pc.s d.pc.ad d.pc.pl d.pc.bl d.pc.nt d.pc.tb d.pc.nd d.pc.dt
      | 16 => V 16 = .pointer (some ⟨w.heap.size, 32, none⟩)
      | 17 => V 17 = .pointer (some ⟨w.heap.size, 32, none⟩)
      | 18 => V 18 = .agg #[.int .i64 d.sn.T, .int .i64 d.sn.P, .int .i64 d.sn.C, .int .i64 d.sn.B, .int .i64 d.sn.L, .bool d.sn.S, .bool d.sn.Q]
      | 19 => V 19 = .pointer (some ⟨w.heap.size, 12, none⟩)
      | 20 => V 20 = .agg #[.bool d.hd, .int .i64 d.sh]
      | 21 => V 21 = .pointer (some ⟨w.heap.size, 15, none⟩)
      | 22 => V 22 = .bool d.nmi
      | 23 => V 23 = .pointer (some ⟨w.heap.size, 19, none⟩)
      | 24 => V 24 = .int .i64 d.st
      | 25 => V 25 = .agg cs
      | 26 => ∃ n5 x5 n6 x6 n7 x7, V 26 = .agg #[.slice n5 d.pc.mf x5, .slice n6 d.sn.ns x6, .slice n7 d.nq x7] ∧ ∃ D, ObA W D (.agg #[.slice n5 d.pc.mf x5, .slice n6 d.sn.ns x6, .slice n7 d.nq x7]) (obS d) ∧ Dis D ∧ ∀ i b, D i b → lo ≤ b ∧ b < hi
      | 27 => ∃ n0 x0 g1 x1 n2 x2 n3 x3 n4 x4 n5 x5 n6 x6 n7 x7, V 2 = .agg #[.slice n0 d.m x0] ∧ V 6 = .slice (some ⟨g1, 0, none⟩) d.np x1 ∧ V 9 = .agg #[.slice n2 d.nr x2, .int .i64 d.bank] ∧ V 15 = .agg #[.int .i64 d.pc.t, .int .i64 d.pc.c, .int .i64 d.pc.s, .int .i64 d.pc.ad, .int .i64 d.pc.pl, .bool d.pc.bl, .slice n3 d.pc.nt x3, .slice n4 d.pc.nd x4] ∧ V 26 = .agg #[.slice n5 d.pc.mf x5, .slice n6 d.sn.ns x6, .slice n7 d.nq x7] ∧ V 27 = .agg #[.slice n0 d.m x0, .slice (some ⟨g1, 0, none⟩) d.np x1, .slice n2 d.nr x2, .int .i64 d.bank, .int .i64 d.A, .int .i64 d.X, .int .i64 d.S, .int .i64 d.Pc, .bool d.Z, .bool d.N, .bool d.C, .bool d.I, .int .i64 d.pc.t, .int .i64 d.pc.c, .int .i64 d.pc.s, .int .i64 d.pc.ad, .int .i64 d.pc.pl, .bool d.pc.bl, .slice n3 d.pc.nt x3, .slice n4 d.pc.nd x4, .int .i64 d.sn.T, .int .i64 d.sn.P, .int .i64 d.sn.C, .int .i64 d.sn.B, .int .i64 d.sn.L, .bool d.sn.S, .bool d.sn.Q, .bool d.hd, .int .i64 d.sh, .bool d.nmi, .int .i64 d.st, .slice n5 d.pc.mf x5, .slice n6 d.sn.ns x6, .slice n7 d.nq x7]
      | _ => True) ?_ ?_ ?_
  · intro i j o V x lo hi W W' hij _ _ ho hnw hlo hhi hW h
    have nw : ∀ k, waitsB o k = true → k ≠ j := fun k hk e => by rw [e, hnw] at hk; cases hk
    match i, ho, hij, nw, h with
    | 0, ho, hij, nw, h => exact (updV_ne V x hij).trans h
    | 1, ho, hij, nw, h => exact (updV_ne V x hij).trans h
    | 2, ho, hij, nw, h => (obtain ⟨a, x', h1, h2⟩ := h; exact ⟨a, x', (updV_ne V x hij).trans h1, h2.keep hW (fun _ _ _ _ x => x)⟩)
    | 3, ho, hij, nw, h => (obtain ⟨g, h1, h2, h3, h4⟩ := h; exact ⟨g, (updV_ne V x hij).trans h1, h2, h3, (hW.block g (by omega) (fun _ x => x)).trans h4⟩)
    | 4, ho, hij, nw, h => exact (updV_ne V x hij).trans h
    | 5, ho, hij, nw, h => exact (updV_ne V x hij).trans h
    | 6, ho, hij, nw, h => (simp only [List.getElem?_toArray, List.getElem?_cons_zero, List.getElem?_cons_succ, Option.some.injEq] at ho; subst ho; obtain ⟨g, x', h1, h2, h3⟩ := h; refine ⟨g, x', (updV_ne V x hij).trans h1, h2.keep hW (fun _ x => x), ?_⟩; rw [updV_ne V x (nw 3 (by kernel_rfl))]; exact h3)
    | 7, ho, hij, nw, h => exact (updV_ne V x hij).trans h
    | 8, ho, hij, nw, h => exact (updV_ne V x hij).trans h
    | 9, ho, hij, nw, h => (obtain ⟨a, x', h1, h2⟩ := h; exact ⟨a, x', (updV_ne V x hij).trans h1, h2.keep hW (fun _ _ _ _ x => x)⟩)
    | 10, ho, hij, nw, h => exact (updV_ne V x hij).trans h
    | 11, ho, hij, nw, h => exact (updV_ne V x hij).trans h
    | 12, ho, hij, nw, h => exact (updV_ne V x hij).trans h
    | 13, ho, hij, nw, h => exact (updV_ne V x hij).trans h
    | 14, ho, hij, nw, h => exact (updV_ne V x hij).trans h
    | 15, ho, hij, nw, h => (obtain ⟨a, x', b, y', h1, h2⟩ := h; exact ⟨a, x', b, y', (updV_ne V x hij).trans h1, h2.keep hW (fun _ _ _ _ x => x)⟩)
    | 16, ho, hij, nw, h => exact (updV_ne V x hij).trans h
    | 17, ho, hij, nw, h => exact (updV_ne V x hij).trans h
    | 18, ho, hij, nw, h => exact (updV_ne V x hij).trans h
    | 19, ho, hij, nw, h => exact (updV_ne V x hij).trans h
    | 20, ho, hij, nw, h => exact (updV_ne V x hij).trans h
    | 21, ho, hij, nw, h => exact (updV_ne V x hij).trans h
    | 22, ho, hij, nw, h => exact (updV_ne V x hij).trans h
    | 23, ho, hij, nw, h => exact (updV_ne V x hij).trans h
    | 24, ho, hij, nw, h => exact (updV_ne V x hij).trans h
    | 25, ho, hij, nw, h => exact (updV_ne V x hij).trans h
    | 26, ho, hij, nw, h => (obtain ⟨n5, x5, n6, x6, n7, x7, h1, D, h2, h3, h4⟩ := h; exact ⟨n5, x5, n6, x6, n7, x7, (updV_ne V x hij).trans h1, D, ObsOn.keep h2 hW (fun _ _ _ _ _ _ x => x), h3, h4⟩)
    | 27, ho, hij, nw, h => (simp only [List.getElem?_toArray, List.getElem?_cons_zero, List.getElem?_cons_succ, Option.some.injEq] at ho; subst ho; obtain ⟨n0, x0, g1, x1, n2, x2, n3, x3, n4, x4, n5, x5, n6, x6, n7, x7, h0, h1, h2, h3, h4, h5⟩ := h; exact ⟨n0, x0, g1, x1, n2, x2, n3, x3, n4, x4, n5, x5, n6, x6, n7, x7, (updV_ne V x (nw 2 (by kernel_rfl))).trans h0, (updV_ne V x (nw 6 (by kernel_rfl))).trans h1, (updV_ne V x (nw 9 (by kernel_rfl))).trans h2, (updV_ne V x (nw 15 (by kernel_rfl))).trans h3, (updV_ne V x (nw 26 (by kernel_rfl))).trans h4, (updV_ne V x hij).trans h5⟩)
    | _ + 28, _, _, _, _ => exact trivial
  · intro i o a' W K8 hin ho F L hw hK
    have LN : Wrote Nowhere W0 W := L.mono (fun b o _ ⟨j, _, _, _, _, h⟩ => h)
    match i with
    | 0 =>
      simp only [List.getElem?_toArray, List.getElem?_cons_zero, List.getElem?_cons_succ, Option.some.injEq] at ho
      subst ho
      have t1 := F.get (t := 1) (v := .pointer (some ⟨w.heap.size, 0, none⟩)) (by decide) rfl
      go_simp
      exact hK _ _ (Wrote.refl _ _) (updV_same _ _ _)
    | 1 =>
      simp only [List.getElem?_toArray, List.getElem?_cons_zero, List.getElem?_cons_succ, Option.some.injEq] at ho
      subst ho
      have q0 : a'.tmps[17]?.getD undef = .pointer (some ⟨w.heap.size, 0, none⟩) := by obtain ⟨_, _, _, _, q⟩ := hw 0 (by kernel_rfl); exact q
      have rb := boxC (box_wrote k0 LN (fun _ x => x))
      go_simp
      exact hK _ _ (Wrote.refl _ _) (updV_same _ _ _)
    | 2 =>
      simp only [List.getElem?_toArray, List.getElem?_cons_zero, List.getElem?_cons_succ, Option.some.injEq] at ho
      subst ho
      have q1 : a'.tmps[18]?.getD undef = .agg #[.slice a0 d.m c0] := by obtain ⟨_, _, _, _, q⟩ := hw 1 (by kernel_rfl); exact q
      go_simp
      refine (HIm.out W (C0.trans (LN.below C0.size (fun _ _ _ x => x)))).mono ?_
      rintro e W' ⟨v, rfl, hA, LB⟩
      obtain ⟨a, x, rfl⟩ := hA.form
      exact hK _ _ (wrote_below LB _) ⟨a, x, updV_same _ _ _, hA⟩
    | 3 =>
      simp only [List.getElem?_toArray, List.getElem?_cons_zero, List.getElem?_cons_succ, Option.some.injEq] at ho
      subst ho
      have hSN : S ≤ W.heap.size := by rw [hS.out]; exact LN.size
      have LA : Below W.heap.size W (W.alloc (.cells #[] 3)) := (Below.refl _ _).alloc (Nat.le_refl _) _
      go_simp
      exact hK _ _ (wrote_below LA _) ⟨W.heap.size, updV_same _ _ _, Nat.le_refl _, by simp, box_new W #[] 3⟩
    | 4 =>
      simp only [List.getElem?_toArray, List.getElem?_cons_zero, List.getElem?_cons_succ, Option.some.injEq] at ho
      subst ho
      have t1 := F.get (t := 1) (v := .pointer (some ⟨w.heap.size, 0, none⟩)) (by decide) rfl
      go_simp
      exact hK _ _ (Wrote.refl _ _) (updV_same _ _ _)
    | 5 =>
      simp only [List.getElem?_toArray, List.getElem?_cons_zero, List.getElem?_cons_succ, Option.some.injEq] at ho
      subst ho
      have q4 : a'.tmps[21]?.getD undef = .pointer (some ⟨w.heap.size, 1, none⟩) := by obtain ⟨_, _, _, _, q⟩ := hw 4 (by kernel_rfl); exact q
      have rb := boxC (box_wrote k0 LN (fun _ x => x))
      go_simp
      exact hK _ _ (Wrote.refl _ _) (updV_same _ _ _)
    | 6 =>
      simp only [List.getElem?_toArray, List.getElem?_cons_zero, List.getElem?_cons_succ, Option.some.injEq] at ho
      subst ho
      have hSN : S ≤ W.heap.size := by rw [hS.out]; exact LN.size
      have q5 : a'.tmps[22]?.getD undef = .slice a1 d.np c1 := by obtain ⟨_, _, _, _, q⟩ := hw 5 (by kernel_rfl); exact q
      obtain ⟨lo9, hi9, hlo9, hhi9, g0, qg, hg1, hg2, hg3⟩ := hw 3 (by kernel_rfl)
      have qg' : a'.tmps[20]?.getD undef = .slice (some ⟨g0, 0, none⟩) 0 0 := qg
      refine wp_copy W _ _ rfl g0 (by simpa [Act.eval] using qg') hg3 S (by rw [hS.out]; omega) _ (.slice a1 d.np c1) d.np d.p (by simpa [Act.eval] using q5) (HPd.out W (C0.trans (LN.below C0.size (fun _ _ _ x => x)))) ?_
      rintro g c W' hR LB hg
      refine hK _ _ (wrote_below LB _) ⟨g, c, updV_same _ _ _, hR, ?_⟩
      rw [updV_ne _ _ (by decide)]
      rcases hg with rfl | hg
      · exact Or.inl qg
      · exact Or.inr ⟨hg, hR.parts.2.1⟩
    | 7 =>
      simp only [List.getElem?_toArray, List.getElem?_cons_zero, List.getElem?_cons_succ, Option.some.injEq] at ho
      subst ho
      have t1 := F.get (t := 1) (v := .pointer (some ⟨w.heap.size, 0, none⟩)) (by decide) rfl
      go_simp
      exact hK _ _ (Wrote.refl _ _) (updV_same _ _ _)
    | 8 =>
      simp only [List.getElem?_toArray, List.getElem?_cons_zero, List.getElem?_cons_succ, Option.some.injEq] at ho
      subst ho
      have q7 : a'.tmps[24]?.getD undef = .pointer (some ⟨w.heap.size, 2, none⟩) := by obtain ⟨_, _, _, _, q⟩ := hw 7 (by kernel_rfl); exact q
      have rb := boxC (box_wrote k0 LN (fun _ x => x))
      go_simp
      exact hK _ _ (Wrote.refl _ _) (updV_same _ _ _)
    | 9 =>
      simp only [List.getElem?_toArray, List.getElem?_cons_zero, List.getElem?_cons_succ, Option.some.injEq] at ho
      subst ho
      have q8 : a'.tmps[25]?.getD undef = .agg #[.slice a2 d.nr c2, .int .i64 d.bank] := by obtain ⟨_, _, _, _, q⟩ := hw 8 (by kernel_rfl); exact q
      go_simp
      refine (HMe.out W (C0.trans (LN.below C0.size (fun _ _ _ x => x)))).mono ?_
      rintro e W' ⟨v, rfl, hA, LB⟩
      have hA' := (MemOn.own (bank := d.bank) hA).mono (E := fun b => W.heap.size ≤ b ∧ b < W'.heap.size) (fun b hb h => ⟨h, hb⟩)
      obtain ⟨a, x, e, -⟩ := id hA'
      simp only [Value.agg.injEq, Array.mk.injEq, List.cons.injEq, and_true] at e
      subst e
      exact hK _ _ (wrote_below LB _) ⟨a, x, updV_same _ _ _, hA'⟩
    | 10 =>
      simp only [List.getElem?_toArray, List.getElem?_cons_zero, List.getElem?_cons_succ, Option.some.injEq] at ho
      subst ho
      have t1 := F.get (t := 1) (v := .pointer (some ⟨w.heap.size, 0, none⟩)) (by decide) rfl
      go_simp
      exact hK _ _ (Wrote.refl _ _) (updV_same _ _ _)
    | 11 =>
      simp only [List.getElem?_toArray, List.getElem?_cons_zero, List.getElem?_cons_succ, Option.some.injEq] at ho
      subst ho
      have q10 : a'.tmps[27]?.getD undef = .pointer (some ⟨w.heap.size, 4, none⟩) := by obtain ⟨_, _, _, _, q⟩ := hw 10 (by kernel_rfl); exact q
      have rb := boxC (box_wrote k0 LN (fun _ x => x))
      go_simp
      exact hK _ _ (Wrote.refl _ _) (updV_same _ _ _)
    | 12 =>
      simp only [List.getElem?_toArray, List.getElem?_cons_zero, List.getElem?_cons_succ, Option.some.injEq] at ho
      subst ho
      have t1 := F.get (t := 1) (v := .pointer (some ⟨w.heap.size, 0, none⟩)) (by decide) rfl
      go_simp
      exact hK _ _ (Wrote.refl _ _) (updV_same _ _ _)
    | 13 =>
      simp only [List.getElem?_toArray, List.getElem?_cons_zero, List.getElem?_cons_succ, Option.some.injEq] at ho
      subst ho
      have q12 : a'.tmps[29]?.getD undef = .pointer (some ⟨w.heap.size, 21, none⟩) := by obtain ⟨_, _, _, _, q⟩ := hw 12 (by kernel_rfl); exact q
      go_simp
      exact hK _ _ (Wrote.refl _ _) (updV_same _ _ _)
    | 14 =>
      simp only [List.getElem?_toArray, List.getElem?_cons_zero, List.getElem?_cons_succ, Option.some.injEq] at ho
      subst ho
      have q13 : a'.tmps[30]?.getD undef = .pointer (some ⟨w.heap.size, 21, none⟩) := by obtain ⟨_, _, _, _, q⟩ := hw 13 (by kernel_rfl); exact q
      have rb := boxC (box_wrote k0 LN (fun _ x => x))
      go_simp
      exact hK _ _ (Wrote.refl _ _) (updV_same _ _ _)
    | 15 =>
      simp only [List.getElem?_toArray, List.getElem?_cons_zero, List.getElem?_cons_succ, Option.some.injEq] at ho
      subst ho
      have q14 : a'.tmps[31]?.getD undef = .agg #[.int .i64 d.pc.t, .int .i64 d.pc.c, .int .i64 d.pc.s, .int .i64 d.pc.ad, .int .i64 d.pc.pl, .bool d.pc.bl, .slice b1 d.pc.nt y1, .slice b2 d.pc.nd y2] := by obtain ⟨_, _, _, _, q⟩ := hw 14 (by kernel_rfl); exact q
      go_simp
      refine (HPp.out W (C0.trans (LN.below C0.size (fun _ _ _ x => x)))).mono ?_
      rintro e W' ⟨p1, y1', p2, y2', rfl, hA, hB, hne, LB⟩
      exact hK _ _ (wrote_below LB _) ⟨_, _, _, _, updV_same _ _ _, ppuRows17 hA hB hne⟩
    | 16 =>
      simp only [List.getElem?_toArray, List.getElem?_cons_zero, List.getElem?_cons_succ, Option.some.injEq] at ho
      subst ho
      have t1 := F.get (t := 1) (v := .pointer (some ⟨w.heap.size, 0, none⟩)) (by decide) rfl
      go_simp
      exact hK _ _ (Wrote.refl _ _) (updV_same _ _ _)
    | 17 =>
      simp only [List.getElem?_toArray, List.getElem?_cons_zero, List.getElem?_cons_succ, Option.some.injEq] at ho
      subst ho
      have q16 : a'.tmps[33]?.getD undef = .pointer (some ⟨w.heap.size, 32, none⟩) := by obtain ⟨_, _, _, _, q⟩ := hw 16 (by kernel_rfl); exact q
      go_simp
      exact hK _ _ (Wrote.refl _ _) (updV_same _ _ _)
    | 18 =>
      simp only [List.getElem?_toArray, List.getElem?_cons_zero, List.getElem?_cons_succ, Option.some.injEq] at ho
      subst ho
      have q17 : a'.tmps[34]?.getD undef = .pointer (some ⟨w.heap.size, 32, none⟩) := by obtain ⟨_, _, _, _, q⟩ := hw 17 (by kernel_rfl); exact q
      have rb := boxC (box_wrote k0 LN (fun _ x => x))
      go_simp
      exact hK _ _ (Wrote.refl _ _) (updV_same _ _ _)
    | 19 =>
      simp only [List.getElem?_toArray, List.getElem?_cons_zero, List.getElem?_cons_succ, Option.some.injEq] at ho
      subst ho
      have t1 := F.get (t := 1) (v := .pointer (some ⟨w.heap.size, 0, none⟩)) (by decide) rfl
      go_simp
      exact hK _ _ (Wrote.refl _ _) (updV_same _ _ _)
    | 20 =>
      simp only [List.getElem?_toArray, List.getElem?_cons_zero, List.getElem?_cons_succ, Option.some.injEq] at ho
      subst ho
      have q19 : a'.tmps[36]?.getD undef = .pointer (some ⟨w.heap.size, 12, none⟩) := by obtain ⟨_, _, _, _, q⟩ := hw 19 (by kernel_rfl); exact q
      have rb := boxC (box_wrote k0 LN (fun _ x => x))
      go_simp
      exact hK _ _ (Wrote.refl _ _) (updV_same _ _ _)
    | 21 =>
      simp only [List.getElem?_toArray, List.getElem?_cons_zero, List.getElem?_cons_succ, Option.some.injEq] at ho
      subst ho
      have t1 := F.get (t := 1) (v := .pointer (some ⟨w.heap.size, 0, none⟩)) (by decide) rfl
      go_simp
      exact hK _ _ (Wrote.refl _ _) (updV_same _ _ _)
    | 22 =>
      simp only [List.getElem?_toArray, List.getElem?_cons_zero, List.getElem?_cons_succ, Option.some.injEq] at ho
      subst ho
      have q21 : a'.tmps[38]?.getD undef = .pointer (some ⟨w.heap.size, 15, none⟩) := by obtain ⟨_, _, _, _, q⟩ := hw 21 (by kernel_rfl); exact q
      have rb := boxC (box_wrote k0 LN (fun _ x => x))
      go_simp
      exact hK _ _ (Wrote.refl _ _) (updV_same _ _ _)
    | 23 =>
      simp only [List.getElem?_toArray, List.getElem?_cons_zero, List.getElem?_cons_succ, Option.some.injEq] at ho
      subst ho
      have t1 := F.get (t := 1) (v := .pointer (some ⟨w.heap.size, 0, none⟩)) (by decide) rfl
      go_simp
      exact hK _ _ (Wrote.refl _ _) (updV_same _ _ _)
    | 24 =>
      simp only [List.getElem?_toArray, List.getElem?_cons_zero, List.getElem?_cons_succ, Option.some.injEq] at ho
      subst ho
      have q23 : a'.tmps[40]?.getD undef = .pointer (some ⟨w.heap.size, 19, none⟩) := by obtain ⟨_, _, _, _, q⟩ := hw 23 (by kernel_rfl); exact q
      have rb := boxC (box_wrote k0 LN (fun _ x => x))
      go_simp
      exact hK _ _ (Wrote.refl _ _) (updV_same _ _ _)
    | 25 =>
      simp only [List.getElem?_toArray, List.getElem?_cons_zero, List.getElem?_cons_succ, Option.some.injEq] at ho
      subst ho
      have t1 := F.get (t := 1) (v := .pointer (some ⟨w.heap.size, 0, none⟩)) (by decide) rfl
      refine wp_load_row _ _ rfl w.heap.size (by simpa [Act.eval] using t1) _ _ _ _ (box_wrote k0' LN (fun _ x => x)) Tryz.underlying46 rfl hsz.out ?_
      exact hK _ _ (Wrote.refl _ _) (updV_same _ _ _)
    | 26 =>
      simp only [List.getElem?_toArray, List.getElem?_cons_zero, List.getElem?_cons_succ, Option.some.injEq] at ho
      subst ho
      have q25 : a'.tmps[42]?.getD undef = .agg cs := by obtain ⟨_, _, _, _, q⟩ := hw 25 (by kernel_rfl); exact q
      go_simp
      refine (HOb.out W (C0.trans (LN.below C0.size (fun _ _ _ x => x)))).mono ?_
      rintro e W' ⟨v, rfl, hA, LB⟩
      obtain ⟨n5, x5, n6, x6, n7, x7, rfl, D, hD⟩ := hA.parts17
      exact hK _ _ (wrote_below LB _) ⟨n5, x5, n6, x6, n7, x7, updV_same _ _ _, D, hD⟩
    | 27 =>
      simp only [List.getElem?_toArray, List.getElem?_cons_zero, List.getElem?_cons_succ, Option.some.injEq] at ho
      subst ho
      obtain ⟨_, _, _, _, n0, x0, q2, -⟩ := hw 2 (by kernel_rfl)
      have r2 : a'.tmps[19]?.getD undef = .agg #[.slice n0 d.m x0] := q2
      obtain ⟨_, _, _, _, g1, x1, q6, -⟩ := hw 6 (by kernel_rfl)
      have r6 : a'.tmps[23]?.getD undef = .slice (some ⟨g1, 0, none⟩) d.np x1 := q6
      obtain ⟨_, _, _, _, n2, x2, q9, -⟩ := hw 9 (by kernel_rfl)
      have r9 : a'.tmps[26]?.getD undef = .agg #[.slice n2 d.nr x2, .int .i64 d.bank] := q9
      obtain ⟨_, _, _, _, n3, x3, n4, x4, q15, -⟩ := hw 15 (by kernel_rfl)
      have r15 : a'.tmps[32]?.getD undef = .agg #[.int .i64 d.pc.t, .int .i64 d.pc.c, .int .i64 d.pc.s, .int .i64 d.pc.ad, .int .i64 d.pc.pl, .bool d.pc.bl, .slice n3 d.pc.nt x3, .slice n4 d.pc.nd x4] := q15
      obtain ⟨_, _, _, _, n5, x5, n6, x6, n7, x7, q26, -⟩ := hw 26 (by kernel_rfl)
      have r26 : a'.tmps[43]?.getD undef = .agg #[.slice n5 d.pc.mf x5, .slice n6 d.sn.ns x6, .slice n7 d.nq x7] := q26
      have q11 : a'.tmps[28]?.getD undef = .agg #[.int .i64 d.A, .int .i64 d.X, .int .i64 d.S, .int .i64 d.Pc, .bool d.Z, .bool d.N, .bool d.C, .bool d.I] := by obtain ⟨_, _, _, _, q⟩ := hw 11 (by kernel_rfl); exact q
      have q18 : a'.tmps[35]?.getD undef = .agg #[.int .i64 d.sn.T, .int .i64 d.sn.P, .int .i64 d.sn.C, .int .i64 d.sn.B, .int .i64 d.sn.L, .bool d.sn.S, .bool d.sn.Q] := by obtain ⟨_, _, _, _, q⟩ := hw 18 (by kernel_rfl); exact q
      have q20 : a'.tmps[37]?.getD undef = .agg #[.bool d.hd, .int .i64 d.sh] := by obtain ⟨_, _, _, _, q⟩ := hw 20 (by kernel_rfl); exact q
      have q22 : a'.tmps[39]?.getD undef = .bool d.nmi := by obtain ⟨_, _, _, _, q⟩ := hw 22 (by kernel_rfl); exact q
      have q24 : a'.tmps[41]?.getD undef = .int .i64 d.st := by obtain ⟨_, _, _, _, q⟩ := hw 24 (by kernel_rfl); exact q
      go_simp
      exact hK _ _ (Wrote.refl _ _) ⟨n0, x0, g1, x1, n2, x2, n3, x3, n4, x4, n5, x5, n6, x6, n7, x7, (updV_ne _ _ (by decide)).trans q2, (updV_ne _ _ (by decide)).trans q6, (updV_ne _ _ (by decide)).trans q9, (updV_ne _ _ (by decide)).trans q15, (updV_ne _ _ (by decide)).trans q26, updV_same _ _ _⟩
    | _ + 28 => omega
  · intro o a' W K8 ho F L lo hi hφ hdj hK
    have LN : Wrote Nowhere W0 W := L.mono (fun b o _ ⟨j, h⟩ => h)
    simp only [List.getElem?_toArray, List.getElem?_cons_zero, List.getElem?_cons_succ, Option.some.injEq] at ho
    subst ho
    obtain ⟨lI, mI, zI, n0, x0, qI, hA⟩ := hφ 2 (by decide)
    obtain ⟨lB, mB, zB, gb, qB, nB, nB', -⟩ := hφ 3 (by decide)
    obtain ⟨lP, mP, zP, g1, x1, qP, hB', hB2⟩ := hφ 6 (by decide)
    obtain ⟨lM, mM, zM, n2, x2, qM, hC⟩ := hφ 9 (by decide)
    obtain ⟨lQ, mQ, zQ, n3, x3, n4, x4, qQ, hD⟩ := hφ 15 (by decide)
    obtain ⟨lO, mO, zO, n5, x5, n6, x6, n7, x7, qO, DO, hE, dO, bO⟩ := hφ 26 (by decide)
    obtain ⟨-, -, -, b0, e0, b1', e1', b2', e2', b3', e3', b4', e4', b5, e5, b6, e6, b7, e7, f0, f1, f2, f3, f4, sB⟩ := hφ 27 (by decide)
    rw [qI] at f0
    rw [qP] at f1
    rw [qM] at f2
    rw [qQ] at f3
    rw [qO] at f4
    simp only [Value.slice.injEq, true_and, Value.agg.injEq, Array.mk.injEq, List.cons.injEq, and_true, Option.some.injEq, Addr.mk.injEq] at f0 f1 f2 f3 f4
    obtain ⟨rfl, rfl⟩ := f0
    obtain ⟨rfl, rfl⟩ := f1
    obtain ⟨rfl, rfl⟩ := f2
    obtain ⟨⟨rfl, rfl⟩, rfl, rfl⟩ := f3
    obtain ⟨⟨rfl, rfl⟩, ⟨rfl, rfl⟩, rfl, rfl⟩ := f4
    have dj2_9 := hdj 2 9 (by decide) (by decide) (by decide)
    have dj2_15 := hdj 2 15 (by decide) (by decide) (by decide)
    have dj2_26 := hdj 2 26 (by decide) (by decide) (by decide)
    have dj9_15 := hdj 9 15 (by decide) (by decide) (by decide)
    have dj9_26 := hdj 9 26 (by decide) (by decide) (by decide)
    have dj15_26 := hdj 15 26 (by decide) (by decide) (by decide)
    have rP : (lo 3 ≤ g1 ∧ g1 < hi 3) ∨ (lo 6 ≤ g1 ∧ g1 < hi 6) := by
      rcases hB2 with e | e
      · rw [qB] at e
        simp only [Value.slice.injEq, Option.some.injEq, Addr.mk.injEq, and_true] at e
        exact Or.inl (by omega)
      · exact Or.inr e
    have np2 : ¬ (lo 2 ≤ g1 ∧ g1 < hi 2) := fun e => by
      have e1 := hdj 2 3 (by decide) (by decide) (by decide)
      have e2 := hdj 2 6 (by decide) (by decide) (by decide)
      omega
    have np9 : ¬ (lo 9 ≤ g1 ∧ g1 < hi 9) := fun e => by
      have e1 := hdj 9 3 (by decide) (by decide) (by decide)
      have e2 := hdj 9 6 (by decide) (by decide) (by decide)
      omega
    have np15 : ¬ (lo 15 ≤ g1 ∧ g1 < hi 15) := fun e => by
      have e1 := hdj 15 3 (by decide) (by decide) (by decide)
      have e2 := hdj 15 6 (by decide) (by decide) (by decide)
      omega
    have np26 : ¬ (lo 26 ≤ g1 ∧ g1 < hi 26) := fun e => by
      have e1 := hdj 26 3 (by decide) (by decide) (by decide)
      have e2 := hdj 26 6 (by decide) (by decide) (by decide)
      omega
    have bP : W0.heap.size ≤ g1 ∧ g1 < W.heap.size := by omega
    clear rP hB2 nB nB' qB lB mB zB lP mP zP
    have hB : ListOn W (fun b => b = g1) (.slice (some ⟨g1, 0, none⟩) d.np x1) d.np d.p := ⟨_, _, rfl, hB'.sl⟩
    clear hB'
    replace sB : a'.tmps[44]?.getD undef = .agg #[.slice n0 d.m x0, .slice (some ⟨g1, 0, none⟩) d.np x1, .slice n2 d.nr x2, .int .i64 d.bank, .int .i64 d.A, .int .i64 d.X, .int .i64 d.S, .int .i64 d.Pc, .bool d.Z, .bool d.N, .bool d.C, .bool d.I, .int .i64 d.pc.t, .int .i64 d.pc.c, .int .i64 d.pc.s, .int .i64 d.pc.ad, .int .i64 d.pc.pl, .bool d.pc.bl, .slice n3 d.pc.nt x3, .slice n4 d.pc.nd x4, .int .i64 d.sn.T, .int .i64 d.sn.P, .int .i64 d.sn.C, .int .i64 d.sn.B, .int .i64 d.sn.L, .bool d.sn.S, .bool d.sn.Q, .bool d.hd, .int .i64 d.sh, .bool d.nmi, .int .i64 d.st, .slice n5 d.pc.mf x5, .slice n6 d.sn.ns x6, .slice n7 d.nq x7] := sB
    refine wp_store_row _ _ _ rfl (w.heap.size + 1) #[.slice n0 d.m x0, .slice (some ⟨g1, 0, none⟩) d.np x1, .slice n2 d.nr x2, .int .i64 d.bank, .int .i64 d.A, .int .i64 d.X, .int .i64 d.S, .int .i64 d.Pc, .bool d.Z, .bool d.N, .bool d.C, .bool d.I, .int .i64 d.pc.t, .int .i64 d.pc.c, .int .i64 d.pc.s, .int .i64 d.pc.ad, .int .i64 d.pc.pl, .bool d.pc.bl, .slice n3 d.pc.nt x3, .slice n4 d.pc.nd x4, .int .i64 d.sn.T, .int .i64 d.sn.P, .int .i64 d.sn.C, .int .i64 d.sn.B, .int .i64 d.sn.L, .bool d.sn.S, .bool d.sn.Q, .bool d.hd, .int .i64 d.sh, .bool d.nmi, .int .i64 d.st, .slice n5 d.pc.mf x5, .slice n6 d.sn.ns x6, .slice n7 d.nq x7] (by simpa [Act.eval] using F.get (t := 2) (v := .pointer (some ⟨w.heap.size + 1, 0, none⟩)) (by decide) rfl) (by simpa [Act.eval] using sB) _ _ (box_wrote kR LN (fun _ x => x)) infoLock17 rfl (by first | kernel_rfl | simp [Value.oneCell']) ?_
    refine hK _ _ ?_
    have kE := box_wrote kR LN (fun _ x => x)
    have WW := wrote_setRowU kE #[.slice n0 d.m x0, .slice (some ⟨g1, 0, none⟩) d.np x1, .slice n2 d.nr x2, .int .i64 d.bank, .int .i64 d.A, .int .i64 d.X, .int .i64 d.S, .int .i64 d.Pc, .bool d.Z, .bool d.N, .bool d.C, .bool d.I, .int .i64 d.pc.t, .int .i64 d.pc.c, .int .i64 d.pc.s, .int .i64 d.pc.ad, .int .i64 d.pc.pl, .bool d.pc.bl, .slice n3 d.pc.nt x3, .slice n4 d.pc.nd x4, .int .i64 d.sn.T, .int .i64 d.sn.P, .int .i64 d.sn.C, .int .i64 d.sn.B, .int .i64 d.sn.L, .bool d.sn.S, .bool d.sn.Q, .bool d.hd, .int .i64 d.sh, .bool d.nmi, .int .i64 d.st, .slice n5 d.pc.mf x5, .slice n6 d.sn.ns x6, .slice n7 d.nq x7]
    have kF := setRow_heap _ _ _ #[.slice n0 d.m x0, .slice (some ⟨g1, 0, none⟩) d.np x1, .slice n2 d.nr x2, .int .i64 d.bank, .int .i64 d.A, .int .i64 d.X, .int .i64 d.S, .int .i64 d.Pc, .bool d.Z, .bool d.N, .bool d.C, .bool d.I, .int .i64 d.pc.t, .int .i64 d.pc.c, .int .i64 d.pc.s, .int .i64 d.pc.ad, .int .i64 d.pc.pl, .bool d.pc.bl, .slice n3 d.pc.nt x3, .slice n4 d.pc.nd x4, .int .i64 d.sn.T, .int .i64 d.sn.P, .int .i64 d.sn.C, .int .i64 d.sn.B, .int .i64 d.sn.L, .bool d.sn.S, .bool d.sn.Q, .bool d.hd, .int .i64 d.sh, .bool d.nmi, .int .i64 d.st, .slice n5 d.pc.mf x5, .slice n6 d.sn.ns x6, .slice n7 d.nq x7] _ _ kE
    have CF : Below w.heap.size w (W.setRow (w.heap.size + 1) #[.slice n0 d.m x0, .slice (some ⟨g1, 0, none⟩) d.np x1, .slice n2 d.nr x2, .int .i64 d.bank, .int .i64 d.A, .int .i64 d.X, .int .i64 d.S, .int .i64 d.Pc, .bool d.Z, .bool d.N, .bool d.C, .bool d.I, .int .i64 d.pc.t, .int .i64 d.pc.c, .int .i64 d.pc.s, .int .i64 d.pc.ad, .int .i64 d.pc.pl, .bool d.pc.bl, .slice n3 d.pc.nt x3, .slice n4 d.pc.nd x4, .int .i64 d.sn.T, .int .i64 d.sn.P, .int .i64 d.sn.C, .int .i64 d.sn.B, .int .i64 d.sn.L, .bool d.sn.S, .bool d.sn.Q, .bool d.hd, .int .i64 d.sh, .bool d.nmi, .int .i64 d.st, .slice n5 d.pc.mf x5, .slice n6 d.sn.ns x6, .slice n7 d.nq x7]) := (C0.trans (LN.below C0.size (fun _ _ _ x => x))).trans (WW.below (Nat.le_trans C0.size LN.size) (fun b o hb (e : b = _) => by omega))
    have hWs : (W.setRow (w.heap.size + 1) #[.slice n0 d.m x0, .slice (some ⟨g1, 0, none⟩) d.np x1, .slice n2 d.nr x2, .int .i64 d.bank, .int .i64 d.A, .int .i64 d.X, .int .i64 d.S, .int .i64 d.Pc, .bool d.Z, .bool d.N, .bool d.C, .bool d.I, .int .i64 d.pc.t, .int .i64 d.pc.c, .int .i64 d.pc.s, .int .i64 d.pc.ad, .int .i64 d.pc.pl, .bool d.pc.bl, .slice n3 d.pc.nt x3, .slice n4 d.pc.nd x4, .int .i64 d.sn.T, .int .i64 d.sn.P, .int .i64 d.sn.C, .int .i64 d.sn.B, .int .i64 d.sn.L, .bool d.sn.S, .bool d.sn.Q, .bool d.hd, .int .i64 d.sh, .bool d.nmi, .int .i64 d.st, .slice n5 d.pc.mf x5, .slice n6 d.sn.ns x6, .slice n7 d.nq x7]).heap.size = W.heap.size := by simp [World.setRow]
    have hC0 := C0.size
    have HF : Hid (LkCp w (W.setRow (w.heap.size + 1) #[.slice n0 d.m x0, .slice (some ⟨g1, 0, none⟩) d.np x1, .slice n2 d.nr x2, .int .i64 d.bank, .int .i64 d.A, .int .i64 d.X, .int .i64 d.S, .int .i64 d.Pc, .bool d.Z, .bool d.N, .bool d.C, .bool d.I, .int .i64 d.pc.t, .int .i64 d.pc.c, .int .i64 d.pc.s, .int .i64 d.pc.ad, .int .i64 d.pc.pl, .bool d.pc.bl, .slice n3 d.pc.nt x3, .slice n4 d.pc.nd x4, .int .i64 d.sn.T, .int .i64 d.sn.P, .int .i64 d.sn.C, .int .i64 d.sn.B, .int .i64 d.sn.L, .bool d.sn.S, .bool d.sn.Q, .bool d.hd, .int .i64 d.sh, .bool d.nmi, .int .i64 d.st, .slice n5 d.pc.mf x5, .slice n6 d.sn.ns x6, .slice n7 d.nq x7]) (.agg #[.slice n0 d.m x0, .slice (some ⟨g1, 0, none⟩) d.np x1, .slice n2 d.nr x2, .int .i64 d.bank, .int .i64 d.A, .int .i64 d.X, .int .i64 d.S, .int .i64 d.Pc, .bool d.Z, .bool d.N, .bool d.C, .bool d.I, .int .i64 d.pc.t, .int .i64 d.pc.c, .int .i64 d.pc.s, .int .i64 d.pc.ad, .int .i64 d.pc.pl, .bool d.pc.bl, .slice n3 d.pc.nt x3, .slice n4 d.pc.nd x4, .int .i64 d.sn.T, .int .i64 d.sn.P, .int .i64 d.sn.C, .int .i64 d.sn.B, .int .i64 d.sn.L, .bool d.sn.S, .bool d.sn.Q, .bool d.hd, .int .i64 d.sh, .bool d.nmi, .int .i64 d.st, .slice n5 d.pc.mf x5, .slice n6 d.sn.ns x6, .slice n7 d.nq x7]) (asD d)) := ⟨fun i b => (i = 0 ∧ (lo 2 ≤ b ∧ b < hi 2)) ∨ (i = 1 ∧ (b = g1)) ∨ (i = 2 ∧ (lo 9 ≤ b ∧ b < hi 9)) ∨ (i = 3 ∧ (lo 15 ≤ b ∧ b < hi 15)) ∨ (4 ≤ i ∧ DO i b), ⟨_, _, _, _, _, _, _, _, rfl, (hA.keep WW (fun b o hb hlt (e : b = _) => by omega)).mono (fun b _ h => Or.inl ⟨rfl, h⟩), (hB.keep WW (fun b o hb hlt (e : b = _) => by omega)).mono (fun b _ h => Or.inr (Or.inl ⟨rfl, h⟩)), (hC.keep WW (fun b o hb hlt (e : b = _) => by omega)).mono (fun b _ h => Or.inr (Or.inr (Or.inl ⟨rfl, h⟩))), (hD.keep WW (fun b o hb hlt (e : b = _) => by omega)).mono (fun b _ h => Or.inr (Or.inr (Or.inr (Or.inl ⟨rfl, h⟩)))), obMono17 (ObsOn.keep hE WW (fun i b o _ hb _ (e : b = _) => by have := bO i b hb; omega)) (fun i b hi h => Or.inr (Or.inr (Or.inr (Or.inr ⟨hi, h⟩))))⟩, fun i j b h1 h2 => by
        have eO : ∀ k, DO k b → lo 26 ≤ b ∧ b < hi 26 := fun k h => bO k b h
        rcases h1 with ⟨rfl, h1⟩ | ⟨rfl, h1⟩ | ⟨rfl, h1⟩ | ⟨rfl, h1⟩ | ⟨h1', h1⟩ <;> rcases h2 with ⟨rfl, h2⟩ | ⟨rfl, h2⟩ | ⟨rfl, h2⟩ | ⟨rfl, h2⟩ | ⟨h2', h2⟩ <;> first | rfl | exact dO _ _ _ h1 h2 | (have := eO _ h1; subst_vars; omega) | (have := eO _ h2; subst_vars; omega) | (subst_vars; omega), fun i b h => by
        rw [hWs]
        rcases h with ⟨-, h⟩ | ⟨-, h⟩ | ⟨-, h⟩ | ⟨-, h⟩ | ⟨-, h⟩ <;> first | (have := bO _ _ h; omega) | (subst_vars; omega)⟩
    rw [F.same, show slotsOf [some 17, some 18, some 19, some 20, some 21, some 22, some 23, some 24, some 25, some 26, some 27, some 28, some 29, some 30, some 31, some 32, some 33, some 34, some 35, some 36, some 37, some 38, some 39, some 40, some 41, some 42, some 43, some 44, none] = [17, 18, 19, 20, 21, 22, 23, 24, 25, 26, 27, 28, 29, 30, 31, 32, 33, 34, 35, 36, 37, 38, 39, 40, 41, 42, 43, 44] from rfl]
    simp only [List.foldl_cons, List.foldl_nil]
    generalize a'.tmps[17]?.getD undef = gv17
    generalize a'.tmps[18]?.getD undef = gv18
    generalize a'.tmps[19]?.getD undef = gv19
    generalize a'.tmps[20]?.getD undef = gv20
    generalize a'.tmps[21]?.getD undef = gv21
    generalize a'.tmps[22]?.getD undef = gv22
    generalize a'.tmps[23]?.getD undef = gv23
    generalize a'.tmps[24]?.getD undef = gv24
    generalize a'.tmps[25]?.getD undef = gv25
    generalize a'.tmps[26]?.getD undef = gv26
    generalize a'.tmps[27]?.getD undef = gv27
    generalize a'.tmps[28]?.getD undef = gv28
    generalize a'.tmps[29]?.getD undef = gv29
    generalize a'.tmps[30]?.getD undef = gv30
    generalize a'.tmps[31]?.getD undef = gv31
    generalize a'.tmps[32]?.getD undef = gv32
    generalize a'.tmps[33]?.getD undef = gv33
    generalize a'.tmps[34]?.getD undef = gv34
    generalize a'.tmps[35]?.getD undef = gv35
    generalize a'.tmps[36]?.getD undef = gv36
    generalize a'.tmps[37]?.getD undef = gv37
    generalize a'.tmps[38]?.getD undef = gv38
    generalize a'.tmps[39]?.getD undef = gv39
    generalize a'.tmps[40]?.getD undef = gv40
    generalize a'.tmps[41]?.getD undef = gv41
    generalize a'.tmps[42]?.getD undef = gv42
    generalize a'.tmps[43]?.getD undef = gv43
    generalize a'.tmps[44]?.getD undef = gv44
    clear hφ hdj F L LN WW kE hK kR sB hA hB hC hD hE dO bO
    generalize W.setRow (w.heap.size + 1) #[.slice n0 d.m x0, .slice (some ⟨g1, 0, none⟩) d.np x1, .slice n2 d.nr x2, .int .i64 d.bank, .int .i64 d.A, .int .i64 d.X, .int .i64 d.S, .int .i64 d.Pc, .bool d.Z, .bool d.N, .bool d.C, .bool d.I, .int .i64 d.pc.t, .int .i64 d.pc.c, .int .i64 d.pc.s, .int .i64 d.pc.ad, .int .i64 d.pc.pl, .bool d.pc.bl, .slice n3 d.pc.nt x3, .slice n4 d.pc.nd x4, .int .i64 d.sn.T, .int .i64 d.sn.P, .int .i64 d.sn.C, .int .i64 d.sn.B, .int .i64 d.sn.L, .bool d.sn.S, .bool d.sn.Q, .bool d.hd, .int .i64 d.sh, .bool d.nmi, .int .i64 d.st, .slice n5 d.pc.mf x5, .slice n6 d.sn.ns x6, .slice n7 d.nq x7] = W4 at *
    refine hKc _ _ ?_
    clear hKc
    go_simp
    go_wp2
    refine bodyPost_ret (v := .agg #[.slice n0 d.m x0, .slice (some ⟨g1, 0, none⟩) d.np x1, .slice n2 d.nr x2, .int .i64 d.bank, .int .i64 d.A, .int .i64 d.X, .int .i64 d.S, .int .i64 d.Pc, .bool d.Z, .bool d.N, .bool d.C, .bool d.I, .int .i64 d.pc.t, .int .i64 d.pc.c, .int .i64 d.pc.s, .int .i64 d.pc.ad, .int .i64 d.pc.pl, .bool d.pc.bl, .slice n3 d.pc.nt x3, .slice n4 d.pc.nd x4, .int .i64 d.sn.T, .int .i64 d.sn.P, .int .i64 d.sn.C, .int .i64 d.sn.B, .int .i64 d.sn.L, .bool d.sn.S, .bool d.sn.Q, .bool d.hd, .int .i64 d.sh, .bool d.nmi, .int .i64 d.st, .slice n5 d.pc.mf x5, .slice n6 d.sn.ns x6, .slice n7 d.nq x7]) (by exact results_cell_row Tryz.results18 _ _ (w.heap.size + 1) _ _ _ _ rfl kF Tryz.underlying76 rfl infoLock17) rfl ?_
    exact ⟨_, rfl, by rw [← AS.out]; exact HF.out, CF⟩
end Go.Proofs.YtjcaligejlhjdaaGreat
