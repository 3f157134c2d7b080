/-
  Chapter 15 of the specification by its contracts: what the processor waits for.
-/
import Derived.Test.YtjcaligejlhjdaaGreatDoorUC
import Derived.Test.YtjcaligejlhjdaaGreatDoorUW
import Derived.Test.YtjcaligejlhjdaaGreatDoorCB
import Derived.Test.YtjcaligejlhjdaaGreatDoorG0
import Derived.Deep.DeepCutAuto
namespace Go.Proofs.YtjcaligejlhjdaaGreatDoor
set_option linter.unusedVariables false
set_option linter.unusedSimpArgs false
open Go.ChangeShapes Go.WideShapes Go.ChangeAt Go.RowKit Go.Sort
def overN (T c : Int) : Int := if 20000 < T + c then 5 else 0
def picUp (d : SpD) : Bool := (d.pc.t == d.T) && (d.pc.n == 0)
def sndUp (d : SpD) : Bool := (d.sn.T == d.T) && (d.sn.n == 0)
def beatU (d : SpD) : Bool := in9 d.ka d.T 0 32
def asksU (d : SpD) : Bool := if beatU d = true then d.sn.Q else d.kn
def opU (d : SpD) : Int := peekV d.m d.ln d.f d.nr d.g d.bank d.Pc
def argU (d : SpD) : Int := fetchA (peekV d.m d.ln d.f d.nr d.g d.bank) d.Pc
def rgU (d : SpD) : Int := rgN (accAt (opU d) (argU d) d.X % 65536)
def cycU (x : Int) : Int := if 0 ≤ x ∧ x ≤ 29 then opCycs.getD x.toNat 2 else 2
def waitOp (d : SpD) : Int :=
  if accOf (opU d) = 1 ∧ rgU d = 2 ∧ picUp d = false then 1
  else if accOf (opU d) = 1 ∧ rgU d = 3 ∧ sndUp d = false then 2
  else if accOf (opU d) = 2 ∧ rgU d = 2 ∧ (d.pc.n : Int) = d.pc.cap then 3
  else if accOf (opU d) = 2 ∧ rgU d = 3 ∧ (d.sn.n : Int) = d.sn.cap then 4
  else overN d.T (cycU (opU d))
def waitU (d : SpD) : Int :=
  if d.nmi = true then overN d.T 7
  else if d.I = false ∧ beatU d = true ∧ sndUp d = false then 2
  else if d.I = false ∧ asksU d = true then overN d.T 7
  else waitOp d
theorem wpList_load_rowG {P : Program} {ops : Array Oper} {rest : List Oper} {o : Oper} {a : Act} {w : World} {Q : Exit → Act → World → Prop} (hw : Region.wanted o (yielded ops a.tmps) = true) (ty : TypeId) (x : Operand) (ho : o.op = .load ty x)
    (g : Nat) (hx : a.eval x = .pointer (some ⟨g, 0, none⟩)) (t : TypeId) (cs : Array Value) (fr : Nat × Nat) (d : TypeDesc) (hg : w.heap[g]? = some (.cells cs t fr))
    (hu : P.underlying ty = some d) (hd : (match d with | .struct _ | .array _ _ => true | _ => false) = true) (hi : (P.info? ty).map (·.size) = some cs.size)
    (h : wpList P ops Q rest (a.put o.dst (.agg cs)) w) : wpList P ops Q (o :: rest) a w :=
  wpList_step fun K hK => by rw [if_pos hw]; exact wp_load_row ty x ho g hx t cs fr d hg hu hd hi (hK _ _ h)
theorem cyc_in (x : Int) : 0 ≤ cycU x ∧ cycU x ≤ 100 := by
  have key : ∀ i : Nat, i < 30 → 0 ≤ opCycs.getD i 2 ∧ opCycs.getD i 2 ≤ 100 := by decide
  unfold cycU
  by_cases h : 0 ≤ x ∧ x ≤ 29
  · rw [if_pos h]
    exact key x.toNat (by omega)
  · rw [if_neg h]
    omega
theorem wpList_want {P : Program} {ops : Array Oper} {rest : List Oper} {o : Oper} {a : Act} {w : World} {Q : Exit → Act → World → Prop} (hw : Region.wanted o (yielded ops a.tmps) = true)
    (h : ∀ K : Act → World → Prop, (∀ a w, wpList P ops Q rest a w → K a w) → o.wp P a w K Q) : wpList P ops Q (o :: rest) a w :=
  wpList_step fun K hK => by rw [if_pos hw]; exact h K hK
theorem ret_put {P : Program} {f : Func} {R : Ending → World → Prop} {A0 : Act} {t : Tmp} {v : Value} {w : World} (hres : f.results = #[.tmp t]) (hs : t < A0.tmps.size) (hd : A0.defers = []) (h : R (.returned v) w) : Code.ret.wp P (bodyPost P f R) (A0.put (some t) v) w := by
  refine wp_ret ⟨hd, _, results_tmp hres _ P w, ?_⟩
  have e : (A0.put (some t) v).tmps.getD t undef = v := by simp [Act.put, hs]
  rw [e]
  exact h
/-- What is read of a console apart one by one. -/
structure SpCs (W : World) (D : Nat → Nat → Prop) (cs : Array Value) (d : SpD) (u0 u2 : Value) (b3 : Option Addr) (y3 : Nat) (e1 : Option Addr) (z1 : Nat) : Prop where
  f0 : cs[0]? = some u0
  f2 : cs[2]? = some u2
  f3 : cs[3]? = some (.int .i64 d.bank)
  f4 : cs[4]? = some (.int .i64 d.A)
  f5 : cs[5]? = some (.int .i64 d.X)
  f6 : cs[6]? = some (.int .i64 d.S)
  f7 : cs[7]? = some (.int .i64 d.Pc)
  f8 : cs[8]? = some (.bool d.Z)
  f9 : cs[9]? = some (.bool d.N)
  f10 : cs[10]? = some (.bool d.C)
  f11 : cs[11]? = some (.bool d.I)
  f14 : cs[14]? = some (.int .i64 d.T)
  f15 : cs[15]? = some (.bool d.nmi)
  f17 : cs[17]? = some (.bool d.kn)
  f18 : cs[18]? = some (.int .i64 d.ka)
  f21 : cs[21]? = some (.int .i64 d.pc.t)
  f29 : cs[29]? = some (.int .i64 d.pc.cap)
  f30 : cs[30]? = some (.slice b3 d.pc.n y3)
  f32 : cs[32]? = some (.int .i64 d.sn.T)
  f38 : cs[38]? = some (.bool d.sn.Q)
  f39 : cs[39]? = some (.int .i64 d.sn.cap)
  f40 : cs[40]? = some (.slice e1 d.sn.n z1)
  i0 : IntSS .i64 W (On (D 0)) u0 d.m d.ln d.f
  i2 : Ints .i64 W (On (D 2)) u2 d.nr d.g
  n3 : d.pc.n ≤ 1048576
  n5 : d.sn.n ≤ 1048576
  sz : cs.size = 42
theorem SplitOn.cells {W : World} {D : Nat → Nat → Prop} {cs : Array Value} {d : SpD} (H : SplitOn W D (.agg cs) d) : ∃ u0 u2 b3 y3 e1 z1, SpCs W D cs d u0 u2 b3 y3 e1 z1 := by
  obtain ⟨u0, u1, u2, u3, q1, q2, q3, q4, r1, r2, e, h0, h1, h2, h3, h4, h5⟩ := H
  obtain ⟨y2, hy2, g2⟩ := h2.ints
  simp only [Value.agg.injEq, Array.mk.injEq, List.cons.injEq, and_true] at hy2
  subst hy2
  obtain ⟨s3, c3, rfl, n3⟩ : ∃ a c, q3 = .slice a d.pc.n c ∧ d.pc.n ≤ 1048576 := by
    obtain ⟨x1, x2, x3, x4, e, -, hr, -⟩ := id h4
    simp only [Value.agg.injEq, Array.mk.injEq, List.cons.injEq, and_true, true_and] at e
    obtain ⟨-, -, rfl, -⟩ := e
    obtain ⟨a, c, e1, hn, -⟩ := id hr
    exact ⟨a, c, e1, hn.1⟩
  obtain ⟨s5, c5, rfl, n5⟩ : ∃ a c, r1 = .slice a d.sn.n c ∧ d.sn.n ≤ 1048576 := by
    obtain ⟨x1, x2, e, hr, -⟩ := id h5
    simp only [Value.agg.injEq, Array.mk.injEq, List.cons.injEq, and_true, true_and] at e
    obtain ⟨rfl, -⟩ := e
    obtain ⟨a, c, e1, hn, -⟩ := id hr
    exact ⟨a, c, e1, hn.1⟩
  obtain rfl := Value.agg.inj e
  exact ⟨u0, u2, s3, c3, s5, c5, rfl, rfl, rfl, rfl, rfl, rfl, rfl, rfl, rfl, rfl, rfl, rfl, rfl, rfl, rfl, rfl, rfl, rfl, rfl, rfl, rfl, rfl, h0.ints, g2, n3, n5, rfl⟩
set_option maxHeartbeats 1000000 in
theorem l15Over (w : World) (D : Nat → Nat → Prop) (cs : Array Value) (d : SpD) (H : SplitOn w D (.agg cs) d) (c : Int) (c0 : 0 ≤ c) (c1 : c ≤ 100) (hT : d.T ≤ 20000 ∧ 0 ≤ d.T) : Calls Tryz.prog 44 #[.agg cs, .int .i64 c] w fun e w' => e = .returned (.int .i64 (overN d.T c)) ∧ Below w.heap.size w w' := by
  obtain ⟨u0, u2, b3, y3, e1, z1, F⟩ := H.cells
  obtain ⟨r, hr⟩ : ∃ r, Hid (r = overN d.T c) := ⟨_, rfl⟩
  rw [← hr.out]
  have f14 := F.f14
  have C0 : Below w.heap.size w (w.alloc (.cells cs 61)) := (Below.refl _ _).alloc (Nat.le_refl _) _
  have k0 := box_new w cs 61
  clear H F
  go_enter Tryz.func44, Tryz.ntmps44
  go_upto_region 1 with (fail)
  generalize w.alloc (.cells cs 61) = W0 at *
  have k1 := boxC k0
  have hw : IntKind.i64.wrap (d.T + c) = d.T + c := by rw [IntKind.wrap_i64]; omega
  by_cases h : 20000 < d.T + c
  · have HE : Hid (r = 5) := by show _ = _; rw [hr.out, overN, if_pos h]
    go_wp2
    go_ret
    exact ⟨ret_int HE.out.symm, C0⟩
  · have HE : Hid (r = 0) := by show _ = _; rw [hr.out, overN, if_neg h]
    go_wp2
    go_ret
    exact ⟨ret_int HE.out.symm, C0⟩
set_option maxHeartbeats 1000000 in
theorem l15SoundUp (w : World) (D : Nat → Nat → Prop) (cs : Array Value) (d : SpD) (H : SplitOn w D (.agg cs) d) : Calls Tryz.prog 46 #[.agg cs] w fun e w' => e = .returned (.bool (sndUp d)) ∧ Below w.heap.size w w' := by
  obtain ⟨u0, u2, b3, y3, e1, z1, F⟩ := H.cells
  obtain ⟨r, hr⟩ : ∃ r, Hid (r = sndUp d) := ⟨_, rfl⟩
  rw [← hr.out]
  have f14 := F.f14
  have f32 := F.f32
  have f40 := F.f40
  have n5 := F.n5
  have C0 : Below w.heap.size w (w.alloc (.cells cs 61)) := (Below.refl _ _).alloc (Nat.le_refl _) _
  have k0 := box_new w cs 61
  clear H F
  go_enter Tryz.func46, Tryz.ntmps46
  go_upto_region 1 with (fail)
  generalize w.alloc (.cells cs 61) = W0 at *
  have k1 := boxC k0
  by_cases h : d.sn.T = d.T
  · have h' : (d.sn.T == d.T) = true := by simp [h]
    by_cases h2 : d.sn.n = 0
    · have h2' : ((d.sn.n : Int) == 0) = true := by simp [h2]
      have HE : Hid (r = true) := by show _ = _; rw [hr.out, sndUp]; simp [h, h2]
      clear h h2
      go_wp2
      go_ret
      exact ⟨ret_bool HE.out.symm, C0⟩
    · have h2' : ((d.sn.n : Int) == 0) = false := by simp [h2]
      have HE : Hid (r = false) := by show _ = _; rw [hr.out, sndUp]; simp [h2]
      clear h h2
      go_wp2
      go_ret
      exact ⟨ret_bool HE.out.symm, C0⟩
  · have h' : (d.sn.T == d.T) = false := by simp [h]
    have HE : Hid (r = false) := by show _ = _; rw [hr.out, sndUp, h']; rfl
    clear h
    go_wp2
    go_ret
    exact ⟨ret_bool HE.out.symm, C0⟩
set_option maxHeartbeats 1000000 in
theorem l15PictureUp (w : World) (D : Nat → Nat → Prop) (cs : Array Value) (d : SpD) (H : SplitOn w D (.agg cs) d) : Calls Tryz.prog 51 #[.agg cs] w fun e w' => e = .returned (.bool (picUp d)) ∧ Below w.heap.size w w' := by
  obtain ⟨u0, u2, b3, y3, e1, z1, F⟩ := H.cells
  obtain ⟨r, hr⟩ : ∃ r, Hid (r = picUp d) := ⟨_, rfl⟩
  rw [← hr.out]
  have f14 := F.f14
  have f21 := F.f21
  have f30 := F.f30
  have n3 := F.n3
  have C0 : Below w.heap.size w (w.alloc (.cells cs 61)) := (Below.refl _ _).alloc (Nat.le_refl _) _
  have k0 := box_new w cs 61
  clear H F
  go_enter Tryz.func51, Tryz.ntmps51
  go_upto_region 1 with (fail)
  generalize w.alloc (.cells cs 61) = W0 at *
  have k1 := boxC k0
  by_cases h : d.pc.t = d.T
  · have h' : (d.pc.t == d.T) = true := by simp [h]
    by_cases h2 : d.pc.n = 0
    · have h2' : ((d.pc.n : Int) == 0) = true := by simp [h2]
      have HE : Hid (r = true) := by show _ = _; rw [hr.out, picUp]; simp [h, h2]
      clear h h2
      go_wp2
      go_ret
      exact ⟨ret_bool HE.out.symm, C0⟩
    · have h2' : ((d.pc.n : Int) == 0) = false := by simp [h2]
      have HE : Hid (r = false) := by show _ = _; rw [hr.out, picUp]; simp [h2]
      clear h h2
      go_wp2
      go_ret
      exact ⟨ret_bool HE.out.symm, C0⟩
  · have h' : (d.pc.t == d.T) = false := by simp [h]
    have HE : Hid (r = false) := by show _ = _; rw [hr.out, picUp, h']; rfl
    clear h
    go_wp2
    go_ret
    exact ⟨ret_bool HE.out.symm, C0⟩
set_option maxHeartbeats 1000000 in
theorem l15Asks (w : World) (D : Nat → Nat → Prop) (cs : Array Value) (d : SpD) (H : SplitOn w D (.agg cs) d) : Calls Tryz.prog 47 #[.agg cs] w fun e w' => e = .returned (.bool (asksU d)) ∧ Below w.heap.size w w' := by
  obtain ⟨u0, u2, b3, y3, e1, z1, F⟩ := H.cells
  obtain ⟨r, hr⟩ : ∃ r, Hid (r = asksU d) := ⟨_, rfl⟩
  rw [← hr.out]
  have f14 := F.f14
  have f17 := F.f17
  have f18 := F.f18
  have f38 := F.f38
  have C0 : Below w.heap.size w (w.alloc (.cells cs 61)) := (Below.refl _ _).alloc (Nat.le_refl _) _
  have k0 := box_new w cs 61
  have HB := hide (fun W => specBeatIn W d.ka d.T)
  obtain ⟨b, hb⟩ : ∃ b, Hid (b = beatU d) := ⟨_, rfl⟩
  rw [show in9 d.ka d.T 0 32 = b from hb.out.symm] at HB
  have HR : Hid (r = if b = true then d.sn.Q else d.kn) := by show _ = _; rw [hr.out, asksU, hb.out]
  clear H F hr hb
  go_enter Tryz.func47, Tryz.ntmps47
  go_upto_region 1 with (fail)
  generalize w.alloc (.cells cs 61) = W0 at *
  have k1 := boxC k0
  go_wp2_with fail
  refine (HB.out W0).mono ?_
  rintro e W1 ⟨rfl, hw⟩
  subst hw
  cases b
  · have HE : Hid (r = d.kn) := by rw [HR.out]; rfl
    go_wp2
    go_ret
    exact ⟨ret_bool HE.out.symm, C0⟩
  · have HE : Hid (r = d.sn.Q) := by rw [HR.out]; rfl
    go_wp2
    go_ret
    exact ⟨ret_bool HE.out.symm, C0⟩
set_option maxRecDepth 8000 in
set_option maxHeartbeats 4000000 in
theorem l15Wait (w : World) (D : Nat → Nat → Prop) (cs : Array Value) (d : SpD) (H : SplitOn w D (.agg cs) d) (hT : d.T ≤ 20000 ∧ 0 ≤ d.T) : Calls Tryz.prog 15 #[.agg cs] w fun e w' => e = .returned (.int .i64 (waitU d)) ∧ Below w.heap.size w w' := by
  obtain ⟨uI, uM, b3, y3, e1, z1, F⟩ := H.cells
  obtain ⟨r, hr⟩ : ∃ r, Hid (r = waitU d) := ⟨_, rfl⟩
  rw [← hr.out]
  have f11 := F.f11
  have f14 := F.f14
  have f15 := F.f15
  have f18 := F.f18
  have HSZ := hide F.sz
  have HF := hide F
  have C0 : Below w.heap.size w (w.alloc (.cells cs 61)) := (Below.refl _ _).alloc (Nat.le_refl _) _
  have k0 := box_new w cs 61
  have HH := hide H
  clear F H
  have HB := hide (fun W => specBeatIn W d.ka d.T)
  obtain ⟨bt, hbt⟩ : ∃ b, Hid (b = beatU d) := ⟨_, rfl⟩
  rw [show in9 d.ka d.T 0 32 = bt from hbt.out.symm] at HB
  obtain ⟨up, hup⟩ : ∃ b, Hid (b = sndUp d) := ⟨_, rfl⟩
  obtain ⟨ak, hak⟩ : ∃ b, Hid (b = asksU d) := ⟨_, rfl⟩
  obtain ⟨nm, hnm⟩ : ∃ b, Hid (b = d.nmi) := ⟨_, rfl⟩
  obtain ⟨ii, hii⟩ : ∃ b, Hid (b = d.I) := ⟨_, rfl⟩
  rw [← hnm.out] at f15
  rw [← hii.out] at f11
  have HR : Hid (r = if nm = true then overN d.T 7 else if ii = false ∧ bt = true ∧ up = false then 2 else if ii = false ∧ ak = true then overN d.T 7 else waitOp d) := by show _ = _; rw [hr.out, hnm.out, hii.out, hbt.out, hup.out, hak.out]; rfl
  have HO := hide (fun W L => l15Over W D cs d (HH.out.keep (wrote_below L Nowhere) (fun _ _ _ _ _ x => x)) 7 (by omega) (by omega) hT)
  have HU := hide (fun W L => l15SoundUp W D cs d (HH.out.keep (wrote_below L Nowhere) (fun _ _ _ _ _ x => x)))
  have HA := hide (fun W L => l15Asks W D cs d (HH.out.keep (wrote_below L Nowhere) (fun _ _ _ _ _ x => x)))
  rw [← hup.out] at HU
  rw [← hak.out] at HA
  clear hr hbt hup hak hnm hii
  go_enter Tryz.func15, Tryz.ntmps15
  go_upto_region 1 with (fail)
  generalize w.alloc (.cells cs 61) = W0 at *
  have k1 := boxC k0
  cases nm
  · go_upto_if 16 with (fail)
    go_cut [] (fun wc => Below w.heap.size w wc ∧ wc.heap[w.heap.size]? = some (.cells cs 61 (0, 0)) ∧ Hid (r = waitOp d))
    case first =>
      cases ii
      · go_wp2_with fail
        refine (HB.out _).mono ?_
        rintro e W1 ⟨rfl, hw⟩
        subst hw
        cases bt
        · go_upto_region 6 with (fail)
          refine wp_region_lit ?_
          refine wpList_load_row rfl _ _ rfl (w.heap.size) rfl _ _ _ _ k0 Tryz.underlying61 rfl (infoAtU infoSplit HSZ.out) ?_
          go_wp2_with fail
          refine (HA.out _ C0).mono ?_
          rintro e W3 ⟨rfl, L⟩
          replace C0 := below_snoc C0 L
          replace k0 := box_keep k0 L (boxLt k0)
          clear L k1
          have k1 := boxC k0
          cases ak
          · go_wp2_with fail
            go_meet
            case rel => exact ⟨C0, k0, by show _ = _; rw [HR.out]; simp⟩
          · have HE : Hid (r = overN d.T 7) := by show _ = _; rw [HR.out]; simp
            go_upto_region 7 with (fail)
            refine wp_region_lit ?_
            refine wpList_load_row rfl _ _ rfl (w.heap.size) rfl _ _ _ _ k0 Tryz.underlying61 rfl (infoAtU infoSplit HSZ.out) ?_
            go_wp2_with fail
            refine (HO.out _ C0).mono ?_
            rintro e W4 ⟨rfl, L⟩
            go_wp2
            go_ret
            exact ⟨ret_int HE.out.symm, below_snoc C0 L⟩
          
        · rename_i K9 hK9
          refine hK9 _ _ ?_
          clear hK9
          refine wpList_plain rfl (fun K9 hK9 => ?_)
          go_simp
          refine hK9 _ _ ?_
          clear hK9
          refine wpList_load_rowG (by rfl) _ _ rfl (w.heap.size) rfl _ _ _ _ k0 Tryz.underlying61 rfl (infoAtU infoSplit HSZ.out) ?_
          go_wp2_with fail
          refine (HU.out _ C0).mono ?_
          rintro e W2 ⟨rfl, L⟩
          replace C0 := below_snoc C0 L
          replace k0 := box_keep k0 L (boxLt k0)
          clear L k1
          have k1 := boxC k0
          cases up
          · have HE : Hid (r = 2) := by show _ = _; rw [HR.out]; simp
            go_wp2
            go_ret
            exact ⟨ret_int HE.out.symm, C0⟩
          · go_upto_region 6 with (fail)
            refine wp_region_lit ?_
            refine wpList_load_row rfl _ _ rfl (w.heap.size) rfl _ _ _ _ k0 Tryz.underlying61 rfl (infoAtU infoSplit HSZ.out) ?_
            go_wp2_with fail
            refine (HA.out _ C0).mono ?_
            rintro e W3 ⟨rfl, L⟩
            replace C0 := below_snoc C0 L
            replace k0 := box_keep k0 L (boxLt k0)
            clear L k1
            have k1 := boxC k0
            cases ak
            · go_wp2_with fail
              go_meet
              case rel => exact ⟨C0, k0, by show _ = _; rw [HR.out]; simp⟩
            · have HE : Hid (r = overN d.T 7) := by show _ = _; rw [HR.out]; simp
              go_upto_region 7 with (fail)
              refine wp_region_lit ?_
              refine wpList_load_row rfl _ _ rfl (w.heap.size) rfl _ _ _ _ k0 Tryz.underlying61 rfl (infoAtU infoSplit HSZ.out) ?_
              go_wp2_with fail
              refine (HO.out _ C0).mono ?_
              rintro e W4 ⟨rfl, L⟩
              go_wp2
              go_ret
              exact ⟨ret_int HE.out.symm, below_snoc C0 L⟩
            
      · go_wp2_with fail
        go_meet
        case rel => exact ⟨C0, k0, by show _ = _; rw [HR.out]; simp⟩
    case rest =>
      obtain ⟨C0, k0, HW⟩ := hcut
      have f0 := HF.out.f0
      have f2 := HF.out.f2
      have f3 := HF.out.f3
      have f4 := HF.out.f4
      have f5 := HF.out.f5
      have f6 := HF.out.f6
      have f7 := HF.out.f7
      have f8 := HF.out.f8
      have f9 := HF.out.f9
      have f10 := HF.out.f10
      have f29 := HF.out.f29
      have f30 := HF.out.f30
      have f39 := HF.out.f39
      have f40 := HF.out.f40
      have n3 := HF.out.n3
      have n5 := HF.out.n5
      obtain ⟨op, hop⟩ : ∃ x, Hid (x = opU d) := ⟨_, rfl⟩
      obtain ⟨arg, harg⟩ : ∃ x, Hid (x = argU d) := ⟨_, rfl⟩
      obtain ⟨kd, hkd⟩ : ∃ x, Hid (x = accOf op) := ⟨_, rfl⟩
      obtain ⟨ax, hax⟩ : ∃ x, Hid (x = accAt op arg d.X) := ⟨_, rfl⟩
      obtain ⟨av, hav⟩ : ∃ x, Hid (x = accV op d.A) := ⟨_, rfl⟩
      obtain ⟨rg, hrg⟩ : ∃ x, Hid (x = rgN (ax % 65536)) := ⟨_, rfl⟩
      obtain ⟨rp, hrp⟩ : ∃ x, Hid (x = rgP (ax % 65536)) := ⟨_, rfl⟩
      obtain ⟨pu, hpu⟩ : ∃ x, Hid (x = picUp d) := ⟨_, rfl⟩
      obtain ⟨su, hsu⟩ : ∃ x, Hid (x = sndUp d) := ⟨_, rfl⟩
      obtain ⟨cy, hcy⟩ : ∃ x, Hid (x = cycU op) := ⟨_, rfl⟩
      obtain ⟨ov, hov⟩ : ∃ x, Hid (x = overN d.T cy) := ⟨_, rfl⟩
      have HX : Hid (r = if kd = 1 ∧ rg = 2 ∧ pu = false then 1 else if kd = 1 ∧ rg = 3 ∧ su = false then 2 else if kd = 2 ∧ rg = 2 ∧ (d.pc.n : Int) = d.pc.cap then 3 else if kd = 2 ∧ rg = 3 ∧ (d.sn.n : Int) = d.sn.cap then 4 else ov) := by show _ = _; rw [HW.out, hov.out, hcy.out, hsu.out, hpu.out, hrg.out, hax.out, hkd.out, harg.out, hop.out]; rfl
      have HFt := hide (fun W (L : Below w.heap.size w W) => specFetch W (On (D 0)) (On (D 2)) uI uM d.m d.ln d.f d.nr d.g d.bank d.Pc (HF.out.i0.keep (wrote_below L Nowhere) (fun _ _ _ x => x)) (HF.out.i2.keep (wrote_below L Nowhere) (fun _ _ _ x => x)))
      rw [show peekV d.m d.ln d.f d.nr d.g d.bank d.Pc = op from hop.out.symm, show fetchA (peekV d.m d.ln d.f d.nr d.g d.bank) d.Pc = arg from harg.out.symm] at HFt
      have HAc := hide (fun W => specAccess W op arg d.A d.X d.S d.Pc d.Z d.N d.C ii)
      rw [← hkd.out, ← hax.out, ← hav.out] at HAc
      have HRg := hide (fun W => specRegion W ax)
      rw [← hrg.out, ← hrp.out] at HRg
      have HPu := hide (fun W L => l15PictureUp W D cs d (HH.out.keep (wrote_below L Nowhere) (fun _ _ _ _ _ x => x)))
      have HSu := hide (fun W L => l15SoundUp W D cs d (HH.out.keep (wrote_below L Nowhere) (fun _ _ _ _ _ x => x)))
      rw [← hpu.out] at HPu
      rw [← hsu.out] at HSu
      have HCy := hide (fun W => specOpCycles W op)
      rw [show (if 0 ≤ op ∧ op ≤ 29 then opCycs.getD op.toNat 2 else 2) = cy from hcy.out.symm] at HCy
      have cyi : 0 ≤ cy ∧ cy ≤ 100 := by rw [hcy.out]; exact cyc_in op
      have HOv := hide (fun W L => l15Over W D cs d (HH.out.keep (wrote_below L Nowhere) (fun _ _ _ _ _ x => x)) cy cyi.1 cyi.2 hT)
      rw [← hov.out] at HOv
      clear hop harg hkd hax hav hrg hrp hpu hsu hcy hov cyi HW HR HB HO HU HA
      have k1 := boxC k0
      go_wp2_with fail
      refine (HFt.out _ C0).mono ?_
      rintro e W5 ⟨rfl, L⟩
      replace C0 := below_snoc C0 L
      replace k0 := box_keep k0 L (boxLt k0)
      clear L k1 HFt
      have ki := box_new W5 #[.int .i64 op, .int .i64 arg] 79
      have L : Below W5.heap.size W5 (W5.alloc (.cells #[.int .i64 op, .int .i64 arg] 79)) := (Below.refl _ _).alloc (Nat.le_refl _) _
      replace C0 := below_snoc C0 L
      replace k0 := box_keep k0 L (boxLt k0)
      clear L
      go_upto_region 9 with (fail)
      obtain ⟨zi, hzi⟩ : ∃ z, Hid (z = W5.heap.size) := ⟨_, rfl⟩
      rw [← hzi.out] at ki ⊢
      clear hzi
      generalize W5.alloc (.cells #[.int .i64 op, .int .i64 arg] 79) = W6 at *
      have k1 := boxC k0
      have ki1 := boxC ki
      go_wp2_with fail
      refine (HAc.out _).mono ?_
      rintro e W7 ⟨rfl, L⟩
      replace C0 := below_snoc C0 L
      replace k0 := box_keep k0 L (boxLt k0)
      replace ki := box_keep ki L (boxLt ki)
      clear L k1 ki1
      have k1 := boxC k0
      have ki1 := boxC ki
      clear HAc f4 f6 f7 f8 f9 f10 f11 f0 f2 f3
      go_wp2_with fail
      refine (HRg.out _).mono ?_
      rintro e W8 ⟨rfl, hw⟩
      subst hw
      clear HRg
      by_cases a1 : kd = 1
      · by_cases r2 : rg = 2
        · have k1t : (kd == 1) = true := by simp [a1]
          have k2f : (kd == 2) = false := by simp [a1]
          have r2t : (rg == 2) = true := by simp [r2]
          have r3f : (rg == 3) = false := by simp [r2]
          go_upto_region 11 with (fail)
          refine wp_region_lit ?_
          iterate 7 (refine wpList_want (by rfl) (fun K9 hK9 => ?_); go_simp; refine hK9 _ _ ?_; clear hK9)
          refine wpList_load_rowG (by rfl) _ _ rfl (w.heap.size) rfl _ _ _ _ k0 Tryz.underlying61 rfl (infoAtU infoSplit HSZ.out) ?_
          go_wp2_with fail
          refine (HPu.out _ C0).mono ?_
          rintro e W9 ⟨rfl, L⟩
          replace C0 := below_snoc C0 L
          replace k0 := box_keep k0 L (boxLt k0)
          replace ki := box_keep ki L (boxLt ki)
          clear L k1 ki1
          have k1 := boxC k0
          have ki1 := boxC ki
          cases pu
          · have HE : Hid (r = 1) := by show _ = _; rw [HX.out]; simp [a1, r2]
            go_wp2
            go_ret
            exact ⟨ret_int HE.out.symm, C0⟩
          · have HE : Hid (r = ov) := by show _ = _; rw [HX.out]; simp [a1, r2]
            clear HX a1 r2
            go_upto_region 15 with (fail)
            go_upto_region 17 with (fail)
            go_upto_region 19 with (fail)
            rename_i K19 hK19
            clear k1 ki1
            refine wp_region_eff [some 114, some 115, some 116, some 117, some 118, some 2] (by kernel_rfl) (by kernel_rfl) (by kernel_rfl) (by kernel_rfl) (by first | (simp [slotsOf]; done) | (simp [slotsOf, Act.put]; done))
              (fun j b _ => False)
              (fun i v W => match i with
                | 0 => v = .agg cs
                | 1 => v = .pointer (some ⟨zi, 0, none⟩)
                | 2 => v = .int .i64 op
                | 3 => v = .int .i64 cy
                | 4 => v = .int .i64 ov
                | _ => v = .int .i64 ov) ?_ ?_ ?_
            · intro i j o v W W' hij ho _ hW h
              match i, hij, ho, h with
              | 0, hij, _, h => exact h
              | 1, hij, _, h => exact h
              | 2, hij, _, h => exact h
              | 3, hij, _, h => exact h
              | 4, hij, _, h => exact h
              | 5, hij, _, h => exact h
              | _ + 6, _, ho, _ => simp at ho
            · intro i o a' W K8 ho F L hw hK
              have LB : Below W9.heap.size W9 W := L.below (Nat.le_refl _) (fun b o _ ⟨j, _, _, _, _, h⟩ => h)
              match i with
              | 0 =>
                simp only [List.getElem?_toArray, List.getElem?_cons_zero, List.getElem?_cons_succ, Option.some.injEq] at ho
                subst ho
                have t1 := F.get (t := 1) (v := .pointer (some ⟨w.heap.size, 0, none⟩)) (by decide) rfl
                refine wp_load_row _ _ rfl (w.heap.size) (by simpa [Act.eval] using t1) _ _ _ _ (box_keep k0 LB (boxLt k0)) Tryz.underlying61 rfl (infoAtU infoSplit HSZ.out) ?_
                exact hK _ _ (Wrote.refl _ _) rfl
              | 1 =>
                simp only [List.getElem?_toArray, List.getElem?_cons_zero, List.getElem?_cons_succ, Option.some.injEq] at ho
                subst ho
                have t3 := F.get (t := 3) (v := .pointer (some ⟨zi, 0, none⟩)) (by decide) rfl
                go_simp
                exact hK _ _ (Wrote.refl _ _) rfl
              | 2 =>
                simp only [List.getElem?_toArray, List.getElem?_cons_zero, List.getElem?_cons_succ, Option.some.injEq] at ho
                subst ho
                have q1 : a'.tmps[115]?.getD undef = .pointer (some ⟨zi, 0, none⟩) := hw 1 (by kernel_rfl)
                have rb := boxC (box_keep ki LB (boxLt ki))
                go_simp
                exact hK _ _ (Wrote.refl _ _) rfl
              | 3 =>
                simp only [List.getElem?_toArray, List.getElem?_cons_zero, List.getElem?_cons_succ, Option.some.injEq] at ho
                subst ho
                have q2 : a'.tmps[116]?.getD undef = .int .i64 op := hw 2 (by kernel_rfl)
                go_simp
                refine (HCy.out W).mono ?_
                rintro e W' ⟨rfl, LX⟩
                exact hK _ _ (wrote_below LX _) rfl
              | 4 =>
                simp only [List.getElem?_toArray, List.getElem?_cons_zero, List.getElem?_cons_succ, Option.some.injEq] at ho
                subst ho
                have q0 : a'.tmps[114]?.getD undef = .agg cs := hw 0 (by kernel_rfl)
                have q3 : a'.tmps[117]?.getD undef = .int .i64 cy := hw 3 (by kernel_rfl)
                go_simp
                refine (HOv.out W (below_snoc C0 LB)).mono ?_
                rintro e W' ⟨rfl, LX⟩
                exact hK _ _ (wrote_below LX _) rfl
              | 5 =>
                simp only [List.getElem?_toArray, List.getElem?_cons_zero, List.getElem?_cons_succ, Option.some.injEq] at ho
                subst ho
                have q4 : a'.tmps[118]?.getD undef = .int .i64 ov := hw 4 (by kernel_rfl)
                go_simp
                exact hK _ _ (Wrote.refl _ _) rfl
              | _ + 6 => simp at ho
            · intro a' W F L hφ
              have p114 : a'.tmps[114]?.getD undef = .agg cs := hφ 0 (by decide)
              have p115 : a'.tmps[115]?.getD undef = .pointer (some ⟨zi, 0, none⟩) := hφ 1 (by decide)
              have p116 : a'.tmps[116]?.getD undef = .int .i64 op := hφ 2 (by decide)
              have p117 : a'.tmps[117]?.getD undef = .int .i64 cy := hφ 3 (by decide)
              have p118 : a'.tmps[118]?.getD undef = .int .i64 ov := hφ 4 (by decide)
              have p2 : a'.tmps[2]?.getD undef = .int .i64 ov := hφ 5 (by decide)
              rw [F.same, show slotsOf [some 114, some 115, some 116, some 117, some 118, some 2] = [114, 115, 116, 117, 118, 2] from rfl]
              simp only [List.foldl_cons, List.foldl_nil]
              have LB : Below W9.heap.size W9 W := L.below (Nat.le_refl _) (fun b o _ ⟨j, h⟩ => h)
              rw [p2]
              clear p114 p115 p116 p117 p118 p2 hφ
              generalize a'.tmps[114]?.getD undef = g0
              generalize a'.tmps[115]?.getD undef = g1
              generalize a'.tmps[116]?.getD undef = g2
              generalize a'.tmps[117]?.getD undef = g3
              generalize a'.tmps[118]?.getD undef = g4
              clear L F
              refine hK19 _ _ ?_
              clear hK19
              refine ret_put (t := 2) Tryz.results15 (by simp [Act.put]) rfl ?_
              exact ⟨ret_int HE.out.symm, below_snoc C0 LB⟩
        by_cases r3 : rg = 3
        · have k1t : (kd == 1) = true := by simp [a1]
          have k2f : (kd == 2) = false := by simp [a1]
          have r3t : (rg == 3) = true := by simp [r3]
          have r2f : (rg == 2) = false := by simp [r3]
          go_upto_region 13 with (fail)
          refine wp_region_lit ?_
          iterate 7 (refine wpList_want (by rfl) (fun K9 hK9 => ?_); go_simp; refine hK9 _ _ ?_; clear hK9)
          refine wpList_load_rowG (by rfl) _ _ rfl (w.heap.size) rfl _ _ _ _ k0 Tryz.underlying61 rfl (infoAtU infoSplit HSZ.out) ?_
          go_wp2_with fail
          refine (HSu.out _ C0).mono ?_
          rintro e W9 ⟨rfl, L⟩
          replace C0 := below_snoc C0 L
          replace k0 := box_keep k0 L (boxLt k0)
          replace ki := box_keep ki L (boxLt ki)
          clear L k1 ki1
          have k1 := boxC k0
          have ki1 := boxC ki
          cases su
          · have HE : Hid (r = 2) := by show _ = _; rw [HX.out]; simp [a1, r3]
            go_wp2
            go_ret
            exact ⟨ret_int HE.out.symm, C0⟩
          · have HE : Hid (r = ov) := by show _ = _; rw [HX.out]; simp [a1, r3]
            clear HX a1 r2 r3
            go_upto_region 15 with (fail)
            go_upto_region 17 with (fail)
            go_upto_region 19 with (fail)
            rename_i K19 hK19
            clear k1 ki1
            refine wp_region_eff [some 114, some 115, some 116, some 117, some 118, some 2] (by kernel_rfl) (by kernel_rfl) (by kernel_rfl) (by kernel_rfl) (by first | (simp [slotsOf]; done) | (simp [slotsOf, Act.put]; done))
              (fun j b _ => False)
              (fun i v W => match i with
                | 0 => v = .agg cs
                | 1 => v = .pointer (some ⟨zi, 0, none⟩)
                | 2 => v = .int .i64 op
                | 3 => v = .int .i64 cy
                | 4 => v = .int .i64 ov
                | _ => v = .int .i64 ov) ?_ ?_ ?_
            · intro i j o v W W' hij ho _ hW h
              match i, hij, ho, h with
              | 0, hij, _, h => exact h
              | 1, hij, _, h => exact h
              | 2, hij, _, h => exact h
              | 3, hij, _, h => exact h
              | 4, hij, _, h => exact h
              | 5, hij, _, h => exact h
              | _ + 6, _, ho, _ => simp at ho
            · intro i o a' W K8 ho F L hw hK
              have LB : Below W9.heap.size W9 W := L.below (Nat.le_refl _) (fun b o _ ⟨j, _, _, _, _, h⟩ => h)
              match i with
              | 0 =>
                simp only [List.getElem?_toArray, List.getElem?_cons_zero, List.getElem?_cons_succ, Option.some.injEq] at ho
                subst ho
                have t1 := F.get (t := 1) (v := .pointer (some ⟨w.heap.size, 0, none⟩)) (by decide) rfl
                refine wp_load_row _ _ rfl (w.heap.size) (by simpa [Act.eval] using t1) _ _ _ _ (box_keep k0 LB (boxLt k0)) Tryz.underlying61 rfl (infoAtU infoSplit HSZ.out) ?_
                exact hK _ _ (Wrote.refl _ _) rfl
              | 1 =>
                simp only [List.getElem?_toArray, List.getElem?_cons_zero, List.getElem?_cons_succ, Option.some.injEq] at ho
                subst ho
                have t3 := F.get (t := 3) (v := .pointer (some ⟨zi, 0, none⟩)) (by decide) rfl
                go_simp
                exact hK _ _ (Wrote.refl _ _) rfl
              | 2 =>
                simp only [List.getElem?_toArray, List.getElem?_cons_zero, List.getElem?_cons_succ, Option.some.injEq] at ho
                subst ho
                have q1 : a'.tmps[115]?.getD undef = .pointer (some ⟨zi, 0, none⟩) := hw 1 (by kernel_rfl)
                have rb := boxC (box_keep ki LB (boxLt ki))
                go_simp
                exact hK _ _ (Wrote.refl _ _) rfl
              | 3 =>
                simp only [List.getElem?_toArray, List.getElem?_cons_zero, List.getElem?_cons_succ, Option.some.injEq] at ho
                subst ho
                have q2 : a'.tmps[116]?.getD undef = .int .i64 op := hw 2 (by kernel_rfl)
                go_simp
                refine (HCy.out W).mono ?_
                rintro e W' ⟨rfl, LX⟩
                exact hK _ _ (wrote_below LX _) rfl
              | 4 =>
                simp only [List.getElem?_toArray, List.getElem?_cons_zero, List.getElem?_cons_succ, Option.some.injEq] at ho
                subst ho
                have q0 : a'.tmps[114]?.getD undef = .agg cs := hw 0 (by kernel_rfl)
                have q3 : a'.tmps[117]?.getD undef = .int .i64 cy := hw 3 (by kernel_rfl)
                go_simp
                refine (HOv.out W (below_snoc C0 LB)).mono ?_
                rintro e W' ⟨rfl, LX⟩
                exact hK _ _ (wrote_below LX _) rfl
              | 5 =>
                simp only [List.getElem?_toArray, List.getElem?_cons_zero, List.getElem?_cons_succ, Option.some.injEq] at ho
                subst ho
                have q4 : a'.tmps[118]?.getD undef = .int .i64 ov := hw 4 (by kernel_rfl)
                go_simp
                exact hK _ _ (Wrote.refl _ _) rfl
              | _ + 6 => simp at ho
            · intro a' W F L hφ
              have p114 : a'.tmps[114]?.getD undef = .agg cs := hφ 0 (by decide)
              have p115 : a'.tmps[115]?.getD undef = .pointer (some ⟨zi, 0, none⟩) := hφ 1 (by decide)
              have p116 : a'.tmps[116]?.getD undef = .int .i64 op := hφ 2 (by decide)
              have p117 : a'.tmps[117]?.getD undef = .int .i64 cy := hφ 3 (by decide)
              have p118 : a'.tmps[118]?.getD undef = .int .i64 ov := hφ 4 (by decide)
              have p2 : a'.tmps[2]?.getD undef = .int .i64 ov := hφ 5 (by decide)
              rw [F.same, show slotsOf [some 114, some 115, some 116, some 117, some 118, some 2] = [114, 115, 116, 117, 118, 2] from rfl]
              simp only [List.foldl_cons, List.foldl_nil]
              have LB : Below W9.heap.size W9 W := L.below (Nat.le_refl _) (fun b o _ ⟨j, h⟩ => h)
              rw [p2]
              clear p114 p115 p116 p117 p118 p2 hφ
              generalize a'.tmps[114]?.getD undef = g0
              generalize a'.tmps[115]?.getD undef = g1
              generalize a'.tmps[116]?.getD undef = g2
              generalize a'.tmps[117]?.getD undef = g3
              generalize a'.tmps[118]?.getD undef = g4
              clear L F
              refine hK19 _ _ ?_
              clear hK19
              refine ret_put (t := 2) Tryz.results15 (by simp [Act.put]) rfl ?_
              exact ⟨ret_int HE.out.symm, below_snoc C0 LB⟩
        have k1t : (kd == 1) = true := by simp [a1]
        have k2f : (kd == 2) = false := by simp [a1]
        have r2f : (rg == 2) = false := by simp [r2]
        have r3f : (rg == 3) = false := by simp [r3]
        have HE : Hid (r = ov) := by show _ = _; rw [HX.out]; simp [a1, r2, r3]
        clear HX a1 r2 r3
        go_upto_region 15 with (fail)
        go_upto_region 17 with (fail)
        go_upto_region 19 with (fail)
        rename_i K19 hK19
        clear k1 ki1
        refine wp_region_eff [some 114, some 115, some 116, some 117, some 118, some 2] (by kernel_rfl) (by kernel_rfl) (by kernel_rfl) (by kernel_rfl) (by first | (simp [slotsOf]; done) | (simp [slotsOf, Act.put]; done))
          (fun j b _ => False)
          (fun i v W => match i with
            | 0 => v = .agg cs
            | 1 => v = .pointer (some ⟨zi, 0, none⟩)
            | 2 => v = .int .i64 op
            | 3 => v = .int .i64 cy
            | 4 => v = .int .i64 ov
            | _ => v = .int .i64 ov) ?_ ?_ ?_
        · intro i j o v W W' hij ho _ hW h
          match i, hij, ho, h with
          | 0, hij, _, h => exact h
          | 1, hij, _, h => exact h
          | 2, hij, _, h => exact h
          | 3, hij, _, h => exact h
          | 4, hij, _, h => exact h
          | 5, hij, _, h => exact h
          | _ + 6, _, ho, _ => simp at ho
        · intro i o a' W K8 ho F L hw hK
          have LB : Below W8.heap.size W8 W := L.below (Nat.le_refl _) (fun b o _ ⟨j, _, _, _, _, h⟩ => h)
          match i with
          | 0 =>
            simp only [List.getElem?_toArray, List.getElem?_cons_zero, List.getElem?_cons_succ, Option.some.injEq] at ho
            subst ho
            have t1 := F.get (t := 1) (v := .pointer (some ⟨w.heap.size, 0, none⟩)) (by decide) rfl
            refine wp_load_row _ _ rfl (w.heap.size) (by simpa [Act.eval] using t1) _ _ _ _ (box_keep k0 LB (boxLt k0)) Tryz.underlying61 rfl (infoAtU infoSplit HSZ.out) ?_
            exact hK _ _ (Wrote.refl _ _) rfl
          | 1 =>
            simp only [List.getElem?_toArray, List.getElem?_cons_zero, List.getElem?_cons_succ, Option.some.injEq] at ho
            subst ho
            have t3 := F.get (t := 3) (v := .pointer (some ⟨zi, 0, none⟩)) (by decide) rfl
            go_simp
            exact hK _ _ (Wrote.refl _ _) rfl
          | 2 =>
            simp only [List.getElem?_toArray, List.getElem?_cons_zero, List.getElem?_cons_succ, Option.some.injEq] at ho
            subst ho
            have q1 : a'.tmps[115]?.getD undef = .pointer (some ⟨zi, 0, none⟩) := hw 1 (by kernel_rfl)
            have rb := boxC (box_keep ki LB (boxLt ki))
            go_simp
            exact hK _ _ (Wrote.refl _ _) rfl
          | 3 =>
            simp only [List.getElem?_toArray, List.getElem?_cons_zero, List.getElem?_cons_succ, Option.some.injEq] at ho
            subst ho
            have q2 : a'.tmps[116]?.getD undef = .int .i64 op := hw 2 (by kernel_rfl)
            go_simp
            refine (HCy.out W).mono ?_
            rintro e W' ⟨rfl, LX⟩
            exact hK _ _ (wrote_below LX _) rfl
          | 4 =>
            simp only [List.getElem?_toArray, List.getElem?_cons_zero, List.getElem?_cons_succ, Option.some.injEq] at ho
            subst ho
            have q0 : a'.tmps[114]?.getD undef = .agg cs := hw 0 (by kernel_rfl)
            have q3 : a'.tmps[117]?.getD undef = .int .i64 cy := hw 3 (by kernel_rfl)
            go_simp
            refine (HOv.out W (below_snoc C0 LB)).mono ?_
            rintro e W' ⟨rfl, LX⟩
            exact hK _ _ (wrote_below LX _) rfl
          | 5 =>
            simp only [List.getElem?_toArray, List.getElem?_cons_zero, List.getElem?_cons_succ, Option.some.injEq] at ho
            subst ho
            have q4 : a'.tmps[118]?.getD undef = .int .i64 ov := hw 4 (by kernel_rfl)
            go_simp
            exact hK _ _ (Wrote.refl _ _) rfl
          | _ + 6 => simp at ho
        · intro a' W F L hφ
          have p114 : a'.tmps[114]?.getD undef = .agg cs := hφ 0 (by decide)
          have p115 : a'.tmps[115]?.getD undef = .pointer (some ⟨zi, 0, none⟩) := hφ 1 (by decide)
          have p116 : a'.tmps[116]?.getD undef = .int .i64 op := hφ 2 (by decide)
          have p117 : a'.tmps[117]?.getD undef = .int .i64 cy := hφ 3 (by decide)
          have p118 : a'.tmps[118]?.getD undef = .int .i64 ov := hφ 4 (by decide)
          have p2 : a'.tmps[2]?.getD undef = .int .i64 ov := hφ 5 (by decide)
          rw [F.same, show slotsOf [some 114, some 115, some 116, some 117, some 118, some 2] = [114, 115, 116, 117, 118, 2] from rfl]
          simp only [List.foldl_cons, List.foldl_nil]
          have LB : Below W8.heap.size W8 W := L.below (Nat.le_refl _) (fun b o _ ⟨j, h⟩ => h)
          rw [p2]
          clear p114 p115 p116 p117 p118 p2 hφ
          generalize a'.tmps[114]?.getD undef = g0
          generalize a'.tmps[115]?.getD undef = g1
          generalize a'.tmps[116]?.getD undef = g2
          generalize a'.tmps[117]?.getD undef = g3
          generalize a'.tmps[118]?.getD undef = g4
          clear L F
          refine hK19 _ _ ?_
          clear hK19
          refine ret_put (t := 2) Tryz.results15 (by simp [Act.put]) rfl ?_
          exact ⟨ret_int HE.out.symm, below_snoc C0 LB⟩
      by_cases a2 : kd = 2
      · by_cases r2 : rg = 2
        · have k1f : (kd == 1) = false := by simp [a1]
          have k2t : (kd == 2) = true := by simp [a2]
          have r2t : (rg == 2) = true := by simp [r2]
          have r3f : (rg == 3) = false := by simp [r2]
          by_cases hc : (d.pc.n : Int) = d.pc.cap
          · have hct : ((d.pc.n : Int) == d.pc.cap) = true := by simp [hc]
            have HE : Hid (r = 3) := by show _ = _; rw [HX.out]; simp [a1, a2, r2, hc]
            clear hc a1 a2 r2
            go_wp2
            go_ret
            exact ⟨ret_int HE.out.symm, C0⟩
          · have hct : ((d.pc.n : Int) == d.pc.cap) = false := by simp [hc]
            have HE : Hid (r = ov) := by show _ = _; rw [HX.out]; simp [a1, a2, r2, hc]
            clear HX hc a1 a2 r2
            go_upto_region 15 with (fail)
            go_upto_region 17 with (fail)
            go_upto_region 19 with (fail)
            rename_i K19 hK19
            clear k1 ki1
            refine wp_region_eff [some 114, some 115, some 116, some 117, some 118, some 2] (by kernel_rfl) (by kernel_rfl) (by kernel_rfl) (by kernel_rfl) (by first | (simp [slotsOf]; done) | (simp [slotsOf, Act.put]; done))
              (fun j b _ => False)
              (fun i v W => match i with
                | 0 => v = .agg cs
                | 1 => v = .pointer (some ⟨zi, 0, none⟩)
                | 2 => v = .int .i64 op
                | 3 => v = .int .i64 cy
                | 4 => v = .int .i64 ov
                | _ => v = .int .i64 ov) ?_ ?_ ?_
            · intro i j o v W W' hij ho _ hW h
              match i, hij, ho, h with
              | 0, hij, _, h => exact h
              | 1, hij, _, h => exact h
              | 2, hij, _, h => exact h
              | 3, hij, _, h => exact h
              | 4, hij, _, h => exact h
              | 5, hij, _, h => exact h
              | _ + 6, _, ho, _ => simp at ho
            · intro i o a' W K8 ho F L hw hK
              have LB : Below W8.heap.size W8 W := L.below (Nat.le_refl _) (fun b o _ ⟨j, _, _, _, _, h⟩ => h)
              match i with
              | 0 =>
                simp only [List.getElem?_toArray, List.getElem?_cons_zero, List.getElem?_cons_succ, Option.some.injEq] at ho
                subst ho
                have t1 := F.get (t := 1) (v := .pointer (some ⟨w.heap.size, 0, none⟩)) (by decide) rfl
                refine wp_load_row _ _ rfl (w.heap.size) (by simpa [Act.eval] using t1) _ _ _ _ (box_keep k0 LB (boxLt k0)) Tryz.underlying61 rfl (infoAtU infoSplit HSZ.out) ?_
                exact hK _ _ (Wrote.refl _ _) rfl
              | 1 =>
                simp only [List.getElem?_toArray, List.getElem?_cons_zero, List.getElem?_cons_succ, Option.some.injEq] at ho
                subst ho
                have t3 := F.get (t := 3) (v := .pointer (some ⟨zi, 0, none⟩)) (by decide) rfl
                go_simp
                exact hK _ _ (Wrote.refl _ _) rfl
              | 2 =>
                simp only [List.getElem?_toArray, List.getElem?_cons_zero, List.getElem?_cons_succ, Option.some.injEq] at ho
                subst ho
                have q1 : a'.tmps[115]?.getD undef = .pointer (some ⟨zi, 0, none⟩) := hw 1 (by kernel_rfl)
                have rb := boxC (box_keep ki LB (boxLt ki))
                go_simp
                exact hK _ _ (Wrote.refl _ _) rfl
              | 3 =>
                simp only [List.getElem?_toArray, List.getElem?_cons_zero, List.getElem?_cons_succ, Option.some.injEq] at ho
                subst ho
                have q2 : a'.tmps[116]?.getD undef = .int .i64 op := hw 2 (by kernel_rfl)
                go_simp
                refine (HCy.out W).mono ?_
                rintro e W' ⟨rfl, LX⟩
                exact hK _ _ (wrote_below LX _) rfl
              | 4 =>
                simp only [List.getElem?_toArray, List.getElem?_cons_zero, List.getElem?_cons_succ, Option.some.injEq] at ho
                subst ho
                have q0 : a'.tmps[114]?.getD undef = .agg cs := hw 0 (by kernel_rfl)
                have q3 : a'.tmps[117]?.getD undef = .int .i64 cy := hw 3 (by kernel_rfl)
                go_simp
                refine (HOv.out W (below_snoc C0 LB)).mono ?_
                rintro e W' ⟨rfl, LX⟩
                exact hK _ _ (wrote_below LX _) rfl
              | 5 =>
                simp only [List.getElem?_toArray, List.getElem?_cons_zero, List.getElem?_cons_succ, Option.some.injEq] at ho
                subst ho
                have q4 : a'.tmps[118]?.getD undef = .int .i64 ov := hw 4 (by kernel_rfl)
                go_simp
                exact hK _ _ (Wrote.refl _ _) rfl
              | _ + 6 => simp at ho
            · intro a' W F L hφ
              have p114 : a'.tmps[114]?.getD undef = .agg cs := hφ 0 (by decide)
              have p115 : a'.tmps[115]?.getD undef = .pointer (some ⟨zi, 0, none⟩) := hφ 1 (by decide)
              have p116 : a'.tmps[116]?.getD undef = .int .i64 op := hφ 2 (by decide)
              have p117 : a'.tmps[117]?.getD undef = .int .i64 cy := hφ 3 (by decide)
              have p118 : a'.tmps[118]?.getD undef = .int .i64 ov := hφ 4 (by decide)
              have p2 : a'.tmps[2]?.getD undef = .int .i64 ov := hφ 5 (by decide)
              rw [F.same, show slotsOf [some 114, some 115, some 116, some 117, some 118, some 2] = [114, 115, 116, 117, 118, 2] from rfl]
              simp only [List.foldl_cons, List.foldl_nil]
              have LB : Below W8.heap.size W8 W := L.below (Nat.le_refl _) (fun b o _ ⟨j, h⟩ => h)
              rw [p2]
              clear p114 p115 p116 p117 p118 p2 hφ
              generalize a'.tmps[114]?.getD undef = g0
              generalize a'.tmps[115]?.getD undef = g1
              generalize a'.tmps[116]?.getD undef = g2
              generalize a'.tmps[117]?.getD undef = g3
              generalize a'.tmps[118]?.getD undef = g4
              clear L F
              refine hK19 _ _ ?_
              clear hK19
              refine ret_put (t := 2) Tryz.results15 (by simp [Act.put]) rfl ?_
              exact ⟨ret_int HE.out.symm, below_snoc C0 LB⟩
        by_cases r3 : rg = 3
        · have k1f : (kd == 1) = false := by simp [a1]
          have k2t : (kd == 2) = true := by simp [a2]
          have r3t : (rg == 3) = true := by simp [r3]
          have r2f : (rg == 2) = false := by simp [r3]
          by_cases hc : (d.sn.n : Int) = d.sn.cap
          · have hct : ((d.sn.n : Int) == d.sn.cap) = true := by simp [hc]
            have HE : Hid (r = 4) := by show _ = _; rw [HX.out]; simp [a1, a2, r3, hc]
            clear hc a1 a2 r2 r3
            go_wp2
            go_ret
            exact ⟨ret_int HE.out.symm, C0⟩
          · have hct : ((d.sn.n : Int) == d.sn.cap) = false := by simp [hc]
            have HE : Hid (r = ov) := by show _ = _; rw [HX.out]; simp [a1, a2, r3, hc]
            clear HX hc a1 a2 r2 r3
            go_upto_region 15 with (fail)
            go_upto_region 17 with (fail)
            go_upto_region 19 with (fail)
            rename_i K19 hK19
            clear k1 ki1
            refine wp_region_eff [some 114, some 115, some 116, some 117, some 118, some 2] (by kernel_rfl) (by kernel_rfl) (by kernel_rfl) (by kernel_rfl) (by first | (simp [slotsOf]; done) | (simp [slotsOf, Act.put]; done))
              (fun j b _ => False)
              (fun i v W => match i with
                | 0 => v = .agg cs
                | 1 => v = .pointer (some ⟨zi, 0, none⟩)
                | 2 => v = .int .i64 op
                | 3 => v = .int .i64 cy
                | 4 => v = .int .i64 ov
                | _ => v = .int .i64 ov) ?_ ?_ ?_
            · intro i j o v W W' hij ho _ hW h
              match i, hij, ho, h with
              | 0, hij, _, h => exact h
              | 1, hij, _, h => exact h
              | 2, hij, _, h => exact h
              | 3, hij, _, h => exact h
              | 4, hij, _, h => exact h
              | 5, hij, _, h => exact h
              | _ + 6, _, ho, _ => simp at ho
            · intro i o a' W K8 ho F L hw hK
              have LB : Below W8.heap.size W8 W := L.below (Nat.le_refl _) (fun b o _ ⟨j, _, _, _, _, h⟩ => h)
              match i with
              | 0 =>
                simp only [List.getElem?_toArray, List.getElem?_cons_zero, List.getElem?_cons_succ, Option.some.injEq] at ho
                subst ho
                have t1 := F.get (t := 1) (v := .pointer (some ⟨w.heap.size, 0, none⟩)) (by decide) rfl
                refine wp_load_row _ _ rfl (w.heap.size) (by simpa [Act.eval] using t1) _ _ _ _ (box_keep k0 LB (boxLt k0)) Tryz.underlying61 rfl (infoAtU infoSplit HSZ.out) ?_
                exact hK _ _ (Wrote.refl _ _) rfl
              | 1 =>
                simp only [List.getElem?_toArray, List.getElem?_cons_zero, List.getElem?_cons_succ, Option.some.injEq] at ho
                subst ho
                have t3 := F.get (t := 3) (v := .pointer (some ⟨zi, 0, none⟩)) (by decide) rfl
                go_simp
                exact hK _ _ (Wrote.refl _ _) rfl
              | 2 =>
                simp only [List.getElem?_toArray, List.getElem?_cons_zero, List.getElem?_cons_succ, Option.some.injEq] at ho
                subst ho
                have q1 : a'.tmps[115]?.getD undef = .pointer (some ⟨zi, 0, none⟩) := hw 1 (by kernel_rfl)
                have rb := boxC (box_keep ki LB (boxLt ki))
                go_simp
                exact hK _ _ (Wrote.refl _ _) rfl
              | 3 =>
                simp only [List.getElem?_toArray, List.getElem?_cons_zero, List.getElem?_cons_succ, Option.some.injEq] at ho
                subst ho
                have q2 : a'.tmps[116]?.getD undef = .int .i64 op := hw 2 (by kernel_rfl)
                go_simp
                refine (HCy.out W).mono ?_
                rintro e W' ⟨rfl, LX⟩
                exact hK _ _ (wrote_below LX _) rfl
              | 4 =>
                simp only [List.getElem?_toArray, List.getElem?_cons_zero, List.getElem?_cons_succ, Option.some.injEq] at ho
                subst ho
                have q0 : a'.tmps[114]?.getD undef = .agg cs := hw 0 (by kernel_rfl)
                have q3 : a'.tmps[117]?.getD undef = .int .i64 cy := hw 3 (by kernel_rfl)
                go_simp
                refine (HOv.out W (below_snoc C0 LB)).mono ?_
                rintro e W' ⟨rfl, LX⟩
                exact hK _ _ (wrote_below LX _) rfl
              | 5 =>
                simp only [List.getElem?_toArray, List.getElem?_cons_zero, List.getElem?_cons_succ, Option.some.injEq] at ho
                subst ho
                have q4 : a'.tmps[118]?.getD undef = .int .i64 ov := hw 4 (by kernel_rfl)
                go_simp
                exact hK _ _ (Wrote.refl _ _) rfl
              | _ + 6 => simp at ho
            · intro a' W F L hφ
              have p114 : a'.tmps[114]?.getD undef = .agg cs := hφ 0 (by decide)
              have p115 : a'.tmps[115]?.getD undef = .pointer (some ⟨zi, 0, none⟩) := hφ 1 (by decide)
              have p116 : a'.tmps[116]?.getD undef = .int .i64 op := hφ 2 (by decide)
              have p117 : a'.tmps[117]?.getD undef = .int .i64 cy := hφ 3 (by decide)
              have p118 : a'.tmps[118]?.getD undef = .int .i64 ov := hφ 4 (by decide)
              have p2 : a'.tmps[2]?.getD undef = .int .i64 ov := hφ 5 (by decide)
              rw [F.same, show slotsOf [some 114, some 115, some 116, some 117, some 118, some 2] = [114, 115, 116, 117, 118, 2] from rfl]
              simp only [List.foldl_cons, List.foldl_nil]
              have LB : Below W8.heap.size W8 W := L.below (Nat.le_refl _) (fun b o _ ⟨j, h⟩ => h)
              rw [p2]
              clear p114 p115 p116 p117 p118 p2 hφ
              generalize a'.tmps[114]?.getD undef = g0
              generalize a'.tmps[115]?.getD undef = g1
              generalize a'.tmps[116]?.getD undef = g2
              generalize a'.tmps[117]?.getD undef = g3
              generalize a'.tmps[118]?.getD undef = g4
              clear L F
              refine hK19 _ _ ?_
              clear hK19
              refine ret_put (t := 2) Tryz.results15 (by simp [Act.put]) rfl ?_
              exact ⟨ret_int HE.out.symm, below_snoc C0 LB⟩
        have k1f : (kd == 1) = false := by simp [a1]
        have k2t : (kd == 2) = true := by simp [a2]
        have r2f : (rg == 2) = false := by simp [r2]
        have r3f : (rg == 3) = false := by simp [r3]
        have HE : Hid (r = ov) := by show _ = _; rw [HX.out]; simp [a1, a2, r2, r3]
        clear HX a1 a2 r2 r3
        go_upto_region 15 with (fail)
        go_upto_region 17 with (fail)
        go_upto_region 19 with (fail)
        rename_i K19 hK19
        clear k1 ki1
        refine wp_region_eff [some 114, some 115, some 116, some 117, some 118, some 2] (by kernel_rfl) (by kernel_rfl) (by kernel_rfl) (by kernel_rfl) (by first | (simp [slotsOf]; done) | (simp [slotsOf, Act.put]; done))
          (fun j b _ => False)
          (fun i v W => match i with
            | 0 => v = .agg cs
            | 1 => v = .pointer (some ⟨zi, 0, none⟩)
            | 2 => v = .int .i64 op
            | 3 => v = .int .i64 cy
            | 4 => v = .int .i64 ov
            | _ => v = .int .i64 ov) ?_ ?_ ?_
        · intro i j o v W W' hij ho _ hW h
          match i, hij, ho, h with
          | 0, hij, _, h => exact h
          | 1, hij, _, h => exact h
          | 2, hij, _, h => exact h
          | 3, hij, _, h => exact h
          | 4, hij, _, h => exact h
          | 5, hij, _, h => exact h
          | _ + 6, _, ho, _ => simp at ho
        · intro i o a' W K8 ho F L hw hK
          have LB : Below W8.heap.size W8 W := L.below (Nat.le_refl _) (fun b o _ ⟨j, _, _, _, _, h⟩ => h)
          match i with
          | 0 =>
            simp only [List.getElem?_toArray, List.getElem?_cons_zero, List.getElem?_cons_succ, Option.some.injEq] at ho
            subst ho
            have t1 := F.get (t := 1) (v := .pointer (some ⟨w.heap.size, 0, none⟩)) (by decide) rfl
            refine wp_load_row _ _ rfl (w.heap.size) (by simpa [Act.eval] using t1) _ _ _ _ (box_keep k0 LB (boxLt k0)) Tryz.underlying61 rfl (infoAtU infoSplit HSZ.out) ?_
            exact hK _ _ (Wrote.refl _ _) rfl
          | 1 =>
            simp only [List.getElem?_toArray, List.getElem?_cons_zero, List.getElem?_cons_succ, Option.some.injEq] at ho
            subst ho
            have t3 := F.get (t := 3) (v := .pointer (some ⟨zi, 0, none⟩)) (by decide) rfl
            go_simp
            exact hK _ _ (Wrote.refl _ _) rfl
          | 2 =>
            simp only [List.getElem?_toArray, List.getElem?_cons_zero, List.getElem?_cons_succ, Option.some.injEq] at ho
            subst ho
            have q1 : a'.tmps[115]?.getD undef = .pointer (some ⟨zi, 0, none⟩) := hw 1 (by kernel_rfl)
            have rb := boxC (box_keep ki LB (boxLt ki))
            go_simp
            exact hK _ _ (Wrote.refl _ _) rfl
          | 3 =>
            simp only [List.getElem?_toArray, List.getElem?_cons_zero, List.getElem?_cons_succ, Option.some.injEq] at ho
            subst ho
            have q2 : a'.tmps[116]?.getD undef = .int .i64 op := hw 2 (by kernel_rfl)
            go_simp
            refine (HCy.out W).mono ?_
            rintro e W' ⟨rfl, LX⟩
            exact hK _ _ (wrote_below LX _) rfl
          | 4 =>
            simp only [List.getElem?_toArray, List.getElem?_cons_zero, List.getElem?_cons_succ, Option.some.injEq] at ho
            subst ho
            have q0 : a'.tmps[114]?.getD undef = .agg cs := hw 0 (by kernel_rfl)
            have q3 : a'.tmps[117]?.getD undef = .int .i64 cy := hw 3 (by kernel_rfl)
            go_simp
            refine (HOv.out W (below_snoc C0 LB)).mono ?_
            rintro e W' ⟨rfl, LX⟩
            exact hK _ _ (wrote_below LX _) rfl
          | 5 =>
            simp only [List.getElem?_toArray, List.getElem?_cons_zero, List.getElem?_cons_succ, Option.some.injEq] at ho
            subst ho
            have q4 : a'.tmps[118]?.getD undef = .int .i64 ov := hw 4 (by kernel_rfl)
            go_simp
            exact hK _ _ (Wrote.refl _ _) rfl
          | _ + 6 => simp at ho
        · intro a' W F L hφ
          have p114 : a'.tmps[114]?.getD undef = .agg cs := hφ 0 (by decide)
          have p115 : a'.tmps[115]?.getD undef = .pointer (some ⟨zi, 0, none⟩) := hφ 1 (by decide)
          have p116 : a'.tmps[116]?.getD undef = .int .i64 op := hφ 2 (by decide)
          have p117 : a'.tmps[117]?.getD undef = .int .i64 cy := hφ 3 (by decide)
          have p118 : a'.tmps[118]?.getD undef = .int .i64 ov := hφ 4 (by decide)
          have p2 : a'.tmps[2]?.getD undef = .int .i64 ov := hφ 5 (by decide)
          rw [F.same, show slotsOf [some 114, some 115, some 116, some 117, some 118, some 2] = [114, 115, 116, 117, 118, 2] from rfl]
          simp only [List.foldl_cons, List.foldl_nil]
          have LB : Below W8.heap.size W8 W := L.below (Nat.le_refl _) (fun b o _ ⟨j, h⟩ => h)
          rw [p2]
          clear p114 p115 p116 p117 p118 p2 hφ
          generalize a'.tmps[114]?.getD undef = g0
          generalize a'.tmps[115]?.getD undef = g1
          generalize a'.tmps[116]?.getD undef = g2
          generalize a'.tmps[117]?.getD undef = g3
          generalize a'.tmps[118]?.getD undef = g4
          clear L F
          refine hK19 _ _ ?_
          clear hK19
          refine ret_put (t := 2) Tryz.results15 (by simp [Act.put]) rfl ?_
          exact ⟨ret_int HE.out.symm, below_snoc C0 LB⟩
      have k1f : (kd == 1) = false := by simp [a1]
      have k2f : (kd == 2) = false := by simp [a2]
      have HE : Hid (r = ov) := by show _ = _; rw [HX.out]; simp [a1, a2]
      clear HX a1 a2
      go_upto_region 15 with (fail)
      go_upto_region 17 with (fail)
      go_upto_region 19 with (fail)
      rename_i K19 hK19
      clear k1 ki1
      refine wp_region_eff [some 114, some 115, some 116, some 117, some 118, some 2] (by kernel_rfl) (by kernel_rfl) (by kernel_rfl) (by kernel_rfl) (by first | (simp [slotsOf]; done) | (simp [slotsOf, Act.put]; done))
        (fun j b _ => False)
        (fun i v W => match i with
          | 0 => v = .agg cs
          | 1 => v = .pointer (some ⟨zi, 0, none⟩)
          | 2 => v = .int .i64 op
          | 3 => v = .int .i64 cy
          | 4 => v = .int .i64 ov
          | _ => v = .int .i64 ov) ?_ ?_ ?_
      · intro i j o v W W' hij ho _ hW h
        match i, hij, ho, h with
        | 0, hij, _, h => exact h
        | 1, hij, _, h => exact h
        | 2, hij, _, h => exact h
        | 3, hij, _, h => exact h
        | 4, hij, _, h => exact h
        | 5, hij, _, h => exact h
        | _ + 6, _, ho, _ => simp at ho
      · intro i o a' W K8 ho F L hw hK
        have LB : Below W8.heap.size W8 W := L.below (Nat.le_refl _) (fun b o _ ⟨j, _, _, _, _, h⟩ => h)
        match i with
        | 0 =>
          simp only [List.getElem?_toArray, List.getElem?_cons_zero, List.getElem?_cons_succ, Option.some.injEq] at ho
          subst ho
          have t1 := F.get (t := 1) (v := .pointer (some ⟨w.heap.size, 0, none⟩)) (by decide) rfl
          refine wp_load_row _ _ rfl (w.heap.size) (by simpa [Act.eval] using t1) _ _ _ _ (box_keep k0 LB (boxLt k0)) Tryz.underlying61 rfl (infoAtU infoSplit HSZ.out) ?_
          exact hK _ _ (Wrote.refl _ _) rfl
        | 1 =>
          simp only [List.getElem?_toArray, List.getElem?_cons_zero, List.getElem?_cons_succ, Option.some.injEq] at ho
          subst ho
          have t3 := F.get (t := 3) (v := .pointer (some ⟨zi, 0, none⟩)) (by decide) rfl
          go_simp
          exact hK _ _ (Wrote.refl _ _) rfl
        | 2 =>
          simp only [List.getElem?_toArray, List.getElem?_cons_zero, List.getElem?_cons_succ, Option.some.injEq] at ho
          subst ho
          have q1 : a'.tmps[115]?.getD undef = .pointer (some ⟨zi, 0, none⟩) := hw 1 (by kernel_rfl)
          have rb := boxC (box_keep ki LB (boxLt ki))
          go_simp
          exact hK _ _ (Wrote.refl _ _) rfl
        | 3 =>
          simp only [List.getElem?_toArray, List.getElem?_cons_zero, List.getElem?_cons_succ, Option.some.injEq] at ho
          subst ho
          have q2 : a'.tmps[116]?.getD undef = .int .i64 op := hw 2 (by kernel_rfl)
          go_simp
          refine (HCy.out W).mono ?_
          rintro e W' ⟨rfl, LX⟩
          exact hK _ _ (wrote_below LX _) rfl
        | 4 =>
          simp only [List.getElem?_toArray, List.getElem?_cons_zero, List.getElem?_cons_succ, Option.some.injEq] at ho
          subst ho
          have q0 : a'.tmps[114]?.getD undef = .agg cs := hw 0 (by kernel_rfl)
          have q3 : a'.tmps[117]?.getD undef = .int .i64 cy := hw 3 (by kernel_rfl)
          go_simp
          refine (HOv.out W (below_snoc C0 LB)).mono ?_
          rintro e W' ⟨rfl, LX⟩
          exact hK _ _ (wrote_below LX _) rfl
        | 5 =>
          simp only [List.getElem?_toArray, List.getElem?_cons_zero, List.getElem?_cons_succ, Option.some.injEq] at ho
          subst ho
          have q4 : a'.tmps[118]?.getD undef = .int .i64 ov := hw 4 (by kernel_rfl)
          go_simp
          exact hK _ _ (Wrote.refl _ _) rfl
        | _ + 6 => simp at ho
      · intro a' W F L hφ
        have p114 : a'.tmps[114]?.getD undef = .agg cs := hφ 0 (by decide)
        have p115 : a'.tmps[115]?.getD undef = .pointer (some ⟨zi, 0, none⟩) := hφ 1 (by decide)
        have p116 : a'.tmps[116]?.getD undef = .int .i64 op := hφ 2 (by decide)
        have p117 : a'.tmps[117]?.getD undef = .int .i64 cy := hφ 3 (by decide)
        have p118 : a'.tmps[118]?.getD undef = .int .i64 ov := hφ 4 (by decide)
        have p2 : a'.tmps[2]?.getD undef = .int .i64 ov := hφ 5 (by decide)
        rw [F.same, show slotsOf [some 114, some 115, some 116, some 117, some 118, some 2] = [114, 115, 116, 117, 118, 2] from rfl]
        simp only [List.foldl_cons, List.foldl_nil]
        have LB : Below W8.heap.size W8 W := L.below (Nat.le_refl _) (fun b o _ ⟨j, h⟩ => h)
        rw [p2]
        clear p114 p115 p116 p117 p118 p2 hφ
        generalize a'.tmps[114]?.getD undef = g0
        generalize a'.tmps[115]?.getD undef = g1
        generalize a'.tmps[116]?.getD undef = g2
        generalize a'.tmps[117]?.getD undef = g3
        generalize a'.tmps[118]?.getD undef = g4
        clear L F
        refine hK19 _ _ ?_
        clear hK19
        refine ret_put (t := 2) Tryz.results15 (by simp [Act.put]) rfl ?_
        exact ⟨ret_int HE.out.symm, below_snoc C0 LB⟩
  · have HE : Hid (r = overN d.T 7) := by show _ = _; rw [HR.out]; simp
    go_upto_region 2 with (fail)
    refine wp_region_lit ?_
    refine wpList_load_row rfl _ _ rfl (w.heap.size) rfl _ _ _ _ k0 Tryz.underlying61 rfl (infoAtU infoSplit HSZ.out) ?_
    go_wp2_with fail
    refine (HO.out _ C0).mono ?_
    rintro e W4 ⟨rfl, L⟩
    go_wp2
    go_ret
    exact ⟨ret_int HE.out.symm, below_snoc C0 L⟩
end Go.Proofs.YtjcaligejlhjdaaGreatDoor
