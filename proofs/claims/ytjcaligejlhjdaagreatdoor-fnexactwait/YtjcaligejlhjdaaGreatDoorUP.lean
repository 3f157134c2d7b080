/-
  Chapter 15 of the program by its contracts: what a console at work lacks, its plan.
-/
import Derived.Test.YtjcaligejlhjdaaGreatDoorUL
import Derived.Deep.DeepCutAuto
namespace Go.Proofs.YtjcaligejlhjdaaGreatDoor
set_option linter.unusedVariables false
set_option linter.unusedSimpArgs false
open Go.ChangeShapes Go.WideShapes Go.ChangeAt Go.RowKit Go.Sort
theorem ringFull (w : World) (b : Option Addr) (n y : Nat) (cap : Int) (hn : n ≤ 1048576) : Calls Tryz.prog 112 #[.agg #[.int .i64 cap, .slice b n y]] w fun e w' => e = .returned (.bool (decide (cap ≤ n))) ∧ Below w.heap.size w w' := by
  have C0 : Below w.heap.size w (w.alloc (.cells #[.int .i64 cap, .slice b n y] 54)) := (Below.refl _ _).alloc (Nat.le_refl _) _
  have k0 := box_new w #[.int .i64 cap, .slice b n y] 54
  obtain ⟨r, hr⟩ : ∃ r, decide (cap ≤ (n : Int)) = r := ⟨_, rfl⟩
  rw [hr]
  go_enter Tryz.func112, Tryz.ntmps112
  go_upto_region 1 with (fail)
  generalize w.alloc (.cells #[.int .i64 cap, .slice b n y] 54) = W0 at *
  have c0 := boxC k0
  go_wp2
  go_ret
  exact ⟨ret_bool rfl, C0⟩
def lackV (rg acc : Int) (pu su f3 f5 : Bool) : Int := if rg = 2 ∧ acc = 1 ∧ pu = false then 1 else if rg = 3 ∧ acc = 1 ∧ su = false then 2 else if rg = 2 ∧ acc = 2 ∧ f3 = true then 3 else if rg = 3 ∧ acc = 2 ∧ f5 = true then 4 else 0
set_option maxHeartbeats 4000000 in
theorem lacksAp (w : World) (z : Nat) (cs : Array Value) (T p s : Int) (kn : Bool) (ka : Int) (H : ApBox w z cs T p s kn ka) (ds : Array Value) (hs : ds.size = 7) (acc at' : Int) (d3 : ds[3]? = some (.int .i64 acc)) (d4 : ds[4]? = some (.int .i64 at')) (c3 : Int) (b3 : Option Addr) (n3 y3 : Nat) (c5 : Int) (b5 : Option Addr) (n5 y5 : Nat) (hn3 : n3 ≤ 1048576) (hn5 : n5 ≤ 1048576)
    (f29 : cs[29]? = some (.int .i64 c3)) (f30 : cs[30]? = some (.slice b3 n3 y3)) (f39 : cs[39]? = some (.int .i64 c5)) (f40 : cs[40]? = some (.slice b5 n5 y5)) :
    Calls Tryz.prog 68 #[.pointer (some ⟨z, 0, none⟩), .agg ds] w fun e w' => e = .returned (.int .i64 (lackV (rgN (at' % 65536)) acc ((p == T) && (n3 == 0)) ((s == T) && (n5 == 0)) (decide (c3 ≤ n3)) (decide (c5 ≤ n5)))) ∧ Below w.heap.size w w' := by
  obtain ⟨rg, hrg⟩ : ∃ x, Hid (x = rgN (at' % 65536)) := ⟨_, rfl⟩
  obtain ⟨rp, hrp⟩ : ∃ x, Hid (x = rgP (at' % 65536)) := ⟨_, rfl⟩
  obtain ⟨pu, hpu⟩ : ∃ x, Hid (x = ((p == T) && (n3 == 0))) := ⟨_, rfl⟩
  obtain ⟨su, hsu⟩ : ∃ x, Hid (x = ((s == T) && (n5 == 0))) := ⟨_, rfl⟩
  obtain ⟨x3, hx3⟩ : ∃ x, Hid (x = decide (c3 ≤ (n3 : Int))) := ⟨_, rfl⟩
  obtain ⟨x5, hx5⟩ : ∃ x, Hid (x = decide (c5 ≤ (n5 : Int))) := ⟨_, rfl⟩
  obtain ⟨r, hr⟩ : ∃ r, Hid (r = lackV rg acc pu su x3 x5) := ⟨_, rfl⟩
  rw [← hrg.out, ← hpu.out, ← hsu.out, ← hx3.out, ← hx5.out, ← hr.out]
  have HR := hide (fun W => implRegion W at')
  rw [← hrg.out, ← hrp.out] at HR
  have HPt := hide (fun W (L : Below w.heap.size w W) => pictureThere W z cs T p s c3 kn ka b3 n3 y3 hn3 (H.below L) f29 f30)
  rw [← hpu.out] at HPt
  have HSt := hide (fun W (L : Below w.heap.size w W) => soundThere W z cs T p s c5 kn ka b5 n5 y5 hn5 (H.below L) f39 f40)
  rw [← hsu.out] at HSt
  have HF3 := hide (fun W => ringFull W b3 n3 y3 c3 hn3)
  rw [← hx3.out] at HF3
  have HF5 := hide (fun W => ringFull W b5 n5 y5 c5 hn5)
  rw [← hx5.out] at HF5
  clear hrg hrp hpu hsu hx3 hx5
  obtain ⟨bs, k, hb⟩ := H
  have g29 := (hb.lo 29 (by omega)).trans f29
  have g30 := (hb.lo 30 (by omega)).trans f30
  have g39 := (hb.lo 39 (by omega)).trans f39
  have g40 := (hb.lo 40 (by omega)).trans f40
  clear hb hs
  have C0 : Below w.heap.size w (w.alloc (.cells ds 81)) := (Below.refl _ _).alloc (Nat.le_refl _) _
  have kD := box_new w ds 81
  replace k := boxA k (.cells ds 81)
  go_enter Tryz.func68, Tryz.ntmps68
  go_upto_region 1 with (fail)
  generalize w.alloc (.cells ds 81) = W0 at *
  have cD := boxC kD
  go_wp2_with fail
  refine (HR.out _).mono ?_
  rintro e W1 ⟨rfl, hW1⟩
  rw [hW1]
  clear hW1 W1 HR cD
  obtain ⟨a1, ha1⟩ : ∃ x, (acc == 1) = x := ⟨_, rfl⟩
  obtain ⟨a2, ha2⟩ : ∃ x, (acc == 2) = x := ⟨_, rfl⟩
  go_upto_region 2 with (fail)
  have cD := boxU kD
  refine wp_region_quiet_below (by kernel_rfl) (by kernel_rfl) ?_
  repeat (go_big_quiet_step (fail))
  refine wpQuiet_nil ?_
  intro _ hw'
  obtain ⟨⟨dq, osq⟩, hw''⟩ := hw'
  subst hw''
  have LQ := below_regrown W0 dq osq
  replace C0 := below_snoc C0 LQ
  replace k := box_keep k LQ (boxLt k)
  clear cD LQ kD
  generalize grow (redrawn W0 dq) osq = W1 at *
  have c1 := boxC k
  have FIN : ∀ (x : Int) (W : World), r = x → Below w.heap.size w W → (Ending.returned (.int .i64 x) = Ending.returned (.int .i64 r) ∧ Below w.heap.size w W) := fun x W h L => ⟨by rw [h], L⟩
  have FINH := hide FIN
  clear FIN
  by_cases r2 : rg = 2
  · subst r2
    cases a1
    · cases a2
      · have HE : Hid (r = 0) := by show _ = _; rw [hr.out]; unfold lackV; simp at ha1 ha2; simp [ha1, ha2]
        go_wp2
        go_ret
        exact FINH.out _ _ HE.out C0
      · go_wp2_with fail
        refine (HF3.out _).mono ?_
        rintro e W2 ⟨rfl, LB⟩
        have C1 := below_snoc C0 LB
        have k2 := box_keep k LB (boxLt k)
        clear c1 k LB C0
        have c2 := boxC k2
        cases x3
        · have HE : Hid (r = 0) := by show _ = _; rw [hr.out]; unfold lackV; simp at ha1 ha2; simp [ha2]
          go_wp2
          go_ret
          exact FINH.out _ _ HE.out C1
        · have HE : Hid (r = 3) := by show _ = _; rw [hr.out]; unfold lackV; simp at ha1 ha2; simp [ha2]
          go_wp2
          go_ret
          exact FINH.out _ _ HE.out C1
    · go_wp2_with fail
      refine (HPt.out _ C0).mono ?_
      rintro e W2 ⟨rfl, LB⟩
      have C1 := below_snoc C0 LB
      have k2 := box_keep k LB (boxLt k)
      clear c1 k LB C0
      have c2 := boxC k2
      cases pu
      · have HE : Hid (r = 1) := by show _ = _; rw [hr.out]; unfold lackV; simp at ha1 ha2; simp [ha1]
        go_wp2
        go_ret
        exact FINH.out _ _ HE.out C1
      · obtain rfl : a2 = false := by rw [← ha2]; simp at ha1 ⊢; omega
        have HE : Hid (r = 0) := by show _ = _; rw [hr.out]; unfold lackV; simp at ha1 ha2; simp [ha1]
        go_wp2
        go_ret
        exact FINH.out _ _ HE.out C1
  have e2 : (rg == 2) = false := by simpa using r2
  by_cases r3 : rg = 3
  · subst r3
    clear r2 e2
    cases a1
    · cases a2
      · have HE : Hid (r = 0) := by show _ = _; rw [hr.out]; unfold lackV; simp at ha1 ha2; simp [ha1, ha2]
        go_wp2
        go_ret
        exact FINH.out _ _ HE.out C0
      · go_wp2_with fail
        refine (HF5.out _).mono ?_
        rintro e W2 ⟨rfl, LB⟩
        have C1 := below_snoc C0 LB
        have k2 := box_keep k LB (boxLt k)
        clear c1 k LB C0
        have c2 := boxC k2
        cases x5
        · have HE : Hid (r = 0) := by show _ = _; rw [hr.out]; unfold lackV; simp at ha1 ha2; simp [ha2]
          go_wp2
          go_ret
          exact FINH.out _ _ HE.out C1
        · have HE : Hid (r = 4) := by show _ = _; rw [hr.out]; unfold lackV; simp at ha1 ha2; simp [ha2]
          go_wp2
          go_ret
          exact FINH.out _ _ HE.out C1
    · go_wp2_with fail
      refine (HSt.out _ C0).mono ?_
      rintro e W2 ⟨rfl, LB⟩
      have C1 := below_snoc C0 LB
      have k2 := box_keep k LB (boxLt k)
      clear c1 k LB C0
      have c2 := boxC k2
      cases su
      · have HE : Hid (r = 2) := by show _ = _; rw [hr.out]; unfold lackV; simp at ha1 ha2; simp [ha1]
        go_wp2
        go_ret
        exact FINH.out _ _ HE.out C1
      · obtain rfl : a2 = false := by rw [← ha2]; simp at ha1 ⊢; omega
        have HE : Hid (r = 0) := by show _ = _; rw [hr.out]; unfold lackV; simp at ha1 ha2; simp [ha1]
        go_wp2
        go_ret
        exact FINH.out _ _ HE.out C1
  · have e3 : (rg == 3) = false := by simpa using r3
    have HE : Hid (r = 0) := by show _ = _; rw [hr.out]; unfold lackV; simp [r2, r3]
    clear r2 r3
    go_wp2
    go_ret
    exact FINH.out _ _ HE.out C0
structure OneCells (ds : Array Value) : Prop where
  sz : ds.size = 7
  all : ds.all (·.oneCell') = true
def dAcc (so : Bool) (op : Int) : Int := if so then 0 else accOf op
def dAt (so : Bool) (op arg X : Int) : Int := if so then 0 else accAt op arg X
def dCyc (so : Bool) (op : Int) : Int := if so then 7 else cycOf op
theorem deedU_facts (nm as' : Bool) (op arg A X : Int) : (deedU nm as' op arg A X).size = 7 ∧ (deedU nm as' op arg A X).all (·.oneCell') = true ∧ (deedU nm as' op arg A X)[3]? = some (.int .i64 (dAcc (nm || as') op)) ∧ (deedU nm as' op arg A X)[4]? = some (.int .i64 (dAt (nm || as') op arg X)) ∧ (deedU nm as' op arg A X)[6]? = some (.int .i64 (dCyc (nm || as') op)) := by
  cases nm <;> cases as' <;> exact ⟨rfl, by first | kernel_rfl | simp [deedU, Value.oneCell'], rfl, rfl, rfl⟩
theorem dCyc_in (so : Bool) (op : Int) : 0 ≤ dCyc so op ∧ dCyc so op ≤ 100 := by
  unfold dCyc
  cases so
  · exact cyc_in op
  · exact ⟨show (0 : Int) ≤ 7 by omega, show (7 : Int) ≤ 100 by omega⟩
def planV (hr : Bool) (l T c : Int) : Int := if hr = false then 2 else if l ≠ 0 then l else if 20000 < T + c then 5 else 0
theorem results_row_tmpK {P : Program} {fn : Func} {p q : Tmp} {ty : TypeId} (h : fn.results = #[.cell p ty, .tmp q]) (tmps : Array Value) (w : World) (g : Nat) (t : TypeId) (cs : Array Value) (fr : Nat × Nat) (dd : TypeDesc)
    (hp : tmps.getD p undef = .pointer (some ⟨g, 0, none⟩)) (hg : w.heap[g]? = some (.cells cs t fr)) (hu : P.underlying ty = some dd) (hd : (match dd with | .struct _ | .array _ _ => true | _ => false) = true) (hi : (P.info? ty).map (·.size) = some cs.size) :
    (results fn tmps).run P w = .ok (.tuple #[.agg cs, tmps.getD q undef]) w := by
  have hp' : tmps[p]?.getD undef = .pointer (some ⟨g, 0, none⟩) := by simpa using hp
  simp [results, h, hp', asAddr, run_loadVar_row w g t ty cs fr dd hg hu hd hi]
set_option maxHeartbeats 4000000 in
theorem planAp (w0 w : World) (z : Nat) (cs : Array Value) (T p s : Int) (kn : Bool) (ka : Int) (F G : Nat → Nat → Prop) (u0 u2 : Value) (m : Nat) (ln : Nat → Nat) (f : Nat → Nat → Int) (nr : Nat) (g : Nat → Int) (bank A X S Pc : Int) (Z N C I nm Q : Bool) (c3 : Int) (b3 : Option Addr) (n3 y3 : Nat) (c5 : Int) (b5 : Option Addr) (n5 y5 : Nat) (hn3 : n3 ≤ 1048576) (hn5 : n5 ≤ 1048576) (hT0 : 0 ≤ T) (hT1 : T ≤ 20000) (L0 : Below w0.heap.size w0 w) (hz : w0.heap.size ≤ z) (H : ApBox w z cs T p s kn ka) (T0 : OpTab w0)
    (i0 : IntSS .i64 w0 F u0 m ln f) (i2 : Ints .i64 w0 G u2 nr g) (f0 : cs[0]? = some u0) (f2 : cs[2]? = some u2) (f3 : cs[3]? = some (.int .i64 bank)) (f4 : cs[4]? = some (.int .i64 A)) (f5 : cs[5]? = some (.int .i64 X)) (f6 : cs[6]? = some (.int .i64 S)) (f7 : cs[7]? = some (.int .i64 Pc)) (f8 : cs[8]? = some (.bool Z)) (f9 : cs[9]? = some (.bool N)) (f10 : cs[10]? = some (.bool C)) (f11 : cs[11]? = some (.bool I)) (f15 : cs[15]? = some (.bool nm)) (f38 : cs[38]? = some (.bool Q)) (f29 : cs[29]? = some (.int .i64 c3)) (f30 : cs[30]? = some (.slice b3 n3 y3)) (f39 : cs[39]? = some (.int .i64 c5)) (f40 : cs[40]? = some (.slice b5 n5 y5)) (up beat : Bool) (hup : Hid (up = ((s == T) && (n5 == 0)))) (hbt : Hid (beat = in9 ka T 0 32)) (so : Bool) (hso : Hid (so = (nm || (hearK nm I beat up Q kn && !I)))) (op arg : Int) (hop : Hid (op = peekV m ln f nr g bank Pc)) (harg : Hid (arg = fetchA (peekV m ln f nr g bank) Pc)) (l : Int) (hl : Hid (l = lackV (rgN (dAt so op arg X % 65536)) (dAcc so op) ((p == T) && (n3 == 0)) up (decide (c3 ≤ n3)) (decide (c5 ≤ n5)))) :
    Calls Tryz.prog 25 #[.pointer (some ⟨z, 0, none⟩)] w fun e w' => ∃ ds, OneCells ds ∧ e = .returned (.tuple #[.agg ds, .int .i64 (planV (hearR nm I beat up) l T (dCyc so op))]) ∧ (hearR nm I beat up = true → ds = deedU nm (hearK nm I beat up Q kn && !I) op arg A X) ∧ ApBox w' z cs T p s (hearK nm I beat up Q kn) (hearA nm I beat up T ka) ∧ Wrote (fun b _ => b = z) w w' := by
  have HHr := hide (fun W h => hearAp W z cs T p s kn ka nm I Q c5 b5 n5 y5 hn5 h f11 f15 f38 f39 f40)
  rw [← hup.out, ← hbt.out] at HHr
  obtain ⟨hr, hhr⟩ : ∃ x, Hid (x = hearR nm I beat up) := ⟨_, rfl⟩
  obtain ⟨kn', hkn⟩ : ∃ x, Hid (x = hearK nm I beat up Q kn) := ⟨_, rfl⟩
  obtain ⟨ka', hka⟩ : ∃ x, Hid (x = hearA nm I beat up T ka) := ⟨_, rfl⟩
  rw [← hhr.out, ← hkn.out, ← hka.out] at HHr ⊢
  rw [← hkn.out] at hso
  obtain ⟨cy, hcy⟩ : ∃ x, Hid (x = dCyc so op) := ⟨_, rfl⟩
  rw [← hcy.out]
  have hc0 : 0 ≤ cy := by rw [hcy.out]; exact (dCyc_in so op).1
  have hc1 : cy ≤ 100 := by rw [hcy.out]; exact (dCyc_in so op).2
  obtain ⟨r, hr'⟩ : ∃ r, Hid (r = planV hr l T cy) := ⟨_, rfl⟩
  rw [← hr'.out]
  obtain ⟨dF1, dF2, dF3, dF4, dF5⟩ := deedU_facts nm (kn' && !I) op arg A X
  rw [← hso.out] at dF3 dF4 dF5
  rw [← hcy.out] at dF5
  have HNx := hide (fun W L h => nextAp w0 W z cs T p s kn' ka' F G u0 u2 m ln f nr g bank A X S Pc Z N C I nm L hz h T0 i0 i2 f0 f2 f3 f4 f5 f6 f7 f8 f9 f10 f11 f15)
  rw [← hop.out, ← harg.out] at HNx
  obtain ⟨ds, hds⟩ : ∃ x, Hid (x = deedU nm (kn' && !I) op arg A X) := ⟨_, rfl⟩
  rw [← hds.out] at dF1 dF2 dF3 dF4 dF5 HNx ⊢
  have HSZ := hide dF1
  have HALL := hide dF2
  obtain ⟨ac, hac⟩ : ∃ x, Hid (x = dAcc so op) := ⟨_, rfl⟩
  obtain ⟨ax, hax⟩ : ∃ x, Hid (x = dAt so op arg X) := ⟨_, rfl⟩
  rw [← hac.out] at dF3
  rw [← hax.out] at dF4
  have HLk := hide (fun W h => lacksAp W z cs T p s kn' ka' h ds HSZ.out ac ax dF3 dF4 c3 b3 n3 y3 c5 b5 n5 y5 hn3 hn5 f29 f30 f39 f40)
  rw [hac.out, hax.out, ← hup.out, ← hl.out] at HLk
  clear hhr hkn hka hcy hso hop harg hl hup hbt dF1 dF2 dF3 dF4 hac hax f0 f2 f3 f4 f5 f6 f7 f8 f9 f10 f11 f15 f38 f29 f30 f39 f40 i0 i2 T0
  obtain ⟨bs, k, hb⟩ := H
  have HB := hide hb
  clear hb
  have C0 : Below w.heap.size w (w.alloc (.cells #[.int .i64 0, .int .i64 0, .int .i64 0, .int .i64 0, .int .i64 0, .int .i64 0, .int .i64 0] 81)) := (Below.refl _ _).alloc (Nat.le_refl _) _
  have kR := box_new w #[.int .i64 0, .int .i64 0, .int .i64 0, .int .i64 0, .int .i64 0, .int .i64 0, .int .i64 0] 81
  have hzw : z < w.heap.size := boxLt k
  replace k := boxA k (.cells #[.int .i64 0, .int .i64 0, .int .i64 0, .int .i64 0, .int .i64 0, .int .i64 0, .int .i64 0] 81)
  go_enter Tryz.func25, Tryz.ntmps25
  go_upto_region 1 with (fail)
  generalize w.alloc (.cells #[.int .i64 0, .int .i64 0, .int .i64 0, .int .i64 0, .int .i64 0, .int .i64 0, .int .i64 0] 81) = W0 at *
  go_wp2_with fail
  refine (HHr.out W0 ⟨bs, k, HB.out⟩).mono ?_
  clear HHr HB
  rintro e W1 ⟨rfl, HX, hW1⟩
  obtain ⟨bs1, k1, hb1⟩ := HX
  have HB1 := hide hb1
  replace kR := box_wroteE kR hW1 (fun o (e : _ = _) => by omega)
  have LW := (wrote_below C0 (fun b _ => b = z)).trans hW1
  clear hb1 k hW1 C0
  cases hr
  case false =>
    have HE : Hid (r = 2) := by show _ = _; rw [hr'.out]; rfl
    go_wp2_with (refine wpList_store_row rfl _ _ _ rfl (w.heap.size) #[.int .i64 0, .int .i64 0, .int .i64 0, .int .i64 0, .int .i64 0, .int .i64 0, .int .i64 0] rfl rfl _ _ kR infoDeed rfl (by kernel_rfl) ?_)
    have kF := setRow_heap _ _ _ #[.int .i64 0, .int .i64 0, .int .i64 0, .int .i64 0, .int .i64 0, .int .i64 0, .int .i64 0] _ _ kR
    have WW := wroteRowK kR #[.int .i64 0, .int .i64 0, .int .i64 0, .int .i64 0, .int .i64 0, .int .i64 0, .int .i64 0]
    have k9 := box_wroteE k1 WW (fun o (e : _ = _) => by omega)
    have L9 := LW.behind (Wrote.refl _ _) (Nat.le_refl _) WW
    clear k1 kR WW LW
    generalize W1.setRow w.heap.size #[.int .i64 0, .int .i64 0, .int .i64 0, .int .i64 0, .int .i64 0, .int .i64 0, .int .i64 0] = W9 at *
    go_wp2
    refine bodyPost_ret (v := .tuple #[.agg #[.int .i64 0, .int .i64 0, .int .i64 0, .int .i64 0, .int .i64 0, .int .i64 0, .int .i64 0], .int .i64 2]) (by exact results_row_tmpK Tryz.results25 _ _ w.heap.size _ _ _ _ rfl kF Tryz.underlying81 rfl infoDeed) rfl ?_
    exact ⟨#[.int .i64 0, .int .i64 0, .int .i64 0, .int .i64 0, .int .i64 0, .int .i64 0, .int .i64 0], ⟨rfl, by kernel_rfl⟩, by rw [HE.out], fun h => by simp at h, ⟨_, k9, HB1.out⟩, L9⟩
  go_upto_region 3 with (fail)
  rename_i K3 hK3
  refine wp_region_lit ?_
  (refine wpList_plain rfl (fun K9 hK9 => ?_); go_simp; refine hK9 _ _ ?_; clear hK9)
  refine wpList_plain rfl (fun K9 hK9 => ?_)
  go_simp
  refine (HNx.out W1 (belowZ L0 hz LW) ⟨bs1, k1, HB1.out⟩).mono ?_
  clear HNx HB1
  rintro e W2 ⟨rfl, HX, hW2⟩
  obtain ⟨bs2, k2, hb2⟩ := HX
  have HB2 := hide hb2
  replace kR := box_wroteE kR hW2 (fun o (e : _ = _) => by omega)
  replace LW := LW.trans hW2
  clear hb2 k1 hW2
  refine hK9 _ _ ?_
  clear hK9
  (refine wpList_plain rfl (fun K9 hK9 => ?_); go_simp; refine hK9 _ _ ?_; clear hK9)
  have LA : Below W2.heap.size W2 (W2.alloc (.cells #[.int .i64 0, .int .i64 0, .int .i64 0, .int .i64 0, .int .i64 0, .int .i64 0, .int .i64 0] 81)) := (Below.refl _ _).alloc (Nat.le_refl _) _
  have kq := box_new W2 #[.int .i64 0, .int .i64 0, .int .i64 0, .int .i64 0, .int .i64 0, .int .i64 0, .int .i64 0] 81
  have hq1 := boxLt kR
  have hq2 := boxLt k2
  replace kR := boxA kR (.cells #[.int .i64 0, .int .i64 0, .int .i64 0, .int .i64 0, .int .i64 0, .int .i64 0, .int .i64 0] 81)
  replace k2 := boxA k2 (.cells #[.int .i64 0, .int .i64 0, .int .i64 0, .int .i64 0, .int .i64 0, .int .i64 0, .int .i64 0] 81)
  replace LW := LW.trans (wrote_below LA _)
  clear LA
  obtain ⟨q, hq⟩ : ∃ q, Hid (q = W2.heap.size) := ⟨_, rfl⟩
  rw [← hq.out] at kq hq1 hq2 ⊢
  clear hq
  generalize W2.alloc (.cells #[.int .i64 0, .int .i64 0, .int .i64 0, .int .i64 0, .int .i64 0, .int .i64 0, .int .i64 0] 81) = W3 at *
  refine wpList_store_row rfl _ _ _ rfl q ds rfl rfl _ _ kq (infoAtU infoDeed HSZ.out) (by rw [HSZ.out]; rfl) HALL.out ?_
  have WW := wroteRowK kq ds
  replace kR := box_wroteE kR WW (fun o (e : _ = _) => by omega)
  have k3 := box_wroteE k2 WW (fun o (e : _ = _) => by omega)
  replace kq := setRow_heap _ _ _ ds _ _ kq
  replace LW := LW.behind (Wrote.refl _ _) (by omega) WW
  clear k2 WW
  generalize W3.setRow q ds = W3' at *
  refine hK3 _ _ ?_
  clear hK3
  go_simp
  go_wp2_with (refine wpList_load_row rfl _ _ rfl q rfl _ _ _ _ kq Tryz.underlying81 rfl (infoAtU infoDeed HSZ.out) ?_)
  refine (HLk.out W3' ⟨bs2, k3, HB2.out⟩).mono ?_
  clear HLk
  rintro e W4 ⟨rfl, LB⟩
  have k4 := box_keep k3 LB (boxLt k3)
  replace kR := box_keep kR LB (boxLt kR)
  replace kq := box_keep kq LB (boxLt kq)
  replace LW := LW.trans (wrote_below LB _)
  clear k3 LB
  have HB4 := HB2
  have HDS : Hid (ds = ds) := rfl
  clear HB2
  by_cases hl0 : l = 0
  case neg =>
    have HE : Hid (r = l) := by show _ = _; rw [hr'.out]; unfold planV; simp [hl0]
    have hl1 : (l != 0) = true := by simpa using hl0
    clear hl0
    go_wp2_with (first | refine wpList_load_row rfl _ _ rfl q rfl _ _ _ _ kq Tryz.underlying81 rfl (infoAtU infoDeed HSZ.out) ?_ | refine wpList_store_row rfl _ _ _ rfl (w.heap.size) ds rfl rfl _ _ kR (infoAtU infoDeed HSZ.out) (by rw [HSZ.out]; rfl) HALL.out ?_)
    have kF := setRow_heap _ _ _ ds _ _ kR
    have WW := wroteRowK kR ds
    have k9 := box_wroteE k4 WW (fun o (e : _ = _) => by omega)
    have L9 := LW.behind (Wrote.refl _ _) (Nat.le_refl _) WW
    clear k4 kR kq WW LW
    generalize W4.setRow w.heap.size ds = W9 at *
    go_wp2
    refine bodyPost_ret (v := .tuple #[.agg ds, .int .i64 l]) (by exact results_row_tmpK Tryz.results25 _ _ w.heap.size _ _ _ _ rfl kF Tryz.underlying81 rfl (infoAtU infoDeed HSZ.out)) rfl ?_
    exact ⟨ds, ⟨HSZ.out, HALL.out⟩, by rw [HE.out], by first | rfl | exact fun _ => rfl, ⟨_, k9, HB4.out⟩, L9⟩

  subst hl0
  go_upto_region 7 with (fail)
  have c4 := boxU k4
  have cq := boxU kq
  have HN := hide (nowAny W4 z 42 bs2 _ T k4 HB4.out.c42)
  refine wp_region_quiet_below (by kernel_rfl) (by kernel_rfl) ?_
  obtain ⟨ov, hov⟩ : ∃ x, decide (20000 < T + cy) = x := ⟨_, rfl⟩
  repeat (go_big_quiet_step (first | (go_at_call 69; with_reducible exact Calls.regrown_of (HN.out _ _))))
  refine wpQuiet_nil ?_
  intro _ hw'
  obtain ⟨⟨dq, osq⟩, hw''⟩ := hw'
  subst hw''
  have LQ := below_regrown W4 dq osq
  replace k4 := box_keep k4 LQ (boxLt k4)
  replace kR := box_keep kR LQ (boxLt kR)
  replace kq := box_keep kq LQ (boxLt kq)
  replace LW := LW.trans (wrote_below LQ _)
  clear c4 cq LQ HN
  generalize grow (redrawn W4 dq) osq = W4 at *
  cases ov
  case true =>
    have HE : Hid (r = 5) := by show _ = _; rw [hr'.out]; unfold planV; simp at hov; simp [hov]
    go_wp2_with (first | refine wpList_load_row rfl _ _ rfl q rfl _ _ _ _ kq Tryz.underlying81 rfl (infoAtU infoDeed HSZ.out) ?_ | refine wpList_store_row rfl _ _ _ rfl (w.heap.size) ds rfl rfl _ _ kR (infoAtU infoDeed HSZ.out) (by rw [HSZ.out]; rfl) HALL.out ?_)
    have kF := setRow_heap _ _ _ ds _ _ kR
    have WW := wroteRowK kR ds
    have k9 := box_wroteE k4 WW (fun o (e : _ = _) => by omega)
    have L9 := LW.behind (Wrote.refl _ _) (Nat.le_refl _) WW
    clear k4 kR kq WW LW
    generalize W4.setRow w.heap.size ds = W9 at *
    go_wp2
    refine bodyPost_ret (v := .tuple #[.agg ds, .int .i64 5]) (by exact results_row_tmpK Tryz.results25 _ _ w.heap.size _ _ _ _ rfl kF Tryz.underlying81 rfl (infoAtU infoDeed HSZ.out)) rfl ?_
    exact ⟨ds, ⟨HSZ.out, HALL.out⟩, by rw [HE.out], by first | rfl | exact fun _ => rfl, ⟨_, k9, HB4.out⟩, L9⟩

  have HE : Hid (r = 0) := by show _ = _; rw [hr'.out]; unfold planV; simp at hov; simp; omega
  go_wp2_with (first | refine wpList_load_row rfl _ _ rfl q rfl _ _ _ _ kq Tryz.underlying81 rfl (infoAtU infoDeed HSZ.out) ?_ | refine wpList_store_row rfl _ _ _ rfl (w.heap.size) ds rfl rfl _ _ kR (infoAtU infoDeed HSZ.out) (by rw [HSZ.out]; rfl) HALL.out ?_)
  have kF := setRow_heap _ _ _ ds _ _ kR
  have WW := wroteRowK kR ds
  have k9 := box_wroteE k4 WW (fun o (e : _ = _) => by omega)
  have L9 := LW.behind (Wrote.refl _ _) (Nat.le_refl _) WW
  clear k4 kR kq WW LW
  generalize W4.setRow w.heap.size ds = W9 at *
  go_wp2
  refine bodyPost_ret (v := .tuple #[.agg ds, .int .i64 0]) (by exact results_row_tmpK Tryz.results25 _ _ w.heap.size _ _ _ _ rfl kF Tryz.underlying81 rfl (infoAtU infoDeed HSZ.out)) rfl ?_
  exact ⟨ds, ⟨HSZ.out, HALL.out⟩, by rw [HE.out], by first | rfl | exact fun _ => rfl, ⟨_, k9, HB4.out⟩, L9⟩
end Go.Proofs.YtjcaligejlhjdaaGreatDoor
