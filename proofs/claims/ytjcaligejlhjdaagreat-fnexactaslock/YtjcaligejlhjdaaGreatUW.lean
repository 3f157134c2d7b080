/-
  What the laws over a console apart start from.
-/
import Derived.Test.YtjcaligejlhjdaaGreatUB
import Derived.Test.YtjcaligejlhjdaaGreatUC
import Derived.Test.YtjcaligejlhjdaaGreatC7
import Derived.Test.YtjcaligejlhjdaaGreatU0
import Derived.Test.YtjcaligejlhjdaaGreatS2
import Derived.Test.YtjcaligejlhjdaaGreatG0
import Derived.Deep.WholeRow
import Derived.Deep.RegionHeld3
import Derived.Deep.DeepCutAuto
namespace Go.Proofs.YtjcaligejlhjdaaGreat
set_option linter.unusedVariables false
set_option linter.unusedSimpArgs false
open Go.ChangeShapes Go.WideShapes Go.ChangeAt Go.RowKit
/-- A console apart as it is handed in. -/
structure RawS (w : World) (d : SpD) (u0 : Value) (ra0 : Nat → Option Addr) (rc0 : Nat → Nat) (a1 : Option Addr) (c1 : Nat) (a2 : Option Addr) (c2 : Nat) (a3 : Option Addr) (c3 : Nat) (b1 : Option Addr) (y1 : Nat) (b2 : Option Addr) (y2 : Nat) (b3 : Option Addr) (y3 : Nat) (b4 : Option Addr) (y4 : Nat) (ra4 : Nat → Option Addr) (rc4 : Nat → Nat) (e1 : Option Addr) (z1 : Nat) (e2 : Option Addr) (z2 : Nat) : Prop where
  r0 : RawSS w u0 d.m ra0 d.ln rc0 d.f
  r7 : RawSS w (.slice b4 d.pc.mf y4) d.pc.mf ra4 d.pc.lf rc4 d.pc.fr
  n1 : d.np ≤ 9223372036854775807
  r1 : RowOf .i64 w a1 d.np d.p
  n2 : d.nr ≤ 9223372036854775807
  r2 : RowOf .i64 w a2 d.nr d.g
  n3 : d.nq ≤ 9223372036854775807
  r3 : RowOf .i64 w a3 d.nq d.rd
  n4 : d.pc.nt ≤ 9223372036854775807
  r4 : RowOf .i64 w b1 d.pc.nt d.pc.tb
  n5 : d.pc.nd ≤ 9223372036854775807
  r5 : RowOf .i64 w b2 d.pc.nd d.pc.dt
  n6 : d.pc.n ≤ 9223372036854775807
  r6 : RowOf .i64 w b3 (d.pc.n * 3) d.pc.f
  n7 : d.sn.n ≤ 9223372036854775807
  r8 : RowOf .i64 w e1 (d.sn.n * 3) d.sn.f
  n8 : d.sn.ns ≤ 9223372036854775807
  r9 : RowOf .i64 w e2 d.sn.ns d.sn.sm
theorem RawS.raw {w W : World} {d : SpD} {u0 : Value} {ra0 : Nat → Option Addr} {rc0 : Nat → Nat} {a1 : Option Addr} {c1 : Nat} {a2 : Option Addr} {c2 : Nat} {a3 : Option Addr} {c3 : Nat} {b1 : Option Addr} {y1 : Nat} {b2 : Option Addr} {y2 : Nat} {b3 : Option Addr} {y3 : Nat} {b4 : Option Addr} {y4 : Nat} {ra4 : Nat → Option Addr} {rc4 : Nat → Nat} {e1 : Option Addr} {z1 : Nat} {e2 : Option Addr} {z2 : Nat} (H : RawS w d u0 ra0 rc0 a1 c1 a2 c2 a3 c3 b1 y1 b2 y2 b3 y3 b4 y4 ra4 rc4 e1 z1 e2 z2) (hs : szSp d ≤ 1048576) (L : Below w.heap.size w W) : RawP W u0 (.slice a1 d.np c1) (.slice a2 d.nr c2) (.slice a3 d.nq c3) (.slice b1 d.pc.nt y1) (.slice b2 d.pc.nd y2) b3 (.slice b4 d.pc.mf y4) e1 e2 d := by
  have i0 : d.m + psum d.ln d.m ≤ 1048576 := by unfold szSp at hs; omega
  have i7 : d.pc.mf + psum d.pc.lf d.pc.mf ≤ 1048576 := by unfold szSp at hs; omega
  exact ⟨⟨_, (H.r0.ints i0).keep (wrote_below L Nowhere) (fun _ _ _ x => x)⟩, ⟨fun _ _ => True, Ints.keep (F := fun _ _ => True) ⟨_, _, rfl, by unfold szSp at hs; omega, H.r1, fun _ _ _ => trivial⟩ (wrote_below L Nowhere) (fun _ _ _ x => x)⟩, ⟨fun _ _ => True, Ints.keep (F := fun _ _ => True) ⟨_, _, rfl, by unfold szSp at hs; omega, H.r2, fun _ _ _ => trivial⟩ (wrote_below L Nowhere) (fun _ _ _ x => x)⟩, ⟨fun _ _ => True, Ints.keep (F := fun _ _ => True) ⟨_, _, rfl, by unfold szSp at hs; omega, H.r3, fun _ _ _ => trivial⟩ (wrote_below L Nowhere) (fun _ _ _ x => x)⟩, ⟨fun _ _ => True, Ints.keep (F := fun _ _ => True) ⟨_, _, rfl, by unfold szSp at hs; omega, H.r4, fun _ _ _ => trivial⟩ (wrote_below L Nowhere) (fun _ _ _ x => x)⟩, ⟨fun _ _ => True, Ints.keep (F := fun _ _ => True) ⟨_, _, rfl, by unfold szSp at hs; omega, H.r5, fun _ _ _ => trivial⟩ (wrote_below L Nowhere) (fun _ _ _ x => x)⟩, H.r6.keep (wrote_below L Nowhere) (fun _ _ _ x => x), ⟨_, (H.r7.ints i7).keep (wrote_below L Nowhere) (fun _ _ _ x => x)⟩, H.r8.keep (wrote_below L Nowhere) (fun _ _ _ x => x), H.r9.keep (wrote_below L Nowhere) (fun _ _ _ x => x)⟩
theorem infoAtU {P : Program} {ty : TypeId} {n : Nat} {cs : Array Value} (h : (P.info? ty).map (·.size) = some n) (hs : cs.size = n) : (P.info? ty).map (·.size) = some cs.size := by rw [hs]; exact h
end Go.Proofs.YtjcaligejlhjdaaGreat
namespace Go.Proofs.YtjcaligejlhjdaaGreat
set_option linter.unusedVariables false
set_option linter.unusedSimpArgs false
open Go.ChangeShapes Go.WideShapes Go.ChangeAt Go.RowKit Go.Sort
def picUp (d : SpD) : Bool := (d.pc.t == d.T) && (d.pc.n == 0)
def sndUp (d : SpD) : Bool := (d.sn.T == d.T) && (d.sn.n == 0)
/-- What is read of a console apart one by one. -/
structure SpCs (W : World) (D : Nat → Nat → Prop) (cs : Array Value) (d : SpD) (u0 u2 : Value) (b3 : Option Addr) (y3 : Nat) (e1 : Option Addr) (z1 : Nat) : Prop where
  f0 : cs[0]? = some u0
  f2 : cs[2]? = some u2
  f3 : cs[3]? = some (.int .i64 d.bank)
  f4 : cs[4]? = some (.int .i64 d.A)
  f5 : cs[5]? = some (.int .i64 d.X)
  f6 : cs[6]? = some (.int .i64 d.S)
  f7 : cs[7]? = some (.int .i64 d.Pc)
  f8 : cs[8]? = some (.bool d.Z)
  f9 : cs[9]? = some (.bool d.N)
  f10 : cs[10]? = some (.bool d.C)
  f11 : cs[11]? = some (.bool d.I)
  f14 : cs[14]? = some (.int .i64 d.T)
  f15 : cs[15]? = some (.bool d.nmi)
  f17 : cs[17]? = some (.bool d.kn)
  f18 : cs[18]? = some (.int .i64 d.ka)
  f21 : cs[21]? = some (.int .i64 d.pc.t)
  f29 : cs[29]? = some (.int .i64 d.pc.cap)
  f30 : cs[30]? = some (.slice b3 d.pc.n y3)
  f32 : cs[32]? = some (.int .i64 d.sn.T)
  f38 : cs[38]? = some (.bool d.sn.Q)
  f39 : cs[39]? = some (.int .i64 d.sn.cap)
  f40 : cs[40]? = some (.slice e1 d.sn.n z1)
  i0 : IntSS .i64 W (On (D 0)) u0 d.m d.ln d.f
  i2 : Ints .i64 W (On (D 2)) u2 d.nr d.g
  n3 : d.pc.n ≤ 1048576
  n5 : d.sn.n ≤ 1048576
  sz : cs.size = 42
theorem SplitOn.cells {W : World} {D : Nat → Nat → Prop} {cs : Array Value} {d : SpD} (H : SplitOn W D (.agg cs) d) : ∃ u0 u2 b3 y3 e1 z1, SpCs W D cs d u0 u2 b3 y3 e1 z1 := by
  obtain ⟨u0, u1, u2, u3, q1, q2, q3, q4, r1, r2, e, h0, h1, h2, h3, h4, h5⟩ := H
  obtain ⟨y2, hy2, g2⟩ := h2.ints
  simp only [Value.agg.injEq, Array.mk.injEq, List.cons.injEq, and_true] at hy2
  subst hy2
  obtain ⟨s3, c3, rfl, n3⟩ : ∃ a c, q3 = .slice a d.pc.n c ∧ d.pc.n ≤ 1048576 := by
    obtain ⟨x1, x2, x3, x4, e, -, hr, -⟩ := id h4
    simp only [Value.agg.injEq, Array.mk.injEq, List.cons.injEq, and_true, true_and] at e
    obtain ⟨-, -, rfl, -⟩ := e
    obtain ⟨a, c, e1, hn, -⟩ := id hr
    exact ⟨a, c, e1, hn.1⟩
  obtain ⟨s5, c5, rfl, n5⟩ : ∃ a c, r1 = .slice a d.sn.n c ∧ d.sn.n ≤ 1048576 := by
    obtain ⟨x1, x2, e, hr, -⟩ := id h5
    simp only [Value.agg.injEq, Array.mk.injEq, List.cons.injEq, and_true, true_and] at e
    obtain ⟨rfl, -⟩ := e
    obtain ⟨a, c, e1, hn, -⟩ := id hr
    exact ⟨a, c, e1, hn.1⟩
  obtain rfl := Value.agg.inj e
  exact ⟨u0, u2, s3, c3, s5, c5, rfl, rfl, rfl, rfl, rfl, rfl, rfl, rfl, rfl, rfl, rfl, rfl, rfl, rfl, rfl, rfl, rfl, rfl, rfl, rfl, rfl, rfl, h0.ints, g2, n3, n5, rfl⟩
set_option maxHeartbeats 1000000 in
theorem l15SoundUp (w : World) (D : Nat → Nat → Prop) (cs : Array Value) (d : SpD) (H : SplitOn w D (.agg cs) d) : Calls Tryz.prog 57 #[.agg cs] w fun e w' => e = .returned (.bool (sndUp d)) ∧ Below w.heap.size w w' := by
  obtain ⟨u0, u2, b3, y3, e1, z1, F⟩ := H.cells
  obtain ⟨r, hr⟩ : ∃ r, Hid (r = sndUp d) := ⟨_, rfl⟩
  rw [← hr.out]
  have f14 := F.f14
  have f32 := F.f32
  have f40 := F.f40
  have n5 := F.n5
  have C0 : Below w.heap.size w (w.alloc (.cells cs 46)) := (Below.refl _ _).alloc (Nat.le_refl _) _
  have k0 := box_new w cs 46
  clear H F
  go_enter Tryz.func57, Tryz.ntmps57
  go_upto_region 1 with (fail)
  generalize w.alloc (.cells cs 46) = W0 at *
  have k1 := boxC k0
  by_cases h : d.sn.T = d.T
  · have h' : (d.sn.T == d.T) = true := by simp [h]
    by_cases h2 : d.sn.n = 0
    · have h2' : ((d.sn.n : Int) == 0) = true := by simp [h2]
      have HE : Hid (r = true) := by show _ = _; rw [hr.out, sndUp]; simp [h, h2]
      clear h h2
      go_wp2
      go_ret
      exact ⟨ret_bool HE.out.symm, C0⟩
    · have h2' : ((d.sn.n : Int) == 0) = false := by simp [h2]
      have HE : Hid (r = false) := by show _ = _; rw [hr.out, sndUp]; simp [h2]
      clear h h2
      go_wp2
      go_ret
      exact ⟨ret_bool HE.out.symm, C0⟩
  · have h' : (d.sn.T == d.T) = false := by simp [h]
    have HE : Hid (r = false) := by show _ = _; rw [hr.out, sndUp, h']; rfl
    clear h
    go_wp2
    go_ret
    exact ⟨ret_bool HE.out.symm, C0⟩
set_option maxHeartbeats 1000000 in
theorem l15PictureUp (w : World) (D : Nat → Nat → Prop) (cs : Array Value) (d : SpD) (H : SplitOn w D (.agg cs) d) : Calls Tryz.prog 56 #[.agg cs] w fun e w' => e = .returned (.bool (picUp d)) ∧ Below w.heap.size w w' := by
  obtain ⟨u0, u2, b3, y3, e1, z1, F⟩ := H.cells
  obtain ⟨r, hr⟩ : ∃ r, Hid (r = picUp d) := ⟨_, rfl⟩
  rw [← hr.out]
  have f14 := F.f14
  have f21 := F.f21
  have f30 := F.f30
  have n3 := F.n3
  have C0 : Below w.heap.size w (w.alloc (.cells cs 46)) := (Below.refl _ _).alloc (Nat.le_refl _) _
  have k0 := box_new w cs 46
  clear H F
  go_enter Tryz.func56, Tryz.ntmps56
  go_upto_region 1 with (fail)
  generalize w.alloc (.cells cs 46) = W0 at *
  have k1 := boxC k0
  by_cases h : d.pc.t = d.T
  · have h' : (d.pc.t == d.T) = true := by simp [h]
    by_cases h2 : d.pc.n = 0
    · have h2' : ((d.pc.n : Int) == 0) = true := by simp [h2]
      have HE : Hid (r = true) := by show _ = _; rw [hr.out, picUp]; simp [h, h2]
      clear h h2
      go_wp2
      go_ret
      exact ⟨ret_bool HE.out.symm, C0⟩
    · have h2' : ((d.pc.n : Int) == 0) = false := by simp [h2]
      have HE : Hid (r = false) := by show _ = _; rw [hr.out, picUp]; simp [h2]
      clear h h2
      go_wp2
      go_ret
      exact ⟨ret_bool HE.out.symm, C0⟩
  · have h' : (d.pc.t == d.T) = false := by simp [h]
    have HE : Hid (r = false) := by show _ = _; rw [hr.out, picUp, h']; rfl
    clear h
    go_wp2
    go_ret
    exact ⟨ret_bool HE.out.symm, C0⟩
end Go.Proofs.YtjcaligejlhjdaaGreat
