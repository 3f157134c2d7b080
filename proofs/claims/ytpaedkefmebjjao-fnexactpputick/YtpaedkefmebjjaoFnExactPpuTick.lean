/- At every picture unit of the mirror's type that is not too great PpuTick of the program answers as PpuTick of the specification, turns nothing of its argument, and its answers own their memory. -/
import Derived.Test.YtpaedkefmebjjaoRows
import Derived.Test.YtpaedkefmebjjaoO
import Derived.Test.YtpaedkefmebjjaoI8
import Derived.WalkKit
import Derived.ProofKit
import Derived.OpenShut
import Derived.ShutString
import Derived.ChangeOld
import Derived.Below
import Derived.Deep.RegionWith
namespace Go.Proofs.Ytpaedkefmebjjao.fnExactPpuTick
open Go.ChangeShapes Go.WideShapes Go.ChangeAt Go.RowKit
open Go.ChangeMaps (open_string shut_string)
set_option linter.unusedVariables false
theorem own : ownKnob Try.prog.godebug = none := by kernel_rfl
theorem laidOut : laidOutB Try.prog = true := by kernel_rfl
set_option maxRecDepth 40000
set_option maxHeartbeats 20000000 in
theorem walk (a0T : Int) (a0Ctrl : Int) (a0Scroll : Int) (a0Addr : Int) (a0Pal : Int) (a0Blank : Bool) (s0Table : Option Addr) (n0Table c0Table : Nat) (f0Table : Nat → Int) (s0Dots : Option Addr) (n0Dots c0Dots : Nat) (f0Dots : Nat → Int) (w : World) (w0T : (Lit.int .i64 a0T).wf = true) (w0Ctrl : (Lit.int .i64 a0Ctrl).wf = true) (w0Scroll : (Lit.int .i64 a0Scroll).wf = true) (w0Addr : (Lit.int .i64 a0Addr).wf = true) (w0Pal : (Lit.int .i64 a0Pal).wf = true) (w0Table : n0Table ≤ 9223372036854775807 ∧ RowOf .i64 w s0Table n0Table f0Table ∧ ∀ i, i < n0Table → (Lit.int .i64 (f0Table i)).wf = true) (w0Dots : n0Dots ≤ 9223372036854775807 ∧ RowOf .i64 w s0Dots n0Dots f0Dots ∧ ∀ i, i < n0Dots → (Lit.int .i64 (f0Dots i)).wf = true) :
    Calls Try.prog 6 #[.agg #[.int .i64 a0T, .int .i64 a0Ctrl, .int .i64 a0Scroll, .int .i64 a0Addr, .int .i64 a0Pal, .bool a0Blank, .slice s0Table n0Table c0Table, .slice s0Dots n0Dots c0Dots]] w fun e w' => e = .returned (.bool true) ∧ Below w.heap.size w w' := by
  obtain ⟨hTablen, hTabler, hTablef⟩ := w0Table
  obtain ⟨hDotsn, hDotsr, hDotsf⟩ := w0Dots
  by_cases hbig : (1048576 : Int) < ((n0Table + n0Dots : Nat) : Int)
  · have HZ := hide (szOut_no hbig)
    clear hbig
    have C0 : Below w.heap.size w (w.alloc (.cells #[.int .i64 a0T, .int .i64 a0Ctrl, .int .i64 a0Scroll, .int .i64 a0Addr, .int .i64 a0Pal, .bool a0Blank, .slice s0Table n0Table c0Table, .slice s0Dots n0Dots c0Dots] 24)) := (Below.refl _ _).alloc (Nat.le_refl _) _
    have k0 := box_new w #[.int .i64 a0T, .int .i64 a0Ctrl, .int .i64 a0Scroll, .int .i64 a0Addr, .int .i64 a0Pal, .bool a0Blank, .slice s0Table n0Table c0Table, .slice s0Dots n0Dots c0Dots] 24
    go_enter Try.func6, Try.ntmps6
    go_wp2_with fail
    generalize (w.alloc (.cells #[.int .i64 a0T, .int .i64 a0Ctrl, .int .i64 a0Scroll, .int .i64 a0Addr, .int .i64 a0Pal, .bool a0Blank, .slice s0Table n0Table c0Table, .slice s0Dots n0Dots c0Dots] 24)) = W0 at *
    refine (szPpu _ a0T a0Ctrl a0Scroll a0Addr a0Pal a0Blank s0Table n0Table c0Table s0Dots n0Dots c0Dots 1048576 (by omega) (by omega) (by omega) (by omega)).mono ?_
    rintro e W1 ⟨rfl, L⟩
    rw [HZ.out]
    have C1 := below_snoc C0 L
    replace k0 := box_keep k0 L (boxLt k0)
    have sz1 := L.size
    clear L C0
    go_wp2
    go_ret
    exact ⟨rfl, C1⟩
  · have HZ := hide (szOut_ok (show ((n0Table + n0Dots : Nat) : Int) ≤ 1048576 by omega))
    have hnn : ¬ (1048576 - ((n0Table + n0Dots : Nat) : Int) < 0) := by omega
    have hnTable : n0Table ≤ 1048576 := by omega
    have hnDots : n0Dots ≤ 1048576 := by omega
    clear hbig
    by_cases hcase0 : okPpu a0T a0Ctrl a0Scroll a0Addr a0Pal n0Table f0Table n0Dots f0Dots = true
    · have HK : Hid (okPpu a0T a0Ctrl a0Scroll a0Addr a0Pal n0Table f0Table n0Dots f0Dots = true) := hcase0
      clear hcase0
      have C0 : Below w.heap.size w (w.alloc (.cells #[.int .i64 a0T, .int .i64 a0Ctrl, .int .i64 a0Scroll, .int .i64 a0Addr, .int .i64 a0Pal, .bool a0Blank, .slice s0Table n0Table c0Table, .slice s0Dots n0Dots c0Dots] 24)) := (Below.refl _ _).alloc (Nat.le_refl _) _
      have k0 := box_new w #[.int .i64 a0T, .int .i64 a0Ctrl, .int .i64 a0Scroll, .int .i64 a0Addr, .int .i64 a0Pal, .bool a0Blank, .slice s0Table n0Table c0Table, .slice s0Dots n0Dots c0Dots] 24
      go_enter Try.func6, Try.ntmps6
      go_wp2_with fail
      generalize (w.alloc (.cells #[.int .i64 a0T, .int .i64 a0Ctrl, .int .i64 a0Scroll, .int .i64 a0Addr, .int .i64 a0Pal, .bool a0Blank, .slice s0Table n0Table c0Table, .slice s0Dots n0Dots c0Dots] 24)) = W0 at *
      refine (szPpu _ a0T a0Ctrl a0Scroll a0Addr a0Pal a0Blank s0Table n0Table c0Table s0Dots n0Dots c0Dots 1048576 (by omega) (by omega) (by omega) (by omega)).mono ?_
      rintro e W1 ⟨rfl, L⟩
      rw [HZ.out]
      have C1 := below_snoc C0 L
      replace k0 := box_keep k0 L (boxLt k0)
      have sz1 := L.size
      clear L C0
      have b0 := boxLt k0
      have c_k0 := boxC k0
      go_wp2_with fail
      clear c_k0
      refine (toPpu _ (fun _ _ => True) (fun _ _ => True) a0T a0Ctrl a0Scroll a0Addr a0Pal a0Blank _ _ n0Table f0Table n0Dots f0Dots (Ints.keep (F := fun _ _ => True) ⟨_, _, rfl, hnTable, hTabler, fun _ _ _ => trivial⟩ (wrote_below C1 Nowhere) (fun _ _ _ x => x)) (Ints.keep (F := fun _ _ => True) ⟨_, _, rfl, hnDots, hDotsr, fun _ _ _ => trivial⟩ (wrote_below C1 Nowhere) (fun _ _ _ x => x))).mono ?_
      rintro e XS ⟨vS, rfl, oS, L⟩
      have C2 := below_snoc C1 L
      replace k0 := box_keep k0 L (boxLt k0)
      have sz2 := L.size
      clear L C1
      have c_k0 := boxC k0
      go_wp2_with fail
      clear c_k0
      refine (onSpecPpuTickT _ _ _ a0T a0Ctrl a0Scroll a0Addr a0Pal a0Blank n0Table f0Table n0Dots f0Dots oS HK.out).mono ?_
      rintro e SS ⟨vR, yR, rfl, DR, ER, oR, pR, dR, bR, L⟩
      have C3 := below_snoc C2 L
      replace k0 := box_keep k0 L (boxLt k0)
      replace oS := oS.below L
      have sz3 := L.size
      clear L C2
      clear oS
      obtain ⟨aR0, cR0, aR1, cR1, hyR⟩ := oR.two
      subst hyR
      obtain ⟨zR0, zR1, hwR⟩ := pR.two
      subst hwR
      obtain ⟨uzR, huzR⟩ : ∃ t, Hid (t = SS.heap.size) := ⟨_, rfl⟩
      replace oR := oR.mono (E := fun b => (w.heap.size + 1 ≤ b ∧ b < uzR) ∧ DR b) (fun b hb h => ⟨⟨by have := bR b (Or.inl h); omega, by rw [huzR.out]; exact hb⟩, h⟩)
      replace pR := pR.mono (E := fun b => (w.heap.size + 1 ≤ b ∧ b < uzR) ∧ ER b) (fun b hb h => ⟨⟨by have := bR b (Or.inr h); omega, by rw [huzR.out]; exact hb⟩, h⟩)
      clear bR
      have luzR : w.heap.size + 1 ≤ uzR := by rw [huzR.out]; omega
      replace C3 := C3.alloc C3.size (.cells #[.int .i64 (tkT a0T), .int .i64 a0Ctrl, .int .i64 a0Scroll, .int .i64 a0Addr, .int .i64 a0Pal, .bool (tkB a0T a0Blank), .slice aR0 n0Table cR0, .slice aR1 (tkM a0T n0Dots) cR1] 27)
      have LA : Below SS.heap.size SS (SS.alloc (.cells #[.int .i64 (tkT a0T), .int .i64 a0Ctrl, .int .i64 a0Scroll, .int .i64 a0Addr, .int .i64 a0Pal, .bool (tkB a0T a0Blank), .slice aR0 n0Table cR0, .slice aR1 (tkM a0T n0Dots) cR1] 27)) := (Below.refl _ _).alloc (Nat.le_refl _) _
      replace k0 := boxA k0 (.cells #[.int .i64 (tkT a0T), .int .i64 a0Ctrl, .int .i64 a0Scroll, .int .i64 a0Addr, .int .i64 a0Pal, .bool (tkB a0T a0Blank), .slice aR0 n0Table cR0, .slice aR1 (tkM a0T n0Dots) cR1] 27)
      replace oR := oR.below LA
      replace pR := pR.below LA
      have xR := box_new SS #[.int .i64 (tkT a0T), .int .i64 a0Ctrl, .int .i64 a0Scroll, .int .i64 a0Addr, .int .i64 a0Pal, .bool (tkB a0T a0Blank), .slice aR0 n0Table cR0, .slice aR1 (tkM a0T n0Dots) cR1] 27
      have sAR : uzR + 1 ≤ (SS.alloc (.cells #[.int .i64 (tkT a0T), .int .i64 a0Ctrl, .int .i64 a0Scroll, .int .i64 a0Addr, .int .i64 a0Pal, .bool (tkB a0T a0Blank), .slice aR0 n0Table cR0, .slice aR1 (tkM a0T n0Dots) cR1] 27)).heap.size := by rw [huzR.out]; simp
      clear LA
      have c_k0 := boxC k0
      have c_xR := boxC xR
      go_wp2_with fail
      clear c_k0 c_xR
      generalize SS.alloc (.cells #[.int .i64 (tkT a0T), .int .i64 a0Ctrl, .int .i64 a0Scroll, .int .i64 a0Addr, .int .i64 a0Pal, .bool (tkB a0T a0Blank), .slice aR0 n0Table cR0, .slice aR1 (tkM a0T n0Dots) cR1] 27) = VR at *
      rw [← huzR.out] at xR ⊢
      clear huzR
      refine (toPpu _ (fun _ _ => True) (fun _ _ => True) a0T a0Ctrl a0Scroll a0Addr a0Pal a0Blank _ _ n0Table f0Table n0Dots f0Dots (Ints.keep (F := fun _ _ => True) ⟨_, _, rfl, hnTable, hTabler, fun _ _ _ => trivial⟩ (wrote_below C3 Nowhere) (fun _ _ _ x => x)) (Ints.keep (F := fun _ _ => True) ⟨_, _, rfl, hnDots, hDotsr, fun _ _ _ => trivial⟩ (wrote_below C3 Nowhere) (fun _ _ _ x => x))).mono ?_
      rintro e X0 ⟨v0, rfl, o0, L⟩
      have C4 := below_snoc C3 L
      replace k0 := box_keep k0 L (boxLt k0)
      replace xR := box_keep xR L (boxLt xR)
      replace oR := oR.below L
      replace pR := pR.below L
      have sz4 := L.size
      clear L C3
      obtain ⟨a00, c00, a01, c01, hy0⟩ := o0.two
      subst hy0
      obtain ⟨uz0, huz0⟩ : ∃ t, Hid (t = X0.heap.size) := ⟨_, rfl⟩
      replace o0 := o0.mono (E := fun b => uzR + 1 ≤ b ∧ b < uz0) (fun b hb h => ⟨by omega, by rw [huz0.out]; exact hb⟩)
      have luz0 : uzR + 1 ≤ uz0 := by rw [huz0.out]; omega
      replace C4 := C4.alloc C4.size (.cells #[.int .i64 a0T, .int .i64 a0Ctrl, .int .i64 a0Scroll, .int .i64 a0Addr, .int .i64 a0Pal, .bool a0Blank, .slice a00 n0Table c00, .slice a01 n0Dots c01] 27)
      have LA : Below X0.heap.size X0 (X0.alloc (.cells #[.int .i64 a0T, .int .i64 a0Ctrl, .int .i64 a0Scroll, .int .i64 a0Addr, .int .i64 a0Pal, .bool a0Blank, .slice a00 n0Table c00, .slice a01 n0Dots c01] 27)) := (Below.refl _ _).alloc (Nat.le_refl _) _
      replace k0 := boxA k0 (.cells #[.int .i64 a0T, .int .i64 a0Ctrl, .int .i64 a0Scroll, .int .i64 a0Addr, .int .i64 a0Pal, .bool a0Blank, .slice a00 n0Table c00, .slice a01 n0Dots c01] 27)
      replace xR := boxA xR (.cells #[.int .i64 a0T, .int .i64 a0Ctrl, .int .i64 a0Scroll, .int .i64 a0Addr, .int .i64 a0Pal, .bool a0Blank, .slice a00 n0Table c00, .slice a01 n0Dots c01] 27)
      replace oR := oR.below LA
      replace pR := pR.below LA
      replace o0 := o0.below LA
      have x0 := box_new X0 #[.int .i64 a0T, .int .i64 a0Ctrl, .int .i64 a0Scroll, .int .i64 a0Addr, .int .i64 a0Pal, .bool a0Blank, .slice a00 n0Table c00, .slice a01 n0Dots c01] 27
      have sA0 : uz0 + 1 ≤ (X0.alloc (.cells #[.int .i64 a0T, .int .i64 a0Ctrl, .int .i64 a0Scroll, .int .i64 a0Addr, .int .i64 a0Pal, .bool a0Blank, .slice a00 n0Table c00, .slice a01 n0Dots c01] 27)).heap.size := by rw [huz0.out]; simp
      clear LA
      have c_k0 := boxC k0
      have c_xR := boxC xR
      have c_x0 := boxC x0
      go_wp2_with fail
      clear c_k0 c_xR c_x0
      generalize X0.alloc (.cells #[.int .i64 a0T, .int .i64 a0Ctrl, .int .i64 a0Scroll, .int .i64 a0Addr, .int .i64 a0Pal, .bool a0Blank, .slice a00 n0Table c00, .slice a01 n0Dots c01] 27) = V0 at *
      rw [← huz0.out] at x0 ⊢
      clear huz0
      refine (onImplPpuTickT _ _ _ a0T a0Ctrl a0Scroll a0Addr a0Pal a0Blank n0Table f0Table n0Dots f0Dots o0 HK.out).mono ?_
      rintro e GG ⟨vG, yG, rfl, DG, EG, oG, pG, dG, bG, L⟩
      have C5 := below_snoc C4 L
      replace k0 := box_keep k0 L (boxLt k0)
      replace xR := box_keep xR L (boxLt xR)
      replace x0 := box_keep x0 L (boxLt x0)
      replace oR := oR.below L
      replace pR := pR.below L
      replace o0 := o0.below L
      have sz5 := L.size
      clear L C4
      obtain ⟨aG0, cG0, aG1, cG1, hyG⟩ := oG.two
      subst hyG
      obtain ⟨zG0, zG1, hwG⟩ := pG.two
      subst hwG
      obtain ⟨uzG, huzG⟩ : ∃ t, Hid (t = GG.heap.size) := ⟨_, rfl⟩
      replace oG := oG.mono (E := fun b => (uz0 + 1 ≤ b ∧ b < uzG) ∧ DG b) (fun b hb h => ⟨⟨by have := bG b (Or.inl h); omega, by rw [huzG.out]; exact hb⟩, h⟩)
      replace pG := pG.mono (E := fun b => (uz0 + 1 ≤ b ∧ b < uzG) ∧ EG b) (fun b hb h => ⟨⟨by have := bG b (Or.inr h); omega, by rw [huzG.out]; exact hb⟩, h⟩)
      clear bG
      have luzG : uz0 + 1 ≤ uzG := by rw [huzG.out]; omega
      replace C5 := C5.alloc C5.size (.cells #[.int .i64 (tkT a0T), .int .i64 a0Ctrl, .int .i64 a0Scroll, .int .i64 a0Addr, .int .i64 a0Pal, .bool (tkB a0T a0Blank), .slice aG0 n0Table cG0, .slice aG1 (tkM a0T n0Dots) cG1] 27)
      have LA : Below GG.heap.size GG (GG.alloc (.cells #[.int .i64 (tkT a0T), .int .i64 a0Ctrl, .int .i64 a0Scroll, .int .i64 a0Addr, .int .i64 a0Pal, .bool (tkB a0T a0Blank), .slice aG0 n0Table cG0, .slice aG1 (tkM a0T n0Dots) cG1] 27)) := (Below.refl _ _).alloc (Nat.le_refl _) _
      replace k0 := boxA k0 (.cells #[.int .i64 (tkT a0T), .int .i64 a0Ctrl, .int .i64 a0Scroll, .int .i64 a0Addr, .int .i64 a0Pal, .bool (tkB a0T a0Blank), .slice aG0 n0Table cG0, .slice aG1 (tkM a0T n0Dots) cG1] 27)
      replace xR := boxA xR (.cells #[.int .i64 (tkT a0T), .int .i64 a0Ctrl, .int .i64 a0Scroll, .int .i64 a0Addr, .int .i64 a0Pal, .bool (tkB a0T a0Blank), .slice aG0 n0Table cG0, .slice aG1 (tkM a0T n0Dots) cG1] 27)
      replace x0 := boxA x0 (.cells #[.int .i64 (tkT a0T), .int .i64 a0Ctrl, .int .i64 a0Scroll, .int .i64 a0Addr, .int .i64 a0Pal, .bool (tkB a0T a0Blank), .slice aG0 n0Table cG0, .slice aG1 (tkM a0T n0Dots) cG1] 27)
      replace oR := oR.below LA
      replace pR := pR.below LA
      replace o0 := o0.below LA
      replace oG := oG.below LA
      replace pG := pG.below LA
      have xG := box_new GG #[.int .i64 (tkT a0T), .int .i64 a0Ctrl, .int .i64 a0Scroll, .int .i64 a0Addr, .int .i64 a0Pal, .bool (tkB a0T a0Blank), .slice aG0 n0Table cG0, .slice aG1 (tkM a0T n0Dots) cG1] 27
      have sAG : uzG + 1 ≤ (GG.alloc (.cells #[.int .i64 (tkT a0T), .int .i64 a0Ctrl, .int .i64 a0Scroll, .int .i64 a0Addr, .int .i64 a0Pal, .bool (tkB a0T a0Blank), .slice aG0 n0Table cG0, .slice aG1 (tkM a0T n0Dots) cG1] 27)).heap.size := by rw [huzG.out]; simp
      clear LA
      have c_k0 := boxC k0
      have c_xR := boxC xR
      have c_x0 := boxC x0
      have c_xG := boxC xG
      go_wp2_with fail
      clear c_k0 c_xR c_x0 c_xG
      generalize GG.alloc (.cells #[.int .i64 (tkT a0T), .int .i64 a0Ctrl, .int .i64 a0Scroll, .int .i64 a0Addr, .int .i64 a0Pal, .bool (tkB a0T a0Blank), .slice aG0 n0Table cG0, .slice aG1 (tkM a0T n0Dots) cG1] 27) = VG at *
      rw [← huzG.out] at xG ⊢
      clear huzG
      refine (onEqPpu _ _ _ _ _ (tkT a0T) a0Ctrl a0Scroll a0Addr a0Pal (tkB a0T a0Blank) n0Table f0Table (tkM a0T n0Dots) (tkG a0T f0Table a0Scroll a0Pal n0Dots f0Dots) oG oR).mono ?_
      rintro e E1a ⟨rfl, L⟩
      have C6 := below_snoc C5 L
      replace k0 := box_keep k0 L (boxLt k0)
      replace xR := box_keep xR L (boxLt xR)
      replace x0 := box_keep x0 L (boxLt x0)
      replace xG := box_keep xG L (boxLt xG)
      replace oR := oR.below L
      replace pR := pR.below L
      replace o0 := o0.below L
      replace oG := oG.below L
      replace pG := pG.below L
      have sz6 := L.size
      clear L C5
      have c_k0 := boxC k0
      have c_xR := boxC xR
      have c_x0 := boxC x0
      have c_xG := boxC xG
      go_wp2_with fail
      clear c_k0 c_xR c_x0 c_xG
      refine (onEqList _ _ _ _ _ (tlM a0T n0Dots) f0Dots pG pR).mono ?_
      rintro e E1b ⟨rfl, L⟩
      have C7 := below_snoc C6 L
      replace k0 := box_keep k0 L (boxLt k0)
      replace xR := box_keep xR L (boxLt xR)
      replace x0 := box_keep x0 L (boxLt x0)
      replace xG := box_keep xG L (boxLt xG)
      replace oR := oR.below L
      replace pR := pR.below L
      replace o0 := o0.below L
      replace oG := oG.below L
      replace pG := pG.below L
      have sz7 := L.size
      clear L C6
      have c_k0 := boxC k0
      have c_xR := boxC xR
      have c_x0 := boxC x0
      have c_xG := boxC xG
      go_upto_region 10 with (fail)
      go_cut [56] (fun s WX => s = .bool false ∧ Below E1b.heap.size E1b WX)
      case first =>
        go_region_with (first
          | (go_at_call 11; refine (toPpu _ (fun _ _ => True) (fun _ _ => True) a0T a0Ctrl a0Scroll a0Addr a0Pal a0Blank _ _ n0Table f0Table n0Dots f0Dots (Ints.keep (F := fun _ _ => True) ⟨_, _, rfl, hnTable, hTabler, fun _ _ _ => trivial⟩ (wrote_below (below_snoc C7 (Below.refl _ E1b).drew) Nowhere) (fun _ _ _ x => x)) (Ints.keep (F := fun _ _ => True) ⟨_, _, rfl, hnDots, hDotsr, fun _ _ _ => trivial⟩ (wrote_below (below_snoc C7 (Below.refl _ E1b).drew) Nowhere) (fun _ _ _ x => x))).mono ?_; rintro e YY ⟨vv, rfl, RR, MM⟩; have DD : Below E1b.heap.size E1b YY := (Below.refl _ _).drew.trans MM; have d_x0 := boxC (box_keep x0 DD (boxLt x0)); have QQ := o0.below DD; skip)
          | (go_at_call 13; refine (onEqPpu _ _ _ _ _ a0T a0Ctrl a0Scroll a0Addr a0Pal a0Blank n0Table f0Table n0Dots f0Dots QQ RR).mono ?_; rintro e ZZ ⟨rfl, NN⟩; have EE := below_snoc DD NN))
        all_goals
          go_wp2_with fail
          go_meet
          exact ⟨rfl, EE⟩
      case rest =>
        obtain ⟨rfl, LX⟩ := hcut
        clear c_k0 c_xR c_x0 c_xG
        obtain ⟨E0, hE0⟩ : ∃ x, x = wc := ⟨_, rfl⟩
        subst hE0
        have C8 := below_snoc C7 LX
        replace k0 := box_keep k0 LX (boxLt k0)
        replace xR := box_keep xR LX (boxLt xR)
        replace x0 := box_keep x0 LX (boxLt x0)
        replace xG := box_keep xG LX (boxLt xG)
        replace oR := oR.below LX
        replace pR := pR.below LX
        replace o0 := o0.below LX
        replace oG := oG.below LX
        replace pG := pG.below LX
        have sz8 := LX.size
        clear LX C7
        have : (0 : Int) ≤ ((n0Table : Nat) : Int) := Int.natCast_nonneg _
        have : (0 : Int) ≤ ((n0Dots : Nat) : Int) := Int.natCast_nonneg _
        have : (0 : Int) ≤ ((n0Table : Nat) : Int) := Int.natCast_nonneg _
        have : (0 : Int) ≤ (((tkM a0T n0Dots) : Nat) : Int) := Int.natCast_nonneg _
        have : (0 : Int) ≤ (((tlM a0T n0Dots) : Nat) : Int) := Int.natCast_nonneg _
        have sG1 := oG.small1
        have sG2 := oG.small2
        have sG3 := pG.small
        have c_k0 := boxC k0
        have c_xR := boxC xR
        have c_x0 := boxC x0
        have c_xG := boxC xG
        go_wp2_with fail
        clear c_k0 c_xR c_x0 c_xG
        refine (onMarkPpu _ _ _ a0T a0Ctrl a0Scroll a0Addr a0Pal a0Blank n0Table f0Table n0Dots f0Dots 1 o0 (by omega) (by omega)).mono ?_
        rintro e M1 ⟨rfl, -, T⟩
        clear o0
        have C9 := C8.trans (T.below C8.size (fun b o hb (h : _ ∧ _) => by omega))
        replace k0 := box_wrote k0 T (fun o (h : _ ∧ _) => by omega)
        replace xR := box_wrote xR T (fun o (h : _ ∧ _) => by omega)
        replace x0 := box_wrote x0 T (fun o (h : _ ∧ _) => by omega)
        replace xG := box_wrote xG T (fun o (h : _ ∧ _) => by omega)
        replace oR := oR.keep T (fun b o (hb : _ ∧ _) _ (h : _ ∧ _) => by omega)
        replace pR := pR.keep T (fun b o (hb : _ ∧ _) _ (h : _ ∧ _) => by omega)
        replace oG := oG.keep T (fun b o (hb : _ ∧ _) _ (h : _ ∧ _) => by omega)
        replace pG := pG.keep T (fun b o (hb : _ ∧ _) _ (h : _ ∧ _) => by omega)
        have sz9 := T.size
        clear T C8
        have hk1 : ¬ ((1 : Int) + (n0Table : Int) + (n0Dots : Int) < 0) := by omega
        have c_k0 := boxC k0
        have c_xR := boxC xR
        have c_x0 := boxC x0
        have c_xG := boxC xG
        go_wp2_with fail
        clear c_k0 c_xR c_x0 c_xG
        refine (onEqPpu _ _ _ _ _ (tkT a0T) a0Ctrl a0Scroll a0Addr a0Pal (tkB a0T a0Blank) n0Table f0Table (tkM a0T n0Dots) (tkG a0T f0Table a0Scroll a0Pal n0Dots f0Dots) oG oR).mono ?_
        rintro e E2a ⟨rfl, L⟩
        have C10 := below_snoc C9 L
        replace k0 := box_keep k0 L (boxLt k0)
        replace xR := box_keep xR L (boxLt xR)
        replace x0 := box_keep x0 L (boxLt x0)
        replace xG := box_keep xG L (boxLt xG)
        replace oR := oR.below L
        replace pR := pR.below L
        replace oG := oG.below L
        replace pG := pG.below L
        have sz10 := L.size
        clear L C9
        have c_k0 := boxC k0
        have c_xR := boxC xR
        have c_x0 := boxC x0
        have c_xG := boxC xG
        go_wp2_with fail
        clear c_k0 c_xR c_x0 c_xG
        refine (onEqList _ _ _ _ _ (tlM a0T n0Dots) f0Dots pG pR).mono ?_
        rintro e E2b ⟨rfl, L⟩
        have C11 := below_snoc C10 L
        replace k0 := box_keep k0 L (boxLt k0)
        replace xR := box_keep xR L (boxLt xR)
        replace x0 := box_keep x0 L (boxLt x0)
        replace xG := box_keep xG L (boxLt xG)
        replace oR := oR.below L
        replace pR := pR.below L
        replace oG := oG.below L
        replace pG := pG.below L
        have sz11 := L.size
        clear L C10
        have c_k0 := boxC k0
        have c_xR := boxC xR
        have c_x0 := boxC x0
        have c_xG := boxC xG
        go_wp2_with fail
        clear c_k0 c_xR c_x0 c_xG
        refine (onMarkPpu _ _ _ (tkT a0T) a0Ctrl a0Scroll a0Addr a0Pal (tkB a0T a0Blank) n0Table f0Table (tkM a0T n0Dots) (tkG a0T f0Table a0Scroll a0Pal n0Dots f0Dots) 1 oG (by omega) (by omega)).mono ?_
        rintro e M2 ⟨rfl, oK, T⟩
        clear oG
        have C12 := C11.trans (T.below C11.size (fun b o hb (h : _ ∧ _) => by omega))
        replace k0 := box_wrote k0 T (fun o (h : _ ∧ _) => by omega)
        replace xR := box_wrote xR T (fun o (h : _ ∧ _) => by omega)
        replace x0 := box_wrote x0 T (fun o (h : _ ∧ _) => by omega)
        replace xG := box_wrote xG T (fun o (h : _ ∧ _) => by omega)
        replace oR := oR.keep T (fun b o (hb : _ ∧ _) _ (h : _ ∧ _) => by omega)
        replace pR := pR.keep T (fun b o (hb : _ ∧ _) _ (h : _ ∧ _) => by omega)
        replace pG := pG.keep T (fun b o hb _ h => dG b h.2 hb.2)
        have sz12 := T.size
        clear T C11
        have c_k0 := boxC k0
        have c_xR := boxC xR
        have c_x0 := boxC x0
        have c_xG := boxC xG
        go_wp2_with fail
        clear c_k0 c_xR c_x0 c_xG
        refine (onMarkList _ _ _ (tlM a0T n0Dots) f0Dots (1 + ((n0Table : Nat) : Int) + (((tkM a0T n0Dots) : Nat) : Int)) pG (by omega) (by omega)).mono ?_
        rintro e M3 ⟨rfl, pK, T⟩
        clear pG
        have C13 := C12.trans (T.below C12.size (fun b o hb (h : _ ∧ _) => by omega))
        replace k0 := box_wrote k0 T (fun o (h : _ ∧ _) => by omega)
        replace xR := box_wrote xR T (fun o (h : _ ∧ _) => by omega)
        replace x0 := box_wrote x0 T (fun o (h : _ ∧ _) => by omega)
        replace xG := box_wrote xG T (fun o (h : _ ∧ _) => by omega)
        replace oR := oR.keep T (fun b o (hb : _ ∧ _) _ (h : _ ∧ _) => by omega)
        replace pR := pR.keep T (fun b o (hb : _ ∧ _) _ (h : _ ∧ _) => by omega)
        replace oK := oK.keep T (fun b o hb _ h => dG b hb.2 h.2)
        have sz13 := T.size
        clear T C12
        have c_k0 := boxC k0
        have c_xR := boxC xR
        have c_x0 := boxC x0
        have c_xG := boxC xG
        go_wp2_with fail
        clear c_k0 c_xR c_x0 c_xG
        refine (onHeldPpu _ _ _ (tkT a0T) a0Ctrl a0Scroll a0Addr a0Pal (tkB a0T a0Blank) n0Table (tkM a0T n0Dots) 1 oK (by omega) (by omega)).mono ?_
        rintro e H1a ⟨rfl, L⟩
        have C14 := below_snoc C13 L
        replace k0 := box_keep k0 L (boxLt k0)
        replace xR := box_keep xR L (boxLt xR)
        replace x0 := box_keep x0 L (boxLt x0)
        replace xG := box_keep xG L (boxLt xG)
        replace oR := oR.below L
        replace pR := pR.below L
        replace oK := oK.below L
        replace pK := pK.below L
        have sz14 := L.size
        clear L C13
        have c_k0 := boxC k0
        have c_xR := boxC xR
        have c_x0 := boxC x0
        have c_xG := boxC xG
        go_wp2_with fail
        clear c_k0 c_xR c_x0 c_xG
        refine (onHeldList _ _ _ (tlM a0T n0Dots) (1 + ((n0Table : Nat) : Int) + (((tkM a0T n0Dots) : Nat) : Int)) pK (by omega) (by omega)).mono ?_
        rintro e H1b ⟨rfl, L⟩
        have C15 := below_snoc C14 L
        replace k0 := box_keep k0 L (boxLt k0)
        replace xR := box_keep xR L (boxLt xR)
        replace x0 := box_keep x0 L (boxLt x0)
        replace xG := box_keep xG L (boxLt xG)
        replace oR := oR.below L
        replace pR := pR.below L
        replace oK := oK.below L
        replace pK := pK.below L
        have sz15 := L.size
        clear L C14
        have c_k0 := boxC k0
        have c_xR := boxC xR
        have c_x0 := boxC x0
        have c_xG := boxC xG
        go_wp2_with fail
        clear c_k0 c_xR c_x0 c_xG
        refine (toPpu _ (fun _ _ => True) (fun _ _ => True) a0T a0Ctrl a0Scroll a0Addr a0Pal a0Blank _ _ n0Table f0Table n0Dots f0Dots (Ints.keep (F := fun _ _ => True) ⟨_, _, rfl, hnTable, hTabler, fun _ _ _ => trivial⟩ (wrote_below C15 Nowhere) (fun _ _ _ x => x)) (Ints.keep (F := fun _ _ => True) ⟨_, _, rfl, hnDots, hDotsr, fun _ _ _ => trivial⟩ (wrote_below C15 Nowhere) (fun _ _ _ x => x))).mono ?_
        rintro e XX ⟨vX, rfl, oX, L⟩
        have C16 := below_snoc C15 L
        replace k0 := box_keep k0 L (boxLt k0)
        replace xR := box_keep xR L (boxLt xR)
        replace x0 := box_keep x0 L (boxLt x0)
        replace xG := box_keep xG L (boxLt xG)
        replace oR := oR.below L
        replace pR := pR.below L
        replace oK := oK.below L
        replace pK := pK.below L
        have sz16 := L.size
        clear L C15
        have c_k0 := boxC k0
        have c_xR := boxC xR
        have c_x0 := boxC x0
        have c_xG := boxC xG
        go_wp2_with fail
        clear c_k0 c_xR c_x0 c_xG
        refine (onImplPpuTickT _ _ _ a0T a0Ctrl a0Scroll a0Addr a0Pal a0Blank n0Table f0Table n0Dots f0Dots oX HK.out).mono ?_
        rintro e HH ⟨vH, yH, rfl, DH, EH, oH, pH, dH, bH, L⟩
        have C17 := below_snoc C16 L
        replace k0 := box_keep k0 L (boxLt k0)
        replace xR := box_keep xR L (boxLt xR)
        replace x0 := box_keep x0 L (boxLt x0)
        replace xG := box_keep xG L (boxLt xG)
        replace oR := oR.below L
        replace pR := pR.below L
        replace oK := oK.below L
        replace pK := pK.below L
        replace oX := oX.below L
        have sz17 := L.size
        clear L C16
        clear oX
        obtain ⟨aH0, cH0, aH1, cH1, hyH⟩ := oH.two
        subst hyH
        obtain ⟨zH0, zH1, hwH⟩ := pH.two
        subst hwH
        obtain ⟨uzH, huzH⟩ : ∃ t, Hid (t = HH.heap.size) := ⟨_, rfl⟩
        replace oH := oH.mono (E := fun b => (uzG + 1 ≤ b ∧ b < uzH) ∧ DH b) (fun b hb h => ⟨⟨by have := bH b (Or.inl h); omega, by rw [huzH.out]; exact hb⟩, h⟩)
        replace pH := pH.mono (E := fun b => (uzG + 1 ≤ b ∧ b < uzH) ∧ EH b) (fun b hb h => ⟨⟨by have := bH b (Or.inr h); omega, by rw [huzH.out]; exact hb⟩, h⟩)
        clear bH
        have luzH : uzG + 1 ≤ uzH := by rw [huzH.out]; omega
        replace C17 := C17.alloc C17.size (.cells #[.int .i64 (tkT a0T), .int .i64 a0Ctrl, .int .i64 a0Scroll, .int .i64 a0Addr, .int .i64 a0Pal, .bool (tkB a0T a0Blank), .slice aH0 n0Table cH0, .slice aH1 (tkM a0T n0Dots) cH1] 27)
        have LA : Below HH.heap.size HH (HH.alloc (.cells #[.int .i64 (tkT a0T), .int .i64 a0Ctrl, .int .i64 a0Scroll, .int .i64 a0Addr, .int .i64 a0Pal, .bool (tkB a0T a0Blank), .slice aH0 n0Table cH0, .slice aH1 (tkM a0T n0Dots) cH1] 27)) := (Below.refl _ _).alloc (Nat.le_refl _) _
        replace k0 := boxA k0 (.cells #[.int .i64 (tkT a0T), .int .i64 a0Ctrl, .int .i64 a0Scroll, .int .i64 a0Addr, .int .i64 a0Pal, .bool (tkB a0T a0Blank), .slice aH0 n0Table cH0, .slice aH1 (tkM a0T n0Dots) cH1] 27)
        replace xR := boxA xR (.cells #[.int .i64 (tkT a0T), .int .i64 a0Ctrl, .int .i64 a0Scroll, .int .i64 a0Addr, .int .i64 a0Pal, .bool (tkB a0T a0Blank), .slice aH0 n0Table cH0, .slice aH1 (tkM a0T n0Dots) cH1] 27)
        replace x0 := boxA x0 (.cells #[.int .i64 (tkT a0T), .int .i64 a0Ctrl, .int .i64 a0Scroll, .int .i64 a0Addr, .int .i64 a0Pal, .bool (tkB a0T a0Blank), .slice aH0 n0Table cH0, .slice aH1 (tkM a0T n0Dots) cH1] 27)
        replace xG := boxA xG (.cells #[.int .i64 (tkT a0T), .int .i64 a0Ctrl, .int .i64 a0Scroll, .int .i64 a0Addr, .int .i64 a0Pal, .bool (tkB a0T a0Blank), .slice aH0 n0Table cH0, .slice aH1 (tkM a0T n0Dots) cH1] 27)
        replace oR := oR.below LA
        replace pR := pR.below LA
        replace oK := oK.below LA
        replace pK := pK.below LA
        replace oH := oH.below LA
        replace pH := pH.below LA
        have xH := box_new HH #[.int .i64 (tkT a0T), .int .i64 a0Ctrl, .int .i64 a0Scroll, .int .i64 a0Addr, .int .i64 a0Pal, .bool (tkB a0T a0Blank), .slice aH0 n0Table cH0, .slice aH1 (tkM a0T n0Dots) cH1] 27
        have sAH : uzH + 1 ≤ (HH.alloc (.cells #[.int .i64 (tkT a0T), .int .i64 a0Ctrl, .int .i64 a0Scroll, .int .i64 a0Addr, .int .i64 a0Pal, .bool (tkB a0T a0Blank), .slice aH0 n0Table cH0, .slice aH1 (tkM a0T n0Dots) cH1] 27)).heap.size := by rw [huzH.out]; simp
        clear LA
        have c_k0 := boxC k0
        have c_xR := boxC xR
        have c_x0 := boxC x0
        have c_xG := boxC xG
        have c_xH := boxC xH
        go_wp2_with fail
        clear c_k0 c_xR c_x0 c_xG c_xH
        generalize HH.alloc (.cells #[.int .i64 (tkT a0T), .int .i64 a0Ctrl, .int .i64 a0Scroll, .int .i64 a0Addr, .int .i64 a0Pal, .bool (tkB a0T a0Blank), .slice aH0 n0Table cH0, .slice aH1 (tkM a0T n0Dots) cH1] 27) = VH at *
        rw [← huzH.out] at xH ⊢
        clear huzH
        refine (onEqPpu _ _ _ _ _ (tkT a0T) a0Ctrl a0Scroll a0Addr a0Pal (tkB a0T a0Blank) n0Table f0Table (tkM a0T n0Dots) (tkG a0T f0Table a0Scroll a0Pal n0Dots f0Dots) oH oR).mono ?_
        rintro e E3a ⟨rfl, L⟩
        have C18 := below_snoc C17 L
        replace k0 := box_keep k0 L (boxLt k0)
        replace xR := box_keep xR L (boxLt xR)
        replace x0 := box_keep x0 L (boxLt x0)
        replace xG := box_keep xG L (boxLt xG)
        replace xH := box_keep xH L (boxLt xH)
        replace oR := oR.below L
        replace pR := pR.below L
        replace oK := oK.below L
        replace pK := pK.below L
        replace oH := oH.below L
        replace pH := pH.below L
        have sz18 := L.size
        clear L C17
        have c_k0 := boxC k0
        have c_xR := boxC xR
        have c_x0 := boxC x0
        have c_xG := boxC xG
        have c_xH := boxC xH
        go_wp2_with fail
        clear c_k0 c_xR c_x0 c_xG c_xH
        refine (onEqList _ _ _ _ _ (tlM a0T n0Dots) f0Dots pH pR).mono ?_
        rintro e E3b ⟨rfl, L⟩
        have C19 := below_snoc C18 L
        replace k0 := box_keep k0 L (boxLt k0)
        replace xR := box_keep xR L (boxLt xR)
        replace x0 := box_keep x0 L (boxLt x0)
        replace xG := box_keep xG L (boxLt xG)
        replace xH := box_keep xH L (boxLt xH)
        replace oR := oR.below L
        replace pR := pR.below L
        replace oK := oK.below L
        replace pK := pK.below L
        replace oH := oH.below L
        replace pH := pH.below L
        have sz19 := L.size
        clear L C18
        have c_k0 := boxC k0
        have c_xR := boxC xR
        have c_x0 := boxC x0
        have c_xG := boxC xG
        have c_xH := boxC xH
        go_wp2_with fail
        clear c_k0 c_xR c_x0 c_xG c_xH
        refine (onHeldPpu _ _ _ (tkT a0T) a0Ctrl a0Scroll a0Addr a0Pal (tkB a0T a0Blank) n0Table (tkM a0T n0Dots) 1 oK (by omega) (by omega)).mono ?_
        rintro e H2a ⟨rfl, L⟩
        have C20 := below_snoc C19 L
        replace k0 := box_keep k0 L (boxLt k0)
        replace xR := box_keep xR L (boxLt xR)
        replace x0 := box_keep x0 L (boxLt x0)
        replace xG := box_keep xG L (boxLt xG)
        replace xH := box_keep xH L (boxLt xH)
        replace oR := oR.below L
        replace pR := pR.below L
        replace oK := oK.below L
        replace pK := pK.below L
        replace oH := oH.below L
        replace pH := pH.below L
        have sz20 := L.size
        clear L C19
        have c_k0 := boxC k0
        have c_xR := boxC xR
        have c_x0 := boxC x0
        have c_xG := boxC xG
        have c_xH := boxC xH
        go_wp2_with fail
        clear c_k0 c_xR c_x0 c_xG c_xH
        refine (onHeldList _ _ _ (tlM a0T n0Dots) (1 + ((n0Table : Nat) : Int) + (((tkM a0T n0Dots) : Nat) : Int)) pK (by omega) (by omega)).mono ?_
        rintro e H2b ⟨rfl, L⟩
        have C21 := below_snoc C20 L
        replace k0 := box_keep k0 L (boxLt k0)
        replace xR := box_keep xR L (boxLt xR)
        replace x0 := box_keep x0 L (boxLt x0)
        replace xG := box_keep xG L (boxLt xG)
        replace xH := box_keep xH L (boxLt xH)
        replace oR := oR.below L
        replace pR := pR.below L
        replace oK := oK.below L
        replace pK := pK.below L
        replace oH := oH.below L
        replace pH := pH.below L
        have sz21 := L.size
        clear L C20
        have c_k0 := boxC k0
        have c_xR := boxC xR
        have c_x0 := boxC x0
        have c_xG := boxC xG
        have c_xH := boxC xH
        go_wp2
        go_ret
        exact ⟨rfl, C21⟩
    · have HK : Hid (okPpu a0T a0Ctrl a0Scroll a0Addr a0Pal n0Table f0Table n0Dots f0Dots = false) := by show _ = _; simpa using hcase0
      clear hcase0
      have C0 : Below w.heap.size w (w.alloc (.cells #[.int .i64 a0T, .int .i64 a0Ctrl, .int .i64 a0Scroll, .int .i64 a0Addr, .int .i64 a0Pal, .bool a0Blank, .slice s0Table n0Table c0Table, .slice s0Dots n0Dots c0Dots] 24)) := (Below.refl _ _).alloc (Nat.le_refl _) _
      have k0 := box_new w #[.int .i64 a0T, .int .i64 a0Ctrl, .int .i64 a0Scroll, .int .i64 a0Addr, .int .i64 a0Pal, .bool a0Blank, .slice s0Table n0Table c0Table, .slice s0Dots n0Dots c0Dots] 24
      go_enter Try.func6, Try.ntmps6
      go_wp2_with fail
      generalize (w.alloc (.cells #[.int .i64 a0T, .int .i64 a0Ctrl, .int .i64 a0Scroll, .int .i64 a0Addr, .int .i64 a0Pal, .bool a0Blank, .slice s0Table n0Table c0Table, .slice s0Dots n0Dots c0Dots] 24)) = W0 at *
      refine (szPpu _ a0T a0Ctrl a0Scroll a0Addr a0Pal a0Blank s0Table n0Table c0Table s0Dots n0Dots c0Dots 1048576 (by omega) (by omega) (by omega) (by omega)).mono ?_
      rintro e W1 ⟨rfl, L⟩
      rw [HZ.out]
      have C1 := below_snoc C0 L
      replace k0 := box_keep k0 L (boxLt k0)
      have sz1 := L.size
      clear L C0
      have b0 := boxLt k0
      have c_k0 := boxC k0
      go_wp2_with fail
      clear c_k0
      refine (toPpu _ (fun _ _ => True) (fun _ _ => True) a0T a0Ctrl a0Scroll a0Addr a0Pal a0Blank _ _ n0Table f0Table n0Dots f0Dots (Ints.keep (F := fun _ _ => True) ⟨_, _, rfl, hnTable, hTabler, fun _ _ _ => trivial⟩ (wrote_below C1 Nowhere) (fun _ _ _ x => x)) (Ints.keep (F := fun _ _ => True) ⟨_, _, rfl, hnDots, hDotsr, fun _ _ _ => trivial⟩ (wrote_below C1 Nowhere) (fun _ _ _ x => x))).mono ?_
      rintro e XS ⟨vS, rfl, oS, L⟩
      have C2 := below_snoc C1 L
      replace k0 := box_keep k0 L (boxLt k0)
      have sz2 := L.size
      clear L C1
      have c_k0 := boxC k0
      go_wp2_with fail
      clear c_k0
      refine (onSpecPpuTickF _ _ _ a0T a0Ctrl a0Scroll a0Addr a0Pal a0Blank n0Table f0Table n0Dots f0Dots oS HK.out).mono ?_
      rintro e SS ⟨vR, yR, rfl, DR, ER, oR, pR, dR, bR, L⟩
      have C3 := below_snoc C2 L
      replace k0 := box_keep k0 L (boxLt k0)
      replace oS := oS.below L
      have sz3 := L.size
      clear L C2
      clear oS
      obtain ⟨aR0, cR0, aR1, cR1, hyR⟩ := oR.two
      subst hyR
      obtain ⟨zR0, zR1, hwR⟩ := pR.two
      subst hwR
      obtain ⟨uzR, huzR⟩ : ∃ t, Hid (t = SS.heap.size) := ⟨_, rfl⟩
      replace oR := oR.mono (E := fun b => (w.heap.size + 1 ≤ b ∧ b < uzR) ∧ DR b) (fun b hb h => ⟨⟨by have := bR b (Or.inl h); omega, by rw [huzR.out]; exact hb⟩, h⟩)
      replace pR := pR.mono (E := fun b => (w.heap.size + 1 ≤ b ∧ b < uzR) ∧ ER b) (fun b hb h => ⟨⟨by have := bR b (Or.inr h); omega, by rw [huzR.out]; exact hb⟩, h⟩)
      clear bR
      have luzR : w.heap.size + 1 ≤ uzR := by rw [huzR.out]; omega
      replace C3 := C3.alloc C3.size (.cells #[.int .i64 0, .int .i64 0, .int .i64 0, .int .i64 0, .int .i64 0, .bool false, .slice aR0 0 cR0, .slice aR1 0 cR1] 27)
      have LA : Below SS.heap.size SS (SS.alloc (.cells #[.int .i64 0, .int .i64 0, .int .i64 0, .int .i64 0, .int .i64 0, .bool false, .slice aR0 0 cR0, .slice aR1 0 cR1] 27)) := (Below.refl _ _).alloc (Nat.le_refl _) _
      replace k0 := boxA k0 (.cells #[.int .i64 0, .int .i64 0, .int .i64 0, .int .i64 0, .int .i64 0, .bool false, .slice aR0 0 cR0, .slice aR1 0 cR1] 27)
      replace oR := oR.below LA
      replace pR := pR.below LA
      have xR := box_new SS #[.int .i64 0, .int .i64 0, .int .i64 0, .int .i64 0, .int .i64 0, .bool false, .slice aR0 0 cR0, .slice aR1 0 cR1] 27
      have sAR : uzR + 1 ≤ (SS.alloc (.cells #[.int .i64 0, .int .i64 0, .int .i64 0, .int .i64 0, .int .i64 0, .bool false, .slice aR0 0 cR0, .slice aR1 0 cR1] 27)).heap.size := by rw [huzR.out]; simp
      clear LA
      have c_k0 := boxC k0
      have c_xR := boxC xR
      go_wp2_with fail
      clear c_k0 c_xR
      generalize SS.alloc (.cells #[.int .i64 0, .int .i64 0, .int .i64 0, .int .i64 0, .int .i64 0, .bool false, .slice aR0 0 cR0, .slice aR1 0 cR1] 27) = VR at *
      rw [← huzR.out] at xR ⊢
      clear huzR
      refine (toPpu _ (fun _ _ => True) (fun _ _ => True) a0T a0Ctrl a0Scroll a0Addr a0Pal a0Blank _ _ n0Table f0Table n0Dots f0Dots (Ints.keep (F := fun _ _ => True) ⟨_, _, rfl, hnTable, hTabler, fun _ _ _ => trivial⟩ (wrote_below C3 Nowhere) (fun _ _ _ x => x)) (Ints.keep (F := fun _ _ => True) ⟨_, _, rfl, hnDots, hDotsr, fun _ _ _ => trivial⟩ (wrote_below C3 Nowhere) (fun _ _ _ x => x))).mono ?_
      rintro e X0 ⟨v0, rfl, o0, L⟩
      have C4 := below_snoc C3 L
      replace k0 := box_keep k0 L (boxLt k0)
      replace xR := box_keep xR L (boxLt xR)
      replace oR := oR.below L
      replace pR := pR.below L
      have sz4 := L.size
      clear L C3
      obtain ⟨a00, c00, a01, c01, hy0⟩ := o0.two
      subst hy0
      obtain ⟨uz0, huz0⟩ : ∃ t, Hid (t = X0.heap.size) := ⟨_, rfl⟩
      replace o0 := o0.mono (E := fun b => uzR + 1 ≤ b ∧ b < uz0) (fun b hb h => ⟨by omega, by rw [huz0.out]; exact hb⟩)
      have luz0 : uzR + 1 ≤ uz0 := by rw [huz0.out]; omega
      replace C4 := C4.alloc C4.size (.cells #[.int .i64 a0T, .int .i64 a0Ctrl, .int .i64 a0Scroll, .int .i64 a0Addr, .int .i64 a0Pal, .bool a0Blank, .slice a00 n0Table c00, .slice a01 n0Dots c01] 27)
      have LA : Below X0.heap.size X0 (X0.alloc (.cells #[.int .i64 a0T, .int .i64 a0Ctrl, .int .i64 a0Scroll, .int .i64 a0Addr, .int .i64 a0Pal, .bool a0Blank, .slice a00 n0Table c00, .slice a01 n0Dots c01] 27)) := (Below.refl _ _).alloc (Nat.le_refl _) _
      replace k0 := boxA k0 (.cells #[.int .i64 a0T, .int .i64 a0Ctrl, .int .i64 a0Scroll, .int .i64 a0Addr, .int .i64 a0Pal, .bool a0Blank, .slice a00 n0Table c00, .slice a01 n0Dots c01] 27)
      replace xR := boxA xR (.cells #[.int .i64 a0T, .int .i64 a0Ctrl, .int .i64 a0Scroll, .int .i64 a0Addr, .int .i64 a0Pal, .bool a0Blank, .slice a00 n0Table c00, .slice a01 n0Dots c01] 27)
      replace oR := oR.below LA
      replace pR := pR.below LA
      replace o0 := o0.below LA
      have x0 := box_new X0 #[.int .i64 a0T, .int .i64 a0Ctrl, .int .i64 a0Scroll, .int .i64 a0Addr, .int .i64 a0Pal, .bool a0Blank, .slice a00 n0Table c00, .slice a01 n0Dots c01] 27
      have sA0 : uz0 + 1 ≤ (X0.alloc (.cells #[.int .i64 a0T, .int .i64 a0Ctrl, .int .i64 a0Scroll, .int .i64 a0Addr, .int .i64 a0Pal, .bool a0Blank, .slice a00 n0Table c00, .slice a01 n0Dots c01] 27)).heap.size := by rw [huz0.out]; simp
      clear LA
      have c_k0 := boxC k0
      have c_xR := boxC xR
      have c_x0 := boxC x0
      go_wp2_with fail
      clear c_k0 c_xR c_x0
      generalize X0.alloc (.cells #[.int .i64 a0T, .int .i64 a0Ctrl, .int .i64 a0Scroll, .int .i64 a0Addr, .int .i64 a0Pal, .bool a0Blank, .slice a00 n0Table c00, .slice a01 n0Dots c01] 27) = V0 at *
      rw [← huz0.out] at x0 ⊢
      clear huz0
      refine (onImplPpuTickF _ _ _ a0T a0Ctrl a0Scroll a0Addr a0Pal a0Blank n0Table f0Table n0Dots f0Dots o0 HK.out).mono ?_
      rintro e GG ⟨vG, yG, rfl, DG, EG, oG, pG, dG, bG, L⟩
      have C5 := below_snoc C4 L
      replace k0 := box_keep k0 L (boxLt k0)
      replace xR := box_keep xR L (boxLt xR)
      replace x0 := box_keep x0 L (boxLt x0)
      replace oR := oR.below L
      replace pR := pR.below L
      replace o0 := o0.below L
      have sz5 := L.size
      clear L C4
      obtain ⟨aG0, cG0, aG1, cG1, hyG⟩ := oG.two
      subst hyG
      obtain ⟨zG0, zG1, hwG⟩ := pG.two
      subst hwG
      obtain ⟨uzG, huzG⟩ : ∃ t, Hid (t = GG.heap.size) := ⟨_, rfl⟩
      replace oG := oG.mono (E := fun b => (uz0 + 1 ≤ b ∧ b < uzG) ∧ DG b) (fun b hb h => ⟨⟨by have := bG b (Or.inl h); omega, by rw [huzG.out]; exact hb⟩, h⟩)
      replace pG := pG.mono (E := fun b => (uz0 + 1 ≤ b ∧ b < uzG) ∧ EG b) (fun b hb h => ⟨⟨by have := bG b (Or.inr h); omega, by rw [huzG.out]; exact hb⟩, h⟩)
      clear bG
      have luzG : uz0 + 1 ≤ uzG := by rw [huzG.out]; omega
      replace C5 := C5.alloc C5.size (.cells #[.int .i64 0, .int .i64 0, .int .i64 0, .int .i64 0, .int .i64 0, .bool false, .slice aG0 0 cG0, .slice aG1 0 cG1] 27)
      have LA : Below GG.heap.size GG (GG.alloc (.cells #[.int .i64 0, .int .i64 0, .int .i64 0, .int .i64 0, .int .i64 0, .bool false, .slice aG0 0 cG0, .slice aG1 0 cG1] 27)) := (Below.refl _ _).alloc (Nat.le_refl _) _
      replace k0 := boxA k0 (.cells #[.int .i64 0, .int .i64 0, .int .i64 0, .int .i64 0, .int .i64 0, .bool false, .slice aG0 0 cG0, .slice aG1 0 cG1] 27)
      replace xR := boxA xR (.cells #[.int .i64 0, .int .i64 0, .int .i64 0, .int .i64 0, .int .i64 0, .bool false, .slice aG0 0 cG0, .slice aG1 0 cG1] 27)
      replace x0 := boxA x0 (.cells #[.int .i64 0, .int .i64 0, .int .i64 0, .int .i64 0, .int .i64 0, .bool false, .slice aG0 0 cG0, .slice aG1 0 cG1] 27)
      replace oR := oR.below LA
      replace pR := pR.below LA
      replace o0 := o0.below LA
      replace oG := oG.below LA
      replace pG := pG.below LA
      have xG := box_new GG #[.int .i64 0, .int .i64 0, .int .i64 0, .int .i64 0, .int .i64 0, .bool false, .slice aG0 0 cG0, .slice aG1 0 cG1] 27
      have sAG : uzG + 1 ≤ (GG.alloc (.cells #[.int .i64 0, .int .i64 0, .int .i64 0, .int .i64 0, .int .i64 0, .bool false, .slice aG0 0 cG0, .slice aG1 0 cG1] 27)).heap.size := by rw [huzG.out]; simp
      clear LA
      have c_k0 := boxC k0
      have c_xR := boxC xR
      have c_x0 := boxC x0
      have c_xG := boxC xG
      go_wp2_with fail
      clear c_k0 c_xR c_x0 c_xG
      generalize GG.alloc (.cells #[.int .i64 0, .int .i64 0, .int .i64 0, .int .i64 0, .int .i64 0, .bool false, .slice aG0 0 cG0, .slice aG1 0 cG1] 27) = VG at *
      rw [← huzG.out] at xG ⊢
      clear huzG
      refine (onEqPpu _ _ _ _ _ 0 0 0 0 0 false 0 f0Table 0 f0Dots oG oR).mono ?_
      rintro e E1a ⟨rfl, L⟩
      have C6 := below_snoc C5 L
      replace k0 := box_keep k0 L (boxLt k0)
      replace xR := box_keep xR L (boxLt xR)
      replace x0 := box_keep x0 L (boxLt x0)
      replace xG := box_keep xG L (boxLt xG)
      replace oR := oR.below L
      replace pR := pR.below L
      replace o0 := o0.below L
      replace oG := oG.below L
      replace pG := pG.below L
      have sz6 := L.size
      clear L C5
      have c_k0 := boxC k0
      have c_xR := boxC xR
      have c_x0 := boxC x0
      have c_xG := boxC xG
      go_wp2_with fail
      clear c_k0 c_xR c_x0 c_xG
      refine (onEqList _ _ _ _ _ 0 f0Dots pG pR).mono ?_
      rintro e E1b ⟨rfl, L⟩
      have C7 := below_snoc C6 L
      replace k0 := box_keep k0 L (boxLt k0)
      replace xR := box_keep xR L (boxLt xR)
      replace x0 := box_keep x0 L (boxLt x0)
      replace xG := box_keep xG L (boxLt xG)
      replace oR := oR.below L
      replace pR := pR.below L
      replace o0 := o0.below L
      replace oG := oG.below L
      replace pG := pG.below L
      have sz7 := L.size
      clear L C6
      have c_k0 := boxC k0
      have c_xR := boxC xR
      have c_x0 := boxC x0
      have c_xG := boxC xG
      go_upto_region 10 with (fail)
      go_cut [56] (fun s WX => s = .bool false ∧ Below E1b.heap.size E1b WX)
      case first =>
        go_region_with (first
          | (go_at_call 11; refine (toPpu _ (fun _ _ => True) (fun _ _ => True) a0T a0Ctrl a0Scroll a0Addr a0Pal a0Blank _ _ n0Table f0Table n0Dots f0Dots (Ints.keep (F := fun _ _ => True) ⟨_, _, rfl, hnTable, hTabler, fun _ _ _ => trivial⟩ (wrote_below (below_snoc C7 (Below.refl _ E1b).drew) Nowhere) (fun _ _ _ x => x)) (Ints.keep (F := fun _ _ => True) ⟨_, _, rfl, hnDots, hDotsr, fun _ _ _ => trivial⟩ (wrote_below (below_snoc C7 (Below.refl _ E1b).drew) Nowhere) (fun _ _ _ x => x))).mono ?_; rintro e YY ⟨vv, rfl, RR, MM⟩; have DD : Below E1b.heap.size E1b YY := (Below.refl _ _).drew.trans MM; have d_x0 := boxC (box_keep x0 DD (boxLt x0)); have QQ := o0.below DD; skip)
          | (go_at_call 13; refine (onEqPpu _ _ _ _ _ a0T a0Ctrl a0Scroll a0Addr a0Pal a0Blank n0Table f0Table n0Dots f0Dots QQ RR).mono ?_; rintro e ZZ ⟨rfl, NN⟩; have EE := below_snoc DD NN))
        all_goals
          go_wp2_with fail
          go_meet
          exact ⟨rfl, EE⟩
      case rest =>
        obtain ⟨rfl, LX⟩ := hcut
        clear c_k0 c_xR c_x0 c_xG
        obtain ⟨E0, hE0⟩ : ∃ x, x = wc := ⟨_, rfl⟩
        subst hE0
        have C8 := below_snoc C7 LX
        replace k0 := box_keep k0 LX (boxLt k0)
        replace xR := box_keep xR LX (boxLt xR)
        replace x0 := box_keep x0 LX (boxLt x0)
        replace xG := box_keep xG LX (boxLt xG)
        replace oR := oR.below LX
        replace pR := pR.below LX
        replace o0 := o0.below LX
        replace oG := oG.below LX
        replace pG := pG.below LX
        have sz8 := LX.size
        clear LX C7
        have : (0 : Int) ≤ ((n0Table : Nat) : Int) := Int.natCast_nonneg _
        have : (0 : Int) ≤ ((n0Dots : Nat) : Int) := Int.natCast_nonneg _
        have sG1 := oG.small1
        have sG2 := oG.small2
        have sG3 := pG.small
        have c_k0 := boxC k0
        have c_xR := boxC xR
        have c_x0 := boxC x0
        have c_xG := boxC xG
        go_wp2_with fail
        clear c_k0 c_xR c_x0 c_xG
        refine (onMarkPpu _ _ _ a0T a0Ctrl a0Scroll a0Addr a0Pal a0Blank n0Table f0Table n0Dots f0Dots 1 o0 (by omega) (by omega)).mono ?_
        rintro e M1 ⟨rfl, -, T⟩
        clear o0
        have C9 := C8.trans (T.below C8.size (fun b o hb (h : _ ∧ _) => by omega))
        replace k0 := box_wrote k0 T (fun o (h : _ ∧ _) => by omega)
        replace xR := box_wrote xR T (fun o (h : _ ∧ _) => by omega)
        replace x0 := box_wrote x0 T (fun o (h : _ ∧ _) => by omega)
        replace xG := box_wrote xG T (fun o (h : _ ∧ _) => by omega)
        replace oR := oR.keep T (fun b o (hb : _ ∧ _) _ (h : _ ∧ _) => by omega)
        replace pR := pR.keep T (fun b o (hb : _ ∧ _) _ (h : _ ∧ _) => by omega)
        replace oG := oG.keep T (fun b o (hb : _ ∧ _) _ (h : _ ∧ _) => by omega)
        replace pG := pG.keep T (fun b o (hb : _ ∧ _) _ (h : _ ∧ _) => by omega)
        have sz9 := T.size
        clear T C8
        have hk1 : ¬ ((1 : Int) + (n0Table : Int) + (n0Dots : Int) < 0) := by omega
        have c_k0 := boxC k0
        have c_xR := boxC xR
        have c_x0 := boxC x0
        have c_xG := boxC xG
        go_wp2_with fail
        clear c_k0 c_xR c_x0 c_xG
        refine (onEqPpu _ _ _ _ _ 0 0 0 0 0 false 0 f0Table 0 f0Dots oG oR).mono ?_
        rintro e E2a ⟨rfl, L⟩
        have C10 := below_snoc C9 L
        replace k0 := box_keep k0 L (boxLt k0)
        replace xR := box_keep xR L (boxLt xR)
        replace x0 := box_keep x0 L (boxLt x0)
        replace xG := box_keep xG L (boxLt xG)
        replace oR := oR.below L
        replace pR := pR.below L
        replace oG := oG.below L
        replace pG := pG.below L
        have sz10 := L.size
        clear L C9
        have c_k0 := boxC k0
        have c_xR := boxC xR
        have c_x0 := boxC x0
        have c_xG := boxC xG
        go_wp2_with fail
        clear c_k0 c_xR c_x0 c_xG
        refine (onEqList _ _ _ _ _ 0 f0Dots pG pR).mono ?_
        rintro e E2b ⟨rfl, L⟩
        have C11 := below_snoc C10 L
        replace k0 := box_keep k0 L (boxLt k0)
        replace xR := box_keep xR L (boxLt xR)
        replace x0 := box_keep x0 L (boxLt x0)
        replace xG := box_keep xG L (boxLt xG)
        replace oR := oR.below L
        replace pR := pR.below L
        replace oG := oG.below L
        replace pG := pG.below L
        have sz11 := L.size
        clear L C10
        have c_k0 := boxC k0
        have c_xR := boxC xR
        have c_x0 := boxC x0
        have c_xG := boxC xG
        go_wp2_with fail
        clear c_k0 c_xR c_x0 c_xG
        refine (onMarkPpu _ _ _ 0 0 0 0 0 false 0 f0Table 0 f0Dots 1 oG (by omega) (by omega)).mono ?_
        rintro e M2 ⟨rfl, oK, T⟩
        clear oG
        have C12 := C11.trans (T.below C11.size (fun b o hb (h : _ ∧ _) => by omega))
        replace k0 := box_wrote k0 T (fun o (h : _ ∧ _) => by omega)
        replace xR := box_wrote xR T (fun o (h : _ ∧ _) => by omega)
        replace x0 := box_wrote x0 T (fun o (h : _ ∧ _) => by omega)
        replace xG := box_wrote xG T (fun o (h : _ ∧ _) => by omega)
        replace oR := oR.keep T (fun b o (hb : _ ∧ _) _ (h : _ ∧ _) => by omega)
        replace pR := pR.keep T (fun b o (hb : _ ∧ _) _ (h : _ ∧ _) => by omega)
        replace pG := pG.keep T (fun b o hb _ h => dG b h.2 hb.2)
        have sz12 := T.size
        clear T C11
        have c_k0 := boxC k0
        have c_xR := boxC xR
        have c_x0 := boxC x0
        have c_xG := boxC xG
        go_wp2_with fail
        clear c_k0 c_xR c_x0 c_xG
        refine (onMarkList _ _ _ 0 f0Dots (1) pG (by omega) (by omega)).mono ?_
        rintro e M3 ⟨rfl, pK, T⟩
        clear pG
        have C13 := C12.trans (T.below C12.size (fun b o hb (h : _ ∧ _) => by omega))
        replace k0 := box_wrote k0 T (fun o (h : _ ∧ _) => by omega)
        replace xR := box_wrote xR T (fun o (h : _ ∧ _) => by omega)
        replace x0 := box_wrote x0 T (fun o (h : _ ∧ _) => by omega)
        replace xG := box_wrote xG T (fun o (h : _ ∧ _) => by omega)
        replace oR := oR.keep T (fun b o (hb : _ ∧ _) _ (h : _ ∧ _) => by omega)
        replace pR := pR.keep T (fun b o (hb : _ ∧ _) _ (h : _ ∧ _) => by omega)
        replace oK := oK.keep T (fun b o hb _ h => dG b hb.2 h.2)
        have sz13 := T.size
        clear T C12
        have c_k0 := boxC k0
        have c_xR := boxC xR
        have c_x0 := boxC x0
        have c_xG := boxC xG
        go_wp2_with fail
        clear c_k0 c_xR c_x0 c_xG
        refine (onHeldPpu _ _ _ 0 0 0 0 0 false 0 0 1 oK (by omega) (by omega)).mono ?_
        rintro e H1a ⟨rfl, L⟩
        have C14 := below_snoc C13 L
        replace k0 := box_keep k0 L (boxLt k0)
        replace xR := box_keep xR L (boxLt xR)
        replace x0 := box_keep x0 L (boxLt x0)
        replace xG := box_keep xG L (boxLt xG)
        replace oR := oR.below L
        replace pR := pR.below L
        replace oK := oK.below L
        replace pK := pK.below L
        have sz14 := L.size
        clear L C13
        have c_k0 := boxC k0
        have c_xR := boxC xR
        have c_x0 := boxC x0
        have c_xG := boxC xG
        go_wp2_with fail
        clear c_k0 c_xR c_x0 c_xG
        refine (onHeldList _ _ _ 0 (1) pK (by omega) (by omega)).mono ?_
        rintro e H1b ⟨rfl, L⟩
        have C15 := below_snoc C14 L
        replace k0 := box_keep k0 L (boxLt k0)
        replace xR := box_keep xR L (boxLt xR)
        replace x0 := box_keep x0 L (boxLt x0)
        replace xG := box_keep xG L (boxLt xG)
        replace oR := oR.below L
        replace pR := pR.below L
        replace oK := oK.below L
        replace pK := pK.below L
        have sz15 := L.size
        clear L C14
        have c_k0 := boxC k0
        have c_xR := boxC xR
        have c_x0 := boxC x0
        have c_xG := boxC xG
        go_wp2_with fail
        clear c_k0 c_xR c_x0 c_xG
        refine (toPpu _ (fun _ _ => True) (fun _ _ => True) a0T a0Ctrl a0Scroll a0Addr a0Pal a0Blank _ _ n0Table f0Table n0Dots f0Dots (Ints.keep (F := fun _ _ => True) ⟨_, _, rfl, hnTable, hTabler, fun _ _ _ => trivial⟩ (wrote_below C15 Nowhere) (fun _ _ _ x => x)) (Ints.keep (F := fun _ _ => True) ⟨_, _, rfl, hnDots, hDotsr, fun _ _ _ => trivial⟩ (wrote_below C15 Nowhere) (fun _ _ _ x => x))).mono ?_
        rintro e XX ⟨vX, rfl, oX, L⟩
        have C16 := below_snoc C15 L
        replace k0 := box_keep k0 L (boxLt k0)
        replace xR := box_keep xR L (boxLt xR)
        replace x0 := box_keep x0 L (boxLt x0)
        replace xG := box_keep xG L (boxLt xG)
        replace oR := oR.below L
        replace pR := pR.below L
        replace oK := oK.below L
        replace pK := pK.below L
        have sz16 := L.size
        clear L C15
        have c_k0 := boxC k0
        have c_xR := boxC xR
        have c_x0 := boxC x0
        have c_xG := boxC xG
        go_wp2_with fail
        clear c_k0 c_xR c_x0 c_xG
        refine (onImplPpuTickF _ _ _ a0T a0Ctrl a0Scroll a0Addr a0Pal a0Blank n0Table f0Table n0Dots f0Dots oX HK.out).mono ?_
        rintro e HH ⟨vH, yH, rfl, DH, EH, oH, pH, dH, bH, L⟩
        have C17 := below_snoc C16 L
        replace k0 := box_keep k0 L (boxLt k0)
        replace xR := box_keep xR L (boxLt xR)
        replace x0 := box_keep x0 L (boxLt x0)
        replace xG := box_keep xG L (boxLt xG)
        replace oR := oR.below L
        replace pR := pR.below L
        replace oK := oK.below L
        replace pK := pK.below L
        replace oX := oX.below L
        have sz17 := L.size
        clear L C16
        clear oX
        obtain ⟨aH0, cH0, aH1, cH1, hyH⟩ := oH.two
        subst hyH
        obtain ⟨zH0, zH1, hwH⟩ := pH.two
        subst hwH
        obtain ⟨uzH, huzH⟩ : ∃ t, Hid (t = HH.heap.size) := ⟨_, rfl⟩
        replace oH := oH.mono (E := fun b => (uzG + 1 ≤ b ∧ b < uzH) ∧ DH b) (fun b hb h => ⟨⟨by have := bH b (Or.inl h); omega, by rw [huzH.out]; exact hb⟩, h⟩)
        replace pH := pH.mono (E := fun b => (uzG + 1 ≤ b ∧ b < uzH) ∧ EH b) (fun b hb h => ⟨⟨by have := bH b (Or.inr h); omega, by rw [huzH.out]; exact hb⟩, h⟩)
        clear bH
        have luzH : uzG + 1 ≤ uzH := by rw [huzH.out]; omega
        replace C17 := C17.alloc C17.size (.cells #[.int .i64 0, .int .i64 0, .int .i64 0, .int .i64 0, .int .i64 0, .bool false, .slice aH0 0 cH0, .slice aH1 0 cH1] 27)
        have LA : Below HH.heap.size HH (HH.alloc (.cells #[.int .i64 0, .int .i64 0, .int .i64 0, .int .i64 0, .int .i64 0, .bool false, .slice aH0 0 cH0, .slice aH1 0 cH1] 27)) := (Below.refl _ _).alloc (Nat.le_refl _) _
        replace k0 := boxA k0 (.cells #[.int .i64 0, .int .i64 0, .int .i64 0, .int .i64 0, .int .i64 0, .bool false, .slice aH0 0 cH0, .slice aH1 0 cH1] 27)
        replace xR := boxA xR (.cells #[.int .i64 0, .int .i64 0, .int .i64 0, .int .i64 0, .int .i64 0, .bool false, .slice aH0 0 cH0, .slice aH1 0 cH1] 27)
        replace x0 := boxA x0 (.cells #[.int .i64 0, .int .i64 0, .int .i64 0, .int .i64 0, .int .i64 0, .bool false, .slice aH0 0 cH0, .slice aH1 0 cH1] 27)
        replace xG := boxA xG (.cells #[.int .i64 0, .int .i64 0, .int .i64 0, .int .i64 0, .int .i64 0, .bool false, .slice aH0 0 cH0, .slice aH1 0 cH1] 27)
        replace oR := oR.below LA
        replace pR := pR.below LA
        replace oK := oK.below LA
        replace pK := pK.below LA
        replace oH := oH.below LA
        replace pH := pH.below LA
        have xH := box_new HH #[.int .i64 0, .int .i64 0, .int .i64 0, .int .i64 0, .int .i64 0, .bool false, .slice aH0 0 cH0, .slice aH1 0 cH1] 27
        have sAH : uzH + 1 ≤ (HH.alloc (.cells #[.int .i64 0, .int .i64 0, .int .i64 0, .int .i64 0, .int .i64 0, .bool false, .slice aH0 0 cH0, .slice aH1 0 cH1] 27)).heap.size := by rw [huzH.out]; simp
        clear LA
        have c_k0 := boxC k0
        have c_xR := boxC xR
        have c_x0 := boxC x0
        have c_xG := boxC xG
        have c_xH := boxC xH
        go_wp2_with fail
        clear c_k0 c_xR c_x0 c_xG c_xH
        generalize HH.alloc (.cells #[.int .i64 0, .int .i64 0, .int .i64 0, .int .i64 0, .int .i64 0, .bool false, .slice aH0 0 cH0, .slice aH1 0 cH1] 27) = VH at *
        rw [← huzH.out] at xH ⊢
        clear huzH
        refine (onEqPpu _ _ _ _ _ 0 0 0 0 0 false 0 f0Table 0 f0Dots oH oR).mono ?_
        rintro e E3a ⟨rfl, L⟩
        have C18 := below_snoc C17 L
        replace k0 := box_keep k0 L (boxLt k0)
        replace xR := box_keep xR L (boxLt xR)
        replace x0 := box_keep x0 L (boxLt x0)
        replace xG := box_keep xG L (boxLt xG)
        replace xH := box_keep xH L (boxLt xH)
        replace oR := oR.below L
        replace pR := pR.below L
        replace oK := oK.below L
        replace pK := pK.below L
        replace oH := oH.below L
        replace pH := pH.below L
        have sz18 := L.size
        clear L C17
        have c_k0 := boxC k0
        have c_xR := boxC xR
        have c_x0 := boxC x0
        have c_xG := boxC xG
        have c_xH := boxC xH
        go_wp2_with fail
        clear c_k0 c_xR c_x0 c_xG c_xH
        refine (onEqList _ _ _ _ _ 0 f0Dots pH pR).mono ?_
        rintro e E3b ⟨rfl, L⟩
        have C19 := below_snoc C18 L
        replace k0 := box_keep k0 L (boxLt k0)
        replace xR := box_keep xR L (boxLt xR)
        replace x0 := box_keep x0 L (boxLt x0)
        replace xG := box_keep xG L (boxLt xG)
        replace xH := box_keep xH L (boxLt xH)
        replace oR := oR.below L
        replace pR := pR.below L
        replace oK := oK.below L
        replace pK := pK.below L
        replace oH := oH.below L
        replace pH := pH.below L
        have sz19 := L.size
        clear L C18
        have c_k0 := boxC k0
        have c_xR := boxC xR
        have c_x0 := boxC x0
        have c_xG := boxC xG
        have c_xH := boxC xH
        go_wp2_with fail
        clear c_k0 c_xR c_x0 c_xG c_xH
        refine (onHeldPpu _ _ _ 0 0 0 0 0 false 0 0 1 oK (by omega) (by omega)).mono ?_
        rintro e H2a ⟨rfl, L⟩
        have C20 := below_snoc C19 L
        replace k0 := box_keep k0 L (boxLt k0)
        replace xR := box_keep xR L (boxLt xR)
        replace x0 := box_keep x0 L (boxLt x0)
        replace xG := box_keep xG L (boxLt xG)
        replace xH := box_keep xH L (boxLt xH)
        replace oR := oR.below L
        replace pR := pR.below L
        replace oK := oK.below L
        replace pK := pK.below L
        replace oH := oH.below L
        replace pH := pH.below L
        have sz20 := L.size
        clear L C19
        have c_k0 := boxC k0
        have c_xR := boxC xR
        have c_x0 := boxC x0
        have c_xG := boxC xG
        have c_xH := boxC xH
        go_wp2_with fail
        clear c_k0 c_xR c_x0 c_xG c_xH
        refine (onHeldList _ _ _ 0 (1) pK (by omega) (by omega)).mono ?_
        rintro e H2b ⟨rfl, L⟩
        have C21 := below_snoc C20 L
        replace k0 := box_keep k0 L (boxLt k0)
        replace xR := box_keep xR L (boxLt xR)
        replace x0 := box_keep x0 L (boxLt x0)
        replace xG := box_keep xG L (boxLt xG)
        replace xH := box_keep xH L (boxLt xH)
        replace oR := oR.below L
        replace pR := pR.below L
        replace oK := oK.below L
        replace pK := pK.below L
        replace oH := oH.below L
        replace pH := pH.below L
        have sz21 := L.size
        clear L C20
        have c_k0 := boxC k0
        have c_xR := boxC xR
        have c_x0 := boxC x0
        have c_xG := boxC xG
        have c_xH := boxC xH
        go_wp2
        go_ret
        exact ⟨rfl, C21⟩
set_option maxRecDepth 100000 in
theorem lifted (os : Os) (started : os.Started) (H : Type) (enc : TypeId × Value → H) :
    ReturnsInHanded {} Try.checked os 6 .any (Rows.fnExactPpuTickSpec.pre6 enc Try.prog Try.f6 Rows.fnExactPpuTickRow.domain false) (Rows.fnExactPpuTickSpec.post enc Try.prog Try.f6 false true false false) := by
  refine returnsInHanded_of_change (C := Try.checked) own started (by kernel_rfl) Try.func6
    (ChangeSpec.witness6 (enc := enc) (C := Try.checked) false ⟨#[], #[.agg #[.int .i64 0, .int .i64 0, .int .i64 0, .int .i64 0, .int .i64 0, .bool false, .slice none 0 0, .slice none 0 0]], []⟩ 8 (by kernel_rfl) (by kernel_rfl) (by kernel_rfl) (by kernel_rfl)) ?_
  intro W base args ds gs before hval0 hW hcnd _
  have hval : ∀ (j : Nat) t v, Try.f6.params[j]? = some t → args[j]? = some v → Value.okWide Try.prog W .any base t v := hval0
  have hW' := hW
  obtain ⟨p, q, hA0, hV, rfl, hfz, hnd⟩ := hW
  have hA : DataW.TrodAll enc Try.prog W 0 (fun _ => true) true Try.f6.params.toList args.toList ds p := hA0
  rw [Try.params6] at hA hval
  obtain ⟨v0, vs0, d0, ds0, p0, q0, hargs, rfl, rfl, h0, r0⟩ := trodAll_cons hA
  obtain ⟨rfl, rfl, rfl⟩ := trodAll_nil r0
  obtain rfl : args = #[v0] := by cases args; simp_all
  obtain ⟨rfl, rfl⟩ := trodVars_none hV
  have k0 := h0
  have lt0 : ∀ x ∈ p0, x.block < W.heap.size := by obtain ⟨m, hm⟩ := k0; exact DataW.trod_lt m _ _ _ hm
  obtain ⟨a0T, a0Ctrl, a0Scroll, a0Addr, a0Pal, a0Blank, s0Table, n0Table, c0Table, f0Table, s0Dots, n0Dots, c0Dots, f0Dots, rfl, w0T, w0Ctrl, w0Scroll, w0Addr, w0Pal, w0Table, w0Dots⟩ := open_Ppu (hval 0 24 v0 rfl rfl) h0
  clear hA0 hval0
  refine (walk a0T a0Ctrl a0Scroll a0Addr a0Pal a0Blank s0Table n0Table c0Table f0Table s0Dots n0Dots c0Dots f0Dots W w0T w0Ctrl w0Scroll w0Addr w0Pal w0Table w0Dots).mono fun e W' ⟨he, bel⟩ => ?_
  subst he
  exact ⟨_, rfl, _, _, _, [], _, [], hW', trodAll_mk1 (shut_bool Try.underlying4 _), (trodAll_cons_mk (Below.trod laidOut (by kernel_rfl) (of_decide_eq_true (by kernel_rfl)) k0 bel lt0) trodAll_mk0), rfl, bel.frame _, fun h => by cases h⟩
theorem over : Rows.fnExactPpuTickRow.holds Try.pinned (OpenSpec.ofChange Rows.fnExactPpuTickSpec) :=
  OpenClaim.holds_of_wide 6 Try.f6 rfl rfl rfl rfl rfl rfl rfl ⟨rfl, rfl, rfl, rfl, rfl⟩ rfl rfl rfl rfl rfl (by kernel_rfl) Try.func6 (by kernel_rfl)
    (of_decide_eq_true (by kernel_rfl)) (by unfold Func.isWrapper; first | (rw [if_pos (by decide +kernel)]; kernel_rfl) | (rw [if_neg (by decide +kernel)]; exact ⟨rfl, rfl⟩))
    (fun os started H enc _ => lifted os started H enc)
end Go.Proofs.Ytpaedkefmebjjao.fnExactPpuTick
namespace Go.Proofs.Ytpaedkefmebjjao
theorem fnExactPpuTick_holds : Rows.FnExactPpuTickSaid := fnExactPpuTick.over
end Go.Proofs.Ytpaedkefmebjjao
