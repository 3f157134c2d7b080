/- Whatever bytes are drawn from: what is added to a drawn byte is taken away again, with the carry, and joined bytes are bytes again. -/
import Derived.Test.YtpaedkefmebjjadRows
import Derived.Test.YtpaedkefmebjjadC1
import Derived.Test.YtpaedkefmebjjadD1
import Derived.WalkKit
import Derived.ProofKit
import Derived.OpenShut
import Derived.ShutString
import Derived.ChangeOld
import Derived.Below
namespace Go.Proofs.Ytpaedkefmebjjad.fnBytes
open Go.ChangeShapes Go.WideShapes Go.ChangeAt Go.RowKit
open Go.ChangeMaps (open_string shut_string)
set_option linter.unusedVariables false

theorem own : ownKnob Try.prog.godebug = none := by kernel_rfl
theorem laidOut : laidOutB Try.prog = true := by kernel_rfl

def IsRow (k : IntKind) (w : World) (a : Option Addr) (len cap : Nat) (zs : List Int) : Prop :=
  (a = none ∧ len = 0 ∧ cap = 0 ∧ zs = []) ∨
  ∃ x, a = some x ∧ len ≤ cap ∧ cap ≤ maxLen ∧ zs.length = cap ∧ (∀ i, i < zs.length → w.cell? (x.add i) = some (.int k (zs.getD i 0))) ∧ ∀ n ∈ zs, (Lit.int k n).wf = true

theorem subAfter (a b : Int) (c : Bool) (w : World) : Calls Try.prog 8 #[.int .i64 ((a % 256 + b % 256 + bitOf c) % 256), .int .i64 b, .bool (!c)] w fun e w' => e = .returned (.tuple #[.int .i64 (a % 256), .bool (!decide (255 < a % 256 + b % 256 + bitOf c))]) ∧ w' = w := by
  refine (implSub8 _ _ _ _).mono ?_
  rintro e w' ⟨rfl, rfl⟩
  refine ⟨ret_pair (congrArg (Value.int .i64) ?_) (congrArg Value.bool ?_), rfl⟩
  · cases c <;> simp [bitOf] <;> omega
  · cases c
    · have h : (0 ≤ (a % 256 + b % 256 + bitOf false) % 256 % 256 - b % 256 - 1 + bitOf (!false)) ↔ ¬ (255 < a % 256 + b % 256 + bitOf false) := by simp [bitOf]; omega
      rw [← decide_not]
      exact decide_eq_decide.2 h
    · have h : (0 ≤ (a % 256 + b % 256 + bitOf true) % 256 % 256 - b % 256 - 1 + bitOf (!true)) ↔ ¬ (255 < a % 256 + b % 256 + bitOf true) := by simp [bitOf]; omega
      rw [← decide_not]
      exact decide_eq_decide.2 h
theorem byteLo (a b : Int) (w : World) : Calls Try.prog 9 #[.int .i64 (a % 256 + 256 * (b % 256))] w fun e w' => e = .returned (.int .i64 (a % 256)) ∧ w' = w := by
  refine (implByte _ _).mono ?_
  rintro e w' ⟨rfl, rfl⟩
  exact ⟨ret_int (by omega), rfl⟩
theorem byteHi (a b : Int) (w : World) : Calls Try.prog 9 #[.int .i64 ((a % 256 + 256 * (b % 256)) / 256)] w fun e w' => e = .returned (.int .i64 (b % 256)) ∧ w' = w := by
  refine (implByte _ _).mono ?_
  rintro e w' ⟨rfl, rfl⟩
  exact ⟨ret_int (by omega), rfl⟩
theorem addrJoin (a b : Int) (w : World) : Calls Try.prog 16 #[.int .i64 (a % 256 + 256 * (b % 256))] w fun e w' => e = .returned (.int .i64 (a % 256 + 256 * (b % 256))) ∧ w' = w := by
  refine (implAddr _ _).mono ?_
  rintro e w' ⟨rfl, rfl⟩
  exact ⟨ret_int (by omega), rfl⟩
theorem walk (a0 : Option Addr) (len0 cap0 : Nat) (z0 : List Int) (w : World) (w0 : IsRow .u8 w a0 len0 cap0 z0) :
    Calls Try.prog 3 #[.slice a0 len0 cap0] w fun e w' => e = .returned (.bool true) ∧ Below w.heap.size w w' := by
  by_cases hl : 1048576 < (len0 : Int)
  · have hl' : decide (1048576 < (len0 : Int)) = true := decide_eq_true hl
    go_enter Try.func3, Try.ntmps3
    go_wp2_with fail
    refine (lawsBig _ _ _ _).mono ?_
    rintro e w' ⟨rfl, rfl⟩
    go_wp2
    go_ret
    exact ⟨rfl, Below.refl _ _⟩
  · have hl' : decide (1048576 < (len0 : Int)) = false := decide_eq_false hl
    have code := code_of_row w0 (by omega)
    have h128 : ∀ m : Int, decide (128 ≤ m) = decide (127 < m) := fun m => decide_eq_decide.2 (by omega)
    go_enter Try.func3, Try.ntmps3
    go_wp2_with fail
    refine (lawsBig _ _ _ _).mono ?_
    rintro e w' ⟨rfl, rfl⟩
    go_wp2_with fail
    refine (drawAdd8 _ _ a0 len0 cap0 (Nat.le_refl _) code).mono ?_
    rintro e w1 ⟨a, b, c, rfl, L1⟩
    go_wp2_with fail
    refine (implAdd8 _ _ _ _).mono ?_
    rintro e w' ⟨rfl, rfl⟩
    go_wp2_with fail
    refine (specAdd8 _ _ _ _).mono ?_
    rintro e w' ⟨rfl, rfl⟩
    go_wp2_with fail
    refine (subAfter _ _ _ _).mono ?_
    rintro e w' ⟨rfl, rfl⟩
    go_wp2_with fail
    refine (implByte _ _).mono ?_
    rintro e w' ⟨rfl, rfl⟩
    go_wp2_with fail
    refine (drawSub8 _ _ a0 len0 cap0 L1.size (code.keep L1)).mono ?_
    rintro e w2 ⟨x, y, k, rfl, L2⟩
    have L2' := L1.trans (L2.mono L1.size)
    go_wp2_with fail
    refine (implSub8 _ _ _ _).mono ?_
    rintro e wx ⟨rfl, rfl⟩
    go_wp2_with fail
    refine (specSub8 _ _ _ _).mono ?_
    rintro e wy ⟨rfl, rfl⟩
    go_wp2_with fail
    refine (drawJoin _ _ a0 len0 cap0 L2'.size (code.keep L2')).mono ?_
    rintro e w3 ⟨lo, hi, rfl, L3⟩
    have L3' := L2'.trans (L3.mono L2'.size)
    go_wp2_with fail
    refine (implJoin _ _ _).mono ?_
    rintro e wz ⟨rfl, rfl⟩
    go_wp2_with fail
    refine (drawSigns _ _ a0 len0 cap0 L3'.size (code.keep L3')).mono ?_
    rintro e w4 ⟨n, rfl, L4⟩
    have L4' := L3'.trans (L4.mono L3'.size)
    go_wp2_with fail
    refine (implSigns _ _).mono ?_
    rintro e wv ⟨rfl, rfl⟩
    go_wp2_with fail
    refine (byteLo _ _ _).mono ?_
    rintro e wu ⟨rfl, rfl⟩
    go_wp2_with fail
    refine (implByte _ _).mono ?_
    rintro e wt ⟨rfl, rfl⟩
    go_wp2_with fail
    refine (byteHi _ _ _).mono ?_
    rintro e ws ⟨rfl, rfl⟩
    go_wp2_with fail
    refine (implByte _ _).mono ?_
    rintro e wr ⟨rfl, rfl⟩
    go_wp2_with fail
    refine (addrJoin _ _ _).mono ?_
    rintro e wq ⟨rfl, rfl⟩
    go_wp2_with fail
    refine (implByte _ _).mono ?_
    rintro e wp ⟨rfl, rfl⟩
    go_wp2_with fail
    refine (implByte _ _).mono ?_
    rintro e wo ⟨rfl, rfl⟩
    go_wp2
    go_ret
    exact ⟨rfl, L4'⟩

set_option maxRecDepth 100000 in
theorem lifted (os : Os) (started : os.Started) (H : Type) (enc : TypeId × Value → H) :
    ReturnsInHanded {} Try.checked os 3 .any (Rows.fnBytesSpec.pre6 enc Try.prog Try.f3 Rows.fnBytesRow.domain false) (Rows.fnBytesSpec.post enc Try.prog Try.f3 false true false false) := by
  refine returnsInHanded_of_change (C := Try.checked) own started (by kernel_rfl) Try.func3
    (ChangeSpec.witness6 (enc := enc) (C := Try.checked) false ⟨#[], #[.slice none 0 0], []⟩ 8 (by kernel_rfl) (by kernel_rfl) (by kernel_rfl) (by kernel_rfl)) ?_
  intro W base args ds gs before hval0 hW hcnd _
  have hval : ∀ (j : Nat) t v, Try.f3.params[j]? = some t → args[j]? = some v → Value.okWide Try.prog W .any base t v := hval0
  have hW' := hW
  obtain ⟨p, q, hA0, hV, rfl, hfz, hnd⟩ := hW
  have hA : DataW.TrodAll enc Try.prog W 0 (fun _ => true) true Try.f3.params.toList args.toList ds p := hA0
  rw [Try.params3] at hA hval
  obtain ⟨v0, vs0, d0, ds0, p0, q0, hargs, rfl, rfl, h0, r0⟩ := trodAll_cons hA
  obtain ⟨rfl, rfl, rfl⟩ := trodAll_nil r0
  obtain rfl : args = #[v0] := by cases args; simp_all
  obtain ⟨rfl, rfl⟩ := trodVars_none hV
  obtain ⟨a0, len0, cap0, rfl⟩ := okWide_slice Try.underlying22 (hval 0 22 v0 rfl rfl)
  have k0 := h0
  have lt0 : ∀ x ∈ p0, x.block < W.heap.size := by obtain ⟨m, hm⟩ := k0; exact DataW.trod_lt m _ _ _ hm
  obtain ⟨z0, w0⟩ : ∃ zs, IsRow .u8 W a0 len0 cap0 zs := by
    obtain ⟨fuel, hf⟩ := h0
    rcases open_ints Try.underlying22 Try.underlying5 (by kernel_rfl) hf with ⟨hcs, _⟩ | ⟨x, l, c, zs, hcs, _, hl, hm, hz, _, hcell, hwz⟩
    · simp [Value.cells] at hcs
      obtain ⟨rfl, rfl, rfl⟩ := hcs
      exact ⟨[], .inl ⟨rfl, rfl, rfl, rfl⟩⟩
    · simp [Value.cells] at hcs
      obtain ⟨rfl, rfl, rfl⟩ := hcs
      exact ⟨zs, .inr ⟨_, rfl, hl, hm, by simpa using hz, hcell, hwz⟩⟩
  clear hA0 hval0
  refine (walk a0 len0 cap0 z0 W w0).mono fun e W' ⟨he, bel⟩ => ?_
  subst he
  exact ⟨_, rfl, _, _, _, [], _, [], hW', trodAll_mk1 (shut_bool Try.underlying4 _), (trodAll_cons_mk (Below.trod laidOut (by kernel_rfl) (of_decide_eq_true (by kernel_rfl)) k0 bel lt0) trodAll_mk0), rfl, bel.frame _, fun h => by cases h⟩

theorem over : Rows.fnBytesRow.holds Try.pinned (OpenSpec.ofChange Rows.fnBytesSpec) :=
  OpenClaim.holds_of_wide 3 Try.f3 rfl rfl rfl rfl rfl rfl rfl ⟨rfl, rfl, rfl, rfl, rfl⟩ rfl rfl rfl rfl rfl (by kernel_rfl) Try.func3 (by kernel_rfl)
    (of_decide_eq_true (by kernel_rfl)) (by unfold Func.isWrapper; first | (rw [if_pos (by decide +kernel)]; kernel_rfl) | (rw [if_neg (by decide +kernel)]; exact ⟨rfl, rfl⟩))
    (fun os started H enc _ => lifted os started H enc)

theorem proved : Rows.FnBytesSaid := over
end Go.Proofs.Ytpaedkefmebjjad.fnBytes
namespace Go.Proofs.Ytpaedkefmebjjad
theorem fnBytes_holds : Rows.FnBytesSaid := fnBytes.proved
end Go.Proofs.Ytpaedkefmebjjad
