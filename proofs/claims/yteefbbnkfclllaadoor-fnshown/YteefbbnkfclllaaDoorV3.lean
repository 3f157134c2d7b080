/-
  Numbers in digits by the library's Itoa, with its table of powers of ten as its text lays it.
-/
import Derived.Test.YteefbbnkfclllaaDoorC4
import Derived.Test.YteefbbnkfclllaaDoorShelf
import Derived.Lib.AppendIntMem
namespace Go.Proofs.YteefbbnkfclllaaDoor
set_option linter.unusedVariables false
open Go.ChangeShapes Go.WideShapes Go.ChangeAt Go.RowKit
/-- The library's table of powers of ten stands as its text lays it. -/
def Pow (w : World) : Prop := Lib.TabIs Tryd.prog w "internal/strconv.uint64pow10" .u64 Lib.pow10Tab
theorem Pow.mono {w w' : World} (h : Pow w) (hb : Below w.heap.size w w') : Pow w' := Lib.tabBelow_of_tabIs h w' hb
theorem decDigits_eq (n : Nat) : Lib.decDigits n = decL n := by
  induction n using Nat.strongRecOn with
  | _ n ih =>
    rw [Lib.decDigits]
    by_cases h : n < 10
    · rw [dif_pos h]
      unfold decL
      by_cases h0 : n = 0
      · subst h0; rfl
      · rw [if_neg h0, dg_step (by omega), show n / 10 = 0 by omega, dg_zero]
        show _ = [] ++ [UInt8.ofNat (48 + n % 10)]
        rw [Nat.mod_eq_of_lt h]
        rfl
    · rw [dif_neg h, ih (n / 10) (by omega)]
      unfold decL
      rw [if_neg (show ¬ n = 0 by omega), if_neg (show ¬ n / 10 = 0 by omega), dg_step (show 0 < n by omega)]
      rfl
theorem itoa_eq (n : Nat) : Lib.itoa (n : Int) = decL n := by
  unfold Lib.itoa
  rw [if_neg (by omega), Int.toNat_natCast]
  exact decDigits_eq n
theorem implItoa (w : World) (n : Nat) (hn : n ≤ 65535) (hp : Pow w) : Calls Tryd.prog 31 #[.int .i64 n] w fun e w' => (∃ s : ByteArray, e = .returned (.string s) ∧ s.data.toList = decL n) ∧ Below w.heap.size w w' := by
  refine (Tryd.strconv_Itoa n (by omega) (by omega) w hp).mono ?_
  rintro e w' ⟨rfl, k, os, rfl⟩
  exact ⟨⟨_, rfl, by rw [itoa_eq]⟩, Lib.below_grow _ _ (Nat.le_refl _) _ _⟩
end Go.Proofs.YteefbbnkfclllaaDoor
