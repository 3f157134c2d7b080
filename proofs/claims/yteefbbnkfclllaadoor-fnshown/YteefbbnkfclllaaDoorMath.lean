/-
  Plain facts on numbers, with no program in sight: masks of 64-bit integers are remainders, complements of bytes.
-/
import Derived.WalkKit
import Derived.Laws.BitsLemmas
import Derived.Laws.BitsAllLaws
namespace Go.Proofs.YteefbbnkfclllaaDoor
theorem i64_mask (n : Int) (m k : Nat) (hk : k < 63) (hm : (BitVec.ofInt 64 (m : Int)).toNat = 2 ^ k - 1) : bits .and .i64 n (m : Int) = n % ((2 ^ k : Nat) : Int) := by
  have key : (BitVec.ofInt 64 n &&& BitVec.ofInt 64 (m : Int)).toNat = (n % ((2 ^ 64 : Nat) : Int)).toNat % 2 ^ k := by
    rw [BitVec.toNat_and, BitVec.toNat_ofInt, hm, Nat.and_two_pow_sub_one_eq_mod]
  show IntKind.i64.wrap ((BitVec.ofInt 64 n &&& BitVec.ofInt 64 (m : Int)).toNat : Nat) = _
  rw [key, IntKind.wrap_i64]
  have hp : (0 : Nat) < 2 ^ k := Nat.two_pow_pos k
  have hle : 2 ^ k ≤ 4611686018427387904 := Nat.le_trans (Nat.pow_le_pow_right (by omega : 2 > 0) (by omega : k ≤ 62)) (by decide)
  have hd : (2 : Nat) ^ k ∣ 2 ^ 64 := Nat.pow_dvd_pow 2 (by omega)
  have h0 : 0 ≤ n % ((2 ^ 64 : Nat) : Int) := Int.emod_nonneg _ (by decide)
  have e1 : (((n % ((2 ^ 64 : Nat) : Int)).toNat % 2 ^ k : Nat) : Int) = n % ((2 ^ k : Nat) : Int) := by
    rw [Int.natCast_emod, Int.toNat_of_nonneg h0]
    exact Int.emod_emod_of_dvd n (Int.natCast_dvd_natCast.2 hd)
  rw [e1]
  clear e1 hd h0 key hm
  generalize 2 ^ k = K at *
  have b0 : 0 ≤ n % (K : Int) := Int.emod_nonneg _ (by omega)
  have b1 : n % (K : Int) < (K : Int) := Int.emod_lt_of_pos _ (by omega)
  omega
theorem i64_and255 (n : Int) : bits .and .i64 n 255 = n % 256 := i64_mask n 255 8 (by omega) (by decide)
theorem i64_and65535 (n : Int) : bits .and .i64 n 65535 = n % 65536 := i64_mask n 65535 16 (by omega) (by decide)
theorem i64_and30 (n : Int) : bits .and .i64 n 1073741823 = n % 1073741824 := i64_mask n 1073741823 30 (by omega) (by decide)
theorem ret_int {k : IntKind} {a b : Int} (h : a = b) : Ending.returned (.int k a) = .returned (.int k b) := by rw [h]
theorem ret_bool {a b : Bool} (h : a = b) : Ending.returned (.bool a) = .returned (.bool b) := by rw [h]
theorem ret_pair {a b c d : Value} (h : a = b) (g : c = d) : Ending.returned (.tuple #[a, c]) = .returned (.tuple #[b, d]) := by rw [h, g]
theorem u8_not (b : Int) (b0 : 0 ≤ b) (b1 : b < 256) : bits .xor .u8 IntKind.u8.max b = 255 - b := by
  obtain ⟨n, rfl⟩ := Int.eq_ofNat_of_zero_le b0
  have h : ∀ k : Fin 256, bits .xor .u8 IntKind.u8.max ((k.val : Nat) : Int) = 255 - ((k.val : Nat) : Int) := by decide +kernel
  exact h ⟨n, by omega⟩
theorem u16_join (a b : Int) (a0 : 0 ≤ a) (a1 : a < 256) (b0 : 0 ≤ b) (b1 : b < 256) : bits .or .u16 a (b * 256) = a + 256 * b := by
  rw [u16_or a (b * 256) a0 (by omega) (by omega) (by omega), Nat.or_comm, nat_join 8 _ _ (by omega) (by omega)]
  omega
def bitOf (b : Bool) : Int := if b then 1 else 0
end Go.Proofs.YteefbbnkfclllaaDoor
