/-
  The specification's chapter 3 by its contracts: names, numbers, bytes, cycles and accesses of ops.
-/
import Derived.Test.YteefbbnkfclllaaDoorS2
namespace Go.Proofs.YteefbbnkfclllaaDoor
open Go.ChangeShapes Go.WideShapes Go.ChangeAt Go.RowKit
def opNm : List ByteArray := [⟨#[110, 111, 112]⟩, ⟨#[108, 100, 105]⟩, ⟨#[108, 100, 97]⟩, ⟨#[115, 116, 97]⟩, ⟨#[97, 100, 105]⟩, ⟨#[115, 98, 105]⟩, ⟨#[97, 110, 105]⟩, ⟨#[111, 114, 105]⟩, ⟨#[120, 114, 105]⟩, ⟨#[99, 112, 105]⟩, ⟨#[116, 97, 120]⟩, ⟨#[116, 120, 97]⟩, ⟨#[105, 110, 120]⟩, ⟨#[100, 101, 120]⟩, ⟨#[108, 97, 120]⟩, ⟨#[115, 97, 120]⟩, ⟨#[98, 110, 101]⟩, ⟨#[98, 101, 113]⟩, ⟨#[98, 99, 115]⟩, ⟨#[106, 109, 112]⟩, ⟨#[106, 115, 114]⟩, ⟨#[114, 116, 115]⟩, ⟨#[112, 104, 97]⟩, ⟨#[112, 108, 97]⟩, ⟨#[114, 116, 105]⟩, ⟨#[115, 101, 105]⟩, ⟨#[99, 108, 105]⟩, ⟨#[115, 101, 99]⟩, ⟨#[99, 108, 99]⟩, ⟨#[97, 100, 97]⟩]
def opCells : Array Value := #[.string ⟨#[110, 111, 112]⟩, .string ⟨#[108, 100, 105]⟩, .string ⟨#[108, 100, 97]⟩, .string ⟨#[115, 116, 97]⟩, .string ⟨#[97, 100, 105]⟩, .string ⟨#[115, 98, 105]⟩, .string ⟨#[97, 110, 105]⟩, .string ⟨#[111, 114, 105]⟩, .string ⟨#[120, 114, 105]⟩, .string ⟨#[99, 112, 105]⟩, .string ⟨#[116, 97, 120]⟩, .string ⟨#[116, 120, 97]⟩, .string ⟨#[105, 110, 120]⟩, .string ⟨#[100, 101, 120]⟩, .string ⟨#[108, 97, 120]⟩, .string ⟨#[115, 97, 120]⟩, .string ⟨#[98, 110, 101]⟩, .string ⟨#[98, 101, 113]⟩, .string ⟨#[98, 99, 115]⟩, .string ⟨#[106, 109, 112]⟩, .string ⟨#[106, 115, 114]⟩, .string ⟨#[114, 116, 115]⟩, .string ⟨#[112, 104, 97]⟩, .string ⟨#[112, 108, 97]⟩, .string ⟨#[114, 116, 105]⟩, .string ⟨#[115, 101, 105]⟩, .string ⟨#[99, 108, 105]⟩, .string ⟨#[115, 101, 99]⟩, .string ⟨#[99, 108, 99]⟩, .string ⟨#[97, 100, 97]⟩]
def opLens : List Int := [1, 2, 3, 3, 2, 2, 2, 2, 2, 2, 1, 1, 1, 1, 3, 3, 3, 3, 3, 3, 3, 1, 1, 1, 1, 1, 1, 1, 1, 3]
def opCycs : List Int := [2, 2, 4, 4, 2, 2, 2, 2, 2, 2, 2, 2, 2, 2, 4, 5, 3, 3, 3, 3, 6, 6, 3, 4, 6, 2, 2, 2, 2, 4]
theorem opCells_at (i : Nat) (h : i < 30) : opCells[i]? = some (.string (opNm.getD i ByteArray.empty)) := by
  have hm : opCells.toList = opNm.map Value.string := rfl
  rw [← Array.getElem?_toList, hm, List.getElem?_map, List.getD_eq_getElem?_getD]
  cases e : opNm[i]? with
  | none => exact absurd (List.getElem?_eq_none_iff.1 e) (by show ¬ 30 ≤ i; omega)
  | some x => rfl
theorem ints_at (L : List Int) (d : Int) (i : Nat) (h : i < L.length) : (L.map (Value.int .i64))[i]'(by simpa using h) = .int .i64 (L.getD ((i : Int).toNat) d) := by
  rw [List.getElem_map, Int.toNat_natCast, List.getD_eq_getElem?_getD, List.getElem?_eq_getElem h]
  rfl
def IsOp (s : ByteArray) (r : Int) : Prop := (∃ i : Nat, i < 30 ∧ r = i ∧ (opNm.getD i ByteArray.empty).toList = s.toList) ∨ r = -1 ∧ ∀ i : Nat, i < 30 → ¬ (opNm.getD i ByteArray.empty).toList = s.toList
def accOf (x : Int) : Int := if x = 2 ∨ x = 14 ∨ x = 29 then 1 else if x = 3 ∨ x = 15 then 2 else 0
end Go.Proofs.YteefbbnkfclllaaDoor
