/-
  The program's chapter 10 by its contracts: the sound unit.
-/
import Derived.Test.YtpaedkefmebjjaqAC
import Derived.Test.YtpaedkefmebjjaqI9
import Derived.Test.YtpaedkefmebjjaqI2
import Derived.Lib.QuietBelow
import Derived.BigQuiet
import Derived.Deep.DeepCutAuto
namespace Go.Proofs.Ytpaedkefmebjjaq
set_option linter.unusedVariables false
set_option linter.unusedSimpArgs false
open Go.ChangeShapes Go.WideShapes Go.ChangeAt Go.RowKit Go.Sort
theorem tmod_parts10 (x m : Int) (hm : 0 < m) : (x.tmod m < 0 → x.tmod m + m = x % m) ∧ (¬ x.tmod m < 0 → x.tmod m = x % m) ∧ -m < x.tmod m ∧ x.tmod m < m := by
  have h1 := Int.emod_nonneg x (show m ≠ 0 by omega)
  have h2 := Int.emod_lt_of_pos x hm
  rcases Int.le_total 0 x with h | h
  · have e := Int.tmod_eq_emod_of_nonneg (b := m) h
    rw [e]
    exact ⟨fun _ => by omega, fun _ => rfl, by omega, by omega⟩
  · have e : x.tmod m = -((-x) % m) := by
      have := Int.neg_tmod (-x) m
      rw [Int.neg_neg] at this
      rw [this, Int.tmod_eq_emod_of_nonneg (by omega)]
    have k1 := Int.emod_nonneg (-x) (show m ≠ 0 by omega)
    have k2 := Int.emod_lt_of_pos (-x) hm
    have d1 := Int.emod_add_mul_ediv x m
    have d2 := Int.emod_add_mul_ediv (-x) m
    rw [e]
    have key : (-x) % m = 0 ∧ x % m = 0 ∨ (-x) % m = m - x % m := by
      by_cases z : x % m = 0
      · left
        refine ⟨?_, z⟩
        have : m ∣ x := Int.dvd_of_emod_eq_zero z
        exact Int.emod_eq_zero_of_dvd (Int.dvd_neg.2 this)
      · right
        rw [Int.neg_emod]
        have hn : ¬ m ∣ x := fun hd => z (Int.emod_eq_zero_of_dvd hd)
        rw [if_neg hn]
        omega
    rcases key with ⟨k, z⟩ | k
    · exact ⟨fun h => by omega, fun _ => by omega, by omega, by omega⟩
    · by_cases z : (-x) % m = 0
      · exact ⟨fun h => by omega, fun _ => by omega, by omega, by omega⟩
      · exact ⟨fun h => by omega, fun h => by omega, by omega, by omega⟩
theorem mod_in32 (x : Int) : (x == x % 32) = inB x 0 31 := by
  by_cases h : 0 ≤ x ∧ x ≤ 31
  · rw [inB_yes h]; exact beq_iff_eq.2 (by omega)
  · rw [inB_no h]; exact beq_eq_false_iff_ne.2 (by omega)
theorem boxQ {W : World} {b : Nat} {cs : Array Value} {T : TypeId} (h : W.heap[b]? = some (.cells cs T (0, 0))) (d : Nat) (os : Array Obj) (j : Nat) : (grow (redrawn W d) os).cell? ⟨b, j, none⟩ = cs[j]? := boxC (((below_regrown W d os).block _ (boxLt h)).trans h) j
theorem implBeatIn (w : World) (a b : Int) : Calls Try.prog 9 #[.int .i64 a, .int .i64 b] w fun e w' => e = .returned (.bool (in9 a b 0 32)) ∧ Below w.heap.size w w' := by
  obtain ⟨f, hf⟩ : ∃ f, Hid (f = min (max a 0) 20000) := ⟨_, rfl⟩
  obtain ⟨t, ht⟩ : ∃ t, Hid (t = min (max b 0) 20000) := ⟨_, rfl⟩
  have f0 : 0 ≤ f := by rw [hf.out]; omega
  have f1 : f ≤ 20000 := by rw [hf.out]; omega
  have t0 : 0 ≤ t := by rw [ht.out]; omega
  have t1 : t ≤ 20000 := by rw [ht.out]; omega
  have HD : Hid (in9 a b 0 32 = decide ((f + 31) / 32 * 32 < t)) := by
    show _ = _
    rw [hf.out, ht.out]
    unfold in9
    apply decide_eq_decide.2
    omega
  have M := hide (fun W => implInTime W a)
  rw [← hf.out] at M
  have N := hide (fun W => implInTime W b)
  rw [← ht.out] at N
  have d1 : (f + 31).tdiv 32 = (f + 31) / 32 := Int.tdiv_eq_ediv_of_nonneg (by omega)
  have d2 : (f + 32 - 1).tdiv 32 = (f + 32 - 1) / 32 := Int.tdiv_eq_ediv_of_nonneg (by omega)
  go_enter Try.func9, Try.ntmps9
  go_wp2_with fail
  refine (unhide M _).mono ?_
  rintro e w1 ⟨rfl, rfl⟩
  go_wp2_with fail
  refine (unhide N _).mono ?_
  rintro e w2 ⟨rfl, rfl⟩
  go_wp2
  go_ret
  exact ⟨ret_bool (by rw [HD.out]; apply decide_eq_decide.2; omega), Below.refl _ _⟩
end Go.Proofs.Ytpaedkefmebjjaq
