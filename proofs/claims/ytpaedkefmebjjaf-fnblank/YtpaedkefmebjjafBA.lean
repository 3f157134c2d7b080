/-
  FnBlank: in a drawn stretch of time there is a blank cycle just if the next one lies in it.
-/
import Derived.Test.YtpaedkefmebjjafD9
import Derived.Test.YtpaedkefmebjjafAI
import Derived.Test.YtpaedkefmebjjafI9
namespace Go.Proofs.Ytpaedkefmebjjaf
set_option linter.unusedVariables false
set_option linter.unusedSimpArgs false
open Go.ChangeShapes Go.WideShapes Go.ChangeAt Go.RowKit
theorem blank_next (a b : Int) : in9 a b 48 64 = (decide (next9 a < b) && (decide (next9 a < 20000) && decide (a < 20000))) := by
  unfold in9 next9
  rw [← Bool.decide_and, ← Bool.decide_and]
  apply decide_eq_decide.2
  constructor <;> intro h <;> omega
theorem next9_rest (a : Int) : 0 ≤ next9 a ∧ next9 a % 64 = 48 := by unfold next9; omega
set_option maxRecDepth 40000 in
set_option maxHeartbeats 4000000 in
theorem lawBlank (w : World) (s0 : Option Addr) (n0 c0 : Nat) (h : (1048576 : Int) < (n0 : Int) ∨ Code w w.heap.size s0 n0) :
    Calls Try.prog 6 #[.slice s0 n0 c0] w fun e w' => e = .returned (.bool true) ∧ Below w.heap.size w w' := by
  by_cases hbig : (1048576 : Int) < (n0 : Int)
  · have hb' : decide ((1048576 : Int) < (n0 : Int)) = true := decide_eq_true hbig
    go_enter Try.func6, Try.ntmps6
    go_wp2_with fail
    refine (lawsBig _ s0 n0 c0).mono ?_
    rintro e w' ⟨rfl, rfl⟩
    rw [hb']
    go_wp2
    go_ret
    exact ⟨rfl, Below.refl _ _⟩
  · have hb' : decide ((1048576 : Int) < (n0 : Int)) = false := decide_eq_false hbig
    have hcode : Code w w.heap.size s0 n0 := h.resolve_left hbig
    clear hbig h
    go_enter Try.func6, Try.ntmps6
    go_wp2_with fail
    refine (lawsBig _ s0 n0 c0).mono ?_
    rintro e w' ⟨rfl, rfl⟩
    rw [hb']
    clear hb'
    go_wp2_with fail
    refine (drawBlankIn _ w'.heap.size s0 n0 c0 (Nat.le_refl _) hcode).mono ?_
    rintro e W1 ⟨x, y, rfl, L1⟩
    obtain ⟨b, hb⟩ : ∃ b, Hid (b = in9 x y 48 64) := ⟨_, rfl⟩
    obtain ⟨n, hn⟩ : ∃ n, Hid (n = next9 x) := ⟨_, rfl⟩
    have HB := hide (fun W => implBlankIn W x y)
    have HN := hide (fun W => implNextBlank W x)
    have HBs := hide (fun W => specBlankIn W x y)
    have HNs := hide (fun W => specNextBlank W x)
    rw [← hb.out] at HB HBs
    rw [← hn.out] at HN HNs
    go_wp2_with fail
    refine (unhide HB _).mono ?_
    rintro e W2 ⟨rfl, L2⟩
    have C2 := below_snoc L1 L2
    clear L1 L2
    go_wp2_with fail
    refine (unhide HN _).mono ?_
    rintro e W3 ⟨rfl, L3⟩
    have C3 := below_snoc C2 L3
    clear C2 L3
    have hbb : (b != b) = false := by simp
    go_wp2_with fail
    refine (unhide HBs _).mono ?_
    rintro e W4 ⟨rfl, rfl⟩
    go_wp2_with fail
    refine (unhide HNs _).mono ?_
    rintro e W5 ⟨rfl, rfl⟩
    have hz : w'.heap.size ≤ W5.heap.size := C3.size
    go_wp2_with fail
    refine (drawFrameOf _ w'.heap.size s0 n0 c0 hz (hcode.keep C3)).mono ?_
    rintro e W6 ⟨f, rfl, hf, L6⟩
    have C6 := below_snoc C3 L6
    clear C3 L6 hz
    have hz : w'.heap.size ≤ W6.heap.size := C6.size
    go_wp2_with fail
    refine (drawBeatIn _ w'.heap.size s0 n0 c0 hz (hcode.keep C6)).mono ?_
    rintro e W7 ⟨p, q, rfl, L7⟩
    have C7 := below_snoc C6 L7
    clear C6 L7 hz hcode
    obtain ⟨ff, hff⟩ : ∃ ff, Hid (ff = max f 0 / 64) := ⟨_, rfl⟩
    obtain ⟨d, hd⟩ : ∃ d, Hid (d = in9 p q 0 32) := ⟨_, rfl⟩
    have HF := hide (fun W => implFrameOf W f hf)
    have HFs := hide (fun W => specFrameOf W f hf)
    have HT := hide (fun W => implBeatIn W p q)
    have HTs := hide (fun W => specBeatIn W p q)
    rw [← hff.out] at HF HFs
    rw [← hd.out] at HT HTs
    have hdd : (d != d) = false := by simp
    go_wp2_with fail
    refine (unhide HF _).mono ?_
    rintro e W8 ⟨rfl, rfl⟩
    go_wp2_with fail
    refine (unhide HFs _).mono ?_
    rintro e W9 ⟨rfl, rfl⟩
    go_wp2_with fail
    refine (unhide HT _).mono ?_
    rintro e W10 ⟨rfl, L10⟩
    have C10 := below_snoc C7 L10
    clear C7 L10
    go_wp2_with fail
    refine (unhide HTs _).mono ?_
    rintro e W11 ⟨rfl, rfl⟩
    have hE := blank_next x y
    rw [← hb.out, ← hn.out] at hE
    obtain ⟨r0, r1⟩ := next9_rest x
    rw [← hn.out] at r0 r1
    have m64 : n.tmod 64 = 48 := by rw [Int.tmod_eq_emod_of_nonneg r0]; exact r1
    clear HB HN HBs HNs HF HFs HT HTs hb hn hff hd
    by_cases h1 : n < y <;> by_cases h2 : n < 20000 <;> by_cases h3 : x < 20000 <;> simp only [h1, h2, h3, decide_true, decide_false, Bool.and_true, Bool.and_false, Bool.false_and, Bool.true_and] at hE <;> subst hE
    all_goals (
      go_wp2
      go_ret
      first | exact ⟨rfl, C10⟩ | exact ⟨ret_bool (by rw [decide_eq_false (show ¬ x < 20000 by omega)]; rfl), C10⟩)
end Go.Proofs.Ytpaedkefmebjjaf
