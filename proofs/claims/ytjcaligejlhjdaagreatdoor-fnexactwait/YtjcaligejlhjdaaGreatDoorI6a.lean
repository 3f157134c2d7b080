/-
  The program's regions (chapter 6): small types behind an interface, by their contracts.
-/
import Derived.Test.YtjcaligejlhjdaaGreatDoorC7
import Derived.Test.YtjcaligejlhjdaaGreatDoorI2
import Derived.Handy
namespace Go.Proofs.YtjcaligejlhjdaaGreatDoor
set_option linter.unusedVariables false
open Go.ChangeShapes Go.WideShapes Go.ChangeAt Go.RowKit
theorem repeated (w : World) (a s : Int) (a0 : 0 ≤ a) (a1 : a < 65536) (s0 : 0 < s) (s1 : s < 65536) : Calls Tryz.prog 157 #[.int .u16 a, .int .u16 s] w fun e w' => e = .returned (.int .i64 (a % s)) ∧ w' = w := by
  have ht : a.tmod s = a % s := Int.tmod_eq_emod_of_nonneg a0
  have hz : (s == 0) = false := by simp; omega
  have hz' : s ≠ 0 := by omega
  have m0 : 0 ≤ a % s := Int.emod_nonneg _ hz'
  have m1 : a % s < 65536 := Int.lt_of_lt_of_le (Int.emod_lt_of_pos _ s0) (by omega)
  have hw : IntKind.u16.wrap (a % s) = a % s := by rw [IntKind.wrap_u16]; omega
  go_enter Tryz.func157, Tryz.ntmps157
  go_wp2
  go_ret
  exact ⟨rfl, rfl⟩
def rgV (n p : Int) : Value := if n = 1 then .iface 202 (.agg #[.int .i64 p]) else if n = 2 then .iface 203 (.agg #[.int .i64 p]) else if n = 3 then .iface 204 (.agg #[.int .i64 p]) else if n = 4 then .iface 205 (.agg #[.int .i64 p]) else if n = 5 then .iface 207 (.agg #[.int .i64 p]) else if n = 6 then .iface 208 (.agg #[.int .i64 p]) else .iface 206 (.agg #[.int .i64 p])
theorem rgV1 (p : Int) : rgV 1 p = .iface 202 (.agg #[.int .i64 p]) := rfl
theorem rgV2 (p : Int) : rgV 2 p = .iface 203 (.agg #[.int .i64 p]) := rfl
theorem rgV3 (p : Int) : rgV 3 p = .iface 204 (.agg #[.int .i64 p]) := rfl
theorem rgV4 (p : Int) : rgV 4 p = .iface 205 (.agg #[.int .i64 p]) := rfl
theorem rgV5 (p : Int) : rgV 5 p = .iface 207 (.agg #[.int .i64 p]) := rfl
theorem rgV6 (p : Int) : rgV 6 p = .iface 208 (.agg #[.int .i64 p]) := rfl
theorem rgV7 (p : Int) : rgV 7 p = .iface 206 (.agg #[.int .i64 p]) := rfl
theorem rg_all (a : Int) (h0 : 0 ≤ a) (h1 : a < 65536) : (a < 8192 ∧ rgN a = 1 ∧ rgP a = a % 512) ∨ (8192 ≤ a ∧ a < 16384 ∧ rgN a = 2 ∧ rgP a = a % 8) ∨ (16384 ≤ a ∧ a < 16388 ∧ rgN a = 3 ∧ rgP a = a % 4) ∨ (a = 16406 ∧ rgN a = 4 ∧ rgP a = 0) ∨ (16388 ≤ a ∧ a < 32768 ∧ a ≠ 16406 ∧ rgN a = 7 ∧ rgP a = 0) ∨ (32768 ≤ a ∧ a < 49152 ∧ rgN a = 5 ∧ rgP a = a % 256) ∨ (49152 ≤ a ∧ rgN a = 6 ∧ rgP a = a % 256) := by
  unfold rgN rgP
  rcases (by omega : a < 8192 ∨ (8192 ≤ a ∧ a < 16384) ∨ (16384 ≤ a ∧ a < 16388) ∨ a = 16406 ∨ (16388 ≤ a ∧ a < 32768 ∧ a ≠ 16406) ∨ (32768 ≤ a ∧ a < 49152) ∨ 49152 ≤ a) with h | h | h | h | h | h | h
  · exact Or.inl ⟨h, if_pos h, if_pos h⟩
  all_goals
    repeat (first | rw [if_neg (show ¬ a < 8192 by omega)] | rw [if_neg (show ¬ a < 16384 by omega)] | rw [if_pos (show a < 16384 by omega)] | rw [if_neg (show ¬ a < 16388 by omega)] | rw [if_pos (show a < 16388 by omega)] | rw [if_pos (show a = 16406 by omega)] | rw [if_neg (show ¬ a = 16406 by omega)] | rw [if_pos (show a < 32768 by omega)] | rw [if_neg (show ¬ a < 32768 by omega)] | rw [if_pos (show a < 49152 by omega)] | rw [if_neg (show ¬ a < 49152 by omega)])
    simp
    try omega
set_option maxHeartbeats 1000000 in
theorem regionAt (w : World) (a : Int) (a0 : 0 ≤ a) (a1 : a < 65536) : Calls Tryz.prog 138 #[.int .u16 a] w fun e w' => e = .returned (rgV (rgN a) (rgP a)) ∧ w' = w := by
  rcases rg_all a a0 a1 with h | h | h | h | h | h | h
  · obtain ⟨h1, hn, hp⟩ := h
    have HR := hide (show rgV (rgN a) (rgP a) = rgV 1 _ by rw [hn, hp])
    clear hn hp
    go_enter Tryz.func138, Tryz.ntmps138
    go_wp2_with fail
    refine (repeated _ _ _ a0 a1 (by omega) (by omega)).mono ?_
    rintro e w1 ⟨rfl, rfl⟩
    go_wp2
    go_ret
    first | exact ⟨by rw [HR.out]; rfl, rfl⟩ | exact ⟨rfl, rfl⟩
  · obtain ⟨h1, h2, hn, hp⟩ := h
    have HR := hide (show rgV (rgN a) (rgP a) = rgV 2 _ by rw [hn, hp])
    clear hn hp
    have q8192 : ¬ a < 8192 := by omega
    go_enter Tryz.func138, Tryz.ntmps138
    go_wp2_with fail
    refine (repeated _ _ _ a0 a1 (by omega) (by omega)).mono ?_
    rintro e w1 ⟨rfl, rfl⟩
    go_wp2
    go_ret
    first | exact ⟨by rw [HR.out]; rfl, rfl⟩ | exact ⟨rfl, rfl⟩
  · obtain ⟨h1, h2, hn, hp⟩ := h
    have HR := hide (show rgV (rgN a) (rgP a) = rgV 3 _ by rw [hn, hp])
    clear hn hp
    have q8192 : ¬ a < 8192 := by omega
    have q16384 : ¬ a < 16384 := by omega
    go_enter Tryz.func138, Tryz.ntmps138
    go_wp2_with fail
    refine (repeated _ _ _ a0 a1 (by omega) (by omega)).mono ?_
    rintro e w1 ⟨rfl, rfl⟩
    go_wp2
    go_ret
    first | exact ⟨by rw [HR.out]; rfl, rfl⟩ | exact ⟨rfl, rfl⟩
  · obtain ⟨h1, hn, hp⟩ := h
    have HR := hide (show rgV (rgN a) (rgP a) = rgV 4 _ by rw [hn, hp])
    clear hn hp
    have q8192 : ¬ a < 8192 := by omega
    have q16384 : ¬ a < 16384 := by omega
    have q16388 : ¬ a < 16388 := by omega
    have e5 : (a == 16406) = true := by simp; omega
    go_enter Tryz.func138, Tryz.ntmps138
    go_wp2
    go_ret
    first | exact ⟨by rw [HR.out]; rfl, rfl⟩ | exact ⟨rfl, rfl⟩
  · obtain ⟨h1, h2, h3, hn, hp⟩ := h
    have HR := hide (show rgV (rgN a) (rgP a) = rgV 7 _ by rw [hn, hp])
    clear hn hp
    have q8192 : ¬ a < 8192 := by omega
    have q16384 : ¬ a < 16384 := by omega
    have q16388 : ¬ a < 16388 := by omega
    have e5 : (a == 16406) = false := by simp; omega
    go_enter Tryz.func138, Tryz.ntmps138
    go_wp2
    go_ret
    first | exact ⟨by rw [HR.out]; rfl, rfl⟩ | exact ⟨rfl, rfl⟩
  · obtain ⟨h1, h2, hn, hp⟩ := h
    have HR := hide (show rgV (rgN a) (rgP a) = rgV 5 _ by rw [hn, hp])
    clear hn hp
    have q8192 : ¬ a < 8192 := by omega
    have q16384 : ¬ a < 16384 := by omega
    have q16388 : ¬ a < 16388 := by omega
    have e5 : (a == 16406) = false := by simp; omega
    have q32768 : ¬ a < 32768 := by omega
    go_enter Tryz.func138, Tryz.ntmps138
    go_wp2_with fail
    refine (repeated _ _ _ a0 a1 (by omega) (by omega)).mono ?_
    rintro e w1 ⟨rfl, rfl⟩
    go_wp2
    go_ret
    first | exact ⟨by rw [HR.out]; rfl, rfl⟩ | exact ⟨rfl, rfl⟩
  · obtain ⟨h1, hn, hp⟩ := h
    have HR := hide (show rgV (rgN a) (rgP a) = rgV 6 _ by rw [hn, hp])
    clear hn hp
    have q8192 : ¬ a < 8192 := by omega
    have q16384 : ¬ a < 16384 := by omega
    have q16388 : ¬ a < 16388 := by omega
    have e5 : (a == 16406) = false := by simp; omega
    have q32768 : ¬ a < 32768 := by omega
    have q49152 : ¬ a < 49152 := by omega
    go_enter Tryz.func138, Tryz.ntmps138
    go_wp2_with fail
    refine (repeated _ _ _ a0 a1 (by omega) (by omega)).mono ?_
    rintro e w1 ⟨rfl, rfl⟩
    go_wp2
    go_ret
    first | exact ⟨by rw [HR.out]; rfl, rfl⟩ | exact ⟨rfl, rfl⟩
theorem as11 (p : Int) (w : World) : (Instr.typeAssert (.iface 202 (.agg #[.int .i64 p])) 179 202 true).run Tryz.prog w = .ok (.tuple #[.agg #[.int .i64 p], .bool true]) w := by kernel_rfl
theorem as21 (p : Int) (w : World) : (Instr.typeAssert (.iface 203 (.agg #[.int .i64 p])) 179 202 true).run Tryz.prog w = .ok (.tuple #[.agg #[.int .i64 0], .bool false]) w := by kernel_rfl
theorem as22 (p : Int) (w : World) : (Instr.typeAssert (.iface 203 (.agg #[.int .i64 p])) 179 203 true).run Tryz.prog w = .ok (.tuple #[.agg #[.int .i64 p], .bool true]) w := by kernel_rfl
theorem as25 (p : Int) (w : World) : (Instr.typeAssert (.iface 203 (.agg #[.int .i64 p])) 179 207 true).run Tryz.prog w = .ok (.tuple #[.agg #[.int .i64 0], .bool false]) w := by kernel_rfl
theorem as26 (p : Int) (w : World) : (Instr.typeAssert (.iface 203 (.agg #[.int .i64 p])) 179 208 true).run Tryz.prog w = .ok (.tuple #[.agg #[.int .i64 0], .bool false]) w := by kernel_rfl
theorem as31 (p : Int) (w : World) : (Instr.typeAssert (.iface 204 (.agg #[.int .i64 p])) 179 202 true).run Tryz.prog w = .ok (.tuple #[.agg #[.int .i64 0], .bool false]) w := by kernel_rfl
theorem as32 (p : Int) (w : World) : (Instr.typeAssert (.iface 204 (.agg #[.int .i64 p])) 179 203 true).run Tryz.prog w = .ok (.tuple #[.agg #[.int .i64 0], .bool false]) w := by kernel_rfl
theorem as33 (p : Int) (w : World) : (Instr.typeAssert (.iface 204 (.agg #[.int .i64 p])) 179 204 true).run Tryz.prog w = .ok (.tuple #[.agg #[.int .i64 p], .bool true]) w := by kernel_rfl
theorem as35 (p : Int) (w : World) : (Instr.typeAssert (.iface 204 (.agg #[.int .i64 p])) 179 207 true).run Tryz.prog w = .ok (.tuple #[.agg #[.int .i64 0], .bool false]) w := by kernel_rfl
theorem as36 (p : Int) (w : World) : (Instr.typeAssert (.iface 204 (.agg #[.int .i64 p])) 179 208 true).run Tryz.prog w = .ok (.tuple #[.agg #[.int .i64 0], .bool false]) w := by kernel_rfl
theorem as41 (p : Int) (w : World) : (Instr.typeAssert (.iface 205 (.agg #[.int .i64 p])) 179 202 true).run Tryz.prog w = .ok (.tuple #[.agg #[.int .i64 0], .bool false]) w := by kernel_rfl
theorem as42 (p : Int) (w : World) : (Instr.typeAssert (.iface 205 (.agg #[.int .i64 p])) 179 203 true).run Tryz.prog w = .ok (.tuple #[.agg #[.int .i64 0], .bool false]) w := by kernel_rfl
theorem as43 (p : Int) (w : World) : (Instr.typeAssert (.iface 205 (.agg #[.int .i64 p])) 179 204 true).run Tryz.prog w = .ok (.tuple #[.agg #[.int .i64 0], .bool false]) w := by kernel_rfl
theorem as44 (p : Int) (w : World) : (Instr.typeAssert (.iface 205 (.agg #[.int .i64 p])) 179 205 true).run Tryz.prog w = .ok (.tuple #[.agg #[.int .i64 p], .bool true]) w := by kernel_rfl
theorem as45 (p : Int) (w : World) : (Instr.typeAssert (.iface 205 (.agg #[.int .i64 p])) 179 207 true).run Tryz.prog w = .ok (.tuple #[.agg #[.int .i64 0], .bool false]) w := by kernel_rfl
theorem as46 (p : Int) (w : World) : (Instr.typeAssert (.iface 205 (.agg #[.int .i64 p])) 179 208 true).run Tryz.prog w = .ok (.tuple #[.agg #[.int .i64 0], .bool false]) w := by kernel_rfl
theorem as51 (p : Int) (w : World) : (Instr.typeAssert (.iface 207 (.agg #[.int .i64 p])) 179 202 true).run Tryz.prog w = .ok (.tuple #[.agg #[.int .i64 0], .bool false]) w := by kernel_rfl
theorem as52 (p : Int) (w : World) : (Instr.typeAssert (.iface 207 (.agg #[.int .i64 p])) 179 203 true).run Tryz.prog w = .ok (.tuple #[.agg #[.int .i64 0], .bool false]) w := by kernel_rfl
theorem as53 (p : Int) (w : World) : (Instr.typeAssert (.iface 207 (.agg #[.int .i64 p])) 179 204 true).run Tryz.prog w = .ok (.tuple #[.agg #[.int .i64 0], .bool false]) w := by kernel_rfl
theorem as54 (p : Int) (w : World) : (Instr.typeAssert (.iface 207 (.agg #[.int .i64 p])) 179 205 true).run Tryz.prog w = .ok (.tuple #[.agg #[.int .i64 0], .bool false]) w := by kernel_rfl
theorem as55 (p : Int) (w : World) : (Instr.typeAssert (.iface 207 (.agg #[.int .i64 p])) 179 207 true).run Tryz.prog w = .ok (.tuple #[.agg #[.int .i64 p], .bool true]) w := by kernel_rfl
theorem as61 (p : Int) (w : World) : (Instr.typeAssert (.iface 208 (.agg #[.int .i64 p])) 179 202 true).run Tryz.prog w = .ok (.tuple #[.agg #[.int .i64 0], .bool false]) w := by kernel_rfl
theorem as62 (p : Int) (w : World) : (Instr.typeAssert (.iface 208 (.agg #[.int .i64 p])) 179 203 true).run Tryz.prog w = .ok (.tuple #[.agg #[.int .i64 0], .bool false]) w := by kernel_rfl
theorem as63 (p : Int) (w : World) : (Instr.typeAssert (.iface 208 (.agg #[.int .i64 p])) 179 204 true).run Tryz.prog w = .ok (.tuple #[.agg #[.int .i64 0], .bool false]) w := by kernel_rfl
theorem as64 (p : Int) (w : World) : (Instr.typeAssert (.iface 208 (.agg #[.int .i64 p])) 179 205 true).run Tryz.prog w = .ok (.tuple #[.agg #[.int .i64 0], .bool false]) w := by kernel_rfl
theorem as65 (p : Int) (w : World) : (Instr.typeAssert (.iface 208 (.agg #[.int .i64 p])) 179 207 true).run Tryz.prog w = .ok (.tuple #[.agg #[.int .i64 0], .bool false]) w := by kernel_rfl
theorem as66 (p : Int) (w : World) : (Instr.typeAssert (.iface 208 (.agg #[.int .i64 p])) 179 208 true).run Tryz.prog w = .ok (.tuple #[.agg #[.int .i64 p], .bool true]) w := by kernel_rfl
theorem as71 (p : Int) (w : World) : (Instr.typeAssert (.iface 206 (.agg #[.int .i64 p])) 179 202 true).run Tryz.prog w = .ok (.tuple #[.agg #[.int .i64 0], .bool false]) w := by kernel_rfl
theorem as72 (p : Int) (w : World) : (Instr.typeAssert (.iface 206 (.agg #[.int .i64 p])) 179 203 true).run Tryz.prog w = .ok (.tuple #[.agg #[.int .i64 0], .bool false]) w := by kernel_rfl
theorem as73 (p : Int) (w : World) : (Instr.typeAssert (.iface 206 (.agg #[.int .i64 p])) 179 204 true).run Tryz.prog w = .ok (.tuple #[.agg #[.int .i64 0], .bool false]) w := by kernel_rfl
theorem as74 (p : Int) (w : World) : (Instr.typeAssert (.iface 206 (.agg #[.int .i64 p])) 179 205 true).run Tryz.prog w = .ok (.tuple #[.agg #[.int .i64 0], .bool false]) w := by kernel_rfl
theorem as75 (p : Int) (w : World) : (Instr.typeAssert (.iface 206 (.agg #[.int .i64 p])) 179 207 true).run Tryz.prog w = .ok (.tuple #[.agg #[.int .i64 0], .bool false]) w := by kernel_rfl
theorem as76 (p : Int) (w : World) : (Instr.typeAssert (.iface 206 (.agg #[.int .i64 p])) 179 208 true).run Tryz.prog w = .ok (.tuple #[.agg #[.int .i64 0], .bool false]) w := by kernel_rfl
theorem partOf (w : World) (p : Int) : Calls Tryz.prog 182 #[.int .i64 p] w fun e w' => e = .returned (.int .i64 p) ∧ w' = w := by
  go_enter Tryz.func182, Tryz.ntmps182
  go_wp2
  go_ret
  exact ⟨rfl, rfl⟩
theorem via1 (p : Int) (w : World) : (method 332 202 (.agg #[.int .i64 p]) "loop.example/g00231/impl.part").run Tryz.prog w = .ok (182, .int .i64 p) w := by kernel_rfl
theorem via5 (p : Int) (w : World) : (method 332 207 (.agg #[.int .i64 p]) "loop.example/g00231/impl.part").run Tryz.prog w = .ok (182, .int .i64 p) w := by kernel_rfl
theorem via6 (p : Int) (w : World) : (method 332 208 (.agg #[.int .i64 p]) "loop.example/g00231/impl.part").run Tryz.prog w = .ok (182, .int .i64 p) w := by kernel_rfl
theorem rgN_cases (a : Int) (h0 : 0 ≤ a) (h1 : a < 65536) : rgN a = 1 ∨ rgN a = 2 ∨ rgN a = 3 ∨ rgN a = 4 ∨ rgN a = 5 ∨ rgN a = 6 ∨ rgN a = 7 := by
  rcases rg_all a h0 h1 with ⟨_, h, _⟩ | ⟨_, _, h, _⟩ | ⟨_, _, h, _⟩ | ⟨_, h, _⟩ | ⟨_, _, _, h, _⟩ | ⟨_, _, h, _⟩ | ⟨_, h, _⟩ <;> rw [h] <;> decide
theorem regionNumber1 (w : World) (p : Int) : Calls Tryz.prog 139 #[rgV 1 p] w fun e w' => e = .returned (.int .i64 1) ∧ w' = w := by
  rw [rgV1]
  have q1 := as11 p
  go_enter Tryz.func139, Tryz.ntmps139
  go_wp2
  go_ret
  exact ⟨rfl, rfl⟩
theorem regionNumber2 (w : World) (p : Int) : Calls Tryz.prog 139 #[rgV 2 p] w fun e w' => e = .returned (.int .i64 2) ∧ w' = w := by
  rw [rgV2]
  have q1 := as21 p
  have q2 := as22 p
  go_enter Tryz.func139, Tryz.ntmps139
  go_wp2
  go_ret
  exact ⟨rfl, rfl⟩
theorem regionNumber3 (w : World) (p : Int) : Calls Tryz.prog 139 #[rgV 3 p] w fun e w' => e = .returned (.int .i64 3) ∧ w' = w := by
  rw [rgV3]
  have q1 := as31 p
  have q2 := as32 p
  have q3 := as33 p
  go_enter Tryz.func139, Tryz.ntmps139
  go_wp2
  go_ret
  exact ⟨rfl, rfl⟩
theorem regionNumber4 (w : World) (p : Int) : Calls Tryz.prog 139 #[rgV 4 p] w fun e w' => e = .returned (.int .i64 4) ∧ w' = w := by
  rw [rgV4]
  have q1 := as41 p
  have q2 := as42 p
  have q3 := as43 p
  have q4 := as44 p
  go_enter Tryz.func139, Tryz.ntmps139
  go_wp2
  go_ret
  exact ⟨rfl, rfl⟩
theorem regionNumber5 (w : World) (p : Int) : Calls Tryz.prog 139 #[rgV 5 p] w fun e w' => e = .returned (.int .i64 5) ∧ w' = w := by
  rw [rgV5]
  have q1 := as51 p
  have q2 := as52 p
  have q3 := as53 p
  have q4 := as54 p
  have q5 := as55 p
  go_enter Tryz.func139, Tryz.ntmps139
  go_wp2
  go_ret
  exact ⟨rfl, rfl⟩
theorem regionNumber6 (w : World) (p : Int) : Calls Tryz.prog 139 #[rgV 6 p] w fun e w' => e = .returned (.int .i64 6) ∧ w' = w := by
  rw [rgV6]
  have q1 := as61 p
  have q2 := as62 p
  have q3 := as63 p
  have q4 := as64 p
  have q5 := as65 p
  have q6 := as66 p
  go_enter Tryz.func139, Tryz.ntmps139
  go_wp2
  go_ret
  exact ⟨rfl, rfl⟩
theorem regionNumber7 (w : World) (p : Int) : Calls Tryz.prog 139 #[rgV 7 p] w fun e w' => e = .returned (.int .i64 7) ∧ w' = w := by
  rw [rgV7]
  have q1 := as71 p
  have q2 := as72 p
  have q3 := as73 p
  have q4 := as74 p
  have q5 := as75 p
  have q6 := as76 p
  go_enter Tryz.func139, Tryz.ntmps139
  go_wp2
  go_ret
  exact ⟨rfl, rfl⟩
set_option maxHeartbeats 1000000 in
theorem implRegion (w : World) (x : Int) : Calls Tryz.prog 110 #[.int .i64 x] w fun e w' => e = .returned (.tuple #[.int .i64 (rgN (x % 65536)), .int .i64 (rgP (x % 65536))]) ∧ w' = w := by
  have h0 : 0 ≤ x % 65536 := by omega
  have h1 : x % 65536 < 65536 := by omega
  have HC := rgN_cases _ h0 h1
  have HA := hide (regionAt w _ h0 h1)
  generalize rgP (x % 65536) = p at *
  generalize rgN (x % 65536) = n at *
  clear h0 h1
  rcases HC with rfl | rfl | rfl | rfl | rfl | rfl | rfl

  · go_enter Tryz.func110, Tryz.ntmps110
    go_wp2_with fail
    refine (unhide HA).mono ?_
    rintro e w1 ⟨rfl, rfl⟩
    go_wp2_with fail
    refine (regionNumber1 _ p).mono ?_
    rintro e w2 ⟨rfl, rfl⟩
    rw [rgV1]
    go_wp2
    go_ret2
    exact ⟨rfl, rfl⟩
  · go_enter Tryz.func110, Tryz.ntmps110
    go_wp2_with fail
    refine (unhide HA).mono ?_
    rintro e w1 ⟨rfl, rfl⟩
    go_wp2_with fail
    refine (regionNumber2 _ p).mono ?_
    rintro e w2 ⟨rfl, rfl⟩
    rw [rgV2]
    go_wp2
    go_ret2
    exact ⟨rfl, rfl⟩
  · go_enter Tryz.func110, Tryz.ntmps110
    go_wp2_with fail
    refine (unhide HA).mono ?_
    rintro e w1 ⟨rfl, rfl⟩
    go_wp2_with fail
    refine (regionNumber3 _ p).mono ?_
    rintro e w2 ⟨rfl, rfl⟩
    rw [rgV3]
    go_wp2
    go_ret2
    exact ⟨rfl, rfl⟩
  · go_enter Tryz.func110, Tryz.ntmps110
    go_wp2_with fail
    refine (unhide HA).mono ?_
    rintro e w1 ⟨rfl, rfl⟩
    go_wp2_with fail
    refine (regionNumber4 _ p).mono ?_
    rintro e w2 ⟨rfl, rfl⟩
    rw [rgV4]
    go_wp2
    go_ret2
    exact ⟨rfl, rfl⟩
  · go_enter Tryz.func110, Tryz.ntmps110
    go_wp2_with fail
    refine (unhide HA).mono ?_
    rintro e w1 ⟨rfl, rfl⟩
    go_wp2_with fail
    refine (regionNumber5 _ p).mono ?_
    rintro e w2 ⟨rfl, rfl⟩
    rw [rgV5]
    go_wp2
    go_ret2
    exact ⟨rfl, rfl⟩
  · go_enter Tryz.func110, Tryz.ntmps110
    go_wp2_with fail
    refine (unhide HA).mono ?_
    rintro e w1 ⟨rfl, rfl⟩
    go_wp2_with fail
    refine (regionNumber6 _ p).mono ?_
    rintro e w2 ⟨rfl, rfl⟩
    rw [rgV6]
    go_wp2
    go_ret2
    exact ⟨rfl, rfl⟩
  · go_enter Tryz.func110, Tryz.ntmps110
    go_wp2_with fail
    refine (unhide HA).mono ?_
    rintro e w1 ⟨rfl, rfl⟩
    go_wp2_with fail
    refine (regionNumber7 _ p).mono ?_
    rintro e w2 ⟨rfl, rfl⟩
    rw [rgV7]
    go_wp2
    go_ret2
    exact ⟨rfl, rfl⟩
end Go.Proofs.YtjcaligejlhjdaaGreatDoor
