/-
  The program's regions (chapter 6): small types behind an interface, by their contracts.
-/
import Derived.Test.YtjcaligejlhjdaaGreatC7
import Derived.Test.YtjcaligejlhjdaaGreatI2
import Derived.Handy
namespace Go.Proofs.YtjcaligejlhjdaaGreat
set_option linter.unusedVariables false
open Go.ChangeShapes Go.WideShapes Go.ChangeAt Go.RowKit
theorem repeated (w : World) (a s : Int) (a0 : 0 ≤ a) (a1 : a < 65536) (s0 : 0 < s) (s1 : s < 65536) : Calls Tryz.prog 168 #[.int .u16 a, .int .u16 s] w fun e w' => e = .returned (.int .i64 (a % s)) ∧ w' = w := by
  have ht : a.tmod s = a % s := Int.tmod_eq_emod_of_nonneg a0
  have hz : (s == 0) = false := by simp; omega
  have hz' : s ≠ 0 := by omega
  have m0 : 0 ≤ a % s := Int.emod_nonneg _ hz'
  have m1 : a % s < 65536 := Int.lt_of_lt_of_le (Int.emod_lt_of_pos _ s0) (by omega)
  have hw : IntKind.u16.wrap (a % s) = a % s := by rw [IntKind.wrap_u16]; omega
  go_enter Tryz.func168, Tryz.ntmps168
  go_wp2
  go_ret
  exact ⟨rfl, rfl⟩
def rgV (n p : Int) : Value := if n = 1 then .iface 195 (.agg #[.int .i64 p]) else if n = 2 then .iface 199 (.agg #[.int .i64 p]) else if n = 3 then .iface 200 (.agg #[.int .i64 p]) else if n = 4 then .iface 201 (.agg #[.int .i64 p]) else if n = 5 then .iface 196 (.agg #[.int .i64 p]) else if n = 6 then .iface 197 (.agg #[.int .i64 p]) else .iface 202 (.agg #[.int .i64 p])
theorem rgV1 (p : Int) : rgV 1 p = .iface 195 (.agg #[.int .i64 p]) := rfl
theorem rgV2 (p : Int) : rgV 2 p = .iface 199 (.agg #[.int .i64 p]) := rfl
theorem rgV3 (p : Int) : rgV 3 p = .iface 200 (.agg #[.int .i64 p]) := rfl
theorem rgV4 (p : Int) : rgV 4 p = .iface 201 (.agg #[.int .i64 p]) := rfl
theorem rgV5 (p : Int) : rgV 5 p = .iface 196 (.agg #[.int .i64 p]) := rfl
theorem rgV6 (p : Int) : rgV 6 p = .iface 197 (.agg #[.int .i64 p]) := rfl
theorem rgV7 (p : Int) : rgV 7 p = .iface 202 (.agg #[.int .i64 p]) := rfl
theorem rg_all (a : Int) (h0 : 0 ≤ a) (h1 : a < 65536) : (a < 8192 ∧ rgN a = 1 ∧ rgP a = a % 512) ∨ (8192 ≤ a ∧ a < 16384 ∧ rgN a = 2 ∧ rgP a = a % 8) ∨ (16384 ≤ a ∧ a < 16388 ∧ rgN a = 3 ∧ rgP a = a % 4) ∨ (a = 16406 ∧ rgN a = 4 ∧ rgP a = 0) ∨ (16388 ≤ a ∧ a < 32768 ∧ a ≠ 16406 ∧ rgN a = 7 ∧ rgP a = 0) ∨ (32768 ≤ a ∧ a < 49152 ∧ rgN a = 5 ∧ rgP a = a % 256) ∨ (49152 ≤ a ∧ rgN a = 6 ∧ rgP a = a % 256) := by
  unfold rgN rgP
  rcases (by omega : a < 8192 ∨ (8192 ≤ a ∧ a < 16384) ∨ (16384 ≤ a ∧ a < 16388) ∨ a = 16406 ∨ (16388 ≤ a ∧ a < 32768 ∧ a ≠ 16406) ∨ (32768 ≤ a ∧ a < 49152) ∨ 49152 ≤ a) with h | h | h | h | h | h | h
  · exact Or.inl ⟨h, if_pos h, if_pos h⟩
  all_goals
    repeat (first | rw [if_neg (show ¬ a < 8192 by omega)] | rw [if_neg (show ¬ a < 16384 by omega)] | rw [if_pos (show a < 16384 by omega)] | rw [if_neg (show ¬ a < 16388 by omega)] | rw [if_pos (show a < 16388 by omega)] | rw [if_pos (show a = 16406 by omega)] | rw [if_neg (show ¬ a = 16406 by omega)] | rw [if_pos (show a < 32768 by omega)] | rw [if_neg (show ¬ a < 32768 by omega)] | rw [if_pos (show a < 49152 by omega)] | rw [if_neg (show ¬ a < 49152 by omega)])
    simp
    try omega
set_option maxHeartbeats 1000000 in
theorem regionAt (w : World) (a : Int) (a0 : 0 ≤ a) (a1 : a < 65536) : Calls Tryz.prog 154 #[.int .u16 a] w fun e w' => e = .returned (rgV (rgN a) (rgP a)) ∧ w' = w := by
  rcases rg_all a a0 a1 with h | h | h | h | h | h | h
  · obtain ⟨h1, hn, hp⟩ := h
    have HR := hide (show rgV (rgN a) (rgP a) = rgV 1 _ by rw [hn, hp])
    clear hn hp
    go_enter Tryz.func154, Tryz.ntmps154
    go_wp2_with fail
    refine (repeated _ _ _ a0 a1 (by omega) (by omega)).mono ?_
    rintro e w1 ⟨rfl, rfl⟩
    go_wp2
    go_ret
    first | exact ⟨by rw [HR.out]; rfl, rfl⟩ | exact ⟨rfl, rfl⟩
  · obtain ⟨h1, h2, hn, hp⟩ := h
    have HR := hide (show rgV (rgN a) (rgP a) = rgV 2 _ by rw [hn, hp])
    clear hn hp
    have q8192 : ¬ a < 8192 := by omega
    go_enter Tryz.func154, Tryz.ntmps154
    go_wp2_with fail
    refine (repeated _ _ _ a0 a1 (by omega) (by omega)).mono ?_
    rintro e w1 ⟨rfl, rfl⟩
    go_wp2
    go_ret
    first | exact ⟨by rw [HR.out]; rfl, rfl⟩ | exact ⟨rfl, rfl⟩
  · obtain ⟨h1, h2, hn, hp⟩ := h
    have HR := hide (show rgV (rgN a) (rgP a) = rgV 3 _ by rw [hn, hp])
    clear hn hp
    have q8192 : ¬ a < 8192 := by omega
    have q16384 : ¬ a < 16384 := by omega
    go_enter Tryz.func154, Tryz.ntmps154
    go_wp2_with fail
    refine (repeated _ _ _ a0 a1 (by omega) (by omega)).mono ?_
    rintro e w1 ⟨rfl, rfl⟩
    go_wp2
    go_ret
    first | exact ⟨by rw [HR.out]; rfl, rfl⟩ | exact ⟨rfl, rfl⟩
  · obtain ⟨h1, hn, hp⟩ := h
    have HR := hide (show rgV (rgN a) (rgP a) = rgV 4 _ by rw [hn, hp])
    clear hn hp
    have q8192 : ¬ a < 8192 := by omega
    have q16384 : ¬ a < 16384 := by omega
    have q16388 : ¬ a < 16388 := by omega
    have e5 : (a == 16406) = true := by simp; omega
    go_enter Tryz.func154, Tryz.ntmps154
    go_wp2
    go_ret
    first | exact ⟨by rw [HR.out]; rfl, rfl⟩ | exact ⟨rfl, rfl⟩
  · obtain ⟨h1, h2, h3, hn, hp⟩ := h
    have HR := hide (show rgV (rgN a) (rgP a) = rgV 7 _ by rw [hn, hp])
    clear hn hp
    have q8192 : ¬ a < 8192 := by omega
    have q16384 : ¬ a < 16384 := by omega
    have q16388 : ¬ a < 16388 := by omega
    have e5 : (a == 16406) = false := by simp; omega
    go_enter Tryz.func154, Tryz.ntmps154
    go_wp2
    go_ret
    first | exact ⟨by rw [HR.out]; rfl, rfl⟩ | exact ⟨rfl, rfl⟩
  · obtain ⟨h1, h2, hn, hp⟩ := h
    have HR := hide (show rgV (rgN a) (rgP a) = rgV 5 _ by rw [hn, hp])
    clear hn hp
    have q8192 : ¬ a < 8192 := by omega
    have q16384 : ¬ a < 16384 := by omega
    have q16388 : ¬ a < 16388 := by omega
    have e5 : (a == 16406) = false := by simp; omega
    have q32768 : ¬ a < 32768 := by omega
    go_enter Tryz.func154, Tryz.ntmps154
    go_wp2_with fail
    refine (repeated _ _ _ a0 a1 (by omega) (by omega)).mono ?_
    rintro e w1 ⟨rfl, rfl⟩
    go_wp2
    go_ret
    first | exact ⟨by rw [HR.out]; rfl, rfl⟩ | exact ⟨rfl, rfl⟩
  · obtain ⟨h1, hn, hp⟩ := h
    have HR := hide (show rgV (rgN a) (rgP a) = rgV 6 _ by rw [hn, hp])
    clear hn hp
    have q8192 : ¬ a < 8192 := by omega
    have q16384 : ¬ a < 16384 := by omega
    have q16388 : ¬ a < 16388 := by omega
    have e5 : (a == 16406) = false := by simp; omega
    have q32768 : ¬ a < 32768 := by omega
    have q49152 : ¬ a < 49152 := by omega
    go_enter Tryz.func154, Tryz.ntmps154
    go_wp2_with fail
    refine (repeated _ _ _ a0 a1 (by omega) (by omega)).mono ?_
    rintro e w1 ⟨rfl, rfl⟩
    go_wp2
    go_ret
    first | exact ⟨by rw [HR.out]; rfl, rfl⟩ | exact ⟨rfl, rfl⟩
theorem as11 (p : Int) (w : World) : (Instr.typeAssert (.iface 195 (.agg #[.int .i64 p])) 184 195 true).run Tryz.prog w = .ok (.tuple #[.agg #[.int .i64 p], .bool true]) w := by kernel_rfl
theorem as21 (p : Int) (w : World) : (Instr.typeAssert (.iface 199 (.agg #[.int .i64 p])) 184 195 true).run Tryz.prog w = .ok (.tuple #[.agg #[.int .i64 0], .bool false]) w := by kernel_rfl
theorem as25 (p : Int) (w : World) : (Instr.typeAssert (.iface 199 (.agg #[.int .i64 p])) 184 196 true).run Tryz.prog w = .ok (.tuple #[.agg #[.int .i64 0], .bool false]) w := by kernel_rfl
theorem as26 (p : Int) (w : World) : (Instr.typeAssert (.iface 199 (.agg #[.int .i64 p])) 184 197 true).run Tryz.prog w = .ok (.tuple #[.agg #[.int .i64 0], .bool false]) w := by kernel_rfl
theorem as31 (p : Int) (w : World) : (Instr.typeAssert (.iface 200 (.agg #[.int .i64 p])) 184 195 true).run Tryz.prog w = .ok (.tuple #[.agg #[.int .i64 0], .bool false]) w := by kernel_rfl
theorem as35 (p : Int) (w : World) : (Instr.typeAssert (.iface 200 (.agg #[.int .i64 p])) 184 196 true).run Tryz.prog w = .ok (.tuple #[.agg #[.int .i64 0], .bool false]) w := by kernel_rfl
theorem as36 (p : Int) (w : World) : (Instr.typeAssert (.iface 200 (.agg #[.int .i64 p])) 184 197 true).run Tryz.prog w = .ok (.tuple #[.agg #[.int .i64 0], .bool false]) w := by kernel_rfl
theorem as41 (p : Int) (w : World) : (Instr.typeAssert (.iface 201 (.agg #[.int .i64 p])) 184 195 true).run Tryz.prog w = .ok (.tuple #[.agg #[.int .i64 0], .bool false]) w := by kernel_rfl
theorem as45 (p : Int) (w : World) : (Instr.typeAssert (.iface 201 (.agg #[.int .i64 p])) 184 196 true).run Tryz.prog w = .ok (.tuple #[.agg #[.int .i64 0], .bool false]) w := by kernel_rfl
theorem as46 (p : Int) (w : World) : (Instr.typeAssert (.iface 201 (.agg #[.int .i64 p])) 184 197 true).run Tryz.prog w = .ok (.tuple #[.agg #[.int .i64 0], .bool false]) w := by kernel_rfl
theorem as51 (p : Int) (w : World) : (Instr.typeAssert (.iface 196 (.agg #[.int .i64 p])) 184 195 true).run Tryz.prog w = .ok (.tuple #[.agg #[.int .i64 0], .bool false]) w := by kernel_rfl
theorem as55 (p : Int) (w : World) : (Instr.typeAssert (.iface 196 (.agg #[.int .i64 p])) 184 196 true).run Tryz.prog w = .ok (.tuple #[.agg #[.int .i64 p], .bool true]) w := by kernel_rfl
theorem as61 (p : Int) (w : World) : (Instr.typeAssert (.iface 197 (.agg #[.int .i64 p])) 184 195 true).run Tryz.prog w = .ok (.tuple #[.agg #[.int .i64 0], .bool false]) w := by kernel_rfl
theorem as65 (p : Int) (w : World) : (Instr.typeAssert (.iface 197 (.agg #[.int .i64 p])) 184 196 true).run Tryz.prog w = .ok (.tuple #[.agg #[.int .i64 0], .bool false]) w := by kernel_rfl
theorem as66 (p : Int) (w : World) : (Instr.typeAssert (.iface 197 (.agg #[.int .i64 p])) 184 197 true).run Tryz.prog w = .ok (.tuple #[.agg #[.int .i64 p], .bool true]) w := by kernel_rfl
theorem as71 (p : Int) (w : World) : (Instr.typeAssert (.iface 202 (.agg #[.int .i64 p])) 184 195 true).run Tryz.prog w = .ok (.tuple #[.agg #[.int .i64 0], .bool false]) w := by kernel_rfl
theorem as75 (p : Int) (w : World) : (Instr.typeAssert (.iface 202 (.agg #[.int .i64 p])) 184 196 true).run Tryz.prog w = .ok (.tuple #[.agg #[.int .i64 0], .bool false]) w := by kernel_rfl
theorem as76 (p : Int) (w : World) : (Instr.typeAssert (.iface 202 (.agg #[.int .i64 p])) 184 197 true).run Tryz.prog w = .ok (.tuple #[.agg #[.int .i64 0], .bool false]) w := by kernel_rfl
theorem partOf (w : World) (p : Int) : Calls Tryz.prog 212 #[.int .i64 p] w fun e w' => e = .returned (.int .i64 p) ∧ w' = w := by
  go_enter Tryz.func212, Tryz.ntmps212
  go_wp2
  go_ret
  exact ⟨rfl, rfl⟩
theorem via1 (p : Int) (w : World) : (method 343 195 (.agg #[.int .i64 p]) "loop.example/g00231/impl.part").run Tryz.prog w = .ok (212, .int .i64 p) w := by kernel_rfl
theorem via5 (p : Int) (w : World) : (method 343 196 (.agg #[.int .i64 p]) "loop.example/g00231/impl.part").run Tryz.prog w = .ok (212, .int .i64 p) w := by kernel_rfl
theorem via6 (p : Int) (w : World) : (method 343 197 (.agg #[.int .i64 p]) "loop.example/g00231/impl.part").run Tryz.prog w = .ok (212, .int .i64 p) w := by kernel_rfl
theorem rgN_cases (a : Int) (h0 : 0 ≤ a) (h1 : a < 65536) : rgN a = 1 ∨ rgN a = 2 ∨ rgN a = 3 ∨ rgN a = 4 ∨ rgN a = 5 ∨ rgN a = 6 ∨ rgN a = 7 := by
  rcases rg_all a h0 h1 with ⟨_, h, _⟩ | ⟨_, _, h, _⟩ | ⟨_, _, h, _⟩ | ⟨_, h, _⟩ | ⟨_, _, _, h, _⟩ | ⟨_, _, h, _⟩ | ⟨_, h, _⟩ <;> rw [h] <;> decide
end Go.Proofs.YtjcaligejlhjdaaGreat
