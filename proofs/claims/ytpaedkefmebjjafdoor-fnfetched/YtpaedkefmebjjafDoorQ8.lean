/-
  FnFetched's tests (its regions 5, 8 and 15): operations that only read, the frame a variable.
-/
import Derived.Test.YtpaedkefmebjjafDoorV1
import Derived.Test.YtpaedkefmebjjafDoorZ7
namespace Go.Proofs.YtpaedkefmebjjafDoor
set_option linter.unusedVariables false
open Go.ChangeShapes Go.WideShapes Go.ChangeAt Go.RowKit Go.Sort
abbrev reg5_ops : Array Oper := #[{ dst := some 30, op := Op.load 33 (Operand.tmp 6), type := 33, pos := "laws.go:749", after := #[], guard := none }, { dst := some 31, op := Op.load 26 (Operand.tmp 3), type := 26, pos := "laws.go:749", after := #[], guard := none }, { dst := some 32, op := Op.load 29 (Operand.tmp 4), type := 29, pos := "laws.go:749", after := #[], guard := none }, { dst := some 33, op := Op.move (Operand.tmp 5), type := 3, pos := "laws.go:749", after := #[], guard := none }, { dst := some 34, op := Op.call { callee := Callee.value (Operand.func 7), args := #[Operand.tmp 31, Operand.tmp 32, Operand.tmp 33], argTypes := #[26, 29, 3] }, type := 33, pos := "laws.go:749", after := #[{ on := 1, ground := Ground.data }, { on := 2, ground := Ground.data }, { on := 3, ground := Ground.data }], guard := none }, { dst := some 35, op := Op.binOp BinOp.neq 33 (Operand.tmp 30) (Operand.tmp 34) 33, type := 4, pos := "laws.go:749", after := #[{ on := 0, ground := Ground.data }, { on := 4, ground := Ground.data }], guard := none }, { dst := some 36, op := Op.move (Operand.tmp 35), type := 4, pos := "laws.go:749", after := #[{ on := 5, ground := Ground.data }, { on := 4, ground := Ground.chain }], guard := none }, { dst := some 37, op := Op.fieldAddr 33 (Operand.tmp 6) 0, type := 0, pos := "laws.go:749", after := #[{ on := 6, ground := Ground.guard }], guard := some (6, false) }, { dst := some 38, op := Op.load 3 (Operand.tmp 37), type := 3, pos := "laws.go:749", after := #[{ on := 7, ground := Ground.data }, { on := 6, ground := Ground.guard }], guard := some (6, false) }, { dst := some 39, op := Op.load 26 (Operand.tmp 3), type := 26, pos := "laws.go:749", after := #[{ on := 6, ground := Ground.guard }], guard := some (6, false) }, { dst := some 40, op := Op.load 29 (Operand.tmp 4), type := 29, pos := "laws.go:749", after := #[{ on := 6, ground := Ground.guard }], guard := some (6, false) }, { dst := some 41, op := Op.move (Operand.tmp 5), type := 3, pos := "laws.go:749", after := #[{ on := 6, ground := Ground.guard }], guard := some (6, false) }, { dst := some 42, op := Op.call { callee := Callee.value (Operand.func 8), args := #[Operand.tmp 39, Operand.tmp 40, Operand.tmp 41], argTypes := #[26, 29, 3] }, type := 3, pos := "laws.go:749", after := #[{ on := 9, ground := Ground.data }, { on := 10, ground := Ground.data }, { on := 11, ground := Ground.data }, { on := 6, ground := Ground.chain }, { on := 6, ground := Ground.guard }], guard := some (6, false) }, { dst := some 43, op := Op.binOp BinOp.neq 3 (Operand.tmp 38) (Operand.tmp 42) 3, type := 4, pos := "laws.go:749", after := #[{ on := 8, ground := Ground.data }, { on := 12, ground := Ground.data }, { on := 6, ground := Ground.guard }], guard := some (6, false) }, { dst := some 44, op := Op.pick (Operand.tmp 36) (Operand.const (Value.bool true)) (Operand.tmp 43), type := 4, pos := "laws.go:749", after := #[{ on := 6, ground := Ground.data }, { on := 13, ground := Ground.data }], guard := none }]
def reg5_sl : List Nat := [30, 31, 32, 33, 34, 35, 36, 37, 38, 39, 40, 41, 42, 43, 44]
set_option maxHeartbeats 4000000 in
set_option maxRecDepth 20000 in
theorem reg5 {Q : Exit → Act → World → Prop} {id : Nat} (w : World) (p P : Nat) (va : Option Addr) (m vc : Nat) (qa : Option Addr) (n qc : Nat) (bank op x v1 v2 : Int) (a : Act) (hsz : 44 < a.tmps.size) (e3 : a.tmps[3]? = some (.pointer (some ⟨p, 0, none⟩))) (e4 : a.tmps[4]? = some (.pointer (some ⟨p + 1, 0, none⟩))) (e5 : a.tmps[5]? = some (.int .i64 x)) (e6 : a.tmps[6]? = some (.pointer (some ⟨P, 0, none⟩))) (q1 : ∀ d os, (grow (redrawn w d) os).cell? ⟨p, 0, none⟩ = some (.slice va m vc)) (q2 : ∀ d os, (grow (redrawn w d) os).cell? ⟨p + 1, 0, none⟩ = some (.slice qa n qc)) (q3 : ∀ d os, (grow (redrawn w d) os).cell? ⟨p + 1, 1, none⟩ = some (.int .i64 bank)) (q4 : ∀ d os, (grow (redrawn w d) os).cell? ⟨P, 0, none⟩ = some (.int .i64 op)) (q5 : ∀ d os, (grow (redrawn w d) os).cell? ⟨P, 1, none⟩ = some (.int .i64 v1)) (HS1 : ∀ d os, Calls Tryd.prog 7 #[.agg #[.slice va m vc], .agg #[.slice qa n qc, .int .i64 bank], .int .i64 x] (grow (redrawn w d) os) fun e w' => e = .returned (.agg #[.int .i64 op, .int .i64 v1]) ∧ Below (grow (redrawn w d) os).heap.size (grow (redrawn w d) os) w') (HP : ∀ d os, Calls Tryd.prog 8 #[.agg #[.slice va m vc], .agg #[.slice qa n qc, .int .i64 bank], .int .i64 x] (grow (redrawn w d) os) fun e w' => e = .returned (.int .i64 op) ∧ Below (grow (redrawn w d) os).heap.size (grow (redrawn w d) os) w') (hQ : ∀ a1 W, Fr reg5_sl a a1 → a1.tmps[44]? = some (.bool false) → Below w.heap.size w W → Q .normal a1 W) : (Code.region id reg5_ops true).wp Tryd.prog Q a w := by
  refine wp_region_quiet_below (by kernel_rfl) (by kernel_rfl) ?_
  obtain ⟨a0, ha0⟩ : ∃ x, x = a := ⟨_, rfl⟩
  have F : Fs reg5_sl a0 a := ha0 ▸ Fs.refl _ _
  have HSZ : Hid (44 < a0.tmps.size) := ha0 ▸ hsz
  have HQ : Hid (∀ a1 W, Fr reg5_sl a0 a1 → a1.tmps[44]? = some (.bool false) → Below w.heap.size w W → Q .normal a1 W) := ha0 ▸ hQ
  clear hQ hsz ha0
  have hne := fun W => instr_neq_same W op v1
  have heg : Tryd.prog.eqGuardType Tryd.prog.depth 33 = false := by kernel_rfl
  refine wpQuiet_step (fun K hK => ?_)
  have HF := hide F
  clear F
  go_simp
  refine hK _ ?_
  clear hK K
  have F := unhide HF
  clear HF
  refine quiet_into F (by have := unhide HSZ; omega) (by decide) ?_
  clear F
  intro a F hk e30
  replace e3 := (hk 3 (by decide)).trans e3
  replace e4 := (hk 4 (by decide)).trans e4
  replace e5 := (hk 5 (by decide)).trans e5
  replace e6 := (hk 6 (by decide)).trans e6
  clear hk
  refine wpQuiet_step (fun K hK => ?_)
  have HF := hide F
  clear F
  go_simp
  refine hK _ ?_
  clear hK K
  have F := unhide HF
  clear HF
  refine quiet_into F (by have := unhide HSZ; omega) (by decide) ?_
  clear F
  intro a F hk e31
  replace e3 := (hk 3 (by decide)).trans e3
  replace e4 := (hk 4 (by decide)).trans e4
  replace e5 := (hk 5 (by decide)).trans e5
  replace e6 := (hk 6 (by decide)).trans e6
  replace e30 := (hk 30 (by decide)).trans e30
  clear hk
  refine wpQuiet_step (fun K hK => ?_)
  have HF := hide F
  clear F
  go_simp
  refine hK _ ?_
  clear hK K
  have F := unhide HF
  clear HF
  refine quiet_into F (by have := unhide HSZ; omega) (by decide) ?_
  clear F
  intro a F hk e32
  replace e3 := (hk 3 (by decide)).trans e3
  replace e4 := (hk 4 (by decide)).trans e4
  replace e5 := (hk 5 (by decide)).trans e5
  replace e6 := (hk 6 (by decide)).trans e6
  replace e30 := (hk 30 (by decide)).trans e30
  replace e31 := (hk 31 (by decide)).trans e31
  clear hk
  refine wpQuiet_step (fun K hK => ?_)
  have HF := hide F
  clear F
  go_simp
  refine hK _ ?_
  clear hK K
  have F := unhide HF
  clear HF
  refine quiet_into F (by have := unhide HSZ; omega) (by decide) ?_
  clear F
  intro a F hk e33
  replace e3 := (hk 3 (by decide)).trans e3
  replace e4 := (hk 4 (by decide)).trans e4
  replace e5 := (hk 5 (by decide)).trans e5
  replace e6 := (hk 6 (by decide)).trans e6
  replace e30 := (hk 30 (by decide)).trans e30
  replace e31 := (hk 31 (by decide)).trans e31
  replace e32 := (hk 32 (by decide)).trans e32
  clear hk
  refine wpQuiet_step (fun K hK => ?_)
  have HF := hide F
  clear F
  go_simp
  apply Exists.intro
  refine ⟨fun _ => ?_, hK _ ?_⟩
  · exact Calls.regrown_of (HS1 _ _)
  clear hK K
  have F := unhide HF
  clear HF
  clear e31
  clear e32
  clear e33
  refine quiet_into F (by have := unhide HSZ; omega) (by decide) ?_
  clear F
  intro a F hk e34
  replace e3 := (hk 3 (by decide)).trans e3
  replace e4 := (hk 4 (by decide)).trans e4
  replace e5 := (hk 5 (by decide)).trans e5
  replace e6 := (hk 6 (by decide)).trans e6
  replace e30 := (hk 30 (by decide)).trans e30
  clear hk
  refine wpQuiet_step (fun K hK => ?_)
  have HF := hide F
  clear F
  go_simp
  refine hK _ ?_
  clear hK K
  have F := unhide HF
  clear HF
  clear e30
  clear e34
  refine quiet_into F (by have := unhide HSZ; omega) (by decide) ?_
  clear F
  intro a F hk e35
  replace e3 := (hk 3 (by decide)).trans e3
  replace e4 := (hk 4 (by decide)).trans e4
  replace e5 := (hk 5 (by decide)).trans e5
  replace e6 := (hk 6 (by decide)).trans e6
  clear hk
  refine wpQuiet_step (fun K hK => ?_)
  have HF := hide F
  clear F
  go_simp
  refine hK _ ?_
  clear hK K
  have F := unhide HF
  clear HF
  clear e35
  refine quiet_into F (by have := unhide HSZ; omega) (by decide) ?_
  clear F
  intro a F hk e36
  replace e3 := (hk 3 (by decide)).trans e3
  replace e4 := (hk 4 (by decide)).trans e4
  replace e5 := (hk 5 (by decide)).trans e5
  replace e6 := (hk 6 (by decide)).trans e6
  clear hk
  refine wpQuiet_step (fun K hK => ?_)
  have HF := hide F
  clear F
  go_simp
  refine hK _ ?_
  clear hK K
  have F := unhide HF
  clear HF
  clear e6
  refine quiet_into F (by have := unhide HSZ; omega) (by decide) ?_
  clear F
  intro a F hk e37
  replace e3 := (hk 3 (by decide)).trans e3
  replace e4 := (hk 4 (by decide)).trans e4
  replace e5 := (hk 5 (by decide)).trans e5
  replace e36 := (hk 36 (by decide)).trans e36
  clear hk
  refine wpQuiet_step (fun K hK => ?_)
  have HF := hide F
  clear F
  go_simp
  refine hK _ ?_
  clear hK K
  have F := unhide HF
  clear HF
  clear e37
  refine quiet_into F (by have := unhide HSZ; omega) (by decide) ?_
  clear F
  intro a F hk e38
  replace e3 := (hk 3 (by decide)).trans e3
  replace e4 := (hk 4 (by decide)).trans e4
  replace e5 := (hk 5 (by decide)).trans e5
  replace e36 := (hk 36 (by decide)).trans e36
  clear hk
  refine wpQuiet_step (fun K hK => ?_)
  have HF := hide F
  clear F
  go_simp
  refine hK _ ?_
  clear hK K
  have F := unhide HF
  clear HF
  clear e3
  refine quiet_into F (by have := unhide HSZ; omega) (by decide) ?_
  clear F
  intro a F hk e39
  replace e4 := (hk 4 (by decide)).trans e4
  replace e5 := (hk 5 (by decide)).trans e5
  replace e36 := (hk 36 (by decide)).trans e36
  replace e38 := (hk 38 (by decide)).trans e38
  clear hk
  refine wpQuiet_step (fun K hK => ?_)
  have HF := hide F
  clear F
  go_simp
  refine hK _ ?_
  clear hK K
  have F := unhide HF
  clear HF
  clear e4
  refine quiet_into F (by have := unhide HSZ; omega) (by decide) ?_
  clear F
  intro a F hk e40
  replace e5 := (hk 5 (by decide)).trans e5
  replace e36 := (hk 36 (by decide)).trans e36
  replace e38 := (hk 38 (by decide)).trans e38
  replace e39 := (hk 39 (by decide)).trans e39
  clear hk
  refine wpQuiet_step (fun K hK => ?_)
  have HF := hide F
  clear F
  go_simp
  refine hK _ ?_
  clear hK K
  have F := unhide HF
  clear HF
  clear e5
  refine quiet_into F (by have := unhide HSZ; omega) (by decide) ?_
  clear F
  intro a F hk e41
  replace e36 := (hk 36 (by decide)).trans e36
  replace e38 := (hk 38 (by decide)).trans e38
  replace e39 := (hk 39 (by decide)).trans e39
  replace e40 := (hk 40 (by decide)).trans e40
  clear hk
  refine wpQuiet_step (fun K hK => ?_)
  have HF := hide F
  clear F
  go_simp
  apply Exists.intro
  refine ⟨fun _ => ?_, hK _ ?_⟩
  · exact Calls.regrown_of (HP _ _)
  clear hK K
  have F := unhide HF
  clear HF
  clear e39
  clear e40
  clear e41
  refine quiet_into F (by have := unhide HSZ; omega) (by decide) ?_
  clear F
  intro a F hk e42
  replace e36 := (hk 36 (by decide)).trans e36
  replace e38 := (hk 38 (by decide)).trans e38
  clear hk
  refine wpQuiet_step (fun K hK => ?_)
  have HF := hide F
  clear F
  go_simp
  refine hK _ ?_
  clear hK K
  have F := unhide HF
  clear HF
  clear e38
  clear e42
  refine quiet_into F (by have := unhide HSZ; omega) (by decide) ?_
  clear F
  intro a F hk e43
  replace e36 := (hk 36 (by decide)).trans e36
  clear hk
  refine wpQuiet_step (fun K hK => ?_)
  have HF := hide F
  clear F
  go_simp
  refine hK _ ?_
  clear hK K
  have F := unhide HF
  clear HF
  clear e36
  clear e43
  refine quiet_into F (by have := unhide HSZ; omega) (by decide) ?_
  clear F
  intro a F hk e44
  clear hk
  refine wpQuiet_nil ?_
  intro W hw'
  obtain ⟨⟨dq, osq⟩, hw''⟩ := hw'
  subst hw''
  exact unhide HQ _ _ F.fr e44 (below_regrown w dq osq)
abbrev reg8a_ops : Array Oper := #[{ dst := some 48, op := Op.move (Operand.tmp 7), type := 3, pos := "laws.go:753", after := #[], guard := none }, { dst := some 49, op := Op.binOp BinOp.eql 3 (Operand.tmp 48) (Operand.const (Value.int IntKind.i64 (Int.ofNat 1))) 3, type := 4, pos := "laws.go:753", after := #[{ on := 0, ground := Ground.data }], guard := none }, { dst := some 50, op := Op.move (Operand.tmp 49), type := 4, pos := "laws.go:753", after := #[{ on := 1, ground := Ground.data }], guard := none }, { dst := some 51, op := Op.fieldAddr 33 (Operand.tmp 6) 1, type := 0, pos := "laws.go:753", after := #[{ on := 2, ground := Ground.guard }], guard := some (2, true) }, { dst := some 52, op := Op.load 3 (Operand.tmp 51), type := 3, pos := "laws.go:753", after := #[{ on := 3, ground := Ground.data }, { on := 2, ground := Ground.guard }], guard := some (2, true) }, { dst := some 53, op := Op.binOp BinOp.neq 3 (Operand.tmp 52) (Operand.const (Value.int IntKind.i64 (Int.ofNat 0))) 3, type := 4, pos := "laws.go:753", after := #[{ on := 4, ground := Ground.data }, { on := 2, ground := Ground.guard }], guard := some (2, true) }, { dst := some 54, op := Op.pick (Operand.tmp 50) (Operand.tmp 53) (Operand.const (Value.bool false)), type := 4, pos := "laws.go:753", after := #[{ on := 2, ground := Ground.data }, { on := 5, ground := Ground.data }], guard := none }, { dst := some 55, op := Op.move (Operand.tmp 54), type := 4, pos := "laws.go:753", after := #[{ on := 6, ground := Ground.data }, { on := 2, ground := Ground.chain }], guard := none }, { dst := some 56, op := Op.move (Operand.tmp 7), type := 3, pos := "laws.go:753", after := #[{ on := 7, ground := Ground.guard }], guard := some (7, false) }, { dst := some 57, op := Op.binOp BinOp.eql 3 (Operand.tmp 56) (Operand.const (Value.int IntKind.i64 (Int.ofNat 2))) 3, type := 4, pos := "laws.go:753", after := #[{ on := 8, ground := Ground.data }, { on := 7, ground := Ground.guard }], guard := some (7, false) }, { dst := some 58, op := Op.move (Operand.tmp 57), type := 4, pos := "laws.go:753", after := #[{ on := 9, ground := Ground.data }, { on := 7, ground := Ground.chain }, { on := 7, ground := Ground.guard }], guard := some (7, false) }, { dst := some 59, op := Op.fieldAddr 33 (Operand.tmp 6) 1, type := 0, pos := "laws.go:753", after := #[{ on := 10, ground := Ground.guard }], guard := some (10, true) }, { dst := some 60, op := Op.load 3 (Operand.tmp 59), type := 3, pos := "laws.go:753", after := #[{ on := 11, ground := Ground.data }, { on := 10, ground := Ground.guard }], guard := some (10, true) }, { dst := some 61, op := Op.load 26 (Operand.tmp 3), type := 26, pos := "laws.go:753", after := #[{ on := 10, ground := Ground.guard }], guard := some (10, true) }, { dst := some 62, op := Op.load 29 (Operand.tmp 4), type := 29, pos := "laws.go:753", after := #[{ on := 10, ground := Ground.guard }], guard := some (10, true) }, { dst := some 63, op := Op.move (Operand.tmp 5), type := 3, pos := "laws.go:753", after := #[{ on := 10, ground := Ground.guard }], guard := some (10, true) }, { dst := some 64, op := Op.binOp BinOp.add 3 (Operand.tmp 63) (Operand.const (Value.int IntKind.i64 (Int.ofNat 1))) 3, type := 3, pos := "laws.go:753", after := #[{ on := 15, ground := Ground.data }, { on := 10, ground := Ground.guard }], guard := some (10, true) }, { dst := some 65, op := Op.call { callee := Callee.value (Operand.func 8), args := #[Operand.tmp 61, Operand.tmp 62, Operand.tmp 64], argTypes := #[26, 29, 3] }, type := 3, pos := "laws.go:753", after := #[{ on := 13, ground := Ground.data }, { on := 14, ground := Ground.data }, { on := 16, ground := Ground.data }, { on := 10, ground := Ground.chain }, { on := 10, ground := Ground.guard }], guard := some (10, true) }, { dst := some 66, op := Op.binOp BinOp.neq 3 (Operand.tmp 60) (Operand.tmp 65) 3, type := 4, pos := "laws.go:753", after := #[{ on := 12, ground := Ground.data }, { on := 17, ground := Ground.data }, { on := 10, ground := Ground.guard }], guard := some (10, true) }, { dst := some 67, op := Op.pick (Operand.tmp 58) (Operand.tmp 66) (Operand.const (Value.bool false)), type := 4, pos := "laws.go:753", after := #[{ on := 10, ground := Ground.data }, { on := 18, ground := Ground.data }, { on := 7, ground := Ground.guard }], guard := some (7, false) }, { dst := some 68, op := Op.pick (Operand.tmp 55) (Operand.const (Value.bool true)) (Operand.tmp 67), type := 4, pos := "laws.go:753", after := #[{ on := 7, ground := Ground.data }, { on := 19, ground := Ground.data }], guard := none }, { dst := some 69, op := Op.move (Operand.tmp 68), type := 4, pos := "laws.go:753", after := #[{ on := 20, ground := Ground.data }, { on := 17, ground := Ground.chain }], guard := none }, { dst := some 70, op := Op.move (Operand.tmp 7), type := 3, pos := "laws.go:753", after := #[{ on := 21, ground := Ground.guard }], guard := some (21, false) }, { dst := some 71, op := Op.binOp BinOp.eql 3 (Operand.tmp 70) (Operand.const (Value.int IntKind.i64 (Int.ofNat 3))) 3, type := 4, pos := "laws.go:753", after := #[{ on := 22, ground := Ground.data }, { on := 21, ground := Ground.guard }], guard := some (21, false) }, { dst := some 72, op := Op.move (Operand.tmp 71), type := 4, pos := "laws.go:753", after := #[{ on := 23, ground := Ground.data }, { on := 21, ground := Ground.chain }, { on := 21, ground := Ground.guard }], guard := some (21, false) }, { dst := some 73, op := Op.fieldAddr 33 (Operand.tmp 6) 1, type := 0, pos := "laws.go:753", after := #[{ on := 24, ground := Ground.guard }], guard := some (24, true) }, { dst := some 74, op := Op.load 3 (Operand.tmp 73), type := 3, pos := "laws.go:753", after := #[{ on := 25, ground := Ground.data }, { on := 24, ground := Ground.guard }], guard := some (24, true) }, { dst := some 75, op := Op.load 26 (Operand.tmp 3), type := 26, pos := "laws.go:753", after := #[{ on := 24, ground := Ground.guard }], guard := some (24, true) }, { dst := some 76, op := Op.load 29 (Operand.tmp 4), type := 29, pos := "laws.go:753", after := #[{ on := 24, ground := Ground.guard }], guard := some (24, true) }, { dst := some 77, op := Op.move (Operand.tmp 5), type := 3, pos := "laws.go:753", after := #[{ on := 24, ground := Ground.guard }], guard := some (24, true) }, { dst := some 78, op := Op.binOp BinOp.add 3 (Operand.tmp 77) (Operand.const (Value.int IntKind.i64 (Int.ofNat 1))) 3, type := 3, pos := "laws.go:753", after := #[{ on := 29, ground := Ground.data }, { on := 24, ground := Ground.guard }], guard := some (24, true) }, { dst := some 79, op := Op.call { callee := Callee.value (Operand.func 8), args := #[Operand.tmp 75, Operand.tmp 76, Operand.tmp 78], argTypes := #[26, 29, 3] }, type := 3, pos := "laws.go:753", after := #[{ on := 27, ground := Ground.data }, { on := 28, ground := Ground.data }, { on := 30, ground := Ground.data }, { on := 24, ground := Ground.chain }, { on := 24, ground := Ground.guard }], guard := some (24, true) }, { dst := some 80, op := Op.load 26 (Operand.tmp 3), type := 26, pos := "laws.go:753", after := #[{ on := 24, ground := Ground.guard }], guard := some (24, true) }, { dst := some 81, op := Op.load 29 (Operand.tmp 4), type := 29, pos := "laws.go:753", after := #[{ on := 24, ground := Ground.guard }], guard := some (24, true) }, { dst := some 82, op := Op.move (Operand.tmp 5), type := 3, pos := "laws.go:753", after := #[{ on := 24, ground := Ground.guard }], guard := some (24, true) }, { dst := some 83, op := Op.binOp BinOp.add 3 (Operand.tmp 82) (Operand.const (Value.int IntKind.i64 (Int.ofNat 2))) 3, type := 3, pos := "laws.go:753", after := #[{ on := 34, ground := Ground.data }, { on := 24, ground := Ground.guard }], guard := some (24, true) }, { dst := some 84, op := Op.call { callee := Callee.value (Operand.func 8), args := #[Operand.tmp 80, Operand.tmp 81, Operand.tmp 83], argTypes := #[26, 29, 3] }, type := 3, pos := "laws.go:753", after := #[{ on := 32, ground := Ground.data }, { on := 33, ground := Ground.data }, { on := 35, ground := Ground.data }, { on := 31, ground := Ground.chain }, { on := 24, ground := Ground.guard }], guard := some (24, true) }, { dst := some 85, op := Op.call { callee := Callee.value (Operand.func 10), args := #[Operand.tmp 79, Operand.tmp 84], argTypes := #[3, 3] }, type := 3, pos := "laws.go:753", after := #[{ on := 31, ground := Ground.data }, { on := 36, ground := Ground.data }, { on := 36, ground := Ground.chain }, { on := 24, ground := Ground.guard }], guard := some (24, true) }, { dst := some 86, op := Op.binOp BinOp.neq 3 (Operand.tmp 74) (Operand.tmp 85) 3, type := 4, pos := "laws.go:753", after := #[{ on := 26, ground := Ground.data }, { on := 37, ground := Ground.data }, { on := 24, ground := Ground.guard }], guard := some (24, true) }, { dst := some 87, op := Op.pick (Operand.tmp 72) (Operand.tmp 86) (Operand.const (Value.bool false)), type := 4, pos := "laws.go:753", after := #[{ on := 24, ground := Ground.data }, { on := 38, ground := Ground.data }, { on := 21, ground := Ground.guard }], guard := some (21, false) }, { dst := some 88, op := Op.pick (Operand.tmp 69) (Operand.const (Value.bool true)) (Operand.tmp 87), type := 4, pos := "laws.go:753", after := #[{ on := 21, ground := Ground.data }, { on := 39, ground := Ground.data }], guard := none }]
def reg8a_sl : List Nat := [48, 49, 50, 51, 52, 53, 54, 55, 56, 57, 58, 59, 60, 61, 62, 63, 64, 65, 66, 67, 68, 69, 70, 71, 72, 73, 74, 75, 76, 77, 78, 79, 80, 81, 82, 83, 84, 85, 86, 87, 88]
set_option maxHeartbeats 4000000 in
set_option maxRecDepth 20000 in
theorem reg8a {Q : Exit → Act → World → Prop} {id : Nat} (w : World) (p P : Nat) (va : Option Addr) (m vc : Nat) (qa : Option Addr) (n qc : Nat) (bank op x v1 v2 : Int) (a : Act) (hsz : 88 < a.tmps.size) (e3 : a.tmps[3]? = some (.pointer (some ⟨p, 0, none⟩))) (e4 : a.tmps[4]? = some (.pointer (some ⟨p + 1, 0, none⟩))) (e5 : a.tmps[5]? = some (.int .i64 x)) (e6 : a.tmps[6]? = some (.pointer (some ⟨P, 0, none⟩))) (e7 : a.tmps[7]? = some (.int .i64 1)) (q1 : ∀ d os, (grow (redrawn w d) os).cell? ⟨p, 0, none⟩ = some (.slice va m vc)) (q2 : ∀ d os, (grow (redrawn w d) os).cell? ⟨p + 1, 0, none⟩ = some (.slice qa n qc)) (q3 : ∀ d os, (grow (redrawn w d) os).cell? ⟨p + 1, 1, none⟩ = some (.int .i64 bank)) (q4 : ∀ d os, (grow (redrawn w d) os).cell? ⟨P, 0, none⟩ = some (.int .i64 op)) (q5 : ∀ d os, (grow (redrawn w d) os).cell? ⟨P, 1, none⟩ = some (.int .i64 (0))) (hQ : ∀ a1 W, Fr reg8a_sl a a1 → a1.tmps[88]? = some (.bool false) → Below w.heap.size w W → Q .normal a1 W) : (Code.region id reg8a_ops true).wp Tryd.prog Q a w := by
  refine wp_region_quiet_below (by kernel_rfl) (by kernel_rfl) ?_
  obtain ⟨a0, ha0⟩ : ∃ x, x = a := ⟨_, rfl⟩
  have F : Fs reg8a_sl a0 a := ha0 ▸ Fs.refl _ _
  have HSZ : Hid (88 < a0.tmps.size) := ha0 ▸ hsz
  have HQ : Hid (∀ a1 W, Fr reg8a_sl a0 a1 → a1.tmps[88]? = some (.bool false) → Below w.heap.size w W → Q .normal a1 W) := ha0 ▸ hQ
  clear hQ hsz ha0
  refine wpQuiet_step (fun K hK => ?_)
  have HF := hide F
  clear F
  go_simp
  refine hK _ ?_
  clear hK K
  have F := unhide HF
  clear HF
  refine quiet_into F (by have := unhide HSZ; omega) (by decide) ?_
  clear F
  intro a F hk e48
  replace e3 := (hk 3 (by decide)).trans e3
  replace e4 := (hk 4 (by decide)).trans e4
  replace e5 := (hk 5 (by decide)).trans e5
  replace e6 := (hk 6 (by decide)).trans e6
  replace e7 := (hk 7 (by decide)).trans e7
  clear hk
  refine wpQuiet_step (fun K hK => ?_)
  have HF := hide F
  clear F
  go_simp
  refine hK _ ?_
  clear hK K
  have F := unhide HF
  clear HF
  clear e48
  refine quiet_into F (by have := unhide HSZ; omega) (by decide) ?_
  clear F
  intro a F hk e49
  replace e3 := (hk 3 (by decide)).trans e3
  replace e4 := (hk 4 (by decide)).trans e4
  replace e5 := (hk 5 (by decide)).trans e5
  replace e6 := (hk 6 (by decide)).trans e6
  replace e7 := (hk 7 (by decide)).trans e7
  clear hk
  refine wpQuiet_step (fun K hK => ?_)
  have HF := hide F
  clear F
  go_simp
  refine hK _ ?_
  clear hK K
  have F := unhide HF
  clear HF
  clear e49
  refine quiet_into F (by have := unhide HSZ; omega) (by decide) ?_
  clear F
  intro a F hk e50
  replace e3 := (hk 3 (by decide)).trans e3
  replace e4 := (hk 4 (by decide)).trans e4
  replace e5 := (hk 5 (by decide)).trans e5
  replace e6 := (hk 6 (by decide)).trans e6
  replace e7 := (hk 7 (by decide)).trans e7
  clear hk
  refine wpQuiet_step (fun K hK => ?_)
  have HF := hide F
  clear F
  go_simp
  refine hK _ ?_
  clear hK K
  have F := unhide HF
  clear HF
  refine quiet_into F (by have := unhide HSZ; omega) (by decide) ?_
  clear F
  intro a F hk e51
  replace e3 := (hk 3 (by decide)).trans e3
  replace e4 := (hk 4 (by decide)).trans e4
  replace e5 := (hk 5 (by decide)).trans e5
  replace e6 := (hk 6 (by decide)).trans e6
  replace e7 := (hk 7 (by decide)).trans e7
  replace e50 := (hk 50 (by decide)).trans e50
  clear hk
  refine wpQuiet_step (fun K hK => ?_)
  have HF := hide F
  clear F
  go_simp
  refine hK _ ?_
  clear hK K
  have F := unhide HF
  clear HF
  clear e51
  refine quiet_into F (by have := unhide HSZ; omega) (by decide) ?_
  clear F
  intro a F hk e52
  replace e3 := (hk 3 (by decide)).trans e3
  replace e4 := (hk 4 (by decide)).trans e4
  replace e5 := (hk 5 (by decide)).trans e5
  replace e6 := (hk 6 (by decide)).trans e6
  replace e7 := (hk 7 (by decide)).trans e7
  replace e50 := (hk 50 (by decide)).trans e50
  clear hk
  refine wpQuiet_step (fun K hK => ?_)
  have HF := hide F
  clear F
  go_simp
  refine hK _ ?_
  clear hK K
  have F := unhide HF
  clear HF
  clear e52
  refine quiet_into F (by have := unhide HSZ; omega) (by decide) ?_
  clear F
  intro a F hk e53
  replace e3 := (hk 3 (by decide)).trans e3
  replace e4 := (hk 4 (by decide)).trans e4
  replace e5 := (hk 5 (by decide)).trans e5
  replace e6 := (hk 6 (by decide)).trans e6
  replace e7 := (hk 7 (by decide)).trans e7
  replace e50 := (hk 50 (by decide)).trans e50
  clear hk
  refine wpQuiet_step (fun K hK => ?_)
  have HF := hide F
  clear F
  go_simp
  refine hK _ ?_
  clear hK K
  have F := unhide HF
  clear HF
  clear e50
  clear e53
  refine quiet_into F (by have := unhide HSZ; omega) (by decide) ?_
  clear F
  intro a F hk e54
  replace e3 := (hk 3 (by decide)).trans e3
  replace e4 := (hk 4 (by decide)).trans e4
  replace e5 := (hk 5 (by decide)).trans e5
  replace e6 := (hk 6 (by decide)).trans e6
  replace e7 := (hk 7 (by decide)).trans e7
  clear hk
  refine wpQuiet_step (fun K hK => ?_)
  have HF := hide F
  clear F
  go_simp
  refine hK _ ?_
  clear hK K
  have F := unhide HF
  clear HF
  clear e54
  refine quiet_into F (by have := unhide HSZ; omega) (by decide) ?_
  clear F
  intro a F hk e55
  replace e3 := (hk 3 (by decide)).trans e3
  replace e4 := (hk 4 (by decide)).trans e4
  replace e5 := (hk 5 (by decide)).trans e5
  replace e6 := (hk 6 (by decide)).trans e6
  replace e7 := (hk 7 (by decide)).trans e7
  clear hk
  refine wpQuiet_step (fun K hK => ?_)
  have HF := hide F
  clear F
  go_simp
  refine hK _ ?_
  clear hK K
  have F := unhide HF
  clear HF
  refine quiet_into F (by have := unhide HSZ; omega) (by decide) ?_
  clear F
  intro a F hk e56
  replace e3 := (hk 3 (by decide)).trans e3
  replace e4 := (hk 4 (by decide)).trans e4
  replace e5 := (hk 5 (by decide)).trans e5
  replace e6 := (hk 6 (by decide)).trans e6
  replace e7 := (hk 7 (by decide)).trans e7
  replace e55 := (hk 55 (by decide)).trans e55
  clear hk
  refine wpQuiet_step (fun K hK => ?_)
  have HF := hide F
  clear F
  go_simp
  refine hK _ ?_
  clear hK K
  have F := unhide HF
  clear HF
  clear e56
  refine quiet_into F (by have := unhide HSZ; omega) (by decide) ?_
  clear F
  intro a F hk e57
  replace e3 := (hk 3 (by decide)).trans e3
  replace e4 := (hk 4 (by decide)).trans e4
  replace e5 := (hk 5 (by decide)).trans e5
  replace e6 := (hk 6 (by decide)).trans e6
  replace e7 := (hk 7 (by decide)).trans e7
  replace e55 := (hk 55 (by decide)).trans e55
  clear hk
  refine wpQuiet_step (fun K hK => ?_)
  have HF := hide F
  clear F
  go_simp
  refine hK _ ?_
  clear hK K
  have F := unhide HF
  clear HF
  clear e57
  refine quiet_into F (by have := unhide HSZ; omega) (by decide) ?_
  clear F
  intro a F hk e58
  replace e3 := (hk 3 (by decide)).trans e3
  replace e4 := (hk 4 (by decide)).trans e4
  replace e5 := (hk 5 (by decide)).trans e5
  replace e6 := (hk 6 (by decide)).trans e6
  replace e7 := (hk 7 (by decide)).trans e7
  replace e55 := (hk 55 (by decide)).trans e55
  clear hk
  refine wpQuiet_step (fun K hK => ?_)
  have HF := hide F
  clear F
  go_simp
  refine hK _ ?_
  clear hK K
  have F := unhide HF
  clear HF
  refine quiet_into F (by have := unhide HSZ; omega) (by decide) ?_
  clear F
  intro a F hk e59
  replace e3 := (hk 3 (by decide)).trans e3
  replace e4 := (hk 4 (by decide)).trans e4
  replace e5 := (hk 5 (by decide)).trans e5
  replace e6 := (hk 6 (by decide)).trans e6
  replace e7 := (hk 7 (by decide)).trans e7
  replace e55 := (hk 55 (by decide)).trans e55
  replace e58 := (hk 58 (by decide)).trans e58
  clear hk
  refine wpQuiet_step (fun K hK => ?_)
  have HF := hide F
  clear F
  go_simp
  refine hK _ ?_
  clear hK K
  have F := unhide HF
  clear HF
  clear e59
  refine quiet_into F (by have := unhide HSZ; omega) (by decide) ?_
  clear F
  intro a F hk e60
  replace e3 := (hk 3 (by decide)).trans e3
  replace e4 := (hk 4 (by decide)).trans e4
  replace e5 := (hk 5 (by decide)).trans e5
  replace e6 := (hk 6 (by decide)).trans e6
  replace e7 := (hk 7 (by decide)).trans e7
  replace e55 := (hk 55 (by decide)).trans e55
  replace e58 := (hk 58 (by decide)).trans e58
  clear hk
  refine wpQuiet_step (fun K hK => ?_)
  have HF := hide F
  clear F
  go_simp
  refine hK _ ?_
  clear hK K
  have F := unhide HF
  clear HF
  refine quiet_into F (by have := unhide HSZ; omega) (by decide) ?_
  clear F
  intro a F hk e61
  replace e3 := (hk 3 (by decide)).trans e3
  replace e4 := (hk 4 (by decide)).trans e4
  replace e5 := (hk 5 (by decide)).trans e5
  replace e6 := (hk 6 (by decide)).trans e6
  replace e7 := (hk 7 (by decide)).trans e7
  replace e55 := (hk 55 (by decide)).trans e55
  replace e58 := (hk 58 (by decide)).trans e58
  replace e60 := (hk 60 (by decide)).trans e60
  clear hk
  refine wpQuiet_step (fun K hK => ?_)
  have HF := hide F
  clear F
  go_simp
  refine hK _ ?_
  clear hK K
  have F := unhide HF
  clear HF
  refine quiet_into F (by have := unhide HSZ; omega) (by decide) ?_
  clear F
  intro a F hk e62
  replace e3 := (hk 3 (by decide)).trans e3
  replace e4 := (hk 4 (by decide)).trans e4
  replace e5 := (hk 5 (by decide)).trans e5
  replace e6 := (hk 6 (by decide)).trans e6
  replace e7 := (hk 7 (by decide)).trans e7
  replace e55 := (hk 55 (by decide)).trans e55
  replace e58 := (hk 58 (by decide)).trans e58
  replace e60 := (hk 60 (by decide)).trans e60
  replace e61 := (hk 61 (by decide)).trans e61
  clear hk
  refine wpQuiet_step (fun K hK => ?_)
  have HF := hide F
  clear F
  go_simp
  refine hK _ ?_
  clear hK K
  have F := unhide HF
  clear HF
  refine quiet_into F (by have := unhide HSZ; omega) (by decide) ?_
  clear F
  intro a F hk e63
  replace e3 := (hk 3 (by decide)).trans e3
  replace e4 := (hk 4 (by decide)).trans e4
  replace e5 := (hk 5 (by decide)).trans e5
  replace e6 := (hk 6 (by decide)).trans e6
  replace e7 := (hk 7 (by decide)).trans e7
  replace e55 := (hk 55 (by decide)).trans e55
  replace e58 := (hk 58 (by decide)).trans e58
  replace e60 := (hk 60 (by decide)).trans e60
  replace e61 := (hk 61 (by decide)).trans e61
  replace e62 := (hk 62 (by decide)).trans e62
  clear hk
  refine wpQuiet_step (fun K hK => ?_)
  have HF := hide F
  clear F
  go_simp
  refine hK _ ?_
  clear hK K
  have F := unhide HF
  clear HF
  clear e63
  refine quiet_into F (by have := unhide HSZ; omega) (by decide) ?_
  clear F
  intro a F hk e64
  replace e3 := (hk 3 (by decide)).trans e3
  replace e4 := (hk 4 (by decide)).trans e4
  replace e5 := (hk 5 (by decide)).trans e5
  replace e6 := (hk 6 (by decide)).trans e6
  replace e7 := (hk 7 (by decide)).trans e7
  replace e55 := (hk 55 (by decide)).trans e55
  replace e58 := (hk 58 (by decide)).trans e58
  replace e60 := (hk 60 (by decide)).trans e60
  replace e61 := (hk 61 (by decide)).trans e61
  replace e62 := (hk 62 (by decide)).trans e62
  clear hk
  refine wpQuiet_step (fun K hK => ?_)
  have HF := hide F
  clear F
  go_simp
  refine hK _ ?_
  clear hK K
  have F := unhide HF
  clear HF
  clear e61
  clear e62
  clear e64
  refine quiet_into F (by have := unhide HSZ; omega) (by decide) ?_
  clear F
  intro a F hk e65
  replace e3 := (hk 3 (by decide)).trans e3
  replace e4 := (hk 4 (by decide)).trans e4
  replace e5 := (hk 5 (by decide)).trans e5
  replace e6 := (hk 6 (by decide)).trans e6
  replace e7 := (hk 7 (by decide)).trans e7
  replace e55 := (hk 55 (by decide)).trans e55
  replace e58 := (hk 58 (by decide)).trans e58
  replace e60 := (hk 60 (by decide)).trans e60
  clear hk
  refine wpQuiet_step (fun K hK => ?_)
  have HF := hide F
  clear F
  go_simp
  refine hK _ ?_
  clear hK K
  have F := unhide HF
  clear HF
  clear e60
  clear e65
  refine quiet_into F (by have := unhide HSZ; omega) (by decide) ?_
  clear F
  intro a F hk e66
  replace e3 := (hk 3 (by decide)).trans e3
  replace e4 := (hk 4 (by decide)).trans e4
  replace e5 := (hk 5 (by decide)).trans e5
  replace e6 := (hk 6 (by decide)).trans e6
  replace e7 := (hk 7 (by decide)).trans e7
  replace e55 := (hk 55 (by decide)).trans e55
  replace e58 := (hk 58 (by decide)).trans e58
  clear hk
  refine wpQuiet_step (fun K hK => ?_)
  have HF := hide F
  clear F
  go_simp
  refine hK _ ?_
  clear hK K
  have F := unhide HF
  clear HF
  clear e58
  clear e66
  refine quiet_into F (by have := unhide HSZ; omega) (by decide) ?_
  clear F
  intro a F hk e67
  replace e3 := (hk 3 (by decide)).trans e3
  replace e4 := (hk 4 (by decide)).trans e4
  replace e5 := (hk 5 (by decide)).trans e5
  replace e6 := (hk 6 (by decide)).trans e6
  replace e7 := (hk 7 (by decide)).trans e7
  replace e55 := (hk 55 (by decide)).trans e55
  clear hk
  refine wpQuiet_step (fun K hK => ?_)
  have HF := hide F
  clear F
  go_simp
  refine hK _ ?_
  clear hK K
  have F := unhide HF
  clear HF
  clear e55
  clear e67
  refine quiet_into F (by have := unhide HSZ; omega) (by decide) ?_
  clear F
  intro a F hk e68
  replace e3 := (hk 3 (by decide)).trans e3
  replace e4 := (hk 4 (by decide)).trans e4
  replace e5 := (hk 5 (by decide)).trans e5
  replace e6 := (hk 6 (by decide)).trans e6
  replace e7 := (hk 7 (by decide)).trans e7
  clear hk
  refine wpQuiet_step (fun K hK => ?_)
  have HF := hide F
  clear F
  go_simp
  refine hK _ ?_
  clear hK K
  have F := unhide HF
  clear HF
  clear e68
  refine quiet_into F (by have := unhide HSZ; omega) (by decide) ?_
  clear F
  intro a F hk e69
  replace e3 := (hk 3 (by decide)).trans e3
  replace e4 := (hk 4 (by decide)).trans e4
  replace e5 := (hk 5 (by decide)).trans e5
  replace e6 := (hk 6 (by decide)).trans e6
  replace e7 := (hk 7 (by decide)).trans e7
  clear hk
  refine wpQuiet_step (fun K hK => ?_)
  have HF := hide F
  clear F
  go_simp
  refine hK _ ?_
  clear hK K
  have F := unhide HF
  clear HF
  clear e7
  refine quiet_into F (by have := unhide HSZ; omega) (by decide) ?_
  clear F
  intro a F hk e70
  replace e3 := (hk 3 (by decide)).trans e3
  replace e4 := (hk 4 (by decide)).trans e4
  replace e5 := (hk 5 (by decide)).trans e5
  replace e6 := (hk 6 (by decide)).trans e6
  replace e69 := (hk 69 (by decide)).trans e69
  clear hk
  refine wpQuiet_step (fun K hK => ?_)
  have HF := hide F
  clear F
  go_simp
  refine hK _ ?_
  clear hK K
  have F := unhide HF
  clear HF
  clear e70
  refine quiet_into F (by have := unhide HSZ; omega) (by decide) ?_
  clear F
  intro a F hk e71
  replace e3 := (hk 3 (by decide)).trans e3
  replace e4 := (hk 4 (by decide)).trans e4
  replace e5 := (hk 5 (by decide)).trans e5
  replace e6 := (hk 6 (by decide)).trans e6
  replace e69 := (hk 69 (by decide)).trans e69
  clear hk
  refine wpQuiet_step (fun K hK => ?_)
  have HF := hide F
  clear F
  go_simp
  refine hK _ ?_
  clear hK K
  have F := unhide HF
  clear HF
  clear e71
  refine quiet_into F (by have := unhide HSZ; omega) (by decide) ?_
  clear F
  intro a F hk e72
  replace e3 := (hk 3 (by decide)).trans e3
  replace e4 := (hk 4 (by decide)).trans e4
  replace e5 := (hk 5 (by decide)).trans e5
  replace e6 := (hk 6 (by decide)).trans e6
  replace e69 := (hk 69 (by decide)).trans e69
  clear hk
  refine wpQuiet_step (fun K hK => ?_)
  have HF := hide F
  clear F
  go_simp
  refine hK _ ?_
  clear hK K
  have F := unhide HF
  clear HF
  clear e6
  refine quiet_into F (by have := unhide HSZ; omega) (by decide) ?_
  clear F
  intro a F hk e73
  replace e3 := (hk 3 (by decide)).trans e3
  replace e4 := (hk 4 (by decide)).trans e4
  replace e5 := (hk 5 (by decide)).trans e5
  replace e69 := (hk 69 (by decide)).trans e69
  replace e72 := (hk 72 (by decide)).trans e72
  clear hk
  refine wpQuiet_step (fun K hK => ?_)
  have HF := hide F
  clear F
  go_simp
  refine hK _ ?_
  clear hK K
  have F := unhide HF
  clear HF
  clear e73
  refine quiet_into F (by have := unhide HSZ; omega) (by decide) ?_
  clear F
  intro a F hk e74
  replace e3 := (hk 3 (by decide)).trans e3
  replace e4 := (hk 4 (by decide)).trans e4
  replace e5 := (hk 5 (by decide)).trans e5
  replace e69 := (hk 69 (by decide)).trans e69
  replace e72 := (hk 72 (by decide)).trans e72
  clear hk
  refine wpQuiet_step (fun K hK => ?_)
  have HF := hide F
  clear F
  go_simp
  refine hK _ ?_
  clear hK K
  have F := unhide HF
  clear HF
  refine quiet_into F (by have := unhide HSZ; omega) (by decide) ?_
  clear F
  intro a F hk e75
  replace e3 := (hk 3 (by decide)).trans e3
  replace e4 := (hk 4 (by decide)).trans e4
  replace e5 := (hk 5 (by decide)).trans e5
  replace e69 := (hk 69 (by decide)).trans e69
  replace e72 := (hk 72 (by decide)).trans e72
  replace e74 := (hk 74 (by decide)).trans e74
  clear hk
  refine wpQuiet_step (fun K hK => ?_)
  have HF := hide F
  clear F
  go_simp
  refine hK _ ?_
  clear hK K
  have F := unhide HF
  clear HF
  refine quiet_into F (by have := unhide HSZ; omega) (by decide) ?_
  clear F
  intro a F hk e76
  replace e3 := (hk 3 (by decide)).trans e3
  replace e4 := (hk 4 (by decide)).trans e4
  replace e5 := (hk 5 (by decide)).trans e5
  replace e69 := (hk 69 (by decide)).trans e69
  replace e72 := (hk 72 (by decide)).trans e72
  replace e74 := (hk 74 (by decide)).trans e74
  replace e75 := (hk 75 (by decide)).trans e75
  clear hk
  refine wpQuiet_step (fun K hK => ?_)
  have HF := hide F
  clear F
  go_simp
  refine hK _ ?_
  clear hK K
  have F := unhide HF
  clear HF
  refine quiet_into F (by have := unhide HSZ; omega) (by decide) ?_
  clear F
  intro a F hk e77
  replace e3 := (hk 3 (by decide)).trans e3
  replace e4 := (hk 4 (by decide)).trans e4
  replace e5 := (hk 5 (by decide)).trans e5
  replace e69 := (hk 69 (by decide)).trans e69
  replace e72 := (hk 72 (by decide)).trans e72
  replace e74 := (hk 74 (by decide)).trans e74
  replace e75 := (hk 75 (by decide)).trans e75
  replace e76 := (hk 76 (by decide)).trans e76
  clear hk
  refine wpQuiet_step (fun K hK => ?_)
  have HF := hide F
  clear F
  go_simp
  refine hK _ ?_
  clear hK K
  have F := unhide HF
  clear HF
  clear e77
  refine quiet_into F (by have := unhide HSZ; omega) (by decide) ?_
  clear F
  intro a F hk e78
  replace e3 := (hk 3 (by decide)).trans e3
  replace e4 := (hk 4 (by decide)).trans e4
  replace e5 := (hk 5 (by decide)).trans e5
  replace e69 := (hk 69 (by decide)).trans e69
  replace e72 := (hk 72 (by decide)).trans e72
  replace e74 := (hk 74 (by decide)).trans e74
  replace e75 := (hk 75 (by decide)).trans e75
  replace e76 := (hk 76 (by decide)).trans e76
  clear hk
  refine wpQuiet_step (fun K hK => ?_)
  have HF := hide F
  clear F
  go_simp
  refine hK _ ?_
  clear hK K
  have F := unhide HF
  clear HF
  clear e75
  clear e76
  clear e78
  refine quiet_into F (by have := unhide HSZ; omega) (by decide) ?_
  clear F
  intro a F hk e79
  replace e3 := (hk 3 (by decide)).trans e3
  replace e4 := (hk 4 (by decide)).trans e4
  replace e5 := (hk 5 (by decide)).trans e5
  replace e69 := (hk 69 (by decide)).trans e69
  replace e72 := (hk 72 (by decide)).trans e72
  replace e74 := (hk 74 (by decide)).trans e74
  clear hk
  refine wpQuiet_step (fun K hK => ?_)
  have HF := hide F
  clear F
  go_simp
  refine hK _ ?_
  clear hK K
  have F := unhide HF
  clear HF
  clear e3
  refine quiet_into F (by have := unhide HSZ; omega) (by decide) ?_
  clear F
  intro a F hk e80
  replace e4 := (hk 4 (by decide)).trans e4
  replace e5 := (hk 5 (by decide)).trans e5
  replace e69 := (hk 69 (by decide)).trans e69
  replace e72 := (hk 72 (by decide)).trans e72
  replace e74 := (hk 74 (by decide)).trans e74
  replace e79 := (hk 79 (by decide)).trans e79
  clear hk
  refine wpQuiet_step (fun K hK => ?_)
  have HF := hide F
  clear F
  go_simp
  refine hK _ ?_
  clear hK K
  have F := unhide HF
  clear HF
  clear e4
  refine quiet_into F (by have := unhide HSZ; omega) (by decide) ?_
  clear F
  intro a F hk e81
  replace e5 := (hk 5 (by decide)).trans e5
  replace e69 := (hk 69 (by decide)).trans e69
  replace e72 := (hk 72 (by decide)).trans e72
  replace e74 := (hk 74 (by decide)).trans e74
  replace e79 := (hk 79 (by decide)).trans e79
  replace e80 := (hk 80 (by decide)).trans e80
  clear hk
  refine wpQuiet_step (fun K hK => ?_)
  have HF := hide F
  clear F
  go_simp
  refine hK _ ?_
  clear hK K
  have F := unhide HF
  clear HF
  clear e5
  refine quiet_into F (by have := unhide HSZ; omega) (by decide) ?_
  clear F
  intro a F hk e82
  replace e69 := (hk 69 (by decide)).trans e69
  replace e72 := (hk 72 (by decide)).trans e72
  replace e74 := (hk 74 (by decide)).trans e74
  replace e79 := (hk 79 (by decide)).trans e79
  replace e80 := (hk 80 (by decide)).trans e80
  replace e81 := (hk 81 (by decide)).trans e81
  clear hk
  refine wpQuiet_step (fun K hK => ?_)
  have HF := hide F
  clear F
  go_simp
  refine hK _ ?_
  clear hK K
  have F := unhide HF
  clear HF
  clear e82
  refine quiet_into F (by have := unhide HSZ; omega) (by decide) ?_
  clear F
  intro a F hk e83
  replace e69 := (hk 69 (by decide)).trans e69
  replace e72 := (hk 72 (by decide)).trans e72
  replace e74 := (hk 74 (by decide)).trans e74
  replace e79 := (hk 79 (by decide)).trans e79
  replace e80 := (hk 80 (by decide)).trans e80
  replace e81 := (hk 81 (by decide)).trans e81
  clear hk
  refine wpQuiet_step (fun K hK => ?_)
  have HF := hide F
  clear F
  go_simp
  refine hK _ ?_
  clear hK K
  have F := unhide HF
  clear HF
  clear e80
  clear e81
  clear e83
  refine quiet_into F (by have := unhide HSZ; omega) (by decide) ?_
  clear F
  intro a F hk e84
  replace e69 := (hk 69 (by decide)).trans e69
  replace e72 := (hk 72 (by decide)).trans e72
  replace e74 := (hk 74 (by decide)).trans e74
  replace e79 := (hk 79 (by decide)).trans e79
  clear hk
  refine wpQuiet_step (fun K hK => ?_)
  have HF := hide F
  clear F
  go_simp
  refine hK _ ?_
  clear hK K
  have F := unhide HF
  clear HF
  clear e79
  clear e84
  refine quiet_into F (by have := unhide HSZ; omega) (by decide) ?_
  clear F
  intro a F hk e85
  replace e69 := (hk 69 (by decide)).trans e69
  replace e72 := (hk 72 (by decide)).trans e72
  replace e74 := (hk 74 (by decide)).trans e74
  clear hk
  refine wpQuiet_step (fun K hK => ?_)
  have HF := hide F
  clear F
  go_simp
  refine hK _ ?_
  clear hK K
  have F := unhide HF
  clear HF
  clear e74
  clear e85
  refine quiet_into F (by have := unhide HSZ; omega) (by decide) ?_
  clear F
  intro a F hk e86
  replace e69 := (hk 69 (by decide)).trans e69
  replace e72 := (hk 72 (by decide)).trans e72
  clear hk
  refine wpQuiet_step (fun K hK => ?_)
  have HF := hide F
  clear F
  go_simp
  refine hK _ ?_
  clear hK K
  have F := unhide HF
  clear HF
  clear e72
  clear e86
  refine quiet_into F (by have := unhide HSZ; omega) (by decide) ?_
  clear F
  intro a F hk e87
  replace e69 := (hk 69 (by decide)).trans e69
  clear hk
  refine wpQuiet_step (fun K hK => ?_)
  have HF := hide F
  clear F
  go_simp
  refine hK _ ?_
  clear hK K
  have F := unhide HF
  clear HF
  clear e69
  clear e87
  refine quiet_into F (by have := unhide HSZ; omega) (by decide) ?_
  clear F
  intro a F hk e88
  clear hk
  refine wpQuiet_nil ?_
  intro W hw'
  obtain ⟨⟨dq, osq⟩, hw''⟩ := hw'
  subst hw''
  exact unhide HQ _ _ F.fr e88 (below_regrown w dq osq)
abbrev reg8b_ops : Array Oper := #[{ dst := some 48, op := Op.move (Operand.tmp 7), type := 3, pos := "laws.go:753", after := #[], guard := none }, { dst := some 49, op := Op.binOp BinOp.eql 3 (Operand.tmp 48) (Operand.const (Value.int IntKind.i64 (Int.ofNat 1))) 3, type := 4, pos := "laws.go:753", after := #[{ on := 0, ground := Ground.data }], guard := none }, { dst := some 50, op := Op.move (Operand.tmp 49), type := 4, pos := "laws.go:753", after := #[{ on := 1, ground := Ground.data }], guard := none }, { dst := some 51, op := Op.fieldAddr 33 (Operand.tmp 6) 1, type := 0, pos := "laws.go:753", after := #[{ on := 2, ground := Ground.guard }], guard := some (2, true) }, { dst := some 52, op := Op.load 3 (Operand.tmp 51), type := 3, pos := "laws.go:753", after := #[{ on := 3, ground := Ground.data }, { on := 2, ground := Ground.guard }], guard := some (2, true) }, { dst := some 53, op := Op.binOp BinOp.neq 3 (Operand.tmp 52) (Operand.const (Value.int IntKind.i64 (Int.ofNat 0))) 3, type := 4, pos := "laws.go:753", after := #[{ on := 4, ground := Ground.data }, { on := 2, ground := Ground.guard }], guard := some (2, true) }, { dst := some 54, op := Op.pick (Operand.tmp 50) (Operand.tmp 53) (Operand.const (Value.bool false)), type := 4, pos := "laws.go:753", after := #[{ on := 2, ground := Ground.data }, { on := 5, ground := Ground.data }], guard := none }, { dst := some 55, op := Op.move (Operand.tmp 54), type := 4, pos := "laws.go:753", after := #[{ on := 6, ground := Ground.data }, { on := 2, ground := Ground.chain }], guard := none }, { dst := some 56, op := Op.move (Operand.tmp 7), type := 3, pos := "laws.go:753", after := #[{ on := 7, ground := Ground.guard }], guard := some (7, false) }, { dst := some 57, op := Op.binOp BinOp.eql 3 (Operand.tmp 56) (Operand.const (Value.int IntKind.i64 (Int.ofNat 2))) 3, type := 4, pos := "laws.go:753", after := #[{ on := 8, ground := Ground.data }, { on := 7, ground := Ground.guard }], guard := some (7, false) }, { dst := some 58, op := Op.move (Operand.tmp 57), type := 4, pos := "laws.go:753", after := #[{ on := 9, ground := Ground.data }, { on := 7, ground := Ground.chain }, { on := 7, ground := Ground.guard }], guard := some (7, false) }, { dst := some 59, op := Op.fieldAddr 33 (Operand.tmp 6) 1, type := 0, pos := "laws.go:753", after := #[{ on := 10, ground := Ground.guard }], guard := some (10, true) }, { dst := some 60, op := Op.load 3 (Operand.tmp 59), type := 3, pos := "laws.go:753", after := #[{ on := 11, ground := Ground.data }, { on := 10, ground := Ground.guard }], guard := some (10, true) }, { dst := some 61, op := Op.load 26 (Operand.tmp 3), type := 26, pos := "laws.go:753", after := #[{ on := 10, ground := Ground.guard }], guard := some (10, true) }, { dst := some 62, op := Op.load 29 (Operand.tmp 4), type := 29, pos := "laws.go:753", after := #[{ on := 10, ground := Ground.guard }], guard := some (10, true) }, { dst := some 63, op := Op.move (Operand.tmp 5), type := 3, pos := "laws.go:753", after := #[{ on := 10, ground := Ground.guard }], guard := some (10, true) }, { dst := some 64, op := Op.binOp BinOp.add 3 (Operand.tmp 63) (Operand.const (Value.int IntKind.i64 (Int.ofNat 1))) 3, type := 3, pos := "laws.go:753", after := #[{ on := 15, ground := Ground.data }, { on := 10, ground := Ground.guard }], guard := some (10, true) }, { dst := some 65, op := Op.call { callee := Callee.value (Operand.func 8), args := #[Operand.tmp 61, Operand.tmp 62, Operand.tmp 64], argTypes := #[26, 29, 3] }, type := 3, pos := "laws.go:753", after := #[{ on := 13, ground := Ground.data }, { on := 14, ground := Ground.data }, { on := 16, ground := Ground.data }, { on := 10, ground := Ground.chain }, { on := 10, ground := Ground.guard }], guard := some (10, true) }, { dst := some 66, op := Op.binOp BinOp.neq 3 (Operand.tmp 60) (Operand.tmp 65) 3, type := 4, pos := "laws.go:753", after := #[{ on := 12, ground := Ground.data }, { on := 17, ground := Ground.data }, { on := 10, ground := Ground.guard }], guard := some (10, true) }, { dst := some 67, op := Op.pick (Operand.tmp 58) (Operand.tmp 66) (Operand.const (Value.bool false)), type := 4, pos := "laws.go:753", after := #[{ on := 10, ground := Ground.data }, { on := 18, ground := Ground.data }, { on := 7, ground := Ground.guard }], guard := some (7, false) }, { dst := some 68, op := Op.pick (Operand.tmp 55) (Operand.const (Value.bool true)) (Operand.tmp 67), type := 4, pos := "laws.go:753", after := #[{ on := 7, ground := Ground.data }, { on := 19, ground := Ground.data }], guard := none }, { dst := some 69, op := Op.move (Operand.tmp 68), type := 4, pos := "laws.go:753", after := #[{ on := 20, ground := Ground.data }, { on := 17, ground := Ground.chain }], guard := none }, { dst := some 70, op := Op.move (Operand.tmp 7), type := 3, pos := "laws.go:753", after := #[{ on := 21, ground := Ground.guard }], guard := some (21, false) }, { dst := some 71, op := Op.binOp BinOp.eql 3 (Operand.tmp 70) (Operand.const (Value.int IntKind.i64 (Int.ofNat 3))) 3, type := 4, pos := "laws.go:753", after := #[{ on := 22, ground := Ground.data }, { on := 21, ground := Ground.guard }], guard := some (21, false) }, { dst := some 72, op := Op.move (Operand.tmp 71), type := 4, pos := "laws.go:753", after := #[{ on := 23, ground := Ground.data }, { on := 21, ground := Ground.chain }, { on := 21, ground := Ground.guard }], guard := some (21, false) }, { dst := some 73, op := Op.fieldAddr 33 (Operand.tmp 6) 1, type := 0, pos := "laws.go:753", after := #[{ on := 24, ground := Ground.guard }], guard := some (24, true) }, { dst := some 74, op := Op.load 3 (Operand.tmp 73), type := 3, pos := "laws.go:753", after := #[{ on := 25, ground := Ground.data }, { on := 24, ground := Ground.guard }], guard := some (24, true) }, { dst := some 75, op := Op.load 26 (Operand.tmp 3), type := 26, pos := "laws.go:753", after := #[{ on := 24, ground := Ground.guard }], guard := some (24, true) }, { dst := some 76, op := Op.load 29 (Operand.tmp 4), type := 29, pos := "laws.go:753", after := #[{ on := 24, ground := Ground.guard }], guard := some (24, true) }, { dst := some 77, op := Op.move (Operand.tmp 5), type := 3, pos := "laws.go:753", after := #[{ on := 24, ground := Ground.guard }], guard := some (24, true) }, { dst := some 78, op := Op.binOp BinOp.add 3 (Operand.tmp 77) (Operand.const (Value.int IntKind.i64 (Int.ofNat 1))) 3, type := 3, pos := "laws.go:753", after := #[{ on := 29, ground := Ground.data }, { on := 24, ground := Ground.guard }], guard := some (24, true) }, { dst := some 79, op := Op.call { callee := Callee.value (Operand.func 8), args := #[Operand.tmp 75, Operand.tmp 76, Operand.tmp 78], argTypes := #[26, 29, 3] }, type := 3, pos := "laws.go:753", after := #[{ on := 27, ground := Ground.data }, { on := 28, ground := Ground.data }, { on := 30, ground := Ground.data }, { on := 24, ground := Ground.chain }, { on := 24, ground := Ground.guard }], guard := some (24, true) }, { dst := some 80, op := Op.load 26 (Operand.tmp 3), type := 26, pos := "laws.go:753", after := #[{ on := 24, ground := Ground.guard }], guard := some (24, true) }, { dst := some 81, op := Op.load 29 (Operand.tmp 4), type := 29, pos := "laws.go:753", after := #[{ on := 24, ground := Ground.guard }], guard := some (24, true) }, { dst := some 82, op := Op.move (Operand.tmp 5), type := 3, pos := "laws.go:753", after := #[{ on := 24, ground := Ground.guard }], guard := some (24, true) }, { dst := some 83, op := Op.binOp BinOp.add 3 (Operand.tmp 82) (Operand.const (Value.int IntKind.i64 (Int.ofNat 2))) 3, type := 3, pos := "laws.go:753", after := #[{ on := 34, ground := Ground.data }, { on := 24, ground := Ground.guard }], guard := some (24, true) }, { dst := some 84, op := Op.call { callee := Callee.value (Operand.func 8), args := #[Operand.tmp 80, Operand.tmp 81, Operand.tmp 83], argTypes := #[26, 29, 3] }, type := 3, pos := "laws.go:753", after := #[{ on := 32, ground := Ground.data }, { on := 33, ground := Ground.data }, { on := 35, ground := Ground.data }, { on := 31, ground := Ground.chain }, { on := 24, ground := Ground.guard }], guard := some (24, true) }, { dst := some 85, op := Op.call { callee := Callee.value (Operand.func 10), args := #[Operand.tmp 79, Operand.tmp 84], argTypes := #[3, 3] }, type := 3, pos := "laws.go:753", after := #[{ on := 31, ground := Ground.data }, { on := 36, ground := Ground.data }, { on := 36, ground := Ground.chain }, { on := 24, ground := Ground.guard }], guard := some (24, true) }, { dst := some 86, op := Op.binOp BinOp.neq 3 (Operand.tmp 74) (Operand.tmp 85) 3, type := 4, pos := "laws.go:753", after := #[{ on := 26, ground := Ground.data }, { on := 37, ground := Ground.data }, { on := 24, ground := Ground.guard }], guard := some (24, true) }, { dst := some 87, op := Op.pick (Operand.tmp 72) (Operand.tmp 86) (Operand.const (Value.bool false)), type := 4, pos := "laws.go:753", after := #[{ on := 24, ground := Ground.data }, { on := 38, ground := Ground.data }, { on := 21, ground := Ground.guard }], guard := some (21, false) }, { dst := some 88, op := Op.pick (Operand.tmp 69) (Operand.const (Value.bool true)) (Operand.tmp 87), type := 4, pos := "laws.go:753", after := #[{ on := 21, ground := Ground.data }, { on := 39, ground := Ground.data }], guard := none }]
def reg8b_sl : List Nat := [48, 49, 50, 51, 52, 53, 54, 55, 56, 57, 58, 59, 60, 61, 62, 63, 64, 65, 66, 67, 68, 69, 70, 71, 72, 73, 74, 75, 76, 77, 78, 79, 80, 81, 82, 83, 84, 85, 86, 87, 88]
set_option maxHeartbeats 4000000 in
set_option maxRecDepth 20000 in
theorem reg8b {Q : Exit → Act → World → Prop} {id : Nat} (w : World) (p P : Nat) (va : Option Addr) (m vc : Nat) (qa : Option Addr) (n qc : Nat) (bank op x v1 v2 : Int) (a : Act) (hsz : 88 < a.tmps.size) (e3 : a.tmps[3]? = some (.pointer (some ⟨p, 0, none⟩))) (e4 : a.tmps[4]? = some (.pointer (some ⟨p + 1, 0, none⟩))) (e5 : a.tmps[5]? = some (.int .i64 x)) (e6 : a.tmps[6]? = some (.pointer (some ⟨P, 0, none⟩))) (e7 : a.tmps[7]? = some (.int .i64 2)) (q1 : ∀ d os, (grow (redrawn w d) os).cell? ⟨p, 0, none⟩ = some (.slice va m vc)) (q2 : ∀ d os, (grow (redrawn w d) os).cell? ⟨p + 1, 0, none⟩ = some (.slice qa n qc)) (q3 : ∀ d os, (grow (redrawn w d) os).cell? ⟨p + 1, 1, none⟩ = some (.int .i64 bank)) (q4 : ∀ d os, (grow (redrawn w d) os).cell? ⟨P, 0, none⟩ = some (.int .i64 op)) (q5 : ∀ d os, (grow (redrawn w d) os).cell? ⟨P, 1, none⟩ = some (.int .i64 (v1))) (H1 : ∀ d os, Calls Tryd.prog 8 #[.agg #[.slice va m vc], .agg #[.slice qa n qc, .int .i64 bank], .int .i64 (IntKind.i64.wrap (x + 1))] (grow (redrawn w d) os) fun e w' => e = .returned (.int .i64 v1) ∧ Below (grow (redrawn w d) os).heap.size (grow (redrawn w d) os) w') (hQ : ∀ a1 W, Fr reg8b_sl a a1 → a1.tmps[88]? = some (.bool false) → Below w.heap.size w W → Q .normal a1 W) : (Code.region id reg8b_ops true).wp Tryd.prog Q a w := by
  refine wp_region_quiet_below (by kernel_rfl) (by kernel_rfl) ?_
  obtain ⟨a0, ha0⟩ : ∃ x, x = a := ⟨_, rfl⟩
  have F : Fs reg8b_sl a0 a := ha0 ▸ Fs.refl _ _
  have HSZ : Hid (88 < a0.tmps.size) := ha0 ▸ hsz
  have HQ : Hid (∀ a1 W, Fr reg8b_sl a0 a1 → a1.tmps[88]? = some (.bool false) → Below w.heap.size w W → Q .normal a1 W) := ha0 ▸ hQ
  clear hQ hsz ha0
  refine wpQuiet_step (fun K hK => ?_)
  have HF := hide F
  clear F
  go_simp
  refine hK _ ?_
  clear hK K
  have F := unhide HF
  clear HF
  refine quiet_into F (by have := unhide HSZ; omega) (by decide) ?_
  clear F
  intro a F hk e48
  replace e3 := (hk 3 (by decide)).trans e3
  replace e4 := (hk 4 (by decide)).trans e4
  replace e5 := (hk 5 (by decide)).trans e5
  replace e6 := (hk 6 (by decide)).trans e6
  replace e7 := (hk 7 (by decide)).trans e7
  clear hk
  refine wpQuiet_step (fun K hK => ?_)
  have HF := hide F
  clear F
  go_simp
  refine hK _ ?_
  clear hK K
  have F := unhide HF
  clear HF
  clear e48
  refine quiet_into F (by have := unhide HSZ; omega) (by decide) ?_
  clear F
  intro a F hk e49
  replace e3 := (hk 3 (by decide)).trans e3
  replace e4 := (hk 4 (by decide)).trans e4
  replace e5 := (hk 5 (by decide)).trans e5
  replace e6 := (hk 6 (by decide)).trans e6
  replace e7 := (hk 7 (by decide)).trans e7
  clear hk
  refine wpQuiet_step (fun K hK => ?_)
  have HF := hide F
  clear F
  go_simp
  refine hK _ ?_
  clear hK K
  have F := unhide HF
  clear HF
  clear e49
  refine quiet_into F (by have := unhide HSZ; omega) (by decide) ?_
  clear F
  intro a F hk e50
  replace e3 := (hk 3 (by decide)).trans e3
  replace e4 := (hk 4 (by decide)).trans e4
  replace e5 := (hk 5 (by decide)).trans e5
  replace e6 := (hk 6 (by decide)).trans e6
  replace e7 := (hk 7 (by decide)).trans e7
  clear hk
  refine wpQuiet_step (fun K hK => ?_)
  have HF := hide F
  clear F
  go_simp
  refine hK _ ?_
  clear hK K
  have F := unhide HF
  clear HF
  refine quiet_into F (by have := unhide HSZ; omega) (by decide) ?_
  clear F
  intro a F hk e51
  replace e3 := (hk 3 (by decide)).trans e3
  replace e4 := (hk 4 (by decide)).trans e4
  replace e5 := (hk 5 (by decide)).trans e5
  replace e6 := (hk 6 (by decide)).trans e6
  replace e7 := (hk 7 (by decide)).trans e7
  replace e50 := (hk 50 (by decide)).trans e50
  clear hk
  refine wpQuiet_step (fun K hK => ?_)
  have HF := hide F
  clear F
  go_simp
  refine hK _ ?_
  clear hK K
  have F := unhide HF
  clear HF
  clear e51
  refine quiet_into F (by have := unhide HSZ; omega) (by decide) ?_
  clear F
  intro a F hk e52
  replace e3 := (hk 3 (by decide)).trans e3
  replace e4 := (hk 4 (by decide)).trans e4
  replace e5 := (hk 5 (by decide)).trans e5
  replace e6 := (hk 6 (by decide)).trans e6
  replace e7 := (hk 7 (by decide)).trans e7
  replace e50 := (hk 50 (by decide)).trans e50
  clear hk
  refine wpQuiet_step (fun K hK => ?_)
  have HF := hide F
  clear F
  go_simp
  refine hK _ ?_
  clear hK K
  have F := unhide HF
  clear HF
  clear e52
  refine quiet_into F (by have := unhide HSZ; omega) (by decide) ?_
  clear F
  intro a F hk e53
  replace e3 := (hk 3 (by decide)).trans e3
  replace e4 := (hk 4 (by decide)).trans e4
  replace e5 := (hk 5 (by decide)).trans e5
  replace e6 := (hk 6 (by decide)).trans e6
  replace e7 := (hk 7 (by decide)).trans e7
  replace e50 := (hk 50 (by decide)).trans e50
  clear hk
  refine wpQuiet_step (fun K hK => ?_)
  have HF := hide F
  clear F
  go_simp
  refine hK _ ?_
  clear hK K
  have F := unhide HF
  clear HF
  clear e50
  clear e53
  refine quiet_into F (by have := unhide HSZ; omega) (by decide) ?_
  clear F
  intro a F hk e54
  replace e3 := (hk 3 (by decide)).trans e3
  replace e4 := (hk 4 (by decide)).trans e4
  replace e5 := (hk 5 (by decide)).trans e5
  replace e6 := (hk 6 (by decide)).trans e6
  replace e7 := (hk 7 (by decide)).trans e7
  clear hk
  refine wpQuiet_step (fun K hK => ?_)
  have HF := hide F
  clear F
  go_simp
  refine hK _ ?_
  clear hK K
  have F := unhide HF
  clear HF
  clear e54
  refine quiet_into F (by have := unhide HSZ; omega) (by decide) ?_
  clear F
  intro a F hk e55
  replace e3 := (hk 3 (by decide)).trans e3
  replace e4 := (hk 4 (by decide)).trans e4
  replace e5 := (hk 5 (by decide)).trans e5
  replace e6 := (hk 6 (by decide)).trans e6
  replace e7 := (hk 7 (by decide)).trans e7
  clear hk
  refine wpQuiet_step (fun K hK => ?_)
  have HF := hide F
  clear F
  go_simp
  refine hK _ ?_
  clear hK K
  have F := unhide HF
  clear HF
  refine quiet_into F (by have := unhide HSZ; omega) (by decide) ?_
  clear F
  intro a F hk e56
  replace e3 := (hk 3 (by decide)).trans e3
  replace e4 := (hk 4 (by decide)).trans e4
  replace e5 := (hk 5 (by decide)).trans e5
  replace e6 := (hk 6 (by decide)).trans e6
  replace e7 := (hk 7 (by decide)).trans e7
  replace e55 := (hk 55 (by decide)).trans e55
  clear hk
  refine wpQuiet_step (fun K hK => ?_)
  have HF := hide F
  clear F
  go_simp
  refine hK _ ?_
  clear hK K
  have F := unhide HF
  clear HF
  clear e56
  refine quiet_into F (by have := unhide HSZ; omega) (by decide) ?_
  clear F
  intro a F hk e57
  replace e3 := (hk 3 (by decide)).trans e3
  replace e4 := (hk 4 (by decide)).trans e4
  replace e5 := (hk 5 (by decide)).trans e5
  replace e6 := (hk 6 (by decide)).trans e6
  replace e7 := (hk 7 (by decide)).trans e7
  replace e55 := (hk 55 (by decide)).trans e55
  clear hk
  refine wpQuiet_step (fun K hK => ?_)
  have HF := hide F
  clear F
  go_simp
  refine hK _ ?_
  clear hK K
  have F := unhide HF
  clear HF
  clear e57
  refine quiet_into F (by have := unhide HSZ; omega) (by decide) ?_
  clear F
  intro a F hk e58
  replace e3 := (hk 3 (by decide)).trans e3
  replace e4 := (hk 4 (by decide)).trans e4
  replace e5 := (hk 5 (by decide)).trans e5
  replace e6 := (hk 6 (by decide)).trans e6
  replace e7 := (hk 7 (by decide)).trans e7
  replace e55 := (hk 55 (by decide)).trans e55
  clear hk
  refine wpQuiet_step (fun K hK => ?_)
  have HF := hide F
  clear F
  go_simp
  refine hK _ ?_
  clear hK K
  have F := unhide HF
  clear HF
  refine quiet_into F (by have := unhide HSZ; omega) (by decide) ?_
  clear F
  intro a F hk e59
  replace e3 := (hk 3 (by decide)).trans e3
  replace e4 := (hk 4 (by decide)).trans e4
  replace e5 := (hk 5 (by decide)).trans e5
  replace e6 := (hk 6 (by decide)).trans e6
  replace e7 := (hk 7 (by decide)).trans e7
  replace e55 := (hk 55 (by decide)).trans e55
  replace e58 := (hk 58 (by decide)).trans e58
  clear hk
  refine wpQuiet_step (fun K hK => ?_)
  have HF := hide F
  clear F
  go_simp
  refine hK _ ?_
  clear hK K
  have F := unhide HF
  clear HF
  clear e59
  refine quiet_into F (by have := unhide HSZ; omega) (by decide) ?_
  clear F
  intro a F hk e60
  replace e3 := (hk 3 (by decide)).trans e3
  replace e4 := (hk 4 (by decide)).trans e4
  replace e5 := (hk 5 (by decide)).trans e5
  replace e6 := (hk 6 (by decide)).trans e6
  replace e7 := (hk 7 (by decide)).trans e7
  replace e55 := (hk 55 (by decide)).trans e55
  replace e58 := (hk 58 (by decide)).trans e58
  clear hk
  refine wpQuiet_step (fun K hK => ?_)
  have HF := hide F
  clear F
  go_simp
  refine hK _ ?_
  clear hK K
  have F := unhide HF
  clear HF
  refine quiet_into F (by have := unhide HSZ; omega) (by decide) ?_
  clear F
  intro a F hk e61
  replace e3 := (hk 3 (by decide)).trans e3
  replace e4 := (hk 4 (by decide)).trans e4
  replace e5 := (hk 5 (by decide)).trans e5
  replace e6 := (hk 6 (by decide)).trans e6
  replace e7 := (hk 7 (by decide)).trans e7
  replace e55 := (hk 55 (by decide)).trans e55
  replace e58 := (hk 58 (by decide)).trans e58
  replace e60 := (hk 60 (by decide)).trans e60
  clear hk
  refine wpQuiet_step (fun K hK => ?_)
  have HF := hide F
  clear F
  go_simp
  refine hK _ ?_
  clear hK K
  have F := unhide HF
  clear HF
  refine quiet_into F (by have := unhide HSZ; omega) (by decide) ?_
  clear F
  intro a F hk e62
  replace e3 := (hk 3 (by decide)).trans e3
  replace e4 := (hk 4 (by decide)).trans e4
  replace e5 := (hk 5 (by decide)).trans e5
  replace e6 := (hk 6 (by decide)).trans e6
  replace e7 := (hk 7 (by decide)).trans e7
  replace e55 := (hk 55 (by decide)).trans e55
  replace e58 := (hk 58 (by decide)).trans e58
  replace e60 := (hk 60 (by decide)).trans e60
  replace e61 := (hk 61 (by decide)).trans e61
  clear hk
  refine wpQuiet_step (fun K hK => ?_)
  have HF := hide F
  clear F
  go_simp
  refine hK _ ?_
  clear hK K
  have F := unhide HF
  clear HF
  refine quiet_into F (by have := unhide HSZ; omega) (by decide) ?_
  clear F
  intro a F hk e63
  replace e3 := (hk 3 (by decide)).trans e3
  replace e4 := (hk 4 (by decide)).trans e4
  replace e5 := (hk 5 (by decide)).trans e5
  replace e6 := (hk 6 (by decide)).trans e6
  replace e7 := (hk 7 (by decide)).trans e7
  replace e55 := (hk 55 (by decide)).trans e55
  replace e58 := (hk 58 (by decide)).trans e58
  replace e60 := (hk 60 (by decide)).trans e60
  replace e61 := (hk 61 (by decide)).trans e61
  replace e62 := (hk 62 (by decide)).trans e62
  clear hk
  refine wpQuiet_step (fun K hK => ?_)
  have HF := hide F
  clear F
  go_simp
  refine hK _ ?_
  clear hK K
  have F := unhide HF
  clear HF
  clear e63
  refine quiet_into F (by have := unhide HSZ; omega) (by decide) ?_
  clear F
  intro a F hk e64
  replace e3 := (hk 3 (by decide)).trans e3
  replace e4 := (hk 4 (by decide)).trans e4
  replace e5 := (hk 5 (by decide)).trans e5
  replace e6 := (hk 6 (by decide)).trans e6
  replace e7 := (hk 7 (by decide)).trans e7
  replace e55 := (hk 55 (by decide)).trans e55
  replace e58 := (hk 58 (by decide)).trans e58
  replace e60 := (hk 60 (by decide)).trans e60
  replace e61 := (hk 61 (by decide)).trans e61
  replace e62 := (hk 62 (by decide)).trans e62
  clear hk
  refine wpQuiet_step (fun K hK => ?_)
  have HF := hide F
  clear F
  go_simp
  apply Exists.intro
  refine ⟨fun _ => ?_, hK _ ?_⟩
  · exact Calls.regrown_of (H1 _ _)
  clear hK K
  have F := unhide HF
  clear HF
  clear e61
  clear e62
  clear e64
  refine quiet_into F (by have := unhide HSZ; omega) (by decide) ?_
  clear F
  intro a F hk e65
  replace e3 := (hk 3 (by decide)).trans e3
  replace e4 := (hk 4 (by decide)).trans e4
  replace e5 := (hk 5 (by decide)).trans e5
  replace e6 := (hk 6 (by decide)).trans e6
  replace e7 := (hk 7 (by decide)).trans e7
  replace e55 := (hk 55 (by decide)).trans e55
  replace e58 := (hk 58 (by decide)).trans e58
  replace e60 := (hk 60 (by decide)).trans e60
  clear hk
  refine wpQuiet_step (fun K hK => ?_)
  have HF := hide F
  clear F
  go_simp
  refine hK _ ?_
  clear hK K
  have F := unhide HF
  clear HF
  clear e60
  clear e65
  refine quiet_into F (by have := unhide HSZ; omega) (by decide) ?_
  clear F
  intro a F hk e66
  replace e3 := (hk 3 (by decide)).trans e3
  replace e4 := (hk 4 (by decide)).trans e4
  replace e5 := (hk 5 (by decide)).trans e5
  replace e6 := (hk 6 (by decide)).trans e6
  replace e7 := (hk 7 (by decide)).trans e7
  replace e55 := (hk 55 (by decide)).trans e55
  replace e58 := (hk 58 (by decide)).trans e58
  clear hk
  refine wpQuiet_step (fun K hK => ?_)
  have HF := hide F
  clear F
  go_simp
  refine hK _ ?_
  clear hK K
  have F := unhide HF
  clear HF
  clear e58
  clear e66
  refine quiet_into F (by have := unhide HSZ; omega) (by decide) ?_
  clear F
  intro a F hk e67
  replace e3 := (hk 3 (by decide)).trans e3
  replace e4 := (hk 4 (by decide)).trans e4
  replace e5 := (hk 5 (by decide)).trans e5
  replace e6 := (hk 6 (by decide)).trans e6
  replace e7 := (hk 7 (by decide)).trans e7
  replace e55 := (hk 55 (by decide)).trans e55
  clear hk
  refine wpQuiet_step (fun K hK => ?_)
  have HF := hide F
  clear F
  go_simp
  refine hK _ ?_
  clear hK K
  have F := unhide HF
  clear HF
  clear e55
  clear e67
  refine quiet_into F (by have := unhide HSZ; omega) (by decide) ?_
  clear F
  intro a F hk e68
  replace e3 := (hk 3 (by decide)).trans e3
  replace e4 := (hk 4 (by decide)).trans e4
  replace e5 := (hk 5 (by decide)).trans e5
  replace e6 := (hk 6 (by decide)).trans e6
  replace e7 := (hk 7 (by decide)).trans e7
  clear hk
  refine wpQuiet_step (fun K hK => ?_)
  have HF := hide F
  clear F
  go_simp
  refine hK _ ?_
  clear hK K
  have F := unhide HF
  clear HF
  clear e68
  refine quiet_into F (by have := unhide HSZ; omega) (by decide) ?_
  clear F
  intro a F hk e69
  replace e3 := (hk 3 (by decide)).trans e3
  replace e4 := (hk 4 (by decide)).trans e4
  replace e5 := (hk 5 (by decide)).trans e5
  replace e6 := (hk 6 (by decide)).trans e6
  replace e7 := (hk 7 (by decide)).trans e7
  clear hk
  refine wpQuiet_step (fun K hK => ?_)
  have HF := hide F
  clear F
  go_simp
  refine hK _ ?_
  clear hK K
  have F := unhide HF
  clear HF
  clear e7
  refine quiet_into F (by have := unhide HSZ; omega) (by decide) ?_
  clear F
  intro a F hk e70
  replace e3 := (hk 3 (by decide)).trans e3
  replace e4 := (hk 4 (by decide)).trans e4
  replace e5 := (hk 5 (by decide)).trans e5
  replace e6 := (hk 6 (by decide)).trans e6
  replace e69 := (hk 69 (by decide)).trans e69
  clear hk
  refine wpQuiet_step (fun K hK => ?_)
  have HF := hide F
  clear F
  go_simp
  refine hK _ ?_
  clear hK K
  have F := unhide HF
  clear HF
  clear e70
  refine quiet_into F (by have := unhide HSZ; omega) (by decide) ?_
  clear F
  intro a F hk e71
  replace e3 := (hk 3 (by decide)).trans e3
  replace e4 := (hk 4 (by decide)).trans e4
  replace e5 := (hk 5 (by decide)).trans e5
  replace e6 := (hk 6 (by decide)).trans e6
  replace e69 := (hk 69 (by decide)).trans e69
  clear hk
  refine wpQuiet_step (fun K hK => ?_)
  have HF := hide F
  clear F
  go_simp
  refine hK _ ?_
  clear hK K
  have F := unhide HF
  clear HF
  clear e71
  refine quiet_into F (by have := unhide HSZ; omega) (by decide) ?_
  clear F
  intro a F hk e72
  replace e3 := (hk 3 (by decide)).trans e3
  replace e4 := (hk 4 (by decide)).trans e4
  replace e5 := (hk 5 (by decide)).trans e5
  replace e6 := (hk 6 (by decide)).trans e6
  replace e69 := (hk 69 (by decide)).trans e69
  clear hk
  refine wpQuiet_step (fun K hK => ?_)
  have HF := hide F
  clear F
  go_simp
  refine hK _ ?_
  clear hK K
  have F := unhide HF
  clear HF
  clear e6
  refine quiet_into F (by have := unhide HSZ; omega) (by decide) ?_
  clear F
  intro a F hk e73
  replace e3 := (hk 3 (by decide)).trans e3
  replace e4 := (hk 4 (by decide)).trans e4
  replace e5 := (hk 5 (by decide)).trans e5
  replace e69 := (hk 69 (by decide)).trans e69
  replace e72 := (hk 72 (by decide)).trans e72
  clear hk
  refine wpQuiet_step (fun K hK => ?_)
  have HF := hide F
  clear F
  go_simp
  refine hK _ ?_
  clear hK K
  have F := unhide HF
  clear HF
  clear e73
  refine quiet_into F (by have := unhide HSZ; omega) (by decide) ?_
  clear F
  intro a F hk e74
  replace e3 := (hk 3 (by decide)).trans e3
  replace e4 := (hk 4 (by decide)).trans e4
  replace e5 := (hk 5 (by decide)).trans e5
  replace e69 := (hk 69 (by decide)).trans e69
  replace e72 := (hk 72 (by decide)).trans e72
  clear hk
  refine wpQuiet_step (fun K hK => ?_)
  have HF := hide F
  clear F
  go_simp
  refine hK _ ?_
  clear hK K
  have F := unhide HF
  clear HF
  refine quiet_into F (by have := unhide HSZ; omega) (by decide) ?_
  clear F
  intro a F hk e75
  replace e3 := (hk 3 (by decide)).trans e3
  replace e4 := (hk 4 (by decide)).trans e4
  replace e5 := (hk 5 (by decide)).trans e5
  replace e69 := (hk 69 (by decide)).trans e69
  replace e72 := (hk 72 (by decide)).trans e72
  replace e74 := (hk 74 (by decide)).trans e74
  clear hk
  refine wpQuiet_step (fun K hK => ?_)
  have HF := hide F
  clear F
  go_simp
  refine hK _ ?_
  clear hK K
  have F := unhide HF
  clear HF
  refine quiet_into F (by have := unhide HSZ; omega) (by decide) ?_
  clear F
  intro a F hk e76
  replace e3 := (hk 3 (by decide)).trans e3
  replace e4 := (hk 4 (by decide)).trans e4
  replace e5 := (hk 5 (by decide)).trans e5
  replace e69 := (hk 69 (by decide)).trans e69
  replace e72 := (hk 72 (by decide)).trans e72
  replace e74 := (hk 74 (by decide)).trans e74
  replace e75 := (hk 75 (by decide)).trans e75
  clear hk
  refine wpQuiet_step (fun K hK => ?_)
  have HF := hide F
  clear F
  go_simp
  refine hK _ ?_
  clear hK K
  have F := unhide HF
  clear HF
  refine quiet_into F (by have := unhide HSZ; omega) (by decide) ?_
  clear F
  intro a F hk e77
  replace e3 := (hk 3 (by decide)).trans e3
  replace e4 := (hk 4 (by decide)).trans e4
  replace e5 := (hk 5 (by decide)).trans e5
  replace e69 := (hk 69 (by decide)).trans e69
  replace e72 := (hk 72 (by decide)).trans e72
  replace e74 := (hk 74 (by decide)).trans e74
  replace e75 := (hk 75 (by decide)).trans e75
  replace e76 := (hk 76 (by decide)).trans e76
  clear hk
  refine wpQuiet_step (fun K hK => ?_)
  have HF := hide F
  clear F
  go_simp
  refine hK _ ?_
  clear hK K
  have F := unhide HF
  clear HF
  clear e77
  refine quiet_into F (by have := unhide HSZ; omega) (by decide) ?_
  clear F
  intro a F hk e78
  replace e3 := (hk 3 (by decide)).trans e3
  replace e4 := (hk 4 (by decide)).trans e4
  replace e5 := (hk 5 (by decide)).trans e5
  replace e69 := (hk 69 (by decide)).trans e69
  replace e72 := (hk 72 (by decide)).trans e72
  replace e74 := (hk 74 (by decide)).trans e74
  replace e75 := (hk 75 (by decide)).trans e75
  replace e76 := (hk 76 (by decide)).trans e76
  clear hk
  refine wpQuiet_step (fun K hK => ?_)
  have HF := hide F
  clear F
  go_simp
  refine hK _ ?_
  clear hK K
  have F := unhide HF
  clear HF
  clear e75
  clear e76
  clear e78
  refine quiet_into F (by have := unhide HSZ; omega) (by decide) ?_
  clear F
  intro a F hk e79
  replace e3 := (hk 3 (by decide)).trans e3
  replace e4 := (hk 4 (by decide)).trans e4
  replace e5 := (hk 5 (by decide)).trans e5
  replace e69 := (hk 69 (by decide)).trans e69
  replace e72 := (hk 72 (by decide)).trans e72
  replace e74 := (hk 74 (by decide)).trans e74
  clear hk
  refine wpQuiet_step (fun K hK => ?_)
  have HF := hide F
  clear F
  go_simp
  refine hK _ ?_
  clear hK K
  have F := unhide HF
  clear HF
  clear e3
  refine quiet_into F (by have := unhide HSZ; omega) (by decide) ?_
  clear F
  intro a F hk e80
  replace e4 := (hk 4 (by decide)).trans e4
  replace e5 := (hk 5 (by decide)).trans e5
  replace e69 := (hk 69 (by decide)).trans e69
  replace e72 := (hk 72 (by decide)).trans e72
  replace e74 := (hk 74 (by decide)).trans e74
  replace e79 := (hk 79 (by decide)).trans e79
  clear hk
  refine wpQuiet_step (fun K hK => ?_)
  have HF := hide F
  clear F
  go_simp
  refine hK _ ?_
  clear hK K
  have F := unhide HF
  clear HF
  clear e4
  refine quiet_into F (by have := unhide HSZ; omega) (by decide) ?_
  clear F
  intro a F hk e81
  replace e5 := (hk 5 (by decide)).trans e5
  replace e69 := (hk 69 (by decide)).trans e69
  replace e72 := (hk 72 (by decide)).trans e72
  replace e74 := (hk 74 (by decide)).trans e74
  replace e79 := (hk 79 (by decide)).trans e79
  replace e80 := (hk 80 (by decide)).trans e80
  clear hk
  refine wpQuiet_step (fun K hK => ?_)
  have HF := hide F
  clear F
  go_simp
  refine hK _ ?_
  clear hK K
  have F := unhide HF
  clear HF
  clear e5
  refine quiet_into F (by have := unhide HSZ; omega) (by decide) ?_
  clear F
  intro a F hk e82
  replace e69 := (hk 69 (by decide)).trans e69
  replace e72 := (hk 72 (by decide)).trans e72
  replace e74 := (hk 74 (by decide)).trans e74
  replace e79 := (hk 79 (by decide)).trans e79
  replace e80 := (hk 80 (by decide)).trans e80
  replace e81 := (hk 81 (by decide)).trans e81
  clear hk
  refine wpQuiet_step (fun K hK => ?_)
  have HF := hide F
  clear F
  go_simp
  refine hK _ ?_
  clear hK K
  have F := unhide HF
  clear HF
  clear e82
  refine quiet_into F (by have := unhide HSZ; omega) (by decide) ?_
  clear F
  intro a F hk e83
  replace e69 := (hk 69 (by decide)).trans e69
  replace e72 := (hk 72 (by decide)).trans e72
  replace e74 := (hk 74 (by decide)).trans e74
  replace e79 := (hk 79 (by decide)).trans e79
  replace e80 := (hk 80 (by decide)).trans e80
  replace e81 := (hk 81 (by decide)).trans e81
  clear hk
  refine wpQuiet_step (fun K hK => ?_)
  have HF := hide F
  clear F
  go_simp
  refine hK _ ?_
  clear hK K
  have F := unhide HF
  clear HF
  clear e80
  clear e81
  clear e83
  refine quiet_into F (by have := unhide HSZ; omega) (by decide) ?_
  clear F
  intro a F hk e84
  replace e69 := (hk 69 (by decide)).trans e69
  replace e72 := (hk 72 (by decide)).trans e72
  replace e74 := (hk 74 (by decide)).trans e74
  replace e79 := (hk 79 (by decide)).trans e79
  clear hk
  refine wpQuiet_step (fun K hK => ?_)
  have HF := hide F
  clear F
  go_simp
  refine hK _ ?_
  clear hK K
  have F := unhide HF
  clear HF
  clear e79
  clear e84
  refine quiet_into F (by have := unhide HSZ; omega) (by decide) ?_
  clear F
  intro a F hk e85
  replace e69 := (hk 69 (by decide)).trans e69
  replace e72 := (hk 72 (by decide)).trans e72
  replace e74 := (hk 74 (by decide)).trans e74
  clear hk
  refine wpQuiet_step (fun K hK => ?_)
  have HF := hide F
  clear F
  go_simp
  refine hK _ ?_
  clear hK K
  have F := unhide HF
  clear HF
  clear e74
  clear e85
  refine quiet_into F (by have := unhide HSZ; omega) (by decide) ?_
  clear F
  intro a F hk e86
  replace e69 := (hk 69 (by decide)).trans e69
  replace e72 := (hk 72 (by decide)).trans e72
  clear hk
  refine wpQuiet_step (fun K hK => ?_)
  have HF := hide F
  clear F
  go_simp
  refine hK _ ?_
  clear hK K
  have F := unhide HF
  clear HF
  clear e72
  clear e86
  refine quiet_into F (by have := unhide HSZ; omega) (by decide) ?_
  clear F
  intro a F hk e87
  replace e69 := (hk 69 (by decide)).trans e69
  clear hk
  refine wpQuiet_step (fun K hK => ?_)
  have HF := hide F
  clear F
  go_simp
  refine hK _ ?_
  clear hK K
  have F := unhide HF
  clear HF
  clear e69
  clear e87
  refine quiet_into F (by have := unhide HSZ; omega) (by decide) ?_
  clear F
  intro a F hk e88
  clear hk
  refine wpQuiet_nil ?_
  intro W hw'
  obtain ⟨⟨dq, osq⟩, hw''⟩ := hw'
  subst hw''
  exact unhide HQ _ _ F.fr e88 (below_regrown w dq osq)
abbrev reg8c_ops : Array Oper := #[{ dst := some 48, op := Op.move (Operand.tmp 7), type := 3, pos := "laws.go:753", after := #[], guard := none }, { dst := some 49, op := Op.binOp BinOp.eql 3 (Operand.tmp 48) (Operand.const (Value.int IntKind.i64 (Int.ofNat 1))) 3, type := 4, pos := "laws.go:753", after := #[{ on := 0, ground := Ground.data }], guard := none }, { dst := some 50, op := Op.move (Operand.tmp 49), type := 4, pos := "laws.go:753", after := #[{ on := 1, ground := Ground.data }], guard := none }, { dst := some 51, op := Op.fieldAddr 33 (Operand.tmp 6) 1, type := 0, pos := "laws.go:753", after := #[{ on := 2, ground := Ground.guard }], guard := some (2, true) }, { dst := some 52, op := Op.load 3 (Operand.tmp 51), type := 3, pos := "laws.go:753", after := #[{ on := 3, ground := Ground.data }, { on := 2, ground := Ground.guard }], guard := some (2, true) }, { dst := some 53, op := Op.binOp BinOp.neq 3 (Operand.tmp 52) (Operand.const (Value.int IntKind.i64 (Int.ofNat 0))) 3, type := 4, pos := "laws.go:753", after := #[{ on := 4, ground := Ground.data }, { on := 2, ground := Ground.guard }], guard := some (2, true) }, { dst := some 54, op := Op.pick (Operand.tmp 50) (Operand.tmp 53) (Operand.const (Value.bool false)), type := 4, pos := "laws.go:753", after := #[{ on := 2, ground := Ground.data }, { on := 5, ground := Ground.data }], guard := none }, { dst := some 55, op := Op.move (Operand.tmp 54), type := 4, pos := "laws.go:753", after := #[{ on := 6, ground := Ground.data }, { on := 2, ground := Ground.chain }], guard := none }, { dst := some 56, op := Op.move (Operand.tmp 7), type := 3, pos := "laws.go:753", after := #[{ on := 7, ground := Ground.guard }], guard := some (7, false) }, { dst := some 57, op := Op.binOp BinOp.eql 3 (Operand.tmp 56) (Operand.const (Value.int IntKind.i64 (Int.ofNat 2))) 3, type := 4, pos := "laws.go:753", after := #[{ on := 8, ground := Ground.data }, { on := 7, ground := Ground.guard }], guard := some (7, false) }, { dst := some 58, op := Op.move (Operand.tmp 57), type := 4, pos := "laws.go:753", after := #[{ on := 9, ground := Ground.data }, { on := 7, ground := Ground.chain }, { on := 7, ground := Ground.guard }], guard := some (7, false) }, { dst := some 59, op := Op.fieldAddr 33 (Operand.tmp 6) 1, type := 0, pos := "laws.go:753", after := #[{ on := 10, ground := Ground.guard }], guard := some (10, true) }, { dst := some 60, op := Op.load 3 (Operand.tmp 59), type := 3, pos := "laws.go:753", after := #[{ on := 11, ground := Ground.data }, { on := 10, ground := Ground.guard }], guard := some (10, true) }, { dst := some 61, op := Op.load 26 (Operand.tmp 3), type := 26, pos := "laws.go:753", after := #[{ on := 10, ground := Ground.guard }], guard := some (10, true) }, { dst := some 62, op := Op.load 29 (Operand.tmp 4), type := 29, pos := "laws.go:753", after := #[{ on := 10, ground := Ground.guard }], guard := some (10, true) }, { dst := some 63, op := Op.move (Operand.tmp 5), type := 3, pos := "laws.go:753", after := #[{ on := 10, ground := Ground.guard }], guard := some (10, true) }, { dst := some 64, op := Op.binOp BinOp.add 3 (Operand.tmp 63) (Operand.const (Value.int IntKind.i64 (Int.ofNat 1))) 3, type := 3, pos := "laws.go:753", after := #[{ on := 15, ground := Ground.data }, { on := 10, ground := Ground.guard }], guard := some (10, true) }, { dst := some 65, op := Op.call { callee := Callee.value (Operand.func 8), args := #[Operand.tmp 61, Operand.tmp 62, Operand.tmp 64], argTypes := #[26, 29, 3] }, type := 3, pos := "laws.go:753", after := #[{ on := 13, ground := Ground.data }, { on := 14, ground := Ground.data }, { on := 16, ground := Ground.data }, { on := 10, ground := Ground.chain }, { on := 10, ground := Ground.guard }], guard := some (10, true) }, { dst := some 66, op := Op.binOp BinOp.neq 3 (Operand.tmp 60) (Operand.tmp 65) 3, type := 4, pos := "laws.go:753", after := #[{ on := 12, ground := Ground.data }, { on := 17, ground := Ground.data }, { on := 10, ground := Ground.guard }], guard := some (10, true) }, { dst := some 67, op := Op.pick (Operand.tmp 58) (Operand.tmp 66) (Operand.const (Value.bool false)), type := 4, pos := "laws.go:753", after := #[{ on := 10, ground := Ground.data }, { on := 18, ground := Ground.data }, { on := 7, ground := Ground.guard }], guard := some (7, false) }, { dst := some 68, op := Op.pick (Operand.tmp 55) (Operand.const (Value.bool true)) (Operand.tmp 67), type := 4, pos := "laws.go:753", after := #[{ on := 7, ground := Ground.data }, { on := 19, ground := Ground.data }], guard := none }, { dst := some 69, op := Op.move (Operand.tmp 68), type := 4, pos := "laws.go:753", after := #[{ on := 20, ground := Ground.data }, { on := 17, ground := Ground.chain }], guard := none }, { dst := some 70, op := Op.move (Operand.tmp 7), type := 3, pos := "laws.go:753", after := #[{ on := 21, ground := Ground.guard }], guard := some (21, false) }, { dst := some 71, op := Op.binOp BinOp.eql 3 (Operand.tmp 70) (Operand.const (Value.int IntKind.i64 (Int.ofNat 3))) 3, type := 4, pos := "laws.go:753", after := #[{ on := 22, ground := Ground.data }, { on := 21, ground := Ground.guard }], guard := some (21, false) }, { dst := some 72, op := Op.move (Operand.tmp 71), type := 4, pos := "laws.go:753", after := #[{ on := 23, ground := Ground.data }, { on := 21, ground := Ground.chain }, { on := 21, ground := Ground.guard }], guard := some (21, false) }, { dst := some 73, op := Op.fieldAddr 33 (Operand.tmp 6) 1, type := 0, pos := "laws.go:753", after := #[{ on := 24, ground := Ground.guard }], guard := some (24, true) }, { dst := some 74, op := Op.load 3 (Operand.tmp 73), type := 3, pos := "laws.go:753", after := #[{ on := 25, ground := Ground.data }, { on := 24, ground := Ground.guard }], guard := some (24, true) }, { dst := some 75, op := Op.load 26 (Operand.tmp 3), type := 26, pos := "laws.go:753", after := #[{ on := 24, ground := Ground.guard }], guard := some (24, true) }, { dst := some 76, op := Op.load 29 (Operand.tmp 4), type := 29, pos := "laws.go:753", after := #[{ on := 24, ground := Ground.guard }], guard := some (24, true) }, { dst := some 77, op := Op.move (Operand.tmp 5), type := 3, pos := "laws.go:753", after := #[{ on := 24, ground := Ground.guard }], guard := some (24, true) }, { dst := some 78, op := Op.binOp BinOp.add 3 (Operand.tmp 77) (Operand.const (Value.int IntKind.i64 (Int.ofNat 1))) 3, type := 3, pos := "laws.go:753", after := #[{ on := 29, ground := Ground.data }, { on := 24, ground := Ground.guard }], guard := some (24, true) }, { dst := some 79, op := Op.call { callee := Callee.value (Operand.func 8), args := #[Operand.tmp 75, Operand.tmp 76, Operand.tmp 78], argTypes := #[26, 29, 3] }, type := 3, pos := "laws.go:753", after := #[{ on := 27, ground := Ground.data }, { on := 28, ground := Ground.data }, { on := 30, ground := Ground.data }, { on := 24, ground := Ground.chain }, { on := 24, ground := Ground.guard }], guard := some (24, true) }, { dst := some 80, op := Op.load 26 (Operand.tmp 3), type := 26, pos := "laws.go:753", after := #[{ on := 24, ground := Ground.guard }], guard := some (24, true) }, { dst := some 81, op := Op.load 29 (Operand.tmp 4), type := 29, pos := "laws.go:753", after := #[{ on := 24, ground := Ground.guard }], guard := some (24, true) }, { dst := some 82, op := Op.move (Operand.tmp 5), type := 3, pos := "laws.go:753", after := #[{ on := 24, ground := Ground.guard }], guard := some (24, true) }, { dst := some 83, op := Op.binOp BinOp.add 3 (Operand.tmp 82) (Operand.const (Value.int IntKind.i64 (Int.ofNat 2))) 3, type := 3, pos := "laws.go:753", after := #[{ on := 34, ground := Ground.data }, { on := 24, ground := Ground.guard }], guard := some (24, true) }, { dst := some 84, op := Op.call { callee := Callee.value (Operand.func 8), args := #[Operand.tmp 80, Operand.tmp 81, Operand.tmp 83], argTypes := #[26, 29, 3] }, type := 3, pos := "laws.go:753", after := #[{ on := 32, ground := Ground.data }, { on := 33, ground := Ground.data }, { on := 35, ground := Ground.data }, { on := 31, ground := Ground.chain }, { on := 24, ground := Ground.guard }], guard := some (24, true) }, { dst := some 85, op := Op.call { callee := Callee.value (Operand.func 10), args := #[Operand.tmp 79, Operand.tmp 84], argTypes := #[3, 3] }, type := 3, pos := "laws.go:753", after := #[{ on := 31, ground := Ground.data }, { on := 36, ground := Ground.data }, { on := 36, ground := Ground.chain }, { on := 24, ground := Ground.guard }], guard := some (24, true) }, { dst := some 86, op := Op.binOp BinOp.neq 3 (Operand.tmp 74) (Operand.tmp 85) 3, type := 4, pos := "laws.go:753", after := #[{ on := 26, ground := Ground.data }, { on := 37, ground := Ground.data }, { on := 24, ground := Ground.guard }], guard := some (24, true) }, { dst := some 87, op := Op.pick (Operand.tmp 72) (Operand.tmp 86) (Operand.const (Value.bool false)), type := 4, pos := "laws.go:753", after := #[{ on := 24, ground := Ground.data }, { on := 38, ground := Ground.data }, { on := 21, ground := Ground.guard }], guard := some (21, false) }, { dst := some 88, op := Op.pick (Operand.tmp 69) (Operand.const (Value.bool true)) (Operand.tmp 87), type := 4, pos := "laws.go:753", after := #[{ on := 21, ground := Ground.data }, { on := 39, ground := Ground.data }], guard := none }]
def reg8c_sl : List Nat := [48, 49, 50, 51, 52, 53, 54, 55, 56, 57, 58, 59, 60, 61, 62, 63, 64, 65, 66, 67, 68, 69, 70, 71, 72, 73, 74, 75, 76, 77, 78, 79, 80, 81, 82, 83, 84, 85, 86, 87, 88]
set_option maxHeartbeats 4000000 in
set_option maxRecDepth 20000 in
theorem reg8c {Q : Exit → Act → World → Prop} {id : Nat} (w : World) (p P : Nat) (va : Option Addr) (m vc : Nat) (qa : Option Addr) (n qc : Nat) (bank op x v1 v2 : Int) (a : Act) (hsz : 88 < a.tmps.size) (e3 : a.tmps[3]? = some (.pointer (some ⟨p, 0, none⟩))) (e4 : a.tmps[4]? = some (.pointer (some ⟨p + 1, 0, none⟩))) (e5 : a.tmps[5]? = some (.int .i64 x)) (e6 : a.tmps[6]? = some (.pointer (some ⟨P, 0, none⟩))) (e7 : a.tmps[7]? = some (.int .i64 3)) (q1 : ∀ d os, (grow (redrawn w d) os).cell? ⟨p, 0, none⟩ = some (.slice va m vc)) (q2 : ∀ d os, (grow (redrawn w d) os).cell? ⟨p + 1, 0, none⟩ = some (.slice qa n qc)) (q3 : ∀ d os, (grow (redrawn w d) os).cell? ⟨p + 1, 1, none⟩ = some (.int .i64 bank)) (q4 : ∀ d os, (grow (redrawn w d) os).cell? ⟨P, 0, none⟩ = some (.int .i64 op)) (q5 : ∀ d os, (grow (redrawn w d) os).cell? ⟨P, 1, none⟩ = some (.int .i64 (v1 % 256 + 256 * (v2 % 256)))) (H1 : ∀ d os, Calls Tryd.prog 8 #[.agg #[.slice va m vc], .agg #[.slice qa n qc, .int .i64 bank], .int .i64 (IntKind.i64.wrap (x + 1))] (grow (redrawn w d) os) fun e w' => e = .returned (.int .i64 v1) ∧ Below (grow (redrawn w d) os).heap.size (grow (redrawn w d) os) w') (H2 : ∀ d os, Calls Tryd.prog 8 #[.agg #[.slice va m vc], .agg #[.slice qa n qc, .int .i64 bank], .int .i64 (IntKind.i64.wrap (x + 2))] (grow (redrawn w d) os) fun e w' => e = .returned (.int .i64 v2) ∧ Below (grow (redrawn w d) os).heap.size (grow (redrawn w d) os) w') (hQ : ∀ a1 W, Fr reg8c_sl a a1 → a1.tmps[88]? = some (.bool false) → Below w.heap.size w W → Q .normal a1 W) : (Code.region id reg8c_ops true).wp Tryd.prog Q a w := by
  refine wp_region_quiet_below (by kernel_rfl) (by kernel_rfl) ?_
  obtain ⟨a0, ha0⟩ : ∃ x, x = a := ⟨_, rfl⟩
  have F : Fs reg8c_sl a0 a := ha0 ▸ Fs.refl _ _
  have HSZ : Hid (88 < a0.tmps.size) := ha0 ▸ hsz
  have HQ : Hid (∀ a1 W, Fr reg8c_sl a0 a1 → a1.tmps[88]? = some (.bool false) → Below w.heap.size w W → Q .normal a1 W) := ha0 ▸ hQ
  clear hQ hsz ha0
  refine wpQuiet_step (fun K hK => ?_)
  have HF := hide F
  clear F
  go_simp
  refine hK _ ?_
  clear hK K
  have F := unhide HF
  clear HF
  refine quiet_into F (by have := unhide HSZ; omega) (by decide) ?_
  clear F
  intro a F hk e48
  replace e3 := (hk 3 (by decide)).trans e3
  replace e4 := (hk 4 (by decide)).trans e4
  replace e5 := (hk 5 (by decide)).trans e5
  replace e6 := (hk 6 (by decide)).trans e6
  replace e7 := (hk 7 (by decide)).trans e7
  clear hk
  refine wpQuiet_step (fun K hK => ?_)
  have HF := hide F
  clear F
  go_simp
  refine hK _ ?_
  clear hK K
  have F := unhide HF
  clear HF
  clear e48
  refine quiet_into F (by have := unhide HSZ; omega) (by decide) ?_
  clear F
  intro a F hk e49
  replace e3 := (hk 3 (by decide)).trans e3
  replace e4 := (hk 4 (by decide)).trans e4
  replace e5 := (hk 5 (by decide)).trans e5
  replace e6 := (hk 6 (by decide)).trans e6
  replace e7 := (hk 7 (by decide)).trans e7
  clear hk
  refine wpQuiet_step (fun K hK => ?_)
  have HF := hide F
  clear F
  go_simp
  refine hK _ ?_
  clear hK K
  have F := unhide HF
  clear HF
  clear e49
  refine quiet_into F (by have := unhide HSZ; omega) (by decide) ?_
  clear F
  intro a F hk e50
  replace e3 := (hk 3 (by decide)).trans e3
  replace e4 := (hk 4 (by decide)).trans e4
  replace e5 := (hk 5 (by decide)).trans e5
  replace e6 := (hk 6 (by decide)).trans e6
  replace e7 := (hk 7 (by decide)).trans e7
  clear hk
  refine wpQuiet_step (fun K hK => ?_)
  have HF := hide F
  clear F
  go_simp
  refine hK _ ?_
  clear hK K
  have F := unhide HF
  clear HF
  refine quiet_into F (by have := unhide HSZ; omega) (by decide) ?_
  clear F
  intro a F hk e51
  replace e3 := (hk 3 (by decide)).trans e3
  replace e4 := (hk 4 (by decide)).trans e4
  replace e5 := (hk 5 (by decide)).trans e5
  replace e6 := (hk 6 (by decide)).trans e6
  replace e7 := (hk 7 (by decide)).trans e7
  replace e50 := (hk 50 (by decide)).trans e50
  clear hk
  refine wpQuiet_step (fun K hK => ?_)
  have HF := hide F
  clear F
  go_simp
  refine hK _ ?_
  clear hK K
  have F := unhide HF
  clear HF
  clear e51
  refine quiet_into F (by have := unhide HSZ; omega) (by decide) ?_
  clear F
  intro a F hk e52
  replace e3 := (hk 3 (by decide)).trans e3
  replace e4 := (hk 4 (by decide)).trans e4
  replace e5 := (hk 5 (by decide)).trans e5
  replace e6 := (hk 6 (by decide)).trans e6
  replace e7 := (hk 7 (by decide)).trans e7
  replace e50 := (hk 50 (by decide)).trans e50
  clear hk
  refine wpQuiet_step (fun K hK => ?_)
  have HF := hide F
  clear F
  go_simp
  refine hK _ ?_
  clear hK K
  have F := unhide HF
  clear HF
  clear e52
  refine quiet_into F (by have := unhide HSZ; omega) (by decide) ?_
  clear F
  intro a F hk e53
  replace e3 := (hk 3 (by decide)).trans e3
  replace e4 := (hk 4 (by decide)).trans e4
  replace e5 := (hk 5 (by decide)).trans e5
  replace e6 := (hk 6 (by decide)).trans e6
  replace e7 := (hk 7 (by decide)).trans e7
  replace e50 := (hk 50 (by decide)).trans e50
  clear hk
  refine wpQuiet_step (fun K hK => ?_)
  have HF := hide F
  clear F
  go_simp
  refine hK _ ?_
  clear hK K
  have F := unhide HF
  clear HF
  clear e50
  clear e53
  refine quiet_into F (by have := unhide HSZ; omega) (by decide) ?_
  clear F
  intro a F hk e54
  replace e3 := (hk 3 (by decide)).trans e3
  replace e4 := (hk 4 (by decide)).trans e4
  replace e5 := (hk 5 (by decide)).trans e5
  replace e6 := (hk 6 (by decide)).trans e6
  replace e7 := (hk 7 (by decide)).trans e7
  clear hk
  refine wpQuiet_step (fun K hK => ?_)
  have HF := hide F
  clear F
  go_simp
  refine hK _ ?_
  clear hK K
  have F := unhide HF
  clear HF
  clear e54
  refine quiet_into F (by have := unhide HSZ; omega) (by decide) ?_
  clear F
  intro a F hk e55
  replace e3 := (hk 3 (by decide)).trans e3
  replace e4 := (hk 4 (by decide)).trans e4
  replace e5 := (hk 5 (by decide)).trans e5
  replace e6 := (hk 6 (by decide)).trans e6
  replace e7 := (hk 7 (by decide)).trans e7
  clear hk
  refine wpQuiet_step (fun K hK => ?_)
  have HF := hide F
  clear F
  go_simp
  refine hK _ ?_
  clear hK K
  have F := unhide HF
  clear HF
  refine quiet_into F (by have := unhide HSZ; omega) (by decide) ?_
  clear F
  intro a F hk e56
  replace e3 := (hk 3 (by decide)).trans e3
  replace e4 := (hk 4 (by decide)).trans e4
  replace e5 := (hk 5 (by decide)).trans e5
  replace e6 := (hk 6 (by decide)).trans e6
  replace e7 := (hk 7 (by decide)).trans e7
  replace e55 := (hk 55 (by decide)).trans e55
  clear hk
  refine wpQuiet_step (fun K hK => ?_)
  have HF := hide F
  clear F
  go_simp
  refine hK _ ?_
  clear hK K
  have F := unhide HF
  clear HF
  clear e56
  refine quiet_into F (by have := unhide HSZ; omega) (by decide) ?_
  clear F
  intro a F hk e57
  replace e3 := (hk 3 (by decide)).trans e3
  replace e4 := (hk 4 (by decide)).trans e4
  replace e5 := (hk 5 (by decide)).trans e5
  replace e6 := (hk 6 (by decide)).trans e6
  replace e7 := (hk 7 (by decide)).trans e7
  replace e55 := (hk 55 (by decide)).trans e55
  clear hk
  refine wpQuiet_step (fun K hK => ?_)
  have HF := hide F
  clear F
  go_simp
  refine hK _ ?_
  clear hK K
  have F := unhide HF
  clear HF
  clear e57
  refine quiet_into F (by have := unhide HSZ; omega) (by decide) ?_
  clear F
  intro a F hk e58
  replace e3 := (hk 3 (by decide)).trans e3
  replace e4 := (hk 4 (by decide)).trans e4
  replace e5 := (hk 5 (by decide)).trans e5
  replace e6 := (hk 6 (by decide)).trans e6
  replace e7 := (hk 7 (by decide)).trans e7
  replace e55 := (hk 55 (by decide)).trans e55
  clear hk
  refine wpQuiet_step (fun K hK => ?_)
  have HF := hide F
  clear F
  go_simp
  refine hK _ ?_
  clear hK K
  have F := unhide HF
  clear HF
  refine quiet_into F (by have := unhide HSZ; omega) (by decide) ?_
  clear F
  intro a F hk e59
  replace e3 := (hk 3 (by decide)).trans e3
  replace e4 := (hk 4 (by decide)).trans e4
  replace e5 := (hk 5 (by decide)).trans e5
  replace e6 := (hk 6 (by decide)).trans e6
  replace e7 := (hk 7 (by decide)).trans e7
  replace e55 := (hk 55 (by decide)).trans e55
  replace e58 := (hk 58 (by decide)).trans e58
  clear hk
  refine wpQuiet_step (fun K hK => ?_)
  have HF := hide F
  clear F
  go_simp
  refine hK _ ?_
  clear hK K
  have F := unhide HF
  clear HF
  clear e59
  refine quiet_into F (by have := unhide HSZ; omega) (by decide) ?_
  clear F
  intro a F hk e60
  replace e3 := (hk 3 (by decide)).trans e3
  replace e4 := (hk 4 (by decide)).trans e4
  replace e5 := (hk 5 (by decide)).trans e5
  replace e6 := (hk 6 (by decide)).trans e6
  replace e7 := (hk 7 (by decide)).trans e7
  replace e55 := (hk 55 (by decide)).trans e55
  replace e58 := (hk 58 (by decide)).trans e58
  clear hk
  refine wpQuiet_step (fun K hK => ?_)
  have HF := hide F
  clear F
  go_simp
  refine hK _ ?_
  clear hK K
  have F := unhide HF
  clear HF
  refine quiet_into F (by have := unhide HSZ; omega) (by decide) ?_
  clear F
  intro a F hk e61
  replace e3 := (hk 3 (by decide)).trans e3
  replace e4 := (hk 4 (by decide)).trans e4
  replace e5 := (hk 5 (by decide)).trans e5
  replace e6 := (hk 6 (by decide)).trans e6
  replace e7 := (hk 7 (by decide)).trans e7
  replace e55 := (hk 55 (by decide)).trans e55
  replace e58 := (hk 58 (by decide)).trans e58
  replace e60 := (hk 60 (by decide)).trans e60
  clear hk
  refine wpQuiet_step (fun K hK => ?_)
  have HF := hide F
  clear F
  go_simp
  refine hK _ ?_
  clear hK K
  have F := unhide HF
  clear HF
  refine quiet_into F (by have := unhide HSZ; omega) (by decide) ?_
  clear F
  intro a F hk e62
  replace e3 := (hk 3 (by decide)).trans e3
  replace e4 := (hk 4 (by decide)).trans e4
  replace e5 := (hk 5 (by decide)).trans e5
  replace e6 := (hk 6 (by decide)).trans e6
  replace e7 := (hk 7 (by decide)).trans e7
  replace e55 := (hk 55 (by decide)).trans e55
  replace e58 := (hk 58 (by decide)).trans e58
  replace e60 := (hk 60 (by decide)).trans e60
  replace e61 := (hk 61 (by decide)).trans e61
  clear hk
  refine wpQuiet_step (fun K hK => ?_)
  have HF := hide F
  clear F
  go_simp
  refine hK _ ?_
  clear hK K
  have F := unhide HF
  clear HF
  refine quiet_into F (by have := unhide HSZ; omega) (by decide) ?_
  clear F
  intro a F hk e63
  replace e3 := (hk 3 (by decide)).trans e3
  replace e4 := (hk 4 (by decide)).trans e4
  replace e5 := (hk 5 (by decide)).trans e5
  replace e6 := (hk 6 (by decide)).trans e6
  replace e7 := (hk 7 (by decide)).trans e7
  replace e55 := (hk 55 (by decide)).trans e55
  replace e58 := (hk 58 (by decide)).trans e58
  replace e60 := (hk 60 (by decide)).trans e60
  replace e61 := (hk 61 (by decide)).trans e61
  replace e62 := (hk 62 (by decide)).trans e62
  clear hk
  refine wpQuiet_step (fun K hK => ?_)
  have HF := hide F
  clear F
  go_simp
  refine hK _ ?_
  clear hK K
  have F := unhide HF
  clear HF
  clear e63
  refine quiet_into F (by have := unhide HSZ; omega) (by decide) ?_
  clear F
  intro a F hk e64
  replace e3 := (hk 3 (by decide)).trans e3
  replace e4 := (hk 4 (by decide)).trans e4
  replace e5 := (hk 5 (by decide)).trans e5
  replace e6 := (hk 6 (by decide)).trans e6
  replace e7 := (hk 7 (by decide)).trans e7
  replace e55 := (hk 55 (by decide)).trans e55
  replace e58 := (hk 58 (by decide)).trans e58
  replace e60 := (hk 60 (by decide)).trans e60
  replace e61 := (hk 61 (by decide)).trans e61
  replace e62 := (hk 62 (by decide)).trans e62
  clear hk
  refine wpQuiet_step (fun K hK => ?_)
  have HF := hide F
  clear F
  go_simp
  refine hK _ ?_
  clear hK K
  have F := unhide HF
  clear HF
  clear e61
  clear e62
  clear e64
  refine quiet_into F (by have := unhide HSZ; omega) (by decide) ?_
  clear F
  intro a F hk e65
  replace e3 := (hk 3 (by decide)).trans e3
  replace e4 := (hk 4 (by decide)).trans e4
  replace e5 := (hk 5 (by decide)).trans e5
  replace e6 := (hk 6 (by decide)).trans e6
  replace e7 := (hk 7 (by decide)).trans e7
  replace e55 := (hk 55 (by decide)).trans e55
  replace e58 := (hk 58 (by decide)).trans e58
  replace e60 := (hk 60 (by decide)).trans e60
  clear hk
  refine wpQuiet_step (fun K hK => ?_)
  have HF := hide F
  clear F
  go_simp
  refine hK _ ?_
  clear hK K
  have F := unhide HF
  clear HF
  clear e60
  clear e65
  refine quiet_into F (by have := unhide HSZ; omega) (by decide) ?_
  clear F
  intro a F hk e66
  replace e3 := (hk 3 (by decide)).trans e3
  replace e4 := (hk 4 (by decide)).trans e4
  replace e5 := (hk 5 (by decide)).trans e5
  replace e6 := (hk 6 (by decide)).trans e6
  replace e7 := (hk 7 (by decide)).trans e7
  replace e55 := (hk 55 (by decide)).trans e55
  replace e58 := (hk 58 (by decide)).trans e58
  clear hk
  refine wpQuiet_step (fun K hK => ?_)
  have HF := hide F
  clear F
  go_simp
  refine hK _ ?_
  clear hK K
  have F := unhide HF
  clear HF
  clear e58
  clear e66
  refine quiet_into F (by have := unhide HSZ; omega) (by decide) ?_
  clear F
  intro a F hk e67
  replace e3 := (hk 3 (by decide)).trans e3
  replace e4 := (hk 4 (by decide)).trans e4
  replace e5 := (hk 5 (by decide)).trans e5
  replace e6 := (hk 6 (by decide)).trans e6
  replace e7 := (hk 7 (by decide)).trans e7
  replace e55 := (hk 55 (by decide)).trans e55
  clear hk
  refine wpQuiet_step (fun K hK => ?_)
  have HF := hide F
  clear F
  go_simp
  refine hK _ ?_
  clear hK K
  have F := unhide HF
  clear HF
  clear e55
  clear e67
  refine quiet_into F (by have := unhide HSZ; omega) (by decide) ?_
  clear F
  intro a F hk e68
  replace e3 := (hk 3 (by decide)).trans e3
  replace e4 := (hk 4 (by decide)).trans e4
  replace e5 := (hk 5 (by decide)).trans e5
  replace e6 := (hk 6 (by decide)).trans e6
  replace e7 := (hk 7 (by decide)).trans e7
  clear hk
  refine wpQuiet_step (fun K hK => ?_)
  have HF := hide F
  clear F
  go_simp
  refine hK _ ?_
  clear hK K
  have F := unhide HF
  clear HF
  clear e68
  refine quiet_into F (by have := unhide HSZ; omega) (by decide) ?_
  clear F
  intro a F hk e69
  replace e3 := (hk 3 (by decide)).trans e3
  replace e4 := (hk 4 (by decide)).trans e4
  replace e5 := (hk 5 (by decide)).trans e5
  replace e6 := (hk 6 (by decide)).trans e6
  replace e7 := (hk 7 (by decide)).trans e7
  clear hk
  refine wpQuiet_step (fun K hK => ?_)
  have HF := hide F
  clear F
  go_simp
  refine hK _ ?_
  clear hK K
  have F := unhide HF
  clear HF
  clear e7
  refine quiet_into F (by have := unhide HSZ; omega) (by decide) ?_
  clear F
  intro a F hk e70
  replace e3 := (hk 3 (by decide)).trans e3
  replace e4 := (hk 4 (by decide)).trans e4
  replace e5 := (hk 5 (by decide)).trans e5
  replace e6 := (hk 6 (by decide)).trans e6
  replace e69 := (hk 69 (by decide)).trans e69
  clear hk
  refine wpQuiet_step (fun K hK => ?_)
  have HF := hide F
  clear F
  go_simp
  refine hK _ ?_
  clear hK K
  have F := unhide HF
  clear HF
  clear e70
  refine quiet_into F (by have := unhide HSZ; omega) (by decide) ?_
  clear F
  intro a F hk e71
  replace e3 := (hk 3 (by decide)).trans e3
  replace e4 := (hk 4 (by decide)).trans e4
  replace e5 := (hk 5 (by decide)).trans e5
  replace e6 := (hk 6 (by decide)).trans e6
  replace e69 := (hk 69 (by decide)).trans e69
  clear hk
  refine wpQuiet_step (fun K hK => ?_)
  have HF := hide F
  clear F
  go_simp
  refine hK _ ?_
  clear hK K
  have F := unhide HF
  clear HF
  clear e71
  refine quiet_into F (by have := unhide HSZ; omega) (by decide) ?_
  clear F
  intro a F hk e72
  replace e3 := (hk 3 (by decide)).trans e3
  replace e4 := (hk 4 (by decide)).trans e4
  replace e5 := (hk 5 (by decide)).trans e5
  replace e6 := (hk 6 (by decide)).trans e6
  replace e69 := (hk 69 (by decide)).trans e69
  clear hk
  refine wpQuiet_step (fun K hK => ?_)
  have HF := hide F
  clear F
  go_simp
  refine hK _ ?_
  clear hK K
  have F := unhide HF
  clear HF
  clear e6
  refine quiet_into F (by have := unhide HSZ; omega) (by decide) ?_
  clear F
  intro a F hk e73
  replace e3 := (hk 3 (by decide)).trans e3
  replace e4 := (hk 4 (by decide)).trans e4
  replace e5 := (hk 5 (by decide)).trans e5
  replace e69 := (hk 69 (by decide)).trans e69
  replace e72 := (hk 72 (by decide)).trans e72
  clear hk
  refine wpQuiet_step (fun K hK => ?_)
  have HF := hide F
  clear F
  go_simp
  refine hK _ ?_
  clear hK K
  have F := unhide HF
  clear HF
  clear e73
  refine quiet_into F (by have := unhide HSZ; omega) (by decide) ?_
  clear F
  intro a F hk e74
  replace e3 := (hk 3 (by decide)).trans e3
  replace e4 := (hk 4 (by decide)).trans e4
  replace e5 := (hk 5 (by decide)).trans e5
  replace e69 := (hk 69 (by decide)).trans e69
  replace e72 := (hk 72 (by decide)).trans e72
  clear hk
  refine wpQuiet_step (fun K hK => ?_)
  have HF := hide F
  clear F
  go_simp
  refine hK _ ?_
  clear hK K
  have F := unhide HF
  clear HF
  refine quiet_into F (by have := unhide HSZ; omega) (by decide) ?_
  clear F
  intro a F hk e75
  replace e3 := (hk 3 (by decide)).trans e3
  replace e4 := (hk 4 (by decide)).trans e4
  replace e5 := (hk 5 (by decide)).trans e5
  replace e69 := (hk 69 (by decide)).trans e69
  replace e72 := (hk 72 (by decide)).trans e72
  replace e74 := (hk 74 (by decide)).trans e74
  clear hk
  refine wpQuiet_step (fun K hK => ?_)
  have HF := hide F
  clear F
  go_simp
  refine hK _ ?_
  clear hK K
  have F := unhide HF
  clear HF
  refine quiet_into F (by have := unhide HSZ; omega) (by decide) ?_
  clear F
  intro a F hk e76
  replace e3 := (hk 3 (by decide)).trans e3
  replace e4 := (hk 4 (by decide)).trans e4
  replace e5 := (hk 5 (by decide)).trans e5
  replace e69 := (hk 69 (by decide)).trans e69
  replace e72 := (hk 72 (by decide)).trans e72
  replace e74 := (hk 74 (by decide)).trans e74
  replace e75 := (hk 75 (by decide)).trans e75
  clear hk
  refine wpQuiet_step (fun K hK => ?_)
  have HF := hide F
  clear F
  go_simp
  refine hK _ ?_
  clear hK K
  have F := unhide HF
  clear HF
  refine quiet_into F (by have := unhide HSZ; omega) (by decide) ?_
  clear F
  intro a F hk e77
  replace e3 := (hk 3 (by decide)).trans e3
  replace e4 := (hk 4 (by decide)).trans e4
  replace e5 := (hk 5 (by decide)).trans e5
  replace e69 := (hk 69 (by decide)).trans e69
  replace e72 := (hk 72 (by decide)).trans e72
  replace e74 := (hk 74 (by decide)).trans e74
  replace e75 := (hk 75 (by decide)).trans e75
  replace e76 := (hk 76 (by decide)).trans e76
  clear hk
  refine wpQuiet_step (fun K hK => ?_)
  have HF := hide F
  clear F
  go_simp
  refine hK _ ?_
  clear hK K
  have F := unhide HF
  clear HF
  clear e77
  refine quiet_into F (by have := unhide HSZ; omega) (by decide) ?_
  clear F
  intro a F hk e78
  replace e3 := (hk 3 (by decide)).trans e3
  replace e4 := (hk 4 (by decide)).trans e4
  replace e5 := (hk 5 (by decide)).trans e5
  replace e69 := (hk 69 (by decide)).trans e69
  replace e72 := (hk 72 (by decide)).trans e72
  replace e74 := (hk 74 (by decide)).trans e74
  replace e75 := (hk 75 (by decide)).trans e75
  replace e76 := (hk 76 (by decide)).trans e76
  clear hk
  refine wpQuiet_step (fun K hK => ?_)
  have HF := hide F
  clear F
  go_simp
  apply Exists.intro
  refine ⟨fun _ => ?_, hK _ ?_⟩
  · exact Calls.regrown_of (H1 _ _)
  clear hK K
  have F := unhide HF
  clear HF
  clear e75
  clear e76
  clear e78
  refine quiet_into F (by have := unhide HSZ; omega) (by decide) ?_
  clear F
  intro a F hk e79
  replace e3 := (hk 3 (by decide)).trans e3
  replace e4 := (hk 4 (by decide)).trans e4
  replace e5 := (hk 5 (by decide)).trans e5
  replace e69 := (hk 69 (by decide)).trans e69
  replace e72 := (hk 72 (by decide)).trans e72
  replace e74 := (hk 74 (by decide)).trans e74
  clear hk
  refine wpQuiet_step (fun K hK => ?_)
  have HF := hide F
  clear F
  go_simp
  refine hK _ ?_
  clear hK K
  have F := unhide HF
  clear HF
  clear e3
  refine quiet_into F (by have := unhide HSZ; omega) (by decide) ?_
  clear F
  intro a F hk e80
  replace e4 := (hk 4 (by decide)).trans e4
  replace e5 := (hk 5 (by decide)).trans e5
  replace e69 := (hk 69 (by decide)).trans e69
  replace e72 := (hk 72 (by decide)).trans e72
  replace e74 := (hk 74 (by decide)).trans e74
  replace e79 := (hk 79 (by decide)).trans e79
  clear hk
  refine wpQuiet_step (fun K hK => ?_)
  have HF := hide F
  clear F
  go_simp
  refine hK _ ?_
  clear hK K
  have F := unhide HF
  clear HF
  clear e4
  refine quiet_into F (by have := unhide HSZ; omega) (by decide) ?_
  clear F
  intro a F hk e81
  replace e5 := (hk 5 (by decide)).trans e5
  replace e69 := (hk 69 (by decide)).trans e69
  replace e72 := (hk 72 (by decide)).trans e72
  replace e74 := (hk 74 (by decide)).trans e74
  replace e79 := (hk 79 (by decide)).trans e79
  replace e80 := (hk 80 (by decide)).trans e80
  clear hk
  refine wpQuiet_step (fun K hK => ?_)
  have HF := hide F
  clear F
  go_simp
  refine hK _ ?_
  clear hK K
  have F := unhide HF
  clear HF
  clear e5
  refine quiet_into F (by have := unhide HSZ; omega) (by decide) ?_
  clear F
  intro a F hk e82
  replace e69 := (hk 69 (by decide)).trans e69
  replace e72 := (hk 72 (by decide)).trans e72
  replace e74 := (hk 74 (by decide)).trans e74
  replace e79 := (hk 79 (by decide)).trans e79
  replace e80 := (hk 80 (by decide)).trans e80
  replace e81 := (hk 81 (by decide)).trans e81
  clear hk
  refine wpQuiet_step (fun K hK => ?_)
  have HF := hide F
  clear F
  go_simp
  refine hK _ ?_
  clear hK K
  have F := unhide HF
  clear HF
  clear e82
  refine quiet_into F (by have := unhide HSZ; omega) (by decide) ?_
  clear F
  intro a F hk e83
  replace e69 := (hk 69 (by decide)).trans e69
  replace e72 := (hk 72 (by decide)).trans e72
  replace e74 := (hk 74 (by decide)).trans e74
  replace e79 := (hk 79 (by decide)).trans e79
  replace e80 := (hk 80 (by decide)).trans e80
  replace e81 := (hk 81 (by decide)).trans e81
  clear hk
  refine wpQuiet_step (fun K hK => ?_)
  have HF := hide F
  clear F
  go_simp
  apply Exists.intro
  refine ⟨fun _ => ?_, hK _ ?_⟩
  · exact Calls.regrown_of (H2 _ _)
  clear hK K
  have F := unhide HF
  clear HF
  clear e80
  clear e81
  clear e83
  refine quiet_into F (by have := unhide HSZ; omega) (by decide) ?_
  clear F
  intro a F hk e84
  replace e69 := (hk 69 (by decide)).trans e69
  replace e72 := (hk 72 (by decide)).trans e72
  replace e74 := (hk 74 (by decide)).trans e74
  replace e79 := (hk 79 (by decide)).trans e79
  clear hk
  refine wpQuiet_step (fun K hK => ?_)
  have HF := hide F
  clear F
  go_simp
  apply Exists.intro
  refine ⟨fun _ => ?_, hK _ ?_⟩
  · exact Calls.regrown_of ((implJoin _ _ _).mono (by rintro e w' ⟨rfl, rfl⟩; exact ⟨rfl, Below.refl _ _⟩))
  clear hK K
  have F := unhide HF
  clear HF
  clear e79
  clear e84
  refine quiet_into F (by have := unhide HSZ; omega) (by decide) ?_
  clear F
  intro a F hk e85
  replace e69 := (hk 69 (by decide)).trans e69
  replace e72 := (hk 72 (by decide)).trans e72
  replace e74 := (hk 74 (by decide)).trans e74
  clear hk
  refine wpQuiet_step (fun K hK => ?_)
  have HF := hide F
  clear F
  go_simp
  refine hK _ ?_
  clear hK K
  have F := unhide HF
  clear HF
  clear e74
  clear e85
  refine quiet_into F (by have := unhide HSZ; omega) (by decide) ?_
  clear F
  intro a F hk e86
  replace e69 := (hk 69 (by decide)).trans e69
  replace e72 := (hk 72 (by decide)).trans e72
  clear hk
  refine wpQuiet_step (fun K hK => ?_)
  have HF := hide F
  clear F
  go_simp
  refine hK _ ?_
  clear hK K
  have F := unhide HF
  clear HF
  clear e72
  clear e86
  refine quiet_into F (by have := unhide HSZ; omega) (by decide) ?_
  clear F
  intro a F hk e87
  replace e69 := (hk 69 (by decide)).trans e69
  clear hk
  refine wpQuiet_step (fun K hK => ?_)
  have HF := hide F
  clear F
  go_simp
  refine hK _ ?_
  clear hK K
  have F := unhide HF
  clear HF
  clear e69
  clear e87
  refine quiet_into F (by have := unhide HSZ; omega) (by decide) ?_
  clear F
  intro a F hk e88
  clear hk
  refine wpQuiet_nil ?_
  intro W hw'
  obtain ⟨⟨dq, osq⟩, hw''⟩ := hw'
  subst hw''
  exact unhide HQ _ _ F.fr e88 (below_regrown w dq osq)
abbrev reg15a_ops : Array Oper := #[{ dst := some 112, op := Op.move (Operand.tmp 10), type := 3, pos := "laws.go:761", after := #[], guard := none }, { dst := some 113, op := Op.move (Operand.tmp 13), type := 3, pos := "laws.go:761", after := #[], guard := none }, { dst := some 114, op := Op.binOp BinOp.eql 3 (Operand.tmp 112) (Operand.tmp 113) 3, type := 4, pos := "laws.go:761", after := #[{ on := 0, ground := Ground.data }, { on := 1, ground := Ground.data }], guard := none }, { dst := some 115, op := Op.move (Operand.tmp 114), type := 4, pos := "laws.go:761", after := #[{ on := 2, ground := Ground.data }], guard := none }, { dst := some 116, op := Op.move (Operand.tmp 11), type := 3, pos := "laws.go:761", after := #[{ on := 3, ground := Ground.guard }], guard := some (3, true) }, { dst := some 117, op := Op.move (Operand.tmp 14), type := 3, pos := "laws.go:761", after := #[{ on := 3, ground := Ground.guard }], guard := some (3, true) }, { dst := some 118, op := Op.binOp BinOp.eql 3 (Operand.tmp 116) (Operand.tmp 117) 3, type := 4, pos := "laws.go:761", after := #[{ on := 4, ground := Ground.data }, { on := 5, ground := Ground.data }, { on := 3, ground := Ground.guard }], guard := some (3, true) }, { dst := some 119, op := Op.pick (Operand.tmp 115) (Operand.tmp 118) (Operand.const (Value.bool false)), type := 4, pos := "laws.go:761", after := #[{ on := 3, ground := Ground.data }, { on := 6, ground := Ground.data }], guard := none }, { dst := some 120, op := Op.move (Operand.tmp 119), type := 4, pos := "laws.go:761", after := #[{ on := 7, ground := Ground.data }, { on := 3, ground := Ground.chain }], guard := none }, { dst := some 121, op := Op.move (Operand.tmp 12), type := 3, pos := "laws.go:761", after := #[{ on := 8, ground := Ground.guard }], guard := some (8, true) }, { dst := some 122, op := Op.move (Operand.tmp 15), type := 3, pos := "laws.go:761", after := #[{ on := 8, ground := Ground.guard }], guard := some (8, true) }, { dst := some 123, op := Op.binOp BinOp.eql 3 (Operand.tmp 121) (Operand.tmp 122) 3, type := 4, pos := "laws.go:761", after := #[{ on := 9, ground := Ground.data }, { on := 10, ground := Ground.data }, { on := 8, ground := Ground.guard }], guard := some (8, true) }, { dst := some 124, op := Op.pick (Operand.tmp 120) (Operand.tmp 123) (Operand.const (Value.bool false)), type := 4, pos := "laws.go:761", after := #[{ on := 8, ground := Ground.data }, { on := 11, ground := Ground.data }], guard := none }, { dst := some 125, op := Op.move (Operand.tmp 124), type := 4, pos := "laws.go:761", after := #[{ on := 12, ground := Ground.data }, { on := 8, ground := Ground.chain }], guard := none }, { dst := some 126, op := Op.move (Operand.tmp 10), type := 3, pos := "laws.go:761", after := #[{ on := 13, ground := Ground.guard }], guard := some (13, true) }, { dst := some 127, op := Op.fieldAddr 33 (Operand.tmp 8) 0, type := 0, pos := "laws.go:761", after := #[{ on := 13, ground := Ground.guard }], guard := some (13, true) }, { dst := some 128, op := Op.load 3 (Operand.tmp 127), type := 3, pos := "laws.go:761", after := #[{ on := 15, ground := Ground.data }, { on := 13, ground := Ground.guard }], guard := some (13, true) }, { dst := some 129, op := Op.call { callee := Callee.value (Operand.func 16), args := #[Operand.tmp 128], argTypes := #[3] }, type := 3, pos := "laws.go:761", after := #[{ on := 16, ground := Ground.data }, { on := 13, ground := Ground.chain }, { on := 13, ground := Ground.guard }], guard := some (13, true) }, { dst := some 130, op := Op.binOp BinOp.eql 3 (Operand.tmp 126) (Operand.tmp 129) 3, type := 4, pos := "laws.go:761", after := #[{ on := 14, ground := Ground.data }, { on := 17, ground := Ground.data }, { on := 13, ground := Ground.guard }], guard := some (13, true) }, { dst := some 131, op := Op.pick (Operand.tmp 125) (Operand.tmp 130) (Operand.const (Value.bool false)), type := 4, pos := "laws.go:761", after := #[{ on := 13, ground := Ground.data }, { on := 18, ground := Ground.data }], guard := none }, { dst := some 132, op := Op.move (Operand.tmp 131), type := 4, pos := "laws.go:761", after := #[{ on := 19, ground := Ground.data }, { on := 17, ground := Ground.chain }], guard := none }, { dst := some 133, op := Op.move (Operand.tmp 11), type := 3, pos := "laws.go:761", after := #[{ on := 20, ground := Ground.guard }], guard := some (20, true) }, { dst := some 134, op := Op.binOp BinOp.geq 3 (Operand.tmp 133) (Operand.const (Value.int IntKind.i64 (Int.ofNat 0))) 3, type := 4, pos := "laws.go:761", after := #[{ on := 21, ground := Ground.data }, { on := 20, ground := Ground.guard }], guard := some (20, true) }, { dst := some 135, op := Op.pick (Operand.tmp 132) (Operand.tmp 134) (Operand.const (Value.bool false)), type := 4, pos := "laws.go:761", after := #[{ on := 20, ground := Ground.data }, { on := 22, ground := Ground.data }], guard := none }, { dst := some 136, op := Op.move (Operand.tmp 135), type := 4, pos := "laws.go:761", after := #[{ on := 23, ground := Ground.data }, { on := 20, ground := Ground.chain }], guard := none }, { dst := some 137, op := Op.move (Operand.tmp 11), type := 3, pos := "laws.go:761", after := #[{ on := 24, ground := Ground.guard }], guard := some (24, true) }, { dst := some 138, op := Op.binOp BinOp.leq 3 (Operand.tmp 137) (Operand.const (Value.int IntKind.i64 (Int.ofNat 65535))) 3, type := 4, pos := "laws.go:761", after := #[{ on := 25, ground := Ground.data }, { on := 24, ground := Ground.guard }], guard := some (24, true) }, { dst := some 139, op := Op.pick (Operand.tmp 136) (Operand.tmp 138) (Operand.const (Value.bool false)), type := 4, pos := "laws.go:761", after := #[{ on := 24, ground := Ground.data }, { on := 26, ground := Ground.data }], guard := none }, { dst := some 140, op := Op.move (Operand.tmp 139), type := 4, pos := "laws.go:761", after := #[{ on := 27, ground := Ground.data }, { on := 24, ground := Ground.chain }], guard := none }, { dst := some 141, op := Op.move (Operand.tmp 10), type := 3, pos := "laws.go:761", after := #[{ on := 28, ground := Ground.guard }], guard := some (28, true) }, { dst := some 142, op := Op.binOp BinOp.eql 3 (Operand.tmp 141) (Operand.const (Value.int IntKind.i64 (Int.ofNat 2))) 3, type := 4, pos := "laws.go:761", after := #[{ on := 29, ground := Ground.data }, { on := 28, ground := Ground.guard }], guard := some (28, true) }, { dst := some 143, op := Op.move (Operand.tmp 142), type := 4, pos := "laws.go:761", after := #[{ on := 30, ground := Ground.data }, { on := 28, ground := Ground.chain }, { on := 28, ground := Ground.guard }], guard := some (28, true) }, { dst := some 144, op := Op.move (Operand.tmp 12), type := 3, pos := "laws.go:761", after := #[{ on := 31, ground := Ground.guard }], guard := some (31, false) }, { dst := some 145, op := Op.binOp BinOp.eql 3 (Operand.tmp 144) (Operand.const (Value.int IntKind.i64 (Int.ofNat 0))) 3, type := 4, pos := "laws.go:761", after := #[{ on := 32, ground := Ground.data }, { on := 31, ground := Ground.guard }], guard := some (31, false) }, { dst := some 146, op := Op.pick (Operand.tmp 143) (Operand.const (Value.bool true)) (Operand.tmp 145), type := 4, pos := "laws.go:761", after := #[{ on := 31, ground := Ground.data }, { on := 33, ground := Ground.data }, { on := 28, ground := Ground.guard }], guard := some (28, true) }, { dst := some 147, op := Op.pick (Operand.tmp 140) (Operand.tmp 146) (Operand.const (Value.bool false)), type := 4, pos := "laws.go:761", after := #[{ on := 28, ground := Ground.data }, { on := 34, ground := Ground.data }], guard := none }, { dst := some 148, op := Op.move (Operand.tmp 147), type := 4, pos := "laws.go:761", after := #[{ on := 35, ground := Ground.data }, { on := 31, ground := Ground.chain }], guard := none }, { dst := some 149, op := Op.load 39 (Operand.tmp 17), type := 39, pos := "laws.go:761", after := #[{ on := 36, ground := Ground.guard }], guard := some (36, true) }, { dst := some 150, op := Op.load 26 (Operand.tmp 16), type := 26, pos := "laws.go:761", after := #[{ on := 36, ground := Ground.guard }], guard := some (36, true) }, { dst := some 151, op := Op.call { callee := Callee.value (Operand.func 17), args := #[Operand.tmp 150], argTypes := #[26] }, type := 39, pos := "laws.go:761", after := #[{ on := 38, ground := Ground.data }, { on := 36, ground := Ground.chain }, { on := 36, ground := Ground.guard }], guard := some (36, true) }, { dst := some 152, op := Op.binOp BinOp.eql 39 (Operand.tmp 149) (Operand.tmp 151) 39, type := 4, pos := "laws.go:761", after := #[{ on := 37, ground := Ground.data }, { on := 39, ground := Ground.data }, { on := 36, ground := Ground.guard }], guard := some (36, true) }, { dst := some 153, op := Op.pick (Operand.tmp 148) (Operand.tmp 152) (Operand.const (Value.bool false)), type := 4, pos := "laws.go:761", after := #[{ on := 36, ground := Ground.data }, { on := 40, ground := Ground.data }], guard := none }, { dst := some 154, op := Op.move (Operand.tmp 153), type := 4, pos := "laws.go:761", after := #[{ on := 41, ground := Ground.data }, { on := 39, ground := Ground.chain }], guard := none }, { dst := some 155, op := Op.fieldAddr 39 (Operand.tmp 17) 2, type := 0, pos := "laws.go:761", after := #[{ on := 42, ground := Ground.guard }], guard := some (42, true) }, { dst := some 156, op := Op.load 3 (Operand.tmp 155), type := 3, pos := "laws.go:761", after := #[{ on := 43, ground := Ground.data }, { on := 42, ground := Ground.guard }], guard := some (42, true) }, { dst := some 157, op := Op.binOp BinOp.eql 3 (Operand.tmp 156) (Operand.const (Value.int IntKind.i64 (Int.ofNat 255))) 3, type := 4, pos := "laws.go:761", after := #[{ on := 44, ground := Ground.data }, { on := 42, ground := Ground.guard }], guard := some (42, true) }, { dst := some 158, op := Op.pick (Operand.tmp 154) (Operand.tmp 157) (Operand.const (Value.bool false)), type := 4, pos := "laws.go:761", after := #[{ on := 42, ground := Ground.data }, { on := 45, ground := Ground.data }], guard := none }, { dst := some 159, op := Op.move (Operand.tmp 158), type := 4, pos := "laws.go:761", after := #[{ on := 46, ground := Ground.data }, { on := 42, ground := Ground.chain }], guard := none }, { dst := some 160, op := Op.fieldAddr 39 (Operand.tmp 17) 7, type := 0, pos := "laws.go:761", after := #[{ on := 47, ground := Ground.guard }], guard := some (47, true) }, { dst := some 161, op := Op.load 4 (Operand.tmp 160), type := 4, pos := "laws.go:761", after := #[{ on := 48, ground := Ground.data }, { on := 47, ground := Ground.guard }], guard := some (47, true) }, { dst := some 162, op := Op.pick (Operand.tmp 159) (Operand.tmp 161) (Operand.const (Value.bool false)), type := 4, pos := "laws.go:761", after := #[{ on := 47, ground := Ground.data }, { on := 49, ground := Ground.data }], guard := none }, { dst := some 2, op := Op.assign (Operand.tmp 162), type := 4, pos := "laws.go:761", after := #[{ on := 50, ground := Ground.data }, { on := 47, ground := Ground.chain }, { on := 0, ground := Ground.phase }, { on := 1, ground := Ground.phase }, { on := 2, ground := Ground.phase }, { on := 3, ground := Ground.phase }, { on := 4, ground := Ground.phase }, { on := 5, ground := Ground.phase }, { on := 6, ground := Ground.phase }, { on := 7, ground := Ground.phase }, { on := 8, ground := Ground.phase }, { on := 9, ground := Ground.phase }, { on := 10, ground := Ground.phase }, { on := 11, ground := Ground.phase }, { on := 12, ground := Ground.phase }, { on := 13, ground := Ground.phase }, { on := 14, ground := Ground.phase }, { on := 15, ground := Ground.phase }, { on := 16, ground := Ground.phase }, { on := 17, ground := Ground.phase }, { on := 18, ground := Ground.phase }, { on := 19, ground := Ground.phase }, { on := 20, ground := Ground.phase }, { on := 21, ground := Ground.phase }, { on := 22, ground := Ground.phase }, { on := 23, ground := Ground.phase }, { on := 24, ground := Ground.phase }, { on := 25, ground := Ground.phase }, { on := 26, ground := Ground.phase }, { on := 27, ground := Ground.phase }, { on := 28, ground := Ground.phase }, { on := 29, ground := Ground.phase }, { on := 30, ground := Ground.phase }, { on := 31, ground := Ground.phase }, { on := 32, ground := Ground.phase }, { on := 33, ground := Ground.phase }, { on := 34, ground := Ground.phase }, { on := 35, ground := Ground.phase }, { on := 36, ground := Ground.phase }, { on := 37, ground := Ground.phase }, { on := 38, ground := Ground.phase }, { on := 39, ground := Ground.phase }, { on := 40, ground := Ground.phase }, { on := 41, ground := Ground.phase }, { on := 42, ground := Ground.phase }, { on := 43, ground := Ground.phase }, { on := 44, ground := Ground.phase }, { on := 45, ground := Ground.phase }, { on := 46, ground := Ground.phase }, { on := 47, ground := Ground.phase }, { on := 48, ground := Ground.phase }, { on := 49, ground := Ground.phase }, { on := 50, ground := Ground.phase }], guard := none }]
def reg15a_sl : List Nat := [2, 112, 113, 114, 115, 116, 117, 118, 119, 120, 121, 122, 123, 124, 125, 126, 127, 128, 129, 130, 131, 132, 133, 134, 135, 136, 137, 138, 139, 140, 141, 142, 143, 144, 145, 146, 147, 148, 149, 150, 151, 152, 153, 154, 155, 156, 157, 158, 159, 160, 161, 162]
set_option maxHeartbeats 4000000 in
set_option maxRecDepth 20000 in
theorem reg15a {Q : Exit → Act → World → Prop} {id : Nat} (w : World) (p9 p16 p17 : Nat) (na : Option Addr) (nm nc : Nat) (jo npc ad av : Int) (a : Act) (hsz : 162 < a.tmps.size) (e8 : a.tmps[8]? = some (.pointer (some ⟨p9, 0, none⟩))) (e10 : a.tmps[10]? = some (.int .i64 (2))) (e11 : a.tmps[11]? = some (.int .i64 ad)) (e12 : a.tmps[12]? = some (.int .i64 (av))) (e13 : a.tmps[13]? = some (.int .i64 (2))) (e14 : a.tmps[14]? = some (.int .i64 ad)) (e15 : a.tmps[15]? = some (.int .i64 (av))) (e16 : a.tmps[16]? = some (.pointer (some ⟨p16, 0, none⟩))) (e17 : a.tmps[17]? = some (.pointer (some ⟨p17, 0, none⟩))) (q1 : ∀ d os, (grow (redrawn w d) os).cell? ⟨p9, 0, none⟩ = some (.int .i64 jo)) (q2 : ∀ d os, (grow (redrawn w d) os).cell? ⟨p16, 0, none⟩ = some (.slice na nm nc)) (r0 : ∀ d os, (grow (redrawn w d) os).cell? ⟨p17, 0, none⟩ = some (.int .i64 0)) (r1 : ∀ d os, (grow (redrawn w d) os).cell? ⟨p17, 1, none⟩ = some (.int .i64 0)) (r2 : ∀ d os, (grow (redrawn w d) os).cell? ⟨p17, 2, none⟩ = some (.int .i64 255)) (r3 : ∀ d os, (grow (redrawn w d) os).cell? ⟨p17, 3, none⟩ = some (.int .i64 npc)) (r4 : ∀ d os, (grow (redrawn w d) os).cell? ⟨p17, 4, none⟩ = some (.bool false)) (r5 : ∀ d os, (grow (redrawn w d) os).cell? ⟨p17, 5, none⟩ = some (.bool false)) (r6 : ∀ d os, (grow (redrawn w d) os).cell? ⟨p17, 6, none⟩ = some (.bool false)) (r7 : ∀ d os, (grow (redrawn w d) os).cell? ⟨p17, 7, none⟩ = some (.bool true)) (i0 : 0 ≤ ad) (i1 : ad ≤ 65535) (HA : ∀ d os, Calls Tryd.prog 16 #[.int .i64 jo] (grow (redrawn w d) os) fun e w' => e = .returned (.int .i64 (2)) ∧ Below (grow (redrawn w d) os).heap.size (grow (redrawn w d) os) w') (HN : ∀ d os, Calls Tryd.prog 17 #[.agg #[.slice na nm nc]] (grow (redrawn w d) os) fun e w' => e = .returned (.agg #[.int .i64 0, .int .i64 0, .int .i64 255, .int .i64 npc, .bool false, .bool false, .bool false, .bool true]) ∧ Below (grow (redrawn w d) os).heap.size (grow (redrawn w d) os) w') (hQ : ∀ a1 W, Fr reg15a_sl a a1 → a1.tmps[2]? = some (.bool true) → Below w.heap.size w W → Q .normal a1 W) : (Code.region id reg15a_ops true).wp Tryd.prog Q a w := by
  refine wp_region_quiet_below (by kernel_rfl) (by kernel_rfl) ?_
  obtain ⟨a0, ha0⟩ : ∃ x, x = a := ⟨_, rfl⟩
  have F : Fs reg15a_sl a0 a := ha0 ▸ Fs.refl _ _
  have HSZ : Hid (162 < a0.tmps.size) := ha0 ▸ hsz
  have HQ : Hid (∀ a1 W, Fr reg15a_sl a0 a1 → a1.tmps[2]? = some (.bool true) → Below w.heap.size w W → Q .normal a1 W) := ha0 ▸ hQ
  clear hQ hsz ha0
  have heq := fun W => cpu_eql_same W 0 0 255 npc false false false true
  have heg : Tryd.prog.eqGuardType Tryd.prog.depth 39 = false := by kernel_rfl
  refine wpQuiet_step (fun K hK => ?_)
  have HF := hide F
  clear F
  go_simp
  refine hK _ ?_
  clear hK K
  have F := unhide HF
  clear HF
  refine quiet_into F (by have := unhide HSZ; omega) (by decide) ?_
  clear F
  intro a F hk e112
  replace e8 := (hk 8 (by decide)).trans e8
  replace e10 := (hk 10 (by decide)).trans e10
  replace e11 := (hk 11 (by decide)).trans e11
  replace e12 := (hk 12 (by decide)).trans e12
  replace e13 := (hk 13 (by decide)).trans e13
  replace e14 := (hk 14 (by decide)).trans e14
  replace e15 := (hk 15 (by decide)).trans e15
  replace e16 := (hk 16 (by decide)).trans e16
  replace e17 := (hk 17 (by decide)).trans e17
  clear hk
  refine wpQuiet_step (fun K hK => ?_)
  have HF := hide F
  clear F
  go_simp
  refine hK _ ?_
  clear hK K
  have F := unhide HF
  clear HF
  clear e13
  refine quiet_into F (by have := unhide HSZ; omega) (by decide) ?_
  clear F
  intro a F hk e113
  replace e8 := (hk 8 (by decide)).trans e8
  replace e10 := (hk 10 (by decide)).trans e10
  replace e11 := (hk 11 (by decide)).trans e11
  replace e12 := (hk 12 (by decide)).trans e12
  replace e14 := (hk 14 (by decide)).trans e14
  replace e15 := (hk 15 (by decide)).trans e15
  replace e16 := (hk 16 (by decide)).trans e16
  replace e17 := (hk 17 (by decide)).trans e17
  replace e112 := (hk 112 (by decide)).trans e112
  clear hk
  refine wpQuiet_step (fun K hK => ?_)
  have HF := hide F
  clear F
  go_simp
  refine hK _ ?_
  clear hK K
  have F := unhide HF
  clear HF
  clear e112
  clear e113
  refine quiet_into F (by have := unhide HSZ; omega) (by decide) ?_
  clear F
  intro a F hk e114
  replace e8 := (hk 8 (by decide)).trans e8
  replace e10 := (hk 10 (by decide)).trans e10
  replace e11 := (hk 11 (by decide)).trans e11
  replace e12 := (hk 12 (by decide)).trans e12
  replace e14 := (hk 14 (by decide)).trans e14
  replace e15 := (hk 15 (by decide)).trans e15
  replace e16 := (hk 16 (by decide)).trans e16
  replace e17 := (hk 17 (by decide)).trans e17
  clear hk
  refine wpQuiet_step (fun K hK => ?_)
  have HF := hide F
  clear F
  go_simp
  refine hK _ ?_
  clear hK K
  have F := unhide HF
  clear HF
  clear e114
  refine quiet_into F (by have := unhide HSZ; omega) (by decide) ?_
  clear F
  intro a F hk e115
  replace e8 := (hk 8 (by decide)).trans e8
  replace e10 := (hk 10 (by decide)).trans e10
  replace e11 := (hk 11 (by decide)).trans e11
  replace e12 := (hk 12 (by decide)).trans e12
  replace e14 := (hk 14 (by decide)).trans e14
  replace e15 := (hk 15 (by decide)).trans e15
  replace e16 := (hk 16 (by decide)).trans e16
  replace e17 := (hk 17 (by decide)).trans e17
  clear hk
  refine wpQuiet_step (fun K hK => ?_)
  have HF := hide F
  clear F
  go_simp
  refine hK _ ?_
  clear hK K
  have F := unhide HF
  clear HF
  refine quiet_into F (by have := unhide HSZ; omega) (by decide) ?_
  clear F
  intro a F hk e116
  replace e8 := (hk 8 (by decide)).trans e8
  replace e10 := (hk 10 (by decide)).trans e10
  replace e11 := (hk 11 (by decide)).trans e11
  replace e12 := (hk 12 (by decide)).trans e12
  replace e14 := (hk 14 (by decide)).trans e14
  replace e15 := (hk 15 (by decide)).trans e15
  replace e16 := (hk 16 (by decide)).trans e16
  replace e17 := (hk 17 (by decide)).trans e17
  replace e115 := (hk 115 (by decide)).trans e115
  clear hk
  refine wpQuiet_step (fun K hK => ?_)
  have HF := hide F
  clear F
  go_simp
  refine hK _ ?_
  clear hK K
  have F := unhide HF
  clear HF
  clear e14
  refine quiet_into F (by have := unhide HSZ; omega) (by decide) ?_
  clear F
  intro a F hk e117
  replace e8 := (hk 8 (by decide)).trans e8
  replace e10 := (hk 10 (by decide)).trans e10
  replace e11 := (hk 11 (by decide)).trans e11
  replace e12 := (hk 12 (by decide)).trans e12
  replace e15 := (hk 15 (by decide)).trans e15
  replace e16 := (hk 16 (by decide)).trans e16
  replace e17 := (hk 17 (by decide)).trans e17
  replace e115 := (hk 115 (by decide)).trans e115
  replace e116 := (hk 116 (by decide)).trans e116
  clear hk
  refine wpQuiet_step (fun K hK => ?_)
  have HF := hide F
  clear F
  go_simp
  refine hK _ ?_
  clear hK K
  have F := unhide HF
  clear HF
  clear e116
  clear e117
  refine quiet_into F (by have := unhide HSZ; omega) (by decide) ?_
  clear F
  intro a F hk e118
  replace e8 := (hk 8 (by decide)).trans e8
  replace e10 := (hk 10 (by decide)).trans e10
  replace e11 := (hk 11 (by decide)).trans e11
  replace e12 := (hk 12 (by decide)).trans e12
  replace e15 := (hk 15 (by decide)).trans e15
  replace e16 := (hk 16 (by decide)).trans e16
  replace e17 := (hk 17 (by decide)).trans e17
  replace e115 := (hk 115 (by decide)).trans e115
  clear hk
  refine wpQuiet_step (fun K hK => ?_)
  have HF := hide F
  clear F
  go_simp
  refine hK _ ?_
  clear hK K
  have F := unhide HF
  clear HF
  clear e115
  clear e118
  refine quiet_into F (by have := unhide HSZ; omega) (by decide) ?_
  clear F
  intro a F hk e119
  replace e8 := (hk 8 (by decide)).trans e8
  replace e10 := (hk 10 (by decide)).trans e10
  replace e11 := (hk 11 (by decide)).trans e11
  replace e12 := (hk 12 (by decide)).trans e12
  replace e15 := (hk 15 (by decide)).trans e15
  replace e16 := (hk 16 (by decide)).trans e16
  replace e17 := (hk 17 (by decide)).trans e17
  clear hk
  refine wpQuiet_step (fun K hK => ?_)
  have HF := hide F
  clear F
  go_simp
  refine hK _ ?_
  clear hK K
  have F := unhide HF
  clear HF
  clear e119
  refine quiet_into F (by have := unhide HSZ; omega) (by decide) ?_
  clear F
  intro a F hk e120
  replace e8 := (hk 8 (by decide)).trans e8
  replace e10 := (hk 10 (by decide)).trans e10
  replace e11 := (hk 11 (by decide)).trans e11
  replace e12 := (hk 12 (by decide)).trans e12
  replace e15 := (hk 15 (by decide)).trans e15
  replace e16 := (hk 16 (by decide)).trans e16
  replace e17 := (hk 17 (by decide)).trans e17
  clear hk
  refine wpQuiet_step (fun K hK => ?_)
  have HF := hide F
  clear F
  go_simp
  refine hK _ ?_
  clear hK K
  have F := unhide HF
  clear HF
  refine quiet_into F (by have := unhide HSZ; omega) (by decide) ?_
  clear F
  intro a F hk e121
  replace e8 := (hk 8 (by decide)).trans e8
  replace e10 := (hk 10 (by decide)).trans e10
  replace e11 := (hk 11 (by decide)).trans e11
  replace e12 := (hk 12 (by decide)).trans e12
  replace e15 := (hk 15 (by decide)).trans e15
  replace e16 := (hk 16 (by decide)).trans e16
  replace e17 := (hk 17 (by decide)).trans e17
  replace e120 := (hk 120 (by decide)).trans e120
  clear hk
  refine wpQuiet_step (fun K hK => ?_)
  have HF := hide F
  clear F
  go_simp
  refine hK _ ?_
  clear hK K
  have F := unhide HF
  clear HF
  clear e15
  refine quiet_into F (by have := unhide HSZ; omega) (by decide) ?_
  clear F
  intro a F hk e122
  replace e8 := (hk 8 (by decide)).trans e8
  replace e10 := (hk 10 (by decide)).trans e10
  replace e11 := (hk 11 (by decide)).trans e11
  replace e12 := (hk 12 (by decide)).trans e12
  replace e16 := (hk 16 (by decide)).trans e16
  replace e17 := (hk 17 (by decide)).trans e17
  replace e120 := (hk 120 (by decide)).trans e120
  replace e121 := (hk 121 (by decide)).trans e121
  clear hk
  refine wpQuiet_step (fun K hK => ?_)
  have HF := hide F
  clear F
  go_simp
  refine hK _ ?_
  clear hK K
  have F := unhide HF
  clear HF
  clear e121
  clear e122
  refine quiet_into F (by have := unhide HSZ; omega) (by decide) ?_
  clear F
  intro a F hk e123
  replace e8 := (hk 8 (by decide)).trans e8
  replace e10 := (hk 10 (by decide)).trans e10
  replace e11 := (hk 11 (by decide)).trans e11
  replace e12 := (hk 12 (by decide)).trans e12
  replace e16 := (hk 16 (by decide)).trans e16
  replace e17 := (hk 17 (by decide)).trans e17
  replace e120 := (hk 120 (by decide)).trans e120
  clear hk
  refine wpQuiet_step (fun K hK => ?_)
  have HF := hide F
  clear F
  go_simp
  refine hK _ ?_
  clear hK K
  have F := unhide HF
  clear HF
  clear e120
  clear e123
  refine quiet_into F (by have := unhide HSZ; omega) (by decide) ?_
  clear F
  intro a F hk e124
  replace e8 := (hk 8 (by decide)).trans e8
  replace e10 := (hk 10 (by decide)).trans e10
  replace e11 := (hk 11 (by decide)).trans e11
  replace e12 := (hk 12 (by decide)).trans e12
  replace e16 := (hk 16 (by decide)).trans e16
  replace e17 := (hk 17 (by decide)).trans e17
  clear hk
  refine wpQuiet_step (fun K hK => ?_)
  have HF := hide F
  clear F
  go_simp
  refine hK _ ?_
  clear hK K
  have F := unhide HF
  clear HF
  clear e124
  refine quiet_into F (by have := unhide HSZ; omega) (by decide) ?_
  clear F
  intro a F hk e125
  replace e8 := (hk 8 (by decide)).trans e8
  replace e10 := (hk 10 (by decide)).trans e10
  replace e11 := (hk 11 (by decide)).trans e11
  replace e12 := (hk 12 (by decide)).trans e12
  replace e16 := (hk 16 (by decide)).trans e16
  replace e17 := (hk 17 (by decide)).trans e17
  clear hk
  refine wpQuiet_step (fun K hK => ?_)
  have HF := hide F
  clear F
  go_simp
  refine hK _ ?_
  clear hK K
  have F := unhide HF
  clear HF
  refine quiet_into F (by have := unhide HSZ; omega) (by decide) ?_
  clear F
  intro a F hk e126
  replace e8 := (hk 8 (by decide)).trans e8
  replace e10 := (hk 10 (by decide)).trans e10
  replace e11 := (hk 11 (by decide)).trans e11
  replace e12 := (hk 12 (by decide)).trans e12
  replace e16 := (hk 16 (by decide)).trans e16
  replace e17 := (hk 17 (by decide)).trans e17
  replace e125 := (hk 125 (by decide)).trans e125
  clear hk
  refine wpQuiet_step (fun K hK => ?_)
  have HF := hide F
  clear F
  go_simp
  refine hK _ ?_
  clear hK K
  have F := unhide HF
  clear HF
  clear e8
  refine quiet_into F (by have := unhide HSZ; omega) (by decide) ?_
  clear F
  intro a F hk e127
  replace e10 := (hk 10 (by decide)).trans e10
  replace e11 := (hk 11 (by decide)).trans e11
  replace e12 := (hk 12 (by decide)).trans e12
  replace e16 := (hk 16 (by decide)).trans e16
  replace e17 := (hk 17 (by decide)).trans e17
  replace e125 := (hk 125 (by decide)).trans e125
  replace e126 := (hk 126 (by decide)).trans e126
  clear hk
  refine wpQuiet_step (fun K hK => ?_)
  have HF := hide F
  clear F
  go_simp
  refine hK _ ?_
  clear hK K
  have F := unhide HF
  clear HF
  clear e127
  refine quiet_into F (by have := unhide HSZ; omega) (by decide) ?_
  clear F
  intro a F hk e128
  replace e10 := (hk 10 (by decide)).trans e10
  replace e11 := (hk 11 (by decide)).trans e11
  replace e12 := (hk 12 (by decide)).trans e12
  replace e16 := (hk 16 (by decide)).trans e16
  replace e17 := (hk 17 (by decide)).trans e17
  replace e125 := (hk 125 (by decide)).trans e125
  replace e126 := (hk 126 (by decide)).trans e126
  clear hk
  refine wpQuiet_step (fun K hK => ?_)
  have HF := hide F
  clear F
  go_simp
  apply Exists.intro
  refine ⟨fun _ => ?_, hK _ ?_⟩
  · exact Calls.regrown_of (HA _ _)
  clear hK K
  have F := unhide HF
  clear HF
  clear e128
  refine quiet_into F (by have := unhide HSZ; omega) (by decide) ?_
  clear F
  intro a F hk e129
  replace e10 := (hk 10 (by decide)).trans e10
  replace e11 := (hk 11 (by decide)).trans e11
  replace e12 := (hk 12 (by decide)).trans e12
  replace e16 := (hk 16 (by decide)).trans e16
  replace e17 := (hk 17 (by decide)).trans e17
  replace e125 := (hk 125 (by decide)).trans e125
  replace e126 := (hk 126 (by decide)).trans e126
  clear hk
  refine wpQuiet_step (fun K hK => ?_)
  have HF := hide F
  clear F
  go_simp
  refine hK _ ?_
  clear hK K
  have F := unhide HF
  clear HF
  clear e126
  clear e129
  refine quiet_into F (by have := unhide HSZ; omega) (by decide) ?_
  clear F
  intro a F hk e130
  replace e10 := (hk 10 (by decide)).trans e10
  replace e11 := (hk 11 (by decide)).trans e11
  replace e12 := (hk 12 (by decide)).trans e12
  replace e16 := (hk 16 (by decide)).trans e16
  replace e17 := (hk 17 (by decide)).trans e17
  replace e125 := (hk 125 (by decide)).trans e125
  clear hk
  refine wpQuiet_step (fun K hK => ?_)
  have HF := hide F
  clear F
  go_simp
  refine hK _ ?_
  clear hK K
  have F := unhide HF
  clear HF
  clear e125
  clear e130
  refine quiet_into F (by have := unhide HSZ; omega) (by decide) ?_
  clear F
  intro a F hk e131
  replace e10 := (hk 10 (by decide)).trans e10
  replace e11 := (hk 11 (by decide)).trans e11
  replace e12 := (hk 12 (by decide)).trans e12
  replace e16 := (hk 16 (by decide)).trans e16
  replace e17 := (hk 17 (by decide)).trans e17
  clear hk
  refine wpQuiet_step (fun K hK => ?_)
  have HF := hide F
  clear F
  go_simp
  refine hK _ ?_
  clear hK K
  have F := unhide HF
  clear HF
  clear e131
  refine quiet_into F (by have := unhide HSZ; omega) (by decide) ?_
  clear F
  intro a F hk e132
  replace e10 := (hk 10 (by decide)).trans e10
  replace e11 := (hk 11 (by decide)).trans e11
  replace e12 := (hk 12 (by decide)).trans e12
  replace e16 := (hk 16 (by decide)).trans e16
  replace e17 := (hk 17 (by decide)).trans e17
  clear hk
  refine wpQuiet_step (fun K hK => ?_)
  have HF := hide F
  clear F
  go_simp
  refine hK _ ?_
  clear hK K
  have F := unhide HF
  clear HF
  refine quiet_into F (by have := unhide HSZ; omega) (by decide) ?_
  clear F
  intro a F hk e133
  replace e10 := (hk 10 (by decide)).trans e10
  replace e11 := (hk 11 (by decide)).trans e11
  replace e12 := (hk 12 (by decide)).trans e12
  replace e16 := (hk 16 (by decide)).trans e16
  replace e17 := (hk 17 (by decide)).trans e17
  replace e132 := (hk 132 (by decide)).trans e132
  clear hk
  refine wpQuiet_step (fun K hK => ?_)
  have HF := hide F
  clear F
  go_simp
  refine hK _ ?_
  clear hK K
  have F := unhide HF
  clear HF
  clear e133
  refine quiet_into F (by have := unhide HSZ; omega) (by decide) ?_
  clear F
  intro a F hk e134
  replace e10 := (hk 10 (by decide)).trans e10
  replace e11 := (hk 11 (by decide)).trans e11
  replace e12 := (hk 12 (by decide)).trans e12
  replace e16 := (hk 16 (by decide)).trans e16
  replace e17 := (hk 17 (by decide)).trans e17
  replace e132 := (hk 132 (by decide)).trans e132
  clear hk
  refine wpQuiet_step (fun K hK => ?_)
  have HF := hide F
  clear F
  go_simp
  refine hK _ ?_
  clear hK K
  have F := unhide HF
  clear HF
  clear e132
  clear e134
  refine quiet_into F (by have := unhide HSZ; omega) (by decide) ?_
  clear F
  intro a F hk e135
  replace e10 := (hk 10 (by decide)).trans e10
  replace e11 := (hk 11 (by decide)).trans e11
  replace e12 := (hk 12 (by decide)).trans e12
  replace e16 := (hk 16 (by decide)).trans e16
  replace e17 := (hk 17 (by decide)).trans e17
  clear hk
  refine wpQuiet_step (fun K hK => ?_)
  have HF := hide F
  clear F
  go_simp
  refine hK _ ?_
  clear hK K
  have F := unhide HF
  clear HF
  clear e135
  refine quiet_into F (by have := unhide HSZ; omega) (by decide) ?_
  clear F
  intro a F hk e136
  replace e10 := (hk 10 (by decide)).trans e10
  replace e11 := (hk 11 (by decide)).trans e11
  replace e12 := (hk 12 (by decide)).trans e12
  replace e16 := (hk 16 (by decide)).trans e16
  replace e17 := (hk 17 (by decide)).trans e17
  clear hk
  refine wpQuiet_step (fun K hK => ?_)
  have HF := hide F
  clear F
  go_simp
  refine hK _ ?_
  clear hK K
  have F := unhide HF
  clear HF
  clear e11
  refine quiet_into F (by have := unhide HSZ; omega) (by decide) ?_
  clear F
  intro a F hk e137
  replace e10 := (hk 10 (by decide)).trans e10
  replace e12 := (hk 12 (by decide)).trans e12
  replace e16 := (hk 16 (by decide)).trans e16
  replace e17 := (hk 17 (by decide)).trans e17
  replace e136 := (hk 136 (by decide)).trans e136
  clear hk
  refine wpQuiet_step (fun K hK => ?_)
  have HF := hide F
  clear F
  go_simp
  refine hK _ ?_
  clear hK K
  have F := unhide HF
  clear HF
  clear e137
  refine quiet_into F (by have := unhide HSZ; omega) (by decide) ?_
  clear F
  intro a F hk e138
  replace e10 := (hk 10 (by decide)).trans e10
  replace e12 := (hk 12 (by decide)).trans e12
  replace e16 := (hk 16 (by decide)).trans e16
  replace e17 := (hk 17 (by decide)).trans e17
  replace e136 := (hk 136 (by decide)).trans e136
  clear hk
  refine wpQuiet_step (fun K hK => ?_)
  have HF := hide F
  clear F
  go_simp
  refine hK _ ?_
  clear hK K
  have F := unhide HF
  clear HF
  clear e136
  clear e138
  refine quiet_into F (by have := unhide HSZ; omega) (by decide) ?_
  clear F
  intro a F hk e139
  replace e10 := (hk 10 (by decide)).trans e10
  replace e12 := (hk 12 (by decide)).trans e12
  replace e16 := (hk 16 (by decide)).trans e16
  replace e17 := (hk 17 (by decide)).trans e17
  clear hk
  refine wpQuiet_step (fun K hK => ?_)
  have HF := hide F
  clear F
  go_simp
  refine hK _ ?_
  clear hK K
  have F := unhide HF
  clear HF
  clear e139
  refine quiet_into F (by have := unhide HSZ; omega) (by decide) ?_
  clear F
  intro a F hk e140
  replace e10 := (hk 10 (by decide)).trans e10
  replace e12 := (hk 12 (by decide)).trans e12
  replace e16 := (hk 16 (by decide)).trans e16
  replace e17 := (hk 17 (by decide)).trans e17
  clear hk
  refine wpQuiet_step (fun K hK => ?_)
  have HF := hide F
  clear F
  go_simp
  refine hK _ ?_
  clear hK K
  have F := unhide HF
  clear HF
  clear e10
  refine quiet_into F (by have := unhide HSZ; omega) (by decide) ?_
  clear F
  intro a F hk e141
  replace e12 := (hk 12 (by decide)).trans e12
  replace e16 := (hk 16 (by decide)).trans e16
  replace e17 := (hk 17 (by decide)).trans e17
  replace e140 := (hk 140 (by decide)).trans e140
  clear hk
  refine wpQuiet_step (fun K hK => ?_)
  have HF := hide F
  clear F
  go_simp
  refine hK _ ?_
  clear hK K
  have F := unhide HF
  clear HF
  clear e141
  refine quiet_into F (by have := unhide HSZ; omega) (by decide) ?_
  clear F
  intro a F hk e142
  replace e12 := (hk 12 (by decide)).trans e12
  replace e16 := (hk 16 (by decide)).trans e16
  replace e17 := (hk 17 (by decide)).trans e17
  replace e140 := (hk 140 (by decide)).trans e140
  clear hk
  refine wpQuiet_step (fun K hK => ?_)
  have HF := hide F
  clear F
  go_simp
  refine hK _ ?_
  clear hK K
  have F := unhide HF
  clear HF
  clear e142
  refine quiet_into F (by have := unhide HSZ; omega) (by decide) ?_
  clear F
  intro a F hk e143
  replace e12 := (hk 12 (by decide)).trans e12
  replace e16 := (hk 16 (by decide)).trans e16
  replace e17 := (hk 17 (by decide)).trans e17
  replace e140 := (hk 140 (by decide)).trans e140
  clear hk
  refine wpQuiet_step (fun K hK => ?_)
  have HF := hide F
  clear F
  go_simp
  refine hK _ ?_
  clear hK K
  have F := unhide HF
  clear HF
  clear e12
  refine quiet_into F (by have := unhide HSZ; omega) (by decide) ?_
  clear F
  intro a F hk e144
  replace e16 := (hk 16 (by decide)).trans e16
  replace e17 := (hk 17 (by decide)).trans e17
  replace e140 := (hk 140 (by decide)).trans e140
  replace e143 := (hk 143 (by decide)).trans e143
  clear hk
  refine wpQuiet_step (fun K hK => ?_)
  have HF := hide F
  clear F
  go_simp
  refine hK _ ?_
  clear hK K
  have F := unhide HF
  clear HF
  clear e144
  refine quiet_into F (by have := unhide HSZ; omega) (by decide) ?_
  clear F
  intro a F hk e145
  replace e16 := (hk 16 (by decide)).trans e16
  replace e17 := (hk 17 (by decide)).trans e17
  replace e140 := (hk 140 (by decide)).trans e140
  replace e143 := (hk 143 (by decide)).trans e143
  clear hk
  refine wpQuiet_step (fun K hK => ?_)
  have HF := hide F
  clear F
  go_simp
  refine hK _ ?_
  clear hK K
  have F := unhide HF
  clear HF
  clear e143
  clear e145
  refine quiet_into F (by have := unhide HSZ; omega) (by decide) ?_
  clear F
  intro a F hk e146
  replace e16 := (hk 16 (by decide)).trans e16
  replace e17 := (hk 17 (by decide)).trans e17
  replace e140 := (hk 140 (by decide)).trans e140
  clear hk
  refine wpQuiet_step (fun K hK => ?_)
  have HF := hide F
  clear F
  go_simp
  refine hK _ ?_
  clear hK K
  have F := unhide HF
  clear HF
  clear e140
  clear e146
  refine quiet_into F (by have := unhide HSZ; omega) (by decide) ?_
  clear F
  intro a F hk e147
  replace e16 := (hk 16 (by decide)).trans e16
  replace e17 := (hk 17 (by decide)).trans e17
  clear hk
  refine wpQuiet_step (fun K hK => ?_)
  have HF := hide F
  clear F
  go_simp
  refine hK _ ?_
  clear hK K
  have F := unhide HF
  clear HF
  clear e147
  refine quiet_into F (by have := unhide HSZ; omega) (by decide) ?_
  clear F
  intro a F hk e148
  replace e16 := (hk 16 (by decide)).trans e16
  replace e17 := (hk 17 (by decide)).trans e17
  clear hk
  refine wpQuiet_step (fun K hK => ?_)
  have HF := hide F
  clear F
  go_simp
  refine hK _ ?_
  clear hK K
  have F := unhide HF
  clear HF
  refine quiet_into F (by have := unhide HSZ; omega) (by decide) ?_
  clear F
  intro a F hk e149
  replace e16 := (hk 16 (by decide)).trans e16
  replace e17 := (hk 17 (by decide)).trans e17
  replace e148 := (hk 148 (by decide)).trans e148
  clear hk
  refine wpQuiet_step (fun K hK => ?_)
  have HF := hide F
  clear F
  go_simp
  refine hK _ ?_
  clear hK K
  have F := unhide HF
  clear HF
  clear e16
  refine quiet_into F (by have := unhide HSZ; omega) (by decide) ?_
  clear F
  intro a F hk e150
  replace e17 := (hk 17 (by decide)).trans e17
  replace e148 := (hk 148 (by decide)).trans e148
  replace e149 := (hk 149 (by decide)).trans e149
  clear hk
  refine wpQuiet_step (fun K hK => ?_)
  have HF := hide F
  clear F
  go_simp
  apply Exists.intro
  refine ⟨fun _ => ?_, hK _ ?_⟩
  · exact Calls.regrown_of (HN _ _)
  clear hK K
  have F := unhide HF
  clear HF
  clear e150
  refine quiet_into F (by have := unhide HSZ; omega) (by decide) ?_
  clear F
  intro a F hk e151
  replace e17 := (hk 17 (by decide)).trans e17
  replace e148 := (hk 148 (by decide)).trans e148
  replace e149 := (hk 149 (by decide)).trans e149
  clear hk
  refine wpQuiet_step (fun K hK => ?_)
  have HF := hide F
  clear F
  go_simp
  refine hK _ ?_
  clear hK K
  have F := unhide HF
  clear HF
  clear e149
  clear e151
  refine quiet_into F (by have := unhide HSZ; omega) (by decide) ?_
  clear F
  intro a F hk e152
  replace e17 := (hk 17 (by decide)).trans e17
  replace e148 := (hk 148 (by decide)).trans e148
  clear hk
  refine wpQuiet_step (fun K hK => ?_)
  have HF := hide F
  clear F
  go_simp
  refine hK _ ?_
  clear hK K
  have F := unhide HF
  clear HF
  clear e148
  clear e152
  refine quiet_into F (by have := unhide HSZ; omega) (by decide) ?_
  clear F
  intro a F hk e153
  replace e17 := (hk 17 (by decide)).trans e17
  clear hk
  refine wpQuiet_step (fun K hK => ?_)
  have HF := hide F
  clear F
  go_simp
  refine hK _ ?_
  clear hK K
  have F := unhide HF
  clear HF
  clear e153
  refine quiet_into F (by have := unhide HSZ; omega) (by decide) ?_
  clear F
  intro a F hk e154
  replace e17 := (hk 17 (by decide)).trans e17
  clear hk
  refine wpQuiet_step (fun K hK => ?_)
  have HF := hide F
  clear F
  go_simp
  refine hK _ ?_
  clear hK K
  have F := unhide HF
  clear HF
  refine quiet_into F (by have := unhide HSZ; omega) (by decide) ?_
  clear F
  intro a F hk e155
  replace e17 := (hk 17 (by decide)).trans e17
  replace e154 := (hk 154 (by decide)).trans e154
  clear hk
  refine wpQuiet_step (fun K hK => ?_)
  have HF := hide F
  clear F
  go_simp
  refine hK _ ?_
  clear hK K
  have F := unhide HF
  clear HF
  clear e155
  refine quiet_into F (by have := unhide HSZ; omega) (by decide) ?_
  clear F
  intro a F hk e156
  replace e17 := (hk 17 (by decide)).trans e17
  replace e154 := (hk 154 (by decide)).trans e154
  clear hk
  refine wpQuiet_step (fun K hK => ?_)
  have HF := hide F
  clear F
  go_simp
  refine hK _ ?_
  clear hK K
  have F := unhide HF
  clear HF
  clear e156
  refine quiet_into F (by have := unhide HSZ; omega) (by decide) ?_
  clear F
  intro a F hk e157
  replace e17 := (hk 17 (by decide)).trans e17
  replace e154 := (hk 154 (by decide)).trans e154
  clear hk
  refine wpQuiet_step (fun K hK => ?_)
  have HF := hide F
  clear F
  go_simp
  refine hK _ ?_
  clear hK K
  have F := unhide HF
  clear HF
  clear e154
  clear e157
  refine quiet_into F (by have := unhide HSZ; omega) (by decide) ?_
  clear F
  intro a F hk e158
  replace e17 := (hk 17 (by decide)).trans e17
  clear hk
  refine wpQuiet_step (fun K hK => ?_)
  have HF := hide F
  clear F
  go_simp
  refine hK _ ?_
  clear hK K
  have F := unhide HF
  clear HF
  clear e158
  refine quiet_into F (by have := unhide HSZ; omega) (by decide) ?_
  clear F
  intro a F hk e159
  replace e17 := (hk 17 (by decide)).trans e17
  clear hk
  refine wpQuiet_step (fun K hK => ?_)
  have HF := hide F
  clear F
  go_simp
  refine hK _ ?_
  clear hK K
  have F := unhide HF
  clear HF
  clear e17
  refine quiet_into F (by have := unhide HSZ; omega) (by decide) ?_
  clear F
  intro a F hk e160
  replace e159 := (hk 159 (by decide)).trans e159
  clear hk
  refine wpQuiet_step (fun K hK => ?_)
  have HF := hide F
  clear F
  go_simp
  refine hK _ ?_
  clear hK K
  have F := unhide HF
  clear HF
  clear e160
  refine quiet_into F (by have := unhide HSZ; omega) (by decide) ?_
  clear F
  intro a F hk e161
  replace e159 := (hk 159 (by decide)).trans e159
  clear hk
  refine wpQuiet_step (fun K hK => ?_)
  have HF := hide F
  clear F
  go_simp
  refine hK _ ?_
  clear hK K
  have F := unhide HF
  clear HF
  clear e159
  clear e161
  refine quiet_into F (by have := unhide HSZ; omega) (by decide) ?_
  clear F
  intro a F hk e162
  clear hk
  refine wpQuiet_step (fun K hK => ?_)
  have HF := hide F
  clear F
  go_simp
  refine hK _ ?_
  clear hK K
  have F := unhide HF
  clear HF
  clear e162
  refine quiet_into F (by have := unhide HSZ; omega) (by decide) ?_
  clear F
  intro a F hk e2
  clear hk
  refine wpQuiet_nil ?_
  intro W hw'
  obtain ⟨⟨dq, osq⟩, hw''⟩ := hw'
  subst hw''
  exact unhide HQ _ _ F.fr e2 (below_regrown w dq osq)
abbrev reg15b_ops : Array Oper := #[{ dst := some 112, op := Op.move (Operand.tmp 10), type := 3, pos := "laws.go:761", after := #[], guard := none }, { dst := some 113, op := Op.move (Operand.tmp 13), type := 3, pos := "laws.go:761", after := #[], guard := none }, { dst := some 114, op := Op.binOp BinOp.eql 3 (Operand.tmp 112) (Operand.tmp 113) 3, type := 4, pos := "laws.go:761", after := #[{ on := 0, ground := Ground.data }, { on := 1, ground := Ground.data }], guard := none }, { dst := some 115, op := Op.move (Operand.tmp 114), type := 4, pos := "laws.go:761", after := #[{ on := 2, ground := Ground.data }], guard := none }, { dst := some 116, op := Op.move (Operand.tmp 11), type := 3, pos := "laws.go:761", after := #[{ on := 3, ground := Ground.guard }], guard := some (3, true) }, { dst := some 117, op := Op.move (Operand.tmp 14), type := 3, pos := "laws.go:761", after := #[{ on := 3, ground := Ground.guard }], guard := some (3, true) }, { dst := some 118, op := Op.binOp BinOp.eql 3 (Operand.tmp 116) (Operand.tmp 117) 3, type := 4, pos := "laws.go:761", after := #[{ on := 4, ground := Ground.data }, { on := 5, ground := Ground.data }, { on := 3, ground := Ground.guard }], guard := some (3, true) }, { dst := some 119, op := Op.pick (Operand.tmp 115) (Operand.tmp 118) (Operand.const (Value.bool false)), type := 4, pos := "laws.go:761", after := #[{ on := 3, ground := Ground.data }, { on := 6, ground := Ground.data }], guard := none }, { dst := some 120, op := Op.move (Operand.tmp 119), type := 4, pos := "laws.go:761", after := #[{ on := 7, ground := Ground.data }, { on := 3, ground := Ground.chain }], guard := none }, { dst := some 121, op := Op.move (Operand.tmp 12), type := 3, pos := "laws.go:761", after := #[{ on := 8, ground := Ground.guard }], guard := some (8, true) }, { dst := some 122, op := Op.move (Operand.tmp 15), type := 3, pos := "laws.go:761", after := #[{ on := 8, ground := Ground.guard }], guard := some (8, true) }, { dst := some 123, op := Op.binOp BinOp.eql 3 (Operand.tmp 121) (Operand.tmp 122) 3, type := 4, pos := "laws.go:761", after := #[{ on := 9, ground := Ground.data }, { on := 10, ground := Ground.data }, { on := 8, ground := Ground.guard }], guard := some (8, true) }, { dst := some 124, op := Op.pick (Operand.tmp 120) (Operand.tmp 123) (Operand.const (Value.bool false)), type := 4, pos := "laws.go:761", after := #[{ on := 8, ground := Ground.data }, { on := 11, ground := Ground.data }], guard := none }, { dst := some 125, op := Op.move (Operand.tmp 124), type := 4, pos := "laws.go:761", after := #[{ on := 12, ground := Ground.data }, { on := 8, ground := Ground.chain }], guard := none }, { dst := some 126, op := Op.move (Operand.tmp 10), type := 3, pos := "laws.go:761", after := #[{ on := 13, ground := Ground.guard }], guard := some (13, true) }, { dst := some 127, op := Op.fieldAddr 33 (Operand.tmp 8) 0, type := 0, pos := "laws.go:761", after := #[{ on := 13, ground := Ground.guard }], guard := some (13, true) }, { dst := some 128, op := Op.load 3 (Operand.tmp 127), type := 3, pos := "laws.go:761", after := #[{ on := 15, ground := Ground.data }, { on := 13, ground := Ground.guard }], guard := some (13, true) }, { dst := some 129, op := Op.call { callee := Callee.value (Operand.func 16), args := #[Operand.tmp 128], argTypes := #[3] }, type := 3, pos := "laws.go:761", after := #[{ on := 16, ground := Ground.data }, { on := 13, ground := Ground.chain }, { on := 13, ground := Ground.guard }], guard := some (13, true) }, { dst := some 130, op := Op.binOp BinOp.eql 3 (Operand.tmp 126) (Operand.tmp 129) 3, type := 4, pos := "laws.go:761", after := #[{ on := 14, ground := Ground.data }, { on := 17, ground := Ground.data }, { on := 13, ground := Ground.guard }], guard := some (13, true) }, { dst := some 131, op := Op.pick (Operand.tmp 125) (Operand.tmp 130) (Operand.const (Value.bool false)), type := 4, pos := "laws.go:761", after := #[{ on := 13, ground := Ground.data }, { on := 18, ground := Ground.data }], guard := none }, { dst := some 132, op := Op.move (Operand.tmp 131), type := 4, pos := "laws.go:761", after := #[{ on := 19, ground := Ground.data }, { on := 17, ground := Ground.chain }], guard := none }, { dst := some 133, op := Op.move (Operand.tmp 11), type := 3, pos := "laws.go:761", after := #[{ on := 20, ground := Ground.guard }], guard := some (20, true) }, { dst := some 134, op := Op.binOp BinOp.geq 3 (Operand.tmp 133) (Operand.const (Value.int IntKind.i64 (Int.ofNat 0))) 3, type := 4, pos := "laws.go:761", after := #[{ on := 21, ground := Ground.data }, { on := 20, ground := Ground.guard }], guard := some (20, true) }, { dst := some 135, op := Op.pick (Operand.tmp 132) (Operand.tmp 134) (Operand.const (Value.bool false)), type := 4, pos := "laws.go:761", after := #[{ on := 20, ground := Ground.data }, { on := 22, ground := Ground.data }], guard := none }, { dst := some 136, op := Op.move (Operand.tmp 135), type := 4, pos := "laws.go:761", after := #[{ on := 23, ground := Ground.data }, { on := 20, ground := Ground.chain }], guard := none }, { dst := some 137, op := Op.move (Operand.tmp 11), type := 3, pos := "laws.go:761", after := #[{ on := 24, ground := Ground.guard }], guard := some (24, true) }, { dst := some 138, op := Op.binOp BinOp.leq 3 (Operand.tmp 137) (Operand.const (Value.int IntKind.i64 (Int.ofNat 65535))) 3, type := 4, pos := "laws.go:761", after := #[{ on := 25, ground := Ground.data }, { on := 24, ground := Ground.guard }], guard := some (24, true) }, { dst := some 139, op := Op.pick (Operand.tmp 136) (Operand.tmp 138) (Operand.const (Value.bool false)), type := 4, pos := "laws.go:761", after := #[{ on := 24, ground := Ground.data }, { on := 26, ground := Ground.data }], guard := none }, { dst := some 140, op := Op.move (Operand.tmp 139), type := 4, pos := "laws.go:761", after := #[{ on := 27, ground := Ground.data }, { on := 24, ground := Ground.chain }], guard := none }, { dst := some 141, op := Op.move (Operand.tmp 10), type := 3, pos := "laws.go:761", after := #[{ on := 28, ground := Ground.guard }], guard := some (28, true) }, { dst := some 142, op := Op.binOp BinOp.eql 3 (Operand.tmp 141) (Operand.const (Value.int IntKind.i64 (Int.ofNat 2))) 3, type := 4, pos := "laws.go:761", after := #[{ on := 29, ground := Ground.data }, { on := 28, ground := Ground.guard }], guard := some (28, true) }, { dst := some 143, op := Op.move (Operand.tmp 142), type := 4, pos := "laws.go:761", after := #[{ on := 30, ground := Ground.data }, { on := 28, ground := Ground.chain }, { on := 28, ground := Ground.guard }], guard := some (28, true) }, { dst := some 144, op := Op.move (Operand.tmp 12), type := 3, pos := "laws.go:761", after := #[{ on := 31, ground := Ground.guard }], guard := some (31, false) }, { dst := some 145, op := Op.binOp BinOp.eql 3 (Operand.tmp 144) (Operand.const (Value.int IntKind.i64 (Int.ofNat 0))) 3, type := 4, pos := "laws.go:761", after := #[{ on := 32, ground := Ground.data }, { on := 31, ground := Ground.guard }], guard := some (31, false) }, { dst := some 146, op := Op.pick (Operand.tmp 143) (Operand.const (Value.bool true)) (Operand.tmp 145), type := 4, pos := "laws.go:761", after := #[{ on := 31, ground := Ground.data }, { on := 33, ground := Ground.data }, { on := 28, ground := Ground.guard }], guard := some (28, true) }, { dst := some 147, op := Op.pick (Operand.tmp 140) (Operand.tmp 146) (Operand.const (Value.bool false)), type := 4, pos := "laws.go:761", after := #[{ on := 28, ground := Ground.data }, { on := 34, ground := Ground.data }], guard := none }, { dst := some 148, op := Op.move (Operand.tmp 147), type := 4, pos := "laws.go:761", after := #[{ on := 35, ground := Ground.data }, { on := 31, ground := Ground.chain }], guard := none }, { dst := some 149, op := Op.load 39 (Operand.tmp 17), type := 39, pos := "laws.go:761", after := #[{ on := 36, ground := Ground.guard }], guard := some (36, true) }, { dst := some 150, op := Op.load 26 (Operand.tmp 16), type := 26, pos := "laws.go:761", after := #[{ on := 36, ground := Ground.guard }], guard := some (36, true) }, { dst := some 151, op := Op.call { callee := Callee.value (Operand.func 17), args := #[Operand.tmp 150], argTypes := #[26] }, type := 39, pos := "laws.go:761", after := #[{ on := 38, ground := Ground.data }, { on := 36, ground := Ground.chain }, { on := 36, ground := Ground.guard }], guard := some (36, true) }, { dst := some 152, op := Op.binOp BinOp.eql 39 (Operand.tmp 149) (Operand.tmp 151) 39, type := 4, pos := "laws.go:761", after := #[{ on := 37, ground := Ground.data }, { on := 39, ground := Ground.data }, { on := 36, ground := Ground.guard }], guard := some (36, true) }, { dst := some 153, op := Op.pick (Operand.tmp 148) (Operand.tmp 152) (Operand.const (Value.bool false)), type := 4, pos := "laws.go:761", after := #[{ on := 36, ground := Ground.data }, { on := 40, ground := Ground.data }], guard := none }, { dst := some 154, op := Op.move (Operand.tmp 153), type := 4, pos := "laws.go:761", after := #[{ on := 41, ground := Ground.data }, { on := 39, ground := Ground.chain }], guard := none }, { dst := some 155, op := Op.fieldAddr 39 (Operand.tmp 17) 2, type := 0, pos := "laws.go:761", after := #[{ on := 42, ground := Ground.guard }], guard := some (42, true) }, { dst := some 156, op := Op.load 3 (Operand.tmp 155), type := 3, pos := "laws.go:761", after := #[{ on := 43, ground := Ground.data }, { on := 42, ground := Ground.guard }], guard := some (42, true) }, { dst := some 157, op := Op.binOp BinOp.eql 3 (Operand.tmp 156) (Operand.const (Value.int IntKind.i64 (Int.ofNat 255))) 3, type := 4, pos := "laws.go:761", after := #[{ on := 44, ground := Ground.data }, { on := 42, ground := Ground.guard }], guard := some (42, true) }, { dst := some 158, op := Op.pick (Operand.tmp 154) (Operand.tmp 157) (Operand.const (Value.bool false)), type := 4, pos := "laws.go:761", after := #[{ on := 42, ground := Ground.data }, { on := 45, ground := Ground.data }], guard := none }, { dst := some 159, op := Op.move (Operand.tmp 158), type := 4, pos := "laws.go:761", after := #[{ on := 46, ground := Ground.data }, { on := 42, ground := Ground.chain }], guard := none }, { dst := some 160, op := Op.fieldAddr 39 (Operand.tmp 17) 7, type := 0, pos := "laws.go:761", after := #[{ on := 47, ground := Ground.guard }], guard := some (47, true) }, { dst := some 161, op := Op.load 4 (Operand.tmp 160), type := 4, pos := "laws.go:761", after := #[{ on := 48, ground := Ground.data }, { on := 47, ground := Ground.guard }], guard := some (47, true) }, { dst := some 162, op := Op.pick (Operand.tmp 159) (Operand.tmp 161) (Operand.const (Value.bool false)), type := 4, pos := "laws.go:761", after := #[{ on := 47, ground := Ground.data }, { on := 49, ground := Ground.data }], guard := none }, { dst := some 2, op := Op.assign (Operand.tmp 162), type := 4, pos := "laws.go:761", after := #[{ on := 50, ground := Ground.data }, { on := 47, ground := Ground.chain }, { on := 0, ground := Ground.phase }, { on := 1, ground := Ground.phase }, { on := 2, ground := Ground.phase }, { on := 3, ground := Ground.phase }, { on := 4, ground := Ground.phase }, { on := 5, ground := Ground.phase }, { on := 6, ground := Ground.phase }, { on := 7, ground := Ground.phase }, { on := 8, ground := Ground.phase }, { on := 9, ground := Ground.phase }, { on := 10, ground := Ground.phase }, { on := 11, ground := Ground.phase }, { on := 12, ground := Ground.phase }, { on := 13, ground := Ground.phase }, { on := 14, ground := Ground.phase }, { on := 15, ground := Ground.phase }, { on := 16, ground := Ground.phase }, { on := 17, ground := Ground.phase }, { on := 18, ground := Ground.phase }, { on := 19, ground := Ground.phase }, { on := 20, ground := Ground.phase }, { on := 21, ground := Ground.phase }, { on := 22, ground := Ground.phase }, { on := 23, ground := Ground.phase }, { on := 24, ground := Ground.phase }, { on := 25, ground := Ground.phase }, { on := 26, ground := Ground.phase }, { on := 27, ground := Ground.phase }, { on := 28, ground := Ground.phase }, { on := 29, ground := Ground.phase }, { on := 30, ground := Ground.phase }, { on := 31, ground := Ground.phase }, { on := 32, ground := Ground.phase }, { on := 33, ground := Ground.phase }, { on := 34, ground := Ground.phase }, { on := 35, ground := Ground.phase }, { on := 36, ground := Ground.phase }, { on := 37, ground := Ground.phase }, { on := 38, ground := Ground.phase }, { on := 39, ground := Ground.phase }, { on := 40, ground := Ground.phase }, { on := 41, ground := Ground.phase }, { on := 42, ground := Ground.phase }, { on := 43, ground := Ground.phase }, { on := 44, ground := Ground.phase }, { on := 45, ground := Ground.phase }, { on := 46, ground := Ground.phase }, { on := 47, ground := Ground.phase }, { on := 48, ground := Ground.phase }, { on := 49, ground := Ground.phase }, { on := 50, ground := Ground.phase }], guard := none }]
def reg15b_sl : List Nat := [2, 112, 113, 114, 115, 116, 117, 118, 119, 120, 121, 122, 123, 124, 125, 126, 127, 128, 129, 130, 131, 132, 133, 134, 135, 136, 137, 138, 139, 140, 141, 142, 143, 144, 145, 146, 147, 148, 149, 150, 151, 152, 153, 154, 155, 156, 157, 158, 159, 160, 161, 162]
set_option maxHeartbeats 4000000 in
set_option maxRecDepth 20000 in
theorem reg15b {Q : Exit → Act → World → Prop} {id : Nat} (w : World) (p9 p16 p17 : Nat) (na : Option Addr) (nm nc : Nat) (jo npc kd ad : Int) (a : Act) (hsz : 162 < a.tmps.size) (e8 : a.tmps[8]? = some (.pointer (some ⟨p9, 0, none⟩))) (e10 : a.tmps[10]? = some (.int .i64 (kd))) (e11 : a.tmps[11]? = some (.int .i64 ad)) (e12 : a.tmps[12]? = some (.int .i64 (0))) (e13 : a.tmps[13]? = some (.int .i64 (kd))) (e14 : a.tmps[14]? = some (.int .i64 ad)) (e15 : a.tmps[15]? = some (.int .i64 (0))) (e16 : a.tmps[16]? = some (.pointer (some ⟨p16, 0, none⟩))) (e17 : a.tmps[17]? = some (.pointer (some ⟨p17, 0, none⟩))) (q1 : ∀ d os, (grow (redrawn w d) os).cell? ⟨p9, 0, none⟩ = some (.int .i64 jo)) (q2 : ∀ d os, (grow (redrawn w d) os).cell? ⟨p16, 0, none⟩ = some (.slice na nm nc)) (r0 : ∀ d os, (grow (redrawn w d) os).cell? ⟨p17, 0, none⟩ = some (.int .i64 0)) (r1 : ∀ d os, (grow (redrawn w d) os).cell? ⟨p17, 1, none⟩ = some (.int .i64 0)) (r2 : ∀ d os, (grow (redrawn w d) os).cell? ⟨p17, 2, none⟩ = some (.int .i64 255)) (r3 : ∀ d os, (grow (redrawn w d) os).cell? ⟨p17, 3, none⟩ = some (.int .i64 npc)) (r4 : ∀ d os, (grow (redrawn w d) os).cell? ⟨p17, 4, none⟩ = some (.bool false)) (r5 : ∀ d os, (grow (redrawn w d) os).cell? ⟨p17, 5, none⟩ = some (.bool false)) (r6 : ∀ d os, (grow (redrawn w d) os).cell? ⟨p17, 6, none⟩ = some (.bool false)) (r7 : ∀ d os, (grow (redrawn w d) os).cell? ⟨p17, 7, none⟩ = some (.bool true)) (i0 : 0 ≤ ad) (i1 : ad ≤ 65535) (hkd : (kd == 2) = false) (HA : ∀ d os, Calls Tryd.prog 16 #[.int .i64 jo] (grow (redrawn w d) os) fun e w' => e = .returned (.int .i64 (kd)) ∧ Below (grow (redrawn w d) os).heap.size (grow (redrawn w d) os) w') (HN : ∀ d os, Calls Tryd.prog 17 #[.agg #[.slice na nm nc]] (grow (redrawn w d) os) fun e w' => e = .returned (.agg #[.int .i64 0, .int .i64 0, .int .i64 255, .int .i64 npc, .bool false, .bool false, .bool false, .bool true]) ∧ Below (grow (redrawn w d) os).heap.size (grow (redrawn w d) os) w') (hQ : ∀ a1 W, Fr reg15b_sl a a1 → a1.tmps[2]? = some (.bool true) → Below w.heap.size w W → Q .normal a1 W) : (Code.region id reg15b_ops true).wp Tryd.prog Q a w := by
  refine wp_region_quiet_below (by kernel_rfl) (by kernel_rfl) ?_
  obtain ⟨a0, ha0⟩ : ∃ x, x = a := ⟨_, rfl⟩
  have F : Fs reg15b_sl a0 a := ha0 ▸ Fs.refl _ _
  have HSZ : Hid (162 < a0.tmps.size) := ha0 ▸ hsz
  have HQ : Hid (∀ a1 W, Fr reg15b_sl a0 a1 → a1.tmps[2]? = some (.bool true) → Below w.heap.size w W → Q .normal a1 W) := ha0 ▸ hQ
  clear hQ hsz ha0
  have heq := fun W => cpu_eql_same W 0 0 255 npc false false false true
  have heg : Tryd.prog.eqGuardType Tryd.prog.depth 39 = false := by kernel_rfl
  refine wpQuiet_step (fun K hK => ?_)
  have HF := hide F
  clear F
  go_simp
  refine hK _ ?_
  clear hK K
  have F := unhide HF
  clear HF
  refine quiet_into F (by have := unhide HSZ; omega) (by decide) ?_
  clear F
  intro a F hk e112
  replace e8 := (hk 8 (by decide)).trans e8
  replace e10 := (hk 10 (by decide)).trans e10
  replace e11 := (hk 11 (by decide)).trans e11
  replace e12 := (hk 12 (by decide)).trans e12
  replace e13 := (hk 13 (by decide)).trans e13
  replace e14 := (hk 14 (by decide)).trans e14
  replace e15 := (hk 15 (by decide)).trans e15
  replace e16 := (hk 16 (by decide)).trans e16
  replace e17 := (hk 17 (by decide)).trans e17
  clear hk
  refine wpQuiet_step (fun K hK => ?_)
  have HF := hide F
  clear F
  go_simp
  refine hK _ ?_
  clear hK K
  have F := unhide HF
  clear HF
  clear e13
  refine quiet_into F (by have := unhide HSZ; omega) (by decide) ?_
  clear F
  intro a F hk e113
  replace e8 := (hk 8 (by decide)).trans e8
  replace e10 := (hk 10 (by decide)).trans e10
  replace e11 := (hk 11 (by decide)).trans e11
  replace e12 := (hk 12 (by decide)).trans e12
  replace e14 := (hk 14 (by decide)).trans e14
  replace e15 := (hk 15 (by decide)).trans e15
  replace e16 := (hk 16 (by decide)).trans e16
  replace e17 := (hk 17 (by decide)).trans e17
  replace e112 := (hk 112 (by decide)).trans e112
  clear hk
  refine wpQuiet_step (fun K hK => ?_)
  have HF := hide F
  clear F
  go_simp
  refine hK _ ?_
  clear hK K
  have F := unhide HF
  clear HF
  clear e112
  clear e113
  refine quiet_into F (by have := unhide HSZ; omega) (by decide) ?_
  clear F
  intro a F hk e114
  replace e8 := (hk 8 (by decide)).trans e8
  replace e10 := (hk 10 (by decide)).trans e10
  replace e11 := (hk 11 (by decide)).trans e11
  replace e12 := (hk 12 (by decide)).trans e12
  replace e14 := (hk 14 (by decide)).trans e14
  replace e15 := (hk 15 (by decide)).trans e15
  replace e16 := (hk 16 (by decide)).trans e16
  replace e17 := (hk 17 (by decide)).trans e17
  clear hk
  refine wpQuiet_step (fun K hK => ?_)
  have HF := hide F
  clear F
  go_simp
  refine hK _ ?_
  clear hK K
  have F := unhide HF
  clear HF
  clear e114
  refine quiet_into F (by have := unhide HSZ; omega) (by decide) ?_
  clear F
  intro a F hk e115
  replace e8 := (hk 8 (by decide)).trans e8
  replace e10 := (hk 10 (by decide)).trans e10
  replace e11 := (hk 11 (by decide)).trans e11
  replace e12 := (hk 12 (by decide)).trans e12
  replace e14 := (hk 14 (by decide)).trans e14
  replace e15 := (hk 15 (by decide)).trans e15
  replace e16 := (hk 16 (by decide)).trans e16
  replace e17 := (hk 17 (by decide)).trans e17
  clear hk
  refine wpQuiet_step (fun K hK => ?_)
  have HF := hide F
  clear F
  go_simp
  refine hK _ ?_
  clear hK K
  have F := unhide HF
  clear HF
  refine quiet_into F (by have := unhide HSZ; omega) (by decide) ?_
  clear F
  intro a F hk e116
  replace e8 := (hk 8 (by decide)).trans e8
  replace e10 := (hk 10 (by decide)).trans e10
  replace e11 := (hk 11 (by decide)).trans e11
  replace e12 := (hk 12 (by decide)).trans e12
  replace e14 := (hk 14 (by decide)).trans e14
  replace e15 := (hk 15 (by decide)).trans e15
  replace e16 := (hk 16 (by decide)).trans e16
  replace e17 := (hk 17 (by decide)).trans e17
  replace e115 := (hk 115 (by decide)).trans e115
  clear hk
  refine wpQuiet_step (fun K hK => ?_)
  have HF := hide F
  clear F
  go_simp
  refine hK _ ?_
  clear hK K
  have F := unhide HF
  clear HF
  clear e14
  refine quiet_into F (by have := unhide HSZ; omega) (by decide) ?_
  clear F
  intro a F hk e117
  replace e8 := (hk 8 (by decide)).trans e8
  replace e10 := (hk 10 (by decide)).trans e10
  replace e11 := (hk 11 (by decide)).trans e11
  replace e12 := (hk 12 (by decide)).trans e12
  replace e15 := (hk 15 (by decide)).trans e15
  replace e16 := (hk 16 (by decide)).trans e16
  replace e17 := (hk 17 (by decide)).trans e17
  replace e115 := (hk 115 (by decide)).trans e115
  replace e116 := (hk 116 (by decide)).trans e116
  clear hk
  refine wpQuiet_step (fun K hK => ?_)
  have HF := hide F
  clear F
  go_simp
  refine hK _ ?_
  clear hK K
  have F := unhide HF
  clear HF
  clear e116
  clear e117
  refine quiet_into F (by have := unhide HSZ; omega) (by decide) ?_
  clear F
  intro a F hk e118
  replace e8 := (hk 8 (by decide)).trans e8
  replace e10 := (hk 10 (by decide)).trans e10
  replace e11 := (hk 11 (by decide)).trans e11
  replace e12 := (hk 12 (by decide)).trans e12
  replace e15 := (hk 15 (by decide)).trans e15
  replace e16 := (hk 16 (by decide)).trans e16
  replace e17 := (hk 17 (by decide)).trans e17
  replace e115 := (hk 115 (by decide)).trans e115
  clear hk
  refine wpQuiet_step (fun K hK => ?_)
  have HF := hide F
  clear F
  go_simp
  refine hK _ ?_
  clear hK K
  have F := unhide HF
  clear HF
  clear e115
  clear e118
  refine quiet_into F (by have := unhide HSZ; omega) (by decide) ?_
  clear F
  intro a F hk e119
  replace e8 := (hk 8 (by decide)).trans e8
  replace e10 := (hk 10 (by decide)).trans e10
  replace e11 := (hk 11 (by decide)).trans e11
  replace e12 := (hk 12 (by decide)).trans e12
  replace e15 := (hk 15 (by decide)).trans e15
  replace e16 := (hk 16 (by decide)).trans e16
  replace e17 := (hk 17 (by decide)).trans e17
  clear hk
  refine wpQuiet_step (fun K hK => ?_)
  have HF := hide F
  clear F
  go_simp
  refine hK _ ?_
  clear hK K
  have F := unhide HF
  clear HF
  clear e119
  refine quiet_into F (by have := unhide HSZ; omega) (by decide) ?_
  clear F
  intro a F hk e120
  replace e8 := (hk 8 (by decide)).trans e8
  replace e10 := (hk 10 (by decide)).trans e10
  replace e11 := (hk 11 (by decide)).trans e11
  replace e12 := (hk 12 (by decide)).trans e12
  replace e15 := (hk 15 (by decide)).trans e15
  replace e16 := (hk 16 (by decide)).trans e16
  replace e17 := (hk 17 (by decide)).trans e17
  clear hk
  refine wpQuiet_step (fun K hK => ?_)
  have HF := hide F
  clear F
  go_simp
  refine hK _ ?_
  clear hK K
  have F := unhide HF
  clear HF
  refine quiet_into F (by have := unhide HSZ; omega) (by decide) ?_
  clear F
  intro a F hk e121
  replace e8 := (hk 8 (by decide)).trans e8
  replace e10 := (hk 10 (by decide)).trans e10
  replace e11 := (hk 11 (by decide)).trans e11
  replace e12 := (hk 12 (by decide)).trans e12
  replace e15 := (hk 15 (by decide)).trans e15
  replace e16 := (hk 16 (by decide)).trans e16
  replace e17 := (hk 17 (by decide)).trans e17
  replace e120 := (hk 120 (by decide)).trans e120
  clear hk
  refine wpQuiet_step (fun K hK => ?_)
  have HF := hide F
  clear F
  go_simp
  refine hK _ ?_
  clear hK K
  have F := unhide HF
  clear HF
  clear e15
  refine quiet_into F (by have := unhide HSZ; omega) (by decide) ?_
  clear F
  intro a F hk e122
  replace e8 := (hk 8 (by decide)).trans e8
  replace e10 := (hk 10 (by decide)).trans e10
  replace e11 := (hk 11 (by decide)).trans e11
  replace e12 := (hk 12 (by decide)).trans e12
  replace e16 := (hk 16 (by decide)).trans e16
  replace e17 := (hk 17 (by decide)).trans e17
  replace e120 := (hk 120 (by decide)).trans e120
  replace e121 := (hk 121 (by decide)).trans e121
  clear hk
  refine wpQuiet_step (fun K hK => ?_)
  have HF := hide F
  clear F
  go_simp
  refine hK _ ?_
  clear hK K
  have F := unhide HF
  clear HF
  clear e121
  clear e122
  refine quiet_into F (by have := unhide HSZ; omega) (by decide) ?_
  clear F
  intro a F hk e123
  replace e8 := (hk 8 (by decide)).trans e8
  replace e10 := (hk 10 (by decide)).trans e10
  replace e11 := (hk 11 (by decide)).trans e11
  replace e12 := (hk 12 (by decide)).trans e12
  replace e16 := (hk 16 (by decide)).trans e16
  replace e17 := (hk 17 (by decide)).trans e17
  replace e120 := (hk 120 (by decide)).trans e120
  clear hk
  refine wpQuiet_step (fun K hK => ?_)
  have HF := hide F
  clear F
  go_simp
  refine hK _ ?_
  clear hK K
  have F := unhide HF
  clear HF
  clear e120
  clear e123
  refine quiet_into F (by have := unhide HSZ; omega) (by decide) ?_
  clear F
  intro a F hk e124
  replace e8 := (hk 8 (by decide)).trans e8
  replace e10 := (hk 10 (by decide)).trans e10
  replace e11 := (hk 11 (by decide)).trans e11
  replace e12 := (hk 12 (by decide)).trans e12
  replace e16 := (hk 16 (by decide)).trans e16
  replace e17 := (hk 17 (by decide)).trans e17
  clear hk
  refine wpQuiet_step (fun K hK => ?_)
  have HF := hide F
  clear F
  go_simp
  refine hK _ ?_
  clear hK K
  have F := unhide HF
  clear HF
  clear e124
  refine quiet_into F (by have := unhide HSZ; omega) (by decide) ?_
  clear F
  intro a F hk e125
  replace e8 := (hk 8 (by decide)).trans e8
  replace e10 := (hk 10 (by decide)).trans e10
  replace e11 := (hk 11 (by decide)).trans e11
  replace e12 := (hk 12 (by decide)).trans e12
  replace e16 := (hk 16 (by decide)).trans e16
  replace e17 := (hk 17 (by decide)).trans e17
  clear hk
  refine wpQuiet_step (fun K hK => ?_)
  have HF := hide F
  clear F
  go_simp
  refine hK _ ?_
  clear hK K
  have F := unhide HF
  clear HF
  refine quiet_into F (by have := unhide HSZ; omega) (by decide) ?_
  clear F
  intro a F hk e126
  replace e8 := (hk 8 (by decide)).trans e8
  replace e10 := (hk 10 (by decide)).trans e10
  replace e11 := (hk 11 (by decide)).trans e11
  replace e12 := (hk 12 (by decide)).trans e12
  replace e16 := (hk 16 (by decide)).trans e16
  replace e17 := (hk 17 (by decide)).trans e17
  replace e125 := (hk 125 (by decide)).trans e125
  clear hk
  refine wpQuiet_step (fun K hK => ?_)
  have HF := hide F
  clear F
  go_simp
  refine hK _ ?_
  clear hK K
  have F := unhide HF
  clear HF
  clear e8
  refine quiet_into F (by have := unhide HSZ; omega) (by decide) ?_
  clear F
  intro a F hk e127
  replace e10 := (hk 10 (by decide)).trans e10
  replace e11 := (hk 11 (by decide)).trans e11
  replace e12 := (hk 12 (by decide)).trans e12
  replace e16 := (hk 16 (by decide)).trans e16
  replace e17 := (hk 17 (by decide)).trans e17
  replace e125 := (hk 125 (by decide)).trans e125
  replace e126 := (hk 126 (by decide)).trans e126
  clear hk
  refine wpQuiet_step (fun K hK => ?_)
  have HF := hide F
  clear F
  go_simp
  refine hK _ ?_
  clear hK K
  have F := unhide HF
  clear HF
  clear e127
  refine quiet_into F (by have := unhide HSZ; omega) (by decide) ?_
  clear F
  intro a F hk e128
  replace e10 := (hk 10 (by decide)).trans e10
  replace e11 := (hk 11 (by decide)).trans e11
  replace e12 := (hk 12 (by decide)).trans e12
  replace e16 := (hk 16 (by decide)).trans e16
  replace e17 := (hk 17 (by decide)).trans e17
  replace e125 := (hk 125 (by decide)).trans e125
  replace e126 := (hk 126 (by decide)).trans e126
  clear hk
  refine wpQuiet_step (fun K hK => ?_)
  have HF := hide F
  clear F
  go_simp
  apply Exists.intro
  refine ⟨fun _ => ?_, hK _ ?_⟩
  · exact Calls.regrown_of (HA _ _)
  clear hK K
  have F := unhide HF
  clear HF
  clear e128
  refine quiet_into F (by have := unhide HSZ; omega) (by decide) ?_
  clear F
  intro a F hk e129
  replace e10 := (hk 10 (by decide)).trans e10
  replace e11 := (hk 11 (by decide)).trans e11
  replace e12 := (hk 12 (by decide)).trans e12
  replace e16 := (hk 16 (by decide)).trans e16
  replace e17 := (hk 17 (by decide)).trans e17
  replace e125 := (hk 125 (by decide)).trans e125
  replace e126 := (hk 126 (by decide)).trans e126
  clear hk
  refine wpQuiet_step (fun K hK => ?_)
  have HF := hide F
  clear F
  go_simp
  refine hK _ ?_
  clear hK K
  have F := unhide HF
  clear HF
  clear e126
  clear e129
  refine quiet_into F (by have := unhide HSZ; omega) (by decide) ?_
  clear F
  intro a F hk e130
  replace e10 := (hk 10 (by decide)).trans e10
  replace e11 := (hk 11 (by decide)).trans e11
  replace e12 := (hk 12 (by decide)).trans e12
  replace e16 := (hk 16 (by decide)).trans e16
  replace e17 := (hk 17 (by decide)).trans e17
  replace e125 := (hk 125 (by decide)).trans e125
  clear hk
  refine wpQuiet_step (fun K hK => ?_)
  have HF := hide F
  clear F
  go_simp
  refine hK _ ?_
  clear hK K
  have F := unhide HF
  clear HF
  clear e125
  clear e130
  refine quiet_into F (by have := unhide HSZ; omega) (by decide) ?_
  clear F
  intro a F hk e131
  replace e10 := (hk 10 (by decide)).trans e10
  replace e11 := (hk 11 (by decide)).trans e11
  replace e12 := (hk 12 (by decide)).trans e12
  replace e16 := (hk 16 (by decide)).trans e16
  replace e17 := (hk 17 (by decide)).trans e17
  clear hk
  refine wpQuiet_step (fun K hK => ?_)
  have HF := hide F
  clear F
  go_simp
  refine hK _ ?_
  clear hK K
  have F := unhide HF
  clear HF
  clear e131
  refine quiet_into F (by have := unhide HSZ; omega) (by decide) ?_
  clear F
  intro a F hk e132
  replace e10 := (hk 10 (by decide)).trans e10
  replace e11 := (hk 11 (by decide)).trans e11
  replace e12 := (hk 12 (by decide)).trans e12
  replace e16 := (hk 16 (by decide)).trans e16
  replace e17 := (hk 17 (by decide)).trans e17
  clear hk
  refine wpQuiet_step (fun K hK => ?_)
  have HF := hide F
  clear F
  go_simp
  refine hK _ ?_
  clear hK K
  have F := unhide HF
  clear HF
  refine quiet_into F (by have := unhide HSZ; omega) (by decide) ?_
  clear F
  intro a F hk e133
  replace e10 := (hk 10 (by decide)).trans e10
  replace e11 := (hk 11 (by decide)).trans e11
  replace e12 := (hk 12 (by decide)).trans e12
  replace e16 := (hk 16 (by decide)).trans e16
  replace e17 := (hk 17 (by decide)).trans e17
  replace e132 := (hk 132 (by decide)).trans e132
  clear hk
  refine wpQuiet_step (fun K hK => ?_)
  have HF := hide F
  clear F
  go_simp
  refine hK _ ?_
  clear hK K
  have F := unhide HF
  clear HF
  clear e133
  refine quiet_into F (by have := unhide HSZ; omega) (by decide) ?_
  clear F
  intro a F hk e134
  replace e10 := (hk 10 (by decide)).trans e10
  replace e11 := (hk 11 (by decide)).trans e11
  replace e12 := (hk 12 (by decide)).trans e12
  replace e16 := (hk 16 (by decide)).trans e16
  replace e17 := (hk 17 (by decide)).trans e17
  replace e132 := (hk 132 (by decide)).trans e132
  clear hk
  refine wpQuiet_step (fun K hK => ?_)
  have HF := hide F
  clear F
  go_simp
  refine hK _ ?_
  clear hK K
  have F := unhide HF
  clear HF
  clear e132
  clear e134
  refine quiet_into F (by have := unhide HSZ; omega) (by decide) ?_
  clear F
  intro a F hk e135
  replace e10 := (hk 10 (by decide)).trans e10
  replace e11 := (hk 11 (by decide)).trans e11
  replace e12 := (hk 12 (by decide)).trans e12
  replace e16 := (hk 16 (by decide)).trans e16
  replace e17 := (hk 17 (by decide)).trans e17
  clear hk
  refine wpQuiet_step (fun K hK => ?_)
  have HF := hide F
  clear F
  go_simp
  refine hK _ ?_
  clear hK K
  have F := unhide HF
  clear HF
  clear e135
  refine quiet_into F (by have := unhide HSZ; omega) (by decide) ?_
  clear F
  intro a F hk e136
  replace e10 := (hk 10 (by decide)).trans e10
  replace e11 := (hk 11 (by decide)).trans e11
  replace e12 := (hk 12 (by decide)).trans e12
  replace e16 := (hk 16 (by decide)).trans e16
  replace e17 := (hk 17 (by decide)).trans e17
  clear hk
  refine wpQuiet_step (fun K hK => ?_)
  have HF := hide F
  clear F
  go_simp
  refine hK _ ?_
  clear hK K
  have F := unhide HF
  clear HF
  clear e11
  refine quiet_into F (by have := unhide HSZ; omega) (by decide) ?_
  clear F
  intro a F hk e137
  replace e10 := (hk 10 (by decide)).trans e10
  replace e12 := (hk 12 (by decide)).trans e12
  replace e16 := (hk 16 (by decide)).trans e16
  replace e17 := (hk 17 (by decide)).trans e17
  replace e136 := (hk 136 (by decide)).trans e136
  clear hk
  refine wpQuiet_step (fun K hK => ?_)
  have HF := hide F
  clear F
  go_simp
  refine hK _ ?_
  clear hK K
  have F := unhide HF
  clear HF
  clear e137
  refine quiet_into F (by have := unhide HSZ; omega) (by decide) ?_
  clear F
  intro a F hk e138
  replace e10 := (hk 10 (by decide)).trans e10
  replace e12 := (hk 12 (by decide)).trans e12
  replace e16 := (hk 16 (by decide)).trans e16
  replace e17 := (hk 17 (by decide)).trans e17
  replace e136 := (hk 136 (by decide)).trans e136
  clear hk
  refine wpQuiet_step (fun K hK => ?_)
  have HF := hide F
  clear F
  go_simp
  refine hK _ ?_
  clear hK K
  have F := unhide HF
  clear HF
  clear e136
  clear e138
  refine quiet_into F (by have := unhide HSZ; omega) (by decide) ?_
  clear F
  intro a F hk e139
  replace e10 := (hk 10 (by decide)).trans e10
  replace e12 := (hk 12 (by decide)).trans e12
  replace e16 := (hk 16 (by decide)).trans e16
  replace e17 := (hk 17 (by decide)).trans e17
  clear hk
  refine wpQuiet_step (fun K hK => ?_)
  have HF := hide F
  clear F
  go_simp
  refine hK _ ?_
  clear hK K
  have F := unhide HF
  clear HF
  clear e139
  refine quiet_into F (by have := unhide HSZ; omega) (by decide) ?_
  clear F
  intro a F hk e140
  replace e10 := (hk 10 (by decide)).trans e10
  replace e12 := (hk 12 (by decide)).trans e12
  replace e16 := (hk 16 (by decide)).trans e16
  replace e17 := (hk 17 (by decide)).trans e17
  clear hk
  refine wpQuiet_step (fun K hK => ?_)
  have HF := hide F
  clear F
  go_simp
  refine hK _ ?_
  clear hK K
  have F := unhide HF
  clear HF
  clear e10
  refine quiet_into F (by have := unhide HSZ; omega) (by decide) ?_
  clear F
  intro a F hk e141
  replace e12 := (hk 12 (by decide)).trans e12
  replace e16 := (hk 16 (by decide)).trans e16
  replace e17 := (hk 17 (by decide)).trans e17
  replace e140 := (hk 140 (by decide)).trans e140
  clear hk
  refine wpQuiet_step (fun K hK => ?_)
  have HF := hide F
  clear F
  go_simp
  refine hK _ ?_
  clear hK K
  have F := unhide HF
  clear HF
  clear e141
  refine quiet_into F (by have := unhide HSZ; omega) (by decide) ?_
  clear F
  intro a F hk e142
  replace e12 := (hk 12 (by decide)).trans e12
  replace e16 := (hk 16 (by decide)).trans e16
  replace e17 := (hk 17 (by decide)).trans e17
  replace e140 := (hk 140 (by decide)).trans e140
  clear hk
  refine wpQuiet_step (fun K hK => ?_)
  have HF := hide F
  clear F
  go_simp
  refine hK _ ?_
  clear hK K
  have F := unhide HF
  clear HF
  clear e142
  refine quiet_into F (by have := unhide HSZ; omega) (by decide) ?_
  clear F
  intro a F hk e143
  replace e12 := (hk 12 (by decide)).trans e12
  replace e16 := (hk 16 (by decide)).trans e16
  replace e17 := (hk 17 (by decide)).trans e17
  replace e140 := (hk 140 (by decide)).trans e140
  clear hk
  refine wpQuiet_step (fun K hK => ?_)
  have HF := hide F
  clear F
  go_simp
  refine hK _ ?_
  clear hK K
  have F := unhide HF
  clear HF
  clear e12
  refine quiet_into F (by have := unhide HSZ; omega) (by decide) ?_
  clear F
  intro a F hk e144
  replace e16 := (hk 16 (by decide)).trans e16
  replace e17 := (hk 17 (by decide)).trans e17
  replace e140 := (hk 140 (by decide)).trans e140
  replace e143 := (hk 143 (by decide)).trans e143
  clear hk
  refine wpQuiet_step (fun K hK => ?_)
  have HF := hide F
  clear F
  go_simp
  refine hK _ ?_
  clear hK K
  have F := unhide HF
  clear HF
  clear e144
  refine quiet_into F (by have := unhide HSZ; omega) (by decide) ?_
  clear F
  intro a F hk e145
  replace e16 := (hk 16 (by decide)).trans e16
  replace e17 := (hk 17 (by decide)).trans e17
  replace e140 := (hk 140 (by decide)).trans e140
  replace e143 := (hk 143 (by decide)).trans e143
  clear hk
  refine wpQuiet_step (fun K hK => ?_)
  have HF := hide F
  clear F
  go_simp
  refine hK _ ?_
  clear hK K
  have F := unhide HF
  clear HF
  clear e143
  clear e145
  refine quiet_into F (by have := unhide HSZ; omega) (by decide) ?_
  clear F
  intro a F hk e146
  replace e16 := (hk 16 (by decide)).trans e16
  replace e17 := (hk 17 (by decide)).trans e17
  replace e140 := (hk 140 (by decide)).trans e140
  clear hk
  refine wpQuiet_step (fun K hK => ?_)
  have HF := hide F
  clear F
  go_simp
  refine hK _ ?_
  clear hK K
  have F := unhide HF
  clear HF
  clear e140
  clear e146
  refine quiet_into F (by have := unhide HSZ; omega) (by decide) ?_
  clear F
  intro a F hk e147
  replace e16 := (hk 16 (by decide)).trans e16
  replace e17 := (hk 17 (by decide)).trans e17
  clear hk
  refine wpQuiet_step (fun K hK => ?_)
  have HF := hide F
  clear F
  go_simp
  refine hK _ ?_
  clear hK K
  have F := unhide HF
  clear HF
  clear e147
  refine quiet_into F (by have := unhide HSZ; omega) (by decide) ?_
  clear F
  intro a F hk e148
  replace e16 := (hk 16 (by decide)).trans e16
  replace e17 := (hk 17 (by decide)).trans e17
  clear hk
  refine wpQuiet_step (fun K hK => ?_)
  have HF := hide F
  clear F
  go_simp
  refine hK _ ?_
  clear hK K
  have F := unhide HF
  clear HF
  refine quiet_into F (by have := unhide HSZ; omega) (by decide) ?_
  clear F
  intro a F hk e149
  replace e16 := (hk 16 (by decide)).trans e16
  replace e17 := (hk 17 (by decide)).trans e17
  replace e148 := (hk 148 (by decide)).trans e148
  clear hk
  refine wpQuiet_step (fun K hK => ?_)
  have HF := hide F
  clear F
  go_simp
  refine hK _ ?_
  clear hK K
  have F := unhide HF
  clear HF
  clear e16
  refine quiet_into F (by have := unhide HSZ; omega) (by decide) ?_
  clear F
  intro a F hk e150
  replace e17 := (hk 17 (by decide)).trans e17
  replace e148 := (hk 148 (by decide)).trans e148
  replace e149 := (hk 149 (by decide)).trans e149
  clear hk
  refine wpQuiet_step (fun K hK => ?_)
  have HF := hide F
  clear F
  go_simp
  apply Exists.intro
  refine ⟨fun _ => ?_, hK _ ?_⟩
  · exact Calls.regrown_of (HN _ _)
  clear hK K
  have F := unhide HF
  clear HF
  clear e150
  refine quiet_into F (by have := unhide HSZ; omega) (by decide) ?_
  clear F
  intro a F hk e151
  replace e17 := (hk 17 (by decide)).trans e17
  replace e148 := (hk 148 (by decide)).trans e148
  replace e149 := (hk 149 (by decide)).trans e149
  clear hk
  refine wpQuiet_step (fun K hK => ?_)
  have HF := hide F
  clear F
  go_simp
  refine hK _ ?_
  clear hK K
  have F := unhide HF
  clear HF
  clear e149
  clear e151
  refine quiet_into F (by have := unhide HSZ; omega) (by decide) ?_
  clear F
  intro a F hk e152
  replace e17 := (hk 17 (by decide)).trans e17
  replace e148 := (hk 148 (by decide)).trans e148
  clear hk
  refine wpQuiet_step (fun K hK => ?_)
  have HF := hide F
  clear F
  go_simp
  refine hK _ ?_
  clear hK K
  have F := unhide HF
  clear HF
  clear e148
  clear e152
  refine quiet_into F (by have := unhide HSZ; omega) (by decide) ?_
  clear F
  intro a F hk e153
  replace e17 := (hk 17 (by decide)).trans e17
  clear hk
  refine wpQuiet_step (fun K hK => ?_)
  have HF := hide F
  clear F
  go_simp
  refine hK _ ?_
  clear hK K
  have F := unhide HF
  clear HF
  clear e153
  refine quiet_into F (by have := unhide HSZ; omega) (by decide) ?_
  clear F
  intro a F hk e154
  replace e17 := (hk 17 (by decide)).trans e17
  clear hk
  refine wpQuiet_step (fun K hK => ?_)
  have HF := hide F
  clear F
  go_simp
  refine hK _ ?_
  clear hK K
  have F := unhide HF
  clear HF
  refine quiet_into F (by have := unhide HSZ; omega) (by decide) ?_
  clear F
  intro a F hk e155
  replace e17 := (hk 17 (by decide)).trans e17
  replace e154 := (hk 154 (by decide)).trans e154
  clear hk
  refine wpQuiet_step (fun K hK => ?_)
  have HF := hide F
  clear F
  go_simp
  refine hK _ ?_
  clear hK K
  have F := unhide HF
  clear HF
  clear e155
  refine quiet_into F (by have := unhide HSZ; omega) (by decide) ?_
  clear F
  intro a F hk e156
  replace e17 := (hk 17 (by decide)).trans e17
  replace e154 := (hk 154 (by decide)).trans e154
  clear hk
  refine wpQuiet_step (fun K hK => ?_)
  have HF := hide F
  clear F
  go_simp
  refine hK _ ?_
  clear hK K
  have F := unhide HF
  clear HF
  clear e156
  refine quiet_into F (by have := unhide HSZ; omega) (by decide) ?_
  clear F
  intro a F hk e157
  replace e17 := (hk 17 (by decide)).trans e17
  replace e154 := (hk 154 (by decide)).trans e154
  clear hk
  refine wpQuiet_step (fun K hK => ?_)
  have HF := hide F
  clear F
  go_simp
  refine hK _ ?_
  clear hK K
  have F := unhide HF
  clear HF
  clear e154
  clear e157
  refine quiet_into F (by have := unhide HSZ; omega) (by decide) ?_
  clear F
  intro a F hk e158
  replace e17 := (hk 17 (by decide)).trans e17
  clear hk
  refine wpQuiet_step (fun K hK => ?_)
  have HF := hide F
  clear F
  go_simp
  refine hK _ ?_
  clear hK K
  have F := unhide HF
  clear HF
  clear e158
  refine quiet_into F (by have := unhide HSZ; omega) (by decide) ?_
  clear F
  intro a F hk e159
  replace e17 := (hk 17 (by decide)).trans e17
  clear hk
  refine wpQuiet_step (fun K hK => ?_)
  have HF := hide F
  clear F
  go_simp
  refine hK _ ?_
  clear hK K
  have F := unhide HF
  clear HF
  clear e17
  refine quiet_into F (by have := unhide HSZ; omega) (by decide) ?_
  clear F
  intro a F hk e160
  replace e159 := (hk 159 (by decide)).trans e159
  clear hk
  refine wpQuiet_step (fun K hK => ?_)
  have HF := hide F
  clear F
  go_simp
  refine hK _ ?_
  clear hK K
  have F := unhide HF
  clear HF
  clear e160
  refine quiet_into F (by have := unhide HSZ; omega) (by decide) ?_
  clear F
  intro a F hk e161
  replace e159 := (hk 159 (by decide)).trans e159
  clear hk
  refine wpQuiet_step (fun K hK => ?_)
  have HF := hide F
  clear F
  go_simp
  refine hK _ ?_
  clear hK K
  have F := unhide HF
  clear HF
  clear e159
  clear e161
  refine quiet_into F (by have := unhide HSZ; omega) (by decide) ?_
  clear F
  intro a F hk e162
  clear hk
  refine wpQuiet_step (fun K hK => ?_)
  have HF := hide F
  clear F
  go_simp
  refine hK _ ?_
  clear hK K
  have F := unhide HF
  clear HF
  clear e162
  refine quiet_into F (by have := unhide HSZ; omega) (by decide) ?_
  clear F
  intro a F hk e2
  clear hk
  refine wpQuiet_nil ?_
  intro W hw'
  obtain ⟨⟨dq, osq⟩, hw''⟩ := hw'
  subst hw''
  exact unhide HQ _ _ F.fr e2 (below_regrown w dq osq)
end Go.Proofs.YtpaedkefmebjjafDoor
