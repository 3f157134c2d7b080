/-
  Chapter 17: two consoles in step held against each other.
-/
import Derived.Test.YtmccplbfggcogaaKW
import Derived.Test.YtmccplbfggcogaaNB
import Derived.Laws.StructEq
import Derived.BigQuiet
namespace Go.Proofs.Ytmccplbfggcogaa
set_option linter.unusedVariables false
set_option linter.unusedSimpArgs false
open Go.ChangeShapes Go.WideShapes Go.ChangeAt Go.RowKit Go.Sort

def cpu17B (x0 y0 : Int) (x1 y1 : Int) (x2 y2 : Int) (x3 y3 : Int) (x4 y4 : Bool) (x5 y5 : Bool) (x6 y6 : Bool) (x7 y7 : Bool) : Bool := (x0 == y0) && ((x1 == y1) && ((x2 == y2) && ((x3 == y3) && ((x4 == y4) && ((x5 == y5) && ((x6 == y6) && ((x7 == y7))))))))
theorem cpu17_eql (x0 y0 : Int) (x1 y1 : Int) (x2 y2 : Int) (x3 y3 : Int) (x4 y4 : Bool) (x5 y5 : Bool) (x6 y6 : Bool) (x7 y7 : Bool) (W : World) : (binOp .eql 51 (.agg #[.int .i64 x0, .int .i64 x1, .int .i64 x2, .int .i64 x3, .bool x4, .bool x5, .bool x6, .bool x7]) (.agg #[.int .i64 y0, .int .i64 y1, .int .i64 y2, .int .i64 y3, .bool y4, .bool y5, .bool y6, .bool y7])).run Try.prog W = .ok (.bool (cpu17B x0 y0 x1 y1 x2 y2 x3 y3 x4 y4 x5 y5 x6 y6 x7 y7)) W := by
  obtain ⟨fs, hfs, hf⟩ : ∃ fs, Try.prog.underlying 51 = some (.struct fs) ∧ Try.prog.fieldsOf 51 = fs := ⟨_, Try.underlying51, by unfold Program.fieldsOf; rw [Try.underlying51]⟩
  have hu' : Try.prog.underlying 51 = some (.struct (Try.prog.fieldsOf 51)) := by rw [hf, hfs]
  rw [run_eql_struct, show (10000 : Nat) = 9999 + 1 from rfl, run_equalIn_agg W 9999 51 _ _ hu' (by kernel_rfl), hf]
  obtain rfl := TypeDesc.struct.inj (Option.some.inj (hfs.symm.trans Try.underlying51))
  unfold cpu17B
  simp [Op.eqFields, go_sem, Try.underlying3, Try.underlying4]
  repeat' split
  all_goals simp_all

def apu17B (x0 y0 : Int) (x1 y1 : Int) (x2 y2 : Int) (x3 y3 : Int) (x4 y4 : Int) (x5 y5 : Bool) (x6 y6 : Bool) : Bool := (x0 == y0) && ((x1 == y1) && ((x2 == y2) && ((x3 == y3) && ((x4 == y4) && ((x5 == y5) && ((x6 == y6)))))))
theorem apu17_eql (x0 y0 : Int) (x1 y1 : Int) (x2 y2 : Int) (x3 y3 : Int) (x4 y4 : Int) (x5 y5 : Bool) (x6 y6 : Bool) (W : World) : (binOp .eql 59 (.agg #[.int .i64 x0, .int .i64 x1, .int .i64 x2, .int .i64 x3, .int .i64 x4, .bool x5, .bool x6]) (.agg #[.int .i64 y0, .int .i64 y1, .int .i64 y2, .int .i64 y3, .int .i64 y4, .bool y5, .bool y6])).run Try.prog W = .ok (.bool (apu17B x0 y0 x1 y1 x2 y2 x3 y3 x4 y4 x5 y5 x6 y6)) W := by
  obtain ⟨fs, hfs, hf⟩ : ∃ fs, Try.prog.underlying 59 = some (.struct fs) ∧ Try.prog.fieldsOf 59 = fs := ⟨_, Try.underlying59, by unfold Program.fieldsOf; rw [Try.underlying59]⟩
  have hu' : Try.prog.underlying 59 = some (.struct (Try.prog.fieldsOf 59)) := by rw [hf, hfs]
  rw [run_eql_struct, show (10000 : Nat) = 9999 + 1 from rfl, run_equalIn_agg W 9999 59 _ _ hu' (by kernel_rfl), hf]
  obtain rfl := TypeDesc.struct.inj (Option.some.inj (hfs.symm.trans Try.underlying59))
  unfold apu17B
  simp [Op.eqFields, go_sem, Try.underlying3, Try.underlying4]
  repeat' split
  all_goals simp_all

def pad17B (x0 y0 : Bool) (x1 y1 : Int) : Bool := (x0 == y0) && ((x1 == y1))
theorem pad17_eql (x0 y0 : Bool) (x1 y1 : Int) (W : World) : (binOp .eql 52 (.agg #[.bool x0, .int .i64 x1]) (.agg #[.bool y0, .int .i64 y1])).run Try.prog W = .ok (.bool (pad17B x0 y0 x1 y1)) W := by
  obtain ⟨fs, hfs, hf⟩ : ∃ fs, Try.prog.underlying 52 = some (.struct fs) ∧ Try.prog.fieldsOf 52 = fs := ⟨_, Try.underlying52, by unfold Program.fieldsOf; rw [Try.underlying52]⟩
  have hu' : Try.prog.underlying 52 = some (.struct (Try.prog.fieldsOf 52)) := by rw [hf, hfs]
  rw [run_eql_struct, show (10000 : Nat) = 9999 + 1 from rfl, run_equalIn_agg W 9999 52 _ _ hu' (by kernel_rfl), hf]
  obtain rfl := TypeDesc.struct.inj (Option.some.inj (hfs.symm.trans Try.underlying52))
  unfold pad17B
  simp [Op.eqFields, go_sem, Try.underlying3, Try.underlying4]
  repeat' split
  all_goals simp_all

def ppuB (t0 c0 s0 ad0 pl0 : Int) (bl0 : Bool) (n0 : Nat) (f0 : Nat → Int) (m0 : Nat) (g0 : Nat → Int) (t1 c1 s1 ad1 pl1 : Int) (bl1 : Bool) (n1 : Nat) (f1 : Nat → Int) (m1 : Nat) (g1 : Nat → Int) : Bool := (t0 == t1) && ((c0 == c1) && ((s0 == s1) && ((ad0 == ad1) && ((pl0 == pl1) && ((bl0 == bl1) && (eqInts n0 n1 f0 f1 && eqInts m0 m1 g0 g1))))))

set_option maxHeartbeats 2000000 in
theorem specPpu17 (w : World) (D E : Nat → Prop) (v u : Value) (t0 c0 s0 ad0 pl0 : Int) (bl0 : Bool) (n0 : Nat) (f0 : Nat → Int) (m0 : Nat) (g0 : Nat → Int) (t1 c1 s1 ad1 pl1 : Int) (bl1 : Bool) (n1 : Nat) (f1 : Nat → Int) (m1 : Nat) (g1 : Nat → Int) (H : PpuOn w D v t0 c0 s0 ad0 pl0 bl0 n0 f0 m0 g0) (K : PpuOn w E u t1 c1 s1 ad1 pl1 bl1 n1 f1 m1 g1) :
    Calls Try.prog 68 #[v, u] w fun e w' => e = .returned (.bool (ppuB t0 c0 s0 ad0 pl0 bl0 n0 f0 m0 g0 t1 c1 s1 ad1 pl1 bl1 n1 f1 m1 g1)) ∧ Below w.heap.size w w' := by
  obtain ⟨a0, x0, b0, y0, rfl, h1, h2, -⟩ := H
  obtain ⟨a1, x1, b1, y1, rfl, k1, k2, -⟩ := K
  have L0 : Below w.heap.size w ((w.alloc (.cells #[.int .i64 t0, .int .i64 c0, .int .i64 s0, .int .i64 ad0, .int .i64 pl0, .bool bl0, .slice a0 n0 x0, .slice b0 m0 y0] 53)).alloc (.cells #[.int .i64 t1, .int .i64 c1, .int .i64 s1, .int .i64 ad1, .int .i64 pl1, .bool bl1, .slice a1 n1 x1, .slice b1 m1 y1] 53)) := ((Below.refl _ _).alloc (Nat.le_refl _) _).alloc (by simp) _
  have B0 : ((w.alloc (.cells #[.int .i64 t0, .int .i64 c0, .int .i64 s0, .int .i64 ad0, .int .i64 pl0, .bool bl0, .slice a0 n0 x0, .slice b0 m0 y0] 53)).alloc (.cells #[.int .i64 t1, .int .i64 c1, .int .i64 s1, .int .i64 ad1, .int .i64 pl1, .bool bl1, .slice a1 n1 x1, .slice b1 m1 y1] 53)).heap[w.heap.size]? = some (.cells #[.int .i64 t0, .int .i64 c0, .int .i64 s0, .int .i64 ad0, .int .i64 pl0, .bool bl0, .slice a0 n0 x0, .slice b0 m0 y0] 53 (0, 0)) := boxA (box_new w #[.int .i64 t0, .int .i64 c0, .int .i64 s0, .int .i64 ad0, .int .i64 pl0, .bool bl0, .slice a0 n0 x0, .slice b0 m0 y0] 53) _
  have B1 : ((w.alloc (.cells #[.int .i64 t0, .int .i64 c0, .int .i64 s0, .int .i64 ad0, .int .i64 pl0, .bool bl0, .slice a0 n0 x0, .slice b0 m0 y0] 53)).alloc (.cells #[.int .i64 t1, .int .i64 c1, .int .i64 s1, .int .i64 ad1, .int .i64 pl1, .bool bl1, .slice a1 n1 x1, .slice b1 m1 y1] 53)).heap[w.heap.size + 1]? = some (.cells #[.int .i64 t1, .int .i64 c1, .int .i64 s1, .int .i64 ad1, .int .i64 pl1, .bool bl1, .slice a1 n1 x1, .slice b1 m1 y1] 53 (0, 0)) := by simpa using box_new (w.alloc (.cells #[.int .i64 t0, .int .i64 c0, .int .i64 s0, .int .i64 ad0, .int .i64 pl0, .bool bl0, .slice a0 n0 x0, .slice b0 m0 y0] 53)) #[.int .i64 t1, .int .i64 c1, .int .i64 s1, .int .i64 ad1, .int .i64 pl1, .bool bl1, .slice a1 n1 x1, .slice b1 m1 y1] 53
  replace h1 := hide ((h1.ints x0).keep (wrote_below L0 Nowhere) (fun _ _ _ x => x))
  replace h2 := hide ((h2.ints y0).keep (wrote_below L0 Nowhere) (fun _ _ _ x => x))
  replace k1 := hide ((k1.ints x1).keep (wrote_below L0 Nowhere) (fun _ _ _ x => x))
  replace k2 := hide ((k2.ints y1).keep (wrote_below L0 Nowhere) (fun _ _ _ x => x))
  cases q0 : (t0 == t1)
  · go_enter Try.func68, Try.ntmps68
    go_wp2
    go_ret
    exact ⟨ret_bool (by simp only [ppuB, q0, Bool.true_and, Bool.false_and] : false = _), L0⟩
  cases q1 : (c0 == c1)
  · go_enter Try.func68, Try.ntmps68
    go_wp2
    go_ret
    exact ⟨ret_bool (by simp only [ppuB, q0, q1, Bool.true_and, Bool.false_and] : false = _), L0⟩
  cases q2 : (s0 == s1)
  · go_enter Try.func68, Try.ntmps68
    go_wp2
    go_ret
    exact ⟨ret_bool (by simp only [ppuB, q0, q1, q2, Bool.true_and, Bool.false_and] : false = _), L0⟩
  cases q3 : (ad0 == ad1)
  · go_enter Try.func68, Try.ntmps68
    go_wp2
    go_ret
    exact ⟨ret_bool (by simp only [ppuB, q0, q1, q2, q3, Bool.true_and, Bool.false_and] : false = _), L0⟩
  cases q4 : (pl0 == pl1)
  · go_enter Try.func68, Try.ntmps68
    go_wp2
    go_ret
    exact ⟨ret_bool (by simp only [ppuB, q0, q1, q2, q3, q4, Bool.true_and, Bool.false_and] : false = _), L0⟩
  cases q5 : (bl0 == bl1)
  · go_enter Try.func68, Try.ntmps68
    go_wp2
    go_ret
    exact ⟨ret_bool (by simp only [ppuB, q0, q1, q2, q3, q4, q5, Bool.true_and, Bool.false_and] : false = _), L0⟩
  go_enter Try.func68, Try.ntmps68
  go_wp2_with fail
  generalize ((w.alloc (.cells #[.int .i64 t0, .int .i64 c0, .int .i64 s0, .int .i64 ad0, .int .i64 pl0, .bool bl0, .slice a0 n0 x0, .slice b0 m0 y0] 53)).alloc (.cells #[.int .i64 t1, .int .i64 c1, .int .i64 s1, .int .i64 ad1, .int .i64 pl1, .bool bl1, .slice a1 n1 x1, .slice b1 m1 y1] 53)) = W0 at *
  have c_0 := boxC B0
  have c_1 := boxC B1
  clear B0 B1
  refine (specSame17 _ _ _ _ _ n0 n1 f0 f1 h1.out k1.out).mono ?_
  rintro e W1 ⟨rfl, d1, rfl⟩
  cases r1 : eqInts n0 n1 f0 f1
  · go_wp2
    go_ret
    exact ⟨ret_bool (by simp only [ppuB, q0, q1, q2, q3, q4, q5, r1, Bool.true_and, Bool.false_and] : false = _), by first | exact below_drewN L0 _ | exact L0⟩
  go_wp2_with fail
  refine (specSame17 _ _ _ _ _ m0 m1 g0 g1 (ints_drewN h2.out d1) (ints_drewN k2.out d1)).mono ?_
  rintro e W2 ⟨rfl, d2, rfl⟩
  cases r2 : eqInts m0 m1 g0 g1
  · go_wp2
    go_ret
    exact ⟨ret_bool (by simp only [ppuB, q0, q1, q2, q3, q4, q5, r1, r2, Bool.true_and, Bool.and_false] : false = _), by first | exact below_drewN L0 _ | exact L0 | exact below_drewN (below_drewN L0 _) _⟩
  go_wp2
  go_ret
  exact ⟨ret_bool (by simp only [ppuB, q0, q1, q2, q3, q4, q5, r1, r2, Bool.true_and, Bool.and_self] : true = _), by first | exact below_drewN L0 _ | exact L0 | exact below_drewN (below_drewN L0 _) _⟩

set_option maxHeartbeats 2000000 in
theorem implSamePpu (w : World) (D E : Nat → Prop) (v u : Value) (t0 c0 s0 ad0 pl0 : Int) (bl0 : Bool) (n0 : Nat) (f0 : Nat → Int) (m0 : Nat) (g0 : Nat → Int) (t1 c1 s1 ad1 pl1 : Int) (bl1 : Bool) (n1 : Nat) (f1 : Nat → Int) (m1 : Nat) (g1 : Nat → Int) (H : PpuOn w D v t0 c0 s0 ad0 pl0 bl0 n0 f0 m0 g0) (K : PpuOn w E u t1 c1 s1 ad1 pl1 bl1 n1 f1 m1 g1) :
    Calls Try.prog 72 #[v, u] w fun e w' => e = .returned (.bool (ppuB t0 c0 s0 ad0 pl0 bl0 n0 f0 m0 g0 t1 c1 s1 ad1 pl1 bl1 n1 f1 m1 g1)) ∧ Below w.heap.size w w' := by
  obtain ⟨a0, x0, b0, y0, rfl, h1, h2, -⟩ := H
  obtain ⟨a1, x1, b1, y1, rfl, k1, k2, -⟩ := K
  have L0 : Below w.heap.size w ((w.alloc (.cells #[.int .i64 t0, .int .i64 c0, .int .i64 s0, .int .i64 ad0, .int .i64 pl0, .bool bl0, .slice a0 n0 x0, .slice b0 m0 y0] 53)).alloc (.cells #[.int .i64 t1, .int .i64 c1, .int .i64 s1, .int .i64 ad1, .int .i64 pl1, .bool bl1, .slice a1 n1 x1, .slice b1 m1 y1] 53)) := ((Below.refl _ _).alloc (Nat.le_refl _) _).alloc (by simp) _
  have B0 : ((w.alloc (.cells #[.int .i64 t0, .int .i64 c0, .int .i64 s0, .int .i64 ad0, .int .i64 pl0, .bool bl0, .slice a0 n0 x0, .slice b0 m0 y0] 53)).alloc (.cells #[.int .i64 t1, .int .i64 c1, .int .i64 s1, .int .i64 ad1, .int .i64 pl1, .bool bl1, .slice a1 n1 x1, .slice b1 m1 y1] 53)).heap[w.heap.size]? = some (.cells #[.int .i64 t0, .int .i64 c0, .int .i64 s0, .int .i64 ad0, .int .i64 pl0, .bool bl0, .slice a0 n0 x0, .slice b0 m0 y0] 53 (0, 0)) := boxA (box_new w #[.int .i64 t0, .int .i64 c0, .int .i64 s0, .int .i64 ad0, .int .i64 pl0, .bool bl0, .slice a0 n0 x0, .slice b0 m0 y0] 53) _
  have B1 : ((w.alloc (.cells #[.int .i64 t0, .int .i64 c0, .int .i64 s0, .int .i64 ad0, .int .i64 pl0, .bool bl0, .slice a0 n0 x0, .slice b0 m0 y0] 53)).alloc (.cells #[.int .i64 t1, .int .i64 c1, .int .i64 s1, .int .i64 ad1, .int .i64 pl1, .bool bl1, .slice a1 n1 x1, .slice b1 m1 y1] 53)).heap[w.heap.size + 1]? = some (.cells #[.int .i64 t1, .int .i64 c1, .int .i64 s1, .int .i64 ad1, .int .i64 pl1, .bool bl1, .slice a1 n1 x1, .slice b1 m1 y1] 53 (0, 0)) := by simpa using box_new (w.alloc (.cells #[.int .i64 t0, .int .i64 c0, .int .i64 s0, .int .i64 ad0, .int .i64 pl0, .bool bl0, .slice a0 n0 x0, .slice b0 m0 y0] 53)) #[.int .i64 t1, .int .i64 c1, .int .i64 s1, .int .i64 ad1, .int .i64 pl1, .bool bl1, .slice a1 n1 x1, .slice b1 m1 y1] 53
  replace h1 := hide ((h1.ints x0).keep (wrote_below L0 Nowhere) (fun _ _ _ x => x))
  replace h2 := hide ((h2.ints y0).keep (wrote_below L0 Nowhere) (fun _ _ _ x => x))
  replace k1 := hide ((k1.ints x1).keep (wrote_below L0 Nowhere) (fun _ _ _ x => x))
  replace k2 := hide ((k2.ints y1).keep (wrote_below L0 Nowhere) (fun _ _ _ x => x))
  cases q0 : (t0 == t1)
  · go_enter Try.func72, Try.ntmps72
    go_wp2
    go_ret
    exact ⟨ret_bool (by simp only [ppuB, q0, Bool.true_and, Bool.false_and] : false = _), L0⟩
  cases q1 : (c0 == c1)
  · go_enter Try.func72, Try.ntmps72
    go_wp2
    go_ret
    exact ⟨ret_bool (by simp only [ppuB, q0, q1, Bool.true_and, Bool.false_and] : false = _), L0⟩
  cases q2 : (s0 == s1)
  · go_enter Try.func72, Try.ntmps72
    go_wp2
    go_ret
    exact ⟨ret_bool (by simp only [ppuB, q0, q1, q2, Bool.true_and, Bool.false_and] : false = _), L0⟩
  cases q3 : (ad0 == ad1)
  · go_enter Try.func72, Try.ntmps72
    go_wp2
    go_ret
    exact ⟨ret_bool (by simp only [ppuB, q0, q1, q2, q3, Bool.true_and, Bool.false_and] : false = _), L0⟩
  cases q4 : (pl0 == pl1)
  · go_enter Try.func72, Try.ntmps72
    go_wp2
    go_ret
    exact ⟨ret_bool (by simp only [ppuB, q0, q1, q2, q3, q4, Bool.true_and, Bool.false_and] : false = _), L0⟩
  cases q5 : (bl0 == bl1)
  · go_enter Try.func72, Try.ntmps72
    go_wp2
    go_ret
    exact ⟨ret_bool (by simp only [ppuB, q0, q1, q2, q3, q4, q5, Bool.true_and, Bool.false_and] : false = _), L0⟩
  go_enter Try.func72, Try.ntmps72
  go_wp2_with fail
  generalize ((w.alloc (.cells #[.int .i64 t0, .int .i64 c0, .int .i64 s0, .int .i64 ad0, .int .i64 pl0, .bool bl0, .slice a0 n0 x0, .slice b0 m0 y0] 53)).alloc (.cells #[.int .i64 t1, .int .i64 c1, .int .i64 s1, .int .i64 ad1, .int .i64 pl1, .bool bl1, .slice a1 n1 x1, .slice b1 m1 y1] 53)) = W0 at *
  have c_0 := boxC B0
  have c_1 := boxC B1
  clear B0 B1
  refine (implSameList _ _ _ _ _ n0 n1 f0 f1 h1.out k1.out).mono ?_
  rintro e W1 ⟨rfl, rfl⟩
  cases r1 : eqInts n0 n1 f0 f1
  · go_wp2
    go_ret
    exact ⟨ret_bool (by simp only [ppuB, q0, q1, q2, q3, q4, q5, r1, Bool.true_and, Bool.false_and] : false = _), by first | exact below_drewN L0 _ | exact L0⟩
  go_wp2_with fail
  refine (implSameList _ _ _ _ _ m0 m1 g0 g1 h2.out k2.out).mono ?_
  rintro e W2 ⟨rfl, rfl⟩
  cases r2 : eqInts m0 m1 g0 g1
  · go_wp2
    go_ret
    exact ⟨ret_bool (by simp only [ppuB, q0, q1, q2, q3, q4, q5, r1, r2, Bool.true_and, Bool.and_false] : false = _), by first | exact below_drewN L0 _ | exact L0 | exact below_drewN (below_drewN L0 _) _⟩
  go_wp2
  go_ret
  exact ⟨ret_bool (by simp only [ppuB, q0, q1, q2, q3, q4, q5, r1, r2, Bool.true_and, Bool.and_self] : true = _), by first | exact below_drewN L0 _ | exact L0 | exact below_drewN (below_drewN L0 _) _⟩

theorem implSameMem (w : World) (F G : Nat → Nat → Prop) (a0 a1 : Option Addr) (n0 x0 n1 x1 : Nat) (f0 f1 : Nat → Int) (k0 k1 : Int) (H : Ints .i64 w F (.slice a0 n0 x0) n0 f0) (K : Ints .i64 w G (.slice a1 n1 x1) n1 f1) :
    Calls Try.prog 71 #[.agg #[.slice a0 n0 x0, .int .i64 k0], .agg #[.slice a1 n1 x1, .int .i64 k1]] w fun e w' => e = .returned (.bool (eqInts n0 n1 f0 f1 && (k0 == k1))) ∧ Below w.heap.size w w' := by
  have L0 : Below w.heap.size w ((w.alloc (.cells #[.slice a0 n0 x0, .int .i64 k0] 50)).alloc (.cells #[.slice a1 n1 x1, .int .i64 k1] 50)) := ((Below.refl _ _).alloc (Nat.le_refl _) _).alloc (by simp) _
  have B0 : ((w.alloc (.cells #[.slice a0 n0 x0, .int .i64 k0] 50)).alloc (.cells #[.slice a1 n1 x1, .int .i64 k1] 50)).heap[w.heap.size]? = some (.cells #[.slice a0 n0 x0, .int .i64 k0] 50 (0, 0)) := boxA (box_new w #[.slice a0 n0 x0, .int .i64 k0] 50) _
  have B1 : ((w.alloc (.cells #[.slice a0 n0 x0, .int .i64 k0] 50)).alloc (.cells #[.slice a1 n1 x1, .int .i64 k1] 50)).heap[w.heap.size + 1]? = some (.cells #[.slice a1 n1 x1, .int .i64 k1] 50 (0, 0)) := by simpa using box_new (w.alloc (.cells #[.slice a0 n0 x0, .int .i64 k0] 50)) #[.slice a1 n1 x1, .int .i64 k1] 50
  have h1 := hide (H.keep (wrote_below L0 Nowhere) (fun _ _ _ x => x))
  have h2 := hide (K.keep (wrote_below L0 Nowhere) (fun _ _ _ x => x))
  clear H K
  cases q0 : (k0 == k1)
  · go_enter Try.func71, Try.ntmps71
    go_wp2
    go_ret
    exact ⟨ret_bool (by simp only [q0, Bool.and_false] : false = _), L0⟩
  go_enter Try.func71, Try.ntmps71
  go_wp2_with fail
  refine (implSameList _ _ _ _ _ n0 n1 f0 f1 h1.out h2.out).mono ?_
  rintro e W1 ⟨rfl, rfl⟩
  go_wp2
  go_ret
  exact ⟨ret_bool (by simp only [q0, Bool.and_true] : eqInts n0 n1 f0 f1 = _), L0⟩

def obD (d : LockD) : ObD := ⟨d.mf, d.lf, d.fr, d.ns, d.sm, d.nq, d.rd⟩
def cpuLB (a b : LockD) : Bool := cpu17B a.A b.A a.X b.X a.S b.S a.Pc b.Pc a.Z b.Z a.N b.N a.C b.C a.I b.I
def ppuLB (a b : LockD) : Bool := ppuB a.t a.c a.s a.ad a.pl a.bl a.nt a.tb a.nd a.dt b.t b.c b.s b.ad b.pl b.bl b.nt b.tb b.nd b.dt
def apuLB (a b : LockD) : Bool := apu17B a.T b.T a.P b.P a.K b.K a.B b.B a.L b.L a.Q b.Q a.R b.R
def padLB (a b : LockD) : Bool := pad17B a.hd b.hd a.sh b.sh
def lockB (a b : LockD) : Bool := (eqInts a.nr b.nr a.g b.g && (a.bank == b.bank)) && (cpuLB a b && (ppuLB a b && (apuLB a b && (padLB a b && ((a.nmi == b.nmi) && ((a.st == b.st) && obsSame (obD a) (obD b)))))))
theorem MemOn.ints17 {W : World} {D : Nat → Prop} {u : Value} {k : Int} {n : Nat} {f : Nat → Int} (H : MemOn W D (.agg #[u, .int .i64 k]) n f k) : ∃ a c, u = .slice a n c ∧ Ints .i64 W (On D) u n f := by
  obtain ⟨a, c, e, hn, hr, hF, hD⟩ := H
  have e1 : u = .slice a n c := by simpa using e
  subst e1
  exact ⟨a, c, rfl, a, c, rfl, hn, hr, hD⟩

set_option maxRecDepth 40000 in
set_option maxHeartbeats 8000000 in
theorem specLockSame (w : World) (D E : Nat → Nat → Prop) (v u : Value) (a b : LockD) (H : LockOn w D v a) (K : LockOn w E u b) :
    Calls Try.prog 23 #[v, u] w fun e w' => e = .returned (.bool (lockB a b)) ∧ Below w.heap.size w w' := by
  obtain ⟨u0, u1, u2, u3, u4, u5, u6, u7, rfl, -, -, h2, h3, h4⟩ := H
  obtain ⟨v0, v1, v2, v3, v4, v5, v6, v7, rfl, -, -, k2, k3, k4⟩ := K
  obtain ⟨ua, ux, rfl, j2⟩ := h2.ints17
  obtain ⟨va, vx, rfl, l2⟩ := k2.ints17
  clear h2 k2
  have L0 : Below w.heap.size w ((w.alloc (.cells #[u0, u1, .slice ua a.nr ux, .int .i64 a.bank, .int .i64 a.A, .int .i64 a.X, .int .i64 a.S, .int .i64 a.Pc, .bool a.Z, .bool a.N, .bool a.C, .bool a.I, .int .i64 a.t, .int .i64 a.c, .int .i64 a.s, .int .i64 a.ad, .int .i64 a.pl, .bool a.bl, u3, u4, .int .i64 a.T, .int .i64 a.P, .int .i64 a.K, .int .i64 a.B, .int .i64 a.L, .bool a.Q, .bool a.R, .bool a.hd, .int .i64 a.sh, .bool a.nmi, .int .i64 a.st, u5, u6, u7] 79)).alloc (.cells #[v0, v1, .slice va b.nr vx, .int .i64 b.bank, .int .i64 b.A, .int .i64 b.X, .int .i64 b.S, .int .i64 b.Pc, .bool b.Z, .bool b.N, .bool b.C, .bool b.I, .int .i64 b.t, .int .i64 b.c, .int .i64 b.s, .int .i64 b.ad, .int .i64 b.pl, .bool b.bl, v3, v4, .int .i64 b.T, .int .i64 b.P, .int .i64 b.K, .int .i64 b.B, .int .i64 b.L, .bool b.Q, .bool b.R, .bool b.hd, .int .i64 b.sh, .bool b.nmi, .int .i64 b.st, v5, v6, v7] 79)) := ((Below.refl _ _).alloc (Nat.le_refl _) _).alloc (by simp) _
  have B0 : ((w.alloc (.cells #[u0, u1, .slice ua a.nr ux, .int .i64 a.bank, .int .i64 a.A, .int .i64 a.X, .int .i64 a.S, .int .i64 a.Pc, .bool a.Z, .bool a.N, .bool a.C, .bool a.I, .int .i64 a.t, .int .i64 a.c, .int .i64 a.s, .int .i64 a.ad, .int .i64 a.pl, .bool a.bl, u3, u4, .int .i64 a.T, .int .i64 a.P, .int .i64 a.K, .int .i64 a.B, .int .i64 a.L, .bool a.Q, .bool a.R, .bool a.hd, .int .i64 a.sh, .bool a.nmi, .int .i64 a.st, u5, u6, u7] 79)).alloc (.cells #[v0, v1, .slice va b.nr vx, .int .i64 b.bank, .int .i64 b.A, .int .i64 b.X, .int .i64 b.S, .int .i64 b.Pc, .bool b.Z, .bool b.N, .bool b.C, .bool b.I, .int .i64 b.t, .int .i64 b.c, .int .i64 b.s, .int .i64 b.ad, .int .i64 b.pl, .bool b.bl, v3, v4, .int .i64 b.T, .int .i64 b.P, .int .i64 b.K, .int .i64 b.B, .int .i64 b.L, .bool b.Q, .bool b.R, .bool b.hd, .int .i64 b.sh, .bool b.nmi, .int .i64 b.st, v5, v6, v7] 79)).heap[w.heap.size]? = some (.cells #[u0, u1, .slice ua a.nr ux, .int .i64 a.bank, .int .i64 a.A, .int .i64 a.X, .int .i64 a.S, .int .i64 a.Pc, .bool a.Z, .bool a.N, .bool a.C, .bool a.I, .int .i64 a.t, .int .i64 a.c, .int .i64 a.s, .int .i64 a.ad, .int .i64 a.pl, .bool a.bl, u3, u4, .int .i64 a.T, .int .i64 a.P, .int .i64 a.K, .int .i64 a.B, .int .i64 a.L, .bool a.Q, .bool a.R, .bool a.hd, .int .i64 a.sh, .bool a.nmi, .int .i64 a.st, u5, u6, u7] 79 (0, 0)) := boxA (box_new w #[u0, u1, .slice ua a.nr ux, .int .i64 a.bank, .int .i64 a.A, .int .i64 a.X, .int .i64 a.S, .int .i64 a.Pc, .bool a.Z, .bool a.N, .bool a.C, .bool a.I, .int .i64 a.t, .int .i64 a.c, .int .i64 a.s, .int .i64 a.ad, .int .i64 a.pl, .bool a.bl, u3, u4, .int .i64 a.T, .int .i64 a.P, .int .i64 a.K, .int .i64 a.B, .int .i64 a.L, .bool a.Q, .bool a.R, .bool a.hd, .int .i64 a.sh, .bool a.nmi, .int .i64 a.st, u5, u6, u7] 79) _
  have B1 : ((w.alloc (.cells #[u0, u1, .slice ua a.nr ux, .int .i64 a.bank, .int .i64 a.A, .int .i64 a.X, .int .i64 a.S, .int .i64 a.Pc, .bool a.Z, .bool a.N, .bool a.C, .bool a.I, .int .i64 a.t, .int .i64 a.c, .int .i64 a.s, .int .i64 a.ad, .int .i64 a.pl, .bool a.bl, u3, u4, .int .i64 a.T, .int .i64 a.P, .int .i64 a.K, .int .i64 a.B, .int .i64 a.L, .bool a.Q, .bool a.R, .bool a.hd, .int .i64 a.sh, .bool a.nmi, .int .i64 a.st, u5, u6, u7] 79)).alloc (.cells #[v0, v1, .slice va b.nr vx, .int .i64 b.bank, .int .i64 b.A, .int .i64 b.X, .int .i64 b.S, .int .i64 b.Pc, .bool b.Z, .bool b.N, .bool b.C, .bool b.I, .int .i64 b.t, .int .i64 b.c, .int .i64 b.s, .int .i64 b.ad, .int .i64 b.pl, .bool b.bl, v3, v4, .int .i64 b.T, .int .i64 b.P, .int .i64 b.K, .int .i64 b.B, .int .i64 b.L, .bool b.Q, .bool b.R, .bool b.hd, .int .i64 b.sh, .bool b.nmi, .int .i64 b.st, v5, v6, v7] 79)).heap[w.heap.size + 1]? = some (.cells #[v0, v1, .slice va b.nr vx, .int .i64 b.bank, .int .i64 b.A, .int .i64 b.X, .int .i64 b.S, .int .i64 b.Pc, .bool b.Z, .bool b.N, .bool b.C, .bool b.I, .int .i64 b.t, .int .i64 b.c, .int .i64 b.s, .int .i64 b.ad, .int .i64 b.pl, .bool b.bl, v3, v4, .int .i64 b.T, .int .i64 b.P, .int .i64 b.K, .int .i64 b.B, .int .i64 b.L, .bool b.Q, .bool b.R, .bool b.hd, .int .i64 b.sh, .bool b.nmi, .int .i64 b.st, v5, v6, v7] 79 (0, 0)) := by simpa using box_new (w.alloc (.cells #[u0, u1, .slice ua a.nr ux, .int .i64 a.bank, .int .i64 a.A, .int .i64 a.X, .int .i64 a.S, .int .i64 a.Pc, .bool a.Z, .bool a.N, .bool a.C, .bool a.I, .int .i64 a.t, .int .i64 a.c, .int .i64 a.s, .int .i64 a.ad, .int .i64 a.pl, .bool a.bl, u3, u4, .int .i64 a.T, .int .i64 a.P, .int .i64 a.K, .int .i64 a.B, .int .i64 a.L, .bool a.Q, .bool a.R, .bool a.hd, .int .i64 a.sh, .bool a.nmi, .int .i64 a.st, u5, u6, u7] 79)) #[v0, v1, .slice va b.nr vx, .int .i64 b.bank, .int .i64 b.A, .int .i64 b.X, .int .i64 b.S, .int .i64 b.Pc, .bool b.Z, .bool b.N, .bool b.C, .bool b.I, .int .i64 b.t, .int .i64 b.c, .int .i64 b.s, .int .i64 b.ad, .int .i64 b.pl, .bool b.bl, v3, v4, .int .i64 b.T, .int .i64 b.P, .int .i64 b.K, .int .i64 b.B, .int .i64 b.L, .bool b.Q, .bool b.R, .bool b.hd, .int .i64 b.sh, .bool b.nmi, .int .i64 b.st, v5, v6, v7] 79
  replace j2 := hide (j2.keep (wrote_below L0 Nowhere) (fun _ _ _ x => x))
  replace l2 := hide (l2.keep (wrote_below L0 Nowhere) (fun _ _ _ x => x))
  replace h3 := hide (h3.keep (wrote_below L0 Nowhere) (fun _ _ _ _ x => x))
  replace k3 := hide (k3.keep (wrote_below L0 Nowhere) (fun _ _ _ _ x => x))
  replace h4 := hide (show ObA _ _ _ (obD a) from h4.keep (wrote_below L0 Nowhere) (fun _ _ _ _ _ _ x => x))
  replace k4 := hide (show ObA _ _ _ (obD b) from k4.keep (wrote_below L0 Nowhere) (fun _ _ _ _ _ _ x => x))
  have ec : ∀ W, (binOp .eql 51 (.agg #[.int .i64 a.A, .int .i64 a.X, .int .i64 a.S, .int .i64 a.Pc, .bool a.Z, .bool a.N, .bool a.C, .bool a.I]) (.agg #[.int .i64 b.A, .int .i64 b.X, .int .i64 b.S, .int .i64 b.Pc, .bool b.Z, .bool b.N, .bool b.C, .bool b.I])).run Try.prog W = .ok (.bool (cpuLB a b)) W := fun W => cpu17_eql a.A b.A a.X b.X a.S b.S a.Pc b.Pc a.Z b.Z a.N b.N a.C b.C a.I b.I W
  have ea : ∀ W, (binOp .eql 59 (.agg #[.int .i64 a.T, .int .i64 a.P, .int .i64 a.K, .int .i64 a.B, .int .i64 a.L, .bool a.Q, .bool a.R]) (.agg #[.int .i64 b.T, .int .i64 b.P, .int .i64 b.K, .int .i64 b.B, .int .i64 b.L, .bool b.Q, .bool b.R])).run Try.prog W = .ok (.bool (apuLB a b)) W := fun W => apu17_eql a.T b.T a.P b.P a.K b.K a.B b.B a.L b.L a.Q b.Q a.R b.R W
  have ep : ∀ W, (binOp .eql 52 (.agg #[.bool a.hd, .int .i64 a.sh]) (.agg #[.bool b.hd, .int .i64 b.sh])).run Try.prog W = .ok (.bool (padLB a b)) W := fun W => pad17_eql a.hd b.hd a.sh b.sh W
  go_enter Try.func23, Try.ntmps23
  go_wp2_with fail
  generalize ((w.alloc (.cells #[u0, u1, .slice ua a.nr ux, .int .i64 a.bank, .int .i64 a.A, .int .i64 a.X, .int .i64 a.S, .int .i64 a.Pc, .bool a.Z, .bool a.N, .bool a.C, .bool a.I, .int .i64 a.t, .int .i64 a.c, .int .i64 a.s, .int .i64 a.ad, .int .i64 a.pl, .bool a.bl, u3, u4, .int .i64 a.T, .int .i64 a.P, .int .i64 a.K, .int .i64 a.B, .int .i64 a.L, .bool a.Q, .bool a.R, .bool a.hd, .int .i64 a.sh, .bool a.nmi, .int .i64 a.st, u5, u6, u7] 79)).alloc (.cells #[v0, v1, .slice va b.nr vx, .int .i64 b.bank, .int .i64 b.A, .int .i64 b.X, .int .i64 b.S, .int .i64 b.Pc, .bool b.Z, .bool b.N, .bool b.C, .bool b.I, .int .i64 b.t, .int .i64 b.c, .int .i64 b.s, .int .i64 b.ad, .int .i64 b.pl, .bool b.bl, v3, v4, .int .i64 b.T, .int .i64 b.P, .int .i64 b.K, .int .i64 b.B, .int .i64 b.L, .bool b.Q, .bool b.R, .bool b.hd, .int .i64 b.sh, .bool b.nmi, .int .i64 b.st, v5, v6, v7] 79)) = W0 at *
  have c_0 := hide (boxC B0)
  have c_1 := hide (boxC B1)
  refine (specSame17 _ _ _ _ _ a.nr b.nr a.g b.g j2.out l2.out).mono ?_
  rintro e W1 ⟨rfl, d1, rfl⟩
  have L := below_drewN (Below.refl W0.heap.size W0) d1
  generalize W0.drewN d1 = W1 at *
  replace L0 := below_snoc L0 L
  replace B0 := box_keep B0 L (boxLt B0)
  replace B1 := box_keep B1 L (boxLt B1)
  clear c_0 c_1
  have c_0 := hide (boxC B0)
  have c_1 := hide (boxC B1)
  replace h3 := hide (h3.out.keep (wrote_below L Nowhere) (fun _ _ _ _ x => x))
  replace k3 := hide (k3.out.keep (wrote_below L Nowhere) (fun _ _ _ _ x => x))
  replace h4 := hide (ObsOn.below (show ObA _ _ _ _ from h4.out) L)
  replace k4 := hide (ObsOn.below (show ObA _ _ _ _ from k4.out) L)
  clear L
  cases r0 : eqInts a.nr b.nr a.g b.g
  · have d_0 := c_0.out
    have d_1 := c_1.out
    go_wp2
    go_ret
    exact ⟨ret_bool (by simp only [lockB, r0, Bool.true_and, Bool.false_and, Bool.and_false, Bool.and_true, Bool.and_self] : false = _), L0⟩
  cases r1 : (a.bank == b.bank)
  · have d_0 := c_0.out
    have d_1 := c_1.out
    go_wp2
    go_ret
    exact ⟨ret_bool (by simp only [lockB, r0, r1, Bool.true_and, Bool.false_and, Bool.and_false, Bool.and_true, Bool.and_self] : false = _), L0⟩
  cases r2 : cpuLB a b
  · have d_0 := c_0.out
    have d_1 := c_1.out
    go_wp2
    go_ret
    exact ⟨ret_bool (by simp only [lockB, r0, r1, r2, Bool.true_and, Bool.false_and, Bool.and_false, Bool.and_true, Bool.and_self] : false = _), L0⟩
  have d_0 := c_0.out
  have d_1 := c_1.out
  go_wp2_with fail
  clear d_0 d_1
  refine (specPpu17 _ _ _ _ _ _ _ _ _ _ _ _ _ _ _ _ _ _ _ _ _ _ _ _ _ h3.out k3.out).mono ?_
  rintro e W2 ⟨rfl, L⟩
  clear h3 k3
  replace L0 := below_snoc L0 L
  replace B0 := box_keep B0 L (boxLt B0)
  replace B1 := box_keep B1 L (boxLt B1)
  clear c_0 c_1
  have c_0 := hide (boxC B0)
  have c_1 := hide (boxC B1)
  replace h4 := hide (ObsOn.below (show ObA _ _ _ _ from h4.out) L)
  replace k4 := hide (ObsOn.below (show ObA _ _ _ _ from k4.out) L)
  clear L
  have rp := hide (show ppuB a.t a.c a.s a.ad a.pl a.bl a.nt a.tb a.nd a.dt b.t b.c b.s b.ad b.pl b.bl b.nt b.tb b.nd b.dt = ppuLB a b from rfl)
  rw [rp.out]
  clear rp
  cases r3 : ppuLB a b
  · have d_0 := c_0.out
    have d_1 := c_1.out
    go_wp2
    go_ret
    exact ⟨ret_bool (by simp only [lockB, r0, r1, r2, r3, Bool.true_and, Bool.false_and, Bool.and_false, Bool.and_true, Bool.and_self] : false = _), L0⟩
  cases r4 : apuLB a b
  · have d_0 := c_0.out
    have d_1 := c_1.out
    go_wp2
    go_ret
    exact ⟨ret_bool (by simp only [lockB, r0, r1, r2, r3, r4, Bool.true_and, Bool.false_and, Bool.and_false, Bool.and_true, Bool.and_self] : false = _), L0⟩
  cases r5 : padLB a b
  · have d_0 := c_0.out
    have d_1 := c_1.out
    go_wp2
    go_ret
    exact ⟨ret_bool (by simp only [lockB, r0, r1, r2, r3, r4, r5, Bool.true_and, Bool.false_and, Bool.and_false, Bool.and_true, Bool.and_self] : false = _), L0⟩
  cases r6 : (a.nmi == b.nmi)
  · have d_0 := c_0.out
    have d_1 := c_1.out
    go_wp2
    go_ret
    exact ⟨ret_bool (by simp only [lockB, r0, r1, r2, r3, r4, r5, r6, Bool.true_and, Bool.false_and, Bool.and_false, Bool.and_true, Bool.and_self] : false = _), L0⟩
  cases r7 : (a.st == b.st)
  · have d_0 := c_0.out
    have d_1 := c_1.out
    go_wp2
    go_ret
    exact ⟨ret_bool (by simp only [lockB, r0, r1, r2, r3, r4, r5, r6, r7, Bool.true_and, Bool.false_and, Bool.and_false, Bool.and_true, Bool.and_self] : false = _), L0⟩
  have d_0 := c_0.out
  have d_1 := c_1.out
  go_wp2_with fail
  clear d_0 d_1
  refine (specObsSame _ _ _ _ _ (obD a) (obD b) h4.out k4.out).mono ?_
  rintro e W3 ⟨rfl, L⟩
  replace L0 := below_snoc L0 L
  go_wp2
  go_ret
  exact ⟨ret_bool (by simp only [lockB, r0, r1, r2, r3, r4, r5, r6, r7, Bool.true_and, Bool.false_and, Bool.and_false, Bool.and_true, Bool.and_self] : obsSame (obD a) (obD b) = _), L0⟩

set_option maxRecDepth 40000 in
set_option maxHeartbeats 8000000 in
theorem implLockSame (w : World) (D E : Nat → Nat → Prop) (v u : Value) (a b : LockD) (H : LockOn w D v a) (K : LockOn w E u b) :
    Calls Try.prog 25 #[v, u] w fun e w' => e = .returned (.bool (lockB a b)) ∧ Below w.heap.size w w' := by
  obtain ⟨u0, u1, u2, u3, u4, u5, u6, u7, rfl, -, -, h2, h3, h4⟩ := H
  obtain ⟨v0, v1, v2, v3, v4, v5, v6, v7, rfl, -, -, k2, k3, k4⟩ := K
  obtain ⟨ua, ux, rfl, j2⟩ := h2.ints17
  obtain ⟨va, vx, rfl, l2⟩ := k2.ints17
  clear h2 k2
  have L0 : Below w.heap.size w ((w.alloc (.cells #[u0, u1, .slice ua a.nr ux, .int .i64 a.bank, .int .i64 a.A, .int .i64 a.X, .int .i64 a.S, .int .i64 a.Pc, .bool a.Z, .bool a.N, .bool a.C, .bool a.I, .int .i64 a.t, .int .i64 a.c, .int .i64 a.s, .int .i64 a.ad, .int .i64 a.pl, .bool a.bl, u3, u4, .int .i64 a.T, .int .i64 a.P, .int .i64 a.K, .int .i64 a.B, .int .i64 a.L, .bool a.Q, .bool a.R, .bool a.hd, .int .i64 a.sh, .bool a.nmi, .int .i64 a.st, u5, u6, u7] 79)).alloc (.cells #[v0, v1, .slice va b.nr vx, .int .i64 b.bank, .int .i64 b.A, .int .i64 b.X, .int .i64 b.S, .int .i64 b.Pc, .bool b.Z, .bool b.N, .bool b.C, .bool b.I, .int .i64 b.t, .int .i64 b.c, .int .i64 b.s, .int .i64 b.ad, .int .i64 b.pl, .bool b.bl, v3, v4, .int .i64 b.T, .int .i64 b.P, .int .i64 b.K, .int .i64 b.B, .int .i64 b.L, .bool b.Q, .bool b.R, .bool b.hd, .int .i64 b.sh, .bool b.nmi, .int .i64 b.st, v5, v6, v7] 79)) := ((Below.refl _ _).alloc (Nat.le_refl _) _).alloc (by simp) _
  have B0 : ((w.alloc (.cells #[u0, u1, .slice ua a.nr ux, .int .i64 a.bank, .int .i64 a.A, .int .i64 a.X, .int .i64 a.S, .int .i64 a.Pc, .bool a.Z, .bool a.N, .bool a.C, .bool a.I, .int .i64 a.t, .int .i64 a.c, .int .i64 a.s, .int .i64 a.ad, .int .i64 a.pl, .bool a.bl, u3, u4, .int .i64 a.T, .int .i64 a.P, .int .i64 a.K, .int .i64 a.B, .int .i64 a.L, .bool a.Q, .bool a.R, .bool a.hd, .int .i64 a.sh, .bool a.nmi, .int .i64 a.st, u5, u6, u7] 79)).alloc (.cells #[v0, v1, .slice va b.nr vx, .int .i64 b.bank, .int .i64 b.A, .int .i64 b.X, .int .i64 b.S, .int .i64 b.Pc, .bool b.Z, .bool b.N, .bool b.C, .bool b.I, .int .i64 b.t, .int .i64 b.c, .int .i64 b.s, .int .i64 b.ad, .int .i64 b.pl, .bool b.bl, v3, v4, .int .i64 b.T, .int .i64 b.P, .int .i64 b.K, .int .i64 b.B, .int .i64 b.L, .bool b.Q, .bool b.R, .bool b.hd, .int .i64 b.sh, .bool b.nmi, .int .i64 b.st, v5, v6, v7] 79)).heap[w.heap.size]? = some (.cells #[u0, u1, .slice ua a.nr ux, .int .i64 a.bank, .int .i64 a.A, .int .i64 a.X, .int .i64 a.S, .int .i64 a.Pc, .bool a.Z, .bool a.N, .bool a.C, .bool a.I, .int .i64 a.t, .int .i64 a.c, .int .i64 a.s, .int .i64 a.ad, .int .i64 a.pl, .bool a.bl, u3, u4, .int .i64 a.T, .int .i64 a.P, .int .i64 a.K, .int .i64 a.B, .int .i64 a.L, .bool a.Q, .bool a.R, .bool a.hd, .int .i64 a.sh, .bool a.nmi, .int .i64 a.st, u5, u6, u7] 79 (0, 0)) := boxA (box_new w #[u0, u1, .slice ua a.nr ux, .int .i64 a.bank, .int .i64 a.A, .int .i64 a.X, .int .i64 a.S, .int .i64 a.Pc, .bool a.Z, .bool a.N, .bool a.C, .bool a.I, .int .i64 a.t, .int .i64 a.c, .int .i64 a.s, .int .i64 a.ad, .int .i64 a.pl, .bool a.bl, u3, u4, .int .i64 a.T, .int .i64 a.P, .int .i64 a.K, .int .i64 a.B, .int .i64 a.L, .bool a.Q, .bool a.R, .bool a.hd, .int .i64 a.sh, .bool a.nmi, .int .i64 a.st, u5, u6, u7] 79) _
  have B1 : ((w.alloc (.cells #[u0, u1, .slice ua a.nr ux, .int .i64 a.bank, .int .i64 a.A, .int .i64 a.X, .int .i64 a.S, .int .i64 a.Pc, .bool a.Z, .bool a.N, .bool a.C, .bool a.I, .int .i64 a.t, .int .i64 a.c, .int .i64 a.s, .int .i64 a.ad, .int .i64 a.pl, .bool a.bl, u3, u4, .int .i64 a.T, .int .i64 a.P, .int .i64 a.K, .int .i64 a.B, .int .i64 a.L, .bool a.Q, .bool a.R, .bool a.hd, .int .i64 a.sh, .bool a.nmi, .int .i64 a.st, u5, u6, u7] 79)).alloc (.cells #[v0, v1, .slice va b.nr vx, .int .i64 b.bank, .int .i64 b.A, .int .i64 b.X, .int .i64 b.S, .int .i64 b.Pc, .bool b.Z, .bool b.N, .bool b.C, .bool b.I, .int .i64 b.t, .int .i64 b.c, .int .i64 b.s, .int .i64 b.ad, .int .i64 b.pl, .bool b.bl, v3, v4, .int .i64 b.T, .int .i64 b.P, .int .i64 b.K, .int .i64 b.B, .int .i64 b.L, .bool b.Q, .bool b.R, .bool b.hd, .int .i64 b.sh, .bool b.nmi, .int .i64 b.st, v5, v6, v7] 79)).heap[w.heap.size + 1]? = some (.cells #[v0, v1, .slice va b.nr vx, .int .i64 b.bank, .int .i64 b.A, .int .i64 b.X, .int .i64 b.S, .int .i64 b.Pc, .bool b.Z, .bool b.N, .bool b.C, .bool b.I, .int .i64 b.t, .int .i64 b.c, .int .i64 b.s, .int .i64 b.ad, .int .i64 b.pl, .bool b.bl, v3, v4, .int .i64 b.T, .int .i64 b.P, .int .i64 b.K, .int .i64 b.B, .int .i64 b.L, .bool b.Q, .bool b.R, .bool b.hd, .int .i64 b.sh, .bool b.nmi, .int .i64 b.st, v5, v6, v7] 79 (0, 0)) := by simpa using box_new (w.alloc (.cells #[u0, u1, .slice ua a.nr ux, .int .i64 a.bank, .int .i64 a.A, .int .i64 a.X, .int .i64 a.S, .int .i64 a.Pc, .bool a.Z, .bool a.N, .bool a.C, .bool a.I, .int .i64 a.t, .int .i64 a.c, .int .i64 a.s, .int .i64 a.ad, .int .i64 a.pl, .bool a.bl, u3, u4, .int .i64 a.T, .int .i64 a.P, .int .i64 a.K, .int .i64 a.B, .int .i64 a.L, .bool a.Q, .bool a.R, .bool a.hd, .int .i64 a.sh, .bool a.nmi, .int .i64 a.st, u5, u6, u7] 79)) #[v0, v1, .slice va b.nr vx, .int .i64 b.bank, .int .i64 b.A, .int .i64 b.X, .int .i64 b.S, .int .i64 b.Pc, .bool b.Z, .bool b.N, .bool b.C, .bool b.I, .int .i64 b.t, .int .i64 b.c, .int .i64 b.s, .int .i64 b.ad, .int .i64 b.pl, .bool b.bl, v3, v4, .int .i64 b.T, .int .i64 b.P, .int .i64 b.K, .int .i64 b.B, .int .i64 b.L, .bool b.Q, .bool b.R, .bool b.hd, .int .i64 b.sh, .bool b.nmi, .int .i64 b.st, v5, v6, v7] 79
  replace j2 := hide (j2.keep (wrote_below L0 Nowhere) (fun _ _ _ x => x))
  replace l2 := hide (l2.keep (wrote_below L0 Nowhere) (fun _ _ _ x => x))
  replace h3 := hide (h3.keep (wrote_below L0 Nowhere) (fun _ _ _ _ x => x))
  replace k3 := hide (k3.keep (wrote_below L0 Nowhere) (fun _ _ _ _ x => x))
  replace h4 := hide (show ObA _ _ _ (obD a) from h4.keep (wrote_below L0 Nowhere) (fun _ _ _ _ _ _ x => x))
  replace k4 := hide (show ObA _ _ _ (obD b) from k4.keep (wrote_below L0 Nowhere) (fun _ _ _ _ _ _ x => x))
  have ec : ∀ W, (binOp .eql 51 (.agg #[.int .i64 a.A, .int .i64 a.X, .int .i64 a.S, .int .i64 a.Pc, .bool a.Z, .bool a.N, .bool a.C, .bool a.I]) (.agg #[.int .i64 b.A, .int .i64 b.X, .int .i64 b.S, .int .i64 b.Pc, .bool b.Z, .bool b.N, .bool b.C, .bool b.I])).run Try.prog W = .ok (.bool (cpuLB a b)) W := fun W => cpu17_eql a.A b.A a.X b.X a.S b.S a.Pc b.Pc a.Z b.Z a.N b.N a.C b.C a.I b.I W
  have ea : ∀ W, (binOp .eql 59 (.agg #[.int .i64 a.T, .int .i64 a.P, .int .i64 a.K, .int .i64 a.B, .int .i64 a.L, .bool a.Q, .bool a.R]) (.agg #[.int .i64 b.T, .int .i64 b.P, .int .i64 b.K, .int .i64 b.B, .int .i64 b.L, .bool b.Q, .bool b.R])).run Try.prog W = .ok (.bool (apuLB a b)) W := fun W => apu17_eql a.T b.T a.P b.P a.K b.K a.B b.B a.L b.L a.Q b.Q a.R b.R W
  have ep : ∀ W, (binOp .eql 52 (.agg #[.bool a.hd, .int .i64 a.sh]) (.agg #[.bool b.hd, .int .i64 b.sh])).run Try.prog W = .ok (.bool (padLB a b)) W := fun W => pad17_eql a.hd b.hd a.sh b.sh W
  go_enter Try.func25, Try.ntmps25
  go_wp2_with fail
  generalize ((w.alloc (.cells #[u0, u1, .slice ua a.nr ux, .int .i64 a.bank, .int .i64 a.A, .int .i64 a.X, .int .i64 a.S, .int .i64 a.Pc, .bool a.Z, .bool a.N, .bool a.C, .bool a.I, .int .i64 a.t, .int .i64 a.c, .int .i64 a.s, .int .i64 a.ad, .int .i64 a.pl, .bool a.bl, u3, u4, .int .i64 a.T, .int .i64 a.P, .int .i64 a.K, .int .i64 a.B, .int .i64 a.L, .bool a.Q, .bool a.R, .bool a.hd, .int .i64 a.sh, .bool a.nmi, .int .i64 a.st, u5, u6, u7] 79)).alloc (.cells #[v0, v1, .slice va b.nr vx, .int .i64 b.bank, .int .i64 b.A, .int .i64 b.X, .int .i64 b.S, .int .i64 b.Pc, .bool b.Z, .bool b.N, .bool b.C, .bool b.I, .int .i64 b.t, .int .i64 b.c, .int .i64 b.s, .int .i64 b.ad, .int .i64 b.pl, .bool b.bl, v3, v4, .int .i64 b.T, .int .i64 b.P, .int .i64 b.K, .int .i64 b.B, .int .i64 b.L, .bool b.Q, .bool b.R, .bool b.hd, .int .i64 b.sh, .bool b.nmi, .int .i64 b.st, v5, v6, v7] 79)) = W0 at *
  have c_0 := hide (boxC B0)
  have c_1 := hide (boxC B1)
  refine (implSameMem _ _ _ _ _ _ _ _ _ a.g b.g a.bank b.bank j2.out l2.out).mono ?_
  rintro e W1 ⟨rfl, L⟩
  replace L0 := below_snoc L0 L
  replace B0 := box_keep B0 L (boxLt B0)
  replace B1 := box_keep B1 L (boxLt B1)
  clear c_0 c_1
  have c_0 := hide (boxC B0)
  have c_1 := hide (boxC B1)
  replace h3 := hide (h3.out.keep (wrote_below L Nowhere) (fun _ _ _ _ x => x))
  replace k3 := hide (k3.out.keep (wrote_below L Nowhere) (fun _ _ _ _ x => x))
  replace h4 := hide (ObsOn.below (show ObA _ _ _ _ from h4.out) L)
  replace k4 := hide (ObsOn.below (show ObA _ _ _ _ from k4.out) L)
  clear L
  cases r0 : (eqInts a.nr b.nr a.g b.g && (a.bank == b.bank))
  · have d_0 := c_0.out
    have d_1 := c_1.out
    go_wp2
    go_ret
    exact ⟨ret_bool (by simp only [lockB, r0, Bool.true_and, Bool.false_and, Bool.and_false, Bool.and_true, Bool.and_self] : false = _), L0⟩
  cases r2 : cpuLB a b
  · have d_0 := c_0.out
    have d_1 := c_1.out
    go_wp2
    go_ret
    exact ⟨ret_bool (by simp only [lockB, r0, r2, Bool.true_and, Bool.false_and, Bool.and_false, Bool.and_true, Bool.and_self] : false = _), L0⟩
  have d_0 := c_0.out
  have d_1 := c_1.out
  go_wp2_with fail
  clear d_0 d_1
  refine (implSamePpu _ _ _ _ _ _ _ _ _ _ _ _ _ _ _ _ _ _ _ _ _ _ _ _ _ h3.out k3.out).mono ?_
  rintro e W2 ⟨rfl, L⟩
  clear h3 k3
  replace L0 := below_snoc L0 L
  replace B0 := box_keep B0 L (boxLt B0)
  replace B1 := box_keep B1 L (boxLt B1)
  clear c_0 c_1
  have c_0 := hide (boxC B0)
  have c_1 := hide (boxC B1)
  replace h4 := hide (ObsOn.below (show ObA _ _ _ _ from h4.out) L)
  replace k4 := hide (ObsOn.below (show ObA _ _ _ _ from k4.out) L)
  clear L
  have rp := hide (show ppuB a.t a.c a.s a.ad a.pl a.bl a.nt a.tb a.nd a.dt b.t b.c b.s b.ad b.pl b.bl b.nt b.tb b.nd b.dt = ppuLB a b from rfl)
  rw [rp.out]
  clear rp
  cases r3 : ppuLB a b
  · have d_0 := c_0.out
    have d_1 := c_1.out
    go_wp2
    go_ret
    exact ⟨ret_bool (by simp only [lockB, r0, r2, r3, Bool.true_and, Bool.false_and, Bool.and_false, Bool.and_true, Bool.and_self] : false = _), L0⟩
  cases r4 : apuLB a b
  · have d_0 := c_0.out
    have d_1 := c_1.out
    go_wp2
    go_ret
    exact ⟨ret_bool (by simp only [lockB, r0, r2, r3, r4, Bool.true_and, Bool.false_and, Bool.and_false, Bool.and_true, Bool.and_self] : false = _), L0⟩
  cases r5 : padLB a b
  · have d_0 := c_0.out
    have d_1 := c_1.out
    go_wp2
    go_ret
    exact ⟨ret_bool (by simp only [lockB, r0, r2, r3, r4, r5, Bool.true_and, Bool.false_and, Bool.and_false, Bool.and_true, Bool.and_self] : false = _), L0⟩
  cases r6 : (a.nmi == b.nmi)
  · have d_0 := c_0.out
    have d_1 := c_1.out
    go_wp2
    go_ret
    exact ⟨ret_bool (by simp only [lockB, r0, r2, r3, r4, r5, r6, Bool.true_and, Bool.false_and, Bool.and_false, Bool.and_true, Bool.and_self] : false = _), L0⟩
  cases r7 : (a.st == b.st)
  · have d_0 := c_0.out
    have d_1 := c_1.out
    go_wp2
    go_ret
    exact ⟨ret_bool (by simp only [lockB, r0, r2, r3, r4, r5, r6, r7, Bool.true_and, Bool.false_and, Bool.and_false, Bool.and_true, Bool.and_self] : false = _), L0⟩
  have d_0 := c_0.out
  have d_1 := c_1.out
  go_wp2_with fail
  clear d_0 d_1
  refine (implObsSame _ _ _ _ _ (obD a) (obD b) h4.out k4.out).mono ?_
  rintro e W3 ⟨rfl, L⟩
  replace L0 := below_snoc L0 L
  go_wp2
  go_ret
  exact ⟨ret_bool (by simp only [lockB, r0, r2, r3, r4, r5, r6, r7, Bool.true_and, Bool.false_and, Bool.and_false, Bool.and_true, Bool.and_self] : obsSame (obD a) (obD b) = _), L0⟩

end Go.Proofs.Ytmccplbfggcogaa
