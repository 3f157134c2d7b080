/-
  Lists of records (three numbers each) as rows of numbers: sizes, copies, comparisons, marks.
-/
import Derived.Test.YtjcaligejlhjdaaGreatJ2
import Derived.Deep.OwnRows
namespace Go.Proofs.YtjcaligejlhjdaaGreat
set_option linter.unusedVariables false
set_option linter.unusedSimpArgs false
open Go.ChangeShapes Go.WideShapes Go.ChangeAt Go.RowKit
/-- A list of n records on blocks of a kind: 3 n numbers in a row. -/
structure RsOn (W : World) (D : Nat → Prop) (u : Value) (n : Nat) (f : Nat → Int) : Prop where
  ex : ∃ a c, u = .slice a n c ∧ (n ≤ 1048576 ∧ n ≤ c) ∧ RowOf .i64 W a (n * 3) f ∧ Free W (Foot a (n * 3)) ∧ ∀ b o, Foot a (n * 3) b o → D b
section
variable {R : Nat → Nat → Prop} {W W' : World} {D E : Nat → Prop} {u : Value} {n : Nat} {f : Nat → Int}
theorem RsOn.keep (H : RsOn W D u n f) (hw : Wrote R W W') (hd : ∀ b o, D b → b < W.heap.size → ¬ R b o) : RsOn W' D u n f := by
  obtain ⟨a, c, e, hn, hr, hF, hD⟩ := H
  exact ⟨a, c, e, hn, hr.keep hw (fun b o h => hd b o (hD b o h) (hF b o h).1), hF.keep hw, hD⟩
theorem RsOn.below (H : RsOn W D u n f) (L : Below W.heap.size W W') : RsOn W' D u n f := H.keep (wrote_below L Nowhere) (fun _ _ _ _ x => x)
theorem RsOn.mono (H : RsOn W D u n f) (hd : ∀ b, b < W.heap.size → D b → E b) : RsOn W E u n f := by
  obtain ⟨a, c, e, hn, hr, hF, hD⟩ := H
  exact ⟨a, c, e, hn, hr, hF, fun b o h => hd b (hF b o h).1 (hD b o h)⟩
theorem RsOn.two (H : RsOn W D u n f) : ∃ a c, u = .slice a n c := by
  obtain ⟨a, c, e, -⟩ := H
  exact ⟨a, c, e⟩
theorem RsOn.small (H : RsOn W D u n f) : n ≤ 1048576 := by
  obtain ⟨a, c, e, hn, -⟩ := H
  exact hn.1
/-- The three numbers of a record. -/
theorem RowOf.rec3 {W : World} {a : Option Addr} {n q : Nat} {f : Nat → Int} (h : RowOf .i64 W a (n * 3) f) (hq : q < n) : ∃ b off, a = some ⟨b, off, none⟩ ∧ W.cell? ⟨b, off + q * 3, none⟩ = some (.int .i64 (f (q * 3))) ∧ W.cell? ⟨b, off + q * 3 + 1, none⟩ = some (.int .i64 (f (q * 3 + 1))) ∧ W.cell? ⟨b, off + q * 3 + 2, none⟩ = some (.int .i64 (f (q * 3 + 2))) := by
  obtain ⟨b, off, rfl, h0⟩ := h (q * 3) (by omega)
  obtain ⟨b1, off1, e1, h1⟩ := h (q * 3 + 1) (by omega)
  obtain ⟨b2, off2, e2, h2⟩ := h (q * 3 + 2) (by omega)
  simp only [Option.some.injEq, Addr.mk.injEq, and_true] at e1 e2
  obtain ⟨rfl, rfl⟩ := e1
  obtain ⟨rfl, rfl⟩ := e2
  exact ⟨b, off, rfl, h0, h1, h2⟩
end
theorem infoRec : (Tryz.prog.info? 144).map (fun i => (i.zero, i.size, i.bytes)) = some (some (.agg #[.int .i64 0, .int .i64 0, .int .i64 0]), 3, 24) := by kernel_rfl
theorem szRecS (w : World) (a : Option Addr) (n c : Nat) (hn : n ≤ 9223372036854775807) (left : Int) (h0 : 0 ≤ left) (h1 : left ≤ 1048576) : Calls Tryz.prog 141 #[.slice a n c, .int .i64 left] w fun e w' => e = .returned (.int .i64 (szOut left n)) ∧ Below w.heap.size w w' := by
  by_cases h : left < (n : Int)
  · have HE := hide (szOut_no h)
    go_enter Tryz.func141, Tryz.ntmps141
    go_wp2
    go_ret
    exact ⟨ret_int HE.out.symm, Below.refl _ _⟩
  · have HE := hide (szOut_ok (show (n : Int) ≤ left by omega))
    go_enter Tryz.func141, Tryz.ntmps141
    go_wp2
    go_ret
    exact ⟨ret_int HE.out.symm, Below.refl _ _⟩
theorem szRing (w : World) (cap : Int) (a : Option Addr) (n c : Nat) (hn : n ≤ 9223372036854775807) (left : Int) (h0 : 0 ≤ left) (h1 : left ≤ 1048576) : Calls Tryz.prog 106 #[.agg #[.int .i64 cap, .slice a n c], .int .i64 left] w fun e w' => e = .returned (.int .i64 (szOut left n)) ∧ Below w.heap.size w w' := by
  have HS := hide (fun W => szRecS W a n c hn left h0 h1)
  obtain ⟨z, hz⟩ : ∃ z, Hid (z = szOut left n) := ⟨_, rfl⟩
  have hz' : z = -1 ∨ 0 ≤ z := by rw [hz.out]; unfold szOut; split <;> omega
  rw [← hz.out] at HS ⊢
  have L0 : Below w.heap.size w (w.alloc (.cells #[.int .i64 cap, .slice a n c] 64)) := (Below.refl _ _).alloc (Nat.le_refl _) _
  clear hz
  go_enter Tryz.func106, Tryz.ntmps106
  go_wp2_with fail
  refine (HS.out _).mono ?_
  rintro e W1 ⟨rfl, L⟩
  have C1 := below_snoc L0 L
  clear L L0
  rcases hz' with rfl | hz'
  · go_wp2
    go_ret
    exact ⟨rfl, C1⟩
  · have hz0 : ¬ (z < 0) := by omega
    go_wp2
    go_ret
    exact ⟨rfl, C1⟩
theorem toRec (w : World) (x y z : Int) : Calls Tryz.prog 162 #[.agg #[.int .i64 x, .int .i64 y, .int .i64 z]] w fun e w' => e = .returned (.agg #[.int .i64 x, .int .i64 y, .int .i64 z]) ∧ Below w.heap.size w w' := by
  go_enter Tryz.func162, Tryz.ntmps162
  go_wp2
  refine bodyPost_ret (v := .agg #[.int .i64 x, .int .i64 y, .int .i64 z]) (by simp [results, Tryz.results162, go_sem]) rfl ?_
  exact ⟨rfl, (((Below.refl _ _).alloc (Nat.le_refl _) _).alloc (by simp) _).alloc (by simp; omega) _⟩
theorem eqRec (w : World) (x y z : Int) : Calls Tryz.prog 161 #[.agg #[.int .i64 x, .int .i64 y, .int .i64 z], .agg #[.int .i64 x, .int .i64 y, .int .i64 z]] w fun e w' => e = .returned (.bool true) ∧ Below w.heap.size w w' := by
  have hx : (x != x) = false := by simp
  have hy : (y != y) = false := by simp
  have hz : (z != z) = false := by simp
  go_enter Tryz.func161, Tryz.ntmps161
  go_wp2
  go_ret
  exact ⟨rfl, ((Below.refl _ _).alloc (Nat.le_refl _) _).alloc (by simp) _⟩
theorem made3 (n j : Nat) (hj : j < n * 3) : (madeCells #[.int .i64 0, .int .i64 0, .int .i64 0] (n * 3))[j]? = some (.int .i64 0) := by
  have h3 : j % 3 = 0 ∨ j % 3 = 1 ∨ j % 3 = 2 := by omega
  have hm : (madeCells #[Value.int .i64 0, .int .i64 0, .int .i64 0] (n * 3))[j]? = some (#[Value.int .i64 0, .int .i64 0, .int .i64 0][j % 3]!) := by simp [madeCells, hj]
  rw [hm]
  rcases h3 with h | h | h <;> rw [h] <;> rfl
set_option maxHeartbeats 1000000 in
theorem toRecS (w : World) (a : Option Addr) (n cap : Nat) (f : Nat → Int) (hn : n ≤ 1048576) (H : RowOf .i64 w a (n * 3) f) :
    Calls Tryz.prog 142 #[.slice a n cap] w fun e w' => ∃ v, e = .returned v ∧ RsOn w' (fun b => w.heap.size ≤ b ∧ b < w'.heap.size) v n f ∧ Below w.heap.size w w' := by
  obtain ⟨i0, hi, hzz⟩ := Option.map_eq_some_iff.1 infoRec
  simp only [Prod.mk.injEq] at hzz
  obtain ⟨hz0, hz1, hz2⟩ := hzz
  have hmk : (Instr.makeSlice 36 (.int .i64 (n : Int)) (.int .i64 (n : Int))).run Tryz.prog w = .ok (.slice (some ⟨w.heap.size, 0, none⟩) n n) (w.alloc (.cells (madeCells #[.int .i64 0, .int .i64 0, .int .i64 0] (n * 3)) 144)) := by
    have hr := run_make (P := Tryz.prog) w 36 144 i0 _ Tryz.underlying36 hi hz0 .i64 .i64 n n (by omega) (Int.le_refl _) (by rw [hz2]; omega) (by omega)
    simp only [Int.toNat_natCast, hz1] at hr
    exact hr
  have R0 : (w.alloc (.cells (madeCells #[.int .i64 0, .int .i64 0, .int .i64 0] (n * 3)) 144)).rowIs w.heap.size 144 (n * 3) (fun _ => .int .i64 0) := ⟨_, box_new w _ _, size_madeCells _ _, fun j hj => made3 n j hj⟩
  have L0 : Below w.heap.size w (w.alloc (.cells (madeCells #[.int .i64 0, .int .i64 0, .int .i64 0] (n * 3)) 144)) := (Below.refl _ _).alloc (Nat.le_refl _) _
  have S0 : Hid ((w.alloc (.cells (madeCells #[.int .i64 0, .int .i64 0, .int .i64 0] (n * 3)) 144)).heap.size = w.heap.size + 1) := by show _ = _; simp
  clear hz0 hz1 hz2 hi
  go_enter Tryz.func142, Tryz.ntmps142
  go_wp2
  generalize w.alloc (.cells (madeCells #[.int .i64 0, .int .i64 0, .int .i64 0] (n * 3)) 144) = W0 at *
  go_loopw [4] (fun i wr => ∃ k : Nat, k ≤ n ∧ i = .int .i64 k ∧ wr.rowIs w.heap.size 144 (n * 3) (fun j => .int .i64 (if j < k * 3 then f j else 0)) ∧ w.heap.size < wr.heap.size ∧ Below w.heap.size w wr) (fun i _ => n - (intOf i).toNat)
  case atStart => exact ⟨0, Nat.zero_le _, rfl, R0.congr (fun i _ => by simp), by have := S0.out; omega, L0⟩
  case round =>
    obtain ⟨k, hk, rfl, hrow, hsz, hbel⟩ := hrel
    clear R0 L0 S0 hmk
    by_cases hlt : k < n
    · obtain ⟨b, off, rfl, q0, q1, q2⟩ := H.rec3 hlt
      have hb := block_lt_of_cell q0
      have s0 := (hbel.cell (p := ⟨b, off + k * 3, none⟩) hb).trans q0
      have s1 := (hbel.cell (p := ⟨b, off + k * 3 + 1, none⟩) hb).trans q1
      have s2 := (hbel.cell (p := ⟨b, off + k * 3 + 2, none⟩) hb).trans q2
      have hlt' : (k : Int) < (n : Int) := by omega
      have wq : IntKind.i64.wrap (k : Int) = k := by rw [IntKind.wrap_i64]; omega
      have HR := hide hrow
      clear hrow
      go_wp2_with fail
      refine (toRec _ _ _ _).mono ?_
      rintro e W2 ⟨rfl, L⟩
      have R2 := HR.out.of_block (L.block _ hsz)
      have d0 := R2.cell (i := k * 3) (by omega)
      have d1 := R2.cell (i := k * 3 + 1) (by omega)
      have d2 := R2.cell (i := k * 3 + 2) (by omega)
      have z0 := R2.frozen (k * 3)
      have z1 := R2.frozen (k * 3 + 1)
      have z2 := R2.frozen (k * 3 + 2)
      have RN := hide ((((R2.set (k * 3) (.int .i64 (f (k * 3)))).set (k * 3 + 1) (.int .i64 (f (k * 3 + 1)))).set (k * 3 + 2) (.int .i64 (f (k * 3 + 2)))).congr (g := fun j => .int .i64 (if j < (k + 1) * 3 then f j else 0)) (fun j _ => by
        by_cases e2 : j = k * 3 + 2
        · rw [if_pos e2, e2, if_pos (by omega)]
        · by_cases e1 : j = k * 3 + 1
          · rw [if_neg e2, if_pos e1, e1, if_pos (by omega)]
          · by_cases e0 : j = k * 3
            · rw [if_neg e2, if_neg e1, if_pos e0, e0, if_pos (by omega)]
            · rw [if_neg e2, if_neg e1, if_neg e0]
              by_cases h : j < k * 3
              · rw [if_pos h, if_pos (by omega)]
              · rw [if_neg h, if_neg (by omega)]))
      have CB := hide (below_snoc hbel L)
      have ls := L.size
      clear R2 HR L hbel
      go_wp2
      go_roundw
      case rel => exact ⟨k + 1, by omega, by go_num, RN.out, by simp; omega, ((CB.out.setCell (Nat.le_refl _) _).setCell (Nat.le_refl _) _).setCell (Nat.le_refl _) _⟩
      case measure => simp [intOf]; omega
    · have hlt' : ¬ (k : Int) < (n : Int) := by omega
      obtain rfl : k = n := by omega
      have HR := hide hrow
      clear hrow
      go_wp2
      go_ret
      refine ⟨_, rfl, ⟨_, _, rfl, ⟨hn, Nat.le_refl _⟩, fun i hi => ⟨_, _, rfl, ?_⟩, fun b o hF => ?_, fun b o hF => ?_⟩, hbel⟩
      · have := HR.out.cell hi
        rw [Nat.zero_add, this, if_pos hi]
      · obtain ⟨off, e, h1, h2⟩ := hF
        simp only [Option.some.injEq, Addr.mk.injEq, and_true] at e
        obtain ⟨rfl, rfl⟩ := e
        exact ⟨hsz, HR.out.frozen o⟩
      · obtain ⟨off, e, h1, h2⟩ := hF
        simp only [Option.some.injEq, Addr.mk.injEq, and_true] at e
        obtain ⟨rfl, rfl⟩ := e
        exact ⟨Nat.le_refl _, hsz⟩
end Go.Proofs.YtjcaligejlhjdaaGreat
