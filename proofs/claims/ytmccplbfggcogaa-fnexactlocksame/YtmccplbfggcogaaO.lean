/-
  Arguments opened: what the reading of an integer slice, a slice of such slices, an image says of memory.
-/
import Derived.Test.YtmccplbfggcogaaS2
import Derived.ChangeOld
import Derived.ShutString
import Derived.Lib.SmallJoins
import Derived.Lib.LaidTab
namespace Go.Proofs.Ytmccplbfggcogaa
set_option maxRecDepth 20000
open Go.ChangeShapes Go.WideShapes Go.ChangeAt Go.RowKit
section
variable {H : Type} {enc : TypeId × Value → H} {P : Program} {w : World} {base : Nat} {spare : Nat → Bool} {held : Bool}
theorem raw_ints {t e : TypeId} {k : IntKind} {fuel : Nat} {cs : List Value} {x : DataW H × List MemPlace} (ht : P.underlying t = some (.slice e)) (he : P.underlying e = some (.int k)) (hc : P.cellsOf e = 1)
    (h : DataW.trod enc P w base spare held fuel t cs = some x) :
    ∃ (a : Option Addr) (n cap : Nat) (f : Nat → Int), cs = [.slice a n cap] ∧ n ≤ 9223372036854775807 ∧ RowOf k w a n f ∧ ∀ i, i < n → (Lit.int k (f i)).wf = true := by
  rcases open_ints ht he hc h with ⟨rfl, _⟩ | ⟨⟨b, off, spot⟩, n, cap, zs, rfl, _, hl, hm, hz, _, hcell, hw⟩
  · exact ⟨none, 0, 0, fun _ => 0, rfl, by omega, fun i hi => absurd hi (Nat.not_lt_zero _), fun i hi => absurd hi (Nat.not_lt_zero _)⟩
  · have hnz : n ≤ zs.length := by rw [hz]; split <;> omega
    refine ⟨some ⟨b, off, spot⟩, n, cap, fun i => zs.getD i 0, rfl, by unfold maxLen at hm; omega, fun i hi => ?_, fun i hi => hw _ ?_⟩
    · have hs : spot = none := by simpa [Addr.add] using World.cell?_spot (hcell 0 (by omega))
      subst hs
      refine ⟨b, off, rfl, ?_⟩
      have := hcell i (by omega)
      unfold Addr.add at this
      split at this
      · rename_i h0
        subst h0
        exact this
      · exact this
    · show zs.getD i 0 ∈ zs
      rw [List.getD_eq_getElem?_getD, List.getElem?_eq_getElem (by omega)]
      exact List.getElem_mem _
theorem openInts {t e : TypeId} {k : IntKind} {a : Option Addr} {n cap : Nat} {d : DataW H} {p : List MemPlace} (ht : P.underlying t = some (.slice e)) (he : P.underlying e = some (.int k)) (hc : P.cellsOf e = 1)
    (h : DataW.Trod enc P w base spare held t (.slice a n cap) d p) : ∃ f : Nat → Int, n ≤ 9223372036854775807 ∧ RowOf k w a n f ∧ ∀ i, i < n → (Lit.int k (f i)).wf = true := by
  obtain ⟨fuel, hf⟩ := h
  obtain ⟨a', n', c', f, e, r⟩ := raw_ints ht he hc hf
  simp [Value.cells] at e
  obtain ⟨rfl, rfl, rfl⟩ := e
  exact ⟨f, r⟩
theorem cells1 {a : Addr} {cs : List Value} (h : w.cells? base a 1 = some cs) : ∃ u, cs = [u] ∧ w.cell? a = some u := by
  unfold World.cells? at h
  split at h
  · simp [List.range_succ, Addr.add] at h
    cases hc : w.cell? a with
    | none => simp [hc] at h
    | some u =>
      simp [hc] at h
      exact ⟨u, h.symm, rfl⟩
  · cases h
theorem array1 {cs : Array Value} (h : cs.size = 1) : ∃ c0, cs = #[c0] := by
  rcases cs with ⟨l⟩
  match l, h with
  | [c0], _ => exact ⟨c0, rfl⟩
theorem raw_rows {t e : TypeId} {fuel : Nat} {cs : List Value} {x : DataW H × List MemPlace} (ht : P.underlying t = some (.slice e)) (hc : P.cellsOf e = 1)
    (h : DataW.trod enc P w base spare held fuel t cs = some x) :
    ∃ (a : Option Addr) (n cap fuel' : Nat), cs = [.slice a n cap] ∧ n ≤ 9223372036854775807 ∧ ∀ i, i < n → ∃ b off u y, a = some ⟨b, off, none⟩ ∧ w.cell? ⟨b, off + i, none⟩ = some u ∧ DataW.trod enc P w base spare held fuel' e [u] = some y := by
  rcases Deep.open_slice ht h with ⟨rfl, _⟩ | ⟨⟨b, off, spot⟩, n, cap, m, fu, D, Pl, rfl, _, hl, hm, he, _, hel⟩
  · exact ⟨none, 0, 0, 0, rfl, by omega, fun i hi => absurd hi (Nat.not_lt_zero _)⟩
  · have hnm : n ≤ m := by rw [he]; split <;> omega
    refine ⟨some ⟨b, off, spot⟩, n, cap, fu, rfl, by unfold maxLen at hm; omega, fun i hi => ?_⟩
    obtain ⟨cs0, h0, _⟩ := hel 0 (by omega)
    obtain ⟨csi, h1, h2⟩ := hel i (by omega)
    rw [hc, Nat.mul_one] at h0 h1
    obtain ⟨u0, rfl, c0⟩ := cells1 h0
    obtain ⟨u, rfl, c1⟩ := cells1 h1
    have hs : spot = none := by simpa [Addr.add] using World.cell?_spot c0
    subst hs
    refine ⟨b, off, u, _, rfl, ?_, h2⟩
    unfold Addr.add at c1
    split at c1
    · rename_i h0
      subst h0
      exact c1
    · exact c1
theorem raw_intss {t e g : TypeId} {fuel : Nat} {cs : List Value} {x : DataW H × List MemPlace} (ht : P.underlying t = some (.slice e)) (hc : P.cellsOf e = 1) (he : P.underlying e = some (.slice g)) (hg : P.underlying g = some (.int .i64)) (hcg : P.cellsOf g = 1)
    (h : DataW.trod enc P w base spare held fuel t cs = some x) :
    ∃ (v : Value) (m : Nat) (ra : Nat → Option Addr) (ln rc : Nat → Nat) (f : Nat → Nat → Int), cs = [v] ∧ RawSS w v m ra ln rc f := by
  obtain ⟨a, m, cap, fu, rfl, hm, hrow⟩ := raw_rows ht hc h
  have key : ∀ i, ∃ q : Option Addr × Nat × Nat × (Nat → Int), i < m → (∃ b off, a = some ⟨b, off, none⟩ ∧ w.cell? ⟨b, off + i, none⟩ = some (.slice q.1 q.2.1 q.2.2.1)) ∧ q.2.1 ≤ 9223372036854775807 ∧ RowOf .i64 w q.1 q.2.1 q.2.2.2 ∧ ∀ j, j < q.2.1 → (Lit.int .i64 (q.2.2.2 j)).wf = true := by
    intro i
    by_cases hi : i < m
    · obtain ⟨b, off, u, y, ha, hcell, hu⟩ := hrow i hi
      obtain ⟨a', n, c', f, e, hn, hr, hw⟩ := raw_ints he hg hcg hu
      simp only [List.cons.injEq, and_true] at e
      subst e
      exact ⟨(a', n, c', f), fun _ => ⟨⟨b, off, ha, hcell⟩, hn, hr, hw⟩⟩
    · exact ⟨(none, 0, 0, fun _ => 0), fun h => absurd h hi⟩
  obtain ⟨q, hq⟩ := Classical.skolem.1 key
  exact ⟨_, m, fun i => (q i).1, fun i => (q i).2.1, fun i => (q i).2.2.1, fun i => (q i).2.2.2, rfl, ⟨⟨a, cap, rfl, hm, fun i hi => (hq i hi).1⟩, fun i hi => (hq i hi).2⟩⟩
theorem raw_int {t : TypeId} {k : IntKind} {fuel : Nat} {cs : List Value} {x : DataW H × List MemPlace} (ht : P.underlying t = some (.int k)) (h : DataW.trod enc P w base spare held fuel t cs = some x) : ∃ z, cs = [.int k z] ∧ (Lit.int k z).wf = true := by
  cases fuel with
  | zero => simp [DataW.trod] at h
  | succ n =>
    simp only [DataW.trod, ht] at h
    split at h <;> simp_all
theorem raw_bool {t : TypeId} {fuel : Nat} {cs : List Value} {x : DataW H × List MemPlace} (ht : P.underlying t = some .bool) (h : DataW.trod enc P w base spare held fuel t cs = some x) : ∃ b, cs = [.bool b] := by
  cases fuel with
  | zero => simp [DataW.trod] at h
  | succ n =>
    simp only [DataW.trod, ht] at h
    split at h <;> simp_all
theorem raw_string {t : TypeId} {fuel : Nat} {cs : List Value} {x : DataW H × List MemPlace} (ht : P.underlying t = some .string) (h : DataW.trod enc P w base spare held fuel t cs = some x) : ∃ s : ByteArray, cs = [.string s] ∧ s.size ≤ maxLen := by
  cases fuel with
  | zero => simp [DataW.trod] at h
  | succ n =>
    simp only [DataW.trod, ht] at h
    split at h <;> simp_all
theorem trod_fields {t : TypeId} {fs : Array Field} {fuel : Nat} {cs : List Value} {x : DataW H × List MemPlace} (ht : P.underlying t = some (.struct fs)) (h : DataW.trod enc P w base spare held fuel t cs = some x) :
    ∃ n, cs.length = P.cellsOf t ∧ ∀ (j : Nat) (f : Field), fs.toList[j]? = some f → ∃ y, DataW.trod enc P w base spare held n f.type ((cs.drop f.offset).take (P.cellsOf f.type)) = some y := by
  cases fuel with
  | zero => simp [DataW.trod] at h
  | succ n =>
    simp only [DataW.trod, ht] at h
    split at h
    · rename_i hl
      obtain ⟨xs, hm, _⟩ := Option.map_eq_some_iff.1 h
      exact ⟨n, hl, fun j f hj => by obtain ⟨b, _, hf⟩ := Lib.mapM_at hm j f hj; exact ⟨b, hf⟩⟩
    · cases h
end
theorem open_Cpu {H : Type} {enc : TypeId × Value → H} {w : World} {base : Nat} {spare : Nat → Bool} {held : Bool} {r : Reach} {b0 : Nat} {v : Value} {d : DataW H} {p : List MemPlace}
    (hv : Value.okWide Try.prog w r b0 29 v) (h : DataW.Trod enc Try.prog w base spare held 29 v d p) :
    ∃ (a0A : Int) (a0X : Int) (a0S : Int) (a0Pc : Int) (a0Z : Bool) (a0N : Bool) (a0C : Bool) (a0I : Bool), v = .agg #[.int .i64 a0A, .int .i64 a0X, .int .i64 a0S, .int .i64 a0Pc, .bool a0Z, .bool a0N, .bool a0C, .bool a0I] ∧ ((Lit.int .i64 a0A).wf = true) ∧ ((Lit.int .i64 a0X).wf = true) ∧ ((Lit.int .i64 a0S).wf = true) ∧ ((Lit.int .i64 a0Pc).wf = true) := by
  obtain ⟨cs, rfl, hsz⟩ := okWide_struct Try.underlying29 hv
  obtain ⟨fuel, hf⟩ := h
  have hC : Try.prog.cellsOf 29 = 8 := by kernel_rfl
  rw [hC] at hsz
  obtain ⟨e0, e1, e2, e3, e4, e5, e6, e7, rfl⟩ : ∃ e0 e1 e2 e3 e4 e5 e6 e7, cs = #[e0, e1, e2, e3, e4, e5, e6, e7] := by
    rcases cs with ⟨l⟩
    match l, hsz with
    | [e0, e1, e2, e3, e4, e5, e6, e7], _ => exact ⟨_, _, _, _, _, _, _, _, rfl⟩
  have hf' : DataW.trod enc Try.prog w base spare held fuel 29 [e0, e1, e2, e3, e4, e5, e6, e7] = some (d, p) := hf
  obtain ⟨fu1, hl1, hF1⟩ := trod_fields Try.underlying29 hf'
  obtain ⟨y2, g2⟩ := hF1 0 _ rfl
  have k2 : DataW.trod enc Try.prog w base spare held fu1 3 [e0] = some y2 := by
    rw [show Try.prog.cellsOf 3 = 1 by kernel_rfl] at g2
    exact g2
  obtain ⟨a0A, q0A, w0A⟩ := raw_int Try.underlying3 k2
  simp only [List.cons.injEq, and_true] at q0A
  subst q0A
  obtain ⟨y3, g3⟩ := hF1 1 _ rfl
  have k3 : DataW.trod enc Try.prog w base spare held fu1 3 [e1] = some y3 := by
    rw [show Try.prog.cellsOf 3 = 1 by kernel_rfl] at g3
    exact g3
  obtain ⟨a0X, q0X, w0X⟩ := raw_int Try.underlying3 k3
  simp only [List.cons.injEq, and_true] at q0X
  subst q0X
  obtain ⟨y4, g4⟩ := hF1 2 _ rfl
  have k4 : DataW.trod enc Try.prog w base spare held fu1 3 [e2] = some y4 := by
    rw [show Try.prog.cellsOf 3 = 1 by kernel_rfl] at g4
    exact g4
  obtain ⟨a0S, q0S, w0S⟩ := raw_int Try.underlying3 k4
  simp only [List.cons.injEq, and_true] at q0S
  subst q0S
  obtain ⟨y5, g5⟩ := hF1 3 _ rfl
  have k5 : DataW.trod enc Try.prog w base spare held fu1 3 [e3] = some y5 := by
    rw [show Try.prog.cellsOf 3 = 1 by kernel_rfl] at g5
    exact g5
  obtain ⟨a0Pc, q0Pc, w0Pc⟩ := raw_int Try.underlying3 k5
  simp only [List.cons.injEq, and_true] at q0Pc
  subst q0Pc
  obtain ⟨y6, g6⟩ := hF1 4 _ rfl
  have k6 : DataW.trod enc Try.prog w base spare held fu1 4 [e4] = some y6 := by
    rw [show Try.prog.cellsOf 4 = 1 by kernel_rfl] at g6
    exact g6
  obtain ⟨a0Z, q0Z⟩ := raw_bool Try.underlying4 k6
  simp only [List.cons.injEq, and_true] at q0Z
  subst q0Z
  obtain ⟨y7, g7⟩ := hF1 5 _ rfl
  have k7 : DataW.trod enc Try.prog w base spare held fu1 4 [e5] = some y7 := by
    rw [show Try.prog.cellsOf 4 = 1 by kernel_rfl] at g7
    exact g7
  obtain ⟨a0N, q0N⟩ := raw_bool Try.underlying4 k7
  simp only [List.cons.injEq, and_true] at q0N
  subst q0N
  obtain ⟨y8, g8⟩ := hF1 6 _ rfl
  have k8 : DataW.trod enc Try.prog w base spare held fu1 4 [e6] = some y8 := by
    rw [show Try.prog.cellsOf 4 = 1 by kernel_rfl] at g8
    exact g8
  obtain ⟨a0C, q0C⟩ := raw_bool Try.underlying4 k8
  simp only [List.cons.injEq, and_true] at q0C
  subst q0C
  obtain ⟨y9, g9⟩ := hF1 7 _ rfl
  have k9 : DataW.trod enc Try.prog w base spare held fu1 4 [e7] = some y9 := by
    rw [show Try.prog.cellsOf 4 = 1 by kernel_rfl] at g9
    exact g9
  obtain ⟨a0I, q0I⟩ := raw_bool Try.underlying4 k9
  simp only [List.cons.injEq, and_true] at q0I
  subst q0I
  exact ⟨_, _, _, _, _, _, _, _, rfl, w0A, w0X, w0S, w0Pc⟩
theorem open_Mem {H : Type} {enc : TypeId × Value → H} {w : World} {base : Nat} {spare : Nat → Bool} {held : Bool} {r : Reach} {b0 : Nat} {v : Value} {d : DataW H} {p : List MemPlace}
    (hv : Value.okWide Try.prog w r b0 27 v) (h : DataW.Trod enc Try.prog w base spare held 27 v d p) :
    ∃ (s0Ram : Option Addr) (n0Ram c0Ram : Nat) (f0Ram : Nat → Int) (a0Bank : Int), v = .agg #[.slice s0Ram n0Ram c0Ram, .int .i64 a0Bank] ∧ (n0Ram ≤ 9223372036854775807 ∧ RowOf .i64 w s0Ram n0Ram f0Ram ∧ ∀ i, i < n0Ram → (Lit.int .i64 (f0Ram i)).wf = true) ∧ ((Lit.int .i64 a0Bank).wf = true) := by
  obtain ⟨cs, rfl, hsz⟩ := okWide_struct Try.underlying27 hv
  obtain ⟨fuel, hf⟩ := h
  have hC : Try.prog.cellsOf 27 = 2 := by kernel_rfl
  rw [hC] at hsz
  obtain ⟨e0, e1, rfl⟩ : ∃ e0 e1, cs = #[e0, e1] := by
    rcases cs with ⟨l⟩
    match l, hsz with
    | [e0, e1], _ => exact ⟨_, _, rfl⟩
  have hf' : DataW.trod enc Try.prog w base spare held fuel 27 [e0, e1] = some (d, p) := hf
  obtain ⟨fu1, hl1, hF1⟩ := trod_fields Try.underlying27 hf'
  obtain ⟨y2, g2⟩ := hF1 0 _ rfl
  have k2 : DataW.trod enc Try.prog w base spare held fu1 25 [e0] = some y2 := by
    rw [show Try.prog.cellsOf 25 = 1 by kernel_rfl] at g2
    exact g2
  obtain ⟨s0Ram, n0Ram, c0Ram, f0Ram, q0Ram, w0Ram⟩ := raw_ints (k := .i64) Try.underlying25 Try.underlying3 (by kernel_rfl) k2
  simp only [List.cons.injEq, and_true] at q0Ram
  subst q0Ram
  obtain ⟨y3, g3⟩ := hF1 1 _ rfl
  have k3 : DataW.trod enc Try.prog w base spare held fu1 3 [e1] = some y3 := by
    rw [show Try.prog.cellsOf 3 = 1 by kernel_rfl] at g3
    exact g3
  obtain ⟨a0Bank, q0Bank, w0Bank⟩ := raw_int Try.underlying3 k3
  simp only [List.cons.injEq, and_true] at q0Bank
  subst q0Bank
  exact ⟨_, _, _, _, _, rfl, w0Ram, w0Bank⟩
theorem open_Ppu {H : Type} {enc : TypeId × Value → H} {w : World} {base : Nat} {spare : Nat → Bool} {held : Bool} {r : Reach} {b0 : Nat} {v : Value} {d : DataW H} {p : List MemPlace}
    (hv : Value.okWide Try.prog w r b0 33 v) (h : DataW.Trod enc Try.prog w base spare held 33 v d p) :
    ∃ (a0T : Int) (a0Ctrl : Int) (a0Scroll : Int) (a0Addr : Int) (a0Pal : Int) (a0Blank : Bool) (s0Table : Option Addr) (n0Table c0Table : Nat) (f0Table : Nat → Int) (s0Dots : Option Addr) (n0Dots c0Dots : Nat) (f0Dots : Nat → Int), v = .agg #[.int .i64 a0T, .int .i64 a0Ctrl, .int .i64 a0Scroll, .int .i64 a0Addr, .int .i64 a0Pal, .bool a0Blank, .slice s0Table n0Table c0Table, .slice s0Dots n0Dots c0Dots] ∧ ((Lit.int .i64 a0T).wf = true) ∧ ((Lit.int .i64 a0Ctrl).wf = true) ∧ ((Lit.int .i64 a0Scroll).wf = true) ∧ ((Lit.int .i64 a0Addr).wf = true) ∧ ((Lit.int .i64 a0Pal).wf = true) ∧ (n0Table ≤ 9223372036854775807 ∧ RowOf .i64 w s0Table n0Table f0Table ∧ ∀ i, i < n0Table → (Lit.int .i64 (f0Table i)).wf = true) ∧ (n0Dots ≤ 9223372036854775807 ∧ RowOf .i64 w s0Dots n0Dots f0Dots ∧ ∀ i, i < n0Dots → (Lit.int .i64 (f0Dots i)).wf = true) := by
  obtain ⟨cs, rfl, hsz⟩ := okWide_struct Try.underlying33 hv
  obtain ⟨fuel, hf⟩ := h
  have hC : Try.prog.cellsOf 33 = 8 := by kernel_rfl
  rw [hC] at hsz
  obtain ⟨e0, e1, e2, e3, e4, e5, e6, e7, rfl⟩ : ∃ e0 e1 e2 e3 e4 e5 e6 e7, cs = #[e0, e1, e2, e3, e4, e5, e6, e7] := by
    rcases cs with ⟨l⟩
    match l, hsz with
    | [e0, e1, e2, e3, e4, e5, e6, e7], _ => exact ⟨_, _, _, _, _, _, _, _, rfl⟩
  have hf' : DataW.trod enc Try.prog w base spare held fuel 33 [e0, e1, e2, e3, e4, e5, e6, e7] = some (d, p) := hf
  obtain ⟨fu1, hl1, hF1⟩ := trod_fields Try.underlying33 hf'
  obtain ⟨y2, g2⟩ := hF1 0 _ rfl
  have k2 : DataW.trod enc Try.prog w base spare held fu1 3 [e0] = some y2 := by
    rw [show Try.prog.cellsOf 3 = 1 by kernel_rfl] at g2
    exact g2
  obtain ⟨a0T, q0T, w0T⟩ := raw_int Try.underlying3 k2
  simp only [List.cons.injEq, and_true] at q0T
  subst q0T
  obtain ⟨y3, g3⟩ := hF1 1 _ rfl
  have k3 : DataW.trod enc Try.prog w base spare held fu1 3 [e1] = some y3 := by
    rw [show Try.prog.cellsOf 3 = 1 by kernel_rfl] at g3
    exact g3
  obtain ⟨a0Ctrl, q0Ctrl, w0Ctrl⟩ := raw_int Try.underlying3 k3
  simp only [List.cons.injEq, and_true] at q0Ctrl
  subst q0Ctrl
  obtain ⟨y4, g4⟩ := hF1 2 _ rfl
  have k4 : DataW.trod enc Try.prog w base spare held fu1 3 [e2] = some y4 := by
    rw [show Try.prog.cellsOf 3 = 1 by kernel_rfl] at g4
    exact g4
  obtain ⟨a0Scroll, q0Scroll, w0Scroll⟩ := raw_int Try.underlying3 k4
  simp only [List.cons.injEq, and_true] at q0Scroll
  subst q0Scroll
  obtain ⟨y5, g5⟩ := hF1 3 _ rfl
  have k5 : DataW.trod enc Try.prog w base spare held fu1 3 [e3] = some y5 := by
    rw [show Try.prog.cellsOf 3 = 1 by kernel_rfl] at g5
    exact g5
  obtain ⟨a0Addr, q0Addr, w0Addr⟩ := raw_int Try.underlying3 k5
  simp only [List.cons.injEq, and_true] at q0Addr
  subst q0Addr
  obtain ⟨y6, g6⟩ := hF1 4 _ rfl
  have k6 : DataW.trod enc Try.prog w base spare held fu1 3 [e4] = some y6 := by
    rw [show Try.prog.cellsOf 3 = 1 by kernel_rfl] at g6
    exact g6
  obtain ⟨a0Pal, q0Pal, w0Pal⟩ := raw_int Try.underlying3 k6
  simp only [List.cons.injEq, and_true] at q0Pal
  subst q0Pal
  obtain ⟨y7, g7⟩ := hF1 5 _ rfl
  have k7 : DataW.trod enc Try.prog w base spare held fu1 4 [e5] = some y7 := by
    rw [show Try.prog.cellsOf 4 = 1 by kernel_rfl] at g7
    exact g7
  obtain ⟨a0Blank, q0Blank⟩ := raw_bool Try.underlying4 k7
  simp only [List.cons.injEq, and_true] at q0Blank
  subst q0Blank
  obtain ⟨y8, g8⟩ := hF1 6 _ rfl
  have k8 : DataW.trod enc Try.prog w base spare held fu1 25 [e6] = some y8 := by
    rw [show Try.prog.cellsOf 25 = 1 by kernel_rfl] at g8
    exact g8
  obtain ⟨s0Table, n0Table, c0Table, f0Table, q0Table, w0Table⟩ := raw_ints (k := .i64) Try.underlying25 Try.underlying3 (by kernel_rfl) k8
  simp only [List.cons.injEq, and_true] at q0Table
  subst q0Table
  obtain ⟨y9, g9⟩ := hF1 7 _ rfl
  have k9 : DataW.trod enc Try.prog w base spare held fu1 25 [e7] = some y9 := by
    rw [show Try.prog.cellsOf 25 = 1 by kernel_rfl] at g9
    exact g9
  obtain ⟨s0Dots, n0Dots, c0Dots, f0Dots, q0Dots, w0Dots⟩ := raw_ints (k := .i64) Try.underlying25 Try.underlying3 (by kernel_rfl) k9
  simp only [List.cons.injEq, and_true] at q0Dots
  subst q0Dots
  exact ⟨_, _, _, _, _, _, _, _, _, _, _, _, _, _, rfl, w0T, w0Ctrl, w0Scroll, w0Addr, w0Pal, w0Table, w0Dots⟩
theorem open_Apu {H : Type} {enc : TypeId × Value → H} {w : World} {base : Nat} {spare : Nat → Bool} {held : Bool} {r : Reach} {b0 : Nat} {v : Value} {d : DataW H} {p : List MemPlace}
    (hv : Value.okWide Try.prog w r b0 40 v) (h : DataW.Trod enc Try.prog w base spare held 40 v d p) :
    ∃ (a0T : Int) (a0Period : Int) (a0Count : Int) (a0Bit : Int) (a0Length : Int) (a0Asks : Bool) (a0Irq : Bool), v = .agg #[.int .i64 a0T, .int .i64 a0Period, .int .i64 a0Count, .int .i64 a0Bit, .int .i64 a0Length, .bool a0Asks, .bool a0Irq] ∧ ((Lit.int .i64 a0T).wf = true) ∧ ((Lit.int .i64 a0Period).wf = true) ∧ ((Lit.int .i64 a0Count).wf = true) ∧ ((Lit.int .i64 a0Bit).wf = true) ∧ ((Lit.int .i64 a0Length).wf = true) := by
  obtain ⟨cs, rfl, hsz⟩ := okWide_struct Try.underlying40 hv
  obtain ⟨fuel, hf⟩ := h
  have hC : Try.prog.cellsOf 40 = 7 := by kernel_rfl
  rw [hC] at hsz
  obtain ⟨e0, e1, e2, e3, e4, e5, e6, rfl⟩ : ∃ e0 e1 e2 e3 e4 e5 e6, cs = #[e0, e1, e2, e3, e4, e5, e6] := by
    rcases cs with ⟨l⟩
    match l, hsz with
    | [e0, e1, e2, e3, e4, e5, e6], _ => exact ⟨_, _, _, _, _, _, _, rfl⟩
  have hf' : DataW.trod enc Try.prog w base spare held fuel 40 [e0, e1, e2, e3, e4, e5, e6] = some (d, p) := hf
  obtain ⟨fu1, hl1, hF1⟩ := trod_fields Try.underlying40 hf'
  obtain ⟨y2, g2⟩ := hF1 0 _ rfl
  have k2 : DataW.trod enc Try.prog w base spare held fu1 3 [e0] = some y2 := by
    rw [show Try.prog.cellsOf 3 = 1 by kernel_rfl] at g2
    exact g2
  obtain ⟨a0T, q0T, w0T⟩ := raw_int Try.underlying3 k2
  simp only [List.cons.injEq, and_true] at q0T
  subst q0T
  obtain ⟨y3, g3⟩ := hF1 1 _ rfl
  have k3 : DataW.trod enc Try.prog w base spare held fu1 3 [e1] = some y3 := by
    rw [show Try.prog.cellsOf 3 = 1 by kernel_rfl] at g3
    exact g3
  obtain ⟨a0Period, q0Period, w0Period⟩ := raw_int Try.underlying3 k3
  simp only [List.cons.injEq, and_true] at q0Period
  subst q0Period
  obtain ⟨y4, g4⟩ := hF1 2 _ rfl
  have k4 : DataW.trod enc Try.prog w base spare held fu1 3 [e2] = some y4 := by
    rw [show Try.prog.cellsOf 3 = 1 by kernel_rfl] at g4
    exact g4
  obtain ⟨a0Count, q0Count, w0Count⟩ := raw_int Try.underlying3 k4
  simp only [List.cons.injEq, and_true] at q0Count
  subst q0Count
  obtain ⟨y5, g5⟩ := hF1 3 _ rfl
  have k5 : DataW.trod enc Try.prog w base spare held fu1 3 [e3] = some y5 := by
    rw [show Try.prog.cellsOf 3 = 1 by kernel_rfl] at g5
    exact g5
  obtain ⟨a0Bit, q0Bit, w0Bit⟩ := raw_int Try.underlying3 k5
  simp only [List.cons.injEq, and_true] at q0Bit
  subst q0Bit
  obtain ⟨y6, g6⟩ := hF1 4 _ rfl
  have k6 : DataW.trod enc Try.prog w base spare held fu1 3 [e4] = some y6 := by
    rw [show Try.prog.cellsOf 3 = 1 by kernel_rfl] at g6
    exact g6
  obtain ⟨a0Length, q0Length, w0Length⟩ := raw_int Try.underlying3 k6
  simp only [List.cons.injEq, and_true] at q0Length
  subst q0Length
  obtain ⟨y7, g7⟩ := hF1 5 _ rfl
  have k7 : DataW.trod enc Try.prog w base spare held fu1 4 [e5] = some y7 := by
    rw [show Try.prog.cellsOf 4 = 1 by kernel_rfl] at g7
    exact g7
  obtain ⟨a0Asks, q0Asks⟩ := raw_bool Try.underlying4 k7
  simp only [List.cons.injEq, and_true] at q0Asks
  subst q0Asks
  obtain ⟨y8, g8⟩ := hF1 6 _ rfl
  have k8 : DataW.trod enc Try.prog w base spare held fu1 4 [e6] = some y8 := by
    rw [show Try.prog.cellsOf 4 = 1 by kernel_rfl] at g8
    exact g8
  obtain ⟨a0Irq, q0Irq⟩ := raw_bool Try.underlying4 k8
  simp only [List.cons.injEq, and_true] at q0Irq
  subst q0Irq
  exact ⟨_, _, _, _, _, _, _, rfl, w0T, w0Period, w0Count, w0Bit, w0Length⟩
theorem open_Pad {H : Type} {enc : TypeId × Value → H} {w : World} {base : Nat} {spare : Nat → Bool} {held : Bool} {r : Reach} {b0 : Nat} {v : Value} {d : DataW H} {p : List MemPlace}
    (hv : Value.okWide Try.prog w r b0 31 v) (h : DataW.Trod enc Try.prog w base spare held 31 v d p) :
    ∃ (a0Held : Bool) (a0Shift : Int), v = .agg #[.bool a0Held, .int .i64 a0Shift] ∧ ((Lit.int .i64 a0Shift).wf = true) := by
  obtain ⟨cs, rfl, hsz⟩ := okWide_struct Try.underlying31 hv
  obtain ⟨fuel, hf⟩ := h
  have hC : Try.prog.cellsOf 31 = 2 := by kernel_rfl
  rw [hC] at hsz
  obtain ⟨e0, e1, rfl⟩ : ∃ e0 e1, cs = #[e0, e1] := by
    rcases cs with ⟨l⟩
    match l, hsz with
    | [e0, e1], _ => exact ⟨_, _, rfl⟩
  have hf' : DataW.trod enc Try.prog w base spare held fuel 31 [e0, e1] = some (d, p) := hf
  obtain ⟨fu1, hl1, hF1⟩ := trod_fields Try.underlying31 hf'
  obtain ⟨y2, g2⟩ := hF1 0 _ rfl
  have k2 : DataW.trod enc Try.prog w base spare held fu1 4 [e0] = some y2 := by
    rw [show Try.prog.cellsOf 4 = 1 by kernel_rfl] at g2
    exact g2
  obtain ⟨a0Held, q0Held⟩ := raw_bool Try.underlying4 k2
  simp only [List.cons.injEq, and_true] at q0Held
  subst q0Held
  obtain ⟨y3, g3⟩ := hF1 1 _ rfl
  have k3 : DataW.trod enc Try.prog w base spare held fu1 3 [e1] = some y3 := by
    rw [show Try.prog.cellsOf 3 = 1 by kernel_rfl] at g3
    exact g3
  obtain ⟨a0Shift, q0Shift, w0Shift⟩ := raw_int Try.underlying3 k3
  simp only [List.cons.injEq, and_true] at q0Shift
  subst q0Shift
  exact ⟨_, _, rfl, w0Shift⟩
theorem open_Lock {H : Type} {enc : TypeId × Value → H} {w : World} {base : Nat} {spare : Nat → Bool} {held : Bool} {r : Reach} {b0 : Nat} {v : Value} {d : DataW H} {p : List MemPlace}
    (hv : Value.okWide Try.prog w r b0 75 v) (h : DataW.Trod enc Try.prog w base spare held 75 v d p) :
    ∃ (u0ImgBanks : Value) (m0ImgBanks : Nat) (ra0ImgBanks : Nat → Option Addr) (ln0ImgBanks rc0ImgBanks : Nat → Nat) (f0ImgBanks : Nat → Nat → Int) (s0Pads : Option Addr) (n0Pads c0Pads : Nat) (f0Pads : Nat → Int) (s0MemRam : Option Addr) (n0MemRam c0MemRam : Nat) (f0MemRam : Nat → Int) (a0MemBank : Int) (a0CpuA : Int) (a0CpuX : Int) (a0CpuS : Int) (a0CpuPc : Int) (a0CpuZ : Bool) (a0CpuN : Bool) (a0CpuC : Bool) (a0CpuI : Bool) (a0PpuT : Int) (a0PpuCtrl : Int) (a0PpuScroll : Int) (a0PpuAddr : Int) (a0PpuPal : Int) (a0PpuBlank : Bool) (s0PpuTable : Option Addr) (n0PpuTable c0PpuTable : Nat) (f0PpuTable : Nat → Int) (s0PpuDots : Option Addr) (n0PpuDots c0PpuDots : Nat) (f0PpuDots : Nat → Int) (a0ApuT : Int) (a0ApuPeriod : Int) (a0ApuCount : Int) (a0ApuBit : Int) (a0ApuLength : Int) (a0ApuAsks : Bool) (a0ApuIrq : Bool) (a0PadHeld : Bool) (a0PadShift : Int) (a0Nmi : Bool) (a0Steps : Int) (u0ObsFrames : Value) (m0ObsFrames : Nat) (ra0ObsFrames : Nat → Option Addr) (ln0ObsFrames rc0ObsFrames : Nat → Nat) (f0ObsFrames : Nat → Nat → Int) (s0ObsSamples : Option Addr) (n0ObsSamples c0ObsSamples : Nat) (f0ObsSamples : Nat → Int) (s0ObsReads : Option Addr) (n0ObsReads c0ObsReads : Nat) (f0ObsReads : Nat → Int), v = .agg #[u0ImgBanks, .slice s0Pads n0Pads c0Pads, .slice s0MemRam n0MemRam c0MemRam, .int .i64 a0MemBank, .int .i64 a0CpuA, .int .i64 a0CpuX, .int .i64 a0CpuS, .int .i64 a0CpuPc, .bool a0CpuZ, .bool a0CpuN, .bool a0CpuC, .bool a0CpuI, .int .i64 a0PpuT, .int .i64 a0PpuCtrl, .int .i64 a0PpuScroll, .int .i64 a0PpuAddr, .int .i64 a0PpuPal, .bool a0PpuBlank, .slice s0PpuTable n0PpuTable c0PpuTable, .slice s0PpuDots n0PpuDots c0PpuDots, .int .i64 a0ApuT, .int .i64 a0ApuPeriod, .int .i64 a0ApuCount, .int .i64 a0ApuBit, .int .i64 a0ApuLength, .bool a0ApuAsks, .bool a0ApuIrq, .bool a0PadHeld, .int .i64 a0PadShift, .bool a0Nmi, .int .i64 a0Steps, u0ObsFrames, .slice s0ObsSamples n0ObsSamples c0ObsSamples, .slice s0ObsReads n0ObsReads c0ObsReads] ∧ (RawSS w u0ImgBanks m0ImgBanks ra0ImgBanks ln0ImgBanks rc0ImgBanks f0ImgBanks) ∧ (n0Pads ≤ 9223372036854775807 ∧ RowOf .i64 w s0Pads n0Pads f0Pads ∧ ∀ i, i < n0Pads → (Lit.int .i64 (f0Pads i)).wf = true) ∧ (n0MemRam ≤ 9223372036854775807 ∧ RowOf .i64 w s0MemRam n0MemRam f0MemRam ∧ ∀ i, i < n0MemRam → (Lit.int .i64 (f0MemRam i)).wf = true) ∧ ((Lit.int .i64 a0MemBank).wf = true) ∧ ((Lit.int .i64 a0CpuA).wf = true) ∧ ((Lit.int .i64 a0CpuX).wf = true) ∧ ((Lit.int .i64 a0CpuS).wf = true) ∧ ((Lit.int .i64 a0CpuPc).wf = true) ∧ ((Lit.int .i64 a0PpuT).wf = true) ∧ ((Lit.int .i64 a0PpuCtrl).wf = true) ∧ ((Lit.int .i64 a0PpuScroll).wf = true) ∧ ((Lit.int .i64 a0PpuAddr).wf = true) ∧ ((Lit.int .i64 a0PpuPal).wf = true) ∧ (n0PpuTable ≤ 9223372036854775807 ∧ RowOf .i64 w s0PpuTable n0PpuTable f0PpuTable ∧ ∀ i, i < n0PpuTable → (Lit.int .i64 (f0PpuTable i)).wf = true) ∧ (n0PpuDots ≤ 9223372036854775807 ∧ RowOf .i64 w s0PpuDots n0PpuDots f0PpuDots ∧ ∀ i, i < n0PpuDots → (Lit.int .i64 (f0PpuDots i)).wf = true) ∧ ((Lit.int .i64 a0ApuT).wf = true) ∧ ((Lit.int .i64 a0ApuPeriod).wf = true) ∧ ((Lit.int .i64 a0ApuCount).wf = true) ∧ ((Lit.int .i64 a0ApuBit).wf = true) ∧ ((Lit.int .i64 a0ApuLength).wf = true) ∧ ((Lit.int .i64 a0PadShift).wf = true) ∧ ((Lit.int .i64 a0Steps).wf = true) ∧ (RawSS w u0ObsFrames m0ObsFrames ra0ObsFrames ln0ObsFrames rc0ObsFrames f0ObsFrames) ∧ (n0ObsSamples ≤ 9223372036854775807 ∧ RowOf .i64 w s0ObsSamples n0ObsSamples f0ObsSamples ∧ ∀ i, i < n0ObsSamples → (Lit.int .i64 (f0ObsSamples i)).wf = true) ∧ (n0ObsReads ≤ 9223372036854775807 ∧ RowOf .i64 w s0ObsReads n0ObsReads f0ObsReads ∧ ∀ i, i < n0ObsReads → (Lit.int .i64 (f0ObsReads i)).wf = true) := by
  obtain ⟨cs, rfl, hsz⟩ := okWide_struct Try.underlying75 hv
  obtain ⟨fuel, hf⟩ := h
  have hC : Try.prog.cellsOf 75 = 34 := by kernel_rfl
  rw [hC] at hsz
  obtain ⟨e0, e1, e2, e3, e4, e5, e6, e7, e8, e9, e10, e11, e12, e13, e14, e15, e16, e17, e18, e19, e20, e21, e22, e23, e24, e25, e26, e27, e28, e29, e30, e31, e32, e33, rfl⟩ : ∃ e0 e1 e2 e3 e4 e5 e6 e7 e8 e9 e10 e11 e12 e13 e14 e15 e16 e17 e18 e19 e20 e21 e22 e23 e24 e25 e26 e27 e28 e29 e30 e31 e32 e33, cs = #[e0, e1, e2, e3, e4, e5, e6, e7, e8, e9, e10, e11, e12, e13, e14, e15, e16, e17, e18, e19, e20, e21, e22, e23, e24, e25, e26, e27, e28, e29, e30, e31, e32, e33] := by
    rcases cs with ⟨l⟩
    match l, hsz with
    | e0 :: e1 :: e2 :: e3 :: e4 :: e5 :: e6 :: e7 :: e8 :: e9 :: e10 :: e11 :: e12 :: e13 :: e14 :: e15 :: e16 :: e17 :: e18 :: e19 :: e20 :: e21 :: e22 :: e23 :: e24 :: e25 :: e26 :: e27 :: e28 :: e29 :: e30 :: e31 :: e32 :: e33 :: [], _ => exact ⟨_, _, _, _, _, _, _, _, _, _, _, _, _, _, _, _, _, _, _, _, _, _, _, _, _, _, _, _, _, _, _, _, _, _, rfl⟩
  have hf' : DataW.trod enc Try.prog w base spare held fuel 75 [e0, e1, e2, e3, e4, e5, e6, e7, e8, e9, e10, e11, e12, e13, e14, e15, e16, e17, e18, e19, e20, e21, e22, e23, e24, e25, e26, e27, e28, e29, e30, e31, e32, e33] = some (d, p) := hf
  obtain ⟨fu1, hl1, hF1⟩ := trod_fields Try.underlying75 hf'
  obtain ⟨y2, g2⟩ := hF1 0 _ rfl
  have k2 : DataW.trod enc Try.prog w base spare held fu1 24 [e0] = some y2 := by
    rw [show Try.prog.cellsOf 24 = 1 by kernel_rfl] at g2
    exact g2
  obtain ⟨fu3, hl3, hF3⟩ := trod_fields Try.underlying24 k2
  obtain ⟨y4, g4⟩ := hF3 0 _ rfl
  have k4 : DataW.trod enc Try.prog w base spare held fu3 22 [e0] = some y4 := by
    rw [show Try.prog.cellsOf 22 = 1 by kernel_rfl] at g4
    exact g4
  obtain ⟨u0ImgBanks, m0ImgBanks, ra0ImgBanks, ln0ImgBanks, rc0ImgBanks, f0ImgBanks, q0ImgBanks, w0ImgBanks⟩ := raw_intss Try.underlying22 (by kernel_rfl) Try.underlying25 Try.underlying3 (by kernel_rfl) k4
  simp only [List.cons.injEq, and_true] at q0ImgBanks
  subst q0ImgBanks
  obtain ⟨y5, g5⟩ := hF1 1 _ rfl
  have k5 : DataW.trod enc Try.prog w base spare held fu1 25 [e1] = some y5 := by
    rw [show Try.prog.cellsOf 25 = 1 by kernel_rfl] at g5
    exact g5
  obtain ⟨s0Pads, n0Pads, c0Pads, f0Pads, q0Pads, w0Pads⟩ := raw_ints (k := .i64) Try.underlying25 Try.underlying3 (by kernel_rfl) k5
  simp only [List.cons.injEq, and_true] at q0Pads
  subst q0Pads
  obtain ⟨y6, g6⟩ := hF1 2 _ rfl
  have k6 : DataW.trod enc Try.prog w base spare held fu1 27 [e2, e3] = some y6 := by
    rw [show Try.prog.cellsOf 27 = 2 by kernel_rfl] at g6
    exact g6
  obtain ⟨fu7, hl7, hF7⟩ := trod_fields Try.underlying27 k6
  obtain ⟨y8, g8⟩ := hF7 0 _ rfl
  have k8 : DataW.trod enc Try.prog w base spare held fu7 25 [e2] = some y8 := by
    rw [show Try.prog.cellsOf 25 = 1 by kernel_rfl] at g8
    exact g8
  obtain ⟨s0MemRam, n0MemRam, c0MemRam, f0MemRam, q0MemRam, w0MemRam⟩ := raw_ints (k := .i64) Try.underlying25 Try.underlying3 (by kernel_rfl) k8
  simp only [List.cons.injEq, and_true] at q0MemRam
  subst q0MemRam
  obtain ⟨y9, g9⟩ := hF7 1 _ rfl
  have k9 : DataW.trod enc Try.prog w base spare held fu7 3 [e3] = some y9 := by
    rw [show Try.prog.cellsOf 3 = 1 by kernel_rfl] at g9
    exact g9
  obtain ⟨a0MemBank, q0MemBank, w0MemBank⟩ := raw_int Try.underlying3 k9
  simp only [List.cons.injEq, and_true] at q0MemBank
  subst q0MemBank
  obtain ⟨y10, g10⟩ := hF1 3 _ rfl
  have k10 : DataW.trod enc Try.prog w base spare held fu1 29 [e4, e5, e6, e7, e8, e9, e10, e11] = some y10 := by
    rw [show Try.prog.cellsOf 29 = 8 by kernel_rfl] at g10
    exact g10
  obtain ⟨fu11, hl11, hF11⟩ := trod_fields Try.underlying29 k10
  obtain ⟨y12, g12⟩ := hF11 0 _ rfl
  have k12 : DataW.trod enc Try.prog w base spare held fu11 3 [e4] = some y12 := by
    rw [show Try.prog.cellsOf 3 = 1 by kernel_rfl] at g12
    exact g12
  obtain ⟨a0CpuA, q0CpuA, w0CpuA⟩ := raw_int Try.underlying3 k12
  simp only [List.cons.injEq, and_true] at q0CpuA
  subst q0CpuA
  obtain ⟨y13, g13⟩ := hF11 1 _ rfl
  have k13 : DataW.trod enc Try.prog w base spare held fu11 3 [e5] = some y13 := by
    rw [show Try.prog.cellsOf 3 = 1 by kernel_rfl] at g13
    exact g13
  obtain ⟨a0CpuX, q0CpuX, w0CpuX⟩ := raw_int Try.underlying3 k13
  simp only [List.cons.injEq, and_true] at q0CpuX
  subst q0CpuX
  obtain ⟨y14, g14⟩ := hF11 2 _ rfl
  have k14 : DataW.trod enc Try.prog w base spare held fu11 3 [e6] = some y14 := by
    rw [show Try.prog.cellsOf 3 = 1 by kernel_rfl] at g14
    exact g14
  obtain ⟨a0CpuS, q0CpuS, w0CpuS⟩ := raw_int Try.underlying3 k14
  simp only [List.cons.injEq, and_true] at q0CpuS
  subst q0CpuS
  obtain ⟨y15, g15⟩ := hF11 3 _ rfl
  have k15 : DataW.trod enc Try.prog w base spare held fu11 3 [e7] = some y15 := by
    rw [show Try.prog.cellsOf 3 = 1 by kernel_rfl] at g15
    exact g15
  obtain ⟨a0CpuPc, q0CpuPc, w0CpuPc⟩ := raw_int Try.underlying3 k15
  simp only [List.cons.injEq, and_true] at q0CpuPc
  subst q0CpuPc
  obtain ⟨y16, g16⟩ := hF11 4 _ rfl
  have k16 : DataW.trod enc Try.prog w base spare held fu11 4 [e8] = some y16 := by
    rw [show Try.prog.cellsOf 4 = 1 by kernel_rfl] at g16
    exact g16
  obtain ⟨a0CpuZ, q0CpuZ⟩ := raw_bool Try.underlying4 k16
  simp only [List.cons.injEq, and_true] at q0CpuZ
  subst q0CpuZ
  obtain ⟨y17, g17⟩ := hF11 5 _ rfl
  have k17 : DataW.trod enc Try.prog w base spare held fu11 4 [e9] = some y17 := by
    rw [show Try.prog.cellsOf 4 = 1 by kernel_rfl] at g17
    exact g17
  obtain ⟨a0CpuN, q0CpuN⟩ := raw_bool Try.underlying4 k17
  simp only [List.cons.injEq, and_true] at q0CpuN
  subst q0CpuN
  obtain ⟨y18, g18⟩ := hF11 6 _ rfl
  have k18 : DataW.trod enc Try.prog w base spare held fu11 4 [e10] = some y18 := by
    rw [show Try.prog.cellsOf 4 = 1 by kernel_rfl] at g18
    exact g18
  obtain ⟨a0CpuC, q0CpuC⟩ := raw_bool Try.underlying4 k18
  simp only [List.cons.injEq, and_true] at q0CpuC
  subst q0CpuC
  obtain ⟨y19, g19⟩ := hF11 7 _ rfl
  have k19 : DataW.trod enc Try.prog w base spare held fu11 4 [e11] = some y19 := by
    rw [show Try.prog.cellsOf 4 = 1 by kernel_rfl] at g19
    exact g19
  obtain ⟨a0CpuI, q0CpuI⟩ := raw_bool Try.underlying4 k19
  simp only [List.cons.injEq, and_true] at q0CpuI
  subst q0CpuI
  obtain ⟨y20, g20⟩ := hF1 4 _ rfl
  have k20 : DataW.trod enc Try.prog w base spare held fu1 33 [e12, e13, e14, e15, e16, e17, e18, e19] = some y20 := by
    rw [show Try.prog.cellsOf 33 = 8 by kernel_rfl] at g20
    exact g20
  obtain ⟨fu21, hl21, hF21⟩ := trod_fields Try.underlying33 k20
  obtain ⟨y22, g22⟩ := hF21 0 _ rfl
  have k22 : DataW.trod enc Try.prog w base spare held fu21 3 [e12] = some y22 := by
    rw [show Try.prog.cellsOf 3 = 1 by kernel_rfl] at g22
    exact g22
  obtain ⟨a0PpuT, q0PpuT, w0PpuT⟩ := raw_int Try.underlying3 k22
  simp only [List.cons.injEq, and_true] at q0PpuT
  subst q0PpuT
  obtain ⟨y23, g23⟩ := hF21 1 _ rfl
  have k23 : DataW.trod enc Try.prog w base spare held fu21 3 [e13] = some y23 := by
    rw [show Try.prog.cellsOf 3 = 1 by kernel_rfl] at g23
    exact g23
  obtain ⟨a0PpuCtrl, q0PpuCtrl, w0PpuCtrl⟩ := raw_int Try.underlying3 k23
  simp only [List.cons.injEq, and_true] at q0PpuCtrl
  subst q0PpuCtrl
  obtain ⟨y24, g24⟩ := hF21 2 _ rfl
  have k24 : DataW.trod enc Try.prog w base spare held fu21 3 [e14] = some y24 := by
    rw [show Try.prog.cellsOf 3 = 1 by kernel_rfl] at g24
    exact g24
  obtain ⟨a0PpuScroll, q0PpuScroll, w0PpuScroll⟩ := raw_int Try.underlying3 k24
  simp only [List.cons.injEq, and_true] at q0PpuScroll
  subst q0PpuScroll
  obtain ⟨y25, g25⟩ := hF21 3 _ rfl
  have k25 : DataW.trod enc Try.prog w base spare held fu21 3 [e15] = some y25 := by
    rw [show Try.prog.cellsOf 3 = 1 by kernel_rfl] at g25
    exact g25
  obtain ⟨a0PpuAddr, q0PpuAddr, w0PpuAddr⟩ := raw_int Try.underlying3 k25
  simp only [List.cons.injEq, and_true] at q0PpuAddr
  subst q0PpuAddr
  obtain ⟨y26, g26⟩ := hF21 4 _ rfl
  have k26 : DataW.trod enc Try.prog w base spare held fu21 3 [e16] = some y26 := by
    rw [show Try.prog.cellsOf 3 = 1 by kernel_rfl] at g26
    exact g26
  obtain ⟨a0PpuPal, q0PpuPal, w0PpuPal⟩ := raw_int Try.underlying3 k26
  simp only [List.cons.injEq, and_true] at q0PpuPal
  subst q0PpuPal
  obtain ⟨y27, g27⟩ := hF21 5 _ rfl
  have k27 : DataW.trod enc Try.prog w base spare held fu21 4 [e17] = some y27 := by
    rw [show Try.prog.cellsOf 4 = 1 by kernel_rfl] at g27
    exact g27
  obtain ⟨a0PpuBlank, q0PpuBlank⟩ := raw_bool Try.underlying4 k27
  simp only [List.cons.injEq, and_true] at q0PpuBlank
  subst q0PpuBlank
  obtain ⟨y28, g28⟩ := hF21 6 _ rfl
  have k28 : DataW.trod enc Try.prog w base spare held fu21 25 [e18] = some y28 := by
    rw [show Try.prog.cellsOf 25 = 1 by kernel_rfl] at g28
    exact g28
  obtain ⟨s0PpuTable, n0PpuTable, c0PpuTable, f0PpuTable, q0PpuTable, w0PpuTable⟩ := raw_ints (k := .i64) Try.underlying25 Try.underlying3 (by kernel_rfl) k28
  simp only [List.cons.injEq, and_true] at q0PpuTable
  subst q0PpuTable
  obtain ⟨y29, g29⟩ := hF21 7 _ rfl
  have k29 : DataW.trod enc Try.prog w base spare held fu21 25 [e19] = some y29 := by
    rw [show Try.prog.cellsOf 25 = 1 by kernel_rfl] at g29
    exact g29
  obtain ⟨s0PpuDots, n0PpuDots, c0PpuDots, f0PpuDots, q0PpuDots, w0PpuDots⟩ := raw_ints (k := .i64) Try.underlying25 Try.underlying3 (by kernel_rfl) k29
  simp only [List.cons.injEq, and_true] at q0PpuDots
  subst q0PpuDots
  obtain ⟨y30, g30⟩ := hF1 5 _ rfl
  have k30 : DataW.trod enc Try.prog w base spare held fu1 40 [e20, e21, e22, e23, e24, e25, e26] = some y30 := by
    rw [show Try.prog.cellsOf 40 = 7 by kernel_rfl] at g30
    exact g30
  obtain ⟨fu31, hl31, hF31⟩ := trod_fields Try.underlying40 k30
  obtain ⟨y32, g32⟩ := hF31 0 _ rfl
  have k32 : DataW.trod enc Try.prog w base spare held fu31 3 [e20] = some y32 := by
    rw [show Try.prog.cellsOf 3 = 1 by kernel_rfl] at g32
    exact g32
  obtain ⟨a0ApuT, q0ApuT, w0ApuT⟩ := raw_int Try.underlying3 k32
  simp only [List.cons.injEq, and_true] at q0ApuT
  subst q0ApuT
  obtain ⟨y33, g33⟩ := hF31 1 _ rfl
  have k33 : DataW.trod enc Try.prog w base spare held fu31 3 [e21] = some y33 := by
    rw [show Try.prog.cellsOf 3 = 1 by kernel_rfl] at g33
    exact g33
  obtain ⟨a0ApuPeriod, q0ApuPeriod, w0ApuPeriod⟩ := raw_int Try.underlying3 k33
  simp only [List.cons.injEq, and_true] at q0ApuPeriod
  subst q0ApuPeriod
  obtain ⟨y34, g34⟩ := hF31 2 _ rfl
  have k34 : DataW.trod enc Try.prog w base spare held fu31 3 [e22] = some y34 := by
    rw [show Try.prog.cellsOf 3 = 1 by kernel_rfl] at g34
    exact g34
  obtain ⟨a0ApuCount, q0ApuCount, w0ApuCount⟩ := raw_int Try.underlying3 k34
  simp only [List.cons.injEq, and_true] at q0ApuCount
  subst q0ApuCount
  obtain ⟨y35, g35⟩ := hF31 3 _ rfl
  have k35 : DataW.trod enc Try.prog w base spare held fu31 3 [e23] = some y35 := by
    rw [show Try.prog.cellsOf 3 = 1 by kernel_rfl] at g35
    exact g35
  obtain ⟨a0ApuBit, q0ApuBit, w0ApuBit⟩ := raw_int Try.underlying3 k35
  simp only [List.cons.injEq, and_true] at q0ApuBit
  subst q0ApuBit
  obtain ⟨y36, g36⟩ := hF31 4 _ rfl
  have k36 : DataW.trod enc Try.prog w base spare held fu31 3 [e24] = some y36 := by
    rw [show Try.prog.cellsOf 3 = 1 by kernel_rfl] at g36
    exact g36
  obtain ⟨a0ApuLength, q0ApuLength, w0ApuLength⟩ := raw_int Try.underlying3 k36
  simp only [List.cons.injEq, and_true] at q0ApuLength
  subst q0ApuLength
  obtain ⟨y37, g37⟩ := hF31 5 _ rfl
  have k37 : DataW.trod enc Try.prog w base spare held fu31 4 [e25] = some y37 := by
    rw [show Try.prog.cellsOf 4 = 1 by kernel_rfl] at g37
    exact g37
  obtain ⟨a0ApuAsks, q0ApuAsks⟩ := raw_bool Try.underlying4 k37
  simp only [List.cons.injEq, and_true] at q0ApuAsks
  subst q0ApuAsks
  obtain ⟨y38, g38⟩ := hF31 6 _ rfl
  have k38 : DataW.trod enc Try.prog w base spare held fu31 4 [e26] = some y38 := by
    rw [show Try.prog.cellsOf 4 = 1 by kernel_rfl] at g38
    exact g38
  obtain ⟨a0ApuIrq, q0ApuIrq⟩ := raw_bool Try.underlying4 k38
  simp only [List.cons.injEq, and_true] at q0ApuIrq
  subst q0ApuIrq
  obtain ⟨y39, g39⟩ := hF1 6 _ rfl
  have k39 : DataW.trod enc Try.prog w base spare held fu1 31 [e27, e28] = some y39 := by
    rw [show Try.prog.cellsOf 31 = 2 by kernel_rfl] at g39
    exact g39
  obtain ⟨fu40, hl40, hF40⟩ := trod_fields Try.underlying31 k39
  obtain ⟨y41, g41⟩ := hF40 0 _ rfl
  have k41 : DataW.trod enc Try.prog w base spare held fu40 4 [e27] = some y41 := by
    rw [show Try.prog.cellsOf 4 = 1 by kernel_rfl] at g41
    exact g41
  obtain ⟨a0PadHeld, q0PadHeld⟩ := raw_bool Try.underlying4 k41
  simp only [List.cons.injEq, and_true] at q0PadHeld
  subst q0PadHeld
  obtain ⟨y42, g42⟩ := hF40 1 _ rfl
  have k42 : DataW.trod enc Try.prog w base spare held fu40 3 [e28] = some y42 := by
    rw [show Try.prog.cellsOf 3 = 1 by kernel_rfl] at g42
    exact g42
  obtain ⟨a0PadShift, q0PadShift, w0PadShift⟩ := raw_int Try.underlying3 k42
  simp only [List.cons.injEq, and_true] at q0PadShift
  subst q0PadShift
  obtain ⟨y43, g43⟩ := hF1 7 _ rfl
  have k43 : DataW.trod enc Try.prog w base spare held fu1 4 [e29] = some y43 := by
    rw [show Try.prog.cellsOf 4 = 1 by kernel_rfl] at g43
    exact g43
  obtain ⟨a0Nmi, q0Nmi⟩ := raw_bool Try.underlying4 k43
  simp only [List.cons.injEq, and_true] at q0Nmi
  subst q0Nmi
  obtain ⟨y44, g44⟩ := hF1 8 _ rfl
  have k44 : DataW.trod enc Try.prog w base spare held fu1 3 [e30] = some y44 := by
    rw [show Try.prog.cellsOf 3 = 1 by kernel_rfl] at g44
    exact g44
  obtain ⟨a0Steps, q0Steps, w0Steps⟩ := raw_int Try.underlying3 k44
  simp only [List.cons.injEq, and_true] at q0Steps
  subst q0Steps
  obtain ⟨y45, g45⟩ := hF1 9 _ rfl
  have k45 : DataW.trod enc Try.prog w base spare held fu1 70 [e31, e32, e33] = some y45 := by
    rw [show Try.prog.cellsOf 70 = 3 by kernel_rfl] at g45
    exact g45
  obtain ⟨fu46, hl46, hF46⟩ := trod_fields Try.underlying70 k45
  obtain ⟨y47, g47⟩ := hF46 0 _ rfl
  have k47 : DataW.trod enc Try.prog w base spare held fu46 22 [e31] = some y47 := by
    rw [show Try.prog.cellsOf 22 = 1 by kernel_rfl] at g47
    exact g47
  obtain ⟨u0ObsFrames, m0ObsFrames, ra0ObsFrames, ln0ObsFrames, rc0ObsFrames, f0ObsFrames, q0ObsFrames, w0ObsFrames⟩ := raw_intss Try.underlying22 (by kernel_rfl) Try.underlying25 Try.underlying3 (by kernel_rfl) k47
  simp only [List.cons.injEq, and_true] at q0ObsFrames
  subst q0ObsFrames
  obtain ⟨y48, g48⟩ := hF46 1 _ rfl
  have k48 : DataW.trod enc Try.prog w base spare held fu46 25 [e32] = some y48 := by
    rw [show Try.prog.cellsOf 25 = 1 by kernel_rfl] at g48
    exact g48
  obtain ⟨s0ObsSamples, n0ObsSamples, c0ObsSamples, f0ObsSamples, q0ObsSamples, w0ObsSamples⟩ := raw_ints (k := .i64) Try.underlying25 Try.underlying3 (by kernel_rfl) k48
  simp only [List.cons.injEq, and_true] at q0ObsSamples
  subst q0ObsSamples
  obtain ⟨y49, g49⟩ := hF46 2 _ rfl
  have k49 : DataW.trod enc Try.prog w base spare held fu46 25 [e33] = some y49 := by
    rw [show Try.prog.cellsOf 25 = 1 by kernel_rfl] at g49
    exact g49
  obtain ⟨s0ObsReads, n0ObsReads, c0ObsReads, f0ObsReads, q0ObsReads, w0ObsReads⟩ := raw_ints (k := .i64) Try.underlying25 Try.underlying3 (by kernel_rfl) k49
  simp only [List.cons.injEq, and_true] at q0ObsReads
  subst q0ObsReads
  exact ⟨_, _, _, _, _, _, _, _, _, _, _, _, _, _, _, _, _, _, _, _, _, _, _, _, _, _, _, _, _, _, _, _, _, _, _, _, _, _, _, _, _, _, _, _, _, _, _, _, _, _, _, _, _, _, _, _, _, _, _, _, _, _, rfl, w0ImgBanks, w0Pads, w0MemRam, w0MemBank, w0CpuA, w0CpuX, w0CpuS, w0CpuPc, w0PpuT, w0PpuCtrl, w0PpuScroll, w0PpuAddr, w0PpuPal, w0PpuTable, w0PpuDots, w0ApuT, w0ApuPeriod, w0ApuCount, w0ApuBit, w0ApuLength, w0PadShift, w0Steps, w0ObsFrames, w0ObsSamples, w0ObsReads⟩
theorem openImage {H : Type} {enc : TypeId × Value → H} {w : World} {base : Nat} {spare : Nat → Bool} {held : Bool} {r : Reach} {b0 : Nat} {v : Value} {d : DataW H} {p : List MemPlace}
    (hv : Value.okWide Try.prog w r b0 24 v) (h : DataW.Trod enc Try.prog w base spare held 24 v d p) :
    ∃ (u : Value) (m : Nat) (ra : Nat → Option Addr) (ln rc : Nat → Nat) (f : Nat → Nat → Int), v = .agg #[u] ∧ RawSS w u m ra ln rc f := by
  obtain ⟨cs, rfl, hsz⟩ := okWide_struct Try.underlying24 hv
  obtain ⟨fuel, hf⟩ := h
  obtain ⟨y0, n, _, hl, h0⟩ := trod_struct1 Try.underlying24 hf
  have hC : Try.prog.cellsOf 24 = 1 := by kernel_rfl
  have hC2 : Try.prog.cellsOf 22 = 1 := by kernel_rfl
  rw [hC] at hsz
  obtain ⟨c0, rfl⟩ := array1 hsz
  have h1 : DataW.trod enc Try.prog w base spare held n 22 [c0] = some y0 := by simpa [Value.cells, hC2] using h0
  obtain ⟨u, m, ra, ln, rc, f, e, hR⟩ := raw_intss Try.underlying22 (by kernel_rfl) Try.underlying25 Try.underlying3 (by kernel_rfl) h1
  simp only [List.cons.injEq, and_true] at e
  subst e
  exact ⟨c0, m, ra, ln, rc, f, rfl, hR⟩
end Go.Proofs.Ytmccplbfggcogaa
