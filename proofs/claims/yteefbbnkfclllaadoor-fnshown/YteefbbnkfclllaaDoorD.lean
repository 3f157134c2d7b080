/-
  Contracts of the drawing functions: a cursor over the bytes of a draw yields numbers within their bounds, and turns nothing but itself.
-/
import Derived.Test.YteefbbnkfclllaaDoorRows
import Derived.Test.YteefbbnkfclllaaDoorMath
import Derived.WalkKit
import Derived.ProofKit
import Derived.WalkSpells
import Derived.Outline
import Derived.Deep.QuietTactic
import Derived.BigQuiet
import Derived.Below
import Derived.OpenShut
import Derived.Laws.Rows
namespace Go.Proofs.YteefbbnkfclllaaDoor
open Go.ChangeShapes Go.WideShapes Go.ChangeAt Go.RowKit
structure Code (w : World) (B : Nat) (a : Option Addr) (len : Nat) : Prop where
  le : len ≤ 1048576
  at_ : ∀ i, i < len → ∃ b off, a = some ⟨b, off, none⟩ ∧ b < B ∧ ∃ n, w.cell? ⟨b, off + i, none⟩ = some (.int .u8 n) ∧ 0 ≤ n ∧ n < 256
theorem getD_in (zs : List Int) (i : Nat) (h : i < zs.length) : zs.getD i 0 ∈ zs := by
  rw [List.getD_eq_getElem?_getD, List.getElem?_eq_getElem h]
  exact List.getElem_mem h
theorem code_of_row {w : World} {a : Option Addr} {len cap : Nat} {zs : List Int} (h : (a = none ∧ len = 0 ∧ cap = 0 ∧ zs = []) ∨ ∃ x, a = some x ∧ len ≤ cap ∧ cap ≤ maxLen ∧ zs.length = cap ∧ (∀ i, i < zs.length → w.cell? (x.add i) = some (.int .u8 (zs.getD i 0))) ∧ ∀ n ∈ zs, (Lit.int .u8 n).wf = true) (hl : len ≤ 1048576) : Code w w.heap.size a len := by
  refine ⟨hl, fun i hi => ?_⟩
  rcases h with ⟨rfl, rfl, rfl, rfl⟩ | ⟨⟨b, off, spot⟩, rfl, h1, h2, h3, h4, h5⟩
  · omega
  · have hs : spot = none := by simpa [Addr.add] using World.cell?_spot (h4 0 (by omega))
    subst hs
    have hc : w.cell? ⟨b, off + i, none⟩ = some (.int .u8 (zs.getD i 0)) := by
      have := h4 i (by omega)
      unfold Addr.add at this
      split at this
      · rename_i h0
        subst h0
        exact this
      · exact this
    have hb := bounds_u8 (h5 (zs.getD i 0) (getD_in zs i (by omega)))
    exact ⟨b, off, rfl, block_lt_of_cell hc, _, hc, hb.1, by omega⟩
structure OnlyAt (c : Nat) (w w' : World) : Prop where
  os : w'.os = w.os
  tape : w'.tape = w.tape
  output : w'.output = w.output
  size : w'.heap.size = w.heap.size
  block : ∀ k, k ≠ c → w'.heap[k]? = w.heap[k]?
theorem OnlyAt.refl (c : Nat) (w : World) : OnlyAt c w w := ⟨rfl, rfl, rfl, rfl, fun _ _ => rfl⟩
theorem OnlyAt.trans {c : Nat} {u v w : World} (h : OnlyAt c u v) (k : OnlyAt c v w) : OnlyAt c u w :=
  ⟨k.os.trans h.os, k.tape.trans h.tape, k.output.trans h.output, k.size.trans h.size, fun i hi => (k.block i hi).trans (h.block i hi)⟩
theorem OnlyAt.drew {c : Nat} {u w : World} (h : OnlyAt c u w) : OnlyAt c u w.drew := ⟨h.os, h.tape, h.output, h.size, h.block⟩
theorem OnlyAt.drewN {c : Nat} {u w : World} (h : OnlyAt c u w) (n : Nat) : OnlyAt c u (w.drewN n) := ⟨h.os, h.tape, h.output, h.size, h.block⟩
theorem OnlyAt.setCell {c : Nat} {u w : World} (h : OnlyAt c u w) {o : Nat} {s : Option _} (x : Value) : OnlyAt c u (w.setCell ⟨c, o, s⟩ x) :=
  h.trans ⟨rfl, rfl, rfl, by simp [World.setCell], fun k hk => Below.heap_setCell _ _ _ _ hk⟩
theorem OnlyAt.below {c B : Nat} {w w' : World} (h : OnlyAt c w w') (hB : B ≤ c) : Below B w w' :=
  ⟨h.os, h.tape, h.output, Nat.le_of_eq h.size.symm, fun k hk => h.block k (by omega)⟩
theorem OnlyAt.cell {c : Nat} {w w' : World} (h : OnlyAt c w w') {p : Addr} (hp : p.block ≠ c) : w'.cell? p = w.cell? p := World.cell?_of_block (w := w) (h.block p.block hp)
theorem OnlyAt.frozen {c : Nat} {w w' : World} (h : OnlyAt c w w') {p : Addr} (hp : p.block ≠ c) : w'.frozen? p = w.frozen? p := World.frozen?_of_block (w := w) (h.block p.block hp)
structure Cur (w : World) (B c : Nat) (a : Option Addr) (len cap : Nat) : Prop where
  up : B ≤ c
  code : Code w B a len
  sl : w.cell? ⟨c, 0, none⟩ = some (.slice a len cap)
  ix : ∃ i : Nat, i ≤ len ∧ w.cell? ⟨c, 1, none⟩ = some (.int .i64 i)
  hx : ∃ h : Int, w.cell? ⟨c, 2, none⟩ = some (.int .i64 h)
  f1 : w.frozen? ⟨c, 1, none⟩ = false
  f2 : w.frozen? ⟨c, 2, none⟩ = false
theorem Code.keep {w w' : World} {B : Nat} {a : Option Addr} {len : Nat} (h : Code w B a len) (k : Below B w w') : Code w' B a len :=
  ⟨h.le, fun i hi => by
    obtain ⟨b, off, ha, hb, n, hn, n0, n1⟩ := h.at_ i hi
    exact ⟨b, off, ha, hb, n, by rw [k.cell (p := ⟨b, off + i, none⟩) hb]; exact hn, n0, n1⟩⟩
theorem Cur.drewN {w : World} {B c : Nat} {a : Option Addr} {len cap : Nat} (H : Cur w B c a len cap) (n : Nat) : Cur (w.drewN n) B c a len cap :=
  ⟨H.up, H.code.keep ((OnlyAt.refl c w).drewN n |>.below H.up), H.sl, H.ix, H.hx, H.f1, H.f2⟩
theorem cur_set {w : World} {B c : Nat} {a : Option Addr} {len cap : Nat} (up : B ≤ c) (code : Code w B a len) (sl : w.cell? ⟨c, 0, none⟩ = some (.slice a len cap)) {i : Nat} (hi : i ≤ len) (ix : w.cell? ⟨c, 1, none⟩ = some (.int .i64 i)) {h : Int} (hx : w.cell? ⟨c, 2, none⟩ = some (.int .i64 h)) (f1 : w.frozen? ⟨c, 1, none⟩ = false) (f2 : w.frozen? ⟨c, 2, none⟩ = false) (h' : Int) :
    Cur (w.setCell ⟨c, 2, none⟩ (.int .i64 h')) B c a len cap :=
  ⟨up, code.keep ((OnlyAt.refl c w).setCell _ |>.below up), by go_simp, ⟨i, hi, by go_simp⟩, ⟨h', by go_simp⟩, by go_simp, by go_simp⟩
theorem cur_next {w : World} {B c : Nat} {a : Option Addr} {len cap : Nat} (up : B ≤ c) (code : Code w B a len) (sl : w.cell? ⟨c, 0, none⟩ = some (.slice a len cap)) {i : Nat} (ix : w.cell? ⟨c, 1, none⟩ = some (.int .i64 i)) {h : Int} (hx : w.cell? ⟨c, 2, none⟩ = some (.int .i64 h)) (f1 : w.frozen? ⟨c, 1, none⟩ = false) (f2 : w.frozen? ⟨c, 2, none⟩ = false) (h' : Int) (n : Nat) (hi : i < len) :
    Cur (((w.setCell ⟨c, 2, none⟩ (.int .i64 h')).drewN n).setCell ⟨c, 1, none⟩ (.int .i64 ((i : Int) + 1))) B c a len cap :=
  ⟨up, code.keep ((((OnlyAt.refl c w).setCell _).drewN n).setCell _ |>.below up), by go_simp, ⟨i + 1, hi, by go_simp⟩, ⟨h', by go_simp⟩, by go_simp, by go_simp⟩
theorem l1Byte (w : World) (B c : Nat) (a : Option Addr) (len cap : Nat) (H : Cur w B c a len cap) :
    Calls Tryd.prog 40 #[.pointer (some ⟨c, 0, none⟩)] w fun e w' => ∃ x : Int, e = .returned (.int .i64 x) ∧ 0 ≤ x ∧ x < 256 ∧ Cur w' B c a len cap ∧ OnlyAt c w w' := by
  obtain ⟨up, code, sl, ⟨i, hi, ix⟩, ⟨h, hx⟩, f1, f2⟩ := H
  have h255 := i64_and255
  have hle := code.le
  by_cases hlt : i < len
  · obtain ⟨b, off, rfl, hb, n, hn, n0, n1⟩ := code.at_ i hlt
    have hbc : b ≠ c := by omega
    have hlt' : (i : Int) < (len : Int) := by omega
    go_enter Tryd.func40, Tryd.ntmps40
    go_wp2
    go_quiet (fail)
    go_wp2
    go_quiet (fail)
    go_wp2
    go_quiet (fail)
    go_wp2
    go_ret
    exact ⟨_, rfl, by omega, by omega, cur_next up code sl ix hx f1 f2 _ _ hlt, (((OnlyAt.refl c w).setCell _).drewN _).setCell _⟩
  · have hlt' : decide ((i : Int) < (len : Int)) = false := by simp; omega
    go_enter Tryd.func40, Tryd.ntmps40
    go_wp2
    go_quiet (fail)
    go_wp2
    go_quiet (fail)
    go_wp2
    go_ret
    exact ⟨_, rfl, by omega, by omega, ((cur_set up code sl hi ix hx f1 f2 _).drewN _).drewN _, (((OnlyAt.refl c w).setCell _).drewN _).drewN _⟩
theorem l1Below (w : World) (B c : Nat) (a : Option Addr) (len cap : Nat) (H : Cur w B c a len cap) (n : Int) :
    Calls Tryd.prog 26 #[.pointer (some ⟨c, 0, none⟩), .int .i64 n] w fun e w' => ∃ x : Int, e = .returned (.int .i64 x) ∧ 0 ≤ x ∧ (x < n ∨ x = 0) ∧ Cur w' B c a len cap ∧ OnlyAt c w w' := by
  by_cases h0 : n ≤ 0
  · go_enter Tryd.func26, Tryd.ntmps26
    go_wp2
    go_ret
    exact ⟨0, rfl, by omega, Or.inr rfl, H, OnlyAt.refl _ _⟩
  · by_cases h1 : n ≤ 256
    · go_enter Tryd.func26, Tryd.ntmps26
      go_wp2_with (go_at_call 40; refine (l1Byte _ B c a len cap H).mono ?_; rintro e w1 ⟨x, rfl, x0, x1, H1, O1⟩)
      go_ret
      exact ⟨_, rfl, Int.emod_nonneg _ (by omega), Or.inl (Int.emod_lt_of_pos _ (by omega)), H1, O1⟩
    · go_enter Tryd.func26, Tryd.ntmps26
      go_wp2_with fail
      refine (l1Byte _ B c a len cap H).mono ?_
      rintro e w1 ⟨x1, rfl, p1, q1, H1, O1⟩
      go_wp2_with fail
      refine (l1Byte _ B c a len cap H1).mono ?_
      rintro e w2 ⟨x2, rfl, p2, q2, H2, O2⟩
      go_wp2_with fail
      refine (l1Byte _ B c a len cap H2).mono ?_
      rintro e w3 ⟨x3, rfl, p3, q3, H3, O3⟩
      go_wp2_with fail
      refine (l1Byte _ B c a len cap H3).mono ?_
      rintro e w4 ⟨x4, rfl, p4, q4, H4, O4⟩
      go_wp2
      go_ret
      exact ⟨_, rfl, Int.emod_nonneg _ (by omega), Or.inl (Int.emod_lt_of_pos _ (by omega)), H4, ((O1.trans O2).trans O3).trans O4⟩
theorem l1Once (w : World) (B c : Nat) (a : Option Addr) (len cap : Nat) (H : Cur w B c a len cap) (n : Int) :
    Calls Tryd.prog 48 #[.pointer (some ⟨c, 0, none⟩), .int .i64 n] w fun e w' => ∃ x : Bool, e = .returned (.bool x) ∧ Cur w' B c a len cap ∧ OnlyAt c w w' := by
  go_enter Tryd.func48, Tryd.ntmps48
  go_wp2_with (go_at_call 26; refine (l1Below _ B c a len cap H n).mono ?_; rintro e w1 ⟨x, rfl, x0, x1, H1, O1⟩)
  go_ret
  exact ⟨_, rfl, H1, O1⟩
theorem Cur.only {w w' : World} {B c d : Nat} {a : Option Addr} {len cap : Nat} (H : Cur w B c a len cap) (k : OnlyAt d w w') (hd : d ≠ c) (hB : B ≤ d) : Cur w' B c a len cap := by
  have e : ∀ o, w'.cell? ⟨c, o, none⟩ = w.cell? ⟨c, o, none⟩ := fun o => k.cell (p := ⟨c, o, none⟩) (fun h => hd h.symm)
  have f : ∀ o, w'.frozen? ⟨c, o, none⟩ = w.frozen? ⟨c, o, none⟩ := fun o => k.frozen (p := ⟨c, o, none⟩) (fun h => hd h.symm)
  obtain ⟨up, code, sl, ⟨i, hi, ix⟩, ⟨h, hx⟩, f1, f2⟩ := H
  exact ⟨up, code.keep (k.below hB), (e 0).trans sl, ⟨i, hi, (e 1).trans ix⟩, ⟨h, (e 2).trans hx⟩, (f 1).trans f1, (f 2).trans f2⟩
theorem Cur.below {w w' : World} {B c B' : Nat} {a : Option Addr} {len cap : Nat} (H : Cur w B c a len cap) (k : Below B' w w') (hc : c < B') : Cur w' B c a len cap := by
  have e : ∀ o, w'.cell? ⟨c, o, none⟩ = w.cell? ⟨c, o, none⟩ := fun o => k.cell (p := ⟨c, o, none⟩) hc
  have f : ∀ o, w'.frozen? ⟨c, o, none⟩ = w.frozen? ⟨c, o, none⟩ := fun o => k.frozen (p := ⟨c, o, none⟩) hc
  obtain ⟨up, code, sl, ⟨i, hi, ix⟩, ⟨h, hx⟩, f1, f2⟩ := H
  exact ⟨up, code.keep (k.mono (by omega)), (e 0).trans sl, ⟨i, hi, (e 1).trans ix⟩, ⟨h, (e 2).trans hx⟩, (f 1).trans f1, (f 2).trans f2⟩
theorem l1New (w : World) (B : Nat) (a : Option Addr) (len cap : Nat) (hB : B ≤ w.heap.size) (H : Code w B a len) :
    Calls Tryd.prog 20 #[.slice a len cap] w fun e w' => e = .returned (.pointer (some ⟨w.heap.size, 0, none⟩)) ∧ Cur w' B w.heap.size a len cap ∧ Below w.heap.size w w' ∧ w'.heap.size = w.heap.size + 1 := by
  have hle := H.le
  go_enter Tryd.func20, Tryd.ntmps20
  go_wp2
  go_loop [3, 4] (fun h i => ∃ k : Nat, k ≤ len ∧ i = .int .i64 k ∧ ∃ z : Int, h = .int .i64 z) (fun _ i => len - (intOf i).toNat)
  case atStart => exact ⟨0, Nat.zero_le _, rfl, _, rfl⟩
  case round =>
    obtain ⟨k, hk, rfl, z, rfl⟩ := hrel
    by_cases h1 : k < len
    · by_cases h2 : k < 4000
      · obtain ⟨b, off, rfl, hb, n, hn, n0, n1⟩ := H.at_ k h1
        have h1' : (k : Int) < (len : Int) := by omega
        have h2' : (k : Int) < 4000 := by omega
        go_wp2
        go_round
        case rel => exact ⟨k + 1, by omega, by go_num, _, rfl⟩
        case measure => simp [intOf]; omega
      · have h1' : (k : Int) < (len : Int) := by omega
        have h2' : ¬ (k : Int) < 4000 := by omega
        go_wp2
        go_ret
        refine ⟨rfl, ⟨hB, H.keep ((Below.refl _ _).alloc hB _), by go_simp, ⟨0, Nat.zero_le _, by go_simp⟩, ⟨z, by go_simp⟩, by go_simp, by go_simp⟩, (Below.refl _ _).alloc (Nat.le_refl _) _, by simp⟩
    · have h1' : ¬ (k : Int) < (len : Int) := by omega
      have h3' : decide ((k : Int) < (len : Int)) = false := by simpa using h1'
      go_wp2
      go_ret
      refine ⟨rfl, ⟨hB, H.keep ((Below.refl _ _).alloc hB _), by go_simp, ⟨0, Nat.zero_le _, by go_simp⟩, ⟨z, by go_simp⟩, by go_simp, by go_simp⟩, (Below.refl _ _).alloc (Nat.le_refl _) _, by simp⟩
structure Step (c : Nat) (w w' : World) : Prop where
  os : w'.os = w.os
  tape : w'.tape = w.tape
  output : w'.output = w.output
  size : w.heap.size ≤ w'.heap.size
  block : ∀ k, k < w.heap.size → k ≠ c → w'.heap[k]? = w.heap[k]?
theorem Step.refl (c : Nat) (w : World) : Step c w w := ⟨rfl, rfl, rfl, Nat.le_refl _, fun _ _ _ => rfl⟩
theorem Step.trans {c : Nat} {u v w : World} (h : Step c u v) (k : Step c v w) : Step c u w :=
  ⟨k.os.trans h.os, k.tape.trans h.tape, k.output.trans h.output, Nat.le_trans h.size k.size, fun i hi hc => (k.block i (Nat.lt_of_lt_of_le hi h.size) hc).trans (h.block i hi hc)⟩
theorem OnlyAt.step {c : Nat} {w w' : World} (h : OnlyAt c w w') : Step c w w' := ⟨h.os, h.tape, h.output, Nat.le_of_eq h.size.symm, fun k _ hk => h.block k hk⟩
theorem below_step {B c : Nat} {w w' : World} (h : Below B w w') (hB : w.heap.size ≤ B) : Step c w w' := ⟨h.os, h.tape, h.output, h.size, fun k hk _ => h.block k (by omega)⟩
theorem Step.alloc {c : Nat} {u w : World} (h : Step c u w) (o : Obj) : Step c u (w.alloc o) :=
  h.trans (below_step ((Below.refl w.heap.size w).alloc (Nat.le_refl _) o) (Nat.le_refl _))
theorem Step.drewN {c : Nat} {u w : World} (h : Step c u w) (n : Nat) : Step c u (w.drewN n) := ⟨h.os, h.tape, h.output, h.size, h.block⟩
theorem Step.below {c B : Nat} {w w' : World} (h : Step c w w') (hc : B ≤ c) (hB : B ≤ w.heap.size) : Below B w w' :=
  ⟨h.os, h.tape, h.output, h.size, fun k hk => h.block k (by omega) (by omega)⟩
theorem Cur.alloc {w : World} {B c : Nat} {a : Option Addr} {len cap : Nat} (H : Cur w B c a len cap) (o : Obj) (hc : c < w.heap.size) : Cur (w.alloc o) B c a len cap :=
  H.below ((Below.refl w.heap.size w).alloc (Nat.le_refl _) o) hc
theorem l1PickInt (w : World) (B c : Nat) (a : Option Addr) (len cap : Nat) (H : Cur w B c a len cap) (m n : Nat) (hn : 0 < n) (hn' : n ≤ 1048576) (hm : m ≠ c) (zs : Nat → Int) (hz : ∀ j, j < n → w.cell? ⟨m, j, none⟩ = some (.int .i64 (zs j))) :
    Calls Tryd.prog 28 #[.pointer (some ⟨c, 0, none⟩), .slice (some ⟨m, 0, none⟩) n n] w fun e w' => ∃ j : Nat, e = .returned (.int .i64 (zs j)) ∧ j < n ∧ Cur w' B c a len cap ∧ OnlyAt c w w' := by
  go_enter Tryd.func28, Tryd.ntmps28
  go_wp2_with fail
  refine (l1Below _ B c a len cap H n).mono ?_
  rintro e w1 ⟨x, rfl, x0, x1, H1, O1⟩
  obtain ⟨j, rfl⟩ := Int.eq_ofNat_of_zero_le x0
  have hj : j < n := by omega
  have hj' : (j : Int) < (n : Int) := by omega
  have hc := (O1.cell (p := ⟨m, j, none⟩) hm).trans (hz j hj)
  go_wp2
  go_ret
  exact ⟨j, rfl, hj, H1, O1⟩
end Go.Proofs.YteefbbnkfclllaaDoor
