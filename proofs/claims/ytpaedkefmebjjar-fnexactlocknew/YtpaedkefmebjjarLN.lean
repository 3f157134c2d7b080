/-
  Chapter 12: LockNew.
-/
import Derived.Test.YtpaedkefmebjjarLB
import Derived.Test.YtpaedkefmebjjarKS
import Derived.Test.YtpaedkefmebjjarLA
import Derived.Test.YtpaedkefmebjjarCA
import Derived.Test.YtpaedkefmebjjarCB
import Derived.Test.YtpaedkefmebjjarF8
import Derived.Test.YtpaedkefmebjjarA8
import Derived.Test.YtpaedkefmebjjarKIa
import Derived.Test.YtpaedkefmebjjarI6d
import Derived.Test.YtpaedkefmebjjarI7
import Derived.Test.YtpaedkefmebjjarI8f
import Derived.Test.YtpaedkefmebjjarG0
import Derived.Deep.DeepCutAuto
import Derived.Deep.RegionHeld3
namespace Go.Proofs.Ytpaedkefmebjjar
set_option linter.unusedVariables false
set_option linter.unusedSimpArgs false
open Go.ChangeShapes Go.WideShapes Go.ChangeAt Go.RowKit
/-- A new console, in numbers. -/
def newD (m : Nat) (ln : Nat → Nat) (f : Nat → Nat → Int) (np : Nat) (p : Nat → Int) : LockD :=
  { m := m, ln := ln, f := f, np := np, p := p, nr := 512, g := fun _ => 0, bank := 0, A := 0, X := 0, S := 255, Pc := newPc m ln f, Z := false, N := false, C := false, I := true, t := 0, c := 0, s := 0, ad := 0, pl := 0, bl := false, nt := 16, tb := fun _ => 0, nd := 0, dt := fun _ => 0, T := 0, P := 0, K := 0, B := 0, L := 0, Q := false, R := false, hd := false, sh := 0, nmi := false, st := 0, mf := 0, lf := fun _ => 0, fr := fun _ _ => 0, ns := 0, sm := fun _ => 0, nq := 0, rd := fun _ => 0 }
/-- No console. -/
def zeroD : LockD :=
  { m := 0, ln := fun _ => 0, f := fun _ _ => 0, np := 0, p := fun _ => 0, nr := 0, g := fun _ => 0, bank := 0, A := 0, X := 0, S := 0, Pc := 0, Z := false, N := false, C := false, I := false, t := 0, c := 0, s := 0, ad := 0, pl := 0, bl := false, nt := 0, tb := fun _ => 0, nd := 0, dt := fun _ => 0, T := 0, P := 0, K := 0, B := 0, L := 0, Q := false, R := false, hd := false, sh := 0, nmi := false, st := 0, mf := 0, lf := fun _ => 0, fr := fun _ _ => 0, ns := 0, sm := fun _ => 0, nq := 0, rd := fun _ => 0 }
theorem SsOn.none0 {W : World} {D : Nat → Prop} (f : Nat → Nat → Int) : SsOn W D (.slice none 0 0) 0 (fun _ => 0) f :=
  ⟨fun _ => none, fun _ => 0, ⟨⟨none, 0, rfl, by omega, fun i hi => absurd hi (Nat.not_lt_zero _)⟩, fun i hi => absurd hi (Nat.not_lt_zero _), fun i j hi => absurd hi (Nat.not_lt_zero _), by simp [psum]⟩, fun i hi => absurd hi (Nat.not_lt_zero _), fun i hi => absurd hi (Nat.not_lt_zero _), fun a cap e b o hF => absurd hF (foot_none _ _ _), fun i hi => absurd hi (Nat.not_lt_zero _)⟩
theorem zeroD_on {W : World} {D : Nat → Nat → Prop} : LockOn W D (.agg #[.slice none 0 0, .slice none 0 0, .slice none 0 0, .int .i64 0, .int .i64 0, .int .i64 0, .int .i64 0, .int .i64 0, .bool false, .bool false, .bool false, .bool false, .int .i64 0, .int .i64 0, .int .i64 0, .int .i64 0, .int .i64 0, .bool false, .slice none 0 0, .slice none 0 0, .int .i64 0, .int .i64 0, .int .i64 0, .int .i64 0, .int .i64 0, .bool false, .bool false, .bool false, .int .i64 0, .bool false, .int .i64 0, .slice none 0 0, .slice none 0 0, .slice none 0 0]) zeroD :=
  ⟨_, _, _, _, _, _, _, _, rfl, SsOn.none0 _, ⟨_, _, rfl, SlOn.zero _ _⟩, ⟨_, _, rfl, by show (0 : Nat) ≤ _; omega, fun i hi => absurd hi (Nat.not_lt_zero _), fun b o hF => absurd hF (foot_none _ _ _), fun b o hF => absurd hF (foot_none _ _ _)⟩, ⟨_, _, _, _, rfl, SlOn.zero _ _, SlOn.zero _ _, fun b o h => absurd h (foot_none _ _ _)⟩, ⟨_, _, _, rfl, SsOn.none0 _, ⟨_, _, rfl, SlOn.zero _ _⟩, ⟨_, _, rfl, SlOn.zero _ _⟩⟩⟩
theorem newD_on {W : World} {D : Nat → Nat → Prop} {m : Nat} {ln : Nat → Nat} {f : Nat → Nat → Int} {np : Nat} {p : Nat → Int} {b0 : Option Addr} {e0 g1 y1 : Nat} {b2 : Option Addr} {e2 q8 : Nat} {pc : Int} (hpc : pc = newPc m ln f)
    (h0 : SsOn W (D 0) (.slice b0 m e0) m ln f) (h1 : ListOn W (D 1) (.slice (some ⟨g1, 0, none⟩) np y1) np p) (h2 : MemOn W (D 2) (.agg #[.slice b2 512 e2, .int .i64 0]) 512 (fun _ => 0) 0) (h3 : PpuOn W (D 3) (.agg #[.int .i64 0, .int .i64 0, .int .i64 0, .int .i64 0, .int .i64 0, .bool false, .slice (some ⟨q8, 0, none⟩) 16 16, .slice none 0 0]) 0 0 0 0 0 false 16 (fun _ => 0) 0 (fun _ => 0)) : LockOn W D (.agg #[.slice b0 m e0, .slice (some ⟨g1, 0, none⟩) np y1, .slice b2 512 e2, .int .i64 0, .int .i64 0, .int .i64 0, .int .i64 255, .int .i64 pc, .bool false, .bool false, .bool false, .bool true, .int .i64 0, .int .i64 0, .int .i64 0, .int .i64 0, .int .i64 0, .bool false, .slice (some ⟨q8, 0, none⟩) 16 16, .slice none 0 0, .int .i64 0, .int .i64 0, .int .i64 0, .int .i64 0, .int .i64 0, .bool false, .bool false, .bool false, .int .i64 0, .bool false, .int .i64 0, .slice none 0 0, .slice none 0 0, .slice none 0 0]) (newD m ln f np p) := by
  subst hpc
  exact ⟨_, _, _, _, _, _, _, _, rfl, h0, h1, h2, h3, ⟨_, _, _, rfl, SsOn.none0 _, ⟨_, _, rfl, SlOn.zero _ _⟩, ⟨_, _, rfl, SlOn.zero _ _⟩⟩⟩
theorem ListOn.zeroOf {W : World} {D : Nat → Prop} {a : Option Addr} {n c : Nat} {f : Nat → Int} (h : n = 0) : ListOn W D (.slice a n c) n f := by
  subst h
  exact ⟨_, _, rfl, SlOn.zero _ _⟩
/-- A console in new memory. -/
structure LockNw (w w' : World) (v : Value) (d : LockD) : Prop where
  ex : ∃ D, LockOn w' D v d ∧ Dis D ∧ ∀ i b, D i b → w.heap.size ≤ b ∧ b < w'.heap.size
def D4 (l1 h1 l4 h4 g l5 h5 l8 h8 : Nat) : Nat → Nat → Prop := fun i b => (i = 0 ∧ l1 ≤ b ∧ b < h1) ∨ (i = 1 ∧ ((l4 ≤ b ∧ b < h4) ∧ (l4 ≤ g ∧ g < h4))) ∨ (i = 2 ∧ l5 ≤ b ∧ b < h5) ∨ (i = 3 ∧ l8 ≤ b ∧ b < h8)
theorem D4.dis {l1 h1 l4 h4 g l5 h5 l8 h8 : Nat} (d14 : h1 ≤ l4 ∨ h4 ≤ l1) (d15 : h1 ≤ l5 ∨ h5 ≤ l1) (d18 : h1 ≤ l8 ∨ h8 ≤ l1) (d45 : h4 ≤ l5 ∨ h5 ≤ l4) (d48 : h4 ≤ l8 ∨ h8 ≤ l4) (d58 : h5 ≤ l8 ∨ h8 ≤ l5) : Dis (D4 l1 h1 l4 h4 g l5 h5 l8 h8) := by
  intro i j b k1 k2
  rcases k1 with ⟨rfl, _, _⟩ | ⟨rfl, _, _⟩ | ⟨rfl, _, _⟩ | ⟨rfl, _, _⟩ <;> rcases k2 with ⟨rfl, _, _⟩ | ⟨rfl, _, _⟩ | ⟨rfl, _, _⟩ | ⟨rfl, _, _⟩ <;> first | rfl | omega
theorem D4.bd {l1 h1 l4 h4 g l5 h5 l8 h8 S N : Nat} (e1 : S ≤ l1 ∧ h1 ≤ N) (e4 : S ≤ l4 ∧ h4 ≤ N) (e5 : S ≤ l5 ∧ h5 ≤ N) (e8 : S ≤ l8 ∧ h8 ≤ N) : ∀ i b, D4 l1 h1 l4 h4 g l5 h5 l8 h8 i b → S ≤ b ∧ b < N := by
  intro i b h
  rcases h with ⟨rfl, _, _⟩ | ⟨rfl, _, _⟩ | ⟨rfl, _, _⟩ | ⟨rfl, _, _⟩ <;> omega
theorem away {l h lx hx b x : Nat} (d : hx ≤ l ∨ h ≤ lx) (h1 : l ≤ b) (h2 : b < h) (h3 : lx ≤ x) (h4 : x < hx) : ¬ b = x := by omega
set_option maxRecDepth 40000 in
set_option maxHeartbeats 8000000 in
theorem specLockNew (w : World) (F G : Nat → Nat → Prop) (u v : Value) (m : Nat) (ln : Nat → Nat) (f : Nat → Nat → Int) (np : Nat) (p : Nat → Int) (H : IntSS .i64 w F u m ln f) (K : Ints .i64 w G v np p) :
    Calls Try.prog 11 #[.agg #[u], v] w fun e w' => ∃ v', e = .returned (.tuple #[v', .bool (okLock (newD m ln f np p))]) ∧ LockNw w w' v' (if okLock (newD m ln f np p) then newD m ln f np p else zeroD) ∧ Below w.heap.size w w' := by
  obtain ⟨ia, ic, rfl, -⟩ := id H
  obtain ⟨pa, pcap, rfl, pn, -, -⟩ := id K
  obtain ⟨pc, hpc⟩ : ∃ x, Hid (x = newPc m ln f) := ⟨_, rfl⟩
  have HC := hide (fun W F v h => specCpuNew W F v m ln f h)
  rw [← hpc.out] at HC
  obtain ⟨d, hd⟩ : ∃ d, Hid (d = newD m ln f np p) := ⟨_, rfl⟩
  rw [← hd.out]
  have L0 : Below w.heap.size w ((w.alloc (.cells #[.slice ia m ic] 42)).alloc (.cells #[.slice none 0 0, .slice none 0 0, .slice none 0 0, .int .i64 0, .int .i64 0, .int .i64 0, .int .i64 0, .int .i64 0, .bool false, .bool false, .bool false, .bool false, .int .i64 0, .int .i64 0, .int .i64 0, .int .i64 0, .int .i64 0, .bool false, .slice none 0 0, .slice none 0 0, .int .i64 0, .int .i64 0, .int .i64 0, .int .i64 0, .int .i64 0, .bool false, .bool false, .bool false, .int .i64 0, .bool false, .int .i64 0, .slice none 0 0, .slice none 0 0, .slice none 0 0] 50)) := ((Below.refl _ _).alloc (Nat.le_refl _) _).alloc (by simp) _
  have k0 : ((w.alloc (.cells #[.slice ia m ic] 42)).alloc (.cells #[.slice none 0 0, .slice none 0 0, .slice none 0 0, .int .i64 0, .int .i64 0, .int .i64 0, .int .i64 0, .int .i64 0, .bool false, .bool false, .bool false, .bool false, .int .i64 0, .int .i64 0, .int .i64 0, .int .i64 0, .int .i64 0, .bool false, .slice none 0 0, .slice none 0 0, .int .i64 0, .int .i64 0, .int .i64 0, .int .i64 0, .int .i64 0, .bool false, .bool false, .bool false, .int .i64 0, .bool false, .int .i64 0, .slice none 0 0, .slice none 0 0, .slice none 0 0] 50)).heap[w.heap.size]? = some (.cells #[.slice ia m ic] 42 (0, 0)) := boxA (box_new w _ _) _
  have k1 : ((w.alloc (.cells #[.slice ia m ic] 42)).alloc (.cells #[.slice none 0 0, .slice none 0 0, .slice none 0 0, .int .i64 0, .int .i64 0, .int .i64 0, .int .i64 0, .int .i64 0, .bool false, .bool false, .bool false, .bool false, .int .i64 0, .int .i64 0, .int .i64 0, .int .i64 0, .int .i64 0, .bool false, .slice none 0 0, .slice none 0 0, .int .i64 0, .int .i64 0, .int .i64 0, .int .i64 0, .int .i64 0, .bool false, .bool false, .bool false, .int .i64 0, .bool false, .int .i64 0, .slice none 0 0, .slice none 0 0, .slice none 0 0] 50)).heap[w.heap.size + 1]? = some (.cells #[.slice none 0 0, .slice none 0 0, .slice none 0 0, .int .i64 0, .int .i64 0, .int .i64 0, .int .i64 0, .int .i64 0, .bool false, .bool false, .bool false, .bool false, .int .i64 0, .int .i64 0, .int .i64 0, .int .i64 0, .int .i64 0, .bool false, .slice none 0 0, .slice none 0 0, .int .i64 0, .int .i64 0, .int .i64 0, .int .i64 0, .int .i64 0, .bool false, .bool false, .bool false, .int .i64 0, .bool false, .int .i64 0, .slice none 0 0, .slice none 0 0, .slice none 0 0] 50 (0, 0)) := by simpa using box_new (w.alloc (.cells #[.slice ia m ic] 42)) #[.slice none 0 0, .slice none 0 0, .slice none 0 0, .int .i64 0, .int .i64 0, .int .i64 0, .int .i64 0, .int .i64 0, .bool false, .bool false, .bool false, .bool false, .int .i64 0, .int .i64 0, .int .i64 0, .int .i64 0, .int .i64 0, .bool false, .slice none 0 0, .slice none 0 0, .int .i64 0, .int .i64 0, .int .i64 0, .int .i64 0, .int .i64 0, .bool false, .bool false, .bool false, .int .i64 0, .bool false, .int .i64 0, .slice none 0 0, .slice none 0 0, .slice none 0 0] 50
  go_enter Try.func11, Try.ntmps11
  go_upto_region 1 with (fail)
  generalize (w.alloc (.cells #[.slice ia m ic] 42)).alloc (.cells #[.slice none 0 0, .slice none 0 0, .slice none 0 0, .int .i64 0, .int .i64 0, .int .i64 0, .int .i64 0, .int .i64 0, .bool false, .bool false, .bool false, .bool false, .int .i64 0, .int .i64 0, .int .i64 0, .int .i64 0, .int .i64 0, .bool false, .slice none 0 0, .slice none 0 0, .int .i64 0, .int .i64 0, .int .i64 0, .int .i64 0, .int .i64 0, .bool false, .bool false, .bool false, .int .i64 0, .bool false, .int .i64 0, .slice none 0 0, .slice none 0 0, .slice none 0 0] 50) = W0 at *
  replace H := H.keep (wrote_below L0 Nowhere) (fun _ _ _ x => x)
  replace K := K.keep (wrote_below L0 Nowhere) (fun _ _ _ x => x)
  have hb1 := boxLt k1
  obtain ⟨S, hS⟩ : ∃ S, Hid (S = W0.heap.size) := ⟨_, rfl⟩
  rename_i KK hKK
  refine wp_region_effL 11 [some 7, some 8, some 9, some 10, some 11, some 12, some 13, some 14, some 15, some 16, some 6, none] (by kernel_rfl) (by kernel_rfl) (by kernel_rfl) (by kernel_rfl) (by kernel_rfl) (by simp [slotsOf])
    (fun _ => Nowhere)
    (fun i V lo hi W => match i with
      | 0 => V 0 = .agg #[.slice ia m ic]
      | 1 => ∃ b0 e0, V 1 = .agg #[.slice b0 m e0] ∧ SsOn W (fun b => lo ≤ b ∧ b < hi) (.slice b0 m e0) m ln f
      | 2 => ∃ gE, V 2 = .slice (some ⟨gE, 0, none⟩) 0 0 ∧ W.heap[gE]? = some (.cells #[] 3 (0, 0)) ∧ S ≤ gE
      | 3 => V 3 = .slice pa np pcap
      | 4 => ∃ g1 y1, V 4 = .slice (some ⟨g1, 0, none⟩) np y1 ∧ Row W S g1 np y1 p ∧ ((lo ≤ g1 ∧ g1 < hi) ∨ (np = 0 ∧ y1 = 0))
      | 5 => ∃ b2 e2, V 5 = .agg #[.slice b2 512 e2, .int .i64 0] ∧ MemOn W (fun b => lo ≤ b ∧ b < hi) (.agg #[.slice b2 512 e2, .int .i64 0]) 512 (fun _ => 0) 0
      | 6 => V 6 = .agg #[.slice ia m ic]
      | 7 => V 7 = .agg #[.int .i64 0, .int .i64 0, .int .i64 255, .int .i64 pc, .bool false, .bool false, .bool false, .bool true]
      | 8 => ∃ q8, V 8 = .agg #[.int .i64 0, .int .i64 0, .int .i64 0, .int .i64 0, .int .i64 0, .bool false, .slice (some ⟨q8, 0, none⟩) 16 16, .slice none 0 0] ∧ PpuOn W (fun b => lo ≤ b ∧ b < hi) (.agg #[.int .i64 0, .int .i64 0, .int .i64 0, .int .i64 0, .int .i64 0, .bool false, .slice (some ⟨q8, 0, none⟩) 16 16, .slice none 0 0]) 0 0 0 0 0 false 16 (fun _ => 0) 0 (fun _ => 0)
      | 9 => ∃ b0 e0 g1 y1 b2 e2 q8, V 1 = .agg #[.slice b0 m e0] ∧ V 4 = .slice (some ⟨g1, 0, none⟩) np y1 ∧ V 5 = .agg #[.slice b2 512 e2, .int .i64 0] ∧ V 8 = .agg #[.int .i64 0, .int .i64 0, .int .i64 0, .int .i64 0, .int .i64 0, .bool false, .slice (some ⟨q8, 0, none⟩) 16 16, .slice none 0 0] ∧ V 9 = .agg #[.slice b0 m e0, .slice (some ⟨g1, 0, none⟩) np y1, .slice b2 512 e2, .int .i64 0, .int .i64 0, .int .i64 0, .int .i64 255, .int .i64 pc, .bool false, .bool false, .bool false, .bool true, .int .i64 0, .int .i64 0, .int .i64 0, .int .i64 0, .int .i64 0, .bool false, .slice (some ⟨q8, 0, none⟩) 16 16, .slice none 0 0, .int .i64 0, .int .i64 0, .int .i64 0, .int .i64 0, .int .i64 0, .bool false, .bool false, .bool false, .int .i64 0, .bool false, .int .i64 0, .slice none 0 0, .slice none 0 0, .slice none 0 0]
      | 10 => ∃ b, V 10 = .pointer (some ⟨b, 0, none⟩) ∧ W.heap[b]? = some (.cells #[.slice none 0 0, .slice none 0 0, .slice none 0 0, .int .i64 0, .int .i64 0, .int .i64 0, .int .i64 0, .int .i64 0, .bool false, .bool false, .bool false, .bool false, .int .i64 0, .int .i64 0, .int .i64 0, .int .i64 0, .int .i64 0, .bool false, .slice none 0 0, .slice none 0 0, .int .i64 0, .int .i64 0, .int .i64 0, .int .i64 0, .int .i64 0, .bool false, .bool false, .bool false, .int .i64 0, .bool false, .int .i64 0, .slice none 0 0, .slice none 0 0, .slice none 0 0] 50 (0, 0)) ∧ lo ≤ b ∧ b < hi
      | _ => True) ?_ ?_ ?_
  · intro i j o V x lo hi W W' hij _ _ ho hnw hlo hhi hW h
    have nw : ∀ k, waitsB o k = true → k ≠ j := fun k hk e => by rw [e, hnw] at hk; cases hk
    match i, ho, hij, nw, h with
    | 0, _, hij, _, h => exact (updV_ne V x hij).trans h
    | 3, _, hij, _, h => exact (updV_ne V x hij).trans h
    | 6, _, hij, _, h => exact (updV_ne V x hij).trans h
    | 7, _, hij, _, h => exact (updV_ne V x hij).trans h
    | 1, _, hij, _, ⟨b0, e0, h1, h2⟩ => exact ⟨b0, e0, (updV_ne V x hij).trans h1, h2.keep hW (fun _ _ _ _ x => x)⟩
    | 2, _, hij, _, ⟨gE, h1, h2, h3⟩ => exact ⟨gE, (updV_ne V x hij).trans h1, box_wrote h2 hW (fun _ x => x), h3⟩
    | 4, _, hij, _, ⟨g, c, h1, h2, h3⟩ => exact ⟨g, c, (updV_ne V x hij).trans h1, h2.keep hW (fun _ x => x), h3⟩
    | 5, _, hij, _, ⟨b2, e2, h1, h2⟩ => exact ⟨b2, e2, (updV_ne V x hij).trans h1, h2.keep hW (fun _ _ _ _ x => x)⟩
    | 8, _, hij, _, ⟨q8, h1, h2⟩ => exact ⟨q8, (updV_ne V x hij).trans h1, h2.keep hW (fun _ _ _ _ x => x)⟩
    | 9, ho, hij, nw, ⟨b0, e0, g1, y1, b2, e2, q8, h1, h4, h5, h8, h9⟩ =>
      simp only [List.getElem?_toArray, List.getElem?_cons_zero, List.getElem?_cons_succ, Option.some.injEq] at ho
      subst ho
      exact ⟨b0, e0, g1, y1, b2, e2, q8, (updV_ne V x (nw 1 (by kernel_rfl))).trans h1, (updV_ne V x (nw 4 (by kernel_rfl))).trans h4, (updV_ne V x (nw 5 (by kernel_rfl))).trans h5, (updV_ne V x (nw 8 (by kernel_rfl))).trans h8, (updV_ne V x hij).trans h9⟩
    | 10, _, hij, _, ⟨b, h1, h2, h3⟩ => exact ⟨b, (updV_ne V x hij).trans h1, box_wrote h2 hW (fun _ x => x), h3⟩
    | n + 11, _, _, _, _ => exact trivial
  · intro i o a' W K' hin ho F' L hw hK
    have hS' := hS.out
    have t1 := F'.get (t := 1) (v := .slice pa np pcap) (by decide) rfl
    have t2 := F'.get (t := 2) (v := .pointer (some ⟨w.heap.size, 0, none⟩)) (by decide) rfl
    have LN : Wrote Nowhere W0 W := L.mono (fun b o _ ⟨j, _, _, _, _, h⟩ => h)
    have WS : S ≤ W.heap.size := by have := LN.size; omega
    match i with
    | 0 =>
        simp only [List.getElem?_toArray, List.getElem?_cons_zero, List.getElem?_cons_succ, Option.some.injEq] at ho
        subst ho
        have rb := boxC (box_wrote k0 LN (fun _ x => x))
        go_simp
        exact hK _ _ (Wrote.refl _ _) (updV_same _ _ _)
    | 6 =>
        simp only [List.getElem?_toArray, List.getElem?_cons_zero, List.getElem?_cons_succ, Option.some.injEq] at ho
        subst ho
        have rb := boxC (box_wrote k0 LN (fun _ x => x))
        go_simp
        exact hK _ _ (Wrote.refl _ _) (updV_same _ _ _)
    | 1 =>
        simp only [List.getElem?_toArray, List.getElem?_cons_zero, List.getElem?_cons_succ, Option.some.injEq] at ho
        subst ho
        have q0 : a'.tmps[7]?.getD undef = .agg #[.slice ia m ic] := by obtain ⟨_, _, _, _, q⟩ := hw 0 (by kernel_rfl); exact q
        go_simp
        refine (l12Image W _ _ m ln f (H.keep LN (fun _ _ _ x => x))).mono ?_
        rintro e W' ⟨v0, rfl, G0, LB⟩
        obtain ⟨b0, e0, rfl⟩ := G0.form
        exact hK _ _ (wrote_below LB _) ⟨b0, e0, updV_same _ _ _, G0⟩
    | 2 =>
        simp only [List.getElem?_toArray, List.getElem?_cons_zero, List.getElem?_cons_succ, Option.some.injEq] at ho
        subst ho
        go_simp
        exact hK _ _ ((Wrote.refl _ W).alloc _) ⟨_, updV_same _ _ _, box_new W #[] 3, WS⟩
    | 3 =>
        simp only [List.getElem?_toArray, List.getElem?_cons_zero, List.getElem?_cons_succ, Option.some.injEq] at ho
        subst ho
        go_simp
        exact hK _ _ (Wrote.refl _ _) (updV_same _ _ _)
    | 4 =>
        simp only [List.getElem?_toArray, List.getElem?_cons_zero, List.getElem?_cons_succ, Option.some.injEq] at ho
        subst ho
        obtain ⟨_, _, _, _, gE, q2, q2b, q2c⟩ := hw 2 (by kernel_rfl)
        replace q2 : a'.tmps[9]?.getD undef = .slice (some ⟨gE, 0, none⟩) 0 0 := q2
        have q3 : a'.tmps[10]?.getD undef = .slice pa np pcap := by obtain ⟨_, _, _, _, q⟩ := hw 3 (by kernel_rfl); exact q
        refine wp_copy W (.tmp 9) (.tmp 10) rfl gE (by simpa [Act.eval] using q2) q2b S q2c _ _ np p (by simpa [Act.eval] using q3) (K.keep LN (fun _ _ _ x => x)) ?_
        intro g c W' hR hB hat
        refine hK _ _ (wrote_below hB _) ⟨g, c, updV_same _ _ _, hR, ?_⟩
        rcases hat with h | h
        · exact Or.inr (hR.none0 (by rw [h]; exact box_keep q2b hB (boxLt q2b)))
        · exact Or.inl ⟨h, hR.parts.2.1⟩
    | 5 =>
        simp only [List.getElem?_toArray, List.getElem?_cons_zero, List.getElem?_cons_succ, Option.some.injEq] at ho
        subst ho
        go_simp
        refine (specMemNew W).mono ?_
        rintro e W' ⟨q, rfl, G2, LB⟩
        have M2 := (MemOn.own (bank := 0) G2).mono (E := fun b => W.heap.size ≤ b ∧ b < W'.heap.size) (fun b hb h => ⟨h, hb⟩)
        obtain ⟨b2, e2, hx2⟩ := M2.two
        simp only [Value.agg.injEq, Array.mk.injEq, List.cons.injEq, and_true] at hx2
        subst hx2
        exact hK _ _ (wrote_below LB _) ⟨b2, e2, updV_same _ _ _, M2⟩
    | 7 =>
        simp only [List.getElem?_toArray, List.getElem?_cons_zero, List.getElem?_cons_succ, Option.some.injEq] at ho
        subst ho
        have q6 : a'.tmps[13]?.getD undef = .agg #[.slice ia m ic] := by obtain ⟨_, _, _, _, q⟩ := hw 6 (by kernel_rfl); exact q
        go_simp
        refine (HC.out W _ _ (H.keep LN (fun _ _ _ x => x))).mono ?_
        rintro e W' ⟨rfl, LB⟩
        exact hK _ _ (wrote_below LB _) (updV_same _ _ _)
    | 8 =>
        simp only [List.getElem?_toArray, List.getElem?_cons_zero, List.getElem?_cons_succ, Option.some.injEq] at ho
        subst ho
        go_simp
        refine (specPpuNew W).mono ?_
        rintro e W' ⟨q8, rfl, R8, LB⟩
        exact hK _ _ (wrote_below LB _) ⟨q8, updV_same _ _ _, ⟨_, _, _, _, rfl, R8.onD ⟨R8.parts.1, R8.parts.2.1⟩, SlOn.zero _ _, fun b o _ h => absurd h (foot_none _ _ _)⟩⟩
    | 9 =>
        simp only [List.getElem?_toArray, List.getElem?_cons_zero, List.getElem?_cons_succ, Option.some.injEq] at ho
        subst ho
        obtain ⟨_, _, _, _, b0, e0, v1, _⟩ := hw 1 (by kernel_rfl)
        obtain ⟨_, _, _, _, g1, y1, v4, _⟩ := hw 4 (by kernel_rfl)
        obtain ⟨_, _, _, _, b2, e2, v5, _⟩ := hw 5 (by kernel_rfl)
        obtain ⟨_, _, _, _, v7⟩ := hw 7 (by kernel_rfl)
        obtain ⟨_, _, _, _, q8, v8, _⟩ := hw 8 (by kernel_rfl)
        have s1 : a'.tmps[8]?.getD undef = .agg #[.slice b0 m e0] := v1
        have s4 : a'.tmps[11]?.getD undef = .slice (some ⟨g1, 0, none⟩) np y1 := v4
        have s5 : a'.tmps[12]?.getD undef = .agg #[.slice b2 512 e2, .int .i64 0] := v5
        have s7 : a'.tmps[14]?.getD undef = .agg #[.int .i64 0, .int .i64 0, .int .i64 255, .int .i64 pc, .bool false, .bool false, .bool false, .bool true] := v7
        have s8 : a'.tmps[15]?.getD undef = .agg #[.int .i64 0, .int .i64 0, .int .i64 0, .int .i64 0, .int .i64 0, .bool false, .slice (some ⟨q8, 0, none⟩) 16 16, .slice none 0 0] := v8
        go_simp
        exact hK _ _ (Wrote.refl _ _) ⟨b0, e0, g1, y1, b2, e2, q8, (updV_ne _ _ (by decide)).trans v1, (updV_ne _ _ (by decide)).trans v4, (updV_ne _ _ (by decide)).trans v5, (updV_ne _ _ (by decide)).trans v8, updV_same _ _ _⟩
    | 10 =>
        simp only [List.getElem?_toArray, List.getElem?_cons_zero, List.getElem?_cons_succ, Option.some.injEq] at ho
        subst ho
        go_simp
        exact hK _ _ ((Wrote.refl _ W).alloc _) ⟨W.heap.size, updV_same _ _ _, box_new W _ _, Nat.le_refl _, by simp⟩
    | n + 11 => omega
  · intro o a' W K' ho F' L lo hi hφ hdj hK
    have hS' := hS.out
    simp only [List.getElem?_toArray, List.getElem?_cons_zero, List.getElem?_cons_succ, Option.some.injEq] at ho
    subst ho
    have LN : Wrote Nowhere W0 W := L.mono (fun b o _ ⟨j, h⟩ => h)
    obtain ⟨a1, c1, z1, b0, e0, v1, G0⟩ := hφ 1 (by decide)
    obtain ⟨a4, c4, z4, g1, y1, v4, R1, hR1⟩ := hφ 4 (by decide)
    obtain ⟨a5, c5, z5, b2, e2, v5, G2⟩ := hφ 5 (by decide)
    obtain ⟨a8, c8, z8, q8, v8, G3⟩ := hφ 8 (by decide)
    obtain ⟨-, -, -, b0', e0', g1', y1', b2', e2', q8', w1, w4, w5, w8, v9⟩ := hφ 9 (by decide)
    obtain ⟨a10, c10, z10, bx, v10, rX, x1, x2⟩ := hφ 10 (by decide)
    have dj := fun i j h1 h2 h3 => hdj i j h1 h2 h3
    rw [v1] at w1
    rw [v4] at w4
    rw [v5] at w5
    rw [v8] at w8
    simp only [Value.agg.injEq, Array.mk.injEq, List.cons.injEq, Value.slice.injEq, Option.some.injEq, Addr.mk.injEq, and_true, true_and] at w1 w4 w5 w8
    obtain ⟨rfl, rfl⟩ := w1
    obtain ⟨rfl, rfl⟩ := w4
    obtain ⟨rfl, rfl⟩ := w5
    subst w8
    have s9 : a'.tmps[16]?.getD undef = .agg #[.slice b0 m e0, .slice (some ⟨g1, 0, none⟩) np y1, .slice b2 512 e2, .int .i64 0, .int .i64 0, .int .i64 0, .int .i64 255, .int .i64 pc, .bool false, .bool false, .bool false, .bool true, .int .i64 0, .int .i64 0, .int .i64 0, .int .i64 0, .int .i64 0, .bool false, .slice (some ⟨q8, 0, none⟩) 16 16, .slice none 0 0, .int .i64 0, .int .i64 0, .int .i64 0, .int .i64 0, .int .i64 0, .bool false, .bool false, .bool false, .int .i64 0, .bool false, .int .i64 0, .slice none 0 0, .slice none 0 0, .slice none 0 0] := v9
    have s10 : a'.tmps[6]?.getD undef = .pointer (some ⟨bx, 0, none⟩) := v10
    refine wp_store_row _ _ _ rfl bx #[.slice b0 m e0, .slice (some ⟨g1, 0, none⟩) np y1, .slice b2 512 e2, .int .i64 0, .int .i64 0, .int .i64 0, .int .i64 255, .int .i64 pc, .bool false, .bool false, .bool false, .bool true, .int .i64 0, .int .i64 0, .int .i64 0, .int .i64 0, .int .i64 0, .bool false, .slice (some ⟨q8, 0, none⟩) 16 16, .slice none 0 0, .int .i64 0, .int .i64 0, .int .i64 0, .int .i64 0, .int .i64 0, .bool false, .bool false, .bool false, .int .i64 0, .bool false, .int .i64 0, .slice none 0 0, .slice none 0 0, .slice none 0 0] (by simpa [Act.eval] using s10) (by simpa [Act.eval] using s9) _ _ rX infoLock rfl (by first | kernel_rfl | simp [Value.oneCell']) ?_
    refine hK _ _ ?_
    have hW1 := LN.size
    have WW := wrote_setRow rX #[.slice b0 m e0, .slice (some ⟨g1, 0, none⟩) np y1, .slice b2 512 e2, .int .i64 0, .int .i64 0, .int .i64 0, .int .i64 255, .int .i64 pc, .bool false, .bool false, .bool false, .bool true, .int .i64 0, .int .i64 0, .int .i64 0, .int .i64 0, .int .i64 0, .bool false, .slice (some ⟨q8, 0, none⟩) 16 16, .slice none 0 0, .int .i64 0, .int .i64 0, .int .i64 0, .int .i64 0, .int .i64 0, .bool false, .bool false, .bool false, .int .i64 0, .bool false, .int .i64 0, .slice none 0 0, .slice none 0 0, .slice none 0 0]
    have B6 := setRow_heap _ _ _ #[.slice b0 m e0, .slice (some ⟨g1, 0, none⟩) np y1, .slice b2 512 e2, .int .i64 0, .int .i64 0, .int .i64 0, .int .i64 255, .int .i64 pc, .bool false, .bool false, .bool false, .bool true, .int .i64 0, .int .i64 0, .int .i64 0, .int .i64 0, .int .i64 0, .bool false, .slice (some ⟨q8, 0, none⟩) 16 16, .slice none 0 0, .int .i64 0, .int .i64 0, .int .i64 0, .int .i64 0, .int .i64 0, .bool false, .bool false, .bool false, .int .i64 0, .bool false, .int .i64 0, .slice none 0 0, .slice none 0 0, .slice none 0 0] _ _ rX
    have k0' := box_wrote (box_wrote k0 LN (fun _ x => x)) WW (fun o (e : _ = _) => by omega)
    have k1' := box_wrote (box_wrote k1 LN (fun _ x => x)) WW (fun o (e : _ = _) => by omega)
    have C1 : Below w.heap.size w (W.setRow bx #[.slice b0 m e0, .slice (some ⟨g1, 0, none⟩) np y1, .slice b2 512 e2, .int .i64 0, .int .i64 0, .int .i64 0, .int .i64 255, .int .i64 pc, .bool false, .bool false, .bool false, .bool true, .int .i64 0, .int .i64 0, .int .i64 0, .int .i64 0, .int .i64 0, .bool false, .slice (some ⟨q8, 0, none⟩) 16 16, .slice none 0 0, .int .i64 0, .int .i64 0, .int .i64 0, .int .i64 0, .int .i64 0, .bool false, .bool false, .bool false, .int .i64 0, .bool false, .int .i64 0, .slice none 0 0, .slice none 0 0, .slice none 0 0]) := (L0.trans (LN.below L0.size (fun b o hb h => h))).trans (WW.below (by omega) (fun b o hb (e : b = _) => by omega))
    have DD : Hid (∃ D, LockOn (W.setRow bx #[.slice b0 m e0, .slice (some ⟨g1, 0, none⟩) np y1, .slice b2 512 e2, .int .i64 0, .int .i64 0, .int .i64 0, .int .i64 255, .int .i64 pc, .bool false, .bool false, .bool false, .bool true, .int .i64 0, .int .i64 0, .int .i64 0, .int .i64 0, .int .i64 0, .bool false, .slice (some ⟨q8, 0, none⟩) 16 16, .slice none 0 0, .int .i64 0, .int .i64 0, .int .i64 0, .int .i64 0, .int .i64 0, .bool false, .bool false, .bool false, .int .i64 0, .bool false, .int .i64 0, .slice none 0 0, .slice none 0 0, .slice none 0 0]) D (.agg #[.slice b0 m e0, .slice (some ⟨g1, 0, none⟩) np y1, .slice b2 512 e2, .int .i64 0, .int .i64 0, .int .i64 0, .int .i64 255, .int .i64 pc, .bool false, .bool false, .bool false, .bool true, .int .i64 0, .int .i64 0, .int .i64 0, .int .i64 0, .int .i64 0, .bool false, .slice (some ⟨q8, 0, none⟩) 16 16, .slice none 0 0, .int .i64 0, .int .i64 0, .int .i64 0, .int .i64 0, .int .i64 0, .bool false, .bool false, .bool false, .int .i64 0, .bool false, .int .i64 0, .slice none 0 0, .slice none 0 0, .slice none 0 0]) d ∧ Dis D ∧ ∀ i b, D i b → S ≤ b ∧ b < W.heap.size) := by
      show ∃ D, _
      rw [hd.out]
      refine ⟨D4 (lo 1) (hi 1) (lo 4) (hi 4) g1 (lo 5) (hi 5) (lo 8) (hi 8), newD_on hpc.out ?_ ?_ ?_ ?_, D4.dis (dj 1 4 (by decide) (by decide) (by decide)) (dj 1 5 (by decide) (by decide) (by decide)) (dj 1 8 (by decide) (by decide) (by decide)) (dj 4 5 (by decide) (by decide) (by decide)) (dj 4 8 (by decide) (by decide) (by decide)) (dj 5 8 (by decide) (by decide) (by decide)), D4.bd ⟨by rw [hS']; exact a1, z1⟩ ⟨by rw [hS']; exact a4, z4⟩ ⟨by rw [hS']; exact a5, z5⟩ ⟨by rw [hS']; exact a8, z8⟩⟩
      · exact (G0.keep WW (fun b o hb _ => away (dj 10 1 (by decide) (by decide) (by decide)) hb.1 hb.2 x1 x2)).mono (fun b _ h => Or.inl ⟨rfl, h⟩)
      · rcases hR1 with h | ⟨h, -⟩
        · exact ⟨_, _, rfl, (R1.keep WW (fun o => away (dj 10 4 (by decide) (by decide) (by decide)) h.1 h.2 x1 x2)).onD (Or.inr (Or.inl ⟨rfl, h, h⟩))⟩
        · exact ListOn.zeroOf h
      · exact (G2.keep WW (fun b o hb _ => away (dj 10 5 (by decide) (by decide) (by decide)) hb.1 hb.2 x1 x2)).mono (fun b _ h => Or.inr (Or.inr (Or.inl ⟨rfl, h⟩)))
      · exact (G3.keep WW (fun b o hb _ => away (dj 10 8 (by decide) (by decide) (by decide)) hb.1 hb.2 x1 x2)).mono (fun b _ h => Or.inr (Or.inr (Or.inr ⟨rfl, h⟩)))
    have hWs : (W.setRow bx #[.slice b0 m e0, .slice (some ⟨g1, 0, none⟩) np y1, .slice b2 512 e2, .int .i64 0, .int .i64 0, .int .i64 0, .int .i64 255, .int .i64 pc, .bool false, .bool false, .bool false, .bool true, .int .i64 0, .int .i64 0, .int .i64 0, .int .i64 0, .int .i64 0, .bool false, .slice (some ⟨q8, 0, none⟩) 16 16, .slice none 0 0, .int .i64 0, .int .i64 0, .int .i64 0, .int .i64 0, .int .i64 0, .bool false, .bool false, .bool false, .int .i64 0, .bool false, .int .i64 0, .slice none 0 0, .slice none 0 0, .slice none 0 0]).heap.size = W.heap.size := by have := WW.size; simp
    rw [F'.same, show slotsOf [some 7, some 8, some 9, some 10, some 11, some 12, some 13, some 14, some 15, some 16, some 6, none] = [7, 8, 9, 10, 11, 12, 13, 14, 15, 16, 6] from rfl]
    simp only [List.foldl_cons, List.foldl_nil]
    rw [s10]
    generalize a'.tmps[7]?.getD undef = s7
    generalize a'.tmps[8]?.getD undef = s8
    generalize a'.tmps[9]?.getD undef = s9'
    generalize a'.tmps[10]?.getD undef = s10'
    generalize a'.tmps[11]?.getD undef = s11
    generalize a'.tmps[12]?.getD undef = s12
    generalize a'.tmps[13]?.getD undef = s13
    generalize a'.tmps[14]?.getD undef = s14
    generalize a'.tmps[15]?.getD undef = s15
    generalize a'.tmps[16]?.getD undef = s16
    have hx0 : w.heap.size + 1 < bx := by omega
    clear hφ hdj dj v1 v4 v5 v8 v9 v10 F' L LN k0 k1 H K L0 HC rX s9 s10 G0 G2 G3 R1 hR1 WW hW1
    obtain ⟨cN, hcN⟩ : ∃ c : Array Value, Hid (c = #[.slice b0 m e0, .slice (some ⟨g1, 0, none⟩) np y1, .slice b2 512 e2, .int .i64 0, .int .i64 0, .int .i64 0, .int .i64 255, .int .i64 pc, .bool false, .bool false, .bool false, .bool true, .int .i64 0, .int .i64 0, .int .i64 0, .int .i64 0, .int .i64 0, .bool false, .slice (some ⟨q8, 0, none⟩) 16 16, .slice none 0 0, .int .i64 0, .int .i64 0, .int .i64 0, .int .i64 0, .int .i64 0, .bool false, .bool false, .bool false, .int .i64 0, .bool false, .int .i64 0, .slice none 0 0, .slice none 0 0, .slice none 0 0]) := ⟨_, rfl⟩
    have sN : cN.size = 34 := by rw [hcN.out]; rfl
    have oneN : cN.all (·.oneCell') = true := by rw [hcN.out]; first | kernel_rfl | simp [Value.oneCell']
    rw [← hcN.out] at B6 k0' k1' C1 DD hWs ⊢
    generalize W.setRow bx cN = W1 at *
    obtain ⟨D, HL, dis, bd⟩ := DD.out
    clear DD hcN
    refine hKK _ _ ?_
    clear hKK
    go_simp
    go_upto_region 2 with (fail)
    refine wp_region_lit ?_
    refine wpList_load_row rfl _ _ rfl (bx) rfl _ _ _ _ B6 Try.underlying50 rfl (infoAt infoLock sN) ?_
    go_wp2_with fail
    refine (specLockOk _ D _ d HL).mono ?_
    rintro e W3 ⟨rfl, LB⟩
    replace C1 := below_snoc C1 LB
    replace k1' := box_keep k1' LB (boxLt k1')
    replace B6 := box_keep B6 LB (boxLt B6)
    replace HL := HL.below LB
    have l23 := LB.size
    clear LB k0'
    cases hok : okLock d
    · go_upto_region 3 with (fail)
      rename_i K2 hK2
      refine wp_region_lit ?_
      refine wpList_plain rfl (fun K3 hK3 => ?_)
      go_simp
      refine hK3 _ _ ?_
      clear hK3
      refine wpList_store_row rfl _ _ _ rfl (w.heap.size + 1) #[.slice none 0 0, .slice none 0 0, .slice none 0 0, .int .i64 0, .int .i64 0, .int .i64 0, .int .i64 0, .int .i64 0, .bool false, .bool false, .bool false, .bool false, .int .i64 0, .int .i64 0, .int .i64 0, .int .i64 0, .int .i64 0, .bool false, .slice none 0 0, .slice none 0 0, .int .i64 0, .int .i64 0, .int .i64 0, .int .i64 0, .int .i64 0, .bool false, .bool false, .bool false, .int .i64 0, .bool false, .int .i64 0, .slice none 0 0, .slice none 0 0, .slice none 0 0] rfl rfl _ _ k1' infoLock rfl (by first | kernel_rfl | simp [Value.oneCell']) ?_
      have B3 := setRow_heap _ _ _ #[.slice none 0 0, .slice none 0 0, .slice none 0 0, .int .i64 0, .int .i64 0, .int .i64 0, .int .i64 0, .int .i64 0, .bool false, .bool false, .bool false, .bool false, .int .i64 0, .int .i64 0, .int .i64 0, .int .i64 0, .int .i64 0, .bool false, .slice none 0 0, .slice none 0 0, .int .i64 0, .int .i64 0, .int .i64 0, .int .i64 0, .int .i64 0, .bool false, .bool false, .bool false, .int .i64 0, .bool false, .int .i64 0, .slice none 0 0, .slice none 0 0, .slice none 0 0] _ _ k1'
      have WW := wrote_setRow k1' #[.slice none 0 0, .slice none 0 0, .slice none 0 0, .int .i64 0, .int .i64 0, .int .i64 0, .int .i64 0, .int .i64 0, .bool false, .bool false, .bool false, .bool false, .int .i64 0, .int .i64 0, .int .i64 0, .int .i64 0, .int .i64 0, .bool false, .slice none 0 0, .slice none 0 0, .int .i64 0, .int .i64 0, .int .i64 0, .int .i64 0, .int .i64 0, .bool false, .bool false, .bool false, .int .i64 0, .bool false, .int .i64 0, .slice none 0 0, .slice none 0 0, .slice none 0 0]
      have LL := hide (C1.trans (WW.below C1.size (fun b o hb (e : b = _) => by omega)))
      clear WW HL C1 B6 k1'
      generalize W3.setRow (w.heap.size + 1) #[.slice none 0 0, .slice none 0 0, .slice none 0 0, .int .i64 0, .int .i64 0, .int .i64 0, .int .i64 0, .int .i64 0, .bool false, .bool false, .bool false, .bool false, .int .i64 0, .int .i64 0, .int .i64 0, .int .i64 0, .int .i64 0, .bool false, .slice none 0 0, .slice none 0 0, .int .i64 0, .int .i64 0, .int .i64 0, .int .i64 0, .int .i64 0, .bool false, .bool false, .bool false, .int .i64 0, .bool false, .int .i64 0, .slice none 0 0, .slice none 0 0, .slice none 0 0] = W4 at *
      refine wpList_plain rfl (fun K3 hK3 => ?_)
      go_simp
      refine hK3 _ _ ?_
      clear hK3
      refine hK2 _ _ ?_
      go_wp2
      refine bodyPost_ret (v := .tuple #[.agg #[.slice none 0 0, .slice none 0 0, .slice none 0 0, .int .i64 0, .int .i64 0, .int .i64 0, .int .i64 0, .int .i64 0, .bool false, .bool false, .bool false, .bool false, .int .i64 0, .int .i64 0, .int .i64 0, .int .i64 0, .int .i64 0, .bool false, .slice none 0 0, .slice none 0 0, .int .i64 0, .int .i64 0, .int .i64 0, .int .i64 0, .int .i64 0, .bool false, .bool false, .bool false, .int .i64 0, .bool false, .int .i64 0, .slice none 0 0, .slice none 0 0, .slice none 0 0], .bool false]) (results_row_tmp Try.results11 _ _ (w.heap.size + 1) _ _ _ _ rfl B3 Try.underlying50 rfl infoLock) rfl ?_
      refine ⟨_, rfl, ⟨fun _ _ => False, ?_, fun i j b h => h.elim, fun i b h => h.elim⟩, LL.out⟩
      first | exact zeroD_on | (rw [if_neg (by decide)]; exact zeroD_on)
    · go_upto_region 4 with (fail)
      rename_i K2 hK2
      refine wp_region_lit ?_
      refine wpList_load_row rfl _ _ rfl (bx) rfl _ _ _ _ B6 Try.underlying50 rfl (infoAt infoLock sN) ?_
      refine wpList_store_row rfl _ _ _ rfl (w.heap.size + 1) cN rfl rfl _ _ k1' (infoAt infoLock sN) (by rw [sN]; rfl) oneN ?_
      have B3 := setRow_heap _ _ _ cN _ _ k1'
      have WW := wrote_setRow k1' cN
      have OO := hide (HL.keep WW (fun i b o h _ (e : b = _) => by have := bd _ _ h; omega))
      have LL := hide (C1.trans (WW.below C1.size (fun b o hb (e : b = _) => by omega)))
      have hz := WW.size
      clear WW HL C1 B6
      generalize W3.setRow (w.heap.size + 1) cN = W4 at *
      refine wpList_plain rfl (fun K3 hK3 => ?_)
      go_simp
      refine hK3 _ _ ?_
      clear hK3
      refine hK2 _ _ ?_
      go_wp2
      refine bodyPost_ret (v := .tuple #[.agg cN, .bool true]) (results_row_tmp Try.results11 _ _ (w.heap.size + 1) _ _ _ _ rfl B3 Try.underlying50 rfl (infoAt infoLock sN)) rfl ?_
      refine ⟨_, rfl, ⟨D, ?_, dis, fun i b h => ?_⟩, LL.out⟩
      · first | exact OO.out | (rw [if_pos rfl]; exact OO.out)
      · have := bd _ _ h
        omega
end Go.Proofs.Ytpaedkefmebjjar
namespace Go.Proofs.Ytpaedkefmebjjar
set_option linter.unusedVariables false
set_option linter.unusedSimpArgs false
open Go.ChangeShapes Go.WideShapes Go.ChangeAt Go.RowKit
theorem newD_onA {W : World} {D : Nat → Nat → Prop} {m : Nat} {ln : Nat → Nat} {f : Nat → Nat → Int} {np : Nat} {p : Nat → Int} {u0 u1 : Value} {b2 : Option Addr} {e2 q8 : Nat} {pc : Int} (hpc : pc = newPc m ln f)
    (h0 : SsOn W (D 0) u0 m ln f) (h1 : ListOn W (D 1) u1 np p) (h2 : MemOn W (D 2) (.agg #[.slice b2 512 e2, .int .i64 0]) 512 (fun _ => 0) 0) (h3 : PpuOn W (D 3) (.agg #[.int .i64 0, .int .i64 0, .int .i64 0, .int .i64 0, .int .i64 0, .bool false, .slice (some ⟨q8, 0, none⟩) 16 16, .slice none 0 0]) 0 0 0 0 0 false 16 (fun _ => 0) 0 (fun _ => 0)) : LockOn W D (.agg #[u0, u1, .slice b2 512 e2, .int .i64 0, .int .i64 0, .int .i64 0, .int .i64 255, .int .i64 pc, .bool false, .bool false, .bool false, .bool true, .int .i64 0, .int .i64 0, .int .i64 0, .int .i64 0, .int .i64 0, .bool false, .slice (some ⟨q8, 0, none⟩) 16 16, .slice none 0 0, .int .i64 0, .int .i64 0, .int .i64 0, .int .i64 0, .int .i64 0, .bool false, .bool false, .bool false, .int .i64 0, .bool false, .int .i64 0, .slice none 0 0, .slice none 0 0, .slice none 0 0]) (newD m ln f np p) := by
  subst hpc
  exact ⟨_, _, _, _, _, _, _, _, rfl, h0, h1, h2, h3, ⟨_, _, _, rfl, SsOn.none0 _, ⟨_, _, rfl, SlOn.zero _ _⟩, ⟨_, _, rfl, SlOn.zero _ _⟩⟩⟩
theorem LockAw.nw {w W : World} {lo : Nat} {v : Value} {d : LockD} (H : LockAw W lo v d) (hl : w.heap.size ≤ lo) : LockNw w W v d := by
  obtain ⟨D, u0, u1, u2, u3, u4, u5, u6, u7, ob, iv, ov, o6, o7, rfl, h⟩ := H
  exact ⟨D, h.on, h.dis, fun i b hb => ⟨Nat.le_trans hl (h.bd i b hb).1, (h.bd i b hb).2⟩⟩
set_option maxRecDepth 40000 in
set_option maxHeartbeats 8000000 in
theorem implLockNew (w : World) (D0 D1 : Nat → Prop) (u v : Value) (m : Nat) (ln : Nat → Nat) (f : Nat → Nat → Int) (np : Nat) (p : Nat → Int) (H : SsOn w D0 u m ln f) (K : ListOn w D1 v np p) :
    Calls Try.prog 14 #[.agg #[u], v] w fun e w' => ∃ v', e = .returned (.tuple #[v', .bool (okLock (newD m ln f np p))]) ∧ LockNw w w' v' (if okLock (newD m ln f np p) then newD m ln f np p else zeroD) ∧ Below w.heap.size w w' := by
  replace H := H.mono (E := fun b => b < w.heap.size) (fun b hb _ => hb)
  replace K := K.mono (E := fun b => b < w.heap.size) (fun b hb _ => hb)
  obtain ⟨ia, ic, rfl⟩ := H.form
  obtain ⟨pa, pcap, rfl⟩ := K.two
  obtain ⟨pc, hpc⟩ : ∃ x, Hid (x = newPc m ln f) := ⟨_, rfl⟩
  have HC := hide (fun W F v h => implCpuNew W F v m ln f h)
  rw [← hpc.out] at HC
  obtain ⟨d, hd⟩ : ∃ d, Hid (d = newD m ln f np p) := ⟨_, rfl⟩
  rw [← hd.out]
  have L0 : Below w.heap.size w ((w.alloc (.cells #[.slice ia m ic] 42)).alloc (.cells #[.slice none 0 0, .slice none 0 0, .slice none 0 0, .int .i64 0, .int .i64 0, .int .i64 0, .int .i64 0, .int .i64 0, .bool false, .bool false, .bool false, .bool false, .int .i64 0, .int .i64 0, .int .i64 0, .int .i64 0, .int .i64 0, .bool false, .slice none 0 0, .slice none 0 0, .int .i64 0, .int .i64 0, .int .i64 0, .int .i64 0, .int .i64 0, .bool false, .bool false, .bool false, .int .i64 0, .bool false, .int .i64 0, .slice none 0 0, .slice none 0 0, .slice none 0 0] 50)) := ((Below.refl _ _).alloc (Nat.le_refl _) _).alloc (by simp) _
  have k0 : ((w.alloc (.cells #[.slice ia m ic] 42)).alloc (.cells #[.slice none 0 0, .slice none 0 0, .slice none 0 0, .int .i64 0, .int .i64 0, .int .i64 0, .int .i64 0, .int .i64 0, .bool false, .bool false, .bool false, .bool false, .int .i64 0, .int .i64 0, .int .i64 0, .int .i64 0, .int .i64 0, .bool false, .slice none 0 0, .slice none 0 0, .int .i64 0, .int .i64 0, .int .i64 0, .int .i64 0, .int .i64 0, .bool false, .bool false, .bool false, .int .i64 0, .bool false, .int .i64 0, .slice none 0 0, .slice none 0 0, .slice none 0 0] 50)).heap[w.heap.size]? = some (.cells #[.slice ia m ic] 42 (0, 0)) := boxA (box_new w _ _) _
  have k1 : ((w.alloc (.cells #[.slice ia m ic] 42)).alloc (.cells #[.slice none 0 0, .slice none 0 0, .slice none 0 0, .int .i64 0, .int .i64 0, .int .i64 0, .int .i64 0, .int .i64 0, .bool false, .bool false, .bool false, .bool false, .int .i64 0, .int .i64 0, .int .i64 0, .int .i64 0, .int .i64 0, .bool false, .slice none 0 0, .slice none 0 0, .int .i64 0, .int .i64 0, .int .i64 0, .int .i64 0, .int .i64 0, .bool false, .bool false, .bool false, .int .i64 0, .bool false, .int .i64 0, .slice none 0 0, .slice none 0 0, .slice none 0 0] 50)).heap[w.heap.size + 1]? = some (.cells #[.slice none 0 0, .slice none 0 0, .slice none 0 0, .int .i64 0, .int .i64 0, .int .i64 0, .int .i64 0, .int .i64 0, .bool false, .bool false, .bool false, .bool false, .int .i64 0, .int .i64 0, .int .i64 0, .int .i64 0, .int .i64 0, .bool false, .slice none 0 0, .slice none 0 0, .int .i64 0, .int .i64 0, .int .i64 0, .int .i64 0, .int .i64 0, .bool false, .bool false, .bool false, .int .i64 0, .bool false, .int .i64 0, .slice none 0 0, .slice none 0 0, .slice none 0 0] 50 (0, 0)) := by simpa using box_new (w.alloc (.cells #[.slice ia m ic] 42)) #[.slice none 0 0, .slice none 0 0, .slice none 0 0, .int .i64 0, .int .i64 0, .int .i64 0, .int .i64 0, .int .i64 0, .bool false, .bool false, .bool false, .bool false, .int .i64 0, .int .i64 0, .int .i64 0, .int .i64 0, .int .i64 0, .bool false, .slice none 0 0, .slice none 0 0, .int .i64 0, .int .i64 0, .int .i64 0, .int .i64 0, .int .i64 0, .bool false, .bool false, .bool false, .int .i64 0, .bool false, .int .i64 0, .slice none 0 0, .slice none 0 0, .slice none 0 0] 50
  go_enter Try.func14, Try.ntmps14
  go_upto_region 1 with (fail)
  generalize (w.alloc (.cells #[.slice ia m ic] 42)).alloc (.cells #[.slice none 0 0, .slice none 0 0, .slice none 0 0, .int .i64 0, .int .i64 0, .int .i64 0, .int .i64 0, .int .i64 0, .bool false, .bool false, .bool false, .bool false, .int .i64 0, .int .i64 0, .int .i64 0, .int .i64 0, .int .i64 0, .bool false, .slice none 0 0, .slice none 0 0, .int .i64 0, .int .i64 0, .int .i64 0, .int .i64 0, .int .i64 0, .bool false, .bool false, .bool false, .int .i64 0, .bool false, .int .i64 0, .slice none 0 0, .slice none 0 0, .slice none 0 0] 50) = W0 at *
  replace H := H.keep (wrote_below L0 Nowhere) (fun _ _ _ _ x => x)
  replace K := K.keep (wrote_below L0 Nowhere) (fun _ _ _ _ x => x)
  have hb1 := boxLt k1
  obtain ⟨S, hS⟩ : ∃ S, Hid (S = W0.heap.size) := ⟨_, rfl⟩
  rename_i KK hKK
  refine wp_region_effL 8 [some 7, some 8, some 9, some 10, some 11, some 12, some 13, some 6, none] (by kernel_rfl) (by kernel_rfl) (by kernel_rfl) (by kernel_rfl) (by kernel_rfl) (by simp [slotsOf])
    (fun _ => Nowhere)
    (fun i V lo hi W => match i with
      | 0 => V 0 = .agg #[.slice ia m ic]
      | 1 => V 1 = .slice pa np pcap
      | 2 => ∃ b2 e2, V 2 = .agg #[.slice b2 512 e2, .int .i64 0] ∧ MemOn W (fun b => lo ≤ b ∧ b < hi) (.agg #[.slice b2 512 e2, .int .i64 0]) 512 (fun _ => 0) 0
      | 3 => V 3 = .agg #[.slice ia m ic]
      | 4 => V 4 = .agg #[.int .i64 0, .int .i64 0, .int .i64 255, .int .i64 pc, .bool false, .bool false, .bool false, .bool true]
      | 5 => ∃ q8, V 5 = .agg #[.int .i64 0, .int .i64 0, .int .i64 0, .int .i64 0, .int .i64 0, .bool false, .slice (some ⟨q8, 0, none⟩) 16 16, .slice none 0 0] ∧ PpuOn W (fun b => lo ≤ b ∧ b < hi) (.agg #[.int .i64 0, .int .i64 0, .int .i64 0, .int .i64 0, .int .i64 0, .bool false, .slice (some ⟨q8, 0, none⟩) 16 16, .slice none 0 0]) 0 0 0 0 0 false 16 (fun _ => 0) 0 (fun _ => 0)
      | 6 => ∃ b2 e2 q8, V 2 = .agg #[.slice b2 512 e2, .int .i64 0] ∧ V 5 = .agg #[.int .i64 0, .int .i64 0, .int .i64 0, .int .i64 0, .int .i64 0, .bool false, .slice (some ⟨q8, 0, none⟩) 16 16, .slice none 0 0] ∧ V 6 = .agg #[.slice ia m ic, .slice pa np pcap, .slice b2 512 e2, .int .i64 0, .int .i64 0, .int .i64 0, .int .i64 255, .int .i64 pc, .bool false, .bool false, .bool false, .bool true, .int .i64 0, .int .i64 0, .int .i64 0, .int .i64 0, .int .i64 0, .bool false, .slice (some ⟨q8, 0, none⟩) 16 16, .slice none 0 0, .int .i64 0, .int .i64 0, .int .i64 0, .int .i64 0, .int .i64 0, .bool false, .bool false, .bool false, .int .i64 0, .bool false, .int .i64 0, .slice none 0 0, .slice none 0 0, .slice none 0 0]
      | 7 => ∃ b, V 7 = .pointer (some ⟨b, 0, none⟩) ∧ W.heap[b]? = some (.cells #[.slice none 0 0, .slice none 0 0, .slice none 0 0, .int .i64 0, .int .i64 0, .int .i64 0, .int .i64 0, .int .i64 0, .bool false, .bool false, .bool false, .bool false, .int .i64 0, .int .i64 0, .int .i64 0, .int .i64 0, .int .i64 0, .bool false, .slice none 0 0, .slice none 0 0, .int .i64 0, .int .i64 0, .int .i64 0, .int .i64 0, .int .i64 0, .bool false, .bool false, .bool false, .int .i64 0, .bool false, .int .i64 0, .slice none 0 0, .slice none 0 0, .slice none 0 0] 50 (0, 0)) ∧ lo ≤ b ∧ b < hi
      | _ => True) ?_ ?_ ?_
  · intro i j o V x lo hi W W' hij _ _ ho hnw hlo hhi hW h
    have nw : ∀ k, waitsB o k = true → k ≠ j := fun k hk e => by rw [e, hnw] at hk; cases hk
    match i, ho, hij, nw, h with
    | 0, _, hij, _, h => exact (updV_ne V x hij).trans h
    | 1, _, hij, _, h => exact (updV_ne V x hij).trans h
    | 3, _, hij, _, h => exact (updV_ne V x hij).trans h
    | 4, _, hij, _, h => exact (updV_ne V x hij).trans h
    | 2, _, hij, _, ⟨b2, e2, h1, h2⟩ => exact ⟨b2, e2, (updV_ne V x hij).trans h1, h2.keep hW (fun _ _ _ _ x => x)⟩
    | 5, _, hij, _, ⟨q8, h1, h2⟩ => exact ⟨q8, (updV_ne V x hij).trans h1, h2.keep hW (fun _ _ _ _ x => x)⟩
    | 6, ho, hij, nw, ⟨b2, e2, q8, h2, h5, h6⟩ =>
      simp only [List.getElem?_toArray, List.getElem?_cons_zero, List.getElem?_cons_succ, Option.some.injEq] at ho
      subst ho
      exact ⟨b2, e2, q8, (updV_ne V x (nw 2 (by kernel_rfl))).trans h2, (updV_ne V x (nw 5 (by kernel_rfl))).trans h5, (updV_ne V x hij).trans h6⟩
    | 7, _, hij, _, ⟨b, h1, h2, h3⟩ => exact ⟨b, (updV_ne V x hij).trans h1, box_wrote h2 hW (fun _ x => x), h3⟩
    | n + 8, _, _, _, _ => exact trivial
  · intro i o a' W K' hin ho F' L hw hK
    have hS' := hS.out
    have t1 := F'.get (t := 1) (v := .slice pa np pcap) (by decide) rfl
    have t2 := F'.get (t := 2) (v := .pointer (some ⟨w.heap.size, 0, none⟩)) (by decide) rfl
    have LN : Wrote Nowhere W0 W := L.mono (fun b o _ ⟨j, _, _, _, _, h⟩ => h)
    have WS : S ≤ W.heap.size := by have := LN.size; omega
    match i with
    | 0 =>
        simp only [List.getElem?_toArray, List.getElem?_cons_zero, List.getElem?_cons_succ, Option.some.injEq] at ho
        subst ho
        have rb := boxC (box_wrote k0 LN (fun _ x => x))
        go_simp
        exact hK _ _ (Wrote.refl _ _) (updV_same _ _ _)
    | 3 =>
        simp only [List.getElem?_toArray, List.getElem?_cons_zero, List.getElem?_cons_succ, Option.some.injEq] at ho
        subst ho
        have rb := boxC (box_wrote k0 LN (fun _ x => x))
        go_simp
        exact hK _ _ (Wrote.refl _ _) (updV_same _ _ _)
    | 1 =>
        simp only [List.getElem?_toArray, List.getElem?_cons_zero, List.getElem?_cons_succ, Option.some.injEq] at ho
        subst ho
        go_simp
        exact hK _ _ (Wrote.refl _ _) (updV_same _ _ _)
    | 2 =>
        simp only [List.getElem?_toArray, List.getElem?_cons_zero, List.getElem?_cons_succ, Option.some.injEq] at ho
        subst ho
        go_simp
        refine (implMemNew W).mono ?_
        rintro e W' ⟨q, rfl, G2, LB⟩
        have M2 := (MemOn.own (bank := 0) G2).mono (E := fun b => W.heap.size ≤ b ∧ b < W'.heap.size) (fun b hb h => ⟨h, hb⟩)
        obtain ⟨b2, e2, hx2⟩ := M2.two
        simp only [Value.agg.injEq, Array.mk.injEq, List.cons.injEq, and_true] at hx2
        subst hx2
        exact hK _ _ (wrote_below LB _) ⟨b2, e2, updV_same _ _ _, M2⟩
    | 4 =>
        simp only [List.getElem?_toArray, List.getElem?_cons_zero, List.getElem?_cons_succ, Option.some.injEq] at ho
        subst ho
        have q3 : a'.tmps[10]?.getD undef = .agg #[.slice ia m ic] := by obtain ⟨_, _, _, _, q⟩ := hw 3 (by kernel_rfl); exact q
        go_simp
        refine (HC.out W _ _ (H.keep LN (fun _ _ _ _ x => x)).ints).mono ?_
        rintro e W' ⟨rfl, LB⟩
        exact hK _ _ (wrote_below LB _) (updV_same _ _ _)
    | 5 =>
        simp only [List.getElem?_toArray, List.getElem?_cons_zero, List.getElem?_cons_succ, Option.some.injEq] at ho
        subst ho
        go_simp
        refine (implPpuNew W).mono ?_
        rintro e W' ⟨q8, rfl, R8, LB⟩
        exact hK _ _ (wrote_below LB _) ⟨q8, updV_same _ _ _, ⟨_, _, _, _, rfl, R8.onD ⟨R8.parts.1, R8.parts.2.1⟩, SlOn.zero _ _, fun b o _ h => absurd h (foot_none _ _ _)⟩⟩
    | 6 =>
        simp only [List.getElem?_toArray, List.getElem?_cons_zero, List.getElem?_cons_succ, Option.some.injEq] at ho
        subst ho
        obtain ⟨_, _, _, _, v0⟩ := hw 0 (by kernel_rfl)
        obtain ⟨_, _, _, _, v1⟩ := hw 1 (by kernel_rfl)
        obtain ⟨_, _, _, _, b2, e2, v2, _⟩ := hw 2 (by kernel_rfl)
        obtain ⟨_, _, _, _, v4⟩ := hw 4 (by kernel_rfl)
        obtain ⟨_, _, _, _, q8, v5, _⟩ := hw 5 (by kernel_rfl)
        have s0 : a'.tmps[7]?.getD undef = .agg #[.slice ia m ic] := v0
        have s1 : a'.tmps[8]?.getD undef = .slice pa np pcap := v1
        have s2 : a'.tmps[9]?.getD undef = .agg #[.slice b2 512 e2, .int .i64 0] := v2
        have s4 : a'.tmps[11]?.getD undef = .agg #[.int .i64 0, .int .i64 0, .int .i64 255, .int .i64 pc, .bool false, .bool false, .bool false, .bool true] := v4
        have s5 : a'.tmps[12]?.getD undef = .agg #[.int .i64 0, .int .i64 0, .int .i64 0, .int .i64 0, .int .i64 0, .bool false, .slice (some ⟨q8, 0, none⟩) 16 16, .slice none 0 0] := v5
        go_simp
        exact hK _ _ (Wrote.refl _ _) ⟨b2, e2, q8, (updV_ne _ _ (by decide)).trans v2, (updV_ne _ _ (by decide)).trans v5, updV_same _ _ _⟩
    | 7 =>
        simp only [List.getElem?_toArray, List.getElem?_cons_zero, List.getElem?_cons_succ, Option.some.injEq] at ho
        subst ho
        go_simp
        exact hK _ _ ((Wrote.refl _ W).alloc _) ⟨W.heap.size, updV_same _ _ _, box_new W _ _, Nat.le_refl _, by simp⟩
    | n + 8 => omega
  · intro o a' W K' ho F' L lo hi hφ hdj hK
    have hS' := hS.out
    simp only [List.getElem?_toArray, List.getElem?_cons_zero, List.getElem?_cons_succ, Option.some.injEq] at ho
    subst ho
    have LN : Wrote Nowhere W0 W := L.mono (fun b o _ ⟨j, h⟩ => h)
    obtain ⟨a2, c2, z2, b2, e2, v2, G2⟩ := hφ 2 (by decide)
    obtain ⟨a5, c5, z5, q8, v5, G3⟩ := hφ 5 (by decide)
    obtain ⟨-, -, -, b2', e2', q8', w2, w5, v6⟩ := hφ 6 (by decide)
    obtain ⟨a7, c7, z7, bx, v7, rX, x1, x2⟩ := hφ 7 (by decide)
    have dj := fun i j h1 h2 h3 => hdj i j h1 h2 h3
    rw [v2] at w2
    rw [v5] at w5
    simp only [Value.agg.injEq, Array.mk.injEq, List.cons.injEq, Value.slice.injEq, Option.some.injEq, Addr.mk.injEq, and_true, true_and] at w2 w5
    obtain ⟨rfl, rfl⟩ := w2
    subst w5
    have hs6 : a'.tmps[13]?.getD undef = .agg #[.slice ia m ic, .slice pa np pcap, .slice b2 512 e2, .int .i64 0, .int .i64 0, .int .i64 0, .int .i64 255, .int .i64 pc, .bool false, .bool false, .bool false, .bool true, .int .i64 0, .int .i64 0, .int .i64 0, .int .i64 0, .int .i64 0, .bool false, .slice (some ⟨q8, 0, none⟩) 16 16, .slice none 0 0, .int .i64 0, .int .i64 0, .int .i64 0, .int .i64 0, .int .i64 0, .bool false, .bool false, .bool false, .int .i64 0, .bool false, .int .i64 0, .slice none 0 0, .slice none 0 0, .slice none 0 0] := v6
    have hs7 : a'.tmps[6]?.getD undef = .pointer (some ⟨bx, 0, none⟩) := v7
    refine wp_store_row _ _ _ rfl bx #[.slice ia m ic, .slice pa np pcap, .slice b2 512 e2, .int .i64 0, .int .i64 0, .int .i64 0, .int .i64 255, .int .i64 pc, .bool false, .bool false, .bool false, .bool true, .int .i64 0, .int .i64 0, .int .i64 0, .int .i64 0, .int .i64 0, .bool false, .slice (some ⟨q8, 0, none⟩) 16 16, .slice none 0 0, .int .i64 0, .int .i64 0, .int .i64 0, .int .i64 0, .int .i64 0, .bool false, .bool false, .bool false, .int .i64 0, .bool false, .int .i64 0, .slice none 0 0, .slice none 0 0, .slice none 0 0] (by simpa [Act.eval] using hs7) (by simpa [Act.eval] using hs6) _ _ rX infoLock rfl (by first | kernel_rfl | simp [Value.oneCell']) ?_
    refine hK _ _ ?_
    have hW1 := LN.size
    have WW := wrote_setRow rX #[.slice ia m ic, .slice pa np pcap, .slice b2 512 e2, .int .i64 0, .int .i64 0, .int .i64 0, .int .i64 255, .int .i64 pc, .bool false, .bool false, .bool false, .bool true, .int .i64 0, .int .i64 0, .int .i64 0, .int .i64 0, .int .i64 0, .bool false, .slice (some ⟨q8, 0, none⟩) 16 16, .slice none 0 0, .int .i64 0, .int .i64 0, .int .i64 0, .int .i64 0, .int .i64 0, .bool false, .bool false, .bool false, .int .i64 0, .bool false, .int .i64 0, .slice none 0 0, .slice none 0 0, .slice none 0 0]
    have B6 := setRow_heap _ _ _ #[.slice ia m ic, .slice pa np pcap, .slice b2 512 e2, .int .i64 0, .int .i64 0, .int .i64 0, .int .i64 255, .int .i64 pc, .bool false, .bool false, .bool false, .bool true, .int .i64 0, .int .i64 0, .int .i64 0, .int .i64 0, .int .i64 0, .bool false, .slice (some ⟨q8, 0, none⟩) 16 16, .slice none 0 0, .int .i64 0, .int .i64 0, .int .i64 0, .int .i64 0, .int .i64 0, .bool false, .bool false, .bool false, .int .i64 0, .bool false, .int .i64 0, .slice none 0 0, .slice none 0 0, .slice none 0 0] _ _ rX
    have k1' := box_wrote (box_wrote k1 LN (fun _ x => x)) WW (fun o (e : _ = _) => by omega)
    have C1 : Below w.heap.size w (W.setRow bx #[.slice ia m ic, .slice pa np pcap, .slice b2 512 e2, .int .i64 0, .int .i64 0, .int .i64 0, .int .i64 255, .int .i64 pc, .bool false, .bool false, .bool false, .bool true, .int .i64 0, .int .i64 0, .int .i64 0, .int .i64 0, .int .i64 0, .bool false, .slice (some ⟨q8, 0, none⟩) 16 16, .slice none 0 0, .int .i64 0, .int .i64 0, .int .i64 0, .int .i64 0, .int .i64 0, .bool false, .bool false, .bool false, .int .i64 0, .bool false, .int .i64 0, .slice none 0 0, .slice none 0 0, .slice none 0 0]) := (L0.trans (LN.below L0.size (fun b o hb h => h))).trans (WW.below (by omega) (fun b o hb (e : b = _) => by omega))
    have DD : Hid (∃ D, LockOn (W.setRow bx #[.slice ia m ic, .slice pa np pcap, .slice b2 512 e2, .int .i64 0, .int .i64 0, .int .i64 0, .int .i64 255, .int .i64 pc, .bool false, .bool false, .bool false, .bool true, .int .i64 0, .int .i64 0, .int .i64 0, .int .i64 0, .int .i64 0, .bool false, .slice (some ⟨q8, 0, none⟩) 16 16, .slice none 0 0, .int .i64 0, .int .i64 0, .int .i64 0, .int .i64 0, .int .i64 0, .bool false, .bool false, .bool false, .int .i64 0, .bool false, .int .i64 0, .slice none 0 0, .slice none 0 0, .slice none 0 0]) D (.agg #[.slice ia m ic, .slice pa np pcap, .slice b2 512 e2, .int .i64 0, .int .i64 0, .int .i64 0, .int .i64 255, .int .i64 pc, .bool false, .bool false, .bool false, .bool true, .int .i64 0, .int .i64 0, .int .i64 0, .int .i64 0, .int .i64 0, .bool false, .slice (some ⟨q8, 0, none⟩) 16 16, .slice none 0 0, .int .i64 0, .int .i64 0, .int .i64 0, .int .i64 0, .int .i64 0, .bool false, .bool false, .bool false, .int .i64 0, .bool false, .int .i64 0, .slice none 0 0, .slice none 0 0, .slice none 0 0]) d ∧ ∀ i b, D i b → b ≠ bx) := by
      show ∃ D, _
      rw [hd.out]
      refine ⟨fun i b => (i = 0 ∧ b < w.heap.size) ∨ (i = 1 ∧ b < w.heap.size) ∨ (i = 2 ∧ lo 2 ≤ b ∧ b < hi 2) ∨ (i = 3 ∧ lo 5 ≤ b ∧ b < hi 5), newD_onA hpc.out ?_ ?_ ?_ ?_, ?_⟩
      · exact ((H.keep LN (fun _ _ _ _ x => x)).keep WW (fun b o hb _ (e : b = _) => by omega)).mono (fun b _ h => Or.inl ⟨rfl, h⟩)
      · exact ((K.keep LN (fun _ _ _ _ x => x)).keep WW (fun b o hb _ (e : b = _) => by omega)).mono (fun b _ h => Or.inr (Or.inl ⟨rfl, h⟩))
      · exact (G2.keep WW (fun b o hb _ => away (dj 7 2 (by decide) (by decide) (by decide)) hb.1 hb.2 x1 x2)).mono (fun b _ h => Or.inr (Or.inr (Or.inl ⟨rfl, h⟩)))
      · exact (G3.keep WW (fun b o hb _ => away (dj 7 5 (by decide) (by decide) (by decide)) hb.1 hb.2 x1 x2)).mono (fun b _ h => Or.inr (Or.inr (Or.inr ⟨rfl, h⟩)))
      · intro i b h e
        rcases h with ⟨-, h⟩ | ⟨-, h⟩ | ⟨-, h1, h2⟩ | ⟨-, h1, h2⟩
        · omega
        · omega
        · exact away (dj 7 2 (by decide) (by decide) (by decide)) h1 h2 x1 x2 e
        · exact away (dj 7 5 (by decide) (by decide) (by decide)) h1 h2 x1 x2 e
    rw [F'.same, show slotsOf [some 7, some 8, some 9, some 10, some 11, some 12, some 13, some 6, none] = [7, 8, 9, 10, 11, 12, 13, 6] from rfl]
    simp only [List.foldl_cons, List.foldl_nil]
    rw [hs7]
    generalize a'.tmps[7]?.getD undef = s7
    generalize a'.tmps[8]?.getD undef = s8
    generalize a'.tmps[9]?.getD undef = s9
    generalize a'.tmps[10]?.getD undef = s10
    generalize a'.tmps[11]?.getD undef = s11
    generalize a'.tmps[12]?.getD undef = s12
    generalize a'.tmps[13]?.getD undef = s13
    have hx0 : w.heap.size + 1 < bx := by omega
    clear hφ hdj dj v2 v5 v6 v7 F' L LN k0 k1 H K L0 HC rX hs6 hs7 G2 G3 WW hW1
    obtain ⟨cN, hcN⟩ : ∃ c : Array Value, Hid (c = #[.slice ia m ic, .slice pa np pcap, .slice b2 512 e2, .int .i64 0, .int .i64 0, .int .i64 0, .int .i64 255, .int .i64 pc, .bool false, .bool false, .bool false, .bool true, .int .i64 0, .int .i64 0, .int .i64 0, .int .i64 0, .int .i64 0, .bool false, .slice (some ⟨q8, 0, none⟩) 16 16, .slice none 0 0, .int .i64 0, .int .i64 0, .int .i64 0, .int .i64 0, .int .i64 0, .bool false, .bool false, .bool false, .int .i64 0, .bool false, .int .i64 0, .slice none 0 0, .slice none 0 0, .slice none 0 0]) := ⟨_, rfl⟩
    have sN : cN.size = 34 := by rw [hcN.out]; rfl
    rw [← hcN.out] at B6 k1' C1 DD ⊢
    generalize W.setRow bx cN = W1 at *
    obtain ⟨D, HL, bd⟩ := DD.out
    clear DD hcN
    refine hKK _ _ ?_
    clear hKK
    go_simp
    go_upto_region 2 with (fail)
    refine wp_region_lit ?_
    refine wpList_load_row rfl _ _ rfl (bx) rfl _ _ _ _ B6 Try.underlying50 rfl (infoAt infoLock sN) ?_
    go_wp2_with fail
    refine (implLockOk _ D _ d HL).mono ?_
    rintro e W3 ⟨rfl, LB⟩
    replace C1 := below_snoc C1 LB
    replace k1' := box_keep k1' LB (boxLt k1')
    replace B6 := box_keep B6 LB (boxLt B6)
    replace HL := HL.below LB
    clear LB
    cases hok : okLock d
    · go_upto_region 3 with (fail)
      rename_i K2 hK2
      refine wp_region_lit ?_
      refine wpList_plain rfl (fun K3 hK3 => ?_)
      go_simp
      refine hK3 _ _ ?_
      clear hK3
      refine wpList_store_row rfl _ _ _ rfl (w.heap.size + 1) #[.slice none 0 0, .slice none 0 0, .slice none 0 0, .int .i64 0, .int .i64 0, .int .i64 0, .int .i64 0, .int .i64 0, .bool false, .bool false, .bool false, .bool false, .int .i64 0, .int .i64 0, .int .i64 0, .int .i64 0, .int .i64 0, .bool false, .slice none 0 0, .slice none 0 0, .int .i64 0, .int .i64 0, .int .i64 0, .int .i64 0, .int .i64 0, .bool false, .bool false, .bool false, .int .i64 0, .bool false, .int .i64 0, .slice none 0 0, .slice none 0 0, .slice none 0 0] rfl rfl _ _ k1' infoLock rfl (by first | kernel_rfl | simp [Value.oneCell']) ?_
      have B3 := setRow_heap _ _ _ #[.slice none 0 0, .slice none 0 0, .slice none 0 0, .int .i64 0, .int .i64 0, .int .i64 0, .int .i64 0, .int .i64 0, .bool false, .bool false, .bool false, .bool false, .int .i64 0, .int .i64 0, .int .i64 0, .int .i64 0, .int .i64 0, .bool false, .slice none 0 0, .slice none 0 0, .int .i64 0, .int .i64 0, .int .i64 0, .int .i64 0, .int .i64 0, .bool false, .bool false, .bool false, .int .i64 0, .bool false, .int .i64 0, .slice none 0 0, .slice none 0 0, .slice none 0 0] _ _ k1'
      have WW := wrote_setRow k1' #[.slice none 0 0, .slice none 0 0, .slice none 0 0, .int .i64 0, .int .i64 0, .int .i64 0, .int .i64 0, .int .i64 0, .bool false, .bool false, .bool false, .bool false, .int .i64 0, .int .i64 0, .int .i64 0, .int .i64 0, .int .i64 0, .bool false, .slice none 0 0, .slice none 0 0, .int .i64 0, .int .i64 0, .int .i64 0, .int .i64 0, .int .i64 0, .bool false, .bool false, .bool false, .int .i64 0, .bool false, .int .i64 0, .slice none 0 0, .slice none 0 0, .slice none 0 0]
      have LL := hide (C1.trans (WW.below C1.size (fun b o hb (e : b = _) => by omega)))
      clear WW HL C1 B6 k1'
      generalize W3.setRow (w.heap.size + 1) #[.slice none 0 0, .slice none 0 0, .slice none 0 0, .int .i64 0, .int .i64 0, .int .i64 0, .int .i64 0, .int .i64 0, .bool false, .bool false, .bool false, .bool false, .int .i64 0, .int .i64 0, .int .i64 0, .int .i64 0, .int .i64 0, .bool false, .slice none 0 0, .slice none 0 0, .int .i64 0, .int .i64 0, .int .i64 0, .int .i64 0, .int .i64 0, .bool false, .bool false, .bool false, .int .i64 0, .bool false, .int .i64 0, .slice none 0 0, .slice none 0 0, .slice none 0 0] = W4 at *
      refine wpList_plain rfl (fun K3 hK3 => ?_)
      go_simp
      refine hK3 _ _ ?_
      clear hK3
      refine hK2 _ _ ?_
      go_wp2
      refine bodyPost_ret (v := .tuple #[.agg #[.slice none 0 0, .slice none 0 0, .slice none 0 0, .int .i64 0, .int .i64 0, .int .i64 0, .int .i64 0, .int .i64 0, .bool false, .bool false, .bool false, .bool false, .int .i64 0, .int .i64 0, .int .i64 0, .int .i64 0, .int .i64 0, .bool false, .slice none 0 0, .slice none 0 0, .int .i64 0, .int .i64 0, .int .i64 0, .int .i64 0, .int .i64 0, .bool false, .bool false, .bool false, .int .i64 0, .bool false, .int .i64 0, .slice none 0 0, .slice none 0 0, .slice none 0 0], .bool false]) (results_row_tmp Try.results14 _ _ (w.heap.size + 1) _ _ _ _ rfl B3 Try.underlying50 rfl infoLock) rfl ?_
      refine ⟨_, rfl, ⟨fun _ _ => False, ?_, fun i j b h => h.elim, fun i b h => h.elim⟩, LL.out⟩
      first | exact zeroD_on | (rw [if_neg (by decide)]; exact zeroD_on)
    · go_upto_region 4 with (fail)
      rename_i K2 hK2
      refine wp_region_lit ?_
      refine wpList_load_row rfl _ _ rfl (bx) rfl _ _ _ _ B6 Try.underlying50 rfl (infoAt infoLock sN) ?_
      refine wpList_plain rfl (fun K3 hK3 => ?_)
      go_simp
      refine (copyLock _ D _ d HL).mono ?_
      rintro e W4 ⟨vC, rfl, oC, LB⟩
      obtain ⟨cC, rfl, sC, oneC⟩ : ∃ cs, vC = .agg cs ∧ cs.size = 34 ∧ cs.all (·.oneCell') = true := by
        obtain ⟨D', u0, u1, u2, u3, u4, u5, u6, u7, ob, iv, ov, o6, o7, rfl, h⟩ := oC
        exact h.on.agg
      have hl3 := C1.size
      have hk3 := boxLt k1'
      replace C1 := below_snoc C1 LB
      replace k1' := box_keep k1' LB (boxLt k1')
      have hl4 := LB.size
      clear LB B6
      refine hK3 _ _ ?_
      clear hK3
      refine wpList_store_row rfl _ _ _ rfl (w.heap.size + 1) cC rfl rfl _ _ k1' (infoAt infoLock sC) (by rw [sC]; rfl) oneC ?_
      have B3 := setRow_heap _ _ _ cC _ _ k1'
      have WW := wrote_setRow k1' cC
      obtain ⟨DC, OC, dC, bC⟩ := oC.nw (w := W3) (Nat.le_refl _)
      have OO := hide (OC.keep WW (fun i b o h _ (e : b = _) => by have := bC _ _ h; omega))
      have LL := hide (C1.trans (WW.below C1.size (fun b o hb (e : b = _) => by omega)))
      have BB := hide (fun i b h => (⟨Nat.le_trans hl3 (bC i b h).1, Nat.lt_of_lt_of_le (bC i b h).2 WW.size⟩ : w.heap.size ≤ b ∧ b < (W4.setRow (w.heap.size + 1) cC).heap.size))
      clear WW HL C1 oC OC bC
      generalize W4.setRow (w.heap.size + 1) cC = W5 at *
      refine wpList_plain rfl (fun K3 hK3 => ?_)
      go_simp
      refine hK3 _ _ ?_
      clear hK3
      refine hK2 _ _ ?_
      go_wp2
      refine bodyPost_ret (v := .tuple #[.agg cC, .bool true]) (results_row_tmp Try.results14 _ _ (w.heap.size + 1) _ _ _ _ rfl B3 Try.underlying50 rfl (infoAt infoLock sC)) rfl ?_
      refine ⟨_, rfl, ⟨DC, ?_, dC, BB.out⟩, LL.out⟩
      first | exact OO.out | (rw [if_pos rfl]; exact OO.out)
end Go.Proofs.Ytpaedkefmebjjar
namespace Go.Proofs.Ytpaedkefmebjjar
set_option linter.unusedVariables false
set_option linter.unusedSimpArgs false
open Go.ChangeShapes Go.WideShapes Go.ChangeAt Go.RowKit
theorem wpList_load_rowN {P : Program} {ops : Array Oper} {rest : List Oper} {o : Oper} {a : Act} {w : World} {Q : Exit → Act → World → Prop} (hw : Region.wanted o (yielded ops a.tmps) = true) (ty : TypeId) (x : Operand) (ho : o.op = .load ty x)
    (g : Nat) (hx : a.eval x = .pointer (some ⟨g, 0, none⟩)) (t : TypeId) (cs : Array Value) (fr : Nat × Nat) (d : TypeDesc) (hg : w.heap[g]? = some (.cells cs t fr))
    (hu : P.underlying ty = some d) (hd : (match d with | .struct _ | .array _ _ => true | _ => false) = true) (hi : (P.info? ty).map (·.size) = some cs.size)
    (h : wpList P ops Q rest (a.put o.dst (.agg cs)) w) : wpList P ops Q (o :: rest) a w :=
  wpList_step fun K hK => by rw [if_pos hw]; exact wp_load_row ty x ho g hx t cs fr d hg hu hd hi (hK _ _ h)
theorem markN_new {m : Nat} {ln : Nat → Nat} {f : Nat → Nat → Int} {np : Nat} {p : Nat → Int} (hs : m + psum ln m ≤ 1048576) (hn : np ≤ 1048576) : 1 + markN (if okLock (newD m ln f np p) then newD m ln f np p else zeroD) ≤ 1099511627776 ∧ 0 ≤ markN (if okLock (newD m ln f np p) then newD m ln f np p else zeroD) := by
  split
  · have e : markN (newD m ln f np p) = psum ln m + np + 512 + 16 := by simp [markN, newD, psum]
    rw [e]
    omega
  · have e : markN zeroD = 0 := by simp [markN, zeroD, psum]
    rw [e]
    omega
theorem ListOn.intsOf {W : World} {D : Nat → Prop} {u : Value} {n : Nat} {f : Nat → Int} (H : ListOn W D u n f) : Ints .i64 W (On D) u n f := by
  obtain ⟨a, c, e, h⟩ := H
  rw [e]
  exact h.ints c
set_option maxRecDepth 40000 in
set_option maxHeartbeats 8000000 in
theorem lawLockNew (w : World) (u0 : Value) (m : Nat) (ra0 : Nat → Option Addr) (ln : Nat → Nat) (rc0 : Nat → Nat) (f : Nat → Nat → Int) (w0 : RawSS w u0 m ra0 ln rc0 f) (s1 : Option Addr) (n1 c1 : Nat) (f1 : Nat → Int) (hrow : RowOf .i64 w s1 n1 f1) :
    Calls Try.prog 4 #[.agg #[u0], .slice s1 n1 c1] w fun e w' => e = .returned (.bool true) ∧ Below w.heap.size w w' := by
  have C0 : Below w.heap.size w (w.alloc (.cells #[u0] 24)) := (Below.refl _ _).alloc (Nat.le_refl _) _
  have k0 : (w.alloc (.cells #[u0] 24)).heap[w.heap.size]? = some (.cells #[u0] 24 (0, 0)) := box_new w #[u0] 24
  by_cases hbig1 : (1048576 : Int) < (n1 : Int)
  · go_enter Try.func4, Try.ntmps4
    go_wp2
    go_ret
    exact ⟨rfl, C0⟩
  have hn1 : n1 ≤ 1048576 := by omega
  have HI1 : Ints .i64 w (fun _ _ => True) (.slice s1 n1 c1) n1 f1 := ⟨_, _, rfl, hn1, hrow, fun _ _ _ => trivial⟩
  clear hrow
  by_cases hbig0 : (1048576 : Int) < ((m + psum ln m : Nat) : Int)
  · have HZ0 := hide (szOut_no hbig0)
    clear hbig0
    go_enter Try.func4, Try.ntmps4
    go_wp2_with fail
    generalize (w.alloc (.cells #[u0] 24)) = W0 at *
    refine (szImage _ u0 m ra0 ln rc0 f (w0.below C0) (1048576) (by omega) (by omega)).mono ?_
    rintro e W1 ⟨rfl, L⟩
    rw [HZ0.out]
    have C1 := below_snoc C0 L
    clear L C0
    go_wp2
    go_ret
    exact ⟨rfl, C1⟩
  have HZ0 := hide (szOut_ok (show ((m + psum ln m : Nat) : Int) ≤ 1048576 by omega))
  have hsm0 : m + psum ln m ≤ 1048576 := by omega
  have hI0 := w0.ints hsm0
  have HMR := hide (markN_new (f := f) (p := f1) hsm0 hn1)
  go_enter Try.func4, Try.ntmps4
  go_wp2_with fail
  generalize (w.alloc (.cells #[u0] 24)) = W0 at *
  refine (szImage _ u0 m ra0 ln rc0 f (w0.below C0) (1048576) (by omega) (by omega)).mono ?_
  rintro e W1 ⟨rfl, L⟩
  rw [HZ0.out]
  obtain ⟨lf, hlf⟩ : ∃ lf : Int, Hid (lf = 1048576 - ((m + psum ln m : Nat) : Int)) := ⟨_, rfl⟩
  rw [← hlf.out]
  have hnn : ¬ (lf < 0) := by rw [hlf.out]; omega
  have C1 := below_snoc C0 L
  replace k0 := box_keep k0 L (boxLt k0)
  have hk00 := boxLt k0
  clear HZ0 hbig0 hlf L C0 w0
  have c_k0 := boxC k0
  go_wp2_with fail
  clear c_k0
  refine (onToImg _ _ u0 m ln f (hI0.keep (wrote_below C1 Nowhere) (fun _ _ _ x => x)) hsm0).mono ?_
  rintro e W2 ⟨vS, rfl, oS, L⟩
  have C2 := below_snoc C1 L
  replace k0 := box_keep k0 L (boxLt k0)
  have sz2 := L.size
  clear L C1
  go_wp2_with fail
  refine (onToList _ _ (.slice s1 n1 c1) n1 f1 (HI1.keep (wrote_below C2 Nowhere) (fun _ _ _ x => x))).mono ?_
  rintro e W3 ⟨vP, rfl, oP, L⟩
  have C3 := below_snoc C2 L
  replace k0 := box_keep k0 L (boxLt k0)
  replace oS := oS.below L
  have sz3 := L.size
  clear L C2
  go_wp2_with fail
  refine (specLockNew _ _ _ vS vP m ln f n1 f1 oS.ints oP.intsOf).mono ?_
  rintro e W4 ⟨vW, rfl, ⟨DW, oW, -, bW⟩, L⟩
  have C4 := below_snoc C3 L
  replace k0 := box_keep k0 L (boxLt k0)
  replace oS := oS.below L
  replace oP := oP.below L
  have sz4 := L.size
  clear L C3
  clear oS oP
  obtain ⟨cW, rfl, scW, onecW⟩ := oW.agg
  have HI := hide (fun W D0 D1 u v h k => implLockNew W D0 D1 u v m ln f n1 f1 h k)
  obtain ⟨rd, hrd⟩ : ∃ x, Hid (x = if okLock (newD m ln f n1 f1) then newD m ln f n1 f1 else zeroD) := ⟨_, rfl⟩
  rw [← hrd.out] at oW HMR HI
  obtain ⟨rb, hrb⟩ : ∃ x, Hid (x = okLock (newD m ln f n1 f1)) := ⟨_, rfl⟩
  rw [← hrb.out] at HI ⊢
  clear hrd hrb
  have hst := run_storeCells_new (P := Try.prog) W4 50 #[.slice none 0 0, .slice none 0 0, .slice none 0 0, .int .i64 0, .int .i64 0, .int .i64 0, .int .i64 0, .int .i64 0, .bool false, .bool false, .bool false, .bool false, .int .i64 0, .int .i64 0, .int .i64 0, .int .i64 0, .int .i64 0, .bool false, .slice none 0 0, .slice none 0 0, .int .i64 0, .int .i64 0, .int .i64 0, .int .i64 0, .int .i64 0, .bool false, .bool false, .bool false, .int .i64 0, .bool false, .int .i64 0, .slice none 0 0, .slice none 0 0, .slice none 0 0] cW (infoAt infoLock scW) (by rw [scW]; rfl) onecW
  have bxW := box_new W4 cW 50
  have LA : Below W4.heap.size W4 (W4.alloc (.cells cW 50)) := (Below.refl _ _).alloc (Nat.le_refl _) _
  go_upto_region 8 with (fail)
  clear hst
  have C5 := below_snoc C4 LA
  replace k0 := box_keep k0 LA (boxLt k0)
  replace oW := oW.below LA
  have sz5 := LA.size
  clear LA C4
  obtain ⟨zbxW, hzbxW⟩ : ∃ z, Hid (z = W4.heap.size) := ⟨_, rfl⟩
  rw [← hzbxW.out] at bxW ⊢
  generalize W4.alloc (.cells cW 50) = W5 at *
  have gzbxW : W4.heap.size ≤ zbxW := by rw [hzbxW.out]; exact Nat.le_refl _
  have lzbxW := boxLt bxW
  clear hzbxW
  have c_k0 := boxC k0
  go_wp2_with fail
  clear c_k0
  refine (onToImg _ _ u0 m ln f (hI0.keep (wrote_below C5 Nowhere) (fun _ _ _ x => x)) hsm0).mono ?_
  rintro e W6 ⟨v0, rfl, o0, L⟩
  have C6 := below_snoc C5 L
  replace k0 := box_keep k0 L (boxLt k0)
  replace bxW := box_keep bxW L (boxLt bxW)
  replace oW := oW.below L
  have sz6 := L.size
  clear L C5
  obtain ⟨xa, xc, rfl⟩ := o0.form
  have bxI := box_new W6 #[.slice xa m xc] 42
  have LA : Below W6.heap.size W6 (W6.alloc (.cells #[.slice xa m xc] 42)) := (Below.refl _ _).alloc (Nat.le_refl _) _
  go_upto_region 9 with (fail)
  have C7 := below_snoc C6 LA
  replace k0 := box_keep k0 LA (boxLt k0)
  replace bxW := box_keep bxW LA (boxLt bxW)
  replace oW := oW.below LA
  replace o0 := o0.below LA
  have sz7 := LA.size
  clear LA C6
  obtain ⟨zbxI, hzbxI⟩ : ∃ z, Hid (z = W6.heap.size) := ⟨_, rfl⟩
  rw [← hzbxI.out] at bxI ⊢
  generalize W6.alloc (.cells #[.slice xa m xc] 42) = W7 at *
  have gzbxI : W6.heap.size ≤ zbxI := by rw [hzbxI.out]; exact Nat.le_refl _
  have lzbxI := boxLt bxI
  clear hzbxI
  go_wp2_with fail
  refine (onToList _ _ (.slice s1 n1 c1) n1 f1 (HI1.keep (wrote_below C7 Nowhere) (fun _ _ _ x => x))).mono ?_
  rintro e W8 ⟨vQ, rfl, oQ, L⟩
  have C8 := below_snoc C7 L
  replace k0 := box_keep k0 L (boxLt k0)
  replace bxW := box_keep bxW L (boxLt bxW)
  replace bxI := box_keep bxI L (boxLt bxI)
  replace oW := oW.below L
  replace o0 := o0.below L
  have sz8 := L.size
  clear L C7
  obtain ⟨ya, yc, rfl⟩ := oQ.two
  have c_bxI := boxC bxI
  go_wp2_with fail
  clear c_bxI
  refine (HI.out _ _ _ _ _ o0 oQ).mono ?_
  rintro e W9 ⟨vG, rfl, ⟨DG, oG, dG, bG⟩, L⟩
  have C9 := below_snoc C8 L
  replace k0 := box_keep k0 L (boxLt k0)
  replace bxW := box_keep bxW L (boxLt bxW)
  replace bxI := box_keep bxI L (boxLt bxI)
  replace oW := oW.below L
  replace o0 := o0.below L
  replace oQ := oQ.below L
  have sz9 := L.size
  clear L C8
  obtain ⟨cG, rfl, scG, onecG⟩ := oG.agg
  have hst := run_storeCells_new (P := Try.prog) W9 50 #[.slice none 0 0, .slice none 0 0, .slice none 0 0, .int .i64 0, .int .i64 0, .int .i64 0, .int .i64 0, .int .i64 0, .bool false, .bool false, .bool false, .bool false, .int .i64 0, .int .i64 0, .int .i64 0, .int .i64 0, .int .i64 0, .bool false, .slice none 0 0, .slice none 0 0, .int .i64 0, .int .i64 0, .int .i64 0, .int .i64 0, .int .i64 0, .bool false, .bool false, .bool false, .int .i64 0, .bool false, .int .i64 0, .slice none 0 0, .slice none 0 0, .slice none 0 0] cG (infoAt infoLock scG) (by rw [scG]; rfl) onecG
  have bxG := box_new W9 cG 50
  have LA : Below W9.heap.size W9 (W9.alloc (.cells cG 50)) := (Below.refl _ _).alloc (Nat.le_refl _) _
  go_upto_region 11 with (fail)
  clear hst
  have C10 := below_snoc C9 LA
  replace k0 := box_keep k0 LA (boxLt k0)
  replace bxW := box_keep bxW LA (boxLt bxW)
  replace bxI := box_keep bxI LA (boxLt bxI)
  replace oW := oW.below LA
  replace o0 := o0.below LA
  replace oQ := oQ.below LA
  replace oG := oG.below LA
  have sz10 := LA.size
  clear LA C9
  obtain ⟨zbxG, hzbxG⟩ : ∃ z, Hid (z = W9.heap.size) := ⟨_, rfl⟩
  rw [← hzbxG.out] at bxG ⊢
  generalize W9.alloc (.cells cG 50) = W10 at *
  have gzbxG : W9.heap.size ≤ zbxG := by rw [hzbxG.out]; exact Nat.le_refl _
  have lzbxG := boxLt bxG
  clear hzbxG
  refine wp_region_lit ?_
  refine wpList_load_row rfl _ _ rfl (zbxG) rfl _ _ _ _ bxG Try.underlying50 rfl (infoAt infoLock scG) ?_
  refine wpList_load_row rfl _ _ rfl (zbxW) rfl _ _ _ _ bxW Try.underlying50 rfl (infoAt infoLock scW) ?_
  go_wp2_with fail
  refine (onEqLock _ _ _ _ _ rd oG oW).mono ?_
  rintro e W11 ⟨rfl, L⟩
  have C11 := below_snoc C10 L
  replace k0 := box_keep k0 L (boxLt k0)
  replace bxW := box_keep bxW L (boxLt bxW)
  replace bxI := box_keep bxI L (boxLt bxI)
  replace bxG := box_keep bxG L (boxLt bxG)
  replace oW := oW.below L
  replace o0 := o0.below L
  replace oQ := oQ.below L
  replace oG := oG.below L
  have sz11 := L.size
  clear L C10
  have hrr : (rb != rb) = false := by simp
  go_upto_region 13 with (fail)
  rename_i K2 hK2 K3' hK3'
  refine wp_region_eff [some 52, some 53, some 54, some 55, some 56] (by kernel_rfl) (by kernel_rfl) (by kernel_rfl) (by kernel_rfl) (by simp [slotsOf])
    (fun _ _ _ => False)
    (fun i v W => match i with
      | 0 => v = .agg #[.slice xa m xc]
      | 1 => v = .agg #[u0]
      | 2 => ∃ vX DX, v = .agg #[vX] ∧ SsOn W DX vX m ln f
      | 3 => v = .bool true
      | _ => v = .bool false) ?_ ?_ ?_
  · intro i j o v W W' hij _ _ hW h
    match i, h with
    | 0, h => exact h
    | 1, h => exact h
    | 2, ⟨vX, DX, h1, h2⟩ => exact ⟨vX, DX, h1, h2.keep hW (fun _ _ _ _ x => x)⟩
    | 3, h => exact h
    | _ + 4, h => exact h
  · intro i o a' W K ho F L hw hK
    have t2 := F.get (t := 2) (v := .pointer (some ⟨w.heap.size, 0, none⟩)) (by decide) rfl
    have t8 := F.get (t := 8) (v := .pointer (some ⟨zbxI, 0, none⟩)) (by decide) rfl
    have LB : Below W11.heap.size W11 W := L.below (Nat.le_refl _) (fun b o _ ⟨j, _, _, _, _, h⟩ => h)
    match i with
    | 0 =>
        simp only [List.getElem?_toArray, List.getElem?_cons_zero, List.getElem?_cons_succ, Option.some.injEq] at ho
        subst ho
        have rb' := boxC (box_keep bxI LB (boxLt bxI))
        go_simp
        exact hK _ _ (Wrote.refl _ _) rfl
    | 1 =>
        simp only [List.getElem?_toArray, List.getElem?_cons_zero, List.getElem?_cons_succ, Option.some.injEq] at ho
        subst ho
        have rb' := boxC (box_keep k0 LB (boxLt k0))
        go_simp
        exact hK _ _ (Wrote.refl _ _) rfl
    | 2 =>
        simp only [List.getElem?_toArray, List.getElem?_cons_zero, List.getElem?_cons_succ, Option.some.injEq] at ho
        subst ho
        have q1 : a'.tmps[53]?.getD undef = .agg #[u0] := hw 1 (by kernel_rfl)
        go_simp
        refine (onToImg W _ u0 m ln f (hI0.keep (wrote_below (below_snoc C11 LB) Nowhere) (fun _ _ _ x => x)) hsm0).mono ?_
        rintro e W' ⟨vX, rfl, oX, LX⟩
        exact hK _ _ (wrote_below LX _) ⟨vX, _, rfl, oX⟩
    | 3 =>
        simp only [List.getElem?_toArray, List.getElem?_cons_zero, List.getElem?_cons_succ, Option.some.injEq] at ho
        subst ho
        have q0 : a'.tmps[52]?.getD undef = .agg #[.slice xa m xc] := hw 0 (by kernel_rfl)
        obtain ⟨vX, DX, q2, oX⟩ : ∃ vX DX, a'.tmps[54]?.getD undef = .agg #[vX] ∧ SsOn W DX vX m ln f := hw 2 (by kernel_rfl)
        go_simp
        refine (onEqImg W _ _ _ _ m ln f (o0.below LB) oX).mono ?_
        rintro e W' ⟨rfl, LX⟩
        exact hK _ _ (wrote_below LX _) rfl
    | 4 =>
        simp only [List.getElem?_toArray, List.getElem?_cons_zero, List.getElem?_cons_succ, Option.some.injEq] at ho
        subst ho
        have q3 : a'.tmps[55]?.getD undef = .bool true := hw 3 (by kernel_rfl)
        go_simp
        exact hK _ _ (Wrote.refl _ _) rfl
    | _ + 5 => simp at ho
  · intro a' W F L hφ
    have LB : Below W11.heap.size W11 W := L.below (Nat.le_refl _) (fun b o _ ⟨j, h⟩ => h)
    have v4 : a'.tmps[56]?.getD undef = .bool false := hφ 4 (by decide)
    rw [F.same, show slotsOf [some 52, some 53, some 54, some 55, some 56] = [52, 53, 54, 55, 56] from rfl]
    simp only [List.foldl_cons, List.foldl_nil]
    rw [v4]
    generalize a'.tmps[52]?.getD undef = s0
    generalize a'.tmps[53]?.getD undef = s1'
    generalize a'.tmps[54]?.getD undef = s2
    generalize a'.tmps[55]?.getD undef = s3
    clear hφ L F v4
    refine hK3' _ _ ?_
    go_simp
    obtain ⟨W12, hWW⟩ : ∃ x, x = W := ⟨_, rfl⟩
    subst hWW
    have C12 := below_snoc C11 LB
    replace k0 := box_keep k0 LB (boxLt k0)
    replace bxW := box_keep bxW LB (boxLt bxW)
    replace bxI := box_keep bxI LB (boxLt bxI)
    replace bxG := box_keep bxG LB (boxLt bxG)
    replace oW := oW.below LB
    replace o0 := o0.below LB
    replace oQ := oQ.below LB
    replace oG := oG.below LB
    have sz12 := LB.size
    clear LB C11
    go_wp2_with fail
    refine (onToList _ _ (.slice s1 n1 c1) n1 f1 (HI1.keep (wrote_below C12 Nowhere) (fun _ _ _ x => x))).mono ?_
    rintro e W13 ⟨vR, rfl, oR, L⟩
    have C13 := below_snoc C12 L
    replace k0 := box_keep k0 L (boxLt k0)
    replace bxW := box_keep bxW L (boxLt bxW)
    replace bxI := box_keep bxI L (boxLt bxI)
    replace bxG := box_keep bxG L (boxLt bxG)
    replace oW := oW.below L
    replace o0 := o0.below L
    replace oQ := oQ.below L
    replace oG := oG.below L
    have sz13 := L.size
    clear L C12
    go_wp2_with fail
    refine (onEqList _ _ _ _ _ n1 f1 oQ oR).mono ?_
    rintro e W14 ⟨rfl, L⟩
    have C14 := below_snoc C13 L
    replace k0 := box_keep k0 L (boxLt k0)
    replace bxW := box_keep bxW L (boxLt bxW)
    replace bxI := box_keep bxI L (boxLt bxI)
    replace bxG := box_keep bxG L (boxLt bxG)
    replace oW := oW.below L
    replace o0 := o0.below L
    replace oQ := oQ.below L
    replace oG := oG.below L
    replace oR := oR.below L
    have sz14 := L.size
    clear L C13
    clear oR
    have c_bxI := boxC bxI
    go_wp2_with fail
    clear c_bxI
    refine (onMarkImg _ _ _ m ln f 1 o0 (by omega) (by omega)).mono ?_
    rintro e W15 ⟨rfl, -, T⟩
    have C15 := C14.trans (T.below C14.size (fun b o hb h => by obtain ⟨h1, h2⟩ := h; omega))
    replace k0 := box_wrote k0 T (fun o h => by obtain ⟨h1, h2⟩ := h; omega)
    replace bxW := box_wrote bxW T (fun o h => by obtain ⟨h1, h2⟩ := h; omega)
    replace bxI := box_wrote bxI T (fun o h => by obtain ⟨h1, h2⟩ := h; omega)
    replace bxG := box_wrote bxG T (fun o h => by obtain ⟨h1, h2⟩ := h; omega)
    replace oW := oW.keep T (fun i b o hb _ h => by obtain ⟨h1, h2⟩ := h; have := bW _ _ hb; omega)
    replace oG := oG.keep T (fun i b o hb _ h => by obtain ⟨h1, h2⟩ := h; have := bG _ _ hb; omega)
    replace oQ := oQ.keep T (fun b o hb _ h => by obtain ⟨h1, h2⟩ := h; obtain ⟨h3, h4⟩ := hb; omega)
    have sz15 := T.size
    clear T C14
    clear o0
    obtain ⟨kp, hkp⟩ : ∃ k : Int, Hid (k = 1 + ((psum ln m : Nat) : Int)) := ⟨_, rfl⟩
    have hkp0 : 0 ≤ kp ∧ kp ≤ 1048577 := by rw [hkp.out]; omega
    rw [← hkp.out]
    clear hkp
    go_wp2_with fail
    refine (onMarkList _ _ _ n1 f1 kp oQ (by omega) (by omega)).mono ?_
    rintro e W16 ⟨rfl, -, T⟩
    have C16 := C15.trans (T.below C15.size (fun b o hb h => by obtain ⟨h1, h2⟩ := h; omega))
    replace k0 := box_wrote k0 T (fun o h => by obtain ⟨h1, h2⟩ := h; omega)
    replace bxW := box_wrote bxW T (fun o h => by obtain ⟨h1, h2⟩ := h; omega)
    replace bxI := box_wrote bxI T (fun o h => by obtain ⟨h1, h2⟩ := h; omega)
    replace bxG := box_wrote bxG T (fun o h => by obtain ⟨h1, h2⟩ := h; omega)
    replace oW := oW.keep T (fun i b o hb _ h => by obtain ⟨h1, h2⟩ := h; have := bW _ _ hb; omega)
    replace oG := oG.keep T (fun i b o hb _ h => by obtain ⟨h1, h2⟩ := h; have := bG _ _ hb; omega)
    have sz16 := T.size
    clear T C15
    clear oQ
    obtain ⟨kd, hkd⟩ : ∃ k : Int, Hid (k = kp + (n1 : Int)) := ⟨_, rfl⟩
    rw [← hkd.out]
    have hk0 : ¬ (kd < 0) := by rw [hkd.out]; omega
    have hk0' : decide (kd < 0) = false := decide_eq_false hk0
    clear hkd
    go_upto_region 20 with (fail)
    refine wp_region_lit ?_
    refine wpList_plain rfl (fun K3 hK3 => ?_)
    go_simp
    refine hK3 _ _ ?_
    clear hK3
    refine wpList_plain rfl (fun K3 hK3 => ?_)
    go_simp
    refine hK3 _ _ ?_
    clear hK3
    refine wpList_plain rfl (fun K3 hK3 => ?_)
    go_simp
    refine hK3 _ _ ?_
    clear hK3
    refine wpList_load_rowN (by kernel_rfl) _ _ rfl (zbxG) rfl _ _ _ _ bxG Try.underlying50 rfl (infoAt infoLock scG) ?_
    refine wpList_load_rowN (by kernel_rfl) _ _ rfl (zbxW) rfl _ _ _ _ bxW Try.underlying50 rfl (infoAt infoLock scW) ?_
    go_wp2_with fail
    refine (onEqLock _ _ _ _ _ rd oG oW).mono ?_
    rintro e W17 ⟨rfl, L⟩
    have C17 := below_snoc C16 L
    replace k0 := box_keep k0 L (boxLt k0)
    replace bxW := box_keep bxW L (boxLt bxW)
    replace bxI := box_keep bxI L (boxLt bxI)
    replace bxG := box_keep bxG L (boxLt bxG)
    replace oW := oW.below L
    replace oG := oG.below L
    have sz17 := L.size
    clear L C16
    go_upto_region 23 with (fail)
    refine wp_region_lit ?_
    refine wpList_load_row rfl _ _ rfl (zbxG) rfl _ _ _ _ bxG Try.underlying50 rfl (infoAt infoLock scG) ?_
    go_wp2_with fail
    refine (onMarkLock _ DG _ rd 1 oG dG (fun i b h => by have := bG _ _ h; omega) (by omega) HMR.out.1).mono ?_
    rintro e W18 ⟨rfl, oK, T⟩
    have C18 := C17.trans (T.below C17.size (fun b o hb h => by obtain ⟨i', h⟩ := h; have := bG _ _ h; omega))
    replace k0 := box_wrote k0 T (fun o h => by obtain ⟨i', h⟩ := h; have := bG _ _ h; omega)
    replace bxW := box_wrote bxW T (fun o h => by obtain ⟨i', h⟩ := h; have := bG _ _ h; omega)
    replace bxI := box_wrote bxI T (fun o h => by obtain ⟨i', h⟩ := h; have := bG _ _ h; omega)
    replace bxG := box_wrote bxG T (fun o h => by obtain ⟨i', h⟩ := h; have := bG _ _ h; omega)
    replace oW := oW.keep T (fun i b o hb _ ⟨i', h⟩ => by have := bG _ _ h; have := bW _ _ hb; omega)
    have sz18 := T.size
    clear T C17
    clear oG
    have HHD := hide (fun W h => onHeldLock W DG (.agg cG) rd 1 h (by omega) HMR.out.1)
    obtain ⟨km, hkm⟩ : ∃ k, Hid (k = 1 + markN rd) := ⟨_, rfl⟩
    rw [← hkm.out] at HHD ⊢
    have hm0 : ¬ (km < 0) := by have := HMR.out.2; rw [hkm.out]; omega
    have hmm : (km != km) = false := by simp
    clear hkm
    go_upto_region 25 with (fail)
    refine wp_region_lit ?_
    refine wpList_load_row rfl _ _ rfl (zbxG) rfl _ _ _ _ bxG Try.underlying50 rfl (infoAt infoLock scG) ?_
    go_wp2_with fail
    refine (HHD.out _ oK).mono ?_
    rintro e W19 ⟨rfl, L⟩
    have C19 := below_snoc C18 L
    replace k0 := box_keep k0 L (boxLt k0)
    replace bxW := box_keep bxW L (boxLt bxW)
    replace bxI := box_keep bxI L (boxLt bxI)
    replace bxG := box_keep bxG L (boxLt bxG)
    replace oW := oW.below L
    replace oK := oK.below L
    have sz19 := L.size
    clear L C18
    go_upto_region 30 with (fail)
    have c_k0 := boxC k0
    go_wp2_with fail
    clear c_k0
    refine (onToImg _ _ u0 m ln f (hI0.keep (wrote_below C19 Nowhere) (fun _ _ _ x => x)) hsm0).mono ?_
    rintro e W20 ⟨vY, rfl, oY, L⟩
    have C20 := below_snoc C19 L
    replace k0 := box_keep k0 L (boxLt k0)
    replace bxW := box_keep bxW L (boxLt bxW)
    replace bxI := box_keep bxI L (boxLt bxI)
    replace bxG := box_keep bxG L (boxLt bxG)
    replace oW := oW.below L
    replace oK := oK.below L
    have sz20 := L.size
    clear L C19
    go_wp2_with fail
    refine (onToList _ _ (.slice s1 n1 c1) n1 f1 (HI1.keep (wrote_below C20 Nowhere) (fun _ _ _ x => x))).mono ?_
    rintro e W21 ⟨vZ, rfl, oZ, L⟩
    have C21 := below_snoc C20 L
    replace k0 := box_keep k0 L (boxLt k0)
    replace bxW := box_keep bxW L (boxLt bxW)
    replace bxI := box_keep bxI L (boxLt bxI)
    replace bxG := box_keep bxG L (boxLt bxG)
    replace oW := oW.below L
    replace oK := oK.below L
    replace oY := oY.below L
    have sz21 := L.size
    clear L C20
    go_wp2_with fail
    refine (HI.out _ _ _ _ _ oY oZ).mono ?_
    rintro e W22 ⟨vH, rfl, ⟨DH, oH, -, -⟩, L⟩
    have C22 := below_snoc C21 L
    replace k0 := box_keep k0 L (boxLt k0)
    replace bxW := box_keep bxW L (boxLt bxW)
    replace bxI := box_keep bxI L (boxLt bxI)
    replace bxG := box_keep bxG L (boxLt bxG)
    replace oW := oW.below L
    replace oK := oK.below L
    replace oY := oY.below L
    replace oZ := oZ.below L
    have sz22 := L.size
    clear L C21
    clear oY oZ
    obtain ⟨cH, rfl, scH, onecH⟩ := oH.agg
    have hst := run_storeCells_new (P := Try.prog) W22 50 #[.slice none 0 0, .slice none 0 0, .slice none 0 0, .int .i64 0, .int .i64 0, .int .i64 0, .int .i64 0, .int .i64 0, .bool false, .bool false, .bool false, .bool false, .int .i64 0, .int .i64 0, .int .i64 0, .int .i64 0, .int .i64 0, .bool false, .slice none 0 0, .slice none 0 0, .int .i64 0, .int .i64 0, .int .i64 0, .int .i64 0, .int .i64 0, .bool false, .bool false, .bool false, .int .i64 0, .bool false, .int .i64 0, .slice none 0 0, .slice none 0 0, .slice none 0 0] cH (infoAt infoLock scH) (by rw [scH]; rfl) onecH
    have bxH := box_new W22 cH 50
    have LA : Below W22.heap.size W22 (W22.alloc (.cells cH 50)) := (Below.refl _ _).alloc (Nat.le_refl _) _
    go_upto_region 31 with (fail)
    clear hst
    have C23 := below_snoc C22 LA
    replace k0 := box_keep k0 LA (boxLt k0)
    replace bxW := box_keep bxW LA (boxLt bxW)
    replace bxI := box_keep bxI LA (boxLt bxI)
    replace bxG := box_keep bxG LA (boxLt bxG)
    replace oW := oW.below LA
    replace oK := oK.below LA
    replace oH := oH.below LA
    have sz23 := LA.size
    clear LA C22
    obtain ⟨zbxH, hzbxH⟩ : ∃ z, Hid (z = W22.heap.size) := ⟨_, rfl⟩
    rw [← hzbxH.out] at bxH ⊢
    generalize W22.alloc (.cells cH 50) = W23 at *
    have gzbxH : W22.heap.size ≤ zbxH := by rw [hzbxH.out]; exact Nat.le_refl _
    have lzbxH := boxLt bxH
    clear hzbxH
    refine wp_region_lit ?_
    refine wpList_load_row rfl _ _ rfl (zbxH) rfl _ _ _ _ bxH Try.underlying50 rfl (infoAt infoLock scH) ?_
    refine wpList_load_row rfl _ _ rfl (zbxW) rfl _ _ _ _ bxW Try.underlying50 rfl (infoAt infoLock scW) ?_
    go_wp2_with fail
    refine (onEqLock _ _ _ _ _ rd oH oW).mono ?_
    rintro e W24 ⟨rfl, L⟩
    have C24 := below_snoc C23 L
    replace k0 := box_keep k0 L (boxLt k0)
    replace bxW := box_keep bxW L (boxLt bxW)
    replace bxI := box_keep bxI L (boxLt bxI)
    replace bxG := box_keep bxG L (boxLt bxG)
    replace bxH := box_keep bxH L (boxLt bxH)
    replace oW := oW.below L
    replace oK := oK.below L
    replace oH := oH.below L
    have sz24 := L.size
    clear L C23
    go_upto_region 34 with (fail)
    refine wp_region_lit ?_
    refine wpList_load_row rfl _ _ rfl (zbxG) rfl _ _ _ _ bxG Try.underlying50 rfl (infoAt infoLock scG) ?_
    go_wp2_with fail
    refine (HHD.out _ oK).mono ?_
    rintro e W25 ⟨rfl, L⟩
    have C25 := below_snoc C24 L
    replace k0 := box_keep k0 L (boxLt k0)
    replace bxW := box_keep bxW L (boxLt bxW)
    replace bxI := box_keep bxI L (boxLt bxI)
    replace bxG := box_keep bxG L (boxLt bxG)
    replace bxH := box_keep bxH L (boxLt bxH)
    replace oW := oW.below L
    replace oK := oK.below L
    replace oH := oH.below L
    have sz25 := L.size
    clear L C24
    go_wp2
    go_ret
    exact ⟨rfl, C25⟩
end Go.Proofs.Ytpaedkefmebjjar
