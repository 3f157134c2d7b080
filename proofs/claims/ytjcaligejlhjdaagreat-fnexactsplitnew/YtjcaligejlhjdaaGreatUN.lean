/-
  Chapter 15 of the specification by its contracts: SplitNew.
-/
import Derived.Test.YtjcaligejlhjdaaGreatUC
import Derived.Test.YtjcaligejlhjdaaGreatUW
import Derived.Test.YtjcaligejlhjdaaGreatKC
import Derived.Test.YtjcaligejlhjdaaGreatG1
import Derived.Test.YtjcaligejlhjdaaGreatCB
import Derived.Test.YtjcaligejlhjdaaGreatF8
import Derived.Test.YtjcaligejlhjdaaGreatA8
import Derived.Deep.DeepCutAuto
namespace Go.Proofs.YtjcaligejlhjdaaGreat
set_option linter.unusedVariables false
set_option linter.unusedSimpArgs false
open Go.ChangeShapes Go.WideShapes Go.ChangeAt Go.RowKit
theorem results_row_tmpU {P : Program} {fn : Func} {p q : Tmp} {ty : TypeId} (h : fn.results = #[.cell p ty, .tmp q]) (tmps : Array Value) (w : World) (g : Nat) (t : TypeId) (cs : Array Value) (fr : Nat × Nat) (dd : TypeDesc)
    (hp : tmps.getD p undef = .pointer (some ⟨g, 0, none⟩)) (hg : w.heap[g]? = some (.cells cs t fr)) (hu : P.underlying ty = some dd) (hd : (match dd with | .struct _ | .array _ _ => true | _ => false) = true) (hi : (P.info? ty).map (·.size) = some cs.size) :
    (results fn tmps).run P w = .ok (.tuple #[.agg cs, tmps.getD q undef]) w := by
  have hp' : tmps[p]?.getD undef = .pointer (some ⟨g, 0, none⟩) := by simpa using hp
  simp [results, h, hp', asAddr, run_loadVar_row w g t ty cs fr dd hg hu hd hi]
theorem Row.noneU {W : World} {lo g n c : Nat} {f : Nat → Int} (h : Row W lo g n c f) (hg : W.heap[g]? = some (.cells #[] 3 (0, 0))) : n = 0 ∧ c = 0 := by
  rcases h.own.2 with ⟨e, _⟩ | ⟨g', cap, cur, hv, hb, hg', h1, h2, h3, h4⟩
  · cases e
  · simp only [Value.slice.injEq, Option.some.injEq, Addr.mk.injEq, and_true, true_and] at hv
    obtain ⟨rfl, rfl⟩ := hv
    rw [hg] at hg'
    simp only [Option.some.injEq, Obj.cells.injEq, and_true] at hg'
    have : cur.size = 0 := by rw [← hg']; rfl
    omega
def zeroPc : PcD := ⟨0, 0, 0, 0, 0, false, 0, fun _ => 0, 0, fun _ => 0, 0, 0, fun _ => 0, 0, fun _ => 0, fun _ _ => 0⟩
def zeroSnU : SnD := ⟨0, 0, 0, 0, 0, false, false, 0, 0, fun _ => 0, 0, fun _ => 0⟩
/-- A new console apart, in numbers. -/
def newS (m : Nat) (ln : Nat → Nat) (f : Nat → Nat → Int) (np : Nat) (p : Nat → Int) (cap : Int) : SpD :=
  { m := m, ln := ln, f := f, np := np, p := p, nr := 512, g := fun _ => 0, bank := 0, A := 0, X := 0, S := 255, Pc := newPc m ln f, Z := false, N := false, C := false, I := true, hd := false, sh := 0, T := 0, nmi := false, ctrl := 0, kn := false, ka := 0, st := 0, nq := 0, rd := fun _ => 0, pc := { zeroPc with nt := 16, cap := cap }, sn := { zeroSnU with cap := cap } }
def zeroS : SpD :=
  { m := 0, ln := fun _ => 0, f := fun _ _ => 0, np := 0, p := fun _ => 0, nr := 0, g := fun _ => 0, bank := 0, A := 0, X := 0, S := 0, Pc := 0, Z := false, N := false, C := false, I := false, hd := false, sh := 0, T := 0, nmi := false, ctrl := 0, kn := false, ka := 0, st := 0, nq := 0, rd := fun _ => 0, pc := zeroPc, sn := zeroSnU }
theorem SsOn.noneU {W : World} {D : Nat → Prop} (f : Nat → Nat → Int) : SsOn W D (.slice none 0 0) 0 (fun _ => 0) f :=
  ⟨fun _ => none, fun _ => 0, ⟨⟨none, 0, rfl, by omega, fun i hi => absurd hi (Nat.not_lt_zero _)⟩, fun i hi => absurd hi (Nat.not_lt_zero _), fun i j hi => absurd hi (Nat.not_lt_zero _), by simp [psum]⟩, fun i hi => absurd hi (Nat.not_lt_zero _), fun i hi => absurd hi (Nat.not_lt_zero _), fun a cap e b o hF => absurd hF (foot_none _ _ _), fun i hi => absurd hi (Nat.not_lt_zero _)⟩
theorem RsOn.noneU {W : World} {D : Nat → Prop} (f : Nat → Int) : RsOn W D (.slice none 0 0) 0 f :=
  ⟨none, 0, rfl, ⟨by omega, by omega⟩, fun i hi => absurd hi (by omega), fun b o hF => absurd hF (foot_none _ _ _), fun b o hF => absurd hF (foot_none _ _ _)⟩
theorem zeroS_on {W : World} {D : Nat → Nat → Prop} : SplitOn W D (.agg #[.slice none 0 0, .slice none 0 0, .slice none 0 0, .int .i64 0, .int .i64 0, .int .i64 0, .int .i64 0, .int .i64 0, .bool false, .bool false, .bool false, .bool false, .bool false, .int .i64 0, .int .i64 0, .bool false, .int .i64 0, .bool false, .int .i64 0, .int .i64 0, .slice none 0 0, .int .i64 0, .int .i64 0, .int .i64 0, .int .i64 0, .int .i64 0, .bool false, .slice none 0 0, .slice none 0 0, .int .i64 0, .slice none 0 0, .slice none 0 0, .int .i64 0, .int .i64 0, .int .i64 0, .int .i64 0, .int .i64 0, .bool false, .bool false, .int .i64 0, .slice none 0 0, .slice none 0 0]) zeroS :=
  ⟨_, _, _, _, _, _, _, _, _, _, rfl, SsOn.noneU _, ⟨_, _, rfl, SlOn.zero _ _⟩, ⟨_, _, rfl, by show (0 : Nat) ≤ _; omega, fun i hi => absurd hi (Nat.not_lt_zero _), fun b o hF => absurd hF (foot_none _ _ _), fun b o hF => absurd hF (foot_none _ _ _)⟩, ⟨_, _, rfl, SlOn.zero _ _⟩, ⟨_, _, _, _, rfl, ⟨_, _, _, _, rfl, SlOn.zero _ _, SlOn.zero _ _, fun b o h => absurd h (foot_none _ _ _)⟩, RsOn.noneU _, SsOn.noneU _⟩, ⟨_, _, rfl, RsOn.noneU _, ⟨_, _, rfl, SlOn.zero _ _⟩⟩⟩
theorem newS_on {W : World} {D : Nat → Nat → Prop} {m : Nat} {ln : Nat → Nat} {f : Nat → Nat → Int} {np : Nat} {p : Nat → Int} {cap : Int} {b0 : Option Addr} {e0 g1 y1 : Nat} {b2 : Option Addr} {e2 q8 : Nat} {pc : Int} (hpc : pc = newPc m ln f)
    (h0 : SsOn W (D 0) (.slice b0 m e0) m ln f) (h1 : ListOn W (D 1) (.slice (some ⟨g1, 0, none⟩) np y1) np p) (h2 : MemOn W (D 2) (.agg #[.slice b2 512 e2, .int .i64 0]) 512 (fun _ => 0) 0) (h3 : PpuOn W (D 4) (.agg #[.int .i64 0, .int .i64 0, .int .i64 0, .int .i64 0, .int .i64 0, .bool false, .slice (some ⟨q8, 0, none⟩) 16 16, .slice none 0 0]) 0 0 0 0 0 false 16 (fun _ => 0) 0 (fun _ => 0)) : SplitOn W D (.agg #[.slice b0 m e0, .slice (some ⟨g1, 0, none⟩) np y1, .slice b2 512 e2, .int .i64 0, .int .i64 0, .int .i64 0, .int .i64 255, .int .i64 pc, .bool false, .bool false, .bool false, .bool true, .bool false, .int .i64 0, .int .i64 0, .bool false, .int .i64 0, .bool false, .int .i64 0, .int .i64 0, .slice none 0 0, .int .i64 0, .int .i64 0, .int .i64 0, .int .i64 0, .int .i64 0, .bool false, .slice (some ⟨q8, 0, none⟩) 16 16, .slice none 0 0, .int .i64 cap, .slice none 0 0, .slice none 0 0, .int .i64 0, .int .i64 0, .int .i64 0, .int .i64 0, .int .i64 0, .bool false, .bool false, .int .i64 cap, .slice none 0 0, .slice none 0 0]) (newS m ln f np p cap) := by
  subst hpc
  exact ⟨_, _, _, _, _, _, _, _, _, _, rfl, h0, h1, h2, ⟨_, _, rfl, SlOn.zero _ _⟩, ⟨_, _, _, _, rfl, h3, RsOn.noneU _, SsOn.noneU _⟩, ⟨_, _, rfl, RsOn.noneU _, ⟨_, _, rfl, SlOn.zero _ _⟩⟩⟩
theorem ListOn.zeroU {W : World} {D : Nat → Prop} {a : Option Addr} {n c : Nat} {f : Nat → Int} (h : n = 0) : ListOn W D (.slice a n c) n f := by
  subst h
  exact ⟨_, _, rfl, SlOn.zero _ _⟩
/-- A console apart in new memory. -/
structure SplitNw (w w' : World) (v : Value) (d : SpD) : Prop where
  ex : ∃ D, SplitOn w' D v d ∧ Dis D ∧ ∀ i b, D i b → w.heap.size ≤ b ∧ b < w'.heap.size
def D5 (l1 h1 l4 h4 g l5 h5 l8 h8 : Nat) : Nat → Nat → Prop := fun i b => (i = 0 ∧ l1 ≤ b ∧ b < h1) ∨ (i = 1 ∧ ((l4 ≤ b ∧ b < h4) ∧ (l4 ≤ g ∧ g < h4))) ∨ (i = 2 ∧ l5 ≤ b ∧ b < h5) ∨ (i = 4 ∧ l8 ≤ b ∧ b < h8)
theorem D5.dis {l1 h1 l4 h4 g l5 h5 l8 h8 : Nat} (d14 : h1 ≤ l4 ∨ h4 ≤ l1) (d15 : h1 ≤ l5 ∨ h5 ≤ l1) (d45 : h4 ≤ l5 ∨ h5 ≤ l4) (d18 : h1 ≤ l8) (d48 : h4 ≤ l8) (d58 : h5 ≤ l8) : Dis (D5 l1 h1 l4 h4 g l5 h5 l8 h8) := by
  intro i j b k1 k2
  rcases k1 with ⟨rfl, _, _⟩ | ⟨rfl, _, _⟩ | ⟨rfl, _, _⟩ | ⟨rfl, _, _⟩ <;> rcases k2 with ⟨rfl, _, _⟩ | ⟨rfl, _, _⟩ | ⟨rfl, _, _⟩ | ⟨rfl, _, _⟩ <;> first | rfl | omega
theorem D5.bd {l1 h1 l4 h4 g l5 h5 l8 h8 S N : Nat} (e1 : S ≤ l1 ∧ h1 ≤ N) (e4 : S ≤ l4 ∧ h4 ≤ N) (e5 : S ≤ l5 ∧ h5 ≤ N) (e8 : S ≤ l8 ∧ h8 ≤ N) : ∀ i b, D5 l1 h1 l4 h4 g l5 h5 l8 h8 i b → S ≤ b ∧ b < N := by
  intro i b h
  rcases h with ⟨rfl, _, _⟩ | ⟨rfl, _, _⟩ | ⟨rfl, _, _⟩ | ⟨rfl, _, _⟩ <;> omega
theorem awayU {l h lx hx b x : Nat} (d : hx ≤ l ∨ h ≤ lx) (h1 : l ≤ b) (h2 : b < h) (h3 : lx ≤ x) (h4 : x < hx) : ¬ b = x := by omega
set_option maxRecDepth 40000 in
set_option maxHeartbeats 8000000 in
theorem specSplitNew (w : World) (F G : Nat → Nat → Prop) (u v : Value) (m : Nat) (ln : Nat → Nat) (f : Nat → Nat → Int) (np : Nat) (p : Nat → Int) (cap : Int) (H : IntSS .i64 w F u m ln f) (K : Ints .i64 w G v np p) :
    Calls Tryz.prog 6 #[.agg #[u], v, .int .i64 cap] w fun e w' => ∃ v', e = .returned (.tuple #[v', .bool (okSplit (newS m ln f np p cap))]) ∧ SplitNw w w' v' (if okSplit (newS m ln f np p cap) then newS m ln f np p cap else zeroS) ∧ Below w.heap.size w w' := by
  obtain ⟨ia, ic, rfl, -⟩ := id H
  obtain ⟨pa, pcap, rfl, pn, -, -⟩ := id K
  obtain ⟨pc, hpc⟩ : ∃ x, Hid (x = newPc m ln f) := ⟨_, rfl⟩
  have HC := hide (fun W F v h => specCpuNew W F v m ln f h)
  rw [← hpc.out] at HC
  obtain ⟨d, hd⟩ : ∃ d, Hid (d = newS m ln f np p cap) := ⟨_, rfl⟩
  rw [← hd.out]
  have L0 : Below w.heap.size w ((w.alloc (.cells #[.slice ia m ic] 27)).alloc (.cells #[.slice none 0 0, .slice none 0 0, .slice none 0 0, .int .i64 0, .int .i64 0, .int .i64 0, .int .i64 0, .int .i64 0, .bool false, .bool false, .bool false, .bool false, .bool false, .int .i64 0, .int .i64 0, .bool false, .int .i64 0, .bool false, .int .i64 0, .int .i64 0, .slice none 0 0, .int .i64 0, .int .i64 0, .int .i64 0, .int .i64 0, .int .i64 0, .bool false, .slice none 0 0, .slice none 0 0, .int .i64 0, .slice none 0 0, .slice none 0 0, .int .i64 0, .int .i64 0, .int .i64 0, .int .i64 0, .int .i64 0, .bool false, .bool false, .int .i64 0, .slice none 0 0, .slice none 0 0] 46)) := ((Below.refl _ _).alloc (Nat.le_refl _) _).alloc (by simp) _
  have k0 : ((w.alloc (.cells #[.slice ia m ic] 27)).alloc (.cells #[.slice none 0 0, .slice none 0 0, .slice none 0 0, .int .i64 0, .int .i64 0, .int .i64 0, .int .i64 0, .int .i64 0, .bool false, .bool false, .bool false, .bool false, .bool false, .int .i64 0, .int .i64 0, .bool false, .int .i64 0, .bool false, .int .i64 0, .int .i64 0, .slice none 0 0, .int .i64 0, .int .i64 0, .int .i64 0, .int .i64 0, .int .i64 0, .bool false, .slice none 0 0, .slice none 0 0, .int .i64 0, .slice none 0 0, .slice none 0 0, .int .i64 0, .int .i64 0, .int .i64 0, .int .i64 0, .int .i64 0, .bool false, .bool false, .int .i64 0, .slice none 0 0, .slice none 0 0] 46)).heap[w.heap.size]? = some (.cells #[.slice ia m ic] 27 (0, 0)) := boxA (box_new w _ _) _
  have k1 : ((w.alloc (.cells #[.slice ia m ic] 27)).alloc (.cells #[.slice none 0 0, .slice none 0 0, .slice none 0 0, .int .i64 0, .int .i64 0, .int .i64 0, .int .i64 0, .int .i64 0, .bool false, .bool false, .bool false, .bool false, .bool false, .int .i64 0, .int .i64 0, .bool false, .int .i64 0, .bool false, .int .i64 0, .int .i64 0, .slice none 0 0, .int .i64 0, .int .i64 0, .int .i64 0, .int .i64 0, .int .i64 0, .bool false, .slice none 0 0, .slice none 0 0, .int .i64 0, .slice none 0 0, .slice none 0 0, .int .i64 0, .int .i64 0, .int .i64 0, .int .i64 0, .int .i64 0, .bool false, .bool false, .int .i64 0, .slice none 0 0, .slice none 0 0] 46)).heap[w.heap.size + 1]? = some (.cells #[.slice none 0 0, .slice none 0 0, .slice none 0 0, .int .i64 0, .int .i64 0, .int .i64 0, .int .i64 0, .int .i64 0, .bool false, .bool false, .bool false, .bool false, .bool false, .int .i64 0, .int .i64 0, .bool false, .int .i64 0, .bool false, .int .i64 0, .int .i64 0, .slice none 0 0, .int .i64 0, .int .i64 0, .int .i64 0, .int .i64 0, .int .i64 0, .bool false, .slice none 0 0, .slice none 0 0, .int .i64 0, .slice none 0 0, .slice none 0 0, .int .i64 0, .int .i64 0, .int .i64 0, .int .i64 0, .int .i64 0, .bool false, .bool false, .int .i64 0, .slice none 0 0, .slice none 0 0] 46 (0, 0)) := by simpa using box_new (w.alloc (.cells #[.slice ia m ic] 27)) #[.slice none 0 0, .slice none 0 0, .slice none 0 0, .int .i64 0, .int .i64 0, .int .i64 0, .int .i64 0, .int .i64 0, .bool false, .bool false, .bool false, .bool false, .bool false, .int .i64 0, .int .i64 0, .bool false, .int .i64 0, .bool false, .int .i64 0, .int .i64 0, .slice none 0 0, .int .i64 0, .int .i64 0, .int .i64 0, .int .i64 0, .int .i64 0, .bool false, .slice none 0 0, .slice none 0 0, .int .i64 0, .slice none 0 0, .slice none 0 0, .int .i64 0, .int .i64 0, .int .i64 0, .int .i64 0, .int .i64 0, .bool false, .bool false, .int .i64 0, .slice none 0 0, .slice none 0 0] 46
  go_enter Tryz.func6, Tryz.ntmps6
  go_upto_region 1 with (fail)
  generalize (w.alloc (.cells #[.slice ia m ic] 27)).alloc (.cells #[.slice none 0 0, .slice none 0 0, .slice none 0 0, .int .i64 0, .int .i64 0, .int .i64 0, .int .i64 0, .int .i64 0, .bool false, .bool false, .bool false, .bool false, .bool false, .int .i64 0, .int .i64 0, .bool false, .int .i64 0, .bool false, .int .i64 0, .int .i64 0, .slice none 0 0, .int .i64 0, .int .i64 0, .int .i64 0, .int .i64 0, .int .i64 0, .bool false, .slice none 0 0, .slice none 0 0, .int .i64 0, .slice none 0 0, .slice none 0 0, .int .i64 0, .int .i64 0, .int .i64 0, .int .i64 0, .int .i64 0, .bool false, .bool false, .int .i64 0, .slice none 0 0, .slice none 0 0] 46) = W0 at *
  replace H := H.keep (wrote_below L0 Nowhere) (fun _ _ _ x => x)
  replace K := K.keep (wrote_below L0 Nowhere) (fun _ _ _ x => x)
  have hb1 := boxLt k1
  obtain ⟨S, hS⟩ : ∃ S, Hid (S = W0.heap.size) := ⟨_, rfl⟩
  rename_i KK hKK
  refine wp_region_effL 10 [some 9, some 10, some 11, some 12, some 13, some 14, some 15, some 16, some 17, some 8, none] (by kernel_rfl) (by kernel_rfl) (by kernel_rfl) (by kernel_rfl) (by kernel_rfl) (by simp [slotsOf])
    (fun _ => Nowhere)
    (fun i V lo hi W => match i with
      | 0 => V 0 = .agg #[.slice ia m ic]
      | 1 => ∃ b0 e0, V 1 = .agg #[.slice b0 m e0] ∧ SsOn W (fun b => lo ≤ b ∧ b < hi) (.slice b0 m e0) m ln f
      | 2 => ∃ gE, V 2 = .slice (some ⟨gE, 0, none⟩) 0 0 ∧ W.heap[gE]? = some (.cells #[] 3 (0, 0)) ∧ S ≤ gE
      | 3 => V 3 = .slice pa np pcap
      | 4 => ∃ g1 y1, V 4 = .slice (some ⟨g1, 0, none⟩) np y1 ∧ Row W S g1 np y1 p ∧ ((lo ≤ g1 ∧ g1 < hi) ∨ (np = 0 ∧ y1 = 0))
      | 5 => ∃ b2 e2, V 5 = .agg #[.slice b2 512 e2, .int .i64 0] ∧ MemOn W (fun b => lo ≤ b ∧ b < hi) (.agg #[.slice b2 512 e2, .int .i64 0]) 512 (fun _ => 0) 0
      | 6 => V 6 = .agg #[.slice ia m ic]
      | 7 => V 7 = .agg #[.int .i64 0, .int .i64 0, .int .i64 255, .int .i64 pc, .bool false, .bool false, .bool false, .bool true]
      | 8 => ∃ b0 e0 g1 y1 b2 e2, V 1 = .agg #[.slice b0 m e0] ∧ V 4 = .slice (some ⟨g1, 0, none⟩) np y1 ∧ V 5 = .agg #[.slice b2 512 e2, .int .i64 0] ∧ V 8 = .agg #[.slice b0 m e0, .slice (some ⟨g1, 0, none⟩) np y1, .slice b2 512 e2, .int .i64 0, .int .i64 0, .int .i64 0, .int .i64 255, .int .i64 pc, .bool false, .bool false, .bool false, .bool true, .bool false, .int .i64 0, .int .i64 0, .bool false, .int .i64 0, .bool false, .int .i64 0, .int .i64 0, .slice none 0 0, .int .i64 0, .int .i64 0, .int .i64 0, .int .i64 0, .int .i64 0, .bool false, .slice none 0 0, .slice none 0 0, .int .i64 0, .slice none 0 0, .slice none 0 0, .int .i64 0, .int .i64 0, .int .i64 0, .int .i64 0, .int .i64 0, .bool false, .bool false, .int .i64 0, .slice none 0 0, .slice none 0 0]
      | 9 => ∃ b, V 9 = .pointer (some ⟨b, 0, none⟩) ∧ W.heap[b]? = some (.cells #[.slice none 0 0, .slice none 0 0, .slice none 0 0, .int .i64 0, .int .i64 0, .int .i64 0, .int .i64 0, .int .i64 0, .bool false, .bool false, .bool false, .bool false, .bool false, .int .i64 0, .int .i64 0, .bool false, .int .i64 0, .bool false, .int .i64 0, .int .i64 0, .slice none 0 0, .int .i64 0, .int .i64 0, .int .i64 0, .int .i64 0, .int .i64 0, .bool false, .slice none 0 0, .slice none 0 0, .int .i64 0, .slice none 0 0, .slice none 0 0, .int .i64 0, .int .i64 0, .int .i64 0, .int .i64 0, .int .i64 0, .bool false, .bool false, .int .i64 0, .slice none 0 0, .slice none 0 0] 46 (0, 0)) ∧ lo ≤ b ∧ b < hi
      | _ => True) ?_ ?_ ?_
  · intro i j o V x lo hi W W' hij _ _ ho hnw hlo hhi hW h
    have nw : ∀ k, waitsB o k = true → k ≠ j := fun k hk e => by rw [e, hnw] at hk; cases hk
    match i, ho, hij, nw, h with
    | 0, _, hij, _, h => exact (updV_ne V x hij).trans h
    | 3, _, hij, _, h => exact (updV_ne V x hij).trans h
    | 6, _, hij, _, h => exact (updV_ne V x hij).trans h
    | 7, _, hij, _, h => exact (updV_ne V x hij).trans h
    | 1, _, hij, _, ⟨b0, e0, h1, h2⟩ => exact ⟨b0, e0, (updV_ne V x hij).trans h1, h2.keep hW (fun _ _ _ _ x => x)⟩
    | 2, _, hij, _, ⟨gE, h1, h2, h3⟩ => exact ⟨gE, (updV_ne V x hij).trans h1, box_wrote h2 hW (fun _ x => x), h3⟩
    | 4, _, hij, _, ⟨g, c, h1, h2, h3⟩ => exact ⟨g, c, (updV_ne V x hij).trans h1, h2.keep hW (fun _ x => x), h3⟩
    | 5, _, hij, _, ⟨b2, e2, h1, h2⟩ => exact ⟨b2, e2, (updV_ne V x hij).trans h1, h2.keep hW (fun _ _ _ _ x => x)⟩
    | 8, ho, hij, nw, ⟨b0, e0, g1, y1, b2, e2, h1, h4, h5, h9⟩ =>
      simp only [List.getElem?_toArray, List.getElem?_cons_zero, List.getElem?_cons_succ, Option.some.injEq] at ho
      subst ho
      exact ⟨b0, e0, g1, y1, b2, e2, (updV_ne V x (nw 1 (by kernel_rfl))).trans h1, (updV_ne V x (nw 4 (by kernel_rfl))).trans h4, (updV_ne V x (nw 5 (by kernel_rfl))).trans h5, (updV_ne V x hij).trans h9⟩
    | 9, _, hij, _, ⟨b, h1, h2, h3⟩ => exact ⟨b, (updV_ne V x hij).trans h1, box_wrote h2 hW (fun _ x => x), h3⟩
    | n + 10, _, _, _, _ => exact trivial
  · intro i o a' W K' hin ho F' L hw hK
    have hS' := hS.out
    have t1 := F'.get (t := 1) (v := .slice pa np pcap) (by decide) rfl
    have t3 := F'.get (t := 3) (v := .pointer (some ⟨w.heap.size, 0, none⟩)) (by decide) rfl
    have LN : Wrote Nowhere W0 W := L.mono (fun b o _ ⟨j, _, _, _, _, h⟩ => h)
    have WS : S ≤ W.heap.size := by have := LN.size; omega
    match i with
    | 0 =>
        simp only [List.getElem?_toArray, List.getElem?_cons_zero, List.getElem?_cons_succ, Option.some.injEq] at ho
        subst ho
        have rb := boxC (box_wrote k0 LN (fun _ x => x))
        go_simp
        exact hK _ _ (Wrote.refl _ _) (updV_same _ _ _)
    | 6 =>
        simp only [List.getElem?_toArray, List.getElem?_cons_zero, List.getElem?_cons_succ, Option.some.injEq] at ho
        subst ho
        have rb := boxC (box_wrote k0 LN (fun _ x => x))
        go_simp
        exact hK _ _ (Wrote.refl _ _) (updV_same _ _ _)
    | 1 =>
        simp only [List.getElem?_toArray, List.getElem?_cons_zero, List.getElem?_cons_succ, Option.some.injEq] at ho
        subst ho
        have q0 : a'.tmps[9]?.getD undef = .agg #[.slice ia m ic] := by obtain ⟨_, _, _, _, q⟩ := hw 0 (by kernel_rfl); exact q
        go_simp
        refine (l12Image W _ _ m ln f (H.keep LN (fun _ _ _ x => x))).mono ?_
        rintro e W' ⟨v0, rfl, G0, LB⟩
        obtain ⟨b0, e0, rfl⟩ := G0.form
        exact hK _ _ (wrote_below LB _) ⟨b0, e0, updV_same _ _ _, G0⟩
    | 2 =>
        simp only [List.getElem?_toArray, List.getElem?_cons_zero, List.getElem?_cons_succ, Option.some.injEq] at ho
        subst ho
        go_simp
        exact hK _ _ ((Wrote.refl _ W).alloc _) ⟨_, updV_same _ _ _, box_new W #[] 3, WS⟩
    | 3 =>
        simp only [List.getElem?_toArray, List.getElem?_cons_zero, List.getElem?_cons_succ, Option.some.injEq] at ho
        subst ho
        go_simp
        exact hK _ _ (Wrote.refl _ _) (updV_same _ _ _)
    | 4 =>
        simp only [List.getElem?_toArray, List.getElem?_cons_zero, List.getElem?_cons_succ, Option.some.injEq] at ho
        subst ho
        obtain ⟨_, _, _, _, gE, q2, q2b, q2c⟩ := hw 2 (by kernel_rfl)
        replace q2 : a'.tmps[11]?.getD undef = .slice (some ⟨gE, 0, none⟩) 0 0 := q2
        have q3 : a'.tmps[12]?.getD undef = .slice pa np pcap := by obtain ⟨_, _, _, _, q⟩ := hw 3 (by kernel_rfl); exact q
        refine wp_copy W (.tmp 11) (.tmp 12) rfl gE (by simpa [Act.eval] using q2) q2b S q2c _ _ np p (by simpa [Act.eval] using q3) (K.keep LN (fun _ _ _ x => x)) ?_
        intro g c W' hR hB hat
        refine hK _ _ (wrote_below hB _) ⟨g, c, updV_same _ _ _, hR, ?_⟩
        rcases hat with h | h
        · exact Or.inr (hR.noneU (by rw [h]; exact box_keep q2b hB (boxLt q2b)))
        · exact Or.inl ⟨h, hR.parts.2.1⟩
    | 5 =>
        simp only [List.getElem?_toArray, List.getElem?_cons_zero, List.getElem?_cons_succ, Option.some.injEq] at ho
        subst ho
        go_simp
        refine (specMemNew W).mono ?_
        rintro e W' ⟨q, rfl, G2, LB⟩
        have M2 := (MemOn.own (bank := 0) G2).mono (E := fun b => W.heap.size ≤ b ∧ b < W'.heap.size) (fun b hb h => ⟨h, hb⟩)
        obtain ⟨b2, e2, hx2⟩ := M2.two
        simp only [Value.agg.injEq, Array.mk.injEq, List.cons.injEq, and_true] at hx2
        subst hx2
        exact hK _ _ (wrote_below LB _) ⟨b2, e2, updV_same _ _ _, M2⟩
    | 7 =>
        simp only [List.getElem?_toArray, List.getElem?_cons_zero, List.getElem?_cons_succ, Option.some.injEq] at ho
        subst ho
        have q6 : a'.tmps[15]?.getD undef = .agg #[.slice ia m ic] := by obtain ⟨_, _, _, _, q⟩ := hw 6 (by kernel_rfl); exact q
        go_simp
        refine (HC.out W _ _ (H.keep LN (fun _ _ _ x => x))).mono ?_
        rintro e W' ⟨rfl, LB⟩
        exact hK _ _ (wrote_below LB _) (updV_same _ _ _)
    | 8 =>
        simp only [List.getElem?_toArray, List.getElem?_cons_zero, List.getElem?_cons_succ, Option.some.injEq] at ho
        subst ho
        obtain ⟨_, _, _, _, b0, e0, v1, _⟩ := hw 1 (by kernel_rfl)
        obtain ⟨_, _, _, _, g1, y1, v4, _⟩ := hw 4 (by kernel_rfl)
        obtain ⟨_, _, _, _, b2, e2, v5, _⟩ := hw 5 (by kernel_rfl)
        obtain ⟨_, _, _, _, v7⟩ := hw 7 (by kernel_rfl)
        have s1 : a'.tmps[10]?.getD undef = .agg #[.slice b0 m e0] := v1
        have s4 : a'.tmps[13]?.getD undef = .slice (some ⟨g1, 0, none⟩) np y1 := v4
        have s5 : a'.tmps[14]?.getD undef = .agg #[.slice b2 512 e2, .int .i64 0] := v5
        have s7 : a'.tmps[16]?.getD undef = .agg #[.int .i64 0, .int .i64 0, .int .i64 255, .int .i64 pc, .bool false, .bool false, .bool false, .bool true] := v7
        go_simp
        exact hK _ _ (Wrote.refl _ _) ⟨b0, e0, g1, y1, b2, e2, (updV_ne _ _ (by decide)).trans v1, (updV_ne _ _ (by decide)).trans v4, (updV_ne _ _ (by decide)).trans v5, updV_same _ _ _⟩
    | 9 =>
        simp only [List.getElem?_toArray, List.getElem?_cons_zero, List.getElem?_cons_succ, Option.some.injEq] at ho
        subst ho
        go_simp
        exact hK _ _ ((Wrote.refl _ W).alloc _) ⟨W.heap.size, updV_same _ _ _, box_new W _ _, Nat.le_refl _, by simp⟩
    | n + 10 => omega
  · intro o a' W K' ho F' L lo hi hφ hdj hK
    have hS' := hS.out
    simp only [List.getElem?_toArray, List.getElem?_cons_zero, List.getElem?_cons_succ, Option.some.injEq] at ho
    subst ho
    have LN : Wrote Nowhere W0 W := L.mono (fun b o _ ⟨j, h⟩ => h)
    obtain ⟨a1, c1, z1, b0, e0, v1, G0⟩ := hφ 1 (by decide)
    obtain ⟨a4, c4, z4, g1, y1, v4, R1, hR1⟩ := hφ 4 (by decide)
    obtain ⟨a5, c5, z5, b2, e2, v5, G2⟩ := hφ 5 (by decide)
    obtain ⟨-, -, -, b0', e0', g1', y1', b2', e2', w1, w4, w5, v8⟩ := hφ 8 (by decide)
    obtain ⟨a9, c9, z9, bx, v9, rX, x1, x2⟩ := hφ 9 (by decide)
    have dj := fun i j h1 h2 h3 => hdj i j h1 h2 h3
    rw [v1] at w1
    rw [v4] at w4
    rw [v5] at w5
    simp only [Value.agg.injEq, Array.mk.injEq, List.cons.injEq, Value.slice.injEq, Option.some.injEq, Addr.mk.injEq, and_true, true_and] at w1 w4 w5
    obtain ⟨rfl, rfl⟩ := w1
    obtain ⟨rfl, rfl⟩ := w4
    obtain ⟨rfl, rfl⟩ := w5
    have s8 : a'.tmps[17]?.getD undef = .agg #[.slice b0 m e0, .slice (some ⟨g1, 0, none⟩) np y1, .slice b2 512 e2, .int .i64 0, .int .i64 0, .int .i64 0, .int .i64 255, .int .i64 pc, .bool false, .bool false, .bool false, .bool true, .bool false, .int .i64 0, .int .i64 0, .bool false, .int .i64 0, .bool false, .int .i64 0, .int .i64 0, .slice none 0 0, .int .i64 0, .int .i64 0, .int .i64 0, .int .i64 0, .int .i64 0, .bool false, .slice none 0 0, .slice none 0 0, .int .i64 0, .slice none 0 0, .slice none 0 0, .int .i64 0, .int .i64 0, .int .i64 0, .int .i64 0, .int .i64 0, .bool false, .bool false, .int .i64 0, .slice none 0 0, .slice none 0 0] := v8
    have s9 : a'.tmps[8]?.getD undef = .pointer (some ⟨bx, 0, none⟩) := v9
    refine wp_store_row _ _ _ rfl bx #[.slice b0 m e0, .slice (some ⟨g1, 0, none⟩) np y1, .slice b2 512 e2, .int .i64 0, .int .i64 0, .int .i64 0, .int .i64 255, .int .i64 pc, .bool false, .bool false, .bool false, .bool true, .bool false, .int .i64 0, .int .i64 0, .bool false, .int .i64 0, .bool false, .int .i64 0, .int .i64 0, .slice none 0 0, .int .i64 0, .int .i64 0, .int .i64 0, .int .i64 0, .int .i64 0, .bool false, .slice none 0 0, .slice none 0 0, .int .i64 0, .slice none 0 0, .slice none 0 0, .int .i64 0, .int .i64 0, .int .i64 0, .int .i64 0, .int .i64 0, .bool false, .bool false, .int .i64 0, .slice none 0 0, .slice none 0 0] (by simpa [Act.eval] using s9) (by simpa [Act.eval] using s8) _ _ rX infoSplit rfl (by first | kernel_rfl | simp [Value.oneCell']) ?_
    refine hK _ _ ?_
    have hW1 := LN.size
    have WW := wrote_setRowU rX #[.slice b0 m e0, .slice (some ⟨g1, 0, none⟩) np y1, .slice b2 512 e2, .int .i64 0, .int .i64 0, .int .i64 0, .int .i64 255, .int .i64 pc, .bool false, .bool false, .bool false, .bool true, .bool false, .int .i64 0, .int .i64 0, .bool false, .int .i64 0, .bool false, .int .i64 0, .int .i64 0, .slice none 0 0, .int .i64 0, .int .i64 0, .int .i64 0, .int .i64 0, .int .i64 0, .bool false, .slice none 0 0, .slice none 0 0, .int .i64 0, .slice none 0 0, .slice none 0 0, .int .i64 0, .int .i64 0, .int .i64 0, .int .i64 0, .int .i64 0, .bool false, .bool false, .int .i64 0, .slice none 0 0, .slice none 0 0]
    have B6 := setRow_heap _ _ _ #[.slice b0 m e0, .slice (some ⟨g1, 0, none⟩) np y1, .slice b2 512 e2, .int .i64 0, .int .i64 0, .int .i64 0, .int .i64 255, .int .i64 pc, .bool false, .bool false, .bool false, .bool true, .bool false, .int .i64 0, .int .i64 0, .bool false, .int .i64 0, .bool false, .int .i64 0, .int .i64 0, .slice none 0 0, .int .i64 0, .int .i64 0, .int .i64 0, .int .i64 0, .int .i64 0, .bool false, .slice none 0 0, .slice none 0 0, .int .i64 0, .slice none 0 0, .slice none 0 0, .int .i64 0, .int .i64 0, .int .i64 0, .int .i64 0, .int .i64 0, .bool false, .bool false, .int .i64 0, .slice none 0 0, .slice none 0 0] _ _ rX
    have k1' := box_wrote (box_wrote k1 LN (fun _ x => x)) WW (fun o (e : _ = _) => by omega)
    have C1' : Below w.heap.size w (W.setRow bx #[.slice b0 m e0, .slice (some ⟨g1, 0, none⟩) np y1, .slice b2 512 e2, .int .i64 0, .int .i64 0, .int .i64 0, .int .i64 255, .int .i64 pc, .bool false, .bool false, .bool false, .bool true, .bool false, .int .i64 0, .int .i64 0, .bool false, .int .i64 0, .bool false, .int .i64 0, .int .i64 0, .slice none 0 0, .int .i64 0, .int .i64 0, .int .i64 0, .int .i64 0, .int .i64 0, .bool false, .slice none 0 0, .slice none 0 0, .int .i64 0, .slice none 0 0, .slice none 0 0, .int .i64 0, .int .i64 0, .int .i64 0, .int .i64 0, .int .i64 0, .bool false, .bool false, .int .i64 0, .slice none 0 0, .slice none 0 0]) := (L0.trans (LN.below L0.size (fun b o hb h => h))).trans (WW.below (by omega) (fun b o hb (e : b = _) => by omega))
    have hx0 : w.heap.size + 1 < bx := by omega
    have hWs : (W.setRow bx #[.slice b0 m e0, .slice (some ⟨g1, 0, none⟩) np y1, .slice b2 512 e2, .int .i64 0, .int .i64 0, .int .i64 0, .int .i64 255, .int .i64 pc, .bool false, .bool false, .bool false, .bool true, .bool false, .int .i64 0, .int .i64 0, .bool false, .int .i64 0, .bool false, .int .i64 0, .int .i64 0, .slice none 0 0, .int .i64 0, .int .i64 0, .int .i64 0, .int .i64 0, .int .i64 0, .bool false, .slice none 0 0, .slice none 0 0, .int .i64 0, .slice none 0 0, .slice none 0 0, .int .i64 0, .int .i64 0, .int .i64 0, .int .i64 0, .int .i64 0, .bool false, .bool false, .int .i64 0, .slice none 0 0, .slice none 0 0]).heap.size = W.heap.size := by have := WW.size; simp
    have dX := dj 9 1 (by decide) (by decide) (by decide)
    have dY := dj 9 4 (by decide) (by decide) (by decide)
    have dZ := dj 9 5 (by decide) (by decide) (by decide)
    have d14 := dj 1 4 (by decide) (by decide) (by decide)
    have d15 := dj 1 5 (by decide) (by decide) (by decide)
    have d45 := dj 4 5 (by decide) (by decide) (by decide)
    replace G0 := G0.keep WW (fun b o hb _ => awayU dX hb.1 hb.2 x1 x2)
    replace G2 := G2.keep WW (fun b o hb _ => awayU dZ hb.1 hb.2 x1 x2)
    have G1 : ListOn (W.setRow bx #[.slice b0 m e0, .slice (some ⟨g1, 0, none⟩) np y1, .slice b2 512 e2, .int .i64 0, .int .i64 0, .int .i64 0, .int .i64 255, .int .i64 pc, .bool false, .bool false, .bool false, .bool true, .bool false, .int .i64 0, .int .i64 0, .bool false, .int .i64 0, .bool false, .int .i64 0, .int .i64 0, .slice none 0 0, .int .i64 0, .int .i64 0, .int .i64 0, .int .i64 0, .int .i64 0, .bool false, .slice none 0 0, .slice none 0 0, .int .i64 0, .slice none 0 0, .slice none 0 0, .int .i64 0, .int .i64 0, .int .i64 0, .int .i64 0, .int .i64 0, .bool false, .bool false, .int .i64 0, .slice none 0 0, .slice none 0 0]) (fun b => (lo 4 ≤ b ∧ b < hi 4) ∧ (lo 4 ≤ g1 ∧ g1 < hi 4)) (.slice (some ⟨g1, 0, none⟩) np y1) np p := by
      rcases hR1 with h | ⟨h, -⟩
      · exact ⟨_, _, rfl, (R1.keep WW (fun o => awayU dY h.1 h.2 x1 x2)).onD ⟨h, h⟩⟩
      · exact ListOn.zeroU h
    have E1 : S ≤ lo 1 ∧ hi 1 ≤ W.heap.size := ⟨by rw [hS']; exact a1, z1⟩
    have E4 : S ≤ lo 4 ∧ hi 4 ≤ W.heap.size := ⟨by rw [hS']; exact a4, z4⟩
    have E5 : S ≤ lo 5 ∧ hi 5 ≤ W.heap.size := ⟨by rw [hS']; exact a5, z5⟩
    have Ex : W0.heap.size ≤ bx := by omega
    have Ex2 : bx < W.heap.size := by omega
    rw [F'.same, show slotsOf [some 9, some 10, some 11, some 12, some 13, some 14, some 15, some 16, some 17, some 8, none] = [9, 10, 11, 12, 13, 14, 15, 16, 17, 8] from rfl]
    simp only [List.foldl_cons, List.foldl_nil]
    rw [s9]
    generalize a'.tmps[9]?.getD undef = t9
    generalize a'.tmps[10]?.getD undef = t10
    generalize a'.tmps[11]?.getD undef = t11
    generalize a'.tmps[12]?.getD undef = t12
    generalize a'.tmps[13]?.getD undef = t13
    generalize a'.tmps[14]?.getD undef = t14
    generalize a'.tmps[15]?.getD undef = t15
    generalize a'.tmps[16]?.getD undef = t16
    generalize a'.tmps[17]?.getD undef = t17
    have hW4 : W.heap.size = W.heap.size := rfl
    clear hφ hdj dj v1 v4 v5 v8 v9 F' L LN k0 k1 H K L0 HC rX s8 s9 R1 hR1 WW hW1 hW4 a1 a4 a5 a9 c1 c4 c5 c9 z1 z4 z5 z9
    obtain ⟨N1, hN1⟩ : ∃ z, Hid (z = W.heap.size) := ⟨_, rfl⟩
    rw [← hN1.out] at hWs E1 E4 E5 Ex2
    generalize W.setRow bx #[.slice b0 m e0, .slice (some ⟨g1, 0, none⟩) np y1, .slice b2 512 e2, .int .i64 0, .int .i64 0, .int .i64 0, .int .i64 255, .int .i64 pc, .bool false, .bool false, .bool false, .bool true, .bool false, .int .i64 0, .int .i64 0, .bool false, .int .i64 0, .bool false, .int .i64 0, .int .i64 0, .slice none 0 0, .int .i64 0, .int .i64 0, .int .i64 0, .int .i64 0, .int .i64 0, .bool false, .slice none 0 0, .slice none 0 0, .int .i64 0, .slice none 0 0, .slice none 0 0, .int .i64 0, .int .i64 0, .int .i64 0, .int .i64 0, .int .i64 0, .bool false, .bool false, .int .i64 0, .slice none 0 0, .slice none 0 0] = W1 at *
    clear hN1
    refine hKK _ _ ?_
    clear hKK
    go_simp
    go_wp2_with fail
    refine (specPpuNew W1).mono ?_
    rintro e W2 ⟨q8, rfl, R8, LB⟩
    obtain ⟨P1, hP1⟩ : ∃ z, Hid (z = W1.heap.size) := ⟨_, rfl⟩
    obtain ⟨P2, hP2⟩ : ∃ z, Hid (z = W2.heap.size) := ⟨_, rfl⟩
    have G3 : PpuOn W2 (fun b => P1 ≤ b ∧ b < P2) (.agg #[.int .i64 0, .int .i64 0, .int .i64 0, .int .i64 0, .int .i64 0, .bool false, .slice (some ⟨q8, 0, none⟩) 16 16, .slice none 0 0]) 0 0 0 0 0 false 16 (fun _ => 0) 0 (fun _ => 0) := ⟨_, _, _, _, rfl, R8.onD ⟨by rw [hP1.out]; exact R8.parts.1, by rw [hP2.out]; exact R8.parts.2.1⟩, SlOn.zero _ _, fun b o _ h => absurd h (foot_none _ _ _)⟩
    have hPN : N1 = P1 := by rw [hP1.out]; exact hWs.symm
    have hP12 : P1 ≤ P2 := by rw [hP1.out, hP2.out]; exact LB.size
    replace C1' := below_snoc C1' LB
    replace k1' := box_keep k1' LB (boxLt k1')
    replace B6 := box_keep B6 LB (boxLt B6)
    replace G0 := G0.below LB
    replace G1 := G1.below LB
    replace G2 := G2.below LB
    clear R8 LB hP1 hWs
    have c6 := boxC B6
    have f6 := boxF B6
    go_upto_region 3 with (fail)
    clear c6 f6
    have TT := Wrote.setCell (b := bx) (o := 31) (R := fun b _ => b = bx) (Wrote.setCell (b := bx) (o := 30) (R := fun b _ => b = bx) (Wrote.setCell (b := bx) (o := 29) (R := fun b _ => b = bx) (Wrote.setCell (b := bx) (o := 28) (R := fun b _ => b = bx) (Wrote.setCell (b := bx) (o := 27) (R := fun b _ => b = bx) (Wrote.setCell (b := bx) (o := 26) (R := fun b _ => b = bx) (Wrote.setCell (b := bx) (o := 25) (R := fun b _ => b = bx) (Wrote.setCell (b := bx) (o := 24) (R := fun b _ => b = bx) (Wrote.setCell (b := bx) (o := 23) (R := fun b _ => b = bx) (Wrote.setCell (b := bx) (o := 22) (R := fun b _ => b = bx) (Wrote.setCell (b := bx) (o := 21) (R := fun b _ => b = bx) (Wrote.refl _ W2) (fun _ => rfl) (.int .i64 0)) (fun _ => rfl) (.int .i64 0)) (fun _ => rfl) (.int .i64 0)) (fun _ => rfl) (.int .i64 0)) (fun _ => rfl) (.int .i64 0)) (fun _ => rfl) (.bool false)) (fun _ => rfl) (.slice (some ⟨q8, 0, none⟩) 16 16)) (fun _ => rfl) (.slice none 0 0)) (fun _ => rfl) (.int .i64 cap)) (fun _ => rfl) (.slice none 0 0)) (fun _ => rfl) (.slice none 0 0)
    replace C1' := C1'.trans (TT.below C1'.size (fun b o hb (h : b = _) => by omega))
    replace k1' := box_wrote k1' TT (fun o (h : _ = _) => by omega)
    replace B6 := box_set (o := 21) B6 (.int .i64 0)
    replace B6 := box_set (o := 22) B6 (.int .i64 0)
    replace B6 := box_set (o := 23) B6 (.int .i64 0)
    replace B6 := box_set (o := 24) B6 (.int .i64 0)
    replace B6 := box_set (o := 25) B6 (.int .i64 0)
    replace B6 := box_set (o := 26) B6 (.bool false)
    replace B6 := box_set (o := 27) B6 (.slice (some ⟨q8, 0, none⟩) 16 16)
    replace B6 := box_set (o := 28) B6 (.slice none 0 0)
    replace B6 := box_set (o := 29) B6 (.int .i64 cap)
    replace B6 := box_set (o := 30) B6 (.slice none 0 0)
    replace B6 := box_set (o := 31) B6 (.slice none 0 0)
    simp only [List.setIfInBounds_toArray, List.set_cons_succ, List.set_cons_zero] at B6
    replace G0 := G0.keep TT (fun b o hb _ (h : b = _) => awayU dX hb.1 hb.2 x1 x2 h)
    replace G1 := G1.keep TT (fun b o hb _ (h : b = _) => awayU dY hb.1.1 hb.1.2 x1 x2 h)
    replace G2 := G2.keep TT (fun b o hb _ (h : b = _) => awayU dZ hb.1 hb.2 x1 x2 h)
    replace G3 := G3.keep TT (fun b o hb _ (h : b = _) => by obtain ⟨h1, h2⟩ := hb; omega)
    replace hP2 : Hid (P2 = (((((((((((W2.setCell ⟨bx, 21, none⟩ (.int .i64 0)).setCell ⟨bx, 22, none⟩ (.int .i64 0)).setCell ⟨bx, 23, none⟩ (.int .i64 0)).setCell ⟨bx, 24, none⟩ (.int .i64 0)).setCell ⟨bx, 25, none⟩ (.int .i64 0)).setCell ⟨bx, 26, none⟩ (.bool false)).setCell ⟨bx, 27, none⟩ (.slice (some ⟨q8, 0, none⟩) 16 16)).setCell ⟨bx, 28, none⟩ (.slice none 0 0)).setCell ⟨bx, 29, none⟩ (.int .i64 cap)).setCell ⟨bx, 30, none⟩ (.slice none 0 0)).setCell ⟨bx, 31, none⟩ (.slice none 0 0)).heap.size) := by show _ = _; rw [hP2.out]; simp
    clear TT
    generalize ((((((((((W2.setCell ⟨bx, 21, none⟩ (.int .i64 0)).setCell ⟨bx, 22, none⟩ (.int .i64 0)).setCell ⟨bx, 23, none⟩ (.int .i64 0)).setCell ⟨bx, 24, none⟩ (.int .i64 0)).setCell ⟨bx, 25, none⟩ (.int .i64 0)).setCell ⟨bx, 26, none⟩ (.bool false)).setCell ⟨bx, 27, none⟩ (.slice (some ⟨q8, 0, none⟩) 16 16)).setCell ⟨bx, 28, none⟩ (.slice none 0 0)).setCell ⟨bx, 29, none⟩ (.int .i64 cap)).setCell ⟨bx, 30, none⟩ (.slice none 0 0)).setCell ⟨bx, 31, none⟩ (.slice none 0 0) = W3 at *
    have c6 := boxC B6
    have f6 := boxF B6
    go_upto_region 4 with (fail)
    clear c6 f6
    have TT := Wrote.setCell (b := bx) (o := 41) (R := fun b _ => b = bx) (Wrote.setCell (b := bx) (o := 40) (R := fun b _ => b = bx) (Wrote.setCell (b := bx) (o := 39) (R := fun b _ => b = bx) (Wrote.setCell (b := bx) (o := 38) (R := fun b _ => b = bx) (Wrote.setCell (b := bx) (o := 37) (R := fun b _ => b = bx) (Wrote.setCell (b := bx) (o := 36) (R := fun b _ => b = bx) (Wrote.setCell (b := bx) (o := 35) (R := fun b _ => b = bx) (Wrote.setCell (b := bx) (o := 34) (R := fun b _ => b = bx) (Wrote.setCell (b := bx) (o := 33) (R := fun b _ => b = bx) (Wrote.setCell (b := bx) (o := 32) (R := fun b _ => b = bx) (Wrote.refl _ W3) (fun _ => rfl) (.int .i64 0)) (fun _ => rfl) (.int .i64 0)) (fun _ => rfl) (.int .i64 0)) (fun _ => rfl) (.int .i64 0)) (fun _ => rfl) (.int .i64 0)) (fun _ => rfl) (.bool false)) (fun _ => rfl) (.bool false)) (fun _ => rfl) (.int .i64 cap)) (fun _ => rfl) (.slice none 0 0)) (fun _ => rfl) (.slice none 0 0)
    replace C1' := C1'.trans (TT.below C1'.size (fun b o hb (h : b = _) => by omega))
    replace k1' := box_wrote k1' TT (fun o (h : _ = _) => by omega)
    replace B6 := box_set (o := 32) B6 (.int .i64 0)
    replace B6 := box_set (o := 33) B6 (.int .i64 0)
    replace B6 := box_set (o := 34) B6 (.int .i64 0)
    replace B6 := box_set (o := 35) B6 (.int .i64 0)
    replace B6 := box_set (o := 36) B6 (.int .i64 0)
    replace B6 := box_set (o := 37) B6 (.bool false)
    replace B6 := box_set (o := 38) B6 (.bool false)
    replace B6 := box_set (o := 39) B6 (.int .i64 cap)
    replace B6 := box_set (o := 40) B6 (.slice none 0 0)
    replace B6 := box_set (o := 41) B6 (.slice none 0 0)
    simp only [List.setIfInBounds_toArray, List.set_cons_succ, List.set_cons_zero] at B6
    replace G0 := G0.keep TT (fun b o hb _ (h : b = _) => awayU dX hb.1 hb.2 x1 x2 h)
    replace G1 := G1.keep TT (fun b o hb _ (h : b = _) => awayU dY hb.1.1 hb.1.2 x1 x2 h)
    replace G2 := G2.keep TT (fun b o hb _ (h : b = _) => awayU dZ hb.1 hb.2 x1 x2 h)
    replace G3 := G3.keep TT (fun b o hb _ (h : b = _) => by obtain ⟨h1, h2⟩ := hb; omega)
    replace hP2 : Hid (P2 = ((((((((((W3.setCell ⟨bx, 32, none⟩ (.int .i64 0)).setCell ⟨bx, 33, none⟩ (.int .i64 0)).setCell ⟨bx, 34, none⟩ (.int .i64 0)).setCell ⟨bx, 35, none⟩ (.int .i64 0)).setCell ⟨bx, 36, none⟩ (.int .i64 0)).setCell ⟨bx, 37, none⟩ (.bool false)).setCell ⟨bx, 38, none⟩ (.bool false)).setCell ⟨bx, 39, none⟩ (.int .i64 cap)).setCell ⟨bx, 40, none⟩ (.slice none 0 0)).setCell ⟨bx, 41, none⟩ (.slice none 0 0)).heap.size) := by show _ = _; rw [hP2.out]; simp
    clear TT
    generalize (((((((((W3.setCell ⟨bx, 32, none⟩ (.int .i64 0)).setCell ⟨bx, 33, none⟩ (.int .i64 0)).setCell ⟨bx, 34, none⟩ (.int .i64 0)).setCell ⟨bx, 35, none⟩ (.int .i64 0)).setCell ⟨bx, 36, none⟩ (.int .i64 0)).setCell ⟨bx, 37, none⟩ (.bool false)).setCell ⟨bx, 38, none⟩ (.bool false)).setCell ⟨bx, 39, none⟩ (.int .i64 cap)).setCell ⟨bx, 40, none⟩ (.slice none 0 0)).setCell ⟨bx, 41, none⟩ (.slice none 0 0) = W4 at *
    have DD : Hid (∃ D, SplitOn W4 D (.agg #[.slice b0 m e0, .slice (some ⟨g1, 0, none⟩) np y1, .slice b2 512 e2, .int .i64 0, .int .i64 0, .int .i64 0, .int .i64 255, .int .i64 pc, .bool false, .bool false, .bool false, .bool true, .bool false, .int .i64 0, .int .i64 0, .bool false, .int .i64 0, .bool false, .int .i64 0, .int .i64 0, .slice none 0 0, .int .i64 0, .int .i64 0, .int .i64 0, .int .i64 0, .int .i64 0, .bool false, .slice (some ⟨q8, 0, none⟩) 16 16, .slice none 0 0, .int .i64 cap, .slice none 0 0, .slice none 0 0, .int .i64 0, .int .i64 0, .int .i64 0, .int .i64 0, .int .i64 0, .bool false, .bool false, .int .i64 cap, .slice none 0 0, .slice none 0 0]) d ∧ Dis D ∧ ∀ i b, D i b → S ≤ b ∧ b < W4.heap.size) := by
      show ∃ D, _
      rw [hd.out]
      refine ⟨D5 (lo 1) (hi 1) (lo 4) (hi 4) g1 (lo 5) (hi 5) P1 P2, newS_on hpc.out (G0.mono (fun b _ h => Or.inl ⟨rfl, h⟩)) (G1.mono (fun b _ h => Or.inr (Or.inl ⟨rfl, h⟩))) (G2.mono (fun b _ h => Or.inr (Or.inr (Or.inl ⟨rfl, h⟩)))) (G3.mono (fun b _ h => Or.inr (Or.inr (Or.inr ⟨rfl, h⟩)))), D5.dis d14 d15 d45 (by omega) (by omega) (by omega), D5.bd ⟨E1.1, by rw [← hP2.out]; omega⟩ ⟨E4.1, by rw [← hP2.out]; omega⟩ ⟨E5.1, by rw [← hP2.out]; omega⟩ ⟨by omega, by rw [← hP2.out]; omega⟩⟩
    obtain ⟨cN, hcN⟩ : ∃ c : Array Value, Hid (c = #[.slice b0 m e0, .slice (some ⟨g1, 0, none⟩) np y1, .slice b2 512 e2, .int .i64 0, .int .i64 0, .int .i64 0, .int .i64 255, .int .i64 pc, .bool false, .bool false, .bool false, .bool true, .bool false, .int .i64 0, .int .i64 0, .bool false, .int .i64 0, .bool false, .int .i64 0, .int .i64 0, .slice none 0 0, .int .i64 0, .int .i64 0, .int .i64 0, .int .i64 0, .int .i64 0, .bool false, .slice (some ⟨q8, 0, none⟩) 16 16, .slice none 0 0, .int .i64 cap, .slice none 0 0, .slice none 0 0, .int .i64 0, .int .i64 0, .int .i64 0, .int .i64 0, .int .i64 0, .bool false, .bool false, .int .i64 cap, .slice none 0 0, .slice none 0 0]) := ⟨_, rfl⟩
    have sN : cN.size = 42 := by rw [hcN.out]; rfl
    have oneN : cN.all (·.oneCell') = true := by rw [hcN.out]; first | kernel_rfl | simp [Value.oneCell']
    rw [← hcN.out] at B6 DD
    obtain ⟨D, HL, dis, bd⟩ := DD.out
    clear DD hcN G0 G1 G2 G3
    have SN := hide sN
    clear sN
    refine wp_region_lit ?_
    refine wpList_load_row rfl _ _ rfl (bx) rfl _ _ _ _ B6 Tryz.underlying46 rfl (infoAtU infoSplit SN.out) ?_
    go_wp2_with fail
    refine (specSplitOk _ D _ d HL).mono ?_
    rintro e W5 ⟨rfl, LB⟩
    replace C1' := below_snoc C1' LB
    replace k1' := box_keep k1' LB (boxLt k1')
    replace B6 := box_keep B6 LB (boxLt B6)
    replace HL := HL.below LB
    have l23 := LB.size
    clear LB
    cases hok : okSplit d
    · go_upto_region 5 with (fail)
      rename_i K2 hK2
      refine wp_region_lit ?_
      refine wpList_plain rfl (fun K3 hK3 => ?_)
      go_simp
      refine hK3 _ _ ?_
      clear hK3
      refine wpList_store_row rfl _ _ _ rfl (w.heap.size + 1) #[.slice none 0 0, .slice none 0 0, .slice none 0 0, .int .i64 0, .int .i64 0, .int .i64 0, .int .i64 0, .int .i64 0, .bool false, .bool false, .bool false, .bool false, .bool false, .int .i64 0, .int .i64 0, .bool false, .int .i64 0, .bool false, .int .i64 0, .int .i64 0, .slice none 0 0, .int .i64 0, .int .i64 0, .int .i64 0, .int .i64 0, .int .i64 0, .bool false, .slice none 0 0, .slice none 0 0, .int .i64 0, .slice none 0 0, .slice none 0 0, .int .i64 0, .int .i64 0, .int .i64 0, .int .i64 0, .int .i64 0, .bool false, .bool false, .int .i64 0, .slice none 0 0, .slice none 0 0] rfl rfl _ _ k1' infoSplit rfl (by first | kernel_rfl | simp [Value.oneCell']) ?_
      have B3 := setRow_heap _ _ _ #[.slice none 0 0, .slice none 0 0, .slice none 0 0, .int .i64 0, .int .i64 0, .int .i64 0, .int .i64 0, .int .i64 0, .bool false, .bool false, .bool false, .bool false, .bool false, .int .i64 0, .int .i64 0, .bool false, .int .i64 0, .bool false, .int .i64 0, .int .i64 0, .slice none 0 0, .int .i64 0, .int .i64 0, .int .i64 0, .int .i64 0, .int .i64 0, .bool false, .slice none 0 0, .slice none 0 0, .int .i64 0, .slice none 0 0, .slice none 0 0, .int .i64 0, .int .i64 0, .int .i64 0, .int .i64 0, .int .i64 0, .bool false, .bool false, .int .i64 0, .slice none 0 0, .slice none 0 0] _ _ k1'
      have WW := wrote_setRowU k1' #[.slice none 0 0, .slice none 0 0, .slice none 0 0, .int .i64 0, .int .i64 0, .int .i64 0, .int .i64 0, .int .i64 0, .bool false, .bool false, .bool false, .bool false, .bool false, .int .i64 0, .int .i64 0, .bool false, .int .i64 0, .bool false, .int .i64 0, .int .i64 0, .slice none 0 0, .int .i64 0, .int .i64 0, .int .i64 0, .int .i64 0, .int .i64 0, .bool false, .slice none 0 0, .slice none 0 0, .int .i64 0, .slice none 0 0, .slice none 0 0, .int .i64 0, .int .i64 0, .int .i64 0, .int .i64 0, .int .i64 0, .bool false, .bool false, .int .i64 0, .slice none 0 0, .slice none 0 0]
      have LL := hide (C1'.trans (WW.below C1'.size (fun b o hb (e : b = _) => by omega)))
      clear WW HL C1' B6 k1'
      generalize W5.setRow (w.heap.size + 1) #[.slice none 0 0, .slice none 0 0, .slice none 0 0, .int .i64 0, .int .i64 0, .int .i64 0, .int .i64 0, .int .i64 0, .bool false, .bool false, .bool false, .bool false, .bool false, .int .i64 0, .int .i64 0, .bool false, .int .i64 0, .bool false, .int .i64 0, .int .i64 0, .slice none 0 0, .int .i64 0, .int .i64 0, .int .i64 0, .int .i64 0, .int .i64 0, .bool false, .slice none 0 0, .slice none 0 0, .int .i64 0, .slice none 0 0, .slice none 0 0, .int .i64 0, .int .i64 0, .int .i64 0, .int .i64 0, .int .i64 0, .bool false, .bool false, .int .i64 0, .slice none 0 0, .slice none 0 0] = W6 at *
      refine wpList_plain rfl (fun K3 hK3 => ?_)
      go_simp
      refine hK3 _ _ ?_
      clear hK3
      refine hK2 _ _ ?_
      go_wp2
      refine bodyPost_ret (v := .tuple #[.agg #[.slice none 0 0, .slice none 0 0, .slice none 0 0, .int .i64 0, .int .i64 0, .int .i64 0, .int .i64 0, .int .i64 0, .bool false, .bool false, .bool false, .bool false, .bool false, .int .i64 0, .int .i64 0, .bool false, .int .i64 0, .bool false, .int .i64 0, .int .i64 0, .slice none 0 0, .int .i64 0, .int .i64 0, .int .i64 0, .int .i64 0, .int .i64 0, .bool false, .slice none 0 0, .slice none 0 0, .int .i64 0, .slice none 0 0, .slice none 0 0, .int .i64 0, .int .i64 0, .int .i64 0, .int .i64 0, .int .i64 0, .bool false, .bool false, .int .i64 0, .slice none 0 0, .slice none 0 0], .bool false]) (results_row_tmpU Tryz.results6 _ _ (w.heap.size + 1) _ _ _ _ rfl B3 Tryz.underlying46 rfl infoSplit) rfl ?_
      refine ⟨_, rfl, ⟨fun _ _ => False, ?_, fun i j b h => h.elim, fun i b h => h.elim⟩, LL.out⟩
      first | exact zeroS_on | (rw [if_neg (by decide)]; exact zeroS_on)
    · go_upto_region 6 with (fail)
      rename_i K2 hK2
      refine wp_region_lit ?_
      refine wpList_load_row rfl _ _ rfl (bx) rfl _ _ _ _ B6 Tryz.underlying46 rfl (infoAtU infoSplit SN.out) ?_
      refine wpList_store_row rfl _ _ _ rfl (w.heap.size + 1) cN rfl rfl _ _ k1' (infoAtU infoSplit SN.out) (by rw [SN.out]; rfl) oneN ?_
      have B3 := setRow_heap _ _ _ cN _ _ k1'
      have WW := wrote_setRowU k1' cN
      have OO := hide (HL.keep WW (fun i b o h _ (e : b = _) => by have := bd _ _ h; omega))
      have LL := hide (C1'.trans (WW.below C1'.size (fun b o hb (e : b = _) => by omega)))
      have hz := WW.size
      clear WW HL C1' B6
      generalize W5.setRow (w.heap.size + 1) cN = W6 at *
      refine wpList_plain rfl (fun K3 hK3 => ?_)
      go_simp
      refine hK3 _ _ ?_
      clear hK3
      refine hK2 _ _ ?_
      go_wp2
      refine bodyPost_ret (v := .tuple #[.agg cN, .bool true]) (results_row_tmpU Tryz.results6 _ _ (w.heap.size + 1) _ _ _ _ rfl B3 Tryz.underlying46 rfl (infoAtU infoSplit SN.out)) rfl ?_
      refine ⟨_, rfl, ⟨D, ?_, dis, fun i b h => ?_⟩, LL.out⟩
      · first | exact OO.out | (rw [if_pos rfl]; exact OO.out)
      · have := bd _ _ h
        omega
end Go.Proofs.YtjcaligejlhjdaaGreat
