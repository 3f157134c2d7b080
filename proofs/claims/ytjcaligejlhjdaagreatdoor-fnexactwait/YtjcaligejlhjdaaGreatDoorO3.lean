/-
  Arguments opened: what the reading of a list of records says of memory.
-/
import Derived.Test.YtjcaligejlhjdaaGreatDoorO
import Derived.Test.YtjcaligejlhjdaaGreatDoorRA
import Derived.Lib.QuietBelow
import Derived.BigQuiet
import Derived.Deep.DeepCutAuto
namespace Go.Proofs.YtjcaligejlhjdaaGreatDoor
set_option maxRecDepth 20000
open Go.ChangeShapes Go.WideShapes Go.ChangeAt Go.RowKit
section
variable {H : Type} {enc : TypeId × Value → H} {P : Program} {w : World} {base : Nat} {spare : Nat → Bool} {held : Bool}
theorem addN (b off j : Nat) : (⟨b, off, none⟩ : Addr).add j = ⟨b, off + j, none⟩ := by
  unfold Addr.add
  split
  · rename_i h0
    subst h0
    rfl
  · rfl
theorem cells3 {a : Addr} {cs : List Value} (h : w.cells? base a 3 = some cs) : ∃ u0 u1 u2, cs = [u0, u1, u2] ∧ w.cell? a = some u0 ∧ w.cell? (a.add 1) = some u1 ∧ w.cell? (a.add 2) = some u2 := by
  unfold World.cells? at h
  split at h
  · have e0 : a.add 0 = a := by simp [Addr.add]
    cases h0 : w.cell? a with
    | none => simp [List.range_succ, e0, h0] at h
    | some u0 =>
      cases h1 : w.cell? (a.add 1) with
      | none => simp [List.range_succ, e0, h0, h1] at h
      | some u1 =>
        cases h2 : w.cell? (a.add 2) with
        | none => simp [List.range_succ, e0, h0, h1, h2] at h
        | some u2 =>
          simp [List.range_succ, e0, h0, h1, h2] at h
          exact ⟨u0, u1, u2, h.symm, rfl, rfl, rfl⟩
  · cases h
theorem raw_recs {t e g : TypeId} {fs : Array Field} {fuel : Nat} {cs : List Value} {x : DataW H × List MemPlace} (ht : P.underlying t = some (.slice e)) (he : P.underlying e = some (.struct fs)) (hfs : fs.toList.map (fun f => (f.type, f.offset)) = [(g, 0), (g, 1), (g, 2)]) (hc : P.cellsOf e = 3) (hg : P.underlying g = some (.int .i64)) (hcg : P.cellsOf g = 1)
    (h : DataW.trod enc P w base spare held fuel t cs = some x) :
    ∃ (a : Option Addr) (n cap : Nat) (f : Nat → Int), cs = [.slice a n cap] ∧ n ≤ 9223372036854775807 ∧ n ≤ cap ∧ RowOf .i64 w a (n * 3) f := by
  rcases Deep.open_slice ht h with ⟨rfl, _⟩ | ⟨⟨b, off, spot⟩, n, cap, m, fu, D, Pl, rfl, _, hl, hm, hem, _, hel⟩
  · exact ⟨none, 0, 0, fun _ => 0, rfl, by omega, by omega, fun i hi => absurd hi (Nat.not_lt_zero _)⟩
  · have hnm : n ≤ m := by rw [hem]; split <;> omega
    by_cases hn0 : n = 0
    · exact ⟨some ⟨b, off, spot⟩, n, cap, fun _ => 0, rfl, by unfold maxLen at hm; omega, hl, fun i hi => by omega⟩
    have hs : spot = none := by
      obtain ⟨cs0, h0, _⟩ := hel 0 (by omega)
      rw [hc, Nat.zero_mul] at h0
      obtain ⟨u0, u1, u2, rfl, c0, c1, c2⟩ := cells3 h0
      simpa [Addr.add] using World.cell?_spot c0
    subst hs
    have key : ∀ i, ∃ q : Int × Int × Int, i < n → w.cell? ⟨b, off + i * 3, none⟩ = some (.int .i64 q.1) ∧ w.cell? ⟨b, off + i * 3 + 1, none⟩ = some (.int .i64 q.2.1) ∧ w.cell? ⟨b, off + i * 3 + 2, none⟩ = some (.int .i64 q.2.2) := by
      intro i
      by_cases hi : i < n
      · obtain ⟨csi, h1, h2⟩ := hel i (by omega)
        rw [hc] at h1
        obtain ⟨u0, u1, u2, rfl, c0, c1, c2⟩ := cells3 h1
        obtain ⟨k, -, hF⟩ := trod_fields he h2
        have hj : ∀ j, j < 3 → ∃ f, fs.toList[j]? = some f ∧ f.type = g ∧ f.offset = j := fun j hj => by
          have e1 : (fs.toList.map (fun f => (f.type, f.offset)))[j]? = [(g, 0), (g, 1), (g, 2)][j]? := by rw [hfs]
          rw [List.getElem?_map] at e1
          match j, hj with
          | 0, _ =>
            cases hh : fs.toList[0]? with
            | none => rw [hh] at e1; simp at e1
            | some f => rw [hh] at e1; simp at e1; exact ⟨f, rfl, e1.1, e1.2⟩
          | 1, _ =>
            cases hh : fs.toList[1]? with
            | none => rw [hh] at e1; simp at e1
            | some f => rw [hh] at e1; simp at e1; exact ⟨f, rfl, e1.1, e1.2⟩
          | 2, _ =>
            cases hh : fs.toList[2]? with
            | none => rw [hh] at e1; simp at e1
            | some f => rw [hh] at e1; simp at e1; exact ⟨f, rfl, e1.1, e1.2⟩
        obtain ⟨f0, g0, t0, o0⟩ := hj 0 (by omega)
        obtain ⟨f1, g1, t1, o1⟩ := hj 1 (by omega)
        obtain ⟨f2, g2, t2, o2⟩ := hj 2 (by omega)
        obtain ⟨y0, k0⟩ := hF 0 f0 g0
        obtain ⟨y1, k1⟩ := hF 1 f1 g1
        obtain ⟨y2, k2⟩ := hF 2 f2 g2
        rw [t0, o0, hcg] at k0
        rw [t1, o1, hcg] at k1
        rw [t2, o2, hcg] at k2
        obtain ⟨z0, e0, -⟩ := raw_int hg k0
        obtain ⟨z1, e1, -⟩ := raw_int hg k1
        obtain ⟨z2, e2, -⟩ := raw_int hg k2
        simp at e0 e1 e2
        subst e0
        subst e1
        subst e2
        rw [addN] at c0 c1 c2
        rw [addN] at c1 c2
        exact ⟨(z0, z1, z2), fun _ => ⟨c0, c1, c2⟩⟩
      · exact ⟨(0, 0, 0), fun hh => absurd hh hi⟩
    obtain ⟨q, hq⟩ := Classical.skolem.1 key
    refine ⟨some ⟨b, off, none⟩, n, cap, fun i => if i % 3 = 0 then (q (i / 3)).1 else if i % 3 = 1 then (q (i / 3)).2.1 else (q (i / 3)).2.2, rfl, by unfold maxLen at hm; omega, hl, fun i hi => ?_⟩
    obtain ⟨h0, h1, h2⟩ := hq (i / 3) (by omega)
    refine ⟨b, off, rfl, ?_⟩
    show _ = some (Value.int .i64 (if i % 3 = 0 then (q (i / 3)).1 else if i % 3 = 1 then (q (i / 3)).2.1 else (q (i / 3)).2.2))
    have hm3 : i % 3 = 0 ∨ i % 3 = 1 ∨ i % 3 = 2 := by omega
    rcases hm3 with e | e | e
    · rw [if_pos e, ← h0, show off + i = off + i / 3 * 3 by omega]
    · rw [if_neg (by omega), if_pos e, ← h1, show off + i = off + i / 3 * 3 + 1 by omega]
    · rw [if_neg (by omega), if_neg (by omega), ← h2, show off + i = off + i / 3 * 3 + 2 by omega]
end
end Go.Proofs.YtjcaligejlhjdaaGreatDoor
namespace Go.Proofs.YtjcaligejlhjdaaGreatDoor
set_option linter.unusedVariables false
set_option linter.unusedSimpArgs false
open Go.ChangeShapes Go.WideShapes Go.ChangeAt Go.RowKit Go.Sort
set_option maxHeartbeats 1000000 in
theorem onEqRecS (w : World) (D E : Nat → Prop) (u v : Value) (n : Nat) (f : Nat → Int) (H : RsOn w D u n f) (K : RsOn w E v n f) :
    Calls Tryz.prog 114 #[u, v] w fun e w' => e = .returned (.bool true) ∧ Below w.heap.size w w' := by
  obtain ⟨a, c, rfl, hn, hr, -, -⟩ := H
  obtain ⟨a', c', rfl, -, hr', -, -⟩ := K
  have hnn : ((n : Int) != (n : Int)) = false := by simp
  go_enter Tryz.func114, Tryz.ntmps114
  go_wp2
  go_loopw [5] (fun i wr => ∃ q : Nat, q ≤ n ∧ i = .int .i64 q ∧ Below w.heap.size w wr) (fun i _ => n - (intOf i).toNat)
  case atStart => exact ⟨0, Nat.zero_le _, rfl, Below.refl _ _⟩
  case round =>
    obtain ⟨q, hq, rfl, hL⟩ := hrel
    by_cases hqm : q < n
    · have hqm' : (q : Int) < (n : Int) := by omega
      obtain ⟨b, off, rfl, q0, q1, q2⟩ := hr.rec3 hqm
      obtain ⟨b', off', rfl, p0, p1, p2⟩ := hr'.rec3 hqm
      have hb := block_lt_of_cell q0
      have hb' := block_lt_of_cell p0
      have QC : ∀ {b o : Nat} {v : Value}, b < w.heap.size → w.cell? ⟨b, o, none⟩ = some v → ∀ (d : Nat) (os : Array Obj), (grow (redrawn wr d) os).cell? ⟨b, o, none⟩ = some v := fun {b o v} hp h d os => ((below_regrown wr d os).cell (p := ⟨b, o, none⟩) (Nat.lt_of_lt_of_le hp hL.size)).trans ((hL.cell (p := ⟨b, o, none⟩) hp).trans h)
      have s0 := QC hb q0
      have s1 := QC hb q1
      have s2 := QC hb q2
      have t0 := QC hb' p0
      have t1 := QC hb' p1
      have t2 := QC hb' p2
      have wq : IntKind.i64.wrap (q : Int) = q := by rw [IntKind.wrap_i64]; omega
      clear QC q0 q1 q2 p0 p1 p2
      go_upto_region 6 with (fail)
      refine wp_region_quiet_below (by kernel_rfl) (by kernel_rfl) ?_
      repeat (quiet_step (first | (go_at_call 141; exact Calls.regrown_of (eqRec _ _ _ _))))
      refine wpQuiet_nil ?_
      intro _ hw'
      obtain ⟨⟨dq, osq⟩, hw''⟩ := hw'
      subst hw''
      have C2 := below_snoc hL (below_regrown wr dq osq)
      generalize grow (redrawn wr dq) osq = W2 at *
      clear hL
      go_wp2
      go_roundw
      case rel => exact ⟨q + 1, by omega, by go_num, C2⟩
      case measure => simp [intOf]; omega
    · have hqm' : ¬ (q : Int) < (n : Int) := by omega
      go_wp2
      go_ret
      exact ⟨rfl, hL⟩
/-- A ring in numbers: a cap, and a list of records on blocks of a kind. -/
structure RgOn (W : World) (D : Nat → Prop) (v : Value) (cap : Int) (n : Nat) (f : Nat → Int) : Prop where
  ex : ∃ u, v = .agg #[.int .i64 cap, u] ∧ RsOn W D u n f
section
variable {R : Nat → Nat → Prop} {W W' : World} {D E : Nat → Prop} {v : Value} {cap : Int} {n : Nat} {f : Nat → Int}
theorem RgOn.keep (H : RgOn W D v cap n f) (hw : Wrote R W W') (hd : ∀ b o, D b → b < W.heap.size → ¬ R b o) : RgOn W' D v cap n f := by
  obtain ⟨u, e, h⟩ := H
  exact ⟨u, e, h.keep hw hd⟩
theorem RgOn.below (H : RgOn W D v cap n f) (L : Below W.heap.size W W') : RgOn W' D v cap n f := H.keep (wrote_below L Nowhere) (fun _ _ _ _ x => x)
theorem RgOn.mono (H : RgOn W D v cap n f) (hd : ∀ b, b < W.heap.size → D b → E b) : RgOn W E v cap n f := by
  obtain ⟨u, e, h⟩ := H
  exact ⟨u, e, h.mono hd⟩
theorem RgOn.two (H : RgOn W D v cap n f) : ∃ a c, v = .agg #[.int .i64 cap, .slice a n c] := by
  obtain ⟨u, e, h⟩ := H
  obtain ⟨a, c, rfl⟩ := h.two
  exact ⟨a, c, e⟩
end
theorem onToRing (w : World) (a : Option Addr) (n c : Nat) (cap : Int) (f : Nat → Int) (hn : n ≤ 1048576) (H : RowOf .i64 w a (n * 3) f) :
    Calls Tryz.prog 55 #[.agg #[.int .i64 cap, .slice a n c]] w fun e w' => ∃ v, e = .returned v ∧ RgOn w' (fun b => w.heap.size ≤ b ∧ b < w'.heap.size) v cap n f ∧ Below w.heap.size w w' := by
  have HT := hide (fun W (L : Below w.heap.size w W) => toRecS W a n c f hn (H.keep (wrote_below L Nowhere) (fun _ _ _ x => x)))
  clear H
  have L0 : Below w.heap.size w (((w.alloc (.cells #[.int .i64 cap, .slice a n c] 36)).alloc (.cells #[.int .i64 0, .slice none 0 0] 54)).alloc (.cells #[.int .i64 cap, .slice none 0 0] 54)) := (((Below.refl _ _).alloc (Nat.le_refl _) _).alloc (by simp) _).alloc (by simp; omega) _
  have k1 : (((w.alloc (.cells #[.int .i64 cap, .slice a n c] 36)).alloc (.cells #[.int .i64 0, .slice none 0 0] 54)).alloc (.cells #[.int .i64 cap, .slice none 0 0] 54)).heap[w.heap.size + 1]? = some (.cells #[.int .i64 0, .slice none 0 0] 54 (0, 0)) := boxA (by simpa using box_new (w.alloc (.cells #[.int .i64 cap, .slice a n c] 36)) #[.int .i64 0, .slice none 0 0] 54) _
  have k2 : (((w.alloc (.cells #[.int .i64 cap, .slice a n c] 36)).alloc (.cells #[.int .i64 0, .slice none 0 0] 54)).alloc (.cells #[.int .i64 cap, .slice none 0 0] 54)).heap[w.heap.size + 1 + 1]? = some (.cells #[.int .i64 cap, .slice none 0 0] 54 (0, 0)) := by simpa using box_new ((w.alloc (.cells #[.int .i64 cap, .slice a n c] 36)).alloc (.cells #[.int .i64 0, .slice none 0 0] 54)) #[.int .i64 cap, .slice none 0 0] 54
  go_enter Tryz.func55, Tryz.ntmps55
  go_wp2_with fail
  generalize ((w.alloc (.cells #[.int .i64 cap, .slice a n c] 36)).alloc (.cells #[.int .i64 0, .slice none 0 0] 54)).alloc (.cells #[.int .i64 cap, .slice none 0 0] 54) = W0 at *
  refine (HT.out _ L0).mono ?_
  rintro e W1 ⟨v, rfl, R1, L⟩
  obtain ⟨va, vc, rfl⟩ := R1.two
  have hb2 := boxLt k2
  have C1 := below_snoc L0 L
  replace k1 := box_keep k1 L (boxLt k1)
  replace k2 := box_keep k2 L (boxLt k2)
  have c1 := boxC k1
  have c2 := boxC k2
  have f1 := boxF k1
  have f2 := boxF k2
  have ls := L.size
  have HR := hide R1
  have HC := hide C1
  clear L L0 HT R1 C1
  go_wp2
  refine bodyPost_ret (v := .agg #[.int .i64 cap, .slice va n vc]) (by simp [results, Tryz.results55, go_sem, c1]) rfl ?_
  have fin : ∀ W5, Wrote (fun b _ => b = w.heap.size + 1 ∨ b = w.heap.size + 1 + 1) W1 W5 → ∃ v, Ending.returned (.agg #[.int .i64 cap, .slice va n vc]) = .returned v ∧ RgOn W5 (fun b => w.heap.size ≤ b ∧ b < W5.heap.size) v cap n f ∧ Below w.heap.size w W5 := fun W5 h => ⟨_, rfl, ⟨_, rfl, (HR.out.keep h (fun b o hb _ e => by obtain ⟨h1, h2⟩ := hb; omega)).mono (fun b hb h1 => ⟨by omega, hb⟩)⟩, HC.out.trans (h.below HC.out.size (fun b o hb e => by omega))⟩
  refine fin _ ?_
  repeat (first | with_reducible exact Wrote.refl _ _ | with_reducible refine Wrote.drew ?_ | with_reducible refine Wrote.setCell ?_ (fun _ => by omega) _)
theorem onEqRing (w : World) (D E : Nat → Prop) (u v : Value) (cap : Int) (n : Nat) (f : Nat → Int) (H : RgOn w D u cap n f) (K : RgOn w E v cap n f) :
    Calls Tryz.prog 72 #[u, v] w fun e w' => e = .returned (.bool true) ∧ Below w.heap.size w w' := by
  obtain ⟨x, rfl, h⟩ := H
  obtain ⟨y, rfl, k⟩ := K
  obtain ⟨xa, xc, rfl⟩ := h.two
  obtain ⟨ya, yc, rfl⟩ := k.two
  have L0 : Below w.heap.size w ((w.alloc (.cells #[.int .i64 cap, .slice xa n xc] 54)).alloc (.cells #[.int .i64 cap, .slice ya n yc] 54)) := ((Below.refl _ _).alloc (Nat.le_refl _) _).alloc (by simp) _
  have hcc : (cap != cap) = false := by simp
  have HE := hide (onEqRecS _ _ _ _ _ n f (h.below L0) (k.below L0))
  clear h k
  go_enter Tryz.func72, Tryz.ntmps72
  go_wp2_with fail
  refine HE.out.mono ?_
  rintro e W1 ⟨rfl, L⟩
  have C1 := below_snoc L0 L
  clear L L0 HE
  go_wp2
  go_ret
  exact ⟨rfl, C1⟩
end Go.Proofs.YtjcaligejlhjdaaGreatDoor
