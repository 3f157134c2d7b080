/-
  Chapter 14 of the program by its contracts: copies of its units.
-/
import Derived.Test.YtjcaligejlhjdaaGreatUB
import Derived.Test.YtjcaligejlhjdaaGreatRIb
import Derived.Test.YtjcaligejlhjdaaGreatKIb
import Derived.Test.YtjcaligejlhjdaaGreatI8c
import Derived.Test.YtjcaligejlhjdaaGreatG1
import Derived.Test.YtjcaligejlhjdaaGreatTB
import Derived.Deep.DeepCutAuto
namespace Go.Proofs.YtjcaligejlhjdaaGreat
set_option linter.unusedVariables false
set_option linter.unusedSimpArgs false
open Go.ChangeShapes Go.WideShapes Go.ChangeAt Go.RowKit
theorem cloneRecs (w : World) (ua : Option Addr) (n ucap : Nat) (f : Nat → Int) (un : n ≤ 1048576) (hrow : RowOf .i64 w ua (n * 3) f) :
    Calls Tryz.prog 160 #[.slice ua n ucap] w fun e w' => ∃ v o, e = .returned v ∧ RcAt w' w.heap.size o v n f ∧ Below w.heap.size w w' := by
  have hq : ∀ W : World, (binOp .eql 36 (.slice ua n ucap) (.slice none 0 0)).run Tryz.prog W = .ok (.bool ua.isNone) W := fun W => Lib.run_eql_slice_nil W 36 144 ua n ucap 0 0 Tryz.underlying36
  cases ua with
  | none =>
    have hq' : ∀ W : World, (binOp .eql 36 (.slice none n ucap) (.slice none 0 0)).run Tryz.prog W = .ok (.bool true) W := hq
    clear hq
    have hn : n = 0 := by
      rcases Nat.eq_zero_or_pos n with h | h
      · exact h
      · obtain ⟨b, off, e, -⟩ := hrow 0 (by omega)
        cases e
    subst hn
    clear hrow
    go_enter Tryz.func160, Tryz.ntmps160
    go_wp2
    go_ret
    exact ⟨_, none, rfl, ⟨rfl, rfl⟩, Below.refl _ _⟩
  | some ua =>
    have hq' : ∀ W : World, (binOp .eql 36 (.slice (some ua) n ucap) (.slice none 0 0)).run Tryz.prog W = .ok (.bool false) W := hq
    clear hq
    have L0 : Below w.heap.size w (w.alloc (.cells #[] 144)) := (Below.refl _ _).alloc (Nat.le_refl _) _
    have k0 := box_new w #[] 144
    have HRW := hide (hrow.keep (wrote_below L0 Nowhere) (fun _ _ _ x => x))
    clear hrow
    go_enter Tryz.func160, Tryz.ntmps160
    go_wp2_with (at_builtin; refine wpList_copyR _ rfl _ _ rfl w.heap.size rfl k0 w.heap.size (Nat.le_refl _) (some ua) n ucap f un rfl HRW.out ?_)
    rintro p x W2 R2 L2 hp
    have L3 := L0.trans (L2.mono (by omega))
    have HR := hide R2
    clear L0 L2 R2
    go_wp2
    go_ret
    exact ⟨_, some p, rfl, ⟨_, rfl, HR.out⟩, L3⟩
theorem infoRingR : (Tryz.prog.info? 38).map (·.size) = some 2 := by kernel_rfl
theorem infoSoundR : (Tryz.prog.info? 44).map (·.size) = some 10 := by kernel_rfl
theorem infoPictureR : (Tryz.prog.info? 40).map (·.size) = some 11 := by kernel_rfl
set_option maxRecDepth 40000 in
set_option maxHeartbeats 4000000 in
theorem copyRing (w : World) (cap : Int) (ua : Option Addr) (n ucap : Nat) (f : Nat → Int) (un : n ≤ 1048576) (hrow : RowOf .i64 w ua (n * 3) f) :
    Calls Tryz.prog 137 #[.agg #[.int .i64 cap, .slice ua n ucap]] w fun e w' => ∃ a x, e = .returned (.agg #[.int .i64 cap, .slice a n x]) ∧ RsOn w' (fun b => w.heap.size ≤ b) (.slice a n x) n f ∧ Below w.heap.size w w' := by
  have HRW := hide (fun W (L : Below w.heap.size w W) => cloneRecs W ua n ucap f un (hrow.keep (wrote_below L Nowhere) (fun _ _ _ x => x)))
  clear hrow
  have C0 : Below w.heap.size w ((w.alloc (.cells #[.int .i64 cap, .slice ua n ucap] 38)).alloc (.cells #[.int .i64 0, .slice none 0 0] 38)) := ((Below.refl _ _).alloc (Nat.le_refl _) _).alloc (by simp) _
  have k0 := boxA (box_new w #[.int .i64 cap, .slice ua n ucap] 38) (.cells #[.int .i64 0, .slice none 0 0] 38)
  have kR : ((w.alloc (.cells #[.int .i64 cap, .slice ua n ucap] 38)).alloc (.cells #[.int .i64 0, .slice none 0 0] 38)).heap[w.heap.size + 1]? = some (.cells #[.int .i64 0, .slice none 0 0] 38 (0, 0)) := by simpa using box_new (w.alloc (.cells #[.int .i64 cap, .slice ua n ucap] 38)) #[.int .i64 0, .slice none 0 0] 38
  go_enter Tryz.func137, Tryz.ntmps137
  go_upto_region 1 with (fail)
  generalize ((w.alloc (.cells #[.int .i64 cap, .slice ua n ucap] 38)).alloc (.cells #[.int .i64 0, .slice none 0 0] 38)) = W0 at *
  have hR0 := boxLt kR
  rename_i K1 hK1
  obtain ⟨S, hS⟩ : ∃ S, Hid (S = W0.heap.size) := ⟨_, rfl⟩
  have hSw : w.heap.size + 1 < S := by rw [hS.out]; exact hR0
  refine wp_region_effL 6 [some 3, some 4, some 5, some 6, some 7, some 8, none] (by kernel_rfl) (by kernel_rfl) (by kernel_rfl) (by kernel_rfl) (by kernel_rfl) (by first | (simp [slotsOf]; done) | (simp [slotsOf, Act.put]; done))
    (fun _ => Nowhere)
    (fun i V lo hi W => match i with
      | 0 => V 0 = .pointer (some ⟨w.heap.size, 0, none⟩)
      | 1 => V 1 = .int .i64 cap
      | 2 => V 2 = .pointer (some ⟨w.heap.size, 1, none⟩)
      | 3 => V 3 = .slice ua n ucap
      | 4 => ∃ a x, V 4 = .slice a n x ∧ RsOn W (fun b => S ≤ b) (.slice a n x) n f
      | 5 => ∃ a x, V 4 = .slice a n x ∧ V 5 = .agg #[.int .i64 cap, .slice a n x]
      | _ => True) ?_ ?_ ?_
  · intro i j o V x lo hi W W' hij _ _ ho hnw hlo hhi hW h
    have nw : ∀ k, waitsB o k = true → k ≠ j := fun k hk e => by rw [e, hnw] at hk; cases hk
    match i, ho, hij, nw, h with
    | 0, ho, hij, nw, h => exact (updV_ne V x hij).trans h
    | 1, ho, hij, nw, h => exact (updV_ne V x hij).trans h
    | 2, ho, hij, nw, h => exact (updV_ne V x hij).trans h
    | 3, ho, hij, nw, h => exact (updV_ne V x hij).trans h
    | 4, ho, hij, nw, h => (obtain ⟨a, x', h1, h2⟩ := h; exact ⟨a, x', (updV_ne V x hij).trans h1, h2.keep hW (fun _ _ _ _ x => x)⟩)
    | 5, ho, hij, nw, h => (simp only [List.getElem?_toArray, List.getElem?_cons_zero, List.getElem?_cons_succ, Option.some.injEq] at ho; subst ho; obtain ⟨a, x', h1, h2⟩ := h; exact ⟨a, x', (updV_ne V x (nw 4 (by kernel_rfl))).trans h1, (updV_ne V x hij).trans h2⟩)
    | _ + 6, _, _, _, _ => exact trivial
  · intro i o a' W K8 hin ho F L hw hK
    have LN : Wrote Nowhere W0 W := L.mono (fun b o _ ⟨j, _, _, _, _, h⟩ => h)
    match i with
    | 0 =>
      simp only [List.getElem?_toArray, List.getElem?_cons_zero, List.getElem?_cons_succ, Option.some.injEq] at ho
      subst ho
      have t1 := F.get (t := 1) (v := .pointer (some ⟨w.heap.size, 0, none⟩)) (by decide) rfl
      go_simp
      exact hK _ _ (Wrote.refl _ _) (updV_same _ _ _)
    | 1 =>
      simp only [List.getElem?_toArray, List.getElem?_cons_zero, List.getElem?_cons_succ, Option.some.injEq] at ho
      subst ho
      have q0 : a'.tmps[3]?.getD undef = .pointer (some ⟨w.heap.size, 0, none⟩) := by obtain ⟨_, _, _, _, q⟩ := hw 0 (by kernel_rfl); exact q
      have rb := boxC (box_wrote k0 LN (fun _ x => x))
      go_simp
      exact hK _ _ (Wrote.refl _ _) (updV_same _ _ _)
    | 2 =>
      simp only [List.getElem?_toArray, List.getElem?_cons_zero, List.getElem?_cons_succ, Option.some.injEq] at ho
      subst ho
      have t1 := F.get (t := 1) (v := .pointer (some ⟨w.heap.size, 0, none⟩)) (by decide) rfl
      go_simp
      exact hK _ _ (Wrote.refl _ _) (updV_same _ _ _)
    | 3 =>
      simp only [List.getElem?_toArray, List.getElem?_cons_zero, List.getElem?_cons_succ, Option.some.injEq] at ho
      subst ho
      have q2 : a'.tmps[5]?.getD undef = .pointer (some ⟨w.heap.size, 1, none⟩) := by obtain ⟨_, _, _, _, q⟩ := hw 2 (by kernel_rfl); exact q
      have rb := boxC (box_wrote k0 LN (fun _ x => x))
      go_simp
      exact hK _ _ (Wrote.refl _ _) (updV_same _ _ _)
    | 4 =>
      simp only [List.getElem?_toArray, List.getElem?_cons_zero, List.getElem?_cons_succ, Option.some.injEq] at ho
      subst ho
      have hSN : S ≤ W.heap.size := by rw [hS.out]; exact LN.size
      have q3 : a'.tmps[6]?.getD undef = .slice ua n ucap := by obtain ⟨_, _, _, _, q⟩ := hw 3 (by kernel_rfl); exact q
      go_simp
      refine (HRW.out W (C0.trans (LN.below C0.size (fun _ _ _ x => x)))).mono ?_
      rintro e W' ⟨v, o, rfl, hA, LB⟩
      obtain ⟨a, x, rfl⟩ := hA.two
      exact hK _ _ (wrote_below LB _) ⟨a, x, updV_same _ _ _, hA.on.mono (fun b _ hb => Nat.le_trans hSN hb)⟩
    | 5 =>
      simp only [List.getElem?_toArray, List.getElem?_cons_zero, List.getElem?_cons_succ, Option.some.injEq] at ho
      subst ho
      have q1 : a'.tmps[4]?.getD undef = .int .i64 cap := by obtain ⟨_, _, _, _, q⟩ := hw 1 (by kernel_rfl); exact q
      obtain ⟨_, _, _, _, a, x, q4, -⟩ := hw 4 (by kernel_rfl)
      have q4' : a'.tmps[7]?.getD undef = .slice a n x := q4
      go_simp
      exact hK _ _ (Wrote.refl _ _) ⟨a, x, (updV_ne _ _ (by decide)).trans q4, updV_same _ _ _⟩
    | _ + 6 => omega
  · intro o a' W K8 ho F L lo hi hφ hdj hK
    have LN : Wrote Nowhere W0 W := L.mono (fun b o _ ⟨j, h⟩ => h)
    simp only [List.getElem?_toArray, List.getElem?_cons_zero, List.getElem?_cons_succ, Option.some.injEq] at ho
    subst ho
    obtain ⟨-, -, -, a, x, q4, hA⟩ := hφ 4 (by decide)
    obtain ⟨-, -, -, a2, x2, e4, sB⟩ := hφ 5 (by decide)
    rw [q4] at e4
    simp only [Value.slice.injEq, true_and] at e4
    obtain ⟨rfl, rfl⟩ := e4
    replace sB : a'.tmps[8]?.getD undef = .agg #[.int .i64 cap, .slice a n x] := sB
    refine wp_store_row _ _ _ rfl (w.heap.size + 1) #[.int .i64 cap, .slice a n x] (by simpa [Act.eval] using F.get (t := 2) (v := .pointer (some ⟨w.heap.size + 1, 0, none⟩)) (by decide) rfl) (by simpa [Act.eval] using sB) _ _ (box_wrote kR LN (fun _ x => x)) infoRingR rfl (by first | kernel_rfl | simp [Value.oneCell']) ?_
    refine hK _ _ ?_
    have kE := box_wrote kR LN (fun _ x => x)
    have WW := wrote_setRowU kE #[.int .i64 cap, .slice a n x]
    have kF := setRow_heap _ _ _ #[.int .i64 cap, .slice a n x] _ _ kE
    have CF : Below w.heap.size w (W.setRow (w.heap.size + 1) #[.int .i64 cap, .slice a n x]) := (C0.trans (LN.below C0.size (fun _ _ _ x => x))).trans (WW.below (Nat.le_trans C0.size LN.size) (fun b o hb (e : b = _) => by omega))
    have HF := hide ((hA.keep WW (fun b o (hb : S ≤ b) hlt (e : b = _) => by omega)).mono (E := fun b => w.heap.size ≤ b) (fun b _ (hb : S ≤ b) => by omega))
    clear hA q4
    rw [F.same, show slotsOf [some 3, some 4, some 5, some 6, some 7, some 8, none] = [3, 4, 5, 6, 7, 8] from rfl]
    simp only [List.foldl_cons, List.foldl_nil]
    generalize a'.tmps[3]?.getD undef = g3
    generalize a'.tmps[4]?.getD undef = g4
    generalize a'.tmps[5]?.getD undef = g5
    generalize a'.tmps[6]?.getD undef = g6
    generalize a'.tmps[7]?.getD undef = g7
    generalize a'.tmps[8]?.getD undef = g8
    clear hφ hdj F L LN WW kE hK kR sB
    generalize W.setRow (w.heap.size + 1) #[.int .i64 cap, .slice a n x] = W4 at *
    refine hK1 _ _ ?_
    clear hK1
    go_simp
    go_wp2
    refine bodyPost_ret (v := .agg #[.int .i64 cap, .slice a n x]) (by exact results_cell_row Tryz.results137 _ _ (w.heap.size + 1) _ _ _ _ rfl kF Tryz.underlying38 rfl infoRingR) rfl ?_
    exact ⟨a, x, rfl, HF.out, CF⟩
theorem RowAt.listOnR {W : World} {lo : Nat} {o : Option Nat} {v : Value} {n : Nat} {f : Nat → Int} (h : RowAt W lo o v n f) : ListOn W (fun b => lo ≤ b) v n f := by
  obtain ⟨a, x, e, hS⟩ := h.sl
  refine ⟨a, x, e, hS.small, hS.row, hS.free, fun b k hF => ?_⟩
  have hb := hS.on b k hF
  subst hb
  exact h.lt.1
theorem SA.ssR {W : World} {lo : Nat} {v : Value} {m : Nat} {ob : Nat → Option Nat} {iv ov : Nat → Value} {ln : Nat → Nat} {f : Nat → Nat → Int} (H : SA W lo v m m ob iv ov ln f) (hs : psum ln m ≤ 1099511627776) : SsOn W (fun b => lo ≤ b) v m ln f :=
  H.onD (fun b h => by
    rcases h with h | ⟨i, hi, h⟩
    · exact (own_at H.own h).1
    · have := H.rows i hi
      rw [h] at this
      exact this.lt.1) hs
theorem SsOn.psumR {W : World} {D : Nat → Prop} {u : Value} {m : Nat} {ln : Nat → Nat} {f : Nat → Nat → Int} (h : SsOn W D u m ln f) : psum ln m ≤ 1099511627776 := by
  obtain ⟨ra, rc, ⟨_, _, _, hs⟩, _⟩ := h
  exact hs
/-- A sound unit in new memory, its lists apart. -/
structure SnCp (w w' : World) (v : Value) (d : SnD) : Prop where
  ex : ∃ D, SnOn w' D v d ∧ Dis D ∧ ∀ i b, D i b → w.heap.size ≤ b ∧ b < w'.heap.size
/-- A picture unit in new memory, its lists apart. -/
structure PcCp (w w' : World) (v : Value) (d : PcD) : Prop where
  ex : ∃ D, PcOn w' D v d ∧ Dis D ∧ ∀ i b, D i b → w.heap.size ≤ b ∧ b < w'.heap.size
theorem ListOn.intsR {W : World} {D : Nat → Prop} {u : Value} {n : Nat} {f : Nat → Int} (H : ListOn W D u n f) : Ints .i64 W (On D) u n f := by
  obtain ⟨a, c, rfl, s⟩ := H
  exact s.ints c
set_option maxRecDepth 40000 in
set_option maxHeartbeats 4000000 in
theorem copySound (w : World) (E : Nat → Nat → Prop) (v : Value) (d : SnD) (H : SnOn w E v d) :
    Calls Tryz.prog 100 #[v] w fun e w' => ∃ v', e = .returned v' ∧ SnCp w w' v' d ∧ Below w.heap.size w w' := by
  obtain ⟨u1, u2, rfl, h1, h2⟩ := H
  obtain ⟨s1, c1, rfl, hn1, hrow, -, -⟩ := id h1
  obtain ⟨s2, c2, rfl⟩ := h2.two
  have HRW := hide (fun W (L : Below w.heap.size w W) => copyRing W d.cap s1 d.n c1 d.f hn1.1 (hrow.keep (wrote_below L Nowhere) (fun _ _ _ x => x)))
  have HSM := hide (fun W (L : Below w.heap.size w W) => cloneRow W _ _ d.ns d.sm ((h2.keep (wrote_below L Nowhere) (fun _ _ _ _ x => x)).intsR))
  clear h1 h2 hrow
  have C0 : Below w.heap.size w ((w.alloc (.cells #[.int .i64 d.T, .int .i64 d.P, .int .i64 d.C, .int .i64 d.B, .int .i64 d.L, .bool d.S, .bool d.Q, .int .i64 d.cap, .slice s1 d.n c1, .slice s2 d.ns c2] 44)).alloc (.cells #[.int .i64 0, .int .i64 0, .int .i64 0, .int .i64 0, .int .i64 0, .bool false, .bool false, .int .i64 0, .slice none 0 0, .slice none 0 0] 44)) := ((Below.refl _ _).alloc (Nat.le_refl _) _).alloc (by simp) _
  have k0 := boxA (box_new w #[.int .i64 d.T, .int .i64 d.P, .int .i64 d.C, .int .i64 d.B, .int .i64 d.L, .bool d.S, .bool d.Q, .int .i64 d.cap, .slice s1 d.n c1, .slice s2 d.ns c2] 44) (.cells #[.int .i64 0, .int .i64 0, .int .i64 0, .int .i64 0, .int .i64 0, .bool false, .bool false, .int .i64 0, .slice none 0 0, .slice none 0 0] 44)
  have kR : ((w.alloc (.cells #[.int .i64 d.T, .int .i64 d.P, .int .i64 d.C, .int .i64 d.B, .int .i64 d.L, .bool d.S, .bool d.Q, .int .i64 d.cap, .slice s1 d.n c1, .slice s2 d.ns c2] 44)).alloc (.cells #[.int .i64 0, .int .i64 0, .int .i64 0, .int .i64 0, .int .i64 0, .bool false, .bool false, .int .i64 0, .slice none 0 0, .slice none 0 0] 44)).heap[w.heap.size + 1]? = some (.cells #[.int .i64 0, .int .i64 0, .int .i64 0, .int .i64 0, .int .i64 0, .bool false, .bool false, .int .i64 0, .slice none 0 0, .slice none 0 0] 44 (0, 0)) := by simpa using box_new (w.alloc (.cells #[.int .i64 d.T, .int .i64 d.P, .int .i64 d.C, .int .i64 d.B, .int .i64 d.L, .bool d.S, .bool d.Q, .int .i64 d.cap, .slice s1 d.n c1, .slice s2 d.ns c2] 44)) #[.int .i64 0, .int .i64 0, .int .i64 0, .int .i64 0, .int .i64 0, .bool false, .bool false, .int .i64 0, .slice none 0 0, .slice none 0 0] 44
  go_enter Tryz.func100, Tryz.ntmps100
  go_upto_region 1 with (fail)
  generalize ((w.alloc (.cells #[.int .i64 d.T, .int .i64 d.P, .int .i64 d.C, .int .i64 d.B, .int .i64 d.L, .bool d.S, .bool d.Q, .int .i64 d.cap, .slice s1 d.n c1, .slice s2 d.ns c2] 44)).alloc (.cells #[.int .i64 0, .int .i64 0, .int .i64 0, .int .i64 0, .int .i64 0, .bool false, .bool false, .int .i64 0, .slice none 0 0, .slice none 0 0] 44)) = W0 at *
  have hR0 := boxLt kR
  rename_i K1 hK1
  refine wp_region_effL 9 [some 3, some 4, some 5, some 6, some 7, some 8, some 9, some 10, some 11, none] (by kernel_rfl) (by kernel_rfl) (by kernel_rfl) (by kernel_rfl) (by kernel_rfl) (by first | (simp [slotsOf]; done) | (simp [slotsOf, Act.put]; done))
    (fun _ => Nowhere)
    (fun i V lo hi W => match i with
      | 0 => V 0 = .pointer (some ⟨w.heap.size, 0, none⟩)
      | 1 => V 1 = .agg #[.int .i64 d.T, .int .i64 d.P, .int .i64 d.C, .int .i64 d.B, .int .i64 d.L, .bool d.S, .bool d.Q]
      | 2 => V 2 = .pointer (some ⟨w.heap.size, 7, none⟩)
      | 3 => V 3 = .agg #[.int .i64 d.cap, .slice s1 d.n c1]
      | 4 => ∃ a x, V 4 = .agg #[.int .i64 d.cap, .slice a d.n x] ∧ RsOn W (fun b => lo ≤ b ∧ b < hi) (.slice a d.n x) d.n d.f
      | 5 => V 5 = .pointer (some ⟨w.heap.size, 9, none⟩)
      | 6 => V 6 = .slice s2 d.ns c2
      | 7 => ∃ a x, V 7 = .slice a d.ns x ∧ ListOn W (fun b => lo ≤ b ∧ b < hi) (.slice a d.ns x) d.ns d.sm
      | 8 => ∃ a x b y, V 4 = .agg #[.int .i64 d.cap, .slice a d.n x] ∧ V 7 = .slice b d.ns y ∧ V 8 = .agg #[.int .i64 d.T, .int .i64 d.P, .int .i64 d.C, .int .i64 d.B, .int .i64 d.L, .bool d.S, .bool d.Q, .int .i64 d.cap, .slice a d.n x, .slice b d.ns y]
      | _ => True) ?_ ?_ ?_
  · intro i j o V x lo hi W W' hij _ _ ho hnw hlo hhi hW h
    have nw : ∀ k, waitsB o k = true → k ≠ j := fun k hk e => by rw [e, hnw] at hk; cases hk
    match i, ho, hij, nw, h with
    | 0, ho, hij, nw, h => exact (updV_ne V x hij).trans h
    | 1, ho, hij, nw, h => exact (updV_ne V x hij).trans h
    | 2, ho, hij, nw, h => exact (updV_ne V x hij).trans h
    | 3, ho, hij, nw, h => exact (updV_ne V x hij).trans h
    | 4, ho, hij, nw, h => (obtain ⟨a, x', h1, h2⟩ := h; exact ⟨a, x', (updV_ne V x hij).trans h1, h2.keep hW (fun _ _ _ _ x => x)⟩)
    | 5, ho, hij, nw, h => exact (updV_ne V x hij).trans h
    | 6, ho, hij, nw, h => exact (updV_ne V x hij).trans h
    | 7, ho, hij, nw, h => (obtain ⟨a, x', h1, h2⟩ := h; exact ⟨a, x', (updV_ne V x hij).trans h1, h2.keep hW (fun _ _ _ _ x => x)⟩)
    | 8, ho, hij, nw, h => (simp only [List.getElem?_toArray, List.getElem?_cons_zero, List.getElem?_cons_succ, Option.some.injEq] at ho; subst ho; obtain ⟨a, x', b, y, h1, h2, h3⟩ := h; exact ⟨a, x', b, y, (updV_ne V x (nw 4 (by kernel_rfl))).trans h1, (updV_ne V x (nw 7 (by kernel_rfl))).trans h2, (updV_ne V x hij).trans h3⟩)
    | _ + 9, _, _, _, _ => exact trivial
  · intro i o a' W K8 hin ho F L hw hK
    have LN : Wrote Nowhere W0 W := L.mono (fun b o _ ⟨j, _, _, _, _, h⟩ => h)
    match i with
    | 0 =>
      simp only [List.getElem?_toArray, List.getElem?_cons_zero, List.getElem?_cons_succ, Option.some.injEq] at ho
      subst ho
      have t1 := F.get (t := 1) (v := .pointer (some ⟨w.heap.size, 0, none⟩)) (by decide) rfl
      go_simp
      exact hK _ _ (Wrote.refl _ _) (updV_same _ _ _)
    | 1 =>
      simp only [List.getElem?_toArray, List.getElem?_cons_zero, List.getElem?_cons_succ, Option.some.injEq] at ho
      subst ho
      have q0 : a'.tmps[3]?.getD undef = .pointer (some ⟨w.heap.size, 0, none⟩) := by obtain ⟨_, _, _, _, q⟩ := hw 0 (by kernel_rfl); exact q
      have rb := boxC (box_wrote k0 LN (fun _ x => x))
      go_simp
      exact hK _ _ (Wrote.refl _ _) (updV_same _ _ _)
    | 2 =>
      simp only [List.getElem?_toArray, List.getElem?_cons_zero, List.getElem?_cons_succ, Option.some.injEq] at ho
      subst ho
      have t1 := F.get (t := 1) (v := .pointer (some ⟨w.heap.size, 0, none⟩)) (by decide) rfl
      go_simp
      exact hK _ _ (Wrote.refl _ _) (updV_same _ _ _)
    | 3 =>
      simp only [List.getElem?_toArray, List.getElem?_cons_zero, List.getElem?_cons_succ, Option.some.injEq] at ho
      subst ho
      have q2 : a'.tmps[5]?.getD undef = .pointer (some ⟨w.heap.size, 7, none⟩) := by obtain ⟨_, _, _, _, q⟩ := hw 2 (by kernel_rfl); exact q
      have rb := boxC (box_wrote k0 LN (fun _ x => x))
      go_simp
      exact hK _ _ (Wrote.refl _ _) (updV_same _ _ _)
    | 4 =>
      simp only [List.getElem?_toArray, List.getElem?_cons_zero, List.getElem?_cons_succ, Option.some.injEq] at ho
      subst ho
      have q3 : a'.tmps[6]?.getD undef = .agg #[.int .i64 d.cap, .slice s1 d.n c1] := by obtain ⟨_, _, _, _, q⟩ := hw 3 (by kernel_rfl); exact q
      go_simp
      refine (HRW.out W (C0.trans (LN.below C0.size (fun _ _ _ x => x)))).mono ?_
      rintro e W' ⟨a, x, rfl, hA, LB⟩
      exact hK _ _ (wrote_below LB _) ⟨a, x, updV_same _ _ _, hA.mono (fun b hb h => ⟨h, hb⟩)⟩
    | 5 =>
      simp only [List.getElem?_toArray, List.getElem?_cons_zero, List.getElem?_cons_succ, Option.some.injEq] at ho
      subst ho
      have t1 := F.get (t := 1) (v := .pointer (some ⟨w.heap.size, 0, none⟩)) (by decide) rfl
      go_simp
      exact hK _ _ (Wrote.refl _ _) (updV_same _ _ _)
    | 6 =>
      simp only [List.getElem?_toArray, List.getElem?_cons_zero, List.getElem?_cons_succ, Option.some.injEq] at ho
      subst ho
      have q5 : a'.tmps[8]?.getD undef = .pointer (some ⟨w.heap.size, 9, none⟩) := by obtain ⟨_, _, _, _, q⟩ := hw 5 (by kernel_rfl); exact q
      have rb := boxC (box_wrote k0 LN (fun _ x => x))
      go_simp
      exact hK _ _ (Wrote.refl _ _) (updV_same _ _ _)
    | 7 =>
      simp only [List.getElem?_toArray, List.getElem?_cons_zero, List.getElem?_cons_succ, Option.some.injEq] at ho
      subst ho
      have q6 : a'.tmps[9]?.getD undef = .slice s2 d.ns c2 := by obtain ⟨_, _, _, _, q⟩ := hw 6 (by kernel_rfl); exact q
      go_simp
      refine (HSM.out W (C0.trans (LN.below C0.size (fun _ _ _ x => x)))).mono ?_
      rintro e W' ⟨v, o, rfl, hA, LB⟩
      obtain ⟨a, x, rfl⟩ := hA.form
      exact hK _ _ (wrote_below LB _) ⟨a, x, updV_same _ _ _, hA.listOnR.mono (fun b hb h => ⟨h, hb⟩)⟩
    | 8 =>
      simp only [List.getElem?_toArray, List.getElem?_cons_zero, List.getElem?_cons_succ, Option.some.injEq] at ho
      subst ho
      have q1 : a'.tmps[4]?.getD undef = .agg #[.int .i64 d.T, .int .i64 d.P, .int .i64 d.C, .int .i64 d.B, .int .i64 d.L, .bool d.S, .bool d.Q] := by obtain ⟨_, _, _, _, q⟩ := hw 1 (by kernel_rfl); exact q
      obtain ⟨_, _, _, _, a, x, q4, -⟩ := hw 4 (by kernel_rfl)
      have q4' : a'.tmps[7]?.getD undef = .agg #[.int .i64 d.cap, .slice a d.n x] := q4
      obtain ⟨_, _, _, _, b, y, q7, -⟩ := hw 7 (by kernel_rfl)
      have q7' : a'.tmps[10]?.getD undef = .slice b d.ns y := q7
      go_simp
      exact hK _ _ (Wrote.refl _ _) ⟨a, x, b, y, (updV_ne _ _ (by decide)).trans q4, (updV_ne _ _ (by decide)).trans q7, updV_same _ _ _⟩
    | _ + 9 => omega
  · intro o a' W K8 ho F L lo hi hφ hdj hK
    have LN : Wrote Nowhere W0 W := L.mono (fun b o _ ⟨j, h⟩ => h)
    simp only [List.getElem?_toArray, List.getElem?_cons_zero, List.getElem?_cons_succ, Option.some.injEq] at ho
    subst ho
    obtain ⟨l4, m4, z4, a, x, q4, hA⟩ := hφ 4 (by decide)
    obtain ⟨l7, m7, z7, b, y, q7, hB⟩ := hφ 7 (by decide)
    obtain ⟨-, -, -, a2, x2, b2, y2, e4, e7, sB⟩ := hφ 8 (by decide)
    rw [q4] at e4
    rw [q7] at e7
    simp only [Value.slice.injEq, true_and, Value.agg.injEq, Array.mk.injEq, List.cons.injEq, and_true] at e4 e7
    obtain ⟨rfl, rfl⟩ := e4
    obtain ⟨rfl, rfl⟩ := e7
    have dj := hdj 4 7 (by decide) (by decide) (by decide)
    replace sB : a'.tmps[11]?.getD undef = .agg #[.int .i64 d.T, .int .i64 d.P, .int .i64 d.C, .int .i64 d.B, .int .i64 d.L, .bool d.S, .bool d.Q, .int .i64 d.cap, .slice a d.n x, .slice b d.ns y] := sB
    refine wp_store_row _ _ _ rfl (w.heap.size + 1) #[.int .i64 d.T, .int .i64 d.P, .int .i64 d.C, .int .i64 d.B, .int .i64 d.L, .bool d.S, .bool d.Q, .int .i64 d.cap, .slice a d.n x, .slice b d.ns y] (by simpa [Act.eval] using F.get (t := 2) (v := .pointer (some ⟨w.heap.size + 1, 0, none⟩)) (by decide) rfl) (by simpa [Act.eval] using sB) _ _ (box_wrote kR LN (fun _ x => x)) infoSoundR rfl (by first | kernel_rfl | simp [Value.oneCell']) ?_
    refine hK _ _ ?_
    have kE := box_wrote kR LN (fun _ x => x)
    have WW := wrote_setRowU kE #[.int .i64 d.T, .int .i64 d.P, .int .i64 d.C, .int .i64 d.B, .int .i64 d.L, .bool d.S, .bool d.Q, .int .i64 d.cap, .slice a d.n x, .slice b d.ns y]
    have kF := setRow_heap _ _ _ #[.int .i64 d.T, .int .i64 d.P, .int .i64 d.C, .int .i64 d.B, .int .i64 d.L, .bool d.S, .bool d.Q, .int .i64 d.cap, .slice a d.n x, .slice b d.ns y] _ _ kE
    have CF : Below w.heap.size w (W.setRow (w.heap.size + 1) #[.int .i64 d.T, .int .i64 d.P, .int .i64 d.C, .int .i64 d.B, .int .i64 d.L, .bool d.S, .bool d.Q, .int .i64 d.cap, .slice a d.n x, .slice b d.ns y]) := (C0.trans (LN.below C0.size (fun _ _ _ x => x))).trans (WW.below (Nat.le_trans C0.size LN.size) (fun b o hb (e : b = _) => by omega))
    have hWs : (W.setRow (w.heap.size + 1) #[.int .i64 d.T, .int .i64 d.P, .int .i64 d.C, .int .i64 d.B, .int .i64 d.L, .bool d.S, .bool d.Q, .int .i64 d.cap, .slice a d.n x, .slice b d.ns y]).heap.size = W.heap.size := by simp [World.setRow]
    have hC0 := C0.size
    have HF : Hid (SnCp w (W.setRow (w.heap.size + 1) #[.int .i64 d.T, .int .i64 d.P, .int .i64 d.C, .int .i64 d.B, .int .i64 d.L, .bool d.S, .bool d.Q, .int .i64 d.cap, .slice a d.n x, .slice b d.ns y]) (.agg #[.int .i64 d.T, .int .i64 d.P, .int .i64 d.C, .int .i64 d.B, .int .i64 d.L, .bool d.S, .bool d.Q, .int .i64 d.cap, .slice a d.n x, .slice b d.ns y]) d) := ⟨fun i b => (i = 0 ∧ lo 4 ≤ b ∧ b < hi 4) ∨ (i = 1 ∧ lo 7 ≤ b ∧ b < hi 7), ⟨_, _, rfl, (hA.keep WW (fun b o hb hlt (e : b = _) => by omega)).mono (fun b _ h => Or.inl ⟨rfl, h⟩), (hB.keep WW (fun b o hb hlt (e : b = _) => by omega)).mono (fun b _ h => Or.inr ⟨rfl, h⟩)⟩, fun i j b h1 h2 => by rcases h1 with ⟨rfl, h1⟩ | ⟨rfl, h1⟩ <;> rcases h2 with ⟨rfl, h2⟩ | ⟨rfl, h2⟩ <;> first | rfl | omega, fun i b h => by rw [hWs]; rcases h with ⟨-, h⟩ | ⟨-, h⟩ <;> omega⟩
    clear hA hB q4 q7 l4 m4 z4 l7 m7 z7 dj hWs
    rw [F.same, show slotsOf [some 3, some 4, some 5, some 6, some 7, some 8, some 9, some 10, some 11, none] = [3, 4, 5, 6, 7, 8, 9, 10, 11] from rfl]
    simp only [List.foldl_cons, List.foldl_nil]
    generalize a'.tmps[3]?.getD undef = g3
    generalize a'.tmps[4]?.getD undef = g4
    generalize a'.tmps[5]?.getD undef = g5
    generalize a'.tmps[6]?.getD undef = g6
    generalize a'.tmps[7]?.getD undef = g7
    generalize a'.tmps[8]?.getD undef = g8
    generalize a'.tmps[9]?.getD undef = g9
    generalize a'.tmps[10]?.getD undef = g10
    generalize a'.tmps[11]?.getD undef = g11
    clear hφ hdj F L LN WW kE hK kR sB
    generalize W.setRow (w.heap.size + 1) #[.int .i64 d.T, .int .i64 d.P, .int .i64 d.C, .int .i64 d.B, .int .i64 d.L, .bool d.S, .bool d.Q, .int .i64 d.cap, .slice a d.n x, .slice b d.ns y] = W4 at *
    refine hK1 _ _ ?_
    clear hK1
    go_simp
    go_wp2
    refine bodyPost_ret (v := .agg #[.int .i64 d.T, .int .i64 d.P, .int .i64 d.C, .int .i64 d.B, .int .i64 d.L, .bool d.S, .bool d.Q, .int .i64 d.cap, .slice a d.n x, .slice b d.ns y]) (by exact results_cell_row Tryz.results100 _ _ (w.heap.size + 1) _ _ _ _ rfl kF Tryz.underlying44 rfl infoSoundR) rfl ?_
    exact ⟨_, rfl, HF.out, CF⟩
set_option maxRecDepth 40000 in
set_option maxHeartbeats 4000000 in
theorem copyPicture (w : World) (E : Nat → Nat → Prop) (v : Value) (d : PcD) (H : PcOn w E v d) :
    Calls Tryz.prog 99 #[v] w fun e w' => ∃ v', e = .returned v' ∧ PcCp w w' v' d ∧ Below w.heap.size w w' := by
  obtain ⟨u1, u2, u3, u4, rfl, hP, h3, h4⟩ := H
  have hps := h4.psumR
  obtain ⟨s1, c1, s2, c2, rfl, rfl, -, -⟩ := hP.lists
  obtain ⟨s3, c3, rfl, hn3, hrow, -, -⟩ := id h3
  obtain ⟨s4, c4, rfl⟩ := h4.form
  obtain ⟨v1, v2, ev, i1, i2⟩ := hP.ints
  simp only [Value.agg.injEq, Array.mk.injEq, List.cons.injEq, and_true, true_and] at ev
  obtain ⟨rfl, rfl⟩ := ev
  have HPP := hide (fun W (L : Below w.heap.size w W) => copyPpu W _ _ d.t d.c d.s d.ad d.pl d.bl _ _ d.nt d.tb d.nd d.dt (i1.keep (wrote_below L Nowhere) (fun _ _ _ x => x)) (i2.keep (wrote_below L Nowhere) (fun _ _ _ x => x)))
  have HRW := hide (fun W (L : Below w.heap.size w W) => copyRing W d.cap s3 d.n c3 d.f hn3.1 (hrow.keep (wrote_below L Nowhere) (fun _ _ _ x => x)))
  have HFR := hide (fun W (L : Below w.heap.size w W) => copyLists W _ _ d.mf d.lf d.fr (h4.keep (wrote_below L Nowhere) (fun _ _ _ _ x => x)).ints)
  have HPS := hide hps
  clear hP h3 h4 hrow i1 i2 hps
  have C0 : Below w.heap.size w ((w.alloc (.cells #[.int .i64 d.t, .int .i64 d.c, .int .i64 d.s, .int .i64 d.ad, .int .i64 d.pl, .bool d.bl, .slice s1 d.nt c1, .slice s2 d.nd c2, .int .i64 d.cap, .slice s3 d.n c3, .slice s4 d.mf c4] 40)).alloc (.cells #[.int .i64 0, .int .i64 0, .int .i64 0, .int .i64 0, .int .i64 0, .bool false, .slice none 0 0, .slice none 0 0, .int .i64 0, .slice none 0 0, .slice none 0 0] 40)) := ((Below.refl _ _).alloc (Nat.le_refl _) _).alloc (by simp) _
  have k0 := boxA (box_new w #[.int .i64 d.t, .int .i64 d.c, .int .i64 d.s, .int .i64 d.ad, .int .i64 d.pl, .bool d.bl, .slice s1 d.nt c1, .slice s2 d.nd c2, .int .i64 d.cap, .slice s3 d.n c3, .slice s4 d.mf c4] 40) (.cells #[.int .i64 0, .int .i64 0, .int .i64 0, .int .i64 0, .int .i64 0, .bool false, .slice none 0 0, .slice none 0 0, .int .i64 0, .slice none 0 0, .slice none 0 0] 40)
  have kR : ((w.alloc (.cells #[.int .i64 d.t, .int .i64 d.c, .int .i64 d.s, .int .i64 d.ad, .int .i64 d.pl, .bool d.bl, .slice s1 d.nt c1, .slice s2 d.nd c2, .int .i64 d.cap, .slice s3 d.n c3, .slice s4 d.mf c4] 40)).alloc (.cells #[.int .i64 0, .int .i64 0, .int .i64 0, .int .i64 0, .int .i64 0, .bool false, .slice none 0 0, .slice none 0 0, .int .i64 0, .slice none 0 0, .slice none 0 0] 40)).heap[w.heap.size + 1]? = some (.cells #[.int .i64 0, .int .i64 0, .int .i64 0, .int .i64 0, .int .i64 0, .bool false, .slice none 0 0, .slice none 0 0, .int .i64 0, .slice none 0 0, .slice none 0 0] 40 (0, 0)) := by simpa using box_new (w.alloc (.cells #[.int .i64 d.t, .int .i64 d.c, .int .i64 d.s, .int .i64 d.ad, .int .i64 d.pl, .bool d.bl, .slice s1 d.nt c1, .slice s2 d.nd c2, .int .i64 d.cap, .slice s3 d.n c3, .slice s4 d.mf c4] 40)) #[.int .i64 0, .int .i64 0, .int .i64 0, .int .i64 0, .int .i64 0, .bool false, .slice none 0 0, .slice none 0 0, .int .i64 0, .slice none 0 0, .slice none 0 0] 40
  go_enter Tryz.func99, Tryz.ntmps99
  go_upto_region 1 with (fail)
  generalize ((w.alloc (.cells #[.int .i64 d.t, .int .i64 d.c, .int .i64 d.s, .int .i64 d.ad, .int .i64 d.pl, .bool d.bl, .slice s1 d.nt c1, .slice s2 d.nd c2, .int .i64 d.cap, .slice s3 d.n c3, .slice s4 d.mf c4] 40)).alloc (.cells #[.int .i64 0, .int .i64 0, .int .i64 0, .int .i64 0, .int .i64 0, .bool false, .slice none 0 0, .slice none 0 0, .int .i64 0, .slice none 0 0, .slice none 0 0] 40)) = W0 at *
  have hR0 := boxLt kR
  rename_i K1 hK1
  refine wp_region_effL 10 [some 3, some 4, some 5, some 6, some 7, some 8, some 9, some 10, some 11, some 12, none] (by kernel_rfl) (by kernel_rfl) (by kernel_rfl) (by kernel_rfl) (by kernel_rfl) (by first | (simp [slotsOf]; done) | (simp [slotsOf, Act.put]; done))
    (fun _ => Nowhere)
    (fun i V lo hi W => match i with
      | 0 => V 0 = .pointer (some ⟨w.heap.size, 0, none⟩)
      | 1 => V 1 = .agg #[.int .i64 d.t, .int .i64 d.c, .int .i64 d.s, .int .i64 d.ad, .int .i64 d.pl, .bool d.bl, .slice s1 d.nt c1, .slice s2 d.nd c2]
      | 2 => ∃ a1 x1 a2 x2, V 2 = .agg #[.int .i64 d.t, .int .i64 d.c, .int .i64 d.s, .int .i64 d.ad, .int .i64 d.pl, .bool d.bl, .slice a1 d.nt x1, .slice a2 d.nd x2] ∧ PpuOn W (fun b => lo ≤ b ∧ b < hi) (.agg #[.int .i64 d.t, .int .i64 d.c, .int .i64 d.s, .int .i64 d.ad, .int .i64 d.pl, .bool d.bl, .slice a1 d.nt x1, .slice a2 d.nd x2]) d.t d.c d.s d.ad d.pl d.bl d.nt d.tb d.nd d.dt
      | 3 => V 3 = .pointer (some ⟨w.heap.size, 8, none⟩)
      | 4 => V 4 = .agg #[.int .i64 d.cap, .slice s3 d.n c3]
      | 5 => ∃ a x, V 5 = .agg #[.int .i64 d.cap, .slice a d.n x] ∧ RsOn W (fun b => lo ≤ b ∧ b < hi) (.slice a d.n x) d.n d.f
      | 6 => V 6 = .pointer (some ⟨w.heap.size, 10, none⟩)
      | 7 => V 7 = .slice s4 d.mf c4
      | 8 => ∃ a x, V 8 = .slice a d.mf x ∧ SsOn W (fun b => lo ≤ b ∧ b < hi) (.slice a d.mf x) d.mf d.lf d.fr
      | 9 => ∃ a1 x1 a2 x2 a3 x3 a4 x4, V 2 = .agg #[.int .i64 d.t, .int .i64 d.c, .int .i64 d.s, .int .i64 d.ad, .int .i64 d.pl, .bool d.bl, .slice a1 d.nt x1, .slice a2 d.nd x2] ∧ V 5 = .agg #[.int .i64 d.cap, .slice a3 d.n x3] ∧ V 8 = .slice a4 d.mf x4 ∧ V 9 = .agg #[.int .i64 d.t, .int .i64 d.c, .int .i64 d.s, .int .i64 d.ad, .int .i64 d.pl, .bool d.bl, .slice a1 d.nt x1, .slice a2 d.nd x2, .int .i64 d.cap, .slice a3 d.n x3, .slice a4 d.mf x4]
      | _ => True) ?_ ?_ ?_
  · intro i j o V x lo hi W W' hij _ _ ho hnw hlo hhi hW h
    have nw : ∀ k, waitsB o k = true → k ≠ j := fun k hk e => by rw [e, hnw] at hk; cases hk
    match i, ho, hij, nw, h with
    | 0, ho, hij, nw, h => exact (updV_ne V x hij).trans h
    | 1, ho, hij, nw, h => exact (updV_ne V x hij).trans h
    | 2, ho, hij, nw, h => (obtain ⟨a1, x1, a2, x2, h1, h2⟩ := h; exact ⟨a1, x1, a2, x2, (updV_ne V x hij).trans h1, h2.keep hW (fun _ _ _ _ x => x)⟩)
    | 3, ho, hij, nw, h => exact (updV_ne V x hij).trans h
    | 4, ho, hij, nw, h => exact (updV_ne V x hij).trans h
    | 5, ho, hij, nw, h => (obtain ⟨a, x', h1, h2⟩ := h; exact ⟨a, x', (updV_ne V x hij).trans h1, h2.keep hW (fun _ _ _ _ x => x)⟩)
    | 6, ho, hij, nw, h => exact (updV_ne V x hij).trans h
    | 7, ho, hij, nw, h => exact (updV_ne V x hij).trans h
    | 8, ho, hij, nw, h => (obtain ⟨a, x', h1, h2⟩ := h; exact ⟨a, x', (updV_ne V x hij).trans h1, h2.keep hW (fun _ _ _ _ x => x)⟩)
    | 9, ho, hij, nw, h => (simp only [List.getElem?_toArray, List.getElem?_cons_zero, List.getElem?_cons_succ, Option.some.injEq] at ho; subst ho; obtain ⟨a1, x1, a2, x2, a3, x3, a4, x4, h1, h2, h3, h4⟩ := h; exact ⟨a1, x1, a2, x2, a3, x3, a4, x4, (updV_ne V x (nw 2 (by kernel_rfl))).trans h1, (updV_ne V x (nw 5 (by kernel_rfl))).trans h2, (updV_ne V x (nw 8 (by kernel_rfl))).trans h3, (updV_ne V x hij).trans h4⟩)
    | _ + 10, _, _, _, _ => exact trivial
  · intro i o a' W K8 hin ho F L hw hK
    have LN : Wrote Nowhere W0 W := L.mono (fun b o _ ⟨j, _, _, _, _, h⟩ => h)
    match i with
    | 0 =>
      simp only [List.getElem?_toArray, List.getElem?_cons_zero, List.getElem?_cons_succ, Option.some.injEq] at ho
      subst ho
      have t1 := F.get (t := 1) (v := .pointer (some ⟨w.heap.size, 0, none⟩)) (by decide) rfl
      go_simp
      exact hK _ _ (Wrote.refl _ _) (updV_same _ _ _)
    | 1 =>
      simp only [List.getElem?_toArray, List.getElem?_cons_zero, List.getElem?_cons_succ, Option.some.injEq] at ho
      subst ho
      have q0 : a'.tmps[3]?.getD undef = .pointer (some ⟨w.heap.size, 0, none⟩) := by obtain ⟨_, _, _, _, q⟩ := hw 0 (by kernel_rfl); exact q
      have rb := boxC (box_wrote k0 LN (fun _ x => x))
      go_simp
      exact hK _ _ (Wrote.refl _ _) (updV_same _ _ _)
    | 2 =>
      simp only [List.getElem?_toArray, List.getElem?_cons_zero, List.getElem?_cons_succ, Option.some.injEq] at ho
      subst ho
      have q1 : a'.tmps[4]?.getD undef = .agg #[.int .i64 d.t, .int .i64 d.c, .int .i64 d.s, .int .i64 d.ad, .int .i64 d.pl, .bool d.bl, .slice s1 d.nt c1, .slice s2 d.nd c2] := by obtain ⟨_, _, _, _, q⟩ := hw 1 (by kernel_rfl); exact q
      go_simp
      refine (HPP.out W (C0.trans (LN.below C0.size (fun _ _ _ x => x)))).mono ?_
      rintro e W' ⟨v, v', o, o', rfl, hA, hB, hT, LB⟩
      obtain ⟨a1, x1, rfl⟩ := hA.form
      obtain ⟨a2, x2, rfl⟩ := hB.form
      exact hK _ _ (wrote_below LB _) ⟨a1, x1, a2, x2, updV_same _ _ _, (ppuOn_at hA hB hT).mono (fun b hb h => ⟨at_lo hA hB b h, hb⟩)⟩
    | 3 =>
      simp only [List.getElem?_toArray, List.getElem?_cons_zero, List.getElem?_cons_succ, Option.some.injEq] at ho
      subst ho
      have t1 := F.get (t := 1) (v := .pointer (some ⟨w.heap.size, 0, none⟩)) (by decide) rfl
      go_simp
      exact hK _ _ (Wrote.refl _ _) (updV_same _ _ _)
    | 4 =>
      simp only [List.getElem?_toArray, List.getElem?_cons_zero, List.getElem?_cons_succ, Option.some.injEq] at ho
      subst ho
      have q3 : a'.tmps[6]?.getD undef = .pointer (some ⟨w.heap.size, 8, none⟩) := by obtain ⟨_, _, _, _, q⟩ := hw 3 (by kernel_rfl); exact q
      have rb := boxC (box_wrote k0 LN (fun _ x => x))
      go_simp
      exact hK _ _ (Wrote.refl _ _) (updV_same _ _ _)
    | 5 =>
      simp only [List.getElem?_toArray, List.getElem?_cons_zero, List.getElem?_cons_succ, Option.some.injEq] at ho
      subst ho
      have q4 : a'.tmps[7]?.getD undef = .agg #[.int .i64 d.cap, .slice s3 d.n c3] := by obtain ⟨_, _, _, _, q⟩ := hw 4 (by kernel_rfl); exact q
      go_simp
      refine (HRW.out W (C0.trans (LN.below C0.size (fun _ _ _ x => x)))).mono ?_
      rintro e W' ⟨a, x, rfl, hA, LB⟩
      exact hK _ _ (wrote_below LB _) ⟨a, x, updV_same _ _ _, hA.mono (fun b hb h => ⟨h, hb⟩)⟩
    | 6 =>
      simp only [List.getElem?_toArray, List.getElem?_cons_zero, List.getElem?_cons_succ, Option.some.injEq] at ho
      subst ho
      have t1 := F.get (t := 1) (v := .pointer (some ⟨w.heap.size, 0, none⟩)) (by decide) rfl
      go_simp
      exact hK _ _ (Wrote.refl _ _) (updV_same _ _ _)
    | 7 =>
      simp only [List.getElem?_toArray, List.getElem?_cons_zero, List.getElem?_cons_succ, Option.some.injEq] at ho
      subst ho
      have q6 : a'.tmps[9]?.getD undef = .pointer (some ⟨w.heap.size, 10, none⟩) := by obtain ⟨_, _, _, _, q⟩ := hw 6 (by kernel_rfl); exact q
      have rb := boxC (box_wrote k0 LN (fun _ x => x))
      go_simp
      exact hK _ _ (Wrote.refl _ _) (updV_same _ _ _)
    | 8 =>
      simp only [List.getElem?_toArray, List.getElem?_cons_zero, List.getElem?_cons_succ, Option.some.injEq] at ho
      subst ho
      have q7 : a'.tmps[10]?.getD undef = .slice s4 d.mf c4 := by obtain ⟨_, _, _, _, q⟩ := hw 7 (by kernel_rfl); exact q
      go_simp
      refine (HFR.out W (C0.trans (LN.below C0.size (fun _ _ _ x => x)))).mono ?_
      rintro e W' ⟨v, ob, iv, ov, rfl, hA, LB⟩
      obtain ⟨a, x, rfl⟩ := hA.form
      exact hK _ _ (wrote_below LB _) ⟨a, x, updV_same _ _ _, (hA.ssR HPS.out).mono (fun b hb h => ⟨h, hb⟩)⟩
    | 9 =>
      simp only [List.getElem?_toArray, List.getElem?_cons_zero, List.getElem?_cons_succ, Option.some.injEq] at ho
      subst ho
      obtain ⟨_, _, _, _, a1, x1, a2, x2, q2, -⟩ := hw 2 (by kernel_rfl)
      have q2' : a'.tmps[5]?.getD undef = .agg #[.int .i64 d.t, .int .i64 d.c, .int .i64 d.s, .int .i64 d.ad, .int .i64 d.pl, .bool d.bl, .slice a1 d.nt x1, .slice a2 d.nd x2] := q2
      obtain ⟨_, _, _, _, a3, x3, q5, -⟩ := hw 5 (by kernel_rfl)
      have q5' : a'.tmps[8]?.getD undef = .agg #[.int .i64 d.cap, .slice a3 d.n x3] := q5
      obtain ⟨_, _, _, _, a4, x4, q8, -⟩ := hw 8 (by kernel_rfl)
      have q8' : a'.tmps[11]?.getD undef = .slice a4 d.mf x4 := q8
      go_simp
      exact hK _ _ (Wrote.refl _ _) ⟨a1, x1, a2, x2, a3, x3, a4, x4, (updV_ne _ _ (by decide)).trans q2, (updV_ne _ _ (by decide)).trans q5, (updV_ne _ _ (by decide)).trans q8, updV_same _ _ _⟩
    | _ + 10 => omega
  · intro o a' W K8 ho F L lo hi hφ hdj hK
    have LN : Wrote Nowhere W0 W := L.mono (fun b o _ ⟨j, h⟩ => h)
    simp only [List.getElem?_toArray, List.getElem?_cons_zero, List.getElem?_cons_succ, Option.some.injEq] at ho
    subst ho
    obtain ⟨l2, m2, z2, a1, x1, a2, x2, q2, hA⟩ := hφ 2 (by decide)
    obtain ⟨l5, m5, z5, a3, x3, q5, hB⟩ := hφ 5 (by decide)
    obtain ⟨l8, m8, z8, a4, x4, q8, hC⟩ := hφ 8 (by decide)
    obtain ⟨-, -, -, b1, y1, b2, y2, b3, y3, b4, y4, e2, e5, e8, sB⟩ := hφ 9 (by decide)
    rw [q2] at e2
    rw [q5] at e5
    rw [q8] at e8
    simp only [Value.slice.injEq, true_and, Value.agg.injEq, Array.mk.injEq, List.cons.injEq, and_true] at e2 e5 e8
    obtain ⟨⟨rfl, rfl⟩, rfl, rfl⟩ := e2
    obtain ⟨rfl, rfl⟩ := e5
    obtain ⟨rfl, rfl⟩ := e8
    have d25 := hdj 2 5 (by decide) (by decide) (by decide)
    have d28 := hdj 2 8 (by decide) (by decide) (by decide)
    have d58 := hdj 5 8 (by decide) (by decide) (by decide)
    replace sB : a'.tmps[12]?.getD undef = .agg #[.int .i64 d.t, .int .i64 d.c, .int .i64 d.s, .int .i64 d.ad, .int .i64 d.pl, .bool d.bl, .slice a1 d.nt x1, .slice a2 d.nd x2, .int .i64 d.cap, .slice a3 d.n x3, .slice a4 d.mf x4] := sB
    refine wp_store_row _ _ _ rfl (w.heap.size + 1) #[.int .i64 d.t, .int .i64 d.c, .int .i64 d.s, .int .i64 d.ad, .int .i64 d.pl, .bool d.bl, .slice a1 d.nt x1, .slice a2 d.nd x2, .int .i64 d.cap, .slice a3 d.n x3, .slice a4 d.mf x4] (by simpa [Act.eval] using F.get (t := 2) (v := .pointer (some ⟨w.heap.size + 1, 0, none⟩)) (by decide) rfl) (by simpa [Act.eval] using sB) _ _ (box_wrote kR LN (fun _ x => x)) infoPictureR rfl (by first | kernel_rfl | simp [Value.oneCell']) ?_
    refine hK _ _ ?_
    have kE := box_wrote kR LN (fun _ x => x)
    have WW := wrote_setRowU kE #[.int .i64 d.t, .int .i64 d.c, .int .i64 d.s, .int .i64 d.ad, .int .i64 d.pl, .bool d.bl, .slice a1 d.nt x1, .slice a2 d.nd x2, .int .i64 d.cap, .slice a3 d.n x3, .slice a4 d.mf x4]
    have kF := setRow_heap _ _ _ #[.int .i64 d.t, .int .i64 d.c, .int .i64 d.s, .int .i64 d.ad, .int .i64 d.pl, .bool d.bl, .slice a1 d.nt x1, .slice a2 d.nd x2, .int .i64 d.cap, .slice a3 d.n x3, .slice a4 d.mf x4] _ _ kE
    have CF : Below w.heap.size w (W.setRow (w.heap.size + 1) #[.int .i64 d.t, .int .i64 d.c, .int .i64 d.s, .int .i64 d.ad, .int .i64 d.pl, .bool d.bl, .slice a1 d.nt x1, .slice a2 d.nd x2, .int .i64 d.cap, .slice a3 d.n x3, .slice a4 d.mf x4]) := (C0.trans (LN.below C0.size (fun _ _ _ x => x))).trans (WW.below (Nat.le_trans C0.size LN.size) (fun b o hb (e : b = _) => by omega))
    have hWs : (W.setRow (w.heap.size + 1) #[.int .i64 d.t, .int .i64 d.c, .int .i64 d.s, .int .i64 d.ad, .int .i64 d.pl, .bool d.bl, .slice a1 d.nt x1, .slice a2 d.nd x2, .int .i64 d.cap, .slice a3 d.n x3, .slice a4 d.mf x4]).heap.size = W.heap.size := by simp [World.setRow]
    have hC0 := C0.size
    have HF : Hid (PcCp w (W.setRow (w.heap.size + 1) #[.int .i64 d.t, .int .i64 d.c, .int .i64 d.s, .int .i64 d.ad, .int .i64 d.pl, .bool d.bl, .slice a1 d.nt x1, .slice a2 d.nd x2, .int .i64 d.cap, .slice a3 d.n x3, .slice a4 d.mf x4]) (.agg #[.int .i64 d.t, .int .i64 d.c, .int .i64 d.s, .int .i64 d.ad, .int .i64 d.pl, .bool d.bl, .slice a1 d.nt x1, .slice a2 d.nd x2, .int .i64 d.cap, .slice a3 d.n x3, .slice a4 d.mf x4]) d) := ⟨fun i b => (i = 0 ∧ lo 2 ≤ b ∧ b < hi 2) ∨ (i = 1 ∧ lo 5 ≤ b ∧ b < hi 5) ∨ (i = 2 ∧ lo 8 ≤ b ∧ b < hi 8), ⟨_, _, _, _, rfl, (hA.keep WW (fun b o hb hlt (e : b = _) => by omega)).mono (fun b _ h => Or.inl ⟨rfl, h⟩), (hB.keep WW (fun b o hb hlt (e : b = _) => by omega)).mono (fun b _ h => Or.inr (Or.inl ⟨rfl, h⟩)), (hC.keep WW (fun b o hb hlt (e : b = _) => by omega)).mono (fun b _ h => Or.inr (Or.inr ⟨rfl, h⟩))⟩, fun i j b h1 h2 => by rcases h1 with ⟨rfl, h1⟩ | ⟨rfl, h1⟩ | ⟨rfl, h1⟩ <;> rcases h2 with ⟨rfl, h2⟩ | ⟨rfl, h2⟩ | ⟨rfl, h2⟩ <;> first | rfl | omega, fun i b h => by rw [hWs]; rcases h with ⟨-, h⟩ | ⟨-, h⟩ | ⟨-, h⟩ <;> omega⟩
    clear hA hB hC q2 q5 q8 l2 m2 z2 l5 m5 z5 l8 m8 z8 d25 d28 d58 hWs
    rw [F.same, show slotsOf [some 3, some 4, some 5, some 6, some 7, some 8, some 9, some 10, some 11, some 12, none] = [3, 4, 5, 6, 7, 8, 9, 10, 11, 12] from rfl]
    simp only [List.foldl_cons, List.foldl_nil]
    generalize a'.tmps[3]?.getD undef = g3
    generalize a'.tmps[4]?.getD undef = g4
    generalize a'.tmps[5]?.getD undef = g5
    generalize a'.tmps[6]?.getD undef = g6
    generalize a'.tmps[7]?.getD undef = g7
    generalize a'.tmps[8]?.getD undef = g8
    generalize a'.tmps[9]?.getD undef = g9
    generalize a'.tmps[10]?.getD undef = g10
    generalize a'.tmps[11]?.getD undef = g11
    generalize a'.tmps[12]?.getD undef = g12
    clear hφ hdj F L LN WW kE hK kR sB
    generalize W.setRow (w.heap.size + 1) #[.int .i64 d.t, .int .i64 d.c, .int .i64 d.s, .int .i64 d.ad, .int .i64 d.pl, .bool d.bl, .slice a1 d.nt x1, .slice a2 d.nd x2, .int .i64 d.cap, .slice a3 d.n x3, .slice a4 d.mf x4] = W4 at *
    refine hK1 _ _ ?_
    clear hK1
    go_simp
    go_wp2
    refine bodyPost_ret (v := .agg #[.int .i64 d.t, .int .i64 d.c, .int .i64 d.s, .int .i64 d.ad, .int .i64 d.pl, .bool d.bl, .slice a1 d.nt x1, .slice a2 d.nd x2, .int .i64 d.cap, .slice a3 d.n x3, .slice a4 d.mf x4]) (by exact results_cell_row Tryz.results99 _ _ (w.heap.size + 1) _ _ _ _ rfl kF Tryz.underlying40 rfl infoPictureR) rfl ?_
    exact ⟨_, rfl, HF.out, CF⟩
end Go.Proofs.YtjcaligejlhjdaaGreat
