/-
  Chapter 19: what its law draws: pictures, tones, texts, processors.
-/
import Derived.Test.YteefbbnkfclllaaDoorXD
import Derived.Test.YteefbbnkfclllaaDoorD1
import Derived.Test.YteefbbnkfclllaaDoorD5
namespace Go.Proofs.YteefbbnkfclllaaDoor
set_option linter.unusedVariables false
set_option linter.unusedSimpArgs false
open Go.ChangeShapes Go.WideShapes Go.ChangeAt Go.RowKit
theorem ownsRow_sameX {w w' : World} {base size n : Nat} {e : TypeId} {v : Value} {xs : List Value} (h : w.ownsRow base e size v n xs) (hb : ∀ k, v.ownBlock = some k → w'.heap[k]? = w.heap[k]?) : w'.ownsRow base e size v n xs := by
  obtain ⟨h1, h2⟩ := h
  refine ⟨h1, ?_⟩
  rcases h2 with h | ⟨g, cap, cur, rfl, hbg, hg, r⟩
  · exact .inl h
  · exact .inr ⟨g, cap, cur, rfl, hbg, (hb g rfl).trans hg, r⟩
theorem ownsRow_only {w w' : World} {c base g n cp : Nat} {e : TypeId} {xs : List Value} (h : w.ownsRow base e 1 (.slice (some ⟨g, 0, none⟩) n cp) n xs) (O : OnlyAt c w w') (hc : c < base) : w'.ownsRow base e 1 (.slice (some ⟨g, 0, none⟩) n cp) n xs :=
  ownsRow_sameX h (fun k hk => O.block k (by
    have := (h.lt k hk).1
    omega))
theorem Step.grown {c : Nat} {u w w' : World} {row : Option Nat} (h : Step c u w) (hg : w.grownBy w' row) (hr : ∀ k, row = some k → u.heap.size ≤ k) : Step c u w' :=
  ⟨hg.os.trans h.os, hg.tape.trans h.tape, hg.output.trans h.output, Nat.le_trans h.size hg.size, fun k hk hc => (hg.block k (Nat.lt_of_lt_of_le hk h.size) (fun e => by have := hr k e.symm; omega)).trans (h.block k hk hc)⟩
theorem Cur.grown {w w' : World} {B c : Nat} {a : Option Addr} {len cap : Nat} {row : Option Nat} (H : Cur w B c a len cap) (hg : w.grownBy w' row) (hc : c < w.heap.size) {b : Nat} (hb : c < b) (hbz : b ≤ w.heap.size) (hr : ∀ k, row = some k → b ≤ k) : Cur w' B c a len cap :=
  H.below (B' := b) ⟨hg.os, hg.tape, hg.output, hg.size, fun k hk => hg.block k (by omega) (fun e => by have := hr k e.symm; omega)⟩ hb
theorem own_list {w : World} {base lo n cap g : Nat} {l : List Int} (h : w.ownsRow base 3 1 (.slice (some ⟨g, 0, none⟩) n cap) n (l.map (Value.int .i64))) (hl : l.length = n) (hg : lo ≤ g) (hlt : g < w.heap.size) (hn : n ≤ 1048576) : OwnInts w lo (.slice (some ⟨g, 0, none⟩) n cap) n (nth l) :=
  own_row (by subst hl; rw [nth_vals]; exact h) hg hlt hn
def pickF (j : Nat) : Int := [-1, 64].getD j 0
set_option maxRecDepth 20000 in
set_option maxHeartbeats 4000000 in
theorem drawFrame (w : World) (B c : Nat) (a : Option Addr) (len cap : Nat) (H : Cur w B c a len cap) (hcw : c < w.heap.size) :
    Calls Tryd.prog 19 #[.pointer (some ⟨c, 0, none⟩)] w fun e w' => ∃ v n f, e = .returned v ∧ OwnInts w' w.heap.size v n f ∧ Cur w' B c a len cap ∧ Step c w w' := by
  obtain ⟨i0, hi, hz0, hz1, hz2⟩ := info_parts infoIntX
  have HO0 := hide (World.ownsRow_made (base := w.heap.size) (e := 3) (size := 1) w #[] 0 (Nat.le_refl _) (by unfold maxLen; omega) rfl)
  have hS0 : Step c w (w.alloc (.cells #[] 3)) := (Step.refl c w).alloc _
  have hC0 := H.alloc (.cells #[] 3) hcw
  go_enter Tryd.func19, Tryd.ntmps19
  go_wp2
  go_loopw [3, 4] (fun out i wr => ∃ (q g cp : Nat) (l : List Int), q ≤ 48 ∧ i = .int .i64 q ∧ Hid (l.length = q) ∧ out = .slice (some ⟨g, 0, none⟩) q cp ∧ wr.ownsRow w.heap.size 3 1 (.slice (some ⟨g, 0, none⟩) q cp) q (l.map (Value.int .i64)) ∧ Cur wr B c a len cap ∧ Step c w wr) (fun _ i _ => 48 - (intOf i).toNat)
  case atStart => exact ⟨0, _, 0, [], Nat.zero_le _, rfl, rfl, rfl, HO0.out, hC0, hS0⟩
  case round =>
    obtain ⟨q, g, cp, l, hq, rfl, hl, rfl, hown, hcur, hst⟩ := hrel
    have HO := hide hown
    clear hown HO0 hC0 hS0
    have hcr : c < wr.heap.size := Nat.lt_of_lt_of_le hcw hst.size
    by_cases hlt : q < 48
    · have hlt' : (q : Int) < 48 := by omega
      go_wp2_with fail
      refine (l1Below _ B c a len cap hcur 64).mono ?_
      rintro e w1 ⟨x, rfl, x0, x1, hcur1, O1⟩
      have HO1 := hide (ownsRow_only HO.out O1 hcw)
      have hst1 := hst.trans O1.step
      have hz1' := hst1.size
      have hcr1 : c < w1.heap.size := Nat.lt_of_lt_of_le hcw hst1.size
      clear HO hcur O1 hst
      go_wp2_with (at_builtin; refine wpList_append_lies _ rfl (.tmp 10) (.tmp 13) 24 rfl w.heap.size 3 i0 (.int .i64 0) 1 8 Tryd.underlying24 hi hz0 hz1 hz2 rfl (by decide) _ _ _ rfl ((unhide HO1).alloc _) ⟨w1.heap.size, 0, none⟩ 1 1 [.int .i64 x] rfl rfl ?c1 ?c2 (by decide) ?c3 ?c4 ?c5 _ rfl ?_)
      case c1 => exact new_row _ #[.int .i64 x] 3 (0, 0) _ rfl
      case c2 => first | rfl | (intro u hu; simp at hu; subst hu; rfl)
      case c3 => unfold maxLen; omega
      case c4 => omega
      case c5 => first | omega | (simp; omega)
      intro g3 cp3 w3 hown3 hgrow hat hlt3
      have hst3 : Step c w w3 := (hst1.alloc _).grown hgrow (fun k hk => ((unhide HO1).lt k hk).1)
      have hcur3 : Cur w3 B c a len cap := (hcur1.alloc _ hcr1).grown hgrow (by simp; omega) (b := w.heap.size) hcw (by simp; omega) (fun k hk => ((unhide HO1).lt k hk).1)
      have HO3 := hide hown3
      clear hown3 hgrow hat HO1 hst1 hcur1
      go_wp2
      go_roundw
      case rel => exact ⟨q + 1, g3, cp3, l ++ [x], by omega, by go_num, by show _ = _; rw [List.length_append, hl.out]; rfl, rfl, by rw [lv_snoc]; exact HO3.out, hcur3, hst3⟩
      case measure => simp [intOf]; omega
    · have hkn : q = 48 := by omega
      subst hkn
      have hlt' : ¬ ((48 : Nat) : Int) < 48 := by omega
      go_wp2_with fail
      refine (l1Below _ B c a len cap hcur 9).mono ?_
      rintro e w1 ⟨x, rfl, x0, x1, hcur1, O1⟩
      have HO1 := hide (ownsRow_only HO.out O1 hcw)
      have hst1 := hst.trans O1.step
      have hz1' := hst1.size
      have hcr1 : c < w1.heap.size := Nat.lt_of_lt_of_le hcw hst1.size
      clear HO hcur O1 hst
      have HG : w.heap.size ≤ g ∧ g < w1.heap.size := (unhide HO1).lt g rfl
      have HR : OwnInts w1 w.heap.size (.slice (some ⟨g, 0, none⟩) 48 cp) 48 (nth l) := own_list (unhide HO1) hl.out HG.1 HG.2 (by omega)
      obtain ⟨a', cap', e', -, hro, hfr, hlo⟩ := HR.ex
      simp only [Value.slice.injEq, true_and] at e'
      obtain ⟨rfl, rfl⟩ := e'
      have hcp : 48 ≤ cp := by
        rcases (unhide HO1).2 with ⟨e, _⟩ | ⟨g', c', cur, e, _, _, h1, _⟩
        · cases e
        · simp only [Value.slice.injEq, Option.some.injEq, Addr.mk.injEq, and_true, true_and] at e
          obtain ⟨rfl, rfl⟩ := e
          exact h1
      clear HO1
      by_cases e0 : x = 0
      · have q0 : (x == 0) = true := by simp [e0]
        clear e0
        have PC := hide (fun (W : World) (m : Nat) (hm : m ≠ c) (HH : Cur W B c a len cap) (hz : ∀ j, j < 2 → W.cell? ⟨m, j, none⟩ = some (.int .i64 (pickF j))) => l1PickInt W B c a len cap HH m 2 (by omega) (by omega) hm pickF hz)
        go_wp2_with fail
        refine (PC.out _ _ (by omega) (hcur1.alloc _ hcr1) ?_).mono ?_
        · intro j hj
          rw [World.cell?_alloc_new]
          rcases j with _ | _ | j
          · rfl
          · rfl
          · omega
        rintro e w2 ⟨j, rfl, hj, hcur2, O2⟩
        generalize pickF j = y
        have hgc : g ≠ c := by omega
        have LA : Below w1.heap.size w1 (w1.alloc (.cells #[.int .i64 (-1), .int .i64 64] 3)) := (Below.refl _ _).alloc (Nat.le_refl _) _
        have hb2 : w2.heap[g]? = w1.heap[g]? := (O2.block g hgc).trans (LA.block g HG.2)
        have hst2 : Step c w w2 := (hst1.alloc _).trans O2.step
        have ro2 : RowOf .i64 w2 (some ⟨g, 0, none⟩) 48 (nth l) := fun i hi => by
          obtain ⟨b, off, e, hc⟩ := hro i hi
          simp only [Option.some.injEq, Addr.mk.injEq, and_true] at e
          obtain ⟨rfl, rfl⟩ := e
          exact ⟨_, _, rfl, (World.cell?_of_block (a := ⟨g, 0 + i, none⟩) hb2).trans hc⟩
        have fr2 : ∀ o, o < 48 → w2.frozen? ⟨g, o, none⟩ = false := fun o ho => (World.frozen?_of_block (a := ⟨g, o, none⟩) hb2).trans (hfr g o ⟨0, rfl, by omega, by omega⟩).2
        have hg2 : g < w2.heap.size := by have := O2.size; have := LA.size; omega
        obtain ⟨b3, o3, e3, c3⟩ := ro2 3 (by omega)
        simp only [Option.some.injEq, Addr.mk.injEq, and_true] at e3
        obtain ⟨rfl, rfl⟩ := e3
        rw [Nat.zero_add] at c3
        have f3 := fr2 3 (by omega)
        have RR := row_marked (x := y) ro2 (show 3 < 48 by omega)
        rw [Nat.zero_add] at RR
        have WW : Wrote (fun b _ => b = g) w2 (w2.setCell ⟨g, 3, none⟩ (.int .i64 y)) := Wrote.setCell (b := g) (o := 3) (R := fun b _ => b = g) (Wrote.refl _ w2) (fun _ => rfl) _
        have hst3 : Step c w (w2.setCell ⟨g, 3, none⟩ (.int .i64 y)) := ⟨WW.os.trans hst2.os, WW.tape.trans hst2.tape, WW.output.trans hst2.output, Nat.le_trans hst2.size WW.size, fun k hk hc => (WW.block k (by have := hst2.size; omega) (fun o e => by omega)).trans (hst2.block k hk hc)⟩
        have hcur3 : Cur (w2.setCell ⟨g, 3, none⟩ (.int .i64 y)) B c a len cap := hcur2.below (WW.below (B := w.heap.size) hst2.size (fun b o hb e => by omega)) hcw
        have HR3 : OwnInts (w2.setCell ⟨g, 3, none⟩ (.int .i64 y)) w.heap.size (.slice (some ⟨g, 0, none⟩) 48 cp) 48 (fun i => if i = 3 then y else nth l i) := ⟨_, _, rfl, by omega, RR, fun b o ⟨off, e, h1, h2⟩ => by
          simp only [Option.some.injEq, Addr.mk.injEq, and_true] at e
          obtain ⟨rfl, rfl⟩ := e
          exact ⟨Nat.lt_of_lt_of_le hg2 WW.size, (World.frozen?_setCell _ _ _ _).trans (fr2 o (by omega))⟩, fun b o ⟨off, e, h1, h2⟩ => by
          simp only [Option.some.injEq, Addr.mk.injEq, and_true] at e
          omega⟩
        clear ro2 fr2 RR WW hb2 hst2 hcur2 hro hfr hlo HR
        go_wp2
        go_ret
        exact ⟨_, _, _, rfl, HR3, hcur3, hst3⟩
      · have q0 : (x == 0) = false := by simp [e0]
        by_cases e1 : x = 1
        · have q1 : (x == 1) = true := by simp [e1]
          clear e0 e1
          have hc1 : ¬ cp = 1 := by omega
          have HR3 : OwnInts w1 w.heap.size (.slice (some ⟨g, 1, none⟩) 47 (cp - 1)) 47 (fun i => nth l (i + 1)) := ⟨_, _, rfl, by omega, fun i hi => by
            obtain ⟨b, off, e, hc⟩ := hro (i + 1) (by omega)
            simp only [Option.some.injEq, Addr.mk.injEq, and_true] at e
            obtain ⟨rfl, rfl⟩ := e
            refine ⟨_, _, rfl, ?_⟩
            rw [show 1 + i = 0 + (i + 1) by omega]
            exact hc, fun b o ⟨off, e, h1, h2⟩ => by
            simp only [Option.some.injEq, Addr.mk.injEq, and_true] at e
            obtain ⟨rfl, rfl⟩ := e
            exact hfr g o ⟨0, rfl, by omega, by omega⟩, fun b o ⟨off, e, h1, h2⟩ => by
            simp only [Option.some.injEq, Addr.mk.injEq, and_true] at e
            omega⟩
          clear hro hfr hlo HR
          go_wp2
          go_ret
          exact ⟨_, _, _, rfl, HR3, hcur1, hst1⟩
        · have q1 : (x == 1) = false := by simp [e1]
          clear e0 e1
          go_wp2
          go_ret
          exact ⟨_, _, _, rfl, HR, hcur1, hst1⟩
theorem OwnInts.lower {w : World} {lo lo' n : Nat} {v : Value} {f : Nat → Int} (h : OwnInts w lo v n f) (hl : lo' ≤ lo) : OwnInts w lo' v n f := by
  obtain ⟨a, cap, e, hn, hr, hf, hlo⟩ := h.ex
  exact ⟨a, cap, e, hn, hr, hf, fun b o x => Nat.le_trans hl (hlo b o x)⟩
theorem drawFrameText (w : World) (B : Nat) (a : Option Addr) (len cap : Nat) (hB : B ≤ w.heap.size) (H : Code w B a len) :
    Calls Tryd.prog 5 #[.slice a len cap] w fun e w' => ∃ v n f, e = .returned v ∧ OwnInts w' w.heap.size v n f ∧ Below w.heap.size w w' := by
  go_enter Tryd.func5, Tryd.ntmps5
  go_wp2_with fail
  refine (l1New _ B a len cap hB H).mono ?_
  rintro e w1 ⟨rfl, H1, L1, s1⟩
  have hs1 : w.heap.size < w1.heap.size := by omega
  go_wp2_with fail
  refine (drawFrame _ B _ a len cap H1 hs1).mono ?_
  rintro e w2 ⟨v, n, f, rfl, O2, H2, S2⟩
  go_wp2
  go_ret
  exact ⟨_, _, _, rfl, O2.lower (by omega), L1.trans (S2.below (Nat.le_refl _) (by omega))⟩
theorem l1PickS (w : World) (B c : Nat) (a : Option Addr) (len cap : Nat) (H : Cur w B c a len cap) (m n : Nat) (hn : 0 < n) (hn' : n ≤ 1048576) (hm : m ≠ c) (zs : Nat → ByteArray) (hz : ∀ j, j < n → w.cell? ⟨m, j, none⟩ = some (.string (zs j))) :
    Calls Tryd.prog 27 #[.pointer (some ⟨c, 0, none⟩), .slice (some ⟨m, 0, none⟩) n n] w fun e w' => ∃ j : Nat, e = .returned (.string (zs j)) ∧ j < n ∧ Cur w' B c a len cap ∧ OnlyAt c w w' := by
  go_enter Tryd.func27, Tryd.ntmps27
  go_wp2_with fail
  refine (l1Below _ B c a len cap H n).mono ?_
  rintro e w1 ⟨x, rfl, x0, x1, H1, O1⟩
  obtain ⟨j, rfl⟩ := Int.eq_ofNat_of_zero_le x0
  have hj : j < n := by omega
  have hj' : (j : Int) < (n : Int) := by omega
  have hc := (O1.cell (p := ⟨m, j, none⟩) hm).trans (hz j hj)
  go_wp2
  go_ret
  exact ⟨j, rfl, hj, H1, O1⟩
set_option maxRecDepth 20000 in
theorem drawCpuText (w : World) (B : Nat) (a : Option Addr) (len cap : Nat) (hB : B ≤ w.heap.size) (H : Code w B a len) :
    Calls Tryd.prog 13 #[.slice a len cap] w fun e w' => (∃ (A X S Pc : Int) (Z N C I : Bool), e = .returned (.agg #[.int .i64 A, .int .i64 X, .int .i64 S, .int .i64 Pc, .bool Z, .bool N, .bool C, .bool I])) ∧ Below w.heap.size w w' := by
  have r0 := box_new w #[.int .i64 0, .int .i64 0, .int .i64 0, .int .i64 0, .bool false, .bool false, .bool false, .bool false] 32
  have L0 := (Below.refl w.heap.size w).alloc (Nat.le_refl _) (.cells #[.int .i64 0, .int .i64 0, .int .i64 0, .int .i64 0, .bool false, .bool false, .bool false, .bool false] 32)
  go_enter Tryd.func13, Tryd.ntmps13
  go_wp2_with fail
  refine (l1New _ B a len cap (Nat.le_trans hB L0.size) (H.keep (L0.mono hB))).mono ?_
  rintro e w1 ⟨rfl, H1, L1, s1⟩
  have hsz : (w.alloc (.cells #[.int .i64 0, .int .i64 0, .int .i64 0, .int .i64 0, .bool false, .bool false, .bool false, .bool false] 32)).heap.size = w.heap.size + 1 := by simp
  rw [hsz] at H1 L1 s1 ⊢
  have r1 := box_keep r0 L1 (by omega)
  have C1 : Below w.heap.size w w1 := L0.trans (L1.mono (by omega))
  have hs1 : w.heap.size + 1 < w1.heap.size := by omega
  clear s1 r0 L0 L1 hsz
  go_wp2_with fail
  refine (l5Draw _ B _ a len cap H1 hs1).mono ?_
  rintro e w2 ⟨⟨A, X, S, Pc, Z, N, C, I, rfl⟩, H2, T2⟩
  have r2 := T2.box r1 (by omega)
  have C2 : Below w.heap.size w w2 := C1.trans (T2.below (by omega) (by omega))
  clear T2 r1 C1 H1 H2
  obtain ⟨q0, q1, q2, q3, q4, q5, q6, q7⟩ := cells8 r2
  have fr := free8 r2
  go_wp2
  refine bodyPost_ret (v := .agg #[.int .i64 A, .int .i64 X, .int .i64 S, .int .i64 Pc, .bool Z, .bool N, .bool C, .bool I]) (by simp [results, Tryd.results13, go_sem, q0, q1, q2, q3, q4, q5, q6, q7]) rfl ?_
  exact ⟨⟨_, _, _, _, _, _, _, _, rfl⟩, C2.trans ((only8 _ _ _ _ _ _ _ _ _ _).below (Nat.le_refl _))⟩
def pickT (j : Nat) : Int := [0, 8, 0, 8, 4].getD j 0
set_option maxRecDepth 20000 in
set_option maxHeartbeats 4000000 in
theorem drawToneText (w : World) (B : Nat) (a : Option Addr) (len cap : Nat) (hB : B ≤ w.heap.size) (H : Code w B a len) :
    Calls Tryd.prog 12 #[.slice a len cap] w fun e w' => ∃ v n f, e = .returned v ∧ OwnInts w' w.heap.size v n f ∧ Below w.heap.size w w' := by
  obtain ⟨i0, hi, hz0, hz1, hz2⟩ := info_parts infoIntX
  go_enter Tryd.func12, Tryd.ntmps12
  go_wp2_with fail
  refine (l1New _ B a len cap hB H).mono ?_
  rintro e w1 ⟨rfl, H1, L1, s1⟩
  have hs1 : w.heap.size < w1.heap.size := by omega
  have hc1 : w.heap.size + 1 = w1.heap.size := by omega
  have HC1 := hide hc1
  clear hc1 s1
  have HO0 := hide (World.ownsRow_made (base := w1.heap.size) (e := 3) (size := 1) w1 #[] 0 (Nat.le_refl _) (by unfold maxLen; omega) rfl)
  have hS0 : Step w.heap.size w1 (w1.alloc (.cells #[] 3)) := (Step.refl _ w1).alloc _
  have hC0 := H1.alloc (.cells #[] 3) hs1
  clear H1
  go_wp2
  go_loopw [4, 5] (fun out i wr => ∃ (q g cp : Nat) (l : List Int), q ≤ 30 ∧ i = .int .i64 q ∧ Hid (l.length = q) ∧ out = .slice (some ⟨g, 0, none⟩) q cp ∧ wr.ownsRow w1.heap.size 3 1 (.slice (some ⟨g, 0, none⟩) q cp) q (l.map (Value.int .i64)) ∧ Cur wr B w.heap.size a len cap ∧ Step w.heap.size w1 wr) (fun _ i _ => 30 - (intOf i).toNat)
  case atStart => exact ⟨0, _, 0, [], Nat.zero_le _, rfl, rfl, rfl, HO0.out, hC0, hS0⟩
  case round =>
    obtain ⟨q, g, cp, l, hq, rfl, hl, rfl, hown, hcur, hst⟩ := hrel
    have HO := hide hown
    clear hown HO0 hC0 hS0
    have hcr : w.heap.size < wr.heap.size := Nat.lt_of_lt_of_le hs1 hst.size
    go_wp2_with fail
    refine (l1Below _ B w.heap.size a len cap hcur 30).mono ?_
    rintro e w2 ⟨x, rfl, x0, x1, hcur2, O2⟩
    have HO2 := hide (ownsRow_only HO.out O2 hs1)
    have hst2 := hst.trans O2.step
    have hz2' := hst2.size
    have hcr2 : w.heap.size < w2.heap.size := Nat.lt_of_lt_of_le hs1 hst2.size
    clear HO hcur O2 hst
    by_cases hlt : (q : Int) < x
    · have PC := hide (fun (W : World) (m : Nat) (hm : m ≠ w.heap.size) (HH : Cur W B w.heap.size a len cap) (hz : ∀ j, j < 5 → W.cell? ⟨m, j, none⟩ = some (.int .i64 (pickT j))) => l1PickInt W B w.heap.size a len cap HH m 5 (by omega) (by omega) hm pickT hz)
      go_wp2_with fail
      refine (PC.out _ _ (by omega) (hcur2.alloc _ hcr2) ?_).mono ?_
      · intro j hj
        rw [World.cell?_alloc_new]
        rcases j with _ | _ | _ | _ | _ | j
        · rfl
        · rfl
        · rfl
        · rfl
        · rfl
        · omega
      rintro e w3 ⟨j, rfl, hj, hcur3, O3⟩
      generalize pickT j = y
      have HO3 := hide (ownsRow_only ((unhide HO2).alloc (.cells #[.int .i64 0, .int .i64 8, .int .i64 0, .int .i64 8, .int .i64 4] 3)) O3 hs1)
      have hst3 := (hst2.alloc (.cells #[.int .i64 0, .int .i64 8, .int .i64 0, .int .i64 8, .int .i64 4] 3)).trans O3.step
      have hz3' := hst3.size
      have hcr3 : w.heap.size < w3.heap.size := Nat.lt_of_lt_of_le hs1 hst3.size
      clear HO2 hcur2 O3 hst2 PC
      go_wp2_with (at_builtin; refine wpList_append_lies _ rfl (.tmp 15) (.tmp 19) 24 rfl w1.heap.size 3 i0 (.int .i64 0) 1 8 Tryd.underlying24 hi hz0 hz1 hz2 rfl (by decide) _ _ _ rfl ((unhide HO3).alloc _) ⟨w3.heap.size, 0, none⟩ 1 1 [.int .i64 y] rfl rfl ?c1 ?c2 (by decide) ?c3 ?c4 ?c5 _ rfl ?_)
      case c1 => exact new_row _ #[.int .i64 y] 3 (0, 0) _ rfl
      case c2 => first | rfl | (intro u hu; simp at hu; subst hu; rfl)
      case c3 => unfold maxLen; omega
      case c4 => omega
      case c5 => first | omega | (simp; omega)
      intro g4 cp4 w4 hown4 hgrow hat hlt4
      have hst4 : Step w.heap.size w1 w4 := (hst3.alloc _).grown hgrow (fun k hk => ((unhide HO3).lt k hk).1)
      have hcur4 : Cur w4 B w.heap.size a len cap := (hcur3.alloc _ hcr3).grown hgrow (by simp; omega) (b := w1.heap.size) hs1 (by simp; omega) (fun k hk => ((unhide HO3).lt k hk).1)
      have HO4 := hide hown4
      clear hown4 hgrow hat HO3 hst3 hcur3
      go_wp2
      go_roundw
      case rel => exact ⟨q + 1, g4, cp4, l ++ [y], by omega, by go_num, by show _ = _; rw [List.length_append, hl.out]; rfl, rfl, by rw [lv_snoc]; exact HO4.out, hcur4, hst4⟩
      case measure => simp [intOf]; omega
    · have HG : w1.heap.size ≤ g ∧ g < w2.heap.size := (unhide HO2).lt g rfl
      have HR : OwnInts w2 w.heap.size (.slice (some ⟨g, 0, none⟩) q cp) q (nth l) := own_list (unhide HO2) hl.out (by omega) HG.2 (by omega)
      have C2 := L1.trans (hst2.below (Nat.le_refl _) (by omega))
      clear HO2 hst2 hcur2
      go_wp2
      go_ret
      exact ⟨_, _, _, rfl, HR, C2⟩
end Go.Proofs.YteefbbnkfclllaaDoor
