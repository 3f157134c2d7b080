/-
  Chapter 11's draws from a row of bytes.
-/
import Derived.Test.YtpaedkefmebjjagPE
import Derived.Deep.RegionHeld3
namespace Go.Proofs.Ytpaedkefmebjjag
set_option linter.unusedVariables false
set_option linter.unusedSimpArgs false
open Go.ChangeShapes Go.WideShapes Go.ChangeAt Go.RowKit
theorem box_set2 {W : World} {d : Nat} {T : TypeId} {u0 u1 : Value} (h : W.heap[d]? = some (.cells #[u0, u1] T (0, 0))) (v0 v1 : Value) : ((W.setCell ⟨d, 0, none⟩ v0).setCell ⟨d, 1, none⟩ v1).heap[d]? = some (.cells #[v0, v1] T (0, 0)) := by
  simp [World.setCell, Array.getElem?_modify, h]
theorem below_set2 (w : World) (d : Nat) (v0 v1 : Value) : Below d w ((w.setCell ⟨d, 0, none⟩ v0).setCell ⟨d, 1, none⟩ v1) :=
  ((Below.refl d w).setCell (Nat.le_refl _) _).setCell (Nat.le_refl _) _
theorem wrote_set2 (w : World) (d : Nat) (v0 v1 : Value) : Wrote (fun b _ => b = d) w ((w.setCell ⟨d, 0, none⟩ v0).setCell ⟨d, 1, none⟩ v1) :=
  Wrote.setCell (Wrote.setCell (Wrote.refl (fun b _ => b = d) w) (fun _ => rfl) _) (fun _ => rfl) _
theorem drawPadAt (w : World) (B : Nat) (a : Option Addr) (len cap : Nat) (hB : B ≤ w.heap.size) (H : Code w B a len) :
    Calls Try.prog 25 #[.slice a len cap] w fun e w' => ∃ (g n x : Nat) (f : Nat → Int) (t : Int), e = .returned (.tuple #[.slice (some ⟨g, 0, none⟩) n x, .int .i64 t]) ∧ Row w' w.heap.size g n x f ∧ t ≤ 9223372036854775807 ∧ Below w.heap.size w w' := by
  go_enter Try.func25, Try.ntmps25
  go_wp2_with fail
  refine (l1New _ B a len cap hB H).mono ?_
  rintro e W1 ⟨rfl, H1, L1, s1⟩
  have hs : w.heap.size < W1.heap.size := by omega
  clear s1
  go_wp2_with fail
  refine (l11DrawPads _ B _ a len cap H1 hs).mono ?_
  rintro e W2 ⟨g, n, x, f, rfl, M2⟩
  have hs2 : w.heap.size < W2.heap.size := Nat.lt_of_lt_of_le hs M2.step.size
  go_wp2_with fail
  refine (l9DrawTime _ B _ a len cap M2.cur hs2).mono ?_
  rintro e W3 ⟨t, rfl, t0, t1, H3, S3⟩
  have M3 := M2.moved hs S3 H3
  go_wp2
  go_ret2
  exact ⟨g, n, x, f, t, rfl, M3.row.mono (by omega), t1, L1.trans (M3.step.below (Nat.le_refl _) (by omega))⟩
set_option maxHeartbeats 1000000 in
theorem drawPadWrite (w : World) (B : Nat) (a : Option Addr) (len cap : Nat) (hB : B ≤ w.heap.size) (H : Code w B a len) :
    Calls Try.prog 20 #[.slice a len cap] w fun e w' => ∃ (D : Bool) (S : Int) (g n x : Nat) (f : Nat → Int) (t v : Int), e = .returned (.tuple #[.agg #[.bool D, .int .i64 S], .slice (some ⟨g, 0, none⟩) n x, .int .i64 t, .int .i64 v]) ∧ Row w' w.heap.size g n x f ∧ t ≤ 9223372036854775807 ∧ Below w.heap.size w w' := by
  have r0 := box_new w #[.bool false, .int .i64 0] 40
  have L0 : Below w.heap.size w (w.alloc (.cells #[.bool false, .int .i64 0] 40)) := (Below.refl _ _).alloc (Nat.le_refl _) _
  go_enter Try.func20, Try.ntmps20
  go_wp2_with fail
  generalize w.alloc (.cells #[.bool false, .int .i64 0] 40) = W0 at *
  refine (l1New _ B a len cap (Nat.le_trans hB L0.size) (H.keep (L0.mono hB))).mono ?_
  rintro e W1 ⟨rfl, H1, L1, s1⟩
  obtain ⟨c, hc⟩ : ∃ c, c = W0.heap.size := ⟨_, rfl⟩
  rw [← hc] at H1 ⊢
  have hc1 : c < W1.heap.size := by omega
  have hwc : w.heap.size < c := by have := boxLt r0; omega
  have r1 := box_keep r0 L1 (boxLt r0)
  have C1 := below_snoc L0 L1
  clear L0 L1 r0 s1 hc
  go_wp2_with fail
  refine (l1Once _ B c a len cap H1 2).mono ?_
  rintro e W2 ⟨D, rfl, H2, O2⟩
  have hc2 : c < W2.heap.size := by rw [O2.size]; exact hc1
  go_wp2_with fail
  refine (l1DrawInt _ B c a len cap H2 hc2).mono ?_
  rintro e W3 ⟨S, rfl, S0, S1, H3, S3⟩
  have T3 := O2.step.trans S3
  have r3 := T3.box r1 (by omega)
  have C3 : Below w.heap.size w W3 := C1.trans (T3.below (by omega) C1.size)
  have hc3 : c < W3.heap.size := Nat.lt_of_lt_of_le hc1 T3.size
  have LA3 : Below W3.heap.size W3 (W3.alloc (.cells #[.bool D, .int .i64 S] 40)) := (Below.refl _ _).alloc (Nat.le_refl _) _
  have k3 := box_new W3 #[.bool D, .int .i64 S] 40
  replace r3 := box_keep r3 LA3 (boxLt r3)
  replace C3 := below_snoc C3 LA3
  have H3' := H3.below LA3 hc3
  have hc3' : c < (W3.alloc (.cells #[.bool D, .int .i64 S] 40)).heap.size := Nat.lt_of_lt_of_le hc3 LA3.size
  have hz : w.heap.size < W3.heap.size ∧ W3.heap.size ≠ c := ⟨by omega, by omega⟩
  clear T3 S3 H3 O2 H2 H1 C1 r1 LA3 hc3 hc2 hc1
  go_upto_region 3 with (fail)
  obtain ⟨z, hzz⟩ : ∃ z, Hid (z = W3.heap.size) := ⟨_, rfl⟩
  generalize W3.alloc (.cells #[.bool D, .int .i64 S] 40) = W4 at *
  rw [← hzz.out] at k3 hz ⊢
  clear hzz
  go_wp2_with fail
  refine (l11DrawPads _ B c a len cap H3' hc3').mono ?_
  rintro e W5 ⟨g, n, x, f, rfl, M5⟩
  have hc5 := M5.lt hc3'
  go_wp2_with fail
  refine (l9DrawTime _ B c a len cap M5.cur hc5).mono ?_
  rintro e W6 ⟨t, rfl, t0, t1, H6, S6⟩
  have M6 := M5.moved hc3' S6 H6
  have hg := M6.row.parts
  have k6 := M6.step.box k3 hz.2
  have r6 := M6.step.box r3 (by omega)
  have C6 : Below w.heap.size w W6 := C3.trans (M6.step.below (by omega) C3.size)
  have hc6 := M6.lt hc3'
  have R6 : Row W6 W4.heap.size g n x f := M6.row
  have hw4 : w.heap.size < W4.heap.size := boxLt r3
  clear M5 S6 k3 r3 C3 hc5
  go_upto_region 5 with (fail)
  have D6 : Below W6.heap.size W6 W6.drew := ⟨rfl, rfl, rfl, Nat.le_refl _, fun _ _ => rfl⟩
  replace k6 := box_keep k6 D6 (boxLt k6)
  replace r6 := box_keep r6 D6 (boxLt r6)
  replace C6 := below_snoc C6 D6
  replace R6 := R6.below D6
  have HH := hide (M6.cur.below D6 hc6)
  have hc6' : c < W6.drew.heap.size := hc6
  have HR := hide R6
  have c6 := boxC k6
  have s6 := boxC r6
  clear M6 D6 H6 R6
  go_region_with (go_at_call 50; refine (l1DrawInt _ B c a len cap (unhide HH) hc6').mono ?_; rintro e W7 ⟨v, rfl, v0, v1, H7, S7⟩; have k7 := S7.box k6 hz.2; have r7 := S7.box r6 (by omega); have C7 : Below w.heap.size w W7 := C6.trans (S7.below (by omega) C6.size); have HR7 := hide ((unhide HR).block (S7.block g (unhide HR).parts.2.1 (by have := (unhide HR).parts.1; omega))); have c7 := boxC k7; have s7 := boxC r7; have f7 := boxF r7; have r8 := (fun (x0 x1 : Value) => boxC (box_set2 r7 x0 x1)); clear S7 H7)
  all_goals (
    go_wp2
    refine bodyPost_ret (v := .tuple #[.agg #[.bool D, .int .i64 S], .slice (some ⟨g, 0, none⟩) n x, .int .i64 t, .int .i64 v]) (by simp [results, Try.results20, go_sem, r8]) rfl ?_
    exact ⟨D, S, g, n, x, f, t, v, rfl, ((HR7.out.keep (wrote_set2 _ _ _ _) (fun o e => by have := HR7.out.parts.1; omega)).mono (by omega)), t1, C7.trans (below_set2 _ _ _ _)⟩)
set_option maxHeartbeats 1000000 in
theorem drawPadRead (w : World) (B : Nat) (a : Option Addr) (len cap : Nat) (hB : B ≤ w.heap.size) (H : Code w B a len) :
    Calls Try.prog 29 #[.slice a len cap] w fun e w' => ∃ (D : Bool) (S : Int) (g n x : Nat) (f : Nat → Int) (t : Int), e = .returned (.tuple #[.agg #[.bool D, .int .i64 S], .slice (some ⟨g, 0, none⟩) n x, .int .i64 t]) ∧ Row w' w.heap.size g n x f ∧ t ≤ 9223372036854775807 ∧ Below w.heap.size w w' := by
  have r0 := box_new w #[.bool false, .int .i64 0] 40
  have L0 : Below w.heap.size w (w.alloc (.cells #[.bool false, .int .i64 0] 40)) := (Below.refl _ _).alloc (Nat.le_refl _) _
  go_enter Try.func29, Try.ntmps29
  go_wp2_with fail
  generalize w.alloc (.cells #[.bool false, .int .i64 0] 40) = W0 at *
  refine (drawPadWrite _ B a len cap (Nat.le_trans hB L0.size) (H.keep (L0.mono hB))).mono ?_
  rintro e W1 ⟨D, S, g, n, x, f, t, v, rfl, R1, t1, L1⟩
  have r1 := box_keep r0 L1 (boxLt r0)
  have C1 := below_snoc L0 L1
  have hw0 : w.heap.size < W0.heap.size := boxLt r0
  have LA1 : Below W1.heap.size W1 (W1.alloc (.cells #[.bool D, .int .i64 S] 40)) := (Below.refl _ _).alloc (Nat.le_refl _) _
  have k2 := box_new W1 #[.bool D, .int .i64 S] 40
  have r2 := box_keep r1 LA1 (boxLt r1)
  have C2 := below_snoc C1 LA1
  have R2 := R1.below LA1
  clear L0 L1 r0 r1 C1 R1 LA1
  go_upto_region 2 with (fail)
  obtain ⟨z, hzz⟩ : ∃ z, Hid (z = W1.heap.size) := ⟨_, rfl⟩
  generalize W1.alloc (.cells #[.bool D, .int .i64 S] 40) = W2 at *
  rw [← hzz.out] at k2 ⊢
  clear hzz
  have HR := hide R2
  have hg := R2.parts.1
  have ck := boxC k2
  have cr := boxC r2
  have fr := boxF r2
  have r8 := (fun (x0 x1 : Value) => boxC (box_set2 r2 x0 x1))
  clear R2
  go_wp2
  refine bodyPost_ret (v := .tuple #[.agg #[.bool D, .int .i64 S], .slice (some ⟨g, 0, none⟩) n x, .int .i64 t]) (by simp [results, Try.results29, go_sem, r8]) rfl ?_
  exact ⟨D, S, g, n, x, f, t, rfl, ((HR.out.keep (wrote_set2 _ _ _ _) (fun o e => by omega)).mono (by omega)), t1, C2.trans (below_set2 _ _ _ _)⟩
end Go.Proofs.Ytpaedkefmebjjag
