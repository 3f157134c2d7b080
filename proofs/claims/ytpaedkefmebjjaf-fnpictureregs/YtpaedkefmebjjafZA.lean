/-
  The draws of chapter 8: a picture unit and numbers.
-/
import Derived.Test.YtpaedkefmebjjafZ9
namespace Go.Proofs.Ytpaedkefmebjjaf
set_option linter.unusedVariables false
set_option linter.unusedSimpArgs false
open Go.ChangeShapes Go.WideShapes Go.ChangeAt Go.RowKit
theorem SlOn.step {c : Nat} {W W' : World} {D : Nat → Prop} {a : Option Addr} {n : Nat} {f : Nat → Int} (h : SlOn W D a n f) (S : Step c W W') (hd : ∀ b, D b → b ≠ c) : SlOn W' D a n f := by
  have key : ∀ b o, Foot a n b o → W'.heap[b]? = W.heap[b]? := fun b o hf => S.block b (h.free b o hf).1 (hd b (h.on b o hf))
  refine ⟨h.small, fun i hi => ?_, fun b o hf => ?_, h.on⟩
  · obtain ⟨b, off, rfl, hc⟩ := h.row i hi
    refine ⟨b, off, rfl, ?_⟩
    have e := key b (off + i) (foot_at hi)
    rw [← hc]
    simp [World.cell?, e]
  · have e := key b o hf
    have h1 := h.free b o hf
    exact ⟨Nat.lt_of_lt_of_le h1.1 S.size, by rw [← h1.2]; simp [World.frozen?, e]⟩
theorem PpuOn.step {c0 : Nat} {W W' : World} {D : Nat → Prop} {v : Value} {t c s ad pl : Int} {bl : Bool} {n m : Nat} {f g : Nat → Int} (h : PpuOn W D v t c s ad pl bl n f m g) (S : Step c0 W W') (hd : ∀ b, D b → b ≠ c0) : PpuOn W' D v t c s ad pl bl n f m g := by
  obtain ⟨a, x, b, y, e, h1, h2, h3⟩ := h
  exact ⟨a, x, b, y, e, h1.step S hd, h2.step S hd, h3⟩
set_option maxHeartbeats 2000000 in
theorem drawDot (w : World) (B : Nat) (a : Option Addr) (len cap : Nat) (hB : B ≤ w.heap.size) (H : Code w B a len) :
    Calls Try.prog 14 #[.slice a len cap] w fun e w' => ∃ v k, e = .returned (.tuple #[v, .int .i64 k]) ∧ -1 ≤ k ∧ k < 50 ∧ PpuNew w w' v := by
  have L0 : Below w.heap.size w (w.alloc (.cells #[.int .i64 0, .int .i64 0, .int .i64 0, .int .i64 0, .int .i64 0, .bool false, .slice none 0 0, .slice none 0 0] 26)) := (Below.refl _ _).alloc (Nat.le_refl _) _
  have k0 := box_new w #[.int .i64 0, .int .i64 0, .int .i64 0, .int .i64 0, .int .i64 0, .bool false, .slice none 0 0, .slice none 0 0] 26
  go_enter Try.func14, Try.ntmps14
  go_wp2_with fail
  have hs0 : (w.alloc (.cells #[.int .i64 0, .int .i64 0, .int .i64 0, .int .i64 0, .int .i64 0, .bool false, .slice none 0 0, .slice none 0 0] 26)).heap.size = w.heap.size + 1 := by simp
  generalize w.alloc (.cells #[.int .i64 0, .int .i64 0, .int .i64 0, .int .i64 0, .int .i64 0, .bool false, .slice none 0 0, .slice none 0 0] 26) = W0 at *
  refine (l1New _ B a len cap (by omega) (H.keep (L0.mono hB))).mono ?_
  rintro e W1 ⟨rfl, H1, L1, s1⟩
  rw [hs0] at H1 L1 s1 ⊢
  have C1 : Below w.heap.size w W1 := L0.trans (L1.mono (by omega))
  have k1 := box_keep k0 L1 (by omega)
  clear L0 L1 k0
  go_wp2_with fail
  refine (l8Draw _ B _ a len cap H1 (by omega)).mono ?_
  rintro e W2 ⟨v, rfl, ⟨t, cc, s, ad, pl, bl, n, f, m, g, U⟩, H2, S2⟩
  have k2 := (S2.block w.heap.size (by omega) (by omega)).trans k1
  have C2 : Below w.heap.size w W2 := C1.trans (S2.below (by omega) (by omega))
  obtain ⟨a1, x1, a2, x2, rfl⟩ := U.two
  have hs2 : w.heap.size + 1 < W2.heap.size := by have := S2.size; omega
  have LA : Below W2.heap.size W2 (W2.alloc (.cells #[.int .i64 t, .int .i64 cc, .int .i64 s, .int .i64 ad, .int .i64 pl, .bool bl, .slice a1 n x1, .slice a2 m x2] 26)) := (Below.refl _ _).alloc (Nat.le_refl _) _
  have k3 := boxA k2 (.cells #[.int .i64 t, .int .i64 cc, .int .i64 s, .int .i64 ad, .int .i64 pl, .bool bl, .slice a1 n x1, .slice a2 m x2] 26)
  have x3 := box_new W2 #[.int .i64 t, .int .i64 cc, .int .i64 s, .int .i64 ad, .int .i64 pl, .bool bl, .slice a1 n x1, .slice a2 m x2] 26
  have C3 := below_snoc C2 LA
  have H3 := H2.below LA hs2
  have U3 := (U.mono (E := fun b => w.heap.size + 1 < b ∧ b ≠ W2.heap.size) (fun b hb h => by omega)).below LA
  have hs3 : w.heap.size + 1 < (W2.alloc (.cells #[.int .i64 t, .int .i64 cc, .int .i64 s, .int .i64 ad, .int .i64 pl, .bool bl, .slice a1 n x1, .slice a2 m x2] 26)).heap.size := Nat.lt_of_lt_of_le hs2 LA.size
  clear U H2 S2 k2 C2 H1 k1 C1 LA hs0
  go_upto_region 3 with (fail)
  generalize W2.alloc (.cells #[.int .i64 t, .int .i64 cc, .int .i64 s, .int .i64 ad, .int .i64 pl, .bool bl, .slice a1 n x1, .slice a2 m x2] 26) = W3 at *
  generalize W2.heap.size = z at *
  have kk3 : W3.drew.heap[w.heap.size]? = _ := k3
  have xx3 : W3.drew.heap[z]? = _ := x3
  have UU3 := U3.below (show Below W3.heap.size W3 W3.drew from ⟨rfl, rfl, rfl, Nat.le_refl _, fun _ _ => rfl⟩)
  have CC3 := below_snoc C3 (show Below W3.heap.size W3 W3.drew from ⟨rfl, rfl, rfl, Nat.le_refl _, fun _ _ => rfl⟩)
  have hs4 : w.heap.size + 1 < W3.drew.heap.size := hs3
  have zlt : z < W3.drew.heap.size := boxLt xx3
  have zgt : w.heap.size + 1 < z := hs2
  have c3 := boxC x3
  have CALL : Calls Try.prog 47 #[.pointer (some ⟨w.heap.size + 1, 0, none⟩), .int .i64 51] W3.drew fun e W4 => ∃ nn : Int, e = .returned (.int .i64 nn) ∧ 0 ≤ nn ∧ nn < 51 ∧ W4.heap[w.heap.size]? = some (.cells #[.int .i64 0, .int .i64 0, .int .i64 0, .int .i64 0, .int .i64 0, .bool false, .slice none 0 0, .slice none 0 0] 26 (0, 0)) ∧ W4.heap[z]? = some (.cells #[.int .i64 t, .int .i64 cc, .int .i64 s, .int .i64 ad, .int .i64 pl, .bool bl, .slice a1 n x1, .slice a2 m x2] 26 (0, 0)) ∧ PpuOn W4 (fun b => w.heap.size + 1 < b ∧ b ≠ z) (.agg #[.int .i64 t, .int .i64 cc, .int .i64 s, .int .i64 ad, .int .i64 pl, .bool bl, .slice a1 n x1, .slice a2 m x2]) t cc s ad pl bl n f m g ∧ Below w.heap.size w W4 := by
    refine (l1Below _ B _ a len cap (H3.drewN 1) 51).mono ?_
    rintro e W4 ⟨nn, rfl, n0, n1, H4, SS⟩
    have S4 : Step (w.heap.size + 1) W3.drew W4 := SS.step
    exact ⟨nn, rfl, by omega, by omega, (S4.block w.heap.size (by omega) (by omega)).trans kk3, (S4.block z (by omega) (by omega)).trans xx3, UU3.step S4 (fun b hb => by omega), CC3.trans (S4.below (by omega) (by omega))⟩
  go_region_with ((go_at_call 47; refine CALL.mono ?_; rintro e W4 ⟨nn, rfl, n0, n1, k4, x4, U4, C4⟩; have wn : IntKind.i64.wrap (nn - 1) = nn - 1 := (by rw [IntKind.wrap_i64]; omega); have c4 := boxC k4; have f4 := boxF k4; have y4 := boxC x4))
  all_goals
    have END : Hid (∀ W5, Wrote (fun b _ => b = w.heap.size) W4 W5 → PpuNew w W5 (.agg #[.int .i64 t, .int .i64 cc, .int .i64 s, .int .i64 ad, .int .i64 pl, .bool bl, .slice a1 n x1, .slice a2 m x2])) := fun W5 WX =>
      ⟨⟨t, cc, s, ad, pl, bl, n, f, m, g, (U4.keep WX (fun b o hb _ e => by omega)).mono (fun b _ hb => by omega)⟩, C4.trans (WX.below C4.size (fun b o hb e => by omega))⟩
    clear U4 C4 k4 x4
    go_wp2
    refine bodyPost_ret (v := .tuple #[.agg #[.int .i64 t, .int .i64 cc, .int .i64 s, .int .i64 ad, .int .i64 pl, .bool bl, .slice a1 n x1, .slice a2 m x2], .int .i64 (nn - 1)]) (by simp [results, Try.results14, go_sem, c4]) rfl ?_
    refine ⟨_, _, rfl, by omega, by omega, END.out _ ?_⟩
    repeat (first | with_reducible exact Wrote.refl _ _ | with_reducible refine Wrote.drew ?_ | with_reducible refine Wrote.setCell ?_ (fun _ => by omega) _)
set_option maxHeartbeats 2000000 in
theorem drawPpuRead (w : World) (B : Nat) (a : Option Addr) (len cap : Nat) (hB : B ≤ w.heap.size) (H : Code w B a len) :
    Calls Try.prog 20 #[.slice a len cap] w fun e w' => ∃ v k, e = .returned (.tuple #[v, .int .i64 k]) ∧ -1 ≤ k ∧ k < 8 ∧ PpuNew w w' v := by
  have L0 : Below w.heap.size w (w.alloc (.cells #[.int .i64 0, .int .i64 0, .int .i64 0, .int .i64 0, .int .i64 0, .bool false, .slice none 0 0, .slice none 0 0] 26)) := (Below.refl _ _).alloc (Nat.le_refl _) _
  have k0 := box_new w #[.int .i64 0, .int .i64 0, .int .i64 0, .int .i64 0, .int .i64 0, .bool false, .slice none 0 0, .slice none 0 0] 26
  go_enter Try.func20, Try.ntmps20
  go_wp2_with fail
  have hs0 : (w.alloc (.cells #[.int .i64 0, .int .i64 0, .int .i64 0, .int .i64 0, .int .i64 0, .bool false, .slice none 0 0, .slice none 0 0] 26)).heap.size = w.heap.size + 1 := by simp
  generalize w.alloc (.cells #[.int .i64 0, .int .i64 0, .int .i64 0, .int .i64 0, .int .i64 0, .bool false, .slice none 0 0, .slice none 0 0] 26) = W0 at *
  refine (l1New _ B a len cap (by omega) (H.keep (L0.mono hB))).mono ?_
  rintro e W1 ⟨rfl, H1, L1, s1⟩
  rw [hs0] at H1 L1 s1 ⊢
  have C1 : Below w.heap.size w W1 := L0.trans (L1.mono (by omega))
  have k1 := box_keep k0 L1 (by omega)
  clear L0 L1 k0
  go_wp2_with fail
  refine (l8Draw _ B _ a len cap H1 (by omega)).mono ?_
  rintro e W2 ⟨v, rfl, ⟨t, cc, s, ad, pl, bl, n, f, m, g, U⟩, H2, S2⟩
  have k2 := (S2.block w.heap.size (by omega) (by omega)).trans k1
  have C2 : Below w.heap.size w W2 := C1.trans (S2.below (by omega) (by omega))
  obtain ⟨a1, x1, a2, x2, rfl⟩ := U.two
  have hs2 : w.heap.size + 1 < W2.heap.size := by have := S2.size; omega
  have LA : Below W2.heap.size W2 (W2.alloc (.cells #[.int .i64 t, .int .i64 cc, .int .i64 s, .int .i64 ad, .int .i64 pl, .bool bl, .slice a1 n x1, .slice a2 m x2] 26)) := (Below.refl _ _).alloc (Nat.le_refl _) _
  have k3 := boxA k2 (.cells #[.int .i64 t, .int .i64 cc, .int .i64 s, .int .i64 ad, .int .i64 pl, .bool bl, .slice a1 n x1, .slice a2 m x2] 26)
  have x3 := box_new W2 #[.int .i64 t, .int .i64 cc, .int .i64 s, .int .i64 ad, .int .i64 pl, .bool bl, .slice a1 n x1, .slice a2 m x2] 26
  have C3 := below_snoc C2 LA
  have H3 := H2.below LA hs2
  have U3 := (U.mono (E := fun b => w.heap.size + 1 < b ∧ b ≠ W2.heap.size) (fun b hb h => by omega)).below LA
  have hs3 : w.heap.size + 1 < (W2.alloc (.cells #[.int .i64 t, .int .i64 cc, .int .i64 s, .int .i64 ad, .int .i64 pl, .bool bl, .slice a1 n x1, .slice a2 m x2] 26)).heap.size := Nat.lt_of_lt_of_le hs2 LA.size
  clear U H2 S2 k2 C2 H1 k1 C1 LA hs0
  go_upto_region 3 with (fail)
  generalize W2.alloc (.cells #[.int .i64 t, .int .i64 cc, .int .i64 s, .int .i64 ad, .int .i64 pl, .bool bl, .slice a1 n x1, .slice a2 m x2] 26) = W3 at *
  generalize W2.heap.size = z at *
  have kk3 : W3.drew.heap[w.heap.size]? = _ := k3
  have xx3 : W3.drew.heap[z]? = _ := x3
  have UU3 := U3.below (show Below W3.heap.size W3 W3.drew from ⟨rfl, rfl, rfl, Nat.le_refl _, fun _ _ => rfl⟩)
  have CC3 := below_snoc C3 (show Below W3.heap.size W3 W3.drew from ⟨rfl, rfl, rfl, Nat.le_refl _, fun _ _ => rfl⟩)
  have hs4 : w.heap.size + 1 < W3.drew.heap.size := hs3
  have zlt : z < W3.drew.heap.size := boxLt xx3
  have zgt : w.heap.size + 1 < z := hs2
  have c3 := boxC x3
  have CALL : Calls Try.prog 47 #[.pointer (some ⟨w.heap.size + 1, 0, none⟩), .int .i64 9] W3.drew fun e W4 => ∃ nn : Int, e = .returned (.int .i64 nn) ∧ 0 ≤ nn ∧ nn < 9 ∧ W4.heap[w.heap.size]? = some (.cells #[.int .i64 0, .int .i64 0, .int .i64 0, .int .i64 0, .int .i64 0, .bool false, .slice none 0 0, .slice none 0 0] 26 (0, 0)) ∧ W4.heap[z]? = some (.cells #[.int .i64 t, .int .i64 cc, .int .i64 s, .int .i64 ad, .int .i64 pl, .bool bl, .slice a1 n x1, .slice a2 m x2] 26 (0, 0)) ∧ PpuOn W4 (fun b => w.heap.size + 1 < b ∧ b ≠ z) (.agg #[.int .i64 t, .int .i64 cc, .int .i64 s, .int .i64 ad, .int .i64 pl, .bool bl, .slice a1 n x1, .slice a2 m x2]) t cc s ad pl bl n f m g ∧ Below w.heap.size w W4 := by
    refine (l1Below _ B _ a len cap (H3.drewN 1) 9).mono ?_
    rintro e W4 ⟨nn, rfl, n0, n1, H4, SS⟩
    have S4 : Step (w.heap.size + 1) W3.drew W4 := SS.step
    exact ⟨nn, rfl, by omega, by omega, (S4.block w.heap.size (by omega) (by omega)).trans kk3, (S4.block z (by omega) (by omega)).trans xx3, UU3.step S4 (fun b hb => by omega), CC3.trans (S4.below (by omega) (by omega))⟩
  go_region_with ((go_at_call 47; refine CALL.mono ?_; rintro e W4 ⟨nn, rfl, n0, n1, k4, x4, U4, C4⟩; have wn : IntKind.i64.wrap (nn - 1) = nn - 1 := (by rw [IntKind.wrap_i64]; omega); have c4 := boxC k4; have f4 := boxF k4; have y4 := boxC x4))
  all_goals
    have END : Hid (∀ W5, Wrote (fun b _ => b = w.heap.size) W4 W5 → PpuNew w W5 (.agg #[.int .i64 t, .int .i64 cc, .int .i64 s, .int .i64 ad, .int .i64 pl, .bool bl, .slice a1 n x1, .slice a2 m x2])) := fun W5 WX =>
      ⟨⟨t, cc, s, ad, pl, bl, n, f, m, g, (U4.keep WX (fun b o hb _ e => by omega)).mono (fun b _ hb => by omega)⟩, C4.trans (WX.below C4.size (fun b o hb e => by omega))⟩
    clear U4 C4 k4 x4
    go_wp2
    refine bodyPost_ret (v := .tuple #[.agg #[.int .i64 t, .int .i64 cc, .int .i64 s, .int .i64 ad, .int .i64 pl, .bool bl, .slice a1 n x1, .slice a2 m x2], .int .i64 (nn - 1)]) (by simp [results, Try.results20, go_sem, c4]) rfl ?_
    refine ⟨_, _, rfl, by omega, by omega, END.out _ ?_⟩
    repeat (first | with_reducible exact Wrote.refl _ _ | with_reducible refine Wrote.drew ?_ | with_reducible refine Wrote.setCell ?_ (fun _ => by omega) _)
set_option maxHeartbeats 2000000 in
theorem drawPpuWrite (w : World) (B : Nat) (a : Option Addr) (len cap : Nat) (hB : B ≤ w.heap.size) (H : Code w B a len) :
    Calls Try.prog 18 #[.slice a len cap] w fun e w' => ∃ v k x, e = .returned (.tuple #[v, .int .i64 k, .int .i64 x]) ∧ -1 ≤ k ∧ k < 8 ∧ PpuNew w w' v := by
  have L0 : Below w.heap.size w (w.alloc (.cells #[.int .i64 0, .int .i64 0, .int .i64 0, .int .i64 0, .int .i64 0, .bool false, .slice none 0 0, .slice none 0 0] 26)) := (Below.refl _ _).alloc (Nat.le_refl _) _
  have k0 := box_new w #[.int .i64 0, .int .i64 0, .int .i64 0, .int .i64 0, .int .i64 0, .bool false, .slice none 0 0, .slice none 0 0] 26
  go_enter Try.func18, Try.ntmps18
  go_wp2_with fail
  have hs0 : (w.alloc (.cells #[.int .i64 0, .int .i64 0, .int .i64 0, .int .i64 0, .int .i64 0, .bool false, .slice none 0 0, .slice none 0 0] 26)).heap.size = w.heap.size + 1 := by simp
  generalize w.alloc (.cells #[.int .i64 0, .int .i64 0, .int .i64 0, .int .i64 0, .int .i64 0, .bool false, .slice none 0 0, .slice none 0 0] 26) = W0 at *
  refine (l1New _ B a len cap (by omega) (H.keep (L0.mono hB))).mono ?_
  rintro e W1 ⟨rfl, H1, L1, s1⟩
  rw [hs0] at H1 L1 s1 ⊢
  have C1 : Below w.heap.size w W1 := L0.trans (L1.mono (by omega))
  have k1 := box_keep k0 L1 (by omega)
  clear L0 L1 k0
  go_wp2_with fail
  refine (l8Draw _ B _ a len cap H1 (by omega)).mono ?_
  rintro e W2 ⟨v, rfl, ⟨t, cc, s, ad, pl, bl, n, f, m, g, U⟩, H2, S2⟩
  have k2 := (S2.block w.heap.size (by omega) (by omega)).trans k1
  have C2 : Below w.heap.size w W2 := C1.trans (S2.below (by omega) (by omega))
  obtain ⟨a1, x1, a2, x2, rfl⟩ := U.two
  have hs2 : w.heap.size + 1 < W2.heap.size := by have := S2.size; omega
  have LA : Below W2.heap.size W2 (W2.alloc (.cells #[.int .i64 t, .int .i64 cc, .int .i64 s, .int .i64 ad, .int .i64 pl, .bool bl, .slice a1 n x1, .slice a2 m x2] 26)) := (Below.refl _ _).alloc (Nat.le_refl _) _
  have k3 := boxA k2 (.cells #[.int .i64 t, .int .i64 cc, .int .i64 s, .int .i64 ad, .int .i64 pl, .bool bl, .slice a1 n x1, .slice a2 m x2] 26)
  have x3 := box_new W2 #[.int .i64 t, .int .i64 cc, .int .i64 s, .int .i64 ad, .int .i64 pl, .bool bl, .slice a1 n x1, .slice a2 m x2] 26
  have C3 := below_snoc C2 LA
  have H3 := H2.below LA hs2
  have U3 := (U.mono (E := fun b => w.heap.size + 1 < b ∧ b ≠ W2.heap.size) (fun b hb h => by omega)).below LA
  have hs3 : w.heap.size + 1 < (W2.alloc (.cells #[.int .i64 t, .int .i64 cc, .int .i64 s, .int .i64 ad, .int .i64 pl, .bool bl, .slice a1 n x1, .slice a2 m x2] 26)).heap.size := Nat.lt_of_lt_of_le hs2 LA.size
  clear U H2 S2 k2 C2 H1 k1 C1 LA hs0
  go_upto_region 3 with (fail)
  generalize W2.alloc (.cells #[.int .i64 t, .int .i64 cc, .int .i64 s, .int .i64 ad, .int .i64 pl, .bool bl, .slice a1 n x1, .slice a2 m x2] 26) = W3 at *
  generalize W2.heap.size = z at *
  have zlt0 : z < W3.heap.size := boxLt x3
  have zgt : w.heap.size + 1 < z := hs2
  go_wp2_with fail
  refine (l1Below _ B _ a len cap H3 9).mono ?_
  rintro e W6 ⟨rg, rfl, r0, r1, H6, SS⟩
  have S6 : Step (w.heap.size + 1) W3 W6 := SS.step
  have k6 : W6.heap[w.heap.size]? = some (.cells #[.int .i64 0, .int .i64 0, .int .i64 0, .int .i64 0, .int .i64 0, .bool false, .slice none 0 0, .slice none 0 0] 26 (0, 0)) := (S6.block w.heap.size (by omega) (by omega)).trans k3
  have x6 : W6.heap[z]? = some (.cells #[.int .i64 t, .int .i64 cc, .int .i64 s, .int .i64 ad, .int .i64 pl, .bool bl, .slice a1 n x1, .slice a2 m x2] 26 (0, 0)) := (S6.block z (by omega) (by omega)).trans x3
  have U6 := U3.step S6 (fun b hb => by omega)
  have C6 := C3.trans (S6.below (by omega) (by omega))
  have hs6 : w.heap.size + 1 < W6.heap.size := by have := S6.size; omega
  clear k3 x3 U3 C3 SS S6 H3
  have kk3 : W6.drew.heap[w.heap.size]? = _ := k6
  have xx3 : W6.drew.heap[z]? = _ := x6
  have UU3 := U6.below (show Below W6.heap.size W6 W6.drew from ⟨rfl, rfl, rfl, Nat.le_refl _, fun _ _ => rfl⟩)
  have CC3 := below_snoc C6 (show Below W6.heap.size W6 W6.drew from ⟨rfl, rfl, rfl, Nat.le_refl _, fun _ _ => rfl⟩)
  have hs4 : w.heap.size + 1 < W6.drew.heap.size := hs6
  have zlt : z < W6.drew.heap.size := boxLt xx3
  have c3 := boxC x6
  have CALL : Calls Try.prog 51 #[.pointer (some ⟨w.heap.size + 1, 0, none⟩)] W6.drew fun e W4 => ∃ nn : Int, e = .returned (.int .i64 nn) ∧ W4.heap[w.heap.size]? = some (.cells #[.int .i64 0, .int .i64 0, .int .i64 0, .int .i64 0, .int .i64 0, .bool false, .slice none 0 0, .slice none 0 0] 26 (0, 0)) ∧ W4.heap[z]? = some (.cells #[.int .i64 t, .int .i64 cc, .int .i64 s, .int .i64 ad, .int .i64 pl, .bool bl, .slice a1 n x1, .slice a2 m x2] 26 (0, 0)) ∧ PpuOn W4 (fun b => w.heap.size + 1 < b ∧ b ≠ z) (.agg #[.int .i64 t, .int .i64 cc, .int .i64 s, .int .i64 ad, .int .i64 pl, .bool bl, .slice a1 n x1, .slice a2 m x2]) t cc s ad pl bl n f m g ∧ Below w.heap.size w W4 := by
    refine (l1DrawInt _ B _ a len cap (H6.drewN 1) hs4).mono ?_
    rintro e W4 ⟨nn, rfl, n0, n1, H4, SS⟩
    have S4 : Step (w.heap.size + 1) W6.drew W4 := SS
    exact ⟨nn, rfl, (S4.block w.heap.size (by omega) (by omega)).trans kk3, (S4.block z (by omega) (by omega)).trans xx3, UU3.step S4 (fun b hb => by omega), CC3.trans (S4.below (by omega) (by omega))⟩
  go_upto_region 4 with (fail)
  go_region_with ((go_at_call 51; refine CALL.mono ?_; rintro e W4 ⟨nn, rfl, k4, x4, U4, C4⟩; have c4 := boxC k4; have f4 := boxF k4; have y4 := boxC x4))
  all_goals
    have END : Hid (∀ W5, Wrote (fun b _ => b = w.heap.size) W4 W5 → PpuNew w W5 (.agg #[.int .i64 t, .int .i64 cc, .int .i64 s, .int .i64 ad, .int .i64 pl, .bool bl, .slice a1 n x1, .slice a2 m x2])) := fun W5 WX =>
      ⟨⟨t, cc, s, ad, pl, bl, n, f, m, g, (U4.keep WX (fun b o hb _ e => by omega)).mono (fun b _ hb => by omega)⟩, C4.trans (WX.below C4.size (fun b o hb e => by omega))⟩
    clear U4 C4 k4 x4
    go_wp2
    refine bodyPost_ret (v := .tuple #[.agg #[.int .i64 t, .int .i64 cc, .int .i64 s, .int .i64 ad, .int .i64 pl, .bool bl, .slice a1 n x1, .slice a2 m x2], .int .i64 (rg - 1), .int .i64 nn]) (by simp [results, Try.results18, go_sem, c4]) rfl ?_
    refine ⟨_, _, _, rfl, by omega, by omega, END.out _ ?_⟩
    repeat (first | with_reducible exact Wrote.refl _ _ | with_reducible refine Wrote.drew ?_ | with_reducible refine Wrote.setCell ?_ (fun _ => by omega) _)
end Go.Proofs.Ytpaedkefmebjjaf
