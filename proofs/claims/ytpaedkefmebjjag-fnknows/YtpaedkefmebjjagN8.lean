/-
  Chapter 8 in numbers: what is right stays right.
-/
import Derived.Test.YtpaedkefmebjjagX8
namespace Go.Proofs.Ytpaedkefmebjjag
set_option linter.unusedVariables false
open Go.ChangeShapes Go.WideShapes Go.ChangeAt Go.RowKit
theorem xor63 (x y : Int) (x0 : 0 ≤ x) (x1 : x ≤ 63) (y0 : 0 ≤ y) (y1 : y ≤ 63) : 0 ≤ bits .xor .i64 x y ∧ bits .xor .i64 x y ≤ 63 := by
  have key : ∀ a b : Fin 64, 0 ≤ bits .xor .i64 ((a.val : Nat) : Int) ((b.val : Nat) : Int) ∧ bits .xor .i64 ((a.val : Nat) : Int) ((b.val : Nat) : Int) ≤ 63 := by decide +kernel
  obtain ⟨a, rfl⟩ : ∃ a : Nat, x = a := ⟨x.toNat, by omega⟩
  obtain ⟨b, rfl⟩ : ∃ b : Nat, y = b := ⟨y.toNat, by omega⟩
  exact key ⟨a, by omega⟩ ⟨b, by omega⟩
section
variable {t c s ad pl : Int} {n : Nat} {f : Nat → Int} {m : Nat} {g : Nat → Int}
theorem okPpu_is (h : IsPpu t c s ad pl n f m g) : okPpu t c s ad pl n f m g = true :=
  okPpu_yes (inB_yes ⟨h.t0, h.t1⟩) (inB_yes ⟨h.c0, h.c1⟩) (inB_yes ⟨h.s0, h.s1⟩) (inB_yes ⟨h.a0, h.a1⟩) (inB_yes ⟨h.p0, h.p1⟩) h.n16 h.dots h.tab h.dot
theorem dotV_in (h : IsPpu t c s ad pl n f m g) (a : Int) : 0 ≤ dotV f s pl a ∧ dotV f s pl a ≤ 63 := by
  have h1 := h.tab ((a % 8 + s + a / 8) % 16).toNat (by have := h.n16; omega)
  exact xor63 _ _ h1.1 h1.2 h.p0 h.p1
theorem isPpu_new (g : Nat → Int) : IsPpu 0 0 0 0 0 16 (fun _ => 0) 0 g :=
  ⟨by omega, by omega, by omega, by omega, by omega, by omega, by omega, by omega, by omega, by omega, rfl, rfl, fun _ _ => ⟨by omega, by omega⟩, fun j hj => absurd hj (Nat.not_lt_zero _)⟩
theorem isPpu_write (h : IsPpu t c s ad pl n f m g) (reg v : Int) : IsPpu t (wrC true reg v c) (wrS true reg v s) (wrA true reg v ad) (wrP true reg v pl) n (wrT true reg v ad f) m g := by
  have hc : 0 ≤ wrC true reg v c ∧ wrC true reg v c ≤ 255 := by unfold wrC; split; omega; exact ⟨h.c0, h.c1⟩
  have hs : 0 ≤ wrS true reg v s ∧ wrS true reg v s ≤ 255 := by unfold wrS; split; omega; exact ⟨h.s0, h.s1⟩
  have ha : 0 ≤ wrA true reg v ad ∧ wrA true reg v ad ≤ 15 := by unfold wrA; split; omega; split; omega; exact ⟨h.a0, h.a1⟩
  have hp : 0 ≤ wrP true reg v pl ∧ wrP true reg v pl ≤ 63 := by unfold wrP; split; omega; exact ⟨h.p0, h.p1⟩
  refine ⟨h.t0, h.t1, hc.1, hc.2, hs.1, hs.2, ha.1, ha.2, hp.1, hp.2, h.n16, h.dots, fun j hj => ?_, h.dot⟩
  unfold wrT
  split
  · show 0 ≤ (if j = ad.toNat then v % 256 % 64 else f j) ∧ (if j = ad.toNat then v % 256 % 64 else f j) ≤ 63
    split
    · omega
    · exact h.tab j hj
  · exact h.tab j hj
theorem isPpu_tick (h : IsPpu t c s ad pl n f m g) : IsPpu (tkT t) c s ad pl n f (tkM t m) (tkG t f s pl m g) := by
  have hd := h.dots
  have t0 := h.t0
  have t1 := h.t1
  unfold dotsN at hd
  by_cases e : t = 20000
  · unfold tkT tkM tkG
    rw [if_pos e, if_pos e, if_pos e]
    exact h
  · have e1 : tkT t = t + 1 := if_neg e
    have e2 : tkM t m = if t % 64 < 48 then m + 1 else if t % 64 = 48 then 0 else m := if_neg e
    have e3 : tkG t f s pl m g = if t % 64 < 48 then snoc g m (dotV f s pl (t % 64)) else g := if_neg e
    have hdots : ((tkM t m : Nat) : Int) = dotsN (tkT t) := by
      rw [e1, e2]
      unfold dotsN
      split
      · rename_i a
        rw [if_neg (by omega)] at hd
        rw [if_neg (by omega)]
        omega
      · split
        · rw [if_pos (by omega)]; rfl
        · rw [if_pos (by omega)] at hd
          by_cases b : t % 64 = 63
          · rw [if_neg (by omega)]; omega
          · rw [if_pos (by omega)]; omega
    refine ⟨by omega, by omega, h.c0, h.c1, h.s0, h.s1, h.a0, h.a1, h.p0, h.p1, h.n16, hdots, h.tab, fun j hj => ?_⟩
    rw [e2] at hj
    rw [e3]
    split
    · rename_i a
      rw [if_pos a] at hj
      unfold snoc
      split
      · exact dotV_in h _
      · exact h.dot j (by omega)
    · rename_i a
      rw [if_neg a] at hj
      split at hj
      · exact absurd hj (Nat.not_lt_zero _)
      · exact h.dot j hj
end
end Go.Proofs.Ytpaedkefmebjjag
