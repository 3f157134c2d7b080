/-
  The program's ImageRead: a file that is an image's is read, others lead to the first fault.
-/
import Derived.Test.YtcfagmbddfcfpafDoorJ2
namespace Go.Proofs.YtcfagmbddfcfpafDoor
open Go.ChangeShapes Go.WideShapes Go.ChangeAt Go.RowKit
structure OwnSS (w : World) (lo : Nat) (v : Value) (m : Nat) (ra : Nat → Option Addr) (ln rc : Nat → Nat) (f : Nat → Nat → Int) : Prop where
  sep : Sep w v m ra ln rc
  rows : ∀ i, i < m → RowOf .i64 w (ra i) (ln i) (f i)
  inner : ∀ i, i < m → ∀ b o, Foot (ra i) (ln i) b o → lo ≤ b
  outer : ∀ a cap, v = .slice a m cap → ∀ b o, Foot a m b o → lo ≤ b
  len : ∀ i, i < m → ln i ≤ 1048576
theorem OwnSS.keep {w w' : World} {lo : Nat} {v : Value} {m : Nat} {ra : Nat → Option Addr} {ln rc : Nat → Nat} {f : Nat → Nat → Int} {R : Nat → Nat → Prop} (h : OwnSS w lo v m ra ln rc f) (hw : Wrote R w w') (hd : ∀ b o, R b o → b < lo) : OwnSS w' lo v m ra ln rc f := by
  obtain ⟨⟨⟨a, cap, hv, hm, ho⟩, hf, hdj, hs⟩, hr, hi, hou, hl⟩ := h
  refine ⟨⟨⟨a, cap, hv, hm, fun i hi' => ?_⟩, fun i hi' => (hf i hi').keep hw, hdj, hs⟩, fun i hi' => (hr i hi').keep hw (fun b o hF hR => ?_), hi, hou, hl⟩
  · obtain ⟨b, off, ha, hc, hn⟩ := ho i hi'
    refine ⟨b, off, ha, ?_, hn⟩
    rw [hw.cell b (off + i) (block_lt_of_cell hc) (fun hR => by have := hd _ _ hR; have := hou a cap hv b (off + i) (by rw [ha]; exact foot_at hi'); omega)]
    exact hc
  · have := hd _ _ hR
    have := hi i hi' b o hF
    omega
theorem OwnSS.ints {w : World} {lo : Nat} {v : Value} {m : Nat} {ra : Nat → Option Addr} {ln rc : Nat → Nat} {f : Nat → Nat → Int} (h : OwnSS w lo v m ra ln rc f) : IntSS .i64 w (fun b _ => lo ≤ b) v m ln f := by
  obtain ⟨⟨⟨a, cap, hv, hm, ho⟩, hf, hdj, hs⟩, hr, hi, hou, hl⟩ := h
  refine ⟨a, cap, hv, hm, fun b o hF => hou a cap hv b o hF, fun i hi' => ?_⟩
  obtain ⟨b, off, ha, hc, hn⟩ := ho i hi'
  exact ⟨b, off, _, ha, hc, ra i, rc i, rfl, hl i hi', hr i hi', fun b o hF => hi i hi' b o hF⟩
theorem OwnSS.nil0 (w : World) (lo : Nat) (ra : Nat → Option Addr) (ln rc : Nat → Nat) (f : Nat → Nat → Int) : OwnSS w lo (.slice none 0 0) 0 ra ln rc f :=
  ⟨⟨⟨_, _, rfl, by omega, fun i hi => absurd hi (Nat.not_lt_zero _)⟩, fun i hi => absurd hi (Nat.not_lt_zero _), fun i j hi => absurd hi (Nat.not_lt_zero _), by simp [psum]⟩, fun i hi => absurd hi (Nat.not_lt_zero _), fun i hi => absurd hi (Nat.not_lt_zero _), fun a cap h b o hF => absurd hF (foot_none _ _ _), fun i hi => absurd hi (Nat.not_lt_zero _)⟩
theorem Bytes.keep {w w' : World} {R : Nat → Nat → Prop} {a : Option Addr} {n : Nat} {f : Nat → Int} (h : Bytes w a n f) (hw : Wrote R w w') (hd : ∀ b o, Foot a n b o → ¬ R b o) : Bytes w' a n f := ⟨h.row.keep hw hd, h.len, h.byte⟩
theorem RowOf.tail {k : IntKind} {w : World} {b off n : Nat} {f : Nat → Int} (h : RowOf k w (some ⟨b, off, none⟩) n f) (q m : Nat) (hq : q + m ≤ n) : RowOf k w (some ⟨b, off + q, none⟩) m (fun j => f (q + j)) := fun i hi => by
  obtain ⟨b', off', e, hc⟩ := h (q + i) (by omega)
  simp only [Option.some.injEq, Addr.mk.injEq, and_true] at e
  obtain ⟨rfl, rfl⟩ := e
  exact ⟨b, off + q, rfl, by rw [Nat.add_assoc]; exact hc⟩
theorem psum_256 (k : Nat) : psum (fun _ => 256) k = 256 * k := by
  induction k with
  | zero => rfl
  | succ k ih => simp only [psum, ih]; omega
end Go.Proofs.YtcfagmbddfcfpafDoor
