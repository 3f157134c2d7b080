/-
  The program's ImageRead: a file that is an image's is read, others lead to the first fault.
-/
import Derived.Test.YtpaedkefmebjjafDoorF2
namespace Go.Proofs.YtpaedkefmebjjafDoor
open Go.ChangeShapes Go.WideShapes Go.ChangeAt Go.RowKit
def body (f : Nat → Int) (j : Nat) : Int := f (6 + j)
def sumC (n : Nat) (f : Nat → Int) : Int := if isum (body f) (n - 6) % 256 = f 5 then 0 else 5
def rdC (n : Nat) (f : Nat → Int) : Int := if headC n f = 0 then (if sizeC n (f 4) = 0 then sumC n f else sizeC n (f 4)) else headC n f
def rdM (n : Nat) (f : Nat → Int) : Nat := if rdC n f = 0 then (f 4).toNat else 0
def rdF (f : Nat → Int) (i j : Nat) : Int := f (6 + 256 * i + j)
theorem sizeC_zero {n : Nat} {c : Int} (h : sizeC n c = 0) : 1 ≤ c ∧ c ≤ 8 ∧ (n : Int) = 6 + c * 256 := by
  unfold sizeC at h
  split at h
  · cases h
  · split at h
    · cases h
    · split at h
      · cases h
      · omega
structure OwnSS (w : World) (lo : Nat) (v : Value) (m : Nat) (ra : Nat → Option Addr) (ln rc : Nat → Nat) (f : Nat → Nat → Int) : Prop where
  sep : Sep w v m ra ln rc
  rows : ∀ i, i < m → RowOf .i64 w (ra i) (ln i) (f i)
  inner : ∀ i, i < m → ∀ b o, Foot (ra i) (ln i) b o → lo ≤ b
  outer : ∀ a cap, v = .slice a m cap → ∀ b o, Foot a m b o → lo ≤ b
  len : ∀ i, i < m → ln i ≤ 1048576
theorem OwnSS.keep {w w' : World} {lo : Nat} {v : Value} {m : Nat} {ra : Nat → Option Addr} {ln rc : Nat → Nat} {f : Nat → Nat → Int} {R : Nat → Nat → Prop} (h : OwnSS w lo v m ra ln rc f) (hw : Wrote R w w') (hd : ∀ b o, R b o → b < lo) : OwnSS w' lo v m ra ln rc f := by
  obtain ⟨⟨⟨a, cap, hv, hm, ho⟩, hf, hdj, hs⟩, hr, hi, hou, hl⟩ := h
  refine ⟨⟨⟨a, cap, hv, hm, fun i hi' => ?_⟩, fun i hi' => (hf i hi').keep hw, hdj, hs⟩, fun i hi' => (hr i hi').keep hw (fun b o hF hR => ?_), hi, hou, hl⟩
  · obtain ⟨b, off, ha, hc, hn⟩ := ho i hi'
    refine ⟨b, off, ha, ?_, hn⟩
    rw [hw.cell b (off + i) (block_lt_of_cell hc) (fun hR => by have := hd _ _ hR; have := hou a cap hv b (off + i) (by rw [ha]; exact foot_at hi'); omega)]
    exact hc
  · have := hd _ _ hR
    have := hi i hi' b o hF
    omega
theorem OwnSS.ints {w : World} {lo : Nat} {v : Value} {m : Nat} {ra : Nat → Option Addr} {ln rc : Nat → Nat} {f : Nat → Nat → Int} (h : OwnSS w lo v m ra ln rc f) : IntSS .i64 w (fun b _ => lo ≤ b) v m ln f := by
  obtain ⟨⟨⟨a, cap, hv, hm, ho⟩, hf, hdj, hs⟩, hr, hi, hou, hl⟩ := h
  refine ⟨a, cap, hv, hm, fun b o hF => hou a cap hv b o hF, fun i hi' => ?_⟩
  obtain ⟨b, off, ha, hc, hn⟩ := ho i hi'
  exact ⟨b, off, _, ha, hc, ra i, rc i, rfl, hl i hi', hr i hi', fun b o hF => hi i hi' b o hF⟩
theorem OwnSS.nil0 (w : World) (lo : Nat) (ra : Nat → Option Addr) (ln rc : Nat → Nat) (f : Nat → Nat → Int) : OwnSS w lo (.slice none 0 0) 0 ra ln rc f :=
  ⟨⟨⟨_, _, rfl, by omega, fun i hi => absurd hi (Nat.not_lt_zero _)⟩, fun i hi => absurd hi (Nat.not_lt_zero _), fun i j hi => absurd hi (Nat.not_lt_zero _), by simp [psum]⟩, fun i hi => absurd hi (Nat.not_lt_zero _), fun i hi => absurd hi (Nat.not_lt_zero _), fun a cap h b o hF => absurd hF (foot_none _ _ _), fun i hi => absurd hi (Nat.not_lt_zero _)⟩
theorem Bytes.keep {w w' : World} {R : Nat → Nat → Prop} {a : Option Addr} {n : Nat} {f : Nat → Int} (h : Bytes w a n f) (hw : Wrote R w w') (hd : ∀ b o, Foot a n b o → ¬ R b o) : Bytes w' a n f := ⟨h.row.keep hw hd, h.len, h.byte⟩
theorem below_drewN (w : World) (d : Nat) : Below w.heap.size w (w.drewN d) := ⟨rfl, rfl, rfl, Nat.le_refl _, fun _ _ => rfl⟩
theorem quiet_same {P : Program} {f : FuncId} {args : Array Value} {w : World} {n : Nat} {v : Value} (h : Calls P f args (w.drewN n) fun e w' => e = .returned v ∧ w' = w.drewN n) : Calls P f args (w.drewN n) fun e w'' => e = .returned v ∧ ∃ m, w'' = w.drewN m :=
  h.mono fun _ _ ⟨he, hw⟩ => ⟨he, n, hw⟩
theorem RowOf.tail {k : IntKind} {w : World} {b off n : Nat} {f : Nat → Int} (h : RowOf k w (some ⟨b, off, none⟩) n f) (q m : Nat) (hq : q + m ≤ n) : RowOf k w (some ⟨b, off + q, none⟩) m (fun j => f (q + j)) := fun i hi => by
  obtain ⟨b', off', e, hc⟩ := h (q + i) (by omega)
  simp only [Option.some.injEq, Addr.mk.injEq, and_true] at e
  obtain ⟨rfl, rfl⟩ := e
  exact ⟨b, off + q, rfl, by rw [Nat.add_assoc]; exact hc⟩
theorem step_if3 (G k j : Nat) : (if j = k then Value.slice (some ⟨G + 2 + k, 0, none⟩) 256 256 else (if j < k then .slice (some ⟨G + 2 + j, 0, none⟩) 256 256 else .slice none 0 0)) = if j < k + 1 then .slice (some ⟨G + 2 + j, 0, none⟩) 256 256 else .slice none 0 0 := by
  by_cases h : j = k
  · subst h; simp
  · by_cases h2 : j < k
    · rw [if_neg h, if_pos h2, if_pos (by omega)]
    · rw [if_neg h, if_neg h2, if_neg (by omega)]
theorem psum_256 (k : Nat) : psum (fun _ => 256) k = 256 * k := by
  induction k with
  | zero => rfl
  | succ k ih => simp only [psum, ih]; omega
theorem own_two {w : World} {lo G m : Nat} {t : TypeId} {f : Nat → Nat → Int} (h : w.rowIs G t m (fun j => if j < m then .slice (some ⟨G + 2 + j, 0, none⟩) 256 256 else .slice none 0 0)) (hi : ∀ i, i < m → w.rowIs (G + 2 + i) 3 256 (fun j => .int .i64 (f i j))) (hlo : lo ≤ G) (hm : m ≤ 8) :
    OwnSS w lo (.slice (some ⟨G, 0, none⟩) m m) m (fun i => some ⟨G + 2 + i, 0, none⟩) (fun _ => 256) (fun _ => 256) f := by
  have hF : ∀ i b o, Foot (some ⟨G + 2 + i, 0, none⟩) 256 b o → b = G + 2 + i := fun i b o hF => by
    obtain ⟨off, e, _⟩ := hF
    simp only [Option.some.injEq, Addr.mk.injEq, and_true] at e
    exact e.1.symm
  refine ⟨⟨⟨_, _, rfl, by omega, fun i hi' => ⟨G, 0, rfl, ?_, fun j hj hf => ?_⟩⟩, fun i hi' b o hf => ?_, fun i j hi' hj hij b o h1 h2 => ?_, by rw [psum_256]; omega⟩, fun i hi' j hj => ⟨_, _, rfl, by rw [Nat.zero_add]; exact (hi i hi').cell hj⟩, fun i hi' b o hf => ?_, fun a cap e b o hf => ?_, fun i hi' => by omega⟩
  · rw [Nat.zero_add, h.cell hi', if_pos hi']
  · have := hF j _ _ hf
    omega
  · have e := hF i _ _ hf
    subst e
    exact ⟨(hi i hi').lt, (hi i hi').frozen o⟩
  · have := hF i _ _ h1
    have := hF j _ _ h2
    omega
  · have := hF i _ _ hf
    omega
  · cases e
    obtain ⟨off, e, _⟩ := hf
    simp only [Option.some.injEq, Addr.mk.injEq, and_true] at e
    omega
end Go.Proofs.YtpaedkefmebjjafDoor
