/-
  The specification's ImageRead by its contract.
-/
import Derived.Test.YtpaedkefmebjjafDoorN2
import Derived.Test.YtpaedkefmebjjafDoorC1
namespace Go.Proofs.YtpaedkefmebjjafDoor
open Go.ChangeShapes Go.WideShapes Go.ChangeAt Go.RowKit
theorem ownsRow_same {w w' : World} {base size n : Nat} {e : TypeId} {v : Value} {xs : List Value} (h : w.ownsRow base e size v n xs) (hb : ∀ k, v.ownBlock = some k → w'.heap[k]? = w.heap[k]?) : w'.ownsRow base e size v n xs := by
  obtain ⟨h1, h2⟩ := h
  refine ⟨h1, ?_⟩
  rcases h2 with h | ⟨g, cap, cur, rfl, hbg, hg, r⟩
  · exact .inl h
  · exact .inr ⟨g, cap, cur, rfl, hbg, (hb g rfl).trans hg, r⟩
theorem own_snocI {w : World} {base e g n cap : Nat} {F : Nat → Int} {x : Int} (h : w.ownsRow base e 1 (.slice (some ⟨g, 0, none⟩) (n + 1) cap) (n + 1) (vals .i64 n F ++ [.int .i64 x])) (hx : F n = x) : w.ownsRow base e 1 (.slice (some ⟨g, 0, none⟩) (n + 1) cap) (n + 1) (vals .i64 (n + 1) F) := by
  rw [vals_succ, hx]
  exact h
structure Banks (w : World) (lo q : Nat) (gb : Nat → Nat) (F : Nat → Nat → Int) : Prop where
  rows : ∀ i, i < q → RowOf .i64 w (some ⟨gb i, 0, none⟩) 256 (F i)
  free : ∀ i, i < q → ∀ o, w.frozen? ⟨gb i, o, none⟩ = false
  low : ∀ i, i < q → lo ≤ gb i ∧ gb i < w.heap.size
  inj : ∀ i j, i < q → j < q → i ≠ j → gb i ≠ gb j
theorem Banks.keep {w w' : World} {lo q : Nat} {gb : Nat → Nat} {F : Nat → Nat → Int} (h : Banks w lo q gb F) (hs : w.heap.size ≤ w'.heap.size) (hb : ∀ i, i < q → w'.heap[gb i]? = w.heap[gb i]?) : Banks w' lo q gb F :=
  ⟨fun i hi j hj => by
    obtain ⟨b, off, e, hc⟩ := h.rows i hi j hj
    simp only [Option.some.injEq, Addr.mk.injEq, and_true] at e
    obtain ⟨rfl, rfl⟩ := e
    exact ⟨_, _, rfl, (World.cell?_of_block (a := ⟨gb i, 0 + j, none⟩) (hb i hi)).trans hc⟩, fun i hi o => (World.frozen?_of_block (a := ⟨gb i, o, none⟩) (hb i hi)).trans (h.free i hi o), fun i hi => ⟨(h.low i hi).1, Nat.lt_of_lt_of_le (h.low i hi).2 hs⟩, h.inj⟩
theorem Banks.snoc {w : World} {lo q g : Nat} {gb : Nat → Nat} {F : Nat → Nat → Int} (h : Banks w lo q gb F) (hr : RowOf .i64 w (some ⟨g, 0, none⟩) 256 (F q)) (hf : ∀ o, w.frozen? ⟨g, o, none⟩ = false) (hl : lo ≤ g) (hg : g < w.heap.size) (hn : ∀ i, i < q → gb i ≠ g) : Banks w lo (q + 1) (fun i => if i = q then g else gb i) F := by
  refine ⟨fun i hi => ?_, fun i hi o => ?_, fun i hi => ?_, fun i j hi hj hij => ?_⟩
  · by_cases e : i = q
    · subst e; simpa using hr
    · simpa [e] using h.rows i (by omega)
  · by_cases e : i = q
    · subst e; simpa using hf o
    · simpa [e] using h.free i (by omega) o
  · by_cases e : i = q
    · subst e; simpa using ⟨hl, hg⟩
    · simpa [e] using h.low i (by omega)
  · by_cases e : i = q
    · subst e
      have hne : ¬ j = i := fun x => hij x.symm
      simpa [hne] using fun x => hn j (by omega) x.symm
    · by_cases e2 : j = q
      · subst e2
        simpa [e] using hn i (by omega)
      · simpa [e, e2] using h.inj i j (by omega) (by omega) hij
def outs (q : Nat) (gb cp : Nat → Nat) : List Value := (List.range q).map fun i => .slice (some ⟨gb i, 0, none⟩) 256 (cp i)
theorem outs_get {q : Nat} {gb cp : Nat → Nat} {i : Nat} (h : i < q) : (outs q gb cp)[i]? = some (.slice (some ⟨gb i, 0, none⟩) 256 (cp i)) := by simp [outs, h]
theorem outs_snoc (q g c : Nat) (gb cp : Nat → Nat) : outs (q + 1) (fun i => if i = q then g else gb i) (fun i => if i = q then c else cp i) = outs q gb cp ++ [.slice (some ⟨g, 0, none⟩) 256 c] := by
  unfold outs
  rw [List.range_succ, List.map_append]
  congr 1
  · apply List.map_congr_left
    intro i hi
    have : i < q := List.mem_range.1 hi
    simp [show ¬ i = q by omega]
  · simp
theorem own_banks {w : World} {base lo q go co : Nat} {t : TypeId} {gb cp : Nat → Nat} {F : Nat → Nat → Int} (h : Banks w lo q gb F) (ho : w.ownsRow base t 1 (.slice (some ⟨go, 0, none⟩) q co) q (outs q gb cp)) (hlo : lo ≤ go) (hn : ∀ i, i < q → gb i ≠ go) (hq : q ≤ 8) :
    OwnSS w lo (.slice (some ⟨go, 0, none⟩) q co) q (fun i => some ⟨gb i, 0, none⟩) (fun _ => 256) cp F := by
  have hF : ∀ i b o, Foot (some ⟨gb i, 0, none⟩) 256 b o → b = gb i := fun i b o hF => by
    obtain ⟨off, e, _⟩ := hF
    simp only [Option.some.injEq, Addr.mk.injEq, and_true] at e
    exact e.1.symm
  refine ⟨⟨⟨_, _, rfl, by omega, fun i hi' => ⟨go, 0, rfl, ?_, fun j hj hf => ?_⟩⟩, fun i hi' b o hf => ?_, fun i j hi' hj hij b o h1 h2 => ?_, by rw [psum_256]; omega⟩, fun i hi' => h.rows i hi', fun i hi' b o hf => ?_, fun a cap e b o hf => ?_, fun i hi' => by omega⟩
  · rw [Nat.zero_add, ho.cellAt i (by omega), outs_get hi']
  · have := hF j _ _ hf
    exact hn j hj this.symm
  · have e := hF i _ _ hf
    subst e
    exact ⟨(h.low i hi').2, h.free i hi' o⟩
  · have := hF i _ _ h1
    have := hF j _ _ h2
    exact h.inj i j hi' hj hij (by omega)
  · have := hF i _ _ hf
    have := (h.low i hi').1
    omega
  · cases e
    obtain ⟨off, e, _⟩ := hf
    simp only [Option.some.injEq, Addr.mk.injEq, and_true] at e
    omega
def str4 (f : Nat → Int) : ByteArray := ⟨#[UInt8.ofNat (f 0).toNat, UInt8.ofNat (f 1).toNat, UInt8.ofNat (f 2).toNat, UInt8.ofNat (f 3).toNat]⟩
theorem u8_inj {x : Int} {k : Nat} (h0 : 0 ≤ x) (h1 : x ≤ 255) (hk : k < 256) (h : UInt8.ofNat x.toNat = UInt8.ofNat k) : x = k := by
  have e := congrArg UInt8.toNat h
  rw [UInt8.toNat_ofNat', UInt8.toNat_ofNat'] at e
  omega
theorem str4_yes {n : Nat} {f : Nat → Int} (h : headB n f = true) : str4 f = ⟨#[50, 67, 76, 75]⟩ := by
  obtain ⟨_, h0, h1, h2, h3⟩ := of_decide_eq_true h
  unfold str4
  rw [h0, h1, h2, h3]
  rfl
theorem str4_no {n : Nat} {f : Nat → Int} (h : headB n f = false) (hn : 6 ≤ n) (hb : ∀ i, i < n → 0 ≤ f i ∧ f i ≤ 255) : ¬ str4 f = ⟨#[50, 67, 76, 75]⟩ := fun e => by
  have e' : #[UInt8.ofNat (f 0).toNat, UInt8.ofNat (f 1).toNat, UInt8.ofNat (f 2).toNat, UInt8.ofNat (f 3).toNat] = #[UInt8.ofNat 50, UInt8.ofNat 67, UInt8.ofNat 76, UInt8.ofNat 75] := congrArg ByteArray.data e
  simp only [Array.mk.injEq, List.cons.injEq, and_true] at e'
  obtain ⟨e0, e1, e2, e3⟩ := e'
  have g0 := u8_inj (hb 0 (by omega)).1 (hb 0 (by omega)).2 (by omega) e0
  have g1 := u8_inj (hb 1 (by omega)).1 (hb 1 (by omega)).2 (by omega) e1
  have g2 := u8_inj (hb 2 (by omega)).1 (hb 2 (by omega)).2 (by omega) e2
  have g3 := u8_inj (hb 3 (by omega)).1 (hb 3 (by omega)).2 (by omega) e3
  have : headB n f = true := decide_eq_true ⟨hn, g0, g1, g2, g3⟩
  rw [h] at this
  cases this
end Go.Proofs.YtpaedkefmebjjafDoor
