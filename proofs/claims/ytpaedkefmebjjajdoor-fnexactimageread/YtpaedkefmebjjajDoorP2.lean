/-
  The specification's ImageRead by its contract.
-/
import Derived.Test.YtpaedkefmebjjajDoorN2
import Derived.Test.YtpaedkefmebjjajDoorC1
namespace Go.Proofs.YtpaedkefmebjjajDoor
open Go.ChangeShapes Go.WideShapes Go.ChangeAt Go.RowKit
theorem ownsRow_same {w w' : World} {base size n : Nat} {e : TypeId} {v : Value} {xs : List Value} (h : w.ownsRow base e size v n xs) (hb : ∀ k, v.ownBlock = some k → w'.heap[k]? = w.heap[k]?) : w'.ownsRow base e size v n xs := by
  obtain ⟨h1, h2⟩ := h
  refine ⟨h1, ?_⟩
  rcases h2 with h | ⟨g, cap, cur, rfl, hbg, hg, r⟩
  · exact .inl h
  · exact .inr ⟨g, cap, cur, rfl, hbg, (hb g rfl).trans hg, r⟩
theorem own_snocI {w : World} {base e g n cap : Nat} {F : Nat → Int} {x : Int} (h : w.ownsRow base e 1 (.slice (some ⟨g, 0, none⟩) (n + 1) cap) (n + 1) (vals .i64 n F ++ [.int .i64 x])) (hx : F n = x) : w.ownsRow base e 1 (.slice (some ⟨g, 0, none⟩) (n + 1) cap) (n + 1) (vals .i64 (n + 1) F) := by
  rw [vals_succ, hx]
  exact h
structure Banks (w : World) (lo q : Nat) (gb : Nat → Nat) (F : Nat → Nat → Int) : Prop where
  rows : ∀ i, i < q → RowOf .i64 w (some ⟨gb i, 0, none⟩) 256 (F i)
  free : ∀ i, i < q → ∀ o, w.frozen? ⟨gb i, o, none⟩ = false
  low : ∀ i, i < q → lo ≤ gb i ∧ gb i < w.heap.size
  inj : ∀ i j, i < q → j < q → i ≠ j → gb i ≠ gb j
theorem Banks.keep {w w' : World} {lo q : Nat} {gb : Nat → Nat} {F : Nat → Nat → Int} (h : Banks w lo q gb F) (hs : w.heap.size ≤ w'.heap.size) (hb : ∀ i, i < q → w'.heap[gb i]? = w.heap[gb i]?) : Banks w' lo q gb F :=
  ⟨fun i hi j hj => by
    obtain ⟨b, off, e, hc⟩ := h.rows i hi j hj
    simp only [Option.some.injEq, Addr.mk.injEq, and_true] at e
    obtain ⟨rfl, rfl⟩ := e
    exact ⟨_, _, rfl, (World.cell?_of_block (a := ⟨gb i, 0 + j, none⟩) (hb i hi)).trans hc⟩, fun i hi o => (World.frozen?_of_block (a := ⟨gb i, o, none⟩) (hb i hi)).trans (h.free i hi o), fun i hi => ⟨(h.low i hi).1, Nat.lt_of_lt_of_le (h.low i hi).2 hs⟩, h.inj⟩
theorem Banks.snoc {w : World} {lo q g : Nat} {gb : Nat → Nat} {F : Nat → Nat → Int} (h : Banks w lo q gb F) (hr : RowOf .i64 w (some ⟨g, 0, none⟩) 256 (F q)) (hf : ∀ o, w.frozen? ⟨g, o, none⟩ = false) (hl : lo ≤ g) (hg : g < w.heap.size) (hn : ∀ i, i < q → gb i ≠ g) : Banks w lo (q + 1) (fun i => if i = q then g else gb i) F := by
  refine ⟨fun i hi => ?_, fun i hi o => ?_, fun i hi => ?_, fun i j hi hj hij => ?_⟩
  · by_cases e : i = q
    · subst e; simpa using hr
    · simpa [e] using h.rows i (by omega)
  · by_cases e : i = q
    · subst e; simpa using hf o
    · simpa [e] using h.free i (by omega) o
  · by_cases e : i = q
    · subst e; simpa using ⟨hl, hg⟩
    · simpa [e] using h.low i (by omega)
  · by_cases e : i = q
    · subst e
      have hne : ¬ j = i := fun x => hij x.symm
      simpa [hne] using fun x => hn j (by omega) x.symm
    · by_cases e2 : j = q
      · subst e2
        simpa [e] using hn i (by omega)
      · simpa [e, e2] using h.inj i j (by omega) (by omega) hij
def outs (q : Nat) (gb cp : Nat → Nat) : List Value := (List.range q).map fun i => .slice (some ⟨gb i, 0, none⟩) 256 (cp i)
theorem outs_get {q : Nat} {gb cp : Nat → Nat} {i : Nat} (h : i < q) : (outs q gb cp)[i]? = some (.slice (some ⟨gb i, 0, none⟩) 256 (cp i)) := by simp [outs, h]
theorem outs_snoc (q g c : Nat) (gb cp : Nat → Nat) : outs (q + 1) (fun i => if i = q then g else gb i) (fun i => if i = q then c else cp i) = outs q gb cp ++ [.slice (some ⟨g, 0, none⟩) 256 c] := by
  unfold outs
  rw [List.range_succ, List.map_append]
  congr 1
  · apply List.map_congr_left
    intro i hi
    have : i < q := List.mem_range.1 hi
    simp [show ¬ i = q by omega]
  · simp
theorem own_banks {w : World} {base lo q go co : Nat} {t : TypeId} {gb cp : Nat → Nat} {F : Nat → Nat → Int} (h : Banks w lo q gb F) (ho : w.ownsRow base t 1 (.slice (some ⟨go, 0, none⟩) q co) q (outs q gb cp)) (hlo : lo ≤ go) (hn : ∀ i, i < q → gb i ≠ go) (hq : q ≤ 8) :
    OwnSS w lo (.slice (some ⟨go, 0, none⟩) q co) q (fun i => some ⟨gb i, 0, none⟩) (fun _ => 256) cp F := by
  have hF : ∀ i b o, Foot (some ⟨gb i, 0, none⟩) 256 b o → b = gb i := fun i b o hF => by
    obtain ⟨off, e, _⟩ := hF
    simp only [Option.some.injEq, Addr.mk.injEq, and_true] at e
    exact e.1.symm
  refine ⟨⟨⟨_, _, rfl, by omega, fun i hi' => ⟨go, 0, rfl, ?_, fun j hj hf => ?_⟩⟩, fun i hi' b o hf => ?_, fun i j hi' hj hij b o h1 h2 => ?_, by rw [psum_256]; omega⟩, fun i hi' => h.rows i hi', fun i hi' b o hf => ?_, fun a cap e b o hf => ?_, fun i hi' => by omega⟩
  · rw [Nat.zero_add, ho.cellAt i (by omega), outs_get hi']
  · have := hF j _ _ hf
    exact hn j hj this.symm
  · have e := hF i _ _ hf
    subst e
    exact ⟨(h.low i hi').2, h.free i hi' o⟩
  · have := hF i _ _ h1
    have := hF j _ _ h2
    exact h.inj i j hi' hj hij (by omega)
  · have := hF i _ _ hf
    have := (h.low i hi').1
    omega
  · cases e
    obtain ⟨off, e, _⟩ := hf
    simp only [Option.some.injEq, Addr.mk.injEq, and_true] at e
    omega
def str4 (f : Nat → Int) : ByteArray := ⟨#[UInt8.ofNat (f 0).toNat, UInt8.ofNat (f 1).toNat, UInt8.ofNat (f 2).toNat, UInt8.ofNat (f 3).toNat]⟩
theorem u8_inj {x : Int} {k : Nat} (h0 : 0 ≤ x) (h1 : x ≤ 255) (hk : k < 256) (h : UInt8.ofNat x.toNat = UInt8.ofNat k) : x = k := by
  have e := congrArg UInt8.toNat h
  rw [UInt8.toNat_ofNat', UInt8.toNat_ofNat'] at e
  omega
theorem str4_yes {n : Nat} {f : Nat → Int} (h : headB n f = true) : str4 f = ⟨#[50, 67, 76, 75]⟩ := by
  obtain ⟨_, h0, h1, h2, h3⟩ := of_decide_eq_true h
  unfold str4
  rw [h0, h1, h2, h3]
  rfl
theorem str4_no {n : Nat} {f : Nat → Int} (h : headB n f = false) (hn : 6 ≤ n) (hb : ∀ i, i < n → 0 ≤ f i ∧ f i ≤ 255) : ¬ str4 f = ⟨#[50, 67, 76, 75]⟩ := fun e => by
  have e' : #[UInt8.ofNat (f 0).toNat, UInt8.ofNat (f 1).toNat, UInt8.ofNat (f 2).toNat, UInt8.ofNat (f 3).toNat] = #[UInt8.ofNat 50, UInt8.ofNat 67, UInt8.ofNat 76, UInt8.ofNat 75] := congrArg ByteArray.data e
  simp only [Array.mk.injEq, List.cons.injEq, and_true] at e'
  obtain ⟨e0, e1, e2, e3⟩ := e'
  have g0 := u8_inj (hb 0 (by omega)).1 (hb 0 (by omega)).2 (by omega) e0
  have g1 := u8_inj (hb 1 (by omega)).1 (hb 1 (by omega)).2 (by omega) e1
  have g2 := u8_inj (hb 2 (by omega)).1 (hb 2 (by omega)).2 (by omega) e2
  have g3 := u8_inj (hb 3 (by omega)).1 (hb 3 (by omega)).2 (by omega) e3
  have : headB n f = true := decide_eq_true ⟨hn, g0, g1, g2, g3⟩
  rw [h] at this
  cases this
theorem conv4 (W : World) (b off n cap : Nat) (f : Nat → Int) (H : RowOf .u8 W (some ⟨b, off, none⟩) n f) (hn : 4 ≤ n) :
    (convert 22 9 (.slice (some ⟨b, off, none⟩) 4 cap)).run Tryd.prog W = .ok (.string (str4 f)) W := by
  rw [run_convert_bytes_string W 22 9 5 _ _ _ Tryd.underlying22 Tryd.underlying5 Tryd.underlying9]
  have hc : ∀ j, j < 4 → W.cell? ((⟨b, off, none⟩ : Addr).add j) = some (.int .u8 (f j)) := fun j hj => by
    obtain ⟨b', off', e, h⟩ := H j (by omega)
    simp only [Option.some.injEq, Addr.mk.injEq, and_true] at e
    obtain ⟨rfl, rfl⟩ := e
    rw [add_at]
    exact h
  have hl := run_loadCells_list (P := Tryd.prog) W ⟨b, off, none⟩ [.int .u8 (f 0), .int .u8 (f 1), .int .u8 (f 2), .int .u8 (f 3)] (fun j v hj => by
    match j, hj with
    | 0, hj => cases hj; exact hc 0 (by omega)
    | 1, hj => cases hj; exact hc 1 (by omega)
    | 2, hj => cases hj; exact hc 2 (by omega)
    | 3, hj => cases hj; exact hc 3 (by omega)
    | k + 4, hj => simp at hj)
  rw [run_bytesToString W ⟨b, off, none⟩ 4 cap [f 0, f 1, f 2, f 3] hl]
  rfl
set_option maxRecDepth 20000 in
set_option maxHeartbeats 1000000 in
theorem specImageRead (w : World) (a : Option Addr) (n cap : Nat) (f : Nat → Int) (H : Bytes w a n f) (hcap : n ≤ cap) :
    Calls Tryd.prog 5 #[.slice a n cap] w fun e w' => ∃ v ra rc, e = .returned (.tuple #[.agg #[v], .int .i64 (rdC n f)]) ∧ OwnSS w' w.heap.size v (rdM n f) ra (fun _ => 256) rc (rdF f) ∧ Below w.heap.size w w' := by
  by_cases h6 : n < 6
  · have h6' : (n : Int) < 6 := by omega
    have HC : Hid (rdC n f = 1) := by
      show _ = _
      unfold rdC
      rw [headC_no (headB_short h6), if_neg (by decide)]
    have HM : Hid (rdM n f = 0) := by show _ = _; unfold rdM; rw [HC.out, if_neg (by decide)]
    go_enter Tryd.func5, Tryd.ntmps5
    have xx : ((w.alloc (.cells #[.slice none 0 0] 25)).alloc (.cells #[.slice none 0 0] 25)).cell? ⟨w.heap.size, 0, none⟩ = some (.slice none 0 0) := by
      rw [World.cell?_alloc_lt _ _ ⟨w.heap.size, 0, none⟩ (by simp), World.cell?_alloc_at _ _ _ _ rfl]; rfl
    go_wp2
    refine bodyPost_ret (v := .tuple #[.agg #[.slice none 0 0], .int .i64 1]) (by simp [results, Tryd.results5, go_sem, xx]) rfl ?_
    exact ⟨_, fun _ => none, fun _ => 0, by rw [HC.out], by rw [HM.out]; exact OwnSS.nil0 _ _ _ _ _ _, ((Below.refl _ _).alloc (Nat.le_refl _) _).alloc (by simp) _⟩
  · have h6' : ¬ (n : Int) < 6 := by omega
    have hlen : n ≤ 1048576 := H.len
    obtain ⟨b, off, rfl, -⟩ := H.row 0 (by omega)
    have hL : Below w.heap.size w ((w.alloc (.cells #[.slice none 0 0] 25)).alloc (.cells #[.slice none 0 0] 25)) := ((Below.refl _ _).alloc (Nat.le_refl _) _).alloc (by simp) _
    have hcv := conv4 ((w.alloc (.cells #[.slice none 0 0] 25)).alloc (.cells #[.slice none 0 0] 25)) b off n cap f (H.row.keep (wrote_below hL Nowhere) (fun _ _ _ x => x)) (by omega)
    have hcvd := conv4 ((w.alloc (.cells #[.slice none 0 0] 25)).alloc (.cells #[.slice none 0 0] 25)).drew b off n cap f (H.row.keep (wrote_below hL.drew Nowhere) (fun _ _ _ x => x)) (by omega)
    have z0 : w.heap.size < ((w.alloc (.cells #[.slice none 0 0] 25)).alloc (.cells #[.slice none 0 0] 25)).heap.size := by simp; omega
    have xx : ((w.alloc (.cells #[.slice none 0 0] 25)).alloc (.cells #[.slice none 0 0] 25)).cell? ⟨w.heap.size, 0, none⟩ = some (.slice none 0 0) := by
      rw [World.cell?_alloc_lt _ _ ⟨w.heap.size, 0, none⟩ (by simp), World.cell?_alloc_at _ _ _ _ rfl]; rfl
    have yy : ((w.alloc (.cells #[.slice none 0 0] 25)).alloc (.cells #[.slice none 0 0] 25)).cell? ⟨w.heap.size + 1, 0, none⟩ = some (.slice none 0 0) := by
      rw [World.cell?_alloc_at _ _ _ _ (by simp)]; rfl
    cases hh : headB n f
    · have HC : Hid (rdC n f = 1) := by
        show _ = _
        unfold rdC
        rw [headC_no hh, if_neg (by decide)]
      have HM : Hid (rdM n f = 0) := by show _ = _; unfold rdM; rw [HC.out, if_neg (by decide)]
      have hS : (!(str4 f).toList == [50, 67, 76, 75]) = true := by
        have h1 := str4_no hh (by omega) H.byte
        simp only [Bool.not_eq_true', beq_eq_false_iff_ne, ne_eq]
        intro h2
        apply h1
        rw [ByteArray.toList_eq] at h2
        unfold str4 at h2 ⊢
        simpa using h2
      generalize str4 f = S at *
      go_enter Tryd.func5, Tryd.ntmps5
      go_wp2
      refine bodyPost_ret (v := .tuple #[.agg #[.slice none 0 0], .int .i64 1]) (by simp [results, Tryd.results5, go_sem, xx]) rfl ?_
      have hE : Hid (Ending.returned (.tuple #[.agg #[.slice none 0 0], .int .i64 1]) = .returned (.tuple #[.agg #[.slice none 0 0], .int .i64 (rdC n f)])) := by show _ = _; rw [HC.out]
      have hO := fun W => OwnSS.nil0 W w.heap.size (fun _ => none) (fun _ => 256) (fun _ => 0) (rdF f)
      rw [HM.out]
      first
        | exact ⟨_, _, _, hE.out, hO _, hL⟩
        | exact ⟨_, hE.out, ⟨_, _, hO _⟩, hL⟩
    · rw [str4_yes hh] at hcv hcvd
      have hhc := headC_yes hh
      have hr4 : rdC n f = if sizeC n (f 4) = 0 then sumC n f else sizeC n (f 4) := by unfold rdC; rw [if_pos hhc]
      obtain ⟨b', off', e', hc4⟩ := (H.row.keep (wrote_below hL Nowhere) (fun _ _ _ x => x)) 4 (by omega)
      simp only [Option.some.injEq, Addr.mk.injEq, and_true] at e'
      obtain ⟨rfl, rfl⟩ := e'
      obtain ⟨h40, h41⟩ := H.byte 4 (by omega)
      have h4l : (4 : Int) < (n : Int) := by omega
      go_enter Tryd.func5, Tryd.ntmps5
      by_cases hin : 1 ≤ f 4 ∧ f 4 ≤ 8
      · have hin' := inB_yes hin
        obtain ⟨hi1, hi8⟩ := hin
        go_wp2_with fail
        refine (l1In _ _ _ _).mono ?_
        rintro e wx ⟨rfl, hwx⟩
        subst hwx
        rw [hin']
        by_cases hs : (n : Int) < 6 + f 4 * 256
        · have hs' : (n : Int) - 6 < f 4 * 256 := by omega
          have hsz : sizeC n (f 4) = 3 := by unfold sizeC; rw [if_neg (by omega), if_pos hs]
          have HC : Hid (rdC n f = 3) := by show _ = _; rw [hr4, hsz, if_neg (by decide)]
          have HM : Hid (rdM n f = 0) := by show _ = _; unfold rdM; rw [HC.out, if_neg (by decide)]
          clear hr4 hsz
          go_wp2
          refine bodyPost_ret (v := .tuple #[.agg #[.slice none 0 0], .int .i64 3]) (by simp [results, Tryd.results5, go_sem, xx]) rfl ?_
          have hE : Hid (Ending.returned (.tuple #[.agg #[.slice none 0 0], .int .i64 3]) = .returned (.tuple #[.agg #[.slice none 0 0], .int .i64 (rdC n f)])) := by show _ = _; rw [HC.out]
          have hO := fun W => OwnSS.nil0 W w.heap.size (fun _ => none) (fun _ => 256) (fun _ => 0) (rdF f)
          rw [HM.out]
          first
            | exact ⟨_, _, _, hE.out, hO _, hL⟩
            | exact ⟨_, hE.out, ⟨_, _, hO _⟩, hL⟩
        · by_cases hl : 6 + f 4 * 256 < (n : Int)
          · have hs' : ¬ (n : Int) - 6 < f 4 * 256 := by omega
            have hl' : f 4 * 256 < (n : Int) - 6 := by omega
            have hsz : sizeC n (f 4) = 4 := by unfold sizeC; rw [if_neg (by omega), if_neg hs, if_pos hl]
            have HC : Hid (rdC n f = 4) := by show _ = _; rw [hr4, hsz, if_neg (by decide)]
            have HM : Hid (rdM n f = 0) := by show _ = _; unfold rdM; rw [HC.out, if_neg (by decide)]
            clear hr4 hsz
            go_wp2
            refine bodyPost_ret (v := .tuple #[.agg #[.slice none 0 0], .int .i64 4]) (by simp [results, Tryd.results5, go_sem, xx]) rfl ?_
            have hE : Hid (Ending.returned (.tuple #[.agg #[.slice none 0 0], .int .i64 4]) = .returned (.tuple #[.agg #[.slice none 0 0], .int .i64 (rdC n f)])) := by show _ = _; rw [HC.out]
            have hO := fun W => OwnSS.nil0 W w.heap.size (fun _ => none) (fun _ => 256) (fun _ => 0) (rdF f)
            rw [HM.out]
            first
              | exact ⟨_, _, _, hE.out, hO _, hL⟩
              | exact ⟨_, hE.out, ⟨_, _, hO _⟩, hL⟩
          · have hsz : sizeC n (f 4) = 0 := by unfold sizeC; rw [if_neg (by omega), if_neg hs, if_neg hl]
            rw [if_pos hsz] at hr4
            have hs' : ¬ (n : Int) - 6 < f 4 * 256 := by omega
            have hl' : ¬ f 4 * 256 < (n : Int) - 6 := by omega
            obtain ⟨m, hm⟩ : ∃ m : Nat, f 4 = m := ⟨(f 4).toNat, by omega⟩
            have hm1 : 1 ≤ m := by omega
            have hm8 : m ≤ 8 := by omega
            have HN : Hid (n = 6 + 256 * m) := by show _ = _; omega
            rw [hm]
            rw [hm] at hs' hl' hc4 h40 h41
            have HR4 := hide hr4
            have HM4 := hide hm
            clear hs hl hsz hr4 hm hi1 hi8 hin'
            have LA : Below w.heap.size w (((w.alloc (.cells #[.slice none 0 0] 25)).alloc (.cells #[.slice none 0 0] 25)).alloc (.cells #[.slice none 0 0] 25)) := hL.alloc (Nat.le_of_lt z0) _
            have SA : (((w.alloc (.cells #[.slice none 0 0] 25)).alloc (.cells #[.slice none 0 0] 25)).alloc (.cells #[.slice none 0 0] 25)).heap.size = w.heap.size + 3 := by simp
            have XA : (((w.alloc (.cells #[.slice none 0 0] 25)).alloc (.cells #[.slice none 0 0] 25)).alloc (.cells #[.slice none 0 0] 25)).cell? ⟨w.heap.size + 1 + 1, 0, none⟩ = some (.slice none 0 0) := by rw [World.cell?_alloc_at _ _ _ _ (by simp)]; rfl
            have FA : (((w.alloc (.cells #[.slice none 0 0] 25)).alloc (.cells #[.slice none 0 0] 25)).alloc (.cells #[.slice none 0 0] 25)).frozen? ⟨w.heap.size + 1 + 1, 0, none⟩ = false := by go_simp
            have NA : (((w.alloc (.cells #[.slice none 0 0] 25)).alloc (.cells #[.slice none 0 0] 25)).alloc (.cells #[.slice none 0 0] 25)).cell? ⟨w.heap.size + 1, 0, none⟩ = some (.slice none 0 0) := by
              rw [World.cell?_alloc_lt _ _ ⟨w.heap.size + 1, 0, none⟩ (by simp)]; exact yy
            have RA : (((w.alloc (.cells #[.slice none 0 0] 25)).alloc (.cells #[.slice none 0 0] 25)).alloc (.cells #[.slice none 0 0] 25)).cell? ⟨w.heap.size, 0, none⟩ = some (.slice none 0 0) := by
              rw [World.cell?_alloc_lt _ _ ⟨w.heap.size, 0, none⟩ (by simp; omega)]; exact xx
            have GA : (((w.alloc (.cells #[.slice none 0 0] 25)).alloc (.cells #[.slice none 0 0] 25)).alloc (.cells #[.slice none 0 0] 25)).frozen? ⟨w.heap.size, 0, none⟩ = false := by go_simp
            have HB := hide (H.keep (wrote_below LA Nowhere) (fun _ _ _ x => x))
            have hblt : b < w.heap.size := by obtain ⟨b', o', e', h'⟩ := H.row 0 (by omega); simp only [Option.some.injEq, Addr.mk.injEq, and_true] at e'; obtain ⟨rfl, rfl⟩ := e'; exact block_lt_of_cell h'
            go_wp2_with fail
            generalize (((w.alloc (.cells #[.slice none 0 0] 25)).alloc (.cells #[.slice none 0 0] 25)).alloc (.cells #[.slice none 0 0] 25)) = wa at *
            obtain ⟨i1, hi1, hza1, hza2, hza3⟩ := info_parts info3
            obtain ⟨i2, hi2, hzb1, hzb2, hzb3⟩ := info_parts infoInts
            clear hcv hcvd hc4 xx yy z0 hL
            go_loopw [7, 8] (fun sm i wr => ∃ (q : Nat) (gb cp : Nat → Nat) (ov : Value), q ≤ m ∧ i = .int .i64 q ∧ sm = .int .i64 (isum (body f) (256 * q)) ∧ Banks wr (w.heap.size + 3) q gb (rdF f) ∧ wr.ownsRow (w.heap.size + 3) 37 1 ov q (outs q gb cp) ∧ (∀ g, ov.ownBlock = some g → ∀ i, i < q → gb i ≠ g) ∧ wr.cell? ⟨w.heap.size + 1 + 1, 0, none⟩ = some ov ∧ wr.frozen? ⟨w.heap.size + 1 + 1, 0, none⟩ = false ∧ Below (w.heap.size + 1 + 1) wa wr ∧ Hid (w.heap.size + 3 ≤ wr.heap.size)) (fun _ i _ => m - (intOf i).toNat)
            case atStart => exact ⟨0, fun _ => 0, fun _ => 0, .slice none 0 0, Nat.zero_le _, rfl, rfl, ⟨fun i hi => absurd hi (Nat.not_lt_zero _), fun i hi => absurd hi (Nat.not_lt_zero _), fun i hi => absurd hi (Nat.not_lt_zero _), fun i j hi => absurd hi (Nat.not_lt_zero _)⟩, World.ownsRow_nil _ _ _ _, fun g hg i hi => absurd hi (Nat.not_lt_zero _), XA, FA, Below.refl _ _, Nat.le_of_eq SA.symm⟩
            case round =>
              obtain ⟨wo, hwo⟩ : ∃ x, x = wr := ⟨wr, rfl⟩
              subst hwo
              obtain ⟨q, gb, cp, ov, hq, rfl, rfl, hBk, hOv, hdj, hX, hFz, hbel, hsz⟩ := hrel
              have HBk := hide hBk
              have HOv := hide hOv
              have HDj := hide hdj
              clear hBk hOv hdj
              by_cases hqm : q < m
              · have hqm' : (q : Int) < (m : Int) := by omega
                have hsm := isum_le (body f) (256 * q) (fun j hj => H.byte (6 + j) (by have := HN.out; omega))
                go_wp2
                go_loopw [7, 9, 10] (fun sm bk k ws => ∃ r g c : Nat, r ≤ 256 ∧ k = .int .i64 r ∧ sm = .int .i64 (isum (body f) (256 * q + r)) ∧ bk = .slice (some ⟨g, 0, none⟩) r c ∧ ws.ownsRow wo.heap.size 3 1 (.slice (some ⟨g, 0, none⟩) r c) r (vals .i64 r (rdF f q)) ∧ Hid (g < ws.heap.size) ∧ Below wo.heap.size wo ws) (fun _ _ k _ => 256 - (intOf k).toNat)
                case atStart => exact ⟨0, wo.heap.size, 0, Nat.zero_le _, rfl, rfl, rfl, World.ownsRow_made wo #[] 0 (Nat.le_refl _) (by decide) rfl, by show _ < _; simp, (Below.refl _ _).alloc (Nat.le_refl _) _⟩
                case round =>
                  obtain ⟨r, g, c, hr, rfl, rfl, rfl, hown, hglt, hbel2⟩ := hrel
                  have HO2 := hide hown
                  clear hown
                  have hbelw : Below (w.heap.size + 1 + 1) wa wr := hbel.trans (hbel2.mono (by have := hsz.out; omega))
                  by_cases hrt : r < 256
                  · have hrt' : (r : Int) < 256 := by omega
                    obtain ⟨b', off', e', hcb⟩ := (unhide HB).row (6 + q * 256 + r) (by have := HN.out; omega)
                    simp only [Option.some.injEq, Addr.mk.injEq, and_true] at e'
                    obtain ⟨rfl, rfl⟩ := e'
                    have hcb2 : wr.cell? ⟨b, off + (6 + q * 256 + r), none⟩ = some (.int .u8 (f (6 + q * 256 + r))) := (hbelw.cell (by show b < _; omega)).trans hcb
                    have hidx : (6 + (q : Int) * 256 + r) < (n : Int) := by have := HN.out; omega
                    obtain ⟨hv0, hv1⟩ := H.byte (6 + q * 256 + r) (by have := HN.out; omega)
                    have hsm2 := isum_le (body f) (256 * q + r) (fun j hj => H.byte (6 + j) (by have := HN.out; omega))
                    have HSS : Hid (isum (body f) (256 * q + (r + 1)) = isum (body f) (256 * q + r) + f (6 + q * 256 + r)) := by
                      show isum (body f) (256 * q + r) + body f (256 * q + r) = _
                      unfold body
                      rw [show 6 + (256 * q + r) = 6 + q * 256 + r by omega]
                    have HFX : Hid (rdF f q r = f (6 + q * 256 + r)) := by show f (6 + 256 * q + r) = _; rw [show 6 + 256 * q + r = 6 + q * 256 + r by omega]
                    generalize isum (body f) (256 * q + r) = sm at *
                    obtain ⟨hs0, hs1⟩ := hsm2
                    have hs2 : sm ≤ 1000000 := by omega
                    clear hs1 hcb
                    generalize f (6 + q * 256 + r) = xv at *
                    have hwz := hbel2.size
                    go_wp2_with (at_builtin; refine wpList_append_lies _ rfl (.tmp 68) (.tmp 70) 37 rfl wo.heap.size 3 i1 (.int .i64 0) 1 8 Tryd.underlying37 hi1 hza1 hza2 hza3 rfl (by decide) _ _ _ rfl ((unhide HO2).alloc _) ⟨wr.heap.size, 0, none⟩ 1 1 [.int .i64 xv] rfl rfl ?c1 ?c2 (by decide) ?c3 ?c4 ?c5 _ rfl ?_)
                    case c1 => first | exact new_row _ #[.int .i64 xv] 3 (0, 0) _ rfl | (intro j u hu; simp at hu; obtain ⟨rfl, rfl⟩ := hu; simp [Addr.add])
                    case c2 => first | rfl | (intro u hu; simp at hu; subst hu; rfl)
                    case c3 => unfold maxLen; omega
                    case c4 => omega
                    case c5 => first | omega | (simp; omega)
                    intro g3 c3 w3 hown3 hgrow hat hlt3
                    have hb3 : Below wo.heap.size wo w3 := (hbel2.alloc hwz _).grown hgrow (by simp; omega) (fun k hk => ((unhide HO2).lt k hk).1)
                    have HO3 := hide (own_snocI hown3 HFX.out)
                    clear hown3 hgrow hat HO2
                    go_wp2
                    go_roundw
                    case rel => exact ⟨r + 1, g3, c3, by omega, by go_num, by rw [HSS.out], rfl, unhide HO3, hlt3, hb3⟩
                    case measure => simp [intOf]; omega
                  · have hrt' : ¬ (r : Int) < 256 := by omega
                    have er : r = 256 := by omega
                    subst er
                    have hOB := (unhide HOv).lt
                    have HOv2 := hide (ownsRow_same (unhide HOv) (fun k hk => hbel2.block k (hOB k hk).2))
                    have hws := hsz.out
                    have hwz := hbel2.size
                    have hX2 : wr.cell? ⟨w.heap.size + 1 + 1, 0, none⟩ = some ov := (hbel2.cell (by show w.heap.size + 1 + 1 < _; omega)).trans hX
                    have hFz2 : wr.frozen? ⟨w.heap.size + 1 + 1, 0, none⟩ = false := (hbel2.frozen (by show w.heap.size + 1 + 1 < _; omega)).trans hFz
                    have hgl := ((unhide HO2).lt g rfl).1
                    have hg2 := hglt.out
                    go_wp2_with (at_builtin; refine wpList_append_lies _ rfl (.tmp 76) (.tmp 78) 23 rfl (w.heap.size + 3) 37 i2 (.slice none 0 0) 1 24 Tryd.underlying23 hi2 hzb1 hzb2 hzb3 rfl (by decide) _ q _ rfl ((unhide HOv2).alloc _) ⟨wr.heap.size, 0, none⟩ 1 1 [.slice (some ⟨g, 0, none⟩) 256 c] rfl rfl ?c1 ?c2 (by decide) ?c3 ?c4 ?c5 _ rfl ?_)
                    case c2 => first | rfl | (intro u hu; simp at hu; subst hu; rfl)
                    case c3 => unfold maxLen; omega
                    case c4 => omega
                    case c5 => first | omega | (simp; omega)
                    intro g3 c3 w3 hown3 hgrow hat hlt3
                    have AL : ∀ o, Below wr.heap.size wr (wr.alloc o) := fun o => (Below.refl _ _).alloc (Nat.le_refl _) o
                    have hblk : ∀ k, k < wr.heap.size → some k ≠ ov.ownBlock → w3.heap[k]? = wr.heap[k]? := fun k hk hne => (hgrow.block k (by simp; omega) hne).trans ((AL _).block k hk)
                    have hsz3 : wr.heap.size ≤ w3.heap.size := by have := hgrow.size; simp at this; omega
                    have hXn : some (w.heap.size + 1 + 1) ≠ ov.ownBlock := fun e => by have := (hOB _ e.symm).1; omega
                    have hX3 : w3.cell? ⟨w.heap.size + 1 + 1, 0, none⟩ = some ov := (World.cell?_of_block (a := ⟨w.heap.size + 1 + 1, 0, none⟩) (hblk (w.heap.size + 1 + 1) (by omega) hXn)).trans hX2
                    have hF3 : w3.frozen? ⟨w.heap.size + 1 + 1, 0, none⟩ = false := (World.frozen?_of_block (a := ⟨w.heap.size + 1 + 1, 0, none⟩) (hblk (w.heap.size + 1 + 1) (by omega) hXn)).trans hFz2
                    have hgn : some g ≠ ov.ownBlock := fun e => by have := (hOB _ e.symm).2; omega
                    have BK : Banks w3 (w.heap.size + 3) q gb (rdF f) := (unhide HBk).keep (by omega) (fun i hi => (hblk (gb i) (by have := ((unhide HBk).low i hi).2; omega) (fun e => unhide HDj _ e.symm i hi rfl)).trans (hbel2.block (gb i) ((unhide HBk).low i hi).2))
                    have BN := BK.snoc (g := g) (fun j hj => ⟨g, 0, rfl, (World.cell?_of_block (a := ⟨g, 0 + j, none⟩) (hblk g hg2 hgn)).trans (by rw [Nat.zero_add, (unhide HO2).cellAt j (by omega), vals_get _ _ _ _ hj])⟩) (fun o => (World.frozen?_of_block (a := ⟨g, o, none⟩) (hblk g hg2 hgn)).trans ((unhide HO2).frozenAt o)) (by omega) (by omega) (fun i hi => by have := ((unhide HBk).low i hi).2; omega)
                    have hg3 := (hown3.lt g3 rfl).1
                    have hDN : ∀ g', (Value.slice (some ⟨g3, 0, none⟩) (q + 1) c3).ownBlock = some g' → ∀ i, i < q + 1 → (if i = q then g else gb i) ≠ g' := fun g' hg' i hi => by
                      have eg : g3 = g' := by simpa [Value.ownBlock] using hg'
                      subst eg
                      rcases hat with h | h
                      · by_cases ei : i = q
                        · rw [if_pos ei]; have := (hOB _ h).2; omega
                        · rw [if_neg ei]; exact unhide HDj _ h i (by omega)
                      · try simp at h
                        by_cases ei : i = q
                        · rw [if_pos ei]; omega
                        · rw [if_neg ei]; have := ((unhide HBk).low i (by omega)).2; omega
                    have hb3 : Below (w.heap.size + 1 + 1) wa w3 := (hbelw.alloc (by omega) _).grown hgrow (by simp; omega) (fun k hk => by have := (hOB k hk).1; omega)
                    rw [← outs_snoc q g c gb cp] at hown3
                    have hset : ∀ k, k ≠ w.heap.size + 1 + 1 → (w3.setCell ⟨w.heap.size + 1 + 1, 0, none⟩ (.slice (some ⟨g3, 0, none⟩) (q + 1) c3)).heap[k]? = w3.heap[k]? := fun k hk => Below.heap_setCell _ _ _ _ hk
                    have BN4 := BN.keep (w' := w3.setCell ⟨w.heap.size + 1 + 1, 0, none⟩ (.slice (some ⟨g3, 0, none⟩) (q + 1) c3)) (by simp) (fun i hi => hset _ (by have := (BN.low i hi).1; omega))
                    have OV4 := ownsRow_same (w' := w3.setCell ⟨w.heap.size + 1 + 1, 0, none⟩ (.slice (some ⟨g3, 0, none⟩) (q + 1) c3)) hown3 (fun k hk => hset k (by have := (hown3.lt k hk).1; omega))
                    have X4 : (w3.setCell ⟨w.heap.size + 1 + 1, 0, none⟩ (.slice (some ⟨g3, 0, none⟩) (q + 1) c3)).cell? ⟨w.heap.size + 1 + 1, 0, none⟩ = some (.slice (some ⟨g3, 0, none⟩) (q + 1) c3) := World.cell?_setCell_same _ _ _ hX3
                    have F4 : (w3.setCell ⟨w.heap.size + 1 + 1, 0, none⟩ (.slice (some ⟨g3, 0, none⟩) (q + 1) c3)).frozen? ⟨w.heap.size + 1 + 1, 0, none⟩ = false := by rw [World.frozen?_setCell]; exact hF3
                    have B4 : Below (w.heap.size + 1 + 1) wa (w3.setCell ⟨w.heap.size + 1 + 1, 0, none⟩ (.slice (some ⟨g3, 0, none⟩) (q + 1) c3)) := hb3.setCell (Nat.le_refl _) _
                    have Z4 : Hid (w.heap.size + 3 ≤ (w3.setCell ⟨w.heap.size + 1 + 1, 0, none⟩ (.slice (some ⟨g3, 0, none⟩) (q + 1) c3)).heap.size) := by show _ ≤ _; simp; omega
                    have HBN := hide BN4
                    have HOV := hide OV4
                    have HDN := hide hDN
                    have hes : Hid (256 * q + 256 = 256 * (q + 1)) := by show _ = _; omega
                    clear BN BN4 OV4 hDN hown3 hgrow hat BK hblk AL hset HOv2 HO2 hOB
                    go_wp2
                    go_roundw
                    case rel => exact ⟨q + 1, _, _, _, by omega, by go_num, congrArg (fun n => Value.int .i64 (isum (body f) n)) hes.out, unhide HBN, unhide HOV, unhide HDN, X4, F4, B4, Z4⟩
                    case measure => simp [intOf]; omega
              · have hqm' : ¬ (q : Int) < (m : Int) := by omega
                have e : q = m := by omega
                subst e
                obtain ⟨go, co, rfl, hgo, hgol⟩ := (unhide HOv).form (by omega)
                have hws := hsz.out
                have hsm := isum_le (body f) (256 * q) (fun j hj => H.byte (6 + j) (by have := HN.out; omega))
                have HN6 : Hid (n - 6 = 256 * q) := by show _ = _; have := HN.out; omega
                obtain ⟨b', off', e', hc5⟩ := (unhide HB).row 5 (by omega)
                simp only [Option.some.injEq, Addr.mk.injEq, and_true] at e'
                obtain ⟨rfl, rfl⟩ := e'
                have hc5' : wo.cell? ⟨b, off + 5, none⟩ = some (.int .u8 (f 5)) := (hbel.cell (by show b < _; omega)).trans hc5
                obtain ⟨h50, h51⟩ := H.byte 5 (by omega)
                have h5l : (5 : Int) < (n : Int) := by omega
                have n1 : wo.cell? ⟨w.heap.size + 1, 0, none⟩ = some (.slice none 0 0) := (hbel.cell (by show w.heap.size + 1 < _; omega)).trans NA
                have r1 : wo.cell? ⟨w.heap.size, 0, none⟩ = some (.slice none 0 0) := (hbel.cell (by show w.heap.size < _; omega)).trans RA
                have g1 : wo.frozen? ⟨w.heap.size, 0, none⟩ = false := (hbel.frozen (by show w.heap.size < _; omega)).trans GA
                have CW : Below w.heap.size w wo := LA.trans (hbel.mono (by omega))
                by_cases hs : isum (body f) (256 * q) % 256 = f 5
                · have hs2 : (isum (body f) (256 * q) % 256 != f 5) = false := by simpa using hs
                  have HC : Hid (rdC n f = 0) := by show _ = _; rw [unhide HR4]; unfold sumC; rw [HN6.out, if_pos hs]
                  have HM : Hid (rdM n f = q) := by show _ = _; unfold rdM; rw [HC.out, if_pos rfl, unhide HM4]; rfl
                  have OW := hide (own_banks (unhide HBk) (unhide HOv) hgo (fun i hi => unhide HDj _ rfl i hi) (by omega))
                  clear hs
                  generalize isum (body f) (256 * q) = sm at *
                  go_wp2_with fail
                  go_quiet ((go_at_call 16; exact quiet_same (specByte _ _)))
                  go_wp2
                  refine bodyPost_ret (v := .tuple #[.agg #[.slice (some ⟨go, 0, none⟩) q co], .int .i64 0]) (by simp [results, Tryd.results5, go_sem, r1]) rfl ?_
                  have hE : Hid (Ending.returned (.tuple #[.agg #[.slice (some ⟨go, 0, none⟩) q co], .int .i64 0]) = .returned (.tuple #[.agg #[.slice (some ⟨go, 0, none⟩) q co], .int .i64 (rdC n f)])) := by show _ = _; rw [HC.out]
                  have hO := (((unhide OW).keep (wrote_below (below_drewN wo nq) Nowhere) (fun _ _ x => absurd x id)).lower (show w.heap.size + 1 ≤ _ by omega)).set_low (x := .slice (some ⟨go, 0, none⟩) q co) (Nat.le_refl w.heap.size)
                  have hB : Below w.heap.size w ((wo.drewN nq).setCell ⟨w.heap.size, 0, none⟩ (.slice (some ⟨go, 0, none⟩) q co)) := (CW.trans ((below_drewN wo nq).mono (by omega))).setCell (Nat.le_refl _) _
                  rw [HM.out]
                  first
                    | exact ⟨_, _, _, hE.out, hO, hB⟩
                    | exact ⟨_, hE.out, ⟨_, _, hO⟩, hB⟩
                · have hs2 : (isum (body f) (256 * q) % 256 != f 5) = true := by simpa using hs
                  have HC : Hid (rdC n f = 5) := by show _ = _; rw [unhide HR4]; unfold sumC; rw [HN6.out, if_neg hs]
                  have HM : Hid (rdM n f = 0) := by show _ = _; unfold rdM; rw [HC.out, if_neg (by decide)]
                  clear hs
                  generalize isum (body f) (256 * q) = sm at *
                  go_wp2_with fail
                  go_quiet ((go_at_call 16; exact quiet_same (specByte _ _)))
                  go_wp2
                  refine bodyPost_ret (v := .tuple #[.agg #[.slice none 0 0], .int .i64 5]) (by simp [results, Tryd.results5, go_sem, r1]) rfl ?_
                  have hE : Hid (Ending.returned (.tuple #[.agg #[.slice none 0 0], .int .i64 5]) = .returned (.tuple #[.agg #[.slice none 0 0], .int .i64 (rdC n f)])) := by show _ = _; rw [HC.out]
                  have hO := fun W => OwnSS.nil0 W w.heap.size (fun _ => none) (fun _ => 256) (fun _ => 0) (rdF f)
                  have hB := (CW.trans ((below_drewN wo nq).mono (by omega)))
                  rw [HM.out]
                  first
                    | exact ⟨_, _, _, hE.out, hO _, hB⟩
                    | exact ⟨_, hE.out, ⟨_, _, hO _⟩, hB⟩
                    | exact ⟨_, _, _, hE.out, hO _, hB.setCell (Nat.le_refl _) _⟩
                    | exact ⟨_, hE.out, ⟨_, _, hO _⟩, hB.setCell (Nat.le_refl _) _⟩
      · have hin' := inB_no hin
        go_wp2_with fail
        refine (l1In _ _ _ _).mono ?_
        rintro e wx ⟨rfl, hwx⟩
        subst hwx
        rw [hin']
        have hsz : sizeC n (f 4) = 2 := by unfold sizeC; rw [if_pos (by omega)]
        have HC : Hid (rdC n f = 2) := by show _ = _; rw [hr4, hsz, if_neg (by decide)]
        have HM : Hid (rdM n f = 0) := by show _ = _; unfold rdM; rw [HC.out, if_neg (by decide)]
        clear hr4 hsz hin
        go_wp2
        refine bodyPost_ret (v := .tuple #[.agg #[.slice none 0 0], .int .i64 2]) (by simp [results, Tryd.results5, go_sem, xx]) rfl ?_
        have hE : Hid (Ending.returned (.tuple #[.agg #[.slice none 0 0], .int .i64 2]) = .returned (.tuple #[.agg #[.slice none 0 0], .int .i64 (rdC n f)])) := by show _ = _; rw [HC.out]
        have hO := fun W => OwnSS.nil0 W w.heap.size (fun _ => none) (fun _ => 256) (fun _ => 0) (rdF f)
        rw [HM.out]
        first
          | exact ⟨_, _, _, hE.out, hO _, hL⟩
          | exact ⟨_, hE.out, ⟨_, _, hO _⟩, hL⟩
end Go.Proofs.YtpaedkefmebjjajDoor
