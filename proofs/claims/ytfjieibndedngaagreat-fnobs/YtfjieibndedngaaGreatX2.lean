import Derived.Test.YtfjieibndedngaaGreatW4
import Derived.Test.YtfjieibndedngaaGreatK2
namespace Go.Proofs.YtfjieibndedngaaGreat
set_option maxRecDepth 20000
open Go.ChangeShapes Go.WideShapes Go.ChangeAt Go.RowKit
theorem Vi (w : World) (B c : Nat) (a : Option Addr) (len cap : Nat) (H : Dc w B c a len cap) (m n : Nat) (hn : 0 < n) (hn' : n ≤ 1048576) (hm : m ≠ c) (zs : Nat → ByteArray) (hz : ∀ j, j < n → w.cell? ⟨m, j, none⟩ = some (.string (zs j))) :
    Calls Tryz.prog 71 #[.pointer (some ⟨c, 0, none⟩), .slice (some ⟨m, 0, none⟩) n n] w fun e w' => ∃ j : Nat, e = .returned (.string (zs j)) ∧ j < n ∧ Dc w' B c a len cap ∧ A1 c w w' := by
  go_enter Tryz.func71, Tryz.ntmps71
  go_wp2_with fail
  refine (Bw _ B c a len cap H n).mono ?_
  rintro e w1 ⟨x, rfl, x0, x1, H1, O1⟩
  obtain ⟨j, rfl⟩ := Int.eq_ofNat_of_zero_le x0
  have hj : j < n := by omega
  have hj' : (j : Int) < (n : Int) := by omega
  have hc := (O1.cell (p := ⟨m, j, none⟩) hm).trans (hz j hj)
  go_wp2
  go_ret
  exact ⟨j, rfl, hj, H1, O1⟩
theorem Dc.lt {w : World} {B c : Nat} {a : Option Addr} {len cap : Nat} (H : Dc w B c a len cap) : c < w.heap.size := block_lt_of_cell H.sl
theorem Step.setCell {c b o : Nat} {u w : World} (h : Step c u w) (hb : u.heap.size ≤ b) (x : Value) : Step c u (w.setCell ⟨b, o, none⟩ x) :=
  ⟨h.os, h.tape, h.output, by simpa [World.setCell] using h.size, fun k hk hc => (Below.heap_setCell _ _ _ _ (show k ≠ b by omega)).trans (h.block k hk hc)⟩
theorem Mg {f : Nat → Int} {q : Nat} {y : Int} (h : ∀ j, 0 ≤ f j ∧ f j ≤ 255) (hy : 0 ≤ y ∧ y ≤ 255) : ∀ j, 0 ≤ (if j = q then y else f j) ∧ (if j = q then y else f j) ≤ 255 := fun j => by
  split
  · exact hy
  · exact h j
theorem Uh (j : Nat) : 0 ≤ ix [32, 64, 0, 1, 22, 192, 128, 2, 4, 5] j ∧ ix [32, 64, 0, 1, 22, 192, 128, 2, 4, 5] j ≤ 255 := by
  by_cases h : j < 10
  · have : ∀ i : Fin 10, 0 ≤ ([32, 64, 0, 1, 22, 192, 128, 2, 4, 5] : List Int).getD i.val 0 ∧ ([32, 64, 0, 1, 22, 192, 128, 2, 4, 5] : List Int).getD i.val 0 ≤ 255 := by decide
    exact this ⟨j, h⟩
  · unfold ix
    rw [List.getD_eq_getElem?_getD, List.getElem?_eq_none (by show 10 ≤ j; omega)]
    decide
theorem Rc (W : World) (L : List Int) (t : TypeId) : ∀ j, j < L.length → (W.alloc (.cells (L.map (Value.int .i64)).toArray t)).cell? ⟨W.heap.size, j, none⟩ = some (.int .i64 (L.getD j 0)) := fun j hj => by
  have := L9 W (L.map (Value.int .i64)).toArray t (0, 0) W.heap.size rfl j (.int .i64 (L.getD j 0)) (by simp [hj])
  rw [F5, Nat.zero_add] at this
  exact this
theorem Pu (w : World) (B c : Nat) (a : Option Addr) (len cap : Nat) (H : Dc w B c a len cap) :
    Calls Tryz.prog 57 #[.pointer (some ⟨c, 0, none⟩)] w fun e w' => e = .returned (.slice (some ⟨w.heap.size, 0, none⟩) 256 256) ∧ (∃ f : Nat → Int, w'.rowIs w.heap.size 3 256 (fun j => .int .i64 (f j)) ∧ ∀ j, 0 ≤ f j ∧ f j ≤ 255) ∧ Dc w' B c a len cap ∧ Step c w w' := by
  have hmk := run_make_row' (P := Tryz.prog) 25 3 (.int .i64 0) 8 Tryz.underlying25 info3 rfl .i64 .i64 256 (by omega) (by omega)
  rw [show ((256 : Nat) : Int) = 256 from rfl] at hmk
  have R0 := World.rowIs_made w (.int .i64 0) 256 3
  have hcl := H.lt
  have H0 := H.alloc (.cells (madeCells #[.int .i64 0] 256) 3) hcl
  have S0 : Step c w (w.alloc (.cells (madeCells #[.int .i64 0] 256) 3)) := (Step.refl c w).alloc _
  go_enter Tryz.func57, Tryz.ntmps57
  go_wp2
  generalize w.alloc (.cells (madeCells #[.int .i64 0] 256) 3) = wa at *
  go_loopw [4] (fun i wr => ∃ (q : Nat) (f : Nat → Int), q ≤ 256 ∧ i = .int .i64 q ∧ wr.rowIs w.heap.size 3 256 (fun j => .int .i64 (f j)) ∧ (∀ j, 0 ≤ f j ∧ f j ≤ 255) ∧ Dc wr B c a len cap ∧ Step c w wr) (fun i _ => 256 - (intOf i).toNat)
  case atStart => exact ⟨0, fun _ => 0, Nat.zero_le _, rfl, R0, fun _ => ⟨Int.le_refl 0, show (0 : Int) ≤ 255 by decide⟩, H0, S0⟩
  case round =>
    obtain ⟨q, f, hq, rfl, hR, hF, hC, hS⟩ := hrel
    have HF := Ad hF
    clear hF
    have HR := Ad hR
    have HC := Ad hC
    clear hR hC
    by_cases hlt : q < 256
    · have hlt' : (q : Int) < 256 := by omega
      go_wp2_with fail
      refine (Bw _ B c a len cap (Ab HC) 4).mono ?_
      rintro e w1 ⟨x, rfl, x0, x1, H1, O1⟩
      have R1 := (Ab HR).of_block (O1.block _ (by omega))
      have S1 := hS.trans O1.step
      have HR1 := Ad R1
      clear R1 O1 HC HR
      have e4 : x = 0 ∨ x = 1 ∨ x = 2 ∨ x = 3 := by omega
      rcases e4 with rfl | rfl | rfl | rfl
      · go_wp2_with fail
        refine (Bw _ B c a len cap H1 30).mono ?_
        rintro e w2 ⟨y, rfl, y0, y1, H2, O2⟩
        have hne : w.heap.size ≠ c := by omega
        have R2 := (Ab HR1).of_block (O2.block _ hne)
        have hdst := R2.cell hlt
        have hfz := R2.frozen q
        have R3 := (R2.set q (.int .i64 y)).congr (g := fun j => .int .i64 (if j = q then y else f j)) (fun j _ => by split <;> rfl)
        have HR3 := Ad R3
        have H3 := H2.only ((A1.refl w.heap.size w2).setCell (o := q) (s := none) (.int .i64 y)) hne (by have := H2.up; omega)
        have S3 := (S1.trans O2.step).setCell (b := w.heap.size) (o := q) (Nat.le_refl _) (.int .i64 y)
        have HH3 := Ad H3
        have HS3 := Ad S3
        clear R2 R3 H3 S3
        go_wp2
        go_roundw
        case rel => exact ⟨q + 1, _, by omega, by go_num, Ab HR3, Mg (Ab HF) (by omega), Ab HH3, Ab HS3⟩
        case measure => simp [intOf]; omega
      · have hcl1 := H1.lt
        have hw1 : w.heap.size < w1.heap.size := (Ab HR1).lt
        have HZ := Ad (Rc w1 [32, 64, 0, 1, 22, 192, 128, 2, 4, 5] 3)
        have RA := (Ab HR1).alloc (.cells ([32, 64, 0, 1, 22, 192, 128, 2, 4, 5].map (Value.int .i64)).toArray 3)
        have HA := H1.alloc (.cells ([32, 64, 0, 1, 22, 192, 128, 2, 4, 5].map (Value.int .i64)).toArray 3) hcl1
        have SA := S1.alloc (.cells ([32, 64, 0, 1, 22, 192, 128, 2, 4, 5].map (Value.int .i64)).toArray 3)
        have HRA := Ad RA
        have HSA := Ad SA
        clear RA SA
        go_wp2_with fail
        refine (Fi _ B c a len cap HA w1.heap.size 10 (by omega) (by omega) (by omega) (ix [32, 64, 0, 1, 22, 192, 128, 2, 4, 5]) (Ab HZ)).mono ?_
        rintro e w2 ⟨j0, rfl, hj0, H2, O2⟩
        have hy := Uh j0
        generalize ix [32, 64, 0, 1, 22, 192, 128, 2, 4, 5] j0 = y at *
        have hne : w.heap.size ≠ c := by omega
        have R2 := (Ab HRA).of_block (O2.block _ hne)
        have hdst := R2.cell hlt
        have hfz := R2.frozen q
        have R3 := (R2.set q (.int .i64 y)).congr (g := fun j => .int .i64 (if j = q then y else f j)) (fun j _ => by split <;> rfl)
        have HR3 := Ad R3
        have H3 := H2.only ((A1.refl w.heap.size w2).setCell (o := q) (s := none) (.int .i64 y)) hne (by have := H2.up; omega)
        have S3 := ((Ab HSA).trans O2.step).setCell (b := w.heap.size) (o := q) (Nat.le_refl _) (.int .i64 y)
        have HH3 := Ad H3
        have HS3 := Ad S3
        clear R2 R3 H3 S3
        go_wp2
        go_roundw
        case rel => exact ⟨q + 1, _, by omega, by go_num, Ab HR3, Mg (Ab HF) (by omega), Ab HH3, Ab HS3⟩
        case measure => simp [intOf]; omega
      · go_wp2_with fail
        refine (Bw _ B c a len cap H1 256).mono ?_
        rintro e w2 ⟨y, rfl, y0, y1, H2, O2⟩
        have hne : w.heap.size ≠ c := by omega
        have R2 := (Ab HR1).of_block (O2.block _ hne)
        have hdst := R2.cell hlt
        have hfz := R2.frozen q
        have R3 := (R2.set q (.int .i64 y)).congr (g := fun j => .int .i64 (if j = q then y else f j)) (fun j _ => by split <;> rfl)
        have HR3 := Ad R3
        have H3 := H2.only ((A1.refl w.heap.size w2).setCell (o := q) (s := none) (.int .i64 y)) hne (by have := H2.up; omega)
        have S3 := (S1.trans O2.step).setCell (b := w.heap.size) (o := q) (Nat.le_refl _) (.int .i64 y)
        have HH3 := Ad H3
        have HS3 := Ad S3
        clear R2 R3 H3 S3
        go_wp2
        go_roundw
        case rel => exact ⟨q + 1, _, by omega, by go_num, Ab HR3, Mg (Ab HF) (by omega), Ab HH3, Ab HS3⟩
        case measure => simp [intOf]; omega
      · go_wp2
        go_roundw
        case rel => exact ⟨q + 1, f, by omega, by go_num, Ab HR1, Ab HF, H1, S1⟩
        case measure => simp [intOf]; omega
    · have hlt' : ¬ (q : Int) < 256 := by omega
      go_wp2
      go_ret
      exact ⟨rfl, ⟨f, Ab HR, Ab HF⟩, Ab HC, hS⟩
def F6 : List ByteArray := [⟨#[108, 100, 105, 32, 53, 10, 115, 116, 97, 32, 56, 49, 57, 51, 10, 108, 100, 105, 32, 49, 50, 56, 10, 115, 116, 97, 32, 56, 49, 57, 50, 10, 108, 100, 97, 32, 56, 49, 57, 52, 10, 115, 116, 97, 32, 49, 54, 10, 106, 109, 112, 32, 52, 57, 49, 54, 50, 10]⟩, ⟨#[108, 100, 105, 32, 51, 10, 115, 116, 97, 32, 49, 54, 51, 56, 52, 10, 108, 100, 105, 32, 50, 10, 115, 116, 97, 32, 49, 54, 51, 56, 53, 10, 108, 100, 105, 32, 49, 10, 115, 116, 97, 32, 49, 54, 51, 56, 54, 10, 99, 108, 105, 10, 108, 100, 97, 32, 49, 54, 51, 56, 54, 10, 106, 109, 112, 32, 52, 57, 49, 54, 56, 10]⟩, ⟨#[108, 100, 105, 32, 50, 10, 115, 116, 97, 32, 56, 49, 57, 53, 10, 105, 110, 120, 10, 116, 120, 97, 10, 115, 116, 97, 32, 56, 49, 57, 54, 10, 115, 116, 97, 32, 56, 49, 57, 55, 10, 108, 100, 97, 32, 56, 49, 57, 54, 10, 115, 116, 97, 32, 48, 10, 106, 109, 112, 32, 52, 57, 49, 53, 55, 10]⟩, ⟨#[108, 100, 105, 32, 49, 10, 115, 116, 97, 32, 49, 54, 52, 48, 54, 10, 108, 100, 105, 32, 48, 10, 115, 116, 97, 32, 49, 54, 52, 48, 54, 10, 108, 100, 97, 32, 49, 54, 52, 48, 54, 10, 112, 104, 97, 10, 108, 100, 97, 32, 49, 54, 52, 48, 54, 10, 112, 108, 97, 10, 106, 109, 112, 32, 52, 57, 49, 54, 50, 10]⟩, ⟨#[105, 110, 120, 10, 116, 120, 97, 10, 115, 116, 97, 32, 51, 50, 55, 54, 56, 10, 108, 100, 97, 32, 51, 50, 55, 55, 48, 10, 115, 116, 97, 32, 56, 49, 57, 51, 10, 106, 109, 112, 32, 52, 57, 49, 53, 50, 10]⟩, ⟨#[108, 100, 105, 32, 49, 50, 56, 10, 115, 116, 97, 32, 56, 49, 57, 50, 10, 108, 100, 105, 32, 55, 10, 115, 116, 97, 32, 49, 54, 51, 56, 53, 10, 108, 100, 105, 32, 49, 10, 115, 116, 97, 32, 49, 54, 51, 56, 54, 10, 99, 108, 105, 10, 106, 115, 114, 32, 52, 57, 51, 48, 48, 10, 106, 109, 112, 32, 52, 57, 49, 54, 56, 10]⟩, ⟨#[108, 100, 105, 32, 57, 10, 115, 101, 99, 10, 115, 98, 105, 32, 49, 10, 98, 110, 101, 32, 52, 57, 49, 53, 52, 10, 115, 116, 97, 32, 56, 49, 57, 51, 10, 106, 109, 112, 32, 52, 57, 49, 53, 50, 10]⟩]
def mainAt (j : Nat) : ByteArray := F6.getD j ByteArray.empty
theorem Re (j : Nat) (h : j < 7) : (mainAt j).size ≤ 200 := by
  have : ∀ i : Fin 7, (F6.getD i.val ByteArray.empty).data.size ≤ 200 := by decide
  exact this ⟨j, h⟩
theorem Sw (W : World) (L : List ByteArray) (t : TypeId) : ∀ j, j < L.length → (W.alloc (.cells (L.map Value.string).toArray t)).cell? ⟨W.heap.size, j, none⟩ = some (.string (L.getD j ByteArray.empty)) := fun j hj => by
  have := L9 W (L.map Value.string).toArray t (0, 0) W.heap.size rfl j (.string (L.getD j ByteArray.empty)) (by simp [hj])
  rw [F5, Nat.zero_add] at this
  exact this
theorem Vj (w : World) (B c : Nat) (a : Option Addr) (len cap : Nat) (H : Dc w B c a len cap) :
    Calls Tryz.prog 60 #[.pointer (some ⟨c, 0, none⟩)] w fun e w' => (∃ s : ByteArray, e = .returned (.string s) ∧ s.size ≤ 1048576) ∧ Dc w' B c a len cap ∧ Step c w w' := by
  have hcl := H.lt
  have HZ := Ad (Sw w F6 9)
  have HA := H.alloc (.cells (F6.map Value.string).toArray 9) hcl
  have SA := (Step.refl c w).alloc (.cells (F6.map Value.string).toArray 9)
  go_enter Tryz.func60, Tryz.ntmps60
  go_wp2_with fail
  refine (Vi _ B c a len cap HA w.heap.size 7 (by omega) (by omega) (by omega) mainAt (Ab HZ)).mono ?_
  rintro e w1 ⟨j0, rfl, hj0, H1, O1⟩
  have hsz := Re j0 hj0
  generalize mainAt j0 = s at *
  go_wp2
  go_ret
  exact ⟨⟨_, rfl, by rw [ByteArray.size_append]; have : ∀ x : ByteArray, x.size ≤ 1000 → s.size + x.size ≤ 1048576 := fun x h => by omega
                     exact this _ (by decide)⟩, H1, SA.trans O1.step⟩
theorem Ns {s : ByteArray} {L : List Int} {tq : Int} (h : Md s L tq true) : ∀ x ∈ L, 0 ≤ x ∧ x ≤ 255 := by
  obtain ⟨wd, n, k, -, h⟩ := h
  rcases h with ⟨_, rfl, _, _⟩ | ⟨_, _, rfl, _, _⟩ | ⟨_, _, hi, _, h⟩ | ⟨_, _, _, _, r, hr, h⟩
  · simp
  · simp
  · have hb := (Cr n 0 255).1 hi.symm
    rw [← hi] at h
    simp at h
    subst h
    intro x hx
    simp at hx
    subst hx
    exact hb
  · have hr30 : 0 ≤ r → r ≤ 29 := fun h0 => by
      rcases hr with ⟨i, hi, rfl, _⟩ | ⟨rfl, _⟩
      · omega
      · omega
    rcases h with ⟨_, rfl, _⟩ | ⟨h0, ⟨_, rfl, _⟩ | ⟨_, rfl, _⟩ | ⟨_, rfl, _⟩⟩
    · simp
    · intro x hx; simp at hx; subst hx; have := hr30 h0; omega
    · intro x hx; simp at hx; have := hr30 h0; rcases hx with rfl | rfl <;> omega
    · intro x hx; simp at hx; have := hr30 h0; rcases hx with rfl | rfl | rfl <;> omega
theorem Vk (L : List Int) : ∀ (o : Nat → Int) (a : Nat), (∀ j, 0 ≤ o j ∧ o j ≤ 255) → (∀ x ∈ L, 0 ≤ x ∧ x ≤ 255) → ∀ j, 0 ≤ put o a L j ∧ put o a L j ≤ 255 := by
  induction L with
  | nil => intro o a ho _ j; exact ho j
  | cons x r ih =>
    intro o a ho hL j
    exact ih _ _ (Mg ho (hL x (by simp))) (fun y hy => hL y (by simp [hy])) j
theorem Vl {t : ByteArray} {i : Nat} {o : Nat → Int} {a fr m : Nat} (h : Asm t i o a fr m) : ∀ j, 0 ≤ o j ∧ o j ≤ 255 := by
  induction h with
  | start => exact fun _ => ⟨Int.le_refl 0, show (0 : Int) ≤ 255 by decide⟩
  | skip _ _ ih => exact ih
  | empty _ _ _ ih => exact ih
  | line _ _ _ hb ih => exact Vk _ _ _ ih (Ns hb)
theorem Sx {t : ByteArray} {n : Nat} {f : Nat → Int} {c : Int} (h : Sv t n f c) : (n = 0 ∨ n = 256) ∧ (n = 256 → ∀ j, j < 256 → 0 ≤ f j ∧ f j ≤ 255) := by
  rcases h with ⟨_, rfl, _⟩ | ⟨_, rfl, _⟩ | ⟨_, rfl, _, o, a, fr, m, hA, hf⟩
  · exact ⟨Or.inl rfl, fun h => by cases h⟩
  · exact ⟨Or.inl rfl, fun h => by cases h⟩
  · exact ⟨Or.inr rfl, fun _ j hj => by rw [hf j hj]; exact Vl hA j⟩
end Go.Proofs.YtfjieibndedngaaGreat
