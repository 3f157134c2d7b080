import Derived.Test.YtjnjnppongdhgaaGreatW4
import Derived.Test.YtjnjnppongdhgaaGreatKY
import Derived.Test.YtjnjnppongdhgaaGreatSR
namespace Go.Proofs.YtjnjnppongdhgaaGreat
set_option maxRecDepth 20000
open Go.ChangeShapes Go.WideShapes Go.ChangeAt Go.RowKit
theorem Zb (w : World) (B c : Nat) (a : Option Addr) (len cap : Nat) (H : Dl w B c a len cap) (m n : Nat) (hn : 0 < n) (hn' : n ≤ 1048576) (hm : m ≠ c) (zs : Nat → ByteArray) (hz : ∀ j, j < n → w.cell? ⟨m, j, none⟩ = some (.string (zs j))) :
    Calls Tryz.prog 138 #[.pointer (some ⟨c, 0, none⟩), .slice (some ⟨m, 0, none⟩) n n] w fun e w' => ∃ j : Nat, e = .returned (.string (zs j)) ∧ j < n ∧ Dl w' B c a len cap ∧ A5 c w w' := by
  go_enter Tryz.func138, Tryz.ntmps138
  go_wp2_with fail
  refine (Cq _ B c a len cap H n).mono ?_
  rintro e w1 ⟨x, rfl, x0, x1, H1, O1⟩
  obtain ⟨j, rfl⟩ := Int.eq_ofNat_of_zero_le x0
  have hj : j < n := by omega
  have hj' : (j : Int) < (n : Int) := by omega
  have hc := (O1.cell (p := ⟨m, j, none⟩) hm).trans (hz j hj)
  go_wp2
  go_ret
  exact ⟨j, rfl, hj, H1, O1⟩
theorem Dl.lt {w : World} {B c : Nat} {a : Option Addr} {len cap : Nat} (H : Dl w B c a len cap) : c < w.heap.size := block_lt_of_cell H.sl
theorem Step.setCell {c b o : Nat} {u w : World} (h : Step c u w) (hb : u.heap.size ≤ b) (x : Value) : Step c u (w.setCell ⟨b, o, none⟩ x) :=
  ⟨h.os, h.tape, h.output, by simpa [World.setCell] using h.size, fun k hk hc => (Below.heap_setCell _ _ _ _ (show k ≠ b by omega)).trans (h.block k hk hc)⟩
theorem Ob {f : Nat → Int} {q : Nat} {y : Int} (h : ∀ j, 0 ≤ f j ∧ f j ≤ 255) (hy : 0 ≤ y ∧ y ≤ 255) : ∀ j, 0 ≤ (if j = q then y else f j) ∧ (if j = q then y else f j) ≤ 255 := fun j => by
  split
  · exact hy
  · exact h j
theorem Xy (j : Nat) : 0 ≤ ix [32, 64, 0, 1, 22, 192, 128, 2, 4, 5] j ∧ ix [32, 64, 0, 1, 22, 192, 128, 2, 4, 5] j ≤ 255 := by
  by_cases h : j < 10
  · have : ∀ i : Fin 10, 0 ≤ ([32, 64, 0, 1, 22, 192, 128, 2, 4, 5] : List Int).getD i.val 0 ∧ ([32, 64, 0, 1, 22, 192, 128, 2, 4, 5] : List Int).getD i.val 0 ≤ 255 := by decide
    exact this ⟨j, h⟩
  · unfold ix
    rw [List.getD_eq_getElem?_getD, List.getElem?_eq_none (by show 10 ≤ j; omega)]
    decide
theorem Mw (W : World) (L : List Int) (t : TypeId) : ∀ j, j < L.length → (W.alloc (.cells (L.map (Value.int .i64)).toArray t)).cell? ⟨W.heap.size, j, none⟩ = some (.int .i64 (L.getD j 0)) := fun j hj => by
  have := N2 W (L.map (Value.int .i64)).toArray t (0, 0) W.heap.size rfl j (.int .i64 (L.getD j 0)) (by simp [hj])
  rw [Fx, Nat.zero_add] at this
  exact this
theorem Rm (w : World) (B c : Nat) (a : Option Addr) (len cap : Nat) (H : Dl w B c a len cap) :
    Calls Tryz.prog 117 #[.pointer (some ⟨c, 0, none⟩)] w fun e w' => e = .returned (.slice (some ⟨w.heap.size, 0, none⟩) 256 256) ∧ (∃ f : Nat → Int, w'.rowIs w.heap.size 3 256 (fun j => .int .i64 (f j)) ∧ ∀ j, 0 ≤ f j ∧ f j ≤ 255) ∧ Dl w' B c a len cap ∧ Step c w w' := by
  have hmk := run_make_row' (P := Tryz.prog) 27 3 (.int .i64 0) 8 Tryz.underlying27 Gd rfl .i64 .i64 256 (by omega) (by omega)
  rw [show ((256 : Nat) : Int) = 256 from rfl] at hmk
  have R0 := World.rowIs_made w (.int .i64 0) 256 3
  have hcl := H.lt
  have H0 := H.alloc (.cells (madeCells #[.int .i64 0] 256) 3) hcl
  have S0 : Step c w (w.alloc (.cells (madeCells #[.int .i64 0] 256) 3)) := (Step.refl c w).alloc _
  go_enter Tryz.func117, Tryz.ntmps117
  go_wp2
  generalize w.alloc (.cells (madeCells #[.int .i64 0] 256) 3) = wa at *
  go_loopw [4] (fun i wr => ∃ (q : Nat) (f : Nat → Int), q ≤ 256 ∧ i = .int .i64 q ∧ wr.rowIs w.heap.size 3 256 (fun j => .int .i64 (f j)) ∧ (∀ j, 0 ≤ f j ∧ f j ≤ 255) ∧ Dl wr B c a len cap ∧ Step c w wr) (fun i _ => 256 - (intOf i).toNat)
  case atStart => exact ⟨0, fun _ => 0, Nat.zero_le _, rfl, R0, fun _ => ⟨Int.le_refl 0, show (0 : Int) ≤ 255 by decide⟩, H0, S0⟩
  case round =>
    obtain ⟨q, f, hq, rfl, hR, hF, hC, hS⟩ := hrel
    have HF := Ac hF
    clear hF
    have HR := Ac hR
    have HC := Ac hC
    clear hR hC
    by_cases hlt : q < 256
    · have hlt' : (q : Int) < 256 := by omega
      go_wp2_with fail
      refine (Cq _ B c a len cap (Ad HC) 4).mono ?_
      rintro e w1 ⟨x, rfl, x0, x1, H1, O1⟩
      have R1 := (Ad HR).of_block (O1.block _ (by omega))
      have S1 := hS.trans O1.step
      have HR1 := Ac R1
      clear R1 O1 HC HR
      have e4 : x = 0 ∨ x = 1 ∨ x = 2 ∨ x = 3 := by omega
      rcases e4 with rfl | rfl | rfl | rfl
      · go_wp2_with fail
        refine (Cq _ B c a len cap H1 30).mono ?_
        rintro e w2 ⟨y, rfl, y0, y1, H2, O2⟩
        have hne : w.heap.size ≠ c := by omega
        have R2 := (Ad HR1).of_block (O2.block _ hne)
        have hdst := R2.cell hlt
        have hfz := R2.frozen q
        have R3 := (R2.set q (.int .i64 y)).congr (g := fun j => .int .i64 (if j = q then y else f j)) (fun j _ => by split <;> rfl)
        have HR3 := Ac R3
        have H3 := H2.only ((A5.refl w.heap.size w2).setCell (o := q) (s := none) (.int .i64 y)) hne (by have := H2.up; omega)
        have S3 := (S1.trans O2.step).setCell (b := w.heap.size) (o := q) (Nat.le_refl _) (.int .i64 y)
        have HH3 := Ac H3
        have HS3 := Ac S3
        clear R2 R3 H3 S3
        go_wp2
        go_roundw
        case rel => exact ⟨q + 1, _, by omega, by go_num, Ad HR3, Ob (Ad HF) (by omega), Ad HH3, Ad HS3⟩
        case measure => simp [intOf]; omega
      · have hcl1 := H1.lt
        have hw1 : w.heap.size < w1.heap.size := (Ad HR1).lt
        have HZ := Ac (Mw w1 [32, 64, 0, 1, 22, 192, 128, 2, 4, 5] 3)
        have RA := (Ad HR1).alloc (.cells ([32, 64, 0, 1, 22, 192, 128, 2, 4, 5].map (Value.int .i64)).toArray 3)
        have HA := H1.alloc (.cells ([32, 64, 0, 1, 22, 192, 128, 2, 4, 5].map (Value.int .i64)).toArray 3) hcl1
        have SA := S1.alloc (.cells ([32, 64, 0, 1, 22, 192, 128, 2, 4, 5].map (Value.int .i64)).toArray 3)
        have HRA := Ac RA
        have HSA := Ac SA
        clear RA SA
        go_wp2_with fail
        refine (Ep _ B c a len cap HA w1.heap.size 10 (by omega) (by omega) (by omega) (ix [32, 64, 0, 1, 22, 192, 128, 2, 4, 5]) (Ad HZ)).mono ?_
        rintro e w2 ⟨j0, rfl, hj0, H2, O2⟩
        have hy := Xy j0
        generalize ix [32, 64, 0, 1, 22, 192, 128, 2, 4, 5] j0 = y at *
        have hne : w.heap.size ≠ c := by omega
        have R2 := (Ad HRA).of_block (O2.block _ hne)
        have hdst := R2.cell hlt
        have hfz := R2.frozen q
        have R3 := (R2.set q (.int .i64 y)).congr (g := fun j => .int .i64 (if j = q then y else f j)) (fun j _ => by split <;> rfl)
        have HR3 := Ac R3
        have H3 := H2.only ((A5.refl w.heap.size w2).setCell (o := q) (s := none) (.int .i64 y)) hne (by have := H2.up; omega)
        have S3 := ((Ad HSA).trans O2.step).setCell (b := w.heap.size) (o := q) (Nat.le_refl _) (.int .i64 y)
        have HH3 := Ac H3
        have HS3 := Ac S3
        clear R2 R3 H3 S3
        go_wp2
        go_roundw
        case rel => exact ⟨q + 1, _, by omega, by go_num, Ad HR3, Ob (Ad HF) (by omega), Ad HH3, Ad HS3⟩
        case measure => simp [intOf]; omega
      · go_wp2_with fail
        refine (Cq _ B c a len cap H1 256).mono ?_
        rintro e w2 ⟨y, rfl, y0, y1, H2, O2⟩
        have hne : w.heap.size ≠ c := by omega
        have R2 := (Ad HR1).of_block (O2.block _ hne)
        have hdst := R2.cell hlt
        have hfz := R2.frozen q
        have R3 := (R2.set q (.int .i64 y)).congr (g := fun j => .int .i64 (if j = q then y else f j)) (fun j _ => by split <;> rfl)
        have HR3 := Ac R3
        have H3 := H2.only ((A5.refl w.heap.size w2).setCell (o := q) (s := none) (.int .i64 y)) hne (by have := H2.up; omega)
        have S3 := (S1.trans O2.step).setCell (b := w.heap.size) (o := q) (Nat.le_refl _) (.int .i64 y)
        have HH3 := Ac H3
        have HS3 := Ac S3
        clear R2 R3 H3 S3
        go_wp2
        go_roundw
        case rel => exact ⟨q + 1, _, by omega, by go_num, Ad HR3, Ob (Ad HF) (by omega), Ad HH3, Ad HS3⟩
        case measure => simp [intOf]; omega
      · go_wp2
        go_roundw
        case rel => exact ⟨q + 1, f, by omega, by go_num, Ad HR1, Ad HF, H1, S1⟩
        case measure => simp [intOf]; omega
    · have hlt' : ¬ (q : Int) < 256 := by omega
      go_wp2
      go_ret
      exact ⟨rfl, ⟨f, Ad HR, Ad HF⟩, Ad HC, hS⟩
def Gj : List ByteArray := [⟨#[108, 100, 105, 32, 53, 10, 115, 116, 97, 32, 56, 49, 57, 51, 10, 108, 100, 105, 32, 49, 50, 56, 10, 115, 116, 97, 32, 56, 49, 57, 50, 10, 108, 100, 97, 32, 56, 49, 57, 52, 10, 115, 116, 97, 32, 49, 54, 10, 106, 109, 112, 32, 52, 57, 49, 54, 50, 10]⟩, ⟨#[108, 100, 105, 32, 51, 10, 115, 116, 97, 32, 49, 54, 51, 56, 52, 10, 108, 100, 105, 32, 50, 10, 115, 116, 97, 32, 49, 54, 51, 56, 53, 10, 108, 100, 105, 32, 49, 10, 115, 116, 97, 32, 49, 54, 51, 56, 54, 10, 99, 108, 105, 10, 108, 100, 97, 32, 49, 54, 51, 56, 54, 10, 106, 109, 112, 32, 52, 57, 49, 54, 56, 10]⟩, ⟨#[108, 100, 105, 32, 50, 10, 115, 116, 97, 32, 56, 49, 57, 53, 10, 105, 110, 120, 10, 116, 120, 97, 10, 115, 116, 97, 32, 56, 49, 57, 54, 10, 115, 116, 97, 32, 56, 49, 57, 55, 10, 108, 100, 97, 32, 56, 49, 57, 54, 10, 115, 116, 97, 32, 48, 10, 106, 109, 112, 32, 52, 57, 49, 53, 55, 10]⟩, ⟨#[108, 100, 105, 32, 49, 10, 115, 116, 97, 32, 49, 54, 52, 48, 54, 10, 108, 100, 105, 32, 48, 10, 115, 116, 97, 32, 49, 54, 52, 48, 54, 10, 108, 100, 97, 32, 49, 54, 52, 48, 54, 10, 112, 104, 97, 10, 108, 100, 97, 32, 49, 54, 52, 48, 54, 10, 112, 108, 97, 10, 106, 109, 112, 32, 52, 57, 49, 54, 50, 10]⟩, ⟨#[105, 110, 120, 10, 116, 120, 97, 10, 115, 116, 97, 32, 51, 50, 55, 54, 56, 10, 108, 100, 97, 32, 51, 50, 55, 55, 48, 10, 115, 116, 97, 32, 56, 49, 57, 51, 10, 106, 109, 112, 32, 52, 57, 49, 53, 50, 10]⟩, ⟨#[108, 100, 105, 32, 49, 50, 56, 10, 115, 116, 97, 32, 56, 49, 57, 50, 10, 108, 100, 105, 32, 55, 10, 115, 116, 97, 32, 49, 54, 51, 56, 53, 10, 108, 100, 105, 32, 49, 10, 115, 116, 97, 32, 49, 54, 51, 56, 54, 10, 99, 108, 105, 10, 106, 115, 114, 32, 52, 57, 51, 48, 48, 10, 106, 109, 112, 32, 52, 57, 49, 54, 56, 10]⟩, ⟨#[108, 100, 105, 32, 57, 10, 115, 101, 99, 10, 115, 98, 105, 32, 49, 10, 98, 110, 101, 32, 52, 57, 49, 53, 52, 10, 115, 116, 97, 32, 56, 49, 57, 51, 10, 106, 109, 112, 32, 52, 57, 49, 53, 50, 10]⟩]
def mainAt (j : Nat) : ByteArray := Gj.getD j ByteArray.empty
theorem Tt (j : Nat) (h : j < 7) : (mainAt j).size ≤ 200 := by
  have : ∀ i : Fin 7, (Gj.getD i.val ByteArray.empty).data.size ≤ 200 := by decide
  exact this ⟨j, h⟩
theorem Vx (W : World) (L : List ByteArray) (t : TypeId) : ∀ j, j < L.length → (W.alloc (.cells (L.map Value.string).toArray t)).cell? ⟨W.heap.size, j, none⟩ = some (.string (L.getD j ByteArray.empty)) := fun j hj => by
  have := N2 W (L.map Value.string).toArray t (0, 0) W.heap.size rfl j (.string (L.getD j ByteArray.empty)) (by simp [hj])
  rw [Fx, Nat.zero_add] at this
  exact this
theorem Zc (w : World) (B c : Nat) (a : Option Addr) (len cap : Nat) (H : Dl w B c a len cap) :
    Calls Tryz.prog 119 #[.pointer (some ⟨c, 0, none⟩)] w fun e w' => (∃ s : ByteArray, e = .returned (.string s) ∧ s.size ≤ 1048576) ∧ Dl w' B c a len cap ∧ Step c w w' := by
  have hcl := H.lt
  have HZ := Ac (Vx w Gj 9)
  have HA := H.alloc (.cells (Gj.map Value.string).toArray 9) hcl
  have SA := (Step.refl c w).alloc (.cells (Gj.map Value.string).toArray 9)
  go_enter Tryz.func119, Tryz.ntmps119
  go_wp2_with fail
  refine (Zb _ B c a len cap HA w.heap.size 7 (by omega) (by omega) (by omega) mainAt (Ad HZ)).mono ?_
  rintro e w1 ⟨j0, rfl, hj0, H1, O1⟩
  have hsz := Tt j0 hj0
  generalize mainAt j0 = s at *
  go_wp2
  go_ret
  exact ⟨⟨_, rfl, by rw [ByteArray.size_append]; have : ∀ x : ByteArray, x.size ≤ 1000 → s.size + x.size ≤ 1048576 := fun x h => by omega
                     exact this _ (by decide)⟩, H1, SA.trans O1.step⟩
theorem Px {s : ByteArray} {L : List Int} {tq : Int} (h : N8 s L tq true) : ∀ x ∈ L, 0 ≤ x ∧ x ≤ 255 := by
  obtain ⟨wd, n, k, -, h⟩ := h
  rcases h with ⟨_, rfl, _, _⟩ | ⟨_, _, rfl, _, _⟩ | ⟨_, _, hi, _, h⟩ | ⟨_, _, _, _, r, hr, h⟩
  · simp
  · simp
  · have hb := (Co n 0 255).1 hi.symm
    rw [← hi] at h
    simp at h
    subst h
    intro x hx
    simp at hx
    subst hx
    exact hb
  · have hr30 : 0 ≤ r → r ≤ 29 := fun h0 => by
      rcases hr with ⟨i, hi, rfl, _⟩ | ⟨rfl, _⟩
      · omega
      · omega
    rcases h with ⟨_, rfl, _⟩ | ⟨h0, ⟨_, rfl, _⟩ | ⟨_, rfl, _⟩ | ⟨_, rfl, _⟩⟩
    · simp
    · intro x hx; simp at hx; subst hx; have := hr30 h0; omega
    · intro x hx; simp at hx; have := hr30 h0; rcases hx with rfl | rfl <;> omega
    · intro x hx; simp at hx; have := hr30 h0; rcases hx with rfl | rfl | rfl <;> omega
theorem Zd (L : List Int) : ∀ (o : Nat → Int) (a : Nat), (∀ j, 0 ≤ o j ∧ o j ≤ 255) → (∀ x ∈ L, 0 ≤ x ∧ x ≤ 255) → ∀ j, 0 ≤ put o a L j ∧ put o a L j ≤ 255 := by
  induction L with
  | nil => intro o a ho _ j; exact ho j
  | cons x r ih =>
    intro o a ho hL j
    exact ih _ _ (Ob ho (hL x (by simp))) (fun y hy => hL y (by simp [hy])) j
theorem Ze {t : ByteArray} {i : Nat} {o : Nat → Int} {a fr m : Nat} (h : Asm t i o a fr m) : ∀ j, 0 ≤ o j ∧ o j ≤ 255 := by
  induction h with
  | start => exact fun _ => ⟨Int.le_refl 0, show (0 : Int) ≤ 255 by decide⟩
  | skip _ _ ih => exact ih
  | empty _ _ _ ih => exact ih
  | line _ _ _ hb ih => exact Zd _ _ _ ih (Px hb)
theorem Vy {t : ByteArray} {n : Nat} {f : Nat → Int} {c : Int} (h : Vw t n f c) : (n = 0 ∨ n = 256) ∧ (n = 256 → ∀ j, j < 256 → 0 ≤ f j ∧ f j ≤ 255) := by
  rcases h with ⟨_, rfl, _⟩ | ⟨_, rfl, _⟩ | ⟨_, rfl, _, o, a, fr, m, hA, hf⟩
  · exact ⟨Or.inl rfl, fun h => by cases h⟩
  · exact ⟨Or.inl rfl, fun h => by cases h⟩
  · exact ⟨Or.inr rfl, fun _ j hj => by rw [hf j hj]; exact Ze hA j⟩
def Ix (w:World) (v:Value) (m:Nat):Prop:=∀ a cap,v=.slice a m cap→Ji w (Ce a m)
theorem Ix.keep {w w':World} {R:Nat→Nat→Prop} {v:Value} {m:Nat} (h:Ix w v m) (hw:Wrote R w w'):Ix w' v m:=fun a cap e=>(h a cap e).keep hw
def AtC (b o:Nat):Nat→Nat→Prop:=fun b' o'=>b'=b∧o'=o
theorem Py (w:World) (b o:Nat) (x:Value):Wrote (AtC b o) w (w.setCell ⟨b,o,none⟩ x):=(Wrote.refl _ _).setCell (fun _=>⟨rfl,rfl⟩) x
theorem Pz {ln:Nat→Nat} {K:Nat}:∀ {m:Nat},(∀ i,i<m→ln i≤K)→Cy ln m≤m*K
 | 0,_=>by simp [Cy]
 | m+1,h=>by
  have h1:=Pz (m:=m) (fun i hi=>h i (by omega));have h2:=h m (by omega);rw [Nat.succ_mul]
  show Cy ln m+ln m≤_
  omega
theorem Cr.setInner {w:World} {lo:Nat} {v:Value} {m:Nat} {ra:Nat→Option Addr} {ln rc:Nat→Nat} {f:Nat→Nat→Int} (h:Cr w lo v m ra ln rc f) (i j b off:Nat) (hi:i<m) (hj:j<ln i) (ha:ra i=some ⟨b,off,none⟩) (x:Int) :
  Cr (w.setCell ⟨b,off+j,none⟩ (.i x)) lo v m ra ln rc (fun p q=>if p=i∧q=j then x else f p q):=by
 have hW:=Py w b (off+j) (.i x)
 have hF:Ce (ra i) (ln i) b (off+j):=by rw [ha]; exact Br hj
 refine ⟨h.sep.keep hW (fun b' o' hR=>⟨i,hi,by obtain ⟨rfl,rfl⟩:=hR; exact hF⟩),fun p hp=>?_,h.inner,h.outer,h.len⟩
 by_cases e:p=i
 ·subst e
  intro q hq;obtain ⟨b',off',e',hc⟩:=h.rows p hp q hq;rw [ha] at e';simp only [Option.some.injEq,Addr.mk.injEq,and_true] at e';obtain ⟨rfl,rfl⟩:=e';refine ⟨b,off,ha,?_⟩
  by_cases e2:q=j
  ·subst e2
   rw [World.cell?_setCell_same _ _ _ hc]
   simp
  ·rw [World.cell?_setCell_other _ _ _ _ (by intro h; simp only [Addr.mk.injEq] at h; omega),hc]
   simp [e2]
 ·exact ((h.rows p hp).keep hW (fun b' o' hF' hR=>by obtain ⟨rfl,rfl⟩:=hR; exact h.sep.disj p i hp hi e _ _ hF' hF)).congr (fun q _=>by simp [e])
theorem Cr.setOuter {w:World} {lo:Nat} {v:Value} {m:Nat} {ra:Nat→Option Addr} {ln rc:Nat→Nat} {f:Nat→Nat→Int} (h:Cr w lo v m ra ln rc f) (i b off cap:Nat) (hi:i<m) (hv:v=.slice (some ⟨b,off,none⟩) m cap) (a':Option Addr) (n' c':Nat) (g:Nat→Int)
  (hr:Bu .i64 w a' n' g) (hfr:Ji w (Ce a' n')) (hlo:∀ b o,Ce a' n' b o→lo≤b) (hn:n'≤1048576) (hout:∀ b' o',Ce a' n' b' o'→¬ Ce (some ⟨b,off,none⟩) m b' o')
  (hdis:∀ p,p<m→p≠i→∀ b' o',Ce a' n' b' o'→¬ Ce (ra p) (ln p) b' o') :
  Cr (w.setCell ⟨b,off+i,none⟩ (.slice a' n' c')) lo v m (fun p=>if p=i then a' else ra p) (fun p=>if p=i then n' else ln p) (fun p=>if p=i then c' else rc p) (fun p=>if p=i then g else f p):=by
 have hW:=Py w b (off+i) (.slice a' n' c');obtain ⟨⟨⟨a,cap',hv',hm,ho⟩,hf,hdj,hs⟩,hrw,hin,hou,hl⟩:=h;have hva:=hv;rw [hv] at hv';simp only [Value.slice.injEq] at hv';obtain ⟨rfl,_,rfl⟩:=hv'
 have hlen:∀ p,p<m→(if p=i then n' else ln p)≤1048576:=fun p hp=>by split; exact hn; exact hl p hp
 have hoc:∀ p,p<m→w.cell? ⟨b,off+p,none⟩=some (.slice (ra p) (ln p) (rc p))∧∀ j,j<m→¬ Ce (ra j) (ln j) b (off+p):=fun p hp=>by
  obtain ⟨b2,off2,e2,hc2,hn2⟩:=ho p hp;simp only [Option.some.injEq,Addr.mk.injEq,and_true] at e2;obtain ⟨rfl,rfl⟩:=e2;exact ⟨hc2,hn2⟩
 refine ⟨⟨⟨some ⟨b,off,none⟩,cap,hva,hm,fun p hp=>⟨b,off,rfl,?_,fun j hj=>?_⟩⟩,fun p hp=>?_,fun p q hp hq hpq b' o' h1=>?_,?_⟩,fun p hp=>?_,fun p hp b' o' hF=>?_,hou,hlen⟩
 ·by_cases e:p=i
  ·subst e
   rw [World.cell?_setCell_same _ _ _ (hoc p hp).1]
   simp
  ·rw [World.cell?_setCell_other _ _ _ _ (by intro h; simp only [Addr.mk.injEq] at h; omega),(hoc p hp).1]
   simp [e]
 ·by_cases e:j=i
  ·subst e
   simp only
   exact fun hF=>hout _ _ hF (Br hp)
  ·simp only [if_neg e]
   exact (hoc p hp).2 j hj
 ·by_cases e:p=i
  ·subst e
   simp only;exact hfr.keep hW
  ·simp only [if_neg e]
   exact (hf p hp).keep hW
 ·by_cases e:p=i
  ·subst e
   have e2:¬ q=p:=fun x=>hpq x.symm
   simp only at h1;simp only [if_neg e2];exact hdis q hq e2 _ _ h1
  ·simp only [if_neg e] at h1
   by_cases e2:q=i
   ·subst e2
    simp only
    exact fun hF=>hdis p hp e _ _ hF h1
   ·simp only [if_neg e2]
    exact hdj p q hp hq hpq _ _ h1
 ·exact Nat.le_trans (Pz hlen) (Nat.le_trans (Nat.mul_le_mul_right _ hm) (by decide))
 ·by_cases e:p=i
  ·subst e
   simp only;exact hr.keep hW (fun b' o' hF hR=>by obtain ⟨rfl,rfl⟩:=hR; exact hout _ _ hF (Br hi))
  ·simp only [if_neg e]
   exact (hrw p hp).keep hW (fun b' o' hF hR=>by obtain ⟨rfl,rfl⟩:=hR; exact (hoc i hi).2 p hp hF)
 ·by_cases e:p=i
  ·subst e
   simp only at hF;exact hlo _ _ hF
  ·simp only [if_neg e] at hF
   exact hin p hp _ _ hF
theorem Tu {P:Program} {ops:Array Oper} {o:Oper} {a:Act} {w:World} {K:Act→World→Prop} {Q:Exit→Act→World→Prop} {E:Prop} (hg:o.guard=none) (f:FuncId) (vs:Array Value)
  (hE:(execOp a.eval o).run P w=.ok (.enter f vs) w)
  (h:Calls P f vs w fun e w'=>∃ v,e=.returned v∧K (a.put o.dst v) w'):if Region.wanted o (yielded ops a.tmps)=true then Oper.wp P o a w K Q else E:=by
 have hw:Region.wanted o (yielded ops a.tmps)=true:=by simp [Region.wanted,hg]
 rw [if_pos hw];unfold Oper.wp;rw [hE,Oper.upon_enter];exact h.mono (by rintro e w' ⟨v,rfl,hk⟩; exact hk)
theorem Step.low {c:Nat} {u v w:World} (h:Step c u v) (k:Below u.heap.size v w):Step c u w :=
 ⟨k.os.trans h.os,k.tape.trans h.tape,k.output.trans h.output,Nat.le_trans h.size k.size,fun i hi hc=>(k.block i hi).trans (h.block i hi hc)⟩
theorem E8.congrF {w:World} {lo q:Nat} {gb:Nat→Nat} {F G:Nat→Nat→Int} (h:E8 w lo q gb F) (e:∀ i,i<q→F i=G i):E8 w lo q gb G :=
 ⟨fun i hi=>e i hi ▸ h.rows i hi,h.free,h.low,h.inj⟩
structure P0 (w:World) (B c:Nat) (a:Option Addr) (len cap:Nat) (wr:World) (q:Nat) (gb cp:Nat→Nat) (F:Nat→Nat→Int) (ov:Value):Prop where
 bk:E8 wr (w.heap.size+2) q gb F
 own:wr.ownsRow (w.heap.size+2) 27 1 ov q (Md q gb cp)
 dj:∀ g,ov.ownBlock=some g→∀ i,i<q→gb i≠g
 cx:wr.cell? ⟨w.heap.size+1,0,none⟩=some ov
 fx:wr.frozen? ⟨w.heap.size+1,0,none⟩=false
 rx:wr.cell? ⟨w.heap.size,0,none⟩=some (.slice none 0 0)
 rf:wr.frozen? ⟨w.heap.size,0,none⟩=false
 lt:c<w.heap.size
 cur:Dl wr B c a len cap
 st:Step c w wr
 sz:w.heap.size+2≤wr.heap.size
 vals:∀ i j,0≤F i j∧F i j≤255
section
variable {w:World} {B c:Nat} {a:Option Addr} {len cap:Nat} {wr w2 w3:World} {q:Nat} {gb cp:Nat→Nat} {F:Nat→Nat→Int} {ov:Value}
theorem P0.drawn (G:P0 w B c a len cap wr q gb cp F ov) (S2:Step c wr.drew w2):w2.cell? ⟨w.heap.size+1,0,none⟩=some ov∧w2.frozen? ⟨w.heap.size+1,0,none⟩=false∧w2.ownsRow (w.heap.size+2) 27 1 ov q (Md q gb cp)∧w.heap.size+2≤w2.heap.size:=by
 have hz:=G.sz;have hl:=G.lt;have hX:=S2.block (w.heap.size+1) (show _<wr.heap.size by omega) (by omega);refine ⟨(World.cell?_of_block (a:=⟨w.heap.size+1,0,none⟩) hX).trans G.cx,(World.frozen?_of_block (a:=⟨w.heap.size+1,0,none⟩) hX).trans G.fx,Iu (w:=wr) G.own (fun k hk=>?_),Nat.le_trans hz S2.size⟩;have hk':=G.own.lt k hk;exact S2.block k hk'.2 (by omega)
theorem P0.snoc (G:P0 w B c a len cap wr q gb cp F ov) (S2:Step c wr.drew w2) (H2:Dl w2 B c a len cap) {f:Nat→Int} (hR2:w2.rowIs wr.heap.size 3 256 (fun j=>.i (f j))) (hf:∀ j,0≤f j∧f j≤255) {o:Obj} {g3 c3:Nat}
  (hown3:w3.ownsRow (w.heap.size+2) 27 1 (.slice (some ⟨g3,0,none⟩) (q+1) c3) (q+1) (Md q gb cp++[.slice (some ⟨wr.heap.size,0,none⟩) 256 256])) (hgrow:(w2.alloc o).grownBy w3 ov.ownBlock) (hat:ov.ownBlock=some g3∨g3=(w2.alloc o).heap.size) :
  P0 w B c a len cap (w3.setCell ⟨w.heap.size+1,0,none⟩ (.slice (some ⟨g3,0,none⟩) (q+1) c3)) (q+1) (fun i=>if i=q then wr.heap.size else gb i) (fun i=>if i=q then 256 else cp i) (fun i=>if i=q then f else F i) (.slice (some ⟨g3,0,none⟩) (q+1) c3):=by
 obtain ⟨hX2,fX2,hO2,hz2⟩:=G.drawn S2;have hz:=G.sz;have hl:=G.lt;have hs2:wr.heap.size≤w2.heap.size:=S2.size;have hOB:=G.own.lt
 have hne:∀ k,k<w.heap.size+2→some k≠ov.ownBlock:=fun k hk e=>by have:=(hOB _ e.symm).1; omega
 have hsz3:w2.heap.size+1≤w3.heap.size:=by have:=hgrow.size; simpa using this
 have hblk:∀ k,k<w2.heap.size→some k≠ov.ownBlock→w3.heap[k]?=w2.heap[k]?:=fun k hk hn=>(hgrow.block k (by simp; omega) hn).trans (((Below.refl _ _).alloc (Nat.le_refl _) o:Below w2.heap.size w2 (w2.alloc o)).block k hk)
 have hbel:Below (w.heap.size+1) w2 (w3.setCell ⟨w.heap.size+1,0,none⟩ (.slice (some ⟨g3,0,none⟩) (q+1) c3)) :=
  (((((Below.refl _ _).alloc (Nat.le_refl _) o:Below w2.heap.size w2 (w2.alloc o)).mono (by omega:w.heap.size+1≤_)).grown hgrow (by simp; omega) (fun k hk=>by have:=(hOB k hk).1; omega))).setCell (Nat.le_refl _) _
 have hset:∀ k,k≠w.heap.size+1→(w3.setCell ⟨w.heap.size+1,0,none⟩ (.slice (some ⟨g3,0,none⟩) (q+1) c3)).heap[k]?=w3.heap[k]?:=fun k hk=>Below.heap_setCell _ _ _ _ hk
 have hX3:w3.cell? ⟨w.heap.size+1,0,none⟩=some ov:=(World.cell?_of_block (a:=⟨w.heap.size+1,0,none⟩) (hblk (w.heap.size+1) (by omega) (hne _ (by omega)))).trans hX2;have hF3:w3.frozen? ⟨w.heap.size+1,0,none⟩=false:=(World.frozen?_of_block (a:=⟨w.heap.size+1,0,none⟩) (hblk (w.heap.size+1) (by omega) (hne _ (by omega)))).trans fX2
 have hgn:some wr.heap.size≠ov.ownBlock:=fun e=>by have:=(hOB _ e.symm).2; omega
 have BK2:E8 w2 (w.heap.size+2) q gb F:=G.bk.keep hs2 (fun i hi=>S2.block (gb i) (G.bk.low i hi).2 (by have:=(G.bk.low i hi).1; omega));have BK:E8 w3 (w.heap.size+2) q gb F:=BK2.keep (by omega) (fun i hi=>hblk (gb i) (BK2.low i hi).2 (fun e=>G.dj _ e.symm i hi rfl));have BK':E8 w3 (w.heap.size+2) q gb (fun i=>if i=q then f else F i):=BK.congrF (fun i hi=>by simp [Nat.ne_of_lt hi]);have hgl:wr.heap.size<w2.heap.size:=hR2.lt;have BN:=BK'.snoc (g:=wr.heap.size) (fun j hj=>⟨wr.heap.size,0,rfl,(World.cell?_of_block (a:=⟨wr.heap.size,0+j,none⟩) (hblk _ hgl hgn)).trans (by rw [Nat.zero_add,hR2.cell hj]; simp)⟩) (fun o=>(World.frozen?_of_block (a:=⟨wr.heap.size,o,none⟩) (hblk _ hgl hgn)).trans (hR2.frozen o)) hz (by omega) (fun i hi=>by have:=(G.bk.low i hi).2; omega);rw [← Tp q wr.heap.size 256 gb cp] at hown3
 refine ⟨BN.keep (by simp) (fun i hi=>hset _ (by have:=(BN.low i hi).1; omega)),Iu hown3 (fun k hk=>hset k (by have:=(hown3.lt k hk).1; omega)),fun g' hg' i hi=>?_,World.cell?_setCell_same _ _ _ hX3,by rw [World.frozen?_setCell]; exact hF3,?_,?_,hl,H2.below (hbel.mono (by omega:c+1≤_)) (Nat.lt_succ_self c),((G.st.trans (⟨S2.os,S2.tape,S2.output,S2.size,S2.block⟩:Step c wr w2)).low (hbel.mono (by omega))),by simp; omega,fun i j=>?_⟩
 ·have eg:g3=g':=by simpa [Value.ownBlock] using hg'
  subst eg
  rcases hat with h | h
  ·by_cases ei:i=q
   ·rw [if_pos ei]; have:=(hOB _ h).2; omega
   ·rw [if_neg ei]; exact G.dj _ h i (by omega)
  ·have h':g3=w2.heap.size+1:=by simpa using h
   by_cases ei:i=q
   ·rw [if_pos ei]; omega
   ·rw [if_neg ei]; have:=(G.bk.low i (by omega)).2; omega
 ·exact ((hbel.cell (p:=⟨w.heap.size,0,none⟩) (by show w.heap.size<_; omega)).trans (World.cell?_of_block (a:=⟨w.heap.size,0,none⟩) (S2.block w.heap.size (show _<wr.heap.size by omega) (by omega)))).trans G.rx
 ·exact ((hbel.frozen (p:=⟨w.heap.size,0,none⟩) (by show w.heap.size<_; omega)).trans (World.frozen?_of_block (a:=⟨w.heap.size,0,none⟩) (S2.block w.heap.size (show _<wr.heap.size by omega) (by omega)))).trans G.rf
 ·by_cases ei:i=q
  ·simpa [ei] using hf j
  ·simpa [ei] using G.vals i j
end
theorem Cr.blocks {w w':World} {lo:Nat} {v:Value} {m:Nat} {ra:Nat→Option Addr} {ln rc:Nat→Nat} {f:Nat→Nat→Int} (h:Cr w lo v m ra ln rc f) (hs:w.heap.size≤w'.heap.size) (hb:∀ k,lo≤k→k<w.heap.size→w'.heap[k]?=w.heap[k]?):Cr w' lo v m ra ln rc f:=by
 obtain ⟨⟨⟨a,cap,hv,hm,ho⟩,hf,hdj,hsm⟩,hr,hi,hou,hl⟩:=h;refine ⟨⟨⟨a,cap,hv,hm,fun i hi'=>?_⟩,fun i hi' b o hF=>?_,hdj,hsm⟩,fun i hi' j hj=>?_,hi,hou,hl⟩
 ·obtain ⟨b,off,ha,hc,hn⟩:=ho i hi'
  exact ⟨b,off,ha,(World.cell?_of_block (a:=⟨b,off+i,none⟩) (hb b (hou a cap hv b (off+i) (by rw [ha]; exact Br hi')) (block_lt_of_cell hc))).trans hc,hn⟩
 ·obtain ⟨h1,h2⟩:=hf i hi' b o hF
  exact ⟨Nat.lt_of_lt_of_le h1 hs,(World.frozen?_of_block (a:=⟨b,o,none⟩) (hb b (hi i hi' b o hF) h1)).trans h2⟩
 ·obtain ⟨b,off,ha,hc⟩:=hr i hi' j hj
  exact ⟨b,off,ha,(World.cell?_of_block (a:=⟨b,off+j,none⟩) (hb b (hi i hi' b (off+j) (by rw [ha]; exact Br hj)) (block_lt_of_cell hc))).trans hc⟩
structure Mx (w:World) (B c:Nat) (a:Option Addr) (len cap:Nat) (W:World) (m go co:Nat) (ra:Nat→Option Addr) (rc:Nat→Nat) (F:Nat→Nat→Int):Prop where
 ss:Cr W (w.heap.size+2) (.slice (some ⟨go,0,none⟩) m co) m ra (fun _=>256) rc F
 fr:∀ i,i<m→W.frozen? ⟨go,i,none⟩=false
 gl:w.heap.size+2≤go∧go<W.heap.size
 cx:W.cell? ⟨w.heap.size+1,0,none⟩=some (.slice (some ⟨go,0,none⟩) m co)
 rx:W.cell? ⟨w.heap.size,0,none⟩=some (.slice none 0 0)
 rf:W.frozen? ⟨w.heap.size,0,none⟩=false
 lt:c<w.heap.size
 cur:Dl W B c a len cap
 st:Step c w W
 sz:w.heap.size+2≤W.heap.size
 vals:∀ i j,i<m→j<256→0≤F i j∧F i j≤255
theorem P0.img {w:World} {B c:Nat} {a:Option Addr} {len cap:Nat} {W:World} {m:Nat} {gb cp:Nat→Nat} {F:Nat→Nat→Int} {ov:Value} (G:P0 w B c a len cap W m gb cp F ov) (h1:1≤m) (h3:m≤3) :
  ∃ go co,ov=.slice (some ⟨go,0,none⟩) m co∧Mx w B c a len cap W m go co (fun i=>some ⟨gb i,0,none⟩) cp F:=by
 obtain ⟨go,co,rfl,hg,hlt⟩:=G.own.form (by omega);refine ⟨go,co,rfl,⟨Tq G.bk G.own hg (fun i hi=>G.dj go rfl i hi) (by omega),fun i _=>G.own.frozenAt i,⟨hg,hlt⟩,G.cx,G.rx,G.rf,G.lt,G.cur,G.st,G.sz,fun i j _ _=>G.vals i j⟩⟩
section
variable {w:World} {B c:Nat} {a:Option Addr} {len cap:Nat} {W W':World} {m go co:Nat} {ra:Nat→Option Addr} {rc:Nat→Nat} {F:Nat→Nat→Int}
theorem Mx.step (I:Mx w B c a len cap W m go co ra rc F) (S:Step c W W') (H:Dl W' B c a len cap):Mx w B c a len cap W' m go co ra rc F:=by
 have hl:=I.lt;have hz:=I.sz;have hX:=S.block (w.heap.size+1) (by omega) (by omega);have hR:=S.block w.heap.size (by omega) (by omega);have hG:=S.block go I.gl.2 (by have:=I.gl.1; omega)
 exact ⟨I.ss.blocks S.size (fun k hk hk'=>S.block k hk' (by omega)),fun i hi=>(World.frozen?_of_block (a:=⟨go,i,none⟩) hG).trans (I.fr i hi),⟨I.gl.1,Nat.lt_of_lt_of_le I.gl.2 S.size⟩,(World.cell?_of_block (a:=⟨w.heap.size+1,0,none⟩) hX).trans I.cx,(World.cell?_of_block (a:=⟨w.heap.size,0,none⟩) hR).trans I.rx,
  (World.frozen?_of_block (a:=⟨w.heap.size,0,none⟩) hR).trans I.rf,hl,H,I.st.trans S,Nat.le_trans hz S.size,I.vals⟩
theorem Mx.at_ (I:Mx w B c a len cap W m go co ra rc F) (i:Nat) (hi:i<m):∃ b off,ra i=some ⟨b,off,none⟩∧w.heap.size+2≤b∧b<W.heap.size∧W.cell? ⟨go,i,none⟩=some (.slice (some ⟨b,off,none⟩) 256 (rc i))∧(∀ j,j<256→(∃ x,W.cell? ⟨b,off+j,none⟩=some (.i x))∧W.frozen? ⟨b,off+j,none⟩=false):=by
 obtain ⟨b,off,ha,hc⟩:=I.ss.rows i hi 0 (by decide)
 have hF:∀ j,j<256→Ce (ra i) 256 b (off+j):=fun j hj=>by rw [ha]; exact Br hj
 obtain ⟨a2,cap2,e2,_,ho⟩:=I.ss.sep.outer;obtain ⟨b3,off3,e3,hc3,hn3⟩:=ho i hi;simp only [Value.slice.injEq] at e2;obtain ⟨e2,_,_⟩:=e2;rw [← e2] at e3;simp only [Option.some.injEq,Addr.mk.injEq,and_true] at e3;obtain ⟨rfl,rfl⟩:=e3;refine ⟨b,off,ha,I.ss.inner i hi _ _ (hF 0 (by decide)),block_lt_of_cell hc,by rw [← ha]; simpa using hc3,fun j hj=>⟨?_,(I.ss.sep.free i hi _ _ (hF j hj)).2⟩⟩
 ·obtain ⟨b',off',ha',hc'⟩:=I.ss.rows i hi j hj
  rw [ha] at ha';simp only [Option.some.injEq,Addr.mk.injEq,and_true] at ha';obtain ⟨rfl,rfl⟩:=ha';exact ⟨_,hc'⟩
theorem Mx.cellOf (I:Mx w B c a len cap W m go co ra rc F) {i b off:Nat} (hi:i<m) (ha:ra i=some ⟨b,off,none⟩) (j:Nat) (hj:j<256):(∃ x,W.cell? ⟨b,off+j,none⟩=some (.i x))∧W.frozen? ⟨b,off+j,none⟩=false:=by
 obtain ⟨b',off',ha',_,_,_,h⟩:=I.at_ i hi;rw [ha] at ha';simp only [Option.some.injEq,Addr.mk.injEq,and_true] at ha';obtain ⟨rfl,rfl⟩:=ha';exact h j hj
theorem Mx.outFree (I:Mx w B c a len cap W m go co ra rc F) (p:Addr) (x:Value):Ix (W.setCell p x) (.slice (some ⟨go,0,none⟩) m co) m:=fun a' cap' e b o hF=>by
 simp only [Value.slice.injEq] at e;obtain ⟨rfl,_,_⟩:=e;obtain ⟨off,e,h1,h2⟩:=hF;simp only [Option.some.injEq,Addr.mk.injEq,and_true] at e;obtain ⟨rfl,rfl⟩:=e;exact ⟨by simpa using I.gl.2,by rw [World.frozen?_setCell]; exact I.fr o (by omega)⟩
theorem Mx.at (I:Mx w B c a len cap W m go co ra rc F) {b o:Nat} {x:Value} (hb:w.heap.size+2≤b) {ra':Nat→Option Addr} {rc':Nat→Nat} {F':Nat→Nat→Int} (hs:Cr (W.setCell ⟨b,o,none⟩ x) (w.heap.size+2) (.slice (some ⟨go,0,none⟩) m co) m ra' (fun _=>256) rc' F')
  (hv:∀ i j,i<m→j<256→0≤F' i j∧F' i j≤255):Mx w B c a len cap (W.setCell ⟨b,o,none⟩ x) m go co ra' rc' F':=by
 have hl:=I.lt;have hbel:Below (w.heap.size+2) W (W.setCell ⟨b,o,none⟩ x):=(Below.refl _ _).setCell hb x;exact ⟨hs,fun i hi=>by rw [World.frozen?_setCell]; exact I.fr i hi,by simpa using I.gl,(hbel.cell (by show w.heap.size+1<_; omega)).trans I.cx,(hbel.cell (by show w.heap.size<_; omega)).trans I.rx,(hbel.frozen (by show w.heap.size<_; omega)).trans I.rf,hl,I.cur.below hbel (by omega),I.st.low (hbel.mono (by omega)),by simpa using I.sz,hv⟩
theorem Mx.setInner (I:Mx w B c a len cap W m go co ra rc F) (i j b off:Nat) (hi:i<m) (hj:j<256) (ha:ra i=some ⟨b,off,none⟩) (x:Int) (hx:0≤x∧x≤255) :
  Mx w B c a len cap (W.setCell ⟨b,off+j,none⟩ (.i x)) m go co ra rc (fun p q=>if p=i∧q=j then x else F p q) :=
 I.at (I.ss.inner i hi b (off+j) (by rw [ha]; exact Br hj)) (I.ss.setInner i j b off hi hj ha x) (fun p q hp hq=>by
  show 0≤(if p=i∧q=j then x else F p q)∧(if p=i∧q=j then x else F p q)≤255
  split
  ·exact hx
  ·exact I.vals p q hp hq)
theorem Mx.setOuter (I:Mx w B c a len cap W m go co ra rc F) (i:Nat) (hi:i<m) (lo:Nat) (hlo:∀ p,p<m→∀ b o,Ce (ra p) 256 b o→b<lo) (hgo:go<lo) (a':Option Addr) (c':Nat) (g:Nat→Int) (hr:Bu .i64 W a' 256 g) (hfr:Ji W (Ce a' 256)) (hnew:∀ b o,Ce a' 256 b o→lo≤b)
  (hlo2:w.heap.size+2≤lo) (hg:∀ j,j<256→0≤g j∧g j≤255) :
  Mx w B c a len cap (W.setCell ⟨go,i,none⟩ (.slice a' 256 c')) m go co (fun p=>if p=i then a' else ra p) (fun p=>if p=i then c' else rc p) (fun p=>if p=i then g else F p):=by
 have hs:=I.ss.setOuter i go 0 co hi rfl a' 256 c' g hr hfr (fun b o hF=>by have:=hnew b o hF; omega) (by decide) (fun b' o' h1 h2=>by
  have:=hnew _ _ h1;obtain ⟨off,e,_⟩:=h2;simp only [Option.some.injEq,Addr.mk.injEq,and_true] at e
  omega) (fun p hp _ b' o' h1 h2=>by have:=hnew _ _ h1; have:=hlo p hp _ _ h2; omega)
 rw [Nat.zero_add] at hs
 have e:(fun p=>if p=i then 256 else (fun _:Nat=>256) p)=fun _:Nat=>256:=by funext p; split <;> rfl
 rw [e] at hs;refine I.at I.gl.1 hs (fun p q hp hq=>?_)
 by_cases ei:p=i
 ·simpa [ei] using hg q hq
 ·simpa [ei] using I.vals p q hp hq
end
set_option linter.unusedVariables false
structure Dq (c:Nat) (w w':World):Prop where
 wrote:Wrote (fun b _=>b=c) w w'
 size:w'.heap.size=w.heap.size
theorem Dq.refl (c:Nat) (w:World):Dq c w w:=⟨Wrote.refl _ _,rfl⟩
theorem Dq.trans {c:Nat} {u v w:World} (h:Dq c u v) (k:Dq c v w):Dq c u w:=⟨h.wrote.trans k.wrote,k.size.trans h.size⟩
theorem Dq.drewN {c:Nat} {u w:World} (h:Dq c u w) (n:Nat):Dq c u (w.drewN n):=⟨h.wrote.drewN n,h.size⟩
theorem Dq.drew {c:Nat} {u w:World} (h:Dq c u w):Dq c u w.drew:=⟨h.wrote.drew,h.size⟩
theorem Dq.setCell {c:Nat} {u w:World} (h:Dq c u w) {o:Nat} (x:Value):Dq c u (w.setCell ⟨c,o,none⟩ x):=⟨h.wrote.setCell (fun _=>rfl) x,by simpa [World.setCell] using h.size⟩
theorem Dq.only {c:Nat} {w w':World} (h:Dq c w w'):A5 c w w':=⟨h.wrote.os,h.wrote.tape,h.wrote.output,h.size,fun k hk=>by
 rcases Nat.lt_or_ge k w.heap.size with l | l
 ·exact h.wrote.block k l (fun _=>hk)
 ·rw [Array.getElem?_eq_none l,Array.getElem?_eq_none (by rw [h.size]; exact l)]⟩
theorem Dq.step {c:Nat} {w w':World} (h:Dq c w w'):Step c w w':=h.only.step
theorem Ay.blocks {w w':World} {lo:Nat} {v:Value} {n:Nat} {f:Nat→Int} (h:Ay w lo v n f) (hs:w.heap.size≤w'.heap.size) (hb:∀ k,lo≤k→k<w.heap.size→w'.heap[k]?=w.heap[k]?):Ay w' lo v n f:=by
 obtain ⟨a,cap,hv,hn,hr,hF,hL⟩:=h;refine ⟨a,cap,hv,hn,fun i hi=>?_,fun b o hf=>?_,hL⟩
 ·obtain ⟨b,off,ha,hc⟩:=hr i hi
  exact ⟨b,off,ha,(World.cell?_of_block (a:=⟨b,off+i,none⟩) (hb b (hL b (off+i) (by rw [ha]; exact Br hi)) (block_lt_of_cell hc))).trans hc⟩
 ·obtain ⟨h1,h2⟩:=hF b o hf
  exact ⟨Nat.lt_of_lt_of_le h1 hs,(World.frozen?_of_block (a:=⟨b,o,none⟩) (hb b (hL b o hf) h1)).trans h2⟩
set_option maxHeartbeats 8000000
set_option maxRecDepth 40000
set_option linter.unusedSimpArgs false
theorem U0 (w:World) (lo:Nat) (D:Nat→Nat→Prop) (v:Value) (d:Ao) (a y:Int) (H:Ed w lo D v d) (hlo:lo≤w.heap.size) (hok:okLock d=true):Calls Tryz.prog 37 #[v,.i a,.i y] w fun e w'=>∃ v',e=.returned v'∧Gh w w' lo D v' (A6 d a y)∧Below w.heap.size w w':=by
 obtain ⟨okp,okm,oku,oka,oks⟩:=De hok;obtain ⟨u0,u1,u2,u3,u4,ov,gb,cp,g6,c6,g7,c7,rfl,HP0⟩:=H;obtain ⟨x0,y0,rfl⟩:=HP0.h0.form;obtain ⟨x1,y1,rfl⟩:=HP0.h1.two;obtain ⟨x2,y2,e2⟩:=HP0.h2.two;simp only [Value.agg.injEq,Array.mk.injEq,List.cons.injEq,and_true] at e2;subst e2;obtain ⟨x3,y3,x4,y4,e3⟩:=HP0.h3.two;simp only [Value.agg.injEq,Array.mk.injEq,List.cons.injEq,and_true,true_and] at e3;obtain ⟨rfl,rfl⟩:=e3;obtain ⟨x5,y5,rfl⟩:=HP0.h4.form;have L0:Below w.heap.size w ((w.alloc (.cells (kR d (.slice x0 d.m y0) (.slice x1 d.np y1) (.slice x2 d.nr y2) (.slice x3 d.nt y3) (.slice x4 d.nd y4) (.slice x5 d.mf y5) (.slice (some ⟨g6,0,none⟩) d.ns c6) (.slice (some ⟨g7,0,none⟩) d.nq c7)) 41)).alloc (.cells zR 41)):=((Below.refl _ _).alloc (Nat.le_refl _) _).alloc (by simp) _
 have B0:((w.alloc (.cells (kR d (.slice x0 d.m y0) (.slice x1 d.np y1) (.slice x2 d.nr y2) (.slice x3 d.nt y3) (.slice x4 d.nd y4) (.slice x5 d.mf y5) (.slice (some ⟨g6,0,none⟩) d.ns c6) (.slice (some ⟨g7,0,none⟩) d.nq c7)) 41)).alloc (.cells zR 41)).heap[w.heap.size]?=some (.cells (kR d (.slice x0 d.m y0) (.slice x1 d.np y1) (.slice x2 d.nr y2) (.slice x3 d.nt y3) (.slice x4 d.nd y4) (.slice x5 d.mf y5) (.slice (some ⟨g6,0,none⟩) d.ns c6) (.slice (some ⟨g7,0,none⟩) d.nq c7)) 41 (0,0)):=A4 (Al w _ _) _
 have B1:((w.alloc (.cells (kR d (.slice x0 d.m y0) (.slice x1 d.np y1) (.slice x2 d.nr y2) (.slice x3 d.nt y3) (.slice x4 d.nd y4) (.slice x5 d.mf y5) (.slice (some ⟨g6,0,none⟩) d.ns c6) (.slice (some ⟨g7,0,none⟩) d.nq c7)) 41)).alloc (.cells zR 41)).heap[w.heap.size+1]?=some (.cells zR 41 (0,0)):=by simpa using Al (w.alloc (.cells (kR d (.slice x0 d.m y0) (.slice x1 d.np y1) (.slice x2 d.nr y2) (.slice x3 d.nt y3) (.slice x4 d.nd y4) (.slice x5 d.mf y5) (.slice (some ⟨g6,0,none⟩) d.ns c6) (.slice (some ⟨g7,0,none⟩) d.nq c7)) 41)) zR 41
 have HQ:=HP0.below L0;have bd0:=HP0.bd;have n60:=HP0.n6;have n70:=HP0.n7;clear HP0
 obtain ⟨rg,hrg⟩:∃ x,Hid (x=rgN (a%65536)):=⟨_,rfl⟩
 obtain ⟨at',hat⟩:∃ x,Hid (x=rgP (a%65536)):=⟨_,rfl⟩
 have HG:=Ac (fun W=>Dx W a);rw [← hrg.out,← hat.out] at HG
 by_cases r2:rg=2
 ·have HV:Hid (A6 d a y={ d with c:=Hz true at' y d.c,s:=Ia true at' y d.s,ad:=Ib true at' y d.ad,pl:=Ic true at' y d.pl,tb:=I6 true at' y d.ad d.tb }):=by
   have e:rgN (a%65536)=2:=by rw [← hrg.out]; exact r2
   show _=_
   unfold A6;simp only [e,if_true]
   first | done | (rw [← hat.out]; done) | rw [← hat.out]
  rw [HV.out];subst r2;clear HV hrg
  obtain ⟨c',hc'⟩:∃ x,Hid (x=Hz true at' y d.c):=⟨_,rfl⟩
  obtain ⟨s',hs'⟩:∃ x,Hid (x=Ia true at' y d.s):=⟨_,rfl⟩
  obtain ⟨ad',had'⟩:∃ x,Hid (x=Ib true at' y d.ad):=⟨_,rfl⟩
  obtain ⟨pl',hpl'⟩:∃ x,Hid (x=Ic true at' y d.pl):=⟨_,rfl⟩
  obtain ⟨tb',htb'⟩:∃ x,Hid (x=I6 true at' y d.ad d.tb):=⟨_,rfl⟩
  have HP:=Ac (fun W E v h=>Gq W E v d.t d.c d.s d.ad d.pl d.bl d.nt d.tb d.nd d.dt h at' y);rw [oku,← hc'.out,← hs'.out,← had'.out,← hpl'.out,← htb'.out] at HP;rw [← hc'.out,← hs'.out,← had'.out,← hpl'.out,← htb'.out];clear hc' hs' had' hpl' htb' hat
  go_enter Tryz.func37,Tryz.ntmps37
  go_wp2_with fail;generalize (w.alloc (.cells (kR d (.slice x0 d.m y0) (.slice x1 d.np y1) (.slice x2 d.nr y2) (.slice x3 d.nt y3) (.slice x4 d.nd y4) (.slice x5 d.mf y5) (.slice (some ⟨g6,0,none⟩) d.ns c6) (.slice (some ⟨g7,0,none⟩) d.nq c7)) 41)).alloc (.cells zR 41)=W0 at *;refine (HG.out _).mono ?_;rintro e W1 ⟨rfl,rfl⟩;have c0':=Aj B0;go_wp2_with fail;clear c0';refine (HP.out _ _ _ HQ.h3).mono ?_;rintro e W2 ⟨v',rfl,P3,L⟩;clear HP;have l12:=L.size;have hb1:=Ae B1;replace HQ:=HQ.below L;replace L0:=Ah L0 L;replace B0:=Aa B0 L (Ae B0);replace B1:=Aa B1 L (Ae B1);obtain ⟨x3',y3',x4',y4',rfl⟩:=P3.two;replace P3:=P3.mono (E:=fun b=>W1.heap.size≤b∧b<W2.heap.size) (fun b hb h=>⟨h,hb⟩);replace HQ:=HQ.ppu P3 (by omega) hlo l12 (Nat.le_refl _);clear P3;clear L;have c0':=Aj B0;have f0':=Ar B0
  go_upto_region 10 with (fail);clear c0' f0';rename_i K2 hK2
  have TT:=Wrote.setCell (b:=w.heap.size) (o:=19) (R:=fun b _=>b=w.heap.size) (Wrote.setCell (b:=w.heap.size) (o:=18) (R:=fun b _=>b=w.heap.size) (Wrote.setCell (b:=w.heap.size) (o:=17) (R:=fun b _=>b=w.heap.size) (Wrote.setCell (b:=w.heap.size) (o:=16) (R:=fun b _=>b=w.heap.size) (Wrote.setCell (b:=w.heap.size) (o:=15) (R:=fun b _=>b=w.heap.size) (Wrote.setCell (b:=w.heap.size) (o:=14) (R:=fun b _=>b=w.heap.size) (Wrote.setCell (b:=w.heap.size) (o:=13) (R:=fun b _=>b=w.heap.size) (Wrote.setCell (b:=w.heap.size) (o:=12) (R:=fun b _=>b=w.heap.size) (Wrote.refl _ W2) (fun _=>rfl) (.i d.t)) (fun _=>rfl) (.i c')) (fun _=>rfl) (.i s')) (fun _=>rfl) (.i ad')) (fun _=>rfl) (.i pl')) (fun _=>rfl) (.bool d.bl)) (fun _=>rfl) (.slice x3' d.nt y3')) (fun _=>rfl) (.slice x4' d.nd y4')
  replace B1:=Ag B1 TT (fun o (h:_=_)=>by omega);replace B0:=Ai (o:=12) B0 (.i d.t);replace B0:=Ai (o:=13) B0 (.i c');replace B0:=Ai (o:=14) B0 (.i s');replace B0:=Ai (o:=15) B0 (.i ad');replace B0:=Ai (o:=16) B0 (.i pl');replace B0:=Ai (o:=17) B0 (.bool d.bl);replace B0:=Ai (o:=18) B0 (.slice x3' d.nt y3');replace B0:=Ai (o:=19) B0 (.slice x4' d.nd y4');simp only [List.setIfInBounds_toArray,List.set_cons_succ,List.set_cons_zero] at B0;replace HQ:=HQ.keepD TT (fun i b o h (e:b=_)=>by rcases h with ⟨-,h1,h2⟩ | ⟨-,h⟩; (omega); (have:=bd0 _ _ h; omega)) (fun o (e:_=_)=>by omega) (fun o (e:_=_)=>by omega);replace L0:=L0.trans (TT.below L0.size (fun b o hb (h:b=_)=>by omega));clear TT
  generalize (((((((W2.setCell ⟨w.heap.size,12,none⟩ (.i d.t)).setCell ⟨w.heap.size,13,none⟩ (.i c')).setCell ⟨w.heap.size,14,none⟩ (.i s')).setCell ⟨w.heap.size,15,none⟩ (.i ad')).setCell ⟨w.heap.size,16,none⟩ (.i pl')).setCell ⟨w.heap.size,17,none⟩ (.bool d.bl)).setCell ⟨w.heap.size,18,none⟩ (.slice x3' d.nt y3')).setCell ⟨w.heap.size,19,none⟩ (.slice x4' d.nd y4')=W3 at *;refine wp_region_lit ?_;refine wpList_load_row rfl _ _ rfl w.heap.size rfl _ _ _ _ B0 Tryz.underlying41 rfl Af ?_;refine wpList_store_row rfl _ _ _ rfl (w.heap.size+1) _ rfl rfl _ _ B1 Af rfl (by first | kernel_rfl | simp [Value.oneCell']) ?_
  have B3:=setRow_heap _ _ _ (kR { d with c:=c',s:=s',ad:=ad',pl:=pl' } (.slice x0 d.m y0) (.slice x1 d.np y1) (.slice x2 d.nr y2) (.slice x3' d.nt y3') (.slice x4' d.nd y4') (.slice x5 d.mf y5) (.slice (some ⟨g6,0,none⟩) d.ns c6) (.slice (some ⟨g7,0,none⟩) d.nq c7)) _ _ B1;have WW:=An B1 (kR { d with c:=c',s:=s',ad:=ad',pl:=pl' } (.slice x0 d.m y0) (.slice x1 d.np y1) (.slice x2 d.nr y2) (.slice x3' d.nt y3') (.slice x4' d.nd y4') (.slice x5 d.mf y5) (.slice (some ⟨g6,0,none⟩) d.ns c6) (.slice (some ⟨g7,0,none⟩) d.nq c7));generalize W3.setRow (w.heap.size+1) (kR { d with c:=c',s:=s',ad:=ad',pl:=pl' } (.slice x0 d.m y0) (.slice x1 d.np y1) (.slice x2 d.nr y2) (.slice x3' d.nt y3') (.slice x4' d.nd y4') (.slice x5 d.mf y5) (.slice (some ⟨g6,0,none⟩) d.ns c6) (.slice (some ⟨g7,0,none⟩) d.nq c7))=W4 at *;refine hK2 _ _ ?_
  have HF:=Ac (HQ.keepD WW (fun i b o h (e:b=_)=>by rcases h with ⟨-,h1,h2⟩ | ⟨-,h⟩; (omega); (have:=bd0 _ _ h; omega)) (fun o (e:_=_)=>by omega) (fun o (e:_=_)=>by omega));have HX:=Ac (Az.nx (E:=D) (w:=w) HF.out (fun i b h=>by first | exact Or.inl ⟨_,h⟩ | (rcases h with ⟨-,h1,h2⟩ | ⟨-,h⟩; (exact Or.inr (by omega)); (exact Or.inl ⟨_,h⟩)) | (rcases h with ⟨-,rfl⟩ | ⟨-,h⟩; (exact hn9); (exact Or.inl ⟨_,h⟩)) | (rcases h with ⟨-,rfl⟩ | ⟨-,⟨-,h1,h2⟩ | ⟨-,h⟩⟩; (exact hn9); (exact Or.inr (by omega)); (exact Or.inl ⟨_,h⟩))));have LF:=Ac ((L0.trans (WW.below L0.size (fun b o hb (e:b=_)=>by omega))));clear HQ WW B0 B1 L0;go_wp2
  refine bodyPost_ret (v:=.agg (kR { d with c:=c',s:=s',ad:=ad',pl:=pl' } (.slice x0 d.m y0) (.slice x1 d.np y1) (.slice x2 d.nr y2) (.slice x3' d.nt y3') (.slice x4' d.nd y4') (.slice x5 d.mf y5) (.slice (some ⟨g6,0,none⟩) d.ns c6) (.slice (some ⟨g7,0,none⟩) d.nq c7))) (results_cell_row Tryz.results37 _ _ (w.heap.size+1) _ _ _ _ rfl B3 Tryz.underlying41 rfl Af) rfl ?_;exact ⟨_,rfl,HX.out,LF.out⟩
 by_cases r3:rg=3
 ·have HV:Hid (A6 d a y={ d with P:=Hn true d.P at' y,L:=Ho true d.L at' y,Q:=Im true d.Q at' y,R:=Io true d.R at' y }):=by
   have e:rgN (a%65536)=3:=by rw [← hrg.out]; exact r3
   show _=_
   unfold A6;simp only [e,if_true,show ¬ ((3:Int)=2) by decide,if_false]
   first | done | (rw [← hat.out]; done) | rw [← hat.out]
  rw [HV.out];subst r3;clear HV hrg
  obtain ⟨p',hp'⟩:∃ x,Hid (x=Hn true d.P at' y):=⟨_,rfl⟩
  obtain ⟨l',hl'⟩:∃ x,Hid (x=Ho true d.L at' y):=⟨_,rfl⟩
  obtain ⟨q',hq'⟩:∃ x,Hid (x=Im true d.Q at' y):=⟨_,rfl⟩
  obtain ⟨r',hr'⟩:∃ x,Hid (x=Io true d.R at' y):=⟨_,rfl⟩
  have HP:=Ac (fun W (_:Az W lo w.heap.size D (.slice x0 d.m y0) (.slice x1 d.np y1) (.slice x2 d.nr y2) (.slice x3 d.nt y3) (.slice x4 d.nd y4) (.slice x5 d.mf y5) gb cp g6 c6 g7 c7 d)=>I7 W d.T d.P d.K d.B d.L d.Q d.R at' y);rw [oka,← hp'.out,← hl'.out,← hq'.out,← hr'.out] at HP;rw [← hp'.out,← hl'.out,← hq'.out,← hr'.out];clear hp' hl' hq' hr' hat
  go_enter Tryz.func37,Tryz.ntmps37
  go_wp2_with fail;generalize (w.alloc (.cells (kR d (.slice x0 d.m y0) (.slice x1 d.np y1) (.slice x2 d.nr y2) (.slice x3 d.nt y3) (.slice x4 d.nd y4) (.slice x5 d.mf y5) (.slice (some ⟨g6,0,none⟩) d.ns c6) (.slice (some ⟨g7,0,none⟩) d.nq c7)) 41)).alloc (.cells zR 41)=W0 at *;refine (HG.out _).mono ?_;rintro e W1 ⟨rfl,rfl⟩;have c0':=Aj B0;go_wp2_with fail;clear c0';refine (HP.out _ HQ).mono ?_;rintro e W2 ⟨rfl,L⟩;clear HP;have l12:=L.size;have hb1:=Ae B1;replace HQ:=HQ.below L;replace L0:=Ah L0 L;replace B0:=Aa B0 L (Ae B0);replace B1:=Aa B1 L (Ae B1)
  replace HQ:Az W2 lo w.heap.size D (.slice x0 d.m y0) (.slice x1 d.np y1) (.slice x2 d.nr y2) (.slice x3 d.nt y3) (.slice x4 d.nd y4) (.slice x5 d.mf y5) gb cp g6 c6 g7 c7 { d with P:=p',L:=l',Q:=q',R:=r' }:=⟨HQ.h0,HQ.h1,HQ.h2,HQ.h3,HQ.h4,HQ.h4D,HQ.h6,HQ.h6D,HQ.h7,HQ.h7D,HQ.dis,HQ.bd,HQ.n6,HQ.n7,HQ.nN,HQ.hps⟩
  clear L;have c0':=Aj B0;have f0':=Ar B0;go_upto_region 10 with (fail);clear c0' f0';rename_i K2 hK2;have TT:=Wrote.setCell (b:=w.heap.size) (o:=26) (R:=fun b _=>b=w.heap.size) (Wrote.setCell (b:=w.heap.size) (o:=25) (R:=fun b _=>b=w.heap.size) (Wrote.setCell (b:=w.heap.size) (o:=24) (R:=fun b _=>b=w.heap.size) (Wrote.setCell (b:=w.heap.size) (o:=23) (R:=fun b _=>b=w.heap.size) (Wrote.setCell (b:=w.heap.size) (o:=22) (R:=fun b _=>b=w.heap.size) (Wrote.setCell (b:=w.heap.size) (o:=21) (R:=fun b _=>b=w.heap.size) (Wrote.setCell (b:=w.heap.size) (o:=20) (R:=fun b _=>b=w.heap.size) (Wrote.refl _ W2) (fun _=>rfl) (.i d.T)) (fun _=>rfl) (.i p')) (fun _=>rfl) (.i d.K)) (fun _=>rfl) (.i d.B)) (fun _=>rfl) (.i l')) (fun _=>rfl) (.bool q')) (fun _=>rfl) (.bool r')
  replace B1:=Ag B1 TT (fun o (h:_=_)=>by omega);replace B0:=Ai (o:=20) B0 (.i d.T);replace B0:=Ai (o:=21) B0 (.i p');replace B0:=Ai (o:=22) B0 (.i d.K);replace B0:=Ai (o:=23) B0 (.i d.B);replace B0:=Ai (o:=24) B0 (.i l');replace B0:=Ai (o:=25) B0 (.bool q');replace B0:=Ai (o:=26) B0 (.bool r');simp only [List.setIfInBounds_toArray,List.set_cons_succ,List.set_cons_zero] at B0;replace HQ:=HQ.keepD TT (fun i b o h (e:b=_)=>by have:=bd0 _ _ h; omega) (fun o (e:_=_)=>by omega) (fun o (e:_=_)=>by omega);replace L0:=L0.trans (TT.below L0.size (fun b o hb (h:b=_)=>by omega));clear TT
  generalize ((((((W2.setCell ⟨w.heap.size,20,none⟩ (.i d.T)).setCell ⟨w.heap.size,21,none⟩ (.i p')).setCell ⟨w.heap.size,22,none⟩ (.i d.K)).setCell ⟨w.heap.size,23,none⟩ (.i d.B)).setCell ⟨w.heap.size,24,none⟩ (.i l')).setCell ⟨w.heap.size,25,none⟩ (.bool q')).setCell ⟨w.heap.size,26,none⟩ (.bool r')=W3 at *;refine wp_region_lit ?_;refine wpList_load_row rfl _ _ rfl w.heap.size rfl _ _ _ _ B0 Tryz.underlying41 rfl Af ?_;refine wpList_store_row rfl _ _ _ rfl (w.heap.size+1) _ rfl rfl _ _ B1 Af rfl (by first | kernel_rfl | simp [Value.oneCell']) ?_;have B3:=setRow_heap _ _ _ (kR { d with P:=p',L:=l',Q:=q',R:=r' } (.slice x0 d.m y0) (.slice x1 d.np y1) (.slice x2 d.nr y2) (.slice x3 d.nt y3) (.slice x4 d.nd y4) (.slice x5 d.mf y5) (.slice (some ⟨g6,0,none⟩) d.ns c6) (.slice (some ⟨g7,0,none⟩) d.nq c7)) _ _ B1
  have WW:=An B1 (kR { d with P:=p',L:=l',Q:=q',R:=r' } (.slice x0 d.m y0) (.slice x1 d.np y1) (.slice x2 d.nr y2) (.slice x3 d.nt y3) (.slice x4 d.nd y4) (.slice x5 d.mf y5) (.slice (some ⟨g6,0,none⟩) d.ns c6) (.slice (some ⟨g7,0,none⟩) d.nq c7));generalize W3.setRow (w.heap.size+1) (kR { d with P:=p',L:=l',Q:=q',R:=r' } (.slice x0 d.m y0) (.slice x1 d.np y1) (.slice x2 d.nr y2) (.slice x3 d.nt y3) (.slice x4 d.nd y4) (.slice x5 d.mf y5) (.slice (some ⟨g6,0,none⟩) d.ns c6) (.slice (some ⟨g7,0,none⟩) d.nq c7))=W4 at *;refine hK2 _ _ ?_;have HF:=Ac (HQ.keepD WW (fun i b o h (e:b=_)=>by have:=bd0 _ _ h; omega) (fun o (e:_=_)=>by omega) (fun o (e:_=_)=>by omega))
  have HX:=Ac (Az.nx (E:=D) (w:=w) HF.out (fun i b h=>by first | exact Or.inl ⟨_,h⟩ | (rcases h with ⟨-,h1,h2⟩ | ⟨-,h⟩; (exact Or.inr (by omega)); (exact Or.inl ⟨_,h⟩)) | (rcases h with ⟨-,rfl⟩ | ⟨-,h⟩; (exact hn9); (exact Or.inl ⟨_,h⟩)) | (rcases h with ⟨-,rfl⟩ | ⟨-,⟨-,h1,h2⟩ | ⟨-,h⟩⟩; (exact hn9); (exact Or.inr (by omega)); (exact Or.inl ⟨_,h⟩))));have LF:=Ac ((L0.trans (WW.below L0.size (fun b o hb (e:b=_)=>by omega))));clear HQ WW B0 B1 L0;go_wp2;refine bodyPost_ret (v:=.agg (kR { d with P:=p',L:=l',Q:=q',R:=r' } (.slice x0 d.m y0) (.slice x1 d.np y1) (.slice x2 d.nr y2) (.slice x3 d.nt y3) (.slice x4 d.nd y4) (.slice x5 d.mf y5) (.slice (some ⟨g6,0,none⟩) d.ns c6) (.slice (some ⟨g7,0,none⟩) d.nq c7))) (results_cell_row Tryz.results37 _ _ (w.heap.size+1) _ _ _ _ rfl B3 Tryz.underlying41 rfl Af) rfl ?_
  exact ⟨_,rfl,HX.out,LF.out⟩
 by_cases r4:rg=4
 ·have HV:Hid (A6 d a y={ d with hd:=Ew y,sh:=Dm d.hd d.sh d.np d.p d.t y }):=by
   have e:rgN (a%65536)=4:=by rw [← hrg.out]; exact r4
   show _=_
   unfold A6;simp only [e,if_true,show ¬ ((4:Int)=2) by decide,if_false,show ¬ ((4:Int)=3) by decide,if_false]
   first | done | (rw [← hat.out]; done) | rw [← hat.out]
  rw [HV.out];subst r4;clear HV hrg
  obtain ⟨h',hh'⟩:∃ x,Hid (x=Ew y):=⟨_,rfl⟩
  obtain ⟨s',hs'⟩:∃ x,Hid (x=Dm d.hd d.sh d.np d.p d.t y):=⟨_,rfl⟩
  have HP:=Ac (fun W (h:Az W lo w.heap.size D (.slice x0 d.m y0) (.slice x1 d.np y1) (.slice x2 d.nr y2) (.slice x3 d.nt y3) (.slice x4 d.nd y4) (.slice x5 d.mf y5) gb cp g6 c6 g7 c7 d)=>Ja W (On (D 1)) d.hd d.sh (.slice x1 d.np y1) d.np d.p d.t y (by have:=(Cu oku).2; omega) (by obtain ⟨aa,cc,e,hs⟩:=h.h1; rw [e]; exact hs.ints cc));rw [← hh'.out,← hs'.out] at HP;rw [← hh'.out,← hs'.out];clear hh' hs' hat
  go_enter Tryz.func37,Tryz.ntmps37
  go_wp2_with fail;generalize (w.alloc (.cells (kR d (.slice x0 d.m y0) (.slice x1 d.np y1) (.slice x2 d.nr y2) (.slice x3 d.nt y3) (.slice x4 d.nd y4) (.slice x5 d.mf y5) (.slice (some ⟨g6,0,none⟩) d.ns c6) (.slice (some ⟨g7,0,none⟩) d.nq c7)) 41)).alloc (.cells zR 41)=W0 at *;refine (HG.out _).mono ?_;rintro e W1 ⟨rfl,rfl⟩;have c0':=Aj B0;go_wp2_with fail;clear c0';refine (HP.out _ HQ).mono ?_;rintro e W2 ⟨rfl,L⟩;clear HP;have l12:=L.size;have hb1:=Ae B1;replace HQ:=HQ.below L;replace L0:=Ah L0 L;replace B0:=Aa B0 L (Ae B0);replace B1:=Aa B1 L (Ae B1)
  replace HQ:Az W2 lo w.heap.size D (.slice x0 d.m y0) (.slice x1 d.np y1) (.slice x2 d.nr y2) (.slice x3 d.nt y3) (.slice x4 d.nd y4) (.slice x5 d.mf y5) gb cp g6 c6 g7 c7 { d with hd:=h',sh:=s' }:=⟨HQ.h0,HQ.h1,HQ.h2,HQ.h3,HQ.h4,HQ.h4D,HQ.h6,HQ.h6D,HQ.h7,HQ.h7D,HQ.dis,HQ.bd,HQ.n6,HQ.n7,HQ.nN,HQ.hps⟩
  clear L;have c0':=Aj B0;have f0':=Ar B0;go_upto_region 10 with (fail);clear c0' f0';rename_i K2 hK2;have TT:=Wrote.setCell (b:=w.heap.size) (o:=28) (R:=fun b _=>b=w.heap.size) (Wrote.setCell (b:=w.heap.size) (o:=27) (R:=fun b _=>b=w.heap.size) (Wrote.refl _ W2) (fun _=>rfl) (.bool h')) (fun _=>rfl) (.i s');replace B1:=Ag B1 TT (fun o (h:_=_)=>by omega);replace B0:=Ai (o:=27) B0 (.bool h');replace B0:=Ai (o:=28) B0 (.i s');simp only [List.setIfInBounds_toArray,List.set_cons_succ,List.set_cons_zero] at B0;replace HQ:=HQ.keepD TT (fun i b o h (e:b=_)=>by have:=bd0 _ _ h; omega) (fun o (e:_=_)=>by omega) (fun o (e:_=_)=>by omega);replace L0:=L0.trans (TT.below L0.size (fun b o hb (h:b=_)=>by omega));clear TT
  generalize (W2.setCell ⟨w.heap.size,27,none⟩ (.bool h')).setCell ⟨w.heap.size,28,none⟩ (.i s')=W3 at *;refine wp_region_lit ?_;refine wpList_load_row rfl _ _ rfl w.heap.size rfl _ _ _ _ B0 Tryz.underlying41 rfl Af ?_;refine wpList_store_row rfl _ _ _ rfl (w.heap.size+1) _ rfl rfl _ _ B1 Af rfl (by first | kernel_rfl | simp [Value.oneCell']) ?_;have B3:=setRow_heap _ _ _ (kR { d with hd:=h',sh:=s' } (.slice x0 d.m y0) (.slice x1 d.np y1) (.slice x2 d.nr y2) (.slice x3 d.nt y3) (.slice x4 d.nd y4) (.slice x5 d.mf y5) (.slice (some ⟨g6,0,none⟩) d.ns c6) (.slice (some ⟨g7,0,none⟩) d.nq c7)) _ _ B1;have WW:=An B1 (kR { d with hd:=h',sh:=s' } (.slice x0 d.m y0) (.slice x1 d.np y1) (.slice x2 d.nr y2) (.slice x3 d.nt y3) (.slice x4 d.nd y4) (.slice x5 d.mf y5) (.slice (some ⟨g6,0,none⟩) d.ns c6) (.slice (some ⟨g7,0,none⟩) d.nq c7))
  generalize W3.setRow (w.heap.size+1) (kR { d with hd:=h',sh:=s' } (.slice x0 d.m y0) (.slice x1 d.np y1) (.slice x2 d.nr y2) (.slice x3 d.nt y3) (.slice x4 d.nd y4) (.slice x5 d.mf y5) (.slice (some ⟨g6,0,none⟩) d.ns c6) (.slice (some ⟨g7,0,none⟩) d.nq c7))=W4 at *;refine hK2 _ _ ?_;have HF:=Ac (HQ.keepD WW (fun i b o h (e:b=_)=>by have:=bd0 _ _ h; omega) (fun o (e:_=_)=>by omega) (fun o (e:_=_)=>by omega));have HX:=Ac (Az.nx (E:=D) (w:=w) HF.out (fun i b h=>by first | exact Or.inl ⟨_,h⟩ | (rcases h with ⟨-,h1,h2⟩ | ⟨-,h⟩; (exact Or.inr (by omega)); (exact Or.inl ⟨_,h⟩)) | (rcases h with ⟨-,rfl⟩ | ⟨-,h⟩; (exact hn9); (exact Or.inl ⟨_,h⟩)) | (rcases h with ⟨-,rfl⟩ | ⟨-,⟨-,h1,h2⟩ | ⟨-,h⟩⟩; (exact hn9); (exact Or.inr (by omega)); (exact Or.inl ⟨_,h⟩))))
  have LF:=Ac ((L0.trans (WW.below L0.size (fun b o hb (e:b=_)=>by omega))));clear HQ WW B0 B1 L0;go_wp2;refine bodyPost_ret (v:=.agg (kR { d with hd:=h',sh:=s' } (.slice x0 d.m y0) (.slice x1 d.np y1) (.slice x2 d.nr y2) (.slice x3 d.nt y3) (.slice x4 d.nd y4) (.slice x5 d.mf y5) (.slice (some ⟨g6,0,none⟩) d.ns c6) (.slice (some ⟨g7,0,none⟩) d.nq c7))) (results_cell_row Tryz.results37 _ _ (w.heap.size+1) _ _ _ _ rfl B3 Tryz.underlying41 rfl Af) rfl ?_;exact ⟨_,rfl,HX.out,LF.out⟩
 have HV:Hid (A6 d a y={ d with g:=Du true d.g (a%65536) y,bank:=Et true d.m d.bank (a%65536) y }):=by
  have e2:¬ rgN (a%65536)=2:=by rw [← hrg.out]; exact r2
  have e3:¬ rgN (a%65536)=3:=by rw [← hrg.out]; exact r3
  have e4:¬ rgN (a%65536)=4:=by rw [← hrg.out]; exact r4
  show _=_
  unfold A6;rw [if_neg e2,if_neg e3,if_neg e4]
 have q2:(rg==2)=false:=beq_eq_false_iff_ne.2 r2;have q3:(rg==3)=false:=beq_eq_false_iff_ne.2 r3;have q4:(rg==4)=false:=beq_eq_false_iff_ne.2 r4;clear r2 r3 r4;rw [HV.out];clear HV hrg
 obtain ⟨g',hg'⟩:∃ x,Hid (x=Du true d.g (a%65536) y):=⟨_,rfl⟩
 obtain ⟨b',hb'⟩:∃ x,Hid (x=Et true d.m d.bank (a%65536) y):=⟨_,rfl⟩
 have HP:=Ac (fun W F G v u h k=>P8 W F G v u d.m d.ln d.f d.nr d.g d.bank a y h k);rw [okm,← hg'.out,← hb'.out] at HP;rw [← hg'.out,← hb'.out];clear hg' hb' hat
 go_enter Tryz.func37,Tryz.ntmps37
 go_wp2_with fail;generalize (w.alloc (.cells (kR d (.slice x0 d.m y0) (.slice x1 d.np y1) (.slice x2 d.nr y2) (.slice x3 d.nt y3) (.slice x4 d.nd y4) (.slice x5 d.mf y5) (.slice (some ⟨g6,0,none⟩) d.ns c6) (.slice (some ⟨g7,0,none⟩) d.nq c7)) 41)).alloc (.cells zR 41)=W0 at *;refine (HG.out _).mono ?_;rintro e W1 ⟨rfl,rfl⟩;have c0':=Aj B0;go_wp2_with fail;clear c0';refine (HP.out _ _ _ _ _ HQ.h0.ints (by obtain ⟨_,e,I⟩:=HQ.h2.ints; simp only [Value.agg.injEq,Array.mk.injEq,List.cons.injEq,and_true] at e; rw [e]; exact I)).mono ?_;rintro e W2 ⟨z2,rfl,OI,L⟩;clear HP;have l12:=L.size;have hb1:=Ae B1;replace HQ:=HQ.below L;replace L0:=Ah L0 L;replace B0:=Aa B0 L (Ae B0);replace B1:=Aa B1 L (Ae B1);have P2:=(Bn.own (bank:=b') OI).mono (E:=fun b=>W1.heap.size≤b∧b<W2.heap.size) (fun b hb h=>⟨h,hb⟩);clear OI
 obtain ⟨x2',y2'',e2'⟩:=P2.two;simp only [Value.agg.injEq,Array.mk.injEq,List.cons.injEq,and_true] at e2';subst e2';replace HQ:=HQ.mem P2 (by omega) hlo l12 (Nat.le_refl _);clear P2;clear L;have c0':=Aj B0;have f0':=Ar B0;go_upto_region 10 with (fail);clear c0' f0';rename_i K2 hK2;have TT:=Wrote.setCell (b:=w.heap.size) (o:=3) (R:=fun b _=>b=w.heap.size) (Wrote.setCell (b:=w.heap.size) (o:=2) (R:=fun b _=>b=w.heap.size) (Wrote.refl _ W2) (fun _=>rfl) (.slice x2' d.nr y2'')) (fun _=>rfl) (.i b');replace B1:=Ag B1 TT (fun o (h:_=_)=>by omega);replace B0:=Ai (o:=2) B0 (.slice x2' d.nr y2'');replace B0:=Ai (o:=3) B0 (.i b');simp only [List.setIfInBounds_toArray,List.set_cons_succ,List.set_cons_zero] at B0
 replace HQ:=HQ.keepD TT (fun i b o h (e:b=_)=>by rcases h with ⟨-,h1,h2⟩ | ⟨-,h⟩; (omega); (have:=bd0 _ _ h; omega)) (fun o (e:_=_)=>by omega) (fun o (e:_=_)=>by omega);replace L0:=L0.trans (TT.below L0.size (fun b o hb (h:b=_)=>by omega));clear TT;generalize (W2.setCell ⟨w.heap.size,2,none⟩ (.slice x2' d.nr y2'')).setCell ⟨w.heap.size,3,none⟩ (.i b')=W3 at *;refine wp_region_lit ?_;refine wpList_load_row rfl _ _ rfl w.heap.size rfl _ _ _ _ B0 Tryz.underlying41 rfl Af ?_;refine wpList_store_row rfl _ _ _ rfl (w.heap.size+1) _ rfl rfl _ _ B1 Af rfl (by first | kernel_rfl | simp [Value.oneCell']) ?_
 have B3:=setRow_heap _ _ _ (kR { d with bank:=b' } (.slice x0 d.m y0) (.slice x1 d.np y1) (.slice x2' d.nr y2'') (.slice x3 d.nt y3) (.slice x4 d.nd y4) (.slice x5 d.mf y5) (.slice (some ⟨g6,0,none⟩) d.ns c6) (.slice (some ⟨g7,0,none⟩) d.nq c7)) _ _ B1;have WW:=An B1 (kR { d with bank:=b' } (.slice x0 d.m y0) (.slice x1 d.np y1) (.slice x2' d.nr y2'') (.slice x3 d.nt y3) (.slice x4 d.nd y4) (.slice x5 d.mf y5) (.slice (some ⟨g6,0,none⟩) d.ns c6) (.slice (some ⟨g7,0,none⟩) d.nq c7));generalize W3.setRow (w.heap.size+1) (kR { d with bank:=b' } (.slice x0 d.m y0) (.slice x1 d.np y1) (.slice x2' d.nr y2'') (.slice x3 d.nt y3) (.slice x4 d.nd y4) (.slice x5 d.mf y5) (.slice (some ⟨g6,0,none⟩) d.ns c6) (.slice (some ⟨g7,0,none⟩) d.nq c7))=W4 at *;refine hK2 _ _ ?_
 have HF:=Ac (HQ.keepD WW (fun i b o h (e:b=_)=>by rcases h with ⟨-,h1,h2⟩ | ⟨-,h⟩; (omega); (have:=bd0 _ _ h; omega)) (fun o (e:_=_)=>by omega) (fun o (e:_=_)=>by omega));have HX:=Ac (Az.nx (E:=D) (w:=w) HF.out (fun i b h=>by first | exact Or.inl ⟨_,h⟩ | (rcases h with ⟨-,h1,h2⟩ | ⟨-,h⟩; (exact Or.inr (by omega)); (exact Or.inl ⟨_,h⟩)) | (rcases h with ⟨-,rfl⟩ | ⟨-,h⟩; (exact hn9); (exact Or.inl ⟨_,h⟩)) | (rcases h with ⟨-,rfl⟩ | ⟨-,⟨-,h1,h2⟩ | ⟨-,h⟩⟩; (exact hn9); (exact Or.inr (by omega)); (exact Or.inl ⟨_,h⟩))));have LF:=Ac ((L0.trans (WW.below L0.size (fun b o hb (e:b=_)=>by omega))));clear HQ WW B0 B1 L0;go_wp2
 refine bodyPost_ret (v:=.agg (kR { d with bank:=b' } (.slice x0 d.m y0) (.slice x1 d.np y1) (.slice x2' d.nr y2'') (.slice x3 d.nt y3) (.slice x4 d.nd y4) (.slice x5 d.mf y5) (.slice (some ⟨g6,0,none⟩) d.ns c6) (.slice (some ⟨g7,0,none⟩) d.nq c7))) (results_cell_row Tryz.results37 _ _ (w.heap.size+1) _ _ _ _ rfl B3 Tryz.underlying41 rfl Af) rfl ?_;exact ⟨_,rfl,HX.out,LF.out⟩
set_option maxHeartbeats 8000000
set_option maxRecDepth 20000
theorem P4 (w:World) (B c:Nat) (a:Option Addr) (len cap:Nat) (H:Dl w B c a len cap) :
    Calls Tryz.prog 84 #[(pt c 0)] w fun e w'=>(∃ v m ra rc F,e=.returned (.agg #[v])∧1≤m∧m≤3∧Cr w' w.heap.size v m ra (fun _=>256) rc F∧Ix w' v m∧∀ i j,i<m→j<256→0≤F i j∧F i j≤255)∧Dl w' B c a len cap∧Step c w w':=by
  have hcl:=H.lt
  go_enter Tryz.func84,Tryz.ntmps84
  go_wp2_with fail;refine (Cq _ B c a len cap ((H.alloc _ hcl).alloc _ (by simp; omega)) 3).mono ?_;rintro e w1 ⟨x,rfl,x0,x1,H1,O1⟩
  obtain ⟨m,hm,hm1,hm3⟩:∃ m:Nat,1+x=m∧1≤m∧m≤3:=⟨(1+x).toNat,by omega,by omega,by omega⟩
  have zz:w1.heap.size=w.heap.size+2:=by rw [O1.size]; simp
  have xR:w1.cell? ⟨w.heap.size,0,none⟩=some (.slice none 0 0):=(O1.cell (by show w.heap.size≠c; omega)).trans (by rw [World.cell?_alloc_lt _ _ ⟨w.heap.size,0,none⟩ (by simp),World.cell?_alloc_at _ _ _ _ rfl]; rfl);have fR:w1.frozen? ⟨w.heap.size,0,none⟩=false:=(O1.frozen (by show w.heap.size≠c; omega)).trans (by go_simp);have xX:w1.cell? ⟨w.heap.size+1,0,none⟩=some (.slice none 0 0):=(O1.cell (by show w.heap.size+1≠c; omega)).trans (by rw [World.cell?_alloc_at _ _ _ _ (by simp)]; rfl);have fX:w1.frozen? ⟨w.heap.size+1,0,none⟩=false:=(O1.frozen (by show w.heap.size+1≠c; omega)).trans (by go_simp);have S1:Step c w w1:=(((Step.refl c w).alloc _).alloc _).trans O1.step;go_wp2_with fail;clear O1 hm;obtain ⟨i2,hi2,hzb1,hzb2,hzb3⟩:=info_parts Ki
  go_loopw [5] (fun i wr=>∃ (q:Nat) (gb cp:Nat→Nat) (F:Nat→Nat→Int) (ov:Value),q≤m∧i=.i q∧P0 w B c a len cap wr q gb cp F ov) (fun i _=>m-(intOf i).toNat)
  case atStart=>exact ⟨0,fun _=>0,fun _=>0,fun _ _=>0,.slice none 0 0,Nat.zero_le _,rfl,⟨⟨fun i hi=>absurd hi (Nat.not_lt_zero _),fun i hi=>absurd hi (Nat.not_lt_zero _),fun i hi=>absurd hi (Nat.not_lt_zero _),fun i j hi=>absurd hi (Nat.not_lt_zero _)⟩,World.ownsRow_nil _ _ _ _,fun g hg i hi=>absurd hi (Nat.not_lt_zero _),xX,fX,xR,fR,hcl,H1,S1,Nat.le_of_eq zz.symm,fun _ _=>⟨Int.le_refl 0,show (0:Int)≤255 by decide⟩⟩⟩
  case round =>
    obtain ⟨q,gb,cp,F,ov,hq,rfl,hG⟩:=hrel;have hX:=hG.cx;have hFz:=hG.fx;have HG:=Ac hG;clear hG xR fR xX fX H1 S1
    by_cases hqm:q<m
    · have hqm':(q:Int)<(m:Int):=by omega
      go_wp2
      go_region_law (first
        | (refine Tu rfl 117 #[(pt c 0)] (by go_simp) ((Rm _ B c a len cap ((Ad HG).cur.drewN 1)).mono ?_)
           rintro e w2 ⟨rfl,⟨g,hR2,hg⟩,H2,S2⟩;obtain ⟨hX2,hF2,hO2,hz2⟩:=(Ad HG).drawn S2
           have hx2:w.heap.size+1<w2.heap.size:=by omega
           have HO2:=Ac hO2;have HR2:=Ac hR2;have HH2:=Ac H2;have HS2:=Ac S2;have Hg:=Ac hg;clear hO2 hR2 H2 S2 hg
           refine ⟨_,rfl,?_⟩)
        | (refine step_append_lies _ rfl (.tmp 19) (.tmp 22) 24 rfl (w.heap.size+2) 27 i2 (.slice none 0 0) 1 24 Tryz.underlying24 hi2 hzb1 hzb2 hzb3 rfl (by decide) ov q (Md q gb cp) (by simp [Act.eval]) ((Ad HO2).alloc _) ⟨w2.heap.size,0,none⟩ 1 1 [.slice (some ⟨wr.heap.size,0,none⟩) 256 256] (by simp [Act.eval]) rfl (N2 _ #[.slice (some ⟨wr.heap.size,0,none⟩) 256 256] _ (0,0) _ rfl) (fun u hu=>by simp at hu; subst hu; rfl) (by decide) (by unfold maxLen; omega) (by omega) (by simp; omega) _ rfl ?_
           intro g3 c3 w3 hown3 hgrow hat hlt3;have GN:=(Ad HG).snoc (Ad HS2) (Ad HH2) (Ad HR2) (Ad Hg) hown3 hgrow hat;have hX3:w3.cell? ⟨w.heap.size+1,0,none⟩=some ov:=(World.cell?_of_block (a:=⟨w.heap.size+1,0,none⟩) (hgrow.block (w.heap.size+1) (by simp; omega) (fun e=>by have:=((Ad HO2).lt _ e.symm).1; omega))).trans ((World.cell?_alloc_past _ _ _ (by omega)).trans hX2);have hF3:w3.frozen? ⟨w.heap.size+1,0,none⟩=false:=(World.frozen?_of_block (a:=⟨w.heap.size+1,0,none⟩) (hgrow.block (w.heap.size+1) (by simp; omega) (fun e=>by have:=((Ad HO2).lt _ e.symm).1; omega))).trans (by rw [World.frozen?_alloc_old _ _ _ (by show ¬ w.heap.size+1=w2.heap.size; omega)]; exact hF2);have HGN:=Ac GN
           clear GN hown3 hgrow hat))
      all_goals
        go_wp2;go_roundw
        case rel=>exact ⟨q+1,_,_,_,_,by omega,by go_num,Ad HGN⟩
        case measure=>simp [intOf]; omega
    · have hqm':¬ (q:Int)<(m:Int):=by omega
      obtain rfl:q=m:=by omega
      obtain ⟨go,co,rfl,hI⟩:=(Ad HG).img hm1 hm3;have HCU:=(Ad HG).cur;clear HG hX hFz hqm hqm' hq
      obtain ⟨k,hk⟩:∃ k:Nat,k+1=q:=⟨q-1,by omega⟩
      have hk1:(q:Int)-1=k:=by omega
      have hkq:k<q:=by omega
      have hkq':(k:Int)<(q:Int):=by omega
      have hk0:(0:Int)≤(k:Int):=by omega
      have HI:=Ac hI;clear hI
      go_upto_if 27 with ((go_at_call 74; refine (Vr _ B c a len cap HCU 4).mono ?_; rintro e w2 ⟨z,rfl,H2,O2⟩))
      have HI2:=Ac ((Ad HI).step O2.step H2);clear HI O2 HCU
      go_cut [6,7] (fun bb zz wc=>∃ ra rc F,Mx w B c a len cap wc q go co ra rc F)
      case first =>
        cases z
        · go_wp2_with fail
          refine (Zc _ B c a len cap H2).mono ?_;rintro e w3 ⟨⟨s,rfl,hs⟩,H3,S3⟩;have HI3:=Ac ((Ad HI2).step S3 H3);clear HI2 S3;go_wp2_with fail;refine (Oa _ s hs).mono ?_;rintro e w4 ⟨⟨v,n',cc,f,rfl,⟨aa,ac,rfl,hn',hr,hfr,hlo⟩,hA⟩,L4⟩
          have S4:Step c w3 w4:=⟨L4.os,L4.tape,L4.output,L4.size,fun k hk _=>L4.block k hk⟩
          have hI4:=(Ad HI3).step S4 (H3.below L4 H3.lt);obtain ⟨hl,hv⟩:=Vy hA;obtain ⟨_,_,_,_,_,hcg,_⟩:=hI4.at_ k hkq;have hX4:=hI4.cx;have hf4:=hI4.fr k hkq;have HI4:=Ac hI4;have HR:=Ac hr;have HV:=Ac hv;clear hI4 hr hv hA hs L4 S4
          rcases hl with rfl | rfl
          · go_wp2
            go_meet
            case rel=>exact ⟨_,_,_,Ad HI4⟩
          · go_wp2
            go_meet
            case rel=>exact ⟨_,_,_,(Ad HI4).setOuter k hkq w3.heap.size (fun p hp b o hF=>((Ad HI3).ss.sep.free p hp b o hF).1) (Ad HI3).gl.2 aa ac f (Ad HR) hfr hlo (Ad HI3).sz (Ad HV trivial)⟩
        · go_wp2
          go_meet
          case rel=>exact ⟨_,_,_,Ad HI2⟩
      case rest =>
        obtain ⟨ra,rc,F,hI⟩:=hcut;obtain ⟨b,off,ha,hb,hbl,hcg,-⟩:=hI.at_ k hkq;have hX:=hI.cx;go_upto_region 12 with (fail);obtain ⟨⟨x250,c250⟩,f250⟩:=hI.cellOf hkq ha 250 (by decide);have hI1:=hI.setInner k 250 b off hkq (by decide) ha 128 (by decide);go_upto_region 13 with (fail);generalize wc.setCell ⟨b,off+250,none⟩ (.i 128)=W1 at *;clear hI c250 f250;obtain ⟨⟨x251,c251⟩,f251⟩:=hI1.cellOf hkq ha 251 (by decide);have hI2:=hI1.setInner k 251 b off hkq (by decide) ha 192 (by decide);go_upto_region 14 with (fail);generalize W1.setCell ⟨b,off+251,none⟩ (.i 192)=W2 at *;clear hI1 c251 f251;obtain ⟨⟨x252,c252⟩,f252⟩:=hI2.cellOf hkq ha 252 (by decide);have hI3:=hI2.setInner k 252 b off hkq (by decide) ha 0 (by decide);go_upto_region 15 with (fail);generalize W2.setCell ⟨b,off+252,none⟩ (.i 0)=W3 at *;clear hI2 c252 f252
        obtain ⟨⟨x253,c253⟩,f253⟩:=hI3.cellOf hkq ha 253 (by decide);have hI4:=hI3.setInner k 253 b off hkq (by decide) ha 192 (by decide);go_upto_region 16 with (fail);generalize W3.setCell ⟨b,off+253,none⟩ (.i 192)=W4 at *;clear hI3 c253 f253;obtain ⟨⟨x254,c254⟩,f254⟩:=hI4.cellOf hkq ha 254 (by decide);have hI5:=hI4.setInner k 254 b off hkq (by decide) ha 160 (by decide);go_upto_region 17 with (fail);generalize W4.setCell ⟨b,off+254,none⟩ (.i 160)=W5 at *;clear hI4 c254 f254;obtain ⟨⟨x255,c255⟩,f255⟩:=hI5.cellOf hkq ha 255 (by decide);have hI6:=hI5.setInner k 255 b off hkq (by decide) ha 192 (by decide);have hX6:=hI6.cx;have hR6:=hI6.rx;have hRf6:=hI6.rf;go_upto_region 18 with (fail);generalize W5.setCell ⟨b,off+255,none⟩ (.i 192)=W6 at *;clear hI5 c255 f255;go_wp2
        have hbel:Below w.heap.size W6 (W6.setCell ⟨w.heap.size,0,none⟩ (.slice (some ⟨go,0,none⟩) q co)):=(Below.refl w.heap.size W6).setCell (p:=⟨w.heap.size,0,none⟩) (Nat.le_refl _) _;have xr:(W6.setCell ⟨w.heap.size,0,none⟩ (.slice (some ⟨go,0,none⟩) q co)).cell? ⟨w.heap.size,0,none⟩=some (.slice (some ⟨go,0,none⟩) q co):=World.cell?_setCell_same _ _ _ hR6;refine bodyPost_ret (v:=.agg #[.slice (some ⟨go,0,none⟩) q co]) (by simp [results,Tryz.results84,go_sem,xr]) rfl ?_;exact ⟨⟨_,q,_,_,_,rfl,hm1,hm3,(hI6.ss.lower (by omega:w.heap.size+1≤w.heap.size+2)).set_low (Nat.le_refl _),hI6.outFree _ _,hI6.vals⟩,hI6.cur.below hbel hcl,hI6.st.low hbel⟩
end Go.Proofs.YtjnjnppongdhgaaGreat
