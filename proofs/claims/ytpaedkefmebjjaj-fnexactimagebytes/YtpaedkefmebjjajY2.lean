/-
  The specification's ImageBytes: the file of an image that is one, in new memory; nothing of others.
-/
import Derived.Test.YtpaedkefmebjjajB2
import Derived.Lib.SlBytesConst
namespace Go.Proofs.Ytpaedkefmebjjaj
open Go.ChangeShapes Go.WideShapes Go.ChangeAt Go.RowKit
def vals (k : IntKind) (n : Nat) (g : Nat → Int) : List Value := (List.range n).map (fun i => .int k (g i))
theorem vals_len (k : IntKind) (n : Nat) (g : Nat → Int) : (vals k n g).length = n := by simp [vals]
theorem vals_get (k : IntKind) (n : Nat) (g : Nat → Int) (j : Nat) (h : j < n) : (vals k n g)[j]? = some (.int k (g j)) := by simp [vals, h]
theorem vals_succ (k : IntKind) (n : Nat) (g : Nat → Int) : vals k (n + 1) g = vals k n g ++ [.int k (g n)] := by simp [vals, List.range_succ]
theorem vals_congr (k : IntKind) (n : Nat) (g h : Nat → Int) (e : ∀ i, i < n → g i = h i) : vals k n g = vals k n h := by
  unfold vals
  exact List.map_congr_left (fun i hi => by rw [e i (List.mem_range.1 hi)])
def isum (g : Nat → Int) : Nat → Int
  | 0 => 0
  | n + 1 => isum g n + g n
theorem isum_le (g : Nat → Int) (n : Nat) (h : ∀ i, i < n → 0 ≤ g i ∧ g i ≤ 255) : 0 ≤ isum g n ∧ isum g n ≤ 255 * n := by
  induction n with
  | zero => simp [isum]
  | succ n ih =>
    have := ih (fun i hi => h i (by omega))
    have := h n (by omega)
    simp only [isum]
    omega
def flat (f : Nat → Nat → Int) (j : Nat) : Int := f (j / 256) (j % 256)
theorem flat_at (f : Nat → Nat → Int) (i k : Nat) (h : k < 256) : flat f (256 * i + k) = f i k := by
  unfold flat
  rw [show (256 * i + k) / 256 = i by omega, show (256 * i + k) % 256 = k by omega]
def imgF (m : Nat) (f : Nat → Nat → Int) (s : Int) (j : Nat) : Int := if j = 0 then 50 else if j = 1 then 67 else if j = 2 then 76 else if j = 3 then 75 else if j = 4 then m else if j = 5 then s else flat f (j - 6)
theorem vals_head (m : Nat) (f : Nat → Nat → Int) : ([.int .u8 50, .int .u8 67, .int .u8 76, .int .u8 75, .int .u8 m, .int .u8 0] : List Value) = vals .u8 6 (imgF m f 0) := rfl
theorem new_row (w : World) (C : Array Value) (t : TypeId) (fr : Nat × Nat) (n : Nat) (hn : n = w.heap.size) : ∀ j u, C.toList[j]? = some u → (w.alloc (.cells C t fr)).cell? ((⟨n, 0, none⟩ : Addr).add j) = some u := by
  subst hn
  exact World.news_of_block (t := t) (fr := fr) (by show (w.heap.push _)[w.heap.size]? = _; simp)
theorem past_row {w : World} {L : List Value} {n : Nat} (o : Obj) (h : ∀ j u, L[j]? = some u → w.cell? ((⟨n, 0, none⟩ : Addr).add j) = some u) (hn : n < w.heap.size) : ∀ j u, L[j]? = some u → (w.alloc o).cell? ((⟨n, 0, none⟩ : Addr).add j) = some u := fun j u hu => by
  rw [World.cell?_alloc_lt _ _ _ (by rw [add_at]; exact hn)]
  exact h j u hu
theorem flat_ok {m : Nat} {ln : Nat → Nat} {f : Nat → Nat → Int} (h : ∀ i, i < m → okBank (ln i) (f i) = true) (j : Nat) (hj : j < 256 * m) : 0 ≤ flat f j ∧ flat f j ≤ 255 :=
  (okBank_of (h (j / 256) (by omega))).2 (j % 256) (by omega)
theorem isum_step (f : Nat → Nat → Int) (q r : Nat) (h : r < 256) : isum (flat f) (256 * q + (r + 1)) = isum (flat f) (256 * q + r) + f q r := by
  rw [← flat_at f q r h]
  rfl
theorem imgF_at (m : Nat) (f : Nat → Nat → Int) (q r : Nat) (h : r < 256) : imgF m f 0 (6 + 256 * q + r) = f q r := by
  rw [← flat_at f q r h]
  unfold imgF
  rw [if_neg (by omega), if_neg (by omega), if_neg (by omega), if_neg (by omega), if_neg (by omega), if_neg (by omega)]
  congr 1
  omega
theorem own_snoc {w : World} {base e g n cap : Nat} {F : Nat → Int} {x : Int} (h : w.ownsRow base e 1 (.slice (some ⟨g, 0, none⟩) (n + 1) cap) (n + 1) (vals .u8 n F ++ [.int .u8 x])) (hx : F n = x) : w.ownsRow base e 1 (.slice (some ⟨g, 0, none⟩) (n + 1) cap) (n + 1) (vals .u8 (n + 1) F) := by
  rw [vals_succ, hx]
  exact h
theorem own_sum {w : World} {base e g m cap : Nat} {f : Nat → Nat → Int} {s : Int} (h : w.ownsRow base e 1 (.slice (some ⟨g, 0, none⟩) (6 + 256 * m) cap) (6 + 256 * m) (vals .u8 (6 + 256 * m) (imgF m f 0))) : (w.setCell ⟨g, 5, none⟩ (.int .u8 s)).ownsRow base e 1 (.slice (some ⟨g, 0, none⟩) (6 + 256 * m) cap) (6 + 256 * m) (vals .u8 (6 + 256 * m) (imgF m f s)) := by
  have e1 := (h.stored 5 (.int .u8 s)).1
  have e2 : (vals .u8 (6 + 256 * m) (imgF m f 0)).set 5 (.int .u8 s) = vals .u8 (6 + 256 * m) (imgF m f s) := by
    apply List.ext_getElem?
    intro j
    by_cases hj : j < 6 + 256 * m
    · rw [vals_get _ _ _ _ hj, List.getElem?_set]
      by_cases h5 : 5 = j
      · subst h5
        simp [vals_len, imgF]
        omega
      · rw [if_neg h5, vals_get _ _ _ _ hj]
        unfold imgF
        simp only [show ¬ j = 5 from fun h => h5 h.symm, if_false]
    · rw [List.getElem?_eq_none (by simp [vals_len]; omega), List.getElem?_eq_none (by simp [vals_len]; omega)]
  rw [e2] at e1
  exact e1
theorem infoByte : (Try.prog.info? 5).map (fun i => (i.zero, i.size, i.bytes)) = some (some (.int .u8 0), 1, 1) := by kernel_rfl
theorem specImageBytes (w : World) (F : Nat → Nat → Prop) (v : Value) (m : Nat) (ln : Nat → Nat) (f : Nat → Nat → Int) (H : IntSS .i64 w F v m ln f) (hok : okImg m ln f = true) :
    Calls Try.prog 14 #[.agg #[v]] w fun e w' => ∃ g cap, e = .returned (.slice (some ⟨g, 0, none⟩) (6 + 256 * m) cap) ∧ w'.ownsRow w.heap.size 5 1 (.slice (some ⟨g, 0, none⟩) (6 + 256 * m) cap) (6 + 256 * m) (vals .u8 (6 + 256 * m) (imgF m f (isum (flat f) (256 * m) % 256))) ∧ g < w'.heap.size ∧ Below w.heap.size w w' := by
  have L0 : Below w.heap.size w (w.alloc (.cells #[v] 29)) := (Below.refl _ _).alloc (Nat.le_refl _) _
  have H0 := H.keep (wrote_below L0 Nowhere) (fun _ _ _ x => x)
  obtain ⟨hbs, hm1, hm8⟩ := okImg_of hok
  go_enter Try.func14, Try.ntmps14
  go_wp2_with fail
  refine (specImageOk _ F v m ln f H0).mono ?_
  rintro e w1 ⟨rfl, L1⟩
  rw [hok]
  have b1 : w1.cell? ⟨w.heap.size, 0, none⟩ = some v := (L1.cell (by simp)).trans (by go_simp)
  obtain ⟨a, cap, rfl, hm, -, hc⟩ := H0.keep (wrote_below L1 Nowhere) (fun _ _ _ x => x)
  obtain ⟨i0, hi, hz0, hz1, hz2⟩ := info_parts infoByte
  have hcv := fun (w : World) (C : Array Value) => Lib.run_convert_bytes_const (P := Try.prog) w 33 5 C 4 4 Try.underlying33 Try.underlying5
  have z1 : w.heap.size < w1.heap.size := by have := L1.size; simp at this; omega
  have hm255 : (m : Int) ≤ 255 := by omega
  go_wp2_with (at_builtin; refine wpList_append_grows _ rfl (.tmp 12) (.tmp 17) 33 rfl 5 i0 (.int .u8 0) 1 1 Try.underlying33 hi hz0 hz1 hz2 rfl (by decide) _ 4 4 [.int .u8 50, .int .u8 67, .int .u8 76, .int .u8 75] rfl ?a1 rfl ?a2 _ 2 2 [.int .u8 m, .int .u8 0] rfl rfl ?a3 ?a4 (by omega) (by decide) (by omega) ?_)
  case a1 => intro h; cases h
  case a2 =>
    intro b hb
    cases hb
    exact past_row _ (new_row w1 #[.int .u8 50, .int .u8 67, .int .u8 76, .int .u8 75] 5 (4, 5) _ rfl) (by simp)
  case a3 => exact new_row _ #[.int .u8 m, .int .u8 0] 5 (0, 0) _ (by simp)
  case a4 => intro u hu; simp at hu; rcases hu with rfl | rfl <;> rfl
  intro v2 w2 hown hgrow
  obtain ⟨g0, cap0, rfl, hg0, hlt0⟩ := hown.form (by omega)
  have hB0 : Below w1.heap.size w1 w2 := (((Below.refl _ _).alloc (Nat.le_refl _) _).alloc (by simp) _).grown hgrow (by simp; omega) (fun _ e => by cases e)
  have hO0 : w2.ownsRow w1.heap.size 5 1 (.slice (some ⟨g0, 0, none⟩) (6 + 256 * 0) cap0) (6 + 256 * 0) (vals .u8 (6 + 256 * 0) (imgF m f 0)) := Joins.ownsRow_le (by rw [vals_head m f] at hown; exact hown) (Nat.le_trans (Nat.le_add_right _ 2) (Nat.le_refl _))
  have HO0 := hide hO0
  clear hown hgrow hO0 hg0 hcv
  go_wp2
  go_loopw [3, 4, 5] (fun out sum i wr => ∃ q g cp : Nat, q ≤ m ∧ i = .int .i64 q ∧ out = .slice (some ⟨g, 0, none⟩) (6 + 256 * q) cp ∧ wr.ownsRow w1.heap.size 5 1 (.slice (some ⟨g, 0, none⟩) (6 + 256 * q) cp) (6 + 256 * q) (vals .u8 (6 + 256 * q) (imgF m f 0)) ∧ g < wr.heap.size ∧ sum = .int .i64 (isum (flat f) (256 * q)) ∧ Below w1.heap.size w1 wr) (fun _ _ i _ => m - (intOf i).toNat)
  case atStart => exact ⟨0, g0, cap0, Nat.zero_le _, rfl, rfl, unhide HO0, hlt0, rfl, hB0⟩
  case round =>
    obtain ⟨q, g, cp, hq, rfl, rfl, hown, hlt, rfl, hbel⟩ := hrel
    have hO := hide hown
    clear hown
    have hbx : wr.cell? ⟨w.heap.size, 0, none⟩ = some (.slice a m cap) := (hbel.cell z1).trans b1
    have hsm := isum_le (flat f) (256 * q)
    by_cases hqm : q < m
    · have hqm' : (q : Int) < (m : Int) := by omega
      obtain ⟨b, off, u, rfl, hcell, a', cap', rfl, hn', hrow, -⟩ := hc q hqm
      obtain ⟨hl, hby⟩ := okBank_of (hbs q hqm)
      have hcw := block_lt_of_cell hcell
      go_wp2
      go_loopw [3, 4, 6] (fun out sum k ws => ∃ r g cp : Nat, r ≤ 256 ∧ k = .int .i64 r ∧ out = .slice (some ⟨g, 0, none⟩) (6 + 256 * q + r) cp ∧ ws.ownsRow w1.heap.size 5 1 (.slice (some ⟨g, 0, none⟩) (6 + 256 * q + r) cp) (6 + 256 * q + r) (vals .u8 (6 + 256 * q + r) (imgF m f 0)) ∧ g < ws.heap.size ∧ sum = .int .i64 (isum (flat f) (256 * q + r)) ∧ Below w1.heap.size w1 ws) (fun _ _ i _ => 256 - (intOf i).toNat)
      case atStart => exact ⟨0, g, cp, Nat.zero_le _, rfl, rfl, unhide hO, hlt, rfl, hbel⟩
      case round =>
        obtain ⟨r, g2, cp2, hr, rfl, rfl, hown2, hlt2, rfl, hbel2⟩ := hrel
        have HO2 := hide hown2
        clear hown2
        have hbx2 : wr.cell? ⟨w.heap.size, 0, none⟩ = some (.slice (some ⟨b, off, none⟩) m cap) := (hbel2.cell z1).trans b1
        by_cases hrt : r < 256
        · obtain ⟨rb, ro, rfl, hel⟩ := hrow r (by omega)
          have hew := block_lt_of_cell hel
          have hc2 : wr.cell? ⟨b, off + q, none⟩ = some (.slice (some ⟨rb, ro, none⟩) (ln q) cap') := (hbel2.cell hcw).trans hcell
          have he2 : wr.cell? ⟨rb, ro + r, none⟩ = some (.int .i64 (f q r)) := (hbel2.cell hew).trans hel
          have hrt' : (r : Int) < 256 := by omega
          have hrl : (r : Int) < (ln q : Int) := by omega
          obtain ⟨hv0, hv1⟩ := hby r hrt
          have hsm2 := isum_le (flat f) (256 * q + r) (fun j hj => flat_ok hbs j (by omega))
          have HSS := hide (isum_step f q r hrt)
          generalize isum (flat f) (256 * q + r) = s at *
          obtain ⟨hs0, hs1⟩ := hsm2
          have hs2 : s ≤ 1000000 := by omega
          have hwz := hbel2.size
          clear hs1
          go_wp2_with (at_builtin; refine wpList_append_lies _ rfl (.tmp 30) (.tmp 40) 33 rfl w1.heap.size 5 i0 (.int .u8 0) 1 1 Try.underlying33 hi hz0 hz1 hz2 rfl (by decide) _ _ _ rfl ((unhide HO2).alloc _) ⟨wr.heap.size, 0, none⟩ 1 1 [.int .u8 (f q r)] rfl rfl ?c1 ?c2 (by decide) ?c3 ?c4 ?c5 _ rfl ?_)
          case c2 => first | rfl | (intro u hu; simp at hu; subst hu; rfl)
          case c3 => unfold maxLen; omega
          case c4 => omega
          case c5 => first | omega | (simp; omega)
          intro g3 cp3 w3 hown3 hgrow hat hlt3
          have hb3 : Below w1.heap.size w1 w3 := (hbel2.alloc hwz _).grown hgrow (by simp; omega) (fun k hk => ((unhide HO2).lt k hk).1)
          have hbx3 : w3.cell? ⟨w.heap.size, 0, none⟩ = some (.slice (some ⟨b, off, none⟩) m cap) := (hb3.cell z1).trans b1
          have hc3 : w3.cell? ⟨b, off + q, none⟩ = some (.slice (some ⟨rb, ro, none⟩) (ln q) cap') := (hb3.cell hcw).trans hcell
          have he3 : w3.cell? ⟨rb, ro + r, none⟩ = some (.int .i64 (f q r)) := (hb3.cell hew).trans hel
          have HO3 := hide (own_snoc hown3 (imgF_at m f q r hrt))
          clear hown3 hgrow hat hbx2 hc2 he2 HO2
          go_wp2
          go_roundw
          case rel => exact ⟨r + 1, g3, cp3, by omega, by go_num, rfl, unhide HO3, hlt3, by rw [unhide HSS], hb3⟩
          case measure => simp [intOf]; omega
        · have hrt' : ¬ (r : Int) < 256 := by omega
          have er : r = 256 := by omega
          subst er
          have e6 : Hid (6 + 256 * q + 256 = 6 + 256 * (q + 1)) := by show _ = _; omega
          have e7 : Hid (256 * q + 256 = 256 * (q + 1)) := by show _ = _; omega
          go_wp2
          go_roundw
          case rel => exact ⟨q + 1, g2, cp2, by omega, by go_num, congrArg (fun n => Value.slice (some ⟨g2, 0, none⟩) n cp2) e6.out, e6.out ▸ unhide HO2, hlt2, congrArg (fun n => Value.int .i64 (isum (flat f) n)) e7.out, hbel2⟩
          case measure => simp [intOf]; omega
    · have hqm' : ¬ (q : Int) < (m : Int) := by omega
      have e : q = m := by omega
      subst e
      have hsm2 := hsm (fun j hj => flat_ok hbs j hj)
      obtain ⟨hs0, hs1⟩ := hsm2
      have HF := hide (own_sum (s := isum (flat f) (256 * q) % 256) (unhide hO))
      have hf5 := (unhide hO).frozenAt 5
      have hc5 : wr.cell? ⟨g, 5, none⟩ = some (.int .u8 0) := by rw [(unhide hO).cellAt 5 (by omega), vals_get _ _ _ _ (by omega)]; rfl
      have hg := ((unhide hO).lt g rfl).1
      have h5 : (5 : Int) < ((6 + 256 * q : Nat) : Int) := by omega
      go_wp2
      go_ret
      exact ⟨g, cp, rfl, Joins.ownsRow_le (unhide HF) (by omega), by simpa using hlt, ((L0.trans (L1.mono (by simp))).trans (hbel.mono (by omega))).setCell (by show _ ≤ g; omega) _⟩
theorem specImageBytesNo (w : World) (F : Nat → Nat → Prop) (v : Value) (m : Nat) (ln : Nat → Nat) (f : Nat → Nat → Int) (H : IntSS .i64 w F v m ln f) (hok : okImg m ln f = false) :
    Calls Try.prog 14 #[.agg #[v]] w fun e w' => ∃ a, e = .returned (.slice a 0 0) ∧ Below w.heap.size w w' := by
  have L0 : Below w.heap.size w (w.alloc (.cells #[v] 29)) := (Below.refl _ _).alloc (Nat.le_refl _) _
  have H0 := H.keep (wrote_below L0 Nowhere) (fun _ _ _ x => x)
  go_enter Try.func14, Try.ntmps14
  go_wp2_with fail
  refine (specImageOk _ F v m ln f H0).mono ?_
  rintro e w1 ⟨rfl, L1⟩
  rw [hok]
  go_wp2
  go_ret
  exact ⟨_, rfl, (L0.trans (L1.mono (by simp))).alloc (Nat.le_trans (by simp) L1.size) _⟩
end Go.Proofs.Ytpaedkefmebjjaj
