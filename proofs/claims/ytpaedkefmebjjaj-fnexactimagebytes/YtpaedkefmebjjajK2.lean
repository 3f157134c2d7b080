/-
  The program's ImageBytes: the file of an image that is one, in new memory; nothing of others.
-/
import Derived.Test.YtpaedkefmebjjajY2
import Derived.Test.YtpaedkefmebjjajJ2
import Derived.Test.YtpaedkefmebjjajQ2
import Derived.Lib.LazyBuf
namespace Go.Proofs.Ytpaedkefmebjjaj
open Go.ChangeShapes Go.WideShapes Go.ChangeAt Go.RowKit
structure OwnBytes (w : World) (lo : Nat) (v : Value) (n : Nat) (f : Nat → Int) : Prop where
  ex : ∃ a cap, v = .slice a n cap ∧ (n ≤ 1048576 ∧ n ≤ cap) ∧ RowOf .u8 w a n f ∧ Free w (Foot a n) ∧ ∀ b o, Foot a n b o → lo ≤ b
theorem own_rowIs {w : World} {lo g n : Nat} {t : TypeId} {f : Nat → Int} (h : w.rowIs g t n (fun j => .int .u8 (f j))) (hg : lo ≤ g) (hn : n ≤ 1048576) : OwnBytes w lo (.slice (some ⟨g, 0, none⟩) n n) n f :=
  ⟨_, n, rfl, ⟨hn, Nat.le_refl _⟩, fun i hi => ⟨g, 0, rfl, by rw [Nat.zero_add]; exact h.cell hi⟩, fun b o hF => by
    obtain ⟨off, e, _⟩ := hF
    simp only [Option.some.injEq, Addr.mk.injEq, and_true] at e
    obtain ⟨rfl, rfl⟩ := e
    exact ⟨h.lt, h.frozen o⟩, fun b o hF => by
    obtain ⟨off, e, _⟩ := hF
    simp only [Option.some.injEq, Addr.mk.injEq, and_true] at e
    omega⟩
theorem own_bytes {w : World} {base lo n cap g : Nat} {t : TypeId} {f : Nat → Int} (h : w.ownsRow base t 1 (.slice (some ⟨g, 0, none⟩) n cap) n (vals .u8 n f)) (hg : lo ≤ g) (hlt : g < w.heap.size) (hn : n ≤ 1048576) : OwnBytes w lo (.slice (some ⟨g, 0, none⟩) n cap) n f :=
  ⟨_, cap, rfl, ⟨hn, by rcases h.2 with ⟨e, _⟩ | ⟨g', cap', cur, e, _, _, hc, _⟩ <;> cases e; exact hc⟩, fun i hi => ⟨g, 0, rfl, by rw [Nat.zero_add, h.cellAt i (by omega), vals_get _ n f i hi]⟩, fun b o hF => by
    obtain ⟨off, e, _⟩ := hF
    simp only [Option.some.injEq, Addr.mk.injEq, and_true] at e
    obtain ⟨rfl, rfl⟩ := e
    exact ⟨hlt, h.frozenAt o⟩, fun b o hF => by
    obtain ⟨off, e, _⟩ := hF
    simp only [Option.some.injEq, Addr.mk.injEq, and_true] at e
    omega⟩
def fileLen (m : Nat) (ln : Nat → Nat) (f : Nat → Nat → Int) : Nat := if okImg m ln f then 6 + 256 * m else 0
def fileOf (m : Nat) (f : Nat → Nat → Int) : Nat → Int := imgF m f (isum (flat f) (256 * m) % 256)
theorem ret_slice {b o o' n n' c c' : Nat} (h1 : o = o') (h2 : n = n') (h3 : c = c') : Ending.returned (.slice (some ⟨b, o, none⟩) n c) = .returned (.slice (some ⟨b, o', none⟩) n' c') := by subst h1; subst h2; subst h3; rfl
theorem cutBank (w : World) (g off N C n : Nat) (hn : 6 + 256 * (n + 1) ≤ N) (hC : N ≤ C) (hN : N ≤ 1048576) :
    Calls Try.prog 32 #[.slice (some ⟨g, off, none⟩) N C, .int .i64 n] w fun e w' => e = .returned (.slice (some ⟨g, off + (6 + 256 * n), none⟩) 256 256) ∧ w' = w := by
  go_enter Try.func32, Try.ntmps32
  go_wp2
  go_ret
  exact ⟨ret_slice (by omega) (by omega) (by omega), rfl⟩
theorem fileSum (w : World) (a : Option Addr) (n cap : Nat) (f : Nat → Int) (H : RowOf .u8 w a n f) (hn : n ≤ 1048576) (hb : ∀ i, i < n → 0 ≤ f i ∧ f i ≤ 255) :
    Calls Try.prog 33 #[.slice a n cap] w fun e w' => e = .returned (.int .u8 (isum f n % 256)) ∧ w' = w := by
  go_enter Try.func33, Try.ntmps33
  go_wp2
  go_loop [3, 8] (fun s i => ∃ q : Nat, q ≤ n ∧ i = .int .i64 q ∧ s = .int .u8 (isum f q % 256)) (fun _ i => n - (intOf i).toNat)
  case atStart => exact ⟨0, Nat.zero_le _, rfl, rfl⟩
  case round =>
    obtain ⟨q, hq, rfl, rfl⟩ := hrel
    by_cases hlt : q < n
    · obtain ⟨b, off, rfl, hcell⟩ := H q hlt
      have hlt' : (q : Int) < (n : Int) := by omega
      obtain ⟨h0, h1⟩ := hb q hlt
      go_wp2
      go_round
      case rel => exact ⟨q + 1, by omega, by go_num, congrArg (Value.int .u8) (by show _ = (isum f q + f q) % 256; omega)⟩
      case measure => simp [intOf]; omega
    · have hlt' : ¬ (q : Int) < (n : Int) := by omega
      go_wp2
      go_ret
      have e : q = n := by omega
      subst e
      exact ⟨rfl, rfl⟩
def part (m : Nat) (f : Nat → Nat → Int) (k j : Nat) : Int := if j < 6 + k then imgF m f 0 j else 0
theorem lt6 (j : Nat) (h : j < 6) : j = 0 ∨ j = 1 ∨ j = 2 ∨ j = 3 ∨ j = 4 ∨ j = 5 := by omega
theorem part_zero (m : Nat) (f : Nat → Nat → Int) (j : Nat) : (if j = 4 then Value.int .u8 m else if j = 3 then .int .u8 75 else if j = 2 then .int .u8 76 else if j = 1 then .int .u8 67 else if j = 0 then .int .u8 50 else .int .u8 0) = .int .u8 (part m f 0 j) := by
  by_cases h : j < 6
  · rcases lt6 j h with rfl | rfl | rfl | rfl | rfl | rfl <;> simp [part, imgF]
  · rw [if_neg (by omega), if_neg (by omega), if_neg (by omega), if_neg (by omega), if_neg (by omega)]
    simp [part, h]
theorem part_step (m : Nat) (f : Nat → Nat → Int) (q r j : Nat) (h : r < 256) : (if j = 6 + 256 * q + r then Value.int .u8 (f q r) else .int .u8 (part m f (256 * q + r) j)) = .int .u8 (part m f (256 * q + (r + 1)) j) := by
  unfold part
  by_cases e : j = 6 + 256 * q + r
  · subst e
    rw [if_pos rfl, if_pos (by omega), imgF_at m f q r h]
  · rw [if_neg e]
    by_cases h2 : j < 6 + (256 * q + r)
    · rw [if_pos h2, if_pos (by omega)]
    · rw [if_neg h2, if_neg (by omega)]
theorem part_end (m : Nat) (f : Nat → Nat → Int) (s : Int) (j : Nat) (h : j < 6 + 256 * m) : (if j = 5 then Value.int .u8 s else .int .u8 (part m f (256 * m) j)) = .int .u8 (imgF m f s j) := by
  unfold part imgF
  by_cases e : j = 5
  · subst e; simp
  · simp only [e, if_false, h, if_true]
theorem sizeU8 (w : World) : (Go.sizeOf 5).run Try.prog w = .ok 1 w := by
  obtain ⟨i0, hi, hz0, hz1, hz2⟩ := info_parts infoU8
  simp [Go.sizeOf, typeInfo, hi, hz1]
set_option maxHeartbeats 1000000 in
theorem implImageBytes (w : World) (F : Nat → Nat → Prop) (v : Value) (m : Nat) (ln : Nat → Nat) (f : Nat → Nat → Int) (H : IntSS .i64 w F v m ln f) :
    Calls Try.prog 15 #[.agg #[v]] w fun e w' => ∃ u, e = .returned u ∧ OwnBytes w' w.heap.size u (fileLen m ln f) (fileOf m f) ∧ Below w.heap.size w w' := by
  have L0 : Below w.heap.size w (w.alloc (.cells #[v] 29)) := (Below.refl _ _).alloc (Nat.le_refl _) _
  have H0 := H.keep (wrote_below L0 Nowhere) (fun _ _ _ x => x)
  cases hok : okImg m ln f
  · have hbl : fileLen m ln f = 0 := by simp [fileLen, hok]
    rw [hbl]
    go_enter Try.func15, Try.ntmps15
    go_wp2_with fail
    refine (implImageOk _ F v m ln f H0).mono ?_
    rintro e w1 ⟨rfl, L1⟩
    rw [hok]
    go_wp2
    go_ret
    exact ⟨_, rfl, ⟨_, _, rfl, by omega, fun i hi => absurd hi (Nat.not_lt_zero _), fun b o hF => absurd hF (foot_none _ _ _), fun b o hF => absurd hF (foot_none _ _ _)⟩, (L0.trans (L1.mono (by simp))).alloc (Nat.le_trans (by simp) L1.size) _⟩
  · have hbl : fileLen m ln f = 6 + 256 * m := by simp [fileLen, hok]
    rw [hbl]
    obtain ⟨hbs, hm1, hm8⟩ := okImg_of hok
    go_enter Try.func15, Try.ntmps15
    go_wp2_with fail
    refine (implImageOk _ F v m ln f H0).mono ?_
    rintro e w1 ⟨rfl, L1⟩
    rw [hok]
    have b1 : w1.cell? ⟨w.heap.size, 0, none⟩ = some v := (L1.cell (by simp)).trans (by go_simp)
    obtain ⟨a, cap, rfl, hm, -, hc⟩ := H0.keep (wrote_below L1 Nowhere) (fun _ _ _ x => x)
    have hmk := run_make_row' (P := Try.prog) 33 5 (.int .u8 0) 1 Try.underlying33 infoU8 rfl .i64 .i64 (6 + m * 256) (by omega) (by omega)
    rw [show ((6 + m * 256 : Nat) : Int) = 6 + (m : Int) * 256 by omega] at hmk
    have R0 := World.rowIs_made w1 (.int .u8 0) (6 + m * 256) 5
    have hcp := run_copy_string (P := Try.prog) (w1.alloc (.cells (madeCells #[.int .u8 0] (6 + m * 256)) 5)) 33 9 3 5 w1.heap.size 0 (6 + m * 256) (6 + m * 256) ⟨#[50, 67, 76, 75]⟩ Try.underlying33 sizeU8 (by show 4 ≤ _; omega) (fun j hj => by have hj : j < 4 := hj; rw [Nat.zero_add, R0.cell (by omega)]; rfl) (fun j hj => by rw [Nat.zero_add]; exact R0.frozen j)
    have hcp2 : (Builtin.copy_ #[33, 9] 3 #[.slice (some ⟨w1.heap.size, 0, none⟩) (6 + m * 256) (6 + m * 256), .string ⟨#[50, 67, 76, 75]⟩]).run Try.prog (w1.alloc (.cells (madeCells #[.int .u8 0] (6 + m * 256)) 5)) = .ok (.int .i64 4) (((((w1.alloc (.cells (madeCells #[.int .u8 0] (6 + m * 256)) 5)).setCell ⟨w1.heap.size, 0, none⟩ (.int .u8 50)).setCell ⟨w1.heap.size, 1, none⟩ (.int .u8 67)).setCell ⟨w1.heap.size, 2, none⟩ (.int .u8 76)).setCell ⟨w1.heap.size, 3, none⟩ (.int .u8 75)) := hcp
    have R1 := (((R0.set 0 (.int .u8 50)).set 1 (.int .u8 67)).set 2 (.int .u8 76)).set 3 (.int .u8 75)
    have B1 : Below w1.heap.size w1 (((((w1.alloc (.cells (madeCells #[.int .u8 0] (6 + m * 256)) 5)).setCell ⟨w1.heap.size, 0, none⟩ (.int .u8 50)).setCell ⟨w1.heap.size, 1, none⟩ (.int .u8 67)).setCell ⟨w1.heap.size, 2, none⟩ (.int .u8 76)).setCell ⟨w1.heap.size, 3, none⟩ (.int .u8 75)) := (((((Below.refl _ _).alloc (Nat.le_refl _) _).setCell (Nat.le_refl _) _).setCell (Nat.le_refl _) _).setCell (Nat.le_refl _) _).setCell (Nat.le_refl _) _
    clear hcp R0
    generalize (((((w1.alloc (.cells (madeCells #[.int .u8 0] (6 + m * 256)) 5)).setCell ⟨w1.heap.size, 0, none⟩ (.int .u8 50)).setCell ⟨w1.heap.size, 1, none⟩ (.int .u8 67)).setCell ⟨w1.heap.size, 2, none⟩ (.int .u8 76)).setCell ⟨w1.heap.size, 3, none⟩ (.int .u8 75)) = w2 at *
    have R2 := (R1.set 4 (.int .u8 m)).congr (fun j _ => part_zero m f j)
    have c4 := R1.cell (i := 4) (by omega)
    have f4 := R1.frozen 4
    have z1 : w.heap.size < w1.heap.size := by have := L1.size; simp at this; omega
    have b2 : w2.cell? ⟨w.heap.size, 0, none⟩ = some (.slice a m cap) := (B1.cell z1).trans b1
    have HR2 := hide R2
    clear R1 R2
    have BS : Below w1.heap.size w1 (w2.setCell ⟨w1.heap.size, 4, none⟩ (.int .u8 m)) := B1.setCell (Nat.le_refl _) _
    go_wp2
    go_loopw [30] (fun i wr => ∃ q : Nat, q ≤ m ∧ i = .int .i64 q ∧ wr.rowIs w1.heap.size 5 (6 + m * 256) (fun j => .int .u8 (part m f (256 * q) j)) ∧ Below w1.heap.size w1 wr) (fun i _ => m - (intOf i).toNat)
    case atStart => exact ⟨0, Nat.zero_le _, rfl, unhide HR2, BS⟩
    case round =>
      obtain ⟨q, hq, rfl, hrow, hbel⟩ := hrel
      have HRow := hide hrow
      clear hrow
      by_cases hqm : q < m
      · have hqm' : (q : Int) < (m : Int) := by omega
        obtain ⟨b, off, u, rfl, hcell, a', cap', rfl, hn', hbrow, -⟩ := hc q hqm
        obtain ⟨hl, hby⟩ := okBank_of (hbs q hqm)
        have hcw := (hbel.cell (p := ⟨b, off + q, none⟩) (block_lt_of_cell hcell)).trans hcell
        go_wp2_with fail
        refine (cutBank _ _ _ _ _ q (by omega) (Nat.le_refl _) (by omega)).mono ?_
        rintro e wx ⟨rfl, rfl⟩
        rw [Nat.zero_add]
        go_wp2
        go_loopw [40] (fun i ws => ∃ r : Nat, r ≤ 256 ∧ i = .int .i64 r ∧ ws.rowIs w1.heap.size 5 (6 + m * 256) (fun j => .int .u8 (part m f (256 * q + r) j)) ∧ Below w1.heap.size w1 ws) (fun i _ => 256 - (intOf i).toNat)
        case atStart => exact ⟨0, Nat.zero_le _, rfl, unhide HRow, hbel⟩
        case round =>
          obtain ⟨r, hr, rfl, hrow2, hbel2⟩ := hrel
          by_cases hrt : r < 256
          · have hrt' : (r : Int) < 256 := by omega
            obtain ⟨rb, ro, rfl, hel⟩ := hbrow r (by omega)
            have he2 : wr.cell? ⟨rb, ro + r, none⟩ = some (.int .i64 (f q r)) := (hbel2.cell (block_lt_of_cell hel)).trans hel
            obtain ⟨hv0, hv1⟩ := hby r hrt
            have hdst := hrow2.cell (i := 6 + 256 * q + r) (by omega)
            have hfz := hrow2.frozen (6 + 256 * q + r)
            have R3 := (hrow2.set (6 + 256 * q + r) (.int .u8 (f q r))).congr (fun j _ => part_step m f q r j hrt)
            have HR3 := hide R3
            clear R3 hrow2
            go_wp2
            go_roundw
            case rel => exact ⟨r + 1, by omega, by go_num, unhide HR3, hbel2.setCell (Nat.le_refl _) _⟩
            case measure => simp [intOf]; omega
          · have hrt' : ¬ (r : Int) < 256 := by omega
            have er : r = 256 := by omega
            subst er
            have HRow3 := hide hrow2
            clear hrow2
            have e7 : Hid (256 * q + 256 = 256 * (q + 1)) := by show _ = _; omega
            go_wp2
            go_roundw
            case rel => exact ⟨q + 1, by omega, by go_num, e7.out ▸ unhide HRow3, hbel2⟩
            case measure => simp [intOf]; omega
      · have hqm' : ¬ (q : Int) < (m : Int) := by omega
        have e : q = m := by omega
        subst e
        have HRf : RowOf .u8 wr (some ⟨w1.heap.size, 6, none⟩) (q * 256) (flat f) := fun i hi => ⟨w1.heap.size, 6, rfl, by
          rw [(unhide HRow).cell (by omega)]
          unfold part imgF
          rw [if_pos (by omega), if_neg (by omega), if_neg (by omega), if_neg (by omega), if_neg (by omega), if_neg (by omega), if_neg (by omega), Nat.add_sub_cancel_left]⟩
        have c5 := (unhide HRow).cell (i := 5) (by omega)
        have f5 := (unhide HRow).frozen 5
        have RE := ((unhide HRow).set 5 (.int .u8 (isum (flat f) (256 * q) % 256))).congr (fun j hj => part_end q f _ j (by omega))
        have HRE := hide RE
        have e8 : Hid (q * 256 = 256 * q) := by show _ = _; omega
        clear RE
        go_wp2_with fail
        refine (fileSum _ _ _ _ (flat f) HRf (by omega) (fun i hi => flat_ok hbs i (by omega))).mono ?_
        rintro e wx ⟨rfl, rfl⟩
        rw [e8.out]
        have hs0 : 0 ≤ isum (flat f) (256 * q) % 256 := by omega
        have hs1 : isum (flat f) (256 * q) % 256 ≤ 255 := by omega
        have hF : Hid (fileOf q f = imgF q f (isum (flat f) (256 * q) % 256)) := rfl
        generalize isum (flat f) (256 * q) % 256 = S at *
        go_wp2
        go_ret
        exact ⟨_, rfl, hF.out ▸ own_rowIs (e8.out ▸ unhide HRE) (by omega) (by omega), ((L0.trans (L1.mono (by simp))).trans (hbel.mono (by omega))).setCell (by show _ ≤ w1.heap.size; omega) _⟩
theorem specBytes (w : World) (F : Nat → Nat → Prop) (v : Value) (m : Nat) (ln : Nat → Nat) (f : Nat → Nat → Int) (H : IntSS .i64 w F v m ln f) :
    Calls Try.prog 14 #[.agg #[v]] w fun e w' => ∃ u, e = .returned u ∧ OwnBytes w' w.heap.size u (fileLen m ln f) (fileOf m f) ∧ Below w.heap.size w w' := by
  cases hok : okImg m ln f
  · have hbl : fileLen m ln f = 0 := by simp [fileLen, hok]
    rw [hbl]
    refine (specImageBytesNo w F v m ln f H hok).mono ?_
    rintro e w1 ⟨a, rfl, L⟩
    exact ⟨_, rfl, ⟨_, _, rfl, by omega, fun i hi => absurd hi (Nat.not_lt_zero _), fun b o hF => absurd hF (foot_none _ _ _), fun b o hF => absurd hF (foot_none _ _ _)⟩, L⟩
  · have hbl : fileLen m ln f = 6 + 256 * m := by simp [fileLen, hok]
    rw [hbl]
    obtain ⟨-, -, hm8⟩ := okImg_of hok
    refine (specImageBytes w F v m ln f H hok).mono ?_
    rintro e w1 ⟨g, cap, rfl, hown, hlt, L⟩
    exact ⟨_, rfl, own_bytes hown (hown.lt g rfl).1 hlt (by omega), L⟩
end Go.Proofs.Ytpaedkefmebjjaj
