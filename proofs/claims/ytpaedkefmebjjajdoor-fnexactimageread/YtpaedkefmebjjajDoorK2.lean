/-
  The program's ImageBytes: the file of an image that is one, in new memory; nothing of others.
-/
import Derived.Test.YtpaedkefmebjjajDoorY2
import Derived.Test.YtpaedkefmebjjajDoorJ2
import Derived.Test.YtpaedkefmebjjajDoorQ2
import Derived.Lib.LazyBuf
namespace Go.Proofs.YtpaedkefmebjjajDoor
open Go.ChangeShapes Go.WideShapes Go.ChangeAt Go.RowKit
structure OwnBytes (w : World) (lo : Nat) (v : Value) (n : Nat) (f : Nat → Int) : Prop where
  ex : ∃ a cap, v = .slice a n cap ∧ (n ≤ 1048576 ∧ n ≤ cap) ∧ RowOf .u8 w a n f ∧ Free w (Foot a n) ∧ ∀ b o, Foot a n b o → lo ≤ b
theorem own_rowIs {w : World} {lo g n : Nat} {t : TypeId} {f : Nat → Int} (h : w.rowIs g t n (fun j => .int .u8 (f j))) (hg : lo ≤ g) (hn : n ≤ 1048576) : OwnBytes w lo (.slice (some ⟨g, 0, none⟩) n n) n f :=
  ⟨_, n, rfl, ⟨hn, Nat.le_refl _⟩, fun i hi => ⟨g, 0, rfl, by rw [Nat.zero_add]; exact h.cell hi⟩, fun b o hF => by
    obtain ⟨off, e, _⟩ := hF
    simp only [Option.some.injEq, Addr.mk.injEq, and_true] at e
    obtain ⟨rfl, rfl⟩ := e
    exact ⟨h.lt, h.frozen o⟩, fun b o hF => by
    obtain ⟨off, e, _⟩ := hF
    simp only [Option.some.injEq, Addr.mk.injEq, and_true] at e
    omega⟩
theorem own_bytes {w : World} {base lo n cap g : Nat} {t : TypeId} {f : Nat → Int} (h : w.ownsRow base t 1 (.slice (some ⟨g, 0, none⟩) n cap) n (vals .u8 n f)) (hg : lo ≤ g) (hlt : g < w.heap.size) (hn : n ≤ 1048576) : OwnBytes w lo (.slice (some ⟨g, 0, none⟩) n cap) n f :=
  ⟨_, cap, rfl, ⟨hn, by rcases h.2 with ⟨e, _⟩ | ⟨g', cap', cur, e, _, _, hc, _⟩ <;> cases e; exact hc⟩, fun i hi => ⟨g, 0, rfl, by rw [Nat.zero_add, h.cellAt i (by omega), vals_get _ n f i hi]⟩, fun b o hF => by
    obtain ⟨off, e, _⟩ := hF
    simp only [Option.some.injEq, Addr.mk.injEq, and_true] at e
    obtain ⟨rfl, rfl⟩ := e
    exact ⟨hlt, h.frozenAt o⟩, fun b o hF => by
    obtain ⟨off, e, _⟩ := hF
    simp only [Option.some.injEq, Addr.mk.injEq, and_true] at e
    omega⟩
def fileLen (m : Nat) (ln : Nat → Nat) (f : Nat → Nat → Int) : Nat := if okImg m ln f then 6 + 256 * m else 0
def fileOf (m : Nat) (f : Nat → Nat → Int) : Nat → Int := imgF m f (isum (flat f) (256 * m) % 256)
theorem ret_slice {b o o' n n' c c' : Nat} (h1 : o = o') (h2 : n = n') (h3 : c = c') : Ending.returned (.slice (some ⟨b, o, none⟩) n c) = .returned (.slice (some ⟨b, o', none⟩) n' c') := by subst h1; subst h2; subst h3; rfl
theorem cutBank (w : World) (g off N C n : Nat) (hn : 6 + 256 * (n + 1) ≤ N) (hC : N ≤ C) (hN : N ≤ 1048576) :
    Calls Tryd.prog 28 #[.slice (some ⟨g, off, none⟩) N C, .int .i64 n] w fun e w' => e = .returned (.slice (some ⟨g, off + (6 + 256 * n), none⟩) 256 256) ∧ w' = w := by
  go_enter Tryd.func28, Tryd.ntmps28
  go_wp2
  go_ret
  exact ⟨ret_slice (by omega) (by omega) (by omega), rfl⟩
theorem fileSum (w : World) (a : Option Addr) (n cap : Nat) (f : Nat → Int) (H : RowOf .u8 w a n f) (hn : n ≤ 1048576) (hb : ∀ i, i < n → 0 ≤ f i ∧ f i ≤ 255) :
    Calls Tryd.prog 26 #[.slice a n cap] w fun e w' => e = .returned (.int .u8 (isum f n % 256)) ∧ w' = w := by
  go_enter Tryd.func26, Tryd.ntmps26
  go_wp2
  go_loop [3, 8] (fun s i => ∃ q : Nat, q ≤ n ∧ i = .int .i64 q ∧ s = .int .u8 (isum f q % 256)) (fun _ i => n - (intOf i).toNat)
  case atStart => exact ⟨0, Nat.zero_le _, rfl, rfl⟩
  case round =>
    obtain ⟨q, hq, rfl, rfl⟩ := hrel
    by_cases hlt : q < n
    · obtain ⟨b, off, rfl, hcell⟩ := H q hlt
      have hlt' : (q : Int) < (n : Int) := by omega
      obtain ⟨h0, h1⟩ := hb q hlt
      go_wp2
      go_round
      case rel => exact ⟨q + 1, by omega, by go_num, congrArg (Value.int .u8) (by show _ = (isum f q + f q) % 256; omega)⟩
      case measure => simp [intOf]; omega
    · have hlt' : ¬ (q : Int) < (n : Int) := by omega
      go_wp2
      go_ret
      have e : q = n := by omega
      subst e
      exact ⟨rfl, rfl⟩
def part (m : Nat) (f : Nat → Nat → Int) (k j : Nat) : Int := if j < 6 + k then imgF m f 0 j else 0
theorem lt6 (j : Nat) (h : j < 6) : j = 0 ∨ j = 1 ∨ j = 2 ∨ j = 3 ∨ j = 4 ∨ j = 5 := by omega
theorem part_zero (m : Nat) (f : Nat → Nat → Int) (j : Nat) : (if j = 4 then Value.int .u8 m else if j = 3 then .int .u8 75 else if j = 2 then .int .u8 76 else if j = 1 then .int .u8 67 else if j = 0 then .int .u8 50 else .int .u8 0) = .int .u8 (part m f 0 j) := by
  by_cases h : j < 6
  · rcases lt6 j h with rfl | rfl | rfl | rfl | rfl | rfl <;> simp [part, imgF]
  · rw [if_neg (by omega), if_neg (by omega), if_neg (by omega), if_neg (by omega), if_neg (by omega)]
    simp [part, h]
theorem part_step (m : Nat) (f : Nat → Nat → Int) (q r j : Nat) (h : r < 256) : (if j = 6 + 256 * q + r then Value.int .u8 (f q r) else .int .u8 (part m f (256 * q + r) j)) = .int .u8 (part m f (256 * q + (r + 1)) j) := by
  unfold part
  by_cases e : j = 6 + 256 * q + r
  · subst e
    rw [if_pos rfl, if_pos (by omega), imgF_at m f q r h]
  · rw [if_neg e]
    by_cases h2 : j < 6 + (256 * q + r)
    · rw [if_pos h2, if_pos (by omega)]
    · rw [if_neg h2, if_neg (by omega)]
theorem part_end (m : Nat) (f : Nat → Nat → Int) (s : Int) (j : Nat) (h : j < 6 + 256 * m) : (if j = 5 then Value.int .u8 s else .int .u8 (part m f (256 * m) j)) = .int .u8 (imgF m f s j) := by
  unfold part imgF
  by_cases e : j = 5
  · subst e; simp
  · simp only [e, if_false, h, if_true]
end Go.Proofs.YtpaedkefmebjjajDoor
