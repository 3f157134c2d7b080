/-
  The program's ImageRead: a file that is an image's is read, others lead to the first fault.
-/
import Derived.Test.YtpaedkefmebjjajDoorK2
import Derived.Test.YtpaedkefmebjjajDoorA2
namespace Go.Proofs.YtpaedkefmebjjajDoor
open Go.ChangeShapes Go.WideShapes Go.ChangeAt Go.RowKit
structure Bytes (w : World) (a : Option Addr) (n : Nat) (f : Nat → Int) : Prop where
  row : RowOf .u8 w a n f
  len : n ≤ 1048576
  byte : ∀ i, i < n → 0 ≤ f i ∧ f i ≤ 255
def headB (n : Nat) (f : Nat → Int) : Bool := decide (6 ≤ n ∧ f 0 = 50 ∧ f 1 = 67 ∧ f 2 = 76 ∧ f 3 = 75)
def magic (j : Nat) : Int := if j = 0 then 50 else if j = 1 then 67 else if j = 2 then 76 else 75
theorem headB_no {n : Nat} {f : Nat → Int} {j : Nat} (hj : j < 4) (h : ¬ f j = magic j) : headB n f = false := decide_eq_false (fun ⟨_, h0, h1, h2, h3⟩ => h (by
  have e : j = 0 ∨ j = 1 ∨ j = 2 ∨ j = 3 := by omega
  rcases e with rfl | rfl | rfl | rfl <;> simp [magic, h0, h1, h2, h3]))
theorem headB_short {n : Nat} {f : Nat → Int} (h : n < 6) : headB n f = false := decide_eq_false (fun x => by omega)
theorem headB_yes {n : Nat} {f : Nat → Int} (h : 6 ≤ n) (g : ∀ j, j < 4 → f j = magic j) : headB n f = true := decide_eq_true ⟨h, g 0 (by omega), g 1 (by omega), g 2 (by omega), g 3 (by omega)⟩
def errV (c d : Int) : Value := if c = 0 then .nilIface else .iface 44 (.agg #[.int .i64 c, .int .i64 d])
theorem errV_no {c d : Int} (h : c = 0) : errV c d = .nilIface := if_pos h
theorem errV_yes {c d : Int} (h : ¬ c = 0) : errV c d = .iface 44 (.agg #[.int .i64 c, .int .i64 d]) := if_neg h
theorem ret_no {c d : Int} (h : c = 0) : Ending.returned .nilIface = .returned (errV c d) := by rw [errV_no h]
theorem ret_err {c c' d : Int} (h : c = c') (g : ¬ c' = 0) : Ending.returned (.iface 44 (.agg #[.int .i64 c, .int .i64 d])) = .returned (errV c' d) := by rw [errV_yes g, h]
def headC (n : Nat) (f : Nat → Int) : Int := if headB n f then 0 else 1
theorem headC_no {n : Nat} {f : Nat → Int} (h : headB n f = false) : headC n f = 1 := by simp [headC, h]
theorem headC_yes {n : Nat} {f : Nat → Int} (h : headB n f = true) : headC n f = 0 := by simp [headC, h]
def sizeC (n : Nat) (c : Int) : Int := if c < 1 ∨ 8 < c then 2 else if (n : Int) < 6 + c * 256 then 3 else if 6 + c * 256 < (n : Int) then 4 else 0
theorem checkHead (w : World) (a : Option Addr) (n cap : Nat) (f : Nat → Int) (H : Bytes w a n f) :
    Calls Tryd.prog 24 #[.slice a n cap] w fun e w' => (∃ d, e = .returned (errV (headC n f) d)) ∧ ∃ d, w' = w.drewN d := by
  obtain ⟨hrow, hn, hby⟩ := H
  go_enter Tryd.func24, Tryd.ntmps24
  go_wp2
  go_loopw [3] (fun i wr => ∃ q : Nat, q ≤ 6 ∧ q ≤ n ∧ i = .int .i64 q ∧ (∀ j, j < q → j < 4 → f j = magic j) ∧ ∃ d, wr = w.drewN d) (fun i _ => 6 - (intOf i).toNat)
  case atStart => exact ⟨0, Nat.zero_le _, Nat.zero_le _, rfl, fun j hj => absurd hj (Nat.not_lt_zero _), 0, rfl⟩
  case round =>
    obtain ⟨q, hq, hqn, rfl, hmg, d, rfl⟩ := hrel
    have HM := hide hmg
    clear hmg
    by_cases h6 : q < 6
    · have h6' : (q : Int) < 6 := by omega
      by_cases hqe : q = n
      · have hqe' : (((q : Int)) == (n : Int)) = true := by simp [hqe]
        have HI := hide (headC_no (headB_short (f := f) (show n < 6 by omega)))
        clear hqe
        go_wp2
        go_quiet (fail)
        go_wp2
        go_ret
        exact ⟨⟨_, ret_err (unhide HI).symm (by rw [unhide HI]; decide)⟩, by first | exact drew2 _ _ _ | exact ⟨_, rfl⟩⟩
      · have hqe' : (((q : Int)) == (n : Int)) = false := by simp; omega
        obtain ⟨b, off, rfl, hcell⟩ := hrow q (by omega)
        have hql : (q : Int) < (n : Int) := by omega
        by_cases h4 : q < 4
        · have h4' : (q : Int) < 4 := by omega
          have e4 : q = 0 ∨ q = 1 ∨ q = 2 ∨ q = 3 := by omega
          by_cases hx : f q = magic q
          · have hx' : (f q != magic q) = false := by simpa using hx
            have HX := hide hx
            have hmx : ∀ j, j < q + 1 → j < 4 → f j = magic j := fun j hj hj4 => by
              by_cases e : j = q
              · rw [e]; exact hx
              · exact unhide HM j (by omega) hj4
            have HMX := hide hmx
            clear hx hmx
            rcases e4 with rfl | rfl | rfl | rfl
            · have hx2 : (f 0 != ((({ data := #[50, 67, 76, 75] } : ByteArray)[0]'(by decide)).toNat : Int)) = false := hx'
              have hqe2 : ((0 : Int) == (n : Int)) = false := hqe'
              have hql2 : (0 : Int) < (n : Int) := hql
              have hc2 : w.cell? ⟨b, off, none⟩ = some (.int .u8 (f 0)) := hcell
              clear hx' hqe' hql hcell
              go_wp2
              go_quiet (fail)
              go_wp2
              go_roundw
              case rel => exact ⟨1, by omega, by omega, rfl, unhide HMX, by first | exact drew2 _ _ _ | exact ⟨_, rfl⟩⟩
              case measure => simp [intOf]
            · have hx2 : (f 1 != ((({ data := #[50, 67, 76, 75] } : ByteArray)[1]'(by decide)).toNat : Int)) = false := hx'
              have hqe2 : ((1 : Int) == (n : Int)) = false := hqe'
              have hql2 : (1 : Int) < (n : Int) := hql
              have hc2 : w.cell? ⟨b, off + 1, none⟩ = some (.int .u8 (f 1)) := hcell
              clear hx' hqe' hql hcell
              go_wp2
              go_quiet (fail)
              go_wp2
              go_roundw
              case rel => exact ⟨2, by omega, by omega, rfl, unhide HMX, by first | exact drew2 _ _ _ | exact ⟨_, rfl⟩⟩
              case measure => simp [intOf]
            · have hx2 : (f 2 != ((({ data := #[50, 67, 76, 75] } : ByteArray)[2]'(by decide)).toNat : Int)) = false := hx'
              have hqe2 : ((2 : Int) == (n : Int)) = false := hqe'
              have hql2 : (2 : Int) < (n : Int) := hql
              have hc2 : w.cell? ⟨b, off + 2, none⟩ = some (.int .u8 (f 2)) := hcell
              clear hx' hqe' hql hcell
              go_wp2
              go_quiet (fail)
              go_wp2
              go_roundw
              case rel => exact ⟨3, by omega, by omega, rfl, unhide HMX, by first | exact drew2 _ _ _ | exact ⟨_, rfl⟩⟩
              case measure => simp [intOf]
            · have hx2 : (f 3 != ((({ data := #[50, 67, 76, 75] } : ByteArray)[3]'(by decide)).toNat : Int)) = false := hx'
              have hqe2 : ((3 : Int) == (n : Int)) = false := hqe'
              have hql2 : (3 : Int) < (n : Int) := hql
              have hc2 : w.cell? ⟨b, off + 3, none⟩ = some (.int .u8 (f 3)) := hcell
              clear hx' hqe' hql hcell
              go_wp2
              go_quiet (fail)
              go_wp2
              go_roundw
              case rel => exact ⟨4, by omega, by omega, rfl, unhide HMX, by first | exact drew2 _ _ _ | exact ⟨_, rfl⟩⟩
              case measure => simp [intOf]
          · have hx' : (f q != magic q) = true := by simpa using hx
            have HI := hide (headC_no (headB_no (n := n) (f := f) h4 hx))
            clear hx
            rcases e4 with rfl | rfl | rfl | rfl
            · have hx2 : (f 0 != ((({ data := #[50, 67, 76, 75] } : ByteArray)[0]'(by decide)).toNat : Int)) = true := hx'
              have hqe2 : ((0 : Int) == (n : Int)) = false := hqe'
              have hql2 : (0 : Int) < (n : Int) := hql
              have hc2 : w.cell? ⟨b, off, none⟩ = some (.int .u8 (f 0)) := hcell
              clear hx' hqe' hql hcell
              go_wp2
              go_quiet (fail)
              go_wp2
              go_ret
              exact ⟨⟨_, ret_err (unhide HI).symm (by rw [unhide HI]; decide)⟩, by first | exact drew2 _ _ _ | exact ⟨_, rfl⟩⟩
            · have hx2 : (f 1 != ((({ data := #[50, 67, 76, 75] } : ByteArray)[1]'(by decide)).toNat : Int)) = true := hx'
              have hqe2 : ((1 : Int) == (n : Int)) = false := hqe'
              have hql2 : (1 : Int) < (n : Int) := hql
              have hc2 : w.cell? ⟨b, off + 1, none⟩ = some (.int .u8 (f 1)) := hcell
              clear hx' hqe' hql hcell
              go_wp2
              go_quiet (fail)
              go_wp2
              go_ret
              exact ⟨⟨_, ret_err (unhide HI).symm (by rw [unhide HI]; decide)⟩, by first | exact drew2 _ _ _ | exact ⟨_, rfl⟩⟩
            · have hx2 : (f 2 != ((({ data := #[50, 67, 76, 75] } : ByteArray)[2]'(by decide)).toNat : Int)) = true := hx'
              have hqe2 : ((2 : Int) == (n : Int)) = false := hqe'
              have hql2 : (2 : Int) < (n : Int) := hql
              have hc2 : w.cell? ⟨b, off + 2, none⟩ = some (.int .u8 (f 2)) := hcell
              clear hx' hqe' hql hcell
              go_wp2
              go_quiet (fail)
              go_wp2
              go_ret
              exact ⟨⟨_, ret_err (unhide HI).symm (by rw [unhide HI]; decide)⟩, by first | exact drew2 _ _ _ | exact ⟨_, rfl⟩⟩
            · have hx2 : (f 3 != ((({ data := #[50, 67, 76, 75] } : ByteArray)[3]'(by decide)).toNat : Int)) = true := hx'
              have hqe2 : ((3 : Int) == (n : Int)) = false := hqe'
              have hql2 : (3 : Int) < (n : Int) := hql
              have hc2 : w.cell? ⟨b, off + 3, none⟩ = some (.int .u8 (f 3)) := hcell
              clear hx' hqe' hql hcell
              go_wp2
              go_quiet (fail)
              go_wp2
              go_ret
              exact ⟨⟨_, ret_err (unhide HI).symm (by rw [unhide HI]; decide)⟩, by first | exact drew2 _ _ _ | exact ⟨_, rfl⟩⟩
        · have h4' : decide ((q : Int) < 4) = false := decide_eq_false (by omega)
          go_wp2
          go_quiet (fail)
          go_wp2
          go_roundw
          case rel => exact ⟨q + 1, by omega, by omega, by go_num, fun j hj hj4 => unhide HM j (by omega) hj4, by first | exact drew2 _ _ _ | exact ⟨_, rfl⟩⟩
          case measure => simp [intOf]; omega
    · have h6' : ¬ (q : Int) < 6 := by omega
      go_wp2
      go_ret
      exact ⟨⟨0, ret_no (headC_yes (headB_yes (by omega) (fun j hj => unhide HM j (by omega) hj)))⟩, _, rfl⟩
theorem checkSize (w : World) (a : Option Addr) (n cap : Nat) (c : Int) (h0 : 0 ≤ c) (h1 : c ≤ 255) :
    Calls Tryd.prog 25 #[.slice a n cap, .int .i64 c] w fun e w' => (∃ d, e = .returned (errV (sizeC n c) d)) ∧ w' = w := by
  by_cases hc : c < 1
  · have HI : Hid (2 = sizeC n c) := by show _ = _; unfold sizeC; rw [if_pos (Or.inl hc)]
    go_enter Tryd.func25, Tryd.ntmps25
    go_wp2
    go_ret
    exact ⟨⟨_, ret_err HI.out (by rw [← HI.out]; decide)⟩, rfl⟩
  · by_cases hc8 : 8 < c
    · have HI : Hid (2 = sizeC n c) := by show _ = _; unfold sizeC; rw [if_pos (Or.inr hc8)]
      go_enter Tryd.func25, Tryd.ntmps25
      go_wp2
      go_ret
      exact ⟨⟨_, ret_err HI.out (by rw [← HI.out]; decide)⟩, rfl⟩
    · by_cases hs : (n : Int) < 6 + c * 256
      · have HI : Hid (3 = sizeC n c) := by show _ = _; unfold sizeC; rw [if_neg (by omega), if_pos hs]
        go_enter Tryd.func25, Tryd.ntmps25
        go_wp2
        go_ret
        exact ⟨⟨_, ret_err HI.out (by rw [← HI.out]; decide)⟩, rfl⟩
      · by_cases hl : 6 + c * 256 < (n : Int)
        · have HI : Hid (4 = sizeC n c) := by show _ = _; unfold sizeC; rw [if_neg (by omega), if_neg hs, if_pos hl]
          go_enter Tryd.func25, Tryd.ntmps25
          go_wp2
          go_ret
          exact ⟨⟨_, ret_err HI.out (by rw [← HI.out]; decide)⟩, rfl⟩
        · have HI : Hid (sizeC n c = 0) := by show _ = _; unfold sizeC; rw [if_neg (by omega), if_neg hs, if_neg hl]
          go_enter Tryd.func25, Tryd.ntmps25
          go_wp2
          go_ret
          exact ⟨⟨0, ret_no HI.out⟩, rfl⟩
theorem numbersOf (w : World) (a : Option Addr) (n cap : Nat) (f : Nat → Int) (H : RowOf .u8 w a n f) (hn : n ≤ 1048576) (hb : ∀ i, i < n → 0 ≤ f i ∧ f i ≤ 255) :
    Calls Tryd.prog 27 #[.slice a n cap] w fun e w' => e = .returned (.slice (some ⟨w.heap.size, 0, none⟩) n n) ∧ w'.rowIs w.heap.size 3 n (fun i => .int .i64 (f i)) ∧ w'.heap.size = w.heap.size + 1 ∧ Below w.heap.size w w' := by
  have hmk := run_make_row' (P := Tryd.prog) 37 3 (.int .i64 0) 8 Tryd.underlying37 info3 rfl .i64 .i64 n (by omega) (by omega)
  go_enter Tryd.func27, Tryd.ntmps27
  go_wp2
  go_loopw [11] (fun i wr => ∃ k : Nat, k ≤ n ∧ i = .int .i64 k ∧ wr.rowIs w.heap.size 3 n (fun j => .int .i64 (if j < k then f j else 0)) ∧ Hid (wr.heap.size = w.heap.size + 1) ∧ Below w.heap.size w wr) (fun i _ => n - (intOf i).toNat)
  case atStart => exact ⟨0, Nat.zero_le _, rfl, (World.rowIs_made w (.int .i64 0) n 3).congr (fun i _ => by simp), by show _ = _; simp, (Below.refl _ _).alloc (Nat.le_refl _) _⟩
  case round =>
    obtain ⟨k, hk, rfl, hrow, hsz, hbel⟩ := hrel
    by_cases hlt : k < n
    · obtain ⟨b, off, rfl, hcell⟩ := H k hlt
      have hsrc : wr.cell? ⟨b, off + k, none⟩ = some (.int .u8 (f k)) := (hbel.cell (p := ⟨b, off + k, none⟩) (block_lt_of_cell hcell)).trans hcell
      have hdst := hrow.cell hlt
      have hfz := hrow.frozen k
      have hlt' : (k : Int) < (n : Int) := by omega
      obtain ⟨hb0, hb1⟩ := hb k hlt
      have R := (hrow.set k (.int .i64 (f k))).congr (g := fun j => .int .i64 (if j < k + 1 then f j else 0)) (fun j _ => step_if f k j)
      clear hrow
      go_wp2
      go_roundw
      case rel => exact ⟨k + 1, by omega, by go_num, R, by show _ = _; simpa using hsz.out, hbel.setCell (Nat.le_refl _) _⟩
      case measure => simp [intOf]; omega
    · have hlt' : ¬ (k : Int) < (n : Int) := by omega
      go_wp2
      go_ret
      exact ⟨rfl, hrow.congr (fun i hi => by rw [if_pos (by omega)]), hsz, hbel⟩
end Go.Proofs.YtpaedkefmebjjajDoor
