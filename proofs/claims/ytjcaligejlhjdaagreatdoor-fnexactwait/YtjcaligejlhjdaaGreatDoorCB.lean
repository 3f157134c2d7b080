/-
  Chapter 7 of the specification by its contracts: what is fetched, what it accesses, a new processor.
-/
import Derived.Test.YtjcaligejlhjdaaGreatDoorC8
import Derived.Test.YtjcaligejlhjdaaGreatDoorJ2
import Derived.Deep.RegionHeld3
namespace Go.Proofs.YtjcaligejlhjdaaGreatDoor
set_option linter.unusedVariables false
open Go.ChangeShapes Go.WideShapes Go.ChangeAt Go.RowKit
theorem box_set_no {w : World} {b d o : Nat} {ob : Obj} {x : Value} (h : w.heap[b]? = some ob) (hd : b ≠ d) : (w.setCell ⟨d, o, none⟩ x).heap[b]? = some ob :=
  ((Wrote.setCell (R := fun b' _ => b' = d) (Wrote.refl _ w) (fun _ => rfl) x).block b (boxLt h) (fun _ e => hd e)).trans h
def opLn (x : Int) : Int := if 0 ≤ x ∧ x ≤ 29 then opLens.getD x.toNat 1 else 1
def fetchA (P : Int → Int) (x : Int) : Int := if opLn (P x) = 2 then P (x + 1) else if opLn (P x) = 3 then P (x + 1) % 256 + 256 * (P (x + 2) % 256) else 0
theorem peekV_wrap (m : Nat) (ln : Nat → Nat) (f : Nat → Nat → Int) (n : Nat) (g : Nat → Int) (bank x : Int) : peekV m ln f n g bank (wrap64 x) = peekV m ln f n g bank x := by
  have e : wrap64 x % 65536 = x % 65536 := by unfold wrap64; omega
  unfold peekV
  rw [e]
theorem peekV_wrapK (m : Nat) (ln : Nat → Nat) (f : Nat → Nat → Int) (n : Nat) (g : Nat → Int) (bank x : Int) : peekV m ln f n g bank (IntKind.i64.wrap x) = peekV m ln f n g bank x := by
  have e : IntKind.i64.wrap x % 65536 = x % 65536 := by rw [IntKind.wrap_i64]; omega
  unfold peekV
  rw [e]
def accAt (op arg X : Int) : Int := if accOf op = 0 then 0 else (if op = 14 ∨ op = 15 then arg + X else arg) % 65536
def accV (op A : Int) : Int := if accOf op = 2 then A % 256 else 0
/-- Where Fetch stands behind its first look: its boxes. -/
structure FA (w W : World) (p : Nat) (ia : Option Addr) (m icap : Nat) (ua : Option Addr) (n ucap : Nat) (bank op arg : Int) : Prop where
  img : W.heap[w.heap.size]? = some (.cells #[.slice ia m icap] 47 (0, 0))
  mem : W.heap[w.heap.size + 1]? = some (.cells #[.slice ua n ucap, .int .i64 bank] 48 (0, 0))
  res : W.heap[w.heap.size + 1 + 1]? = some (.cells #[.int .i64 0, .int .i64 0] 79 (0, 0))
  out : W.heap[p]? = some (.cells #[.int .i64 op, .int .i64 arg] 79 (0, 0))
  far : w.heap.size + 1 + 1 < p
  low : Below w.heap.size w W
section
variable {w W W' : World} {p : Nat} {ia : Option Addr} {m icap : Nat} {ua : Option Addr} {n ucap : Nat} {bank op arg : Int}
theorem FA.below (D : FA w W p ia m icap ua n ucap bank op arg) (L : Below W.heap.size W W') : FA w W' p ia m icap ua n ucap bank op arg :=
  ⟨box_keep D.img L (boxLt D.img), box_keep D.mem L (boxLt D.mem), box_keep D.res L (boxLt D.res), box_keep D.out L (boxLt D.out), D.far, below_snoc D.low L⟩
theorem FA.put (D : FA w W p ia m icap ua n ucap bank op arg) (x : Int) : FA w (W.setCell ⟨p, 1, none⟩ (.int .i64 x)) p ia m icap ua n ucap bank op x := by
  have hf := D.far
  exact ⟨box_set_no D.img (by omega), box_set_no D.mem (by omega), box_set_no D.res (by omega), box_set D.out _, hf, D.low.setCell (by show w.heap.size ≤ p; omega) _⟩
theorem FA.cells (D : FA w W p ia m icap ua n ucap bank op arg) : W.cell? ⟨w.heap.size, 0, none⟩ = some (.slice ia m icap) ∧ W.cell? ⟨w.heap.size + 1, 0, none⟩ = some (.slice ua n ucap) ∧ W.cell? ⟨w.heap.size + 1, 1, none⟩ = some (.int .i64 bank) ∧ W.cell? ⟨p, 0, none⟩ = some (.int .i64 op) ∧ W.cell? ⟨p, 1, none⟩ = some (.int .i64 arg) ∧ W.frozen? ⟨p, 1, none⟩ = false :=
  ⟨boxC D.img 0, boxC D.mem 0, boxC D.mem 1, boxC D.out 0, boxC D.out 1, boxF D.out 1⟩
end
set_option maxRecDepth 20000 in
set_option maxHeartbeats 4000000 in
theorem specFetch (w : World) (F G : Nat → Nat → Prop) (v u : Value) (m : Nat) (ln : Nat → Nat) (f : Nat → Nat → Int) (n : Nat) (g : Nat → Int) (bank x : Int) (H : IntSS .i64 w F v m ln f) (K : Ints .i64 w G u n g) :
    Calls Tryz.prog 48 #[.agg #[v], .agg #[u, .int .i64 bank], .int .i64 x] w fun e w' => e = .returned (.agg #[.int .i64 (peekV m ln f n g bank x), .int .i64 (fetchA (peekV m ln f n g bank) x)]) ∧ Below w.heap.size w w' := by
  obtain ⟨ia, icap, rfl, im, iF, iR⟩ := H
  obtain ⟨ua, ucap, rfl, un, uR, uF⟩ := K
  have H : IntSS .i64 w F (.slice ia m icap) m ln f := ⟨ia, icap, rfl, im, iF, iR⟩
  have K : Ints .i64 w G (.slice ua n ucap) n g := ⟨ua, ucap, rfl, un, uR, uF⟩
  clear iF iR uR uF
  have C0 : Below w.heap.size w (((w.alloc (.cells #[.slice ia m icap] 47)).alloc (.cells #[.slice ua n ucap, .int .i64 bank] 48)).alloc (.cells #[.int .i64 0, .int .i64 0] 79)) := (((Below.refl _ _).alloc (Nat.le_refl _) _).alloc (by simp) _).alloc (by simp; omega) _
  have k0 := boxA (boxA (box_new w #[.slice ia m icap] 47) (.cells #[.slice ua n ucap, .int .i64 bank] 48)) (.cells #[.int .i64 0, .int .i64 0] 79)
  have k1 : (((w.alloc (.cells #[.slice ia m icap] 47)).alloc (.cells #[.slice ua n ucap, .int .i64 bank] 48)).alloc (.cells #[.int .i64 0, .int .i64 0] 79)).heap[w.heap.size + 1]? = some (.cells #[.slice ua n ucap, .int .i64 bank] 48 (0, 0)) := by simpa using boxA (box_new (w.alloc (.cells #[.slice ia m icap] 47)) #[.slice ua n ucap, .int .i64 bank] 48) (.cells #[.int .i64 0, .int .i64 0] 79)
  have k2 : (((w.alloc (.cells #[.slice ia m icap] 47)).alloc (.cells #[.slice ua n ucap, .int .i64 bank] 48)).alloc (.cells #[.int .i64 0, .int .i64 0] 79)).heap[w.heap.size + 1 + 1]? = some (.cells #[.int .i64 0, .int .i64 0] 79 (0, 0)) := by simpa using box_new ((w.alloc (.cells #[.slice ia m icap] 47)).alloc (.cells #[.slice ua n ucap, .int .i64 bank] 48)) #[.int .i64 0, .int .i64 0] 79
  have HP1 := hide (peekV_wrap m ln f n g bank (x + 1))
  have HQ1 := hide (peekV_wrapK m ln f n g bank (x + 1))
  have HQ2 := hide (peekV_wrapK m ln f n g bank (x + 2))
  go_enter Tryz.func48, Tryz.ntmps48
  go_wp2_with fail
  generalize (((w.alloc (.cells #[.slice ia m icap] 47)).alloc (.cells #[.slice ua n ucap, .int .i64 bank] 48)).alloc (.cells #[.int .i64 0, .int .i64 0] 79)) = W0 at *
  refine (specPeek _ F G _ _ m ln f n g bank x (H.keep (wrote_below C0 Nowhere) (fun _ _ _ x => x)) (K.keep (wrote_below C0 Nowhere) (fun _ _ _ x => x))).mono ?_
  rintro e W1 ⟨rfl, L⟩
  have D1 : FA w (W1.alloc (.cells #[.int .i64 (peekV m ln f n g bank x), .int .i64 0] 79)) W1.heap.size ia m icap ua n ucap bank (peekV m ln f n g bank x) 0 := by
    have C1 := below_snoc C0 L
    exact ⟨boxA (box_keep k0 L (boxLt k0)) _, boxA (box_keep k1 L (boxLt k1)) _, boxA (box_keep k2 L (boxLt k2)) _, box_new _ _ _, by have := boxLt (box_keep k2 L (boxLt k2)); omega, C1.alloc C1.size _⟩
  have HFA : Hid (∀ t, (opLn (peekV m ln f n g bank x) = 2 → t = peekV m ln f n g bank (x + 1)) → (opLn (peekV m ln f n g bank x) = 3 → t = peekV m ln f n g bank (x + 1) % 256 + 256 * (peekV m ln f n g bank (x + 2) % 256)) → (¬ opLn (peekV m ln f n g bank x) = 2 → ¬ opLn (peekV m ln f n g bank x) = 3 → t = 0) → fetchA (peekV m ln f n g bank) x = t) := by
    intro t h1 h2 h3
    unfold fetchA
    by_cases e2 : opLn (peekV m ln f n g bank x) = 2
    · rw [if_pos e2, h1 e2]
    · by_cases e3 : opLn (peekV m ln f n g bank x) = 3
      · rw [if_neg e2, if_pos e3, h2 e3]
      · rw [if_neg e2, if_neg e3, h3 e2 e3]
  clear C0 k0 k1 k2 L
  obtain ⟨c1, c2, c3, c4, c5, c6⟩ := D1.cells
  go_wp2_with fail
  clear c1 c2 c3 c4 c5 c6
  generalize hp : W1.heap.size = p at *
  generalize (W1.alloc (.cells #[.int .i64 (peekV m ln f n g bank x), .int .i64 0] 79)) = W2 at *
  clear hp
  have HOP := hide (fun W => specOpLen W (peekV m ln f n g bank x))
  generalize hop : peekV m ln f n g bank x = op at *
  have HOE := hide hop
  clear hop
  refine (show Calls Tryz.prog 82 #[.int .i64 op] W2 (fun e w' => e = .returned (.int .i64 (opLn op)) ∧ Below W2.heap.size W2 w') from unhide HOP W2).mono ?_
  rintro e W3 ⟨rfl, L⟩
  have D3 := D1.below L
  clear D1 L HOP
  generalize opLn op = len at *
  have hf := D3.far
  have hpn : p ≠ w.heap.size + 1 + 1 := by omega
  by_cases e2 : len = 2
  · have HE := hide (HFA.out _ (fun _ => rfl) (fun h => absurd h (by omega)) (fun h => absurd e2 h))
    clear HFA
    subst e2
    obtain ⟨c1, c2, c3, c4, c5, c6⟩ := D3.cells
    go_wp2_with fail
    refine (specPeek _ F G _ _ m ln f n g bank _ (H.keep (wrote_below D3.low Nowhere) (fun _ _ _ x => x)) (K.keep (wrote_below D3.low Nowhere) (fun _ _ _ x => x))).mono ?_
    rintro e W4 ⟨rfl, L⟩
    rw [HP1.out]
    clear c1 c2 c3 c4 c5 c6
    have D4 := D3.below L
    have D5 := D4.put (peekV m ln f n g bank (x + 1))
    obtain ⟨c1, c2, c3, c4, c5, c6⟩ := D4.cells
    clear L D3
    go_upto_region 7 with (fail)
    generalize W4.setCell ⟨p, 1, none⟩ (.int .i64 (peekV m ln f n g bank (x + 1))) = W5 at *
    clear c1 c2 c3 c4 c5 c6 D4
    have d1 := boxC D5.res
    have d2 := boxC D5.out
    have d3 := boxF D5.res
    go_wp2
    refine bodyPost_ret (v := .agg #[.int .i64 op, .int .i64 (peekV m ln f n g bank (x + 1))]) (by simp [results, Tryz.results48, go_sem, d1]) rfl ?_
    exact ⟨by rw [HE.out, HOE.out], (D5.low.setCell (by simp; omega) _).setCell (by simp; omega) _⟩
  · have e2' : (len == 2) = false := by simpa using e2
    by_cases e3 : len = 3
    · have HE := hide (HFA.out _ (fun h => absurd h (by omega)) (fun _ => rfl) (fun _ h => absurd e3 h))
      clear HFA
      subst e3
      obtain ⟨c1, c2, c3, c4, c5, c6⟩ := D3.cells
      have H3 := H.keep (wrote_below D3.low Nowhere) (fun _ _ _ x => x)
      have K3 := K.keep (wrote_below D3.low Nowhere) (fun _ _ _ x => x)
      have HH := hide (show IntSS .i64 W3.drew F _ m ln f from H3)
      have HK := hide (show Ints .i64 W3.drew G _ n g from K3)
      clear H3 K3
      have HD := hide D3
      clear D3
      go_upto_region 6 with (fail)
      go_region_held3 (fun w' => w'.cell? ⟨w.heap.size, 0, none⟩ = some (.slice ia m icap) ∧ w'.cell? ⟨w.heap.size + 1, 0, none⟩ = some (.slice ua n ucap) ∧ w'.cell? ⟨w.heap.size + 1, 1, none⟩ = some (.int .i64 bank)) (first | assumption | go_keep) (first
        | (go_at_call 83; refine (specJoin _ _ _).mono ?_; rintro e W5 ⟨rfl, rfl⟩)
        | (go_at_call 81; refine (specPeek _ F G _ _ m ln f n g bank (IntKind.i64.wrap (x + 2)) (unhide HH4) (unhide HK4)).mono ?_; rintro e W5 ⟨rfl, L5⟩; rw [HQ2.out]; have D5 := (unhide HD).below (below_snoc L4 L5); obtain ⟨q1, q2, q3, q4, q5, q6⟩ := D5.cells; have D6 := D5.put (peekV m ln f n g bank (x + 1) % 256 + 256 * (peekV m ln f n g bank (x + 2) % 256)); obtain ⟨r1, r2, r3, r4, r5, r6⟩ := D6.cells; have HD6 := hide D6; clear D5 D6 L5)
        | (go_at_call 81; refine (specPeek _ F G _ _ m ln f n g bank (IntKind.i64.wrap (x + 1)) (unhide HH) (unhide HK)).mono ?_; rintro e W4 ⟨rfl, L4'⟩; rw [HQ1.out]; have L4 : Below W3.heap.size W3 W4 := Below.trans (⟨rfl, rfl, rfl, Nat.le_refl _, fun _ _ => rfl⟩ : Below W3.heap.size W3 W3.drew) L4'; have D4 := (unhide HD).below L4; obtain ⟨k1, k2, k3, k4, k5, k6⟩ := D4.cells; have HH4 := hide ((unhide HH).keep (wrote_below L4' Nowhere) (fun _ _ _ x => x)); have HK4 := hide ((unhide HK).keep (wrote_below L4' Nowhere) (fun _ _ _ x => x)); clear L4' D4))
      all_goals
        have D6 := unhide HD6
        generalize W5.setCell ⟨p, 1, none⟩ (.int .i64 (peekV m ln f n g bank (x + 1) % 256 + 256 * (peekV m ln f n g bank (x + 2) % 256))) = W6 at *
        have d1 := boxC D6.res
        have d2 := boxC D6.out
        have d3 := boxF D6.res
        go_wp2
        refine bodyPost_ret (v := .agg #[.int .i64 op, .int .i64 (peekV m ln f n g bank (x + 1) % 256 + 256 * (peekV m ln f n g bank (x + 2) % 256))]) (by simp [results, Tryz.results48, go_sem, d1]) rfl ?_
        exact ⟨by rw [HE.out, HOE.out], (D6.low.setCell (by simp; omega) _).setCell (by simp; omega) _⟩
    · have e3' : (len == 3) = false := by simpa using e3
      have HE := hide (HFA.out 0 (fun h => absurd h e2) (fun h => absurd h e3) (fun _ _ => rfl))
      clear e2 e3 HFA
      have d1 := boxC D3.res
      have d2 := boxC D3.out
      have d3 := boxF D3.res
      go_wp2
      refine bodyPost_ret (v := .agg #[.int .i64 op, .int .i64 0]) (by simp [results, Tryz.results48, go_sem, d1]) rfl ?_
      exact ⟨by rw [HE.out, HOE.out], (D3.low.setCell (by simp; omega) _).setCell (by simp; omega) _⟩
set_option maxHeartbeats 2000000 in
theorem specAccess (w : World) (op arg A X S Pc : Int) (Z N C I : Bool) : Calls Tryz.prog 49 #[.agg #[.int .i64 op, .int .i64 arg], .agg #[.int .i64 A, .int .i64 X, .int .i64 S, .int .i64 Pc, .bool Z, .bool N, .bool C, .bool I]] w
    fun e w' => e = .returned (.tuple #[.int .i64 (accOf op), .int .i64 (accAt op arg X), .int .i64 (accV op A)]) ∧ Below w.heap.size w w' := by
  have L0 : Below w.heap.size w ((w.alloc (.cells #[.int .i64 op, .int .i64 arg] 79)).alloc (.cells #[.int .i64 A, .int .i64 X, .int .i64 S, .int .i64 Pc, .bool Z, .bool N, .bool C, .bool I] 49)) := ((Below.refl _ _).alloc (Nat.le_refl _) _).alloc (by simp) _
  have LD : ∀ d, Below w.heap.size w (((w.alloc (.cells #[.int .i64 op, .int .i64 arg] 79)).alloc (.cells #[.int .i64 A, .int .i64 X, .int .i64 S, .int .i64 Pc, .bool Z, .bool N, .bool C, .bool I] 49)).drewN d) := fun d => L0.trans ⟨rfl, rfl, rfl, Nat.le_refl _, fun _ _ => rfl⟩
  have hw : wrap64 (arg + X) % 65536 = (arg + X) % 65536 := by unfold wrap64; omega
  have HW := hide hw
  clear hw
  by_cases h2 : op = 2
  · subst h2
    go_enter Tryz.func49, Tryz.ntmps49
    go_wp2_with (first | (go_at_call 84; refine (specOpAccess _ _).mono ?_; rintro e w' ⟨rfl, rfl⟩; rw [show accOf 2 = 1 from rfl]) | (go_at_call 85; refine (specAddr _ _).mono ?_; rintro e w' ⟨rfl, rfl⟩))
    go_ret3
    exact ⟨rfl, L0⟩
  · by_cases h14 : op = 14
    · subst h14
      go_enter Tryz.func49, Tryz.ntmps49
      go_wp2_with (first | (go_at_call 84; refine (specOpAccess _ _).mono ?_; rintro e w' ⟨rfl, rfl⟩; rw [show accOf 14 = 1 from rfl]) | (go_at_call 85; refine (specAddr _ _).mono ?_; rintro e w' ⟨rfl, rfl⟩; rw [HW.out]))
      go_ret3
      exact ⟨rfl, L0⟩
    · by_cases h29 : op = 29
      · subst h29
        go_enter Tryz.func49, Tryz.ntmps49
        go_wp2_with (first | (go_at_call 84; refine (specOpAccess _ _).mono ?_; rintro e w' ⟨rfl, rfl⟩; rw [show accOf 29 = 1 from rfl]) | (go_at_call 85; refine (specAddr _ _).mono ?_; rintro e w' ⟨rfl, rfl⟩))
        go_ret3
        exact ⟨rfl, L0⟩
      · by_cases h3 : op = 3
        · subst h3
          go_enter Tryz.func49, Tryz.ntmps49
          go_wp2_with (go_at_call 84; refine (specOpAccess _ _).mono ?_; rintro e w' ⟨rfl, rfl⟩; rw [show accOf 3 = 2 from rfl])
          go_quiet (first | (go_at_call 85; exact Calls.quiet_of_same (specAddr _ _)) | (go_at_call 86; exact Calls.quiet_of_same (specByte _ _)))
          go_wp2
          go_ret3
          exact ⟨rfl, LD _⟩
        · by_cases h15 : op = 15
          · subst h15
            go_enter Tryz.func49, Tryz.ntmps49
            go_wp2_with (go_at_call 84; refine (specOpAccess _ _).mono ?_; rintro e w' ⟨rfl, rfl⟩; rw [show accOf 15 = 2 from rfl])
            go_quiet (first | (go_at_call 85; exact Calls.quiet_of_same (specAddr _ _)) | (go_at_call 86; exact Calls.quiet_of_same (specByte _ _)))
            go_wp2
            go_ret3
            exact ⟨by rw [HW.out]; rfl, LD _⟩
          · have h0 : accOf op = 0 := by unfold accOf; rw [if_neg (by omega), if_neg (by omega)]
            have HA : Hid (accAt op arg X = 0 ∧ accV op A = 0) := by show _ ∧ _; unfold accAt accV; rw [h0]; exact ⟨rfl, rfl⟩
            go_enter Tryz.func49, Tryz.ntmps49
            go_wp2_with (go_at_call 84; refine (specOpAccess _ _).mono ?_; rintro e w' ⟨rfl, rfl⟩; rw [h0])
            go_ret3
            exact ⟨by rw [h0, HA.out.1, HA.out.2]; rfl, L0⟩
end Go.Proofs.YtjcaligejlhjdaaGreatDoor
