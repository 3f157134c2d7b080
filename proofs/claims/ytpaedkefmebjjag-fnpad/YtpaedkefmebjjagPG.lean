/-
  FnHeld: a drawn pad that is held tells what is pressed at its lowest bit, again and again. FnPad: eight reads of a drawn pad tell all eight bits of what was pressed when it was let go.
-/
import Derived.Test.YtpaedkefmebjjagPF
import Derived.Test.YtpaedkefmebjjagPI
import Derived.Laws.StructEq
import Derived.Lib.QuietBelow
import Derived.BigQuiet
import Derived.Deep.DeepCutAuto
namespace Go.Proofs.Ytpaedkefmebjjag
set_option linter.unusedVariables false
set_option linter.unusedSimpArgs false
open Go.ChangeShapes Go.WideShapes Go.ChangeAt Go.RowKit Go.Sort
theorem pad_neq_same (W : World) (D : Bool) (S : Int) : (binOp .neq 40 (.agg #[.bool D, .int .i64 S]) (.agg #[.bool D, .int .i64 S])).run Try.prog W = .ok (.bool false) W := by
  obtain ⟨fs, hfs, hf⟩ : ∃ fs, Try.prog.underlying 40 = some (.struct fs) ∧ Try.prog.fieldsOf 40 = fs := ⟨_, Try.underlying40, by unfold Program.fieldsOf; rw [Try.underlying40]⟩
  have hu' : Try.prog.underlying 40 = some (.struct (Try.prog.fieldsOf 40)) := by rw [hf, hfs]
  rw [run_neq_struct, show (10000 : Nat) = 9999 + 1 from rfl, run_equalIn_agg W 9999 40 _ _ hu' (by kernel_rfl), hf]
  obtain rfl := TypeDesc.struct.inj (Option.some.inj (hfs.symm.trans Try.underlying40))
  simp [Op.eqFields, go_sem, Try.underlying3, Try.underlying4]
theorem boxRp {w : World} {b : Nat} {cs : Array Value} {t : TypeId} {fr : Nat × Nat} (h : w.heap[b]? = some (.cells cs t fr)) : ∀ j d os, (grow (redrawn w d) os).cell? ⟨b, j, none⟩ = cs[j]? := fun j d os => boxC (box_keep h (below_regrown w d os) (boxLt h)) j
theorem Row.ints {W : World} {lo g n x : Nat} {f : Nat → Int} (h : Row W lo g n x f) : Ints .i64 W (fun _ _ => True) (.slice (some ⟨g, 0, none⟩) n x) n f := ⟨_, _, rfl, h.small, h.sl.row, fun _ _ _ => trivial⟩
theorem bitR_in (H : Bool) (S : Int) (n : Nat) (f : Nat → Int) (t : Int) : 0 ≤ bitR H S n f t ∧ bitR H S n f t ≤ 1 := by
  unfold bitR
  split <;> omega
def pw2 (k : Nat) : Int := [1, 2, 4, 8, 16, 32, 64, 128, 256].getD k 0
theorem pw2_step (p : Int) (k : Nat) (hk : k < 8) : pw2 k * 2 = pw2 (k + 1) ∧ p % pw2 k + pw2 k * (p / pw2 k % 2) = p % pw2 (k + 1) ∧ p / pw2 k / 2 = p / pw2 (k + 1) ∧ 1 ≤ pw2 k ∧ pw2 k ≤ 128 := by
  rcases k with _ | _ | _ | _ | _ | _ | _ | _ | k
  all_goals first
    | omega
    | (simp only [pw2, List.getD_cons_zero, List.getD_cons_succ, Nat.reduceAdd, Nat.zero_add]
       omega)
set_option maxRecDepth 40000 in
set_option maxHeartbeats 4000000 in
theorem lawHeld (w : World) (s0 : Option Addr) (n0 c0 : Nat) (h : (1048576 : Int) < (n0 : Int) ∨ Code w w.heap.size s0 n0) :
    Calls Try.prog 6 #[.slice s0 n0 c0] w fun e w' => e = .returned (.bool true) ∧ Below w.heap.size w w' := by
  by_cases hbig : (1048576 : Int) < (n0 : Int)
  · have hb' : decide ((1048576 : Int) < (n0 : Int)) = true := decide_eq_true hbig
    go_enter Try.func6, Try.ntmps6
    go_wp2_with fail
    refine (lawsBig _ s0 n0 c0).mono ?_
    rintro e w' ⟨rfl, rfl⟩
    rw [hb']
    go_wp2
    go_ret
    exact ⟨rfl, Below.refl _ _⟩
  · have hb' : decide ((1048576 : Int) < (n0 : Int)) = false := decide_eq_false hbig
    have hcode : Code w w.heap.size s0 n0 := h.resolve_left hbig
    clear hbig h
    go_enter Try.func6, Try.ntmps6
    go_wp2_with fail
    refine (lawsBig _ s0 n0 c0).mono ?_
    rintro e w' ⟨rfl, rfl⟩
    rw [hb']
    clear hb'
    go_wp2_with fail
    refine (drawPadRead _ w'.heap.size s0 n0 c0 (Nat.le_refl _) hcode).mono ?_
    rintro e W1 ⟨D, S, g, n, x, f, t, rfl, R1, ht, C1⟩
    obtain ⟨p, hp⟩ : ∃ p, Hid (p = padAt n f t) := ⟨_, rfl⟩
    have hp0 : 0 ≤ p ∧ p ≤ 255 := by rw [hp.out]; exact padAt_in n f t
    obtain ⟨y, hy⟩ : ∃ y, Hid (y = shiftR D S n f t) := ⟨_, rfl⟩
    obtain ⟨b, hb⟩ : ∃ b, Hid (b = bitR D S n f t) := ⟨_, rfl⟩
    have hb0 : 0 ≤ b ∧ b ≤ 1 := by rw [hb.out]; exact bitR_in D S n f t
    have E1 : Hid (heldW 1 = true ∧ shiftW D S n f t 1 = p) := by show _ ∧ _; rw [hp.out]; unfold shiftW heldW; cases D <;> simp
    have E2 : Hid (shiftR true p n f t = p ∧ bitR true p n f t = p % 2) := by show _ ∧ _; rw [hp.out]; simp [shiftR, bitR]
    have hne := fun W => pad_neq_same W D y
    have heg : Try.prog.eqGuardType Try.prog.depth 40 = false := by kernel_rfl
    have m2 : p.tmod 2 = p % 2 := Int.tmod_eq_emod_of_nonneg hp0.1
    have LA : Below W1.heap.size W1 (W1.alloc (.cells #[.bool D, .int .i64 S] 40)) := (Below.refl _ _).alloc (Nat.le_refl _) _
    have kx := box_new W1 #[.bool D, .int .i64 S] 40
    have C2 := below_snoc C1 LA
    replace R1 := R1.below LA
    clear LA C1
    go_upto_region 4 with (fail)
    obtain ⟨zkx, hz⟩ : ∃ z, Hid (z = W1.heap.size) := ⟨_, rfl⟩
    generalize W1.alloc (.cells #[.bool D, .int .i64 S] 40) = Vkx at *
    rw [← hz.out] at kx ⊢
    clear hz
    have qkx := boxC kx
    go_wp2_with fail
    clear qkx
    refine (implPadRead _ _ D S _ n f t ht R1.ints).mono ?_
    rintro e W2 ⟨rfl, L⟩
    rw [← hy.out, ← hb.out]
    have C3 := below_snoc C2 L
    replace kx := box_keep kx L (boxLt kx)
    replace R1 := R1.below L
    clear L C2
    have LA : Below W2.heap.size W2 (W2.alloc (.cells #[.bool D, .int .i64 y] 40)) := (Below.refl _ _).alloc (Nat.le_refl _) _
    have ky := box_new W2 #[.bool D, .int .i64 y] 40
    have C4 := below_snoc C3 LA
    replace kx := box_keep kx LA (boxLt kx)
    replace R1 := R1.below LA
    clear LA C3
    go_upto_region 5 with (fail)
    obtain ⟨zky, hz⟩ : ∃ z, Hid (z = W2.heap.size) := ⟨_, rfl⟩
    generalize W2.alloc (.cells #[.bool D, .int .i64 y] 40) = Vky at *
    rw [← hz.out] at ky ⊢
    clear hz
    have qkx := boxC kx
    have qky := boxC ky
    go_wp2_with fail
    clear qkx qky
    refine (specPadRead _ _ D S _ n f t ht R1.ints).mono ?_
    rintro e W3 ⟨rfl, L⟩
    rw [← hy.out, ← hb.out]
    have C5 := below_snoc C4 L
    replace kx := box_keep kx L (boxLt kx)
    replace ky := box_keep ky L (boxLt ky)
    replace R1 := R1.below L
    clear L C4
    have LA : Below W3.heap.size W3 (W3.alloc (.cells #[.bool D, .int .i64 y] 40)) := (Below.refl _ _).alloc (Nat.le_refl _) _
    have kz := box_new W3 #[.bool D, .int .i64 y] 40
    have C6 := below_snoc C5 LA
    replace kx := box_keep kx LA (boxLt kx)
    replace ky := box_keep ky LA (boxLt ky)
    replace R1 := R1.below LA
    clear LA C5
    go_upto_region 6 with (fail)
    obtain ⟨zkz, hz⟩ : ∃ z, Hid (z = W3.heap.size) := ⟨_, rfl⟩
    generalize W3.alloc (.cells #[.bool D, .int .i64 y] 40) = Vkz at *
    rw [← hz.out] at kz ⊢
    clear hz
    have qkx := boxC kx
    have qky := boxC ky
    have qkz := boxC kz
    go_wp2_with fail
    clear qkx qky qkz
    refine (implPadWrite _ _ D S _ n f t 1 ht R1.ints).mono ?_
    rintro e W4 ⟨rfl, L⟩
    rw [E1.out.1, E1.out.2]
    have C7 := below_snoc C6 L
    replace kx := box_keep kx L (boxLt kx)
    replace ky := box_keep ky L (boxLt ky)
    replace kz := box_keep kz L (boxLt kz)
    replace R1 := R1.below L
    clear L C6
    have LA : Below W4.heap.size W4 (W4.alloc (.cells #[.bool true, .int .i64 p] 40)) := (Below.refl _ _).alloc (Nat.le_refl _) _
    have kh := box_new W4 #[.bool true, .int .i64 p] 40
    have C8 := below_snoc C7 LA
    replace kx := box_keep kx LA (boxLt kx)
    replace ky := box_keep ky LA (boxLt ky)
    replace kz := box_keep kz LA (boxLt kz)
    replace R1 := R1.below LA
    clear LA C7
    go_upto_region 9 with (fail)
    obtain ⟨zkh, hz⟩ : ∃ z, Hid (z = W4.heap.size) := ⟨_, rfl⟩
    generalize W4.alloc (.cells #[.bool true, .int .i64 p] 40) = Vkh at *
    rw [← hz.out] at kh ⊢
    clear hz
    have qkx := boxC kx
    have qky := boxC ky
    have qkz := boxC kz
    have qkh := boxC kh
    go_wp2_with fail
    clear qkx qky qkz qkh
    refine (implPadRead _ _ true p _ n f t ht R1.ints).mono ?_
    rintro e W5 ⟨rfl, L⟩
    rw [E2.out.1, E2.out.2]
    have C9 := below_snoc C8 L
    replace kx := box_keep kx L (boxLt kx)
    replace ky := box_keep ky L (boxLt ky)
    replace kz := box_keep kz L (boxLt kz)
    replace kh := box_keep kh L (boxLt kh)
    replace R1 := R1.below L
    clear L C8
    have LA : Below W5.heap.size W5 (W5.alloc (.cells #[.bool true, .int .i64 p] 40)) := (Below.refl _ _).alloc (Nat.le_refl _) _
    have ka := box_new W5 #[.bool true, .int .i64 p] 40
    have C10 := below_snoc C9 LA
    replace kx := box_keep kx LA (boxLt kx)
    replace ky := box_keep ky LA (boxLt ky)
    replace kz := box_keep kz LA (boxLt kz)
    replace kh := box_keep kh LA (boxLt kh)
    replace R1 := R1.below LA
    clear LA C9
    go_upto_region 10 with (fail)
    obtain ⟨zka, hz⟩ : ∃ z, Hid (z = W5.heap.size) := ⟨_, rfl⟩
    generalize W5.alloc (.cells #[.bool true, .int .i64 p] 40) = Vka at *
    rw [← hz.out] at ka ⊢
    clear hz
    have qkx := boxC kx
    have qky := boxC ky
    have qkz := boxC kz
    have qkh := boxC kh
    have qka := boxC ka
    go_wp2_with fail
    clear qkx qky qkz qkh qka
    refine (implPadRead _ _ true p _ n f t ht R1.ints).mono ?_
    rintro e W6 ⟨rfl, L⟩
    rw [E2.out.1, E2.out.2]
    have C11 := below_snoc C10 L
    replace kx := box_keep kx L (boxLt kx)
    replace ky := box_keep ky L (boxLt ky)
    replace kz := box_keep kz L (boxLt kz)
    replace kh := box_keep kh L (boxLt kh)
    replace ka := box_keep ka L (boxLt ka)
    replace R1 := R1.below L
    clear L C10
    have LA : Below W6.heap.size W6 (W6.alloc (.cells #[.bool true, .int .i64 p] 40)) := (Below.refl _ _).alloc (Nat.le_refl _) _
    have kb := box_new W6 #[.bool true, .int .i64 p] 40
    have C12 := below_snoc C11 LA
    replace kx := box_keep kx LA (boxLt kx)
    replace ky := box_keep ky LA (boxLt ky)
    replace kz := box_keep kz LA (boxLt kz)
    replace kh := box_keep kh LA (boxLt kh)
    replace ka := box_keep ka LA (boxLt ka)
    replace R1 := R1.below LA
    clear LA C11
    go_upto_region 11 with (fail)
    obtain ⟨zkb, hz⟩ : ∃ z, Hid (z = W6.heap.size) := ⟨_, rfl⟩
    generalize W6.alloc (.cells #[.bool true, .int .i64 p] 40) = Vkb at *
    rw [← hz.out] at kb ⊢
    clear hz
    have qkx := boxC kx
    have qky := boxC ky
    have qkz := boxC kz
    have qkh := boxC kh
    have qka := boxC ka
    have qkb := boxC kb
    go_wp2_with fail
    clear qkx qky qkz qkh qka qkb
    refine (implPadAt _ _ _ n f t ht R1.ints).mono ?_
    rintro e W7 ⟨rfl, L⟩
    rw [← hp.out]
    have C13 := below_snoc C12 L
    replace kx := box_keep kx L (boxLt kx)
    replace ky := box_keep ky L (boxLt ky)
    replace kz := box_keep kz L (boxLt kz)
    replace kh := box_keep kh L (boxLt kh)
    replace ka := box_keep ka L (boxLt ka)
    replace kb := box_keep kb L (boxLt kb)
    replace R1 := R1.below L
    clear L C12
    go_wp2
    go_ret
    exact ⟨rfl, C13⟩
set_option maxRecDepth 40000 in
set_option maxHeartbeats 4000000 in
theorem lawPad (w : World) (s0 : Option Addr) (n0 c0 : Nat) (h : (1048576 : Int) < (n0 : Int) ∨ Code w w.heap.size s0 n0) :
    Calls Try.prog 5 #[.slice s0 n0 c0] w fun e w' => e = .returned (.bool true) ∧ Below w.heap.size w w' := by
  by_cases hbig : (1048576 : Int) < (n0 : Int)
  · have hb' : decide ((1048576 : Int) < (n0 : Int)) = true := decide_eq_true hbig
    go_enter Try.func5, Try.ntmps5
    go_wp2_with fail
    refine (lawsBig _ s0 n0 c0).mono ?_
    rintro e w' ⟨rfl, rfl⟩
    rw [hb']
    go_wp2
    go_ret
    exact ⟨rfl, Below.refl _ _⟩
  · have hb' : decide ((1048576 : Int) < (n0 : Int)) = false := decide_eq_false hbig
    have hcode : Code w w.heap.size s0 n0 := h.resolve_left hbig
    clear hbig h
    go_enter Try.func5, Try.ntmps5
    go_wp2_with fail
    refine (lawsBig _ s0 n0 c0).mono ?_
    rintro e w' ⟨rfl, rfl⟩
    rw [hb']
    clear hb'
    go_wp2_with fail
    refine (drawPadWrite _ w'.heap.size s0 n0 c0 (Nat.le_refl _) hcode).mono ?_
    rintro e W1 ⟨D, S, g, n, x, f, t, v, rfl, R1, ht, C1⟩
    obtain ⟨p, hp⟩ : ∃ p, Hid (p = padAt n f t) := ⟨_, rfl⟩
    have hp0 : 0 ≤ p ∧ p ≤ 255 := by rw [hp.out]; exact padAt_in n f t
    obtain ⟨y0, hy0⟩ : ∃ y, Hid (y = heldW v) := ⟨_, rfl⟩
    obtain ⟨y, hy⟩ : ∃ y, Hid (y = shiftW D S n f t v) := ⟨_, rfl⟩
    obtain ⟨ok, hok⟩ : ∃ ok, Hid (ok = okPads n f) := ⟨_, rfl⟩
    have E1 : Hid (heldW 1 = true ∧ shiftW D S n f t 1 = p) := by show _ ∧ _; rw [hp.out]; unfold shiftW heldW; cases D <;> simp
    have E2 : Hid (heldW 0 = false ∧ shiftW true p n f t 0 = p) := by show _ ∧ _; rw [hp.out]; unfold shiftW heldW; simp
    have hne := fun W => pad_neq_same W y0 y
    have heg : Try.prog.eqGuardType Try.prog.depth 40 = false := by kernel_rfl
    have hoo : (ok != ok) = false := by simp
    have LA : Below W1.heap.size W1 (W1.alloc (.cells #[.bool D, .int .i64 S] 40)) := (Below.refl _ _).alloc (Nat.le_refl _) _
    have kx := box_new W1 #[.bool D, .int .i64 S] 40
    have C2 := below_snoc C1 LA
    replace R1 := R1.below LA
    clear LA C1
    go_upto_region 4 with (fail)
    obtain ⟨zkx, hz⟩ : ∃ z, Hid (z = W1.heap.size) := ⟨_, rfl⟩
    generalize W1.alloc (.cells #[.bool D, .int .i64 S] 40) = Vkx at *
    rw [← hz.out] at kx ⊢
    clear hz
    have qkx := boxC kx
    go_wp2_with fail
    clear qkx
    refine (implPadWrite _ _ D S _ n f t v ht R1.ints).mono ?_
    rintro e W2 ⟨rfl, L⟩
    rw [← hy0.out, ← hy.out]
    have C3 := below_snoc C2 L
    replace kx := box_keep kx L (boxLt kx)
    replace R1 := R1.below L
    clear L C2
    have LA : Below W2.heap.size W2 (W2.alloc (.cells #[.bool y0, .int .i64 y] 40)) := (Below.refl _ _).alloc (Nat.le_refl _) _
    have ky := box_new W2 #[.bool y0, .int .i64 y] 40
    have C4 := below_snoc C3 LA
    replace kx := box_keep kx LA (boxLt kx)
    replace R1 := R1.below LA
    clear LA C3
    go_upto_region 5 with (fail)
    obtain ⟨zky, hz⟩ : ∃ z, Hid (z = W2.heap.size) := ⟨_, rfl⟩
    generalize W2.alloc (.cells #[.bool y0, .int .i64 y] 40) = Vky at *
    rw [← hz.out] at ky ⊢
    clear hz
    have HW : ∀ d os, Calls Try.prog 22 #[.agg #[.bool D, .int .i64 S], .slice (some ⟨g, 0, none⟩) n x, .int .i64 t, .int .i64 v] (grow (redrawn Vky d) os) fun e w' => e = .returned (.agg #[.bool y0, .int .i64 y]) ∧ Below (grow (redrawn Vky d) os).heap.size (grow (redrawn Vky d) os) w' := fun d os => by rw [hy0.out, hy.out]; exact specPadWrite _ _ D S _ n f t v ht (R1.below (below_regrown Vky d os)).ints
    have HO : ∀ d os, Calls Try.prog 23 #[.slice (some ⟨g, 0, none⟩) n x] (grow (redrawn Vky d) os) fun e w' => e = .returned (.bool ok) ∧ Below (grow (redrawn Vky d) os).heap.size (grow (redrawn Vky d) os) w' := fun d os => by rw [hok.out]; exact implPadsOk _ _ _ n f (R1.below (below_regrown Vky d os)).ints
    have HP : ∀ d os, Calls Try.prog 24 #[.slice (some ⟨g, 0, none⟩) n x] (grow (redrawn Vky d) os) fun e w' => e = .returned (.bool ok) ∧ Below (grow (redrawn Vky d) os).heap.size (grow (redrawn Vky d) os) w' := fun d os => by rw [hok.out]; exact (specPadsOk _ _ _ n f (R1.below (below_regrown Vky d os)).ints).mono (fun e w' h => ⟨h.1, by rw [h.2]; exact Below.refl _ _⟩)
    have rx := boxRp kx
    have ry := boxRp ky
    have HR1 := hide R1
    clear R1
    go_cut [45] (fun sl WX => sl = .bool false ∧ Below Vky.heap.size Vky WX)
    case first =>
      refine wp_region_quiet_below (by kernel_rfl) (by kernel_rfl) ?_
      repeat (go_big_quiet_step (first | (go_at_call 22; exact Calls.regrown_of (HW _ _)) | (go_at_call 23; exact Calls.regrown_of (HO _ _)) | (go_at_call 24; exact Calls.regrown_of (HP _ _))))
      refine wpQuiet_nil ?_
      intro _ hw'
      obtain ⟨⟨dq, osq⟩, hw''⟩ := hw'
      subst hw''
      have LQ := below_regrown Vky dq osq
      generalize Go.Sort.grow (redrawn Vky dq) osq = w4 at *
      go_wp2_with fail
      go_meet
      exact ⟨rfl, LQ⟩
    case rest =>
    obtain ⟨rfl, LQ⟩ := hcut
    obtain ⟨WC, hWC⟩ : ∃ x, x = wc := ⟨_, rfl⟩
    subst hWC
    have R1 := unhide HR1
    clear HR1 HW HO HP rx ry hne hoo hy hy0 hok
    have C5 := below_snoc C4 LQ
    replace kx := box_keep kx LQ (boxLt kx)
    replace ky := box_keep ky LQ (boxLt ky)
    replace R1 := R1.below LQ
    clear LQ C4
    have R2x : True := trivial
    have qkx := boxC kx
    have qky := boxC ky
    go_wp2_with fail
    clear qkx qky
    refine (drawPadAt _ w'.heap.size s0 n0 c0 C5.size (hcode.keep C5)).mono ?_
    rintro e WD ⟨g2, n2, x2, f2, t2, rfl, R2, ht2, L⟩
    have C6 := below_snoc C5 L
    replace kx := box_keep kx L (boxLt kx)
    replace ky := box_keep ky L (boxLt ky)
    replace R1 := R1.below L
    clear L C5
    obtain ⟨pp, hpp⟩ : ∃ pp, Hid (pp = padAt n2 f2 t2) := ⟨_, rfl⟩
    have qkx := boxC kx
    have qky := boxC ky
    go_wp2_with fail
    clear qkx qky
    refine (implPadAt _ _ _ n2 f2 t2 ht2 R2.ints).mono ?_
    rintro e W3 ⟨rfl, L⟩
    rw [← hpp.out]
    have C7 := below_snoc C6 L
    replace kx := box_keep kx L (boxLt kx)
    replace ky := box_keep ky L (boxLt ky)
    replace R1 := R1.below L
    replace R2 := R2.below L
    clear L C6
    have qkx := boxC kx
    have qky := boxC ky
    go_wp2_with fail
    clear qkx qky
    refine (specPadAt _ _ _ n2 f2 t2 ht2 R2.ints).mono ?_
    rintro e W4 ⟨rfl, rfl⟩
    rw [← hpp.out]
    clear R2 hpp hcode R2x
    have qkx := boxC kx
    have qky := boxC ky
    go_wp2_with fail
    clear qkx qky
    refine (implPadWrite _ _ D S _ n f t 1 ht R1.ints).mono ?_
    rintro e W5 ⟨rfl, L⟩
    rw [E1.out.1, E1.out.2]
    have C8 := below_snoc C7 L
    replace kx := box_keep kx L (boxLt kx)
    replace ky := box_keep ky L (boxLt ky)
    replace R1 := R1.below L
    clear L C7
    have qkx := boxC kx
    have qky := boxC ky
    go_wp2_with fail
    clear qkx qky
    refine (implPadWrite _ _ true p _ n f t 0 ht R1.ints).mono ?_
    rintro e W6 ⟨rfl, L⟩
    rw [E2.out.1, E2.out.2]
    have C9 := below_snoc C8 L
    replace kx := box_keep kx L (boxLt kx)
    replace ky := box_keep ky L (boxLt ky)
    replace R1 := R1.below L
    clear L C8
    clear kx ky E1 E2
    have hgl : g < W6.heap.size := R1.parts.2.1
    have hwl : w'.heap.size ≤ W6.heap.size := C9.size
    have LA : Below W6.heap.size W6 (W6.alloc (.cells #[.bool false, .int .i64 p] 40)) := (Below.refl _ _).alloc (Nat.le_refl _) _
    have kz := box_new W6 #[.bool false, .int .i64 p] 40
    have C10 := below_snoc C9 LA
    replace R1 := R1.below LA
    clear LA C9
    go_upto_region 11 with (fail)
    obtain ⟨zkz, hz⟩ : ∃ z, Hid (z = W6.heap.size) := ⟨_, rfl⟩
    generalize W6.alloc (.cells #[.bool false, .int .i64 p] 40) = Vkz at *
    rw [← hz.out] at kz hgl hwl ⊢
    clear hz
    have hzg : g ≠ zkz := by omega
    have hzw : w'.heap.size ≤ zkz := hwl
    clear hgl hwl
    skip
    go_wp2
    go_loopw [11, 12, 13] (fun s b i wr => ∃ k : Nat, k ≤ 8 ∧ s = .int .i64 (p % pw2 k) ∧ b = .int .i64 (pw2 k) ∧ i = .int .i64 k ∧ wr.heap[zkz]? = some (.cells #[.bool false, .int .i64 (p / pw2 k)] 40 (0, 0)) ∧ Row wr w'.heap.size g n x f ∧ w'.heap.size ≤ zkz ∧ g ≠ zkz ∧ Below w'.heap.size w' wr) (fun _ _ i _ => 8 - (intOf i).toNat)
    case atStart => exact ⟨0, by omega, by simp [pw2], rfl, rfl, by simpa [pw2] using kz, R1, hzw, hzg, C10⟩
    case round =>
      obtain ⟨k, hk, rfl, rfl, rfl, kz', R', hzw, hzg, CR⟩ := hrel
      clear kz R1 C10
      by_cases hlt : k < 8
      · obtain ⟨e1, e2, e3, e4, e5⟩ := pw2_step p k hlt
        obtain ⟨s, hs⟩ : ∃ s, Hid (s = p / pw2 k) := ⟨_, rfl⟩
        obtain ⟨b, hb⟩ : ∃ b, Hid (b = s % 2) := ⟨_, rfl⟩
        obtain ⟨u, hu⟩ : ∃ u, Hid (u = p % pw2 k) := ⟨_, rfl⟩
        obtain ⟨q2, hq2⟩ : ∃ q2, Hid (q2 = pw2 k) := ⟨_, rfl⟩
        have E3 : Hid (shiftR false s n f t = s / 2 ∧ bitR false s n f t = b) := by show _ ∧ _; rw [hb.out]; simp [shiftR, bitR]
        have b01 : b = 0 ∨ b = 1 := by rw [hb.out]; omega
        have hu0 : 0 ≤ u ∧ u ≤ 255 := by
          rw [hu.out]
          have h1 := Int.emod_nonneg p (show pw2 k ≠ 0 by omega)
          have h2 := Int.emod_lt_of_pos p (show 0 < pw2 k by omega)
          omega
        have hq0 : 1 ≤ q2 ∧ q2 ≤ 128 := by rw [hq2.out]; exact ⟨e4, e5⟩
        have hm : 0 ≤ q2 * b ∧ q2 * b ≤ 128 := by
          rcases b01 with rfl | rfl
          · simp
          · omega
        have F1 : Hid (q2 * 2 = pw2 (k + 1)) := by show _ = _; rw [hq2.out]; exact e1
        have F2 : Hid (u + q2 * b = p % pw2 (k + 1)) := by show _ = _; rw [hu.out, hq2.out, hb.out, hs.out]; exact e2
        have F3 : Hid (s / 2 = p / pw2 (k + 1)) := by show _ = _; rw [hs.out]; exact e3
        rw [← hs.out] at kz'
        rw [← hu.out, ← hq2.out]
        clear e1 e2 e3 e4 e5 hu hq2 hb hs b01
        have hlt' : (k : Int) < 8 := by omega
        have cz := boxC kz'
        go_wp2_with fail
        clear cz
        refine (implPadRead _ _ false s _ n f t ht R'.ints).mono ?_
        rintro e W7 ⟨rfl, L7⟩
        rw [E3.out.1, E3.out.2]
        have hnz : W7.heap.size ≠ zkz := Nat.ne_of_gt (Nat.lt_of_lt_of_le (boxLt kz') L7.size)
        have LA : Below W7.heap.size W7 (W7.alloc (.cells #[.bool false, .int .i64 (s / 2)] 40)) := (Below.refl _ _).alloc (Nat.le_refl _) _
        have kn := box_new W7 #[.bool false, .int .i64 (s / 2)] 40
        replace kz' := box_keep (box_keep kz' L7 (boxLt kz')) LA (Nat.lt_of_lt_of_le (boxLt kz') L7.size)
        replace R' := (R'.below L7).below LA
        replace CR := below_snoc (below_snoc CR L7) LA
        clear L7 LA E3
        go_upto_region 16 with (fail)
        obtain ⟨zn, hzn⟩ : ∃ z, Hid (z = W7.heap.size) := ⟨_, rfl⟩
        generalize W7.alloc (.cells #[.bool false, .int .i64 (s / 2)] 40) = W8 at *
        rw [← hzn.out] at kn hnz ⊢
        clear hzn
        have cz := boxC kz'
        have fz := boxF kz'
        have cn := boxC kn
        have HK := hide (box_set2 kz' (.bool false) (.int .i64 (s / 2)))
        have HR := hide (R'.keep (wrote_set2 W8 zkz (.bool false) (.int .i64 (s / 2))) (fun o e => hzg e))
        have HC := hide (CR.trans ((below_set2 W8 zkz (.bool false) (.int .i64 (s / 2))).mono hzw))
        clear kz' R' CR kn
        go_wp2
        go_round
        case rel => exact ⟨k + 1, by omega, by rw [← F2.out], by rw [← F1.out], by go_num, by rw [← F3.out]; exact HK.out, HR.out, hzw, hzg, HC.out⟩
        case measure => simp [intOf]; omega
      · have hk8 : k = 8 := by omega
        subst hk8
        have e1 : p % pw2 8 = p := by show p % 256 = p; omega
        have e2 : p / pw2 8 = 0 := by show p / 256 = 0; omega
        rw [e2] at kz'
        rw [e1]
        have E3 : Hid (shiftR false 0 n f t = 0 ∧ bitR false 0 n f t = 0) := by show _ ∧ _; simp [shiftR, bitR]
        clear e1 e2
        have cz := boxC kz'
        go_wp2_with fail
        clear cz
        refine (implPadRead _ _ false 0 _ n f t ht R'.ints).mono ?_
        rintro e W7 ⟨rfl, L7⟩
        rw [E3.out.1, E3.out.2]
        have LA : Below W7.heap.size W7 (W7.alloc (.cells #[.bool false, .int .i64 0] 40)) := (Below.refl _ _).alloc (Nat.le_refl _) _
        replace R' := (R'.below L7).below LA
        replace CR := below_snoc (below_snoc CR L7) LA
        clear L7 LA E3 kz'
        go_upto_region 20 with (fail)
        generalize W7.alloc (.cells #[.bool false, .int .i64 0] 40) = W8 at *
        go_wp2_with fail
        refine (implPadAt _ _ _ n f t ht R'.ints).mono ?_
        rintro e W9 ⟨rfl, L9⟩
        rw [← hp.out]
        go_wp2
        go_ret
        exact ⟨rfl, below_snoc CR L9⟩
end Go.Proofs.Ytpaedkefmebjjag
