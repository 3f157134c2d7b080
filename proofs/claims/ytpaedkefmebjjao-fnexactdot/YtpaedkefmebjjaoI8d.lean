/-
  The program's picture unit (chapter 8), by its contracts: a dot, told by a function in a field.
-/
import Derived.Test.YtpaedkefmebjjaoI8b
import Derived.Laws.EntriesVeiled
namespace Go.Proofs.Ytpaedkefmebjjao
set_option linter.unusedVariables false
set_option linter.unusedSimpArgs false
open Go.ChangeShapes Go.WideShapes Go.ChangeAt Go.RowKit
theorem beamDark (w : World) (x y : Int) : Calls Try.prog 51 #[.int .i64 x, .int .i64 y] w fun e w' => e = .returned (.int .i64 0) ∧ w' = w := by
  go_enter Try.func51, Try.ntmps51
  go_wp2
  go_ret
  exact ⟨rfl, rfl⟩
theorem beamLit (w : World) (b : Nat) (t c s ad pl : Int) (bl : Bool) (ua : Option Addr) (ux : Nat) (v' : Value) (f : Nat → Int) (a : Int) (hb : w.heap[b]? = some (.cells #[.int .i64 t, .int .i64 c, .int .i64 s, .int .i64 ad, .int .i64 pl, .bool bl, .slice ua 16 ux, v'] 27 (0, 0))) (hr : RowOf .i64 w ua 16 f) (s0 : 0 ≤ s) (s1 : s ≤ 255) (a0 : 0 ≤ a) (a1 : a < 48) :
    Calls Try.prog 52 #[.int .i64 (a / 8), .int .i64 (a % 8), .pointer (some ⟨b, 0, none⟩)] w fun e w' => e = .returned (.int .i64 (dotV f s pl a)) ∧ Below w.heap.size w w' := by
  have hc := boxC hb
  have m16 : (a % 8 + s + a / 8).tmod 16 = (a % 8 + s + a / 8) % 16 := Int.tmod_eq_emod_of_nonneg (by omega)
  obtain ⟨k, hk⟩ : ∃ k : Nat, (a % 8 + s + a / 8) % 16 = k := ⟨((a % 8 + s + a / 8) % 16).toNat, by omega⟩
  have hk16 : k < 16 := by omega
  have HE : Hid (dotV f s pl a = bits .xor .i64 (f k) pl) := by show _ = _; unfold dotV; rw [hk]; rfl
  rw [hk] at m16
  obtain ⟨b', off, rfl, hcell⟩ := hr k hk16
  have hk' : (k : Int) < 16 := by omega
  have w1 : IntKind.i64.wrap (a % 8 + s) = a % 8 + s := by rw [IntKind.wrap_i64]; omega
  have w2 : IntKind.i64.wrap (a % 8 + s + a / 8) = a % 8 + s + a / 8 := by rw [IntKind.wrap_i64]; omega
  clear hr hb hk
  go_enter Try.func52, Try.ntmps52
  go_upto_region 1 with (fail)
  go_quiet (fail)
  go_wp2
  go_ret
  exact ⟨ret_int HE.out.symm, below_drewN (Below.refl _ _) _⟩
set_option maxHeartbeats 1000000 in
theorem beamOf (w : World) (F G : Nat → Nat → Prop) (t c s ad pl : Int) (bl : Bool) (ua : Option Addr) (ux : Nat) (va : Option Addr) (vx : Nat) (n : Nat) (f : Nat → Int) (m : Nat) (g : Nat → Int) (H : Ints .i64 w F (.slice ua n ux) n f) (K : Ints .i64 w G (.slice va m vx) m g) :
    Calls Try.prog 39 #[.agg #[.int .i64 t, .int .i64 c, .int .i64 s, .int .i64 ad, .int .i64 pl, .bool bl, .slice ua n ux, .slice va m vx]] w fun e w' => (okPpu t c s ad pl n f m g = false → e = .returned (.agg #[.func (.func 51) #[] #[]])) ∧ (okPpu t c s ad pl n f m g = true → e = .returned (.agg #[.func (.func 52) #[] #[.pointer (some ⟨w.heap.size, 0, none⟩)]])) ∧ w'.heap[w.heap.size]? = some (.cells #[.int .i64 t, .int .i64 c, .int .i64 s, .int .i64 ad, .int .i64 pl, .bool bl, .slice ua n ux, .slice va m vx] 27 (0, 0)) ∧ Below w.heap.size w w' := by
  have hmf : ∀ (fn : Fn) (first cap : Array Value) (w : World), (Instr.makeFunc fn first cap).run Try.prog w = .ok (.func fn first cap) w := fun _ _ _ _ => rfl
  have L0 : Below w.heap.size w ((w.alloc (.cells #[.int .i64 t, .int .i64 c, .int .i64 s, .int .i64 ad, .int .i64 pl, .bool bl, .slice ua n ux, .slice va m vx] 27)).alloc (.cells #[.nilFunc] 50)) := ((Below.refl _ _).alloc (Nat.le_refl _) _).alloc (by simp) _
  have k0 : ((w.alloc (.cells #[.int .i64 t, .int .i64 c, .int .i64 s, .int .i64 ad, .int .i64 pl, .bool bl, .slice ua n ux, .slice va m vx] 27)).alloc (.cells #[.nilFunc] 50)).heap[w.heap.size]? = some (.cells #[.int .i64 t, .int .i64 c, .int .i64 s, .int .i64 ad, .int .i64 pl, .bool bl, .slice ua n ux, .slice va m vx] 27 (0, 0)) := boxA (box_new w _ _) _
  have k1 : ((w.alloc (.cells #[.int .i64 t, .int .i64 c, .int .i64 s, .int .i64 ad, .int .i64 pl, .bool bl, .slice ua n ux, .slice va m vx] 27)).alloc (.cells #[.nilFunc] 50)).heap[w.heap.size + 1]? = some (.cells #[.nilFunc] 50 (0, 0)) := by simpa using box_new (w.alloc (.cells #[.int .i64 t, .int .i64 c, .int .i64 s, .int .i64 ad, .int .i64 pl, .bool bl, .slice ua n ux, .slice va m vx] 27)) #[.nilFunc] 50
  go_enter Try.func39, Try.ntmps39
  go_wp2_with fail
  generalize ((w.alloc (.cells #[.int .i64 t, .int .i64 c, .int .i64 s, .int .i64 ad, .int .i64 pl, .bool bl, .slice ua n ux, .slice va m vx] 27)).alloc (.cells #[.nilFunc] 50)) = W0 at *
  refine (implPpuOk _ F G t c s ad pl bl _ _ n f m g (H.keep (wrote_below L0 Nowhere) (fun _ _ _ x => x)) (K.keep (wrote_below L0 Nowhere) (fun _ _ _ x => x))).mono ?_
  rintro e W1 ⟨rfl, L1⟩
  have C1 := below_snoc L0 L1
  replace k0 := box_keep k0 L1 (boxLt k0)
  replace k1 := box_keep k1 L1 (boxLt k1)
  have c1 := boxC k1
  have f1 := boxF k1
  clear L0 L1 H K
  cases hok : okPpu t c s ad pl n f m g
  · go_wp2
    refine bodyPost_ret (v := .agg #[.func (.func 51) #[] #[]]) (by simp [results, Try.results39, go_sem, c1]) rfl ?_
    exact ⟨fun _ => rfl, fun h => absurd (hok.symm.trans h) (by decide), box_set_ne8 k0 (by omega), C1.setCell (by simp) _⟩
  · go_wp2
    refine bodyPost_ret (v := .agg #[.func (.func 52) #[] #[.pointer (some ⟨w.heap.size, 0, none⟩)]]) (by simp [results, Try.results39, go_sem, c1]) rfl ?_
    exact ⟨fun h => absurd (h.symm.trans hok) (by decide), fun _ => rfl, box_set_ne8 k0 (by omega), C1.setCell (by simp) _⟩
set_option maxHeartbeats 1000000 in
theorem implDot (w : World) (F G : Nat → Nat → Prop) (t c s ad pl : Int) (bl : Bool) (u u' : Value) (n : Nat) (f : Nat → Int) (m : Nat) (g : Nat → Int) (a : Int) (H : Ints .i64 w F u n f) (K : Ints .i64 w G u' m g) :
    Calls Try.prog 19 #[.agg #[.int .i64 t, .int .i64 c, .int .i64 s, .int .i64 ad, .int .i64 pl, .bool bl, u, u'], .int .i64 a] w fun e w' => e = .returned (.int .i64 (dotOf (okPpu t c s ad pl n f m g) f s pl a)) ∧ Below w.heap.size w w' := by
  obtain ⟨ua, ux, rfl, un, hr, hF⟩ := H
  obtain ⟨va, vx, rfl, vn, hr', hF'⟩ := K
  have H : Ints .i64 w F (.slice ua n ux) n f := ⟨_, _, rfl, un, hr, hF⟩
  have K : Ints .i64 w G (.slice va m vx) m g := ⟨_, _, rfl, vn, hr', hF'⟩
  clear hF hr' hF'
  have L0 : Below w.heap.size w (w.alloc (.cells #[.int .i64 t, .int .i64 c, .int .i64 s, .int .i64 ad, .int .i64 pl, .bool bl, .slice ua n ux, .slice va m vx] 27)) := (Below.refl _ _).alloc (Nat.le_refl _) _
  have k0 := box_new w #[.int .i64 t, .int .i64 c, .int .i64 s, .int .i64 ad, .int .i64 pl, .bool bl, .slice ua n ux, .slice va m vx] 27
  by_cases hA : 0 ≤ a ∧ a ≤ 47
  · obtain ⟨a0, a47⟩ := hA
    have a1 : a < 48 := by omega
    have n1 : ¬ a < 0 := by omega
    have n2 : ¬ 48 ≤ a := by omega
    have m8 : a.tmod 8 = a % 8 := Int.tmod_eq_emod_of_nonneg a0
    have d8 : a.tdiv 8 = a / 8 := Int.tdiv_eq_ediv_of_nonneg a0
    go_enter Try.func19, Try.ntmps19
    go_wp2_with fail
    generalize w.alloc (.cells #[.int .i64 t, .int .i64 c, .int .i64 s, .int .i64 ad, .int .i64 pl, .bool bl, .slice ua n ux, .slice va m vx] 27) = W0 at *
    refine (beamOf _ F G t c s ad pl bl ua ux va vx n f m g (H.keep (wrote_below L0 Nowhere) (fun _ _ _ x => x)) (K.keep (wrote_below L0 Nowhere) (fun _ _ _ x => x))).mono ?_
    rintro e W1 ⟨hno, hyes, kb, L1⟩
    have C1 := below_snoc L0 L1
    cases hok : okPpu t c s ad pl n f m g
    · obtain rfl := hno hok
      have HE : Hid (dotOf false f s pl a = 0) := if_neg (by simp)
      have hfd : ∀ w, (Instr.field 50 (.agg #[.func (.func 51) #[] #[]]) 0).run Try.prog w = .ok (.func (.func 51) #[] #[]) w := fun _ => by kernel_rfl
      clear hno hyes
      go_wp2_with fail
      refine (beamDark _ _ _).mono ?_
      rintro e W2 ⟨rfl, rfl⟩
      go_wp2
      go_ret
      exact ⟨ret_int (by rw [hok]; exact HE.out.symm), C1⟩
    · obtain rfl := hyes hok
      have HE : Hid (dotOf true f s pl a = dotV f s pl a) := if_pos ⟨rfl, a0, a47⟩
      have hfd : ∀ w, (Instr.field 50 (.agg #[.func (.func 52) #[] #[.pointer (some ⟨W0.heap.size, 0, none⟩)]]) 0).run Try.prog w = .ok (.func (.func 52) #[] #[.pointer (some ⟨W0.heap.size, 0, none⟩)]) w := fun _ => by kernel_rfl
      clear hno hyes
      go_wp2_with fail
      have IP := okPpu_of hok
      have s0 := IP.s0
      have s1 := IP.s1
      obtain rfl := IP.n16
      refine (beamLit _ W0.heap.size t c s ad pl bl ua ux (.slice va m vx) f a kb (hr.keep (wrote_below C1 Nowhere) (fun _ _ _ x => x)) s0 s1 a0 a1).mono ?_
      rintro e W2 ⟨rfl, L2⟩
      have C2 := below_snoc C1 L2
      clear IP s0 s1 hr
      go_wp2
      go_ret
      exact ⟨ret_int (by rw [hok]; exact HE.out.symm), C2⟩
  · have HE : Hid (dotOf (okPpu t c s ad pl n f m g) f s pl a = 0) := if_neg (fun h => hA h.2)
    by_cases h0 : a < 0
    · go_enter Try.func19, Try.ntmps19
      go_wp2
      go_ret
      exact ⟨ret_int HE.out.symm, L0⟩
    · have h1 : 48 ≤ a := by omega
      go_enter Try.func19, Try.ntmps19
      go_wp2
      go_ret
      exact ⟨ret_int HE.out.symm, L0⟩
end Go.Proofs.Ytpaedkefmebjjao
