/-
  FnAsks: a drawn sound unit begins to ask in a beat only; what is told to be quiet is.
-/
import Derived.Test.YtpaedkefmebjjagAE
import Derived.Test.YtpaedkefmebjjagAI
import Derived.Laws.StructEq
import Derived.Lib.QuietBelow
import Derived.BigQuiet
import Derived.Deep.DeepCutAuto
namespace Go.Proofs.Ytpaedkefmebjjag
set_option linter.unusedVariables false
set_option linter.unusedSimpArgs false
open Go.ChangeShapes Go.WideShapes Go.ChangeAt Go.RowKit Go.Sort
theorem apu_neq_same (W : World) (T P C X L : Int) (S Q : Bool) : (binOp .neq 33 (.agg #[.int .i64 T, .int .i64 P, .int .i64 C, .int .i64 X, .int .i64 L, .bool S, .bool Q]) (.agg #[.int .i64 T, .int .i64 P, .int .i64 C, .int .i64 X, .int .i64 L, .bool S, .bool Q])).run Try.prog W = .ok (.bool false) W := by
  obtain ⟨fs, hfs, hf⟩ : ∃ fs, Try.prog.underlying 33 = some (.struct fs) ∧ Try.prog.fieldsOf 33 = fs := ⟨_, Try.underlying33, by unfold Program.fieldsOf; rw [Try.underlying33]⟩
  have hu' : Try.prog.underlying 33 = some (.struct (Try.prog.fieldsOf 33)) := by rw [hf, hfs]
  rw [run_neq_struct, show (10000 : Nat) = 9999 + 1 from rfl, run_equalIn_agg W 9999 33 _ _ hu' (by kernel_rfl), hf]
  obtain rfl := TypeDesc.struct.inj (Option.some.inj (hfs.symm.trans Try.underlying33))
  simp [Op.eqFields, go_sem, Try.underlying3, Try.underlying4]
theorem apu_eql_same (W : World) (T P C X L : Int) (S Q : Bool) : (binOp .eql 33 (.agg #[.int .i64 T, .int .i64 P, .int .i64 C, .int .i64 X, .int .i64 L, .bool S, .bool Q]) (.agg #[.int .i64 T, .int .i64 P, .int .i64 C, .int .i64 X, .int .i64 L, .bool S, .bool Q])).run Try.prog W = .ok (.bool true) W := by
  obtain ⟨fs, hfs, hf⟩ : ∃ fs, Try.prog.underlying 33 = some (.struct fs) ∧ Try.prog.fieldsOf 33 = fs := ⟨_, Try.underlying33, by unfold Program.fieldsOf; rw [Try.underlying33]⟩
  have hu' : Try.prog.underlying 33 = some (.struct (Try.prog.fieldsOf 33)) := by rw [hf, hfs]
  rw [run_eql_struct, show (10000 : Nat) = 9999 + 1 from rfl, run_equalIn_agg W 9999 33 _ _ hu' (by kernel_rfl), hf]
  obtain rfl := TypeDesc.struct.inj (Option.some.inj (hfs.symm.trans Try.underlying33))
  simp [Op.eqFields, go_sem, Try.underlying3, Try.underlying4]
theorem boxR {w : World} {b : Nat} {cs : Array Value} {t : TypeId} {fr : Nat × Nat} (h : w.heap[b]? = some (.cells cs t fr)) : ∀ j d os, (grow (redrawn w d) os).cell? ⟨b, j, none⟩ = cs[j]? := fun j d os => boxC (box_keep h (below_regrown w d os) (boxLt h)) j
/- What a cycle tells of a sound unit that is right. -/
theorem tickA_facts {T P C X L : Int} (h : IsApu T P C X L) (S Q : Bool) {t p c x l : Int} {s q : Bool} {v : Int} {d : Bool} (e : tickA T P C X L S Q = .tuple #[.agg #[.int .i64 t, .int .i64 p, .int .i64 c, .int .i64 x, .int .i64 l, .bool s, .bool q], .int .i64 v, .bool d]) :
    (q = true → Q = false → in9 T (T + 1) 0 32 = true) ∧ (Q = true → q = true) ∧ l ≤ L ∧ d = decide (T % 16 = 15 ∧ T < 20000) ∧ (v = 0 ∨ v = 8) := by
  have h0 := h.t0; have h1 := h.t1; have h2 := h.b0; have h3 := h.b1; have h4 := h.l0
  by_cases hT : T = 20000
  · rw [tickA_end h hT S Q] at e
    simp only [Value.tuple.injEq, Value.agg.injEq, Array.mk.injEq, List.cons.injEq, Value.int.injEq, Value.bool.injEq, true_and, and_true] at e
    obtain ⟨⟨rfl, rfl, rfl, rfl, rfl, rfl, rfl⟩, rfl, rfl⟩ := e
    refine ⟨fun a b => (by rw [a] at b; cases b), fun a => a, Int.le_refl _, ?_, Or.inl rfl⟩
    rw [decide_eq_false (by omega)]
  · rw [tickA_on h hT S Q] at e
    simp only [Value.tuple.injEq, Value.agg.injEq, Array.mk.injEq, List.cons.injEq, Value.int.injEq, Value.bool.injEq, true_and, and_true] at e
    obtain ⟨⟨rfl, rfl, rfl, rfl, rfl, rfl, rfl⟩, rfl, rfl⟩ := e
    refine ⟨?_, ?_, ?_, ?_, ?_⟩
    · intro a b
      subst b
      by_cases hb : T % 32 = 0 ∧ 0 < L
      · unfold in9
        exact decide_eq_true (by omega)
      · rw [tqA, if_neg hb] at a
        cases a
    · intro a
      subst a
      unfold tqA
      split <;> rfl
    · unfold tlA
      split <;> omega
    · unfold toldA
      exact decide_eq_decide.2 (by constructor <;> intro h <;> omega)
    · unfold tvA tbA
      split
      · split <;> omega
      · exact Or.inl rfl
theorem tickA_none {T P C X L : Int} (h : okApu T P C X L = false) (S Q : Bool) {t p c x l : Int} {s q : Bool} {v : Int} {d : Bool} (e : tickA T P C X L S Q = .tuple #[.agg #[.int .i64 t, .int .i64 p, .int .i64 c, .int .i64 x, .int .i64 l, .bool s, .bool q], .int .i64 v, .bool d]) :
    t = 0 ∧ p = 0 ∧ c = 0 ∧ x = 0 ∧ l = 0 ∧ s = false ∧ q = false ∧ v = 0 ∧ d = false := by
  rw [tickA_no h S Q] at e
  simp only [Value.tuple.injEq, Value.agg.injEq, Array.mk.injEq, List.cons.injEq, Value.int.injEq, Value.bool.injEq, true_and, and_true] at e
  obtain ⟨⟨rfl, rfl, rfl, rfl, rfl, rfl, rfl⟩, rfl, rfl⟩ := e
  exact ⟨rfl, rfl, rfl, rfl, rfl, rfl, rfl, rfl, rfl⟩
set_option maxRecDepth 40000 in
set_option maxHeartbeats 4000000 in
theorem lawAsks (w : World) (s0 : Option Addr) (n0 c0 : Nat) (h : (1048576 : Int) < (n0 : Int) ∨ Code w w.heap.size s0 n0) :
    Calls Try.prog 4 #[.slice s0 n0 c0] w fun e w' => e = .returned (.bool true) ∧ Below w.heap.size w w' := by
  by_cases hbig : (1048576 : Int) < (n0 : Int)
  · have hb' : decide ((1048576 : Int) < (n0 : Int)) = true := decide_eq_true hbig
    go_enter Try.func4, Try.ntmps4
    go_wp2_with fail
    refine (lawsBig _ s0 n0 c0).mono ?_
    rintro e w' ⟨rfl, rfl⟩
    rw [hb']
    go_wp2
    go_ret
    exact ⟨rfl, Below.refl _ _⟩
  · have hb' : decide ((1048576 : Int) < (n0 : Int)) = false := decide_eq_false hbig
    have hcode : Code w w.heap.size s0 n0 := h.resolve_left hbig
    clear hbig h
    go_enter Try.func4, Try.ntmps4
    go_wp2_with fail
    refine (lawsBig _ s0 n0 c0).mono ?_
    rintro e w' ⟨rfl, rfl⟩
    rw [hb']
    clear hb'
    go_wp2_with fail
    refine (drawApuTick _ w'.heap.size s0 n0 c0 (Nat.le_refl _) hcode).mono ?_
    rintro e W1 ⟨T, P, C, X, L, S, Q, rfl, L1⟩
    obtain ⟨t, p, c, x, l, s, q, v, d, hE⟩ := tickA_flat T P C X L S Q
    have HI := hide (fun W => implApuTick W T P C X L S Q)
    have HS := hide (fun W => specApuTick W T P C X L S Q)
    rw [hE] at HI HS
    have HE := hide hE
    clear hE
    have kA := box_new W1 #[.int .i64 T, .int .i64 P, .int .i64 C, .int .i64 X, .int .i64 L, .bool S, .bool Q] 33
    have C1 := below_snoc L1 ((Below.refl W1.heap.size W1).alloc (Nat.le_refl _) (.cells #[.int .i64 T, .int .i64 P, .int .i64 C, .int .i64 X, .int .i64 L, .bool S, .bool Q] 33))
    clear L1
    go_upto_region 4 with (fail)
    obtain ⟨za, hza⟩ : ∃ z, Hid (z = W1.heap.size) := ⟨_, rfl⟩
    generalize W1.alloc (.cells #[.int .i64 T, .int .i64 P, .int .i64 C, .int .i64 X, .int .i64 L, .bool S, .bool Q] 33) = W2 at *
    rw [← hza.out] at kA ⊢
    clear hza
    have cA := boxC kA
    go_wp2_with fail
    refine (unhide HI _).mono ?_
    rintro e W3 ⟨rfl, L3⟩
    have C3 := below_snoc C1 L3
    replace kA := box_keep kA L3 (boxLt kA)
    have kB := box_new W3 #[.int .i64 t, .int .i64 p, .int .i64 c, .int .i64 x, .int .i64 l, .bool s, .bool q] 33
    replace kA := boxA kA (.cells #[.int .i64 t, .int .i64 p, .int .i64 c, .int .i64 x, .int .i64 l, .bool s, .bool q] 33)
    replace C3 := below_snoc C3 ((Below.refl W3.heap.size W3).alloc (Nat.le_refl _) (.cells #[.int .i64 t, .int .i64 p, .int .i64 c, .int .i64 x, .int .i64 l, .bool s, .bool q] 33))
    clear cA C1 L3 HI
    go_upto_region 5 with (fail)
    obtain ⟨zb, hzb⟩ : ∃ z, Hid (z = W3.heap.size) := ⟨_, rfl⟩
    generalize W3.alloc (.cells #[.int .i64 t, .int .i64 p, .int .i64 c, .int .i64 x, .int .i64 l, .bool s, .bool q] 33) = W4 at *
    rw [← hzb.out] at kB ⊢
    clear hzb
    have cA := boxC kA
    go_wp2_with fail
    refine (unhide HS _).mono ?_
    rintro e W5 ⟨rfl, L5⟩
    have C5 := below_snoc C3 L5
    replace kA := box_keep kA L5 (boxLt kA)
    replace kB := box_keep kB L5 (boxLt kB)
    have kC := box_new W5 #[.int .i64 t, .int .i64 p, .int .i64 c, .int .i64 x, .int .i64 l, .bool s, .bool q] 33
    replace kA := boxA kA (.cells #[.int .i64 t, .int .i64 p, .int .i64 c, .int .i64 x, .int .i64 l, .bool s, .bool q] 33)
    replace kB := boxA kB (.cells #[.int .i64 t, .int .i64 p, .int .i64 c, .int .i64 x, .int .i64 l, .bool s, .bool q] 33)
    replace C5 := below_snoc C5 ((Below.refl W5.heap.size W5).alloc (Nat.le_refl _) (.cells #[.int .i64 t, .int .i64 p, .int .i64 c, .int .i64 x, .int .i64 l, .bool s, .bool q] 33))
    clear cA C3 L5 HS
    go_upto_region 6 with (fail)
    obtain ⟨zc, hzc⟩ : ∃ z, Hid (z = W5.heap.size) := ⟨_, rfl⟩
    generalize W5.alloc (.cells #[.int .i64 t, .int .i64 p, .int .i64 c, .int .i64 x, .int .i64 l, .bool s, .bool q] 33) = W6 at *
    rw [← hzc.out] at kC ⊢
    clear hzc
    obtain ⟨ok, hok⟩ : ∃ ok, Hid (ok = okApu T P C X L) := ⟨_, rfl⟩
    have HO := hide (fun W => implApuOk W T P C X L S Q)
    have HQ := hide (fun W => specApuOk W T P C X L S Q)
    rw [← hok.out] at HO HQ
    have hoo : (ok != ok) = false := by simp
    have hdd : (d != d) = false := by simp
    have hne := fun W => apu_neq_same W t p c x l s q
    have heg : Try.prog.eqGuardType Try.prog.depth 33 = false := by kernel_rfl
    have rA := boxR kA
    have rB := boxR kB
    have rC := boxR kC
    go_cut [47] (fun sl WX => sl = .bool false ∧ Below W6.heap.size W6 WX)
    case first =>
      refine wp_region_quiet_below (by kernel_rfl) (by kernel_rfl) ?_
      repeat (go_big_quiet_step (first
        | (go_at_call 16; exact Calls.regrown_of (unhide HO _))
        | (go_at_call 17; exact Calls.regrown_of (unhide HQ _))))
      refine wpQuiet_nil ?_
      intro _ hw'
      obtain ⟨⟨dq, osq⟩, hw''⟩ := hw'
      subst hw''
      have LQ := below_regrown W6 dq osq
      generalize Go.Sort.grow (redrawn W6 dq) osq = w4 at *
      go_wp2_with fail
      go_meet
      exact ⟨rfl, LQ⟩
    case rest =>
    obtain ⟨rfl, LQ⟩ := hcut
    obtain ⟨W7, hW7⟩ : ∃ x, x = wc := ⟨_, rfl⟩
    subst hW7
    replace kA := box_keep kA LQ (boxLt kA)
    replace kB := box_keep kB LQ (boxLt kB)
    have C7 := below_snoc C5 LQ
    clear rA rB rC kC C5 LQ hoo hne HO hcode
    have cA := boxC kA
    go_wp2_with fail
    refine (unhide HQ _).mono ?_
    rintro e W8 ⟨rfl, L8⟩
    replace kA := box_keep kA L8 (boxLt kA)
    replace kB := box_keep kB L8 (boxLt kB)
    have C8 := below_snoc C7 L8
    clear cA C7 L8 HQ
    cases ok
    · obtain ⟨rfl, rfl, rfl, rfl, rfl, rfl, rfl, rfl, rfl⟩ := tickA_none hok.out.symm S Q HE.out
      have hee := fun W => apu_eql_same W 0 0 0 0 0 false false
      have cB := boxC kB
      go_wp2
      go_ret
      exact ⟨rfl, C8⟩
    · have IA := okApu_of hok.out.symm
      have t0 := IA.t0
      have t1 := IA.t1
      obtain ⟨F1, F2, F3, F4, F5⟩ := tickA_facts IA S Q HE.out
      clear IA HE
      have G1 := hide F1
      have G2 := hide F2
      have G4 := hide F4
      have G5 := hide F5
      have hLl : decide (L < l) = false := decide_eq_false (by omega)
      clear F1 F2 F3 F4 F5
      have cA := boxC kA
      have cB := boxC kB
      have HB := hide (fun W => implBeatIn W T (T + 1))
      have e1 : (wpA true P 3 0 = P ∧ wlA true L 3 0 = L ∧ wsA true S 3 0 = S ∧ wqA true Q 3 0 = false) := by
        simp [wpA, wlA, wsA, wqA]
      have e2 : (wpA true P 2 0 = P ∧ wlA true L 2 0 = L ∧ wsA true S 2 0 = false ∧ wqA true Q 2 0 = false) := by
        simp [wpA, wlA, wsA, wqA]
      have H3 := hide (fun W => implApuWrite W T P C X L S Q 3 0)
      have H2 := hide (fun W => implApuWrite W T P C X L S Q 2 0)
      rw [e1.1, e1.2.1, e1.2.2.1, e1.2.2.2] at H3
      rw [e2.1, e2.2.1, e2.2.2.1, e2.2.2.2] at H2
      clear e1 e2
      go_upto_region 10 with (fail)
      go_cut [85] (fun sl WX => sl = .bool false ∧ Below W8.heap.size W8 WX)
      case first =>
        cases Q
        · cases q
          · go_wp2_with fail
            go_meet
            exact ⟨rfl, Below.refl _ _⟩
          · have hbeat := (unhide G1) rfl rfl
            rw [hbeat] at HB
            clear hbeat
            go_wp2_with fail
            refine (unhide HB _).mono ?_
            rintro e W9 ⟨rfl, L9⟩
            have cA9 := boxC (box_keep kA L9 (boxLt kA))
            have cB9 := boxC (box_keep kB L9 (boxLt kB))
            go_wp2_with fail
            go_meet
            exact ⟨rfl, L9⟩
        · obtain rfl : q = true := (unhide G2) rfl
          go_wp2_with fail
          go_meet
          exact ⟨rfl, Below.refl _ _⟩
      case rest =>
      obtain ⟨rfl, LQ⟩ := hcut
      obtain ⟨W9, hW9⟩ : ∃ x, x = wc := ⟨_, rfl⟩
      subst hW9
      replace kA := box_keep kA LQ (boxLt kA)
      have C9 := below_snoc C8 LQ
      clear cA cB C8 LQ G1 G2 HB kB hLl
      have cA := boxC kA
      go_wp2_with fail
      refine (unhide H3 _).mono ?_
      rintro e W10 ⟨rfl, L10⟩
      replace kA := box_keep kA L10 (boxLt kA)
      have C10 := below_snoc C9 L10
      have kQ := box_new W10 #[.int .i64 T, .int .i64 P, .int .i64 C, .int .i64 X, .int .i64 L, .bool S, .bool false] 33
      replace kA := boxA kA (.cells #[.int .i64 T, .int .i64 P, .int .i64 C, .int .i64 X, .int .i64 L, .bool S, .bool false] 33)
      replace C10 := below_snoc C10 ((Below.refl W10.heap.size W10).alloc (Nat.le_refl _) (.cells #[.int .i64 T, .int .i64 P, .int .i64 C, .int .i64 X, .int .i64 L, .bool S, .bool false] 33))
      clear cA C9 L10 H3
      go_upto_region 13 with (fail)
      obtain ⟨zq, hzq⟩ : ∃ z, Hid (z = W10.heap.size) := ⟨_, rfl⟩
      generalize W10.alloc (.cells #[.int .i64 T, .int .i64 P, .int .i64 C, .int .i64 X, .int .i64 L, .bool S, .bool false] 33) = W11 at *
      rw [← hzq.out] at kQ ⊢
      clear hzq
      have cA := boxC kA
      go_wp2_with fail
      refine (unhide H2 _).mono ?_
      rintro e W12 ⟨rfl, L12⟩
      replace kA := box_keep kA L12 (boxLt kA)
      replace kQ := box_keep kQ L12 (boxLt kQ)
      have C12 := below_snoc C10 L12
      have kR := box_new W12 #[.int .i64 T, .int .i64 P, .int .i64 C, .int .i64 X, .int .i64 L, .bool false, .bool false] 33
      replace kA := boxA kA (.cells #[.int .i64 T, .int .i64 P, .int .i64 C, .int .i64 X, .int .i64 L, .bool false, .bool false] 33)
      replace kQ := boxA kQ (.cells #[.int .i64 T, .int .i64 P, .int .i64 C, .int .i64 X, .int .i64 L, .bool false, .bool false] 33)
      replace C12 := below_snoc C12 ((Below.refl W12.heap.size W12).alloc (Nat.le_refl _) (.cells #[.int .i64 T, .int .i64 P, .int .i64 C, .int .i64 X, .int .i64 L, .bool false, .bool false] 33))
      clear cA C10 L12 H2
      go_upto_region 14 with (fail)
      obtain ⟨zr, hzr⟩ : ∃ z, Hid (z = W12.heap.size) := ⟨_, rfl⟩
      generalize W12.alloc (.cells #[.int .i64 T, .int .i64 P, .int .i64 C, .int .i64 X, .int .i64 L, .bool false, .bool false] 33) = W13 at *
      rw [← hzr.out] at kR ⊢
      clear hzr
      have cA := boxC kA
      have cQ := boxC kQ
      have cR := boxC kR
      have m16 : T.tmod 16 = T % 16 := Int.tmod_eq_emod_of_nonneg t0
      have F4 := unhide G4
      have F5 := unhide G5
      clear G4 G5
      by_cases h16 : T % 16 = 15 <;> by_cases h20 : T < 20000
      all_goals
        simp only [h16, h20, true_and, and_true, false_and, and_false, decide_true, decide_false] at F4
        subst F4
        rcases F5 with rfl | rfl
      all_goals first
        | (exfalso; omega)
        | (go_wp2
           go_ret
           exact ⟨rfl, C12⟩)
end Go.Proofs.Ytpaedkefmebjjag
