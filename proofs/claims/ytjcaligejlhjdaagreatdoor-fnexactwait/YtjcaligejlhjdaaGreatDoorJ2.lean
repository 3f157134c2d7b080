/-
  The program's BankOf: a new list of the bytes of the bank that n leads to, or nothing.
-/
import Derived.Test.YtjcaligejlhjdaaGreatDoorO
import Derived.Test.YtjcaligejlhjdaaGreatDoorI2
import Derived.Test.YtjcaligejlhjdaaGreatDoorS2
import Derived.Test.YtjcaligejlhjdaaGreatDoorRows
import Derived.Laws.CopyOwn
import Derived.Lib.LaidTab
namespace Go.Proofs.YtjcaligejlhjdaaGreatDoor
open Go.ChangeShapes Go.WideShapes Go.ChangeAt Go.RowKit
theorem leftBy (x : Int) (m : Nat) (w : World) (h1 : 1 ≤ m) (h8 : m ≤ 8) : Calls Tryz.prog 121 #[.int .i64 x, .int .i64 m] w fun e w' => e = .returned (.int .i64 (bankIx m x)) ∧ w' = w := by
  obtain ⟨t1, t2, he⟩ := bankIx_eq x h1 h8
  have hb := bankIx_lt x h1
  have hq : (x.tmod m < 0 → x.tmod m + m = bankIx m x) ∧ (¬ x.tmod m < 0 → x.tmod m = bankIx m x) := by
    unfold bankIx
    have h1 := Int.emod_nonneg x (show (m : Int) ≠ 0 by omega)
    rw [Int.toNat_of_nonneg h1]
    have hm : m = 1 ∨ m = 2 ∨ m = 3 ∨ m = 4 ∨ m = 5 ∨ m = 6 ∨ m = 7 ∨ m = 8 := by omega
    rcases tmod_cases x m with ⟨h0, e⟩ | ⟨h0, e⟩ <;> rw [e] <;> rcases hm with rfl | rfl | rfl | rfl | rfl | rfl | rfl | rfl <;> refine ⟨fun _ => by omega, fun _ => by omega⟩
  have HQ := hide hq
  clear hq he
  by_cases hn : x.tmod m < 0
  · go_enter Tryz.func121, Tryz.ntmps121
    go_wp2
    go_ret
    exact ⟨ret_int ((unhide HQ).1 hn), rfl⟩
  · go_enter Tryz.func121, Tryz.ntmps121
    go_wp2
    go_ret
    exact ⟨ret_int ((unhide HQ).2 (by omega)), rfl⟩
end Go.Proofs.YtjcaligejlhjdaaGreatDoor
namespace Go.Proofs.YtjcaligejlhjdaaGreatDoor
open Go.ChangeShapes Go.WideShapes Go.ChangeAt Go.RowKit
def opNm : List ByteArray := [⟨#[110, 111, 112]⟩, ⟨#[108, 100, 105]⟩, ⟨#[108, 100, 97]⟩, ⟨#[115, 116, 97]⟩, ⟨#[97, 100, 105]⟩, ⟨#[115, 98, 105]⟩, ⟨#[97, 110, 105]⟩, ⟨#[111, 114, 105]⟩, ⟨#[120, 114, 105]⟩, ⟨#[99, 112, 105]⟩, ⟨#[116, 97, 120]⟩, ⟨#[116, 120, 97]⟩, ⟨#[105, 110, 120]⟩, ⟨#[100, 101, 120]⟩, ⟨#[108, 97, 120]⟩, ⟨#[115, 97, 120]⟩, ⟨#[98, 110, 101]⟩, ⟨#[98, 101, 113]⟩, ⟨#[98, 99, 115]⟩, ⟨#[106, 109, 112]⟩, ⟨#[106, 115, 114]⟩, ⟨#[114, 116, 115]⟩, ⟨#[112, 104, 97]⟩, ⟨#[112, 108, 97]⟩, ⟨#[114, 116, 105]⟩, ⟨#[115, 101, 105]⟩, ⟨#[99, 108, 105]⟩, ⟨#[115, 101, 99]⟩, ⟨#[99, 108, 99]⟩, ⟨#[97, 100, 97]⟩]
def opLens : List Int := [1, 2, 3, 3, 2, 2, 2, 2, 2, 2, 1, 1, 1, 1, 3, 3, 3, 3, 3, 3, 3, 1, 1, 1, 1, 1, 1, 1, 1, 3]
def opCycs : List Int := [2, 2, 4, 4, 2, 2, 2, 2, 2, 2, 2, 2, 2, 2, 4, 5, 3, 3, 3, 3, 6, 6, 3, 4, 6, 2, 2, 2, 2, 4]
theorem ints_at (L : List Int) (d : Int) (i : Nat) (h : i < L.length) : (L.map (Value.int .i64))[i]'(by simpa using h) = .int .i64 (L.getD ((i : Int).toNat) d) := by
  rw [List.getElem_map, Int.toNat_natCast, List.getD_eq_getElem?_getD, List.getElem?_eq_getElem h]
  rfl
theorem specOpLen (w : World) (x : Int) : Calls Tryz.prog 82 #[.int .i64 x] w fun e w' => e = .returned (.int .i64 (if 0 ≤ x ∧ x ≤ 29 then opLens.getD x.toNat 1 else 1)) ∧ Below w.heap.size w w' := by
  by_cases h : 0 ≤ x ∧ x ≤ 29
  · have hin := inB_yes h
    obtain ⟨i, rfl⟩ : ∃ i : Nat, x = i := ⟨x.toNat, by omega⟩
    have hi : i < 30 := by omega
    rw [if_pos h]
    go_enter Tryz.func82, Tryz.ntmps82
    go_wp2_with fail
    refine (l1In _ _ _ _).mono ?_
    rintro e w1 ⟨rfl, rfl⟩
    rw [hin]
    go_wp2
    go_ret
    exact ⟨congrArg Ending.returned (ints_at opLens 1 i hi), (Below.refl _ _).alloc (Nat.le_refl _) _⟩
  · have hin := inB_no h
    rw [if_neg h]
    go_enter Tryz.func82, Tryz.ntmps82
    go_wp2_with fail
    refine (l1In _ _ _ _).mono ?_
    rintro e w1 ⟨rfl, rfl⟩
    rw [hin]
    go_wp2
    go_ret
    exact ⟨rfl, Below.refl _ _⟩
theorem specOpCycles (w : World) (x : Int) : Calls Tryz.prog 52 #[.int .i64 x] w fun e w' => e = .returned (.int .i64 (if 0 ≤ x ∧ x ≤ 29 then opCycs.getD x.toNat 2 else 2)) ∧ Below w.heap.size w w' := by
  by_cases h : 0 ≤ x ∧ x ≤ 29
  · have hin := inB_yes h
    obtain ⟨i, rfl⟩ : ∃ i : Nat, x = i := ⟨x.toNat, by omega⟩
    have hi : i < 30 := by omega
    rw [if_pos h]
    go_enter Tryz.func52, Tryz.ntmps52
    go_wp2_with fail
    refine (l1In _ _ _ _).mono ?_
    rintro e w1 ⟨rfl, rfl⟩
    rw [hin]
    go_wp2
    go_ret
    exact ⟨congrArg Ending.returned (ints_at opCycs 2 i hi), (Below.refl _ _).alloc (Nat.le_refl _) _⟩
  · have hin := inB_no h
    rw [if_neg h]
    go_enter Tryz.func52, Tryz.ntmps52
    go_wp2_with fail
    refine (l1In _ _ _ _).mono ?_
    rintro e w1 ⟨rfl, rfl⟩
    rw [hin]
    go_wp2
    go_ret
    exact ⟨rfl, Below.refl _ _⟩
def accOf (x : Int) : Int := if x = 2 ∨ x = 14 ∨ x = 29 then 1 else if x = 3 ∨ x = 15 then 2 else 0
theorem specOpAccess (w : World) (x : Int) : Calls Tryz.prog 84 #[.int .i64 x] w fun e w' => e = .returned (.int .i64 (accOf x)) ∧ w' = w := by
  go_enter Tryz.func84, Tryz.ntmps84
  go_wp2
  all_goals go_ret
  all_goals (refine ⟨congrArg (fun n => Ending.returned (.int .i64 n)) ?_, rfl⟩; unfold accOf; grind)
end Go.Proofs.YtjcaligejlhjdaaGreatDoor
namespace Go.Proofs.YtjcaligejlhjdaaGreatDoor
/-- The value at cell i of a datum of literals, by the type's rows. -/
def leafAt (P : Program) : Nat → TypeId → DataW Unit → Nat → Option Value
  | 0, _, _, _ => Option.none
  | n + 1, t, d, i =>
    match P.underlying t, d with
    | some (.int k), .lit (.int k' z) => if k' = k ∧ i = 0 then some (.int k z) else Option.none
    | some .bool, .lit (.bool b) => if i = 0 then some (.bool b) else Option.none
    | some .string, .lit (.string s) => if i = 0 then some (.string ⟨s.toArray⟩) else Option.none
    | some (.array m e), .agg ps => if i / P.cellsOf e < m then (ps[i / P.cellsOf e]?).bind fun x => if i % P.cellsOf e < P.cellsOf e then leafAt P n e x (i % P.cellsOf e) else Option.none else Option.none
    | some (.struct fs), .agg ps => (List.range fs.toList.length).findSome? fun j => (fs.toList[j]?).bind fun f => if f.offset ≤ i ∧ i < f.offset + P.cellsOf f.type then (ps[j]?).bind fun x => leafAt P n f.type x (i - f.offset) else Option.none
    | _, _ => Option.none
theorem part_at {α : Type} {cs : List α} {a c i : Nat} {v : α} (h : ((cs.drop a).take c)[i]? = some v) : cs[a + i]? = some v := by
  rw [List.getElem?_take] at h
  split at h
  · rwa [List.getElem?_drop] at h
  · cases h
theorem leafAt_sound {enc : TypeId × Value → Unit} {P : Program} {w : World} {base : Nat} {sp : Nat → Bool} {held : Bool} :
    ∀ (n fuel : Nat) (t : TypeId) (cs : List Value) (d : DataW Unit) (p : List MemPlace) (i : Nat) (v : Value),
      DataW.trod enc P w base sp held fuel t cs = some (d, p) → leafAt P n t d i = some v → cs[i]? = some v := by
  intro n
  induction n with
  | zero => intro fuel t cs d p i v h hv; cases hv
  | succ n ih =>
    intro fuel t cs d p i v h hv
    cases fuel with
    | zero => simp [DataW.trod] at h
    | succ fuel =>
      unfold leafAt at hv
      split at hv
      · rename_i k k' z hu
        obtain ⟨z', hc, hd, _⟩ := DataW.trod_int hu h
        split at hv
        · rename_i hk
          obtain ⟨rfl, rfl⟩ := hk
          cases hd
          simpa [hc] using hv
        · cases hv
      · rename_i b hu
        simp only [DataW.trod, hu] at h
        split at h <;> simp_all
      · rename_i s hu
        simp only [DataW.trod, hu] at h
        split at h <;> simp_all
        obtain ⟨hl, rfl, rfl⟩ := h
        simpa using hv.2
      · rename_i m e ps hu
        simp only [DataW.trod, hu] at h
        split at h
        · obtain ⟨xs, hm, hx⟩ := Option.map_eq_some_iff.1 h
          split at hv
          · rename_i hq
            obtain ⟨x, hpx, hv⟩ := Option.bind_eq_some_iff.1 hv
            split at hv
            · obtain ⟨b, hb, hf⟩ := Lib.mapM_at hm (i / P.cellsOf e) (i / P.cellsOf e) (by simp [hq])
              have hxs : ps = xs.map (·.1) := by
                have := congrArg Prod.fst hx
                simpa using this.symm
              have hbx : b.1 = x := by
                rw [hxs, List.getElem?_map, hb] at hpx
                simpa using hpx
              have := part_at (ih fuel e _ x b.2 (i % P.cellsOf e) v (by rw [hf, ← hbx]) hv)
              rwa [Nat.mul_comm, Nat.div_add_mod] at this
            · cases hv
          · cases hv
        · cases h
      · rename_i fs ps hu
        simp only [DataW.trod, hu] at h
        split at h
        · obtain ⟨xs, hm, hx⟩ := Option.map_eq_some_iff.1 h
          obtain ⟨j, _, hj⟩ := List.exists_of_findSome?_eq_some hv
          obtain ⟨f, hfj, hj⟩ := Option.bind_eq_some_iff.1 hj
          split at hj
          · rename_i hin
            obtain ⟨x, hpx, hj⟩ := Option.bind_eq_some_iff.1 hj
            obtain ⟨b, hb, hf⟩ := Lib.mapM_at hm j f hfj
            have hxs : ps = xs.map (·.1) := by
              have := congrArg Prod.fst hx
              simpa using this.symm
            have hbx : b.1 = x := by
              rw [hxs, List.getElem?_map, hb] at hpx
              simpa using hpx
            have := part_at (ih fuel f.type _ x b.2 (i - f.offset) v (by rw [hf, ← hbx]) hj)
            rwa [Nat.add_sub_cancel' hin.1] at this
          · cases hj
        · cases h
      · cases hv
theorem laidVars_mem {P : Program} {w : World} {name : String} {d : DataW Unit} : ∀ {l : List (String × DataW Unit)} {ps : List MemPlace}, DataW.LaidVars P w l ps → (name, d) ∈ l →
    ∃ g t cs fuel p, P.globalNamed name = some g ∧ (P.globals[g]?).map (·.type) = some t ∧ w.var? P name = some cs ∧ DataW.trod (fun _ => ()) P w 0 (fun _ => true) false fuel t cs.toList = some (d, p)
  | [], _, _, h => by cases h
  | (n, x) :: r, _, ⟨g, t, cs, fuel, p, q, h1, h2, h3, h4, h5, _⟩, h => by
    rcases List.mem_cons.1 h with h | h
    · cases h
      exact ⟨g, t, cs, fuel, p, h1, h2, h3, h4⟩
    · exact laidVars_mem h5 h
theorem laid_cell_mem {P : Program} {W : World} {name : String} {d : DataW Unit} {l : List (String × DataW Unit)} {g : Nat} {t : TypeId}
    (hg : P.globalNamed name = some g) (hty : (P.globals[g]?).map (·.type) = some t) (hm : (name, d) ∈ l) (h : laidMet P l W) (n : Nat) : ∀ (i : Nat) (v : Value), leafAt P n t d i = some v → W.cell? ⟨g, i, Option.none⟩ = some v := by
  intro i v hv
  obtain ⟨ps, hl, _⟩ := h
  obtain ⟨g', t', cs, fuel, p, hg', ht', hvar, hd⟩ := laidVars_mem hl hm
  obtain rfl := Option.some.inj (hg.symm.trans hg')
  obtain rfl := Option.some.inj (hty.symm.trans ht')
  have := World.var?_cell hg hvar i
  rw [this]
  simpa using leafAt_sound n fuel _ _ d p i v hd hv
theorem trodVars_cons {H : Type} {enc : TypeId × Value → H} {P : Program} {w : World} {sp : Nat → Bool} {n : String} {ns : List String} {gs : List (DataW H)} {ps : List MemPlace} (h : DataW.TrodVars enc P w sp (n :: ns) gs ps) :
    ∃ d ds q, gs = d :: ds ∧ DataW.TrodVars enc P w sp ns ds q := by
  cases gs with
  | nil => exact h.elim
  | cons d ds =>
    obtain ⟨g, t, cs, fuel, p, q, h1, h2, h3, h4, hs, e⟩ := h
    exact ⟨d, ds, q, rfl, hs⟩
theorem trodVars_nil {H : Type} {enc : TypeId × Value → H} {P : Program} {w : World} {sp : Nat → Bool} {gs : List (DataW H)} {ps : List MemPlace} (h : DataW.TrodVars enc P w sp [] gs ps) : gs = [] := by
  cases gs with
  | nil => rfl
  | cons d ds => exact h.elim
/-- A datum of literals, laid cell by cell. -/
def flatD : Nat → DataW Unit → List Value
  | _, .lit (.int k z) => [.int k z]
  | _, .lit (.bool b) => [.bool b]
  | _, .lit (.string s) => [.string ⟨s.toArray⟩]
  | n + 1, .agg ps => ps.flatMap (flatD n)
  | _, _ => []
end Go.Proofs.YtjcaligejlhjdaaGreatDoor
