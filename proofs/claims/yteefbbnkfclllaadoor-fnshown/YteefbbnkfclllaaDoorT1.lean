/-
  Package-level tables: what a cell of a listed variable holds, out of the listed datum (arrays and structs of literals, of whatever program).
-/
import Derived.Test.YteefbbnkfclllaaDoorRows
import Derived.Lib.LaidTab
namespace Go.Proofs.YteefbbnkfclllaaDoor
/-- The value at cell i of a datum of literals, by the type's rows. -/
def leafAt (P : Program) : Nat → TypeId → DataW Unit → Nat → Option Value
  | 0, _, _, _ => Option.none
  | n + 1, t, d, i =>
    match P.underlying t, d with
    | some (.int k), .lit (.int k' z) => if k' = k ∧ i = 0 then some (.int k z) else Option.none
    | some .bool, .lit (.bool b) => if i = 0 then some (.bool b) else Option.none
    | some .string, .lit (.string s) => if i = 0 then some (.string ⟨s.toArray⟩) else Option.none
    | some (.array m e), .agg ps => if i / P.cellsOf e < m then (ps[i / P.cellsOf e]?).bind fun x => if i % P.cellsOf e < P.cellsOf e then leafAt P n e x (i % P.cellsOf e) else Option.none else Option.none
    | some (.struct fs), .agg ps => (List.range fs.toList.length).findSome? fun j => (fs.toList[j]?).bind fun f => if f.offset ≤ i ∧ i < f.offset + P.cellsOf f.type then (ps[j]?).bind fun x => leafAt P n f.type x (i - f.offset) else Option.none
    | _, _ => Option.none
theorem part_at {α : Type} {cs : List α} {a c i : Nat} {v : α} (h : ((cs.drop a).take c)[i]? = some v) : cs[a + i]? = some v := by
  rw [List.getElem?_take] at h
  split at h
  · rwa [List.getElem?_drop] at h
  · cases h
theorem leafAt_sound {enc : TypeId × Value → Unit} {P : Program} {w : World} {base : Nat} {sp : Nat → Bool} {held : Bool} :
    ∀ (n fuel : Nat) (t : TypeId) (cs : List Value) (d : DataW Unit) (p : List MemPlace) (i : Nat) (v : Value),
      DataW.trod enc P w base sp held fuel t cs = some (d, p) → leafAt P n t d i = some v → cs[i]? = some v := by
  intro n
  induction n with
  | zero => intro fuel t cs d p i v h hv; cases hv
  | succ n ih =>
    intro fuel t cs d p i v h hv
    cases fuel with
    | zero => simp [DataW.trod] at h
    | succ fuel =>
      unfold leafAt at hv
      split at hv
      · rename_i k k' z hu
        obtain ⟨z', hc, hd, _⟩ := DataW.trod_int hu h
        split at hv
        · rename_i hk
          obtain ⟨rfl, rfl⟩ := hk
          cases hd
          simpa [hc] using hv
        · cases hv
      · rename_i b hu
        simp only [DataW.trod, hu] at h
        split at h <;> simp_all
      · rename_i s hu
        simp only [DataW.trod, hu] at h
        split at h <;> simp_all
        obtain ⟨hl, rfl, rfl⟩ := h
        simpa using hv.2
      · rename_i m e ps hu
        simp only [DataW.trod, hu] at h
        split at h
        · obtain ⟨xs, hm, hx⟩ := Option.map_eq_some_iff.1 h
          split at hv
          · rename_i hq
            obtain ⟨x, hpx, hv⟩ := Option.bind_eq_some_iff.1 hv
            split at hv
            · obtain ⟨b, hb, hf⟩ := Lib.mapM_at hm (i / P.cellsOf e) (i / P.cellsOf e) (by simp [hq])
              have hxs : ps = xs.map (·.1) := by
                have := congrArg Prod.fst hx
                simpa using this.symm
              have hbx : b.1 = x := by
                rw [hxs, List.getElem?_map, hb] at hpx
                simpa using hpx
              have := part_at (ih fuel e _ x b.2 (i % P.cellsOf e) v (by rw [hf, ← hbx]) hv)
              rwa [Nat.mul_comm, Nat.div_add_mod] at this
            · cases hv
          · cases hv
        · cases h
      · rename_i fs ps hu
        simp only [DataW.trod, hu] at h
        split at h
        · obtain ⟨xs, hm, hx⟩ := Option.map_eq_some_iff.1 h
          obtain ⟨j, _, hj⟩ := List.exists_of_findSome?_eq_some hv
          obtain ⟨f, hfj, hj⟩ := Option.bind_eq_some_iff.1 hj
          split at hj
          · rename_i hin
            obtain ⟨x, hpx, hj⟩ := Option.bind_eq_some_iff.1 hj
            obtain ⟨b, hb, hf⟩ := Lib.mapM_at hm j f hfj
            have hxs : ps = xs.map (·.1) := by
              have := congrArg Prod.fst hx
              simpa using this.symm
            have hbx : b.1 = x := by
              rw [hxs, List.getElem?_map, hb] at hpx
              simpa using hpx
            have := part_at (ih fuel f.type _ x b.2 (i - f.offset) v (by rw [hf, ← hbx]) hj)
            rwa [Nat.add_sub_cancel' hin.1] at this
          · cases hj
        · cases h
      · cases hv
/-- THE HEAD OF A ROW's LIST: the variable's cells hold what the datum says. -/
theorem laid_cell {P : Program} {W : World} {name : String} {d : DataW Unit} {rest : List (String × DataW Unit)} {g : Nat} {t : TypeId}
    (hg : P.globalNamed name = some g) (hty : (P.globals[g]?).map (·.type) = some t) (h : laidMet P ((name, d) :: rest) W) (n i : Nat) (v : Value) (hv : leafAt P n t d i = some v) : W.cell? ⟨g, i, Option.none⟩ = some v := by
  obtain ⟨ps, ⟨g', t', cs, fuel, p, q, hg', ht', hvar, hd, _, _⟩, _⟩ := h
  obtain rfl := Option.some.inj (hg.symm.trans hg')
  obtain rfl := Option.some.inj (hty.symm.trans ht')
  have := World.var?_cell hg hvar i
  rw [this]
  simpa using leafAt_sound n fuel _ _ d p i v hd hv
theorem laidVars_mem {P : Program} {w : World} {name : String} {d : DataW Unit} : ∀ {l : List (String × DataW Unit)} {ps : List MemPlace}, DataW.LaidVars P w l ps → (name, d) ∈ l →
    ∃ g t cs fuel p, P.globalNamed name = some g ∧ (P.globals[g]?).map (·.type) = some t ∧ w.var? P name = some cs ∧ DataW.trod (fun _ => ()) P w 0 (fun _ => true) false fuel t cs.toList = some (d, p)
  | [], _, _, h => by cases h
  | (n, x) :: r, _, ⟨g, t, cs, fuel, p, q, h1, h2, h3, h4, h5, _⟩, h => by
    rcases List.mem_cons.1 h with h | h
    · cases h
      exact ⟨g, t, cs, fuel, p, h1, h2, h3, h4⟩
    · exact laidVars_mem h5 h
theorem laid_cell_mem {P : Program} {W : World} {name : String} {d : DataW Unit} {l : List (String × DataW Unit)} {g : Nat} {t : TypeId}
    (hg : P.globalNamed name = some g) (hty : (P.globals[g]?).map (·.type) = some t) (hm : (name, d) ∈ l) (h : laidMet P l W) (n : Nat) : ∀ (i : Nat) (v : Value), leafAt P n t d i = some v → W.cell? ⟨g, i, Option.none⟩ = some v := by
  intro i v hv
  obtain ⟨ps, hl, _⟩ := h
  obtain ⟨g', t', cs, fuel, p, hg', ht', hvar, hd⟩ := laidVars_mem hl hm
  obtain rfl := Option.some.inj (hg.symm.trans hg')
  obtain rfl := Option.some.inj (hty.symm.trans ht')
  have := World.var?_cell hg hvar i
  rw [this]
  simpa using leafAt_sound n fuel _ _ d p i v hd hv
/-- A TABLE OF INTEGERS THAT A ROW LISTS, wherever it stands on the list. -/
theorem tabIs_mem {P : Program} {W : World} {name : String} {d : DataW Unit} {l : List (String × DataW Unit)} {k : IntKind} {zs : List Int} {g : Nat} {t e : TypeId} {n : Nat}
    (hg : P.globalNamed name = some g) (hty : (P.globals[g]?).map (·.type) = some t) (ht : P.underlying t = some (.array n e)) (he : P.underlying e = some (.int k)) (hce : P.cellsOf e = 1) (hct : P.cellsOf t = n)
    (hd : d = Lib.tabData k zs) (hm : (name, d) ∈ l) (h : laidMet P l W) : Lib.TabIs P W name k zs := by
  subst hd
  obtain ⟨ps, hl, _⟩ := h
  obtain ⟨g', t', cs, fuel, p, hg', ht', hvar, hd⟩ := laidVars_mem hl hm
  obtain rfl := Option.some.inj (hg.symm.trans hg')
  obtain rfl := Option.some.inj (hty.symm.trans ht')
  unfold Lib.TabIs
  rw [hvar, ← Lib.cells_of_tab ht he hce hct hd]
theorem trodVars_cons {H : Type} {enc : TypeId × Value → H} {P : Program} {w : World} {sp : Nat → Bool} {n : String} {ns : List String} {gs : List (DataW H)} {ps : List MemPlace} (h : DataW.TrodVars enc P w sp (n :: ns) gs ps) :
    ∃ d ds q, gs = d :: ds ∧ DataW.TrodVars enc P w sp ns ds q := by
  cases gs with
  | nil => exact h.elim
  | cons d ds =>
    obtain ⟨g, t, cs, fuel, p, q, h1, h2, h3, h4, hs, e⟩ := h
    exact ⟨d, ds, q, rfl, hs⟩
theorem trodVars_nil {H : Type} {enc : TypeId × Value → H} {P : Program} {w : World} {sp : Nat → Bool} {gs : List (DataW H)} {ps : List MemPlace} (h : DataW.TrodVars enc P w sp [] gs ps) : gs = [] := by
  cases gs with
  | nil => rfl
  | cons d ds => exact h.elim
/-- A datum of literals, laid cell by cell. -/
def flatD : Nat → DataW Unit → List Value
  | _, .lit (.int k z) => [.int k z]
  | _, .lit (.bool b) => [.bool b]
  | _, .lit (.string s) => [.string ⟨s.toArray⟩]
  | n + 1, .agg ps => ps.flatMap (flatD n)
  | _, _ => []
end Go.Proofs.YteefbbnkfclllaaDoor
