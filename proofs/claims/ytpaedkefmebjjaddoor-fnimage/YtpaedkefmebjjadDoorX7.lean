/-
  The draw of a file.
-/
import Derived.Test.YtpaedkefmebjjadDoorX6
namespace Go.Proofs.YtpaedkefmebjjadDoor
open Go.ChangeShapes Go.WideShapes Go.ChangeAt Go.RowKit
theorem bytes_own {w : World} {base n cap g : Nat} {t : TypeId} {f : Nat → Int} (h : w.ownsRow base t 1 (.slice (some ⟨g, 0, none⟩) n cap) n (vals .u8 n f)) (hn : n ≤ 1048576) (hb : ∀ i, i < n → 0 ≤ f i ∧ f i ≤ 255) : Bytes w (some ⟨g, 0, none⟩) n f ∧ n ≤ cap := by
  refine ⟨⟨fun i hi => ⟨g, 0, rfl, by rw [Nat.zero_add, h.cellAt i (by omega), vals_get _ n f i hi]⟩, hn, hb⟩, ?_⟩
  rcases h.2 with ⟨e, _⟩ | ⟨g', cap', cur, e, _, _, hc, _⟩ <;> cases e
  exact hc
theorem Bytes.take {w : World} {a : Option Addr} {n : Nat} {f : Nat → Int} (h : Bytes w a n f) (k : Nat) (hk : k ≤ n) : Bytes w a k f := ⟨fun i hi => h.row i (by omega), Nat.le_trans hk h.len, fun i hi => h.byte i (by omega)⟩
theorem Bytes.set {w : World} {g n : Nat} {f : Nat → Int} (h : Bytes w (some ⟨g, 0, none⟩) n f) (x : Nat) (y : Int) (hy : 0 ≤ y ∧ y ≤ 255) : Bytes (w.setCell ⟨g, x, none⟩ (.int .u8 y)) (some ⟨g, 0, none⟩) n (fun j => if j = x then y else f j) := by
  refine ⟨fun i hi => ?_, h.len, fun i hi => ?_⟩
  · obtain ⟨b, off, e, hc⟩ := h.row i hi
    simp only [Option.some.injEq, Addr.mk.injEq, and_true] at e
    obtain ⟨rfl, rfl⟩ := e
    refine ⟨g, 0, rfl, ?_⟩
    by_cases e : i = x
    · subst e
      rw [Nat.zero_add] at hc ⊢
      rw [World.cell?_setCell_same _ _ _ hc]
      simp
    · rw [World.cell?_setCell_other _ _ _ _ (by intro h; simp only [Addr.mk.injEq] at h; omega), hc]
      simp [e]
  · show 0 ≤ (if i = x then y else f i) ∧ (if i = x then y else f i) ≤ 255
    split
    · exact hy
    · exact h.byte i hi
theorem Bytes.blk {w w' : World} {g n : Nat} {f : Nat → Int} (h : Bytes w (some ⟨g, 0, none⟩) n f) (hb : w'.heap[g]? = w.heap[g]?) : Bytes w' (some ⟨g, 0, none⟩) n f := by
  refine ⟨fun i hi => ?_, h.len, h.byte⟩
  obtain ⟨b, off, e, hc⟩ := h.row i hi
  simp only [Option.some.injEq, Addr.mk.injEq, and_true] at e
  obtain ⟨rfl, rfl⟩ := e
  exact ⟨g, 0, rfl, (World.cell?_of_block (a := ⟨g, 0 + i, none⟩) hb).trans hc⟩
theorem pick5 (j : Nat) : 0 ≤ ix [0, 1, 8, 9, 50] j ∧ ix [0, 1, 8, 9, 50] j ≤ 255 := by
  by_cases h : j < 5
  · have : j = 0 ∨ j = 1 ∨ j = 2 ∨ j = 3 ∨ j = 4 := by omega
    rcases this with rfl | rfl | rfl | rfl | rfl <;> decide
  · unfold ix
    rw [List.getD_eq_getElem?_getD, List.getElem?_eq_none (by simp; omega)]
    decide
theorem vals_snoc (n : Nat) (f : Nat → Int) : vals .u8 (n + 1) (fun j => if j < n then f j else 0) = vals .u8 n f ++ [.int .u8 0] := by
  unfold vals
  rw [List.range_succ, List.map_append]
  congr 1
  · exact List.map_congr_left (fun i hi => by simp [List.mem_range.1 hi])
  · simp
theorem info8 : (Tryd.prog.info? 5).map (fun i => (i.zero, i.size, i.bytes)) = some (some (.int .u8 0), 1, 1) := by kernel_rfl
theorem ok_right {m : Nat} {F : Nat → Nat → Int} (h1 : 1 ≤ m) (h3 : m ≤ 3) (h : ∀ i j, i < m → j < 256 → 0 ≤ F i j ∧ F i j ≤ 255) : okImg m (fun _ => 256) F = true :=
  decide_eq_true ⟨fun i hi => decide_eq_true ⟨rfl, fun j hj => inB_yes (h i j hi hj)⟩, h1, by omega⟩
theorem file_byte {m : Nat} {F : Nat → Nat → Int} (h3 : m ≤ 3) (h : ∀ i j, i < m → j < 256 → 0 ≤ F i j ∧ F i j ≤ 255) : ∀ i, i < 6 + 256 * m → 0 ≤ imgF m F (isum (flat F) (256 * m) % 256) i ∧ imgF m F (isum (flat F) (256 * m) % 256) i ≤ 255 := fun i hi => by
  have hs : 0 ≤ isum (flat F) (256 * m) % 256 ∧ isum (flat F) (256 * m) % 256 ≤ 255 := by omega
  unfold imgF
  repeat' split
  all_goals first | omega | skip
  exact h _ _ (by omega) (Nat.mod_lt _ (by decide))
set_option maxRecDepth 20000 in
set_option maxHeartbeats 4000000 in
theorem drawImageRead (w : World) (a : Option Addr) (len cap : Nat) (H : Code w w.heap.size a len) :
    Calls Tryd.prog 12 #[.slice a len cap] w fun e w' => ∃ a' n c' f, e = .returned (.slice a' n c') ∧ n ≤ c' ∧ Bytes w' a' n f ∧ Below w.heap.size w w' := by
  go_enter Tryd.func12, Tryd.ntmps12
  go_wp2_with fail
  refine (l1New _ w.heap.size a len cap (Nat.le_refl _) H).mono ?_
  rintro e w1 ⟨rfl, H1, L1, z1⟩
  go_wp2_with fail
  refine (l2DrawRight _ w.heap.size w.heap.size a len cap H1).mono ?_
  rintro e w2 ⟨⟨v, m, ra, rc, F, rfl, hm1, hm3, hS, -, hV⟩, H2, S2⟩
  obtain ⟨ov, cv, hv, -, -⟩ := hS.sep.outer
  subst hv
  go_wp2_with fail
  refine (specImageBytes _ _ _ m (fun _ => 256) F hS.ints (ok_right hm1 hm3 hV)).mono ?_
  rintro e w3 ⟨g, cp, rfl, hown, hg, L3⟩
  have hcl := H2.lt
  have hgo := (hown.lt g rfl).1
  have H3 := H2.below L3 hcl
  have L23 : Below w.heap.size w w3 := (L1.trans (S2.below (Nat.le_refl _) (by omega))).trans (L3.mono (by omega))
  obtain ⟨n, hn⟩ : ∃ n, n = 6 + 256 * m := ⟨_, rfl⟩
  rw [← hn] at hown ⊢
  have hn1 : 262 ≤ n := by omega
  have hn2 : n ≤ 1000 := by omega
  obtain ⟨hB, hcp⟩ := bytes_own hown (by omega) (fun i hi => file_byte hm3 hV i (by omega))
  generalize imgF m F (isum (flat F) (256 * m) % 256) = f at *
  clear hn
  go_wp2_with fail
  refine (l1Below _ w.heap.size w.heap.size a len cap H3 8).mono ?_
  rintro e w4 ⟨x, rfl, x0, x1, H4, O4⟩
  have hO4 := ownsRow_same (w' := w4) hown (fun k hk => O4.block k (by have := (hown.lt k hk).1; omega))
  have hB4 : Bytes w4 (some ⟨g, 0, none⟩) n f := (bytes_own hO4 (by omega) hB.byte).1
  have L4 : Below w.heap.size w w4 := L23.trans (O4.below (Nat.le_refl _))
  have hgl4 : g < w4.heap.size := by rw [O4.size]; exact hg
  have HO := hide hO4
  have HB := hide hB4
  have HL := hide L4
  have HC := hide H4
  have hngc : g ≠ w.heap.size := by omega
  have hg9 := hB4.row 9 (by omega)
  obtain ⟨b9, o9, e9, c9⟩ := hg9
  simp only [Option.some.injEq, Addr.mk.injEq, and_true] at e9
  obtain ⟨rfl, rfl⟩ := e9
  have fz : ∀ o, w4.frozen? ⟨g, o, none⟩ = false := fun o => hO4.frozenAt o
  have HFZ := hide fz
  have hby := hB4.byte 9 (by omega)
  clear fz hB hown O4 hO4 hB4 L4 H4 L23 H3 hV hS S2 L3 L1 H1 H2 hg
  by_cases e0 : x = 0
  · subst e0
    go_wp2_with fail
    refine (l1Below _ w.heap.size w.heap.size a len cap (unhide HC) 6).mono ?_
    rintro e w5 ⟨y, rfl, y0, y1, H5, O5⟩
    obtain ⟨k, rfl⟩ : ∃ k : Nat, y = k := ⟨y.toNat, by omega⟩
    have hk6 : k < 6 := by omega
    have hB5 : Bytes w5 (some ⟨g, 0, none⟩) n f := (unhide HB).blk (O5.block g hngc)
    have hf5 : w5.frozen? ⟨g, k, none⟩ = false := (O5.frozen (by show g ≠ _; exact hngc)).trans (unhide HFZ k)
    have HZ := hide (lit_cells w5 [0, 1, 8, 9, 50] 3)
    have HA := hide (H5.alloc (.cells ([0, 1, 8, 9, 50].map (Value.int .i64)).toArray 3) H5.lt)
    have hgl5 : g < w5.heap.size := by rw [O5.size]; exact hgl4
    have L5 : Below w.heap.size w w5 := (unhide HL).trans (O5.below (Nat.le_refl _))
    have hcl5 := H5.lt
    have HB5 := hide hB5
    have HL5 := hide L5
    clear hB5 L5 O5 H5
    go_wp2_with fail
    refine (l1PickInt _ w.heap.size w.heap.size a len cap (unhide HA) w5.heap.size 5 (by omega) (by omega) (by omega) (ix [0, 1, 8, 9, 50]) (unhide HZ)).mono ?_
    rintro e w6 ⟨j0, rfl, hj0, H6, O6⟩
    have hy : 0 ≤ ix [0, 1, 8, 9, 50] j0 ∧ ix [0, 1, 8, 9, 50] j0 ≤ 255 := pick5 j0
    generalize ix [0, 1, 8, 9, 50] j0 = z at *
    have hB6 : Bytes w6 (some ⟨g, 0, none⟩) n f := (unhide HB5).blk ((O6.block g hngc).trans (Below.heap_alloc _ _ g hgl5))
    have hf6 : w6.frozen? ⟨g, k, none⟩ = false := ((O6.frozen (by show g ≠ _; exact hngc)).trans (World.frozen?_alloc_old _ _ _ (by show ¬ g = w5.heap.size; omega))).trans hf5
    obtain ⟨bk, ok, ek, ck⟩ := hB6.row k (by omega)
    simp only [Option.some.injEq, Addr.mk.injEq, and_true] at ek
    obtain ⟨rfl, rfl⟩ := ek
    rw [Nat.zero_add] at ck
    have hkn : (k : Int) < (n : Int) := by omega
    obtain ⟨hz0, hz1⟩ := hy
    have L6 : Below w.heap.size w w6 := ((unhide HL5).alloc (by omega) _).trans (O6.below (Nat.le_refl _))
    have HB6 := hide (hB6.set k z ⟨hz0, hz1⟩)
    have HL6 := hide (L6.setCell (p := ⟨g, k, none⟩) (by show _ ≤ g; omega) (.int .u8 z))
    clear hB6 L6 O6 H6
    go_wp2
    go_ret
    exact ⟨_, _, _, _, rfl, hcp, unhide HB6, unhide HL6⟩
  · by_cases e1 : x = 1
    · subst e1
      go_wp2_with fail
      refine (l1Below _ w.heap.size w.heap.size a len cap (unhide HC) (n + 1)).mono ?_
      rintro e w5 ⟨y, rfl, y0, y1, H5, O5⟩
      obtain ⟨k, rfl⟩ : ∃ k : Nat, y = k := ⟨y.toNat, by omega⟩
      have hk6 : k ≤ n := by omega
      have hkc : (k : Int) ≤ (cp : Int) := by omega
      have hB5 : Bytes w5 (some ⟨g, 0, none⟩) n f := (unhide HB).blk (O5.block g hngc)
      have L5 : Below w.heap.size w w5 := (unhide HL).trans (O5.below (Nat.le_refl _))
      have HB5 := hide (hB5.take k hk6)
      have HL5 := hide L5
      clear hB5 L5 O5 H5
      go_wp2
      go_ret
      exact ⟨_, _, _, _, rfl, by omega, unhide HB5, unhide HL5⟩
    · by_cases e2 : x = 2
      · subst e2
        obtain ⟨i1, hi1, hza1, hza2, hza3⟩ := info_parts info8
        go_wp2_with (at_builtin; refine wpList_append_lies _ rfl (.tmp 33) (.tmp 34) 22 rfl w2.heap.size 5 i1 (.int .u8 0) 1 1 Tryd.underlying22 hi1 hza1 hza2 hza3 rfl (by decide) _ _ _ rfl ((unhide HO).alloc _) ⟨w4.heap.size, 0, none⟩ 1 1 [.int .u8 0] rfl rfl ?c1 ?c2 (by decide) ?c3 ?c4 ?c5 _ rfl ?_)
        case c1 => exact new_row _ #[.int .u8 0] _ (0, 0) _ rfl
        case c2 => intro u hu; simp at hu; subst hu; rfl
        case c3 => unfold maxLen; omega
        case c4 => omega
        case c5 => simp; omega
        intro g3 c3 w5 hown3 hgrow hat hlt3
        have hown4 : w5.ownsRow w2.heap.size 5 1 (.slice (some ⟨g3, 0, none⟩) (n + 1) c3) (n + 1) (vals .u8 (n + 1) (fun j => if j < n then f j else 0)) := by
          have e : vals .u8 (n + 1) (fun j => if j < n then f j else 0) = vals .u8 n f ++ [.int .u8 0] := vals_snoc n f
          rw [e]; exact hown3
        obtain ⟨hB5, hc5⟩ := bytes_own hown4 (by omega) (fun i hi => by
          show 0 ≤ (if i < n then f i else 0) ∧ (if i < n then f i else 0) ≤ 255
          split
          · exact (unhide HB).byte i (by assumption)
          · omega)
        have L5 : Below w.heap.size w w5 := ((unhide HL).alloc (by omega) _).grown hgrow (by simp; omega) (fun k hk => by have := ((unhide HO).lt k hk).1; omega)
        have HB5 := hide hB5
        have HL5 := hide L5
        clear hown3 hown4 hgrow hat hB5 L5
        go_wp2
        go_ret
        exact ⟨_, _, _, _, rfl, hc5, unhide HB5, unhide HL5⟩
      · by_cases e3 : x = 3
        · subst e3
          have hf9 := unhide HFZ 9
          have hn9 : (9 : Int) < (n : Int) := by omega
          rw [Nat.zero_add] at c9
          have hw9 : 0 ≤ (f 9 + 1) % 256 ∧ (f 9 + 1) % 256 ≤ 255 := by omega
          have HB5 := hide ((unhide HB).set 9 ((f 9 + 1) % 256) hw9)
          have HL5 := hide ((unhide HL).setCell (p := ⟨g, 9, none⟩) (by show _ ≤ g; omega) (.int .u8 ((f 9 + 1) % 256)))
          go_wp2
          go_ret
          exact ⟨_, _, _, _, rfl, hcp, unhide HB5, unhide HL5⟩
        · go_wp2
          all_goals first | (exfalso; omega) | skip
          go_ret
          exact ⟨_, _, _, _, rfl, hcp, unhide HB, unhide HL⟩
end Go.Proofs.YtpaedkefmebjjadDoor
