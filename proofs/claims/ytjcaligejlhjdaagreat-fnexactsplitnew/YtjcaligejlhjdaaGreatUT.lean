/-
  Chapter 15 of the program by its contracts: SplitNew.
-/
import Derived.Test.YtjcaligejlhjdaaGreatUS
import Derived.Test.YtjcaligejlhjdaaGreatUN
import Derived.Test.YtjcaligejlhjdaaGreatUI
import Derived.Test.YtjcaligejlhjdaaGreatIJ
import Derived.Test.YtjcaligejlhjdaaGreatI8f
import Derived.Test.YtjcaligejlhjdaaGreatI6c
import Derived.Test.YtjcaligejlhjdaaGreatRIa
import Derived.Deep.DeepCutAuto
namespace Go.Proofs.YtjcaligejlhjdaaGreat
set_option linter.unusedVariables false
set_option linter.unusedSimpArgs false
open Go.ChangeShapes Go.WideShapes Go.ChangeAt Go.RowKit
theorem SplitCp.nw {w w' : World} {v : Value} {d : SpD} (H : SplitCp w w' v d) : ∃ D, SplitOn w' D v d ∧ Dis D ∧ ∀ i b, D i b → w.heap.size ≤ b ∧ b < w'.heap.size := by
  obtain ⟨D, cs, u3, o3, e, h1, h2, h3, -⟩ := H
  exact ⟨D, h1, h2, h3⟩
theorem okRing_cap {cap : Int} (h : okRing cap 0 (fun _ => 0) = false) : ∀ m ln f np p, okSplit (newS m ln f np p cap) = false := fun m ln f np p => by
  unfold okSplit okPc
  show (_ && (_ && (_ && ((_ && (okRing cap 0 (fun _ => 0) && _)) && _)))) = false
  rw [h]
  simp
theorem infoAtT {P : Program} {ty : TypeId} {n : Nat} {cs : Array Value} (h : (P.info? ty).map (·.size) = some n) (hs : cs.size = n) : (P.info? ty).map (·.size) = some cs.size := by rw [hs]; exact h
theorem okRing_zero : okRing 0 0 (fun _ => 0) = false := by unfold okRing inB; simp
theorem okSplit_newS (m : Nat) (ln : Nat → Nat) (f : Nat → Nat → Int) (np : Nat) (p : Nat → Int) (cap : Int) : okSplit (newS m ln f np p (if okRing cap 0 (fun _ => 0) then cap else 0)) = okSplit (newS m ln f np p cap) := by
  cases h : okRing cap 0 (fun _ => 0)
  · rw [okRing_cap h, if_neg (by simp)]; exact okRing_cap okRing_zero _ _ _ _ _
  · rw [if_pos rfl]
theorem newS_onT {W : World} {m : Nat} {ln : Nat → Nat} {f : Nat → Nat → Int} {np : Nat} {p : Nat → Int} {cp : Int} {ia : Option Addr} {ic : Nat} {pa : Option Addr} {pcap : Nat} {b2 : Option Addr} {e2 q8 : Nat} {ra : Option Addr} {rc : Nat} {pc : Int} (hpc : pc = newPc m ln f)
    (h0 : SsOn W (fun _ => True) (.slice ia m ic) m ln f) (h1 : ListOn W (fun _ => True) (.slice pa np pcap) np p) (h2 : MemOn W (fun _ => True) (.agg #[.slice b2 512 e2, .int .i64 0]) 512 (fun _ => 0) 0) (h3 : PpuOn W (fun _ => True) (.agg #[.int .i64 0, .int .i64 0, .int .i64 0, .int .i64 0, .int .i64 0, .bool false, .slice (some ⟨q8, 0, none⟩) 16 16, .slice none 0 0]) 0 0 0 0 0 false 16 (fun _ => 0) 0 (fun _ => 0)) (hU : RsOn W (fun _ => True) (.slice ra 0 rc) 0 (fun _ => 0)) : SplitOn W (fun _ _ => True) (.agg #[.slice ia m ic, .slice pa np pcap, .slice b2 512 e2, .int .i64 0, .int .i64 0, .int .i64 0, .int .i64 255, .int .i64 pc, .bool false, .bool false, .bool false, .bool true, .bool false, .int .i64 0, .int .i64 0, .bool false, .int .i64 0, .bool false, .int .i64 0, .int .i64 0, .slice none 0 0, .int .i64 0, .int .i64 0, .int .i64 0, .int .i64 0, .int .i64 0, .bool false, .slice (some ⟨q8, 0, none⟩) 16 16, .slice none 0 0, .int .i64 cp, .slice ra 0 rc, .slice none 0 0, .int .i64 0, .int .i64 0, .int .i64 0, .int .i64 0, .int .i64 0, .bool false, .bool false, .int .i64 cp, .slice ra 0 rc, .slice none 0 0]) (newS m ln f np p cp) := by
  subst hpc
  exact ⟨_, _, _, _, _, _, _, _, _, _, rfl, h0, h1, h2, ⟨_, _, rfl, SlOn.zero _ _⟩, ⟨_, _, _, _, rfl, h3, hU, SsOn.noneU _⟩, ⟨_, _, rfl, hU, ⟨_, _, rfl, SlOn.zero _ _⟩⟩⟩
set_option maxRecDepth 40000 in
set_option maxHeartbeats 8000000 in
theorem implSplitNew (w : World) (D0 D1 : Nat → Prop) (u v : Value) (m : Nat) (ln : Nat → Nat) (f : Nat → Nat → Int) (np : Nat) (p : Nat → Int) (cap : Int) (H : SsOn w D0 u m ln f) (K : ListOn w D1 v np p) :
    Calls Tryz.prog 9 #[.agg #[u], v, .int .i64 cap] w fun e w' => ∃ v', e = .returned (.tuple #[v', .bool (okSplit (newS m ln f np p cap))]) ∧ SplitNw w w' v' (if okSplit (newS m ln f np p cap) then newS m ln f np p cap else zeroS) ∧ Below w.heap.size w w' := by
  replace H := H.mono (E := fun _ => True) (fun _ _ _ => trivial)
  replace K := K.mono (E := fun _ => True) (fun _ _ _ => trivial)
  obtain ⟨ia, ic, rfl⟩ := H.form
  obtain ⟨pa, pcap, rfl⟩ := K.two
  obtain ⟨pc, hpc⟩ : ∃ x, Hid (x = newPc m ln f) := ⟨_, rfl⟩
  have HC := hide (fun W F v h => implCpuNew W F v m ln f h)
  rw [← hpc.out] at HC
  obtain ⟨cp, hcp⟩ : ∃ x, Hid (x = if okRing cap 0 (fun _ => 0) then cap else 0) := ⟨_, rfl⟩
  obtain ⟨d, hd⟩ : ∃ d, Hid (d = newS m ln f np p cp) := ⟨_, rfl⟩
  have HG := hide (fun W => implRingNew W cap)
  rw [← hcp.out] at HG
  obtain ⟨okr, hokr⟩ : ∃ x, Hid (x = okRing cap 0 (fun _ => 0)) := ⟨_, rfl⟩
  rw [← hokr.out] at HG
  obtain ⟨ok, hok⟩ : ∃ x, Hid (x = okSplit (newS m ln f np p cap)) := ⟨_, rfl⟩
  have HOD : Hid (okSplit d = ok) := by show _ = _; rw [hd.out, hcp.out, okSplit_newS, hok.out]
  have HDD : Hid (ok = true → d = newS m ln f np p cap) := fun h => by
    rw [hd.out, hcp.out]
    cases h' : okRing cap 0 (fun _ => 0)
    · rw [hok.out, okRing_cap h'] at h; cases h
    · rfl
  rw [← hok.out]
  clear hok hokr
  have L0 : Below w.heap.size w ((w.alloc (.cells #[.slice ia m ic] 27)).alloc (.cells #[.slice none 0 0, .slice none 0 0, .slice none 0 0, .int .i64 0, .int .i64 0, .int .i64 0, .int .i64 0, .int .i64 0, .bool false, .bool false, .bool false, .bool false, .bool false, .int .i64 0, .int .i64 0, .bool false, .int .i64 0, .bool false, .int .i64 0, .int .i64 0, .slice none 0 0, .int .i64 0, .int .i64 0, .int .i64 0, .int .i64 0, .int .i64 0, .bool false, .slice none 0 0, .slice none 0 0, .int .i64 0, .slice none 0 0, .slice none 0 0, .int .i64 0, .int .i64 0, .int .i64 0, .int .i64 0, .int .i64 0, .bool false, .bool false, .int .i64 0, .slice none 0 0, .slice none 0 0] 46)) := ((Below.refl _ _).alloc (Nat.le_refl _) _).alloc (by simp) _
  have k0 : ((w.alloc (.cells #[.slice ia m ic] 27)).alloc (.cells #[.slice none 0 0, .slice none 0 0, .slice none 0 0, .int .i64 0, .int .i64 0, .int .i64 0, .int .i64 0, .int .i64 0, .bool false, .bool false, .bool false, .bool false, .bool false, .int .i64 0, .int .i64 0, .bool false, .int .i64 0, .bool false, .int .i64 0, .int .i64 0, .slice none 0 0, .int .i64 0, .int .i64 0, .int .i64 0, .int .i64 0, .int .i64 0, .bool false, .slice none 0 0, .slice none 0 0, .int .i64 0, .slice none 0 0, .slice none 0 0, .int .i64 0, .int .i64 0, .int .i64 0, .int .i64 0, .int .i64 0, .bool false, .bool false, .int .i64 0, .slice none 0 0, .slice none 0 0] 46)).heap[w.heap.size]? = some (.cells #[.slice ia m ic] 27 (0, 0)) := boxA (box_new w _ _) _
  have k1 : ((w.alloc (.cells #[.slice ia m ic] 27)).alloc (.cells #[.slice none 0 0, .slice none 0 0, .slice none 0 0, .int .i64 0, .int .i64 0, .int .i64 0, .int .i64 0, .int .i64 0, .bool false, .bool false, .bool false, .bool false, .bool false, .int .i64 0, .int .i64 0, .bool false, .int .i64 0, .bool false, .int .i64 0, .int .i64 0, .slice none 0 0, .int .i64 0, .int .i64 0, .int .i64 0, .int .i64 0, .int .i64 0, .bool false, .slice none 0 0, .slice none 0 0, .int .i64 0, .slice none 0 0, .slice none 0 0, .int .i64 0, .int .i64 0, .int .i64 0, .int .i64 0, .int .i64 0, .bool false, .bool false, .int .i64 0, .slice none 0 0, .slice none 0 0] 46)).heap[w.heap.size + 1]? = some (.cells #[.slice none 0 0, .slice none 0 0, .slice none 0 0, .int .i64 0, .int .i64 0, .int .i64 0, .int .i64 0, .int .i64 0, .bool false, .bool false, .bool false, .bool false, .bool false, .int .i64 0, .int .i64 0, .bool false, .int .i64 0, .bool false, .int .i64 0, .int .i64 0, .slice none 0 0, .int .i64 0, .int .i64 0, .int .i64 0, .int .i64 0, .int .i64 0, .bool false, .slice none 0 0, .slice none 0 0, .int .i64 0, .slice none 0 0, .slice none 0 0, .int .i64 0, .int .i64 0, .int .i64 0, .int .i64 0, .int .i64 0, .bool false, .bool false, .int .i64 0, .slice none 0 0, .slice none 0 0] 46 (0, 0)) := by simpa using box_new (w.alloc (.cells #[.slice ia m ic] 27)) #[.slice none 0 0, .slice none 0 0, .slice none 0 0, .int .i64 0, .int .i64 0, .int .i64 0, .int .i64 0, .int .i64 0, .bool false, .bool false, .bool false, .bool false, .bool false, .int .i64 0, .int .i64 0, .bool false, .int .i64 0, .bool false, .int .i64 0, .int .i64 0, .slice none 0 0, .int .i64 0, .int .i64 0, .int .i64 0, .int .i64 0, .int .i64 0, .bool false, .slice none 0 0, .slice none 0 0, .int .i64 0, .slice none 0 0, .slice none 0 0, .int .i64 0, .int .i64 0, .int .i64 0, .int .i64 0, .int .i64 0, .bool false, .bool false, .int .i64 0, .slice none 0 0, .slice none 0 0] 46
  go_enter Tryz.func9, Tryz.ntmps9
  go_upto_region 1 with (fail)
  generalize (w.alloc (.cells #[.slice ia m ic] 27)).alloc (.cells #[.slice none 0 0, .slice none 0 0, .slice none 0 0, .int .i64 0, .int .i64 0, .int .i64 0, .int .i64 0, .int .i64 0, .bool false, .bool false, .bool false, .bool false, .bool false, .int .i64 0, .int .i64 0, .bool false, .int .i64 0, .bool false, .int .i64 0, .int .i64 0, .slice none 0 0, .int .i64 0, .int .i64 0, .int .i64 0, .int .i64 0, .int .i64 0, .bool false, .slice none 0 0, .slice none 0 0, .int .i64 0, .slice none 0 0, .slice none 0 0, .int .i64 0, .int .i64 0, .int .i64 0, .int .i64 0, .int .i64 0, .bool false, .bool false, .int .i64 0, .slice none 0 0, .slice none 0 0] 46) = W0 at *
  replace H := H.keep (wrote_below L0 Nowhere) (fun _ _ _ _ x => x)
  replace K := K.keep (wrote_below L0 Nowhere) (fun _ _ _ _ x => x)
  go_wp2_with fail
  refine (HG.out W0).mono ?_
  clear HG
  rintro e W1 ⟨vr, rfl, ⟨⟨ur, rfl, hU⟩⟩, L⟩
  obtain ⟨ra, rc, rfl⟩ := hU.two
  replace hU := hU.mono (E := fun _ => True) (fun _ _ _ => trivial)
  replace L0 := below_snoc L0 L
  replace k0 := box_keep k0 L (boxLt k0)
  replace k1 := box_keep k1 L (boxLt k1)
  replace H := H.keep (wrote_below L Nowhere) (fun _ _ _ _ x => x)
  replace K := K.keep (wrote_below L Nowhere) (fun _ _ _ _ x => x)
  clear L
  have LA : Below W1.heap.size W1 (W1.alloc (.cells #[.int .i64 cp, .slice ra 0 rc] 38)) := (Below.refl _ _).alloc (Nat.le_refl _) _
  have kr := box_new W1 #[.int .i64 cp, .slice ra 0 rc] 38
  have lt0 := boxLt k0
  have lt1 := boxLt k1
  have k0' := hide (boxA k0 (.cells #[.int .i64 cp, .slice ra 0 rc] 38))
  have k1' := hide (boxA k1 (.cells #[.int .i64 cp, .slice ra 0 rc] 38))
  have krH := hide kr
  have L0' := hide (below_snoc L0 LA)
  have H' := hide (H.keep (wrote_below LA Nowhere) (fun _ _ _ _ x => x))
  have K' := hide (K.keep (wrote_below LA Nowhere) (fun _ _ _ _ x => x))
  have U' := hide (hU.keep (wrote_below LA Nowhere) (fun _ _ _ _ x => x))
  clear k0 k1 LA L0 H K hU kr
  go_upto_region 2 with (fail)
  generalize W1.alloc (.cells #[.int .i64 cp, .slice ra 0 rc] 38) = W0 at *
  have k0 := k0'.out
  have k1 := k1'.out
  have kr := krH.out
  have L0 := L0'.out
  have H := H'.out
  have K := K'.out
  have U := U'.out
  clear k0' k1' krH L0' H' K' U'
  obtain ⟨S, hS⟩ : ∃ S, Hid (S = W0.heap.size) := ⟨_, rfl⟩
  obtain ⟨r, hr⟩ : ∃ x, Hid (x = W1.heap.size) := ⟨_, rfl⟩
  rw [← hr.out] at kr lt0 lt1 ⊢
  clear hr
  have ltr := boxLt kr
  have hSr : r < S := by rw [hS.out]; exact ltr
  rename_i K2 hK2
  refine wp_region_effL 12 [some 16, some 17, some 18, some 19, some 20, some 21, some 22, some 23, some 24, some 25, some 26, some 10, none] (by kernel_rfl) (by kernel_rfl) (by kernel_rfl) (by kernel_rfl) (by kernel_rfl) (by first | (simp [slotsOf]; done) | (simp [slotsOf, Act.put]; done))
    (fun _ => Nowhere)
    (fun i V lo hi W => match i with
      | 0 => V 0 = .agg #[.slice ia m ic]
      | 1 => V 1 = .slice pa np pcap
      | 2 => ∃ b2 e2, V 2 = .agg #[.slice b2 512 e2, .int .i64 0] ∧ MemOn W (fun b => lo ≤ b ∧ b < hi) (.agg #[.slice b2 512 e2, .int .i64 0]) 512 (fun _ => 0) 0
      | 3 => V 3 = .agg #[.slice ia m ic]
      | 4 => V 4 = .agg #[.int .i64 0, .int .i64 0, .int .i64 255, .int .i64 pc, .bool false, .bool false, .bool false, .bool true]
      | 5 => ∃ q8, V 5 = .agg #[.int .i64 0, .int .i64 0, .int .i64 0, .int .i64 0, .int .i64 0, .bool false, .slice (some ⟨q8, 0, none⟩) 16 16, .slice none 0 0] ∧ PpuOn W (fun b => lo ≤ b ∧ b < hi) (.agg #[.int .i64 0, .int .i64 0, .int .i64 0, .int .i64 0, .int .i64 0, .bool false, .slice (some ⟨q8, 0, none⟩) 16 16, .slice none 0 0]) 0 0 0 0 0 false 16 (fun _ => 0) 0 (fun _ => 0)
      | 6 => V 6 = .agg #[.int .i64 cp, .slice ra 0 rc]
      | 7 => ∃ q8, V 5 = .agg #[.int .i64 0, .int .i64 0, .int .i64 0, .int .i64 0, .int .i64 0, .bool false, .slice (some ⟨q8, 0, none⟩) 16 16, .slice none 0 0] ∧ V 7 = .agg #[.int .i64 0, .int .i64 0, .int .i64 0, .int .i64 0, .int .i64 0, .bool false, .slice (some ⟨q8, 0, none⟩) 16 16, .slice none 0 0, .int .i64 cp, .slice ra 0 rc, .slice none 0 0]
      | 8 => V 8 = .agg #[.int .i64 cp, .slice ra 0 rc]
      | 9 => V 9 = .agg #[.int .i64 0, .int .i64 0, .int .i64 0, .int .i64 0, .int .i64 0, .bool false, .bool false, .int .i64 cp, .slice ra 0 rc, .slice none 0 0]
      | 10 => ∃ b2 e2 q8, V 2 = .agg #[.slice b2 512 e2, .int .i64 0] ∧ V 7 = .agg #[.int .i64 0, .int .i64 0, .int .i64 0, .int .i64 0, .int .i64 0, .bool false, .slice (some ⟨q8, 0, none⟩) 16 16, .slice none 0 0, .int .i64 cp, .slice ra 0 rc, .slice none 0 0] ∧ V 10 = .agg #[.slice ia m ic, .slice pa np pcap, .slice b2 512 e2, .int .i64 0, .int .i64 0, .int .i64 0, .int .i64 255, .int .i64 pc, .bool false, .bool false, .bool false, .bool true, .bool false, .int .i64 0, .int .i64 0, .bool false, .int .i64 0, .bool false, .int .i64 0, .int .i64 0, .slice none 0 0, .int .i64 0, .int .i64 0, .int .i64 0, .int .i64 0, .int .i64 0, .bool false, .slice (some ⟨q8, 0, none⟩) 16 16, .slice none 0 0, .int .i64 cp, .slice ra 0 rc, .slice none 0 0, .int .i64 0, .int .i64 0, .int .i64 0, .int .i64 0, .int .i64 0, .bool false, .bool false, .int .i64 cp, .slice ra 0 rc, .slice none 0 0]
      | 11 => ∃ q, V 11 = .pointer (some ⟨q, 0, none⟩) ∧ W.heap[q]? = some (.cells #[.slice none 0 0, .slice none 0 0, .slice none 0 0, .int .i64 0, .int .i64 0, .int .i64 0, .int .i64 0, .int .i64 0, .bool false, .bool false, .bool false, .bool false, .bool false, .int .i64 0, .int .i64 0, .bool false, .int .i64 0, .bool false, .int .i64 0, .int .i64 0, .slice none 0 0, .int .i64 0, .int .i64 0, .int .i64 0, .int .i64 0, .int .i64 0, .bool false, .slice none 0 0, .slice none 0 0, .int .i64 0, .slice none 0 0, .slice none 0 0, .int .i64 0, .int .i64 0, .int .i64 0, .int .i64 0, .int .i64 0, .bool false, .bool false, .int .i64 0, .slice none 0 0, .slice none 0 0] 46 (0, 0)) ∧ lo ≤ q ∧ q < hi
      | _ => True) ?_ ?_ ?_
  · intro i j o V x lo hi W W' hij _ _ ho hnw hlo hhi hW h
    have nw : ∀ k, waitsB o k = true → k ≠ j := fun k hk e => by rw [e, hnw] at hk; cases hk
    match i, ho, hij, nw, h with
    | 0, ho, hij, nw, h => exact (updV_ne V x hij).trans h
    | 1, ho, hij, nw, h => exact (updV_ne V x hij).trans h
    | 2, ho, hij, nw, h => (obtain ⟨b2, e2, h1, h2⟩ := h; exact ⟨b2, e2, (updV_ne V x hij).trans h1, h2.keep hW (fun _ _ _ _ x => x)⟩)
    | 3, ho, hij, nw, h => exact (updV_ne V x hij).trans h
    | 4, ho, hij, nw, h => exact (updV_ne V x hij).trans h
    | 5, ho, hij, nw, h => (obtain ⟨q8, h1, h2⟩ := h; exact ⟨q8, (updV_ne V x hij).trans h1, h2.keep hW (fun _ _ _ _ x => x)⟩)
    | 6, ho, hij, nw, h => exact (updV_ne V x hij).trans h
    | 7, ho, hij, nw, h => (simp only [List.getElem?_toArray, List.getElem?_cons_zero, List.getElem?_cons_succ, Option.some.injEq] at ho; subst ho; obtain ⟨q8, h1, h2⟩ := h; exact ⟨q8, (updV_ne V x (nw 5 (by kernel_rfl))).trans h1, (updV_ne V x hij).trans h2⟩)
    | 8, ho, hij, nw, h => exact (updV_ne V x hij).trans h
    | 9, ho, hij, nw, h => exact (updV_ne V x hij).trans h
    | 10, ho, hij, nw, h => (simp only [List.getElem?_toArray, List.getElem?_cons_zero, List.getElem?_cons_succ, Option.some.injEq] at ho; subst ho; obtain ⟨b2, e2, q8, h1, h2, h3⟩ := h; exact ⟨b2, e2, q8, (updV_ne V x (nw 2 (by kernel_rfl))).trans h1, (updV_ne V x (nw 7 (by kernel_rfl))).trans h2, (updV_ne V x hij).trans h3⟩)
    | 11, ho, hij, nw, h => (obtain ⟨q, h1, h2, h3⟩ := h; exact ⟨q, (updV_ne V x hij).trans h1, box_wrote h2 hW (fun _ x => x), h3⟩)
    | _ + 12, _, _, _, _ => exact trivial
  · intro i o a' W K8 hin ho F L hw hK
    have LN : Wrote Nowhere W0 W := L.mono (fun b o _ ⟨j, _, _, _, _, h⟩ => h)
    match i with
    | 0 =>
      simp only [List.getElem?_toArray, List.getElem?_cons_zero, List.getElem?_cons_succ, Option.some.injEq] at ho
      subst ho
      have t3 := F.get (t := 3) (v := .pointer (some ⟨w.heap.size, 0, none⟩)) (by decide) rfl
      have rb := boxC (box_wrote k0 LN (fun _ x => x))
      go_simp
      exact hK _ _ (Wrote.refl _ _) (updV_same _ _ _)
    | 1 =>
      simp only [List.getElem?_toArray, List.getElem?_cons_zero, List.getElem?_cons_succ, Option.some.injEq] at ho
      subst ho
      have t1 := F.get (t := 1) (v := .slice pa np pcap) (by decide) rfl
      go_simp
      exact hK _ _ (Wrote.refl _ _) (updV_same _ _ _)
    | 2 =>
      simp only [List.getElem?_toArray, List.getElem?_cons_zero, List.getElem?_cons_succ, Option.some.injEq] at ho
      subst ho
      have hSN : S ≤ W.heap.size := by rw [hS.out]; exact LN.size
      go_simp
      refine (implMemNew W).mono ?_
      rintro e W' ⟨q, rfl, G2, LB⟩
      have M2 := (MemOn.own (bank := 0) G2).mono (E := fun b => W.heap.size ≤ b ∧ b < W'.heap.size) (fun b hb h => ⟨h, hb⟩)
      obtain ⟨b2, e2, hx2⟩ := M2.two
      simp only [Value.agg.injEq, Array.mk.injEq, List.cons.injEq, and_true] at hx2
      subst hx2
      exact hK _ _ (wrote_below LB _) ⟨b2, e2, updV_same _ _ _, M2⟩
    | 3 =>
      simp only [List.getElem?_toArray, List.getElem?_cons_zero, List.getElem?_cons_succ, Option.some.injEq] at ho
      subst ho
      have t3 := F.get (t := 3) (v := .pointer (some ⟨w.heap.size, 0, none⟩)) (by decide) rfl
      have rb := boxC (box_wrote k0 LN (fun _ x => x))
      go_simp
      exact hK _ _ (Wrote.refl _ _) (updV_same _ _ _)
    | 4 =>
      simp only [List.getElem?_toArray, List.getElem?_cons_zero, List.getElem?_cons_succ, Option.some.injEq] at ho
      subst ho
      have q3 : a'.tmps[19]?.getD undef = .agg #[.slice ia m ic] := by obtain ⟨_, _, _, _, q⟩ := hw 3 (by kernel_rfl); exact q
      go_simp
      refine (HC.out W _ _ (H.keep LN (fun _ _ _ _ x => x)).ints).mono ?_
      rintro e W' ⟨rfl, LB⟩
      exact hK _ _ (wrote_below LB _) (updV_same _ _ _)
    | 5 =>
      simp only [List.getElem?_toArray, List.getElem?_cons_zero, List.getElem?_cons_succ, Option.some.injEq] at ho
      subst ho
      have hSN : S ≤ W.heap.size := by rw [hS.out]; exact LN.size
      go_simp
      refine (implPpuNew W).mono ?_
      rintro e W' ⟨q8, rfl, R8, LB⟩
      exact hK _ _ (wrote_below LB _) ⟨q8, updV_same _ _ _, ⟨_, _, _, _, rfl, R8.onD ⟨R8.parts.1, R8.parts.2.1⟩, SlOn.zero _ _, fun b o _ h => absurd h (foot_none _ _ _)⟩⟩
    | 6 =>
      simp only [List.getElem?_toArray, List.getElem?_cons_zero, List.getElem?_cons_succ, Option.some.injEq] at ho
      subst ho
      have t8 := F.get (t := 8) (v := .pointer (some ⟨r, 0, none⟩)) (by decide) rfl
      have rb := boxC (box_wrote kr LN (fun _ x => x))
      go_simp
      exact hK _ _ (Wrote.refl _ _) (updV_same _ _ _)
    | 7 =>
      simp only [List.getElem?_toArray, List.getElem?_cons_zero, List.getElem?_cons_succ, Option.some.injEq] at ho
      subst ho
      obtain ⟨_, _, _, _, q8, q5, -⟩ := hw 5 (by kernel_rfl)
      have q5' : a'.tmps[21]?.getD undef = .agg #[.int .i64 0, .int .i64 0, .int .i64 0, .int .i64 0, .int .i64 0, .bool false, .slice (some ⟨q8, 0, none⟩) 16 16, .slice none 0 0] := q5
      have q6 : a'.tmps[22]?.getD undef = .agg #[.int .i64 cp, .slice ra 0 rc] := by obtain ⟨_, _, _, _, q⟩ := hw 6 (by kernel_rfl); exact q
      go_simp
      exact hK _ _ (Wrote.refl _ _) ⟨q8, (updV_ne _ _ (by decide)).trans q5, updV_same _ _ _⟩
    | 8 =>
      simp only [List.getElem?_toArray, List.getElem?_cons_zero, List.getElem?_cons_succ, Option.some.injEq] at ho
      subst ho
      have t8 := F.get (t := 8) (v := .pointer (some ⟨r, 0, none⟩)) (by decide) rfl
      have rb := boxC (box_wrote kr LN (fun _ x => x))
      go_simp
      exact hK _ _ (Wrote.refl _ _) (updV_same _ _ _)
    | 9 =>
      simp only [List.getElem?_toArray, List.getElem?_cons_zero, List.getElem?_cons_succ, Option.some.injEq] at ho
      subst ho
      have q8 : a'.tmps[24]?.getD undef = .agg #[.int .i64 cp, .slice ra 0 rc] := by obtain ⟨_, _, _, _, q⟩ := hw 8 (by kernel_rfl); exact q
      go_simp
      exact hK _ _ (Wrote.refl _ _) (updV_same _ _ _)
    | 10 =>
      simp only [List.getElem?_toArray, List.getElem?_cons_zero, List.getElem?_cons_succ, Option.some.injEq] at ho
      subst ho
      have q0 : a'.tmps[16]?.getD undef = .agg #[.slice ia m ic] := by obtain ⟨_, _, _, _, q⟩ := hw 0 (by kernel_rfl); exact q
      have q1 : a'.tmps[17]?.getD undef = .slice pa np pcap := by obtain ⟨_, _, _, _, q⟩ := hw 1 (by kernel_rfl); exact q
      obtain ⟨_, _, _, _, b2, e2, q2, -⟩ := hw 2 (by kernel_rfl)
      have q2' : a'.tmps[18]?.getD undef = .agg #[.slice b2 512 e2, .int .i64 0] := q2
      have q4 : a'.tmps[20]?.getD undef = .agg #[.int .i64 0, .int .i64 0, .int .i64 255, .int .i64 pc, .bool false, .bool false, .bool false, .bool true] := by obtain ⟨_, _, _, _, q⟩ := hw 4 (by kernel_rfl); exact q
      obtain ⟨_, _, _, _, q8, -, q7⟩ := hw 7 (by kernel_rfl)
      have q7' : a'.tmps[23]?.getD undef = .agg #[.int .i64 0, .int .i64 0, .int .i64 0, .int .i64 0, .int .i64 0, .bool false, .slice (some ⟨q8, 0, none⟩) 16 16, .slice none 0 0, .int .i64 cp, .slice ra 0 rc, .slice none 0 0] := q7
      have q9 : a'.tmps[25]?.getD undef = .agg #[.int .i64 0, .int .i64 0, .int .i64 0, .int .i64 0, .int .i64 0, .bool false, .bool false, .int .i64 cp, .slice ra 0 rc, .slice none 0 0] := by obtain ⟨_, _, _, _, q⟩ := hw 9 (by kernel_rfl); exact q
      go_simp
      exact hK _ _ (Wrote.refl _ _) ⟨b2, e2, q8, (updV_ne _ _ (by decide)).trans q2, (updV_ne _ _ (by decide)).trans q7, updV_same _ _ _⟩
    | 11 =>
      simp only [List.getElem?_toArray, List.getElem?_cons_zero, List.getElem?_cons_succ, Option.some.injEq] at ho
      subst ho
      go_simp
      exact hK _ _ ((Wrote.refl _ W).alloc _) ⟨W.heap.size, updV_same _ _ _, box_new W _ _, Nat.le_refl _, by simp⟩
    | _ + 12 => omega
  · intro o a' W K8 ho F L lo hi hφ hdj hK
    have LN : Wrote Nowhere W0 W := L.mono (fun b o _ ⟨j, h⟩ => h)
    simp only [List.getElem?_toArray, List.getElem?_cons_zero, List.getElem?_cons_succ, Option.some.injEq] at ho
    subst ho
    obtain ⟨a2, -, z2, b2, e2, v2, G2⟩ := hφ 2 (by decide)
    obtain ⟨a5, -, z5, q8, v5, G3⟩ := hφ 5 (by decide)
    obtain ⟨-, -, -, q8', w5, v7⟩ := hφ 7 (by decide)
    obtain ⟨-, -, -, b2', e2', q8'', w2, w7, v10⟩ := hφ 10 (by decide)
    obtain ⟨a11, -, z11, bx, v11, rX, x1, x2⟩ := hφ 11 (by decide)
    rw [v5] at w5
    simp only [Value.agg.injEq, Array.mk.injEq, List.cons.injEq, Value.slice.injEq, Option.some.injEq, Addr.mk.injEq, and_true, true_and] at w5
    subst w5
    rw [v2] at w2
    rw [v7] at w7
    simp only [Value.agg.injEq, Array.mk.injEq, List.cons.injEq, Value.slice.injEq, Option.some.injEq, Addr.mk.injEq, and_true, true_and] at w2 w7
    obtain ⟨rfl, rfl⟩ := w2
    subst w7
    have hs10 : a'.tmps[26]?.getD undef = .agg #[.slice ia m ic, .slice pa np pcap, .slice b2 512 e2, .int .i64 0, .int .i64 0, .int .i64 0, .int .i64 255, .int .i64 pc, .bool false, .bool false, .bool false, .bool true, .bool false, .int .i64 0, .int .i64 0, .bool false, .int .i64 0, .bool false, .int .i64 0, .int .i64 0, .slice none 0 0, .int .i64 0, .int .i64 0, .int .i64 0, .int .i64 0, .int .i64 0, .bool false, .slice (some ⟨q8, 0, none⟩) 16 16, .slice none 0 0, .int .i64 cp, .slice ra 0 rc, .slice none 0 0, .int .i64 0, .int .i64 0, .int .i64 0, .int .i64 0, .int .i64 0, .bool false, .bool false, .int .i64 cp, .slice ra 0 rc, .slice none 0 0] := v10
    have hs11 : a'.tmps[10]?.getD undef = .pointer (some ⟨bx, 0, none⟩) := v11
    refine wp_store_row _ _ _ rfl bx #[.slice ia m ic, .slice pa np pcap, .slice b2 512 e2, .int .i64 0, .int .i64 0, .int .i64 0, .int .i64 255, .int .i64 pc, .bool false, .bool false, .bool false, .bool true, .bool false, .int .i64 0, .int .i64 0, .bool false, .int .i64 0, .bool false, .int .i64 0, .int .i64 0, .slice none 0 0, .int .i64 0, .int .i64 0, .int .i64 0, .int .i64 0, .int .i64 0, .bool false, .slice (some ⟨q8, 0, none⟩) 16 16, .slice none 0 0, .int .i64 cp, .slice ra 0 rc, .slice none 0 0, .int .i64 0, .int .i64 0, .int .i64 0, .int .i64 0, .int .i64 0, .bool false, .bool false, .int .i64 cp, .slice ra 0 rc, .slice none 0 0] (by simpa [Act.eval] using hs11) (by simpa [Act.eval] using hs10) _ _ rX infoSplit rfl (by first | kernel_rfl | simp [Value.oneCell']) ?_
    refine hK _ _ ?_
    have hbS : S ≤ bx := by have := hS.out; omega
    have WW := wrote_setRowU rX #[.slice ia m ic, .slice pa np pcap, .slice b2 512 e2, .int .i64 0, .int .i64 0, .int .i64 0, .int .i64 255, .int .i64 pc, .bool false, .bool false, .bool false, .bool true, .bool false, .int .i64 0, .int .i64 0, .bool false, .int .i64 0, .bool false, .int .i64 0, .int .i64 0, .slice none 0 0, .int .i64 0, .int .i64 0, .int .i64 0, .int .i64 0, .int .i64 0, .bool false, .slice (some ⟨q8, 0, none⟩) 16 16, .slice none 0 0, .int .i64 cp, .slice ra 0 rc, .slice none 0 0, .int .i64 0, .int .i64 0, .int .i64 0, .int .i64 0, .int .i64 0, .bool false, .bool false, .int .i64 cp, .slice ra 0 rc, .slice none 0 0]
    have kX := setRow_heap _ _ _ #[.slice ia m ic, .slice pa np pcap, .slice b2 512 e2, .int .i64 0, .int .i64 0, .int .i64 0, .int .i64 255, .int .i64 pc, .bool false, .bool false, .bool false, .bool true, .bool false, .int .i64 0, .int .i64 0, .bool false, .int .i64 0, .bool false, .int .i64 0, .int .i64 0, .slice none 0 0, .int .i64 0, .int .i64 0, .int .i64 0, .int .i64 0, .int .i64 0, .bool false, .slice (some ⟨q8, 0, none⟩) 16 16, .slice none 0 0, .int .i64 cp, .slice ra 0 rc, .slice none 0 0, .int .i64 0, .int .i64 0, .int .i64 0, .int .i64 0, .int .i64 0, .bool false, .bool false, .int .i64 cp, .slice ra 0 rc, .slice none 0 0] _ _ rX
    have d2 := hdj 2 11 (by decide) (by decide) (by decide)
    have d5 := hdj 5 11 (by decide) (by decide) (by decide)
    have kR := box_wrote (box_wrote k1 LN (fun _ x => x)) WW (fun o (e : _ = _) => by have := boxLt k1; have := hS.out; omega)
    have L1 : Below w.heap.size w (W.setRow bx #[.slice ia m ic, .slice pa np pcap, .slice b2 512 e2, .int .i64 0, .int .i64 0, .int .i64 0, .int .i64 255, .int .i64 pc, .bool false, .bool false, .bool false, .bool true, .bool false, .int .i64 0, .int .i64 0, .bool false, .int .i64 0, .bool false, .int .i64 0, .int .i64 0, .slice none 0 0, .int .i64 0, .int .i64 0, .int .i64 0, .int .i64 0, .int .i64 0, .bool false, .slice (some ⟨q8, 0, none⟩) 16 16, .slice none 0 0, .int .i64 cp, .slice ra 0 rc, .slice none 0 0, .int .i64 0, .int .i64 0, .int .i64 0, .int .i64 0, .int .i64 0, .bool false, .bool false, .int .i64 cp, .slice ra 0 rc, .slice none 0 0]) := (L0.trans (LN.below L0.size (fun _ _ _ x => x))).trans (WW.below (Nat.le_trans L0.size LN.size) (fun b o hb (e : b = _) => by have := L0.size; have := hS.out; omega))
    have hGm := (G2.keep WW (fun b o hb hlt (e : b = _) => by omega)).mono (E := fun _ => True) (fun _ _ _ => trivial)
    have hGp := (G3.keep WW (fun b o hb hlt (e : b = _) => by omega)).mono (E := fun _ => True) (fun _ _ _ => trivial)
    have LNW : Below W0.heap.size W0 (W.setRow bx #[.slice ia m ic, .slice pa np pcap, .slice b2 512 e2, .int .i64 0, .int .i64 0, .int .i64 0, .int .i64 255, .int .i64 pc, .bool false, .bool false, .bool false, .bool true, .bool false, .int .i64 0, .int .i64 0, .bool false, .int .i64 0, .bool false, .int .i64 0, .int .i64 0, .slice none 0 0, .int .i64 0, .int .i64 0, .int .i64 0, .int .i64 0, .int .i64 0, .bool false, .slice (some ⟨q8, 0, none⟩) 16 16, .slice none 0 0, .int .i64 cp, .slice ra 0 rc, .slice none 0 0, .int .i64 0, .int .i64 0, .int .i64 0, .int .i64 0, .int .i64 0, .bool false, .bool false, .int .i64 cp, .slice ra 0 rc, .slice none 0 0]) := (LN.below (Nat.le_refl _) (fun _ _ _ x => x)).trans (WW.below LN.size (fun b o hb (e : b = _) => by have := hS.out; omega))
    have hH := H.keep (wrote_below LNW Nowhere) (fun _ _ _ _ x => x)
    have hK3 := K.keep (wrote_below LNW Nowhere) (fun _ _ _ _ x => x)
    have hU := U.keep (wrote_below LNW Nowhere) (fun _ _ _ _ x => x)
    have HON : Hid (SplitOn (W.setRow bx #[.slice ia m ic, .slice pa np pcap, .slice b2 512 e2, .int .i64 0, .int .i64 0, .int .i64 0, .int .i64 255, .int .i64 pc, .bool false, .bool false, .bool false, .bool true, .bool false, .int .i64 0, .int .i64 0, .bool false, .int .i64 0, .bool false, .int .i64 0, .int .i64 0, .slice none 0 0, .int .i64 0, .int .i64 0, .int .i64 0, .int .i64 0, .int .i64 0, .bool false, .slice (some ⟨q8, 0, none⟩) 16 16, .slice none 0 0, .int .i64 cp, .slice ra 0 rc, .slice none 0 0, .int .i64 0, .int .i64 0, .int .i64 0, .int .i64 0, .int .i64 0, .bool false, .bool false, .int .i64 cp, .slice ra 0 rc, .slice none 0 0]) (fun _ _ => True) (.agg #[.slice ia m ic, .slice pa np pcap, .slice b2 512 e2, .int .i64 0, .int .i64 0, .int .i64 0, .int .i64 255, .int .i64 pc, .bool false, .bool false, .bool false, .bool true, .bool false, .int .i64 0, .int .i64 0, .bool false, .int .i64 0, .bool false, .int .i64 0, .int .i64 0, .slice none 0 0, .int .i64 0, .int .i64 0, .int .i64 0, .int .i64 0, .int .i64 0, .bool false, .slice (some ⟨q8, 0, none⟩) 16 16, .slice none 0 0, .int .i64 cp, .slice ra 0 rc, .slice none 0 0, .int .i64 0, .int .i64 0, .int .i64 0, .int .i64 0, .int .i64 0, .bool false, .bool false, .int .i64 cp, .slice ra 0 rc, .slice none 0 0]) d) := by
      show SplitOn _ _ _ _
      rw [hd.out]
      exact newS_onT hpc.out hH hK3 hGm hGp hU
    rw [F.same, show slotsOf [some 16, some 17, some 18, some 19, some 20, some 21, some 22, some 23, some 24, some 25, some 26, some 10, none] = [16, 17, 18, 19, 20, 21, 22, 23, 24, 25, 26, 10] from rfl]
    simp only [List.foldl_cons, List.foldl_nil]
    rw [hs11]
    generalize a'.tmps[16]?.getD undef = g16
    generalize a'.tmps[17]?.getD undef = g17
    generalize a'.tmps[18]?.getD undef = g18
    generalize a'.tmps[19]?.getD undef = g19
    generalize a'.tmps[20]?.getD undef = g20
    generalize a'.tmps[21]?.getD undef = g21
    generalize a'.tmps[22]?.getD undef = g22
    generalize a'.tmps[23]?.getD undef = g23
    generalize a'.tmps[24]?.getD undef = g24
    generalize a'.tmps[25]?.getD undef = g25
    generalize a'.tmps[26]?.getD undef = g26
    clear hφ hdj F L LN WW LNW hK k0 k1 kr L0 H K U hGm hGp hH hK3 hU G2 G3 rX v2 v5 v7 v10 v11 hs10 hs11
    have hXs := boxLt kX
    have hRl : w.heap.size + 1 ≠ bx := by have := hS.out; omega
    generalize W.setRow bx #[.slice ia m ic, .slice pa np pcap, .slice b2 512 e2, .int .i64 0, .int .i64 0, .int .i64 0, .int .i64 255, .int .i64 pc, .bool false, .bool false, .bool false, .bool true, .bool false, .int .i64 0, .int .i64 0, .bool false, .int .i64 0, .bool false, .int .i64 0, .int .i64 0, .slice none 0 0, .int .i64 0, .int .i64 0, .int .i64 0, .int .i64 0, .int .i64 0, .bool false, .slice (some ⟨q8, 0, none⟩) 16 16, .slice none 0 0, .int .i64 cp, .slice ra 0 rc, .slice none 0 0, .int .i64 0, .int .i64 0, .int .i64 0, .int .i64 0, .int .i64 0, .bool false, .bool false, .int .i64 cp, .slice ra 0 rc, .slice none 0 0] = W3 at *
    refine hK2 _ _ ?_
    clear hK2
    go_simp
    obtain ⟨cs0, hcs0⟩ : ∃ x : Array Value, Hid (x = #[.slice ia m ic, .slice pa np pcap, .slice b2 512 e2, .int .i64 0, .int .i64 0, .int .i64 0, .int .i64 255, .int .i64 pc, .bool false, .bool false, .bool false, .bool true, .bool false, .int .i64 0, .int .i64 0, .bool false, .int .i64 0, .bool false, .int .i64 0, .int .i64 0, .slice none 0 0, .int .i64 0, .int .i64 0, .int .i64 0, .int .i64 0, .int .i64 0, .bool false, .slice (some ⟨q8, 0, none⟩) 16 16, .slice none 0 0, .int .i64 cp, .slice ra 0 rc, .slice none 0 0, .int .i64 0, .int .i64 0, .int .i64 0, .int .i64 0, .int .i64 0, .bool false, .bool false, .int .i64 cp, .slice ra 0 rc, .slice none 0 0]) := ⟨_, rfl⟩
    rw [← hcs0.out] at kX HON
    have hsz0 : cs0.size = 42 := by rw [hcs0.out]; rfl
    have HSZ0 := hide hsz0
    clear hcs0 hsz0
    go_wp2_with (refine wpList_load_row rfl _ _ rfl bx rfl _ _ _ _ kX Tryz.underlying46 rfl (infoAtT infoSplit HSZ0.out) ?_)
    refine (implSplitOk W3 _ _ d HON.out).mono ?_
    rintro e W4 ⟨rfl, LB⟩
    rw [HOD.out]
    replace L1 := below_snoc L1 LB
    replace kX := box_keep kX LB (boxLt kX)
    replace kR := box_keep kR LB (boxLt kR)
    have HON4 := hide (HON.out.below LB)
    clear HON LB
    cases ok
    case false =>
      go_wp2_with (refine wpList_store_row rfl _ _ _ rfl (w.heap.size + 1) #[.slice none 0 0, .slice none 0 0, .slice none 0 0, .int .i64 0, .int .i64 0, .int .i64 0, .int .i64 0, .int .i64 0, .bool false, .bool false, .bool false, .bool false, .bool false, .int .i64 0, .int .i64 0, .bool false, .int .i64 0, .bool false, .int .i64 0, .int .i64 0, .slice none 0 0, .int .i64 0, .int .i64 0, .int .i64 0, .int .i64 0, .int .i64 0, .bool false, .slice none 0 0, .slice none 0 0, .int .i64 0, .slice none 0 0, .slice none 0 0, .int .i64 0, .int .i64 0, .int .i64 0, .int .i64 0, .int .i64 0, .bool false, .bool false, .int .i64 0, .slice none 0 0, .slice none 0 0] rfl rfl _ _ kR infoSplit rfl (by kernel_rfl) ?_)
      have kF := setRow_heap _ _ _ #[.slice none 0 0, .slice none 0 0, .slice none 0 0, .int .i64 0, .int .i64 0, .int .i64 0, .int .i64 0, .int .i64 0, .bool false, .bool false, .bool false, .bool false, .bool false, .int .i64 0, .int .i64 0, .bool false, .int .i64 0, .bool false, .int .i64 0, .int .i64 0, .slice none 0 0, .int .i64 0, .int .i64 0, .int .i64 0, .int .i64 0, .int .i64 0, .bool false, .slice none 0 0, .slice none 0 0, .int .i64 0, .slice none 0 0, .slice none 0 0, .int .i64 0, .int .i64 0, .int .i64 0, .int .i64 0, .int .i64 0, .bool false, .bool false, .int .i64 0, .slice none 0 0, .slice none 0 0] _ _ kR
      have WW := wrote_setRowU kR #[.slice none 0 0, .slice none 0 0, .slice none 0 0, .int .i64 0, .int .i64 0, .int .i64 0, .int .i64 0, .int .i64 0, .bool false, .bool false, .bool false, .bool false, .bool false, .int .i64 0, .int .i64 0, .bool false, .int .i64 0, .bool false, .int .i64 0, .int .i64 0, .slice none 0 0, .int .i64 0, .int .i64 0, .int .i64 0, .int .i64 0, .int .i64 0, .bool false, .slice none 0 0, .slice none 0 0, .int .i64 0, .slice none 0 0, .slice none 0 0, .int .i64 0, .int .i64 0, .int .i64 0, .int .i64 0, .int .i64 0, .bool false, .bool false, .int .i64 0, .slice none 0 0, .slice none 0 0]
      have LF := L1.trans (WW.below L1.size (fun b o hb (e : b = _) => by omega))
      clear kR WW L1 kX
      generalize W4.setRow (w.heap.size + 1) #[.slice none 0 0, .slice none 0 0, .slice none 0 0, .int .i64 0, .int .i64 0, .int .i64 0, .int .i64 0, .int .i64 0, .bool false, .bool false, .bool false, .bool false, .bool false, .int .i64 0, .int .i64 0, .bool false, .int .i64 0, .bool false, .int .i64 0, .int .i64 0, .slice none 0 0, .int .i64 0, .int .i64 0, .int .i64 0, .int .i64 0, .int .i64 0, .bool false, .slice none 0 0, .slice none 0 0, .int .i64 0, .slice none 0 0, .slice none 0 0, .int .i64 0, .int .i64 0, .int .i64 0, .int .i64 0, .int .i64 0, .bool false, .bool false, .int .i64 0, .slice none 0 0, .slice none 0 0] = W5 at *
      go_wp2
      refine bodyPost_ret (v := .tuple #[.agg #[.slice none 0 0, .slice none 0 0, .slice none 0 0, .int .i64 0, .int .i64 0, .int .i64 0, .int .i64 0, .int .i64 0, .bool false, .bool false, .bool false, .bool false, .bool false, .int .i64 0, .int .i64 0, .bool false, .int .i64 0, .bool false, .int .i64 0, .int .i64 0, .slice none 0 0, .int .i64 0, .int .i64 0, .int .i64 0, .int .i64 0, .int .i64 0, .bool false, .slice none 0 0, .slice none 0 0, .int .i64 0, .slice none 0 0, .slice none 0 0, .int .i64 0, .int .i64 0, .int .i64 0, .int .i64 0, .int .i64 0, .bool false, .bool false, .int .i64 0, .slice none 0 0, .slice none 0 0], .bool false]) (by exact results_row_tmpU Tryz.results9 _ _ (w.heap.size + 1) _ _ _ _ rfl kF Tryz.underlying46 rfl infoSplit) rfl ?_
      exact ⟨_, rfl, ⟨fun _ _ => False, zeroS_on, fun i j b h => h.elim, fun i b h => h.elim⟩, LF⟩
    have HD := hide (HDD.out rfl)
    go_wp2_with (refine wpList_load_row rfl _ _ rfl bx rfl _ _ _ _ kX Tryz.underlying46 rfl (infoAtT infoSplit HSZ0.out) ?_)
    refine (copySplit W4 _ _ d HON4.out).mono ?_
    rintro e W5 ⟨v', rfl, HCP, LB⟩
    obtain ⟨D, hO, hD, hB⟩ := HCP.nw
    obtain ⟨cs', rfl, hsz', hone'⟩ := hO.agg
    replace L1 := below_snoc L1 LB
    have ltR := boxLt kR
    replace kR := box_keep kR LB (boxLt kR)
    have HSZ' := hide hsz'
    have HONE := hide hone'
    have HO' := hide (And.intro hO (And.intro hD hB))
    clear HCP hsz' hone' hO hD hB LB kX HON4
    go_wp2_with (refine wpList_store_row rfl _ _ _ rfl (w.heap.size + 1) cs' rfl rfl _ _ kR (infoAtT infoSplit HSZ'.out) (by rw [HSZ'.out]; rfl) HONE.out ?_)
    have kF := setRow_heap _ _ _ cs' _ _ kR
    have WW := wrote_setRowU kR cs'
    have LF := L1.trans (WW.below L1.size (fun b o hb (e : b = _) => by omega))
    have hs5 : (W5.setRow (w.heap.size + 1) cs').heap.size = W5.heap.size := by simp [World.setRow]
    have HN : Hid (SplitNw w (W5.setRow (w.heap.size + 1) cs') (.agg cs') d) := ⟨D, HO'.out.1.keep WW (fun i b o hb hlt (e : b = _) => by have := (HO'.out.2.2 i b hb).1; omega), HO'.out.2.1, fun i b hb => by have := HO'.out.2.2 i b hb; have := L1.size; rw [hs5]; constructor <;> omega⟩
    clear kR WW L1 HO' hs5
    generalize W5.setRow (w.heap.size + 1) cs' = W6 at *
    go_wp2
    refine bodyPost_ret (v := .tuple #[.agg cs', .bool true]) (by exact results_row_tmpU Tryz.results9 _ _ (w.heap.size + 1) _ _ _ _ rfl kF Tryz.underlying46 rfl (infoAtT infoSplit HSZ'.out)) rfl ?_
    exact ⟨_, rfl, by rw [← HD.out]; exact HN.out, LF⟩
end Go.Proofs.YtjcaligejlhjdaaGreat
