/-
  Draws of images: an image in new memory, a cell of it written, a bank of it changed.
-/
import Derived.Test.YtpaedkefmebjjafDoorX2
import Derived.Test.YtpaedkefmebjjafDoorP2
import Derived.Deep.RegionLaw
import Derived.Deep.AppendLies
namespace Go.Proofs.YtpaedkefmebjjafDoor
open Go.ChangeShapes Go.WideShapes Go.ChangeAt Go.RowKit
def OutFree (w : World) (v : Value) (m : Nat) : Prop := ∀ a cap, v = .slice a m cap → Free w (Foot a m)
theorem OutFree.keep {w w' : World} {R : Nat → Nat → Prop} {v : Value} {m : Nat} (h : OutFree w v m) (hw : Wrote R w w') : OutFree w' v m := fun a cap e => (h a cap e).keep hw
def AtC (b o : Nat) : Nat → Nat → Prop := fun b' o' => b' = b ∧ o' = o
theorem wrote_at (w : World) (b o : Nat) (x : Value) : Wrote (AtC b o) w (w.setCell ⟨b, o, none⟩ x) := (Wrote.refl _ _).setCell (fun _ => ⟨rfl, rfl⟩) x
theorem psum_leK {ln : Nat → Nat} {K : Nat} : ∀ {m : Nat}, (∀ i, i < m → ln i ≤ K) → psum ln m ≤ m * K
  | 0, _ => by simp [psum]
  | m + 1, h => by
    have h1 := psum_leK (m := m) (fun i hi => h i (by omega))
    have h2 := h m (by omega)
    rw [Nat.succ_mul]
    show psum ln m + ln m ≤ _
    omega
theorem OwnSS.setInner {w : World} {lo : Nat} {v : Value} {m : Nat} {ra : Nat → Option Addr} {ln rc : Nat → Nat} {f : Nat → Nat → Int} (h : OwnSS w lo v m ra ln rc f) (i j b off : Nat) (hi : i < m) (hj : j < ln i) (ha : ra i = some ⟨b, off, none⟩) (x : Int) :
    OwnSS (w.setCell ⟨b, off + j, none⟩ (.int .i64 x)) lo v m ra ln rc (fun p q => if p = i ∧ q = j then x else f p q) := by
  have hW := wrote_at w b (off + j) (.int .i64 x)
  have hF : Foot (ra i) (ln i) b (off + j) := by rw [ha]; exact foot_at hj
  refine ⟨h.sep.keep hW (fun b' o' hR => ⟨i, hi, by obtain ⟨rfl, rfl⟩ := hR; exact hF⟩), fun p hp => ?_, h.inner, h.outer, h.len⟩
  by_cases e : p = i
  · subst e
    intro q hq
    obtain ⟨b', off', e', hc⟩ := h.rows p hp q hq
    rw [ha] at e'
    simp only [Option.some.injEq, Addr.mk.injEq, and_true] at e'
    obtain ⟨rfl, rfl⟩ := e'
    refine ⟨b, off, ha, ?_⟩
    by_cases e2 : q = j
    · subst e2
      rw [World.cell?_setCell_same _ _ _ hc]
      simp
    · rw [World.cell?_setCell_other _ _ _ _ (by intro h; simp only [Addr.mk.injEq] at h; omega), hc]
      simp [e2]
  · exact ((h.rows p hp).keep hW (fun b' o' hF' hR => by obtain ⟨rfl, rfl⟩ := hR; exact h.sep.disj p i hp hi e _ _ hF' hF)).congr (fun q _ => by simp [e])
theorem OwnSS.setOuter {w : World} {lo : Nat} {v : Value} {m : Nat} {ra : Nat → Option Addr} {ln rc : Nat → Nat} {f : Nat → Nat → Int} (h : OwnSS w lo v m ra ln rc f) (i b off cap : Nat) (hi : i < m) (hv : v = .slice (some ⟨b, off, none⟩) m cap) (a' : Option Addr) (n' c' : Nat) (g : Nat → Int)
    (hr : RowOf .i64 w a' n' g) (hfr : Free w (Foot a' n')) (hlo : ∀ b o, Foot a' n' b o → lo ≤ b) (hn : n' ≤ 1048576) (hout : ∀ b' o', Foot a' n' b' o' → ¬ Foot (some ⟨b, off, none⟩) m b' o')
    (hdis : ∀ p, p < m → p ≠ i → ∀ b' o', Foot a' n' b' o' → ¬ Foot (ra p) (ln p) b' o') :
    OwnSS (w.setCell ⟨b, off + i, none⟩ (.slice a' n' c')) lo v m (fun p => if p = i then a' else ra p) (fun p => if p = i then n' else ln p) (fun p => if p = i then c' else rc p) (fun p => if p = i then g else f p) := by
  have hW := wrote_at w b (off + i) (.slice a' n' c')
  obtain ⟨⟨⟨a, cap', hv', hm, ho⟩, hf, hdj, hs⟩, hrw, hin, hou, hl⟩ := h
  have hva := hv
  rw [hv] at hv'
  simp only [Value.slice.injEq] at hv'
  obtain ⟨rfl, _, rfl⟩ := hv'
  have hlen : ∀ p, p < m → (if p = i then n' else ln p) ≤ 1048576 := fun p hp => by split; exact hn; exact hl p hp
  have hoc : ∀ p, p < m → w.cell? ⟨b, off + p, none⟩ = some (.slice (ra p) (ln p) (rc p)) ∧ ∀ j, j < m → ¬ Foot (ra j) (ln j) b (off + p) := fun p hp => by
    obtain ⟨b2, off2, e2, hc2, hn2⟩ := ho p hp
    simp only [Option.some.injEq, Addr.mk.injEq, and_true] at e2
    obtain ⟨rfl, rfl⟩ := e2
    exact ⟨hc2, hn2⟩
  refine ⟨⟨⟨some ⟨b, off, none⟩, cap, hva, hm, fun p hp => ⟨b, off, rfl, ?_, fun j hj => ?_⟩⟩, fun p hp => ?_, fun p q hp hq hpq b' o' h1 => ?_, ?_⟩, fun p hp => ?_, fun p hp b' o' hF => ?_, hou, hlen⟩
  · by_cases e : p = i
    · subst e
      rw [World.cell?_setCell_same _ _ _ (hoc p hp).1]
      simp
    · rw [World.cell?_setCell_other _ _ _ _ (by intro h; simp only [Addr.mk.injEq] at h; omega), (hoc p hp).1]
      simp [e]
  · by_cases e : j = i
    · subst e
      simp only
      exact fun hF => hout _ _ hF (foot_at hp)
    · simp only [if_neg e]
      exact (hoc p hp).2 j hj
  · by_cases e : p = i
    · subst e
      simp only
      exact hfr.keep hW
    · simp only [if_neg e]
      exact (hf p hp).keep hW
  · by_cases e : p = i
    · subst e
      have e2 : ¬ q = p := fun x => hpq x.symm
      simp only at h1
      simp only [if_neg e2]
      exact hdis q hq e2 _ _ h1
    · simp only [if_neg e] at h1
      by_cases e2 : q = i
      · subst e2
        simp only
        exact fun hF => hdis p hp e _ _ hF h1
      · simp only [if_neg e2]
        exact hdj p q hp hq hpq _ _ h1
  · exact Nat.le_trans (psum_leK hlen) (Nat.le_trans (Nat.mul_le_mul_right _ hm) (by decide))
  · by_cases e : p = i
    · subst e
      simp only
      exact hr.keep hW (fun b' o' hF hR => by obtain ⟨rfl, rfl⟩ := hR; exact hout _ _ hF (foot_at hi))
    · simp only [if_neg e]
      exact (hrw p hp).keep hW (fun b' o' hF hR => by obtain ⟨rfl, rfl⟩ := hR; exact (hoc i hi).2 p hp hF)
  · by_cases e : p = i
    · subst e
      simp only at hF
      exact hlo _ _ hF
    · simp only [if_neg e] at hF
      exact hin p hp _ _ hF
/-- A call of a Go function, by its contract, as one step of a region that draws its order. -/
theorem step_call {P : Program} {ops : Array Oper} {o : Oper} {a : Act} {w : World} {K : Act → World → Prop} {Q : Exit → Act → World → Prop} {E : Prop} (hg : o.guard = none) (f : FuncId) (vs : Array Value)
    (hE : (execOp a.eval o).run P w = .ok (.enter f vs) w)
    (h : Calls P f vs w fun e w' => ∃ v, e = .returned v ∧ K (a.put o.dst v) w') : if Region.wanted o (yielded ops a.tmps) = true then Oper.wp P o a w K Q else E := by
  have hw : Region.wanted o (yielded ops a.tmps) = true := by simp [Region.wanted, hg]
  rw [if_pos hw]
  unfold Oper.wp
  rw [hE, Oper.upon_enter]
  exact h.mono (by rintro e w' ⟨v, rfl, hk⟩; exact hk)
theorem Step.low {c : Nat} {u v w : World} (h : Step c u v) (k : Below u.heap.size v w) : Step c u w :=
  ⟨k.os.trans h.os, k.tape.trans h.tape, k.output.trans h.output, Nat.le_trans h.size k.size, fun i hi hc => (k.block i hi).trans (h.block i hi hc)⟩
theorem Banks.congrF {w : World} {lo q : Nat} {gb : Nat → Nat} {F G : Nat → Nat → Int} (h : Banks w lo q gb F) (e : ∀ i, i < q → F i = G i) : Banks w lo q gb G :=
  ⟨fun i hi => e i hi ▸ h.rows i hi, h.free, h.low, h.inj⟩
/-- The image that is drawn, bank by bank: its box at w.heap.size + 1, its rows in new memory. -/
structure Grow (w : World) (B c : Nat) (a : Option Addr) (len cap : Nat) (wr : World) (q : Nat) (gb cp : Nat → Nat) (F : Nat → Nat → Int) (ov : Value) : Prop where
  bk : Banks wr (w.heap.size + 2) q gb F
  own : wr.ownsRow (w.heap.size + 2) 27 1 ov q (outs q gb cp)
  dj : ∀ g, ov.ownBlock = some g → ∀ i, i < q → gb i ≠ g
  cx : wr.cell? ⟨w.heap.size + 1, 0, none⟩ = some ov
  fx : wr.frozen? ⟨w.heap.size + 1, 0, none⟩ = false
  rx : wr.cell? ⟨w.heap.size, 0, none⟩ = some (.slice none 0 0)
  rf : wr.frozen? ⟨w.heap.size, 0, none⟩ = false
  lt : c < w.heap.size
  cur : Cur wr B c a len cap
  st : Step c w wr
  sz : w.heap.size + 2 ≤ wr.heap.size
  vals : ∀ i j, 0 ≤ F i j ∧ F i j ≤ 255
section
variable {w : World} {B c : Nat} {a : Option Addr} {len cap : Nat} {wr w2 w3 : World} {q : Nat} {gb cp : Nat → Nat} {F : Nat → Nat → Int} {ov : Value}
theorem Grow.drawn (G : Grow w B c a len cap wr q gb cp F ov) (S2 : Step c wr.drew w2) : w2.cell? ⟨w.heap.size + 1, 0, none⟩ = some ov ∧ w2.frozen? ⟨w.heap.size + 1, 0, none⟩ = false ∧ w2.ownsRow (w.heap.size + 2) 27 1 ov q (outs q gb cp) ∧ w.heap.size + 2 ≤ w2.heap.size := by
  have hz := G.sz
  have hl := G.lt
  have hX := S2.block (w.heap.size + 1) (show _ < wr.heap.size by omega) (by omega)
  refine ⟨(World.cell?_of_block (a := ⟨w.heap.size + 1, 0, none⟩) hX).trans G.cx, (World.frozen?_of_block (a := ⟨w.heap.size + 1, 0, none⟩) hX).trans G.fx, ownsRow_same (w := wr) G.own (fun k hk => ?_), Nat.le_trans hz S2.size⟩
  have hk' := G.own.lt k hk
  exact S2.block k hk'.2 (by omega)
theorem Grow.snoc (G : Grow w B c a len cap wr q gb cp F ov) (S2 : Step c wr.drew w2) (H2 : Cur w2 B c a len cap) {f : Nat → Int} (hR2 : w2.rowIs wr.heap.size 3 256 (fun j => .int .i64 (f j))) (hf : ∀ j, 0 ≤ f j ∧ f j ≤ 255) {o : Obj} {g3 c3 : Nat}
    (hown3 : w3.ownsRow (w.heap.size + 2) 27 1 (.slice (some ⟨g3, 0, none⟩) (q + 1) c3) (q + 1) (outs q gb cp ++ [.slice (some ⟨wr.heap.size, 0, none⟩) 256 256])) (hgrow : (w2.alloc o).grownBy w3 ov.ownBlock) (hat : ov.ownBlock = some g3 ∨ g3 = (w2.alloc o).heap.size) :
    Grow w B c a len cap (w3.setCell ⟨w.heap.size + 1, 0, none⟩ (.slice (some ⟨g3, 0, none⟩) (q + 1) c3)) (q + 1) (fun i => if i = q then wr.heap.size else gb i) (fun i => if i = q then 256 else cp i) (fun i => if i = q then f else F i) (.slice (some ⟨g3, 0, none⟩) (q + 1) c3) := by
  obtain ⟨hX2, fX2, hO2, hz2⟩ := G.drawn S2
  have hz := G.sz
  have hl := G.lt
  have hs2 : wr.heap.size ≤ w2.heap.size := S2.size
  have hOB := G.own.lt
  have hne : ∀ k, k < w.heap.size + 2 → some k ≠ ov.ownBlock := fun k hk e => by have := (hOB _ e.symm).1; omega
  have hsz3 : w2.heap.size + 1 ≤ w3.heap.size := by have := hgrow.size; simpa using this
  have hblk : ∀ k, k < w2.heap.size → some k ≠ ov.ownBlock → w3.heap[k]? = w2.heap[k]? := fun k hk hn => (hgrow.block k (by simp; omega) hn).trans (((Below.refl _ _).alloc (Nat.le_refl _) o : Below w2.heap.size w2 (w2.alloc o)).block k hk)
  have hbel : Below (w.heap.size + 1) w2 (w3.setCell ⟨w.heap.size + 1, 0, none⟩ (.slice (some ⟨g3, 0, none⟩) (q + 1) c3)) :=
    (((((Below.refl _ _).alloc (Nat.le_refl _) o : Below w2.heap.size w2 (w2.alloc o)).mono (by omega : w.heap.size + 1 ≤ _)).grown hgrow (by simp; omega) (fun k hk => by have := (hOB k hk).1; omega))).setCell (Nat.le_refl _) _
  have hset : ∀ k, k ≠ w.heap.size + 1 → (w3.setCell ⟨w.heap.size + 1, 0, none⟩ (.slice (some ⟨g3, 0, none⟩) (q + 1) c3)).heap[k]? = w3.heap[k]? := fun k hk => Below.heap_setCell _ _ _ _ hk
  have hX3 : w3.cell? ⟨w.heap.size + 1, 0, none⟩ = some ov := (World.cell?_of_block (a := ⟨w.heap.size + 1, 0, none⟩) (hblk (w.heap.size + 1) (by omega) (hne _ (by omega)))).trans hX2
  have hF3 : w3.frozen? ⟨w.heap.size + 1, 0, none⟩ = false := (World.frozen?_of_block (a := ⟨w.heap.size + 1, 0, none⟩) (hblk (w.heap.size + 1) (by omega) (hne _ (by omega)))).trans fX2
  have hgn : some wr.heap.size ≠ ov.ownBlock := fun e => by have := (hOB _ e.symm).2; omega
  have BK2 : Banks w2 (w.heap.size + 2) q gb F := G.bk.keep hs2 (fun i hi => S2.block (gb i) (G.bk.low i hi).2 (by have := (G.bk.low i hi).1; omega))
  have BK : Banks w3 (w.heap.size + 2) q gb F := BK2.keep (by omega) (fun i hi => hblk (gb i) (BK2.low i hi).2 (fun e => G.dj _ e.symm i hi rfl))
  have BK' : Banks w3 (w.heap.size + 2) q gb (fun i => if i = q then f else F i) := BK.congrF (fun i hi => by simp [Nat.ne_of_lt hi])
  have hgl : wr.heap.size < w2.heap.size := hR2.lt
  have BN := BK'.snoc (g := wr.heap.size) (fun j hj => ⟨wr.heap.size, 0, rfl, (World.cell?_of_block (a := ⟨wr.heap.size, 0 + j, none⟩) (hblk _ hgl hgn)).trans (by rw [Nat.zero_add, hR2.cell hj]; simp)⟩) (fun o => (World.frozen?_of_block (a := ⟨wr.heap.size, o, none⟩) (hblk _ hgl hgn)).trans (hR2.frozen o)) hz (by omega) (fun i hi => by have := (G.bk.low i hi).2; omega)
  rw [← outs_snoc q wr.heap.size 256 gb cp] at hown3
  refine ⟨BN.keep (by simp) (fun i hi => hset _ (by have := (BN.low i hi).1; omega)), ownsRow_same hown3 (fun k hk => hset k (by have := (hown3.lt k hk).1; omega)), fun g' hg' i hi => ?_, World.cell?_setCell_same _ _ _ hX3, by rw [World.frozen?_setCell]; exact hF3, ?_, ?_, hl, H2.below (hbel.mono (by omega : c + 1 ≤ _)) (Nat.lt_succ_self c), ((G.st.trans (⟨S2.os, S2.tape, S2.output, S2.size, S2.block⟩ : Step c wr w2)).low (hbel.mono (by omega))), by simp; omega, fun i j => ?_⟩
  · have eg : g3 = g' := by simpa [Value.ownBlock] using hg'
    subst eg
    rcases hat with h | h
    · by_cases ei : i = q
      · rw [if_pos ei]; have := (hOB _ h).2; omega
      · rw [if_neg ei]; exact G.dj _ h i (by omega)
    · have h' : g3 = w2.heap.size + 1 := by simpa using h
      by_cases ei : i = q
      · rw [if_pos ei]; omega
      · rw [if_neg ei]; have := (G.bk.low i (by omega)).2; omega
  · exact ((hbel.cell (p := ⟨w.heap.size, 0, none⟩) (by show w.heap.size < _; omega)).trans (World.cell?_of_block (a := ⟨w.heap.size, 0, none⟩) (S2.block w.heap.size (show _ < wr.heap.size by omega) (by omega)))).trans G.rx
  · exact ((hbel.frozen (p := ⟨w.heap.size, 0, none⟩) (by show w.heap.size < _; omega)).trans (World.frozen?_of_block (a := ⟨w.heap.size, 0, none⟩) (S2.block w.heap.size (show _ < wr.heap.size by omega) (by omega)))).trans G.rf
  · by_cases ei : i = q
    · simpa [ei] using hf j
    · simpa [ei] using G.vals i j
end
theorem OwnSS.blocks {w w' : World} {lo : Nat} {v : Value} {m : Nat} {ra : Nat → Option Addr} {ln rc : Nat → Nat} {f : Nat → Nat → Int} (h : OwnSS w lo v m ra ln rc f) (hs : w.heap.size ≤ w'.heap.size) (hb : ∀ k, lo ≤ k → k < w.heap.size → w'.heap[k]? = w.heap[k]?) : OwnSS w' lo v m ra ln rc f := by
  obtain ⟨⟨⟨a, cap, hv, hm, ho⟩, hf, hdj, hsm⟩, hr, hi, hou, hl⟩ := h
  refine ⟨⟨⟨a, cap, hv, hm, fun i hi' => ?_⟩, fun i hi' b o hF => ?_, hdj, hsm⟩, fun i hi' j hj => ?_, hi, hou, hl⟩
  · obtain ⟨b, off, ha, hc, hn⟩ := ho i hi'
    exact ⟨b, off, ha, (World.cell?_of_block (a := ⟨b, off + i, none⟩) (hb b (hou a cap hv b (off + i) (by rw [ha]; exact foot_at hi')) (block_lt_of_cell hc))).trans hc, hn⟩
  · obtain ⟨h1, h2⟩ := hf i hi' b o hF
    exact ⟨Nat.lt_of_lt_of_le h1 hs, (World.frozen?_of_block (a := ⟨b, o, none⟩) (hb b (hi i hi' b o hF) h1)).trans h2⟩
  · obtain ⟨b, off, ha, hc⟩ := hr i hi' j hj
    exact ⟨b, off, ha, (World.cell?_of_block (a := ⟨b, off + j, none⟩) (hb b (hi i hi' b (off + j) (by rw [ha]; exact foot_at hj)) (block_lt_of_cell hc))).trans hc⟩
/-- The drawn image, all banks of 256 bytes; its box at w.heap.size + 1. -/
structure Img (w : World) (B c : Nat) (a : Option Addr) (len cap : Nat) (W : World) (m go co : Nat) (ra : Nat → Option Addr) (rc : Nat → Nat) (F : Nat → Nat → Int) : Prop where
  ss : OwnSS W (w.heap.size + 2) (.slice (some ⟨go, 0, none⟩) m co) m ra (fun _ => 256) rc F
  fr : ∀ i, i < m → W.frozen? ⟨go, i, none⟩ = false
  gl : w.heap.size + 2 ≤ go ∧ go < W.heap.size
  cx : W.cell? ⟨w.heap.size + 1, 0, none⟩ = some (.slice (some ⟨go, 0, none⟩) m co)
  rx : W.cell? ⟨w.heap.size, 0, none⟩ = some (.slice none 0 0)
  rf : W.frozen? ⟨w.heap.size, 0, none⟩ = false
  lt : c < w.heap.size
  cur : Cur W B c a len cap
  st : Step c w W
  sz : w.heap.size + 2 ≤ W.heap.size
  vals : ∀ i j, i < m → j < 256 → 0 ≤ F i j ∧ F i j ≤ 255
theorem Grow.img {w : World} {B c : Nat} {a : Option Addr} {len cap : Nat} {W : World} {m : Nat} {gb cp : Nat → Nat} {F : Nat → Nat → Int} {ov : Value} (G : Grow w B c a len cap W m gb cp F ov) (h1 : 1 ≤ m) (h3 : m ≤ 3) :
    ∃ go co, ov = .slice (some ⟨go, 0, none⟩) m co ∧ Img w B c a len cap W m go co (fun i => some ⟨gb i, 0, none⟩) cp F := by
  obtain ⟨go, co, rfl, hg, hlt⟩ := G.own.form (by omega)
  refine ⟨go, co, rfl, ⟨own_banks G.bk G.own hg (fun i hi => G.dj go rfl i hi) (by omega), fun i _ => G.own.frozenAt i, ⟨hg, hlt⟩, G.cx, G.rx, G.rf, G.lt, G.cur, G.st, G.sz, fun i j _ _ => G.vals i j⟩⟩
section
variable {w : World} {B c : Nat} {a : Option Addr} {len cap : Nat} {W W' : World} {m go co : Nat} {ra : Nat → Option Addr} {rc : Nat → Nat} {F : Nat → Nat → Int}
theorem Img.step (I : Img w B c a len cap W m go co ra rc F) (S : Step c W W') (H : Cur W' B c a len cap) : Img w B c a len cap W' m go co ra rc F := by
  have hl := I.lt
  have hz := I.sz
  have hX := S.block (w.heap.size + 1) (by omega) (by omega)
  have hR := S.block w.heap.size (by omega) (by omega)
  have hG := S.block go I.gl.2 (by have := I.gl.1; omega)
  exact ⟨I.ss.blocks S.size (fun k hk hk' => S.block k hk' (by omega)), fun i hi => (World.frozen?_of_block (a := ⟨go, i, none⟩) hG).trans (I.fr i hi), ⟨I.gl.1, Nat.lt_of_lt_of_le I.gl.2 S.size⟩, (World.cell?_of_block (a := ⟨w.heap.size + 1, 0, none⟩) hX).trans I.cx, (World.cell?_of_block (a := ⟨w.heap.size, 0, none⟩) hR).trans I.rx,
    (World.frozen?_of_block (a := ⟨w.heap.size, 0, none⟩) hR).trans I.rf, hl, H, I.st.trans S, Nat.le_trans hz S.size, I.vals⟩
theorem Img.at_ (I : Img w B c a len cap W m go co ra rc F) (i : Nat) (hi : i < m) : ∃ b off, ra i = some ⟨b, off, none⟩ ∧ w.heap.size + 2 ≤ b ∧ b < W.heap.size ∧ W.cell? ⟨go, i, none⟩ = some (.slice (some ⟨b, off, none⟩) 256 (rc i)) ∧ (∀ j, j < 256 → (∃ x, W.cell? ⟨b, off + j, none⟩ = some (.int .i64 x)) ∧ W.frozen? ⟨b, off + j, none⟩ = false) := by
  obtain ⟨b, off, ha, hc⟩ := I.ss.rows i hi 0 (by decide)
  have hF : ∀ j, j < 256 → Foot (ra i) 256 b (off + j) := fun j hj => by rw [ha]; exact foot_at hj
  obtain ⟨a2, cap2, e2, _, ho⟩ := I.ss.sep.outer
  obtain ⟨b3, off3, e3, hc3, hn3⟩ := ho i hi
  simp only [Value.slice.injEq] at e2
  obtain ⟨e2, _, _⟩ := e2
  rw [← e2] at e3
  simp only [Option.some.injEq, Addr.mk.injEq, and_true] at e3
  obtain ⟨rfl, rfl⟩ := e3
  refine ⟨b, off, ha, I.ss.inner i hi _ _ (hF 0 (by decide)), block_lt_of_cell hc, by rw [← ha]; simpa using hc3, fun j hj => ⟨?_, (I.ss.sep.free i hi _ _ (hF j hj)).2⟩⟩
  · obtain ⟨b', off', ha', hc'⟩ := I.ss.rows i hi j hj
    rw [ha] at ha'
    simp only [Option.some.injEq, Addr.mk.injEq, and_true] at ha'
    obtain ⟨rfl, rfl⟩ := ha'
    exact ⟨_, hc'⟩
theorem Img.cellOf (I : Img w B c a len cap W m go co ra rc F) {i b off : Nat} (hi : i < m) (ha : ra i = some ⟨b, off, none⟩) (j : Nat) (hj : j < 256) : (∃ x, W.cell? ⟨b, off + j, none⟩ = some (.int .i64 x)) ∧ W.frozen? ⟨b, off + j, none⟩ = false := by
  obtain ⟨b', off', ha', _, _, _, h⟩ := I.at_ i hi
  rw [ha] at ha'
  simp only [Option.some.injEq, Addr.mk.injEq, and_true] at ha'
  obtain ⟨rfl, rfl⟩ := ha'
  exact h j hj
theorem Img.outFree (I : Img w B c a len cap W m go co ra rc F) (p : Addr) (x : Value) : OutFree (W.setCell p x) (.slice (some ⟨go, 0, none⟩) m co) m := fun a' cap' e b o hF => by
  simp only [Value.slice.injEq] at e
  obtain ⟨rfl, _, _⟩ := e
  obtain ⟨off, e, h1, h2⟩ := hF
  simp only [Option.some.injEq, Addr.mk.injEq, and_true] at e
  obtain ⟨rfl, rfl⟩ := e
  exact ⟨by simpa using I.gl.2, by rw [World.frozen?_setCell]; exact I.fr o (by omega)⟩
/-- A cell of memory that is no cell of the cursor or of the boxes is written. -/
theorem Img.at (I : Img w B c a len cap W m go co ra rc F) {b o : Nat} {x : Value} (hb : w.heap.size + 2 ≤ b) {ra' : Nat → Option Addr} {rc' : Nat → Nat} {F' : Nat → Nat → Int} (hs : OwnSS (W.setCell ⟨b, o, none⟩ x) (w.heap.size + 2) (.slice (some ⟨go, 0, none⟩) m co) m ra' (fun _ => 256) rc' F')
    (hv : ∀ i j, i < m → j < 256 → 0 ≤ F' i j ∧ F' i j ≤ 255) : Img w B c a len cap (W.setCell ⟨b, o, none⟩ x) m go co ra' rc' F' := by
  have hl := I.lt
  have hbel : Below (w.heap.size + 2) W (W.setCell ⟨b, o, none⟩ x) := (Below.refl _ _).setCell hb x
  exact ⟨hs, fun i hi => by rw [World.frozen?_setCell]; exact I.fr i hi, by simpa using I.gl, (hbel.cell (by show w.heap.size + 1 < _; omega)).trans I.cx, (hbel.cell (by show w.heap.size < _; omega)).trans I.rx, (hbel.frozen (by show w.heap.size < _; omega)).trans I.rf, hl, I.cur.below hbel (by omega), I.st.low (hbel.mono (by omega)), by simpa using I.sz, hv⟩
theorem Img.setInner (I : Img w B c a len cap W m go co ra rc F) (i j b off : Nat) (hi : i < m) (hj : j < 256) (ha : ra i = some ⟨b, off, none⟩) (x : Int) (hx : 0 ≤ x ∧ x ≤ 255) :
    Img w B c a len cap (W.setCell ⟨b, off + j, none⟩ (.int .i64 x)) m go co ra rc (fun p q => if p = i ∧ q = j then x else F p q) :=
  I.at (I.ss.inner i hi b (off + j) (by rw [ha]; exact foot_at hj)) (I.ss.setInner i j b off hi hj ha x) (fun p q hp hq => by
    show 0 ≤ (if p = i ∧ q = j then x else F p q) ∧ (if p = i ∧ q = j then x else F p q) ≤ 255
    split
    · exact hx
    · exact I.vals p q hp hq)
theorem Img.setOuter (I : Img w B c a len cap W m go co ra rc F) (i : Nat) (hi : i < m) (lo : Nat) (hlo : ∀ p, p < m → ∀ b o, Foot (ra p) 256 b o → b < lo) (hgo : go < lo) (a' : Option Addr) (c' : Nat) (g : Nat → Int) (hr : RowOf .i64 W a' 256 g) (hfr : Free W (Foot a' 256)) (hnew : ∀ b o, Foot a' 256 b o → lo ≤ b)
    (hlo2 : w.heap.size + 2 ≤ lo) (hg : ∀ j, j < 256 → 0 ≤ g j ∧ g j ≤ 255) :
    Img w B c a len cap (W.setCell ⟨go, i, none⟩ (.slice a' 256 c')) m go co (fun p => if p = i then a' else ra p) (fun p => if p = i then c' else rc p) (fun p => if p = i then g else F p) := by
  have hs := I.ss.setOuter i go 0 co hi rfl a' 256 c' g hr hfr (fun b o hF => by have := hnew b o hF; omega) (by decide) (fun b' o' h1 h2 => by
    have := hnew _ _ h1
    obtain ⟨off, e, _⟩ := h2
    simp only [Option.some.injEq, Addr.mk.injEq, and_true] at e
    omega) (fun p hp _ b' o' h1 h2 => by have := hnew _ _ h1; have := hlo p hp _ _ h2; omega)
  rw [Nat.zero_add] at hs
  have e : (fun p => if p = i then 256 else (fun _ : Nat => 256) p) = fun _ : Nat => 256 := by funext p; split <;> rfl
  rw [e] at hs
  refine I.at I.gl.1 hs (fun p q hp hq => ?_)
  by_cases ei : p = i
  · simpa [ei] using hg q hq
  · simpa [ei] using I.vals p q hp hq
end
theorem OwnSS.cutFirst {w : World} {lo go oo m cv b off : Nat} {ra : Nat → Option Addr} {rc : Nat → Nat} {F : Nat → Nat → Int} (h : OwnSS w lo (.slice (some ⟨go, oo, none⟩) m cv) m ra (fun _ => 256) rc F) (hm : 0 < m) (ha : ra 0 = some ⟨b, off, none⟩) (d : Nat) (hd : d ≤ 1) (c' : Nat) :
    ∃ ra' ln' rc' F', OwnSS (w.setCell ⟨go, oo, none⟩ (.slice (some ⟨b, off + d, none⟩) 255 c')) lo (.slice (some ⟨go, oo, none⟩) m cv) m ra' ln' rc' F' := by
  have hF : ∀ b' o', Foot (some ⟨b, off + d, none⟩) 255 b' o' → Foot (ra 0) 256 b' o' := fun b' o' h => by
    obtain ⟨f, e, h1, h2⟩ := h
    simp only [Option.some.injEq, Addr.mk.injEq, and_true] at e
    obtain ⟨rfl, rfl⟩ := e
    exact ⟨off, ha, by omega, by omega⟩
  have hr : RowOf .i64 w (some ⟨b, off, none⟩) 256 (F 0) := ha ▸ h.rows 0 hm
  obtain ⟨a2, cap2, e2, _, ho⟩ := h.sep.outer
  simp only [Value.slice.injEq] at e2
  obtain ⟨e2, _, _⟩ := e2
  have hs := h.setOuter 0 go oo cv hm rfl (some ⟨b, off + d, none⟩) 255 c' (fun j => F 0 (d + j)) (hr.tail d 255 (by omega)) (fun b' o' hf => h.sep.free 0 hm b' o' (hF b' o' hf)) (fun b' o' hf => h.inner 0 hm b' o' (hF b' o' hf)) (by decide)
    (fun b' o' h1 h2 => by
      obtain ⟨f, e, g1, g2⟩ := h2
      simp only [Option.some.injEq, Addr.mk.injEq, and_true] at e
      obtain ⟨rfl, rfl⟩ := e
      obtain ⟨b3, off3, e3, _, hn3⟩ := ho (o' - oo) (by omega)
      rw [← e2] at e3
      simp only [Option.some.injEq, Addr.mk.injEq, and_true] at e3
      obtain ⟨rfl, rfl⟩ := e3
      have := hn3 0 hm
      rw [Nat.add_sub_cancel' g1] at this
      exact this (hF _ _ h1))
    (fun p hp hne b' o' h1 h2 => h.sep.disj 0 p hm hp (fun e => hne e.symm) _ _ (hF _ _ h1) h2)
  rw [Nat.add_zero] at hs
  exact ⟨_, _, _, _, hs⟩
end Go.Proofs.YtpaedkefmebjjafDoor
