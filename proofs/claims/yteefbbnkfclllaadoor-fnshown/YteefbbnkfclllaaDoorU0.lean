/-
  Memories and images as things that lie on blocks of a kind: what a call may have written elsewhere keeps them.
-/
import Derived.Test.YteefbbnkfclllaaDoorC6
import Derived.Test.YteefbbnkfclllaaDoorQ2
namespace Go.Proofs.YteefbbnkfclllaaDoor
set_option linter.unusedVariables false
open Go.ChangeShapes Go.WideShapes Go.ChangeAt Go.RowKit
abbrev On (D : Nat → Prop) : Nat → Nat → Prop := fun b _ => D b
theorem box_wrote {R : Nat → Nat → Prop} {w w' : World} {b : Nat} {o : Obj} (h : w.heap[b]? = some o) (hw : Wrote R w w') (hd : ∀ o, ¬ R b o) : w'.heap[b]? = some o := (hw.block b (boxLt h) hd).trans h
theorem box_set {w : World} {b o : Nat} {cs : Array Value} {t : TypeId} {fr : Nat × Nat} (h : w.heap[b]? = some (.cells cs t fr)) (x : Value) : (w.setCell ⟨b, o, none⟩ x).heap[b]? = some (.cells (cs.setIfInBounds o x) t fr) := by
  simp [World.setCell, Array.getElem?_modify, h]
structure MemOn (W : World) (D : Nat → Prop) (v : Value) (n : Nat) (g : Nat → Int) (bank : Int) : Prop where
  ex : ∃ a cap, v = .agg #[.slice a n cap, .int .i64 bank] ∧ n ≤ 1048576 ∧ RowOf .i64 W a n g ∧ Free W (Foot a n) ∧ ∀ b o, Foot a n b o → D b
theorem MemOn.keep {R : Nat → Nat → Prop} {W W' : World} {D : Nat → Prop} {v : Value} {n : Nat} {g : Nat → Int} {bank : Int} (h : MemOn W D v n g bank) (hw : Wrote R W W') (hd : ∀ b o, D b → b < W.heap.size → ¬ R b o) : MemOn W' D v n g bank := by
  obtain ⟨a, cap, e, hn, hr, hF, hD⟩ := h
  exact ⟨a, cap, e, hn, hr.keep hw (fun b o hf => hd b o (hD b o hf) (hF b o hf).1), hF.keep hw, hD⟩
theorem MemOn.below {W W' : World} {D : Nat → Prop} {v : Value} {n : Nat} {g : Nat → Int} {bank : Int} (h : MemOn W D v n g bank) (L : Below W.heap.size W W') : MemOn W' D v n g bank := h.keep (wrote_below L Nowhere) (fun _ _ _ _ x => x)
theorem MemOn.mono {W : World} {D E : Nat → Prop} {v : Value} {n : Nat} {g : Nat → Int} {bank : Int} (h : MemOn W D v n g bank) (hd : ∀ b, b < W.heap.size → D b → E b) : MemOn W E v n g bank := by
  obtain ⟨a, cap, e, hn, hr, hF, hD⟩ := h
  exact ⟨a, cap, e, hn, hr, hF, fun b o hf => hd b (hF b o hf).1 (hD b o hf)⟩
theorem MemOn.ints {W : World} {D : Nat → Prop} {v : Value} {n : Nat} {g : Nat → Int} {bank : Int} (h : MemOn W D v n g bank) : ∃ u, v = .agg #[u, .int .i64 bank] ∧ Ints .i64 W (On D) u n g := by
  obtain ⟨a, cap, e, hn, hr, hF, hD⟩ := h
  exact ⟨_, e, a, cap, rfl, hn, hr, hD⟩
theorem MemOn.size {W : World} {D : Nat → Prop} {v : Value} {n : Nat} {g : Nat → Int} {bank : Int} (h : MemOn W D v n g bank) : n ≤ 1048576 := by
  obtain ⟨a, cap, e, hn, hr, hF, hD⟩ := h
  exact hn
theorem MemOn.two {W : World} {D : Nat → Prop} {v : Value} {n : Nat} {g : Nat → Int} {bank : Int} (h : MemOn W D v n g bank) : ∃ a c, v = .agg #[.slice a n c, .int .i64 bank] := by
  obtain ⟨a, c, e, _⟩ := h
  exact ⟨a, c, e⟩
theorem MemOn.own {W : World} {lo n : Nat} {u : Value} {g : Nat → Int} {bank : Int} (h : OwnInts W lo u n g) : MemOn W (fun b => lo ≤ b) (.agg #[u, .int .i64 bank]) n g bank := by
  obtain ⟨a, cap, rfl, hn, hr, hF, hD⟩ := h
  exact ⟨a, cap, rfl, hn, hr, hF, hD⟩
structure ImgOn (W : World) (D : Nat → Prop) (v : Value) (m : Nat) (ln : Nat → Nat) (f : Nat → Nat → Int) : Prop where
  ex : ∃ p, v = .agg #[.slice (some ⟨p, 0, none⟩) m m] ∧ m + psum ln m ≤ 1048576 ∧ Rows2 W p m ln f ∧ p + 1 + m ≤ W.heap.size ∧ ∀ b, p ≤ b → b < p + 1 + m → D b
theorem ImgOn.keep {R : Nat → Nat → Prop} {W W' : World} {D : Nat → Prop} {v : Value} {m : Nat} {ln : Nat → Nat} {f : Nat → Nat → Int} (h : ImgOn W D v m ln f) (hw : Wrote R W W') (hd : ∀ b o, D b → b < W.heap.size → ¬ R b o) : ImgOn W' D v m ln f := by
  obtain ⟨p, e, hm, hr, hs, hD⟩ := h
  exact ⟨p, e, hm, hr.keep hw (fun b o h1 h2 => hd b o (hD b h1 h2) (by omega)), Nat.le_trans hs hw.size, hD⟩
theorem ImgOn.below {W W' : World} {D : Nat → Prop} {v : Value} {m : Nat} {ln : Nat → Nat} {f : Nat → Nat → Int} (h : ImgOn W D v m ln f) (L : Below W.heap.size W W') : ImgOn W' D v m ln f := h.keep (wrote_below L Nowhere) (fun _ _ _ _ x => x)
theorem ImgOn.mono {W : World} {D E : Nat → Prop} {v : Value} {m : Nat} {ln : Nat → Nat} {f : Nat → Nat → Int} (h : ImgOn W D v m ln f) (hd : ∀ b, b < W.heap.size → D b → E b) : ImgOn W E v m ln f := by
  obtain ⟨p, e, hm, hr, hs, hD⟩ := h
  exact ⟨p, e, hm, hr, hs, fun b h1 h2 => hd b (by omega) (hD b h1 h2)⟩
theorem ImgOn.ints {W : World} {D : Nat → Prop} {v : Value} {m : Nat} {ln : Nat → Nat} {f : Nat → Nat → Int} (h : ImgOn W D v m ln f) : ∃ u F, v = .agg #[u] ∧ IntSS .i64 W F u m ln f := by
  obtain ⟨p, e, hm, hr, hs, hD⟩ := h
  exact ⟨_, _, e, hr.ints hm⟩
end Go.Proofs.YteefbbnkfclllaaDoor
