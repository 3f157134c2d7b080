/-
  Files of images, as numbers: what is read of an image's file is the image; the file of an image that was read is what was read.
-/
import Derived.Test.YtpaedkefmebjjadDoorG2
namespace Go.Proofs.YtpaedkefmebjjadDoor
theorem isum_congr {g h : Nat → Int} : ∀ (n : Nat), (∀ j, j < n → g j = h j) → isum g n = isum h n
  | 0, _ => rfl
  | n + 1, e => by
    show isum g n + g n = isum h n + h n
    rw [isum_congr n (fun j hj => e j (by omega)), e n (by omega)]
theorem fileOf_body (m : Nat) (f : Nat → Nat → Int) (j : Nat) : fileOf m f (6 + j) = flat f j := by
  unfold fileOf imgF
  rw [if_neg (by omega), if_neg (by omega), if_neg (by omega), if_neg (by omega), if_neg (by omega), if_neg (by omega), Nat.add_sub_cancel_left]
theorem okImg_parts {m : Nat} {ln : Nat → Nat} {f : Nat → Nat → Int} (h : okImg m ln f = true) : (∀ i, i < m → okBank (ln i) (f i) = true) ∧ 1 ≤ m ∧ m ≤ 8 := of_decide_eq_true h
theorem read_file {m : Nat} {ln : Nat → Nat} {f : Nat → Nat → Int} (h : okImg m ln f = true) : rdC (fileLen m ln f) (fileOf m f) = 0 ∧ rdM (fileLen m ln f) (fileOf m f) = m ∧ ∀ i j, j < 256 → rdF (fileOf m f) i j = f i j := by
  obtain ⟨_, h1, h8⟩ := okImg_parts h
  have hl : fileLen m ln f = 6 + 256 * m := by unfold fileLen; rw [if_pos h]
  have h4 : fileOf m f 4 = m := rfl
  have hh : headC (6 + 256 * m) (fileOf m f) = 0 := by
    unfold headC
    rw [if_pos (by unfold headB; exact decide_eq_true ⟨by omega, rfl, rfl, rfl, rfl⟩)]
  have hs : sizeC (6 + 256 * m) (fileOf m f 4) = 0 := by
    rw [h4]
    unfold sizeC
    rw [if_neg (by omega), if_neg (by omega), if_neg (by omega)]
  have hb : ∀ j, j < 256 * m → body (fileOf m f) j = flat f j := fun j _ => fileOf_body m f j
  have hc : rdC (6 + 256 * m) (fileOf m f) = 0 := by
    unfold rdC
    rw [if_pos hh, if_pos hs]
    unfold sumC
    rw [Nat.add_sub_cancel_left, isum_congr _ hb]
    exact if_pos rfl
  rw [hl]
  refine ⟨hc, ?_, fun i j hj => ?_⟩
  · unfold rdM
    rw [if_pos hc, h4]
    rfl
  · unfold rdF
    rw [Nat.add_assoc, fileOf_body, flat_at f i j hj]
theorem file_read {n : Nat} {f : Nat → Int} (hb : ∀ i, i < n → 0 ≤ f i ∧ f i ≤ 255) (h : rdC n f = 0) : okImg (rdM n f) (fun _ => 256) (rdF f) = true ∧ fileLen (rdM n f) (fun _ => 256) (rdF f) = n ∧ ∀ j, j < n → fileOf (rdM n f) (rdF f) j = f j := by
  have hm : rdM n f = (f 4).toNat := by unfold rdM; rw [if_pos h]
  unfold rdC at h
  split at h
  · rename_i hh
    split at h
    · rename_i hs
      obtain ⟨h1, h8, hn⟩ := sizeC_zero hs
      obtain ⟨m, hm4⟩ : ∃ m : Nat, f 4 = m := ⟨(f 4).toNat, by omega⟩
      rw [hm4] at hm h1 h8 hn
      rw [hm, Int.toNat_natCast]
      have hN : n = 6 + 256 * m := by omega
      have hok : okImg m (fun _ => 256) (rdF f) = true := by
        unfold okImg
        refine decide_eq_true ⟨fun i hi => ?_, by omega, by omega⟩
        exact decide_eq_true ⟨rfl, fun j hj => inB_yes (hb _ (by have hj' : j < 256 := hj; omega))⟩
      have hl : fileLen m (fun _ => 256) (rdF f) = n := by unfold fileLen; rw [if_pos hok, hN]
      refine ⟨hok, hl, fun j hj => ?_⟩
      unfold sumC at h
      split at h
      · rename_i hsum
        have hfl : ∀ k, k < 256 * m → flat (rdF f) k = body f k := fun k _ => by
          unfold flat rdF body
          rw [show 6 + 256 * (k / 256) + k % 256 = 6 + k by omega]
        have hh' : headB n f = true := by
          unfold headC at hh
          split at hh
          · assumption
          · cases hh
        obtain ⟨_, e0, e1, e2, e3⟩ : 6 ≤ n ∧ f 0 = 50 ∧ f 1 = 67 ∧ f 2 = 76 ∧ f 3 = 75 := of_decide_eq_true hh'
        by_cases g : j < 6
        · have : j = 0 ∨ j = 1 ∨ j = 2 ∨ j = 3 ∨ j = 4 ∨ j = 5 := by omega
          rcases this with rfl | rfl | rfl | rfl | rfl | rfl
          · exact e0.symm
          · exact e1.symm
          · exact e2.symm
          · exact e3.symm
          · exact hm4.symm
          · show isum (flat (rdF f)) (256 * m) % 256 = f 5
            rw [isum_congr _ hfl, ← hsum, hN, Nat.add_sub_cancel_left]
        · obtain ⟨k, rfl⟩ : ∃ k, j = 6 + k := ⟨j - 6, by omega⟩
          rw [fileOf_body, hfl k (by omega)]
          rfl
      · cases h
    · rename_i hs
      exact absurd h hs
  · rename_i hh
    exact absurd h hh
end Go.Proofs.YtpaedkefmebjjadDoor
