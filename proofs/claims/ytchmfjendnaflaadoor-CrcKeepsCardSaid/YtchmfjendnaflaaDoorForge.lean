/-
  The mathematics of patched bytes: they have the sum that was wanted; patched back they are the bytes as they were.
-/
import Derived.Test.YtchmfjendnaflaaDoorPatch
import Derived.Test.YtchmfjendnaflaaDoorTold
namespace FerryCrc

theorem num_le4 {z : Nat} (h : z < 4294967296) : num (le4 z) = z := by rw [num_four rfl (le4_small z), num4_le4 h]
theorem mvs_app2 (r : Nat) (l m : List Nat) : mvs r (l ++ m) = mvs (mvs r l) m := by simp [mvs]
theorem mvs_four (h z : Nat) (hz : z < 4294967296) : mvs h (le4 z) = bitsN 32 (h ^^^ z) := by rw [mvs_num, num_le4 hz]; rfl

theorem patchZ_lt {l : List Nat} {p want : Nat} (hl : ∀ c ∈ l, c < 256) (hw : want < 4294967296) : patchZ l p want < 4294967296 :=
  xor_lt32 (mvs_lt (by decide) (fun c hc => hl c (List.mem_of_mem_take hc))) (mvb_lt (mvb_lt (xor_lt32 hw (by decide)) (fun c hc => hl c (List.mem_of_mem_drop hc))) (by decide))

theorem forge_mvs {l : List Nat} {p want : Nat} (hl : ∀ c ∈ l, c < 256) (hw : want < 4294967296) : mvs 4294967295 (patchOf l p want) = want ^^^ 4294967295 := by
  unfold patchOf
  rw [mvs_app2, mvs_app2, mvs_four _ _ (patchZ_lt hl hw)]
  unfold patchZ
  rw [← Nat.xor_assoc, Nat.xor_self, Nat.zero_xor]
  have e : bitsN 32 (mvb (mvb (want ^^^ 4294967295) (l.drop (p + 4))) [0, 0, 0, 0]) = mvb (want ^^^ 4294967295) (l.drop (p + 4)) := by
    have := mvs_mvb (mvb (want ^^^ 4294967295) (l.drop (p + 4))) [0, 0, 0, 0]
    rw [mvs_num] at this
    simpa [num] using this
  rw [e, mvs_mvb]
theorem forge_sum {l : List Nat} {p want : Nat} (hl : ∀ c ∈ l, c < 256) (hw : want < 4294967296) : sumOf (patchOf l p want) = want := by
  unfold sumOf
  rw [forge_mvs hl hw, Nat.xor_assoc, Nat.xor_self, Nat.xor_zero]

theorem patchOf_length {l : List Nat} {p want : Nat} (h : p + 4 ≤ l.length) : (patchOf l p want).length = l.length := by
  simp [patchOf, le4]
  omega
theorem patchOf_small {l : List Nat} {p want : Nat} (hl : ∀ c ∈ l, c < 256) : ∀ c ∈ patchOf l p want, c < 256 := by
  intro c hc
  unfold patchOf at hc
  rcases List.mem_append.1 hc with h | h
  · exact hl c (List.mem_of_mem_take h)
  · rcases List.mem_append.1 h with h | h
    · exact le4_small _ c h
    · exact hl c (List.mem_of_mem_drop h)
theorem patchOf_take {l : List Nat} {p want : Nat} (h : p + 4 ≤ l.length) : (patchOf l p want).take p = l.take p := by
  unfold patchOf
  rw [List.take_append_of_le_length (by rw [List.length_take]; omega), List.take_take, Nat.min_self]
theorem patchOf_drop {l : List Nat} {p want : Nat} (h : p + 4 ≤ l.length) : (patchOf l p want).drop (p + 4) = l.drop (p + 4) := by
  unfold patchOf
  rw [← List.append_assoc]
  exact List.drop_left' (by simp [le4]; omega)
theorem patchOf_get {l : List Nat} {p want k : Nat} (h : p + 4 ≤ l.length) (hk : k < p ∨ p + 4 ≤ k) : (patchOf l p want)[k]? = l[k]? := by
  rcases hk with hk | hk
  · have h1 : ((patchOf l p want).take p)[k]? = (patchOf l p want)[k]? := by rw [List.getElem?_take, if_pos hk]
    have h2 : (l.take p)[k]? = l[k]? := by rw [List.getElem?_take, if_pos hk]
    rw [← h1, ← h2, patchOf_take h]
  · have h1 : ((patchOf l p want).drop (p + 4))[k - (p + 4)]? = (patchOf l p want)[k]? := by rw [List.getElem?_drop, show p + 4 + (k - (p + 4)) = k by omega]
    have h2 : (l.drop (p + 4))[k - (p + 4)]? = l[k]? := by rw [List.getElem?_drop, show p + 4 + (k - (p + 4)) = k by omega]
    rw [← h1, ← h2, patchOf_drop h]

theorem mvs_inj {r s : Nat} {l : List Nat} (hr : r < 4294967296) (hs : s < 4294967296) (h : mvs r l = mvs s l) : r = s := by
  rw [mvs_num, mvs_num, bitsN_xor, bitsN_xor] at h
  have h2 := xor_cancel h
  have h3 : bitsN (8 * l.length) (r ^^^ s) = 0 := by rw [bitsN_xor, h2, Nat.xor_self]
  have h4 := bitsN_zero (xor_lt32 hr hs) h3
  have := congrArg (fun x => x ^^^ s) h4
  simpa [Nat.xor_assoc] using this

theorem patch_same {l : List Nat} {p : Nat} (h : p + 4 ≤ l.length) (hl : ∀ c ∈ l, c < 256) : patchOf l p (sumOf l) = l := by
  have hd : (l.drop p).length = l.length - p := List.length_drop
  match e : l.drop p, (show 4 ≤ (l.drop p).length by omega) with
  | x0 :: x1 :: x2 :: x3 :: rest, _ =>
    have hr : l.drop (p + 4) = rest := by rw [← List.drop_drop, e]; rfl
    have hl2 : l = l.take p ++ ([x0, x1, x2, x3] ++ rest) := by
      have := List.take_append_drop p l
      rw [e] at this
      exact this.symm
    have hsm : ∀ c ∈ [x0, x1, x2, x3], c < 256 := fun c hc => hl c (by rw [hl2]; exact List.mem_append_right _ (List.mem_append_left _ hc))
    have hz := patchZ_lt (l := l) (p := p) hl (show sumOf l < 4294967296 from xor_lt32 (mvs_lt (by decide) hl) (by decide))
    have h1 := forge_mvs (l := l) (p := p) hl (show sumOf l < 4294967296 from xor_lt32 (mvs_lt (by decide) hl) (by decide))
    have h2 : sumOf l ^^^ 4294967295 = mvs 4294967295 l := by unfold sumOf; rw [Nat.xor_assoc, Nat.xor_self, Nat.xor_zero]
    have hh : mvs 4294967295 (l.take p) < 4294967296 := mvs_lt (by decide) (fun c hc => hl c (List.mem_of_mem_take hc))
    have e2 : mvs 4294967295 l = mvs (mvs (mvs 4294967295 (l.take p)) [x0, x1, x2, x3]) rest := by
      conv => lhs; rw [hl2]
      rw [mvs_app2, mvs_app2]
    rw [h2, e2] at h1
    unfold patchOf at h1 ⊢
    rw [mvs_app2, mvs_app2, hr] at h1
    have h3 := mvs_inj (mvs_lt hh (le4_small _)) (mvs_lt hh hsm) h1
    rw [mvs_four _ _ hz, mvs_num _ [x0, x1, x2, x3], num_four rfl hsm] at h3
    have hm4 : num4 [x0, x1, x2, x3] < 4294967296 := by
      simp at hsm
      simp [num4]
      omega
    have h4 : bitsN 32 (patchZ l p (sumOf l) ^^^ num4 [x0, x1, x2, x3]) = 0 := by
      have h5 : bitsN 32 (mvs 4294967295 (l.take p) ^^^ patchZ l p (sumOf l)) = bitsN 32 (mvs 4294967295 (l.take p) ^^^ num4 [x0, x1, x2, x3]) := h3
      rw [bitsN_xor, bitsN_xor, Nat.xor_comm, Nat.xor_comm (bitsN 32 (mvs 4294967295 (l.take p)))] at h5
      rw [bitsN_xor, xor_cancel h5, Nat.xor_self]
    have h6 := bitsN_zero (xor_lt32 hz hm4) h4
    have h7 : patchZ l p (sumOf l) = num4 [x0, x1, x2, x3] := by
      have := congrArg (fun x => x ^^^ num4 [x0, x1, x2, x3]) h6
      simpa [Nat.xor_assoc] using this
    rw [h7, hr, ← num4_inj (l := [x0, x1, x2, x3]) rfl hsm rfl]
    exact hl2.symm
theorem forge_back {l : List Nat} {p want : Nat} (h : p + 4 ≤ l.length) (hl : ∀ c ∈ l, c < 256) : patchOf (patchOf l p want) p (sumOf l) = l := by
  have e : patchOf (patchOf l p want) p (sumOf l) = patchOf l p (sumOf l) := by
    unfold patchOf patchZ
    have h1 := patchOf_take (want := want) h
    have h2 := patchOf_drop (want := want) h
    unfold patchOf at h1 h2
    unfold patchZ at h1 h2
    rw [h1, h2]
  rw [e]
  exact patch_same h hl
end FerryCrc
