/-
  What the reading of a state's lists gives.
-/
import Derived.Test.YtleeallnfmafnaaDoorVsOf
import Derived.Test.YtleeallnfmafnaaDoorRcs
import Derived.Deep.Slices
import Derived.ProofKit
import Derived.OpenShut
import Derived.ShutString
import Derived.ChangeOld
import Derived.SizedLaws
namespace Go.Proofs.YtleeallnfmafnaaDoor.Vv
open Go.ChangeShapes Go.WideShapes Go.ChangeAt Go.RowKit Go.Deep FerryCrc
set_option linter.unusedVariables false
set_option linter.unusedSimpArgs false

theorem kr_make {W : World} {t : TypeId} {sz byt m : Nat} {ad : Addr} {len cap : Nat} (h0 : 0 < sz) (hl : len ≤ cap) (hm : len * byt ≤ 140737488355328) (ht : Tryd.prog.tiled m t = true) (C : Nat → {p : List Value × List Lit // p.1.length = sz})
    (hsp : 0 < len → ad.spot = none) (hC : ∀ k, k < len → (∀ j, j < sz → W.cell? (ad.add (k * sz + j)) = (C k).1.1[j]?) ∧ Tryd.prog.keyLits 4 t (C k).1.1 = some (C k).1.2) : ∃ cs K, Kr W t sz byt (some ad) len cap cs K := by
  have hf : ∀ x : {p : List Value × List Lit // p.1.length = sz}, x.1.1.length = sz := fun x => x.2
  have hlen : (((List.range len).map C).flatMap (·.1.1)).length = len * sz := by rw [fl_len hf]; simp
  have hget : ∀ k j, k < len → j < sz → (((List.range len).map C).flatMap (·.1.1))[k * sz + j]? = (C k).1.1[j]? := fun k j hk hj => fl_get hf j (by simp [hk]) hj
  refine ⟨((List.range len).map C).flatMap (·.1.1), ((List.range len).map C).map (·.1.2), ⟨hlen, hl, fun e => by simp at e, fun j v hv => ?_⟩, by simp, hm, fun u hu => ?_, fun k l hk => ?_⟩
  · have hj : j < len * sz := by rw [← hlen]; exact (List.getElem?_eq_some_iff.1 hv).1
    have hk : j / sz < len := Nat.div_lt_of_lt_mul (by rw [Nat.mul_comm]; exact hj)
    have hr : j % sz < sz := Nat.mod_lt _ h0
    have he : j / sz * sz + j % sz = j := by rw [Nat.mul_comm]; exact Nat.div_add_mod j sz
    have hg := hget (j / sz) (j % sz) hk hr
    rw [he, hv] at hg
    have hc := (hC (j / sz) hk).1 (j % sz) hr
    rw [he, ← hg] at hc
    have hs := hsp (Nat.lt_of_le_of_lt (Nat.zero_le _) hk)
    obtain ⟨b, off, spot⟩ := ad
    simp only at hs
    subst hs
    exact ⟨b, off, rfl, by rw [← add_lit']; exact hc⟩
  · obtain ⟨x, hx, hux⟩ := List.mem_flatMap.1 hu
    obtain ⟨k, hk, rfl⟩ := List.mem_map.1 hx
    have e := cells_of_lits m t ht 4 _ _ (hC k (List.mem_range.1 hk)).2
    rw [e] at hux
    obtain ⟨l, _, rfl⟩ := List.mem_map.1 hux
    exact toCell_one l
  · have hkl : k < len := by
      have := (List.getElem?_eq_some_iff.1 hk).1
      simpa using this
    simp [hkl] at hk
    subst hk
    refine ⟨4, ?_⟩
    rw [← (hC k hkl).2]
    congr 1
    refine List.ext_getElem? fun j => ?_
    rw [List.getElem?_take]
    split
    · rename_i hj
      rw [List.getElem?_drop]
      exact hget k j hkl hj
    · rename_i hj
      rw [List.getElem?_eq_none (by rw [(C k).2]; omega)]

theorem ocells_bool : Tryd.prog.cellsOf 4 = 1 := by kernel_rfl
theorem obytes_bool : Tryd.prog.bytesOf 4 = 1 := by kernel_rfl
theorem kr_open_bool {H : Type} {enc : TypeId × Value → H} {W : World} {fuel : Nat} {a : Option Addr} {len cap : Nat} {x : DataW H × List MemPlace}
    (hf : DataW.trod enc Tryd.prog W 0 (fun _ => true) true fuel 25 [.slice a len cap] = some x) (hw : ∀ m ∈ x.1.weights Tryd.prog 25, m ≤ reachBytes) : ∃ cs K, Kr W 4 1 1 a len cap cs K := by
  rcases open_slice Tryd.underlying25 hf with ⟨hcs, _⟩ | ⟨ad, l, c, m, nf, D, Pl, hcs, _, hl, hm, hmm, hx0, hx⟩
  · simp only [List.cons.injEq, Value.slice.injEq, and_true] at hcs
    obtain ⟨rfl, rfl, rfl⟩ := hcs
    exact ⟨[], [], ⟨rfl, Nat.le_refl _, fun _ => ⟨rfl, rfl⟩, fun j v hv => by simp at hv⟩, rfl, by decide, fun u hu => by simp at hu, fun k l hk => by simp at hk⟩
  · simp only [List.cons.injEq, Value.slice.injEq, and_true] at hcs
    obtain ⟨rfl, rfl, rfl⟩ := hcs
    simp only [if_true] at hmm
    subst hmm
    have hreach : m * 1 ≤ reachBytes := by
      refine hw _ ?_
      rw [hx0]
      simp [DataW.weights, Tryd.underlying25, obytes_bool]
      left
      rw [show len + (m - len) = m by omega]
    have hsp0 : 0 < len → ad.spot = none := fun h0 => by
      obtain ⟨cs, h1, _⟩ := hx 0 (by omega)
      rw [ocells_bool] at h1
      obtain ⟨_, hlen, hcell⟩ := World.cells?_some h1
      have c0 := hcell 0 (by omega)
      rw [add_add, List.getElem?_eq_getElem (by omega)] at c0
      have := World.cell?_spot c0
      simpa [Addr.add] using this
    have each : ∀ k, k < len → ∃ p : {p : List Value × List Lit // p.1.length = 1}, (∀ j, j < 1 → W.cell? (ad.add (k * 1 + j)) = p.1.1[j]?) ∧ Tryd.prog.keyLits 4 4 p.1.1 = some p.1.2 := by
      intro k hk
      obtain ⟨cs, h1, h2⟩ := hx k (by omega)
      rw [ocells_bool] at h1
      obtain ⟨_, hlen, hcell⟩ := World.cells?_some h1
      refine ⟨⟨(cs, _), hlen⟩, fun j hj => ?_, (keyLits_of_trod 4 4 (by kernel_rfl) _ _ _ h2).1⟩
      have c := hcell j hj
      rw [add_add] at c
      exact c
    haveI : Inhabited {p : List Value × List Lit // p.1.length = 1} := ⟨⟨(List.replicate 1 undef, []), by simp⟩⟩
    obtain ⟨C, hC⟩ := choose_lt each
    exact kr_make (m := 4) (by decide) hl (by unfold reachBytes at hreach; omega) (by kernel_rfl) C hsp0 hC

theorem ocells_int : Tryd.prog.cellsOf 3 = 1 := by kernel_rfl
theorem obytes_int : Tryd.prog.bytesOf 3 = 8 := by kernel_rfl
theorem kr_open_int {H : Type} {enc : TypeId × Value → H} {W : World} {fuel : Nat} {a : Option Addr} {len cap : Nat} {x : DataW H × List MemPlace}
    (hf : DataW.trod enc Tryd.prog W 0 (fun _ => true) true fuel 23 [.slice a len cap] = some x) (hw : ∀ m ∈ x.1.weights Tryd.prog 23, m ≤ reachBytes) : ∃ cs K, Kr W 3 1 8 a len cap cs K := by
  rcases open_slice Tryd.underlying23 hf with ⟨hcs, _⟩ | ⟨ad, l, c, m, nf, D, Pl, hcs, _, hl, hm, hmm, hx0, hx⟩
  · simp only [List.cons.injEq, Value.slice.injEq, and_true] at hcs
    obtain ⟨rfl, rfl, rfl⟩ := hcs
    exact ⟨[], [], ⟨rfl, Nat.le_refl _, fun _ => ⟨rfl, rfl⟩, fun j v hv => by simp at hv⟩, rfl, by decide, fun u hu => by simp at hu, fun k l hk => by simp at hk⟩
  · simp only [List.cons.injEq, Value.slice.injEq, and_true] at hcs
    obtain ⟨rfl, rfl, rfl⟩ := hcs
    simp only [if_true] at hmm
    subst hmm
    have hreach : m * 8 ≤ reachBytes := by
      refine hw _ ?_
      rw [hx0]
      simp [DataW.weights, Tryd.underlying23, obytes_int]
      left
      rw [show len + (m - len) = m by omega]
    have hsp0 : 0 < len → ad.spot = none := fun h0 => by
      obtain ⟨cs, h1, _⟩ := hx 0 (by omega)
      rw [ocells_int] at h1
      obtain ⟨_, hlen, hcell⟩ := World.cells?_some h1
      have c0 := hcell 0 (by omega)
      rw [add_add, List.getElem?_eq_getElem (by omega)] at c0
      have := World.cell?_spot c0
      simpa [Addr.add] using this
    have each : ∀ k, k < len → ∃ p : {p : List Value × List Lit // p.1.length = 1}, (∀ j, j < 1 → W.cell? (ad.add (k * 1 + j)) = p.1.1[j]?) ∧ Tryd.prog.keyLits 4 3 p.1.1 = some p.1.2 := by
      intro k hk
      obtain ⟨cs, h1, h2⟩ := hx k (by omega)
      rw [ocells_int] at h1
      obtain ⟨_, hlen, hcell⟩ := World.cells?_some h1
      refine ⟨⟨(cs, _), hlen⟩, fun j hj => ?_, (keyLits_of_trod 4 3 (by kernel_rfl) _ _ _ h2).1⟩
      have c := hcell j hj
      rw [add_add] at c
      exact c
    haveI : Inhabited {p : List Value × List Lit // p.1.length = 1} := ⟨⟨(List.replicate 1 undef, []), by simp⟩⟩
    obtain ⟨C, hC⟩ := choose_lt each
    exact kr_make (m := 4) (by decide) hl (by unfold reachBytes at hreach; omega) (by kernel_rfl) C hsp0 hC

theorem ocells_str : Tryd.prog.cellsOf 9 = 1 := by kernel_rfl
theorem obytes_str : Tryd.prog.bytesOf 9 = 16 := by kernel_rfl
theorem kr_open_str {H : Type} {enc : TypeId × Value → H} {W : World} {fuel : Nat} {a : Option Addr} {len cap : Nat} {x : DataW H × List MemPlace}
    (hf : DataW.trod enc Tryd.prog W 0 (fun _ => true) true fuel 44 [.slice a len cap] = some x) (hw : ∀ m ∈ x.1.weights Tryd.prog 44, m ≤ reachBytes) : ∃ cs K, Kr W 9 1 16 a len cap cs K := by
  rcases open_slice Tryd.underlying44 hf with ⟨hcs, _⟩ | ⟨ad, l, c, m, nf, D, Pl, hcs, _, hl, hm, hmm, hx0, hx⟩
  · simp only [List.cons.injEq, Value.slice.injEq, and_true] at hcs
    obtain ⟨rfl, rfl, rfl⟩ := hcs
    exact ⟨[], [], ⟨rfl, Nat.le_refl _, fun _ => ⟨rfl, rfl⟩, fun j v hv => by simp at hv⟩, rfl, by decide, fun u hu => by simp at hu, fun k l hk => by simp at hk⟩
  · simp only [List.cons.injEq, Value.slice.injEq, and_true] at hcs
    obtain ⟨rfl, rfl, rfl⟩ := hcs
    simp only [if_true] at hmm
    subst hmm
    have hreach : m * 16 ≤ reachBytes := by
      refine hw _ ?_
      rw [hx0]
      simp [DataW.weights, Tryd.underlying44, obytes_str]
      left
      rw [show len + (m - len) = m by omega]
    have hsp0 : 0 < len → ad.spot = none := fun h0 => by
      obtain ⟨cs, h1, _⟩ := hx 0 (by omega)
      rw [ocells_str] at h1
      obtain ⟨_, hlen, hcell⟩ := World.cells?_some h1
      have c0 := hcell 0 (by omega)
      rw [add_add, List.getElem?_eq_getElem (by omega)] at c0
      have := World.cell?_spot c0
      simpa [Addr.add] using this
    have each : ∀ k, k < len → ∃ p : {p : List Value × List Lit // p.1.length = 1}, (∀ j, j < 1 → W.cell? (ad.add (k * 1 + j)) = p.1.1[j]?) ∧ Tryd.prog.keyLits 4 9 p.1.1 = some p.1.2 := by
      intro k hk
      obtain ⟨cs, h1, h2⟩ := hx k (by omega)
      rw [ocells_str] at h1
      obtain ⟨_, hlen, hcell⟩ := World.cells?_some h1
      refine ⟨⟨(cs, _), hlen⟩, fun j hj => ?_, (keyLits_of_trod 4 9 (by kernel_rfl) _ _ _ h2).1⟩
      have c := hcell j hj
      rw [add_add] at c
      exact c
    haveI : Inhabited {p : List Value × List Lit // p.1.length = 1} := ⟨⟨(List.replicate 1 undef, []), by simp⟩⟩
    obtain ⟨C, hC⟩ := choose_lt each
    exact kr_make (m := 4) (by decide) hl (by unfold reachBytes at hreach; omega) (by kernel_rfl) C hsp0 hC

theorem ocells_page : Tryd.prog.cellsOf 43 = 66 := by kernel_rfl
theorem obytes_page : Tryd.prog.bytesOf 43 = 80 := by kernel_rfl
theorem kr_open_page {H : Type} {enc : TypeId × Value → H} {W : World} {fuel : Nat} {a : Option Addr} {len cap : Nat} {x : DataW H × List MemPlace}
    (hf : DataW.trod enc Tryd.prog W 0 (fun _ => true) true fuel 27 [.slice a len cap] = some x) (hw : ∀ m ∈ x.1.weights Tryd.prog 27, m ≤ reachBytes) : ∃ cs K, Kr W 43 66 80 a len cap cs K := by
  rcases open_slice Tryd.underlying27 hf with ⟨hcs, _⟩ | ⟨ad, l, c, m, nf, D, Pl, hcs, _, hl, hm, hmm, hx0, hx⟩
  · simp only [List.cons.injEq, Value.slice.injEq, and_true] at hcs
    obtain ⟨rfl, rfl, rfl⟩ := hcs
    exact ⟨[], [], ⟨rfl, Nat.le_refl _, fun _ => ⟨rfl, rfl⟩, fun j v hv => by simp at hv⟩, rfl, by decide, fun u hu => by simp at hu, fun k l hk => by simp at hk⟩
  · simp only [List.cons.injEq, Value.slice.injEq, and_true] at hcs
    obtain ⟨rfl, rfl, rfl⟩ := hcs
    simp only [if_true] at hmm
    subst hmm
    have hreach : m * 80 ≤ reachBytes := by
      refine hw _ ?_
      rw [hx0]
      simp [DataW.weights, Tryd.underlying27, obytes_page]
      left
      rw [show len + (m - len) = m by omega]
    have hsp0 : 0 < len → ad.spot = none := fun h0 => by
      obtain ⟨cs, h1, _⟩ := hx 0 (by omega)
      rw [ocells_page] at h1
      obtain ⟨_, hlen, hcell⟩ := World.cells?_some h1
      have c0 := hcell 0 (by omega)
      rw [add_add, List.getElem?_eq_getElem (by omega)] at c0
      have := World.cell?_spot c0
      simpa [Addr.add] using this
    have each : ∀ k, k < len → ∃ p : {p : List Value × List Lit // p.1.length = 66}, (∀ j, j < 66 → W.cell? (ad.add (k * 66 + j)) = p.1.1[j]?) ∧ Tryd.prog.keyLits 4 43 p.1.1 = some p.1.2 := by
      intro k hk
      obtain ⟨cs, h1, h2⟩ := hx k (by omega)
      rw [ocells_page] at h1
      obtain ⟨_, hlen, hcell⟩ := World.cells?_some h1
      refine ⟨⟨(cs, _), hlen⟩, fun j hj => ?_, (keyLits_of_trod 4 43 (by kernel_rfl) _ _ _ h2).1⟩
      have c := hcell j hj
      rw [add_add] at c
      exact c
    haveI : Inhabited {p : List Value × List Lit // p.1.length = 66} := ⟨⟨(List.replicate 66 undef, []), by simp⟩⟩
    obtain ⟨C, hC⟩ := choose_lt each
    exact kr_make (m := 4) (by decide) hl (by unfold reachBytes at hreach; omega) (by kernel_rfl) C hsp0 hC

theorem ocells_proc : Tryd.prog.cellsOf 64 = 21 := by kernel_rfl
theorem obytes_proc : Tryd.prog.bytesOf 64 = 104 := by kernel_rfl
theorem kr_open_proc {H : Type} {enc : TypeId × Value → H} {W : World} {fuel : Nat} {a : Option Addr} {len cap : Nat} {x : DataW H × List MemPlace}
    (hf : DataW.trod enc Tryd.prog W 0 (fun _ => true) true fuel 22 [.slice a len cap] = some x) (hw : ∀ m ∈ x.1.weights Tryd.prog 22, m ≤ reachBytes) : ∃ cs K, Kr W 64 21 104 a len cap cs K := by
  rcases open_slice Tryd.underlying22 hf with ⟨hcs, _⟩ | ⟨ad, l, c, m, nf, D, Pl, hcs, _, hl, hm, hmm, hx0, hx⟩
  · simp only [List.cons.injEq, Value.slice.injEq, and_true] at hcs
    obtain ⟨rfl, rfl, rfl⟩ := hcs
    exact ⟨[], [], ⟨rfl, Nat.le_refl _, fun _ => ⟨rfl, rfl⟩, fun j v hv => by simp at hv⟩, rfl, by decide, fun u hu => by simp at hu, fun k l hk => by simp at hk⟩
  · simp only [List.cons.injEq, Value.slice.injEq, and_true] at hcs
    obtain ⟨rfl, rfl, rfl⟩ := hcs
    simp only [if_true] at hmm
    subst hmm
    have hreach : m * 104 ≤ reachBytes := by
      refine hw _ ?_
      rw [hx0]
      simp [DataW.weights, Tryd.underlying22, obytes_proc]
      left
      rw [show len + (m - len) = m by omega]
    have hsp0 : 0 < len → ad.spot = none := fun h0 => by
      obtain ⟨cs, h1, _⟩ := hx 0 (by omega)
      rw [ocells_proc] at h1
      obtain ⟨_, hlen, hcell⟩ := World.cells?_some h1
      have c0 := hcell 0 (by omega)
      rw [add_add, List.getElem?_eq_getElem (by omega)] at c0
      have := World.cell?_spot c0
      simpa [Addr.add] using this
    have each : ∀ k, k < len → ∃ p : {p : List Value × List Lit // p.1.length = 21}, (∀ j, j < 21 → W.cell? (ad.add (k * 21 + j)) = p.1.1[j]?) ∧ Tryd.prog.keyLits 4 64 p.1.1 = some p.1.2 := by
      intro k hk
      obtain ⟨cs, h1, h2⟩ := hx k (by omega)
      rw [ocells_proc] at h1
      obtain ⟨_, hlen, hcell⟩ := World.cells?_some h1
      refine ⟨⟨(cs, _), hlen⟩, fun j hj => ?_, (keyLits_of_trod 4 64 (by kernel_rfl) _ _ _ h2).1⟩
      have c := hcell j hj
      rw [add_add] at c
      exact c
    haveI : Inhabited {p : List Value × List Lit // p.1.length = 21} := ⟨⟨(List.replicate 21 undef, []), by simp⟩⟩
    obtain ⟨C, hC⟩ := choose_lt each
    exact kr_make (m := 4) (by decide) hl (by unfold reachBytes at hreach; omega) (by kernel_rfl) C hsp0 hC

theorem ocells_timer : Tryd.prog.cellsOf 66 = 2 := by kernel_rfl
theorem obytes_timer : Tryd.prog.bytesOf 66 = 16 := by kernel_rfl
theorem kr_open_timer {H : Type} {enc : TypeId × Value → H} {W : World} {fuel : Nat} {a : Option Addr} {len cap : Nat} {x : DataW H × List MemPlace}
    (hf : DataW.trod enc Tryd.prog W 0 (fun _ => true) true fuel 24 [.slice a len cap] = some x) (hw : ∀ m ∈ x.1.weights Tryd.prog 24, m ≤ reachBytes) : ∃ cs K, Kr W 66 2 16 a len cap cs K := by
  rcases open_slice Tryd.underlying24 hf with ⟨hcs, _⟩ | ⟨ad, l, c, m, nf, D, Pl, hcs, _, hl, hm, hmm, hx0, hx⟩
  · simp only [List.cons.injEq, Value.slice.injEq, and_true] at hcs
    obtain ⟨rfl, rfl, rfl⟩ := hcs
    exact ⟨[], [], ⟨rfl, Nat.le_refl _, fun _ => ⟨rfl, rfl⟩, fun j v hv => by simp at hv⟩, rfl, by decide, fun u hu => by simp at hu, fun k l hk => by simp at hk⟩
  · simp only [List.cons.injEq, Value.slice.injEq, and_true] at hcs
    obtain ⟨rfl, rfl, rfl⟩ := hcs
    simp only [if_true] at hmm
    subst hmm
    have hreach : m * 16 ≤ reachBytes := by
      refine hw _ ?_
      rw [hx0]
      simp [DataW.weights, Tryd.underlying24, obytes_timer]
      left
      rw [show len + (m - len) = m by omega]
    have hsp0 : 0 < len → ad.spot = none := fun h0 => by
      obtain ⟨cs, h1, _⟩ := hx 0 (by omega)
      rw [ocells_timer] at h1
      obtain ⟨_, hlen, hcell⟩ := World.cells?_some h1
      have c0 := hcell 0 (by omega)
      rw [add_add, List.getElem?_eq_getElem (by omega)] at c0
      have := World.cell?_spot c0
      simpa [Addr.add] using this
    have each : ∀ k, k < len → ∃ p : {p : List Value × List Lit // p.1.length = 2}, (∀ j, j < 2 → W.cell? (ad.add (k * 2 + j)) = p.1.1[j]?) ∧ Tryd.prog.keyLits 4 66 p.1.1 = some p.1.2 := by
      intro k hk
      obtain ⟨cs, h1, h2⟩ := hx k (by omega)
      rw [ocells_timer] at h1
      obtain ⟨_, hlen, hcell⟩ := World.cells?_some h1
      refine ⟨⟨(cs, _), hlen⟩, fun j hj => ?_, (keyLits_of_trod 4 66 (by kernel_rfl) _ _ _ h2).1⟩
      have c := hcell j hj
      rw [add_add] at c
      exact c
    haveI : Inhabited {p : List Value × List Lit // p.1.length = 2} := ⟨⟨(List.replicate 2 undef, []), by simp⟩⟩
    obtain ⟨C, hC⟩ := choose_lt each
    exact kr_make (m := 4) (by decide) hl (by unfold reachBytes at hreach; omega) (by kernel_rfl) C hsp0 hC
end Go.Proofs.YtleeallnfmafnaaDoor.Vv
