/-
  What the reading of a state's ports gives.
-/
import Derived.Test.YtleeallnfmafnaaDoorVsOpen
namespace Go.Proofs.YtleeallnfmafnaaDoor.Vv
open Go.ChangeShapes Go.WideShapes Go.ChangeAt Go.RowKit Go.Deep FerryCrc
set_option linter.unusedVariables false
set_option linter.unusedSimpArgs false

theorem ocells_port : Tryd.prog.cellsOf 46 = 2 := by kernel_rfl
theorem obytes_port : Tryd.prog.bytesOf 46 = 32 := by kernel_rfl
theorem ocells_strs : Tryd.prog.cellsOf 44 = 1 := by kernel_rfl
theorem weightsAll_mem' {H : Type} {P : Program} {e : TypeId} {d : DataW H} : ∀ {l : List (DataW H)}, d ∈ l → ∀ m ∈ d.weights P e, m ∈ DataW.weightsAll P e l
  | x :: l, h, m, hm => by
    simp only [DataW.weightsAll, List.mem_append]
    rcases List.mem_cons.1 h with rfl | h
    · exact .inl hm
    · exact .inr (weightsAll_mem' h m hm)
theorem port_open {H : Type} {enc : TypeId × Value → H} {W : World} {fuel : Nat} {cs : List Value} {x : DataW H × List MemPlace}
    (h2 : DataW.trod enc Tryd.prog W 0 (fun _ => true) true fuel 46 cs = some x) (hw : ∀ m ∈ x.1.weights Tryd.prog 46, m ≤ reachBytes) : ∃ y n c rs g K, cs = [.slice y n c, .int .i64 g] ∧ Kr W 9 1 16 y n c rs K := by
  obtain ⟨xs, n, _, hx, hcl, hxl, hff⟩ := DataW.trod_struct Tryd.underlying46 h2
  rw [ocells_port] at hcl
  match xs, hxl, cs, hcl with
  | [y0, y1], _, [v0, v1], _ =>
    have g0 : DataW.trod enc Tryd.prog W 0 (fun _ => true) true n 44 (([v0, v1].drop 0).take (Tryd.prog.cellsOf 44)) = some y0 := hff 0 _ rfl
    have g1 : DataW.trod enc Tryd.prog W 0 (fun _ => true) true n 3 (([v0, v1].drop 1).take (Tryd.prog.cellsOf 3)) = some y1 := hff 1 _ rfl
    rw [ocells_strs] at g0
    rw [ocells_int] at g1
    simp only [List.drop_zero, List.take_succ_cons, List.take_zero, List.drop_succ_cons] at g0 g1
    obtain ⟨z, e1, _, _⟩ := DataW.trod_int Tryd.underlying3 g1
    simp only [List.cons.injEq, and_true] at e1
    subst e1
    have hw0 : ∀ m ∈ y0.1.weights Tryd.prog 44, m ≤ reachBytes := fun m hm => hw m (by
      rw [hx]
      simp only [DataW.weights, Tryd.underlying46, List.map_cons, List.map_nil, DataW.weightsEach, List.mem_append]
      exact .inl hm)
    have hs : ∃ y k c, v0 = .slice y k c := by
      rcases open_slice Tryd.underlying44 g0 with ⟨hcs, _⟩ | ⟨ad, l, c, m, nf, D, Pl, hcs, _⟩
      · simp only [List.cons.injEq, and_true] at hcs
        exact ⟨_, _, _, hcs⟩
      · simp only [List.cons.injEq, and_true] at hcs
        exact ⟨_, _, _, hcs⟩
    obtain ⟨y, k, c, rfl⟩ := hs
    obtain ⟨rs, K, hk⟩ := kr_open_str g0 hw0
    exact ⟨y, k, c, rs, z, K, rfl, hk⟩
theorem ports_open {H : Type} {enc : TypeId × Value → H} {W : World} {fuel : Nat} {a : Option Addr} {len cap : Nat} {x : DataW H × List MemPlace}
    (hf : DataW.trod enc Tryd.prog W 0 (fun _ => true) true fuel 26 [.slice a len cap] = some x) (hw : ∀ m ∈ x.1.weights Tryd.prog 26, m ≤ reachBytes) : ∃ cs L, Pr2 W a len cap cs L := by
  rcases open_slice Tryd.underlying26 hf with ⟨hcs, _⟩ | ⟨ad, l, c, m, nf, D, Pl, hcs, _, hl, hm, hmm, hx0, hx⟩
  · simp only [List.cons.injEq, Value.slice.injEq, and_true] at hcs
    obtain ⟨rfl, rfl, rfl⟩ := hcs
    exact ⟨[], [], ⟨rfl, Nat.le_refl _, fun _ => ⟨rfl, rfl⟩, fun j v hv => by simp at hv⟩, rfl, by decide, fun u hu => by simp at hu, fun k l hk => by simp at hk⟩
  · simp only [List.cons.injEq, Value.slice.injEq, and_true] at hcs
    obtain ⟨rfl, rfl, rfl⟩ := hcs
    simp only [if_true] at hmm
    subst hmm
    have hreach : m * 32 ≤ reachBytes := by
      refine hw _ ?_
      rw [hx0]
      simp [DataW.weights, Tryd.underlying26, obytes_port]
      left
      rw [show len + (m - len) = m by omega]
    have hsp0 : 0 < len → ad.spot = none := fun h0 => by
      obtain ⟨cs, h1, _⟩ := hx 0 (by omega)
      rw [ocells_port] at h1
      obtain ⟨_, hlen, hcell⟩ := World.cells?_some h1
      have c0 := hcell 0 (by omega)
      rw [add_add, List.getElem?_eq_getElem (by omega)] at c0
      have := World.cell?_spot c0
      simpa [Addr.add] using this
    have each : ∀ k, k < len → ∃ p : {p : List Value × Int × List (List Lit) // p.1.length = 2}, (∀ j, j < 2 → W.cell? (ad.add (k * 2 + j)) = p.1.1[j]?) ∧ ∃ y n c rs, p.1.1 = [.slice y n c, .int .i64 p.1.2.1] ∧ Kr W 9 1 16 y n c rs p.1.2.2 := by
      intro k hk
      obtain ⟨cs, h1, h2⟩ := hx k (by omega)
      rw [ocells_port] at h1
      obtain ⟨_, hlen, hcell⟩ := World.cells?_some h1
      obtain ⟨y, n, c, rs, g, K, e, hK⟩ := port_open h2 (fun m' hm' => hw m' (by
        rw [hx0]
        simp only [DataW.weights, Tryd.underlying26, List.mem_cons, List.mem_append]
        exact .inr (.inl (weightsAll_mem' (List.mem_map.2 ⟨k, List.mem_range.2 hk, rfl⟩) m' hm'))))
      refine ⟨⟨(cs, g, K), hlen⟩, fun j hj => ?_, y, n, c, rs, e, hK⟩
      have c := hcell j hj
      rw [add_add] at c
      exact c
    haveI : Inhabited {p : List Value × Int × List (List Lit) // p.1.length = 2} := ⟨⟨([undef, undef], 0, []), rfl⟩⟩
    obtain ⟨C, hC⟩ := choose_lt each
    have hfl : ∀ x : {p : List Value × Int × List (List Lit) // p.1.length = 2}, x.1.1.length = 2 := fun x => x.2
    have hlen : (((List.range len).map C).flatMap (·.1.1)).length = len * 2 := by rw [fl_len hfl]; simp
    have hget : ∀ k j, k < len → j < 2 → (((List.range len).map C).flatMap (·.1.1))[k * 2 + j]? = (C k).1.1[j]? := fun k j hk hj => fl_get hfl j (by simp [hk]) hj
    refine ⟨((List.range len).map C).flatMap (·.1.1), ((List.range len).map C).map (·.1.2), ⟨hlen, hl, fun e => by simp at e, fun j v hv => ?_⟩, by simp, by unfold reachBytes at hreach; omega, fun u hu => ?_, fun k p hk => ?_⟩
    · have hj : j < len * 2 := by rw [← hlen]; exact (List.getElem?_eq_some_iff.1 hv).1
      have hk : j / 2 < len := by omega
      have hr : j % 2 < 2 := by omega
      have he : j / 2 * 2 + j % 2 = j := by omega
      have hg := hget (j / 2) (j % 2) hk hr
      rw [he, hv] at hg
      have hc := (hC (j / 2) hk).1 (j % 2) hr
      rw [he, ← hg] at hc
      have hs := hsp0 (by omega)
      obtain ⟨b, off, spot⟩ := ad
      simp only at hs
      subst hs
      exact ⟨b, off, rfl, by rw [← add_lit']; exact hc⟩
    · obtain ⟨x, hx', hux⟩ := List.mem_flatMap.1 hu
      obtain ⟨k, hk, rfl⟩ := List.mem_map.1 hx'
      obtain ⟨y, n, c, rs, e, _⟩ := (hC k (List.mem_range.1 hk)).2
      rw [e] at hux
      simp only [List.mem_cons, List.not_mem_nil, or_false] at hux
      rcases hux with rfl | rfl <;> rfl
    · have hkl : k < len := by
        have := (List.getElem?_eq_some_iff.1 hk).1
        simpa using this
      simp [hkl] at hk
      subst hk
      obtain ⟨y, n, c, rs, e, hK⟩ := (hC k hkl).2
      have g0 := hget k 0 hkl (by decide)
      have g1 := hget k 1 hkl (by decide)
      rw [e] at g0 g1
      exact ⟨y, n, c, rs, g0, g1, hK⟩
end Go.Proofs.YtleeallnfmafnaaDoor.Vv
