/-
  What the reading of a list of losses that came in gives: two lists of numbers each.
-/
import Derived.Test.YtnopclacchoijaaDoorX7Open
import Derived.Test.YtnopclacchoijaaDoorXaState
namespace Go.Proofs.YtnopclacchoijaaDoor
open Go.ChangeShapes Go.WideShapes Go.ChangeAt Go.RowKit Go.Deep FerryCrc
set_option linter.unusedVariables false

theorem cellsLo : Tryd.prog.cellsOf 90 = 2 := by kernel_rfl
theorem cellsIs : Tryd.prog.cellsOf 86 = 1 := by kernel_rfl
theorem bytesLo : Tryd.prog.bytesOf 90 = 48 := by kernel_rfl
theorem weightsAll_in {H : Type} {P : Program} {e : TypeId} {d : DataW H} : ∀ {l : List (DataW H)}, d ∈ l → ∀ m ∈ d.weights P e, m ∈ DataW.weightsAll P e l
  | x :: l, h, m, hm => by
    simp only [DataW.weightsAll, List.mem_append]
    rcases List.mem_cons.1 h with rfl | h
    · exact .inl hm
    · exact .inr (weightsAll_in h m hm)
set_option maxRecDepth 100000 in
theorem loss_open {H : Type} {enc : TypeId × Value → H} {W : World} {fuel : Nat} {cs : List Value} {x : DataW H × List MemPlace}
    (h2 : DataW.trod enc Tryd.prog W 0 (fun _ => true) true fuel 90 cs = some x) (hw : ∀ m ∈ x.1.weights Tryd.prog 90, m ≤ reachBytes) : ∃ o : Lo, o.Ok W ∧ cs = o.cells := by
  obtain ⟨xs, n, _, hx, hcl, hxl, hff⟩ := DataW.trod_struct Tryd.underlying90 h2
  rw [cellsLo] at hcl
  match xs, hxl, cs, hcl with
  | [y0, y1], _, [v0, v1], _ =>
    have g0 : DataW.trod enc Tryd.prog W 0 (fun _ => true) true n 86 (([v0, v1].drop 0).take (Tryd.prog.cellsOf 86)) = some y0 := hff 0 _ rfl
    have g1 : DataW.trod enc Tryd.prog W 0 (fun _ => true) true n 86 (([v0, v1].drop (Tryd.prog.cellsOf 86)).take (Tryd.prog.cellsOf 86)) = some y1 := by
      have := hff 1 _ rfl
      rw [cellsIs]
      simpa [cellsIs] using this
    rw [cellsIs] at g0 g1
    simp only [List.drop_zero, List.take_succ_cons, List.take_zero, List.drop_succ_cons] at g0 g1
    have hw0 : ∀ m ∈ y0.1.weights Tryd.prog 86, m ≤ reachBytes := fun m hm => hw m (by
      rw [hx]
      simp only [DataW.weights, Tryd.underlying90, List.map_cons, List.map_nil, DataW.weightsEach, List.mem_append]
      exact .inl hm)
    have hw1 : ∀ m ∈ y1.1.weights Tryd.prog 86, m ≤ reachBytes := fun m hm => hw m (by
      rw [hx]
      simp only [DataW.weights, Tryd.underlying90, List.map_cons, List.map_nil, DataW.weightsEach, List.mem_append]
      exact .inr (.inl hm))
    obtain ⟨a0, n0, c0, l0, e0, k0, _⟩ := ints_open g0 hw0
    obtain ⟨a1, n1, c1, l1, e1, k1, _⟩ := ints_open g1 hw1
    simp only [List.cons.injEq, and_true] at e0 e1
    subst e0 e1
    exact ⟨⟨a0, n0, c0, l0, a1, n1, c1, l1⟩, ⟨k0, k1⟩, rfl⟩
set_option maxRecDepth 100000 in
theorem lss_open {H : Type} {enc : TypeId × Value → H} {W : World} {fuel : Nat} {cs : List Value} {x : DataW H × List MemPlace}
    (h : DataW.trod enc Tryd.prog W 0 (fun _ => true) true fuel 88 cs = some x) (hw : ∀ m ∈ x.1.weights Tryd.prog 88, m ≤ reachBytes) :
    ∃ a n c O, cs = [.slice a n c] ∧ Lss W a n c O ∧ n ≤ 4611686018427387904 := by
  rcases open_slice Tryd.underlying88 h with ⟨hcs, _⟩ | ⟨ad, len, cap, m, nf, D, Pl, hcs, _, hl, hm, hmm, hx0, hx⟩
  · exact ⟨none, 0, 0, [], hcs, ⟨⟨rfl, by simp, by decide, fun _ => ⟨rfl, rfl⟩, fun j v hv => by simp at hv⟩, fun p hp => by simp at hp⟩, by decide⟩
  · simp only [if_true] at hmm
    subst hmm
    have hreach : m * 48 ≤ reachBytes := by
      refine hw _ ?_
      rw [hx0]
      simp [DataW.weights, Tryd.underlying88, bytesLo]
      left
      rw [show len + (m - len) = m by omega]
    have hsp0 : 0 < len → ad.spot = none := fun h1 => by
      obtain ⟨cs', h1, _⟩ := hx 0 (by omega)
      rw [cellsLo] at h1
      obtain ⟨_, hlen, hcell⟩ := World.cells?_some h1
      have c0 := hcell 0 (by omega)
      rw [add_add, List.getElem?_eq_getElem (by omega)] at c0
      have := World.cell?_spot c0
      simpa [Addr.add] using this
    have each : ∀ k, k < len → ∃ p : Lo, ∃ b off, some ad = some (⟨b, off, none⟩ : Addr) ∧ p.Ok W ∧ W.rangeAt b (off + k * 2) p.cells := by
      intro k hk
      obtain ⟨cs', h1, h2⟩ := hx k (by omega)
      rw [cellsLo] at h1
      obtain ⟨_, hlen, hcell⟩ := World.cells?_some h1
      obtain ⟨p, hp, rfl⟩ := loss_open h2 (fun m' hm' => hw m' (by
        rw [hx0]
        simp only [DataW.weights, Tryd.underlying88, List.mem_cons, List.mem_append]
        exact .inr (.inl (weightsAll_in (List.mem_map.2 ⟨k, List.mem_range.2 hk, rfl⟩) m' hm'))))
      have hsp : ad.spot = none := hsp0 (by omega)
      obtain ⟨b, off, spot⟩ := ad
      simp only at hsp
      subst hsp
      refine ⟨p, b, off, rfl, hp, fun j v hv => ?_⟩
      have hj : j < 2 := by
        have := (List.getElem?_eq_some_iff.1 hv).1
        rw [lo2] at this
        exact this
      have c := hcell j hj
      rw [add_add, add_plain, hv] at c
      rw [Nat.add_assoc]
      exact c
    haveI : Inhabited Lo := ⟨⟨none, 0, 0, [], none, 0, 0, []⟩⟩
    obtain ⟨C, hC⟩ := choose_lt each
    refine ⟨some ad, len, m, (List.range len).map C, hcs, ⟨⟨by simp, by rw [fl_len lo2]; simp, hl, fun e => by simp at e, fun j v hv => ?_⟩, fun p hp => ?_⟩, by unfold reachBytes at hreach; omega⟩
    · have hj := (List.getElem?_eq_some_iff.1 hv).1
      rw [fl_len lo2] at hj
      simp only [List.length_map, List.length_range] at hj
      have hk : j / 2 < len := (Nat.div_lt_iff_lt_mul (by decide)).2 hj
      have h1 := fl_get lo2 (l := (List.range len).map C) (k := j / 2) (x := C (j / 2)) (j % 2) (by simp [hk]) (Nat.mod_lt _ (by decide))
      rw [Nat.div_add_mod' j 2, hv] at h1
      obtain ⟨b, off, e, _, hr⟩ := hC (j / 2) hk
      refine ⟨b, off, e, ?_⟩
      have := hr (j % 2) v h1.symm
      rw [Nat.add_assoc, Nat.div_add_mod' j 2] at this
      exact this
    · obtain ⟨i, hi, rfl⟩ := List.mem_map.1 hp
      obtain ⟨_, _, _, h, _⟩ := hC i (List.mem_range.1 hi)
      exact h
end Go.Proofs.YtnopclacchoijaaDoor
