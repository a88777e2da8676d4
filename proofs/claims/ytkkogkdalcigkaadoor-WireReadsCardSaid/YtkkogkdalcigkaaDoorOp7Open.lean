/-
  What the reading of a list of the law's calls gives.
-/
import Derived.Test.YtkkogkdalcigkaaDoorWireStaysWalk
import Derived.Test.YtkkogkdalcigkaaDoorDoorErr
import Derived.Deep.Slices
namespace Go.Proofs.YtkkogkdalcigkaaDoor
open Go.ChangeShapes Go.WideShapes Go.ChangeAt Go.RowKit Go.Deep FerryCrc
set_option linter.unusedVariables false
set_option linter.unusedSimpArgs false

theorem cellsO7 : Tryd.prog.cellsOf 30 = 7 := by kernel_rfl
theorem bytesO7 : Tryd.prog.bytesOf 30 = 64 := by kernel_rfl
theorem cellsI7 : Tryd.prog.cellsOf 3 = 1 := by kernel_rfl
theorem cellsB7 : Tryd.prog.cellsOf 4 = 1 := by kernel_rfl
theorem cellsS7 : Tryd.prog.cellsOf 9 = 1 := by kernel_rfl
theorem add_plain7 (b off i : Nat) : (⟨b, off, none⟩ : Addr).add i = ⟨b, off + i, none⟩ := by
  unfold Addr.add
  split <;> simp_all
theorem weights_of_elem {H : Type} {P : Program} {e : TypeId} : ∀ {l : List (DataW H)} {d : DataW H}, d ∈ l → ∀ n ∈ d.weights P e, n ∈ DataW.weightsAll P e l
  | [], d, h, _, _ => by simp at h
  | x :: l, d, h, n, hn => by
    rw [DataW.weightsAll]
    rcases List.mem_cons.1 h with rfl | h
    · exact List.mem_append.2 (.inl hn)
    · exact List.mem_append.2 (.inr (weights_of_elem h n hn))

set_option maxRecDepth 100000 in
theorem op7_open {H : Type} {enc : TypeId × Value → H} {W : World} {fuel : Nat} {cs : List Value} {x : DataW H × List MemPlace}
    (h2 : DataW.trod enc Tryd.prog W 0 (fun _ => true) true fuel 30 cs = some x) (hlen : cs.length = 7) (hw : ∀ m ∈ x.1.weights Tryd.prog 30, m ≤ reachBytes) : ∃ p : Op7, p.Ok ∧ cs = p.cells := by
  obtain ⟨xs, n, _, hx, _, hxl, hff⟩ := DataW.trod_struct Tryd.underlying30 h2
  match xs, hxl, cs, hlen with
  | [y0, y1, y2, y3, y4, y5, y6], _, [v0, v1, v2, v3, v4, v5, v6], _ =>
    have g0 := hff 0 _ rfl
    have g1 := hff 1 _ rfl
    have g2 := hff 2 _ rfl
    have g3 := hff 3 _ rfl
    have g4 := hff 4 _ rfl
    have g5 := hff 5 _ rfl
    have g6 := hff 6 _ rfl
    simp [cellsI7, cellsB7, cellsS7] at g0 g1 g2 g3 g4 g5 g6
    subst hx
    obtain ⟨z0, e0, _, b0⟩ := DataW.trod_int Tryd.underlying3 g0
    obtain ⟨z1, e1, _⟩ := DataW.trod_bool Tryd.underlying4 g1
    obtain ⟨z2, e2, _, b2⟩ := DataW.trod_int Tryd.underlying3 g2
    obtain ⟨z3, e3, _, b3⟩ := DataW.trod_int Tryd.underlying3 g3
    obtain ⟨z4, e4, _, b4⟩ := DataW.trod_int Tryd.underlying3 g4
    obtain ⟨z5, e5, _, b5⟩ := DataW.trod_int Tryd.underlying3 g5
    obtain ⟨z6, e6, x6, _⟩ := DataW.trod_string Tryd.underlying9 g6
    simp only [List.cons.injEq, and_true] at e0 e1 e2 e3 e4 e5 e6
    subst e0 e1 e2 e3 e4 e5 e6
    have i2 := bounds_i64 b2
    refine ⟨⟨z0, z1, z2, z3, z4, z5, z6⟩, ⟨i2.1, i2.2, ?_⟩, rfl⟩
    have h9 := hw z6.size (by
      simp only [DataW.weights, Tryd.underlying30, List.map_cons, List.map_nil, DataW.weightsEach, List.mem_append]
      right; right; right; right; right; right; left
      rw [x6]
      simp only [DataW.weights, List.mem_singleton]
      rfl)
    show z6.size ≤ _
    unfold reachBytes at h9
    omega

set_option maxRecDepth 100000 in
theorem op7s_open {H : Type} {enc : TypeId × Value → H} {W : World} {fuel : Nat} {a : Option Addr} {len cap : Nat} {x : DataW H × List MemPlace}
    (hf : DataW.trod enc Tryd.prog W 0 (fun _ => true) true fuel 22 [.slice a len cap] = some x) (hw : ∀ m ∈ x.1.weights Tryd.prog 22, m ≤ reachBytes) : ∃ l, Rcs Op7.cells 7 W a len cap l ∧ (∀ p ∈ l, p.Ok) ∧ len ≤ 5864062014805 := by
  rcases open_slice Tryd.underlying22 hf with ⟨hcs, _⟩ | ⟨ad, l, c, m, nf, D, Pl, hcs, _, hl, hm, hmm, hx0, hx⟩
  · simp only [List.cons.injEq, Value.slice.injEq, and_true] at hcs
    obtain ⟨rfl, rfl, rfl⟩ := hcs
    exact ⟨[], ⟨rfl, rfl, by decide, fun _ => ⟨rfl, rfl⟩, fun j v hv => by simp at hv⟩, fun p hp => by simp at hp, by decide⟩
  · simp only [List.cons.injEq, Value.slice.injEq, and_true] at hcs
    obtain ⟨rfl, rfl, rfl⟩ := hcs
    simp only [if_true] at hmm
    subst hmm
    have hreach : m * 64 ≤ reachBytes := by
      refine hw _ ?_
      rw [hx0]
      simp [DataW.weights, Tryd.underlying22, bytesO7]
      left
      rw [show len + (m - len) = m by omega]
    have hel : ∀ k, k < len → ∀ q ∈ (D k).weights Tryd.prog 30, q ≤ reachBytes := fun k hk q hq => by
      refine hw q ?_
      rw [hx0]
      simp only [DataW.weights, Tryd.underlying22, List.mem_cons, List.mem_append]
      exact .inr (.inl (weights_of_elem (List.mem_map.2 ⟨k, List.mem_range.2 hk, rfl⟩) q hq))
    have hsp0 : 0 < len → ad.spot = none := fun h0 => by
      obtain ⟨cs, h1, _⟩ := hx 0 (by omega)
      rw [cellsO7] at h1
      obtain ⟨_, hlen, hcell⟩ := World.cells?_some h1
      have c0 := hcell 0 (by omega)
      rw [add_add, List.getElem?_eq_getElem (by omega)] at c0
      have := World.cell?_spot c0
      simpa [Addr.add] using this
    have each : ∀ k, k < len → ∃ p : Op7, ∃ b off, some ad = some (⟨b, off, none⟩ : Addr) ∧ p.Ok ∧ W.rangeAt b (off + k * 7) p.cells := by
      intro k hk
      obtain ⟨cs, h1, h2⟩ := hx k (by omega)
      rw [cellsO7] at h1
      obtain ⟨_, hlen, hcell⟩ := World.cells?_some h1
      obtain ⟨p, hp, rfl⟩ := op7_open h2 hlen (hel k hk)
      have hsp : ad.spot = none := hsp0 (by omega)
      obtain ⟨b, off, spot⟩ := ad
      simp only at hsp
      subst hsp
      refine ⟨p, b, off, rfl, hp, fun j v hv => ?_⟩
      have hj : j < 7 := by
        have := (List.getElem?_eq_some_iff.1 hv).1
        omega
      have c := hcell j hj
      rw [add_add, add_plain7, hv] at c
      rw [Nat.add_assoc]
      exact c
    haveI : Inhabited Op7 := ⟨⟨0, false, 0, 0, 0, 0, ByteArray.empty⟩⟩
    obtain ⟨C, hC⟩ := choose_lt each
    refine ⟨(List.range len).map C, ⟨by simp, by rw [fl_len Op7.len]; simp, hl, fun e => by simp at e, fun j v hv => ?_⟩, fun p hp => ?_, by unfold reachBytes at hreach; omega⟩
    · have hj := (List.getElem?_eq_some_iff.1 hv).1
      rw [fl_len Op7.len] at hj
      simp only [List.length_map, List.length_range] at hj
      have hk : j / 7 < len := by omega
      have h1 := fl_get Op7.len (l := (List.range len).map C) (k := j / 7) (x := C (j / 7)) (j % 7) (by simp [hk]) (by omega)
      rw [show j / 7 * 7 + j % 7 = j by omega, hv] at h1
      obtain ⟨b, off, e, _, hr⟩ := hC (j / 7) hk
      refine ⟨b, off, e, ?_⟩
      have := hr (j % 7) v h1.symm
      rw [show off + j / 7 * 7 + j % 7 = off + j by omega] at this
      exact this
    · obtain ⟨i, hi, rfl⟩ := List.mem_map.1 hp
      obtain ⟨_, _, _, h, _⟩ := hC i (List.mem_range.1 hi)
      exact h
end Go.Proofs.YtkkogkdalcigkaaDoor
