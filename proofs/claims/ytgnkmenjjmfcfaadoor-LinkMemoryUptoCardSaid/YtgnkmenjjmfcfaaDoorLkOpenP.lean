/-
  What the reading of a script of calls that came in gives: the calls, in memory.
-/
import Derived.Test.YtgnkmenjjmfcfaaDoorLkAns
import Derived.Test.YtgnkmenjjmfcfaaDoorDoorErr
import Derived.Deep.Slices
namespace Go.Proofs.YtgnkmenjjmfcfaaDoor
open Go.ChangeShapes Go.WideShapes Go.ChangeAt Go.RowKit Go.Deep
set_option linter.unusedVariables false

theorem cellsKp : Tryd.prog.cellsOf 31 = 7 := by kernel_rfl
theorem bytesKp : Tryd.prog.bytesOf 31 = 64 := by kernel_rfl
theorem cellsI1 : Tryd.prog.cellsOf 3 = 1 := by kernel_rfl
theorem cellsB1 : Tryd.prog.cellsOf 4 = 1 := by kernel_rfl
theorem cellsU1 : Tryd.prog.cellsOf 29 = 1 := by kernel_rfl
theorem cellsS1 : Tryd.prog.cellsOf 9 = 1 := by kernel_rfl
theorem weightsAll_in' {H : Type} {P : Program} {e : TypeId} {d : DataW H} : ∀ {l : List (DataW H)}, d ∈ l → ∀ m ∈ d.weights P e, m ∈ DataW.weightsAll P e l
  | x :: l, h, m, hm => by
    simp only [DataW.weightsAll, List.mem_append]
    rcases List.mem_cons.1 h with rfl | h
    · exact .inl hm
    · exact .inr (weightsAll_in' h m hm)
theorem rcs_open {α : Type} (z : α) {f : α → List Value} {sz byt : Nat} (hf : ∀ x, (f x).length = sz) (h0 : 0 < sz) {t e : TypeId} (ht : Tryd.prog.underlying t = some (.slice e)) (hcl : Tryd.prog.cellsOf e = sz) (hby : Tryd.prog.bytesOf e = byt) (Ok : α → Prop)
    {H : Type} {enc : TypeId × Value → H} {W : World} (each_open : ∀ fuel cs (x : DataW H × List MemPlace), DataW.trod enc Tryd.prog W 0 (fun _ => true) true fuel e cs = some x → (∀ m ∈ x.1.weights Tryd.prog e, m ≤ reachBytes) → ∃ o, Ok o ∧ cs = f o)
    {fuel : Nat} {cs : List Value} {x : DataW H × List MemPlace} (h : DataW.trod enc Tryd.prog W 0 (fun _ => true) true fuel t cs = some x) (hw : ∀ m ∈ x.1.weights Tryd.prog t, m ≤ reachBytes) :
    ∃ a n c O, cs = [.slice a n c] ∧ Rcs f sz W a n c O ∧ (∀ o ∈ O, Ok o) ∧ n * byt ≤ reachBytes := by
  rcases open_slice ht h with ⟨hcs, _⟩ | ⟨ad, len, cap, m, nf, D, Pl, hcs, _, hl, hm, hmm, hx0, hx⟩
  · exact ⟨none, 0, 0, [], hcs, ⟨rfl, by simp, by decide, fun _ => ⟨rfl, rfl⟩, fun j v hv => by simp at hv⟩, fun p hp => by simp at hp, by simp [reachBytes]⟩
  · simp only [if_true] at hmm
    subst hmm
    have hreach : m * byt ≤ reachBytes := by
      refine hw _ ?_
      rw [hx0]
      simp only [DataW.weights, ht, hby, List.mem_cons]
      left
      simp [show len + (m - len) = m by omega]
    have hsp0 : 0 < len → ad.spot = none := fun h1 => by
      obtain ⟨cs', h1, _⟩ := hx 0 (by omega)
      rw [hcl] at h1
      obtain ⟨_, hlen, hcell⟩ := World.cells?_some h1
      have c0 := hcell 0 (by omega)
      rw [add_add, List.getElem?_eq_getElem (by omega)] at c0
      have := World.cell?_spot c0
      simpa [Addr.add] using this
    have each : ∀ k, k < len → ∃ p : α, ∃ b off, some ad = some (⟨b, off, none⟩ : Addr) ∧ Ok p ∧ W.rangeAt b (off + k * sz) (f p) := by
      intro k hk
      obtain ⟨cs', h1, h2⟩ := hx k (by omega)
      rw [hcl] at h1
      obtain ⟨_, hlen, hcell⟩ := World.cells?_some h1
      obtain ⟨p, hp, rfl⟩ := each_open _ _ _ h2 (fun m' hm' => hw m' (by
        rw [hx0]
        simp only [DataW.weights, ht, List.mem_cons, List.mem_append]
        exact .inr (.inl (weightsAll_in' (List.mem_map.2 ⟨k, List.mem_range.2 hk, rfl⟩) m' hm'))))
      have hsp : ad.spot = none := hsp0 (by omega)
      obtain ⟨b, off, spot⟩ := ad
      simp only at hsp
      subst hsp
      refine ⟨p, b, off, rfl, hp, fun j v hv => ?_⟩
      have hj : j < sz := by
        have := (List.getElem?_eq_some_iff.1 hv).1
        rw [hf] at this
        exact this
      have c := hcell j hj
      rw [add_add, add_plain, hv] at c
      rw [Nat.add_assoc]
      exact c
    haveI : Inhabited α := ⟨z⟩
    obtain ⟨C, hC⟩ := choose_lt each
    have hlm : len * byt ≤ m * byt := Nat.mul_le_mul_right _ hl
    refine ⟨some ad, len, m, (List.range len).map C, hcs, ⟨by simp, by rw [fl_len hf]; simp, hl, fun e => by simp at e, fun j v hv => ?_⟩, fun p hp => ?_, Nat.le_trans hlm hreach⟩
    · have hj := (List.getElem?_eq_some_iff.1 hv).1
      rw [fl_len hf] at hj
      simp only [List.length_map, List.length_range] at hj
      have hk : j / sz < len := (Nat.div_lt_iff_lt_mul h0).2 hj
      have h1 := fl_get hf (l := (List.range len).map C) (k := j / sz) (x := C (j / sz)) (j % sz) (by simp [hk]) (Nat.mod_lt _ h0)
      rw [Nat.div_add_mod' j sz, hv] at h1
      obtain ⟨b, off, e, _, hr⟩ := hC (j / sz) hk
      refine ⟨b, off, e, ?_⟩
      have := hr (j % sz) v h1.symm
      rw [Nat.add_assoc, Nat.div_add_mod' j sz] at this
      exact this
    · obtain ⟨i, hi, rfl⟩ := List.mem_map.1 hp
      obtain ⟨_, _, _, h, _⟩ := hC i (List.mem_range.1 hi)
      exact h

theorem bounds_i64k {k : Int} (h : (Lit.int .i64 k).wf = true) : -9223372036854775808 ≤ k ∧ k ≤ 9223372036854775807 := by
  have e1 : IntKind.min .i64 = -9223372036854775808 := by decide
  have e2 : IntKind.max .i64 = 9223372036854775807 := by decide
  have h' : (decide (IntKind.min .i64 ≤ k) && decide (k ≤ IntKind.max .i64)) = true := h
  rw [e1, e2] at h'
  simpa using h'
theorem bounds_u32k {k : Int} (h : (Lit.int .u32 k).wf = true) : 0 ≤ k ∧ k ≤ 4294967295 := by
  have e1 : IntKind.min .u32 = 0 := by decide
  have e2 : IntKind.max .u32 = 4294967295 := by decide
  have h' : (decide (IntKind.min .u32 ≤ k) && decide (k ≤ IntKind.max .u32)) = true := h
  rw [e1, e2] at h'
  simpa using h'
set_option maxRecDepth 100000 in
theorem kp_open {H : Type} {enc : TypeId × Value → H} {W : World} {fuel : Nat} {cs : List Value} {x : DataW H × List MemPlace}
    (h2 : DataW.trod enc Tryd.prog W 0 (fun _ => true) true fuel 31 cs = some x) (hw : ∀ m ∈ x.1.weights Tryd.prog 31, m ≤ reachBytes) : ∃ p : Kp, p.ok2 ∧ cs = kpC p := by
  obtain ⟨xs, n, _, hx, hcl, hxl, hff⟩ := DataW.trod_struct Tryd.underlying31 h2
  rw [cellsKp] at hcl
  match xs, hxl, cs, hcl with
  | [y0, y1, y2, y3, y4, y5, y6], _, [v0, v1, v2, v3, v4, v5, v6], _ =>
    have g0 := hff 0 _ rfl
    have g1 := hff 1 _ rfl
    have g2 := hff 2 _ rfl
    have g3 := hff 3 _ rfl
    have g4 := hff 4 _ rfl
    have g5 := hff 5 _ rfl
    have g6 := hff 6 _ rfl
    simp [cellsI1, cellsB1, cellsU1, cellsS1] at g0 g1 g2 g3 g4 g5 g6
    have hwt : ∀ m, m ∈ DataW.weightsEach Tryd.prog [3, 4, 3, 3, 3, 29, 9] [y0.1, y1.1, y2.1, y3.1, y4.1, y5.1, y6.1] → m ≤ reachBytes := fun m hm => hw m (by
      rw [hx]
      simpa only [DataW.weights, Tryd.underlying31, List.map_cons, List.map_nil] using hm)
    obtain ⟨z0, e0, _, _⟩ := DataW.trod_int Tryd.underlying3 g0
    obtain ⟨z1, e1, _⟩ := DataW.trod_bool Tryd.underlying4 g1
    obtain ⟨z2, e2, -, w2⟩ := DataW.trod_int Tryd.underlying3 g2
    obtain ⟨z3, e3, -, w3⟩ := DataW.trod_int Tryd.underlying3 g3
    obtain ⟨z4, e4, -, w4⟩ := DataW.trod_int Tryd.underlying3 g4
    obtain ⟨z5, e5, -, w5⟩ := DataW.trod_int Tryd.underlying29 g5
    obtain ⟨z6, e6, -, h6a⟩ := DataW.trod_string Tryd.underlying9 g6
    simp at e0 e1 e2 e3 e4 e5 e6
    subst e0 e1 e2 e3 e4 e5 e6
    have b2 := bounds_i64k w2
    have b3 := bounds_i64k w3
    have b4 := bounds_i64k w4
    have b5 := bounds_u32k w5
    refine ⟨⟨z0, z1, z2, z3, z4, z5.toNat, z6⟩, ⟨⟨b2, b3, ?_, ?_⟩, b4⟩, ?_⟩
    · dsimp only; omega
    · unfold maxLen at h6a; dsimp only; omega
    · simp only [kpC]
      rw [Int.toNat_of_nonneg b5.1]
theorem kps_open {H : Type} {enc : TypeId × Value → H} {W : World} {fuel : Nat} {cs : List Value} {x : DataW H × List MemPlace}
    (h : DataW.trod enc Tryd.prog W 0 (fun _ => true) true fuel 22 cs = some x) (hw : ∀ m ∈ x.1.weights Tryd.prog 22, m ≤ reachBytes) : ∃ a n c O, cs = [.slice a n c] ∧ Rcs kpC 7 W a n c O ∧ (∀ o ∈ O, o.ok2) ∧ n ≤ 2199023255488 := by
  obtain ⟨a, n, c, O, e, hr, ho, hb⟩ := rcs_open (⟨0, false, 0, 0, 0, 0, ⟨#[]⟩⟩ : Kp) kp7 (by decide) Tryd.underlying22 cellsKp bytesKp (fun o => o.ok2) (fun fu cs' x' h' hw' => kp_open h' hw') h hw
  exact ⟨a, n, c, O, e, hr, ho, by unfold reachBytes at hb; omega⟩
end Go.Proofs.YtgnkmenjjmfcfaaDoor
