/-
  What the reading of a stage and of a list of notes that came in gives.
-/
import Derived.Test.YtdbciciljeainaaGreatDoorCkOpen
import Derived.Test.YtdbciciljeainaaGreatDoorXfClone
namespace Go.Proofs.YtdbciciljeainaaGreatDoor
open Go.ChangeShapes Go.WideShapes Go.ChangeAt Go.RowKit Go.Deep FerryCrc
set_option linter.unusedVariables false
set_option linter.unusedSimpArgs false

theorem cellsSg : Tryz.prog.cellsOf 26 = 7 := by kernel_rfl
theorem cellsTs : Tryz.prog.cellsOf 24 = 1 := by kernel_rfl
theorem bytesTx : Tryz.prog.bytesOf 9 = 16 := by kernel_rfl
theorem bytesNt : Tryz.prog.bytesOf 33 = 88 := by kernel_rfl
theorem weightsAll_in' {H : Type} {P : Program} {e : TypeId} {d : DataW H} : ∀ {l : List (DataW H)}, d ∈ l → ∀ m ∈ d.weights P e, m ∈ DataW.weightsAll P e l
  | x :: l, h, m, hm => by
    simp only [DataW.weightsAll, List.mem_append]
    rcases List.mem_cons.1 h with rfl | h
    · exact .inl hm
    · exact .inr (weightsAll_in' h m hm)
/-- A list that came in, its records opened one by one. -/
theorem rcs_open {α : Type} (z : α) {f : α → List Value} {sz byt : Nat} (hf : ∀ x, (f x).length = sz) (h0 : 0 < sz) {t e : TypeId} (ht : Tryz.prog.underlying t = some (.slice e)) (hcl : Tryz.prog.cellsOf e = sz) (hby : Tryz.prog.bytesOf e = byt) (Ok : α → Prop)
    {H : Type} {enc : TypeId × Value → H} {W : World} (each_open : ∀ fuel cs (x : DataW H × List MemPlace), DataW.trod enc Tryz.prog W 0 (fun _ => true) true fuel e cs = some x → (∀ m ∈ x.1.weights Tryz.prog e, m ≤ reachBytes) → ∃ o, Ok o ∧ cs = f o)
    {fuel : Nat} {cs : List Value} {x : DataW H × List MemPlace} (h : DataW.trod enc Tryz.prog W 0 (fun _ => true) true fuel t cs = some x) (hw : ∀ m ∈ x.1.weights Tryz.prog t, m ≤ reachBytes) :
    ∃ a n c O, cs = [.slice a n c] ∧ Rcs f sz W a n c O ∧ (∀ o ∈ O, Ok o) ∧ n * byt ≤ reachBytes := by
  rcases open_slice ht h with ⟨hcs, _⟩ | ⟨ad, len, cap, m, nf, D, Pl, hcs, _, hl, hm, hmm, hx0, hx⟩
  · exact ⟨none, 0, 0, [], hcs, ⟨rfl, by simp, by decide, fun _ => ⟨rfl, rfl⟩, fun j v hv => by simp at hv⟩, fun p hp => by simp at hp, by simp [reachBytes]⟩
  · simp only [if_true] at hmm
    subst hmm
    have hreach : m * byt ≤ reachBytes := by
      refine hw _ ?_
      rw [hx0]
      simp only [DataW.weights, ht, hby, List.mem_cons]
      left
      simp [show len + (m - len) = m by omega]
    have hsp0 : 0 < len → ad.spot = none := fun h1 => by
      obtain ⟨cs', h1, _⟩ := hx 0 (by omega)
      rw [hcl] at h1
      obtain ⟨_, hlen, hcell⟩ := World.cells?_some h1
      have c0 := hcell 0 (by omega)
      rw [add_add, List.getElem?_eq_getElem (by omega)] at c0
      have := World.cell?_spot c0
      simpa [Addr.add] using this
    have each : ∀ k, k < len → ∃ p : α, ∃ b off, some ad = some (⟨b, off, none⟩ : Addr) ∧ Ok p ∧ W.rangeAt b (off + k * sz) (f p) := by
      intro k hk
      obtain ⟨cs', h1, h2⟩ := hx k (by omega)
      rw [hcl] at h1
      obtain ⟨_, hlen, hcell⟩ := World.cells?_some h1
      obtain ⟨p, hp, rfl⟩ := each_open _ _ _ h2 (fun m' hm' => hw m' (by
        rw [hx0]
        simp only [DataW.weights, ht, List.mem_cons, List.mem_append]
        exact .inr (.inl (weightsAll_in' (List.mem_map.2 ⟨k, List.mem_range.2 hk, rfl⟩) m' hm'))))
      have hsp : ad.spot = none := hsp0 (by omega)
      obtain ⟨b, off, spot⟩ := ad
      simp only at hsp
      subst hsp
      refine ⟨p, b, off, rfl, hp, fun j v hv => ?_⟩
      have hj : j < sz := by
        have := (List.getElem?_eq_some_iff.1 hv).1
        rw [hf] at this
        exact this
      have c := hcell j hj
      rw [add_add, add_plain, hv] at c
      rw [Nat.add_assoc]
      exact c
    haveI : Inhabited α := ⟨z⟩
    obtain ⟨C, hC⟩ := choose_lt each
    have hlm : len * byt ≤ m * byt := Nat.mul_le_mul_right _ hl
    refine ⟨some ad, len, m, (List.range len).map C, hcs, ⟨by simp, by rw [fl_len hf]; simp, hl, fun e => by simp at e, fun j v hv => ?_⟩, fun p hp => ?_, Nat.le_trans hlm hreach⟩
    · have hj := (List.getElem?_eq_some_iff.1 hv).1
      rw [fl_len hf] at hj
      simp only [List.length_map, List.length_range] at hj
      have hk : j / sz < len := (Nat.div_lt_iff_lt_mul h0).2 hj
      have h1 := fl_get hf (l := (List.range len).map C) (k := j / sz) (x := C (j / sz)) (j % sz) (by simp [hk]) (Nat.mod_lt _ h0)
      rw [Nat.div_add_mod' j sz, hv] at h1
      obtain ⟨b, off, e, _, hr⟩ := hC (j / sz) hk
      refine ⟨b, off, e, ?_⟩
      have := hr (j % sz) v h1.symm
      rw [Nat.add_assoc, Nat.div_add_mod' j sz] at this
      exact this
    · obtain ⟨i, hi, rfl⟩ := List.mem_map.1 hp
      obtain ⟨_, _, _, h, _⟩ := hC i (List.mem_range.1 hi)
      exact h
theorem txs_open {H : Type} {enc : TypeId × Value → H} {W : World} {fuel : Nat} {cs : List Value} {x : DataW H × List MemPlace}
    (h : DataW.trod enc Tryz.prog W 0 (fun _ => true) true fuel 24 cs = some x) (hw : ∀ m ∈ x.1.weights Tryz.prog 24, m ≤ reachBytes) : ∃ a n c P, cs = [.slice a n c] ∧ Txs W a n c P ∧ (∀ s ∈ P, s.size ≤ 140737488351232) ∧ n * 16 ≤ 140737488351232 := by
  obtain ⟨a, n, c, F, e, hr, ho, hb⟩ := rcs_open ByteArray.empty tv1 (by decide) Tryz.underlying24 cellsSt bytesTx (fun s => s.size ≤ 140737488351232) (fun fu cs' x' h' hw' => by
    obtain ⟨b, hb, hx, _⟩ := DataW.trod_string Tryz.underlying9 h'
    refine ⟨b, ?_, hb⟩
    have := hw' b.data.toList.length (by rw [hx]; simp [DataW.weights])
    unfold reachBytes at this
    simpa using this) h hw
  exact ⟨a, n, c, F, e, hr, ho, hb⟩
set_option maxRecDepth 100000 in
theorem stage_open {H : Type} {enc : TypeId × Value → H} {W : World} {fuel : Nat} {cs : List Value} {x : DataW H × List MemPlace}
    (hf : DataW.trod enc Tryz.prog W 0 (fun _ => true) true fuel 26 cs = some x) (hw : ∀ m ∈ x.1.weights Tryz.prog 26, m ≤ reachBytes) : ∃ (x1 x2 x3 x4 x5 x6 : Int) (pa : Option Addr) (pn pc : Nat) (P : List ByteArray), cs = [.int .i64 x1, .int .i64 x2, .int .i64 x3, .int .i64 x4, .int .i64 x5, .int .i64 x6, .slice pa pn pc] ∧ Txs W pa pn pc P ∧ (∀ s ∈ P, s.size ≤ 140737488351232) ∧ pn * 16 ≤ 140737488351232 ∧ (-9223372036854775808 ≤ x3 ∧ x3 ≤ 9223372036854775807) := by
  obtain ⟨xs, n, _, hx, hcl, hxl, hff⟩ := DataW.trod_struct Tryz.underlying26 hf
  rw [cellsSg] at hcl
  match xs, hxl, cs, hcl with
  | [y0, y1, y2, y3, y4], _, [v0, v1, v2, v3, v4, v5, v6], _ =>
    have g0 := hff 0 _ rfl
    have g1 := hff 1 _ rfl
    have g2 := hff 2 _ rfl
    have g3 := hff 3 _ rfl
    have g4 := hff 4 _ rfl
    simp [cellsIn, cellsXd, cellsSt, cellsTs] at g0 g1 g2 g3 g4
    have hwt : ∀ m, m ∈ DataW.weightsEach Tryz.prog [3, 3, 3, 23, 24] [y0.1, y1.1, y2.1, y3.1, y4.1] → m ≤ reachBytes := fun m hm => hw m (by
      rw [hx]
      simpa only [DataW.weights, Tryz.underlying26, List.map_cons, List.map_nil] using hm)
    obtain ⟨z0, e0, _, b0⟩ := DataW.trod_int Tryz.underlying3 g0
    obtain ⟨z1, e1, _, b1⟩ := DataW.trod_int Tryz.underlying3 g1
    obtain ⟨z2, e2, _, b2⟩ := DataW.trod_int Tryz.underlying3 g2
    obtain ⟨zb, zr, zm, e3⟩ := xid_open g3
    obtain ⟨pa, pn, pc, P, e4, hP, hs, hn⟩ := txs_open g4 (fun m hm => hwt m (by simp only [DataW.weightsEach, List.mem_append]; exact .inr (.inr (.inr (.inr (.inl hm))))))
    simp only [List.cons.injEq, and_true] at e0 e1 e2 e3 e4
    obtain ⟨e3a, e3b, e3c⟩ := e3
    subst e0 e1 e2 e3a e3b e3c e4
    have c2 := bounds_i64 b2
    exact ⟨z0, z1, z2, zb, zr, zm, pa, pn, pc, P, rfl, hP, hs, hn, c2.1, by have := c2.2; omega⟩
theorem nts_open {H : Type} {enc : TypeId × Value → H} {W : World} {fuel : Nat} {cs : List Value} {x : DataW H × List MemPlace}
    (h : DataW.trod enc Tryz.prog W 0 (fun _ => true) true fuel 27 cs = some x) (hw : ∀ m ∈ x.1.weights Tryz.prog 27, m ≤ reachBytes) : ∃ a n c O, cs = [.slice a n c] ∧ Nts W a n c O ∧ (∀ o ∈ O, o.Ok) ∧ n ≤ 4611686018427387904 := by
  obtain ⟨a, n, c, O, e, hr, ho, hb⟩ := rcs_open zNt nt10 (by decide) Tryz.underlying27 cellsNt bytesNt (fun n => n.Ok) (fun fu cs' x' h' hw' => by
    obtain ⟨n, e, ok, -⟩ := note_open h'
    exact ⟨n, ok, e⟩) h hw
  exact ⟨a, n, c, O, e, hr, ho, by unfold reachBytes at hb; omega⟩
end Go.Proofs.YtdbciciljeainaaGreatDoor
