/-
  What the reading of a table that came in gives: processes, queue and timers, in memory.
-/
import Derived.Test.YtcfkngkenkbkaaaDoorRyBase
import Derived.Test.YtcfkngkenkbkaaaDoorTmsOpen
import Derived.Deep.Slices
namespace Go.Proofs.YtcfkngkenkbkaaaDoor
open Go.ChangeShapes Go.WideShapes Go.ChangeAt Go.RowKit Go.Deep FerryCrc
set_option linter.unusedVariables false

theorem cellsPro : Tryd.prog.cellsOf 60 = 21 := by kernel_rfl
theorem cellsU32 : Tryd.prog.cellsOf 40 = 1 := by kernel_rfl
theorem cellsR16 : Tryd.prog.cellsOf 58 = 16 := by kernel_rfl
theorem bytesPro : Tryd.prog.bytesOf 60 = 104 := by kernel_rfl
theorem bytesI : Tryd.prog.bytesOf 3 = 8 := by kernel_rfl
theorem cellsTab : Tryd.prog.cellsOf 26 = 3 := by kernel_rfl
theorem cellsS1 : Tryd.prog.cellsOf 22 = 1 := by kernel_rfl
theorem cellsS2 : Tryd.prog.cellsOf 23 = 1 := by kernel_rfl
theorem cellsS3 : Tryd.prog.cellsOf 24 = 1 := by kernel_rfl

set_option maxRecDepth 100000 in
set_option maxHeartbeats 1000000 in
theorem pro_open {H : Type} {enc : TypeId × Value → H} {W : World} {fuel : Nat} {cs : List Value} {x : DataW H × List MemPlace}
    (h2 : DataW.trod enc Tryd.prog W 0 (fun _ => true) true fuel 60 cs = some x) (hlen : cs.length = 21) : ∃ p : Pro, cs = p.cells := by
  obtain ⟨xs, n, _, _, _, hxl, hff⟩ := DataW.trod_struct Tryd.underlying60 h2
  match xs, hxl, cs, hlen with
  | [y0, y1, y2, y3, y4, y5], _, [v0, v1, v2, v3, v4, v5, v6, v7, v8, v9, v10, v11, v12, v13, v14, v15, v16, v17, v18, v19, v20], _ =>
    have g0 : DataW.trod enc Tryd.prog W 0 (fun _ => true) true n 58 (([v0, v1, v2, v3, v4, v5, v6, v7, v8, v9, v10, v11, v12, v13, v14, v15, v16, v17, v18, v19, v20].drop 0).take (Tryd.prog.cellsOf 58)) = some y0 := hff 0 _ rfl
    have g1 : DataW.trod enc Tryd.prog W 0 (fun _ => true) true n 40 (([v0, v1, v2, v3, v4, v5, v6, v7, v8, v9, v10, v11, v12, v13, v14, v15, v16, v17, v18, v19, v20].drop 16).take (Tryd.prog.cellsOf 40)) = some y1 := hff 1 _ rfl
    have g2 : DataW.trod enc Tryd.prog W 0 (fun _ => true) true n 3 (([v0, v1, v2, v3, v4, v5, v6, v7, v8, v9, v10, v11, v12, v13, v14, v15, v16, v17, v18, v19, v20].drop 17).take (Tryd.prog.cellsOf 3)) = some y2 := hff 2 _ rfl
    have g3 : DataW.trod enc Tryd.prog W 0 (fun _ => true) true n 3 (([v0, v1, v2, v3, v4, v5, v6, v7, v8, v9, v10, v11, v12, v13, v14, v15, v16, v17, v18, v19, v20].drop 18).take (Tryd.prog.cellsOf 3)) = some y3 := hff 3 _ rfl
    have g4 : DataW.trod enc Tryd.prog W 0 (fun _ => true) true n 3 (([v0, v1, v2, v3, v4, v5, v6, v7, v8, v9, v10, v11, v12, v13, v14, v15, v16, v17, v18, v19, v20].drop 19).take (Tryd.prog.cellsOf 3)) = some y4 := hff 4 _ rfl
    have g5 : DataW.trod enc Tryd.prog W 0 (fun _ => true) true n 3 (([v0, v1, v2, v3, v4, v5, v6, v7, v8, v9, v10, v11, v12, v13, v14, v15, v16, v17, v18, v19, v20].drop 20).take (Tryd.prog.cellsOf 3)) = some y5 := hff 5 _ rfl
    rw [cellsR16] at g0
    rw [cellsU32] at g1
    rw [cellsTmI] at g2 g3 g4 g5
    obtain ⟨zs, m, _, _, _, hzl, hz⟩ := DataW.trod_array Tryd.underlying58 g0
    have h0 := hz 0 (by decide)
    rw [cellsU32, Nat.mul_one, List.getElem?_eq_getElem (by omega)] at h0
    obtain ⟨z0, e0, _, _⟩ := DataW.trod_int Tryd.underlying40 h0
    have h1 := hz 1 (by decide)
    rw [cellsU32, Nat.mul_one, List.getElem?_eq_getElem (by omega)] at h1
    obtain ⟨z1, e1, _, _⟩ := DataW.trod_int Tryd.underlying40 h1
    have h2 := hz 2 (by decide)
    rw [cellsU32, Nat.mul_one, List.getElem?_eq_getElem (by omega)] at h2
    obtain ⟨z2, e2, _, _⟩ := DataW.trod_int Tryd.underlying40 h2
    have h3 := hz 3 (by decide)
    rw [cellsU32, Nat.mul_one, List.getElem?_eq_getElem (by omega)] at h3
    obtain ⟨z3, e3, _, _⟩ := DataW.trod_int Tryd.underlying40 h3
    have h4 := hz 4 (by decide)
    rw [cellsU32, Nat.mul_one, List.getElem?_eq_getElem (by omega)] at h4
    obtain ⟨z4, e4, _, _⟩ := DataW.trod_int Tryd.underlying40 h4
    have h5 := hz 5 (by decide)
    rw [cellsU32, Nat.mul_one, List.getElem?_eq_getElem (by omega)] at h5
    obtain ⟨z5, e5, _, _⟩ := DataW.trod_int Tryd.underlying40 h5
    have h6 := hz 6 (by decide)
    rw [cellsU32, Nat.mul_one, List.getElem?_eq_getElem (by omega)] at h6
    obtain ⟨z6, e6, _, _⟩ := DataW.trod_int Tryd.underlying40 h6
    have h7 := hz 7 (by decide)
    rw [cellsU32, Nat.mul_one, List.getElem?_eq_getElem (by omega)] at h7
    obtain ⟨z7, e7, _, _⟩ := DataW.trod_int Tryd.underlying40 h7
    have h8 := hz 8 (by decide)
    rw [cellsU32, Nat.mul_one, List.getElem?_eq_getElem (by omega)] at h8
    obtain ⟨z8, e8, _, _⟩ := DataW.trod_int Tryd.underlying40 h8
    have h9 := hz 9 (by decide)
    rw [cellsU32, Nat.mul_one, List.getElem?_eq_getElem (by omega)] at h9
    obtain ⟨z9, e9, _, _⟩ := DataW.trod_int Tryd.underlying40 h9
    have h10 := hz 10 (by decide)
    rw [cellsU32, Nat.mul_one, List.getElem?_eq_getElem (by omega)] at h10
    obtain ⟨z10, e10, _, _⟩ := DataW.trod_int Tryd.underlying40 h10
    have h11 := hz 11 (by decide)
    rw [cellsU32, Nat.mul_one, List.getElem?_eq_getElem (by omega)] at h11
    obtain ⟨z11, e11, _, _⟩ := DataW.trod_int Tryd.underlying40 h11
    have h12 := hz 12 (by decide)
    rw [cellsU32, Nat.mul_one, List.getElem?_eq_getElem (by omega)] at h12
    obtain ⟨z12, e12, _, _⟩ := DataW.trod_int Tryd.underlying40 h12
    have h13 := hz 13 (by decide)
    rw [cellsU32, Nat.mul_one, List.getElem?_eq_getElem (by omega)] at h13
    obtain ⟨z13, e13, _, _⟩ := DataW.trod_int Tryd.underlying40 h13
    have h14 := hz 14 (by decide)
    rw [cellsU32, Nat.mul_one, List.getElem?_eq_getElem (by omega)] at h14
    obtain ⟨z14, e14, _, _⟩ := DataW.trod_int Tryd.underlying40 h14
    have h15 := hz 15 (by decide)
    rw [cellsU32, Nat.mul_one, List.getElem?_eq_getElem (by omega)] at h15
    obtain ⟨z15, e15, _, _⟩ := DataW.trod_int Tryd.underlying40 h15
    obtain ⟨q1, e16, _, _⟩ := DataW.trod_int Tryd.underlying40 g1
    obtain ⟨q2, e17, _, _⟩ := DataW.trod_int Tryd.underlying3 g2
    obtain ⟨q3, e18, _, _⟩ := DataW.trod_int Tryd.underlying3 g3
    obtain ⟨q4, e19, _, _⟩ := DataW.trod_int Tryd.underlying3 g4
    obtain ⟨q5, e20, _, _⟩ := DataW.trod_int Tryd.underlying3 g5
    simp at e0 e1 e2 e3 e4 e5 e6 e7 e8 e9 e10 e11 e12 e13 e14 e15 e16 e17 e18 e19 e20
    subst e0 e1 e2 e3 e4 e5 e6 e7 e8 e9 e10 e11 e12 e13 e14 e15 e16 e17 e18 e19 e20
    exact ⟨⟨z0, z1, z2, z3, z4, z5, z6, z7, z8, z9, z10, z11, z12, z13, z14, z15, q1, q2, q3, q4, q5⟩, rfl⟩

set_option maxRecDepth 100000 in
theorem pros_open {H : Type} {enc : TypeId × Value → H} {W : World} {fuel : Nat} {cs0 : List Value} {x : DataW H × List MemPlace}
    (hf : DataW.trod enc Tryd.prog W 0 (fun _ => true) true fuel 22 cs0 = some x) (hw : ∀ m ∈ x.1.weights Tryd.prog 22, m ≤ reachBytes) : ∃ a len cap l, cs0 = [.slice a len cap] ∧ Rcs Pro.cells 21 W a len cap l ∧ len ≤ 1353245080400 := by
  rcases open_slice Tryd.underlying22 hf with ⟨hcs, _⟩ | ⟨ad, len, cap, m, nf, D, Pl, hcs, _, hl, hm, hmm, hx0, hx⟩
  · exact ⟨none, 0, 0, [], hcs, ⟨rfl, rfl, by decide, fun _ => ⟨rfl, rfl⟩, fun j v hv => by simp at hv⟩, by decide⟩
  · simp only [if_true] at hmm
    subst hmm
    have hreach : m * 104 ≤ reachBytes := by
      refine hw _ ?_
      rw [hx0]
      simp [DataW.weights, Tryd.underlying22, bytesPro]
      left
      rw [show len + (m - len) = m by omega]
    have hsp0 : 0 < len → ad.spot = none := fun h0 => by
      obtain ⟨cs, h1, _⟩ := hx 0 (by omega)
      rw [cellsPro] at h1
      obtain ⟨_, hlen, hcell⟩ := World.cells?_some h1
      have c0 := hcell 0 (by omega)
      rw [add_add, List.getElem?_eq_getElem (by omega)] at c0
      have := World.cell?_spot c0
      simpa [Addr.add] using this
    have each : ∀ k, k < len → ∃ p : Pro, ∃ b off, some ad = some (⟨b, off, none⟩ : Addr) ∧ W.rangeAt b (off + k * 21) p.cells := by
      intro k hk
      obtain ⟨cs, h1, h2⟩ := hx k (by omega)
      rw [cellsPro] at h1
      obtain ⟨_, hlen, hcell⟩ := World.cells?_some h1
      obtain ⟨p, rfl⟩ := pro_open h2 hlen
      have hsp : ad.spot = none := hsp0 (by omega)
      obtain ⟨b, off, spot⟩ := ad
      simp only at hsp
      subst hsp
      refine ⟨p, b, off, rfl, fun j v hv => ?_⟩
      have hj : j < 21 := by
        have := (List.getElem?_eq_some_iff.1 hv).1
        rw [pro21] at this
        exact this
      have c := hcell j hj
      rw [add_add, add_plain, hv] at c
      rw [Nat.add_assoc]
      exact c
    haveI : Inhabited Pro := ⟨⟨0, 0, 0, 0, 0, 0, 0, 0, 0, 0, 0, 0, 0, 0, 0, 0, 0, 0, 0, 0, 0⟩⟩
    obtain ⟨C, hC⟩ := choose_lt each
    refine ⟨_, _, _, (List.range len).map C, hcs, ⟨by simp, by rw [fl_len pro21]; simp, hl, fun e => by simp at e, fun j v hv => ?_⟩, by unfold reachBytes at hreach; omega⟩
    have hj := (List.getElem?_eq_some_iff.1 hv).1
    rw [fl_len pro21] at hj
    simp only [List.length_map, List.length_range] at hj
    have hk : j / 21 < len := by omega
    have h1 := fl_get pro21 (l := (List.range len).map C) (k := j / 21) (x := C (j / 21)) (j % 21) (by simp [hk]) (by omega)
    rw [show j / 21 * 21 + j % 21 = j by omega, hv] at h1
    obtain ⟨b, off, e, hr⟩ := hC (j / 21) hk
    refine ⟨b, off, e, ?_⟩
    have := hr (j % 21) v h1.symm
    rw [show off + j / 21 * 21 + j % 21 = off + j by omega] at this
    exact this

theorem is_open {H : Type} {enc : TypeId × Value → H} {W : World} {fuel : Nat} {cs : List Value} {x : DataW H × List MemPlace}
    (hf : DataW.trod enc Tryd.prog W 0 (fun _ => true) true fuel 23 cs = some x) (hw : ∀ m ∈ x.1.weights Tryd.prog 23, m ≤ reachBytes) :
    ∃ a n c r, cs = [.slice a n c] ∧ Is W a n c r ∧ n ≤ 17592186043904 := by
  rcases open_ints Tryd.underlying23 Tryd.underlying3 cellsTmI hf with ⟨hcs, _⟩ | ⟨ad, l, c, zs, hcs, _, hl, hm, hz, hx, hcell, hwz⟩
  · exact ⟨none, 0, 0, [], hcs, ⟨rfl, rfl, by decide, fun _ => ⟨rfl, rfl⟩, fun j v hv => by simp at hv⟩, by decide⟩
  · simp only [if_true] at hz
    refine ⟨some ad, l, c, zs.take l, hcs, ⟨by rw [List.length_take]; omega, by rw [fl_len ci1, List.length_take]; omega, hl, fun e => by simp at e, fun j v hv => ?_⟩, ?_⟩
    · have hj := (List.getElem?_eq_some_iff.1 hv).1
      rw [fl_len ci1, List.length_take] at hj
      obtain ⟨b, off, spot⟩ := ad
      have hs : spot = none := by
        have := World.cell?_spot (hcell 0 (by omega))
        simpa [Addr.add] using this
      subst hs
      refine ⟨b, off, rfl, ?_⟩
      have hc := hcell j (by omega)
      have h1 := fl_get ci1 (l := zs.take l) (k := j) (x := zs[j]'(by omega)) 0 (by rw [List.getElem?_take, if_pos (by omega), List.getElem?_eq_getElem (by omega)]) (by decide)
      rw [Nat.mul_one, Nat.add_zero, hv] at h1
      simp only [ci, List.getElem?_cons_zero, Option.some.injEq] at h1
      subst h1
      rw [add_plain] at hc
      rw [hc]
      simp [List.getD, List.getElem?_eq_getElem (show j < zs.length by omega)]
    · have h2 := hw ((l + (c - l)) * 8) (by
        rw [hx]
        simp [DataW.weights, Tryd.underlying23, bytesI, lits, hz]
        left
        omega)
      simp only [reachBytes] at h2
      omega

set_option maxRecDepth 100000 in
theorem tab_open {H : Type} {enc : TypeId × Value → H} {W : World} {fuel : Nat} {cs : List Value} {x : DataW H × List MemPlace}
    (hf : DataW.trod enc Tryd.prog W 0 (fun _ => true) true fuel 26 cs = some x) (hw : ∀ m ∈ x.1.weights Tryd.prog 26, m ≤ reachBytes) :
    ∃ (a1 : Option Addr) (n1 c1 : Nat) (l : List Pro) (a2 : Option Addr) (n2 c2 : Nat) (r : List Int) (a3 : Option Addr) (n3 c3 : Nat) (t : List Tm), cs = [.slice a1 n1 c1, .slice a2 n2 c2, .slice a3 n3 c3] ∧ Pros W a1 n1 c1 l ∧ Is W a2 n2 c2 r ∧ Tms W a3 n3 c3 t ∧ n1 ≤ 9223372036854775807 ∧ n2 ≤ 9223372036854775807 ∧ n3 ≤ 9223372036854775807 := by
  obtain ⟨xs, n, _, hx, hcl, hxl, hff⟩ := DataW.trod_struct Tryd.underlying26 hf
  rw [cellsTab] at hcl
  match xs, hxl, cs, hcl with
  | [y0, y1, y2], _, [v0, v1, v2], _ =>
    have g0 := hff 0 _ rfl
    have g1 := hff 1 _ rfl
    have g2 := hff 2 _ rfl
    simp [cellsS1, cellsS2, cellsS3] at g0 g1 g2
    subst hx
    simp only [DataW.weights, Tryd.underlying26, List.map_cons, List.map_nil, DataW.weightsEach, List.mem_append] at hw
    obtain ⟨a1, n1, c1, l, e0, p0, b0⟩ := pros_open g0 (fun m hm => hw m (Or.inl hm))
    obtain ⟨a2, n2, c2, r, e1, p1, b1⟩ := is_open g1 (fun m hm => hw m (Or.inr (Or.inl hm)))
    obtain ⟨a3, n3, c3, e2⟩ : ∃ a n c, v2 = .slice a n c := by
      rcases open_slice Tryd.underlying24 g2 with ⟨hcs, _⟩ | ⟨ad, l, c, m, nf, D, Pl, hcs, _⟩
      · simp only [List.cons.injEq, and_true] at hcs
        exact ⟨_, _, _, hcs⟩
      · simp only [List.cons.injEq, and_true] at hcs
        exact ⟨_, _, _, hcs⟩
    subst e2
    obtain ⟨t, p2, _, b2⟩ := tms_open g2 (fun m hm => hw m (Or.inr (Or.inr (Or.inl hm))))
    simp only [List.cons.injEq, and_true] at e0 e1
    subst e0 e1
    exact ⟨a1, n1, c1, l, a2, n2, c2, r, a3, n3, c3, t, rfl, p0, p1, p2, by omega, by omega, by omega⟩
end Go.Proofs.YtcfkngkenkbkaaaDoor
