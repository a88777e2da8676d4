/-
  What the reading of a case that came in gives: a plan, a port with its messages, data, and lists of them.
-/
import Derived.Test.YtgcodajiehfloaaDoorPtBase
import Derived.Test.YtgcodajiehfloaaDoorDoorErr
import Derived.Deep.Slices
namespace Go.Proofs.YtgcodajiehfloaaDoor
open Go.ChangeShapes Go.WideShapes Go.ChangeAt Go.RowKit Go.Deep
set_option linter.unusedVariables false

theorem cellsCase : Tryd.prog.cellsOf 31 = 10 := by kernel_rfl
theorem cellsPlan : Tryd.prog.cellsOf 23 = 4 := by kernel_rfl
theorem cellsPort : Tryd.prog.cellsOf 26 = 2 := by kernel_rfl
theorem cellsInt : Tryd.prog.cellsOf 3 = 1 := by kernel_rfl
theorem cellsSt : Tryd.prog.cellsOf 9 = 1 := by kernel_rfl
theorem cellsSts : Tryd.prog.cellsOf 24 = 1 := by kernel_rfl
theorem cellsPlans : Tryd.prog.cellsOf 27 = 1 := by kernel_rfl
theorem cellsPorts : Tryd.prog.cellsOf 28 = 1 := by kernel_rfl
theorem cellsMsgs : Tryd.prog.cellsOf 29 = 1 := by kernel_rfl
theorem bytesSt : Tryd.prog.bytesOf 9 = 16 := by kernel_rfl

set_option maxRecDepth 100000 in
theorem sts_open {H : Type} {enc : TypeId × Value → H} {W : World} {fuel : Nat} {cs : List Value} {x : DataW H × List MemPlace}
    (hf : DataW.trod enc Tryd.prog W 0 (fun _ => true) true fuel 24 cs = some x) (hw : ∀ m ∈ x.1.weights Tryd.prog 24, m ≤ reachBytes) : ∃ a len cap l, cs = [.slice a len cap] ∧ Sts W a len cap l := by
  rcases open_slice Tryd.underlying24 hf with ⟨hcs, _⟩ | ⟨ad, len, cap, m, nf, D, Pl, hcs, _, hl, hm, hmm, hx0, hx⟩
  · exact ⟨none, 0, 0, [], hcs, rfl, by decide, fun s hs => by simp at hs, rfl, by decide, fun _ => ⟨rfl, rfl⟩, fun j v hv => by simp at hv⟩
  · simp only [if_true] at hmm
    subst hmm
    have hreach : m * 16 ≤ reachBytes := by
      refine hw _ ?_
      rw [hx0]
      simp [DataW.weights, Tryd.underlying24, bytesSt]
      left
      rw [show len + (m - len) = m by omega]
    have hsp0 : 0 < len → ad.spot = none := fun h0 => by
      obtain ⟨cs', h1, _⟩ := hx 0 (by omega)
      rw [cellsSt] at h1
      obtain ⟨_, hlen, hcell⟩ := World.cells?_some h1
      have c0 := hcell 0 (by omega)
      rw [add_add, List.getElem?_eq_getElem (by omega)] at c0
      have := World.cell?_spot c0
      simpa [Addr.add] using this
    have each : ∀ k, k < len → ∃ s : ByteArray, s.size ≤ 9223372036854775807 ∧ ∃ b off, some ad = some (⟨b, off, none⟩ : Addr) ∧ W.cell? ⟨b, off + k, none⟩ = some (.string s) := by
      intro k hk
      obtain ⟨cs', h1, h2⟩ := hx k (by omega)
      rw [cellsSt] at h1
      obtain ⟨_, hlen, hcell⟩ := World.cells?_some h1
      obtain ⟨s, e4, _, b4⟩ := DataW.trod_string Tryd.underlying9 h2
      have hsp : ad.spot = none := hsp0 (by omega)
      obtain ⟨b, off, spot⟩ := ad
      simp only at hsp
      subst hsp
      refine ⟨s, by unfold maxLen at b4; exact Nat.le_trans b4 (by decide), b, off, rfl, ?_⟩
      have c := hcell 0 (by omega)
      rw [add_add, add_plain, e4] at c
      simpa using c
    haveI : Inhabited ByteArray := ⟨ByteArray.empty⟩
    obtain ⟨C, hC⟩ := choose_lt each
    refine ⟨some ad, len, m, (List.range len).map C, hcs, by simp, ?_, fun s hs => ?_, by simp, hl, fun e => by simp at e, fun j v hv => ?_⟩
    · unfold reachBytes at hreach
      omega
    · obtain ⟨i, hi, rfl⟩ := List.mem_map.1 hs
      exact (hC i (List.mem_range.1 hi)).1
    · have hj : j < len := by
        have := (List.getElem?_eq_some_iff.1 hv).1
        simpa using this
      simp [hj, sv] at hv
      subst hv
      exact (hC j hj).2
theorem slice_open {H : Type} {enc : TypeId × Value → H} {W : World} {fuel : Nat} {t e : TypeId} {cs : List Value} {x : DataW H × List MemPlace} (ht : Tryd.prog.underlying t = some (.slice e))
    (hf : DataW.trod enc Tryd.prog W 0 (fun _ => true) true fuel t cs = some x) : ∃ a n c, cs = [.slice a n c] := by
  rcases open_slice ht hf with ⟨hcs, _⟩ | ⟨ad, len, cap, m, nf, D, Pl, hcs, _⟩
  · exact ⟨_, _, _, hcs⟩
  · exact ⟨_, _, _, hcs⟩

set_option maxRecDepth 100000 in
theorem case_open {H : Type} {enc : TypeId × Value → H} {W : World} {fuel : Nat} {cs : List Value} {x : DataW H × List MemPlace}
    (hf : DataW.trod enc Tryd.prog W 0 (fun _ => true) true fuel 31 cs = some x) (hw : ∀ m ∈ x.1.weights Tryd.prog 31, m ≤ reachBytes) :
    ∃ (k s d r : Int) (a : Option Addr) (len cap : Nat) (l : List ByteArray) (age : Int) (D : ByteArray) (x7 x8 x9 : Value), cs = [.int .i64 k, .int .i64 s, .int .i64 d, .int .i64 r, .slice a len cap, .int .i64 age, .string D, x7, x8, x9] ∧ Sts W a len cap l ∧ D.size ≤ 9223372036854775807 ∧
      (∃ a n c, x7 = .slice a n c) ∧ (∃ a n c, x8 = .slice a n c) ∧ (∃ a n c, x9 = .slice a n c) := by
  obtain ⟨xs, n, _, hx, hcl, hxl, hff⟩ := DataW.trod_struct Tryd.underlying31 hf
  rw [cellsCase] at hcl
  match xs, hxl, cs, hcl with
  | [y0, y1, y2, y3, y4, y5], _, [v0, v1, v2, v3, v4, v5, v6, v7, v8, v9], _ =>
    have g0 : DataW.trod enc Tryd.prog W 0 (fun _ => true) true n 23 (([v0, v1, v2, v3, v4, v5, v6, v7, v8, v9].drop 0).take (Tryd.prog.cellsOf 23)) = some y0 := hff 0 _ rfl
    have g1 : DataW.trod enc Tryd.prog W 0 (fun _ => true) true n 26 (([v0, v1, v2, v3, v4, v5, v6, v7, v8, v9].drop 4).take (Tryd.prog.cellsOf 26)) = some y1 := hff 1 _ rfl
    have g2 : DataW.trod enc Tryd.prog W 0 (fun _ => true) true n 9 (([v0, v1, v2, v3, v4, v5, v6, v7, v8, v9].drop 6).take (Tryd.prog.cellsOf 9)) = some y2 := hff 2 _ rfl
    have g3 : DataW.trod enc Tryd.prog W 0 (fun _ => true) true n 27 (([v0, v1, v2, v3, v4, v5, v6, v7, v8, v9].drop 7).take (Tryd.prog.cellsOf 27)) = some y3 := hff 3 _ rfl
    have g4 : DataW.trod enc Tryd.prog W 0 (fun _ => true) true n 28 (([v0, v1, v2, v3, v4, v5, v6, v7, v8, v9].drop 8).take (Tryd.prog.cellsOf 28)) = some y4 := hff 4 _ rfl
    have g5 : DataW.trod enc Tryd.prog W 0 (fun _ => true) true n 29 (([v0, v1, v2, v3, v4, v5, v6, v7, v8, v9].drop 9).take (Tryd.prog.cellsOf 29)) = some y5 := hff 5 _ rfl
    rw [cellsPlan] at g0
    rw [cellsPort] at g1
    rw [cellsSt] at g2
    rw [cellsPlans] at g3
    rw [cellsPorts] at g4
    rw [cellsMsgs] at g5
    subst hx
    simp only [DataW.weights, Tryd.underlying31, List.map_cons, List.map_nil, DataW.weightsEach, List.mem_append] at hw
    obtain ⟨zs, n0, _, hz, _, hzl, hzf⟩ := DataW.trod_struct Tryd.underlying23 g0
    match zs, hzl with
    | [z0, z1, z2, z3], _ =>
      have p0 : DataW.trod enc Tryd.prog W 0 (fun _ => true) true n0 3 (([v0, v1, v2, v3].drop 0).take (Tryd.prog.cellsOf 3)) = some z0 := hzf 0 _ rfl
      have p1 : DataW.trod enc Tryd.prog W 0 (fun _ => true) true n0 3 (([v0, v1, v2, v3].drop 1).take (Tryd.prog.cellsOf 3)) = some z1 := hzf 1 _ rfl
      have p2 : DataW.trod enc Tryd.prog W 0 (fun _ => true) true n0 3 (([v0, v1, v2, v3].drop 2).take (Tryd.prog.cellsOf 3)) = some z2 := hzf 2 _ rfl
      have p3 : DataW.trod enc Tryd.prog W 0 (fun _ => true) true n0 3 (([v0, v1, v2, v3].drop 3).take (Tryd.prog.cellsOf 3)) = some z3 := hzf 3 _ rfl
      rw [cellsInt] at p0 p1 p2 p3
      obtain ⟨k, e0, _, _⟩ := DataW.trod_int Tryd.underlying3 p0
      obtain ⟨s, e1, _, _⟩ := DataW.trod_int Tryd.underlying3 p1
      obtain ⟨d, e2, _, _⟩ := DataW.trod_int Tryd.underlying3 p2
      obtain ⟨r, e3, _, _⟩ := DataW.trod_int Tryd.underlying3 p3
      obtain ⟨us, n1, _, hu, _, hul, huf⟩ := DataW.trod_struct Tryd.underlying26 g1
      match us, hul with
      | [u0, u1], _ =>
        have q0 : DataW.trod enc Tryd.prog W 0 (fun _ => true) true n1 24 (([v4, v5].drop 0).take (Tryd.prog.cellsOf 24)) = some u0 := huf 0 _ rfl
        have q1 : DataW.trod enc Tryd.prog W 0 (fun _ => true) true n1 3 (([v4, v5].drop 1).take (Tryd.prog.cellsOf 3)) = some u1 := huf 1 _ rfl
        rw [cellsSts] at q0
        rw [cellsInt] at q1
        have hwq : ∀ m ∈ y1.1.weights Tryd.prog 26, m ≤ reachBytes := fun m hm => hw m (Or.inr (Or.inl hm))
        rw [hu] at hwq
        simp only [DataW.weights, Tryd.underlying26, List.map_cons, List.map_nil, DataW.weightsEach, List.mem_append] at hwq
        obtain ⟨a, len, cap, l, e4, st⟩ := sts_open q0 (fun m hm => hwq m (Or.inl hm))
        obtain ⟨age, e5, _, _⟩ := DataW.trod_int Tryd.underlying3 q1
        obtain ⟨D, e6, _, b6⟩ := DataW.trod_string Tryd.underlying9 g2
        obtain ⟨a7, n7, c7, e7⟩ := slice_open Tryd.underlying27 g3
        obtain ⟨a8, n8, c8, e8⟩ := slice_open Tryd.underlying28 g4
        obtain ⟨a9, n9, c9, e9⟩ := slice_open Tryd.underlying29 g5
        simp at e0 e1 e2 e3 e4 e5 e6 e7 e8 e9
        subst e0 e1 e2 e3 e4 e5 e6 e7 e8 e9
        exact ⟨k, s, d, r, a, len, cap, l, age, D, _, _, _, rfl, st, by unfold maxLen at b6; exact Nat.le_trans b6 (by decide), ⟨_, _, _, rfl⟩, ⟨_, _, _, rfl⟩, ⟨_, _, _, rfl⟩⟩
end Go.Proofs.YtgcodajiehfloaaDoor
