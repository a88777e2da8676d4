/-
  What the reading of a plan and of a list of calls on a port that came in gives.
-/
import Derived.Test.YtpfmccgiijbcjaaDoorRPqState
import Derived.Test.YtpfmccgiijbcjaaDoorRCaseOpen
namespace Go.Proofs.YtpfmccgiijbcjaaDoorR
open Go.ChangeShapes Go.WideShapes Go.ChangeAt Go.RowKit Go.Deep
set_option linter.unusedVariables false

theorem cellsStep : Tryd.prog.cellsOf 84 = 2 := by kernel_rfl
set_option maxRecDepth 100000 in
theorem plan_open {H : Type} {enc : TypeId × Value → H} {W : World} {fuel : Nat} {cs : List Value} {x : DataW H × List MemPlace}
    (hf : DataW.trod enc Tryd.prog W 0 (fun _ => true) true fuel 23 cs = some x) : ∃ k s d r : Int, cs = [.int .i64 k, .int .i64 s, .int .i64 d, .int .i64 r] := by
  obtain ⟨zs, n0, _, hz, hcl, hzl, hzf⟩ := DataW.trod_struct Tryd.underlying23 hf
  rw [cellsPlan] at hcl
  match zs, hzl, cs, hcl with
  | [z0, z1, z2, z3], _, [v0, v1, v2, v3], _ =>
    have p0 : DataW.trod enc Tryd.prog W 0 (fun _ => true) true n0 3 (([v0, v1, v2, v3].drop 0).take (Tryd.prog.cellsOf 3)) = some z0 := hzf 0 _ rfl
    have p1 : DataW.trod enc Tryd.prog W 0 (fun _ => true) true n0 3 (([v0, v1, v2, v3].drop 1).take (Tryd.prog.cellsOf 3)) = some z1 := hzf 1 _ rfl
    have p2 : DataW.trod enc Tryd.prog W 0 (fun _ => true) true n0 3 (([v0, v1, v2, v3].drop 2).take (Tryd.prog.cellsOf 3)) = some z2 := hzf 2 _ rfl
    have p3 : DataW.trod enc Tryd.prog W 0 (fun _ => true) true n0 3 (([v0, v1, v2, v3].drop 3).take (Tryd.prog.cellsOf 3)) = some z3 := hzf 3 _ rfl
    rw [cellsInt] at p0 p1 p2 p3
    obtain ⟨k, e0, _, _⟩ := DataW.trod_int Tryd.underlying3 p0
    obtain ⟨s, e1, _, _⟩ := DataW.trod_int Tryd.underlying3 p1
    obtain ⟨d, e2, _, _⟩ := DataW.trod_int Tryd.underlying3 p2
    obtain ⟨r, e3, _, _⟩ := DataW.trod_int Tryd.underlying3 p3
    simp at e0 e1 e2 e3
    subst e0 e1 e2 e3
    exact ⟨k, s, d, r, rfl⟩
set_option maxRecDepth 100000 in
theorem sps_open {H : Type} {enc : TypeId × Value → H} {W : World} {fuel : Nat} {a : Option Addr} {len cap : Nat} {x : DataW H × List MemPlace}
    (hf : DataW.trod enc Tryd.prog W 0 (fun _ => true) true fuel 82 [.slice a len cap] = some x) : ∃ K X, Sps W a len K X := by
  rcases open_slice Tryd.underlying82 hf with ⟨hcs, _⟩ | ⟨ad, l, c, m, nf, D, Pl, hcs, _, hl, hm, hmm, hx0, hx⟩
  · simp only [List.cons.injEq, Value.slice.injEq, and_true] at hcs
    obtain ⟨rfl, rfl, rfl⟩ := hcs
    exact ⟨fun _ => 0, fun _ => ByteArray.empty, by decide, fun k hk => by omega⟩
  · simp only [List.cons.injEq, Value.slice.injEq, and_true] at hcs
    obtain ⟨rfl, rfl, rfl⟩ := hcs
    simp only [if_true] at hmm
    subst hmm
    have hsp0 : 0 < len → ad.spot = none := fun h0 => by
      obtain ⟨cs, h1, _⟩ := hx 0 (by omega)
      rw [cellsStep] at h1
      obtain ⟨_, hlen, hcell⟩ := World.cells?_some h1
      have c0 := hcell 0 (by omega)
      rw [add_add, List.getElem?_eq_getElem (by omega)] at c0
      have := World.cell?_spot c0
      simpa [Addr.add] using this
    have each : ∀ k, k < len → ∃ p : Int × ByteArray, ∃ b off, some ad = some (⟨b, off, none⟩ : Addr) ∧ p.2.size ≤ 9223372036854775807 ∧ W.cell? ⟨b, off + k * 2, none⟩ = some (.int .i64 p.1) ∧ W.cell? ⟨b, off + k * 2 + 1, none⟩ = some (.string p.2) := by
      intro k hk
      obtain ⟨cs, h1, h2⟩ := hx k (by omega)
      rw [cellsStep] at h1
      obtain ⟨_, hlen, hcell⟩ := World.cells?_some h1
      obtain ⟨ys, n, _, _, _, hyl, hff⟩ := DataW.trod_struct Tryd.underlying84 h2
      have hsp : ad.spot = none := hsp0 (by omega)
      obtain ⟨b, off, spot⟩ := ad
      simp only at hsp
      subst hsp
      match ys, hyl, cs, hlen with
      | [y0, y1], _, [v0, v1], _ =>
        have g0 : DataW.trod enc Tryd.prog W 0 (fun _ => true) true n 3 (([v0, v1].drop 0).take (Tryd.prog.cellsOf 3)) = some y0 := hff 0 _ rfl
        have g1 : DataW.trod enc Tryd.prog W 0 (fun _ => true) true n 9 (([v0, v1].drop 1).take (Tryd.prog.cellsOf 9)) = some y1 := hff 1 _ rfl
        rw [cellsInt] at g0
        rw [cellsSt] at g1
        obtain ⟨z0, e0, _, _⟩ := DataW.trod_int Tryd.underlying3 g0
        obtain ⟨s, e1, _, b1⟩ := DataW.trod_string Tryd.underlying9 g1
        simp at e0 e1
        subst e0 e1
        have c0 := hcell 0 (by omega)
        have c1 := hcell 1 (by omega)
        rw [add_add, add_plain] at c0 c1
        refine ⟨(z0, s), b, off, rfl, by unfold maxLen at b1; exact Nat.le_trans b1 (by decide), ?_, ?_⟩
        · simpa using c0
        · rw [Nat.add_assoc]
          simpa using c1
    haveI : Inhabited (Int × ByteArray) := ⟨(0, ByteArray.empty)⟩
    obtain ⟨C, hC⟩ := choose_lt each
    exact ⟨fun k => (C k).1, fun k => (C k).2, by unfold maxLen at hm; omega, hC⟩
end Go.Proofs.YtpfmccgiijbcjaaDoorR
