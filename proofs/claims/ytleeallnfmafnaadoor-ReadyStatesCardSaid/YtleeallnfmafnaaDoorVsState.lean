/-
  A state with its lists as rows; what the reading of a state gives.
-/
import Derived.Test.YtleeallnfmafnaaDoorVsOpen2
namespace Go.Proofs.YtleeallnfmafnaaDoor.Vv
open Go.ChangeShapes Go.WideShapes Go.ChangeAt Go.RowKit Go.Deep FerryCrc
set_option linter.unusedVariables false
set_option linter.unusedSimpArgs false

/-- A state's cells, its lists as rows. -/
def Sr (w : World) (cs : List Value) (s : Sk) : Prop := ∃ a3 n3 c3 r3 a4 n4 c4 r4 a5 n5 c5 r5 a6 n6 c6 r6 a7 n7 c7 r7 a8 n8 c8 r8 a9 n9 c9 r9, cs = [.int .i64 s.id, .int .i64 s.frame, .int .i64 s.epoch, .slice a3 n3 c3, .slice a4 n4 c4, .slice a5 n5 c5, .slice a6 n6 c6, .slice a7 n7 c7, .slice a8 n8 c8, .slice a9 n9 c9] ∧ Kr w 64 21 104 a3 n3 c3 r3 s.procs ∧ Kr w 3 1 8 a4 n4 c4 r4 s.ready ∧ Kr w 66 2 16 a5 n5 c5 r5 s.timers ∧ Kr w 4 1 1 a6 n6 c6 r6 s.up ∧ Kr w 3 1 8 a7 n7 c7 r7 s.sems ∧ Pr2 w a8 n8 c8 r8 s.ports ∧ Kr w 43 66 80 a9 n9 c9 r9 s.pages
theorem Sr.below {w w' : World} {cs : List Value} {s : Sk} (h : Sr w cs s) (hb : Below w.heap.size w w') : Sr w' cs s := by
  obtain ⟨a3, n3, c3, r3, a4, n4, c4, r4, a5, n5, c5, r5, a6, n6, c6, r6, a7, n7, c7, r7, a8, n8, c8, r8, a9, n9, c9, r9, e, h3, h4, h5, h6, h7, h8, h9⟩ := h
  exact ⟨a3, n3, c3, r3, a4, n4, c4, r4, a5, n5, c5, r5, a6, n6, c6, r6, a7, n7, c7, r7, a8, n8, c8, r8, a9, n9, c9, r9, e, h3.below hb, h4.below hb, h5.below hb, h6.below hb, h7.below hb, h8.below hb, h9.below hb⟩
theorem Sr.sv {w : World} {cs : List Value} {s : Sk} (h : Sr w cs s) : Sv w cs s := by
  obtain ⟨a3, n3, c3, r3, a4, n4, c4, r4, a5, n5, c5, r5, a6, n6, c6, r6, a7, n7, c7, r7, a8, n8, c8, r8, a9, n9, c9, r9, e, h3, h4, h5, h6, h7, h8, h9⟩ := h
  exact ⟨a3, n3, c3, a4, n4, c4, a5, n5, c5, a6, n6, c6, a7, n7, c7, a8, n8, c8, a9, n9, c9, e, h3.kv (by decide) (by decide), h4.kv (by decide) (by decide), h5.kv (by decide) (by decide), h6.kv (by decide) (by decide), h7.kv (by decide) (by decide), h8.pv, h9.kv (by decide) (by decide)⟩
theorem ocells_procsS : Tryd.prog.cellsOf 22 = 1 := by kernel_rfl
theorem ocells_readyS : Tryd.prog.cellsOf 23 = 1 := by kernel_rfl
theorem ocells_timersS : Tryd.prog.cellsOf 24 = 1 := by kernel_rfl
theorem ocells_upS : Tryd.prog.cellsOf 25 = 1 := by kernel_rfl
theorem ocells_portsS : Tryd.prog.cellsOf 26 = 1 := by kernel_rfl
theorem ocells_pagesS : Tryd.prog.cellsOf 27 = 1 := by kernel_rfl
theorem ocells_state : Tryd.prog.cellsOf 29 = 10 := by kernel_rfl
theorem slice_form {H : Type} {enc : TypeId × Value → H} {W : World} {fuel : Nat} {t e : TypeId} {v : Value} {x : DataW H × List MemPlace} (hu : Tryd.prog.underlying t = some (.slice e)) (h : DataW.trod enc Tryd.prog W 0 (fun _ => true) true fuel t [v] = some x) : ∃ y k c, v = .slice y k c := by
  rcases open_slice hu h with ⟨hcs, _⟩ | ⟨ad, l, c, m, nf, D, Pl, hcs, _⟩
  · simp only [List.cons.injEq, and_true] at hcs
    exact ⟨_, _, _, hcs⟩
  · simp only [List.cons.injEq, and_true] at hcs
    exact ⟨_, _, _, hcs⟩
theorem weightsEach_mem {H : Type} {P : Program} : ∀ {ts : List TypeId} {ds : List (DataW H)} {j : Nat} {t : TypeId} {d : DataW H}, ts[j]? = some t → ds[j]? = some d → ∀ m ∈ d.weights P t, m ∈ DataW.weightsEach P ts ds
  | _ :: ts, _ :: ds, 0, t, d, h1, h2, m, hm => by
    simp only [List.getElem?_cons_zero, Option.some.injEq] at h1 h2
    subst h1 h2
    simp only [DataW.weightsEach, List.mem_append]
    exact .inl hm
  | _ :: ts, _ :: ds, j + 1, t, d, h1, h2, m, hm => by
    simp only [List.getElem?_cons_succ] at h1 h2
    simp only [DataW.weightsEach, List.mem_append]
    exact .inr (weightsEach_mem h1 h2 m hm)
set_option maxRecDepth 100000 in
theorem state_open {H : Type} {enc : TypeId × Value → H} {W : World} {fuel : Nat} {cs : List Value} {x : DataW H × List MemPlace}
    (h2 : DataW.trod enc Tryd.prog W 0 (fun _ => true) true fuel 29 cs = some x) (hw : ∀ m ∈ x.1.weights Tryd.prog 29, m ≤ reachBytes) : ∃ s, Sr W cs s := by
  obtain ⟨xs, n, _, hx, hcl, hxl, hff⟩ := DataW.trod_struct Tryd.underlying29 h2
  rw [ocells_state] at hcl
  match xs, hxl, cs, hcl with
  | [y0, y1, y2, y3, y4, y5, y6, y7, y8, y9], _, [v0, v1, v2, v3, v4, v5, v6, v7, v8, v9], _ =>
    have g0 : DataW.trod enc Tryd.prog W 0 (fun _ => true) true n 3 (([v0, v1, v2, v3, v4, v5, v6, v7, v8, v9].drop 0).take (Tryd.prog.cellsOf 3)) = some y0 := hff 0 _ rfl
    rw [ocells_int] at g0
    have g1 : DataW.trod enc Tryd.prog W 0 (fun _ => true) true n 3 (([v0, v1, v2, v3, v4, v5, v6, v7, v8, v9].drop 1).take (Tryd.prog.cellsOf 3)) = some y1 := hff 1 _ rfl
    rw [ocells_int] at g1
    have g2 : DataW.trod enc Tryd.prog W 0 (fun _ => true) true n 3 (([v0, v1, v2, v3, v4, v5, v6, v7, v8, v9].drop 2).take (Tryd.prog.cellsOf 3)) = some y2 := hff 2 _ rfl
    rw [ocells_int] at g2
    have g3 : DataW.trod enc Tryd.prog W 0 (fun _ => true) true n 22 (([v0, v1, v2, v3, v4, v5, v6, v7, v8, v9].drop 3).take (Tryd.prog.cellsOf 22)) = some y3 := hff 3 _ rfl
    rw [ocells_procsS] at g3
    have g4 : DataW.trod enc Tryd.prog W 0 (fun _ => true) true n 23 (([v0, v1, v2, v3, v4, v5, v6, v7, v8, v9].drop 4).take (Tryd.prog.cellsOf 23)) = some y4 := hff 4 _ rfl
    rw [ocells_readyS] at g4
    have g5 : DataW.trod enc Tryd.prog W 0 (fun _ => true) true n 24 (([v0, v1, v2, v3, v4, v5, v6, v7, v8, v9].drop 5).take (Tryd.prog.cellsOf 24)) = some y5 := hff 5 _ rfl
    rw [ocells_timersS] at g5
    have g6 : DataW.trod enc Tryd.prog W 0 (fun _ => true) true n 25 (([v0, v1, v2, v3, v4, v5, v6, v7, v8, v9].drop 6).take (Tryd.prog.cellsOf 25)) = some y6 := hff 6 _ rfl
    rw [ocells_upS] at g6
    have g7 : DataW.trod enc Tryd.prog W 0 (fun _ => true) true n 23 (([v0, v1, v2, v3, v4, v5, v6, v7, v8, v9].drop 7).take (Tryd.prog.cellsOf 23)) = some y7 := hff 7 _ rfl
    rw [ocells_readyS] at g7
    have g8 : DataW.trod enc Tryd.prog W 0 (fun _ => true) true n 26 (([v0, v1, v2, v3, v4, v5, v6, v7, v8, v9].drop 8).take (Tryd.prog.cellsOf 26)) = some y8 := hff 8 _ rfl
    rw [ocells_portsS] at g8
    have g9 : DataW.trod enc Tryd.prog W 0 (fun _ => true) true n 27 (([v0, v1, v2, v3, v4, v5, v6, v7, v8, v9].drop 9).take (Tryd.prog.cellsOf 27)) = some y9 := hff 9 _ rfl
    rw [ocells_pagesS] at g9
    simp only [List.drop_zero, List.take_succ_cons, List.take_zero, List.drop_succ_cons] at g0 g1 g2 g3 g4 g5 g6 g7 g8 g9
    obtain ⟨z0, e0, _, _⟩ := DataW.trod_int Tryd.underlying3 g0
    simp only [List.cons.injEq, and_true] at e0
    subst e0
    obtain ⟨z1, e1, _, _⟩ := DataW.trod_int Tryd.underlying3 g1
    simp only [List.cons.injEq, and_true] at e1
    subst e1
    obtain ⟨z2, e2, _, _⟩ := DataW.trod_int Tryd.underlying3 g2
    simp only [List.cons.injEq, and_true] at e2
    subst e2
    rw [hx] at hw
    simp only [DataW.weights, Tryd.underlying29] at hw
    obtain ⟨a3, n3, c3, rfl⟩ := slice_form Tryd.underlying22 g3
    obtain ⟨r3, K3, h3⟩ := kr_open_proc g3 (fun m hm => hw m (weightsEach_mem (j := 3) rfl rfl m hm))
    obtain ⟨a4, n4, c4, rfl⟩ := slice_form Tryd.underlying23 g4
    obtain ⟨r4, K4, h4⟩ := kr_open_int g4 (fun m hm => hw m (weightsEach_mem (j := 4) rfl rfl m hm))
    obtain ⟨a5, n5, c5, rfl⟩ := slice_form Tryd.underlying24 g5
    obtain ⟨r5, K5, h5⟩ := kr_open_timer g5 (fun m hm => hw m (weightsEach_mem (j := 5) rfl rfl m hm))
    obtain ⟨a6, n6, c6, rfl⟩ := slice_form Tryd.underlying25 g6
    obtain ⟨r6, K6, h6⟩ := kr_open_bool g6 (fun m hm => hw m (weightsEach_mem (j := 6) rfl rfl m hm))
    obtain ⟨a7, n7, c7, rfl⟩ := slice_form Tryd.underlying23 g7
    obtain ⟨r7, K7, h7⟩ := kr_open_int g7 (fun m hm => hw m (weightsEach_mem (j := 7) rfl rfl m hm))
    obtain ⟨a8, n8, c8, rfl⟩ := slice_form Tryd.underlying26 g8
    obtain ⟨r8, K8, h8⟩ := ports_open g8 (fun m hm => hw m (weightsEach_mem (j := 8) rfl rfl m hm))
    obtain ⟨a9, n9, c9, rfl⟩ := slice_form Tryd.underlying27 g9
    obtain ⟨r9, K9, h9⟩ := kr_open_page g9 (fun m hm => hw m (weightsEach_mem (j := 9) rfl rfl m hm))
    exact ⟨⟨z0, z1, z2, K3, K4, K5, K6, K7, K8, K9⟩, a3, n3, c3, r3, a4, n4, c4, r4, a5, n5, c5, r5, a6, n6, c6, r6, a7, n7, c7, r7, a8, n8, c8, r8, a9, n9, c9, r9, rfl, h3, h4, h5, h6, h7, h8, h9⟩
end Go.Proofs.YtleeallnfmafnaaDoor.Vv
