/-
  What the reading of a stage and of a list of notes that came in gives.
  The law ChunkApart answers true for every stage and every note, and changes nothing that came in: no condition.
  The listed package variables are tied to the program's text by the given tie (over the pruned copy of the project; that nothing else writes them is the translator's report).
-/
import Derived.Test.YtdbciciljeainaaGreatDoorCkOpen
import Derived.Test.YtdbciciljeainaaGreatDoorXfClone
import Derived.Test.YtdbciciljeainaaGreatDoorChunkApartWalk
namespace Go.Proofs.YtdbciciljeainaaGreatDoor
open Go.ChangeShapes Go.WideShapes Go.ChangeAt Go.RowKit Go.Deep FerryCrc
set_option linter.unusedVariables false
set_option linter.unusedSimpArgs false

theorem cellsSg : Tryz.prog.cellsOf 26 = 7 := by kernel_rfl
theorem cellsTs : Tryz.prog.cellsOf 24 = 1 := by kernel_rfl
theorem bytesTx : Tryz.prog.bytesOf 9 = 16 := by kernel_rfl
theorem bytesNt : Tryz.prog.bytesOf 33 = 88 := by kernel_rfl
theorem weightsAll_in' {H : Type} {P : Program} {e : TypeId} {d : DataW H} : ∀ {l : List (DataW H)}, d ∈ l → ∀ m ∈ d.weights P e, m ∈ DataW.weightsAll P e l
  | x :: l, h, m, hm => by
    simp only [DataW.weightsAll, List.mem_append]
    rcases List.mem_cons.1 h with rfl | h
    · exact .inl hm
    · exact .inr (weightsAll_in' h m hm)
/-- A list that came in, its records opened one by one. -/
theorem rcs_open {α : Type} (z : α) {f : α → List Value} {sz byt : Nat} (hf : ∀ x, (f x).length = sz) (h0 : 0 < sz) {t e : TypeId} (ht : Tryz.prog.underlying t = some (.slice e)) (hcl : Tryz.prog.cellsOf e = sz) (hby : Tryz.prog.bytesOf e = byt) (Ok : α → Prop)
    {H : Type} {enc : TypeId × Value → H} {W : World} (each_open : ∀ fuel cs (x : DataW H × List MemPlace), DataW.trod enc Tryz.prog W 0 (fun _ => true) true fuel e cs = some x → (∀ m ∈ x.1.weights Tryz.prog e, m ≤ reachBytes) → ∃ o, Ok o ∧ cs = f o)
    {fuel : Nat} {cs : List Value} {x : DataW H × List MemPlace} (h : DataW.trod enc Tryz.prog W 0 (fun _ => true) true fuel t cs = some x) (hw : ∀ m ∈ x.1.weights Tryz.prog t, m ≤ reachBytes) :
    ∃ a n c O, cs = [.slice a n c] ∧ Rcs f sz W a n c O ∧ (∀ o ∈ O, Ok o) ∧ n * byt ≤ reachBytes := by
  rcases open_slice ht h with ⟨hcs, _⟩ | ⟨ad, len, cap, m, nf, D, Pl, hcs, _, hl, hm, hmm, hx0, hx⟩
  · exact ⟨none, 0, 0, [], hcs, ⟨rfl, by simp, by decide, fun _ => ⟨rfl, rfl⟩, fun j v hv => by simp at hv⟩, fun p hp => by simp at hp, by simp [reachBytes]⟩
  · simp only [if_true] at hmm
    subst hmm
    have hreach : m * byt ≤ reachBytes := by
      refine hw _ ?_
      rw [hx0]
      simp only [DataW.weights, ht, hby, List.mem_cons]
      left
      simp [show len + (m - len) = m by omega]
    have hsp0 : 0 < len → ad.spot = none := fun h1 => by
      obtain ⟨cs', h1, _⟩ := hx 0 (by omega)
      rw [hcl] at h1
      obtain ⟨_, hlen, hcell⟩ := World.cells?_some h1
      have c0 := hcell 0 (by omega)
      rw [add_add, List.getElem?_eq_getElem (by omega)] at c0
      have := World.cell?_spot c0
      simpa [Addr.add] using this
    have each : ∀ k, k < len → ∃ p : α, ∃ b off, some ad = some (⟨b, off, none⟩ : Addr) ∧ Ok p ∧ W.rangeAt b (off + k * sz) (f p) := by
      intro k hk
      obtain ⟨cs', h1, h2⟩ := hx k (by omega)
      rw [hcl] at h1
      obtain ⟨_, hlen, hcell⟩ := World.cells?_some h1
      obtain ⟨p, hp, rfl⟩ := each_open _ _ _ h2 (fun m' hm' => hw m' (by
        rw [hx0]
        simp only [DataW.weights, ht, List.mem_cons, List.mem_append]
        exact .inr (.inl (weightsAll_in' (List.mem_map.2 ⟨k, List.mem_range.2 hk, rfl⟩) m' hm'))))
      have hsp : ad.spot = none := hsp0 (by omega)
      obtain ⟨b, off, spot⟩ := ad
      simp only at hsp
      subst hsp
      refine ⟨p, b, off, rfl, hp, fun j v hv => ?_⟩
      have hj : j < sz := by
        have := (List.getElem?_eq_some_iff.1 hv).1
        rw [hf] at this
        exact this
      have c := hcell j hj
      rw [add_add, add_plain, hv] at c
      rw [Nat.add_assoc]
      exact c
    haveI : Inhabited α := ⟨z⟩
    obtain ⟨C, hC⟩ := choose_lt each
    have hlm : len * byt ≤ m * byt := Nat.mul_le_mul_right _ hl
    refine ⟨some ad, len, m, (List.range len).map C, hcs, ⟨by simp, by rw [fl_len hf]; simp, hl, fun e => by simp at e, fun j v hv => ?_⟩, fun p hp => ?_, Nat.le_trans hlm hreach⟩
    · have hj := (List.getElem?_eq_some_iff.1 hv).1
      rw [fl_len hf] at hj
      simp only [List.length_map, List.length_range] at hj
      have hk : j / sz < len := (Nat.div_lt_iff_lt_mul h0).2 hj
      have h1 := fl_get hf (l := (List.range len).map C) (k := j / sz) (x := C (j / sz)) (j % sz) (by simp [hk]) (Nat.mod_lt _ h0)
      rw [Nat.div_add_mod' j sz, hv] at h1
      obtain ⟨b, off, e, _, hr⟩ := hC (j / sz) hk
      refine ⟨b, off, e, ?_⟩
      have := hr (j % sz) v h1.symm
      rw [Nat.add_assoc, Nat.div_add_mod' j sz] at this
      exact this
    · obtain ⟨i, hi, rfl⟩ := List.mem_map.1 hp
      obtain ⟨_, _, _, h, _⟩ := hC i (List.mem_range.1 hi)
      exact h
theorem txs_open {H : Type} {enc : TypeId × Value → H} {W : World} {fuel : Nat} {cs : List Value} {x : DataW H × List MemPlace}
    (h : DataW.trod enc Tryz.prog W 0 (fun _ => true) true fuel 24 cs = some x) (hw : ∀ m ∈ x.1.weights Tryz.prog 24, m ≤ reachBytes) : ∃ a n c P, cs = [.slice a n c] ∧ Txs W a n c P ∧ (∀ s ∈ P, s.size ≤ 140737488351232) ∧ n * 16 ≤ 140737488351232 := by
  obtain ⟨a, n, c, F, e, hr, ho, hb⟩ := rcs_open ByteArray.empty tv1 (by decide) Tryz.underlying24 cellsSt bytesTx (fun s => s.size ≤ 140737488351232) (fun fu cs' x' h' hw' => by
    obtain ⟨b, hb, hx, _⟩ := DataW.trod_string Tryz.underlying9 h'
    refine ⟨b, ?_, hb⟩
    have := hw' b.data.toList.length (by rw [hx]; simp [DataW.weights])
    unfold reachBytes at this
    simpa using this) h hw
  exact ⟨a, n, c, F, e, hr, ho, hb⟩
set_option maxRecDepth 100000 in
theorem stage_open {H : Type} {enc : TypeId × Value → H} {W : World} {fuel : Nat} {cs : List Value} {x : DataW H × List MemPlace}
    (hf : DataW.trod enc Tryz.prog W 0 (fun _ => true) true fuel 26 cs = some x) (hw : ∀ m ∈ x.1.weights Tryz.prog 26, m ≤ reachBytes) : ∃ (x1 x2 x3 x4 x5 x6 : Int) (pa : Option Addr) (pn pc : Nat) (P : List ByteArray), cs = [.int .i64 x1, .int .i64 x2, .int .i64 x3, .int .i64 x4, .int .i64 x5, .int .i64 x6, .slice pa pn pc] ∧ Txs W pa pn pc P ∧ (∀ s ∈ P, s.size ≤ 140737488351232) ∧ pn * 16 ≤ 140737488351232 ∧ (-9223372036854775808 ≤ x3 ∧ x3 ≤ 9223372036854775807) := by
  obtain ⟨xs, n, _, hx, hcl, hxl, hff⟩ := DataW.trod_struct Tryz.underlying26 hf
  rw [cellsSg] at hcl
  match xs, hxl, cs, hcl with
  | [y0, y1, y2, y3, y4], _, [v0, v1, v2, v3, v4, v5, v6], _ =>
    have g0 := hff 0 _ rfl
    have g1 := hff 1 _ rfl
    have g2 := hff 2 _ rfl
    have g3 := hff 3 _ rfl
    have g4 := hff 4 _ rfl
    simp [cellsIn, cellsXd, cellsSt, cellsTs] at g0 g1 g2 g3 g4
    have hwt : ∀ m, m ∈ DataW.weightsEach Tryz.prog [3, 3, 3, 23, 24] [y0.1, y1.1, y2.1, y3.1, y4.1] → m ≤ reachBytes := fun m hm => hw m (by
      rw [hx]
      simpa only [DataW.weights, Tryz.underlying26, List.map_cons, List.map_nil] using hm)
    obtain ⟨z0, e0, _, b0⟩ := DataW.trod_int Tryz.underlying3 g0
    obtain ⟨z1, e1, _, b1⟩ := DataW.trod_int Tryz.underlying3 g1
    obtain ⟨z2, e2, _, b2⟩ := DataW.trod_int Tryz.underlying3 g2
    obtain ⟨zb, zr, zm, e3⟩ := xid_open g3
    obtain ⟨pa, pn, pc, P, e4, hP, hs, hn⟩ := txs_open g4 (fun m hm => hwt m (by simp only [DataW.weightsEach, List.mem_append]; exact .inr (.inr (.inr (.inr (.inl hm))))))
    simp only [List.cons.injEq, and_true] at e0 e1 e2 e3 e4
    obtain ⟨e3a, e3b, e3c⟩ := e3
    subst e0 e1 e2 e3a e3b e3c e4
    have c2 := bounds_i64 b2
    exact ⟨z0, z1, z2, zb, zr, zm, pa, pn, pc, P, rfl, hP, hs, hn, c2.1, by have := c2.2; omega⟩
theorem nts_open {H : Type} {enc : TypeId × Value → H} {W : World} {fuel : Nat} {cs : List Value} {x : DataW H × List MemPlace}
    (h : DataW.trod enc Tryz.prog W 0 (fun _ => true) true fuel 27 cs = some x) (hw : ∀ m ∈ x.1.weights Tryz.prog 27, m ≤ reachBytes) : ∃ a n c O, cs = [.slice a n c] ∧ Nts W a n c O ∧ (∀ o ∈ O, o.Ok) ∧ n ≤ 4611686018427387904 := by
  obtain ⟨a, n, c, O, e, hr, ho, hb⟩ := rcs_open zNt nt10 (by decide) Tryz.underlying27 cellsNt bytesNt (fun n => n.Ok) (fun fu cs' x' h' hw' => by
    obtain ⟨n, e, ok, -⟩ := note_open h'
    exact ⟨n, ok, e⟩) h hw
  exact ⟨a, n, c, O, e, hr, ho, by unfold reachBytes at hb; omega⟩
end Go.Proofs.YtdbciciljeainaaGreatDoor
namespace Go.Proofs.YtdbciciljeainaaGreatDoor.chunkApart
open Go.ChangeShapes Go.WideShapes Go.ChangeAt Go.RowKit FerryCrc
set_option linter.unusedVariables false

theorem alaw (p1 p2 p3 p4 p5 p6 : Int) (pa : Option Addr) (pn pc : Nat) (P : List ByteArray) (n : Nt) (w : World) {E : Nat → Addr} (he : Errs w E) (hP : Txs w pa pn pc P) (hF : Few P) (ok : n.Ok ∧ 0 ≤ n.sum ∧ n.sum < 4294967296) :
    Calls Tryz.prog 4 #[.agg #[.int .i64 p1, .int .i64 p2, .int .i64 p3, .int .i64 p4, .int .i64 p5, .int .i64 p6, .slice pa pn pc], .agg n.cells.toArray] w fun e w' => e = .returned (.bool true) ∧ Below w.heap.size w w' :=
  law p1 p2 p3 p4 p5 p6 pa pn pc P n w he hP ok.1

theorem door_met (os : Os) (args : Array Value) : laidMetH Tryz.prog Rows.chunkApartRow.laid ((World.doorLaid Tryz.prog 396 os).forCall (fun _ _ => 0) ⟨#[], args, []⟩).memory :=
  laidMetH_of_parts3 (fuel := 8) (laidMet_of_run' 8 (by kernel_rfl) (by kernel_rfl)) (by kernel_rfl) (by kernel_rfl)

set_option maxRecDepth 100000 in
theorem lifted (os : Os) (started : os.Started) (H : Type) (enc : TypeId × Value → H) :
    ReturnsInHanded {} Tryz.checked os 4 .any (fun w args => (Rows.chunkApartSpec.pre enc Tryz.prog Tryz.f4 [] false w args ∧ laidMetH Tryz.prog Rows.chunkApartRow.laid w) ∧ sizedMet enc Tryz.prog Tryz.f4 (OpenSpec.ofChange Rows.chunkApartSpec) false w args)
      (Rows.chunkApartSpec.post enc Tryz.prog Tryz.f4 false true false false) := by
  refine returnsInHanded_of_change_and (C := Tryz.checked) (X := fun w _ => laidMetH Tryz.prog Rows.chunkApartRow.laid w) (fun _ _ _ hh h => h.of_heap hh) own started (by kernel_rfl) Tryz.func4
    (ChangeSpec.witness_shaped (enc := enc) (C := Tryz.checked) (os := os) (X := fun w _ => laidMetH Tryz.prog Rows.chunkApartRow.laid w) false (World.doorLaid Tryz.prog 396 os) #[.agg #[.int .i64 0, .int .i64 0, .int .i64 0, .int .i64 0, .int .i64 0, .int .i64 0, .slice none 0 0], .agg #[.int .i64 0, .int .i64 0, .int .i64 0, .int .i64 0, .int .i64 0, .int .i64 0, .int .i64 0, .int .i64 0, .int .u32 0, .string ByteArray.empty]] 8 rfl (World.shaped_of_RefB (by kernel_rfl) (by kernel_rfl)) (by kernel_rfl) (by kernel_rfl) (by kernel_rfl) (door_met os _)) ?_
  intro W base args ds gs before hval0 hW _ hsz0 hL _
  have hsz : (DataW.weightsEach Tryz.prog (Tryz.f4.params.toList ++ Rows.chunkApartSpec.plain.varTypes Tryz.prog) (ds ++ gs)).all (· ≤ reachBytes) = true := hsz0
  clear hsz0
  have hval : ∀ (j : Nat) t v, Tryz.f4.params[j]? = some t → args[j]? = some v → Value.okWide Tryz.prog W .any base t v := hval0
  have hW' := hW
  obtain ⟨p, q, hA0, hV, rfl, hfz, hnd⟩ := hW
  have hA : DataW.TrodAll enc Tryz.prog W 0 (fun _ => true) true Tryz.f4.params.toList args.toList ds p := hA0
  rw [Tryz.params4] at hA hval hsz
  obtain ⟨v0, vs0, d0, ds0, p0, q0, hargs, rfl, rfl, h0, r0⟩ := trodAll_cons hA
  obtain ⟨v1, vs1, d1, ds1, p1, q1, rfl, rfl, rfl, h1, r1⟩ := trodAll_cons r0
  obtain ⟨rfl, rfl, rfl⟩ := trodAll_nil r1
  obtain rfl : args = #[v0, v1] := by cases args; simp_all
  obtain ⟨rfl, rfl⟩ := trodVars_none hV
  obtain ⟨cs0, rfl, _⟩ := okWide_struct Tryz.underlying26 (hval 0 26 v0 rfl rfl)
  have k0 := h0
  have lt0 : ∀ x ∈ p0, x.block < W.heap.size := by obtain ⟨m, hm⟩ := k0; exact DataW.trod_lt m _ _ _ hm
  have wt0 : ∀ m ∈ d0.weights Tryz.prog 26, m ≤ reachBytes := fun m hm => of_decide_eq_true (List.all_eq_true.1 hsz m (DataW.weights_mem_each (j := 0) rfl rfl m hm))
  obtain ⟨s10, s20, s30, s40, s50, s60, a0, len0, cap0, l0, hcs0, w0, z0, n0⟩ := (by
    obtain ⟨fuel, hf⟩ := h0
    obtain ⟨x1, x2, x3, x4, x5, x6, pa, pn, pc, P, e, hP, hs, hn, -⟩ := stage_open hf wt0
    exact ⟨x1, x2, x3, x4, x5, x6, pa, pn, pc, P, e, hP, hs, hn⟩ : ∃ (x1 x2 x3 x4 x5 x6 : Int) (pa : Option Addr) (pn pc : Nat) (P : List ByteArray), (Value.agg cs0).cells.toList = [.int .i64 x1, .int .i64 x2, .int .i64 x3, .int .i64 x4, .int .i64 x5, .int .i64 x6, .slice pa pn pc] ∧ Txs W pa pn pc P ∧ (∀ s ∈ P, s.size ≤ 140737488351232) ∧ pn * 16 ≤ 140737488351232)
  obtain rfl : cs0 = #[.int .i64 s10, .int .i64 s20, .int .i64 s30, .int .i64 s40, .int .i64 s50, .int .i64 s60, .slice a0 len0 cap0] := by cases cs0; simpa [Value.cells] using hcs0
  obtain ⟨cs1, rfl, _⟩ := okWide_struct Tryz.underlying33 (hval 1 33 v1 rfl rfl)
  have k1 := h1
  have lt1 : ∀ x ∈ p1, x.block < W.heap.size := by obtain ⟨m, hm⟩ := k1; exact DataW.trod_lt m _ _ _ hm
  obtain ⟨n1, hcs1, ok1⟩ := (by
    obtain ⟨fuel, hf⟩ := h1
    exact note_open hf : ∃ n : Nt, (Value.agg cs1).cells.toList = n.cells ∧ n.Ok ∧ 0 ≤ n.sum ∧ n.sum < 4294967296)
  obtain rfl : cs1 = n1.cells.toArray := by cases cs1; simpa [Value.cells] using hcs1
  clear hA0 hval0
  obtain ⟨E, hE⟩ := errs_of_laid (show laidMetH Tryz.prog allLaid W from hL)
  refine (alaw s10 s20 s30 s40 s50 s60 a0 len0 cap0 l0 n1 W hE w0 ⟨by rw [w0.size]; exact n0, fun x hx => Nat.le_trans (z0 x hx) (by decide)⟩ ok1).mono fun e W' ⟨he, bel⟩ => ?_
  subst he
  exact ⟨_, rfl, _, _, _, [], _, [], hW', trodAll_mk1 (shut_bool Tryz.underlying4 _), (trodAll_cons_mk (Below.trod laidOut (by kernel_rfl) (of_decide_eq_true (by kernel_rfl)) k0 bel lt0) (trodAll_cons_mk (Below.trod laidOut (by kernel_rfl) (of_decide_eq_true (by kernel_rfl)) k1 bel lt1) trodAll_mk0)), rfl, bel.frame _, fun h => by cases h⟩

theorem over : Rows.chunkApartRow.holds Tryz.pinned (OpenSpec.ofChange Rows.chunkApartSpec) :=
  OpenClaim.holds_of_wide 4 Tryz.f4 rfl rfl rfl rfl rfl rfl rfl ⟨rfl, rfl, rfl, rfl, rfl⟩ rfl rfl rfl rfl rfl (by kernel_rfl) Tryz.func4 (by kernel_rfl)
    (of_decide_eq_true (by kernel_rfl)) (by unfold Func.isWrapper; first | (rw [if_pos (by decide +kernel)]; kernel_rfl) | (rw [if_neg (by decide +kernel)]; exact ⟨rfl, rfl⟩))
    (fun os started H enc _ => lifted os started H enc)

theorem types_plain : ∀ t ∈ Tryz.f4.params.toList, Tryz.prog.wantsStandIn t = false := by
  rw [Tryz.params4]
  intro t ht
  simp only [List.mem_cons, List.not_mem_nil, or_false] at ht
  rcases ht with rfl | rfl
  · exact (show Tryz.prog.wantsStandIn 26 = false by kernel_rfl)
  · exact (show Tryz.prog.wantsStandIn 33 = false by kernel_rfl)

end Go.Proofs.YtdbciciljeainaaGreatDoor.chunkApart
namespace Go.Proofs.YtdbciciljeainaaGreatDoor
theorem chunkApart_holds : Rows.ChunkApartCardSaid :=
  Claim7.holds_tied_plain_at .later [] [.handle, .sentinel, .sentinel, .sentinel, .sentinel, .sentinel, .sentinel, .sentinel, .sentinel, .sentinel, .sentinel, .sentinel, .sentinel, .sentinel, .sentinel, .sentinel, .sentinel, .sentinel, .sentinel, .sentinel, .sentinel] true (true, "aee44dfecca517a7716b1eeb82d2a69dad8fb8eec7daf0a951f10c3586421f5d") true
    chunkApart.over (fun _ h => by cases h) (by kernel_rfl) (fun _ h => by cases h) chunkApart_row_tie rfl ⟨rfl, rfl⟩ (by kernel_rfl) rfl
    (fun f fn hf hfn => by
      obtain rfl : f = 4 := Option.some.inj ((show Tryz.prog.funcNamed "ferry/ferrylaw20.ChunkApart" = some 4 by kernel_rfl).symm.trans hf) |>.symm
      obtain rfl : fn = Tryz.f4 := (Option.some.inj (Tryz.func4.symm.trans hfn)).symm
      exact ⟨by kernel_rfl, fun j t ht => chunkApart.types_plain t (by rw [Array.getElem?_eq_some_iff] at ht; obtain ⟨h1, h2⟩ := ht; rw [← h2]; simp)⟩)
    (by kernel_rfl)
#print axioms chunkApart_holds
end Go.Proofs.YtdbciciljeainaaGreatDoor
