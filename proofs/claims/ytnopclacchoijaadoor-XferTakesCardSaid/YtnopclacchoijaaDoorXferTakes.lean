/-
  The law XferTakes answers true for every case (a Send, a Recv, a note, a number of tries), and changes nothing that came in: no condition.
  The listed package variables are tied to the program's text by the given tie (over the pruned copy of the project; that nothing else writes them is the translator's report).
-/
import Derived.Test.YtnopclacchoijaaDoorXferTakesWalk
import Derived.Test.YtnopclacchoijaaDoorDoorErr
import Derived.Test.YtnopclacchoijaaDoorXfOpen
namespace Go.Proofs.YtnopclacchoijaaDoor
open Go.ChangeShapes Go.WideShapes Go.ChangeAt Go.RowKit Go.Deep FerryCrc
set_option linter.unusedVariables false
set_option linter.unusedSimpArgs false

theorem weightsAll_in' {H : Type} {P : Program} {e : TypeId} {d : DataW H} : ∀ {l : List (DataW H)}, d ∈ l → ∀ m ∈ d.weights P e, m ∈ DataW.weightsAll P e l
  | x :: l, h, m, hm => by
    simp only [DataW.weightsAll, List.mem_append]
    rcases List.mem_cons.1 h with rfl | h
    · exact .inl hm
    · exact .inr (weightsAll_in' h m hm)
/-- A list that came in, its records opened one by one. -/
theorem rcs_open {α : Type} (z : α) {f : α → List Value} {sz byt : Nat} (hf : ∀ x, (f x).length = sz) (h0 : 0 < sz) {t e : TypeId} (ht : Tryd.prog.underlying t = some (.slice e)) (hcl : Tryd.prog.cellsOf e = sz) (hby : Tryd.prog.bytesOf e = byt) (Ok : α → Prop)
    {H : Type} {enc : TypeId × Value → H} {W : World} (each_open : ∀ fuel cs (x : DataW H × List MemPlace), DataW.trod enc Tryd.prog W 0 (fun _ => true) true fuel e cs = some x → (∀ m ∈ x.1.weights Tryd.prog e, m ≤ reachBytes) → ∃ o, Ok o ∧ cs = f o)
    {fuel : Nat} {cs : List Value} {x : DataW H × List MemPlace} (h : DataW.trod enc Tryd.prog W 0 (fun _ => true) true fuel t cs = some x) (hw : ∀ m ∈ x.1.weights Tryd.prog t, m ≤ reachBytes) :
    ∃ a n c O, cs = [.slice a n c] ∧ Rcs f sz W a n c O ∧ (∀ o ∈ O, Ok o) ∧ n * byt ≤ reachBytes := by
  rcases open_slice ht h with ⟨hcs, _⟩ | ⟨ad, len, cap, m, nf, D, Pl, hcs, _, hl, hm, hmm, hx0, hx⟩
  · exact ⟨none, 0, 0, [], hcs, ⟨rfl, by simp, by decide, fun _ => ⟨rfl, rfl⟩, fun j v hv => by simp at hv⟩, fun p hp => by simp at hp, by simp [reachBytes]⟩
  · simp only [if_true] at hmm
    subst hmm
    have hreach : m * byt ≤ reachBytes := by
      refine hw _ ?_
      rw [hx0]
      simp only [DataW.weights, ht, hby, List.mem_cons]
      left
      simp [show len + (m - len) = m by omega]
    have hsp0 : 0 < len → ad.spot = none := fun h1 => by
      obtain ⟨cs', h1, _⟩ := hx 0 (by omega)
      rw [hcl] at h1
      obtain ⟨_, hlen, hcell⟩ := World.cells?_some h1
      have c0 := hcell 0 (by omega)
      rw [add_add, List.getElem?_eq_getElem (by omega)] at c0
      have := World.cell?_spot c0
      simpa [Addr.add] using this
    have each : ∀ k, k < len → ∃ p : α, ∃ b off, some ad = some (⟨b, off, none⟩ : Addr) ∧ Ok p ∧ W.rangeAt b (off + k * sz) (f p) := by
      intro k hk
      obtain ⟨cs', h1, h2⟩ := hx k (by omega)
      rw [hcl] at h1
      obtain ⟨_, hlen, hcell⟩ := World.cells?_some h1
      obtain ⟨p, hp, rfl⟩ := each_open _ _ _ h2 (fun m' hm' => hw m' (by
        rw [hx0]
        simp only [DataW.weights, ht, List.mem_cons, List.mem_append]
        exact .inr (.inl (weightsAll_in' (List.mem_map.2 ⟨k, List.mem_range.2 hk, rfl⟩) m' hm'))))
      have hsp : ad.spot = none := hsp0 (by omega)
      obtain ⟨b, off, spot⟩ := ad
      simp only at hsp
      subst hsp
      refine ⟨p, b, off, rfl, hp, fun j v hv => ?_⟩
      have hj : j < sz := by
        have := (List.getElem?_eq_some_iff.1 hv).1
        rw [hf] at this
        exact this
      have c := hcell j hj
      rw [add_add, add_plain, hv] at c
      rw [Nat.add_assoc]
      exact c
    haveI : Inhabited α := ⟨z⟩
    obtain ⟨C, hC⟩ := choose_lt each
    have hlm : len * byt ≤ m * byt := Nat.mul_le_mul_right _ hl
    refine ⟨some ad, len, m, (List.range len).map C, hcs, ⟨by simp, by rw [fl_len hf]; simp, hl, fun e => by simp at e, fun j v hv => ?_⟩, fun p hp => ?_, Nat.le_trans hlm hreach⟩
    · have hj := (List.getElem?_eq_some_iff.1 hv).1
      rw [fl_len hf] at hj
      simp only [List.length_map, List.length_range] at hj
      have hk : j / sz < len := (Nat.div_lt_iff_lt_mul h0).2 hj
      have h1 := fl_get hf (l := (List.range len).map C) (k := j / sz) (x := C (j / sz)) (j % sz) (by simp [hk]) (Nat.mod_lt _ h0)
      rw [Nat.div_add_mod' j sz, hv] at h1
      obtain ⟨b, off, e, _, hr⟩ := hC (j / sz) hk
      refine ⟨b, off, e, ?_⟩
      have := hr (j % sz) v h1.symm
      rw [Nat.add_assoc, Nat.div_add_mod' j sz] at this
      exact this
    · obtain ⟨i, hi, rfl⟩ := List.mem_map.1 hp
      obtain ⟨_, _, _, h, _⟩ := hC i (List.mem_range.1 hi)
      exact h
theorem cellsFl : Tryd.prog.cellsOf 4 = 1 := by kernel_rfl
theorem bytesFl : Tryd.prog.bytesOf 4 = 1 := by kernel_rfl
theorem bytesTx : Tryd.prog.bytesOf 9 = 16 := by kernel_rfl
theorem cellsFs : Tryd.prog.cellsOf 24 = 1 := by kernel_rfl
theorem cellsTs : Tryd.prog.cellsOf 27 = 1 := by kernel_rfl
theorem cellsSd : Tryd.prog.cellsOf 26 = 8 := by kernel_rfl
theorem cellsRv : Tryd.prog.cellsOf 31 = 8 := by kernel_rfl
theorem cellsSg : Tryd.prog.cellsOf 29 = 7 := by kernel_rfl
theorem cellsC22 : Tryd.prog.cellsOf 36 = 27 := by kernel_rfl
theorem fls_open {H : Type} {enc : TypeId × Value → H} {W : World} {fuel : Nat} {cs : List Value} {x : DataW H × List MemPlace}
    (h : DataW.trod enc Tryd.prog W 0 (fun _ => true) true fuel 24 cs = some x) (hw : ∀ m ∈ x.1.weights Tryd.prog 24, m ≤ reachBytes) : ∃ a n c F, cs = [.slice a n c] ∧ Fls W a n c F ∧ n ≤ 140737488351232 := by
  obtain ⟨a, n, c, F, e, hr, -, hb⟩ := rcs_open false bvl1 (by decide) Tryd.underlying24 cellsFl bytesFl (fun _ => True) (fun fu cs' x' h' _ => by
    obtain ⟨b, hb, _⟩ := DataW.trod_bool Tryd.underlying4 h'
    exact ⟨b, trivial, hb⟩) h hw
  exact ⟨a, n, c, F, e, hr, by unfold reachBytes at hb; omega⟩
theorem txs_open {H : Type} {enc : TypeId × Value → H} {W : World} {fuel : Nat} {cs : List Value} {x : DataW H × List MemPlace}
    (h : DataW.trod enc Tryd.prog W 0 (fun _ => true) true fuel 27 cs = some x) (hw : ∀ m ∈ x.1.weights Tryd.prog 27, m ≤ reachBytes) : ∃ a n c P, cs = [.slice a n c] ∧ Txs W a n c P ∧ (∀ s ∈ P, s.size ≤ 140737488351232) ∧ n * 16 ≤ 140737488351232 := by
  obtain ⟨a, n, c, F, e, hr, ho, hb⟩ := rcs_open ByteArray.empty tv1 (by decide) Tryd.underlying27 cellsSt bytesTx (fun s => s.size ≤ 140737488351232) (fun fu cs' x' h' hw' => by
    obtain ⟨b, hb, hx, _⟩ := DataW.trod_string Tryd.underlying9 h'
    refine ⟨b, ?_, hb⟩
    have := hw' b.data.toList.length (by rw [hx]; simp [DataW.weights])
    unfold reachBytes at this
    simpa using this) h hw
  exact ⟨a, n, c, F, e, hr, ho, hb⟩
set_option maxRecDepth 100000 in
theorem send_open {H : Type} {enc : TypeId × Value → H} {W : World} {fuel : Nat} {cs : List Value} {x : DataW H × List MemPlace}
    (hf : DataW.trod enc Tryd.prog W 0 (fun _ => true) true fuel 26 cs = some x) (hw : ∀ m ∈ x.1.weights Tryd.prog 26, m ≤ reachBytes) : ∃ (pt b r m st : Int) (im : ByteArray) (fa : Option Addr) (fn fc : Nat) (F : List Bool) (rd : Int), cs = [.int .i64 pt, .int .i64 b, .int .i64 r, .int .i64 m, .int .i64 st, .string im, .slice fa fn fc, .int .i64 rd] ∧ Fls W fa fn fc F ∧ fn ≤ 140737488351232 ∧ im.size ≤ 140737488351232 ∧ -9223372036854775808 ≤ rd := by
  obtain ⟨xs, n, _, hx, hcl, hxl, hff⟩ := DataW.trod_struct Tryd.underlying26 hf
  rw [cellsSd] at hcl
  match xs, hxl, cs, hcl with
  | [y0, y1, y2, y3, y4, y5], _, [v0, v1, v2, v3, v4, v5, v6, v7], _ =>
    have g0 := hff 0 _ rfl
    have g1 := hff 1 _ rfl
    have g2 := hff 2 _ rfl
    have g3 := hff 3 _ rfl
    have g4 := hff 4 _ rfl
    have g5 := hff 5 _ rfl
    simp [cellsIn, cellsXd, cellsU4, cellsSt, cellsFl, cellsFs, cellsTs, cellsSd, cellsRv, cellsSg, cellsNt] at g0 g1 g2 g3 g4 g5
    have hwt : ∀ m, m ∈ DataW.weightsEach Tryd.prog [3, 23, 3, 9, 24, 3] [y0.1, y1.1, y2.1, y3.1, y4.1, y5.1] → m ≤ reachBytes := fun m hm => hw m (by
      rw [hx]
      simpa only [DataW.weights, Tryd.underlying26, List.map_cons, List.map_nil] using hm)
    obtain ⟨z0, e0, _, b0⟩ := DataW.trod_int Tryd.underlying3 g0
    obtain ⟨zb, zr, zm, e1⟩ := xid_open g1
    obtain ⟨z2, e2, _, b2⟩ := DataW.trod_int Tryd.underlying3 g2
    obtain ⟨D, e3, hx3, _⟩ := DataW.trod_string Tryd.underlying9 g3
    obtain ⟨fa, fn, fc, F, e4, hF, hn⟩ := fls_open g4 (fun m hm => hwt m (by simp only [DataW.weightsEach, List.mem_append]; exact .inr (.inr (.inr (.inr (.inl hm))))))
    obtain ⟨z5, e5, _, b5⟩ := DataW.trod_int Tryd.underlying3 g5
    simp only [List.cons.injEq, and_true] at e0 e1 e2 e3 e4 e5
    obtain ⟨e1a, e1b, e1c⟩ := e1
    subst e0 e1a e1b e1c e2 e3 e4 e5
    have hD := hwt D.data.toList.length (by simp only [DataW.weightsEach, List.mem_append]; exact .inr (.inr (.inr (.inl (by rw [hx3]; simp [DataW.weights])))))
    have c5 := bounds_i64 b5
    exact ⟨z0, zb, zr, zm, z2, D, fa, fn, fc, F, z5, rfl, hF, hn, by unfold reachBytes at hD; simpa using hD, c5.1⟩
set_option maxRecDepth 100000 in
theorem stage_open {H : Type} {enc : TypeId × Value → H} {W : World} {fuel : Nat} {cs : List Value} {x : DataW H × List MemPlace}
    (hf : DataW.trod enc Tryd.prog W 0 (fun _ => true) true fuel 29 cs = some x) (hw : ∀ m ∈ x.1.weights Tryd.prog 29, m ≤ reachBytes) : ∃ (x1 x2 x3 x4 x5 x6 : Int) (pa : Option Addr) (pn pc : Nat) (P : List ByteArray), cs = [.int .i64 x1, .int .i64 x2, .int .i64 x3, .int .i64 x4, .int .i64 x5, .int .i64 x6, .slice pa pn pc] ∧ Txs W pa pn pc P ∧ (∀ s ∈ P, s.size ≤ 140737488351232) ∧ pn * 16 ≤ 140737488351232 ∧ (-9223372036854775808 ≤ x3 ∧ x3 ≤ 9223372036854775807) := by
  obtain ⟨xs, n, _, hx, hcl, hxl, hff⟩ := DataW.trod_struct Tryd.underlying29 hf
  rw [cellsSg] at hcl
  match xs, hxl, cs, hcl with
  | [y0, y1, y2, y3, y4], _, [v0, v1, v2, v3, v4, v5, v6], _ =>
    have g0 := hff 0 _ rfl
    have g1 := hff 1 _ rfl
    have g2 := hff 2 _ rfl
    have g3 := hff 3 _ rfl
    have g4 := hff 4 _ rfl
    simp [cellsIn, cellsXd, cellsU4, cellsSt, cellsFl, cellsFs, cellsTs, cellsSd, cellsRv, cellsSg, cellsNt] at g0 g1 g2 g3 g4
    have hwt : ∀ m, m ∈ DataW.weightsEach Tryd.prog [3, 3, 3, 23, 27] [y0.1, y1.1, y2.1, y3.1, y4.1] → m ≤ reachBytes := fun m hm => hw m (by
      rw [hx]
      simpa only [DataW.weights, Tryd.underlying29, List.map_cons, List.map_nil] using hm)
    obtain ⟨z0, e0, _, b0⟩ := DataW.trod_int Tryd.underlying3 g0
    obtain ⟨z1, e1, _, b1⟩ := DataW.trod_int Tryd.underlying3 g1
    obtain ⟨z2, e2, _, b2⟩ := DataW.trod_int Tryd.underlying3 g2
    obtain ⟨zb, zr, zm, e3⟩ := xid_open g3
    obtain ⟨pa, pn, pc, P, e4, hP, hs, hn⟩ := txs_open g4 (fun m hm => hwt m (by simp only [DataW.weightsEach, List.mem_append]; exact .inr (.inr (.inr (.inr (.inl hm))))))
    simp only [List.cons.injEq, and_true] at e0 e1 e2 e3 e4
    obtain ⟨e3a, e3b, e3c⟩ := e3
    subst e0 e1 e2 e3a e3b e3c e4
    have c2 := bounds_i64 b2
    exact ⟨z0, z1, z2, zb, zr, zm, pa, pn, pc, P, rfl, hP, hs, hn, c2.1, by have := c2.2; omega⟩
set_option maxRecDepth 100000 in
theorem recv_open {H : Type} {enc : TypeId × Value → H} {W : World} {fuel : Nat} {cs : List Value} {x : DataW H × List MemPlace}
    (hf : DataW.trod enc Tryd.prog W 0 (fun _ => true) true fuel 31 cs = some x) (hw : ∀ m ∈ x.1.weights Tryd.prog 31, m ≤ reachBytes) : ∃ (on : Bool) (x1 x2 x3 x4 x5 x6 : Int) (pa : Option Addr) (pn pc : Nat) (P : List ByteArray), cs = [.bool on, .int .i64 x1, .int .i64 x2, .int .i64 x3, .int .i64 x4, .int .i64 x5, .int .i64 x6, .slice pa pn pc] ∧ Txs W pa pn pc P ∧ (∀ s ∈ P, s.size ≤ 140737488351232) ∧ pn * 16 ≤ 140737488351232 ∧ (-9223372036854775808 ≤ x3 ∧ x3 ≤ 9223372036854775807) := by
  obtain ⟨xs, n, _, hx, hcl, hxl, hff⟩ := DataW.trod_struct Tryd.underlying31 hf
  rw [cellsRv] at hcl
  match xs, hxl, cs, hcl with
  | [y0, y1], _, [v0, v1, v2, v3, v4, v5, v6, v7], _ =>
    have g0 := hff 0 _ rfl
    have g1 := hff 1 _ rfl
    simp [cellsIn, cellsXd, cellsU4, cellsSt, cellsFl, cellsFs, cellsTs, cellsSd, cellsRv, cellsSg, cellsNt] at g0 g1
    have hwt : ∀ m, m ∈ DataW.weightsEach Tryd.prog [4, 29] [y0.1, y1.1] → m ≤ reachBytes := fun m hm => hw m (by
      rw [hx]
      simpa only [DataW.weights, Tryd.underlying31, List.map_cons, List.map_nil] using hm)
    obtain ⟨on, e0, _⟩ := DataW.trod_bool Tryd.underlying4 g0
    obtain ⟨z0, z1, z2, zb, zr, zm, pa, pn, pc, P, e1, hP, hs, hn, hb⟩ := stage_open g1 (fun m hm => hwt m (by simp only [DataW.weightsEach, List.mem_append]; exact .inr (.inl hm)))
    simp only [List.cons.injEq, and_true] at e0 e1
    obtain ⟨q1, q2, q3, q4, q5, q6, q7⟩ := e1
    subst e0 q1 q2 q3 q4 q5 q6 q7
    exact ⟨on, z0, z1, z2, zb, zr, zm, pa, pn, pc, P, rfl, hP, hs, hn, hb⟩
/-- What a case is. -/
def Cz (W : World) (cs : List Value) : Prop := ∃ (pt b r m st : Int) (im : ByteArray) (rd : Int) (fa : Option Addr) (fn fc : Nat) (F : List Bool) (on : Bool) (x1 x2 x3 x4 x5 x6 : Int) (pa : Option Addr) (pn pc : Nat) (P : List ByteArray) (k pt2 b2 r2 m2 st2 ix tt2 sm : Int) (d : ByteArray) (tr : Int), cs = [.int .i64 pt, .int .i64 b, .int .i64 r, .int .i64 m, .int .i64 st, .string im, .slice fa fn fc, .int .i64 rd, .bool on, .int .i64 x1, .int .i64 x2, .int .i64 x3, .int .i64 x4, .int .i64 x5, .int .i64 x6, .slice pa pn pc, .int .i64 k, .int .i64 pt2, .int .i64 b2, .int .i64 r2, .int .i64 m2, .int .i64 st2, .int .i64 ix, .int .i64 tt2, .int .u32 sm, .string d, .int .i64 tr] ∧ Fls W fa fn fc F ∧ fn ≤ 140737488351232 ∧ im.size ≤ 140737488351232 ∧ -9223372036854775808 ≤ rd ∧ Txs W pa pn pc P ∧ (∀ s ∈ P, s.size ≤ 140737488351232) ∧ pn * 16 ≤ 140737488351232 ∧ (-9223372036854775808 ≤ x3 ∧ x3 ≤ 9223372036854775807) ∧ Nt.Ok ⟨k, pt2, b2, r2, m2, st2, ix, tt2, sm, d⟩ ∧ d.size ≤ 140737488351232 ∧ tr ≤ 9223372036854775807
set_option maxRecDepth 100000 in
theorem note_data {H : Type} {enc : TypeId × Value → H} {W : World} {fuel : Nat} {cs : List Value} {x : DataW H × List MemPlace} {N : Nt}
    (hf : DataW.trod enc Tryd.prog W 0 (fun _ => true) true fuel 34 cs = some x) (hw : ∀ m ∈ x.1.weights Tryd.prog 34, m ≤ reachBytes) (e : cs = N.cells) : N.data.size ≤ 140737488351232 := by
  subst e
  obtain ⟨xs, n, _, hx, hcl, hxl, hff⟩ := DataW.trod_struct Tryd.underlying34 hf
  match xs, hxl with
  | [y0, y1, y2, y3, y4, y5, y6, y7], _ =>
    have g7 := hff 7 _ rfl
    simp [cellsIn, cellsXd, cellsU4, cellsSt, Nt.cells] at g7
    obtain ⟨D, e7, hx7, _⟩ := DataW.trod_string Tryd.underlying9 g7
    simp only [List.cons.injEq, and_true, Value.string.injEq] at e7
    have := hw D.data.toList.length (by
      rw [hx]
      simp only [DataW.weights, Tryd.underlying34, List.map_cons, List.map_nil, DataW.weightsEach, List.mem_append]
      refine .inr (.inr (.inr (.inr (.inr (.inr (.inr (.inl ?_)))))))
      rw [hx7]
      simp [DataW.weights])
    unfold reachBytes at this
    rw [e7]
    simpa using this
set_option maxRecDepth 100000 in
theorem case22_open {H : Type} {enc : TypeId × Value → H} {W : World} {fuel : Nat} {cs : List Value} {x : DataW H × List MemPlace}
    (hf : DataW.trod enc Tryd.prog W 0 (fun _ => true) true fuel 36 cs = some x) (hw : ∀ m ∈ x.1.weights Tryd.prog 36, m ≤ reachBytes) : Cz W cs := by
  obtain ⟨xs, n, _, hx, hcl, hxl, hff⟩ := DataW.trod_struct Tryd.underlying36 hf
  rw [cellsC22] at hcl
  match xs, hxl, cs, hcl with
  | [y0, y1, y2, y3], _, [v0, v1, v2, v3, v4, v5, v6, v7, v8, v9, v10, v11, v12, v13, v14, v15, v16, v17, v18, v19, v20, v21, v22, v23, v24, v25, v26], _ =>
    have g0 := hff 0 _ rfl
    have g1 := hff 1 _ rfl
    have g2 := hff 2 _ rfl
    have g3 := hff 3 _ rfl
    simp [cellsIn, cellsXd, cellsU4, cellsSt, cellsFl, cellsFs, cellsTs, cellsSd, cellsRv, cellsSg, cellsNt] at g0 g1 g2 g3
    have hwt : ∀ m, m ∈ DataW.weightsEach Tryd.prog [26, 31, 34, 3] [y0.1, y1.1, y2.1, y3.1] → m ≤ reachBytes := fun m hm => hw m (by
      rw [hx]
      simpa only [DataW.weights, Tryd.underlying36, List.map_cons, List.map_nil] using hm)
    obtain ⟨pt, b, r, m, st, im, fa, fn, fc, F, rd, e0, hF, hn, him, hrd⟩ := send_open g0 (fun m hm => hwt m (by simp only [DataW.weightsEach, List.mem_append]; exact .inl hm))
    obtain ⟨on, x1, x2, x3, x4, x5, x6, pa, pn, pc, P, e1, hP, hs, hpn, hx3⟩ := recv_open g1 (fun m hm => hwt m (by simp only [DataW.weightsEach, List.mem_append]; exact .inr (.inl hm)))
    obtain ⟨N, e2, hN⟩ := note_open g2
    have hdd := note_data g2 (fun m hm => hwt m (by simp only [DataW.weightsEach, List.mem_append]; exact .inr (.inr (.inl hm)))) e2
    obtain ⟨tr, e3, _, b3⟩ := DataW.trod_int Tryd.underlying3 g3
    obtain ⟨k, pt2, b2, r2, m2, st2, ix, tt2, sm, d⟩ := N
    simp only [Nt.cells, List.cons.injEq, and_true] at e0 e1 e2 e3
    obtain ⟨q0, q1, q2, q3, q4, q5, q6, q7⟩ := e0
    subst q0 q1 q2 q3 q4 q5 q6 q7
    obtain ⟨q0, q1, q2, q3, q4, q5, q6, q7⟩ := e1
    subst q0 q1 q2 q3 q4 q5 q6 q7
    obtain ⟨q0, q1, q2, q3, q4, q5, q6, q7, q8, q9⟩ := e2
    subst q0 q1 q2 q3 q4 q5 q6 q7 q8 q9
    subst e3
    have c3 := bounds_i64 b3
    exact ⟨pt, b, r, m, st, im, rd, fa, fn, fc, F, on, x1, x2, x3, x4, x5, x6, pa, pn, pc, P, k, pt2, b2, r2, m2, st2, ix, tt2, sm, d, tr, rfl, hF, hn, him, hrd, hP, hs, hpn, hx3, hN, hdd, by have := c3.2; omega⟩
end Go.Proofs.YtnopclacchoijaaDoor
namespace Go.Proofs.YtnopclacchoijaaDoor.xferTakes
open Go.ChangeShapes Go.WideShapes Go.ChangeAt Go.RowKit FerryCrc
set_option linter.unusedVariables false

theorem alaw (cs : List Value) (w : World) {E : Nat → Addr} (he : Errs w E) (hz : Cz w cs) : Calls Tryd.prog 5 #[.agg cs.toArray] w fun e w' => e = .returned (.bool true) ∧ Below w.heap.size w w' := by
  obtain ⟨pt, b, r, m, st, im, rd, fa, fn, fc, F, on, x1, x2, x3, x4, x5, x6, pa, pn, pc, P, k, pt2, b2, r2, m2, st2, ix, tt2, sm, d, tr, rfl, hF, hn, him, hrd, hP, hs, hpn, hx3, hN, hdd, htr⟩ := hz
  exact law pt b r m st im rd fa fn fc F on x1 x2 x3 x4 x5 x6 pa pn pc P k pt2 b2 r2 m2 st2 ix tt2 sm d tr w he hP (fun x hx => by have := hs x hx; omega) (by omega) hN.t1 hN.t2

theorem door_met (os : Os) (args : Array Value) : laidMetH Tryd.prog Rows.xferTakesRow.laid ((World.doorLaid Tryd.prog 396 os).forCall (fun _ _ => 0) ⟨#[], args, []⟩).memory :=
  laidMetH_of_parts3 (fuel := 8) (laidMet_of_run' 8 (by kernel_rfl) (by kernel_rfl)) (by kernel_rfl) (by kernel_rfl)

set_option maxRecDepth 100000 in
theorem lifted (os : Os) (started : os.Started) (H : Type) (enc : TypeId × Value → H) :
    ReturnsInHanded {} Tryd.checked os 5 .any (fun w args => (Rows.xferTakesSpec.pre enc Tryd.prog Tryd.f5 [] false w args ∧ laidMetH Tryd.prog Rows.xferTakesRow.laid w) ∧ sizedMet enc Tryd.prog Tryd.f5 (OpenSpec.ofChange Rows.xferTakesSpec) false w args)
      (Rows.xferTakesSpec.post enc Tryd.prog Tryd.f5 false true false false) := by
  refine returnsInHanded_of_change_and (C := Tryd.checked) (X := fun w _ => laidMetH Tryd.prog Rows.xferTakesRow.laid w) (fun _ _ _ hh h => h.of_heap hh) own started (by kernel_rfl) Tryd.func5
    (ChangeSpec.witness_shaped (enc := enc) (C := Tryd.checked) (os := os) (X := fun w _ => laidMetH Tryd.prog Rows.xferTakesRow.laid w) false (World.doorLaid Tryd.prog 396 os) #[.agg #[.int .i64 0, .int .i64 0, .int .i64 0, .int .i64 0, .int .i64 0, .string ByteArray.empty, .slice none 0 0, .int .i64 0, .bool false, .int .i64 0, .int .i64 0, .int .i64 0, .int .i64 0, .int .i64 0, .int .i64 0, .slice none 0 0, .int .i64 0, .int .i64 0, .int .i64 0, .int .i64 0, .int .i64 0, .int .i64 0, .int .i64 0, .int .i64 0, .int .u32 0, .string ByteArray.empty, .int .i64 0]] 8 rfl (World.shaped_of_RefB (by kernel_rfl) (by kernel_rfl)) (by kernel_rfl) (by kernel_rfl) (by kernel_rfl) (door_met os _)) ?_
  intro W base args ds gs before hval0 hW _ hsz0 hL _
  have hsz : (DataW.weightsEach Tryd.prog (Tryd.f5.params.toList ++ Rows.xferTakesSpec.plain.varTypes Tryd.prog) (ds ++ gs)).all (· ≤ reachBytes) = true := hsz0
  clear hsz0
  have hval : ∀ (j : Nat) t v, Tryd.f5.params[j]? = some t → args[j]? = some v → Value.okWide Tryd.prog W .any base t v := hval0
  have hW' := hW
  obtain ⟨p, q, hA0, hV, rfl, hfz, hnd⟩ := hW
  have hA : DataW.TrodAll enc Tryd.prog W 0 (fun _ => true) true Tryd.f5.params.toList args.toList ds p := hA0
  rw [Tryd.params5] at hA hval hsz
  obtain ⟨v0, vs0, d0, ds0, p0, q0, hargs, rfl, rfl, h0, r0⟩ := trodAll_cons hA
  obtain ⟨rfl, rfl, rfl⟩ := trodAll_nil r0
  obtain rfl : args = #[v0] := by cases args; simp_all
  obtain ⟨rfl, rfl⟩ := trodVars_none hV
  obtain ⟨cs0, rfl, _⟩ := okWide_struct Tryd.underlying36 (hval 0 36 v0 rfl rfl)
  have k0 := h0
  have lt0 : ∀ x ∈ p0, x.block < W.heap.size := by obtain ⟨m, hm⟩ := k0; exact DataW.trod_lt m _ _ _ hm
  have wt0 : ∀ m ∈ d0.weights Tryd.prog 36, m ≤ reachBytes := fun m hm => of_decide_eq_true (List.all_eq_true.1 hsz m (DataW.weights_mem_each (j := 0) rfl rfl m hm))
  have z0 : Cz W cs0.toList := by
    obtain ⟨fuel, hf⟩ := h0
    exact case22_open hf wt0
  clear hA0 hval0
  obtain ⟨E, hE⟩ := errs_of_laid (show laidMetH Tryd.prog allLaid W from hL)
  refine (alaw cs0.toList W hE z0).mono fun e W' ⟨he, bel⟩ => ?_
  subst he
  exact ⟨_, rfl, _, _, _, [], _, [], hW', trodAll_mk1 (shut_bool Tryd.underlying4 _), (trodAll_cons_mk (Below.trod laidOut (by kernel_rfl) (of_decide_eq_true (by kernel_rfl)) k0 bel lt0) trodAll_mk0), rfl, bel.frame _, fun h => by cases h⟩

theorem over : Rows.xferTakesRow.holds Tryd.pinned (OpenSpec.ofChange Rows.xferTakesSpec) :=
  OpenClaim.holds_of_wide 5 Tryd.f5 rfl rfl rfl rfl rfl rfl rfl ⟨rfl, rfl, rfl, rfl, rfl⟩ rfl rfl rfl rfl rfl (by kernel_rfl) Tryd.func5 (by kernel_rfl)
    (of_decide_eq_true (by kernel_rfl)) (by unfold Func.isWrapper; first | (rw [if_pos (by decide +kernel)]; kernel_rfl) | (rw [if_neg (by decide +kernel)]; exact ⟨rfl, rfl⟩))
    (fun os started H enc _ => lifted os started H enc)

theorem types_plain : ∀ t ∈ Tryd.f5.params.toList, Tryd.prog.wantsStandIn t = false := by
  rw [Tryd.params5]
  intro t ht
  simp only [List.mem_cons, List.not_mem_nil, or_false] at ht
  rcases ht with rfl
  · exact (show Tryd.prog.wantsStandIn 36 = false by kernel_rfl)

end Go.Proofs.YtnopclacchoijaaDoor.xferTakes
namespace Go.Proofs.YtnopclacchoijaaDoor
theorem xferTakes_holds : Rows.XferTakesCardSaid :=
  Claim7.holds_tied_plain_at .later [] [.handle, .sentinel, .sentinel, .sentinel, .sentinel, .sentinel, .sentinel, .sentinel, .sentinel, .sentinel, .sentinel, .sentinel, .sentinel, .sentinel, .sentinel, .sentinel, .sentinel, .sentinel, .sentinel, .sentinel, .sentinel] true (true, "862dc69f4b5e4cca0228692cf83715b4350250072ca5655cb6f8670633455e86") true
    xferTakes.over (fun _ h => by cases h) (by kernel_rfl) (fun _ h => by cases h) xferTakes_row_tie rfl ⟨rfl, rfl⟩ (by kernel_rfl) rfl
    (fun f fn hf hfn => by
      obtain rfl : f = 5 := Option.some.inj ((show Tryd.prog.funcNamed "ferry/ferrylaw22.XferTakes" = some 5 by kernel_rfl).symm.trans hf) |>.symm
      obtain rfl : fn = Tryd.f5 := (Option.some.inj (Tryd.func5.symm.trans hfn)).symm
      exact ⟨by kernel_rfl, fun j t ht => xferTakes.types_plain t (by rw [Array.getElem?_eq_some_iff] at ht; obtain ⟨h1, h2⟩ := ht; rw [← h2]; simp)⟩)
    (by kernel_rfl)
#print axioms xferTakes_holds
end Go.Proofs.YtnopclacchoijaaDoor
