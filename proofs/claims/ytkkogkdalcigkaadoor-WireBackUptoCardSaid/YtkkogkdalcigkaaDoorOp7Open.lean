/-
  What the reading of a list of the law's calls gives.
  What the reading of a list of the law's calls gives, where it is of no great bulk.
-/
import Derived.Test.YtkkogkdalcigkaaDoorWireStaysWalk
import Derived.Test.YtkkogkdalcigkaaDoorDoorErr
import Derived.Deep.Slices
import Derived.Test.YtkkogkdalcigkaaDoorRows
namespace Go.Proofs.YtkkogkdalcigkaaDoor
open Go.ChangeShapes Go.WideShapes Go.ChangeAt Go.RowKit Go.Deep FerryCrc
set_option linter.unusedVariables false
set_option linter.unusedSimpArgs false

theorem cellsO7 : Tryd.prog.cellsOf 30 = 7 := by kernel_rfl
theorem bytesO7 : Tryd.prog.bytesOf 30 = 64 := by kernel_rfl
theorem cellsI7 : Tryd.prog.cellsOf 3 = 1 := by kernel_rfl
theorem cellsB7 : Tryd.prog.cellsOf 4 = 1 := by kernel_rfl
theorem cellsS7 : Tryd.prog.cellsOf 9 = 1 := by kernel_rfl
theorem add_plain7 (b off i : Nat) : (⟨b, off, none⟩ : Addr).add i = ⟨b, off + i, none⟩ := by
  unfold Addr.add
  split <;> simp_all
theorem weights_of_elem {H : Type} {P : Program} {e : TypeId} : ∀ {l : List (DataW H)} {d : DataW H}, d ∈ l → ∀ n ∈ d.weights P e, n ∈ DataW.weightsAll P e l
  | [], d, h, _, _ => by simp at h
  | x :: l, d, h, n, hn => by
    rw [DataW.weightsAll]
    rcases List.mem_cons.1 h with rfl | h
    · exact List.mem_append.2 (.inl hn)
    · exact List.mem_append.2 (.inr (weights_of_elem h n hn))

set_option maxRecDepth 100000 in
theorem op7_open {H : Type} {enc : TypeId × Value → H} {W : World} {fuel : Nat} {cs : List Value} {x : DataW H × List MemPlace}
    (h2 : DataW.trod enc Tryd.prog W 0 (fun _ => true) true fuel 30 cs = some x) (hlen : cs.length = 7) (hw : ∀ m ∈ x.1.weights Tryd.prog 30, m ≤ reachBytes) : ∃ p : Op7, p.Ok ∧ cs = p.cells := by
  obtain ⟨xs, n, _, hx, _, hxl, hff⟩ := DataW.trod_struct Tryd.underlying30 h2
  match xs, hxl, cs, hlen with
  | [y0, y1, y2, y3, y4, y5, y6], _, [v0, v1, v2, v3, v4, v5, v6], _ =>
    have g0 := hff 0 _ rfl
    have g1 := hff 1 _ rfl
    have g2 := hff 2 _ rfl
    have g3 := hff 3 _ rfl
    have g4 := hff 4 _ rfl
    have g5 := hff 5 _ rfl
    have g6 := hff 6 _ rfl
    simp [cellsI7, cellsB7, cellsS7] at g0 g1 g2 g3 g4 g5 g6
    subst hx
    obtain ⟨z0, e0, _, b0⟩ := DataW.trod_int Tryd.underlying3 g0
    obtain ⟨z1, e1, _⟩ := DataW.trod_bool Tryd.underlying4 g1
    obtain ⟨z2, e2, _, b2⟩ := DataW.trod_int Tryd.underlying3 g2
    obtain ⟨z3, e3, _, b3⟩ := DataW.trod_int Tryd.underlying3 g3
    obtain ⟨z4, e4, _, b4⟩ := DataW.trod_int Tryd.underlying3 g4
    obtain ⟨z5, e5, _, b5⟩ := DataW.trod_int Tryd.underlying3 g5
    obtain ⟨z6, e6, x6, _⟩ := DataW.trod_string Tryd.underlying9 g6
    simp only [List.cons.injEq, and_true] at e0 e1 e2 e3 e4 e5 e6
    subst e0 e1 e2 e3 e4 e5 e6
    have i2 := bounds_i64 b2
    refine ⟨⟨z0, z1, z2, z3, z4, z5, z6⟩, ⟨i2.1, i2.2, ?_⟩, rfl⟩
    have h9 := hw z6.size (by
      simp only [DataW.weights, Tryd.underlying30, List.map_cons, List.map_nil, DataW.weightsEach, List.mem_append]
      right; right; right; right; right; right; left
      rw [x6]
      simp only [DataW.weights, List.mem_singleton]
      rfl)
    show z6.size ≤ _
    unfold reachBytes at h9
    omega

set_option maxRecDepth 100000 in
theorem op7s_open {H : Type} {enc : TypeId × Value → H} {W : World} {fuel : Nat} {a : Option Addr} {len cap : Nat} {x : DataW H × List MemPlace}
    (hf : DataW.trod enc Tryd.prog W 0 (fun _ => true) true fuel 22 [.slice a len cap] = some x) (hw : ∀ m ∈ x.1.weights Tryd.prog 22, m ≤ reachBytes) : ∃ l, Rcs Op7.cells 7 W a len cap l ∧ (∀ p ∈ l, p.Ok) ∧ len ≤ 5864062014805 := by
  rcases open_slice Tryd.underlying22 hf with ⟨hcs, _⟩ | ⟨ad, l, c, m, nf, D, Pl, hcs, _, hl, hm, hmm, hx0, hx⟩
  · simp only [List.cons.injEq, Value.slice.injEq, and_true] at hcs
    obtain ⟨rfl, rfl, rfl⟩ := hcs
    exact ⟨[], ⟨rfl, rfl, by decide, fun _ => ⟨rfl, rfl⟩, fun j v hv => by simp at hv⟩, fun p hp => by simp at hp, by decide⟩
  · simp only [List.cons.injEq, Value.slice.injEq, and_true] at hcs
    obtain ⟨rfl, rfl, rfl⟩ := hcs
    simp only [if_true] at hmm
    subst hmm
    have hreach : m * 64 ≤ reachBytes := by
      refine hw _ ?_
      rw [hx0]
      simp [DataW.weights, Tryd.underlying22, bytesO7]
      left
      rw [show len + (m - len) = m by omega]
    have hel : ∀ k, k < len → ∀ q ∈ (D k).weights Tryd.prog 30, q ≤ reachBytes := fun k hk q hq => by
      refine hw q ?_
      rw [hx0]
      simp only [DataW.weights, Tryd.underlying22, List.mem_cons, List.mem_append]
      exact .inr (.inl (weights_of_elem (List.mem_map.2 ⟨k, List.mem_range.2 hk, rfl⟩) q hq))
    have hsp0 : 0 < len → ad.spot = none := fun h0 => by
      obtain ⟨cs, h1, _⟩ := hx 0 (by omega)
      rw [cellsO7] at h1
      obtain ⟨_, hlen, hcell⟩ := World.cells?_some h1
      have c0 := hcell 0 (by omega)
      rw [add_add, List.getElem?_eq_getElem (by omega)] at c0
      have := World.cell?_spot c0
      simpa [Addr.add] using this
    have each : ∀ k, k < len → ∃ p : Op7, ∃ b off, some ad = some (⟨b, off, none⟩ : Addr) ∧ p.Ok ∧ W.rangeAt b (off + k * 7) p.cells := by
      intro k hk
      obtain ⟨cs, h1, h2⟩ := hx k (by omega)
      rw [cellsO7] at h1
      obtain ⟨_, hlen, hcell⟩ := World.cells?_some h1
      obtain ⟨p, hp, rfl⟩ := op7_open h2 hlen (hel k hk)
      have hsp : ad.spot = none := hsp0 (by omega)
      obtain ⟨b, off, spot⟩ := ad
      simp only at hsp
      subst hsp
      refine ⟨p, b, off, rfl, hp, fun j v hv => ?_⟩
      have hj : j < 7 := by
        have := (List.getElem?_eq_some_iff.1 hv).1
        omega
      have c := hcell j hj
      rw [add_add, add_plain7, hv] at c
      rw [Nat.add_assoc]
      exact c
    haveI : Inhabited Op7 := ⟨⟨0, false, 0, 0, 0, 0, ByteArray.empty⟩⟩
    obtain ⟨C, hC⟩ := choose_lt each
    refine ⟨(List.range len).map C, ⟨by simp, by rw [fl_len Op7.len]; simp, hl, fun e => by simp at e, fun j v hv => ?_⟩, fun p hp => ?_, by unfold reachBytes at hreach; omega⟩
    · have hj := (List.getElem?_eq_some_iff.1 hv).1
      rw [fl_len Op7.len] at hj
      simp only [List.length_map, List.length_range] at hj
      have hk : j / 7 < len := by omega
      have h1 := fl_get Op7.len (l := (List.range len).map C) (k := j / 7) (x := C (j / 7)) (j % 7) (by simp [hk]) (by omega)
      rw [show j / 7 * 7 + j % 7 = j by omega, hv] at h1
      obtain ⟨b, off, e, _, hr⟩ := hC (j / 7) hk
      refine ⟨b, off, e, ?_⟩
      have := hr (j % 7) v h1.symm
      rw [show off + j / 7 * 7 + j % 7 = off + j by omega] at this
      exact this
    · obtain ⟨i, hi, rfl⟩ := List.mem_map.1 hp
      obtain ⟨_, _, _, h, _⟩ := hC i (List.mem_range.1 hi)
      exact h
end Go.Proofs.YtkkogkdalcigkaaDoor
namespace Go.Proofs.YtkkogkdalcigkaaDoor
open Go.ChangeShapes Go.WideShapes Go.ChangeAt Go.RowKit Go.Deep FerryCrc
set_option linter.unusedVariables false
set_option linter.unusedSimpArgs false

theorem bulk_pos {H : Type} (d : DataW H) : 1 ≤ Rows.uptoBulk d := by
  cases d with
  | lit l => cases l <;> simp [Rows.uptoBulk]
  | _ => simp [Rows.uptoBulk]
theorem bulk_len {H : Type} (ds : List (DataW H)) : ds.length ≤ Rows.uptoBulkAll ds := by
  induction ds with
  | nil => exact Nat.zero_le _
  | cons d ds ih =>
    have := bulk_pos d
    rw [Rows.uptoBulkAll, List.length_cons]
    omega
theorem bulk_mem {H : Type} {d : DataW H} {ds : List (DataW H)} (h : d ∈ ds) : Rows.uptoBulk d ≤ Rows.uptoBulkAll ds := by
  induction ds with
  | nil => simp at h
  | cons e ds ih =>
    rw [Rows.uptoBulkAll]
    rcases List.mem_cons.1 h with rfl | h
    · omega
    · have := ih h
      omega

/-- A list of records. -/
theorem recs_open {α : Type} [Inhabited α] {f : α → List Value} {sz : Nat} (hf : ∀ x, (f x).length = sz) (h0 : 0 < sz) {OK : α → Prop} {t e : TypeId} (ht : Tryd.prog.underlying t = some (.slice e)) (hce : Tryd.prog.cellsOf e = sz)
    {H : Type} {enc : TypeId × Value → H} {W : World} {fuel : Nat} {cs : List Value} {x : DataW H × List MemPlace}
    (h : DataW.trod enc Tryd.prog W 0 (fun _ => true) true fuel t cs = some x)
    (hel : ∀ n cs' y, DataW.trod enc Tryd.prog W 0 (fun _ => true) true n e cs' = some y → cs'.length = sz → Rows.uptoBulk y.1 ≤ Rows.uptoBulk x.1 → ∃ p : α, OK p ∧ cs' = f p) :
    ∃ a len cap l, cs = [.slice a len cap] ∧ Rcs f sz W a len cap l ∧ (∀ p ∈ l, OK p) ∧ len ≤ Rows.uptoBulk x.1 := by
  rcases open_slice ht h with ⟨hcs, _⟩ | ⟨ad, len, cap, m, nf, D, Pl, hcs, _, hl, hm, hmm, hx0, hx⟩
  · exact ⟨none, 0, 0, [], hcs, ⟨rfl, by simp, by decide, fun _ => ⟨rfl, rfl⟩, fun j v hv => by simp at hv⟩, fun p hp => by simp at hp, Nat.zero_le _⟩
  · simp only [if_true] at hmm
    subst hmm
    have hbl : ∀ k, k < len → Rows.uptoBulk (D k) ≤ Rows.uptoBulk x.1 := fun k hk => by
      rw [hx0]
      show _ ≤ Rows.uptoBulk (.slice _ _)
      rw [Rows.uptoBulk]
      have := bulk_mem (ds := (List.range len).map D) (List.mem_map.2 ⟨k, List.mem_range.2 hk, rfl⟩)
      omega
    have hln : len ≤ Rows.uptoBulk x.1 := by
      rw [hx0]
      show _ ≤ Rows.uptoBulk (.slice _ _)
      rw [Rows.uptoBulk]
      have := bulk_len ((List.range len).map D)
      rw [List.length_map, List.length_range] at this
      omega
    have hsp0 : 0 < len → ad.spot = none := fun h1 => by
      obtain ⟨cs', h1, _⟩ := hx 0 (by omega)
      rw [hce] at h1
      obtain ⟨_, hlen, hcell⟩ := World.cells?_some h1
      have c0 := hcell 0 (by omega)
      rw [add_add, List.getElem?_eq_getElem (by omega)] at c0
      have := World.cell?_spot c0
      simpa [Addr.add] using this
    have each : ∀ k, k < len → ∃ p : α, ∃ b off, some ad = some (⟨b, off, none⟩ : Addr) ∧ OK p ∧ W.rangeAt b (off + k * sz) (f p) := by
      intro k hk
      obtain ⟨cs', h1, h2⟩ := hx k (by omega)
      rw [hce] at h1
      obtain ⟨_, hlen, hcell⟩ := World.cells?_some h1
      obtain ⟨p, hp, rfl⟩ := hel nf cs' _ h2 hlen (hbl k hk)
      have hsp : ad.spot = none := hsp0 (by omega)
      obtain ⟨b, off, spot⟩ := ad
      simp only at hsp
      subst hsp
      refine ⟨p, b, off, rfl, hp, fun j v hv => ?_⟩
      have hj : j < sz := by
        have := (List.getElem?_eq_some_iff.1 hv).1
        rw [hf] at this
        exact this
      have c := hcell j hj
      rw [add_add, add_plain7, hv] at c
      rw [Nat.add_assoc]
      exact c
    obtain ⟨C, hC⟩ := choose_lt each
    refine ⟨some ad, len, m, (List.range len).map C, hcs, ⟨by simp, by rw [fl_len hf]; simp, hl, fun e => by simp at e, fun j v hv => ?_⟩, fun p hp => ?_, hln⟩
    · have hj := (List.getElem?_eq_some_iff.1 hv).1
      rw [fl_len hf] at hj
      simp only [List.length_map, List.length_range] at hj
      have hk : j / sz < len := (Nat.div_lt_iff_lt_mul h0).2 hj
      have h1 := fl_get hf (l := (List.range len).map C) (k := j / sz) (x := C (j / sz)) (j % sz) (by simp [hk]) (Nat.mod_lt _ h0)
      rw [Nat.div_add_mod' j sz, hv] at h1
      obtain ⟨b, off, e, _, hr⟩ := hC (j / sz) hk
      refine ⟨b, off, e, ?_⟩
      have := hr (j % sz) v h1.symm
      rw [Nat.add_assoc, Nat.div_add_mod' j sz] at this
      exact this
    · obtain ⟨i, hi, rfl⟩ := List.mem_map.1 hp
      obtain ⟨_, _, _, h, _⟩ := hC i (List.mem_range.1 hi)
      exact h

set_option maxRecDepth 100000 in
theorem op7_bulk {H : Type} {enc : TypeId × Value → H} {W : World} {fuel : Nat} {cs : List Value} {x : DataW H × List MemPlace}
    (h2 : DataW.trod enc Tryd.prog W 0 (fun _ => true) true fuel 30 cs = some x) (hlen : cs.length = 7) : ∃ p : Op7, p.s.size ≤ Rows.uptoBulk x.1 ∧ cs = p.cells := by
  obtain ⟨xs, n, _, hx, _, hxl, hff⟩ := DataW.trod_struct Tryd.underlying30 h2
  match xs, hxl, cs, hlen with
  | [y0, y1, y2, y3, y4, y5, y6], _, [v0, v1, v2, v3, v4, v5, v6], _ =>
    have g0 := hff 0 _ rfl
    have g1 := hff 1 _ rfl
    have g2 := hff 2 _ rfl
    have g3 := hff 3 _ rfl
    have g4 := hff 4 _ rfl
    have g5 := hff 5 _ rfl
    have g6 := hff 6 _ rfl
    simp [cellsI7, cellsB7, cellsS7] at g0 g1 g2 g3 g4 g5 g6
    subst hx
    obtain ⟨z0, e0, _, b0⟩ := DataW.trod_int Tryd.underlying3 g0
    obtain ⟨z1, e1, _⟩ := DataW.trod_bool Tryd.underlying4 g1
    obtain ⟨z2, e2, _, b2⟩ := DataW.trod_int Tryd.underlying3 g2
    obtain ⟨z3, e3, _, b3⟩ := DataW.trod_int Tryd.underlying3 g3
    obtain ⟨z4, e4, _, b4⟩ := DataW.trod_int Tryd.underlying3 g4
    obtain ⟨z5, e5, _, b5⟩ := DataW.trod_int Tryd.underlying3 g5
    obtain ⟨z6, e6, x6, _⟩ := DataW.trod_string Tryd.underlying9 g6
    simp only [List.cons.injEq, and_true] at e0 e1 e2 e3 e4 e5 e6
    subst e0 e1 e2 e3 e4 e5 e6
    refine ⟨⟨z0, z1, z2, z3, z4, z5, z6⟩, ?_, rfl⟩
    have h9 : z6.size + 1 ≤ Rows.uptoBulk y6.1 := by
      rw [x6]
      simp only [Rows.uptoBulk]
      exact Nat.le_refl _
    have := bulk_mem (d := y6.1) (ds := [y0, y1, y2, y3, y4, y5, y6].map (·.1)) (by simp)
    show z6.size ≤ Rows.uptoBulk (.agg _)
    rw [Rows.uptoBulk]
    omega

theorem op7s_bulk {H : Type} {enc : TypeId × Value → H} {W : World} {fuel : Nat} {a : Option Addr} {len cap : Nat} {x : DataW H × List MemPlace}
    (hf : DataW.trod enc Tryd.prog W 0 (fun _ => true) true fuel 22 [.slice a len cap] = some x) : ∃ l, Rcs Op7.cells 7 W a len cap l ∧ (∀ p ∈ l, p.s.size ≤ Rows.uptoBulk x.1) ∧ len ≤ Rows.uptoBulk x.1 := by
  haveI : Inhabited Op7 := ⟨⟨0, false, 0, 0, 0, 0, ByteArray.empty⟩⟩
  obtain ⟨a', len', cap', l, e, hr, hok, hl⟩ := recs_open (f := Op7.cells) (sz := 7) (OK := fun p => p.s.size ≤ Rows.uptoBulk x.1) Op7.len (by decide) Tryd.underlying22 cellsO7 hf (fun n cs' y h2 hlen hb => by
    obtain ⟨p, h, e⟩ := op7_bulk h2 hlen
    exact ⟨p, Nat.le_trans h hb, e⟩)
  simp only [List.cons.injEq, Value.slice.injEq, and_true] at e
  obtain ⟨rfl, rfl, rfl⟩ := e
  exact ⟨l, hr, hok, hl⟩
end Go.Proofs.YtkkogkdalcigkaaDoor
