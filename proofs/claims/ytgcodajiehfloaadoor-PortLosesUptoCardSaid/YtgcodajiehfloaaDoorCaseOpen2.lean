/-
  What the reading of a case that came in gives, where it is of no great bulk: its lists of plans, ports and messages, in memory.
-/
import Derived.Test.YtgcodajiehfloaaDoorCaseOpen
import Derived.Test.YtgcodajiehfloaaDoorPlBase
import Derived.Test.YtgcodajiehfloaaDoorRows
namespace Go.Proofs.YtgcodajiehfloaaDoor
open Go.ChangeShapes Go.WideShapes Go.ChangeAt Go.RowKit Go.Deep
set_option linter.unusedVariables false

theorem bulk_pos {H : Type} (d : DataW H) : 1 ≤ Rows.uptoBulk d := by
  cases d with
  | lit l => cases l <;> simp [Rows.uptoBulk]
  | _ => simp [Rows.uptoBulk]
theorem bulk_len {H : Type} (ds : List (DataW H)) : ds.length ≤ Rows.uptoBulkAll ds := by
  induction ds with
  | nil => exact Nat.zero_le _
  | cons d ds ih =>
    have := bulk_pos d
    rw [Rows.uptoBulkAll, List.length_cons]
    omega
theorem bulk_mem {H : Type} {d : DataW H} {ds : List (DataW H)} (h : d ∈ ds) : Rows.uptoBulk d ≤ Rows.uptoBulkAll ds := by
  induction ds with
  | nil => simp at h
  | cons e ds ih =>
    rw [Rows.uptoBulkAll]
    rcases List.mem_cons.1 h with rfl | h
    · omega
    · have := ih h
      omega

/-- A list of records. -/
theorem recs_open {α : Type} [Inhabited α] {f : α → List Value} {sz : Nat} (hf : ∀ x, (f x).length = sz) (h0 : 0 < sz) {OK : α → Prop} {t e : TypeId} (ht : Tryd.prog.underlying t = some (.slice e)) (hce : Tryd.prog.cellsOf e = sz)
    {H : Type} {enc : TypeId × Value → H} {W : World} {fuel : Nat} {cs : List Value} {x : DataW H × List MemPlace}
    (h : DataW.trod enc Tryd.prog W 0 (fun _ => true) true fuel t cs = some x)
    (hel : ∀ n cs' y, DataW.trod enc Tryd.prog W 0 (fun _ => true) true n e cs' = some y → cs'.length = sz → Rows.uptoBulk y.1 ≤ Rows.uptoBulk x.1 → ∃ p : α, OK p ∧ cs' = f p) :
    ∃ a len cap l, cs = [.slice a len cap] ∧ Rcs f sz W a len cap l ∧ (∀ p ∈ l, OK p) ∧ len ≤ Rows.uptoBulk x.1 := by
  rcases open_slice ht h with ⟨hcs, _⟩ | ⟨ad, len, cap, m, nf, D, Pl, hcs, _, hl, hm, hmm, hx0, hx⟩
  · exact ⟨none, 0, 0, [], hcs, ⟨rfl, by simp, by decide, fun _ => ⟨rfl, rfl⟩, fun j v hv => by simp at hv⟩, fun p hp => by simp at hp, Nat.zero_le _⟩
  · simp only [if_true] at hmm
    subst hmm
    have hbl : ∀ k, k < len → Rows.uptoBulk (D k) ≤ Rows.uptoBulk x.1 := fun k hk => by
      rw [hx0]
      show _ ≤ Rows.uptoBulk (.slice _ _)
      rw [Rows.uptoBulk]
      have := bulk_mem (ds := (List.range len).map D) (List.mem_map.2 ⟨k, List.mem_range.2 hk, rfl⟩)
      omega
    have hln : len ≤ Rows.uptoBulk x.1 := by
      rw [hx0]
      show _ ≤ Rows.uptoBulk (.slice _ _)
      rw [Rows.uptoBulk]
      have := bulk_len ((List.range len).map D)
      rw [List.length_map, List.length_range] at this
      omega
    have hsp0 : 0 < len → ad.spot = none := fun h1 => by
      obtain ⟨cs', h1, _⟩ := hx 0 (by omega)
      rw [hce] at h1
      obtain ⟨_, hlen, hcell⟩ := World.cells?_some h1
      have c0 := hcell 0 (by omega)
      rw [add_add, List.getElem?_eq_getElem (by omega)] at c0
      have := World.cell?_spot c0
      simpa [Addr.add] using this
    have each : ∀ k, k < len → ∃ p : α, ∃ b off, some ad = some (⟨b, off, none⟩ : Addr) ∧ OK p ∧ W.rangeAt b (off + k * sz) (f p) := by
      intro k hk
      obtain ⟨cs', h1, h2⟩ := hx k (by omega)
      rw [hce] at h1
      obtain ⟨_, hlen, hcell⟩ := World.cells?_some h1
      obtain ⟨p, hp, rfl⟩ := hel nf cs' _ h2 hlen (hbl k hk)
      have hsp : ad.spot = none := hsp0 (by omega)
      obtain ⟨b, off, spot⟩ := ad
      simp only at hsp
      subst hsp
      refine ⟨p, b, off, rfl, hp, fun j v hv => ?_⟩
      have hj : j < sz := by
        have := (List.getElem?_eq_some_iff.1 hv).1
        rw [hf] at this
        exact this
      have c := hcell j hj
      rw [add_add, add_plain, hv] at c
      rw [Nat.add_assoc]
      exact c
    obtain ⟨C, hC⟩ := choose_lt each
    refine ⟨some ad, len, m, (List.range len).map C, hcs, ⟨by simp, by rw [fl_len hf]; simp, hl, fun e => by simp at e, fun j v hv => ?_⟩, fun p hp => ?_, hln⟩
    · have hj := (List.getElem?_eq_some_iff.1 hv).1
      rw [fl_len hf] at hj
      simp only [List.length_map, List.length_range] at hj
      have hk : j / sz < len := (Nat.div_lt_iff_lt_mul h0).2 hj
      have h1 := fl_get hf (l := (List.range len).map C) (k := j / sz) (x := C (j / sz)) (j % sz) (by simp [hk]) (Nat.mod_lt _ h0)
      rw [Nat.div_add_mod' j sz, hv] at h1
      obtain ⟨b, off, e, _, hr⟩ := hC (j / sz) hk
      refine ⟨b, off, e, ?_⟩
      have := hr (j % sz) v h1.symm
      rw [Nat.add_assoc, Nat.div_add_mod' j sz] at this
      exact this
    · obtain ⟨i, hi, rfl⟩ := List.mem_map.1 hp
      obtain ⟨_, _, _, h, _⟩ := hC i (List.mem_range.1 hi)
      exact h
theorem flat_sv : ∀ l : List ByteArray, l.flatMap (fun s => [sv s]) = l.map sv
  | [] => rfl
  | y :: l => by rw [List.flatMap_cons, flat_sv l]; rfl
theorem strs_open {H : Type} {enc : TypeId × Value → H} {W : World} {fuel : Nat} {cs : List Value} {x : DataW H × List MemPlace}
    (hf : DataW.trod enc Tryd.prog W 0 (fun _ => true) true fuel 24 cs = some x) (hb : Rows.uptoBulk x.1 ≤ 1048576) : ∃ a len cap l, cs = [.slice a len cap] ∧ Sts W a len cap l := by
  haveI : Inhabited ByteArray := ⟨ByteArray.empty⟩
  obtain ⟨a, len, cap, l, e, hr, hok, hl⟩ := recs_open (f := fun s => [sv s]) (sz := 1) (OK := fun s => s.size ≤ 9223372036854775807) (fun _ => rfl) (by decide) Tryd.underlying24 cellsSt hf (fun n cs' y h2 hlen _ => by
    obtain ⟨s, e4, _, b4⟩ := DataW.trod_string Tryd.underlying9 h2
    exact ⟨s, by unfold maxLen at b4; exact Nat.le_trans b4 (by decide), e4⟩)
  have em := flat_sv l
  refine ⟨a, len, cap, l, e, hr.size, by omega, hok, ?_⟩
  have := hr.row
  rw [em] at this
  exact this
theorem bytesOk : True := trivial
theorem cellsMsg : Tryd.prog.cellsOf 53 = 2 := by kernel_rfl

set_option maxRecDepth 100000 in
theorem plv_el {H : Type} {enc : TypeId × Value → H} {W : World} {n : Nat} {cs : List Value} {y : DataW H × List MemPlace}
    (h : DataW.trod enc Tryd.prog W 0 (fun _ => true) true n 23 cs = some y) (hlen : cs.length = 4) : ∃ p : Plv, True ∧ cs = p.cells := by
  obtain ⟨zs, n0, _, _, _, hzl, hzf⟩ := DataW.trod_struct Tryd.underlying23 h
  match zs, hzl, cs, hlen with
  | [z0, z1, z2, z3], _, [v0, v1, v2, v3], _ =>
    have p0 : DataW.trod enc Tryd.prog W 0 (fun _ => true) true n0 3 (([v0, v1, v2, v3].drop 0).take (Tryd.prog.cellsOf 3)) = some z0 := hzf 0 _ rfl
    have p1 : DataW.trod enc Tryd.prog W 0 (fun _ => true) true n0 3 (([v0, v1, v2, v3].drop 1).take (Tryd.prog.cellsOf 3)) = some z1 := hzf 1 _ rfl
    have p2 : DataW.trod enc Tryd.prog W 0 (fun _ => true) true n0 3 (([v0, v1, v2, v3].drop 2).take (Tryd.prog.cellsOf 3)) = some z2 := hzf 2 _ rfl
    have p3 : DataW.trod enc Tryd.prog W 0 (fun _ => true) true n0 3 (([v0, v1, v2, v3].drop 3).take (Tryd.prog.cellsOf 3)) = some z3 := hzf 3 _ rfl
    rw [cellsInt] at p0 p1 p2 p3
    obtain ⟨k, e0, _, _⟩ := DataW.trod_int Tryd.underlying3 p0
    obtain ⟨s, e1, _, _⟩ := DataW.trod_int Tryd.underlying3 p1
    obtain ⟨d, e2, _, _⟩ := DataW.trod_int Tryd.underlying3 p2
    obtain ⟨r, e3, _, _⟩ := DataW.trod_int Tryd.underlying3 p3
    simp at e0 e1 e2 e3
    subst e0 e1 e2 e3
    exact ⟨⟨k, s, d, r⟩, trivial, rfl⟩
set_option maxRecDepth 100000 in
theorem mgv_el {H : Type} {enc : TypeId × Value → H} {W : World} {n : Nat} {cs : List Value} {y : DataW H × List MemPlace}
    (h : DataW.trod enc Tryd.prog W 0 (fun _ => true) true n 53 cs = some y) (hlen : cs.length = 2) : ∃ m : Mgv, m.data.size ≤ 9223372036854775807 ∧ cs = m.cells := by
  obtain ⟨zs, n0, _, _, _, hzl, hzf⟩ := DataW.trod_struct Tryd.underlying53 h
  match zs, hzl, cs, hlen with
  | [z0, z1], _, [v0, v1], _ =>
    have p0 : DataW.trod enc Tryd.prog W 0 (fun _ => true) true n0 3 (([v0, v1].drop 0).take (Tryd.prog.cellsOf 3)) = some z0 := hzf 0 _ rfl
    have p1 : DataW.trod enc Tryd.prog W 0 (fun _ => true) true n0 9 (([v0, v1].drop 1).take (Tryd.prog.cellsOf 9)) = some z1 := hzf 1 _ rfl
    rw [cellsInt] at p0
    rw [cellsSt] at p1
    obtain ⟨k, e0, _, _⟩ := DataW.trod_int Tryd.underlying3 p0
    obtain ⟨s, e1, _, b1⟩ := DataW.trod_string Tryd.underlying9 p1
    simp at e0 e1
    subst e0 e1
    exact ⟨⟨k, s⟩, by unfold maxLen at b1; exact Nat.le_trans b1 (by decide), rfl⟩
set_option maxRecDepth 100000 in
theorem pr_el {H : Type} {enc : TypeId × Value → H} {W : World} {n : Nat} {cs : List Value} {y : DataW H × List MemPlace}
    (h : DataW.trod enc Tryd.prog W 0 (fun _ => true) true n 26 cs = some y) (hlen : cs.length = 2) (hb : Rows.uptoBulk y.1 ≤ 1048576) : ∃ p : Pr, p.Shows W ∧ cs = p.cells := by
  obtain ⟨zs, n0, _, hy, _, hzl, hzf⟩ := DataW.trod_struct Tryd.underlying26 h
  match zs, hzl, cs, hlen with
  | [z0, z1], _, [v0, v1], _ =>
    have p0 : DataW.trod enc Tryd.prog W 0 (fun _ => true) true n0 24 (([v0, v1].drop 0).take (Tryd.prog.cellsOf 24)) = some z0 := hzf 0 _ rfl
    have p1 : DataW.trod enc Tryd.prog W 0 (fun _ => true) true n0 3 (([v0, v1].drop 1).take (Tryd.prog.cellsOf 3)) = some z1 := hzf 1 _ rfl
    rw [cellsSts] at p0
    rw [cellsInt] at p1
    have hz : Rows.uptoBulk z0.1 ≤ Rows.uptoBulk y.1 := by
      rw [hy]
      show _ ≤ Rows.uptoBulk (.agg _)
      rw [Rows.uptoBulk]
      have := bulk_mem (d := z0.1) (ds := [z0, z1].map (·.1)) (by simp)
      omega
    obtain ⟨a, len, cap, l, e0, st⟩ := strs_open p0 (by omega)
    obtain ⟨k, e1, _, _⟩ := DataW.trod_int Tryd.underlying3 p1
    simp at e0 e1
    subst e0 e1
    have hsz := st.size
    subst hsz
    exact ⟨⟨a, cap, l, k⟩, st, rfl⟩

set_option maxRecDepth 100000 in
theorem case_open2 {H : Type} {enc : TypeId × Value → H} {W : World} {fuel : Nat} {cs : List Value} {x : DataW H × List MemPlace}
    (hf : DataW.trod enc Tryd.prog W 0 (fun _ => true) true fuel 31 cs = some x) (hb : Rows.uptoBulk x.1 ≤ 1048576) :
    ∃ (k s d r : Int) (a : Option Addr) (len cap : Nat) (age : Int) (D : ByteArray) (a7 : Option Addr) (n7 c7 : Nat) (ps : List Plv) (a8 : Option Addr) (n8 c8 : Nat) (l : List Pr) (a9 : Option Addr) (n9 c9 : Nat) (ms : List Mgv),
      cs = [.int .i64 k, .int .i64 s, .int .i64 d, .int .i64 r, .slice a len cap, .int .i64 age, .string D, .slice a7 n7 c7, .slice a8 n8 c8, .slice a9 n9 c9] ∧
      Rcs Plv.cells 4 W a7 n7 c7 ps ∧ Prs W a8 n8 c8 l ∧ Rcs Mgv.cells 2 W a9 n9 c9 ms ∧ n7 ≤ 1048576 ∧ n8 ≤ 1048576 ∧ n9 ≤ 1048576 ∧ (∀ m ∈ ms, m.data.size ≤ 9223372036854775807) := by
  obtain ⟨xs, n, _, hx, hcl, hxl, hff⟩ := DataW.trod_struct Tryd.underlying31 hf
  rw [cellsCase] at hcl
  match xs, hxl, cs, hcl with
  | [y0, y1, y2, y3, y4, y5], _, [v0, v1, v2, v3, v4, v5, v6, v7, v8, v9], _ =>
    have g0 : DataW.trod enc Tryd.prog W 0 (fun _ => true) true n 23 (([v0, v1, v2, v3, v4, v5, v6, v7, v8, v9].drop 0).take (Tryd.prog.cellsOf 23)) = some y0 := hff 0 _ rfl
    have g1 : DataW.trod enc Tryd.prog W 0 (fun _ => true) true n 26 (([v0, v1, v2, v3, v4, v5, v6, v7, v8, v9].drop 4).take (Tryd.prog.cellsOf 26)) = some y1 := hff 1 _ rfl
    have g2 : DataW.trod enc Tryd.prog W 0 (fun _ => true) true n 9 (([v0, v1, v2, v3, v4, v5, v6, v7, v8, v9].drop 6).take (Tryd.prog.cellsOf 9)) = some y2 := hff 2 _ rfl
    have g3 : DataW.trod enc Tryd.prog W 0 (fun _ => true) true n 27 (([v0, v1, v2, v3, v4, v5, v6, v7, v8, v9].drop 7).take (Tryd.prog.cellsOf 27)) = some y3 := hff 3 _ rfl
    have g4 : DataW.trod enc Tryd.prog W 0 (fun _ => true) true n 28 (([v0, v1, v2, v3, v4, v5, v6, v7, v8, v9].drop 8).take (Tryd.prog.cellsOf 28)) = some y4 := hff 4 _ rfl
    have g5 : DataW.trod enc Tryd.prog W 0 (fun _ => true) true n 29 (([v0, v1, v2, v3, v4, v5, v6, v7, v8, v9].drop 9).take (Tryd.prog.cellsOf 29)) = some y5 := hff 5 _ rfl
    rw [cellsPlan] at g0
    rw [cellsPort] at g1
    rw [cellsSt] at g2
    rw [cellsPlans] at g3
    rw [cellsPorts] at g4
    rw [cellsMsgs] at g5
    have hz : ∀ y ∈ [y0, y1, y2, y3, y4, y5], Rows.uptoBulk y.1 ≤ 1048576 := fun y hy => by
      have h1 : Rows.uptoBulk x.1 = Rows.uptoBulkAll ([y0, y1, y2, y3, y4, y5].map (·.1)) + 1 := by rw [hx]; show Rows.uptoBulk (.agg _) = _; rw [Rows.uptoBulk]
      have := bulk_mem (List.mem_map.2 ⟨y, hy, rfl⟩ : y.1 ∈ [y0, y1, y2, y3, y4, y5].map (·.1))
      omega
    obtain ⟨p, _, e0⟩ := plv_el g0 rfl
    obtain ⟨q, _, e1⟩ := pr_el g1 rfl (hz y1 (by simp))
    obtain ⟨D, e2, _, _⟩ := DataW.trod_string Tryd.underlying9 g2
    haveI : Inhabited Plv := ⟨⟨0, 0, 0, 0⟩⟩
    haveI : Inhabited Mgv := ⟨⟨0, ByteArray.empty⟩⟩
    haveI : Inhabited Pr := ⟨⟨none, 0, [], 0⟩⟩
    obtain ⟨a7, n7, c7, ps, e7, r7, _, l7⟩ := recs_open (OK := fun _ => True) plv4 (by decide) Tryd.underlying27 cellsPlan g3 (fun n cs' y h hl _ => plv_el h hl)
    obtain ⟨a8, n8, c8, l, e8, r8, ok8, l8⟩ := recs_open (OK := fun p => Pr.Shows W p) pr2 (by decide) Tryd.underlying28 cellsPort g4 (fun n cs' y h hl hy => pr_el h hl (Nat.le_trans hy (hz y4 (by simp))))
    obtain ⟨a9, n9, c9, ms, e9, r9, ok9, l9⟩ := recs_open (OK := fun m : Mgv => m.data.size ≤ 9223372036854775807) mgv2 (by decide) Tryd.underlying29 cellsMsg g5 (fun n cs' y h hl _ => mgv_el h hl)
    have h7 := hz y3 (by simp)
    have h8 := hz y4 (by simp)
    have h9 := hz y5 (by simp)
    simp [Plv.cells, Pr.cells] at e0 e1 e2 e7 e8 e9
    obtain ⟨rfl, rfl, rfl, rfl⟩ := e0
    obtain ⟨rfl, rfl⟩ := e1
    subst e2 e7 e8 e9
    exact ⟨p.k, p.s, p.d, p.r, q.a, _, q.cap, q.age, D, a7, n7, c7, ps, a8, n8, c8, l, a9, n9, c9, ms, rfl, r7, ⟨r8, ok8⟩, r9, by omega, by omega, by omega, ok9⟩
end Go.Proofs.YtgcodajiehfloaaDoor
