/-
  For all lists of records, bytes, tags and texts of at most 1048576 values and bytes of text in all, the law WireMemory returns true and leaves its argument as it was.
  The listed package variables are tied to the program's text by the given tie (over the pruned copy of the project; that nothing else writes them is the translator's report).
  What the reading of lists of records gives, where they are of no great bulk.
  What the reading of the law's lists (records, bytes, numbers, a text) gives, where they are of no great bulk.
-/
import Derived.Test.YtohoncgkekiihaaDoorWireMemoryWalk
import Derived.Test.YtohoncgkekiihaaDoorDoorErr
import Derived.Deep.DeepHandedRow
import Derived.Deep.DeepWitnessRowRef
import Derived.Test.YtohoncgkekiihaaDoorRcs
import Derived.Deep.Slices
import Derived.Test.YtohoncgkekiihaaDoorRows
import Derived.Test.YtohoncgkekiihaaDoorWtRecs
namespace Go.Proofs.YtohoncgkekiihaaDoor
open Go.ChangeShapes Go.WideShapes Go.ChangeAt Go.RowKit Go.Deep FerryCrc
set_option linter.unusedVariables false
set_option linter.unusedSimpArgs false

theorem add_plain7 (b off i : Nat) : (⟨b, off, none⟩ : Addr).add i = ⟨b, off + i, none⟩ := by
  unfold Addr.add
  split <;> simp_all
theorem bulk_pos {H : Type} (d : DataW H) : 1 ≤ Rows.uptoBulk d := by
  cases d with
  | lit l => cases l <;> simp [Rows.uptoBulk]
  | _ => simp [Rows.uptoBulk]
theorem bulk_len {H : Type} (ds : List (DataW H)) : ds.length ≤ Rows.uptoBulkAll ds := by
  induction ds with
  | nil => exact Nat.zero_le _
  | cons d ds ih =>
    have := bulk_pos d
    rw [Rows.uptoBulkAll, List.length_cons]
    omega
theorem bulk_mem {H : Type} {d : DataW H} {ds : List (DataW H)} (h : d ∈ ds) : Rows.uptoBulk d ≤ Rows.uptoBulkAll ds := by
  induction ds with
  | nil => simp at h
  | cons e ds ih =>
    rw [Rows.uptoBulkAll]
    rcases List.mem_cons.1 h with rfl | h
    · omega
    · have := ih h
      omega

/-- A list of records. -/
theorem recs_open {α : Type} [Inhabited α] {f : α → List Value} {sz : Nat} (hf : ∀ x, (f x).length = sz) (h0 : 0 < sz) {OK : α → Prop} {t e : TypeId} (ht : Tryd.prog.underlying t = some (.slice e)) (hce : Tryd.prog.cellsOf e = sz)
    {H : Type} {enc : TypeId × Value → H} {W : World} {fuel : Nat} {cs : List Value} {x : DataW H × List MemPlace}
    (h : DataW.trod enc Tryd.prog W 0 (fun _ => true) true fuel t cs = some x)
    (hel : ∀ n cs' y, DataW.trod enc Tryd.prog W 0 (fun _ => true) true n e cs' = some y → cs'.length = sz → Rows.uptoBulk y.1 ≤ Rows.uptoBulk x.1 → ∃ p : α, OK p ∧ cs' = f p) :
    ∃ a len cap l, cs = [.slice a len cap] ∧ Rcs f sz W a len cap l ∧ (∀ p ∈ l, OK p) ∧ len ≤ Rows.uptoBulk x.1 := by
  rcases open_slice ht h with ⟨hcs, _⟩ | ⟨ad, len, cap, m, nf, D, Pl, hcs, _, hl, hm, hmm, hx0, hx⟩
  · exact ⟨none, 0, 0, [], hcs, ⟨rfl, by simp, by decide, fun _ => ⟨rfl, rfl⟩, fun j v hv => by simp at hv⟩, fun p hp => by simp at hp, Nat.zero_le _⟩
  · simp only [if_true] at hmm
    subst hmm
    have hbl : ∀ k, k < len → Rows.uptoBulk (D k) ≤ Rows.uptoBulk x.1 := fun k hk => by
      rw [hx0]
      show _ ≤ Rows.uptoBulk (.slice _ _)
      rw [Rows.uptoBulk]
      have := bulk_mem (ds := (List.range len).map D) (List.mem_map.2 ⟨k, List.mem_range.2 hk, rfl⟩)
      omega
    have hln : len ≤ Rows.uptoBulk x.1 := by
      rw [hx0]
      show _ ≤ Rows.uptoBulk (.slice _ _)
      rw [Rows.uptoBulk]
      have := bulk_len ((List.range len).map D)
      rw [List.length_map, List.length_range] at this
      omega
    have hsp0 : 0 < len → ad.spot = none := fun h1 => by
      obtain ⟨cs', h1, _⟩ := hx 0 (by omega)
      rw [hce] at h1
      obtain ⟨_, hlen, hcell⟩ := World.cells?_some h1
      have c0 := hcell 0 (by omega)
      rw [add_add, List.getElem?_eq_getElem (by omega)] at c0
      have := World.cell?_spot c0
      simpa [Addr.add] using this
    have each : ∀ k, k < len → ∃ p : α, ∃ b off, some ad = some (⟨b, off, none⟩ : Addr) ∧ OK p ∧ W.rangeAt b (off + k * sz) (f p) := by
      intro k hk
      obtain ⟨cs', h1, h2⟩ := hx k (by omega)
      rw [hce] at h1
      obtain ⟨_, hlen, hcell⟩ := World.cells?_some h1
      obtain ⟨p, hp, rfl⟩ := hel nf cs' _ h2 hlen (hbl k hk)
      have hsp : ad.spot = none := hsp0 (by omega)
      obtain ⟨b, off, spot⟩ := ad
      simp only at hsp
      subst hsp
      refine ⟨p, b, off, rfl, hp, fun j v hv => ?_⟩
      have hj : j < sz := by
        have := (List.getElem?_eq_some_iff.1 hv).1
        rw [hf] at this
        exact this
      have c := hcell j hj
      rw [add_add, add_plain7, hv] at c
      rw [Nat.add_assoc]
      exact c
    obtain ⟨C, hC⟩ := choose_lt each
    refine ⟨some ad, len, m, (List.range len).map C, hcs, ⟨by simp, by rw [fl_len hf]; simp, hl, fun e => by simp at e, fun j v hv => ?_⟩, fun p hp => ?_, hln⟩
    · have hj := (List.getElem?_eq_some_iff.1 hv).1
      rw [fl_len hf] at hj
      simp only [List.length_map, List.length_range] at hj
      have hk : j / sz < len := (Nat.div_lt_iff_lt_mul h0).2 hj
      have h1 := fl_get hf (l := (List.range len).map C) (k := j / sz) (x := C (j / sz)) (j % sz) (by simp [hk]) (Nat.mod_lt _ h0)
      rw [Nat.div_add_mod' j sz, hv] at h1
      obtain ⟨b, off, e, _, hr⟩ := hC (j / sz) hk
      refine ⟨b, off, e, ?_⟩
      have := hr (j % sz) v h1.symm
      rw [Nat.add_assoc, Nat.div_add_mod' j sz] at this
      exact this
    · obtain ⟨i, hi, rfl⟩ := List.mem_map.1 hp
      obtain ⟨_, _, _, h, _⟩ := hC i (List.mem_range.1 hi)
      exact h
end Go.Proofs.YtohoncgkekiihaaDoor
namespace Go.Proofs.YtohoncgkekiihaaDoor
open Go.ChangeShapes Go.WideShapes Go.ChangeAt Go.RowKit Go.Deep FerryCrc
set_option linter.unusedVariables false
set_option linter.unusedSimpArgs false

theorem cellsI7 : Tryd.prog.cellsOf 3 = 1 := by kernel_rfl
theorem cellsS7 : Tryd.prog.cellsOf 9 = 1 := by kernel_rfl
theorem cellsLs : Tryd.prog.cellsOf 26 = 4 := by kernel_rfl
theorem cellsR2 : Tryd.prog.cellsOf 79 = 2 := by kernel_rfl
theorem cellsB1 : Tryd.prog.cellsOf 5 = 1 := by kernel_rfl
theorem cellsBs : Tryd.prog.cellsOf 23 = 1 := by kernel_rfl
theorem cellsIs : Tryd.prog.cellsOf 24 = 1 := by kernel_rfl
theorem cellsRs : Tryd.prog.cellsOf 22 = 1 := by kernel_rfl

theorem bulk_lits {H : Type} (k : IntKind) (zs : List Int) : Rows.uptoBulkAll (lits (H := H) k zs) = zs.length := by
  induction zs with
  | nil => rfl
  | cons z zs ih =>
    have h : lits (H := H) k (z :: zs) = .lit (.int k z) :: lits k zs := rfl
    rw [h, Rows.uptoBulkAll, ih, List.length_cons, Rows.uptoBulk]
    · omega
    · intro b e; cases e

theorem bytes_row {w : World} {a : Option Addr} {len cap : Nat} {zs : List Int} (x : Addr) (ha : a = some x) (hl : len ≤ cap) (hz : zs.length = cap) (hr : cap ≤ 140737488351232)
    (hc : ∀ i, i < zs.length → w.cell? (x.add i) = some (.int .u8 (zs.getD i 0))) (hw : ∀ n ∈ zs, (Lit.int .u8 n).wf = true) : Bts w a len cap ((zs.take len).map Int.toNat) := by
  have hb : ∀ n ∈ zs, 0 ≤ n ∧ n < 256 := fun n hn => by have := bounds_u8 (hw n hn); omega
  refine ⟨by simp; omega, by omega, hl, ?_, fun e => by rw [ha] at e; simp at e, ?_⟩
  · intro c hc'
    obtain ⟨n, hn, rfl⟩ := List.mem_map.1 hc'
    have := hb n (List.mem_of_mem_take hn)
    omega
  · intro k hk
    have hcell := hc k (by omega)
    obtain ⟨b, off, spot⟩ := x
    have hspot : spot = none := by simpa [Addr.add] using World.cell?_spot (hc 0 (by omega))
    subst hspot
    have hkz : k < zs.length := by omega
    refine ⟨b, off, ha, (zs[k]).toNat, by simp [hk, hkz], ?_⟩
    have hn := hb _ (List.getElem_mem hkz)
    rw [Int.toNat_of_nonneg hn.1]
    rw [add_plain7] at hcell
    simpa [hkz] using hcell

theorem bytes_bulk {H : Type} {enc : TypeId × Value → H} {W : World} {fuel : Nat} {cs : List Value} {x : DataW H × List MemPlace}
    (hf : DataW.trod enc Tryd.prog W 0 (fun _ => true) true fuel 23 cs = some x) (hb : Rows.uptoBulk x.1 ≤ 1048576) :
    ∃ a n c l, cs = [.slice a n c] ∧ Bts W a n c l ∧ n ≤ Rows.uptoBulk x.1 := by
  rcases open_ints Tryd.underlying23 Tryd.underlying5 cellsB1 hf with ⟨hcs, _⟩ | ⟨ad, l, c, zs, hcs, _, hl, hm, hz, hx, hcell, hwz⟩
  · exact ⟨none, 0, 0, [], hcs, ⟨rfl, by decide, by decide, by simp, fun _ => ⟨rfl, rfl⟩, fun k hk => by omega⟩, by omega⟩
  · simp only [if_true] at hz
    rw [hx] at hb ⊢
    simp only [Rows.uptoBulk, bulk_lits, List.length_take, List.length_drop] at hb ⊢
    exact ⟨some ad, l, c, _, hcs, bytes_row ad rfl hl hz (by omega) hcell hwz, by omega⟩

set_option maxRecDepth 100000 in
theorem rec_bulk {H : Type} {enc : TypeId × Value → H} {W : World} {fuel : Nat} {cs : List Value} {x : DataW H × List MemPlace}
    (h2 : DataW.trod enc Tryd.prog W 0 (fun _ => true) true fuel 79 cs = some x) (hlen : cs.length = 2) (hb : Rows.uptoBulk x.1 ≤ 1048576) :
    ∃ p : JW, (Bts W p.a p.n p.c p.l ∧ p.l.length ≤ 1048576) ∧ cs = p.cells := by
  obtain ⟨xs, n, _, hx, _, hxl, hff⟩ := DataW.trod_struct Tryd.underlying79 h2
  match xs, hxl, cs, hlen with
  | [y0, y1], _, [v0, v1], _ =>
    have g0 := hff 0 _ rfl
    have g1 := hff 1 _ rfl
    simp [cellsI7, cellsBs] at g0 g1
    subst hx
    have hb1 := bulk_mem (d := y1.1) (ds := [y0, y1].map (·.1)) (by simp)
    have hb2 : Rows.uptoBulkAll ([y0, y1].map (·.1)) ≤ Rows.uptoBulk (H := H) (.agg ([y0, y1].map (·.1))) := by
      rw [Rows.uptoBulk]
      omega
    have hb3 : Rows.uptoBulk y1.1 ≤ 1048576 := Nat.le_trans (Nat.le_trans hb1 hb2) hb
    obtain ⟨z0, e0, _, b0⟩ := DataW.trod_int Tryd.underlying3 g0
    obtain ⟨a, m, c, l, e1, hB, hm⟩ := bytes_bulk g1 hb3
    simp only [List.cons.injEq, and_true] at e0 e1
    subst e0 e1
    exact ⟨⟨z0, a, m, c, l⟩, ⟨hB, by rw [hB.size]; omega⟩, rfl⟩

set_option maxRecDepth 100000 in
theorem lists_bulk {H : Type} {enc : TypeId × Value → H} {W : World} {fuel : Nat} {cs : List Value} {x : DataW H × List MemPlace}
    (hf : DataW.trod enc Tryd.prog W 0 (fun _ => true) true fuel 26 cs = some x) (hb : Rows.uptoBulk x.1 ≤ 1048576) :
    ∃ (a : Option Addr) (len cap : Nat) (rs : List JW) (ab : Option Addr) (nb cb : Nat) (B : List Nat) (at_ : Option Addr) (nt ct : Nat) (ts : List Int) (S : ByteArray),
      cs = [.slice a len cap, .slice ab nb cb, .slice at_ nt ct, .string S] ∧ Rcs JW.cells 2 W a len cap rs ∧ (∀ r ∈ rs, Bts W r.a r.n r.c r.l ∧ r.l.length ≤ 1048576) ∧ len ≤ 1048576 ∧ Bts W ab nb cb B ∧ nb ≤ 1048576 ∧
      Rcs (fun t : Int => [.int .i64 t]) 1 W at_ nt ct ts ∧ (∀ t ∈ ts, -9223372036854775808 ≤ t ∧ t ≤ 9223372036854775807) ∧ nt ≤ 1048576 ∧ S.size ≤ 1048576 := by
  obtain ⟨xs, n, _, hx, hcl, hxl, hff⟩ := DataW.trod_struct Tryd.underlying26 hf
  rw [cellsLs] at hcl
  match xs, hxl, cs, hcl with
  | [y0, y1, y2, y3], _, [v0, v1, v2, v3], _ =>
    have g0 := hff 0 _ rfl
    have g1 := hff 1 _ rfl
    have g2 := hff 2 _ rfl
    have g3 := hff 3 _ rfl
    simp [cellsRs, cellsBs, cellsIs, cellsS7] at g0 g1 g2 g3
    subst hx
    have hb2 : Rows.uptoBulkAll ([y0, y1, y2, y3].map (·.1)) ≤ Rows.uptoBulk (H := H) (.agg ([y0, y1, y2, y3].map (·.1))) := by
      rw [Rows.uptoBulk]
      omega
    have hbb : Rows.uptoBulkAll ([y0, y1, y2, y3].map (·.1)) ≤ 1048576 := Nat.le_trans hb2 hb
    have q0 : Rows.uptoBulk y0.1 ≤ 1048576 := Nat.le_trans (bulk_mem (by simp)) hbb
    have q1 : Rows.uptoBulk y1.1 ≤ 1048576 := Nat.le_trans (bulk_mem (by simp)) hbb
    have q2 : Rows.uptoBulk y2.1 ≤ 1048576 := Nat.le_trans (bulk_mem (by simp)) hbb
    have q3 : Rows.uptoBulk y3.1 ≤ 1048576 := Nat.le_trans (bulk_mem (by simp)) hbb
    haveI : Inhabited JW := ⟨⟨0, none, 0, 0, []⟩⟩
    obtain ⟨a, len, cap, rs, e0, hR, hok, hl⟩ := recs_open (f := JW.cells) (sz := 2) (OK := fun p => Bts W p.a p.n p.c p.l ∧ p.l.length ≤ 1048576) JW.len (by decide) Tryd.underlying22 cellsR2 g0 (fun n cs' y h2 hlen hy => rec_bulk h2 hlen (Nat.le_trans hy q0))
    obtain ⟨ab, nb, cb, B, e1, hB, hnb⟩ := bytes_bulk g1 q1
    obtain ⟨at_, nt, ct, ts, e2, hT, hokt, hnt⟩ := recs_open (f := fun t : Int => [.int .i64 t]) (sz := 1) (OK := fun t => -9223372036854775808 ≤ t ∧ t ≤ 9223372036854775807) (fun _ => rfl) (by decide) Tryd.underlying24 cellsI7 g2 (fun n cs' y h2 hlen hy => by
      obtain ⟨z, e, _, bz⟩ := DataW.trod_int Tryd.underlying3 h2
      have := bounds_i64 bz
      exact ⟨z, ⟨by omega, by omega⟩, e⟩)
    obtain ⟨z3, e3, x3, _⟩ := DataW.trod_string Tryd.underlying9 g3
    have h9 : z3.size + 1 ≤ Rows.uptoBulk y3.1 := by
      rw [x3]
      simp only [Rows.uptoBulk]
      exact Nat.le_refl _
    simp only [List.cons.injEq, and_true] at e0 e1 e2 e3
    subst e0 e1 e2 e3
    exact ⟨a, len, cap, rs, ab, nb, cb, B, at_, nt, ct, ts, z3, rfl, hR, hok, by omega, hB, by omega, hT, hokt, by omega, by omega⟩

theorem jroom_bound {rs : List JW} {k : Nat} (h : ∀ r ∈ rs, r.l.length ≤ k) : jroom rs ≤ rs.length * (k + 4) := by
  induction rs with
  | nil => exact Nat.zero_le _
  | cons r rs ih =>
    have h1 := ih (fun q hq => h q (List.mem_cons_of_mem _ hq))
    have h2 := h r (List.mem_cons_self ..)
    have e : jroom (r :: rs) = (r.l.length + 4) + jroom rs := by unfold jroom; rw [List.map_cons, List.sum_cons]
    rw [e, List.length_cons, Nat.add_mul]
    omega
end Go.Proofs.YtohoncgkekiihaaDoor
namespace Go.Proofs.YtohoncgkekiihaaDoor.wireMemory
open Go.ChangeShapes Go.WideShapes Go.ChangeAt Go.RowKit FerryCrc
set_option linter.unusedVariables false

theorem door_met (os : Os) (args : Array Value) : laidMetH Tryd.prog Rows.wireMemoryUptoRow.laid ((World.doorLaid Tryd.prog 396 os).forCall (fun _ _ => 0) ⟨#[], args, []⟩).memory :=
  laidMetH_of_parts3 (fuel := 8) (laidMet_of_run' 8 (by kernel_rfl) (by kernel_rfl)) (by kernel_rfl) (by kernel_rfl)
theorem reads (os : Os) {H : Type} (enc : TypeId × Value → H) : ∃ places, DataW.whole enc Tryd.prog ((World.doorLaid Tryd.prog 396 os).forCall (fun _ _ => 0) ⟨#[], #[.agg #[.slice none 0 0, .slice none 0 0, .slice none 0 0, .string ByteArray.empty]], []⟩).memory Tryd.f3.params.toList Rows.wireMemorySpec.vars false (#[.agg #[.slice none 0 0, .slice none 0 0, .slice none 0 0, .string ByteArray.empty]] : Array Value).toList 8 = some ([.agg [.nil, .nil, .nil, .lit (.string [])]], [], places) :=
  ⟨[], by kernel_rfl⟩

set_option maxRecDepth 100000 in
theorem lifted (os : Os) (started : os.Started) (H : Type) (enc : TypeId × Value → H) (FF : Stop.Interp) :
    ReturnsInHanded {} Tryd.checked os 3 .any ((Rows.OpenSpec.upto Rows.wireMemorySpec).preRow enc Tryd.prog Tryd.f3 Rows.wireMemoryUptoRow.domain false Rows.wireMemoryUptoRow.laid)
      (((Rows.OpenSpec.upto Rows.wireMemorySpec).at FF).post enc Tryd.prog Tryd.f3 false true false false) := by
  obtain ⟨places, hx⟩ := reads os enc
  refine returnsInHanded_of_row (C := Tryd.checked) (s := Rows.OpenSpec.upto Rows.wireMemorySpec) own started (by kernel_rfl) Tryd.func3
    (witness_row_atRef (enc := enc) (C := Tryd.checked) false (World.doorLaid Tryd.prog 396 os) #[.agg #[.slice none 0 0, .slice none 0 0, .slice none 0 0, .string ByteArray.empty]] rfl (by kernel_rfl) (by kernel_rfl) (by kernel_rfl)
      (OpenSpec.preRow_of_cond 8 hx (by kernel_rfl) (fun k hk => by cases hk; kernel_rfl) (by kernel_rfl) (door_met os _))) ?_
  intro W base args ds gs before hval0 hW _ hcond hsz0 hL _ _
  have hsz : (DataW.weightsEach Tryd.prog (Tryd.f3.params.toList ++ Rows.wireMemorySpec.plain.varTypes Tryd.prog) (ds ++ gs)).all (· ≤ reachBytes) = true := hsz0
  clear hsz0
  have hbulk : Rows.uptoBulkAll (ds ++ gs) ≤ 1048576 := of_decide_eq_true (hcond _ rfl)
  have hval : ∀ (j : Nat) t v, Tryd.f3.params[j]? = some t → args[j]? = some v → Value.okWide Tryd.prog W .any base t v := hval0
  have hW' := hW
  obtain ⟨p, q, hA0, hV, rfl, hfz, hnd⟩ := hW
  have hA : DataW.TrodAll enc Tryd.prog W 0 (fun _ => true) true Tryd.f3.params.toList args.toList ds p := hA0
  rw [Tryd.params3] at hA hval hsz
  obtain ⟨v0, vs0, d0, ds0, p0, q0, hargs, rfl, rfl, h0, r0⟩ := trodAll_cons hA
  obtain ⟨rfl, rfl, rfl⟩ := trodAll_nil r0
  obtain rfl : args = #[v0] := by cases args; simp_all
  obtain ⟨rfl, rfl⟩ := trodVars_none hV
  obtain ⟨cs0, rfl, _⟩ := okWide_struct Tryd.underlying26 (hval 0 26 v0 rfl rfl)
  have k0 := h0
  have lt0 : ∀ x ∈ p0, x.block < W.heap.size := by obtain ⟨m, hm⟩ := k0; exact DataW.trod_lt m _ _ _ hm
  have hb2 := hbulk
  simp only [List.append_nil, Rows.uptoBulkAll] at hb2
  obtain ⟨fuel, hf⟩ := h0
  obtain ⟨a, len, cap, rs, ab, nb, cb, B, at_, nt, ct, ts, S, hcs, hR, hok, hl, hB, hnb, hT, hokt, hnt, hS⟩ := lists_bulk hf (by show Rows.uptoBulk d0 ≤ _; omega)
  obtain rfl : cs0 = #[.slice a len cap, .slice ab nb cb, .slice at_ nt ct, .string S] := by cases cs0; simpa [Value.cells] using hcs
  clear hA0 hval0
  obtain ⟨E, hE⟩ := errs_of_laid (show laidMetH Tryd.prog allLaid W from hL)
  have hj := jroom_bound (rs := rs) (k := 1048576) (fun r hr => (hok r hr).2)
  have hlen := hR.size
  have hj2 : jroom rs ≤ 1048576 * 1048580 := Nat.le_trans hj (Nat.mul_le_mul (by omega) (by omega))
  refine (law a len cap rs ab nb cb B at_ nt ct ts S W hE hR (fun r hr => (hok r hr).1) hB hT (by omega) (by omega) (by omega) (by omega)).mono fun e W' ⟨he, bel⟩ => ?_
  subst he
  exact ⟨_, rfl, _, _, _, [], _, [], hW', trodAll_mk1 (shut_bool Tryd.underlying4 _), (trodAll_cons_mk (Below.trod laidOut (by kernel_rfl) (of_decide_eq_true (by kernel_rfl)) k0 bel lt0) trodAll_mk0), rfl, bel.frame _, fun h => by cases h⟩

theorem over : Rows.WireMemoryUptoSaid :=
  OpenClaim.holds_of_cond 3 Tryd.f3 rfl rfl rfl rfl rfl rfl rfl ⟨rfl, rfl, rfl, rfl, rfl⟩ rfl rfl rfl rfl rfl (by kernel_rfl) Tryd.func3 (by kernel_rfl)
    (of_decide_eq_true (by kernel_rfl)) (by unfold Func.isWrapper; first | (rw [if_pos (by decide +kernel)]; kernel_rfl) | (rw [if_neg (by decide +kernel)]; exact ⟨rfl, rfl⟩))
    (fun os started H enc _ FF => by rw [OpenClaim.pre_eq_preRow]; exact lifted os started H enc FF)

theorem types_plain : ∀ t ∈ Tryd.f3.params.toList, Tryd.prog.wantsStandIn t = false := by
  rw [Tryd.params3]
  intro t ht
  simp only [List.mem_cons, List.not_mem_nil, or_false] at ht
  rcases ht with rfl
  · exact (show Tryd.prog.wantsStandIn 26 = false by kernel_rfl)

end Go.Proofs.YtohoncgkekiihaaDoor.wireMemory
namespace Go.Proofs.YtohoncgkekiihaaDoor
theorem wireMemory_holds : Rows.WireMemoryUptoCardSaid :=
  Claim7.holds_tied_plain_at .later [] [.handle, .sentinel, .sentinel, .sentinel, .sentinel, .sentinel, .sentinel, .sentinel, .sentinel, .sentinel, .sentinel, .sentinel, .sentinel, .sentinel, .sentinel, .sentinel, .sentinel, .sentinel, .sentinel, .sentinel, .sentinel] true (true, "aa451382289686a188bd32e6e5d560ab90a348386f9da161c0ba588b75250550") true
    wireMemory.over (fun _ h => by cases h) (by kernel_rfl) (fun _ h => by cases h) wireMemoryUpto_row_tie rfl ⟨rfl, rfl⟩ (by kernel_rfl) rfl
    (fun f fn hf hfn => by
      obtain rfl : f = 3 := Option.some.inj ((show Tryd.prog.funcNamed "ferry/ferrylaw02.WireMemory" = some 3 by kernel_rfl).symm.trans hf) |>.symm
      obtain rfl : fn = Tryd.f3 := (Option.some.inj (Tryd.func3.symm.trans hfn)).symm
      exact ⟨by kernel_rfl, fun j t ht => wireMemory.types_plain t (by rw [Array.getElem?_eq_some_iff] at ht; obtain ⟨h1, h2⟩ := ht; rw [← h2]; simp)⟩)
    (by kernel_rfl)
#print axioms wireMemory_holds
end Go.Proofs.YtohoncgkekiihaaDoor
