/-
  Bytes of a text copied into a page (from PgIn and PgOut, for a seat without their calls).
  The errors that page.Make answers, as they lie in memory.
  Plans of pages: as memory holds them, and the pages that they make.
  Pages made of their plans: the program's Make.
-/
import Derived.Test.YteopkgjkbhcicaaDoorPgEq
import Derived.Test.YteopkgjkbhcicaaDoorRcs
import Derived.OwnWalk
import Derived.Laws.CopyOwn
import Derived.Laws.BytesArg
import Derived.Laws.IdiomStrings
import Derived.Laws.IdiomCopy
import Derived.Deep.RegionLaw
namespace Go.Proofs.YteopkgjkbhcicaaDoor
open Go.RowKit FerryCrc
set_option linter.unusedVariables false
set_option linter.unusedSimpArgs false

/-- Bytes as a string. -/
def str (l : List Nat) : ByteArray := ⟨(l.map UInt8.ofNat).toArray⟩
theorem size8' : (Tryd.prog.info? 5).map (·.size) = some 1 := by kernel_rfl
def pk (r : Int) : Pg := ⟨r, false, List.replicate 64 0⟩
theorem pk_ok (r : Int) (h1 : -9223372036854775808 ≤ r) (h2 : r ≤ 9223372036854775807) : (pk r).Ok := ⟨h1, h2, by show (List.replicate 64 0).length = 64; decide, by show ∀ c ∈ List.replicate 64 0, c < 256; decide⟩
/-- The bytes of a string. -/
def bytesOf (s : ByteArray) : List Nat := s.data.toList.map (·.toNat)
theorem bytesOf_lt (s : ByteArray) : ∀ c ∈ bytesOf s, c < 256 := by
  intro c hc
  obtain ⟨x, _, rfl⟩ := List.mem_map.1 hc
  exact x.toNat_lt
theorem str_bytesOf (s : ByteArray) : str (bytesOf s) = s := by
  obtain ⟨⟨l⟩⟩ := s
  simp [str, bytesOf, Function.comp_def]
theorem bytesOf_str {l : List Nat} (h : ∀ c ∈ l, c < 256) : bytesOf (str l) = l := by
  unfold bytesOf str
  simp only [List.map_map]
  rw [List.map_congr_left (g := id) (fun c hc => by have h2 := h c hc; show (UInt8.ofNat c).toNat = c; rw [UInt8.toNat_ofNat']; exact Nat.mod_eq_of_lt h2)]
  simp
theorem bytesOf_len (s : ByteArray) : (bytesOf s).length = s.size := by unfold bytesOf; rw [List.length_map]; rfl
theorem str_len (l : List Nat) : (str l).size = l.length := by simp [str, ByteArray.size]
theorem str_drop (D : List Nat) (k : Nat) : (str D).extract k D.length = str (D.drop k) := by
  apply ByteArray.ext
  rw [ByteArray.data_extract]
  apply Array.ext'
  simp only [str, Array.toList_extract, List.extract_eq_take_drop, List.map_drop]
  rw [List.take_of_length_le (by simp)]
/-- copy of a string's bytes into a row. -/
theorem run_copy_str {P : Program} (w : World) (dT sT ty elem : TypeId) (b o dLen dCap : Nat) (D : List Nat) (hD : ∀ c ∈ D, c < 256) (cs : List Value)
    (hu : P.underlying dT = some (.slice elem)) (hs : (P.info? elem).map (·.size) = some 1) (hcs : cs = (D.take dLen).map bv)
    (hc : ∀ j, j < cs.length → (w.cell? ⟨b, o + j, none⟩).isSome = true) (hf : ∀ j, j < cs.length → w.frozen? ⟨b, o + j, none⟩ = false) :
    (Builtin.copy_ #[dT, sT] ty #[.slice (some ⟨b, o, none⟩) dLen dCap, .string (str D)]).run P w = .ok (goInt cs.length) (w.setCells b o cs) := by
  have h1 : ∀ v ∈ cs, v.oneCell' = true := by rw [hcs]; exact bv_one _
  have hst := run_storeCells_cells (P := P) b o cs 0 w (by simpa using hc) (by simpa using hf) h1
  have hx : (((str D).extract 0 (Nat.min (str D).size dLen)).data.map fun b => Value.int .u8 (b.toNat : Int)).toList = cs := by
    rw [hcs, ByteArray.data_extract]
    simp only [str, Array.toList_map, Array.toList_extract, List.extract_eq_take_drop, List.drop_zero, Nat.sub_zero]
    rw [show (⟨(List.map UInt8.ofNat D).toArray⟩ : ByteArray).size = D.length by simp [ByteArray.size]]
    rw [← List.map_take, List.map_map]
    rw [show List.take (D.length.min dLen) D = D.take dLen by
      rcases Nat.le_total D.length dLen with h | h
      · rw [show D.length.min dLen = D.length from Nat.min_eq_left h, List.take_length, List.take_of_length_le h]
      · rw [show D.length.min dLen = dLen from Nat.min_eq_right h]]
    refine List.map_congr_left fun c hc => ?_
    have := hD c (List.mem_of_mem_take hc)
    show Value.int .u8 (((UInt8.ofNat c).toNat : Nat) : Int) = bv c
    rw [UInt8.toNat_ofNat', Nat.mod_eq_of_lt this]
    unfold bv
    rfl
  have hn : Nat.min (str D).size dLen = cs.length := by
    rw [hcs, List.length_map, List.length_take, str_len, Nat.min_comm]
  cases hq : P.info? elem with
  | none => simp [hq] at hs
  | some i =>
    have hi : i.size = 1 := by simpa [hq] using hs
    have hfc : Sem.run P (Builtin.firstCells i.size ((str D).size.min dLen) (Value.string (str D))) w = .ok (((str D).extract 0 (Nat.min (str D).size dLen)).data.map fun b => Value.int .u8 (b.toNat : Int)) w := rfl
    simp [Builtin.copy_, run_underlying hu, Builtin.lenOf, sizeOf, typeInfo, hq]
    rw [hfc, Result.andThen_ok, hx, hn]
    rw [Nat.add_zero] at hst
    rw [hst]
    rfl
/-- Several bytes stored into one page of one's own. -/
theorem POwn.bytes {base g n cap : Nat} {l : List Pg} {B : Nat → Nat} {D : Nat → Bool} (hn : l.length = n) (ok : Oks l) (hB : ∀ a, B a < 256) {q : Nat} (hq : q < l.length) :
    ∀ (c j : Nat) (w : World) (P : Nat → Bool), POwn w base (.slice (some ⟨g, 0, none⟩) n cap) (upd l P B D) → j + c ≤ 64 →
      (∀ i, i < c → (w.cell? ⟨g, q * 66 + 2 + j + i, none⟩).isSome = true ∧ w.frozen? ⟨g, q * 66 + 2 + j + i, none⟩ = false) ∧
      POwn (w.setCells g (q * 66 + 2 + j) ((List.range c).map fun i => bv (B (64 * q + j + i)))) base (.slice (some ⟨g, 0, none⟩) n cap) (upd l (fun a => P a || inR (64 * q + j) c a) B D) := by
  intro c
  induction c with
  | zero =>
    intro j w P ho hj
    refine ⟨fun i hi => by omega, ?_⟩
    have e : upd l (fun a => P a || inR (64 * q + j) 0 a) B D = upd l P B D := upd_congr ok (fun a _ => ⟨by rw [inR_zero, Bool.or_false], fun _ => rfl⟩) (fun _ _ => rfl)
    rw [e]
    exact ho
  | succ c ih =>
    intro j w P ho hj
    obtain ⟨⟨u, hc⟩, hf, hst⟩ := POwn.byte ho hn ok (fun a _ => hB a) hq (x := j) (by omega)
    obtain ⟨h1, h2⟩ := ih (j + 1) _ _ hst (by omega)
    refine ⟨fun i hi => ?_, ?_⟩
    · rcases Nat.eq_zero_or_pos i with rfl | hp
      · rw [Nat.add_zero, hc]
        exact ⟨rfl, hf⟩
      · obtain ⟨x, y⟩ := h1 (i - 1) (by omega)
        rw [show q * 66 + 2 + (j + 1) + (i - 1) = q * 66 + 2 + j + i by omega] at x y
        rw [World.frozen?_setCell] at y
        refine ⟨?_, y⟩
        rw [World.cell?_setCell_other _ _ _ _ (by intro e; simp only [Addr.mk.injEq, true_and, and_true] at e; omega)] at x
        exact x
    · rw [List.range_succ_eq_map, List.map_cons, List.map_map]
      show POwn ((w.setCell _ _).setCells g (q * 66 + 2 + j + 1) _) _ _ _
      have e : upd l (fun a => P a || inR (64 * q + j) (c + 1) a) B D = upd l (fun a => (P a || a == 64 * q + j) || inR (64 * q + (j + 1)) c a) B D := by
        refine upd_congr ok (fun a _ => ⟨?_, fun _ => rfl⟩) (fun _ _ => rfl)
        rw [Bool.or_assoc]
        congr 1
        rw [Bool.eq_iff_iff]
        simp only [inR, decide_eq_true_eq, Bool.or_eq_true, beq_iff_eq]
        omega
      rw [e]
      have e2 : ((fun i => bv (B (64 * q + j + i))) ∘ Nat.succ) = fun i => bv (B (64 * q + (j + 1) + i)) := funext fun i => by
        show bv (B (64 * q + j + (i + 1))) = _
        rw [show 64 * q + j + (i + 1) = 64 * q + (j + 1) + i by omega]
      rw [e2, show q * 66 + 2 + j + 1 = q * 66 + 2 + (j + 1) by omega]
      exact h2
/-- copy of a string's bytes, as one step of a region that draws. -/
theorem step_copy_str {P : Program} {ops : Array Oper} {o : Oper} {a : Act} {w : World} {K : Act → World → Prop} {Q : Exit → Act → World → Prop} {E : Prop} (hgd : o.guard = none) (d s : Operand) (dT sT : TypeId)
    (ho : o.op = .call { callee := .builtin .copy, args := #[d, s], argTypes := #[dT, sT] }) (elem : TypeId) (hu : P.underlying dT = some (.slice elem)) (hsz : (P.info? elem).map (·.size) = some 1)
    (b off dLen dCap : Nat) (D : List Nat) (hD : ∀ c ∈ D, c < 256) (hd : a.eval d = .slice (some ⟨b, off, none⟩) dLen dCap) (hs : a.eval s = .string (str D)) (cs : List Value) (hcs : cs = (D.take dLen).map bv)
    (hc : ∀ j, j < cs.length → (w.cell? ⟨b, off + j, none⟩).isSome = true) (hf : ∀ j, j < cs.length → w.frozen? ⟨b, off + j, none⟩ = false)
    (h : K (a.put o.dst (goInt cs.length)) (w.setCells b off cs)) :
    if Region.wanted o (yielded ops a.tmps) = true then Oper.wp P o a w K Q else E := by
  have hw : Region.wanted o (yielded ops a.tmps) = true := by simp [Region.wanted, hgd]
  rw [if_pos hw]
  have hrun := run_copy_str (P := P) w dT sT o.type elem b off dLen dCap D hD cs hu hsz hcs hc hf
  unfold Oper.wp
  simp [execOp, ho, resolve, invoke, builtin, hd, hs, hrun, Result.andThen]
  exact h
theorem below_setF {B g : Nat} {a : World} (hg : B ≤ g) : ∀ (vs : List Value) (o : Nat) (w : World), Below B a w → Below B a (w.setCells g o vs)
  | [], _, w, h => h
  | v :: r, o, w, h => below_setF hg r (o + 1) (w.setCell ⟨g, o, none⟩ v) (h.setCell (p := ⟨g, o, none⟩) hg v)
/-- The byte of D that lies at the address, where D lies from n on. -/
def datB (D : List Nat) (n a : Nat) : Nat := D.getD (a - n) 0
theorem datB_lt {D : List Nat} (h : ∀ c ∈ D, c < 256) (n a : Nat) : datB D n a < 256 := by
  unfold datB
  rw [List.getD_eq_getElem?_getD]
  cases hx : D[a - n]? with
  | none => simp
  | some c => exact h c (List.mem_of_getElem? hx)
theorem take_drop_bv {D : List Nat} {k c n m : Nat} (hc : c ≤ D.length - k) (hm : n + k = m) : ((D.drop k).take c).map bv = (List.range c).map fun i => bv (datB D n (m + i)) := by
  refine List.ext_getElem? fun i => ?_
  rw [List.getElem?_map, List.getElem?_map, List.getElem?_take, List.getElem?_drop]
  by_cases hi : i < c
  · rw [if_pos hi, List.getElem?_range hi, List.getElem?_eq_getElem (by omega)]
    simp only [Option.map_some, Option.some.injEq, datB]
    rw [show m + i - n = k + i by omega, List.getD_eq_getElem?_getD, List.getElem?_eq_getElem (by omega)]
    rfl
  · rw [if_neg hi, List.getElem?_eq_none (by simp; omega)]
    rfl
end Go.Proofs.YteopkgjkbhcicaaDoor
namespace Go.Proofs.YteopkgjkbhcicaaDoor
open Go.RowKit FerryCrc
set_option linter.unusedVariables false
set_option linter.unusedSimpArgs false

/-- A sentinel as an interface value. -/
def sent (a : Addr) : Value := .iface 108 (.pointer (some a))
theorem cell_below {w w' : World} {a : Addr} {v : Value} (h : w.cell? a = some v) (hb : Below w.heap.size w w') : w'.cell? a = some v := by
  rw [hb.cell (p := a) (block_lt_of_cell h)]
  exact h
structure Errs (w : World) (E : Nat → Addr) : Prop where
  v4 : w.cell? ⟨2, 0, none⟩ = some (sent (E 4))
  v5 : w.cell? ⟨3, 0, none⟩ = some (sent (E 5))
  v11 : w.cell? ⟨1, 0, none⟩ = some (sent (E 11))
theorem Errs.below {w w' : World} {E : Nat → Addr} (h : Errs w E) (hb : Below w.heap.size w w') : Errs w' E :=
  ⟨cell_below h.v4 hb, cell_below h.v5 hb, cell_below h.v11 hb⟩
def Bare (E : Nat → Addr) (v : Value) (i : Nat) : Prop := (v = .nilIface ∧ i = 0) ∨ (1 ≤ i ∧ i ≤ 20 ∧ v = sent (E i))
theorem bare_nil (E : Nat → Addr) : Bare E .nilIface 0 := .inl ⟨rfl, rfl⟩
theorem bare_sent (E : Nat → Addr) (i : Nat) (h1 : 1 ≤ i) (h2 : i ≤ 20) : Bare E (sent (E i)) i := .inr ⟨h1, h2, rfl⟩
def IsErr (w : World) (E : Nat → Addr) (v : Value) (i : Nat) (p : Int) : Prop :=
  (v = .nilIface ∧ i = 0 ∧ p = -1) ∨ (1 ≤ i ∧ i ≤ 20 ∧ v = sent (E i) ∧ p = -1) ∨
  (1 ≤ i ∧ i ≤ 20 ∧ ∃ b o, v = .iface 66 (.pointer (some ⟨b, o, none⟩)) ∧ w.cell? ⟨b, o, none⟩ = some (.int .i64 p) ∧ w.cell? ⟨b, o + 1, none⟩ = some (sent (E i)))
end Go.Proofs.YteopkgjkbhcicaaDoor
namespace Go.Proofs.YteopkgjkbhcicaaDoor
open Go.RowKit FerryCrc
set_option linter.unusedVariables false
set_option linter.unusedSimpArgs false

structure Pnv where
  rights : Int
  init : List Nat
structure Pnv.Ok (p : Pnv) : Prop where
  lo : -9223372036854775808 ≤ p.rights
  hi : p.rights ≤ 9223372036854775807
  small : ∀ c ∈ p.init, c < 256
  len : p.init.length ≤ 9223372036854775807
def Pnv.cells (p : Pnv) : List Value := [.int .i64 p.rights, .string (str p.init)]
theorem pnv2 (p : Pnv) : p.cells.length = 2 := rfl
/-- The number of the error of one plan. -/
def Pnv.bad (p : Pnv) : Nat := if p.rights < 0 ∨ 7 < p.rights then 4 else if 64 < p.init.length then 5 else 0
theorem Pnv.bad_is (p : Pnv) : ((p.rights < 0 ∨ 7 < p.rights) ∧ p.bad = 4) ∨ (0 ≤ p.rights ∧ p.rights ≤ 7 ∧ 64 < p.init.length ∧ p.bad = 5) ∨ (0 ≤ p.rights ∧ p.rights ≤ 7 ∧ p.init.length ≤ 64 ∧ p.bad = 0) := by
  unfold Pnv.bad
  split
  · exact .inl ⟨by assumption, rfl⟩
  · split
    · exact .inr (.inl ⟨by omega, by omega, by assumption, rfl⟩)
    · exact .inr (.inr ⟨by omega, by omega, by omega, rfl⟩)
def Pnv.page (p : Pnv) : Pg := ⟨p.rights, false, p.init ++ List.replicate (64 - p.init.length) 0⟩
theorem Pnv.page_ok {p : Pnv} (h : p.Ok) (hb : p.bad = 0) : p.page.Ok := by
  have h1 := p.bad_is
  refine ⟨h.lo, h.hi, ?_, ?_⟩
  · show (p.init ++ List.replicate (64 - p.init.length) 0).length = 64
    simp
    omega
  · show ∀ c ∈ p.init ++ List.replicate (64 - p.init.length) 0, c < 256
    intro c hc
    rcases List.mem_append.1 hc with hc | hc
    · exact h.small c hc
    · rw [(List.mem_replicate.1 hc).2]
      decide
def firstBad (l : List Pnv) : Option Nat := l.findIdx? fun p => p.bad != 0
/-- The number of Make's error and its place; the pages. -/
def mkE (l : List Pnv) : Nat × Int :=
  if 32 < l.length then (11, -1)
  else match firstBad l with
    | some i => (((l[i]?).map Pnv.bad).getD 0, (i : Int))
    | none => (0, -1)
def mkL (l : List Pnv) : List Pg := if (mkE l).1 = 0 then l.map Pnv.page else []
theorem mkE_big {l : List Pnv} (h : 32 < l.length) : mkE l = (11, -1) := by unfold mkE; rw [if_pos h]
theorem firstBad_at {l : List Pnv} {k : Nat} {p : Pnv} (hp : l[k]? = some p) (hb : ¬ p.bad = 0) (h : ∀ j q, j < k → l[j]? = some q → q.bad = 0) : firstBad l = some k := by
  obtain ⟨hk, e⟩ := List.getElem?_eq_some_iff.1 hp
  refine List.findIdx?_eq_some_iff_getElem.2 ⟨hk, by rw [e]; simpa using hb, fun j hj => ?_⟩
  have := h j _ hj (List.getElem?_eq_getElem (by omega))
  simpa using this
theorem firstBad_no {l : List Pnv} (h : ∀ j q, j < l.length → l[j]? = some q → q.bad = 0) : firstBad l = none := by
  refine List.findIdx?_eq_none_iff.2 fun p hp => ?_
  obtain ⟨j, hj⟩ := List.mem_iff_getElem?.1 hp
  have := h j p (List.getElem?_eq_some_iff.1 hj).1 hj
  simpa using this
theorem mkE_at {l : List Pnv} (h : ¬ 32 < l.length) {k : Nat} {p : Pnv} (hp : l[k]? = some p) (hb : ¬ p.bad = 0) (hj : ∀ j q, j < k → l[j]? = some q → q.bad = 0) : mkE l = (p.bad, (k : Int)) := by
  unfold mkE
  rw [if_neg h, firstBad_at hp hb hj]
  simp [hp]
theorem mkE_no {l : List Pnv} (h : ¬ 32 < l.length) (hj : ∀ j q, j < l.length → l[j]? = some q → q.bad = 0) : mkE l = (0, -1) := by
  unfold mkE
  rw [if_neg h, firstBad_no hj]
theorem mkL_bad {l : List Pnv} (h : ¬ (mkE l).1 = 0) : mkL l = [] := by unfold mkL; rw [if_neg h]
theorem mkL_no {l : List Pnv} (h : (mkE l).1 = 0) : mkL l = l.map Pnv.page := by unfold mkL; rw [if_pos h]
theorem mkE_good {l : List Pnv} (h : (mkE l).1 = 0) : l.length ≤ 32 ∧ ∀ p ∈ l, p.bad = 0 := by
  unfold mkE at h
  by_cases hl : 32 < l.length
  · rw [if_pos hl] at h; simp at h
  · rw [if_neg hl] at h
    refine ⟨by omega, fun p hp => ?_⟩
    cases hf : firstBad l with
    | none =>
      have := List.findIdx?_eq_none_iff.1 hf p hp
      simpa using this
    | some i =>
      rw [hf] at h
      obtain ⟨hi, h1, _⟩ := List.findIdx?_eq_some_iff_getElem.1 hf
      have e : l[i]? = some l[i] := List.getElem?_eq_getElem hi
      simp only [e, Option.map_some, Option.getD_some] at h
      simp at h1
      exact absurd h h1
theorem mkL_ok {l : List Pnv} (ok : ∀ p ∈ l, p.Ok) : Oks (mkL l) := by
  by_cases h : (mkE l).1 = 0
  · rw [mkL_no h]
    intro p hp
    obtain ⟨q, hq, rfl⟩ := List.mem_map.1 hp
    exact Pnv.page_ok (ok q hq) ((mkE_good h).2 q hq)
  · rw [mkL_bad h]
    intro p hp
    simp at hp
theorem mkL_len (l : List Pnv) : (mkL l).length ≤ 32 := by
  by_cases h : (mkE l).1 = 0
  · rw [mkL_no h, List.length_map]
    exact (mkE_good h).1
  · rw [mkL_bad h]; simp

/-- The first k pages made, the others zero. -/
def madeK (l : List Pnv) (k : Nat) : List Pg := (l.take k).map Pnv.page ++ List.replicate (l.length - k) (pk 0)
theorem madeK_len (l : List Pnv) {k : Nat} (h : k ≤ l.length) : (madeK l k).length = l.length := by simp [madeK]; omega
theorem madeK_ok {l : List Pnv} (ok : ∀ p ∈ l, p.Ok) {k : Nat} (h : ∀ j q, j < k → l[j]? = some q → q.bad = 0) : Oks (madeK l k) := by
  intro p hp
  rcases List.mem_append.1 hp with hp | hp
  · obtain ⟨q, hq, rfl⟩ := List.mem_map.1 hp
    obtain ⟨j, hj⟩ := List.mem_iff_getElem?.1 hq
    rw [List.getElem?_take] at hj
    split at hj
    · exact Pnv.page_ok (ok q (List.mem_of_getElem? hj)) (h j q (by assumption) hj)
    · simp at hj
  · rw [(List.mem_replicate.1 hp).2]
    exact pk_ok 0 (by decide) (by decide)
theorem madeK_at {l : List Pnv} {k : Nat} (h : k < l.length) : (madeK l k)[k]? = some (pk 0) := by
  have hlt : ((l.take k).map Pnv.page).length = k := by simp; omega
  unfold madeK
  rw [List.getElem?_append_right (by omega), hlt, Nat.sub_self, List.getElem?_replicate, if_pos (by omega)]
theorem madeK_set {l : List Pnv} {k : Nat} {p : Pnv} (hp : l[k]? = some p) : (madeK l k).set k p.page = madeK l (k + 1) := by
  have hk : k < l.length := (List.getElem?_eq_some_iff.1 hp).1
  have hlt : ((l.take k).map Pnv.page).length = k := by simp; omega
  unfold madeK
  rw [List.set_append_right _ _ (by omega), hlt, Nat.sub_self, List.take_add_one, hp]
  rw [show l.length - k = (l.length - (k + 1)) + 1 by omega, List.replicate_succ]
  simp
theorem madeK_full (l : List Pnv) : madeK l l.length = l.map Pnv.page := by simp [madeK]
theorem cells_rights (p : Pg) (r : Int) : Pg.cells ⟨r, p.dirty, p.data⟩ = p.cells.set 0 (.int .i64 r) := by simp [Pg.cells, Pg.row]
theorem upd_page {l : List Pg} (ok : Oks l) {q : Nat} {p : Pg} (hp : l[q]? = some p) (D : List Nat) (hD : D.length ≤ 64) :
    upd l (fun a => false || inR (64 * q) D.length a) (datB D (64 * q)) (fun _ => false) = l.set q ⟨p.rights, p.dirty, D ++ p.data.drop D.length⟩ := by
  have hq : q < l.length := (List.getElem?_eq_some_iff.1 hp).1
  refine List.ext_getElem? fun r => ?_
  rw [List.getElem?_set, upd_get]
  by_cases e : q = r
  · subst e
    rw [if_pos rfl, if_pos hq, hp]
    simp only [Option.map_some, Option.some.injEq]
    have h64 := (ok p (List.mem_of_getElem? hp)).size
    refine pg_ext rfl (by simp [Pg.upd]) ?_
    show patch _ _ _ = _
    refine List.ext_getElem? fun x => ?_
    rw [patch_get, List.getElem?_append]
    by_cases hx : x < D.length
    · rw [if_pos hx, List.getElem?_eq_getElem (by omega), List.getElem?_eq_getElem hx]
      have hi : (false || inR (64 * q) D.length (64 * q + x)) = true := by simp [inR]; omega
      simp only [Option.map_some, hi, if_true, datB]
      rw [show 64 * q + x - 64 * q = x by omega, List.getD_eq_getElem?_getD, List.getElem?_eq_getElem hx]
      rfl
    · rw [if_neg hx, List.getElem?_drop, show D.length + (x - D.length) = x by omega]
      have hi : (false || inR (64 * q) D.length (64 * q + x)) = false := by simp [inR]; omega
      simp only [hi]
      cases p.data[x]? <;> simp
  · rw [if_neg e]
    cases hr : l[r]? with
    | none => rfl
    | some p' =>
      simp only [Option.map_some, Option.some.injEq]
      have h64 := (ok p' (List.mem_of_getElem? hr)).size
      refine pg_ext rfl (by simp [Pg.upd]) ?_
      show patch _ _ _ = _
      refine List.ext_getElem? fun x => ?_
      rw [patch_get]
      by_cases hx : x < 64
      · have hi : (false || inR (64 * q) D.length (64 * r + x)) = false := by simp [inR]; omega
        simp only [hi]
        cases p'.data[x]? <;> simp
      · rw [List.getElem?_eq_none (by omega)]; rfl
theorem made_pages (z : Array Value) (hz : z = (pk 0).cells.toArray) (n : Nat) : (madeCells z (n * 66)).toList = flat (List.replicate n (pk 0)) := by
  subst hz
  have ok : (pk 0).cells.length = 66 := (pk_ok 0 (by decide) (by decide)).cells
  have okr : Oks (List.replicate n (pk 0)) := fun p hp => by rw [(List.mem_replicate.1 hp).2]; exact pk_ok 0 (by decide) (by decide)
  refine List.ext_getElem? fun j => ?_
  by_cases hj : j < n * 66
  · have hk : j / 66 < n := by omega
    have h1 := flat_get okr (k := j / 66) (p := pk 0) (j % 66) (by rw [List.getElem?_replicate, if_pos hk]) (by omega)
    rw [show j / 66 * 66 + j % 66 = j by omega] at h1
    have hl : j % 66 < (pk 0).cells.length := by omega
    have h2 : (pk 0).cells[j % 66]? = some (pk 0).cells[j % 66] := List.getElem?_eq_getElem hl
    rw [h1, h2]
    simp [madeCells, hj, ok]
    rw [h2]
    rfl
  · rw [List.getElem?_eq_none (by simp [madeCells]; omega), List.getElem?_eq_none (by rw [flat_len okr]; simp; omega)]
end Go.Proofs.YteopkgjkbhcicaaDoor
namespace Go.Proofs.YteopkgjkbhcicaaDoor
open Go.RowKit FerryCrc
set_option linter.unusedVariables false
set_option linter.unusedSimpArgs false

theorem at_err {w : World} {E : Nat → Addr} {i : Nat} {p : Int} (h1 : 1 ≤ i) (h2 : i ≤ 20) (t : TypeId) : IsErr (w.alloc (.cells #[.int .i64 p, sent (E i)] t)) E (.iface 66 (.pointer (some ⟨w.heap.size, 0, none⟩))) i p :=
  .inr (.inr ⟨h1, h2, w.heap.size, 0, rfl, by rw [World.cell?_alloc_at _ _ _ _ rfl]; rfl, by rw [World.cell?_alloc_at _ _ _ _ rfl]; rfl⟩)

theorem bare_is {E : Nat → Addr} {i : Nat} (j : Nat) (h : i = j) (h1 : 1 ≤ j) (h2 : j ≤ 20) : Bare E (sent (E j)) i := h ▸ bare_sent E j h1 h2
theorem bare_no {E : Nat → Addr} {i : Nat} (h : i = 0) : Bare E .nilIface i := h ▸ bare_nil E
theorem zeroPg {i : TypeInfo} {z : Value} (hi : Tryd.prog.info? 47 = some i) (hz : i.zero = some z) : z.cells = (pk 0).cells.toArray := by
  have h : (Tryd.prog.info? 47).map (fun i => i.zero.map (·.cells)) = some (some (pk 0).cells.toArray) := by kernel_rfl
  rw [hi] at h
  simp only [Option.map_some, hz, Option.some.injEq] at h
  exact h

set_option maxRecDepth 100000 in
theorem pcheck_any {w : World} {E : Nat → Addr} (he : Errs w E) (p : Pnv) (hp : p.Ok) :
    Calls Tryd.prog 22 #[.agg #[.int .i64 p.rights, .string (str p.init)]] w fun e w' => ∃ v, e = .returned v ∧ Bare E v p.bad ∧ Below w.heap.size w w' := by
  have HB := hide p.bad_is
  have hsz : (str p.init).size = p.init.length := str_len p.init
  have hN := hp.len
  have D0 := hide ((Below.refl w.heap.size w).alloc (Nat.le_refl _) (.cells #[.int .i64 p.rights, .string (str p.init)] 55))
  have HE := hide he
  clear he hp
  generalize p.rights = r at *
  generalize str p.init = S at *
  generalize p.init.length = N at *
  generalize p.bad = bd at *
  have v4 := (HE.out.below D0.out).v4
  have v5 := (HE.out.below D0.out).v5
  go_enter Tryd.func22, Tryd.ntmps22
  go_wp2
  all_goals go_ret
  all_goals refine ⟨_, rfl, ?_, D0.out⟩
  all_goals (have hp := HB.out; (try simp only [beq_iff_eq, beq_eq_false_iff_ne, bne_iff_ne, ne_eq, bne_eq_false_iff_eq, decide_eq_true_eq, decide_eq_false_iff_not, Bool.and_eq_true, Bool.or_eq_true, Bool.or_eq_false_iff, Bool.not_eq_true, Bool.not_eq_false, Bool.not_eq_true', Bool.not_eq_false'] at *); first | exact bare_is 4 (by omega) (by decide) (by decide) | exact bare_is 5 (by omega) (by decide) (by decide) | exact bare_no (by omega))

set_option maxRecDepth 100000 in
set_option maxHeartbeats 4000000 in
theorem make_any {w : World} {E : Nat → Addr} (he : Errs w E) (a : Option Addr) (len cap : Nat) (l : List Pnv) (hs : Rcs Pnv.cells 2 w a len cap l) (ok : ∀ p ∈ l, p.Ok) (hm : len ≤ 9223372036854775807) :
    Calls Tryd.prog 15 #[.slice a len cap] w fun e w' => ∃ x v, e = .returned (.tuple #[x, v]) ∧ IsErr w' E v (mkE l).1 (mkE l).2 ∧ POwn w' w.heap.size x (mkL l) ∧ Below w.heap.size w w' := by
  have HE := hide he
  have HS := hide hs
  have hl := hs.size
  have OK := hide ok
  have HI := hide infoPage
  clear he hs ok
  by_cases hb : 32 < len
  · have HA := hide (mkE_big (l := l) (by omega))
    have HL := hide (mkL_bad (l := l) (by rw [HA.out]; decide))
    have v11 := HE.out.v11
    have hd : decide (32 < (len : Int)) = true := decide_eq_true (by omega)
    go_enter Tryd.func15, Tryd.ntmps15
    go_wp2
    go_quiet (fail)
    go_wp2
    go_ret2
    exact ⟨_, _, rfl, by rw [HA.out]; exact .inr (.inl ⟨by decide, by decide, rfl, rfl⟩), by rw [HL.out]; exact pown_nil _ _, drewN_below (Below.refl _ _) nq⟩
  have hd : decide (32 < (len : Int)) = false := decide_eq_false (by omega)
  go_enter Tryd.func15, Tryd.ntmps15
  go_wp2_with (obtain ⟨i, z, hi, hz, hsz, hby, hzs⟩ := HI.out; refine wpList_make_full w rfl (.tmp 13) (.tmp 13) 22 rfl w.heap.size 47 i z 66 Tryd.underlying22 hi hz hsz .i64 .i64 (len : Int) (len : Int) len rfl rfl rfl rfl (by rw [hby]; omega) (by unfold maxLen; omega) (Nat.le_refl _) ?_; have hzp := zeroPg hi hz; clear hi hz hsz hby hzs; intro w1 ho1 hg1; rw [made_pages _ hzp] at ho1; clear hzp)
  have hb1 : Below w.heap.size w w1 := (Below.refl _ _).grown hg1 (Nat.le_refl _) (fun k hk => by simp at hk)
  have hsz1 : w.heap.size < w1.heap.size := by
    rcases ho1.2 with ⟨e, _⟩ | ⟨g', cap', cur, e, hg, hh, _⟩
    · simp at e
    · simp only [Value.slice.injEq, Option.some.injEq, Addr.mk.injEq, and_true] at e
      obtain ⟨rfl, _⟩ := e
      exact (Array.getElem?_eq_some_iff.1 hh).1
  have O1 : Hid (POwn w1 w.heap.size (.slice (some ⟨w.heap.size, 0, none⟩) len len) (madeK l 0)) := by
    unfold Hid POwn
    rw [madeK_len l (Nat.zero_le _), hl]
    simpa [madeK, hl] using ho1
  have D1 := hide hb1
  clear ho1 hg1 hb1
  go_wp2
  go_loopw [17] (fun i wr => ∃ k : Nat, k ≤ len ∧ i = .int .i64 (k : Int) ∧ w.heap.size < wr.heap.size ∧ Hid (∀ j q, j < k → l[j]? = some q → q.bad = 0) ∧ Hid (POwn wr w.heap.size (.slice (some ⟨w.heap.size, 0, none⟩) len len) (madeK l k)) ∧ Hid (Below w.heap.size w wr)) (fun i _ => len - (intOf i).toNat)
  case atStart => exact ⟨0, by omega, rfl, hsz1, fun j q hj => by omega, O1.out, D1.out⟩
  case round =>
    obtain ⟨k, hk, rfl, hwr, hall, hown, hbl⟩ := hrel
    by_cases hlt : k < len
    · obtain ⟨p, hp⟩ : ∃ p, l[k]? = some p := ⟨_, List.getElem?_eq_getElem (by rw [hl]; exact hlt)⟩
      obtain ⟨b, off, rfl, hr⟩ := (HS.out.below hbl.out).at pnv2 (by decide) hp
      have HP := hide hp
      have OKP := hide (OK.out p (List.mem_of_getElem? hp))
      have r0 := hr 0 _ rfl
      have r1 := hr 1 _ rfl
      simp only [Nat.add_zero] at r0
      clear hr hp
      have T1 := hide (two_alloc wr (.int .i64 p.rights) (.string (str p.init)) 55)
      have B1 := hide ((Below.refl wr.heap.size wr).alloc (Nat.le_refl _) (.cells #[.int .i64 p.rights, .string (str p.init)] 55))
      go_wp2_with fail
      generalize wr.alloc (.cells #[.int .i64 p.rights, .string (str p.init)] 55) = W1 at *
      refine Calls.mono (pcheck_any (HE.out.below (chain hbl.out B1.out)) p OKP.out) ?_
      rintro e w2 ⟨v, rfl, hv, b2⟩
      have T2 := hide (T1.out.below b2)
      have B2 := hide (chain B1.out b2)
      have D2 := hide (chain hbl.out B2.out)
      clear b2 T1 B1 r0 r1
      rcases hv with ⟨rfl, h0⟩ | ⟨h1, h2, rfl⟩
      · have O2 := hide (hown.out.below B2.out)
        have okk := madeK_ok OK.out hall.out
        have hmk := madeK_at (l := l) (k := k) (by rw [hl]; exact hlt)
        have hlk : (madeK l k).length = len := by rw [madeK_len l (by rw [hl]; exact hk)]; exact hl
        obtain ⟨hc, hf⟩ := O2.out.cellOf hlk okk hmk (j := 0) (by decide)
        have hst := POwn.stored (q := ⟨p.rights, false, List.replicate 64 0⟩) (u := .int .i64 p.rights) (by rw [hlk]; exact O2.out) okk hmk (show 0 < 66 by decide) (cells_rights (pk 0) p.rights)
        rw [hlk] at hst
        simp only [Nat.add_zero] at hc hf hst
        have hc2 : w2.cell? ⟨w.heap.size, k * 66, none⟩ = some (.int .i64 0) := hc
        have okL : Oks ((madeK l k).set k ⟨p.rights, false, List.replicate 64 0⟩) := by
          intro x hx
          rcases List.mem_or_eq_of_mem_set hx with hx | rfl
          · exact okk x hx
          · exact ⟨OKP.out.lo, OKP.out.hi, by show (List.replicate 64 0).length = 64; simp, by show ∀ c ∈ List.replicate 64 0, c < 256; decide⟩
        have hi64 : p.init.length ≤ 64 := by have := p.bad_is; omega
        have T3 := hide (T2.out.far (b' := w.heap.size) (o := k * 66) (u := .int .i64 p.rights) (by omega))
        have D3 := hide (D2.out.setCell (p := ⟨w.heap.size, k * 66, none⟩) (Nat.le_refl _) (.int .i64 p.rights))
        have hz3 : w.heap.size < (w2.setCell ⟨w.heap.size, k * 66, none⟩ (.int .i64 p.rights)).heap.size := by have := B2.out.size; simp; omega
        have hgetL : ((madeK l k).set k ⟨p.rights, false, List.replicate 64 0⟩)[k]? = some ⟨p.rights, false, List.replicate 64 0⟩ := by
          rw [List.getElem?_set, if_pos rfl, if_pos (by rw [hlk]; exact hlt)]
        have hlL : ((madeK l k).set k ⟨p.rights, false, List.replicate 64 0⟩).length = len := by rw [List.length_set]; exact hlk
        have HU := hide (upd_page okL hgetL p.init hi64)
        have HSET : Hid (((madeK l k).set k ⟨p.rights, false, List.replicate 64 0⟩).set k ⟨p.rights, false, p.init ++ (List.replicate 64 0).drop p.init.length⟩ = madeK l (k + 1)) := by
          unfold Hid
          rw [List.set_set, ← madeK_set HP.out, List.drop_replicate]
          rfl
        have HST := hide hst
        have HOKL := hide okL
        have t0 := T2.out.c0
        clear hst okL okk hmk hgetL hc
        go_wp2_with fail
        generalize w2.setCell ⟨w.heap.size, k * 66, none⟩ (.int .i64 p.rights) = W3 at *
        have t1 := T3.out.c1
        obtain ⟨hcf, hsb⟩ := POwn.bytes (q := k) (B := datB p.init (64 * k)) (D := fun _ => false) hlL HOKL.out (datB_lt OKP.out.small (64 * k)) (by rw [hlL]; exact hlt) p.init.length 0 W3.drew (fun _ => false) (by rw [upd_none]; exact World.ownsRow.drew HST.out) (by omega)
        simp only [Nat.add_zero] at hcf hsb
        rw [HU.out, HSET.out] at hsb
        have hcs : (p.init.take 64).map bv = (List.range p.init.length).map fun i => bv (datB p.init (64 * k) (64 * k + i)) := by
          rw [List.take_of_length_le hi64]
          have h9 := take_drop_bv (D := p.init) (k := 0) (c := p.init.length) (n := 64 * k) (m := 64 * k) (by omega) (by omega)
          rw [List.drop_zero, List.take_length] at h9
          exact h9
        have HSB := hide hsb
        have HCF := hide hcf
        have HCS := hide hcs
        have HB4 := hide (below_setF (Nat.le_refl w.heap.size) ((List.range p.init.length).map fun i => bv (datB p.init (64 * k) (64 * k + i))) (k * 66 + 2) W3.drew D3.out.drew)
        have hq1 : (k : Int) < (len : Int) := by omega
        clear hsb hcf hcs HST HU HSET hc2 hf t0 T2
        go_region_law (refine step_copy_str rfl (.tmp 41) (.tmp 43) 69 9 rfl 5 Tryd.underlying69 size8' w.heap.size (k * 66 + 2) 64 64 p.init OKP.out.small (by simp [Act.eval, Act.put]) (by simp [Act.eval, Act.put]) ((List.range p.init.length).map fun i => bv (datB p.init (64 * k) (64 * k + i))) HCS.out.symm (fun i hi => (HCF.out i (by simpa using hi)).1) (fun i hi => (HCF.out i (by simpa using hi)).2) ?_)
        have hz4 : w.heap.size < (W3.drew.setCells w.heap.size (k * 66 + 2) ((List.range p.init.length).map fun i => bv (datB p.init (64 * k) (64 * k + i)))).heap.size := Nat.lt_of_lt_of_le hz3 (below_setF (Nat.le_refl w.heap.size) _ (k * 66 + 2) W3.drew (Below.refl _ _)).size
        generalize W3.drew.setCells w.heap.size (k * 66 + 2) ((List.range p.init.length).map fun i => bv (datB p.init (64 * k) (64 * k + i))) = w4 at *
        (try simp only [Act.put, List.getElem_toArray, List.getElem_cons_succ, List.getElem_cons_zero, List.setIfInBounds_toArray, List.set_cons_succ, List.set_cons_zero])
        go_wp2
        go_roundw
        case rel =>
          refine ⟨k + 1, by omega, by go_num, hz4, fun j q hj hq => ?_, HSB.out, HB4.out⟩
          by_cases e : j = k
          · subst e
            rw [HP.out] at hq
            obtain rfl := Option.some.inj hq
            exact h0
          · exact hall.out j q (by omega) hq
        case measure => simp [intOf]; omega
      · have HA := hide (mkE_at (l := l) (by rw [hl]; omega) HP.out (by omega) hall.out)
        have HL := hide (mkL_bad (l := l) (by rw [HA.out]; show ¬ p.bad = 0; omega))
        generalize hbd : p.bad = bd at *
        unfold sent
        go_wp2
        go_ret2
        exact ⟨_, _, rfl, by rw [HA.out]; exact at_err h1 h2 _, by rw [HL.out]; exact pown_nil _ _, chain D2.out ((Below.refl _ _).alloc (Nat.le_refl _) _)⟩
    · obtain rfl : k = len := by omega
      have HA := hide (mkE_no (l := l) (by rw [hl]; omega) (fun j q hj hq => hall.out j q (by rw [← hl]; exact hj) hq))
      have HL : Hid (mkL l = madeK l k) := by
        unfold Hid
        rw [mkL_no (by rw [HA.out]), ← hl, madeK_full]
      go_wp2
      go_ret2
      refine ⟨_, _, rfl, by rw [HA.out]; exact .inl ⟨rfl, rfl, rfl⟩, ?_, hbl.out⟩
      rw [HL.out]
      exact hown.out
end Go.Proofs.YteopkgjkbhcicaaDoor
