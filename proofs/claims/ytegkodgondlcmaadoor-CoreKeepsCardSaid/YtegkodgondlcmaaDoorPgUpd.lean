/-
  Pages changed: bytes at addresses, marks of pages; as lists.
  The program's Copy: make and copy of whole pages.
-/
import Derived.Test.YtegkodgondlcmaaDoorPgLoad2
namespace Go.Proofs.YtegkodgondlcmaaDoor
open Go.RowKit FerryCrc
set_option linter.unusedVariables false

/-- A row of bytes with some of them put anew. -/
def patch (d : List Nat) (P : Nat → Bool) (B : Nat → Nat) : List Nat := d.mapIdx fun x c => if P x then B x else c
theorem patch_len (d : List Nat) (P : Nat → Bool) (B : Nat → Nat) : (patch d P B).length = d.length := by simp [patch]
theorem patch_get (d : List Nat) (P : Nat → Bool) (B : Nat → Nat) (x : Nat) : (patch d P B)[x]? = (d[x]?).map fun c => if P x then B x else c := by simp [patch]
/-- A page with some bytes put anew, and its mark. -/
def Pg.upd (p : Pg) (P : Nat → Bool) (B : Nat → Nat) (D : Bool) : Pg := ⟨p.rights, p.dirty || D, patch p.data P B⟩
/-- Pages with the bytes at some addresses put anew, and some pages marked. -/
def upd (l : List Pg) (P : Nat → Bool) (B : Nat → Nat) (D : Nat → Bool) : List Pg := l.mapIdx fun q p => p.upd (fun x => P (64 * q + x)) (fun x => B (64 * q + x)) (D q)

theorem upd_len (l : List Pg) (P : Nat → Bool) (B : Nat → Nat) (D : Nat → Bool) : (upd l P B D).length = l.length := by simp [upd]
theorem upd_get (l : List Pg) (P : Nat → Bool) (B : Nat → Nat) (D : Nat → Bool) (q : Nat) : (upd l P B D)[q]? = (l[q]?).map fun p => p.upd (fun x => P (64 * q + x)) (fun x => B (64 * q + x)) (D q) := by simp [upd]
theorem pg_ext {p q : Pg} (h1 : p.rights = q.rights) (h2 : p.dirty = q.dirty) (h3 : p.data = q.data) : p = q := by
  cases p; cases q; simp_all
theorem patch_congr {d : List Nat} {P P' : Nat → Bool} {B B' : Nat → Nat} (h : ∀ x, x < d.length → P x = P' x ∧ (P x = true → B x = B' x)) : patch d P B = patch d P' B' := by
  refine List.ext_getElem? fun x => ?_
  rw [patch_get, patch_get]
  by_cases hx : x < d.length
  · obtain ⟨h1, h2⟩ := h x hx
    rw [List.getElem?_eq_getElem hx]
    simp only [Option.map_some, Option.some.injEq, ← h1]
    split
    · exact h2 (by assumption)
    · rfl
  · rw [List.getElem?_eq_none (by omega)]; rfl
theorem upd_congr {l : List Pg} {P P' : Nat → Bool} {B B' : Nat → Nat} {D D' : Nat → Bool} (hl : Oks l) (h : ∀ a, a / 64 < l.length → P a = P' a ∧ (P a = true → B a = B' a)) (hD : ∀ q, q < l.length → D q = D' q) : upd l P B D = upd l P' B' D' := by
  refine List.ext_getElem? fun q => ?_
  rw [upd_get, upd_get]
  by_cases hq : q < l.length
  · rw [List.getElem?_eq_getElem hq]
    simp only [Option.map_some, Option.some.injEq]
    have ok := hl _ (List.getElem_mem hq)
    refine pg_ext rfl ?_ ?_
    · simp [Pg.upd, hD q hq]
    · exact patch_congr fun x hx => h (64 * q + x) (by rw [ok.size] at hx; omega)
  · rw [List.getElem?_eq_none (by omega)]; rfl
theorem upd_none (l : List Pg) (B : Nat → Nat) : upd l (fun _ => false) B (fun _ => false) = l := by
  refine List.ext_getElem? fun q => ?_
  rw [upd_get]
  cases l[q]? with
  | none => rfl
  | some p =>
    simp only [Option.map_some, Option.some.injEq]
    refine pg_ext rfl (by simp [Pg.upd]) ?_
    refine List.ext_getElem? fun x => ?_
    show (patch _ _ _)[x]? = _
    rw [patch_get]
    cases p.data[x]? <;> simp
theorem patch_ok {d : List Nat} {P : Nat → Bool} {B : Nat → Nat} (hd : ∀ c ∈ d, c < 256) (hB : ∀ x, P x = true → B x < 256) : ∀ c ∈ patch d P B, c < 256 := by
  intro c hc
  obtain ⟨x, hx⟩ := List.mem_iff_getElem?.1 hc
  rw [patch_get] at hx
  cases hd0 : d[x]? with
  | none => rw [hd0] at hx; simp at hx
  | some y =>
    rw [hd0] at hx
    simp only [Option.map_some, Option.some.injEq] at hx
    subst hx
    split
    · exact hB x (by assumption)
    · exact hd y (List.mem_of_getElem? hd0)
theorem upd_ok {l : List Pg} {P : Nat → Bool} {B : Nat → Nat} {D : Nat → Bool} (h : Oks l) (hB : ∀ a, P a = true → B a < 256) : Oks (upd l P B D) := by
  intro p hp
  obtain ⟨q, hq⟩ := List.mem_iff_getElem?.1 hp
  rw [upd_get] at hq
  cases hl : l[q]? with
  | none => rw [hl] at hq; simp at hq
  | some p0 =>
    rw [hl] at hq
    simp only [Option.map_some, Option.some.injEq] at hq
    subst hq
    have ok := h p0 (List.mem_of_getElem? hl)
    exact ⟨ok.lo, ok.hi, by show (patch _ _ _).length = 64; rw [patch_len, ok.size], patch_ok ok.small (fun x hx => hB _ hx)⟩
theorem patch_set {d : List Nat} {P : Nat → Bool} {B : Nat → Nat} {x : Nat} (hx : x < d.length) : (patch d P B).set x (B x) = patch d (fun y => P y || y == x) B := by
  refine List.ext_getElem? fun y => ?_
  rw [List.getElem?_set, patch_get, patch_get, patch_len]
  by_cases e : x = y
  · subst e
    simp [hx]
  · have : (y == x) = false := by simpa using (Ne.symm e)
    simp [e, this]
/-- One byte more. -/
theorem upd_byte {l : List Pg} {P : Nat → Bool} {B : Nat → Nat} {D : Nat → Bool} (ok : Oks l) {q x : Nat} {p : Pg} (hp : l[q]? = some p) (hx : x < 64) {c : Nat} (hc : B (64 * q + x) = c) :
    (upd l P B D).set q ⟨p.rights, p.dirty || D q, (patch p.data (fun x => P (64 * q + x)) (fun x => B (64 * q + x))).set x c⟩ = upd l (fun a => P a || a == 64 * q + x) B D := by
  have hq : q < l.length := (List.getElem?_eq_some_iff.1 hp).1
  refine List.ext_getElem? fun r => ?_
  rw [List.getElem?_set, upd_get, upd_get, upd_len]
  by_cases e : q = r
  · subst e
    rw [if_pos rfl, if_pos hq, hp]
    simp only [Option.map_some, Option.some.injEq]
    refine pg_ext rfl rfl ?_
    show (patch _ _ _).set x c = patch _ _ _
    have hxl : x < p.data.length := by rw [(ok p (List.mem_of_getElem? hp)).size]; exact hx
    rw [← hc]
    have h1 := patch_set (d := p.data) (P := fun x => P (64 * q + x)) (B := fun x => B (64 * q + x)) hxl
    rw [h1]
    refine patch_congr fun y hy => ⟨?_, fun _ => rfl⟩
    show (P (64 * q + y) || y == x) = (P (64 * q + y) || 64 * q + y == 64 * q + x)
    congr 1
    rw [Bool.eq_iff_iff, beq_iff_eq, beq_iff_eq]
    omega
  · rw [if_neg e]
    cases hl : l[r]? with
    | none => rfl
    | some p' =>
      simp only [Option.map_some, Option.some.injEq]
      refine pg_ext rfl rfl (patch_congr fun y hy => ⟨?_, fun _ => rfl⟩)
      have ok' := ok p' (List.mem_of_getElem? hl)
      have : (64 * r + y == 64 * q + x) = false := by
        rw [beq_eq_false_iff_ne]
        rw [ok'.size] at hy
        omega
      simp [this]
/-- One mark more. -/
theorem upd_mark {l : List Pg} {P : Nat → Bool} {B : Nat → Nat} {D : Nat → Bool} {q : Nat} {p : Pg} (hp : l[q]? = some p) :
    (upd l P B D).set q ⟨p.rights, true, patch p.data (fun x => P (64 * q + x)) (fun x => B (64 * q + x))⟩ = upd l P B (fun r => D r || r == q) := by
  have hq : q < l.length := (List.getElem?_eq_some_iff.1 hp).1
  refine List.ext_getElem? fun r => ?_
  rw [List.getElem?_set, upd_get, upd_get, upd_len]
  by_cases e : q = r
  · subst e
    rw [if_pos rfl, if_pos hq, hp]
    simp only [Option.map_some, Option.some.injEq]
    exact pg_ext rfl (by simp [Pg.upd]) rfl
  · rw [if_neg e]
    have : (r == q) = false := by simpa using (Ne.symm e)
    cases hl : l[r]? with
    | none => rfl
    | some p' => simp [this]

/-! The same in memory. -/
theorem cells_byte (p : Pg) (x c : Nat) : Pg.cells ⟨p.rights, p.dirty, p.data.set x c⟩ = p.cells.set (2 + x) (bv c) := by
  simp [Pg.cells, Pg.row, List.map_set, Nat.add_comm 2 x]
theorem cells_mark (p : Pg) : Pg.cells ⟨p.rights, true, p.data⟩ = p.cells.set 1 (.bool true) := by simp [Pg.cells, Pg.row]
theorem POwn.stored {w : World} {base g cap : Nat} {l : List Pg} (h : POwn w base (.slice (some ⟨g, 0, none⟩) l.length cap) l) (ok : Oks l) {k j : Nat} {p q : Pg} {u : Value} (hp : l[k]? = some p) (hj : j < 66) (hq : q.cells = p.cells.set j u) :
    POwn (w.setCell ⟨g, k * 66 + j, none⟩ u) base (.slice (some ⟨g, 0, none⟩) l.length cap) (l.set k q) := by
  have := (World.ownsRow.stored h (k * 66 + j) u).1
  unfold POwn
  rw [flat_set ok j u hp hj hq] at this
  rw [List.length_set]
  exact this
end Go.Proofs.YtegkodgondlcmaaDoor
namespace Go.Proofs.YtegkodgondlcmaaDoor
open Go.RowKit FerryCrc
set_option linter.unusedVariables false

theorem Pgs.flat_cells {w : World} {ad : Addr} {len cap : Nat} {l : List Pg} (h : Pgs w (some ad) len cap l) : ∀ j v, (flat l)[j]? = some v → w.cell? (ad.add j) = some v := by
  intro j v hv
  have hj := (List.getElem?_eq_some_iff.1 hv).1
  rw [flat_len h.ok] at hj
  have hk : j / 66 < l.length := by omega
  obtain ⟨p, hp⟩ : ∃ p, l[j / 66]? = some p := ⟨_, List.getElem?_eq_getElem hk⟩
  obtain ⟨b, off, e, hr⟩ := h.cell _ p hp
  obtain rfl := Option.some.inj e
  have h1 := flat_get h.ok (k := j / 66) (j % 66) hp (by omega)
  rw [show j / 66 * 66 + j % 66 = j by omega, hv] at h1
  have h2 := hr (j % 66) v h1.symm
  rw [add_none]
  rw [show off + j / 66 * 66 + j % 66 = off + j by omega] at h2
  exact h2

theorem run_copy_nil {P : Program} (w : World) (dT sT ty elem : TypeId) (d : Option Addr) (dLen dCap : Nat) (sz : Nat)
    (hu : P.underlying dT = some (.slice elem)) (hs : (P.info? elem).map (·.size) = some sz) :
    (Builtin.copy_ #[dT, sT] ty #[.slice d dLen dCap, .slice none 0 0]).run P w = .ok (goInt 0) w := by
  cases hq : P.info? elem with
  | none => simp [hq] at hs
  | some i =>
    simp [Builtin.copy_, run_underlying hu, Builtin.lenOf, Builtin.firstCells, sizeOf, typeInfo, hq]
    cases d <;> simp [storeCells]

/-- copy of pages into as many pages of the call's own. -/
theorem copy_pages {w : World} {base g len cap : Nat} {xs : List Value} {a : Option Addr} {l : List Pg} (ho : w.ownsRow base 38 66 (.slice (some ⟨g, 0, none⟩) len len) len xs) (hs : Pgs w a len cap l) (ty : TypeId) :
    ∃ w2, Sem.run Tryd.prog (Builtin.copy_ #[22, 22] ty #[.slice (some ⟨g, 0, none⟩) len len, .slice a len cap]) w = .ok (.int .i64 (len : Int)) w2 ∧ POwn w2 base (.slice (some ⟨g, 0, none⟩) len len) l ∧ Below g w w2 := by
  cases a with
  | none =>
    obtain ⟨rfl, rfl⟩ := hs.null rfl
    obtain rfl : l = [] := List.length_eq_zero_iff.1 hs.size
    refine ⟨w, run_copy_nil w _ _ _ 38 _ _ _ 66 Tryd.underlying22 sizePage, ?_, Below.refl _ _⟩
    obtain rfl : xs = [] := List.length_eq_zero_iff.1 (by simpa using ho.1)
    exact ho
  | some ad =>
    obtain ⟨h1, h2⟩ := ho
    rcases h2 with ⟨e, _⟩ | ⟨g', cap', cur, e, hg, hh, hnc, hcm, hcs, htake⟩
    · simp at e
    simp only [Value.slice.injEq, Option.some.injEq, Addr.mk.injEq, and_true, true_and] at e
    obtain ⟨rfl, rfl⟩ := e
    have hfl := flat_len hs.ok
    rw [hs.size] at hfl
    have hmin : Nat.min len len = len := Nat.min_self len
    have hrun := run_copy_wide (P := Tryd.prog) w 22 22 ty 38 g 0 len len ad len cap cur 38 (flat l) 66 Tryd.underlying22 sizePage hh (by rw [hfl, hmin]) hs.flat_cells (by omega) (flat_one l)
    rw [hmin] at hrun
    refine ⟨_, hrun, ?_, below_setRow (Nat.le_refl _) _ (Below.refl _ _)⟩
    refine ⟨by rw [hs.size, hfl], .inr ⟨g, len, _, by rw [hs.size], hg, setRow_heap w g cur _ _ (0, 0) hh, by rw [hs.size]; exact Nat.le_refl _, hcm, ?_, ?_⟩⟩
    · simp only [List.take_zero, List.nil_append, List.size_toArray, List.length_append, List.length_drop, Array.length_toList]
      omega
    · simp only [List.take_zero, List.nil_append]
      rw [hs.size, List.take_left' hfl]

set_option maxRecDepth 100000 in
set_option maxHeartbeats 400000 in
theorem copy_any (a : Option Addr) (len cap : Nat) (l : List Pg) (w : World) (hs : Pgs w a len cap l) :
    Calls Tryd.prog 24 #[.slice a len cap] w fun e w' => ∃ g, e = .returned (.slice (some ⟨g, 0, none⟩) len len) ∧ w.heap.size ≤ g ∧ POwn w' w.heap.size (.slice (some ⟨g, 0, none⟩) len len) l ∧ Below w.heap.size w w' := by
  have hm := hs.most
  have HS := hide hs
  have HI := hide infoPage
  clear hs
  go_enter Tryd.func24, Tryd.ntmps24
  go_wp2_with (obtain ⟨i, z, hi, hz, hsz, hby, hzs⟩ := HI.out; refine wpList_make_full w rfl (.tmp 5) (.tmp 5) 22 rfl w.heap.size 38 i z 66 Tryd.underlying22 hi hz hsz .i64 .i64 (len : Int) (len : Int) len rfl rfl rfl rfl (by rw [hby]; omega) (by unfold maxLen; omega) (Nat.le_refl _) ?_; clear hi hz hsz hby hzs; intro w1 ho1 hg1)
  have hb1 : Below w.heap.size w w1 := (Below.refl _ _).grown hg1 (Nat.le_refl _) (fun k hk => by simp at hk)
  obtain ⟨w2, hrun, ho2, hb2⟩ := copy_pages ho1 (HS.out.below hb1) 3
  have O2 := hide ho2
  have B2 := hide (hb1.trans hb2)
  clear ho1 hg1 hb1 ho2 hb2
  rw [hrun]
  clear hrun
  simp only [Result.andThen_ok]
  go_wp2
  go_ret
  exact ⟨_, rfl, Nat.le_refl _, O2.out, B2.out⟩
end Go.Proofs.YtegkodgondlcmaaDoor
