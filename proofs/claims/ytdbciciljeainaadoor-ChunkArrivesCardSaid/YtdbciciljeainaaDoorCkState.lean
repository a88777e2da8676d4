/-
  What has come of an image, by the pieces that came: no program in it.
-/
import Derived.Test.YtdbciciljeainaaDoorXfAdd
import Derived.Test.YtdbciciljeainaaDoorCkMiss
namespace Go.Proofs.YtdbciciljeainaaDoor
open Go.RowKit FerryCrc
set_option linter.unusedVariables false
set_option linter.unusedSimpArgs false

theorem pcs_size (L : List Nat) (i : Nat) : (pcs L i).size = min 128 (L.length - i * 128) := by
  unfold pcs
  rw [str_len, List.length_take, List.length_drop]
theorem cutE_open {pt b r m st : Int} {n : Nat} (h : cutE pt b r m st n = 0) : okNm pt b r m = true ∧ okSt st = true ∧ 1 ≤ n ∧ n ≤ 4096 := by
  have h1 := cutE_ok h
  unfold cutE at h
  split at h
  · rename_i h2
    simp only [Bool.and_eq_true] at h2
    exact ⟨h2.1, h2.2, h1.1, h1.2⟩
  · cases h
theorem tot_bounds {L : List Nat} (h1 : 1 ≤ L.length) (h2 : L.length ≤ 4096) : 1 ≤ tot L ∧ tot L ≤ 32 ∧ L.length ≤ tot L * 128 ∧ tot L * 128 < L.length + 128 := by
  unfold tot
  omega
theorem pcs_ok {L : List Nat} (h1 : 1 ≤ L.length) (h2 : L.length ≤ 4096) {i : Nat} (hi : i < tot L) : 1 ≤ (pcs L i).size ∧ (pcs L i).size ≤ 128 ∧ pieceOk (pcs L i) (i : Int) (tot L : Int) = true := by
  obtain ⟨t1, t2, t3, t4⟩ := tot_bounds h1 h2
  have hs := pcs_size L i
  have e1 : 1 ≤ (pcs L i).size ∧ (pcs L i).size ≤ 128 := by omega
  refine ⟨e1.1, e1.2, ?_⟩
  unfold pieceOk
  split
  · simp only [Bool.and_eq_true, decide_eq_true_eq]
    exact e1
  · simp only [beq_iff_eq]
    omega
theorem note_chk {pt b r m st : Int} {L : List Nat} (h : cutE pt b r m st L.length = 0) {i : Nat} (hi : i < tot L) : chk (ntOf pt b r m st L i) = 0 := by
  obtain ⟨h1, h2, h3, h4⟩ := cutE_open h
  obtain ⟨t1, t2, t3, t4⟩ := tot_bounds h3 h4
  have hp := pcs_ok h3 h4 hi
  unfold chk ntOf
  rw [if_neg (by simp), if_pos]
  unfold nmN stagedN countedN filledN
  simp only [if_pos, true_or, Bool.and_eq_true, h1, h2, true_and, decide_eq_true_eq, okTot_iff, hp.2.2, beq_self_eq_true, and_true]
  omega
theorem note_beg {pt b r m st : Int} {L : List Nat} (h : cutE pt b r m st L.length = 0) {i : Nat} (hi : i < tot L) : begE (ntOf pt b r m st L i) = 0 := by
  unfold begE
  rw [if_pos (note_chk h hi)]
  rfl
/-- The pieces that came. -/
def pie (L : List Nat) (C : List Bool) : List ByteArray := (List.range C.length).map fun i => if C[i]? = some true then pcs L i else ⟨#[]⟩
theorem pie_len (L : List Nat) (C : List Bool) : (pie L C).length = C.length := by simp [pie]
theorem pie_at {L : List Nat} {C : List Bool} {i : Nat} (hi : i < C.length) : (pie L C)[i]? = some (if C[i]? = some true then pcs L i else ⟨#[]⟩) := by
  unfold pie
  rw [List.getElem?_map, List.getElem?_range hi]
  rfl
theorem pie_set {L : List Nat} {C : List Bool} {i : Nat} (hi : i < C.length) : (pie L C).set i (pcs L i) = pie L (C.set i true) := by
  apply List.ext_getElem?
  intro j
  by_cases hj : j < C.length
  · rw [pie_at (by simpa using hj), List.getElem?_set]
    by_cases e : i = j
    · subst e
      rw [if_pos rfl, if_pos (by rw [pie_len]; exact hi), List.getElem?_set_self (by exact hi), if_pos rfl]
    · rw [if_neg e, pie_at hj, List.getElem?_set_ne e]
  · rw [List.getElem?_eq_none (by simp [pie_len]; omega), List.getElem?_eq_none (by simp [pie_len]; omega)]
theorem pOk_of {t : Int} : ∀ {P : List ByteArray} {i : Nat}, (∀ j x, P[j]? = some x → x.size = 0 ∨ pieceOk x ((i + j : Nat) : Int) t = true) → pOk t i P = true
  | [], _, _ => rfl
  | y :: l, i, h => by
    unfold pOk
    simp only [Bool.and_eq_true, Bool.or_eq_true, decide_eq_true_eq]
    refine ⟨h 0 y rfl, pOk_of fun j x hx => ?_⟩
    have := h (j + 1) x hx
    rw [show i + 1 + j = i + (j + 1) by omega]
    exact this
theorem anyF_pie {L : List Nat} (h1 : 1 ≤ L.length) (h2 : L.length ≤ 4096) {C : List Bool} (hC : C.length = tot L) : anyF (pie L C) = C.any id := by
  unfold anyF
  rw [Bool.eq_iff_iff, List.any_eq_true, List.any_eq_true]
  constructor
  · rintro ⟨x, hx, h⟩
    obtain ⟨i, hi, rfl⟩ := List.mem_map.1 hx
    rw [List.mem_range] at hi
    by_cases e : C[i]? = some true
    · exact ⟨true, List.mem_of_getElem? e, rfl⟩
    · rw [if_neg e] at h
      exact absurd h (by decide)
  · rintro ⟨y, hy, h⟩
    simp only [id] at h
    subst h
    obtain ⟨i, hi⟩ := List.mem_iff_getElem?.1 hy
    have hl := (List.getElem?_eq_some_iff.1 hi).1
    refine ⟨pcs L i, List.mem_of_getElem? (i := i) ?_, ?_⟩
    · rw [pie_at hl, if_pos hi]
    · have := (pcs_ok h1 h2 (i := i) (by omega)).1
      rw [decide_eq_false (by omega)]
      rfl
theorem anyE_pie {L : List Nat} (h1 : 1 ≤ L.length) (h2 : L.length ≤ 4096) {C : List Bool} (hC : C.length = tot L) : anyE (pie L C) = !C.all id := by
  unfold anyE
  rw [Bool.eq_iff_iff, List.any_eq_true, Bool.not_eq_true', ← Bool.not_eq_true, List.all_eq_true]
  constructor
  · rintro ⟨x, hx, h⟩ ha
    obtain ⟨i, hi, rfl⟩ := List.mem_map.1 hx
    rw [List.mem_range] at hi
    have e : C[i]? = some true := by
      rw [List.getElem?_eq_getElem hi]
      have := ha _ (List.getElem_mem hi)
      simp only [id] at this
      rw [this]
    rw [if_pos e] at h
    have := (pcs_ok h1 h2 (i := i) (by omega)).1
    simp only [decide_eq_true_eq] at h
    omega
  · intro h
    apply Classical.byContradiction
    intro hn
    apply h
    intro y hy
    obtain ⟨i, hi⟩ := List.mem_iff_getElem?.1 hy
    have hl := (List.getElem?_eq_some_iff.1 hi).1
    cases y with
    | true => rfl
    | false =>
      refine absurd ⟨⟨#[]⟩, List.mem_of_getElem? (i := i) ?_, ?_⟩ hn
      · rw [pie_at hl, hi]
        rfl
      · rfl
theorem good_pie {pt b r m st : Int} {L : List Nat} (h : cutE pt b r m st L.length = 0) {C : List Bool} (hC : C.length = tot L) : goodB ⟨pt, st, (tot L : Int), b, r, m⟩ (pie L C) = true := by
  obtain ⟨h1, h2, h3, h4⟩ := cutE_open h
  obtain ⟨t1, t2, t3, t4⟩ := tot_bounds h3 h4
  unfold goodB
  simp only [Bool.and_eq_true, decide_eq_true_eq, okTot_iff]
  refine ⟨⟨⟨⟨h1, h2⟩, ⟨by omega, by omega⟩⟩, by rw [pie_len, hC]⟩, pOk_of fun j x hx => ?_⟩
  have hj : j < C.length := by
    have := (List.getElem?_eq_some_iff.1 hx).1
    rw [pie_len] at this
    exact this
  rw [pie_at hj] at hx
  simp only [Option.some.injEq] at hx
  subst hx
  split
  · right
    rw [Nat.zero_add]
    exact (pcs_ok h3 h4 (by omega)).2.2
  · left
    rfl
theorem pie_zero {L : List Nat} {C : List Bool} (hn : C.any id = false) : pie L C = List.replicate C.length ⟨#[]⟩ := by
  apply List.ext_getElem?
  intro j
  by_cases hj : j < C.length
  · rw [pie_at hj, List.getElem?_replicate, if_pos hj, if_neg]
    intro e
    rw [List.any_eq_false] at hn
    exact hn true (List.mem_of_getElem? e) rfl
  · rw [List.getElem?_eq_none (by rw [pie_len]; omega), List.getElem?_eq_none (by simp; omega)]
theorem any_set {C : List Bool} {i : Nat} (hi : i < C.length) : (C.set i true).any id = true := by
  rw [List.any_eq_true]
  exact ⟨true, List.mem_of_getElem? (List.getElem?_set_self hi), rfl⟩
theorem bytesOf_str {l : List Nat} (h : ∀ c ∈ l, c < 256) : bytesOf (str l) = l := by
  unfold bytesOf str
  simp only [List.map_map]
  conv => rhs; rw [← List.map_id l]
  apply List.map_congr_left
  intro c hc
  simp only [Function.comp, id]
  have := h c hc
  rw [UInt8.toNat_ofNat']
  omega
theorem flat_all {L : List Nat} (hs : ∀ c ∈ L, c < 256) : ∀ t : Nat, flat ((List.range t).map (pcs L)) = L.take (t * 128)
  | 0 => by simp [flat]
  | t + 1 => by
    have ih := flat_all hs t
    unfold flat at *
    rw [List.range_succ, List.map_append, List.map_append, List.flatten_append, ih]
    have : bytesOf (pcs L t) = (L.drop (t * 128)).take 128 := bytesOf_str (fun c hc => hs c (List.mem_of_mem_drop (List.mem_of_mem_take hc)))
    simp only [List.map_cons, List.map_nil, List.flatten_cons, List.flatten_nil, List.append_nil, this]
    rw [Nat.add_mul, Nat.one_mul, List.take_add]
/-- How many have not come. -/
def leftC (C : List Bool) : Nat := (C.filter (fun y => !y)).length
theorem left_new (t : Nat) : leftC (List.replicate t false) = t := by
  unfold leftC
  rw [List.filter_replicate]
  simp
theorem left_set_old {C : List Bool} {j : Nat} (h : C[j]? = some true) : C.set j true = C := by
  apply List.ext_getElem?
  intro k
  rw [List.getElem?_set]
  split
  · rename_i e
    subst e
    rw [if_pos (List.getElem?_eq_some_iff.1 h).1, h]
  · rfl
theorem left_set_new : ∀ {C : List Bool} {j : Nat}, C[j]? = some false → leftC (C.set j true) + 1 = leftC C
  | [], j, h => by simp at h
  | y :: l, 0, h => by
    simp only [List.getElem?_cons_zero, Option.some.injEq] at h
    subst h
    rfl
  | y :: l, j + 1, h => by
    have ih := left_set_new (C := l) (j := j) (by simpa using h)
    unfold leftC at *
    cases y with
    | true => simpa [List.filter_cons] using ih
    | false =>
      show (false :: (l.set j true).filter _).length + 1 = (false :: l.filter _).length
      rw [List.length_cons, List.length_cons, ih]
theorem left_zero {C : List Bool} : (leftC C = 0) ↔ C.all id = true := by
  unfold leftC
  rw [List.length_eq_zero_iff, List.filter_eq_nil_iff, List.all_eq_true]
  constructor
  · intro h y hy
    have := h y hy
    cases y <;> simp_all
  · intro h y hy
    have := h y hy
    simp only [id] at this
    rw [this]
    decide
theorem left_le (C : List Bool) : leftC C ≤ C.length := List.length_filter_le _ _
/-- Who is missing, where the pieces are those of C. -/
theorem mis_len : ∀ (P : List ByteArray) (C : List Bool) (i : Nat), P.length = C.length → (∀ (k : Nat) (x : ByteArray), P[k]? = some x → (x.size = 0 ↔ C[k]? = some false)) → (misN i P).length = leftC C
  | [], [], _, _, _ => rfl
  | x :: P, y :: C, i, hl, h => by
    have ih := mis_len P C (i + 1) (by simpa using hl) (fun k x hx => h (k + 1) x hx)
    have h0 := h 0 x rfl
    simp only [List.getElem?_cons_zero, Option.some.injEq] at h0
    unfold misN
    cases y with
    | true =>
      rw [if_neg (fun e => by cases h0.1 e), ih]
      rfl
    | false =>
      rw [if_pos (h0.2 rfl), List.length_cons, ih]
      rfl
  | [], _ :: _, _, hl, _ => by simp at hl
  | _ :: _, [], _, hl, _ => by simp at hl
theorem mis_at : ∀ (P : List ByteArray) (C : List Bool) (i : Nat), (∀ (k : Nat) (x : ByteArray), P[k]? = some x → (x.size = 0 ↔ C[k]? = some false)) → ∀ (j : Nat) (y : Int), (misN i P)[j]? = some y → ∃ n : Nat, y = ((i + n : Nat) : Int) ∧ C[n]? = some false
  | [], _, _, _, j, y, hj => by simp [misN] at hj
  | x :: P, C, i, h, j, y, hj => by
    have h' : ∀ (k : Nat) (x : ByteArray), P[k]? = some x → (x.size = 0 ↔ (C.drop 1)[k]? = some false) := fun k x hx => by
      rw [List.getElem?_drop, Nat.add_comm]
      exact h (k + 1) x hx
    have up : ∀ {y : Int}, (∃ n : Nat, y = ((i + 1 + n : Nat) : Int) ∧ (C.drop 1)[n]? = some false) → ∃ n : Nat, y = ((i + n : Nat) : Int) ∧ C[n]? = some false := fun ⟨n, e, hc⟩ => by
      rw [List.getElem?_drop, Nat.add_comm] at hc
      exact ⟨n + 1, by omega, hc⟩
    unfold misN at hj
    split at hj
    · rename_i hx
      cases j with
      | zero =>
        simp only [List.getElem?_cons_zero, Option.some.injEq] at hj
        exact ⟨0, by omega, (h 0 x rfl).1 hx⟩
      | succ j => exact up (mis_at P _ (i + 1) h' j y (by simpa using hj))
    · exact up (mis_at P _ (i + 1) h' j y hj)
theorem mis_ge : ∀ (P : List ByteArray) (i : Nat) (y : Int), y ∈ misN i P → (i : Int) ≤ y
  | [], _, y, h => by simp [misN] at h
  | x :: P, i, y, h => by
    unfold misN at h
    split at h
    · rcases List.mem_cons.1 h with rfl | h
      · exact Int.le_refl _
      · have := mis_ge P (i + 1) y h
        omega
    · have := mis_ge P (i + 1) y h
      omega
theorem mis_up : ∀ (P : List ByteArray) (i j : Nat) (x y : Int), (misN i P)[j]? = some x → (misN i P)[j + 1]? = some y → x < y
  | [], _, _, _, _, h, _ => by simp [misN] at h
  | p :: P, i, j, x, y, h1, h2 => by
    unfold misN at h1 h2
    split at h1
    · rename_i hp
      rw [if_pos hp] at h2
      rw [List.getElem?_cons_succ] at h2
      cases j with
      | zero =>
        simp only [List.getElem?_cons_zero, Option.some.injEq] at h1
        have := mis_ge P (i + 1) y (List.mem_of_getElem? h2)
        omega
      | succ j => exact mis_up P (i + 1) j x y (by simpa using h1) h2
    · rename_i hp
      rw [if_neg hp] at h2
      exact mis_up P (i + 1) j x y h1 h2
theorem pie_mis {L : List Nat} (h1 : 1 ≤ L.length) (h2 : L.length ≤ 4096) {C : List Bool} (hC : C.length = tot L) : ∀ (k : Nat) (x : ByteArray), (pie L C)[k]? = some x → (x.size = 0 ↔ C[k]? = some false) := fun k x hx => by
  have hk : k < C.length := by
    have := (List.getElem?_eq_some_iff.1 hx).1
    rw [pie_len] at this
    exact this
  rw [pie_at hk] at hx
  simp only [Option.some.injEq] at hx
  subst hx
  have hp := (pcs_ok h1 h2 (i := k) (by omega)).1
  rw [List.getElem?_eq_getElem hk]
  cases C[k] with
  | true => exact ⟨fun h => absurd h (by rw [if_pos rfl]; omega), fun h => by cases h⟩
  | false => exact ⟨fun _ => rfl, fun _ => by rw [if_neg (by decide)]; rfl⟩
/-- What the calls answer where the pieces of C have come. -/
structure Cst (pt m st : Int) (L : List Nat) (C : List Bool) : Prop where
  cut : cutE pt 1 1 m st L.length = 0
  len : C.length = tot L
theorem Cst.set {pt m st : Int} {L : List Nat} {C : List Bool} (h : Cst pt m st L C) (j : Nat) : Cst pt m st L (C.set j true) := ⟨h.cut, by rw [List.length_set]; exact h.len⟩
theorem Cst.add {pt m st : Int} {L : List Nat} {C : List Bool} (h : Cst pt m st L C) {j : Nat} (hj : j < tot L) {y : Bool} (hy : C[j]? = some y) :
    addE ⟨pt, st, (tot L : Int), 1, 1, m⟩ (pie L C) (ntOf pt 1 1 m st L j) = 0 ∧ addS ⟨pt, st, (tot L : Int), 1, 1, m⟩ (pie L C) (ntOf pt 1 1 m st L j) = ⟨pt, st, (tot L : Int), 1, 1, m⟩ ∧ addP ⟨pt, st, (tot L : Int), 1, 1, m⟩ (pie L C) (ntOf pt 1 1 m st L j) = pie L (C.set j true) ∧ addF ⟨pt, st, (tot L : Int), 1, 1, m⟩ (pie L C) (ntOf pt 1 1 m st L j) = !y := by
  obtain ⟨h1, h2, h3, h4⟩ := cutE_open h.cut
  have hC := h.len
  have hw : wasP (pie L C) (ntOf pt 1 1 m st L j) = if y = true then pcs L j else ⟨#[]⟩ := by
    unfold wasP
    rw [show (ntOf pt 1 1 m st L j).index.toNat = j from rfl, pie_at (by omega), hy]
    show (if some y = some true then pcs L j else ⟨#[]⟩) = _
    simp
  have hp := (pcs_ok h3 h4 hj).1
  have ha : addE ⟨pt, st, (tot L : Int), 1, 1, m⟩ (pie L C) (ntOf pt 1 1 m st L j) = 0 := by
    unfold addE
    rw [if_pos (good_pie h.cut hC), if_pos (note_beg h.cut hj), if_pos (by unfold sameSg ntOf; simp), hw, if_pos]
    cases y with
    | true => exact .inr rfl
    | false => exact .inl rfl
  refine ⟨ha, ?_, ?_, ?_⟩
  · unfold addS
    rw [if_pos ha]
  · unfold addP
    rw [if_pos ha]
    show (pie L C).set j (pcs L j) = _
    exact pie_set (by omega)
  · unfold addF
    rw [ha, hw]
    cases y with
    | true =>
      show (decide (0 = 0) && decide ((pcs L j).size = 0)) = _
      rw [decide_eq_false (show ¬ (pcs L j).size = 0 by omega)]
      rfl
    | false => rfl
theorem Cst.stray {pt m st : Int} {L : List Nat} {C : List Bool} (h : Cst pt m st L C) (n : Nt) (hn : n.num = m + 1) (h20 : chk n ≤ 20) :
    (1 ≤ addE ⟨pt, st, (tot L : Int), 1, 1, m⟩ (pie L C) n ∧ addE ⟨pt, st, (tot L : Int), 1, 1, m⟩ (pie L C) n ≤ 20) ∧ addF ⟨pt, st, (tot L : Int), 1, 1, m⟩ (pie L C) n = false := by
  have ha : 1 ≤ addE ⟨pt, st, (tot L : Int), 1, 1, m⟩ (pie L C) n ∧ addE ⟨pt, st, (tot L : Int), 1, 1, m⟩ (pie L C) n ≤ 20 := by
    unfold addE
    rw [if_pos (good_pie h.cut h.len)]
    split
    · have hs : sameSg ⟨pt, st, (tot L : Int), 1, 1, m⟩ n = false := by
        unfold sameSg
        rw [hn]
        have : (m + 1 == m) = false := by simp; omega
        simp [this]
      rw [hs, if_neg (by decide)]
      exact ⟨by decide, by decide⟩
    · rename_i hb
      have : begE n ≤ 20 := by
        unfold begE
        repeat' split
        all_goals first | decide | exact h20
      omega
  refine ⟨ha, ?_⟩
  unfold addF
  rw [decide_eq_false (by omega)]
  rfl
theorem Cst.first {pt m st : Int} {L : List Nat} {t : Nat} (h : cutE pt 1 1 m st L.length = 0) (ht : tot L = t) {j : Nat} (hj : j < t) :
    begE (ntOf pt 1 1 m st L j) = 0 ∧ begS (ntOf pt 1 1 m st L j) = ⟨pt, st, (t : Int), 1, 1, m⟩ ∧ begP (ntOf pt 1 1 m st L j) = pie L ((List.replicate t false).set j true) := by
  subst ht
  have hb := note_beg h hj
  refine ⟨hb, ?_, ?_⟩
  · unfold begS
    rw [if_pos hb]
    rfl
  · unfold begP
    rw [if_pos hb, ← pie_set (by rw [List.length_replicate]; exact hj), pie_zero (by rw [List.any_replicate]; simp), List.length_replicate]
    rfl
theorem Cst.miss {pt m st : Int} {L : List Nat} {C : List Bool} (h : Cst pt m st L C) :
    whE ⟨pt, st, (tot L : Int), 1, 1, m⟩ (pie L C) = 0 ∧ misL ⟨pt, st, (tot L : Int), 1, 1, m⟩ (pie L C) = misN 0 (pie L C) ∧ (misN 0 (pie L C)).length = leftC C := by
  obtain ⟨h1, h2, h3, h4⟩ := cutE_open h.cut
  have hg := good_pie h.cut h.len
  refine ⟨if_pos hg, if_pos hg, mis_len _ _ 0 (pie_len _ _) (pie_mis h3 h4 h.len)⟩
theorem Cst.whole {pt m st : Int} {L : List Nat} {C : List Bool} (hL : ∀ c ∈ L, c < 256) (h : Cst pt m st L C) :
    whF ⟨pt, st, (tot L : Int), 1, 1, m⟩ (pie L C) = C.all id ∧ whB ⟨pt, st, (tot L : Int), 1, 1, m⟩ (pie L C) = if C.all id = true then L else [] := by
  obtain ⟨h1, h2, h3, h4⟩ := cutE_open h.cut
  obtain ⟨t1, t2, t3, t4⟩ := tot_bounds h3 h4
  have hg := good_pie h.cut h.len
  have hC := h.len
  have hF : whF ⟨pt, st, (tot L : Int), 1, 1, m⟩ (pie L C) = C.all id := by
    unfold whF
    rw [hg, anyE_pie h3 h4 h.len]
    simp
  refine ⟨hF, ?_⟩
  unfold whB
  rw [hF]
  split
  · rename_i ha
    have : pie L C = (List.range (tot L)).map (pcs L) := by
      unfold pie
      rw [hC]
      apply List.map_congr_left
      intro i hi
      rw [List.mem_range] at hi
      have hi' : i < C.length := by omega
      rw [if_pos]
      rw [List.getElem?_eq_getElem hi']
      rw [List.all_eq_true] at ha
      have := ha _ (List.getElem_mem hi')
      simp only [id] at this
      rw [this]
    rw [this, flat_all hL, List.take_of_length_le t3]
  · rfl
theorem pie_size {L : List Nat} (C : List Bool) : ∀ x ∈ pie L C, x.size ≤ 9223372036854775807 := fun x hx => by
  obtain ⟨i, -, rfl⟩ := List.mem_map.1 hx
  split
  · have := pcs_size L i
    omega
  · exact Nat.zero_le _
theorem cutE_arr {pt m st : Int} {n : Nat} (h1 : 0 ≤ pt) (h2 : pt < 8) (h3 : 1 ≤ m) (h4 : m ≤ 1000) (h5 : st = 1 ∨ st = 2) (h6 : 1 ≤ n) (h7 : n ≤ 4096) : cutE pt 1 1 m st n = 0 := by
  unfold cutE
  rw [if_pos, if_neg (by omega)]
  have e1 : okNm pt 1 1 m = true := by
    unfold okNm okNum
    simp only [Bool.and_eq_true, decide_eq_true_eq]
    omega
  have e2 : okSt st = true := by
    unfold okSt
    rcases h5 with rfl | rfl <;> rfl
  rw [e1, e2]
  rfl
theorem and7 (x : Int) : ∃ q : Nat, q < 8 ∧ bits .and .i64 x 7 = (q : Int) := by
  have h : ((BitVec.ofInt 64 x) &&& (BitVec.ofInt 64 7)).toNat ≤ 7 := by
    rw [BitVec.toNat_and]
    exact Nat.le_trans Nat.and_le_right (by decide)
  refine ⟨((BitVec.ofInt 64 x) &&& (BitVec.ofInt 64 7)).toNat, by omega, ?_⟩
  show IntKind.i64.wrap (((BitVec.ofInt 64 x) &&& (BitVec.ofInt 64 7)).toNat : Nat) = _
  rw [IntKind.wrap_i64]
  omega
theorem and1b (x : Int) : ∃ q : Nat, q < 2 ∧ bits .and .i64 x 1 = (q : Int) := by
  have h : ((BitVec.ofInt 64 x) &&& (BitVec.ofInt 64 1)).toNat ≤ 1 := by
    rw [BitVec.toNat_and]
    exact Nat.le_trans Nat.and_le_right (by decide)
  refine ⟨((BitVec.ofInt 64 x) &&& (BitVec.ofInt 64 1)).toNat, by omega, ?_⟩
  show IntKind.i64.wrap (((BitVec.ofInt 64 x) &&& (BitVec.ofInt 64 1)).toNat : Nat) = _
  rw [IntKind.wrap_i64]
  omega
end Go.Proofs.YtdbciciljeainaaDoor
