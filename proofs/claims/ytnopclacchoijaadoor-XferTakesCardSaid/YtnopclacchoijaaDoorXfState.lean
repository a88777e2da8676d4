/-
  What has come of an image, by the pieces that came: no program in it.
-/
import Derived.Test.YtnopclacchoijaaDoorXfTake
import Derived.Test.YtnopclacchoijaaDoorXfWhole
namespace Go.Proofs.YtnopclacchoijaaDoor
open Go.RowKit FerryCrc
set_option linter.unusedVariables false
set_option linter.unusedSimpArgs false

theorem pcs_size (L : List Nat) (i : Nat) : (pcs L i).size = min 128 (L.length - i * 128) := by
  unfold pcs
  rw [str_len, List.length_take, List.length_drop]
theorem cutE_open {pt b r m st : Int} {n : Nat} (h : cutE pt b r m st n = 0) : okNm pt b r m = true ∧ okSt st = true ∧ 1 ≤ n ∧ n ≤ 4096 := by
  have h1 := cutE_ok h
  unfold cutE at h
  split at h
  · rename_i h2
    simp only [Bool.and_eq_true] at h2
    exact ⟨h2.1, h2.2, h1.1, h1.2⟩
  · cases h
theorem tot_bounds {L : List Nat} (h1 : 1 ≤ L.length) (h2 : L.length ≤ 4096) : 1 ≤ tot L ∧ tot L ≤ 32 ∧ L.length ≤ tot L * 128 ∧ tot L * 128 < L.length + 128 := by
  unfold tot
  omega
theorem pcs_ok {L : List Nat} (h1 : 1 ≤ L.length) (h2 : L.length ≤ 4096) {i : Nat} (hi : i < tot L) : 1 ≤ (pcs L i).size ∧ (pcs L i).size ≤ 128 ∧ pieceOk (pcs L i) (i : Int) (tot L : Int) = true := by
  obtain ⟨t1, t2, t3, t4⟩ := tot_bounds h1 h2
  have hs := pcs_size L i
  have e1 : 1 ≤ (pcs L i).size ∧ (pcs L i).size ≤ 128 := by omega
  refine ⟨e1.1, e1.2, ?_⟩
  unfold pieceOk
  split
  · simp only [Bool.and_eq_true, decide_eq_true_eq]
    exact e1
  · simp only [beq_iff_eq]
    omega
theorem note_chk {pt b r m st : Int} {L : List Nat} (h : cutE pt b r m st L.length = 0) {i : Nat} (hi : i < tot L) : chk (ntOf pt b r m st L i) = 0 := by
  obtain ⟨h1, h2, h3, h4⟩ := cutE_open h
  obtain ⟨t1, t2, t3, t4⟩ := tot_bounds h3 h4
  have hp := pcs_ok h3 h4 hi
  unfold chk ntOf
  rw [if_neg (by simp), if_pos]
  unfold nmN stagedN countedN filledN
  simp only [if_pos, true_or, Bool.and_eq_true, h1, h2, true_and, decide_eq_true_eq, okTot_iff, hp.2.2, beq_self_eq_true, and_true]
  omega
theorem note_beg {pt b r m st : Int} {L : List Nat} (h : cutE pt b r m st L.length = 0) {i : Nat} (hi : i < tot L) : begE (ntOf pt b r m st L i) = 0 := by
  unfold begE
  rw [if_pos (note_chk h hi)]
  rfl
/-- The pieces that came. -/
def pie (L : List Nat) (C : List Bool) : List ByteArray := (List.range C.length).map fun i => if C[i]? = some true then pcs L i else ⟨#[]⟩
theorem pie_len (L : List Nat) (C : List Bool) : (pie L C).length = C.length := by simp [pie]
theorem pie_at {L : List Nat} {C : List Bool} {i : Nat} (hi : i < C.length) : (pie L C)[i]? = some (if C[i]? = some true then pcs L i else ⟨#[]⟩) := by
  unfold pie
  rw [List.getElem?_map, List.getElem?_range hi]
  rfl
theorem pie_set {L : List Nat} {C : List Bool} {i : Nat} (hi : i < C.length) : (pie L C).set i (pcs L i) = pie L (C.set i true) := by
  apply List.ext_getElem?
  intro j
  by_cases hj : j < C.length
  · rw [pie_at (by simpa using hj), List.getElem?_set]
    by_cases e : i = j
    · subst e
      rw [if_pos rfl, if_pos (by rw [pie_len]; exact hi), List.getElem?_set_self (by exact hi), if_pos rfl]
    · rw [if_neg e, pie_at hj, List.getElem?_set_ne e]
  · rw [List.getElem?_eq_none (by simp [pie_len]; omega), List.getElem?_eq_none (by simp [pie_len]; omega)]
theorem pOk_of {t : Int} : ∀ {P : List ByteArray} {i : Nat}, (∀ j x, P[j]? = some x → x.size = 0 ∨ pieceOk x ((i + j : Nat) : Int) t = true) → pOk t i P = true
  | [], _, _ => rfl
  | y :: l, i, h => by
    unfold pOk
    simp only [Bool.and_eq_true, Bool.or_eq_true, decide_eq_true_eq]
    refine ⟨h 0 y rfl, pOk_of fun j x hx => ?_⟩
    have := h (j + 1) x hx
    rw [show i + 1 + j = i + (j + 1) by omega]
    exact this
theorem anyF_pie {L : List Nat} (h1 : 1 ≤ L.length) (h2 : L.length ≤ 4096) {C : List Bool} (hC : C.length = tot L) : anyF (pie L C) = C.any id := by
  unfold anyF
  rw [Bool.eq_iff_iff, List.any_eq_true, List.any_eq_true]
  constructor
  · rintro ⟨x, hx, h⟩
    obtain ⟨i, hi, rfl⟩ := List.mem_map.1 hx
    rw [List.mem_range] at hi
    by_cases e : C[i]? = some true
    · exact ⟨true, List.mem_of_getElem? e, rfl⟩
    · rw [if_neg e] at h
      exact absurd h (by decide)
  · rintro ⟨y, hy, h⟩
    simp only [id] at h
    subst h
    obtain ⟨i, hi⟩ := List.mem_iff_getElem?.1 hy
    have hl := (List.getElem?_eq_some_iff.1 hi).1
    refine ⟨pcs L i, List.mem_of_getElem? (i := i) ?_, ?_⟩
    · rw [pie_at hl, if_pos hi]
    · have := (pcs_ok h1 h2 (i := i) (by omega)).1
      rw [decide_eq_false (by omega)]
      rfl
theorem anyE_pie {L : List Nat} (h1 : 1 ≤ L.length) (h2 : L.length ≤ 4096) {C : List Bool} (hC : C.length = tot L) : anyE (pie L C) = !C.all id := by
  unfold anyE
  rw [Bool.eq_iff_iff, List.any_eq_true, Bool.not_eq_true', ← Bool.not_eq_true, List.all_eq_true]
  constructor
  · rintro ⟨x, hx, h⟩ ha
    obtain ⟨i, hi, rfl⟩ := List.mem_map.1 hx
    rw [List.mem_range] at hi
    have e : C[i]? = some true := by
      rw [List.getElem?_eq_getElem hi]
      have := ha _ (List.getElem_mem hi)
      simp only [id] at this
      rw [this]
    rw [if_pos e] at h
    have := (pcs_ok h1 h2 (i := i) (by omega)).1
    simp only [decide_eq_true_eq] at h
    omega
  · intro h
    apply Classical.byContradiction
    intro hn
    apply h
    intro y hy
    obtain ⟨i, hi⟩ := List.mem_iff_getElem?.1 hy
    have hl := (List.getElem?_eq_some_iff.1 hi).1
    cases y with
    | true => rfl
    | false =>
      refine absurd ⟨⟨#[]⟩, List.mem_of_getElem? (i := i) ?_, ?_⟩ hn
      · rw [pie_at hl, hi]
        rfl
      · rfl
theorem good_pie {pt b r m st : Int} {L : List Nat} (h : cutE pt b r m st L.length = 0) {C : List Bool} (hC : C.length = tot L) : goodB ⟨pt, st, (tot L : Int), b, r, m⟩ (pie L C) = true := by
  obtain ⟨h1, h2, h3, h4⟩ := cutE_open h
  obtain ⟨t1, t2, t3, t4⟩ := tot_bounds h3 h4
  unfold goodB
  simp only [Bool.and_eq_true, decide_eq_true_eq, okTot_iff]
  refine ⟨⟨⟨⟨h1, h2⟩, ⟨by omega, by omega⟩⟩, by rw [pie_len, hC]⟩, pOk_of fun j x hx => ?_⟩
  have hj : j < C.length := by
    have := (List.getElem?_eq_some_iff.1 hx).1
    rw [pie_len] at this
    exact this
  rw [pie_at hj] at hx
  simp only [Option.some.injEq] at hx
  subst hx
  split
  · right
    rw [Nat.zero_add]
    exact (pcs_ok h3 h4 (by omega)).2.2
  · left
    rfl
/-- What has come: nothing, or the pieces of C. -/
def Rst (pt b r m st : Int) (L : List Nat) (on : Bool) (S : Sg) (P : List ByteArray) (C : List Bool) : Prop :=
  C.length = tot L ∧ ((on = false ∧ S = zSg ∧ P = [] ∧ C.any id = false) ∨ (on = true ∧ S = ⟨pt, st, (tot L : Int), b, r, m⟩ ∧ P = pie L C ∧ C.any id = true))
theorem Rst.good {pt b r m st : Int} {L : List Nat} {on : Bool} {S : Sg} {P : List ByteArray} {C : List Bool} (h : cutE pt b r m st L.length = 0) (hr : Rst pt b r m st L on S P C) : rgood on S P = true := by
  obtain ⟨h1, h2, h3, h4⟩ := cutE_open h
  obtain ⟨hC, ⟨rfl, rfl, rfl, _⟩ | ⟨rfl, rfl, rfl, h5⟩⟩ := hr
  · rfl
  · unfold rgood
    rw [if_pos rfl, good_pie h hC, anyF_pie h3 h4 hC, h5]
    rfl
theorem pie_zero {L : List Nat} {C : List Bool} (hn : C.any id = false) : pie L C = List.replicate C.length ⟨#[]⟩ := by
  apply List.ext_getElem?
  intro j
  by_cases hj : j < C.length
  · rw [pie_at hj, List.getElem?_replicate, if_pos hj, if_neg]
    intro e
    rw [List.any_eq_false] at hn
    exact hn true (List.mem_of_getElem? e) rfl
  · rw [List.getElem?_eq_none (by rw [pie_len]; omega), List.getElem?_eq_none (by simp; omega)]
theorem any_set {C : List Bool} {i : Nat} (hi : i < C.length) : (C.set i true).any id = true := by
  rw [List.any_eq_true]
  exact ⟨true, List.mem_of_getElem? (List.getElem?_set_self hi), rfl⟩
/-- A piece is taken. -/
theorem Rst.take {pt b r m st : Int} {L : List Nat} {on : Bool} {S : Sg} {P : List ByteArray} {C : List Bool} (h : cutE pt b r m st L.length = 0) (hr : Rst pt b r m st L on S P C) {i : Nat} (hi : i < tot L) :
    takE on S P (ntOf pt b r m st L i) = 0 ∧ Rst pt b r m st L true (takS on S P (ntOf pt b r m st L i)) (takP on S P (ntOf pt b r m st L i)) (C.set i true) ∧ takN on S P (ntOf pt b r m st L i) = ⟨7, pt, b, r, m, st, (i : Int), (tot L : Int), 0, ⟨#[]⟩⟩ := by
  have hg := hr.good h
  have hb := note_beg h hi
  have hck := note_chk h hi
  obtain ⟨hC, hd⟩ := hr
  have hN : ansN (ntOf pt b r m st L i) = ⟨7, pt, b, r, m, st, (i : Int), (tot L : Int), 0, ⟨#[]⟩⟩ := by
    have : ansE (ntOf pt b r m st L i) = 0 := by
      unfold ansE
      rw [if_pos hck]
      rfl
    unfold ansN
    rw [if_pos this]
    rfl
  have hlen : (C.set i true).length = tot L := by rw [List.length_set]; exact hC
  rcases hd with ⟨rfl, rfl, rfl, h5⟩ | ⟨rfl, rfl, rfl, h5⟩
  · have he : takE false zSg [] (ntOf pt b r m st L i) = 0 := by
      unfold takE
      rw [if_pos hg]
      exact hb
    refine ⟨he, ⟨hlen, .inr ⟨rfl, ?_, ?_, any_set (by omega)⟩⟩, ?_⟩
    · unfold takS
      rw [if_pos he]
      show begS _ = _
      unfold begS
      rw [if_pos hb]
      rfl
    · unfold takP
      rw [if_pos he]
      show begP _ = _
      unfold begP
      rw [if_pos hb, ← pie_set (by omega), pie_zero h5, hC]
      rfl
    · unfold takN
      rw [if_pos he]
      exact hN
  · have hsm : isSame true ⟨pt, st, (tot L : Int), b, r, m⟩ (ntOf pt b r m st L i) = true := by
      unfold isSame sameSg ntOf
      simp
    have hw : wasP (pie L C) (ntOf pt b r m st L i) = if C[i]? = some true then pcs L i else ⟨#[]⟩ := by
      unfold wasP
      rw [show (ntOf pt b r m st L i).index.toNat = i from rfl, pie_at (by omega)]
      rfl
    have ha : addE ⟨pt, st, (tot L : Int), b, r, m⟩ (pie L C) (ntOf pt b r m st L i) = 0 := by
      unfold addE
      rw [if_pos (good_pie h hC), if_pos hb, if_pos (by simpa [isSame] using hsm), hw, if_pos]
      split
      · right
        rfl
      · left
        rfl
    have he : takE true ⟨pt, st, (tot L : Int), b, r, m⟩ (pie L C) (ntOf pt b r m st L i) = 0 := by
      unfold takE
      rw [if_pos hg, if_pos hsm]
      exact ha
    refine ⟨he, ⟨hlen, .inr ⟨rfl, ?_, ?_, any_set (by omega)⟩⟩, ?_⟩
    · unfold takS
      rw [if_pos he, if_pos hsm]
      unfold addS
      rw [if_pos ha]
    · unfold takP
      rw [if_pos he, if_pos hsm]
      unfold addP
      rw [if_pos ha]
      show (pie L C).set i (pcs L i) = _
      exact pie_set (by omega)
    · unfold takN
      rw [if_pos he]
      exact hN
/-- What Whole answers. -/
def rwF (on : Bool) (s : Sg) (P : List ByteArray) : Bool := rgood on s P && on && !anyE P
def rwE (on : Bool) (s : Sg) (P : List ByteArray) : Nat := if rgood on s P = true then 0 else 9
def rwB (on : Bool) (s : Sg) (P : List ByteArray) : List Nat := if rwF on s P = true then flat P else []
theorem bytesOf_str {l : List Nat} (h : ∀ c ∈ l, c < 256) : bytesOf (str l) = l := by
  unfold bytesOf str
  simp only [List.map_map]
  conv => rhs; rw [← List.map_id l]
  apply List.map_congr_left
  intro c hc
  simp only [Function.comp, id]
  have := h c hc
  rw [UInt8.toNat_ofNat']
  omega
theorem flat_all {L : List Nat} (hs : ∀ c ∈ L, c < 256) : ∀ t : Nat, flat ((List.range t).map (pcs L)) = L.take (t * 128)
  | 0 => by simp [flat]
  | t + 1 => by
    have ih := flat_all hs t
    unfold flat at *
    rw [List.range_succ, List.map_append, List.map_append, List.flatten_append, ih]
    have : bytesOf (pcs L t) = (L.drop (t * 128)).take 128 := bytesOf_str (fun c hc => hs c (List.mem_of_mem_drop (List.mem_of_mem_take hc)))
    simp only [List.map_cons, List.map_nil, List.flatten_cons, List.flatten_nil, List.append_nil, this]
    rw [Nat.add_mul, Nat.one_mul, List.take_add]
theorem Rst.whole {pt b r m st : Int} {L : List Nat} {on : Bool} {S : Sg} {P : List ByteArray} {C : List Bool} (hL : ∀ c ∈ L, c < 256) (h : cutE pt b r m st L.length = 0) (hr : Rst pt b r m st L on S P C) :
    rwE on S P = 0 ∧ rwF on S P = C.all id ∧ rwB on S P = if C.all id = true then L else [] := by
  have hg := hr.good h
  obtain ⟨h1, h2, h3, h4⟩ := cutE_open h
  obtain ⟨t1, t2, t3, t4⟩ := tot_bounds h3 h4
  obtain ⟨hC, hd⟩ := hr
  have hF : rwF on S P = C.all id := by
    unfold rwF
    rw [hg]
    rcases hd with ⟨rfl, rfl, rfl, h5⟩ | ⟨rfl, rfl, rfl, h5⟩
    · symm
      show C.all id = false
      rw [← Bool.not_eq_true, List.all_eq_true]
      intro ha
      rw [List.any_eq_false] at h5
      have h0 : 0 < C.length := by omega
      have := ha _ (List.getElem_mem h0)
      exact h5 _ (List.getElem_mem h0) this
    · rw [anyE_pie h3 h4 hC]
      simp
  refine ⟨if_pos hg, hF, ?_⟩
  unfold rwB
  rw [hF]
  split
  · rename_i ha
    rcases hd with ⟨rfl, rfl, rfl, h5⟩ | ⟨rfl, rfl, rfl, h5⟩
    · exfalso
      rw [List.all_eq_true] at ha
      rw [List.any_eq_false] at h5
      have h0 : 0 < C.length := by omega
      exact h5 _ (List.getElem_mem h0) (ha _ (List.getElem_mem h0))
    · have : pie L C = (List.range (tot L)).map (pcs L) := by
        unfold pie
        rw [hC]
        apply List.map_congr_left
        intro i hi
        rw [List.mem_range] at hi
        have hi' : i < C.length := by omega
        rw [if_pos]
        rw [List.getElem?_eq_getElem hi']
        rw [List.all_eq_true] at ha
        have := ha _ (List.getElem_mem hi')
        simp only [id] at this
        rw [this]
      rw [this, flat_all hL, List.take_of_length_le t3]
  · rfl
end Go.Proofs.YtnopclacchoijaaDoor
