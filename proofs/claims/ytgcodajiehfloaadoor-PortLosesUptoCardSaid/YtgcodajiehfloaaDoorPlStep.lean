/-
  A frame's begin and its end, for all ports: what becomes of them.
-/
import Derived.Test.YtgcodajiehfloaaDoorPlAll0
import Derived.Test.YtgcodajiehfloaaDoorPtPut
namespace Go.Proofs.YtgcodajiehfloaaDoor
open Go.RowKit
set_option linter.unusedVariables false
set_option linter.unusedSimpArgs false

theorem movL_len (b : Bool) (k s d r : Int) (l : List ByteArray) (age : Int) (D : ByteArray) : (movL b k s d r l age D).length ≤ 8796093022207 := by
  unfold movL
  split
  · rename_i h
    have h2 := (chk0 h.1).2
    have hp := pe_is k s d r
    have hp0 := (chk0 h.1).1
    unfold fitB at h2
    simp only [Bool.and_eq_true, decide_eq_true_eq] at h2
    unfold addL
    split
    · split
      · rw [List.length_append]; simp only [List.length_cons, List.length_nil]; omega
      · simp
    · simp
  · simp
theorem movL_small (b : Bool) (k s d r : Int) {l : List ByteArray} (age : Int) {D : ByteArray} (h : Smalls l) (hD : D.size ≤ 9223372036854775807) : Smalls (movL b k s d r l age D) := by
  unfold movL
  split
  · unfold addL
    split
    · split
      · intro x hx
        rcases List.mem_append.1 hx with hx | hx
        · exact h x hx
        · rw [List.mem_singleton.1 hx]; exact hD
      · exact fun y hy => by rw [List.mem_singleton.1 hy]; exact hD
    · intro x hx; simp at hx
  · intro x hx; simp at hx

theorem PrOwn.snoc {w w' : World} {base g cap : Nat} {v : Value} {l : List Pr} {q : Pr} (h : PrOwn w base v l) (hq : q.Shows w) (hf : q.off v.ownBlock)
    (h1 : w'.ownsRow base 26 2 (.slice (some ⟨g, 0, none⟩) (l.length + 1) cap) (l.length + 1) (l.flatMap Pr.cells ++ q.cells)) (hg : w.grownBy w' v.ownBlock) (hat : v.ownBlock = some g ∨ g = w.heap.size) :
    PrOwn w' base (.slice (some ⟨g, 0, none⟩) (l.length + 1) cap) (l ++ [q]) := by
  refine ⟨?_, fun x hx => ?_, fun x hx => ?_⟩
  · rw [List.length_append, List.flatMap_append]
    simpa using h1
  · rcases List.mem_append.1 hx with hx | hx
    · exact (h.shows_ x hx).grown hg (h.far x hx)
    · obtain rfl := List.mem_singleton.1 hx
      exact hq.grown hg hf
  · show x.off (some g)
    rcases List.mem_append.1 hx with hx | hx
    · rcases hat with e | rfl
      · rw [← e]; exact h.far x hx
      · exact (h.shows_ x hx).fresh (Nat.le_refl _)
    · obtain rfl := List.mem_singleton.1 hx
      rcases hat with e | rfl
      · rw [← e]; exact hf
      · exact hq.fresh (Nat.le_refl _)
/-- Beside another list that grew. -/
theorem PrOff.moved {w : World} {base g : Nat} {u v : Value} {l : List Pr} (h : PrOwn w base v l) (ho : PrOff u.ownBlock v l) (hat : u.ownBlock = some g ∨ g = w.heap.size) : PrOff (some g) v l := by
  rcases hat with e | rfl
  · rw [← e]; exact ho
  · exact h.fresh (Nat.le_refl _)

/-- Where the message is taken: the port behind it. -/
def took (ps : List Plv) (ks : List Key) (m : Mgv) : Option Key :=
  if 0 ≤ m.port then
    match ps[m.port.toNat]?, ks[m.port.toNat]? with
    | some p, some x => if movErr true p.k p.s p.d p.r x.1 x.2 m.data = 0 then some (movL true p.k p.s p.d p.r x.1 x.2 m.data, 0) else none
    | _, _ => none
  else none
/-- One message comes: the ports, and the numbers of the ports whose message was lost. -/
def stepK (ps : List Plv) (st : List Key × List Int) (m : Mgv) : List Key × List Int :=
  match took ps st.1 m with
  | some y => (st.1.set m.port.toNat y, st.2)
  | none => (st.1, st.2 ++ [m.port])
def agedK (p : Plv) (x : Key) : Key := (x.1, agedV p.k x.1.length x.2)
def agedAll (ps : List Plv) (ks : List Key) : List Key := (ps.zip ks).map fun x => agedK x.1 x.2
def arrive (ps : List Plv) (ks : List Key) (ms : List Mgv) : List Key × List Int := ms.foldl (stepK ps) (agedAll ps ks, [])
theorem took_low {ps : List Plv} {ks : List Key} {m : Mgv} (h : m.port < 0) : took ps ks m = none := by unfold took; rw [if_neg (by omega)]
theorem took_high {ps : List Plv} {ks : List Key} {m : Mgv} (h : (ps.length : Int) ≤ m.port) : took ps ks m = none := by
  unfold took
  split
  · have e : ps[m.port.toNat]? = none := List.getElem?_eq_none (by omega)
    rw [e]
  · rfl
theorem took_at {ps : List Plv} {ks : List Key} {m : Mgv} {j : Nat} {p : Plv} {x : Key} (hj : m.port = (j : Int)) (hp : ps[j]? = some p) (hx : ks[j]? = some x) :
    took ps ks m = if movErr true p.k p.s p.d p.r x.1 x.2 m.data = 0 then some (movL true p.k p.s p.d p.r x.1 x.2 m.data, 0) else none := by
  unfold took
  rw [if_pos (by omega), show m.port.toNat = j by omega, hp, hx]
theorem stepK_none {ps : List Plv} {st : List Key × List Int} {m : Mgv} (h : took ps st.1 m = none) : stepK ps st m = (st.1, st.2 ++ [m.port]) := by unfold stepK; rw [h]
theorem stepK_some {ps : List Plv} {st : List Key × List Int} {m : Mgv} {y : Key} (h : took ps st.1 m = some y) : stepK ps st m = (st.1.set m.port.toNat y, st.2) := by unfold stepK; rw [h]
theorem stepK_len (ps : List Plv) (st : List Key × List Int) (m : Mgv) : (stepK ps st m).1.length = st.1.length ∧ (stepK ps st m).2.length ≤ st.2.length + 1 := by
  unfold stepK
  split
  · exact ⟨by simp, by simp⟩
  · exact ⟨rfl, by simp⟩
theorem fold_next {ps : List Plv} {st : List Key × List Int} {ms : List Mgv} {k : Nat} {m : Mgv} (hm : ms[k]? = some m) : (ms.take (k + 1)).foldl (stepK ps) st = stepK ps ((ms.take k).foldl (stepK ps) st) m := by
  rw [List.take_add_one, hm]
  simp
theorem fold_len (ps : List Plv) (st : List Key × List Int) : ∀ ms : List Mgv, (ms.foldl (stepK ps) st).1.length = st.1.length ∧ (ms.foldl (stepK ps) st).2.length ≤ st.2.length + ms.length := by
  intro ms
  induction ms generalizing st with
  | nil => exact ⟨rfl, by simp⟩
  | cons m ms ih =>
    have h1 := ih (stepK ps st m)
    have h2 := stepK_len ps st m
    rw [List.foldl_cons]
    exact ⟨h1.1.trans h2.1, by rw [List.length_cons]; omega⟩
theorem agedAll_len {ps : List Plv} {ks : List Key} (h : ps.length = ks.length) : (agedAll ps ks).length = ps.length := by simp [agedAll]; omega
theorem agedAll_at {ps : List Plv} {ks : List Key} {k : Nat} {p : Plv} {x : Key} (hp : ps[k]? = some p) (hx : ks[k]? = some x) : (agedAll ps ks)[k]? = some (agedK p x) := by
  unfold agedAll
  rw [List.getElem?_map, zip_at hp hx]
  rfl

/-- What a frame's end leaves of a port, and what it emits. -/
def endK (p : Plv) (x : Key) : Key := if kin p.k = true then x else ([], 0)
def endAll (ps : List Plv) (ks : List Key) : List Key := (ps.zip ks).map fun x => endK x.1 x.2
def emK (i : Nat) (p : Plv) (x : Key) : List Mgv := if kin p.k = true then [] else x.1.map fun d => ⟨(i : Int), d⟩
/-- What the first k ports emit. -/
def emit (ps : List Plv) (ks : List Key) : Nat → List Mgv
  | 0 => []
  | k + 1 => emit ps ks k ++ match ps[k]?, ks[k]? with | some p, some x => emK k p x | _, _ => []
theorem endAll_at {ps : List Plv} {ks : List Key} {k : Nat} {p : Plv} {x : Key} (hp : ps[k]? = some p) (hx : ks[k]? = some x) : (endAll ps ks)[k]? = some (endK p x) := by
  unfold endAll
  rw [List.getElem?_map, zip_at hp hx]
  rfl
theorem endAll_len {ps : List Plv} {ks : List Key} (h : ps.length = ks.length) : (endAll ps ks).length = ps.length := by simp [endAll]; omega
theorem emit_at {ps : List Plv} {ks : List Key} {k : Nat} {p : Plv} {x : Key} (hp : ps[k]? = some p) (hx : ks[k]? = some x) : emit ps ks (k + 1) = emit ps ks k ++ emK k p x := by
  show emit ps ks k ++ _ = _
  rw [hp, hx]
theorem fit_len {p : Plv} {x : Key} (h1 : p.err = 0) (h2 : fitK p x = true) : x.1.length ≤ 8 ∧ 0 ≤ x.2 ∧ x.2 ≤ 255 := by
  unfold fitK fitB at h2
  simp only [Bool.and_eq_true, decide_eq_true_eq] at h2
  have h3 := ma_is p.k x.1.length
  have h4 := pe_is p.k p.s p.d p.r
  unfold Plv.err at h1
  omega
theorem emit_len {ps : List Plv} {ks : List Key} (h1 : badPlan ps = none) (h2 : badPort ps ks = none) : ∀ k, (emit ps ks k).length ≤ 8 * k
  | 0 => by simp [emit]
  | k + 1 => by
    have := emit_len h1 h2 k
    unfold emit
    rw [List.length_append]
    split
    · rename_i p x hp hx
      have hf := fit_len (good_plan h1 hp) (good_port h2 hp hx)
      unfold emK
      split
      · simp; omega
      · rw [List.length_map]; omega
    · simp; omega
end Go.Proofs.YtgcodajiehfloaaDoor
