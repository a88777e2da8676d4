/-
  What comes and what goes, counted.
-/
import Derived.Test.YtgcodajiehfloaaDoorPlEmit
namespace Go.Proofs.YtgcodajiehfloaaDoor
open Go.RowKit
set_option linter.unusedVariables false
set_option linter.unusedSimpArgs false

/-- Plans in form and ports that fit them. -/
structure OkK (ps : List Plv) (ks : List Key) : Prop where
  len : ps.length = ks.length
  each : ∀ (i : Nat) (p : Plv) (x : Key), ps[i]? = some p → ks[i]? = some x → chkK p x = 0
theorem okK_of {ps : List Plv} {ks : List Key} (h : (allE ps ks).1 = 0) : OkK ps ks := by
  obtain ⟨h1, h2, h3⟩ := allE_zero h
  exact ⟨h1, fun i p x hp hx => chkK_zero (good_plan h2 hp) (good_port h3 hp hx)⟩
theorem OkK.all {ps : List Plv} {ks : List Key} (h : OkK ps ks) : allE ps ks = (0, -1) := by
  have hx : ∀ (i : Nat) (p : Plv), ps[i]? = some p → ∃ x, ks[i]? = some x := fun i p hp => ⟨_, List.getElem?_eq_getElem (by rw [← h.len]; exact (List.getElem?_eq_some_iff.1 hp).1)⟩
  refine allE_no h.len (badPlan_no fun j q hj hq => ?_) (badPort_no fun j q y hj hq hy => ?_)
  · obtain ⟨x, hx⟩ := hx j q hq
    exact (chk0 (h.each j q x hq hx)).1
  · exact (chk0 (h.each j q y hq hy)).2
theorem aged_fit {p : Plv} {x : Key} (h : chkK p x = 0) : chkK p (agedK p x) = 0 := by
  have h1 := chk0 h
  have h2 := h1.2
  unfold fitB at h2
  simp only [Bool.and_eq_true, decide_eq_true_eq] at h2
  refine chkK_zero h1.1 ?_
  show fitB p.k p.s p.d x.1 (agedV p.k x.1.length x.2) = true
  unfold fitB
  simp only [Bool.and_eq_true, decide_eq_true_eq]
  refine ⟨⟨h2.1.1, ?_⟩, h2.2⟩
  unfold agedV
  have := ma_is p.k x.1.length
  split <;> omega
theorem OkK.aged {ps : List Plv} {ks : List Key} (h : OkK ps ks) : OkK ps (agedAll ps ks) := by
  refine ⟨(agedAll_len h.len).symm, fun i p y hp hy => ?_⟩
  obtain ⟨x, hx⟩ : ∃ x, ks[i]? = some x := ⟨_, List.getElem?_eq_getElem (by rw [← h.len]; exact (List.getElem?_eq_some_iff.1 hp).1)⟩
  rw [agedAll_at hp hx] at hy
  obtain rfl := Option.some.inj hy
  exact aged_fit (h.each i p x hp hx)
/-- What taking a message says. -/
theorem took_is {ps : List Plv} {ks : List Key} {m : Mgv} {y : Key} (h : took ps ks m = some y) :
    ∃ (i : Nat) (p : Plv) (x : Key), m.port = (i : Int) ∧ ps[i]? = some p ∧ ks[i]? = some x ∧ chkK p x = 0 ∧ (p.k = 1 ∨ p.k = 3) ∧ (m.data.size : Int) ≤ p.s ∧ y.2 = 0 ∧
      ((p.k = 1 ∧ y.1 = [m.data]) ∨ (p.k = 3 ∧ y.1 = x.1 ++ [m.data] ∧ ¬ (x.1.length : Int) = p.d)) := by
  unfold took at h
  split at h
  · rename_i h0
    obtain ⟨i, hi⟩ : ∃ i : Nat, m.port = (i : Int) := ⟨m.port.toNat, by omega⟩
    rw [show m.port.toNat = i by omega] at h
    cases hp : ps[i]? with
    | none => rw [hp] at h; simp at h
    | some p =>
      cases hx : ks[i]? with
      | none => rw [hp, hx] at h; simp at h
      | some x =>
        rw [hp, hx] at h
        simp only at h
        split at h
        · rename_i he
          obtain rfl := Option.some.inj h
          have hc : chkErr p.k p.s p.d p.r x.1 x.2 = 0 := by
            unfold movErr at he
            by_cases hc : chkErr p.k p.s p.d p.r x.1 x.2 = 0
            · exact hc
            · rw [if_neg hc] at he; exact he
          have hk : kin p.k = true := by
            unfold movErr at he
            rw [if_pos hc] at he
            by_cases hk : kin p.k = true
            · exact hk
            · rw [if_neg hk] at he; simp at he
          have ha : addErr p.k p.s p.d x.1 m.data = 0 := by
            unfold movErr at he
            rw [if_pos hc, if_pos hk] at he
            exact he
          have hL : movL true p.k p.s p.d p.r x.1 x.2 m.data = if kque p.k = true then x.1 ++ [m.data] else [m.data] := by
            unfold movL addL
            rw [if_pos ⟨hc, hk⟩, if_pos ha]
          have hkk : p.k = 1 ∨ p.k = 3 := by
            unfold kin at hk
            simpa using hk
          have hs : (m.data.size : Int) ≤ p.s := by
            unfold addErr at ha
            by_cases h9 : p.s < (m.data.size : Int)
            · rw [if_pos h9] at ha; simp at ha
            · omega
          refine ⟨i, p, x, hi, hp, hx, hc, hkk, hs, rfl, ?_⟩
          rcases hkk with h1 | h3
          · left
            refine ⟨h1, ?_⟩
            show movL _ _ _ _ _ _ _ _ = _
            rw [hL, if_neg (by rw [h1]; decide)]
          · right
            refine ⟨h3, ?_, ?_⟩
            · show movL _ _ _ _ _ _ _ _ = _
              rw [hL, if_pos (by rw [h3]; decide)]
            · unfold addErr at ha
              rw [if_neg (by omega), if_neg (by rw [h3]; decide)] at ha
              intro h9
              rw [if_pos h9] at ha
              simp at ha
        · simp at h
  · simp at h
theorem took_fit {p : Plv} {x y : Key} {D : ByteArray} (hc : chkK p x = 0) (hs : (D.size : Int) ≤ p.s) (h2 : y.2 = 0) (h : (p.k = 1 ∧ y.1 = [D]) ∨ (p.k = 3 ∧ y.1 = x.1 ++ [D] ∧ ¬ (x.1.length : Int) = p.d)) : chkK p y = 0 := by
  have h1 := chk0 hc
  have h3 := h1.2
  have h4 := pe_is p.k p.s p.d p.r
  unfold fitB at h3
  simp only [Bool.and_eq_true, decide_eq_true_eq] at h3
  refine chkK_zero h1.1 ?_
  show fitB p.k p.s p.d y.1 y.2 = true
  rw [h2]
  unfold fitB
  simp only [Bool.and_eq_true, decide_eq_true_eq]
  have h5 := ma_is p.k y.1.length
  rcases h with ⟨hk, e⟩ | ⟨hk, e, hn⟩
  · rw [e] at h5 ⊢
    refine ⟨⟨by simp; omega, by omega, by omega⟩, ?_⟩
    simp [shorts]
    exact hs
  · rw [e] at h5 ⊢
    refine ⟨⟨by simp; omega, by omega, by omega⟩, ?_⟩
    have h6 := h3.2
    unfold shorts at h6 ⊢
    rw [List.all_append, h6]
    simp
    exact hs
theorem OkK.next {ps : List Plv} {ks : List Key} (h : OkK ps ks) (m : Mgv) : OkK ps (nextK ps ks m) := by
  cases ht : took ps ks m with
  | none => rw [nextK_none ht]; exact h
  | some y =>
    rw [nextK_some ht]
    obtain ⟨i, p, x, hi, hp, hx, hc, _, hs, h2, h3⟩ := took_is ht
    rw [show m.port.toNat = i by omega]
    refine ⟨by rw [List.length_set]; exact h.len, fun j q z hq hz => ?_⟩
    rw [List.getElem?_set] at hz
    by_cases e : i = j
    · subst e
      have hl : i < ks.length := (List.getElem?_eq_some_iff.1 hx).1
      rw [if_pos rfl, if_pos hl] at hz
      obtain rfl := Option.some.inj hz
      rw [hp] at hq
      obtain rfl := Option.some.inj hq
      exact took_fit hc hs h2 h3
    · rw [if_neg e] at hz
      exact h.each j q z hq hz

/-! Sums. -/
def sumTo (f : Nat → Int) : Nat → Int
  | 0 => 0
  | n + 1 => sumTo f n + f n
theorem sumTo_congr {f g : Nat → Int} : ∀ {n : Nat}, (∀ i, i < n → f i = g i) → sumTo f n = sumTo g n
  | 0, _ => rfl
  | n + 1, h => by
    show sumTo f n + f n = sumTo g n + g n
    rw [sumTo_congr (fun i hi => h i (by omega)), h n (by omega)]
theorem sumTo_upd {f g : Nat → Int} {i : Nat} : ∀ {n : Nat}, i < n → (∀ j, j < n → j ≠ i → f j = g j) → sumTo g n = sumTo f n + (g i - f i)
  | 0, h, _ => by omega
  | n + 1, h, hh => by
    show sumTo g n + g n = sumTo f n + f n + _
    by_cases e : i = n
    · subst e
      rw [sumTo_congr (f := g) (g := f) (fun j hj => (hh j (by omega) (by omega)).symm)]
      omega
    · rw [sumTo_upd (n := n) (by omega) (fun j hj hne => hh j (by omega) hne), hh n (by omega) (by omega)]
      omega
theorem sumTo_add (f g : Nat → Int) : ∀ n, sumTo (fun i => f i + g i) n = sumTo f n + sumTo g n
  | 0 => rfl
  | n + 1 => by
    show sumTo _ n + (f n + g n) = sumTo f n + f n + (sumTo g n + g n)
    rw [sumTo_add f g n]
    omega
def lenAt (ks : List Key) (i : Nat) : Int := ((ks[i]?.map fun x => x.1.length).getD 0 : Nat)
def kindAt (ps : List Plv) (i : Nat) : Int := (ps[i]?.map Plv.k).getD 0
theorem lenAt_is {ks : List Key} {i : Nat} {x : Key} (h : ks[i]? = some x) : lenAt ks i = (x.1.length : Int) := by unfold lenAt; rw [h]; rfl
theorem kindAt_is {ps : List Plv} {i : Nat} {p : Plv} (h : ps[i]? = some p) : kindAt ps i = p.k := by unfold kindAt; rw [h]; rfl
/-- How many messages queuing ports in hold. -/
def que (ps : List Plv) (ks : List Key) (i : Nat) : Int := if kindAt ps i = 3 then lenAt ks i else 0
/-- Is the message one for a sampling port in, and short enough? -/
def smp (ps : List Plv) (m : Mgv) : Bool := decide (0 ≤ m.port) && (match ps[m.port.toNat]? with | some p => decide (p.k = 1) && decide ((m.data.size : Int) ≤ p.s) | none => false)
def smpAt (ps : List Plv) (ms : List Mgv) (i : Nat) : Int := match ms[i]? with | some m => if smp ps m = true then 1 else 0 | none => 0
theorem lenAt_set {ks : List Key} {i j : Nat} {x y : Key} (hx : ks[i]? = some x) : lenAt (ks.set i y) j = if j = i then (y.1.length : Int) else lenAt ks j := by
  unfold lenAt
  rw [List.getElem?_set]
  have hl : i < ks.length := (List.getElem?_eq_some_iff.1 hx).1
  by_cases e : i = j
  · subst e
    rw [if_pos rfl, if_pos hl, if_pos rfl]
    rfl
  · rw [if_neg e, if_neg (Ne.symm e)]
/-- One message: counted once. -/
theorem step_count {ps : List Plv} {ks : List Key} {R : List Int} {m : Mgv} (h : OkK ps ks) :
    sumTo (que ps (stepK ps (ks, R) m).1) ps.length + ((stepK ps (ks, R) m).2.length : Int) + (if smp ps m = true then 1 else 0) = sumTo (que ps ks) ps.length + (R.length : Int) + 1 := by
  cases ht : took ps ks m with
  | none =>
    rw [stepK_none ht]
    have hs : smp ps m = false := by
      cases hsm : smp ps m with
      | false => rfl
      | true =>
        exfalso
        unfold smp at hsm
        simp only [Bool.and_eq_true, decide_eq_true_eq] at hsm
        obtain ⟨h0, h1⟩ := hsm
        cases hp : ps[m.port.toNat]? with
        | none => rw [hp] at h1; simp at h1
        | some p =>
          rw [hp] at h1
          simp only [Bool.and_eq_true, decide_eq_true_eq] at h1
          obtain ⟨x, hx⟩ : ∃ x, ks[m.port.toNat]? = some x := ⟨_, List.getElem?_eq_getElem (by rw [← h.len]; exact (List.getElem?_eq_some_iff.1 hp).1)⟩
          have hc : chkErr p.k p.s p.d p.r x.1 x.2 = 0 := h.each _ p x hp hx
          have he : movErr true p.k p.s p.d p.r x.1 x.2 m.data = 0 := by
            unfold movErr
            rw [if_pos hc, if_pos (by rw [h1.1]; decide)]
            unfold addErr
            rw [if_neg (by omega), if_pos (by rw [h1.1]; decide)]
          have := took_at (m := m) (j := m.port.toNat) (by omega) hp hx
          rw [if_pos he, ht] at this
          simp at this
    rw [hs]
    simp
    omega
  | some y =>
    rw [stepK_some ht]
    obtain ⟨i, p, x, hi, hp, hx, hc, hk, hs, h2, h3⟩ := took_is ht
    rw [show m.port.toNat = i by omega]
    have hil : i < ps.length := (List.getElem?_eq_some_iff.1 hp).1
    have hsm : smp ps m = decide (p.k = 1) := by
      unfold smp
      rw [show m.port.toNat = i by omega, hp]
      simp only
      rw [decide_eq_true (show 0 ≤ m.port by omega), decide_eq_true hs]
      simp
    have hu := sumTo_upd (f := que ps ks) (g := que ps (ks.set i y)) hil (fun j hj hne => by
      unfold que
      rw [lenAt_set hx, if_neg hne])
    have hd : que ps (ks.set i y) i - que ps ks i = if p.k = 3 then 1 else 0 := by
      unfold que
      rw [kindAt_is hp, lenAt_set hx, if_pos rfl, lenAt_is hx]
      rcases h3 with ⟨hk1, e⟩ | ⟨hk3, e, _⟩
      · rw [if_neg (by omega), if_neg (by omega), if_neg (by omega)]; rfl
      · rw [if_pos hk3, if_pos hk3, if_pos hk3, e]
        simp
        omega
    rw [hu, hd, hsm]
    rcases hk with hk | hk
    · rw [if_neg (by omega), decide_eq_true hk]; simp
    · rw [if_pos hk, decide_eq_false (by omega)]; simp; omega
theorem fold_count {ps : List Plv} {ks : List Key} (ms : List Mgv) (h : OkK ps ks) : ∀ j, j ≤ ms.length →
    OkK ps ((ms.take j).foldl (stepK ps) (ks, [])).1 ∧ sumTo (que ps ((ms.take j).foldl (stepK ps) (ks, [])).1) ps.length + (((ms.take j).foldl (stepK ps) (ks, [])).2.length : Int) + sumTo (smpAt ps ms) j = sumTo (que ps ks) ps.length + (j : Int)
  | 0, _ => ⟨h, by simp [sumTo]⟩
  | j + 1, hj => by
    obtain ⟨h1, h2⟩ := fold_count ms h j (by omega)
    obtain ⟨m, hm⟩ : ∃ m, ms[j]? = some m := ⟨_, List.getElem?_eq_getElem (by omega)⟩
    rw [fold_next hm]
    generalize hst : (ms.take j).foldl (stepK ps) (ks, []) = st at *
    obtain ⟨K, R⟩ := st
    simp only at h1 h2
    have h3 := step_count (R := R) (m := m) h1
    refine ⟨?_, ?_⟩
    · have := h1.next m
      unfold nextK at this
      have e : (stepK ps (K, R) m).1 = (stepK ps (K, []) m).1 := by
        rw [stepK_eq, stepK_eq]
      rw [e]
      exact this
    · show _ + _ + (sumTo (smpAt ps ms) j + smpAt ps ms j) = _
      have e : smpAt ps ms j = if smp ps m = true then 1 else 0 := by unfold smpAt; rw [hm]
      rw [e]
      push_cast
      omega
theorem que_aged {ps : List Plv} {ks : List Key} (h : ps.length = ks.length) : sumTo (que ps (agedAll ps ks)) ps.length = sumTo (que ps ks) ps.length := by
  refine sumTo_congr fun i hi => ?_
  obtain ⟨p, hp⟩ : ∃ p, ps[i]? = some p := ⟨_, List.getElem?_eq_getElem hi⟩
  obtain ⟨x, hx⟩ : ∃ x, ks[i]? = some x := ⟨_, List.getElem?_eq_getElem (by omega)⟩
  unfold que
  rw [lenAt_is hx, lenAt_is (agedAll_at hp hx)]
  rfl
/-- Arrive: all counted. -/
theorem arrive_count {ps : List Plv} {ks : List Key} (ms : List Mgv) (h : OkK ps ks) :
    OkK ps (arrive ps ks ms).1 ∧ sumTo (fun i => que ps (arrive ps ks ms).1 i - que ps ks i) ps.length + sumTo (smpAt ps ms) ms.length + ((arrive ps ks ms).2.length : Int) = (ms.length : Int) := by
  have h1 := fold_count ms h.aged ms.length (Nat.le_refl _)
  rw [List.take_length] at h1
  obtain ⟨h2, h3⟩ := h1
  refine ⟨h2, ?_⟩
  rw [que_aged h.len] at h3
  have h4 := sumTo_add (fun i => que ps (arrive ps ks ms).1 i - que ps ks i) (que ps ks) ps.length
  have h5 : sumTo (fun i => que ps (arrive ps ks ms).1 i - que ps ks i + que ps ks i) ps.length = sumTo (que ps (arrive ps ks ms).1) ps.length := sumTo_congr fun i _ => by omega
  rw [h5] at h4
  unfold arrive at h4 ⊢
  omega
/-- Emit: all counted. -/
theorem emit_count {ps : List Plv} {ks : List Key} (h : ps.length = ks.length) : ∀ n, n ≤ ps.length → sumTo (lenAt (endAll ps ks)) n + ((emit ps ks n).length : Int) = sumTo (lenAt ks) n
  | 0, _ => by simp [sumTo, emit]
  | n + 1, hn => by
    have ih := emit_count h n (by omega)
    obtain ⟨p, hp⟩ : ∃ p, ps[n]? = some p := ⟨_, List.getElem?_eq_getElem (by omega)⟩
    obtain ⟨x, hx⟩ : ∃ x, ks[n]? = some x := ⟨_, List.getElem?_eq_getElem (by omega)⟩
    show sumTo _ n + lenAt (endAll ps ks) n + _ = sumTo _ n + lenAt ks n
    rw [emit_at hp hx, lenAt_is (endAll_at hp hx), lenAt_is hx, List.length_append]
    unfold endK emK
    split
    · simp; omega
    · simp; omega
theorem emit_pre {ps : List Plv} {ks : List Key} : ∀ {n i : Nat}, i ≤ n → ∃ t, emit ps ks n = emit ps ks i ++ t := by
  intro n i h
  induction n with
  | zero => obtain rfl : i = 0 := by omega
            exact ⟨[], by simp⟩
  | succ n ih =>
    by_cases e : i = n + 1
    · subst e; exact ⟨[], by simp⟩
    · obtain ⟨t, ht⟩ := ih (by omega)
      refine ⟨t ++ (match ps[n]?, ks[n]? with | some p, some x => emK n p x | _, _ => []), ?_⟩
      rw [← List.append_assoc, ← ht]
      rfl
/-- The k-th message of an out port stands in its place. -/
theorem emit_place {ps : List Plv} {ks : List Key} {n i k : Nat} {p : Plv} {x : Key} {d : ByteArray} (hn : i < n) (hp : ps[i]? = some p) (hx : ks[i]? = some x) (hk : kin p.k = false) (hd : x.1[k]? = some d) :
    (emit ps ks n)[(emit ps ks i).length + k]? = some ⟨(i : Int), d⟩ := by
  obtain ⟨t, ht⟩ := emit_pre (ps := ps) (ks := ks) (i := i + 1) (n := n) (by omega)
  have hkl : k < x.1.length := (List.getElem?_eq_some_iff.1 hd).1
  rw [ht, emit_at hp hx, List.append_assoc, List.getElem?_append_right (by omega), Nat.add_sub_cancel_left]
  have e : emK i p x = emL i x.1 := by unfold emK; rw [if_neg (by rw [hk]; decide)]; rfl
  rw [e, List.getElem?_append_left (by unfold emL; rw [List.length_map]; exact hkl)]
  unfold emL
  rw [List.getElem?_map, hd]
  rfl
end Go.Proofs.YtgcodajiehfloaaDoor
