/-
  What LinkOnce knows of the letters that were made: to whom they go, which are spent.
-/
import Derived.Test.YtgnkmenjjmfcfaaDoorLkFlush
import Derived.Test.YtgnkmenjjmfcfaaDoorLkNr
namespace Go.Proofs.YtgnkmenjjmfcfaaDoor
open Go.RowKit FerryCrc Q
set_option linter.unusedVariables false
set_option linter.unusedSimpArgs false

def bl (x : Bool) : List Value := [.bool x]
theorem bl1 (x : Bool) : (bl x).length = 1 := rfl
theorem infoB : (Tryd.prog.info? 4).map (fun i => (i.size, i.bytes, i.zero.map (·.cells))) = some (1, 1, some (bl false).toArray) := by kernel_rfl
theorem bl_one (l : List Bool) : ∀ u ∈ l.flatMap bl, u.oneCell' = true := by
  intro u hu
  obtain ⟨x, -, hx⟩ := List.mem_flatMap.1 hu
  simp only [bl, List.mem_singleton] at hx
  subst hx
  rfl
abbrev BlOwn (w : World) (base : Nat) (v : Value) (l : List Bool) : Prop := LOwn bl 1 4 w base v l
/-- A list of one's own lies apart from a link. -/
theorem lown_apart {α : Type} {f : α → List Value} {sz : Nat} {e : TypeId} (he : e ≠ 61) {w : World} {base lb mb : Nat} {v : Value} {S : List α} {L : Lk} (h : LOwn f sz e w base v S) (hl : LAt w lb mb L) {g : Nat} (hg : v.ownBlock = some g) : g ≠ lb ∧ g ≠ mb := by
  rcases h.2 with ⟨rfl, -⟩ | ⟨g', cap, cur, rfl, -, hh, -⟩
  · cases hg
  · simp only [Value.ownBlock, Option.some.injEq] at hg
    subst hg
    refine ⟨fun e' => ?_, fun e' => ?_⟩
    · subst e'
      have h1 := hl.bk
      unfold Bk at h1
      rw [hh] at h1
      have h2 := Option.some.inj h1
      injection h2 with h3 h4
      exact he h4
    · subst e'
      obtain ⟨D, ⟨es, clock, h1, -⟩, -⟩ := hl.own
      rw [hh] at h1
      cases h1
/-- Lists of unlike elements share no block. -/
theorem own_unlike {α β : Type} {f : α → List Value} {f' : β → List Value} {sz sz' : Nat} {e e' : TypeId} (he : e ≠ e') {w : World} {base base' : Nat} {v v' : Value} {l : List α} {l' : List β} (h : LOwn f sz e w base v l) (h' : LOwn f' sz' e' w base' v' l') {g : Nat} (hg : v.ownBlock = some g) : v'.ownBlock ≠ some g := fun hg' => by
  rcases h.2 with ⟨rfl, -⟩ | ⟨g1, cap, cur, rfl, -, hh, -⟩
  · cases hg
  · rcases h'.2 with ⟨rfl, -⟩ | ⟨g2, cap2, cur2, rfl, -, hh2, -⟩
    · cases hg'
    · simp only [Value.ownBlock, Option.some.injEq] at hg hg'
      subst hg hg'
      rw [hh] at hh2
      have h2 := Option.some.inj hh2
      injection h2 with h3 h4
      exact he h4
theorem own_box {α : Type} {f : α → List Value} {sz : Nat} {e ty : TypeId} (he : e ≠ ty) {w : World} {base b : Nat} {v : Value} {l : List α} {cs : List Value} (h : LOwn f sz e w base v l) (hb : Bk w b cs ty) : v.ownBlock ≠ some b := fun hg => by
  rcases h.2 with ⟨rfl, -⟩ | ⟨g1, cap, cur, rfl, -, hh, -⟩
  · cases hg
  · simp only [Value.ownBlock, Option.some.injEq] at hg
    subst hg
    unfold Bk at hb
    rw [hh] at hb
    have h2 := Option.some.inj hb
    injection h2 with h3 h4
    exact he h4
theorem step_keep {α : Type} {f : α → List Value} {sz : Nat} {e : TypeId} (he : e ≠ 61) {w w' : World} {base lb mb : Nat} {v : Value} {S : List α} {L : Lk} (hV : LOwn f sz e w base v S) (hL : LAt w lb mb L) (hf : Frm (TwoB lb mb) w w') : LOwn f sz e w' base v S :=
  hV.frm hf (fun g h1 h => by rcases h with h | h; exact (lown_apart he hV hL h1).1 h; exact (lown_apart he hV hL h1).2 h)
theorem step_grow {α : Type} {f : α → List Value} {sz : Nat} {e : TypeId} (he : e ≠ 61) {w0 w w' : World} {lb mb : Nat} {v : Value} {S : List α} {L : Lk} (hV : LOwn f sz e w w0.heap.size v S) (hL : LAt w lb mb L) (hB : Below w0.heap.size w0 w) (hg : w.grownBy w' v.ownBlock) : LAt w' lb mb L ∧ Below w0.heap.size w0 w' :=
  ⟨hL.frm (frm_grown hg) (fun h => (lown_apart he hV hL h).1 rfl) (fun h => (lown_apart he hV hL h).2 rfl), bel_grown hB hg (Nat.le_refl _) (fun b h => (World.ownsRow.lt hV b h).1)⟩
theorem step_other {α β : Type} {f : α → List Value} {f' : β → List Value} {sz sz' : Nat} {e e' : TypeId} (he : e ≠ e') {w w' : World} {base base' : Nat} {v v' : Value} {l : List α} {l' : List β} (h : LOwn f sz e w base v l) (h' : LOwn f' sz' e' w base' v' l') (hg : w.grownBy w' v.ownBlock) : LOwn f' sz' e' w' base' v' l' :=
  h'.frm (frm_grown hg) (fun g h1 h2 => own_unlike he h h' h2 h1)
theorem step_box {α : Type} {f : α → List Value} {sz : Nat} {e ty : TypeId} (he : e ≠ ty) {w w' : World} {base b : Nat} {v : Value} {l : List α} {cs : List Value} (h : LOwn f sz e w base v l) (hb : Bk w b cs ty) (hg : w.grownBy w' v.ownBlock) : Bk w' b cs ty := by
  have h1 := hb.lt
  have h2 := own_box he h hb
  unfold Bk at *
  rw [hg.block b h1 (Ne.symm h2)]
  exact hb
theorem lown_some {α : Type} {f : α → List Value} {sz : Nat} {e : TypeId} {w : World} {base : Nat} {a : Option Addr} {n c i : Nat} {l : List α} (h : LOwn f sz e w base (.slice a n c) l) (hi : i < n) : ∃ g, a = some ⟨g, 0, none⟩ := by
  rcases h.2 with ⟨e1, -⟩ | ⟨g, cap, cur, e1, -⟩
  · simp only [Value.slice.injEq] at e1
    omega
  · simp only [Value.slice.injEq] at e1
    exact ⟨g, e1.1⟩
/-- To whom each goes, and which are spent. -/
structure Inv2 (L : Lk) (T : List Int) (U : List Bool) : Prop where
  lenT : T.length = L.n
  lenU : U.length = L.n
  per : ∀ (k : Nat) t s, T[k]? = some t → U[k]? = some s → (s = true ∧ L.M ((k : Int) + 1) = none) ∨ (s = false ∧ ∃ x, L.M ((k : Int) + 1) = some x ∧ x.t = t)
  rng : ∀ t ∈ T, t = 0 ∨ t = 1
theorem inv2_nil : Inv2 ⟨0, fun _ => none⟩ [] [] := ⟨rfl, rfl, fun k t s h => by simp at h, fun t h => by simp at h⟩
theorem inv2_get {L : Lk} {T : List Int} {U : List Bool} (h : Inv2 L T U) {k : Nat} (hk : k < L.n) : ∃ t s, T[k]? = some t ∧ U[k]? = some s :=
  ⟨_, _, List.getElem?_eq_getElem (by rw [h.lenT]; exact hk), List.getElem?_eq_getElem (by rw [h.lenU]; exact hk)⟩
theorem inv2_there {L : Lk} {T : List Int} {U : List Bool} (h : Inv2 L T U) (ok : ∀ k x, L.M k = some x → 1 ≤ k ∧ k ≤ (L.n : Int)) {N : Int} (he : fE L N = 0) : ∃ k : Nat, N = (k : Int) + 1 ∧ k < L.n ∧ U[k]? = some false ∧ T[k]? = some (fv L N).t := by
  rcases fE_case L N with ⟨h1, -⟩ | ⟨-, -, h2⟩
  · rw [he] at h1; cases h1
  · obtain ⟨h3, h4⟩ := ok N _ h2
    obtain ⟨k, rfl⟩ : ∃ k : Nat, N = (k : Int) + 1 := ⟨(N - 1).toNat, by omega⟩
    obtain ⟨t, s, ht, hs⟩ := inv2_get h (k := k) (by omega)
    rcases h.per k t s ht hs with ⟨-, h5⟩ | ⟨rfl, x, h5, h6⟩
    · rw [h5] at h2; cases h2
    · rw [h2] at h5
      obtain rfl := Option.some.inj h5
      exact ⟨k, rfl, by omega, hs, by rw [ht, h6]⟩
theorem inv2_not {L : Lk} {T : List Int} {U : List Bool} (h : Inv2 L T U) {N : Int} (he : fE L N ≠ 0) : N < 1 ∨ (L.n : Int) < N ∨ ∃ k : Nat, N = (k : Int) + 1 ∧ k < L.n ∧ U[k]? = some true := by
  by_cases h1 : N < 1
  · exact .inl h1
  · by_cases h2 : (L.n : Int) < N
    · exact .inr (.inl h2)
    · obtain ⟨k, rfl⟩ : ∃ k : Nat, N = (k : Int) + 1 := ⟨(N - 1).toNat, by omega⟩
      obtain ⟨t, s, ht, hs⟩ := inv2_get h (k := k) (by omega)
      rcases h.per k t s ht hs with ⟨rfl, -⟩ | ⟨-, x, h5, -⟩
      · exact .inr (.inr ⟨k, rfl, by omega, hs⟩)
      · exfalso
        apply he
        unfold fE
        rw [h5]
        rfl
theorem inv2_more {L : Lk} {T : List Int} {U : List Bool} (h : Inv2 L T U) (x : Lt) (hx : x.t = 0 ∨ x.t = 1) : Inv2 ⟨L.n + 1, setM L.M ((L.n : Int) + 1) (some x)⟩ (T ++ [x.t]) (U ++ [false]) := by
  refine ⟨by rw [List.length_append, h.lenT]; rfl, by rw [List.length_append, h.lenU]; rfl, fun k t s ht hs => ?_, fun t ht => ?_⟩
  · dsimp only
    by_cases e : k = L.n
    · subst e
      rw [← h.lenT, List.getElem?_concat_length] at ht
      rw [← h.lenU, List.getElem?_concat_length] at hs
      obtain rfl := Option.some.inj ht
      obtain rfl := Option.some.inj hs
      exact .inr ⟨rfl, x, setM_same _ _ _, rfl⟩
    · have hk : k < L.n := by
        have := (List.getElem?_eq_some_iff.1 ht).1
        rw [List.length_append, h.lenT, List.length_singleton] at this
        omega
      rw [List.getElem?_append_left (by rw [h.lenT]; exact hk)] at ht
      rw [List.getElem?_append_left (by rw [h.lenU]; exact hk)] at hs
      rw [setM_ne _ _ (by omega)]
      exact h.per k t s ht hs
  · rcases List.mem_append.1 ht with ht | ht
    · exact h.rng t ht
    · rw [List.mem_singleton] at ht
      subst ht
      exact hx
theorem inv2_send {L : Lk} {T : List Int} {U : List Bool} (h : Inv2 L T U) (f t : Int) (s : ByteArray) (he : sE f t s = 0) : Inv2 (sL L f t s) (T ++ [t]) (U ++ [false]) := by
  unfold sL
  rw [if_pos he]
  refine inv2_more h ⟨f, t, s, false⟩ ?_
  dsimp only
  unfold sE at he
  split at he
  · rename_i ho
    unfold sOk at ho
    simp only [Bool.or_eq_true, Bool.and_eq_true, beq_iff_eq] at ho
    omega
  · cases he
theorem inv2_copy {L : Lk} {T : List Int} {U : List Bool} (h : Inv2 L T U) (ok : ∀ k x, L.M k = some x → 1 ≤ k ∧ k ≤ (L.n : Int)) {N : Int} (he : fE L N = 0) : Inv2 (cL L N) (T ++ [(fv L N).t]) (U ++ [false]) := by
  obtain ⟨k, -, -, -, h2⟩ := inv2_there h ok he
  unfold cL
  rw [if_pos he]
  exact inv2_more h _ (h.rng _ (List.mem_of_getElem? h2))
theorem inv2_spend {L : Lk} {T : List Int} {U : List Bool} (h : Inv2 L T U) (k : Nat) : Inv2 (tL L ((k : Int) + 1)) T (U.set k true) := by
  refine ⟨h.lenT, by rw [List.length_set]; exact h.lenU, fun j t s ht hs => ?_, h.rng⟩
  unfold tL
  dsimp only
  by_cases e : j = k
  · subst e
    rw [setM_same]
    rw [List.getElem?_set_self' ] at hs
    cases hu : U[j]? with
    | none => rw [hu] at hs; cases hs
    | some u => rw [hu] at hs; obtain rfl := Option.some.inj hs; exact .inl ⟨rfl, rfl⟩
  · rw [setM_ne _ _ (by omega)]
    rw [List.getElem?_set_ne (fun x => e x.symm)] at hs
    exact h.per j t s ht hs
theorem tL_none {L : Lk} {N : Int} (he : fE L N ≠ 0) : tL L N = L := by
  unfold tL
  obtain ⟨n, M⟩ := L
  congr 1
  funext j
  unfold setM
  split
  · rename_i e
    subst e
    rcases fE_case ⟨n, M⟩ j with ⟨-, h, -⟩ | ⟨h, -⟩
    · exact h.symm
    · exact absurd h he
  · rfl
/-- How many go to a module among the first k. -/
def cnt (L : Lk) (d : Int) (k : Nat) : Nat := (((List.range k).map (fun i : Nat => (i : Int) + 1)).filter (wtP L d)).length
theorem cnt_succ (L : Lk) (d : Int) (k : Nat) : cnt L d (k + 1) = cnt L d k + (if wtP L d ((k : Int) + 1) = true then 1 else 0) := by
  unfold cnt
  rw [List.range_succ, List.map_append, List.filter_append, List.length_append, List.map_singleton, List.filter_cons, List.filter_nil]
  split <;> rfl
theorem cnt_all (L : Lk) (d : Int) : cnt L d L.n = (wtL L d).length := rfl
theorem cnt_le (L : Lk) (d : Int) (k : Nat) : cnt L d k ≤ k := by
  unfold cnt
  refine Nat.le_trans (List.length_filter_le _ _) ?_
  rw [List.length_map, List.length_range]
  exact Nat.le_refl _
theorem wtP_at {L : Lk} {T : List Int} {U : List Bool} (h : Inv2 L T U) {k : Nat} {t : Int} {s : Bool} (ht : T[k]? = some t) (hs : U[k]? = some s) (d : Int) : wtP L d ((k : Int) + 1) = (decide (t = d) && !s) := by
  unfold wtP
  rcases h.per k t s ht hs with ⟨rfl, h1⟩ | ⟨rfl, x, h1, rfl⟩
  · rw [h1]; simp
  · rw [h1]; simp
/-- Flushing under way. -/
structure Fl (L : Lk) (d : Int) (U V : List Bool) (k : Nat) : Prop where
  len : V.length = U.length
  at_ : ∀ j, V[j]? = if j < k ∧ wtP L d ((j : Int) + 1) = true then some true else U[j]?
theorem fl_start (L : Lk) (d : Int) (U : List Bool) : Fl L d U U 0 := ⟨rfl, fun j => by simp⟩
theorem fl_now {L : Lk} {d : Int} {U V : List Bool} {k : Nat} (h : Fl L d U V k) : V[k]? = U[k]? := by
  rw [h.at_ k, if_neg (by omega)]
theorem fl_no {L : Lk} {d : Int} {U V : List Bool} {k : Nat} (h : Fl L d U V k) (hw : wtP L d ((k : Int) + 1) = false) : Fl L d U V (k + 1) := by
  refine ⟨h.len, fun j => ?_⟩
  rw [h.at_ j]
  by_cases e : j = k
  · subst e
    rw [if_neg (by omega), if_neg (by rw [hw]; simp)]
  · by_cases h2 : j < k
    · simp [h2, show j < k + 1 by omega]
    · rw [if_neg (fun x => h2 x.1), if_neg (fun x => h2 (by omega))]
theorem fl_yes {L : Lk} {d : Int} {U V : List Bool} {k : Nat} (h : Fl L d U V k) (hk : k < U.length) (hw : wtP L d ((k : Int) + 1) = true) : Fl L d U (V.set k true) (k + 1) := by
  refine ⟨by rw [List.length_set]; exact h.len, fun j => ?_⟩
  by_cases e : j = k
  · subst e
    rw [List.getElem?_set_self (by rw [h.len]; exact hk), if_pos ⟨by omega, hw⟩]
  · rw [List.getElem?_set_ne (fun x => e x.symm), h.at_ j]
    by_cases h2 : j < k
    · simp [h2, show j < k + 1 by omega]
    · rw [if_neg (fun x => h2 x.1), if_neg (fun x => h2 (by omega))]
theorem inv2_flush {L : Lk} {T : List Int} {U V : List Bool} (h : Inv2 L T U) (ok : ∀ k x, L.M k = some x → 1 ≤ k ∧ k ≤ (L.n : Int)) {d : Int} (hf : Fl L d U V L.n) : Inv2 (fuL L d) T V := by
  refine ⟨h.lenT, by rw [hf.len]; exact h.lenU, fun k t s ht hs => ?_, h.rng⟩
  have hk : k < L.n := by rw [← h.lenT]; exact (List.getElem?_eq_some_iff.1 ht).1
  have h1 := hf.at_ k
  rw [hs] at h1
  unfold fuL cutM
  dsimp only
  by_cases hw : wtP L d ((k : Int) + 1) = true
  · rw [if_pos ⟨hk, hw⟩] at h1
    have h2 : ((k : Int) + 1) ∈ wtL L d := (wtL_mem ok).2 (wtP_iff.1 hw)
    exact .inl ⟨Option.some.inj h1, if_pos h2⟩
  · rw [if_neg (fun x => hw x.2)] at h1
    have h2 : ¬ ((k : Int) + 1) ∈ wtL L d := fun x => hw (wtP_iff.2 ((wtL_mem ok).1 x))
    rw [if_neg h2]
    exact h.per k t s ht h1.symm
/-- The numbers of those that go to a module, from place k on. -/
def rst (L : Lk) (d : Int) (k : Nat) : List Int := ((List.range' k (L.n - k)).map (fun i : Nat => (i : Int) + 1)).filter (wtP L d)
theorem rst_zero (L : Lk) (d : Int) : rst L d 0 = wtL L d := by
  unfold rst wtL
  rw [Nat.sub_zero, List.range_eq_range']
theorem rst_step (L : Lk) (d : Int) {k : Nat} (hk : k < L.n) : rst L d k = if wtP L d ((k : Int) + 1) = true then ((k : Int) + 1) :: rst L d (k + 1) else rst L d (k + 1) := by
  unfold rst
  rw [show L.n - k = (L.n - (k + 1)) + 1 by omega, List.range'_succ, List.map_cons, List.filter_cons]
theorem rst_end (L : Lk) (d : Int) : rst L d L.n = [] := by
  unfold rst
  rw [Nat.sub_self]
  rfl
theorem rcs_tail {w : World} {b o n c : Nat} {x : Int} {l : List Int} (h : Rcs iv 1 w (some ⟨b, o, none⟩) (n + 1) (c + 1) (x :: l)) : Rcs iv 1 w (some ⟨b, o + 1, none⟩) n c l := by
  refine ⟨by have := h.size; simpa using this, ?_⟩
  have hr := h.row
  have h1 := hr.size
  have h2 := hr.fit
  refine ⟨?_, by omega, fun e => by simp at e, fun j v hv => ?_⟩
  · rw [List.flatMap_cons, List.length_append, iv1] at h1
    omega
  · obtain ⟨b', o', e, hc⟩ := hr.cell (j + 1) v (by rw [List.flatMap_cons]; exact hv)
    simp only [Option.some.injEq, Addr.mk.injEq, and_true] at e
    obtain ⟨rfl, rfl⟩ := e
    refine ⟨b, o + 1, rfl, ?_⟩
    rw [show o + 1 + j = o + (j + 1) by omega]
    exact hc
theorem rcs_tail2 {w : World} {b o n c : Nat} {x : Int} {l : List Int} (h : Rcs iv 1 w (some ⟨b, o, none⟩) (n + 1) (c + 1) (x :: l)) : Rcs iv 1 w (if c = 0 then some ⟨b, o, none⟩ else some ⟨b, o + 1, none⟩) n c l := by
  have h1 := rcs_tail h
  by_cases hc : c = 0
  · rw [if_pos hc]
    have h2 := h1.row.fit
    have h3 := h1.size
    obtain rfl : n = 0 := by omega
    obtain rfl : l = [] := List.length_eq_zero_iff.1 h3
    exact ⟨rfl, rfl, by omega, fun e => by simp at e, fun j v hv => by simp at hv⟩
  · rw [if_neg hc]
    exact h1
end Go.Proofs.YtgnkmenjjmfcfaaDoor
