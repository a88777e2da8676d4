/-
  The document's List: again and again the least one.
-/
import Derived.Test.YtdckpecalglnoaaDoorTrBase
namespace Go.Proofs.YtdckpecalglnoaaDoor
open Classical
open Go.RowKit
set_option linter.unusedVariables false
set_option linter.unusedSimpArgs false

/-- The timers that such a list says. -/
def rem (D : Du) : List Tm := ((List.range 8).filter fun i => decide (0 ≤ D i)).map fun (i : Nat) => ⟨(i : Int), D i⟩
theorem rem_mem {D : Du} {t : Tm} : t ∈ rem D ↔ ∃ i : Nat, i < 8 ∧ 0 ≤ D i ∧ t = ⟨(i : Int), D i⟩ := by
  unfold rem
  rw [List.mem_map]
  constructor
  · rintro ⟨i, hi, rfl⟩
    rw [List.mem_filter, List.mem_range] at hi
    exact ⟨i, hi.1, by simpa using hi.2, rfl⟩
  · rintro ⟨i, h1, h2, rfl⟩
    exact ⟨i, by rw [List.mem_filter, List.mem_range]; exact ⟨h1, by simpa using h2⟩, rfl⟩
theorem rem_nodup (D : Du) : (rem D).Nodup := by
  unfold rem List.Nodup
  rw [List.pairwise_map]
  refine (List.Pairwise.filter _ List.nodup_range).imp fun {a b} hab e => hab ?_
  simp only [Tm.mk.injEq] at e
  omega
theorem rem_len (D : Du) : (rem D).length ≤ 8 := by
  unfold rem
  rw [List.length_map]
  exact Nat.le_trans (List.length_filter_le _ _) (by rw [List.length_range]; exact Nat.le_refl _)
theorem rem_put {D : Du} {m : Nat} (hm : m < 8) (h0 : 0 ≤ D m) : (rem D).Perm (⟨(m : Int), D m⟩ :: rem (put D m (-1))) := by
  refine (List.perm_ext_iff_of_nodup (rem_nodup D) ?_).2 fun t => ?_
  · refine List.nodup_cons.2 ⟨fun h => ?_, rem_nodup _⟩
    obtain ⟨i, hi, h1, h2⟩ := rem_mem.1 h
    simp only [Tm.mk.injEq] at h2
    have : i = m := by omega
    subst this
    simp [put] at h1
  · rw [List.mem_cons, rem_mem, rem_mem]
    constructor
    · rintro ⟨i, hi, h1, rfl⟩
      by_cases e : i = m
      · subst e; exact .inl rfl
      · exact .inr ⟨i, hi, by simp [put, e, h1], by simp [put, e]⟩
    · rintro (rfl | ⟨i, hi, h1, rfl⟩)
      · exact ⟨m, hm, h0, rfl⟩
      · by_cases e : i = m
        · subst e; simp [put] at h1
        · exact ⟨i, hi, by simpa [put, e] using h1, by simp [put, e]⟩
def lenV : Value → Nat | .slice _ n _ => n | _ => 0

/-- The least of the first k. -/
def Least (D : Du) (k : Nat) (z : Int) : Prop := (z = -1 ∧ ∀ i, i < k → D i < 0) ∨ ∃ m : Nat, z = (m : Int) ∧ m < k ∧ 0 ≤ D m ∧ ∀ i, i < k → 0 ≤ D i → D m < D i ∨ (D m = D i ∧ m ≤ i)
/-- How far the list is made. -/
structure Made (D D' : Du) (M : List Tm) : Prop where
  perm : (M ++ rem D').Perm (rem D)
  ord : Ord M
  ahead : ∀ a ∈ M, ∀ b ∈ rem D', a.le b = true
theorem Made.len {D D' : Du} {M : List Tm} (h : Made D D' M) : M.length + (rem D').length ≤ 8 := by
  have := h.perm.length_eq
  rw [List.length_append] at this
  have := rem_len D
  omega
theorem Made.done {D D' : Du} {M : List Tm} (h : Made D D' M) (hn : ∀ i, i < 8 → D' i < 0) : M = srt (rem D) := by
  have : rem D' = [] := List.eq_nil_iff_forall_not_mem.2 fun t ht => by
    obtain ⟨i, hi, h1, _⟩ := rem_mem.1 ht
    have := hn i hi
    omega
  have hp := h.perm
  rw [this, List.append_nil] at hp
  exact ord_unique h.ord (srt_ord _) (hp.trans (srt_perm _).symm)
theorem Made.next {D D' : Du} {M : List Tm} (h : Made D D' M) {m : Nat} (hm : m < 8) (h0 : 0 ≤ D' m) (hl : ∀ i, i < 8 → 0 ≤ D' i → D' m < D' i ∨ (D' m = D' i ∧ m ≤ i)) : Made D (put D' m (-1)) (M ++ [⟨(m : Int), D' m⟩]) := by
  have hp := rem_put hm h0
  refine ⟨?_, ?_, ?_⟩
  · rw [List.append_assoc]
    exact ((hp.symm.append_left M)).trans h.perm
  · refine List.pairwise_append.2 ⟨h.ord, List.pairwise_singleton _ _, fun a ha b hb => ?_⟩
    rw [List.mem_singleton.1 hb]
    exact h.ahead a ha _ (hp.mem_iff.2 (by simp))
  · intro a ha b hb
    have hb' : b ∈ rem D' := hp.mem_iff.2 (by simp [hb])
    rcases List.mem_append.1 ha with ha | ha
    · exact h.ahead a ha b hb'
    · rw [List.mem_singleton.1 ha, Tm.le_iff]
      obtain ⟨i, hi, h1, rfl⟩ := rem_mem.1 hb'
      have := hl i hi h1
      simp only
      omega

set_option maxRecDepth 100000 in
set_option maxHeartbeats 4000000 in
theorem list_any (D : Du) (w : World) : Calls Tryd.prog 36 #[dv D] w fun e w' => ∃ v, e = .returned v ∧ TOwn w' w.heap.size v (srt (rem D)) ∧ Below w.heap.size w w' := by
  have Z0 := hide (d8_alloc w D 71)
  have X0 := hide (new_below w (.cells #[.int .i64 (D 0), .int .i64 (D 1), .int .i64 (D 2), .int .i64 (D 3), .int .i64 (D 4), .int .i64 (D 5), .int .i64 (D 6), .int .i64 (D 7)] 71))
  have HI := hide infoTimer
  unfold dv
  go_enter Tryd.func36, Tryd.ntmps36
  go_wp2
  have hz : w.heap.size < (w.alloc (.cells #[.int .i64 (D 0), .int .i64 (D 1), .int .i64 (D 2), .int .i64 (D 3), .int .i64 (D 4), .int .i64 (D 5), .int .i64 (D 6), .int .i64 (D 7)] 71)).heap.size := by simp
  generalize w.alloc (.cells #[.int .i64 (D 0), .int .i64 (D 1), .int .i64 (D 2), .int .i64 (D 3), .int .i64 (D 4), .int .i64 (D 5), .int .i64 (D 6), .int .i64 (D 7)] 71) = W0 at *
  go_loopw [3] (fun o wr => ∃ (D' : Du) (M : List Tm), lenV o = M.length ∧ W0.heap.size ≤ wr.heap.size ∧ Hid (D8 wr w.heap.size D') ∧ Hid (TOwn wr W0.heap.size o M) ∧ Hid (Made D D' M) ∧ Hid (Below w.heap.size w wr)) (fun o _ => 8 - lenV o)
  case atStart => exact ⟨D, [], rfl, Nat.le_refl _, Z0.out, town_nil _ _, ⟨by simp, List.Pairwise.nil, fun a ha => by simp at ha⟩, X0.out⟩
  case round =>
    obtain ⟨D', M, hln, hW, hd, hown, hmade, hb⟩ := hrel
    obtain ⟨W1, hW1⟩ : ∃ W, W = wr := ⟨_, rfl⟩
    subst hW1
    go_wp2
    go_loopw [4, 5] (fun q i wx => ∃ (k : Nat) (z : Int), k ≤ 8 ∧ i = .int .i64 (k : Int) ∧ q = .int .i64 z ∧ Hid (Least D' k z) ∧ Hid (Below W1.heap.size W1 wx)) (fun _ i _ => 8 - (intOf i).toNat)
    case atStart => exact ⟨0, -1, by omega, rfl, rfl, .inl ⟨rfl, fun i hi => by omega⟩, Below.refl _ _⟩
    case round =>
      obtain ⟨k, z, hk, rfl, rfl, hle, hbx⟩ := hrel
      by_cases hlt : k < 8
      · have dk := hd.out.below hbx.out
        have c0 := dk.c hlt
        have k0 : (0 : Int) ≤ (k : Int) := by omega
        have k8 : (k : Int) < 8 := by omega
        have d8 : decide ((k : Int) < 8) = true := decide_eq_true k8
        by_cases hneg : D' k < 0
        · have e1 : decide (0 ≤ D' k) = false := decide_eq_false (by omega)
          have HL : Hid (Least D' (k + 1) z) := by
            rcases hle.out with ⟨h1, h2⟩ | ⟨m, h1, h2, h3, h4⟩
            · exact .inl ⟨h1, fun i hi => by by_cases e : i = k; · subst e; exact hneg
                                             · exact h2 i (by omega)⟩
            · exact .inr ⟨m, h1, by omega, h3, fun i hi h => by by_cases e : i = k; · subst e; omega
                                                                · exact h4 i (by omega) h⟩
          clear hneg dk
          generalize D' k = dk' at *
          go_wp2
          go_quiet (fail)
          go_wp2
          go_roundw
          case rel => exact ⟨k + 1, z, by omega, by go_num, rfl, HL.out, drewN_below hbx.out nq⟩
          case measure => simp [intOf]; omega
        have e1 : decide (0 ≤ D' k) = true := decide_eq_true (by omega)
        rcases hle.out with ⟨rfl, h2⟩ | ⟨m, rfl, h2, h3, h4⟩
        · have HL : Hid (Least D' (k + 1) (k : Int)) := .inr ⟨k, rfl, by omega, by omega, fun i hi h => by
            by_cases e : i = k
            · subst e; omega
            · have := h2 i (by omega); omega⟩
          clear hneg dk h2
          generalize D' k = dk' at *
          go_wp2
          go_quiet (fail)
          go_wp2
          go_roundw
          case rel => exact ⟨k + 1, (k : Int), by omega, by go_num, rfl, HL.out, drewN_below hbx.out nq⟩
          case measure => simp [intOf]; omega
        · have cm := dk.c (i := m) (by omega)
          have m0 : (0 : Int) ≤ (m : Int) := by omega
          have m8 : (m : Int) < 8 := by omega
          have e2 : decide ((m : Int) < 0) = false := decide_eq_false (by omega)
          by_cases hlm : D' k < D' m
          · have e3 : decide (D' k < D' m) = true := decide_eq_true hlm
            have HL : Hid (Least D' (k + 1) (k : Int)) := .inr ⟨k, rfl, by omega, by omega, fun i hi h => by
              by_cases e : i = k
              · subst e; omega
              · have := h4 i (by omega) h; omega⟩
            clear hneg dk h2 h3 h4 hlm hle
            generalize D' k = dk' at *
            generalize D' m = dm' at *
            go_wp2
            go_quiet (fail)
            go_wp2
            go_roundw
            case rel => exact ⟨k + 1, (k : Int), by omega, by go_num, rfl, HL.out, drewN_below hbx.out nq⟩
            case measure => simp [intOf]; omega
          · have e3 : decide (D' k < D' m) = false := decide_eq_false hlm
            have HL : Hid (Least D' (k + 1) (m : Int)) := .inr ⟨m, rfl, by omega, h3, fun i hi h => by
              by_cases e : i = k
              · subst e; omega
              · exact h4 i (by omega) h⟩
            clear hneg dk h2 h3 h4 hlm hle
            generalize D' k = dk' at *
            generalize D' m = dm' at *
            go_wp2
            go_quiet (fail)
            go_wp2
            go_roundw
            case rel => exact ⟨k + 1, (m : Int), by omega, by go_num, rfl, HL.out, drewN_below hbx.out nq⟩
            case measure => simp [intOf]; omega
      · obtain rfl : k = 8 := by omega
        rcases hle.out with ⟨rfl, h2⟩ | ⟨m, rfl, h2, h3, h4⟩
        · have HM := hide (hmade.out.done h2)
          have O9 : Hid (TOwn wr w.heap.size u3 M) := ownsRow_weaken (ownsRow_below hown.out hbx.out) (Nat.le_of_lt hz)
          have B9 := hide (chain hb.out hbx.out)
          clear h2 hle
          go_wp2
          go_ret
          exact ⟨_, rfl, by rw [← HM.out]; exact O9.out, B9.out⟩
        · have hml := hmade.out.len
          have HNX := hide (hmade.out.next h2 h3 h4)
          have hrl : 0 < (rem D').length := List.length_pos_iff.2 (fun e => by
            have : (⟨(m : Int), D' m⟩ : Tm) ∈ rem D' := rem_mem.2 ⟨m, h2, h3, rfl⟩
            rw [e] at this
            simp at this)
          have dk := hd.out.below hbx.out
          have cm := dk.c h2
          have fm := dk.f m
          have m0 : (0 : Int) ≤ (m : Int) := by omega
          have m8 : (m : Int) < 8 := by omega
          have e2 : decide ((m : Int) < 0) = false := decide_eq_false (by omega)
          have BB := new_below wr (.cells #[.int .i64 (m : Int), .int .i64 (D' m)] 48)
          have O1 := hide (ownsRow_below (ownsRow_below hown.out hbx.out) BB)
          have E1 := hide (dk.below BB)
          have B1 := hide (chain (chain hb.out hbx.out) BB)
          have hW2 := Nat.le_trans (Nat.le_trans hW hbx.out.size) BB.size
          have HW2 := hide hW2
          clear h3 h4 hle dk BB hW2
          generalize D' m = dm at *
          go_upto_region 11 with (at_builtin; refine append_rec rfl (.tmp 31) (.tmp 37) 22 48 rfl Tryd.underlying22 HI.out (by decide) W0.heap.size _ _ _ rfl O1.out wr.heap.size 1 (Tm.cells ⟨(m : Int), dm⟩) rfl rfl (fun i u hu => by rw [World.cell?_alloc_at _ _ _ _ rfl]; simpa [Tm.cells] using hu) (fun u hu => tm_one [⟨(m : Int), dm⟩] u (by simpa using hu)) (by unfold maxLen; omega) (by omega) HW2.out ?_; intro g7 c7 w7 ho7 hg7 hat7 hlt7)
          have D7 := hide (B1.out.grown hg7 (Nat.le_trans (Nat.le_of_lt hz) HW2.out) (fun k' hk' => Nat.le_trans (Nat.le_of_lt hz) (O1.out.lt k' hk').1))
          have O7 : Hid (TOwn w7 W0.heap.size (.slice (some ⟨g7, 0, none⟩) (M.length + 1) c7) (M ++ [⟨(m : Int), dm⟩])) := by
            unfold Hid
            simpa [TOwn] using ho7
          have E7 : Hid (D8 w7 w.heap.size D') := ⟨E1.out.bl.grown hg7 E1.out.lt (fun e => by have := (O1.out.lt _ e.symm).1; omega), Nat.lt_of_lt_of_le E1.out.lt hg7.size⟩
          have Z7 := hide (Nat.le_trans HW2.out hg7.size)
          have c7' := E7.out.c h2
          have f7 := E7.out.f m
          have E8 := hide (E7.out.put h2 (-1))
          have O8 : Hid (TOwn (w7.setCell ⟨w.heap.size, m, none⟩ (.int .i64 (-1))) W0.heap.size (.slice (some ⟨g7, 0, none⟩) (M.length + 1) c7) (M ++ [⟨(m : Int), dm⟩])) := ownsRow_setCell_below O7.out (a := ⟨w.heap.size, m, none⟩) hz _
          have B8 := hide (D7.out.setCell (p := ⟨w.heap.size, m, none⟩) (Nat.le_refl _) (.int .i64 (-1)))
          clear ho7 hg7 hat7
          go_wp2
          refine ⟨⟨put D' m (-1), _, ?_, ?_, E8.out, O8.out, HNX.out, B8.out⟩, ?_⟩
          · simp [lenV]
          · have := Z7.out
            simp [World.setCell]
            omega
          · rw [hln]
            simp [lenV]
            omega
end Go.Proofs.YtdckpecalglnoaaDoor
