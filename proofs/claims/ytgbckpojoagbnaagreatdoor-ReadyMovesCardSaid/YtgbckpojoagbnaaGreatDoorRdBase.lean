/-
  The document's isIn and out; a queue that was made since.
-/
import Derived.Test.YtgbckpojoagbnaaGreatDoorWkWoken
import Derived.Test.YtgbckpojoagbnaaGreatDoorMvBase
namespace Go.Proofs.YtgbckpojoagbnaaGreatDoor
open Classical
open Go.RowKit
set_option linter.unusedVariables false
set_option linter.unusedSimpArgs false

theorem ofE_bad {G K : Prop} [Decidable G] [Decidable K] (hg : G) (hk : ¬ K) : ofE G K = 12 := by
  unfold ofE
  rw [if_pos hg, if_neg hk]
/-- The queue's list is another one now, made since. -/
theorem Mine.queue {w w2 : World} {base tb : Nat} {v1 v2 v3 v2' : Value} {l : List Pro} {r r' : List Int} {t : List Tm} (h : Mine w base tb v1 v2 v3 l r t) (hb : Below w.heap.size w w2) (hn : IOwn w2 w.heap.size v2' r') :
    Mine (w2.setCell ⟨tb, 1, none⟩ v2') base tb v1 v2' v3 l r' t ∧ Below base w (w2.setCell ⟨tb, 1, none⟩ v2') := by
  have hbase : base ≤ w.heap.size := Nat.le_trans h.hb (Nat.le_of_lt h.lt)
  have h2 := h.below hb
  have f2' : v2'.ownBlock ≠ some tb := fun e => by have := (hn.lt _ e).1; have := h.lt; omega
  have sep : ∀ {e : TypeId} {sz n : Nat} {v : Value} {cs : List Value}, w.ownsRow base e sz v n cs → Sep v v2' := fun {e sz n v cs} ho => by
    cases hv : v.ownBlock with
    | none => exact .inl hv
    | some k => exact .inr (by rw [hv]; intro e'; have := (ho.lt k hv).2; have := (hn.lt k e'.symm).1; omega)
  refine ⟨⟨h2.bl.set (k := 1) (by simp) v2', ⟨ownsRow_far h2.tab.p h.f1 v2', ownsRow_far (ownsRow_weaken hn hbase) f2' v2', ownsRow_far h2.tab.t h.f3 v2', sep h.tab.p, h.tab.s13, (sep h.tab.t).symm⟩, h.f1, f2', h.f3, h.hb, ?_⟩, ?_⟩
  · have := h2.lt
    simpa [World.setCell] using this
  · exact (hb.mono hbase).setCell (p := ⟨tb, 1, none⟩) h.hb v2'

set_option maxRecDepth 100000 in
set_option maxHeartbeats 4000000 in
theorem risIn_any (w : World) (pa : Option Addr) (pn pc : Nat) (l : List Pro) (hp : Pros w pa pn pc l) (ra : Option Addr) (rn rc : Nat) (ta : Option Addr) (tn tc : Nat) (p st : Int) (hm : pn ≤ 1000) :
    Calls Tryz.prog 23 #[.agg #[.slice pa pn pc, .slice ra rn rc, .slice ta tn tc], .int .i64 p, .int .i64 st] w fun e w' => e = .returned (.bool (decide (OkP l p [st]))) ∧ Below w.heap.size w w' := by
  have BX : Hid (Bl (w.alloc (.cells #[.slice pa pn pc, .slice ra rn rc, .slice ta tn tc] 26)) w.heap.size [.slice pa pn pc, .slice ra rn rc, .slice ta tn tc]) := bl_alloc w #[.slice pa pn pc, .slice ra rn rc, .slice ta tn tc] 26
  have HB0 := hide (new_below w (.cells #[.slice pa pn pc, .slice ra rn rc, .slice ta tn tc] 26))
  have HS := hide (hp.below HB0.out)
  have HL : Hid (l.length = pn) := hp.size
  clear hp
  go_enter Tryz.func23, Tryz.ntmps23
  go_upto_region 1 with fail
  generalize w.alloc (.cells #[.slice pa pn pc, .slice ra rn rc, .slice ta tn tc] 26) = W0 at *
  have b0 := BX.out.cell 0 _ rfl
  by_cases h0 : 0 ≤ p
  · have d0 : decide (0 ≤ p) = true := decide_eq_true h0
    by_cases h1 : p < (pn : Int)
    · have d1 : decide (p < (pn : Int)) = true := decide_eq_true h1
      obtain ⟨k, rfl⟩ := Int.eq_ofNat_of_zero_le h0
      obtain ⟨q, hq⟩ : ∃ q, l[k]? = some q := ⟨_, List.getElem?_eq_getElem (by have := HL.out; omega)⟩
      obtain ⟨b, off, rfl, hr⟩ := HS.out.at pro21 (by decide) hq
      have p17 := hr 17 _ rfl
      have HR : Hid (decide (OkP l (k : Int) [st]) = (q.state == st)) := by
        have hl := HL.out
        by_cases e : q.state = st
        · have h : OkP l (k : Int) [st] := ⟨h0, by omega, by rw [stateAt_of hq, e]; simp⟩
          unfold Hid
          rw [decide_eq_true h]
          simp [e]
        · have h : ¬ OkP l (k : Int) [st] := fun h => e (by have := h.2.2; rw [stateAt_of hq] at this; simpa using this)
          unfold Hid
          rw [decide_eq_false h]
          simp [e]
      have d2 : decide (k < pn) = true := decide_eq_true (by omega)
      have hk1 : (k : Int) < (pn : Int) := h1
      have hk0 : (0 : Int) ≤ (k : Int) := h0
      clear hr hq h0 h1
      go_wp2
      go_ret
      exact ⟨by rw [HR.out]; rfl, HB0.out⟩
    · have d1 : decide (p < (pn : Int)) = false := decide_eq_false h1
      have HR : Hid (decide (OkP l p [st]) = false) := decide_eq_false (fun h => h1 (by rw [← HL.out]; exact h.2.1))
      clear h0 h1
      go_wp2
      go_ret
      exact ⟨by rw [HR.out]; rfl, HB0.out⟩
  · have d0 : decide (0 ≤ p) = false := decide_eq_false h0
    have HR : Hid (decide (OkP l p [st]) = false) := decide_eq_false (fun h => h0 h.1)
    clear h0
    go_wp2
    go_ret
    exact ⟨by rw [HR.out]; rfl, HB0.out⟩

theorem out_next {r : List Int} {k : Nat} {x : Int} (p : Int) (h : r[k]? = some x) : outOf (r.take (k + 1)) p = outOf (r.take k) p ++ (if x != p then [x] else []) := by
  unfold outOf
  rw [take_snoc h, List.filter_append]
  congr 1
  by_cases hw : (x != p) = true
  · simp [hw]
  · simp [hw]
set_option maxRecDepth 100000 in
set_option maxHeartbeats 4000000 in
theorem rout_any (w : World) (a : Option Addr) (n c : Nat) (r : List Int) (hs : Is w a n c r) (p : Int) (hm : n ≤ 1000) :
    Calls Tryz.prog 25 #[.slice a n c, .int .i64 p] w fun e w' => ∃ v, e = .returned v ∧ IOwn w' w.heap.size v (outOf r p) ∧ Below w.heap.size w w' := by
  have HS := hide hs
  have HL : Hid (r.length = n) := hs.size
  have HJ := hide infoInt
  clear hs
  go_enter Tryz.func25, Tryz.ntmps25
  go_wp2
  go_loopw [5, 6] (fun o i wr => ∃ k : Nat, k ≤ n ∧ i = .int .i64 (k : Int) ∧ Hid (IOwn wr w.heap.size o (outOf (r.take k) p)) ∧ Hid (Below w.heap.size w wr)) (fun _ i _ => n - (intOf i).toNat)
  case atStart => exact ⟨0, by omega, rfl, iown_nil _ _, Below.refl _ _⟩
  case round =>
    obtain ⟨k, hk, rfl, hio, hb⟩ := hrel
    by_cases hlt : k < n
    · obtain ⟨x, hx⟩ : ∃ x, r[k]? = some x := ⟨_, List.getElem?_eq_getElem (by rw [HL.out]; exact hlt)⟩
      obtain ⟨b, off, rfl, hr⟩ := (HS.out.below hb.out).at ci1 (by decide) hx
      have q0 := hr 0 _ rfl
      simp only [Nat.add_zero, Nat.mul_one] at q0
      have HN := hide (out_next p hx)
      have LK : Hid ((outOf (r.take k) p).length ≤ k) := Nat.le_trans (List.length_filter_le _ _) (by rw [List.length_take]; omega)
      have hk1 : (k : Int) < (n : Int) := by omega
      clear hr hx
      by_cases hw : (x != p) = true
      · rw [if_pos hw] at HN
        have X2 := new_below wr (.cells #[.int .i64 x] 3)
        have HB2 := hide (chain hb.out X2)
        have O2 := hide (ownsRow_below hio.out X2)
        clear X2 hio
        go_wp2_with (at_builtin; refine append_rec rfl (.tmp 19) (.tmp 24) 23 3 rfl Tryz.underlying23 HJ.out (by decide) w.heap.size _ _ _ rfl O2.out wr.heap.size 1 (ci x) rfl rfl (fun i u hu => by rw [World.cell?_alloc_at _ _ _ _ (by simp)]; simpa [ci] using hu) (fun u hu => ci_one [x] u (by simpa using hu)) (by have := LK.out; unfold maxLen; omega) (by have := LK.out; omega) HB2.out.size ?_; intro g7 c7 w7 ho7 hg7 hat7 hlt7)
        have D7 := hide (HB2.out.grown hg7 HB2.out.size (fun k' hk' => (O2.out.lt k' hk').1))
        have O7 : Hid (IOwn w7 w.heap.size (.slice (some ⟨g7, 0, none⟩) ((outOf (r.take k) p).length + 1) c7) (outOf (r.take (k + 1)) p)) := by
          unfold Hid
          rw [HN.out]
          simpa [IOwn] using ho7
        clear ho7 hg7 hat7 O2
        go_wp2
        go_roundw
        case rel => exact ⟨k + 1, by omega, by go_num, O7.out, D7.out⟩
        case measure => simp [intOf]; omega
      · rw [if_neg hw, List.append_nil] at HN
        rw [← HN.out] at hio
        have hw' : (x != p) = false := Bool.eq_false_iff.2 hw
        clear hw
        go_wp2
        go_roundw
        case rel => exact ⟨k + 1, by omega, by go_num, hio.out, hb.out⟩
        case measure => simp [intOf]; omega
    · obtain rfl : n = k := by omega
      have HTK : Hid (r.take n = r) := by unfold Hid; rw [← HL.out, List.take_length]
      rw [HTK.out] at hio
      go_wp2
      go_ret
      exact ⟨_, rfl, hio.out, hb.out⟩
end Go.Proofs.YtgbckpojoagbnaaGreatDoor
