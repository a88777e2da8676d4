/-
  The program's Flush.
-/
import Derived.Test.YtgnkmenjjmfcfaaDoorLkWait
import Derived.Test.YtgnkmenjjmfcfaaDoorLkSort
import Derived.Test.YtgnkmenjjmfcfaaDoorLkTake
namespace Go.Proofs.YtgnkmenjjmfcfaaDoor
open Go.RowKit FerryCrc Q
open Go.Maps (Keyed)
set_option linter.unusedVariables false
set_option linter.unusedSimpArgs false

def cutM (M : Int → Option Lt) (ks : List Int) : Int → Option Lt := fun k => if k ∈ ks then none else M k
theorem cutM_nil (M : Int → Option Lt) : cutM M [] = M := by funext k; simp [cutM]
theorem cutM_step (M : Int → Option Lt) (ks : List Int) (k : Int) : setM (cutM M ks) k none = cutM M (ks ++ [k]) := by
  funext j
  unfold setM cutM
  by_cases e : j = k
  · subst e; simp
  · simp [e]
/-- What Flush leaves. -/
def fuL (L : Lk) (tgt : Int) : Lk := ⟨L.n, cutM L.M (wtL L tgt)⟩
theorem wtL_rng {L : Lk} {tgt k : Int} (h : k ∈ wtL L tgt) : 1 ≤ k ∧ k ≤ (L.n : Int) := by
  unfold wtL at h
  obtain ⟨h1, -⟩ := List.mem_filter.1 h
  obtain ⟨i, hi, rfl⟩ := List.mem_map.1 h1
  have := List.mem_range.1 hi
  omega
set_option maxRecDepth 100000 in
set_option maxHeartbeats 2000000 in
theorem flush_any {lb mb : Nat} {L : Lk} (tgt : Int) (hn : L.n ≤ 17592186044416) {w : World} (h : LAt w lb mb L) :
    Calls Tryd.prog 19 #[.pointer (some ⟨lb, 0, none⟩), .int .i64 tgt] w fun e w' => e = .returned (.int .i64 ((wtL L tgt).length : Int)) ∧ LAt w' lb mb (fuL L tgt) ∧ Frm (TwoB lb mb) w w' := by
  have HW := hide (waiting_any tgt hn h sort_any)
  have HL := hide h
  have HN := hide (wtL_len L tgt)
  clear h
  go_enter Tryd.func19, Tryd.ntmps19
  go_wp2_with fail
  refine Calls.mono HW.out ?_
  rintro e w1 ⟨a, n, c, rfl, hn1, o, b⟩
  have HO := hide o
  have HB := hide b
  have HNN := hide hn1
  have HL1 := hide (HL.out.below b)
  clear o b hn1 HW
  have hnb : (n : Int) ≤ 17592186044416 := by have h1 := HNN.out; have h2 := HN.out; omega
  go_upto_region 3 with fail
  go_loopw [13] (fun s wr => ∃ i : Nat, i ≤ n ∧ s = .int .i64 (i : Int) ∧ Hid (LAt wr lb mb ⟨L.n, cutM L.M ((wtL L tgt).take i)⟩) ∧ Hid (w1.grownBy wr (some mb))) (fun s _ => n - (intOf s).toNat)
  case atStart =>
    exact ⟨0, Nat.zero_le _, rfl, by rw [List.take_zero, cutM_nil]; exact HL1.out, grw_refl _ _⟩
  case round =>
  obtain ⟨i, hi, rfl, HM, HG⟩ := hrel
  have HO2 : Hid (IsOwn wr w.heap.size (.slice a n c) (wtL L tgt)) := HO.out.frm (frm_grown HG.out) (fun g e e2 => by
    have h1 := (World.ownsRow.lt HO.out g e).1
    have h2 := HL.out.mb_lt
    have h3 := Option.some.inj e2
    omega)
  by_cases hlt : i < n
  · obtain ⟨k, hk⟩ : ∃ k, (wtL L tgt)[i]? = some k := ⟨_, List.getElem?_eq_getElem (by have := HNN.out; omega)⟩
    have HK : Hid (1 ≤ k ∧ k ≤ (L.n : Int)) := wtL_rng (List.mem_of_getElem? hk)
    have HT : Hid (setM (cutM L.M ((wtL L tgt).take i)) k none = cutM L.M ((wtL L tgt).take (i + 1))) := by
      unfold Hid
      rw [cutM_step, List.take_add_one, hk]
      rfl
    obtain ⟨bb, oo, e1, hc1⟩ := (own_rcs HO2.out).at iv1 (by decide) hk
    have c0 := hc1 0 _ rfl
    rw [Nat.mul_one, Nat.add_zero] at c0
    subst e1
    have hj1 : (i : Int) < (n : Int) := by omega
    have hj0 : ¬ (i : Int) < 0 := by omega
    have c1 := HM.out.bk.cell 1 rfl
    clear hc1 hk
    go_upto_region 6 with (at_delete; (refine wp_del _ rfl _ _ rfl HM.out rfl k (by have := HK.out; omega) (by have h1 := HK.out; have h2 := hn; omega) rfl ?_; intro W3 q1 q2; have H3 := hide q1; have H4 := hide (grw_trans HG.out q2); clear q1 q2))
    clear c1 c0
    go_wp2
    refine ⟨⟨i + 1, by omega, by simp, ?_, H4.out⟩, by simp [intOf]; omega⟩
    have := H3.out
    dsimp only at this
    rw [HT.out] at this
    exact this
  · obtain rfl : n = i := by omega
    have hj1 : ¬ (n : Int) < (n : Int) := by omega
    have HM2 : Hid (LAt wr lb mb (fuL L tgt)) := by
      have := HM.out
      rw [HNN.out, List.take_length] at this
      exact this
    go_wp2
    go_ret
    refine ⟨ret_int (by rw [HNN.out]), HM2.out, ?_⟩
    exact (Frm.ofBelow HB.out).trans ((frm_grown HG.out).mono (T := TwoB lb mb) (fun j _ e => .inr (Option.some.inj e).symm)) (fun _ _ h => h)
end Go.Proofs.YtgnkmenjjmfcfaaDoor
