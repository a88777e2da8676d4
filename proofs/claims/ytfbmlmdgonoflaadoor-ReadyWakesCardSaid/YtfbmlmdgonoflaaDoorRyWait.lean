/-
  Who waits for a thing: the program's Waiters and the document's.
-/
import Derived.Test.YtfbmlmdgonoflaaDoorRyMine
namespace Go.Proofs.YtfbmlmdgonoflaaDoor
open Go.RowKit
set_option linter.unusedVariables false
set_option linter.unusedSimpArgs false

/-- Does the process wait for that thing? Those that do, by number, of the first k and of all. -/
def isW (wt ob : Int) (p : Pro) : Bool := p.state == 2 && (p.wait == wt && p.obj == ob)
def waitsK (l : List Pro) (wt ob : Int) (k : Nat) : List Int := ((l.take k).zipIdx.filter fun x => isW wt ob x.1).map fun x => (x.2 : Int)
def waitsOf (l : List Pro) (wt ob : Int) : List Int := waitsK l wt ob l.length
theorem waitsK_next {l : List Pro} {k : Nat} {p : Pro} (wt ob : Int) (h : l[k]? = some p) : waitsK l wt ob (k + 1) = waitsK l wt ob k ++ (if isW wt ob p then [(k : Int)] else []) := by
  have hk := (List.getElem?_eq_some_iff.1 h).1
  unfold waitsK
  rw [take_snoc h, List.zipIdx_append, List.filter_append, List.map_append, Nat.zero_add, List.length_take, Nat.min_eq_left (by omega)]
  congr 1
  by_cases hw : isW wt ob p = true <;> simp [List.zipIdx_cons, hw]
theorem waitsK_len (l : List Pro) (wt ob : Int) (k : Nat) : (waitsK l wt ob k).length ≤ k := by
  unfold waitsK
  rw [List.length_map]
  refine Nat.le_trans (List.length_filter_le _ _) ?_
  rw [List.length_zipIdx, List.length_take]
  omega

set_option maxRecDepth 100000 in
set_option maxHeartbeats 4000000 in
theorem waiters_any (w : World) (pa : Option Addr) (pn pc : Nat) (l : List Pro) (hp : Pros w pa pn pc l) (ra : Option Addr) (rn rc : Nat) (ta : Option Addr) (tn tc : Nat) (wt ob : Int) (hm : pn ≤ 1353245080400) :
    Calls Tryd.prog 5 #[.agg #[.slice pa pn pc, .slice ra rn rc, .slice ta tn tc], .int .i64 wt, .int .i64 ob] w fun e w' => ∃ v, e = .returned v ∧ IOwn w' w.heap.size v (waitsOf l wt ob) ∧ Below w.heap.size w w' := by
  have HS := hide hp
  have HL : Hid (l.length = pn) := hp.size
  have HJ := hide infoInt
  have HB0 := hide (new_below w (.cells #[.slice pa pn pc, .slice ra rn rc, .slice ta tn tc] 32))
  clear hp
  go_enter Tryd.func5, Tryd.ntmps5
  go_wp2
  generalize w.alloc (.cells #[.slice pa pn pc, .slice ra rn rc, .slice ta tn tc] 32) = W0 at *
  go_loopw [7, 13] (fun o i wr => ∃ k : Nat, k ≤ pn ∧ i = .int .i64 (k : Int) ∧ Hid (IOwn wr w.heap.size o (waitsK l wt ob k)) ∧ Hid (Below w.heap.size w wr)) (fun _ i _ => pn - (intOf i).toNat)
  case atStart => exact ⟨0, by omega, rfl, iown_nil _ _, HB0.out⟩
  case round =>
    obtain ⟨k, hk, rfl, hio, hb⟩ := hrel
    by_cases hlt : k < pn
    · obtain ⟨p, ht⟩ : ∃ p, l[k]? = some p := ⟨_, List.getElem?_eq_getElem (by rw [HL.out]; exact hlt)⟩
      obtain ⟨b, off, rfl, hr⟩ := (HS.out.below hb.out).at pro21 (by decide) ht
      have HRg := hide hr
      have HN := hide (waitsK_next wt ob ht)
      have LK := hide (waitsK_len l wt ob k)
      have X1 := new_below wr (.cells p.cells.toArray 55)
      have HB1 := hide (chain hb.out X1)
      have O1 := hide (ownsRow_below hio.out X1)
      have hk1 : (k : Int) < (pn : Int) := by omega
      have q17 : (wr.alloc (.cells p.cells.toArray 55)).cell? ⟨wr.heap.size, 17, none⟩ = some (.int .i64 p.state) := by rw [World.cell?_alloc_at _ _ _ _ rfl]; rfl
      have q19 : (wr.alloc (.cells p.cells.toArray 55)).cell? ⟨wr.heap.size, 19, none⟩ = some (.int .i64 p.wait) := by rw [World.cell?_alloc_at _ _ _ _ rfl]; rfl
      have q20 : (wr.alloc (.cells p.cells.toArray 55)).cell? ⟨wr.heap.size, 20, none⟩ = some (.int .i64 p.obj) := by rw [World.cell?_alloc_at _ _ _ _ rfl]; rfl
      clear hr hio X1 ht
      go_upto_region 5 with (first
        | (refine wpList_load_mid rfl 55 (.tmp 16) rfl b (off + k * 21) rfl p.cells _ HRg.out Tryd.underlying55 rfl sizeProc ?_)
        | (refine wpList_store_new rfl 55 (.tmp 9) (.tmp 17) rfl p.cells.toArray rfl rfl sizeProc (by rfl) (pro_all p) ?_))
      generalize wr.alloc (.cells p.cells.toArray 55) = W1 at *
      generalize p.cells.toArray = PA at *
      clear HRg
      by_cases hw : isW wt ob p = true
      · obtain ⟨e1, e2, e3⟩ : (p.state == 2) = true ∧ (p.wait == wt) = true ∧ (p.obj == ob) = true := by simpa only [isW, Bool.and_eq_true] using hw
        rw [hw, if_pos rfl] at HN
        have X2 := new_below W1 (.cells #[.int .i64 (k : Int)] 3)
        have HB2 := hide (chain HB1.out X2)
        have O2 := hide (ownsRow_below O1.out X2)
        clear hw X2 O1
        go_wp2_with (at_builtin; refine append_rec rfl (.tmp 33) (.tmp 35) 23 3 rfl Tryd.underlying23 HJ.out (by decide) w.heap.size _ _ _ rfl O2.out W1.heap.size 1 (ci (k : Int)) rfl rfl (fun i u hu => by rw [World.cell?_alloc_at _ _ _ _ (by simp)]; simpa [ci] using hu) (fun u hu => ci_one [(k : Int)] u (by simpa using hu)) (by have := LK.out; unfold maxLen; omega) (by have := LK.out; omega) HB2.out.size ?_; intro g7 c7 w7 ho7 hg7 hat7 hlt7)
        have D7 := hide (HB2.out.grown hg7 HB2.out.size (fun k' hk' => (O2.out.lt k' hk').1))
        have O7 : Hid (IOwn w7 w.heap.size (.slice (some ⟨g7, 0, none⟩) ((waitsK l wt ob k).length + 1) c7) (waitsK l wt ob (k + 1))) := by
          unfold Hid
          rw [HN.out]
          simpa [IOwn] using ho7
        clear ho7 hg7 hat7 O2
        go_wp2
        go_roundw
        case rel => exact ⟨k + 1, by omega, by go_num, O7.out, D7.out⟩
        case measure => simp [intOf]; omega
      · rw [if_neg hw, List.append_nil] at HN
        rw [← HN.out] at O1
        by_cases e1 : (p.state == 2) = true
        · by_cases e2 : (p.wait == wt) = true
          · have e3 : (p.obj == ob) = false := by
              cases h : (p.obj == ob) with
              | false => rfl
              | true => exact absurd (by unfold isW; rw [e1, e2, h]; rfl) hw
            clear hw
            go_wp2
            go_roundw
            case rel => exact ⟨k + 1, by omega, by go_num, O1.out, HB1.out⟩
            case measure => simp [intOf]; omega
          · have e2 : (p.wait == wt) = false := Bool.eq_false_iff.2 e2
            clear hw
            go_wp2
            go_roundw
            case rel => exact ⟨k + 1, by omega, by go_num, O1.out, HB1.out⟩
            case measure => simp [intOf]; omega
        · have e1 : (p.state == 2) = false := Bool.eq_false_iff.2 e1
          clear hw
          go_wp2
          go_roundw
          case rel => exact ⟨k + 1, by omega, by go_num, O1.out, HB1.out⟩
          case measure => simp [intOf]; omega
    · obtain rfl : k = pn := by omega
      have IOw : Hid (IOwn wr w.heap.size u7 (waitsOf l wt ob)) := by
        unfold Hid waitsOf
        rw [HL.out]
        exact hio.out
      clear hio
      go_wp2
      go_ret
      exact ⟨_, rfl, IOw.out, hb.out⟩
set_option maxRecDepth 100000 in
set_option maxHeartbeats 4000000 in
theorem rwaiters_any (w : World) (pa : Option Addr) (pn pc : Nat) (l : List Pro) (hp : Pros w pa pn pc l) (ra : Option Addr) (rn rc : Nat) (ta : Option Addr) (tn tc : Nat) (wt ob : Int) (hm : pn ≤ 1353245080400) :
    Calls Tryd.prog 9 #[.agg #[.slice pa pn pc, .slice ra rn rc, .slice ta tn tc], .int .i64 wt, .int .i64 ob] w fun e w' => ∃ v, e = .returned v ∧ IOwn w' w.heap.size v (waitsOf l wt ob) ∧ Below w.heap.size w w' := by
  have HS := hide hp
  have HL : Hid (l.length = pn) := hp.size
  have HJ := hide infoInt
  have HB0 := hide (new_below w (.cells #[.slice pa pn pc, .slice ra rn rc, .slice ta tn tc] 26))
  have BX : Hid (Bl (w.alloc (.cells #[.slice pa pn pc, .slice ra rn rc, .slice ta tn tc] 26)) w.heap.size [.slice pa pn pc, .slice ra rn rc, .slice ta tn tc]) := bl_alloc w #[.slice pa pn pc, .slice ra rn rc, .slice ta tn tc] 26
  have hz0 : w.heap.size + 1 ≤ (w.alloc (.cells #[.slice pa pn pc, .slice ra rn rc, .slice ta tn tc] 26)).heap.size := by simp
  clear hp
  go_enter Tryd.func9, Tryd.ntmps9
  go_wp2
  generalize w.alloc (.cells #[.slice pa pn pc, .slice ra rn rc, .slice ta tn tc] 26) = W0 at *
  go_loopw [7, 8] (fun o i wr => ∃ k : Nat, k ≤ pn ∧ i = .int .i64 (k : Int) ∧ Hid (IOwn wr (w.heap.size + 1) o (waitsK l wt ob k)) ∧ Hid (Bl wr w.heap.size [.slice pa pn pc, .slice ra rn rc, .slice ta tn tc]) ∧ w.heap.size + 1 ≤ wr.heap.size ∧ Hid (Below w.heap.size w wr)) (fun _ i _ => pn - (intOf i).toNat)
  case atStart => exact ⟨0, by omega, rfl, iown_nil _ _, BX.out, hz0, HB0.out⟩
  case round =>
    obtain ⟨k, hk, rfl, hio, hbx, hz, hb⟩ := hrel
    by_cases hlt : k < pn
    · obtain ⟨p, ht⟩ : ∃ p, l[k]? = some p := ⟨_, List.getElem?_eq_getElem (by rw [HL.out]; exact hlt)⟩
      obtain ⟨b, off, rfl, hr⟩ := (HS.out.below hb.out).at pro21 (by decide) ht
      have HRg := hide hr
      have HN := hide (waitsK_next wt ob ht)
      have LK := hide (waitsK_len l wt ob k)
      have X1 := new_below wr (.cells p.cells.toArray 55)
      have HB1 := hide (chain hb.out X1)
      have O1 := hide (ownsRow_below hio.out X1)
      have BL1 := hide (hbx.out.below (by omega) X1)
      have hz1 : w.heap.size + 1 ≤ (wr.alloc (.cells p.cells.toArray 55)).heap.size := by simp; omega
      have b0 := hbx.out.cell 0 _ rfl
      have hk1 : (k : Int) < (pn : Int) := by omega
      have q17 : (wr.alloc (.cells p.cells.toArray 55)).cell? ⟨wr.heap.size, 17, none⟩ = some (.int .i64 p.state) := by rw [World.cell?_alloc_at _ _ _ _ rfl]; rfl
      have q19 : (wr.alloc (.cells p.cells.toArray 55)).cell? ⟨wr.heap.size, 19, none⟩ = some (.int .i64 p.wait) := by rw [World.cell?_alloc_at _ _ _ _ rfl]; rfl
      have q20 : (wr.alloc (.cells p.cells.toArray 55)).cell? ⟨wr.heap.size, 20, none⟩ = some (.int .i64 p.obj) := by rw [World.cell?_alloc_at _ _ _ _ rfl]; rfl
      clear hr hio X1 ht hbx
      go_upto_region 6 with (first
        | (refine wpList_load_mid rfl 55 (.tmp 20) rfl b (off + k * 21) rfl p.cells _ HRg.out Tryd.underlying55 rfl sizeProc ?_)
        | (refine wpList_store_new rfl 55 (.tmp 9) (.tmp 21) rfl p.cells.toArray rfl rfl sizeProc (by rfl) (pro_all p) ?_))
      generalize wr.alloc (.cells p.cells.toArray 55) = W1 at *
      generalize p.cells.toArray = PA at *
      clear HRg b0
      by_cases hw : isW wt ob p = true
      · obtain ⟨e1, e2, e3⟩ : (p.state == 2) = true ∧ (p.wait == wt) = true ∧ (p.obj == ob) = true := by simpa only [isW, Bool.and_eq_true] using hw
        rw [hw, if_pos rfl] at HN
        have X2 := new_below W1 (.cells #[.int .i64 (k : Int)] 3)
        have HB2 := hide (chain HB1.out X2)
        have O2 := hide (ownsRow_below O1.out X2)
        have BL2 := hide (BL1.out.below (by omega) X2)
        have hz2 : w.heap.size + 1 ≤ (W1.alloc (.cells #[.int .i64 (k : Int)] 3)).heap.size := by simp; omega
        clear hw X2 O1
        go_wp2_with (at_builtin; refine append_rec rfl (.tmp 37) (.tmp 39) 23 3 rfl Tryd.underlying23 HJ.out (by decide) (w.heap.size + 1) _ _ _ rfl O2.out W1.heap.size 1 (ci (k : Int)) rfl rfl (fun i u hu => by rw [World.cell?_alloc_at _ _ _ _ (by simp)]; simpa [ci] using hu) (fun u hu => ci_one [(k : Int)] u (by simpa using hu)) (by have := LK.out; unfold maxLen; omega) (by have := LK.out; omega) hz2 ?_; intro g7 c7 w7 ho7 hg7 hat7 hlt7)
        have D7 := hide (HB2.out.grown hg7 HB2.out.size (fun k' hk' => Nat.le_of_succ_le (O2.out.lt k' hk').1))
        have BL7 := hide (BL2.out.grown (by omega) hg7 (fun e => by have := (O2.out.lt _ e.symm).1; omega))
        have hz7 : w.heap.size + 1 ≤ w7.heap.size := Nat.le_trans hz2 hg7.size
        have O7 : Hid (IOwn w7 (w.heap.size + 1) (.slice (some ⟨g7, 0, none⟩) ((waitsK l wt ob k).length + 1) c7) (waitsK l wt ob (k + 1))) := by
          unfold Hid
          rw [HN.out]
          simpa [IOwn] using ho7
        clear ho7 hg7 hat7 O2
        go_wp2
        go_roundw
        case rel => exact ⟨k + 1, by omega, by go_num, O7.out, BL7.out, hz7, D7.out⟩
        case measure => simp [intOf]; omega
      · rw [if_neg hw, List.append_nil] at HN
        rw [← HN.out] at O1
        by_cases e1 : (p.state == 2) = true
        · by_cases e2 : (p.wait == wt) = true
          · have e3 : (p.obj == ob) = false := by
              cases h : (p.obj == ob) with
              | false => rfl
              | true => exact absurd (by unfold isW; rw [e1, e2, h]; rfl) hw
            clear hw
            go_wp2
            go_roundw
            case rel => exact ⟨k + 1, by omega, by go_num, O1.out, BL1.out, hz1, HB1.out⟩
            case measure => simp [intOf]; omega
          · have e2 : (p.wait == wt) = false := Bool.eq_false_iff.2 e2
            clear hw
            go_wp2
            go_roundw
            case rel => exact ⟨k + 1, by omega, by go_num, O1.out, BL1.out, hz1, HB1.out⟩
            case measure => simp [intOf]; omega
        · have e1 : (p.state == 2) = false := Bool.eq_false_iff.2 e1
          clear hw
          go_wp2
          go_roundw
          case rel => exact ⟨k + 1, by omega, by go_num, O1.out, BL1.out, hz1, HB1.out⟩
          case measure => simp [intOf]; omega
    · obtain rfl : k = pn := by omega
      have IOw : Hid (IOwn wr w.heap.size u7 (waitsOf l wt ob)) := by
        unfold Hid waitsOf
        rw [HL.out]
        exact ownsRow_weaken hio.out (by omega)
      have b0 := hbx.out.cell 0 _ rfl
      clear hio
      go_wp2
      go_ret
      exact ⟨_, rfl, IOw.out, hb.out⟩
end Go.Proofs.YtfbmlmdgonoflaaDoor
