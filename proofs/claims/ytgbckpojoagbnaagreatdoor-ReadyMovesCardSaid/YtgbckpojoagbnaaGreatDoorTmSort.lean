/-
  slices.SortFunc on a list of timers of one's own, of at most twelve.
-/
import Derived.Test.YtgbckpojoagbnaaGreatDoorTmOrd
import Derived.Test.YtgbckpojoagbnaaGreatDoorSortL
namespace Go.Proofs.YtgbckpojoagbnaaGreatDoor
open Classical
open Go.RowKit Go.Sort
set_option linter.unusedVariables false
set_option linter.unusedSimpArgs false

theorem ltOf_cmpT : ltOf cmpT = Tm.lt := by
  funext x y
  exact cmpT_lt x y
theorem swoT : SWO Tm.lt where
  irrefl x := by unfold Tm.lt; simp
  trans x y z h1 h2 := by unfold Tm.lt at *; simp at *; omega
  ntrans x y z h1 h2 := by unfold Tm.lt at *; simp at *; omega
theorem sorted_is [Inhabited Tm] (d : Array Tm) : (Go.Sort.insertionSort (ltOf cmpT) d 0 d.size).toList = srt d.toList := by
  rw [ltOf_cmpT]
  have h := insertionSort_holds (lt := Tm.lt) swoT d 0 d.size (Nat.zero_le _) (Nat.le_refl _)
  have hu := sorted_unique_holds (lt := Tm.lt) swoT (fun x y h1 h2 => Tm.le_antisymm x y (by unfold Tm.le; rw [h2]; rfl) (by unfold Tm.le; rw [h1]; rfl)) d _ h.1 h.2
  rw [hu]
  rfl
theorem flatK_tm [Inhabited Tm] (l : List Tm) : flatK Tm.cells 2 l.toArray = (l.flatMap Tm.cells).toArray := by
  refine ext_get! (by simp [fl_len tm2]) fun t ht => ?_
  have ht' : t < l.length * 2 := by simpa using ht
  rw [get_flatK _ _ _ t (by simpa using ht')]
  have hk : t / 2 < l.length := by omega
  have h1 := fl_get tm2 (l := l) (k := t / 2) (x := l[t / 2]) (t % 2) (List.getElem?_eq_getElem hk) (by omega)
  rw [show t / 2 * 2 + t % 2 = t by omega] at h1
  have e1 : (l.toArray)[t / 2]! = l[t / 2] := by simp [hk]
  rw [e1]
  have e2 : (l.flatMap Tm.cells).toArray[t]! = ((l.flatMap Tm.cells)[t]?).getD default := by
    simp
  rw [e2, h1]
  rw [List.getElem!_eq_getElem?_getD]

theorem len64_small (n : Nat) (w : World) (h : n ≤ 12) : Calls Tryz.prog 92 #[.int .u64 (n : Int)] w fun e w' => (∃ l : Int, e = .returned (.int .i64 l)) ∧ w' = w := by
  have hn : n = 0 ∨ n = 1 ∨ n = 2 ∨ n = 3 ∨ n = 4 ∨ n = 5 ∨ n = 6 ∨ n = 7 ∨ n = 8 ∨ n = 9 ∨ n = 10 ∨ n = 11 ∨ n = 12 := by omega
  clear h
  rcases hn with rfl | rfl | rfl | rfl | rfl | rfl | rfl | rfl | rfl | rfl | rfl | rfl | rfl
  all_goals
    go_enter Tryz.func92, Tryz.ntmps92
    go_wp2
    go_ret
    exact ⟨⟨_, rfl⟩, rfl⟩
theorem len_small (n : Nat) (w : World) (h : n ≤ 12) : Calls Tryz.prog 69 #[.int .u64 (n : Int)] w fun e w' => (∃ l : Int, e = .returned (.int .i64 l)) ∧ w' = w := by
  have HL := hide (fun w => len64_small n w h)
  clear h
  go_enter Tryz.func69, Tryz.ntmps69
  go_wp2_with (refine Calls.mono (HL.out _) ?_; rintro e w' ⟨⟨l, rfl⟩, rfl⟩)
  go_ret
  exact ⟨⟨_, rfl⟩, rfl⟩

theorem isort_nil (p : Option Addr) (c : Nat) (fv : Value) (w : World) : Calls Tryz.prog 83 #[.slice p 0 c, .int .i64 0, .int .i64 0, fv] w fun e w' => e = .returned (.tuple #[]) ∧ w' = w := by
  go_enter Tryz.func83, Tryz.ntmps83
  go_wp2
  refine wp_loop_rounds 1 ?_
  rw [rounds_succ]
  go_wp2
  go_end0
  exact ⟨rfl, rfl⟩
set_option maxHeartbeats 2000000 in
theorem pdq_nil (p : Option Addr) (c : Nat) (lim : Int) (fv : Value) (w : World) : Calls Tryz.prog 68 #[.slice p 0 c, .int .i64 0, .int .i64 0, .int .i64 lim, fv] w fun e w' => e = .returned (.tuple #[]) ∧ w' = w := by
  have HI := hide (fun w => isort_nil p c fv w)
  go_enter Tryz.func68, Tryz.ntmps68
  go_wp2
  refine wp_loop_rounds 1 ?_
  rw [rounds_succ]
  go_wp2_with (refine Calls.mono (HI.out _) ?_; rintro e w' ⟨rfl, rfl⟩)
  (try simp only [Exit.inBlock, Exit.then])
  refine bodyPost_ret (results_none rfl _ _ _) rfl ?_
  exact ⟨rfl, rfl⟩
theorem sort_nil (p : Option Addr) (c : Nat) (fv : Value) (w : World) : Calls Tryz.prog 51 #[.slice p 0 c, fv] w fun e w' => e = .returned (.tuple #[]) ∧ w' = w := by
  have HL := hide (fun w => len_small 0 w (by decide))
  have HP := hide (fun lim w => pdq_nil p c lim fv w)
  go_enter Tryz.func51, Tryz.ntmps51
  go_wp2_with fail
  refine Calls.mono (HL.out _) ?_
  rintro e w' ⟨⟨l, rfl⟩, rfl⟩
  go_wp2_with fail
  refine Calls.mono (HP.out _ _) ?_
  rintro e w' ⟨rfl, rfl⟩
  go_wp2
  go_end0
  exact ⟨rfl, rfl⟩

theorem cmpLays [Inhabited Tm] (blk off size : Nat) (w : World) : CmpLays Tryz.prog 52 #[] Tm.cells 2 cmpT blk off size w := by
  intro m os dk _ x y
  refine (order_any x y _).mono fun e w' ⟨he, hw⟩ => ⟨he, 1, #[.cells #[.int .i64 x.proc, .int .i64 x.due] 61, .cells #[.int .i64 y.proc, .int .i64 y.due] 61, .cells #[.int .i64 (cmpI x.due y.due), .int .i64 (cmpI x.proc y.proc)] 3], ?_⟩
  rw [hw, alloc_eq_grow, alloc_eq_grow, alloc_eq_grow, grow_grow, grow_grow]
  rfl

theorem take_putCells (F c : Array Value) (h : F.size ≤ c.size) : (putCells id 0 F c).toList.take F.size = F.toList := by
  refine List.ext_getElem? fun j => ?_
  by_cases hj : j < F.size
  · have hc : j < c.size := by omega
    rw [List.getElem?_take_of_lt hj, Array.getElem?_toList, Array.getElem?_toList]
    simp [putCells, hc, hj]
  · rw [List.getElem?_eq_none (by simp; omega), List.getElem?_eq_none (by simp; omega)]

theorem sortFunc_own {w : World} {base : Nat} {a : Option Addr} {len cap : Nat} {l : List Tm} (h : TOwn w base (.slice a len cap) l) (h12 : l.length ≤ 12) :
    Calls Tryz.prog 51 #[.slice a len cap, .func (.func 52) #[] #[]] w fun e w' => e = .returned (.tuple #[]) ∧ TOwn w' base (.slice a len cap) (srt l) ∧ Below base w w' := by
  haveI : Inhabited Tm := ⟨⟨0, 0⟩⟩
  rcases h.2 with ⟨e, hn⟩ | ⟨g, c, cur, e, hg, hh, hnc, hcm, hcs, htake⟩
  · simp only [Value.slice.injEq] at e
    obtain ⟨rfl, rfl, rfl⟩ := e
    obtain rfl : l = [] := List.length_eq_zero_iff.1 hn
    refine (sort_nil none 0 _ w).mono fun e w' ⟨he, hw⟩ => ⟨he, ?_, ?_⟩
    · rw [hw, srt_of (l := []) (by unfold Ord; simp)]; exact h
    · rw [hw]; exact Below.refl _ _
  · simp only [Value.slice.injEq] at e
    obtain ⟨rfl, rfl, rfl⟩ := e
    have hlt : g < w.heap.size := (Array.getElem?_eq_some_iff.1 hh).1
    have hH : HoldsK Tm.cells 2 w g 0 l.toArray := by
      intro j hj
      rw [flatK_tm] at hj ⊢
      have hj' : j < l.length * 2 := by
        have := fl_len tm2 l
        rw [List.size_toArray] at hj
        omega
      have hc := World.ownsRow.cellAt h j hj'
      refine ⟨?_, World.ownsRow.frozenAt h _⟩
      rw [Nat.zero_add, hc]
      have : j < (l.flatMap Tm.cells).length := by rw [fl_len tm2]; exact hj'
      have e3 := List.getElem?_eq_getElem this
      rw [e3]
      simp
      rw [e3]
      rfl
    have eg : ∀ args w, (callFunc 52 args).run Tryz.prog w = .ok (.enter 52 args) w := enters_of Tryz.func52 (by kernel_rfl) rfl
    have hcon := AnyQ.slices_SortFunc_small sortT 2 Tryz.isAgg61 Tryz.sizeOf61 Tm.cells (fun _ => rfl) (fun x v hv => tm_one [x] v (by simpa using hv)) cmpT 52 #[] g 0 cap l.toArray w eg (cmpLays _ _ _ _) hH hlt (by simpa using h12) (fun n W hn => len_small n W hn)
    change Calls Tryz.prog 51 #[.slice (some ⟨g, 0, none⟩) l.length cap, .func (.func 52) #[] #[]] w _ at hcon
    refine hcon.mono fun e w' ⟨he, n, os, hw⟩ => ⟨he, ?_, ?_⟩
    · have hs : Go.Sort.insertionSort (ltOf cmpT) l.toArray 0 l.toArray.size = (srt l).toArray := by
        rw [← sorted_is l.toArray]
      have hsl := srt_len l
      have hF : (((srt l).flatMap Tm.cells).toArray).size = l.length * 2 := by rw [List.size_toArray, fl_len tm2, hsl]
      have hhp : w'.heap[g]? = some (.cells (putCells id 0 ((srt l).flatMap Tm.cells).toArray cur) 61 (0, 0)) := by
        rw [hw]
        unfold sortWorldK
        rw [heap_grow_old _ _ (by rw [size_putRowK]; exact hlt), hs]
        unfold putRowK
        rw [flatK_tm]
        show (w.heap.modify g (onCells _))[g]? = _
        rw [Array.getElem?_modify, if_pos rfl, hh]
        rfl
      refine ⟨by rw [fl_len tm2], .inr ⟨g, cap, _, by rw [hsl], hg, hhp, by omega, hcm, by unfold putCells; simpa using hcs, ?_⟩⟩
      have := take_putCells ((srt l).flatMap Tm.cells).toArray cur (by rw [hF, hcs]; omega)
      rw [hF, ← hsl] at this
      exact this
    · rw [hw]
      unfold sortWorldK putRowK
      refine ⟨rfl, rfl, rfl, by rw [size_grow]; show _ ≤ (w.heap.modify g _).size + _; simp, fun k hk => ?_⟩
      rw [heap_grow_old _ _ (by show k < (w.heap.modify g _).size; simp; omega)]
      show (w.heap.modify g (onCells _))[k]? = _
      rw [Array.getElem?_modify, if_neg (by omega)]
end Go.Proofs.YtgbckpojoagbnaaGreatDoor
