/-
  slices.Index, Contains, IndexFunc and DeleteFunc at numbers, as ready calls them.
-/
import Derived.Test.YtahcchipedppmaaGreatDoorRyOwn
import Derived.Lib.SliceRun
import Derived.Laws.OwnMore
namespace Go.Proofs.YtahcchipedppmaaGreatDoor
open Go.RowKit
set_option linter.unusedVariables false
set_option linter.unusedSimpArgs false

set_option maxRecDepth 100000 in
set_option maxHeartbeats 4000000 in
theorem index_any (w : World) (a : Option Addr) (len cap : Nat) (l : List Int) (hs : Is w a len cap l) (x : Int) (hm : len ≤ 9223372036854775807) :
    Calls Tryz.prog 65 #[.slice a len cap, .int .i64 x] w fun e w' => ∃ i : Int, e = .returned (.int .i64 i) ∧ decide (0 ≤ i) = decide (x ∈ l) ∧ w' = w := by
  have HS := hide hs
  have HL : Hid (l.length = len) := hs.size
  clear hs
  go_enter Tryz.func65, Tryz.ntmps65
  go_wp2
  go_loopw [8] (fun i wr => ∃ k : Nat, k ≤ len ∧ i = .int .i64 (k : Int) ∧ Hid (∀ (j : Nat) (y : Int), j < k → l[j]? = some y → x ≠ y) ∧ wr = w) (fun i _ => len - (intOf i).toNat)
  case atStart => exact ⟨0, by omega, rfl, fun j y hj => by omega, rfl⟩
  case round =>
    obtain ⟨k, hk, rfl, hall, rfl⟩ := hrel
    by_cases hlt : k < len
    · obtain ⟨y, hy⟩ : ∃ p, l[k]? = some p := ⟨_, List.getElem?_eq_getElem (by rw [HL.out]; exact hlt)⟩
      obtain ⟨b, off, rfl, hr⟩ := HS.out.at ci1 (by decide) hy
      have q0 := hr 0 _ rfl
      simp only [Nat.add_zero, Nat.mul_one] at q0
      have hk1 : (k : Int) < (len : Int) := by omega
      have HY := hide hy
      clear hr hy
      by_cases hxy : x = y
      · have d1 : (x == y) = true := by simp [hxy]
        have HR : Hid (decide (0 ≤ (k : Int)) = decide (x ∈ l)) := by
          unfold Hid
          rw [decide_eq_true (by omega), decide_eq_true (by rw [hxy]; exact List.mem_of_getElem? HY.out)]
        clear hxy
        go_wp2
        go_ret
        exact ⟨_, rfl, HR.out, rfl⟩
      · have d1 : (x == y) = false := by simp [hxy]
        have HN := hide hxy
        clear hxy
        go_wp2
        go_roundw
        case rel =>
          refine ⟨k + 1, by omega, by go_num, fun j q hj hq => ?_, trivial⟩
          by_cases e : j = k
          · subst e
            rw [HY.out] at hq
            obtain rfl := Option.some.inj hq
            exact HN.out
          · exact hall.out j q (by omega) hq
        case measure => simp [intOf]; omega
    · obtain rfl : k = len := by omega
      have HR : Hid (decide (0 ≤ (-1 : Int)) = decide (x ∈ l)) := by
        unfold Hid
        rw [decide_eq_false (by omega), decide_eq_false]
        intro hx
        obtain ⟨j, hj⟩ := List.mem_iff_getElem?.1 hx
        have := (List.getElem?_eq_some_iff.1 hj).1
        rw [HL.out] at this
        exact hall.out j x this hj rfl
      go_wp2
      go_ret
      exact ⟨_, rfl, HR.out, rfl⟩

set_option maxRecDepth 100000 in
set_option maxHeartbeats 4000000 in
theorem contains_any (w : World) (a : Option Addr) (len cap : Nat) (l : List Int) (hs : Is w a len cap l) (x : Int) (hm : len ≤ 9223372036854775807) :
    Calls Tryz.prog 49 #[.slice a len cap, .int .i64 x] w fun e w' => e = .returned (.bool (decide (x ∈ l))) ∧ w' = w := by
  have HS := hide hs
  clear hs
  go_enter Tryz.func49, Tryz.ntmps49
  go_wp2_with fail
  refine Calls.mono (index_any w a len cap l HS.out x hm) ?_
  rintro e w1 ⟨i, rfl, hi, rfl⟩
  have HI := hide hi
  clear hi
  go_wp2
  go_ret
  exact ⟨by rw [← HI.out]; rfl, rfl⟩

set_option maxRecDepth 100000 in
set_option maxHeartbeats 4000000 in
theorem indexFunc_any (w : World) (a : Option Addr) (len cap : Nat) (l : List Int) (hs : Is w a len cap l) (p : Int) (cb : Nat) (hc : w.cell? ⟨cb, 0, none⟩ = some (.int .i64 p)) (hm : len ≤ 9223372036854775807) :
    Calls Tryz.prog 66 #[.slice a len cap, .func (.func 51) #[] #[.pointer (some ⟨cb, 0, none⟩)]] w fun e w' => ∃ i : Int, e = .returned (.int .i64 i) ∧ ((i = -1 ∧ p ∉ l) ∨ ∃ k : Nat, i = (k : Int) ∧ l[k]? = some p ∧ p ∉ l.take k) ∧ w' = w := by
  have HS := hide hs
  have HL : Hid (l.length = len) := hs.size
  clear hs
  go_enter Tryz.func66, Tryz.ntmps66
  go_wp2
  go_loopw [8] (fun i wr => ∃ k : Nat, k ≤ len ∧ i = .int .i64 (k : Int) ∧ Hid (p ∉ l.take k) ∧ wr = w) (fun i _ => len - (intOf i).toNat)
  case atStart => exact ⟨0, by omega, rfl, by unfold Hid; simp, rfl⟩
  case round =>
    obtain ⟨k, hk, rfl, hall, rfl⟩ := hrel
    by_cases hlt : k < len
    · obtain ⟨y, hy⟩ : ∃ p, l[k]? = some p := ⟨_, List.getElem?_eq_getElem (by rw [HL.out]; exact hlt)⟩
      obtain ⟨b, off, rfl, hr⟩ := HS.out.at ci1 (by decide) hy
      have q0 := hr 0 _ rfl
      simp only [Nat.add_zero, Nat.mul_one] at q0
      have hk1 : (k : Int) < (len : Int) := by omega
      have HY := hide hy
      clear hr hy
      by_cases hyp : y = p
      · have d1 : (y == p) = true := by simp [hyp]
        have HR : Hid (l[k]? = some p) := by unfold Hid; rw [HY.out, hyp]
        clear hyp
        go_wp2
        go_ret
        exact ⟨_, rfl, .inr ⟨k, rfl, HR.out, hall.out⟩, rfl⟩
      · have d1 : (y == p) = false := by simp [hyp]
        have HR : Hid (p ∉ l.take (k + 1)) := by
          unfold Hid
          rw [take_snoc HY.out]
          intro h
          rcases List.mem_append.1 h with h | h
          · exact hall.out h
          · simp at h
            exact hyp h.symm
        clear hyp
        go_wp2
        go_roundw
        case rel => exact ⟨k + 1, by omega, by go_num, HR.out, trivial⟩
        case measure => simp [intOf]; omega
    · obtain rfl : k = len := by omega
      have HR : Hid (p ∉ l) := by
        have := hall.out
        rw [← HL.out, List.take_length] at this
        exact this
      go_wp2
      go_ret
      exact ⟨_, rfl, .inl ⟨rfl, HR.out⟩, rfl⟩

theorem grownBy_trans {w w1 w2 : World} {row : Option Nat} (h : w.grownBy w1 row) (k : w1.grownBy w2 row) : w.grownBy w2 row :=
  ⟨k.os.trans h.os, k.tape.trans h.tape, k.output.trans h.output, Nat.le_trans h.size k.size, fun i hi hne => (k.block i (Nat.lt_of_lt_of_le hi h.size) hne).trans (h.block i hi hne)⟩
theorem grownBy_refl (w : World) (row : Option Nat) : w.grownBy w row := ⟨rfl, rfl, rfl, Nat.le_refl _, fun _ _ _ => rfl⟩
theorem grownBy_setCells (g : Nat) : ∀ (vs : List Value) (off : Nat) (w : World), w.grownBy (w.setCells g off vs) (some g)
  | [], off, w => grownBy_refl _ _
  | v :: vs, off, w => grownBy_trans (w1 := w.setCell ⟨g, off, none⟩ v) ⟨rfl, rfl, rfl, by simp, fun k _ hk => heap_setCell_other w ⟨g, off, none⟩ k v (fun e => hk (by simp [e]))⟩ (grownBy_setCells g vs (off + 1) _)
theorem fl_ci (l : List Int) : l.flatMap ci = l.map (Value.int .i64) := by
  induction l with
  | nil => rfl
  | cons x l ih => rw [List.flatMap_cons, ih]; rfl
theorem iown_stored {w : World} {base g cap : Nat} {ys : List Int} (h : IOwn w base (.slice (some ⟨g, 0, none⟩) ys.length cap) ys) (j : Nat) (y : Int) :
    IOwn (w.setCell ⟨g, j, none⟩ (.int .i64 y)) base (.slice (some ⟨g, 0, none⟩) ys.length cap) (ys.set j y) ∧ w.grownBy (w.setCell ⟨g, j, none⟩ (.int .i64 y)) (some g) := by
  obtain ⟨h1, h2⟩ := World.ownsRow.stored h j (.int .i64 y)
  refine ⟨?_, h2⟩
  unfold IOwn
  rw [List.length_set, fl_ci, List.map_set, ← fl_ci]
  exact h1
theorem iown_front {w : World} {base g n cap : Nat} {ys : List Int} (h : IOwn w base (.slice (some ⟨g, 0, none⟩) n cap) ys) {i : Nat} (hi : i ≤ ys.length) : IOwn w base (.slice (some ⟨g, 0, none⟩) i cap) (ys.take i) := by
  rcases h.2 with ⟨h', _⟩ | ⟨g', cap', cur, h', hb, hg, hnc, hcm, hcs, htake⟩
  · simp at h'
  · simp only [Value.slice.injEq, Option.some.injEq, Addr.mk.injEq, and_true, true_and] at h'
    obtain ⟨rfl, rfl, rfl⟩ := h'
    have hl : (ys.take i).length = i := by rw [List.length_take]; omega
    refine ⟨by rw [hl, fl_ci, List.length_map, hl]; omega, .inr ⟨g, cap, cur, by rw [hl], hb, hg, by omega, hcm, hcs, ?_⟩⟩
    rw [hl, fl_ci, List.map_take, ← fl_ci, ← htake, List.take_take]
    congr 1
    omega
theorem iown_setCells {base g m c : Nat} {l : List Int} : ∀ (vs : List Value) (off : Nat) (w : World), IOwn w base (.slice (some ⟨g, 0, none⟩) m c) l → l.length = m → m ≤ off → IOwn (w.setCells g off vs) base (.slice (some ⟨g, 0, none⟩) m c) l
  | [], off, w, h, _, _ => h
  | v :: vs, off, w, h, hl, ho => by
    subst hl
    have h2 := (World.ownsRow.stored h off v).1
    rw [List.set_eq_of_length_le (by rw [fl_ci, List.length_map]; exact ho)] at h2
    exact iown_setCells vs (off + 1) (w.setCell ⟨g, off, none⟩ v) h2 rfl (by omega)
theorem iown_at {w : World} {base g n cap : Nat} {ys : List Int} (h : IOwn w base (.slice (some ⟨g, 0, none⟩) n cap) ys) {j : Nat} {y : Int} (hy : ys[j]? = some y) : w.cell? ⟨g, j, none⟩ = some (.int .i64 y) := by
  have hj := (List.getElem?_eq_some_iff.1 hy).1
  obtain ⟨a, c, e, hr⟩ := iown_is h
  simp only [Value.slice.injEq] at e
  obtain ⟨rfl, _, _⟩ := e
  obtain ⟨b, off, e', hc⟩ := hr.at ci1 (by decide) hy
  simp only [Option.some.injEq, Addr.mk.injEq, and_true] at e'
  obtain ⟨rfl, rfl⟩ := e'
  have := hc 0 _ rfl
  simpa using this
theorem out_no {r : List Int} {p : Int} (h : p ∉ r) : outOf r p = r := List.filter_eq_self.2 fun x hx => by simp; rintro rfl; exact h hx
theorem out_snoc (r : List Int) (p y : Int) : outOf (r ++ [y]) p = outOf r p ++ (if y == p then [] else [y]) := by
  unfold outOf
  rw [List.filter_append]
  by_cases h : y = p
  · simp [h]
  · simp [h]

theorem wpList_clear {P : Program} {w w' : World} {ops : Array Oper} {rest : List Oper} {o : Oper} {a : Act} {Q : Exit → Act → World → Prop} (hgd : o.guard = none) (x : Operand) (t : TypeId)
    (ho : o.op = .call { callee := .builtin .clear, args := #[x], argTypes := #[t] }) (v : Value) (hx : a.eval x = v) (hrun : (Builtin.clear_ #[t] o.type #[v]).run P w = .ok (.tuple #[]) w')
    (h : wpList P ops Q rest (a.put o.dst (.tuple #[])) w') : wpList P ops Q (o :: rest) a w := by
  refine wpList_plain hgd fun K hK => ?_
  unfold Oper.wp
  simp [execOp, ho, resolve, invoke, builtin, hx, hrun, Result.andThen]
  exact hK _ _ h
theorem zeroInt (w : World) : (zeroValue 3).run Tryz.prog w = .ok (.int .i64 0) w := by kernel_rfl

set_option maxRecDepth 100000 in
set_option maxHeartbeats 4000000 in
theorem deleteFunc_any (w : World) (base : Nat) (a : Option Addr) (n c : Nat) (r : List Int) (ho : IOwn w base (.slice a n c) r) (p : Int) (cb : Nat) (hc : w.cell? ⟨cb, 0, none⟩ = some (.int .i64 p)) (hne : (Value.slice a n c).ownBlock ≠ some cb) (hm : r.length ≤ 1000000) :
    Calls Tryz.prog 50 #[.slice a n c, .func (.func 51) #[] #[.pointer (some ⟨cb, 0, none⟩)]] w fun e w' => ∃ a' n' c', e = .returned (.slice a' n' c') ∧ IOwn w' base (.slice a' n' c') (outOf r p) ∧ (Value.slice a' n' c').ownBlock = (Value.slice a n c).ownBlock ∧ w.grownBy w' (Value.slice a n c).ownBlock := by
  obtain ⟨a0, c0, e0, his⟩ := iown_is ho
  simp only [Value.slice.injEq] at e0
  obtain ⟨rfl, rfl, rfl⟩ := e0
  have HO := hide ho
  have HC := hide hc
  have HNE := hide hne
  go_enter Tryz.func50, Tryz.ntmps50
  go_wp2_with fail
  refine Calls.mono (indexFunc_any w a r.length c r his p cb hc (by omega)) ?_
  rintro e w1 ⟨i, rfl, hi, rfl⟩
  clear ho hc hne his
  rcases hi with ⟨rfl, hnot⟩ | ⟨k, rfl, hk, hnot⟩
  · have HR := hide (out_no hnot)
    clear hnot
    go_wp2
    go_ret
    exact ⟨_, _, _, rfl, by rw [HR.out]; exact HO.out, rfl, grownBy_refl _ _⟩
  obtain ⟨g, rfl⟩ : ∃ g, a = some ⟨g, 0, none⟩ := by
    rcases HO.out.2 with ⟨e, hn⟩ | ⟨g, cap, cur, e, _⟩
    · simp only [Value.slice.injEq] at e
      have := (List.getElem?_eq_some_iff.1 hk).1
      omega
    · simp only [Value.slice.injEq] at e
      exact ⟨g, e.1⟩
  have hkl : k < r.length := (List.getElem?_eq_some_iff.1 hk).1
  have HS : Hid (r.take k = outOf (r.take (k + 1)) p) := by
    unfold Hid
    rw [take_snoc hk, out_snoc, out_no hnot]
    simp
  have d0 : ((k : Int) == -1) = false := by rw [beq_eq_false_iff_ne]; omega
  have HLn : Hid (r.length = r.length) := rfl
  clear hk hnot
  go_wp2
  generalize hn : r.length = n at *
  have HN := hide hn
  clear hn HLn
  go_loopw [5, 6] (fun iv jv wr => ∃ (i j : Nat) (ys : List Int), i < j ∧ j ≤ n ∧ iv = .int .i64 (i : Int) ∧ jv = .int .i64 (j : Int) ∧ Hid (ys.length = n) ∧ Hid (IOwn wr base (.slice (some ⟨g, 0, none⟩) n c) ys) ∧ Hid (ys.take i = outOf (r.take j) p) ∧ Hid (ys.drop j = r.drop j) ∧ Hid (w1.grownBy wr (some g))) (fun _ jv _ => n - (intOf jv).toNat)
  case atStart => exact ⟨k, k + 1, r, by omega, by omega, rfl, by go_num, HN.out, HO.out, HS.out, rfl, grownBy_refl _ _⟩
  case round =>
    obtain ⟨i, j, ys, hij, hjn, rfl, rfl, hyl, hown, htk, hdr, hgr⟩ := hrel
    have c0 := hgr.out.cell HC.out (fun e => HNE.out e.symm)
    by_cases hlt : j < n
    · obtain ⟨y, hy⟩ : ∃ y, ys[j]? = some y := ⟨_, List.getElem?_eq_getElem (by rw [hyl.out]; exact hlt)⟩
      have q0 := iown_at hown.out hy
      have hry : r[j]? = some y := by
        have := congrArg (·[0]?) hdr.out
        simp only [List.getElem?_drop, Nat.add_zero] at this
        rw [← this]; exact hy
      have HT := hide (take_snoc hry)
      have hj1 : (j : Int) < (n : Int) := by omega
      have hi1 : (i : Int) < (n : Int) := by omega
      have hi0 : (0 : Int) ≤ (i : Int) := by omega
      have HD1 : Hid (ys.drop (j + 1) = r.drop (j + 1)) := by
        have := congrArg (List.drop 1) hdr.out
        rw [List.drop_drop, List.drop_drop] at this
        exact this
      clear hry
      by_cases hyp : y = p
      · have d1 : (y == p) = true := by simp [hyp]
        have HR : Hid (ys.take i = outOf (r.take (j + 1)) p) := by unfold Hid; rw [HT.out, out_snoc, d1, htk.out]; simp
        clear hyp hy
        go_wp2
        go_roundw
        case rel => exact ⟨i, j + 1, ys, by omega, by omega, rfl, by go_num, hyl.out, hown.out, HR.out, HD1.out, hgr.out⟩
        case measure => simp [intOf]; omega
      · have d1 : (y == p) = false := by simp [hyp]
        have hil : i < ys.length := by rw [hyl.out]; omega
        have f0 := World.ownsRow.frozenAt (by have := hown.out; unfold IOwn at this; rw [hyl.out] at this; exact this) i
        obtain ⟨xi, hxi⟩ : ∃ x, ys[i]? = some x := ⟨_, List.getElem?_eq_getElem hil⟩
        have q1 := iown_at hown.out hxi
        have HST := by
          have h := hown.out
          rw [← hyl.out] at h
          exact hide (iown_stored h i y)
        rw [hyl.out] at HST
        have HR : Hid ((ys.set i y).take (i + 1) = outOf (r.take (j + 1)) p) := by
          unfold Hid
          rw [HT.out, out_snoc, d1, take_snoc (List.getElem?_set_self hil), List.take_set_of_le (Nat.le_refl _), htk.out]
          simp
        have HD2 : Hid ((ys.set i y).drop (j + 1) = r.drop (j + 1)) := by unfold Hid; rw [List.drop_set_of_lt (by omega)]; exact HD1.out
        have HG2 := hide (grownBy_trans hgr.out HST.out.2)
        clear hyp hy hxi hil
        go_wp2
        go_roundw
        case rel => exact ⟨i + 1, j + 1, ys.set i y, by omega, by omega, by go_num, by go_num, by unfold Hid; rw [List.length_set]; exact hyl.out, HST.out.1, HR.out, HD2.out, HG2.out⟩
        case measure => simp [intOf]; omega
    · obtain rfl : j = n := by omega
      have HR : Hid (ys.take i = outOf r p) := by
        have := htk.out
        rw [← HN.out, List.take_length] at this
        exact this
      have hcap : j ≤ c := by
        rcases hown.out.2 with ⟨e, _⟩ | ⟨g', cap', cur, e, _, _, hnc, _⟩
        · simp at e
        · simp only [Value.slice.injEq, Option.some.injEq, Addr.mk.injEq, and_true, true_and] at e
          obtain ⟨_, e2, rfl⟩ := e
          omega
      have i1 : (i : Int) ≤ (j : Int) := by omega
      have i2 : (j : Int) ≤ (c : Int) := by omega
      have i3 : (i : Int) ≤ (c : Int) := by omega
      have i4 : (0 : Int) ≤ (i : Int) := by omega
      have i5 : i < c := by omega
      have i6 : i ≤ j := by omega
      have hrun := Lib.run_clear_slice (P := Tryz.prog) wr 23 3 0 (.int .i64 0) Tryz.underlying23 zeroInt rfl rfl g i (j - i) (c - i) (by omega)
        (fun q hq => by
          obtain ⟨x, hx⟩ : ∃ x, ys[i + q]? = some x := ⟨_, List.getElem?_eq_getElem (by rw [hyl.out]; omega)⟩
          rw [iown_at hown.out hx]; rfl)
        (fun q hq => World.ownsRow.frozenAt (by have := hown.out; unfold IOwn at this; rw [hyl.out] at this; exact this) (i + q))
      have F1 := iown_setCells (List.replicate (j - i) (.int .i64 0)) i wr (iown_front hown.out (i := i) (by rw [hyl.out]; omega)) (by rw [List.length_take, hyl.out]; omega) (Nat.le_refl _)
      rw [HR.out] at F1
      have HF := hide F1
      have HG := hide (grownBy_trans hgr.out (grownBy_setCells g (List.replicate (j - i) (.int .i64 0)) i wr))
      clear F1
      generalize wr.setCells g i (List.replicate (j - i) (.int .i64 0)) = W9 at *
      go_wp2
      go_ret
      exact ⟨_, _, _, rfl, HF.out, rfl, HG.out⟩
end Go.Proofs.YtahcchipedppmaaGreatDoor
