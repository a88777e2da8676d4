/-
  Comparing pages, more: the program's Differ, both sides' Alike, the document's Same.
-/
import Derived.Test.YtbekdbgnpcbklaaDoorPgInts
namespace Go.Proofs.YtbekdbgnpcbklaaDoor
open Go.RowKit FerryCrc
set_option linter.unusedVariables false

/-- What Alike looks at. -/
def Pg.key (p : Pg) : Int × List Nat := (p.rights, p.data)
set_option maxRecDepth 100000 in
set_option maxHeartbeats 400000 in
theorem differ_any (a : Option Addr) (len cap : Nat) (l : List Pg) (a' : Option Addr) (cap' : Nat) (m : List Pg) (w : World) (hs : Pgs w a len cap l) (hs' : Pgs w a' len cap' m) :
    Calls Tryd.prog 16 #[.slice a len cap, .slice a' len cap'] w fun e w' => ∃ v, e = .returned (.tuple #[v, .nilIface]) ∧ IOwn w' w.heap.size v (dif l m len) ∧ Below w.heap.size w w' := by
  have hm := hs.most
  have HS := hide hs
  have HS' := hide hs'
  clear hs hs'
  go_enter Tryd.func16, Tryd.ntmps16
  go_wp2
  go_loopw [6, 16] (fun o i wr => ∃ k : Nat, k ≤ len ∧ i = .int .i64 k ∧ Hid (IOwn wr w.heap.size o (dif l m k)) ∧ Hid (Below w.heap.size w wr)) (fun _ i _ => len - (intOf i).toNat)
  case atStart => exact ⟨0, by omega, rfl, World.ownsRow_nil _ _ _ _, Below.refl _ _⟩
  case round =>
    obtain ⟨k, hk, rfl, hown, hb⟩ := hrel
    by_cases hlt : k < len
    · obtain ⟨p, hp⟩ : ∃ p, l[k]? = some p := ⟨_, List.getElem?_eq_getElem (by rw [HS.out.size]; exact hlt)⟩
      obtain ⟨b, off, rfl, hr⟩ := HS.out.cell k p hp
      obtain ⟨q, hq⟩ : ∃ q, m[k]? = some q := ⟨_, List.getElem?_eq_getElem (by rw [HS'.out.size]; exact hlt)⟩
      obtain ⟨b', off', rfl, hr'⟩ := HS'.out.cell k q hq
      have hr1 := range_row (range_below hr hb.out)
      have hr2 := range_row (range_below hr' hb.out)
      have hpo : p.Ok := HS.out.ok p (List.mem_of_getElem? hp)
      have hqo : q.Ok := HS'.out.ok q (List.mem_of_getElem? hq)
      have hu39 := Tryd.underlying57
      have hi1 : (Tryd.prog.info? 57).map (·.size) = some p.row.length := by rw [hpo.row]; exact sizeData
      have hi2 : (Tryd.prog.info? 57).map (·.size) = some q.row.length := by rw [hqo.row]; exact sizeData
      by_cases he : p.data = q.data
      · have hne : ∀ w, (binOp .neq 57 (.agg p.row.toArray) (.agg q.row.toArray)).run Tryd.prog w = .ok (.bool false) w := fun w => by rw [neq_rows hpo hqo]; simp [he]
        have HD := hide (dif_same hp hq he)
        clear hr hr' hp hq hpo hqo he
        go_wp2
        refine wp_region_quiet_lit (by kernel_rfl) (by kernel_rfl) ?_
        repeat (first
          | (go_big_quiet_want; refine quiet_load_mid 57 (.tmp 22) rfl b (off + k * 66 + 2) rfl p.row _ hr1 hu39 rfl hi1 ?_; simp only [Act.put, List.setIfInBounds_toArray, List.set_cons_succ, List.set_cons_zero]; go_big_quiet_on)
          | (go_big_quiet_want; refine quiet_load_mid 57 (.tmp 27) rfl b' (off' + k * 66 + 2) rfl q.row _ hr2 hu39 rfl hi2 ?_; simp only [Act.put, List.setIfInBounds_toArray, List.set_cons_succ, List.set_cons_zero]; go_big_quiet_on)
          | (go_big_quiet_want; refine quiet_neq 57 57 (.tmp 23) (.tmp 28) rfl _ _ rfl rfl (by kernel_rfl) _ hne ?_; simp only [Act.put, List.setIfInBounds_toArray, List.set_cons_succ, List.set_cons_zero]; go_big_quiet_on)
          | go_big_quiet_step (fail))
        refine wpQuiet_nil ?_
        intro _ hw'
        obtain ⟨nq, rfl⟩ := hw'
        clear hne hr1 hr2 hu39 hi1 hi2
        go_wp2
        go_roundw
        case rel => exact ⟨k + 1, by omega, by go_num, by rw [HD.out]; exact hown.out, drewN_below hb.out nq⟩
        case measure => simp [intOf]; omega
      · have hne : ∀ w, (binOp .neq 57 (.agg p.row.toArray) (.agg q.row.toArray)).run Tryd.prog w = .ok (.bool true) w := fun w => by rw [neq_rows hpo hqo]; simp [he]
        have HD := hide (dif_other hp hq he)
        have HL : Hid ((dif l m k).length < 1759218604391) := by unfold Hid; have := dif_len l m k; omega
        clear hr hr' hp hq hpo hqo he
        go_wp2
        refine wp_region_quiet_lit (by kernel_rfl) (by kernel_rfl) ?_
        repeat (first
          | (go_big_quiet_want; refine quiet_load_mid 57 (.tmp 22) rfl b (off + k * 66 + 2) rfl p.row _ hr1 hu39 rfl hi1 ?_; simp only [Act.put, List.setIfInBounds_toArray, List.set_cons_succ, List.set_cons_zero]; go_big_quiet_on)
          | (go_big_quiet_want; refine quiet_load_mid 57 (.tmp 27) rfl b' (off' + k * 66 + 2) rfl q.row _ hr2 hu39 rfl hi2 ?_; simp only [Act.put, List.setIfInBounds_toArray, List.set_cons_succ, List.set_cons_zero]; go_big_quiet_on)
          | (go_big_quiet_want; refine quiet_neq 57 57 (.tmp 23) (.tmp 28) rfl _ _ rfl rfl (by kernel_rfl) _ hne ?_; simp only [Act.put, List.setIfInBounds_toArray, List.set_cons_succ, List.set_cons_zero]; go_big_quiet_on)
          | go_big_quiet_step (fail))
        refine wpQuiet_nil ?_
        intro _ hw'
        obtain ⟨nq, rfl⟩ := hw'
        clear hne hr1 hr2 hu39 hi1 hi2
        go_wp2_with (at_builtin; refine append_int rfl (.tmp 30) (.tmp 32) rfl w.heap.size _ (dif l m k) rfl (hown.out.fresh nq _) wr.heap.size 1 k rfl (fresh_cell wr nq _ _) HL.out (by simp; have := hb.out.size; omega) ?_; intro v' w1 hown1 hgrow1)
        have hb1 : Hid (Below w.heap.size w w1) := ((drewN_below hb.out nq).alloc hb.out.size _).grown hgrow1 (by simp; have := hb.out.size; omega) (fun j e => (World.ownsRow.lt hown.out j e).1)
        go_roundw
        case rel => exact ⟨k + 1, by omega, by go_num, by rw [HD.out]; exact hown1, hb1⟩
        case measure => simp [intOf]; omega
    · obtain rfl : k = len := by omega
      go_wp2
      go_ret2
      exact ⟨_, rfl, hown.out, hb.out⟩

set_option maxRecDepth 100000 in
set_option maxHeartbeats 1000000 in
theorem alike_any (a : Option Addr) (len cap : Nat) (l : List Pg) (a' : Option Addr) (len' cap' : Nat) (m : List Pg) (w : World) (hs : Pgs w a len cap l) (hs' : Pgs w a' len' cap' m) :
    Calls Tryd.prog 24 #[.slice a len cap, .slice a' len' cap'] w fun e w' => ∃ r : Bool, e = .returned (.bool r) ∧ (r = true ↔ l.map Pg.key = m.map Pg.key) ∧ Below w.heap.size w w' := by
  have hm := hs.most
  have hm' := hs'.most
  have HS := hide hs
  have HS' := hide hs'
  clear hs hs'
  by_cases hlen : len = len'
  case neg =>
    have hd1 : ((len : Int) == (len' : Int)) = false := by simp; omega
    go_enter Tryd.func24, Tryd.ntmps24
    go_wp2
    go_ret
    refine ⟨false, rfl, ?_, Below.refl _ _⟩
    simp only [Bool.false_eq_true, false_iff]
    intro e
    have := congrArg List.length e
    simp only [List.length_map, HS.out.size, HS'.out.size] at this
    omega
  subst hlen
  go_enter Tryd.func24, Tryd.ntmps24
  go_wp2
  go_loopw [13] (fun i wr => ∃ k : Nat, k ≤ len ∧ i = .int .i64 k ∧ Hid (∀ j, j < k → (l.map Pg.key)[j]? = (m.map Pg.key)[j]?) ∧ Hid (Below w.heap.size w wr)) (fun i _ => len - (intOf i).toNat)
  case atStart => exact ⟨0, by omega, rfl, fun j hj => by omega, Below.refl _ _⟩
  case round =>
    obtain ⟨k, hk, rfl, hal, hb⟩ := hrel
    by_cases hlt : k < len
    · obtain ⟨p, hp⟩ : ∃ p, l[k]? = some p := ⟨_, List.getElem?_eq_getElem (by rw [HS.out.size]; exact hlt)⟩
      obtain ⟨b, off, rfl, hr⟩ := HS.out.cell k p hp
      obtain ⟨q, hq⟩ : ∃ q, m[k]? = some q := ⟨_, List.getElem?_eq_getElem (by rw [HS'.out.size]; exact hlt)⟩
      obtain ⟨b', off', rfl, hr'⟩ := HS'.out.cell k q hq
      have hr1 := range_row (range_below hr hb.out)
      have hr2 := range_row (range_below hr' hb.out)
      have hc1 : wr.cell? ⟨b, off + k * 66, none⟩ = some (.int .i64 p.rights) := range_below hr hb.out 0 _ rfl
      have hc2 : wr.cell? ⟨b', off' + k * 66, none⟩ = some (.int .i64 q.rights) := range_below hr' hb.out 0 _ rfl
      have hpo : p.Ok := HS.out.ok p (List.mem_of_getElem? hp)
      have hqo : q.Ok := HS'.out.ok q (List.mem_of_getElem? hq)
      have hu39 := Tryd.underlying57
      have hi1 : (Tryd.prog.info? 57).map (·.size) = some p.row.length := by rw [hpo.row]; exact sizeData
      have hi2 : (Tryd.prog.info? 57).map (·.size) = some q.row.length := by rw [hqo.row]; exact sizeData
      have HKL : Hid ((l.map Pg.key)[k]? = some p.key) := by unfold Hid; simp [hp]
      have HKM : Hid ((m.map Pg.key)[k]? = some q.key) := by unfold Hid; simp [hq]
      by_cases hrt : p.rights = q.rights
      · by_cases he : p.data = q.data
        · have hne : ∀ w, (binOp .neq 57 (.agg p.row.toArray) (.agg q.row.toArray)).run Tryd.prog w = .ok (.bool false) w := fun w => by rw [neq_rows hpo hqo]; simp [he]
          have HK : Hid (p.key = q.key) := by unfold Hid Pg.key; rw [hrt, he]
          clear hr hr' hp hq hpo hqo he
          go_wp2
          refine wp_region_quiet_lit (by kernel_rfl) (by kernel_rfl) ?_
          repeat (first
            | (go_big_quiet_want; refine quiet_load_mid 57 (.tmp 31) rfl b (off + k * 66 + 2) rfl p.row _ hr1 hu39 rfl hi1 ?_; simp only [Act.put, List.setIfInBounds_toArray, List.set_cons_succ, List.set_cons_zero]; go_big_quiet_on)
            | (go_big_quiet_want; refine quiet_load_mid 57 (.tmp 36) rfl b' (off' + k * 66 + 2) rfl q.row _ hr2 hu39 rfl hi2 ?_; simp only [Act.put, List.setIfInBounds_toArray, List.set_cons_succ, List.set_cons_zero]; go_big_quiet_on)
            | (go_big_quiet_want; refine quiet_neq 57 57 (.tmp 32) (.tmp 37) rfl _ _ rfl rfl (by kernel_rfl) _ hne ?_; simp only [Act.put, List.setIfInBounds_toArray, List.set_cons_succ, List.set_cons_zero]; go_big_quiet_on)
            | go_big_quiet_step (fail))
          refine wpQuiet_nil ?_
          intro _ hw'
          obtain ⟨nq, rfl⟩ := hw'
          clear hne hr1 hr2 hu39 hi1 hi2 hc1 hc2 hrt
          go_wp2
          go_roundw
          case rel => exact ⟨k + 1, by omega, by go_num, fun j hj => by
            by_cases e : j = k
            · subst e; rw [HKL.out, HKM.out, HK.out]
            · exact hal.out j (by omega), drewN_below hb.out nq⟩
          case measure => simp [intOf]; omega
        · have hne : ∀ w, (binOp .neq 57 (.agg p.row.toArray) (.agg q.row.toArray)).run Tryd.prog w = .ok (.bool true) w := fun w => by rw [neq_rows hpo hqo]; simp [he]
          have HK : Hid (¬ p.key = q.key) := by unfold Hid Pg.key; simp [he]
          clear hr hr' hp hq hpo hqo he
          go_wp2
          refine wp_region_quiet_lit (by kernel_rfl) (by kernel_rfl) ?_
          repeat (first
            | (go_big_quiet_want; refine quiet_load_mid 57 (.tmp 31) rfl b (off + k * 66 + 2) rfl p.row _ hr1 hu39 rfl hi1 ?_; simp only [Act.put, List.setIfInBounds_toArray, List.set_cons_succ, List.set_cons_zero]; go_big_quiet_on)
            | (go_big_quiet_want; refine quiet_load_mid 57 (.tmp 36) rfl b' (off' + k * 66 + 2) rfl q.row _ hr2 hu39 rfl hi2 ?_; simp only [Act.put, List.setIfInBounds_toArray, List.set_cons_succ, List.set_cons_zero]; go_big_quiet_on)
            | (go_big_quiet_want; refine quiet_neq 57 57 (.tmp 32) (.tmp 37) rfl _ _ rfl rfl (by kernel_rfl) _ hne ?_; simp only [Act.put, List.setIfInBounds_toArray, List.set_cons_succ, List.set_cons_zero]; go_big_quiet_on)
            | go_big_quiet_step (fail))
          refine wpQuiet_nil ?_
          intro _ hw'
          obtain ⟨nq, rfl⟩ := hw'
          clear hne hr1 hr2 hu39 hi1 hi2 hc1 hc2 hrt
          go_wp2
          go_ret
          refine ⟨false, rfl, ?_, drewN_below hb.out nq⟩
          simp only [Bool.false_eq_true, false_iff]
          intro e
          have h1 := HKL.out
          rw [e, HKM.out] at h1
          exact HK.out (Option.some.inj h1).symm
      · have hne : ∀ w, (binOp .neq 57 (.agg p.row.toArray) (.agg q.row.toArray)).run Tryd.prog w = .ok (.bool true) w → True := fun w _ => trivial
        have HK : Hid (¬ p.key = q.key) := by unfold Hid Pg.key; simp [hrt]
        have hd1 : (p.rights != q.rights) = true := by simpa using hrt
        clear hr hr' hp hq hpo hqo hrt hne
        go_wp2
        refine wp_region_quiet_lit (by kernel_rfl) (by kernel_rfl) ?_
        repeat (go_big_quiet_step (fail))
        refine wpQuiet_nil ?_
        intro _ hw'
        obtain ⟨nq, rfl⟩ := hw'
        clear hr1 hr2 hu39 hi1 hi2 hc1 hc2 hd1
        go_wp2
        go_ret
        refine ⟨false, rfl, ?_, drewN_below hb.out nq⟩
        simp only [Bool.false_eq_true, false_iff]
        intro e
        have h1 := HKL.out
        rw [e, HKM.out] at h1
        exact HK.out (Option.some.inj h1).symm
    · obtain rfl : k = len := by omega
      go_wp2
      go_ret
      refine ⟨true, rfl, ?_, hb.out⟩
      simp only [true_iff]
      refine List.ext_getElem? fun j => ?_
      by_cases hj : j < k
      · exact hal.out j hj
      · rw [List.getElem?_eq_none (by rw [List.length_map, HS.out.size]; omega), List.getElem?_eq_none (by rw [List.length_map, HS'.out.size]; omega)]

end Go.Proofs.YtbekdbgnpcbklaaDoor
