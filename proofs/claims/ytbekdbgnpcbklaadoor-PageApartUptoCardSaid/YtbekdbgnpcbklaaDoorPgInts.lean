/-
  Rows of numbers of the call's own; a number appended.
-/
import Derived.Test.YtbekdbgnpcbklaaDoorPgCmp
namespace Go.Proofs.YtbekdbgnpcbklaaDoor
open Go.RowKit FerryCrc
set_option linter.unusedVariables false

def iv (n : Nat) : Value := .int .i64 (n : Int)
/-- A slice of the call's own that holds these numbers. -/
def IOwn (w : World) (base : Nat) (v : Value) (l : List Nat) : Prop := w.ownsRow base 3 1 v l.length (l.map iv)
theorem iv_one (l : List Nat) : ∀ u ∈ l.map iv, u.oneCell' = true := by
  intro u hu
  obtain ⟨c, _, rfl⟩ := List.mem_map.1 hu
  rfl
theorem infoI : (Tryd.prog.info? 3).map (fun i => (i.zero, i.size, i.bytes)) = some (some (.int .i64 0), 1, 8) := by kernel_rfl
theorem IOwn.below {w w' : World} {base : Nat} {v : Value} {L : List Nat} (h : IOwn w base v L) (hb : Below w.heap.size w w') : IOwn w' base v L := by
  refine ⟨h.1, ?_⟩
  rcases h.2 with e | ⟨g, cap, cur, e, hg, hh, r⟩
  · exact .inl e
  · refine .inr ⟨g, cap, cur, e, hg, ?_, r⟩
    rw [hb.block g (Array.getElem?_eq_some_iff.1 hh).1]
    exact hh
theorem IOwn.fresh {w : World} {base : Nat} {v : Value} {L : List Nat} (h : IOwn w base v L) (nq : Nat) (o : Obj) : IOwn ((w.drewN nq).alloc o) base v L := World.ownsRow.alloc (w := w.drewN nq) h o
theorem fresh_cell (w : World) (nq : Nat) (v : Value) (t : TypeId) : ((w.drewN nq).alloc (.cells #[v] t)).cell? ⟨w.heap.size, 0, none⟩ = some v := by
  have h : ((w.drewN nq).alloc (.cells #[v] t)).cell? ⟨(w.drewN nq).heap.size, 0, none⟩ = some v := by rw [World.cell?_alloc_at _ _ _ _ rfl]; rfl
  exact h
/-- append of one number. -/
theorem append_int {w : World} {ops : Array Oper} {rest : List Oper} {o : Oper} {act : Act} {Q : Exit → Act → World → Prop} (hgd : o.guard = none) (s x : Operand)
    (ho : o.op = .call { callee := .builtin .append, args := #[s, x], argTypes := #[46, 46] })
    (base : Nat) (v : Value) (xs : List Nat) (hs : act.eval s = v) (hown : IOwn w base v xs)
    (g c n : Nat) (hx : act.eval x = .slice (some ⟨g, 0, none⟩) 1 c) (hc : w.cell? ⟨g, 0, none⟩ = some (.int .i64 (n : Int)))
    (h63 : xs.length < 1759218604391) (hbase : base ≤ w.heap.size)
    (h : ∀ v' w', IOwn w' base v' (xs ++ [n]) → w.grownBy w' v.ownBlock → wpList Tryd.prog ops Q rest (act.put o.dst v') w') : wpList Tryd.prog ops Q (o :: rest) act w := by
  obtain ⟨i0, hi, hz0, hz1, hz2⟩ := info_parts infoI
  refine wpList_append_own w hgd s x 46 ho base 3 i0 (.int .i64 0) 1 8 Tryd.underlying46 hi hz0 hz1 hz2 rfl (by decide) v xs.length (xs.map iv) hs hown ⟨g, 0, none⟩ 1 c [iv n] hx (by simp) ?_ (iv_one [n]) (by unfold maxLen; omega) (by omega) hbase ?_
  · intro j u hu
    have hj : j = 0 := by
      have := (List.getElem?_eq_some_iff.1 hu).1
      simp at this
      exact this
    subst hj
    rw [add_none, hc]
    simpa [iv] using hu
  · intro v' w' h1 h2 h3
    refine h v' w' ?_ h2
    unfold IOwn
    rw [List.length_append, List.map_append]
    exact h1
/-- The pages, up to k, whose bytes differ. -/
def dif (l m : List Pg) : Nat → List Nat
  | 0 => []
  | k + 1 => match l[k]?, m[k]? with
    | some p, some q => if p.data = q.data then dif l m k else dif l m k ++ [k]
    | _, _ => dif l m k
theorem dif_len (l m : List Pg) (k : Nat) : (dif l m k).length ≤ k := by
  induction k with
  | zero => simp [dif]
  | succ k ih =>
    unfold dif
    split
    · split
      · omega
      · simp; omega
    · omega
theorem dif_same {l m : List Pg} {k : Nat} {p q : Pg} (hp : l[k]? = some p) (hq : m[k]? = some q) (h : p.data = q.data) : dif l m (k + 1) = dif l m k := by
  simp [dif, hp, hq, h]
theorem dif_other {l m : List Pg} {k : Nat} {p q : Pg} (hp : l[k]? = some p) (hq : m[k]? = some q) (h : ¬ p.data = q.data) : dif l m (k + 1) = dif l m k ++ [k] := by
  simp [dif, hp, hq, h]
theorem range_row {w : World} {b o : Nat} {p : Pg} (h : w.rangeAt b o p.cells) : w.rangeAt b (o + 2) p.row := fun j v hv => by
  rw [Nat.add_assoc]
  exact h (2 + j) v (by rw [Nat.add_comm]; exact hv)

theorem drewN_below {B : Nat} {a w : World} (h : Below B a w) (nq : Nat) : Below B a (w.drewN nq) := ⟨h.os, h.tape, h.output, h.size, h.block⟩
set_option maxRecDepth 100000 in
set_option maxHeartbeats 400000 in
theorem refDiffer_any (a : Option Addr) (len cap : Nat) (l : List Pg) (a' : Option Addr) (cap' : Nat) (m : List Pg) (w : World) (hs : Pgs w a len cap l) (hs' : Pgs w a' len cap' m) :
    Calls Tryd.prog 17 #[.slice a len cap, .slice a' len cap'] w fun e w' => ∃ v, e = .returned (.tuple #[v, .int .i64 0]) ∧ IOwn w' w.heap.size v (dif l m len) ∧ Below w.heap.size w w' := by
  have hm := hs.most
  have HS := hide hs
  have HS' := hide hs'
  clear hs hs'
  go_enter Tryd.func17, Tryd.ntmps17
  go_wp2
  go_loopw [6, 7] (fun o i wr => ∃ k : Nat, k ≤ len ∧ i = .int .i64 k ∧ Hid (IOwn wr w.heap.size o (dif l m k)) ∧ Hid (Below w.heap.size w wr)) (fun _ i _ => len - (intOf i).toNat)
  case atStart => exact ⟨0, by omega, rfl, World.ownsRow_nil _ _ _ _, Below.refl _ _⟩
  case round =>
    obtain ⟨k, hk, rfl, hown, hb⟩ := hrel
    by_cases hlt : k < len
    · obtain ⟨p, hp⟩ : ∃ p, l[k]? = some p := ⟨_, List.getElem?_eq_getElem (by rw [HS.out.size]; exact hlt)⟩
      obtain ⟨b, off, rfl, hr⟩ := HS.out.cell k p hp
      obtain ⟨q, hq⟩ : ∃ q, m[k]? = some q := ⟨_, List.getElem?_eq_getElem (by rw [HS'.out.size]; exact hlt)⟩
      obtain ⟨b', off', rfl, hr'⟩ := HS'.out.cell k q hq
      have hr1 := range_row (range_below hr hb.out)
      have hr2 := range_row (range_below hr' hb.out)
      have hpo : p.Ok := HS.out.ok p (List.mem_of_getElem? hp)
      have hqo : q.Ok := HS'.out.ok q (List.mem_of_getElem? hq)
      have hu39 := Tryd.underlying57
      have hi1 : (Tryd.prog.info? 57).map (·.size) = some p.row.length := by rw [hpo.row]; exact sizeData
      have hi2 : (Tryd.prog.info? 57).map (·.size) = some q.row.length := by rw [hqo.row]; exact sizeData
      by_cases he : p.data = q.data
      · have hne : ∀ w, (binOp .neq 57 (.agg p.row.toArray) (.agg q.row.toArray)).run Tryd.prog w = .ok (.bool false) w := fun w => by rw [neq_rows hpo hqo]; simp [he]
        have HD := hide (dif_same hp hq he)
        clear hr hr' hp hq hpo hqo he
        go_wp2
        refine wp_region_quiet_lit (by kernel_rfl) (by kernel_rfl) ?_
        repeat (first
          | (go_big_quiet_want; refine quiet_load_mid 57 (.tmp 22) rfl b (off + k * 66 + 2) rfl p.row _ hr1 hu39 rfl hi1 ?_; simp only [Act.put, List.setIfInBounds_toArray, List.set_cons_succ, List.set_cons_zero]; go_big_quiet_on)
          | (go_big_quiet_want; refine quiet_load_mid 57 (.tmp 27) rfl b' (off' + k * 66 + 2) rfl q.row _ hr2 hu39 rfl hi2 ?_; simp only [Act.put, List.setIfInBounds_toArray, List.set_cons_succ, List.set_cons_zero]; go_big_quiet_on)
          | (go_big_quiet_want; refine quiet_neq 57 57 (.tmp 23) (.tmp 28) rfl _ _ rfl rfl (by kernel_rfl) _ hne ?_; simp only [Act.put, List.setIfInBounds_toArray, List.set_cons_succ, List.set_cons_zero]; go_big_quiet_on)
          | go_big_quiet_step (fail))
        refine wpQuiet_nil ?_
        intro _ hw'
        obtain ⟨nq, rfl⟩ := hw'
        clear hne hr1 hr2 hu39 hi1 hi2
        go_wp2
        go_roundw
        case rel => exact ⟨k + 1, by omega, by go_num, by rw [HD.out]; exact hown.out, drewN_below hb.out nq⟩
        case measure => simp [intOf]; omega
      · have hne : ∀ w, (binOp .neq 57 (.agg p.row.toArray) (.agg q.row.toArray)).run Tryd.prog w = .ok (.bool true) w := fun w => by rw [neq_rows hpo hqo]; simp [he]
        have HD := hide (dif_other hp hq he)
        have HL : Hid ((dif l m k).length < 1759218604391) := by unfold Hid; have := dif_len l m k; omega
        clear hr hr' hp hq hpo hqo he
        go_wp2
        refine wp_region_quiet_lit (by kernel_rfl) (by kernel_rfl) ?_
        repeat (first
          | (go_big_quiet_want; refine quiet_load_mid 57 (.tmp 22) rfl b (off + k * 66 + 2) rfl p.row _ hr1 hu39 rfl hi1 ?_; simp only [Act.put, List.setIfInBounds_toArray, List.set_cons_succ, List.set_cons_zero]; go_big_quiet_on)
          | (go_big_quiet_want; refine quiet_load_mid 57 (.tmp 27) rfl b' (off' + k * 66 + 2) rfl q.row _ hr2 hu39 rfl hi2 ?_; simp only [Act.put, List.setIfInBounds_toArray, List.set_cons_succ, List.set_cons_zero]; go_big_quiet_on)
          | (go_big_quiet_want; refine quiet_neq 57 57 (.tmp 23) (.tmp 28) rfl _ _ rfl rfl (by kernel_rfl) _ hne ?_; simp only [Act.put, List.setIfInBounds_toArray, List.set_cons_succ, List.set_cons_zero]; go_big_quiet_on)
          | go_big_quiet_step (fail))
        refine wpQuiet_nil ?_
        intro _ hw'
        obtain ⟨nq, rfl⟩ := hw'
        clear hne hr1 hr2 hu39 hi1 hi2
        go_wp2_with (at_builtin; refine append_int rfl (.tmp 30) (.tmp 32) rfl w.heap.size _ (dif l m k) rfl (hown.out.fresh nq _) wr.heap.size 1 k rfl (fresh_cell wr nq _ _) HL.out (by simp; have := hb.out.size; omega) ?_; intro v' w1 hown1 hgrow1)
        have hb1 : Hid (Below w.heap.size w w1) := ((drewN_below hb.out nq).alloc hb.out.size _).grown hgrow1 (by simp; have := hb.out.size; omega) (fun j e => (World.ownsRow.lt hown.out j e).1)
        go_roundw
        case rel => exact ⟨k + 1, by omega, by go_num, by rw [HD.out]; exact hown1, hb1⟩
        case measure => simp [intOf]; omega
    · obtain rfl : k = len := by omega
      go_wp2
      go_ret2
      exact ⟨_, rfl, hown.out, hb.out⟩
end Go.Proofs.YtbekdbgnpcbklaaDoor
