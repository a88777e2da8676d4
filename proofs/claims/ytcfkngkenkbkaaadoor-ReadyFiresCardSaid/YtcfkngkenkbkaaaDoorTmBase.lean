/-
  Lists of timers as memory holds them.
-/
import Derived.Test.YtcfkngkenkbkaaaDoorTmMath
import Derived.Test.YtcfkngkenkbkaaaDoorRcs
import Derived.Test.YtcfkngkenkbkaaaDoorErrCode
namespace Go.Proofs.YtcfkngkenkbkaaaDoor
open Classical
open Go.RowKit
set_option linter.unusedVariables false
set_option linter.unusedSimpArgs false

def Tm.cells (t : Tm) : List Value := [.int .i64 t.proc, .int .i64 t.due]
theorem tm2 (t : Tm) : t.cells.length = 2 := rfl
theorem tm_one (l : List Tm) : ∀ u ∈ l.flatMap Tm.cells, u.oneCell' = true := by
  intro u hu
  obtain ⟨p, _, hp⟩ := List.mem_flatMap.1 hu
  simp only [Tm.cells, List.mem_cons, List.not_mem_nil, or_false] at hp
  rcases hp with rfl | rfl <;> rfl
/-- The timers that a slice shows. -/
abbrev Tms (w : World) (a : Option Addr) (len cap : Nat) (l : List Tm) : Prop := Rcs Tm.cells 2 w a len cap l
/-- Timers of the call's own, from block 'base' on. -/
abbrev TOwn (w : World) (base : Nat) (v : Value) (l : List Tm) : Prop := w.ownsRow base 68 2 v l.length (l.flatMap Tm.cells)
theorem town_nil (w : World) (base : Nat) : TOwn w base (.slice none 0 0) [] := World.ownsRow_nil _ _ _ _
theorem town_tms {w : World} {base : Nat} {v : Value} {l : List Tm} (h : TOwn w base v l) : ∃ a c, v = .slice a l.length c ∧ Tms w a l.length c l := by
  obtain ⟨a, c, e, hr⟩ := RLk.row (.inl h)
  exact ⟨a, c, e, rfl, hr⟩
theorem new_below (w : World) (o : Obj) : Below w.heap.size w (w.alloc o) := (Below.refl _ _).alloc (Nat.le_refl _) _
theorem infoTimer : ∃ i z, Tryd.prog.info? 68 = some i ∧ i.zero = some z ∧ i.size = 2 ∧ i.bytes = 16 ∧ z.cells.size = 2 := by
  have h : (Tryd.prog.info? 68).map (fun i => (i.size, i.bytes, i.zero.map (·.cells.size))) = some (2, 16, some 2) := by kernel_rfl
  cases hi : Tryd.prog.info? 68 with
  | none => simp [hi] at h
  | some i =>
    simp only [hi, Option.map_some, Option.some.injEq, Prod.mk.injEq] at h
    obtain ⟨h1, h2, h3⟩ := h
    cases hz : i.zero with
    | none => simp [hz] at h3
    | some z => exact ⟨i, z, rfl, hz, h1, h2, by simpa [hz] using h3⟩
/-- append of one record that lies in a block of its own, to a list of the call's own. -/
theorem append_rec {w : World} {ops : Array Oper} {rest : List Oper} {o : Oper} {act : Act} {Q : Exit → Act → World → Prop} (hgd : o.guard = none) (s x : Operand) (t e : TypeId)
    (ho : o.op = .call { callee := .builtin .append, args := #[s, x], argTypes := #[t, t] }) (ht : Tryd.prog.underlying t = some (.slice e))
    {size bytes : Nat} (hi : ∃ i z, Tryd.prog.info? e = some i ∧ i.zero = some z ∧ i.size = size ∧ i.bytes = bytes ∧ z.cells.size = size) (h0 : 0 < size)
    (base : Nat) (v : Value) (n : Nat) (xs : List Value) (hs : act.eval s = v) (hown : w.ownsRow base e size v n xs)
    (g c : Nat) (cs : List Value) (hx : act.eval x = .slice (some ⟨g, 0, none⟩) 1 c) (hl : cs.length = size) (hc : ∀ j u, cs[j]? = some u → w.cell? ⟨g, j, none⟩ = some u) (one : ∀ u ∈ cs, u.oneCell' = true)
    (h63 : n + 1 ≤ maxLen) (hby : (n + 1) * bytes ≤ 140737488355328) (hbase : base ≤ w.heap.size)
    (h : ∀ g cap w', w'.ownsRow base e size (.slice (some ⟨g, 0, none⟩) (n + 1) cap) (n + 1) (xs ++ cs) → w.grownBy w' v.ownBlock → (v.ownBlock = some g ∨ g = w.heap.size) → g < w'.heap.size → wpList Tryd.prog ops Q rest (act.put o.dst (.slice (some ⟨g, 0, none⟩) (n + 1) cap)) w') : wpList Tryd.prog ops Q (o :: rest) act w := by
  obtain ⟨i, z, hi, hz, hsz, hb, hzs⟩ := hi
  refine wpList_append_lies w hgd s x t ho base e i z size bytes ht hi hz hsz hb hzs h0 v n xs hs hown ⟨g, 0, none⟩ 1 c cs hx (by rw [hl, Nat.one_mul]) ?_ one (by decide) h63 hby hbase _ rfl h
  intro j u hu
  rw [add_lit', Nat.zero_add]
  exact hc j u hu

/-- The cells of a block of the call's own. -/
structure Bl (w : World) (g : Nat) (cs : List Value) : Prop where
  cell : ∀ j v, cs[j]? = some v → w.cell? ⟨g, j, none⟩ = some v
  free : ∀ j, w.frozen? ⟨g, j, none⟩ = false
theorem bl_alloc (w : World) (c : Array Value) (t : TypeId) : Bl (w.alloc (.cells c t)) w.heap.size c.toList :=
  ⟨fun j v hv => by rw [World.cell?_alloc_at _ _ _ _ rfl]; simpa using hv, fun j => World.frozen?_alloc_new _ _ _ _⟩
theorem Bl.below {w w' : World} {g : Nat} {cs : List Value} (h : Bl w g cs) (hg : g < w.heap.size) (hb : Below w.heap.size w w') : Bl w' g cs :=
  ⟨fun j v hv => by rw [hb.cell (p := ⟨g, j, none⟩) hg]; exact h.cell j v hv, fun j => by rw [hb.frozen (p := ⟨g, j, none⟩) hg]; exact h.free j⟩
theorem Bl.far {w : World} {g g' k : Nat} {cs : List Value} {u : Value} (h : Bl w g cs) (hne : g' ≠ g) : Bl (w.setCell ⟨g', k, none⟩ u) g cs :=
  ⟨fun j v hv => by rw [World.cell?_setCell_other _ _ _ _ (by simp)]; exact h.cell j v hv, fun j => by rw [World.frozen?_setCell]; exact h.free j⟩
theorem Bl.set {w : World} {g : Nat} {cs : List Value} (h : Bl w g cs) {k : Nat} (hk : k < cs.length) (u : Value) : Bl (w.setCell ⟨g, k, none⟩ u) g (cs.set k u) := by
  refine ⟨fun j v hv => ?_, fun j => by rw [World.frozen?_setCell]; exact h.free j⟩
  by_cases hj : j = k
  · subst hj
    rw [List.getElem?_set_self hk] at hv
    obtain rfl := Option.some.inj hv
    exact World.cell?_setCell_same _ _ _ (h.cell j _ (List.getElem?_eq_getElem hk))
  · rw [List.getElem?_set_ne (Ne.symm hj)] at hv
    rw [World.cell?_setCell_other _ _ _ _ (by simp [hj])]
    exact h.cell j v hv

theorem isDue_any (x : Int) (w : World) : Calls Tryd.prog 64 #[.int .i64 x] w fun e w' => e = .returned (.bool (decide (0 ≤ x ∧ x ≤ 1010000))) ∧ w' = w := by
  by_cases h1 : 0 ≤ x
  · by_cases h2 : x ≤ 1010000
    · have d1 : decide (0 ≤ x) = true := decide_eq_true h1
      have d2 : decide (x ≤ 1010000) = true := decide_eq_true h2
      have HR : Hid (decide (0 ≤ x ∧ x ≤ 1010000) = true) := decide_eq_true ⟨h1, h2⟩
      clear h1 h2
      go_enter Tryd.func64, Tryd.ntmps64
      go_wp2
      go_ret
      exact ⟨by rw [HR.out]; rfl, rfl⟩
    · have d1 : decide (0 ≤ x) = true := decide_eq_true h1
      have d2 : decide (x ≤ 1010000) = false := decide_eq_false h2
      have HR : Hid (decide (0 ≤ x ∧ x ≤ 1010000) = false) := decide_eq_false (fun h => h2 h.2)
      clear h1 h2
      go_enter Tryd.func64, Tryd.ntmps64
      go_wp2
      go_ret
      exact ⟨by rw [HR.out]; rfl, rfl⟩
  · have d1 : decide (0 ≤ x) = false := decide_eq_false h1
    have HR : Hid (decide (0 ≤ x ∧ x ≤ 1010000) = false) := decide_eq_false (fun h => h1 h.1)
    clear h1
    go_enter Tryd.func64, Tryd.ntmps64
    go_wp2
    go_ret
    exact ⟨by rw [HR.out]; rfl, rfl⟩

set_option maxRecDepth 100000 in
set_option maxHeartbeats 4000000 in
theorem inRange_any (w : World) (a : Option Addr) (len cap : Nat) (l : List Tm) (hs : Tms w a len cap l) (n : Int) (hm : len ≤ 9223372036854775807) :
    Calls Tryd.prog 77 #[.slice a len cap, .int .i64 n] w fun e w' => e = .returned (.bool (decide (InR l n))) ∧ Below w.heap.size w w' := by
  have HS := hide hs
  have hl := hs.size
  have HD := hide isDue_any
  clear hs
  go_enter Tryd.func77, Tryd.ntmps77
  go_wp2
  go_loopw [9] (fun i wr => ∃ k : Nat, k ≤ len ∧ i = .int .i64 (k : Int) ∧ Hid (∀ j t, j < k → l[j]? = some t → t.In n) ∧ Hid (Below w.heap.size w wr)) (fun i _ => len - (intOf i).toNat)
  case atStart => exact ⟨0, by omega, rfl, fun j q hj => by omega, Below.refl _ _⟩
  case round =>
    obtain ⟨k, hk, rfl, hall, hb⟩ := hrel
    by_cases hlt : k < len
    · obtain ⟨t, ht⟩ : ∃ p, l[k]? = some p := ⟨_, List.getElem?_eq_getElem (by rw [hl]; exact hlt)⟩
      obtain ⟨b, off, rfl, hr⟩ := (HS.out.below hb.out).at tm2 (by decide) ht
      have r0 := hr 0 _ rfl
      have r1 := hr 1 _ rfl
      simp only [Nat.add_zero] at r0
      have HB := hide (hb.out.alloc hb.out.size (.cells #[.int .i64 t.proc, .int .i64 t.due] 68))
      have HT := hide ht
      have hk1 : (k : Int) < (len : Int) := by omega
      clear hr ht
      by_cases hin : t.In n
      · have d0 : decide (t.proc < 0) = false := decide_eq_false (by have := hin.1; omega)
        have d1 : decide (n ≤ t.proc) = false := decide_eq_false (by have := hin.2.1; omega)
        have d2 : decide (0 ≤ t.due ∧ t.due ≤ 1010000) = true := decide_eq_true hin.2.2
        have HN := hide hin
        clear hin
        go_wp2_with (refine Calls.mono (HD.out _ _) ?_; rintro e w' ⟨rfl, rfl⟩)
        go_roundw
        case rel =>
          refine ⟨k + 1, by omega, by go_num, fun j q hj hq => ?_, HB.out⟩
          by_cases e : j = k
          · subst e
            rw [HT.out] at hq
            obtain rfl := Option.some.inj hq
            exact HN.out
          · exact hall.out j q (by omega) hq
        case measure => simp [intOf]; omega
      · have HR : Hid (decide (InR l n) = false) := decide_eq_false (fun h => hin (h t (List.mem_of_getElem? HT.out)))
        by_cases h0 : t.proc < 0
        · have d0 : decide (t.proc < 0) = true := decide_eq_true h0
          clear h0 hin
          go_wp2
          go_ret
          exact ⟨by rw [HR.out]; rfl, HB.out⟩
        · have d0 : decide (t.proc < 0) = false := decide_eq_false h0
          by_cases h1 : n ≤ t.proc
          · have d1 : decide (n ≤ t.proc) = true := decide_eq_true h1
            clear h0 h1 hin
            go_wp2
            go_ret
            exact ⟨by rw [HR.out]; rfl, HB.out⟩
          · have d1 : decide (n ≤ t.proc) = false := decide_eq_false h1
            have d2 : decide (0 ≤ t.due ∧ t.due ≤ 1010000) = false := decide_eq_false (fun h => hin ⟨by omega, by omega, h⟩)
            clear h0 h1 hin
            go_wp2_with (refine Calls.mono (HD.out _ _) ?_; rintro e w' ⟨rfl, rfl⟩)
            go_ret
            exact ⟨by rw [HR.out]; rfl, HB.out⟩
    · obtain rfl : k = len := by omega
      have HR : Hid (decide (InR l n) = true) := decide_eq_true (fun t ht => by
        obtain ⟨j, hj⟩ := List.mem_iff_getElem?.1 ht
        exact hall.out j t (by rw [← hl]; exact (List.getElem?_eq_some_iff.1 hj).1) hj)
      go_wp2
      go_ret
      exact ⟨by rw [HR.out]; rfl, hb.out⟩
end Go.Proofs.YtcfkngkenkbkaaaDoor
