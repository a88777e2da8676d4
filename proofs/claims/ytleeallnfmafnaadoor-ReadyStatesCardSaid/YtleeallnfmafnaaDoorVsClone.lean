/-
  slices.Clone at the types of a state's lists.
-/
import Derived.Test.YtleeallnfmafnaaDoorRw
import Derived.Test.YtleeallnfmafnaaDoorVsSame
import Derived.OwnWalk
namespace Go.Proofs.YtleeallnfmafnaaDoor.Vv
open Go.RowKit FerryCrc
set_option linter.unusedVariables false
set_option linter.unusedSimpArgs false

theorem append_list {w : World} {ops : Array Oper} {rest : List Oper} {o : Oper} {act : Act} {Q : Exit → Act → World → Prop} (hgd : o.guard = none) (s x : Operand) (t e : TypeId)
    (ho : o.op = .call { callee := .builtin .append, args := #[s, x], argTypes := #[t, t] }) (ht : Tryd.prog.underlying t = some (.slice e))
    {size bytes : Nat} (hi : ∃ i z, Tryd.prog.info? e = some i ∧ i.zero = some z ∧ i.size = size ∧ i.bytes = bytes ∧ z.cells.size = size) (h0 : 0 < size)
    (base : Nat) (v : Value) (n : Nat) (xs : List Value) (hs : act.eval s = v) (hv : w.ownsRow base e size v n xs)
    (a : Option Addr) (m c : Nat) (cs : List Value) (hx : act.eval x = .slice a m c) (hr : Row w a m c size cs) (one : ∀ u ∈ cs, u.oneCell' = true)
    (b1 : n + m ≤ maxLen) (b2 : (n + m) * bytes ≤ 140737488355328) (hbase : base ≤ w.heap.size)
    (h : ∀ v' w', w'.ownsRow base e size v' (n + m) (xs ++ cs) → Below base w w' → wpList Tryd.prog ops Q rest (act.put o.dst v') w') : wpList Tryd.prog ops Q (o :: rest) act w := by
  obtain ⟨i, z, h2, h3, h4, h5, h6⟩ := hi
  by_cases hm : m = 0
  · subst hm
    obtain rfl : cs = [] := List.length_eq_zero_iff.1 (by simpa using hr.size)
    obtain ⟨b, cap, rfl, hb⟩ := RLk.row (.inl hv)
    refine wpList_append_empty hgd s x t ho e i ht h2 b a n cap c hb.fit hs hx ?_
    exact h _ w (by simpa using hv) (Below.refl _ _)
  · match a, hx, hr with
    | none, hx, hr => exact absurd (hr.null rfl).1 hm
    | some ad, hx, hr =>
      have hcell : ∀ j u, cs[j]? = some u → w.cell? (ad.add j) = some u := fun j u hu => by
        obtain ⟨b, off, ha, hc⟩ := hr.cell j u hu
        simp only [Option.some.injEq] at ha
        subst ha
        rw [add_lit']
        exact hc
      refine wpList_append_own w hgd s x t ho base e i z size bytes ht h2 h3 h4 h5 h6 h0 v n xs hs hv ad m c cs hx hr.size hcell one b1 b2 hbase ?_
      intro v' w' k1 k2 _
      exact h v' w' k1 ((Below.refl _ _).grown k2 hbase (fun j e => (World.ownsRow.lt hv j e).1))

theorem minfo_bool : ∃ i z, Tryd.prog.info? 4 = some i ∧ i.zero = some z ∧ i.size = 1 ∧ i.bytes = 1 ∧ z.cells.size = 1 := by
  have h : (Tryd.prog.info? 4).map (fun i => (i.size, i.bytes, i.zero.map (·.cells.size))) = some (1, 1, some 1) := by kernel_rfl
  cases hi : Tryd.prog.info? 4 with
  | none => simp [hi] at h
  | some i =>
    simp only [hi, Option.map_some, Option.some.injEq, Prod.mk.injEq] at h
    obtain ⟨h1, h2, h3⟩ := h
    cases hz : i.zero with
    | none => simp [hz] at h3
    | some z => exact ⟨i, z, rfl, hz, h1, h2, by simpa [hz] using h3⟩
set_option maxRecDepth 100000 in
theorem clone_bool (w : World) (a : Option Addr) (len cap : Nat) (cs : List Value) (hs : Row w a len cap 1 cs) (one : ∀ u ∈ cs, u.oneCell' = true) (hm : len * 1 ≤ 140737488355328) :
    Calls Tryd.prog 16 #[.slice a len cap] w fun e w' => ∃ v, e = .returned v ∧ w'.ownsRow w.heap.size 4 1 v len cs ∧ Below w.heap.size w w' := by
  have HS := hide hs
  have ONE := hide one
  have HI := hide minfo_bool
  have hq := fun w' => eql_slice_nil (P := Tryd.prog) w' 25 4 a len cap Tryd.underlying25
  have BE := hide (one_below w (.cells #[] 4))
  clear one
  cases a with
  | none =>
    obtain ⟨rfl, rfl⟩ := hs.null rfl
    obtain rfl : cs = [] := List.length_eq_zero_iff.1 (by simpa using hs.size)
    clear hs
    simp only [Option.isNone_none] at hq
    go_enter Tryd.func16, Tryd.ntmps16
    go_wp2
    go_ret
    exact ⟨_, rfl, ⟨rfl, .inl ⟨rfl, rfl⟩⟩, Below.refl _ _⟩
  | some ad =>
    clear hs
    simp only [Option.isNone_some] at hq
    go_enter Tryd.func16, Tryd.ntmps16
    go_wp2_with (at_builtin; refine append_list rfl (.tmp 5) (.tmp 6) 25 4 rfl Tryd.underlying25 HI.out (by decide) w.heap.size _ 0 [] rfl (World.ownsRow_lit w #[] 0 (Nat.le_refl _) (by decide) rfl) (some ad) len cap cs rfl (HS.out.below BE.out) ONE.out (by unfold maxLen; omega) (by omega) BE.out.size ?_; intro v2 w2 h2 b2)
    rw [List.nil_append, Nat.zero_add] at h2
    have H2 := hide h2
    have B2 := hide (BE.out.trans b2)
    clear h2 b2
    go_wp2
    go_ret
    exact ⟨_, rfl, H2.out, B2.out⟩

theorem minfo_int : ∃ i z, Tryd.prog.info? 3 = some i ∧ i.zero = some z ∧ i.size = 1 ∧ i.bytes = 8 ∧ z.cells.size = 1 := by
  have h : (Tryd.prog.info? 3).map (fun i => (i.size, i.bytes, i.zero.map (·.cells.size))) = some (1, 8, some 1) := by kernel_rfl
  cases hi : Tryd.prog.info? 3 with
  | none => simp [hi] at h
  | some i =>
    simp only [hi, Option.map_some, Option.some.injEq, Prod.mk.injEq] at h
    obtain ⟨h1, h2, h3⟩ := h
    cases hz : i.zero with
    | none => simp [hz] at h3
    | some z => exact ⟨i, z, rfl, hz, h1, h2, by simpa [hz] using h3⟩
set_option maxRecDepth 100000 in
theorem clone_int (w : World) (a : Option Addr) (len cap : Nat) (cs : List Value) (hs : Row w a len cap 1 cs) (one : ∀ u ∈ cs, u.oneCell' = true) (hm : len * 8 ≤ 140737488355328) :
    Calls Tryd.prog 17 #[.slice a len cap] w fun e w' => ∃ v, e = .returned v ∧ w'.ownsRow w.heap.size 3 1 v len cs ∧ Below w.heap.size w w' := by
  have HS := hide hs
  have ONE := hide one
  have HI := hide minfo_int
  have hq := fun w' => eql_slice_nil (P := Tryd.prog) w' 23 3 a len cap Tryd.underlying23
  have BE := hide (one_below w (.cells #[] 3))
  clear one
  cases a with
  | none =>
    obtain ⟨rfl, rfl⟩ := hs.null rfl
    obtain rfl : cs = [] := List.length_eq_zero_iff.1 (by simpa using hs.size)
    clear hs
    simp only [Option.isNone_none] at hq
    go_enter Tryd.func17, Tryd.ntmps17
    go_wp2
    go_ret
    exact ⟨_, rfl, ⟨rfl, .inl ⟨rfl, rfl⟩⟩, Below.refl _ _⟩
  | some ad =>
    clear hs
    simp only [Option.isNone_some] at hq
    go_enter Tryd.func17, Tryd.ntmps17
    go_wp2_with (at_builtin; refine append_list rfl (.tmp 5) (.tmp 6) 23 3 rfl Tryd.underlying23 HI.out (by decide) w.heap.size _ 0 [] rfl (World.ownsRow_lit w #[] 0 (Nat.le_refl _) (by decide) rfl) (some ad) len cap cs rfl (HS.out.below BE.out) ONE.out (by unfold maxLen; omega) (by omega) BE.out.size ?_; intro v2 w2 h2 b2)
    rw [List.nil_append, Nat.zero_add] at h2
    have H2 := hide h2
    have B2 := hide (BE.out.trans b2)
    clear h2 b2
    go_wp2
    go_ret
    exact ⟨_, rfl, H2.out, B2.out⟩

theorem minfo_str : ∃ i z, Tryd.prog.info? 9 = some i ∧ i.zero = some z ∧ i.size = 1 ∧ i.bytes = 16 ∧ z.cells.size = 1 := by
  have h : (Tryd.prog.info? 9).map (fun i => (i.size, i.bytes, i.zero.map (·.cells.size))) = some (1, 16, some 1) := by kernel_rfl
  cases hi : Tryd.prog.info? 9 with
  | none => simp [hi] at h
  | some i =>
    simp only [hi, Option.map_some, Option.some.injEq, Prod.mk.injEq] at h
    obtain ⟨h1, h2, h3⟩ := h
    cases hz : i.zero with
    | none => simp [hz] at h3
    | some z => exact ⟨i, z, rfl, hz, h1, h2, by simpa [hz] using h3⟩
set_option maxRecDepth 100000 in
theorem clone_str (w : World) (a : Option Addr) (len cap : Nat) (cs : List Value) (hs : Row w a len cap 1 cs) (one : ∀ u ∈ cs, u.oneCell' = true) (hm : len * 16 ≤ 140737488355328) :
    Calls Tryd.prog 19 #[.slice a len cap] w fun e w' => ∃ v, e = .returned v ∧ w'.ownsRow w.heap.size 9 1 v len cs ∧ Below w.heap.size w w' := by
  have HS := hide hs
  have ONE := hide one
  have HI := hide minfo_str
  have hq := fun w' => eql_slice_nil (P := Tryd.prog) w' 44 9 a len cap Tryd.underlying44
  have BE := hide (one_below w (.cells #[] 9))
  clear one
  cases a with
  | none =>
    obtain ⟨rfl, rfl⟩ := hs.null rfl
    obtain rfl : cs = [] := List.length_eq_zero_iff.1 (by simpa using hs.size)
    clear hs
    simp only [Option.isNone_none] at hq
    go_enter Tryd.func19, Tryd.ntmps19
    go_wp2
    go_ret
    exact ⟨_, rfl, ⟨rfl, .inl ⟨rfl, rfl⟩⟩, Below.refl _ _⟩
  | some ad =>
    clear hs
    simp only [Option.isNone_some] at hq
    go_enter Tryd.func19, Tryd.ntmps19
    go_wp2_with (at_builtin; refine append_list rfl (.tmp 5) (.tmp 6) 44 9 rfl Tryd.underlying44 HI.out (by decide) w.heap.size _ 0 [] rfl (World.ownsRow_lit w #[] 0 (Nat.le_refl _) (by decide) rfl) (some ad) len cap cs rfl (HS.out.below BE.out) ONE.out (by unfold maxLen; omega) (by omega) BE.out.size ?_; intro v2 w2 h2 b2)
    rw [List.nil_append, Nat.zero_add] at h2
    have H2 := hide h2
    have B2 := hide (BE.out.trans b2)
    clear h2 b2
    go_wp2
    go_ret
    exact ⟨_, rfl, H2.out, B2.out⟩

theorem minfo_port : ∃ i z, Tryd.prog.info? 46 = some i ∧ i.zero = some z ∧ i.size = 2 ∧ i.bytes = 32 ∧ z.cells.size = 2 := by
  have h : (Tryd.prog.info? 46).map (fun i => (i.size, i.bytes, i.zero.map (·.cells.size))) = some (2, 32, some 2) := by kernel_rfl
  cases hi : Tryd.prog.info? 46 with
  | none => simp [hi] at h
  | some i =>
    simp only [hi, Option.map_some, Option.some.injEq, Prod.mk.injEq] at h
    obtain ⟨h1, h2, h3⟩ := h
    cases hz : i.zero with
    | none => simp [hz] at h3
    | some z => exact ⟨i, z, rfl, hz, h1, h2, by simpa [hz] using h3⟩
set_option maxRecDepth 100000 in
theorem clone_port (w : World) (a : Option Addr) (len cap : Nat) (cs : List Value) (hs : Row w a len cap 2 cs) (one : ∀ u ∈ cs, u.oneCell' = true) (hm : len * 32 ≤ 140737488355328) :
    Calls Tryd.prog 18 #[.slice a len cap] w fun e w' => ∃ v, e = .returned v ∧ w'.ownsRow w.heap.size 46 2 v len cs ∧ Below w.heap.size w w' := by
  have HS := hide hs
  have ONE := hide one
  have HI := hide minfo_port
  have hq := fun w' => eql_slice_nil (P := Tryd.prog) w' 26 46 a len cap Tryd.underlying26
  have BE := hide (one_below w (.cells #[] 46))
  clear one
  cases a with
  | none =>
    obtain ⟨rfl, rfl⟩ := hs.null rfl
    obtain rfl : cs = [] := List.length_eq_zero_iff.1 (by simpa using hs.size)
    clear hs
    simp only [Option.isNone_none] at hq
    go_enter Tryd.func18, Tryd.ntmps18
    go_wp2
    go_ret
    exact ⟨_, rfl, ⟨rfl, .inl ⟨rfl, rfl⟩⟩, Below.refl _ _⟩
  | some ad =>
    clear hs
    simp only [Option.isNone_some] at hq
    go_enter Tryd.func18, Tryd.ntmps18
    go_wp2_with (at_builtin; refine append_list rfl (.tmp 5) (.tmp 6) 26 46 rfl Tryd.underlying26 HI.out (by decide) w.heap.size _ 0 [] rfl (World.ownsRow_lit w #[] 0 (Nat.le_refl _) (by decide) rfl) (some ad) len cap cs rfl (HS.out.below BE.out) ONE.out (by unfold maxLen; omega) (by omega) BE.out.size ?_; intro v2 w2 h2 b2)
    rw [List.nil_append, Nat.zero_add] at h2
    have H2 := hide h2
    have B2 := hide (BE.out.trans b2)
    clear h2 b2
    go_wp2
    go_ret
    exact ⟨_, rfl, H2.out, B2.out⟩

theorem minfo_page : ∃ i z, Tryd.prog.info? 43 = some i ∧ i.zero = some z ∧ i.size = 66 ∧ i.bytes = 80 ∧ z.cells.size = 66 := by
  have h : (Tryd.prog.info? 43).map (fun i => (i.size, i.bytes, i.zero.map (·.cells.size))) = some (66, 80, some 66) := by kernel_rfl
  cases hi : Tryd.prog.info? 43 with
  | none => simp [hi] at h
  | some i =>
    simp only [hi, Option.map_some, Option.some.injEq, Prod.mk.injEq] at h
    obtain ⟨h1, h2, h3⟩ := h
    cases hz : i.zero with
    | none => simp [hz] at h3
    | some z => exact ⟨i, z, rfl, hz, h1, h2, by simpa [hz] using h3⟩
set_option maxRecDepth 100000 in
theorem clone_page (w : World) (a : Option Addr) (len cap : Nat) (cs : List Value) (hs : Row w a len cap 66 cs) (one : ∀ u ∈ cs, u.oneCell' = true) (hm : len * 80 ≤ 140737488355328) :
    Calls Tryd.prog 20 #[.slice a len cap] w fun e w' => ∃ v, e = .returned v ∧ w'.ownsRow w.heap.size 43 66 v len cs ∧ Below w.heap.size w w' := by
  have HS := hide hs
  have ONE := hide one
  have HI := hide minfo_page
  have hq := fun w' => eql_slice_nil (P := Tryd.prog) w' 27 43 a len cap Tryd.underlying27
  have BE := hide (one_below w (.cells #[] 43))
  clear one
  cases a with
  | none =>
    obtain ⟨rfl, rfl⟩ := hs.null rfl
    obtain rfl : cs = [] := List.length_eq_zero_iff.1 (by simpa using hs.size)
    clear hs
    simp only [Option.isNone_none] at hq
    go_enter Tryd.func20, Tryd.ntmps20
    go_wp2
    go_ret
    exact ⟨_, rfl, ⟨rfl, .inl ⟨rfl, rfl⟩⟩, Below.refl _ _⟩
  | some ad =>
    clear hs
    simp only [Option.isNone_some] at hq
    go_enter Tryd.func20, Tryd.ntmps20
    go_wp2_with (at_builtin; refine append_list rfl (.tmp 5) (.tmp 6) 27 43 rfl Tryd.underlying27 HI.out (by decide) w.heap.size _ 0 [] rfl (World.ownsRow_lit w #[] 0 (Nat.le_refl _) (by decide) rfl) (some ad) len cap cs rfl (HS.out.below BE.out) ONE.out (by unfold maxLen; omega) (by omega) BE.out.size ?_; intro v2 w2 h2 b2)
    rw [List.nil_append, Nat.zero_add] at h2
    have H2 := hide h2
    have B2 := hide (BE.out.trans b2)
    clear h2 b2
    go_wp2
    go_ret
    exact ⟨_, rfl, H2.out, B2.out⟩

theorem minfo_proc : ∃ i z, Tryd.prog.info? 64 = some i ∧ i.zero = some z ∧ i.size = 21 ∧ i.bytes = 104 ∧ z.cells.size = 21 := by
  have h : (Tryd.prog.info? 64).map (fun i => (i.size, i.bytes, i.zero.map (·.cells.size))) = some (21, 104, some 21) := by kernel_rfl
  cases hi : Tryd.prog.info? 64 with
  | none => simp [hi] at h
  | some i =>
    simp only [hi, Option.map_some, Option.some.injEq, Prod.mk.injEq] at h
    obtain ⟨h1, h2, h3⟩ := h
    cases hz : i.zero with
    | none => simp [hz] at h3
    | some z => exact ⟨i, z, rfl, hz, h1, h2, by simpa [hz] using h3⟩
set_option maxRecDepth 100000 in
theorem clone_proc (w : World) (a : Option Addr) (len cap : Nat) (cs : List Value) (hs : Row w a len cap 21 cs) (one : ∀ u ∈ cs, u.oneCell' = true) (hm : len * 104 ≤ 140737488355328) :
    Calls Tryd.prog 26 #[.slice a len cap] w fun e w' => ∃ v, e = .returned v ∧ w'.ownsRow w.heap.size 64 21 v len cs ∧ Below w.heap.size w w' := by
  have HS := hide hs
  have ONE := hide one
  have HI := hide minfo_proc
  have hq := fun w' => eql_slice_nil (P := Tryd.prog) w' 22 64 a len cap Tryd.underlying22
  have BE := hide (one_below w (.cells #[] 64))
  clear one
  cases a with
  | none =>
    obtain ⟨rfl, rfl⟩ := hs.null rfl
    obtain rfl : cs = [] := List.length_eq_zero_iff.1 (by simpa using hs.size)
    clear hs
    simp only [Option.isNone_none] at hq
    go_enter Tryd.func26, Tryd.ntmps26
    go_wp2
    go_ret
    exact ⟨_, rfl, ⟨rfl, .inl ⟨rfl, rfl⟩⟩, Below.refl _ _⟩
  | some ad =>
    clear hs
    simp only [Option.isNone_some] at hq
    go_enter Tryd.func26, Tryd.ntmps26
    go_wp2_with (at_builtin; refine append_list rfl (.tmp 5) (.tmp 6) 22 64 rfl Tryd.underlying22 HI.out (by decide) w.heap.size _ 0 [] rfl (World.ownsRow_lit w #[] 0 (Nat.le_refl _) (by decide) rfl) (some ad) len cap cs rfl (HS.out.below BE.out) ONE.out (by unfold maxLen; omega) (by omega) BE.out.size ?_; intro v2 w2 h2 b2)
    rw [List.nil_append, Nat.zero_add] at h2
    have H2 := hide h2
    have B2 := hide (BE.out.trans b2)
    clear h2 b2
    go_wp2
    go_ret
    exact ⟨_, rfl, H2.out, B2.out⟩

theorem minfo_timer : ∃ i z, Tryd.prog.info? 66 = some i ∧ i.zero = some z ∧ i.size = 2 ∧ i.bytes = 16 ∧ z.cells.size = 2 := by
  have h : (Tryd.prog.info? 66).map (fun i => (i.size, i.bytes, i.zero.map (·.cells.size))) = some (2, 16, some 2) := by kernel_rfl
  cases hi : Tryd.prog.info? 66 with
  | none => simp [hi] at h
  | some i =>
    simp only [hi, Option.map_some, Option.some.injEq, Prod.mk.injEq] at h
    obtain ⟨h1, h2, h3⟩ := h
    cases hz : i.zero with
    | none => simp [hz] at h3
    | some z => exact ⟨i, z, rfl, hz, h1, h2, by simpa [hz] using h3⟩
set_option maxRecDepth 100000 in
theorem clone_timer (w : World) (a : Option Addr) (len cap : Nat) (cs : List Value) (hs : Row w a len cap 2 cs) (one : ∀ u ∈ cs, u.oneCell' = true) (hm : len * 16 ≤ 140737488355328) :
    Calls Tryd.prog 27 #[.slice a len cap] w fun e w' => ∃ v, e = .returned v ∧ w'.ownsRow w.heap.size 66 2 v len cs ∧ Below w.heap.size w w' := by
  have HS := hide hs
  have ONE := hide one
  have HI := hide minfo_timer
  have hq := fun w' => eql_slice_nil (P := Tryd.prog) w' 24 66 a len cap Tryd.underlying24
  have BE := hide (one_below w (.cells #[] 66))
  clear one
  cases a with
  | none =>
    obtain ⟨rfl, rfl⟩ := hs.null rfl
    obtain rfl : cs = [] := List.length_eq_zero_iff.1 (by simpa using hs.size)
    clear hs
    simp only [Option.isNone_none] at hq
    go_enter Tryd.func27, Tryd.ntmps27
    go_wp2
    go_ret
    exact ⟨_, rfl, ⟨rfl, .inl ⟨rfl, rfl⟩⟩, Below.refl _ _⟩
  | some ad =>
    clear hs
    simp only [Option.isNone_some] at hq
    go_enter Tryd.func27, Tryd.ntmps27
    go_wp2_with (at_builtin; refine append_list rfl (.tmp 5) (.tmp 6) 24 66 rfl Tryd.underlying24 HI.out (by decide) w.heap.size _ 0 [] rfl (World.ownsRow_lit w #[] 0 (Nat.le_refl _) (by decide) rfl) (some ad) len cap cs rfl (HS.out.below BE.out) ONE.out (by unfold maxLen; omega) (by omega) BE.out.size ?_; intro v2 w2 h2 b2)
    rw [List.nil_append, Nat.zero_add] at h2
    have H2 := hide h2
    have B2 := hide (BE.out.trans b2)
    clear h2 b2
    go_wp2
    go_ret
    exact ⟨_, rfl, H2.out, B2.out⟩
end Go.Proofs.YtleeallnfmafnaaDoor.Vv
