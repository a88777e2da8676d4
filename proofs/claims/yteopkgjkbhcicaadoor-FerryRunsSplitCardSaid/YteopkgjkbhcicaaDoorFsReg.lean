/-
  Marks: pages cleaned, one after the other.
  ferrytop's small calls: lists of pages compared, a number held between two, a word of four bytes; the small run that the law begins with.
  Statements whose order Go leaves open: a list of pages made and filled, a run on it, boxes that are made at any time.
  Two statements whose order Go leaves open, each a run on a copy of the pages.
-/
import Derived.Test.YteopkgjkbhcicaaDoorPgEq
import Derived.Test.YteopkgjkbhcicaaDoorFsMake
import Derived.Test.YteopkgjkbhcicaaDoorCmKeep
import Derived.Test.YteopkgjkbhcicaaDoorCmGuard
import Derived.Deep.Cut
import Derived.Deep.CutRange
import Derived.BigQuiet
import Derived.Deep.QuietTactic
import Derived.Deep.RegionHeld
import Derived.Deep.RegionHeld3
namespace Go.Proofs.YteopkgjkbhcicaaDoor
open Go.RowKit FerryCrc
set_option linter.unusedVariables false

/-- A page that isn't dirty. -/
def Pg.clean (p : Pg) : Pg := ⟨p.rights, false, p.data⟩
theorem Pg.clean_ok {p : Pg} (h : p.Ok) : p.clean.Ok := ⟨h.lo, h.hi, h.size, h.small⟩
/-- The first k pages cleaned. -/
def cleaned (l : List Pg) (k : Nat) : List Pg := (l.take k).map Pg.clean ++ l.drop k
theorem cleaned_len (l : List Pg) (k : Nat) : (cleaned l k).length = l.length := by simp [cleaned]; omega
theorem cleaned_ok {l : List Pg} (h : Oks l) (k : Nat) : Oks (cleaned l k) := by
  intro p hp
  rcases List.mem_append.1 hp with hp | hp
  · obtain ⟨q, hq, rfl⟩ := List.mem_map.1 hp
    exact Pg.clean_ok (h q (List.mem_of_mem_take hq))
  · exact h p (List.mem_of_mem_drop hp)
theorem cleaned_succ {l : List Pg} {k : Nat} {p : Pg} (hp : l[k]? = some p) : (cleaned l k).set k p.clean = cleaned l (k + 1) ∧ (cleaned l k)[k]? = some p := by
  have hk : k < l.length := (List.getElem?_eq_some_iff.1 hp).1
  have hlt : (List.map Pg.clean (l.take k)).length = k := by simp; omega
  unfold cleaned
  constructor
  · rw [List.set_append_right _ _ (by omega), hlt, Nat.sub_self, List.take_add_one, hp, List.drop_eq_getElem_cons hk]
    have he : l[k] = p := by rw [List.getElem?_eq_getElem hk] at hp; exact Option.some.inj hp
    simp [he]
  · rw [List.getElem?_append_right (by omega), hlt, Nat.sub_self, List.getElem?_drop, Nat.add_zero, hp]
theorem cells_clean (p : Pg) : p.clean.cells = p.cells.set 1 (.bool false) := by simp [Pg.cells, Pg.row, Pg.clean]
theorem cleaned_all {l : List Pg} {k : Nat} (h : l.length = k) : cleaned l k = l.map Pg.clean := by unfold cleaned; rw [← h]; simp
/-- One page cleaned in memory. -/
theorem POwn.cleanOne {w : World} {base g len cap : Nat} {l : List Pg} {k : Nat} (h : POwn w base (.slice (some ⟨g, 0, none⟩) len cap) (cleaned l k)) (hl : l.length = len) (ok : Oks l) (hk : k < len) :
    (∃ u, w.cell? ⟨g, k * 66 + 1, none⟩ = some u) ∧ w.frozen? ⟨g, k * 66 + 1, none⟩ = false ∧ POwn (w.setCell ⟨g, k * 66 + 1, none⟩ (.bool false)) base (.slice (some ⟨g, 0, none⟩) len cap) (cleaned l (k + 1)) := by
  obtain ⟨p, hp⟩ : ∃ p, l[k]? = some p := ⟨_, List.getElem?_eq_getElem (by omega)⟩
  obtain ⟨hset, hget⟩ := cleaned_succ hp
  have okk := cleaned_ok ok k
  have hlk : (cleaned l k).length = len := by rw [cleaned_len]; exact hl
  obtain ⟨hc, hf⟩ := h.cellOf hlk okk hget (j := 1) (by decide)
  have hst := POwn.stored (by rw [hlk]; exact h) okk hget (show 1 < 66 by decide) (cells_clean p)
  rw [hset, hlk] at hst
  exact ⟨⟨_, by rw [hc]; rfl⟩, hf, hst⟩

end Go.Proofs.YteopkgjkbhcicaaDoor
namespace Go.Proofs.YteopkgjkbhcicaaDoor
open Go.RowKit FerryCrc FerryAlu
set_option linter.unusedVariables false
set_option linter.unusedSimpArgs false

set_option maxRecDepth 100000 in
set_option maxHeartbeats 400000 in
theorem samePages_any (a : Option Addr) (len cap : Nat) (l : List Pg) (a' : Option Addr) (cap' : Nat) (w : World) (hs : Pgs w a len cap l) (hs' : Pgs w a' len cap' l) :
    Calls Tryd.prog 18 #[.slice a len cap, .slice a' len cap'] w fun e w' => e = .returned (.bool true) ∧ Below w.heap.size w w' := by
  have hm := hs.most
  have HS := hide hs
  have HS' := hide hs'
  clear hs hs'
  go_enter Tryd.func18, Tryd.ntmps18
  go_wp2
  go_loopw [13] (fun i wr => ∃ k : Nat, k ≤ len ∧ i = .int .i64 k ∧ Hid (Below w.heap.size w wr)) (fun i _ => len - (intOf i).toNat)
  case atStart => exact ⟨0, by omega, rfl, Below.refl _ _⟩
  case round =>
    obtain ⟨k, hk, rfl, hb⟩ := hrel
    by_cases hlt : k < len
    · obtain ⟨p, hp⟩ : ∃ p, l[k]? = some p := ⟨_, List.getElem?_eq_getElem (by rw [HS.out.size]; exact hlt)⟩
      obtain ⟨b, off, rfl, hr⟩ := HS.out.cell k p hp
      obtain ⟨b', off', rfl, hr'⟩ := HS'.out.cell k p hp
      have hr1 := range_below hr hb.out
      have hr2 := range_below hr' hb.out
      have hpo : p.Ok := HS.out.ok p (List.mem_of_getElem? hp)
      have hu41 := Tryd.underlying47
      have hi1 : (Tryd.prog.info? 47).map (·.size) = some p.cells.length := by rw [hpo.cells]; exact sizePage
      have hne : ∀ w, (binOp .neq 47 (.agg p.cells.toArray) (.agg p.cells.toArray)).run Tryd.prog w = .ok (.bool false) w := fun w => neq_page hpo w
      clear hr hr' hp hpo
      generalize p.cells = cs at *
      go_wp2
      refine wp_region_quiet_lit (by kernel_rfl) (by kernel_rfl) ?_
      repeat (first
        | (go_big_quiet_want; refine quiet_load_mid 47 (.tmp 18) rfl b (off + k * 66) rfl cs _ hr1 hu41 rfl hi1 ?_; simp only [Act.put, List.setIfInBounds_toArray, List.set_cons_succ, List.set_cons_zero]; go_big_quiet_on)
        | (go_big_quiet_want; refine quiet_load_mid 47 (.tmp 22) rfl b' (off' + k * 66) rfl cs _ hr2 hu41 rfl hi1 ?_; simp only [Act.put, List.setIfInBounds_toArray, List.set_cons_succ, List.set_cons_zero]; go_big_quiet_on)
        | (go_big_quiet_want; refine quiet_neq 47 47 (.tmp 19) (.tmp 23) rfl _ _ rfl rfl (by kernel_rfl) _ hne ?_; simp only [Act.put, List.setIfInBounds_toArray, List.set_cons_succ, List.set_cons_zero]; go_big_quiet_on)
        | go_big_quiet_step (fail))
      refine wpQuiet_nil ?_
      intro _ hw'
      obtain ⟨nq, rfl⟩ := hw'
      clear hne hr1 hr2 hu41 hi1
      go_wp2
      go_roundw
      case rel => exact ⟨k + 1, by omega, by go_num, drewN_below hb.out nq⟩
      case measure => simp [intOf]; omega
    · obtain rfl : k = len := by omega
      go_wp2
      go_ret
      exact ⟨rfl, hb.out⟩
theorem clamp_any (n : Int) (w : World) : Calls Tryd.prog 17 #[.int .i64 n, .int .i64 0, .int .i64 2000] w fun e w' => (∃ k : Nat, e = .returned (.int .i64 (k : Int)) ∧ k ≤ 2000) ∧ w' = w := by
  go_enter Tryd.func17, Tryd.ntmps17
  by_cases h1 : n < 0
  · go_wp2
    go_ret
    exact ⟨⟨0, rfl, by omega⟩, rfl⟩
  · have h0 : 0 ≤ n := by omega
    by_cases h2 : 2000 < n
    · go_wp2
      go_ret
      exact ⟨⟨2000, rfl, by omega⟩, rfl⟩
    · have h3 : n ≤ 2000 := by omega
      go_wp2
      go_ret
      refine ⟨⟨n.toNat, ?_, by omega⟩, rfl⟩
      rw [Int.toNat_of_nonneg h0]
      rfl
theorem own_of_heap {w : World} {base g N : Nat} {L : List Nat} (hL : L.length = N) (hg : base ≤ g) (hm : N ≤ maxLen) (hh : w.heap[g]? = some (.cells (L.map bv).toArray 5 (0, 0))) : Own w base (.slice (some ⟨g, 0, none⟩) N N) L := by
  subst hL
  refine ⟨by simp, .inr ⟨g, L.length, _, rfl, hg, hh, Nat.le_refl _, hm, by simp, ?_⟩⟩
  simp [List.take_of_length_le]
/-- The slice of bytes as a string. -/
theorem own_string {w : World} {base g N : Nat} {L : List Nat} (h : Own w base (.slice (some ⟨g, 0, none⟩) N N) L) (hL : L.length = N) (hs : ∀ c ∈ L, c < 256) :
    (convert 69 9 (.slice (some ⟨g, 0, none⟩) N N)).run Tryd.prog w = .ok (.string (str L)) w := by
  subst hL
  have := run_convert_bytes_back (P := Tryd.prog) w 69 9 5 ⟨g, 0, none⟩ L.length (L.map UInt8.ofNat) Tryd.underlying69 Tryd.underlying5 Tryd.underlying9 (fun j hj => by
    have hj' : j < L.length := by simpa using hj
    have hc := World.ownsRow.cellAt h j (by omega)
    rw [add_none, Nat.zero_add, hc]
    have hlt := hs L[j] (List.getElem_mem hj')
    simp [hj', bv]
    omega)
  rw [List.length_map] at this
  exact this
theorem four_str (w : World) (L : List Nat) (hL : L.length = 4) (hs : ∀ c ∈ L, c < 256) : (convert 69 9 (.slice (some ⟨w.heap.size, 0, none⟩) 4 4)).run Tryd.prog (w.alloc (.cells (L.map bv).toArray 5)) = .ok (.string (str L)) (w.alloc (.cells (L.map bv).toArray 5)) :=
  own_string (base := w.heap.size) (own_of_heap hL (Nat.le_refl _) (by decide) (heap_alloc_new w _)) hL hs
set_option maxRecDepth 100000 in
theorem word_one (w : World) : Calls Tryd.prog 16 #[.int .i64 16, .int .i64 1, .int .i64 0, .int .i64 5] w fun e w' => e = .returned (.string (str [16, 16, 0, 5])) ∧ Below w.heap.size w w' := by
  have h1 : (convert 69 9 (.slice (some ⟨w.heap.size, 0, none⟩) 4 4)).run Tryd.prog (w.alloc (.cells #[.int .u8 16, .int .u8 16, .int .u8 0, .int .u8 5] 5)) = .ok (.string (str [16, 16, 0, 5])) (w.alloc (.cells #[.int .u8 16, .int .u8 16, .int .u8 0, .int .u8 5] 5)) := four_str w [16, 16, 0, 5] rfl (by decide)
  have hb : Below w.heap.size w (w.alloc (.cells ([16, 16, 0, 5].map bv).toArray 5)) := (Below.refl _ _).alloc (Nat.le_refl _) _
  have HB := hide hb
  have hx : bits .and .i64 5 65535 = 5 := by decide
  generalize str [16, 16, 0, 5] = S at *
  clear hb
  go_enter Tryd.func16, Tryd.ntmps16
  go_wp2
  go_ret
  exact ⟨rfl, HB.out⟩
set_option maxRecDepth 100000 in
theorem word_two (w : World) : Calls Tryd.prog 16 #[.int .i64 64, .int .i64 0, .int .i64 0, .int .i64 9] w fun e w' => e = .returned (.string (str [64, 0, 0, 9])) ∧ Below w.heap.size w w' := by
  have h1 : (convert 69 9 (.slice (some ⟨w.heap.size, 0, none⟩) 4 4)).run Tryd.prog (w.alloc (.cells #[.int .u8 64, .int .u8 0, .int .u8 0, .int .u8 9] 5)) = .ok (.string (str [64, 0, 0, 9])) (w.alloc (.cells #[.int .u8 64, .int .u8 0, .int .u8 0, .int .u8 9] 5)) := four_str w [64, 0, 0, 9] rfl (by decide)
  have hb : Below w.heap.size w (w.alloc (.cells ([64, 0, 0, 9].map bv).toArray 5)) := (Below.refl _ _).alloc (Nat.le_refl _) _
  have HB := hide hb
  have hx : bits .and .i64 9 65535 = 9 := by decide
  generalize str [64, 0, 0, 9] = S at *
  clear hb
  go_enter Tryd.func16, Tryd.ntmps16
  go_wp2
  go_ret
  exact ⟨rfl, HB.out⟩
/-- The plan of one page, and what runs on it. -/
def pn0 : Pnv := ⟨7, [16, 16, 0, 5, 64, 0, 0, 9]⟩
def mcf : Mc := ⟨[pn0.page], [0, 0, 0, 0, 0, 0, 0, 0, 0, 0, 0, 0, 0, 0, 0, 0], 0, 0, 0, 0, 0⟩
theorem mcf_run : (mcf.run 10).kind = 1 ∧ (mcf.run 10).steps = 2 ∧ (mcf.run 10).code = 9 ∧ (mcf.run 10).m.regs[1]? = some 5 := by
  refine ⟨?_, ?_, ?_, ?_⟩ <;> kernel_rfl
end Go.Proofs.YteopkgjkbhcicaaDoor
namespace Go.Proofs.YteopkgjkbhcicaaDoor
open Go.RowKit FerryCrc FerryAlu
set_option linter.unusedVariables false
set_option linter.unusedSimpArgs false

/-- An empty list is made. -/
theorem wp_empty {P : Program} {o : Oper} {a : Act} {w : World} {K : Act → World → Prop} {Q : Exit → Act → World → Prop} (t e : TypeId) (ho : o.op = .buildSlice t 0 #[]) (hu : P.underlying t = some (.slice e))
    {size bytes : Nat} (hi : ∃ i z, P.info? e = some i ∧ i.zero = some z ∧ i.size = size ∧ i.bytes = bytes ∧ z.cells.size = size) (h0 : 0 < size)
    (h : K (a.put o.dst (.slice (some ⟨w.heap.size, 0, none⟩) 0 0)) (w.alloc (.cells #[] e))) : o.wp P a w K Q := by
  obtain ⟨i, z, h2, h3, h4, h5, h6⟩ := hi
  have hz : i.size ≠ 0 := by omega
  have hrun : (Instr.buildSlice t 0 #[]).run P w = .ok (.slice (some ⟨w.heap.size, 0, none⟩) 0 0) (w.alloc (.cells #[] e)) := by
    simp [Instr.buildSlice, run_underlying hu, sizeOf, typeInfo, zeroValue, h2, h3, Instr.fill, newRow, hz]
    exact congrArg (fun z => w.alloc (.cells z e)) (Array.eq_empty_of_size_eq_zero (by simp))
  unfold Oper.wp execOp
  simp only [ho, Sem.run_bind, Sem.run_pure, Result.andThen_ok, List.map_toArray, List.map_nil, hrun]
  exact h
/-- append of whatever row to a row of the call's own. -/
theorem wp_append_row {P : Program} {w : World} {o : Oper} {act : Act} {K : Act → World → Prop} {Q : Exit → Act → World → Prop} (s x : Operand) (t e : TypeId)
    (ho : o.op = .call { callee := .builtin .append, args := #[s, x], argTypes := #[t, t] }) (ht : P.underlying t = some (.slice e))
    {size bytes : Nat} (hi : ∃ i z, P.info? e = some i ∧ i.zero = some z ∧ i.size = size ∧ i.bytes = bytes ∧ z.cells.size = size) (h0 : 0 < size)
    (base : Nat) (v : Value) (n : Nat) (xs : List Value) (hs : act.eval s = v) (hv : w.ownsRow base e size v n xs)
    (a : Option Addr) (m c : Nat) (cs : List Value) (hx : act.eval x = .slice a m c) (hr : Row w a m c size cs) (one : ∀ u ∈ cs, u.oneCell' = true)
    (b1 : n + m ≤ maxLen) (b2 : (n + m) * bytes ≤ 140737488355328) (hbase : base ≤ w.heap.size)
    (h : ∀ v' w', w'.ownsRow base e size v' (n + m) (xs ++ cs) → w.grownBy w' v.ownBlock → K (act.put o.dst v') w') : o.wp P act w K Q := by
  obtain ⟨i, z, h2, h3, h4, h5, h6⟩ := hi
  obtain ⟨v', w', hrun, k1, k2⟩ : ∃ v' w', (Builtin.append_ #[t, t] o.type #[v, .slice a m c]).run P w = .ok v' w' ∧ w'.ownsRow base e size v' (n + m) (xs ++ cs) ∧ w.grownBy w' v.ownBlock := by
    by_cases hm : m = 0
    · subst hm
      obtain rfl : cs = [] := List.length_eq_zero_iff.1 (by simpa using hr.size)
      obtain ⟨b, cap, rfl, hb⟩ := RLk.row (.inl hv)
      exact ⟨_, w, run_append_empty (P := P) w t o.type e i ht h2 b a n cap c hb.fit, by simpa using hv, ⟨rfl, rfl, rfl, Nat.le_refl _, fun _ _ _ => rfl⟩⟩
    · match a, hx, hr with
      | none, hx, hr => exact absurd (hr.null rfl).1 hm
      | some ad, hx, hr =>
        have hcell : ∀ j u, cs[j]? = some u → w.cell? (ad.add j) = some u := fun j u hu => by
          obtain ⟨b, off, ha, hc⟩ := hr.cell j u hu
          simp only [Option.some.injEq] at ha
          subst ha
          rw [add_lit']
          exact hc
        obtain ⟨v', w', hrun, k1, k2, _⟩ := run_append_own (P := P) w base t o.type e i z size bytes ht h2 h3 h4 h5 h6 h0 v n xs hv ad m c cs hr.size hcell one b1 b2 hbase
        exact ⟨v', w', hrun, k1, k2⟩
  unfold Oper.wp execOp
  simp only [ho, resolve, invoke, builtin, Sem.run_bind, Sem.run_pure, Result.andThen_ok, List.map_toArray, List.map_cons, List.map_nil, hs, hx, hrun]
  exact h v' w' k1 k2
/-- The slots but for six of them are as they were. -/
structure Ag (D : List Nat) (xs ys : Array Value) : Prop where
  size : ys.size = xs.size
  same : ∀ j, j ∉ D → ys[j]? = xs[j]?
theorem Ag.set {D : List Nat} {xs ys : Array Value} (h : Ag D xs ys) {d : Nat} (hd : d ∈ D) (v : Value) : Ag D xs (ys.setIfInBounds d v) :=
  ⟨by rw [Array.size_setIfInBounds]; exact h.size, fun j hj => by
    rw [Array.getElem?_setIfInBounds_ne (show d ≠ j from fun e => hj (by rw [← e]; exact hd))]
    exact h.same j hj⟩
theorem ag_refl (D : List Nat) (xs : Array Value) : Ag D xs xs := ⟨rfl, fun _ _ => rfl⟩
theorem Ag.step {d : Nat} {D : List Nat} {xs ys : Array Value} (h : Ag (d :: D) xs ys) (hd : d < xs.size) : Ag D (xs.setIfInBounds d (ys.getD d undef)) ys := by
  refine ⟨by rw [Array.size_setIfInBounds]; exact h.size, fun j hj => ?_⟩
  have hy : d < ys.size := by rw [h.size]; exact hd
  by_cases e : d = j
  · subst e
    rw [Array.getElem?_setIfInBounds_self_of_lt hd, Array.getElem?_eq_getElem hy]
    simp [hy]
  · rw [Array.getElem?_setIfInBounds_ne e]
    exact h.same j (fun hm => by
      rcases List.mem_cons.1 hm with e' | e'
      · exact e e'.symm
      · exact hj e')
theorem Ag.eq {xs ys : Array Value} (h : Ag [] xs ys) : ys = xs := Array.ext_getElem? fun j => h.same j (by simp)
theorem getD_of {ts : Array Value} {d : Nat} {v : Value} (h : ts[d]? = some v) : ts.getD d undef = v := by
  rw [Array.getD_eq_getD_getElem?, h]
  rfl
theorem set_at {ts xs : Array Value} {D : List Nat} (h : Ag D xs ts) {d : Nat} (hd : d < xs.size) (v : Value) : (ts.setIfInBounds d v)[d]? = some v :=
  Array.getElem?_setIfInBounds_self_of_lt (by rw [h.size]; exact hd)
theorem set_ne {ts : Array Value} {d j : Nat} (h : d ≠ j) (v : Value) : (ts.setIfInBounds d v)[j]? = ts[j]? := Array.getElem?_setIfInBounds_ne h

def zP : Array Value := #[.int .u32 0, .int .u32 0, .int .u32 0, .int .u32 0, .int .u32 0, .int .u32 0, .int .u32 0, .int .u32 0, .int .u32 0, .int .u32 0, .int .u32 0, .int .u32 0, .int .u32 0, .int .u32 0, .int .u32 0, .int .u32 0, .int .u32 0, .int .i64 0, .int .i64 0, .int .i64 0, .int .i64 0]
def zS : Array Value := #[.int .i64 0, .int .i64 0, .int .i64 0]
theorem wp_allocP {o : Oper} {a : Act} {w : World} {K : Act → World → Prop} {Q : Exit → Act → World → Prop} (ho : o.op = .alloc 26) (h : K (a.put o.dst (.pointer (some ⟨w.heap.size, 0, none⟩))) (w.alloc (.cells zP 26))) : o.wp Tryd.prog a w K Q := by
  have hrun : (Instr.alloc 26 true (.tuple #[])).run Tryd.prog w = .ok (.pointer (some ⟨w.heap.size, 0, none⟩)) (w.alloc (.cells zP 26)) := by kernel_rfl
  unfold Oper.wp execOp
  simp only [ho, Sem.run_bind, hrun, Result.andThen_ok, Sem.run_pure]
  exact h
theorem wp_allocS {o : Oper} {a : Act} {w : World} {K : Act → World → Prop} {Q : Exit → Act → World → Prop} (ho : o.op = .alloc 32) (h : K (a.put o.dst (.pointer (some ⟨w.heap.size, 0, none⟩))) (w.alloc (.cells zS 32))) : o.wp Tryd.prog a w K Q := by
  have hrun : (Instr.alloc 32 true (.tuple #[])).run Tryd.prog w = .ok (.pointer (some ⟨w.heap.size, 0, none⟩)) (w.alloc (.cells zS 32)) := by kernel_rfl
  unfold Oper.wp execOp
  simp only [ho, Sem.run_bind, hrun, Result.andThen_ok, Sem.run_pure]
  exact h
theorem wp_call3 {o : Oper} {a : Act} {w : World} {K : Act → World → Prop} {Q : Exit → Act → World → Prop} (x y z : Operand) (T : Array TypeId) (ho : o.op = .call { callee := .value (.func 10), args := #[x, y, z], argTypes := T })
    (vx vy vz : Value) (hx : a.eval x = vx) (hy : a.eval y = vy) (hz : a.eval z = vz) (h : Calls Tryd.prog 10 #[vx, vy, vz] w fun e w' => ∃ v, e = .returned v ∧ K (a.put o.dst v) w') : o.wp Tryd.prog a w K Q := by
  have hrun : (execOp a.eval o).run Tryd.prog w = .ok (.enter 10 #[vx, vy, vz]) w := by
    unfold execOp
    simp only [ho, resolve, Sem.run_bind, Sem.run_pure, Result.andThen_ok, List.map_toArray, List.map_cons, List.map_nil, hx, hy, hz]
    go_simp
  unfold Oper.wp
  rw [hrun, Oper.upon_enter]
  refine h.mono ?_
  rintro e w' ⟨v, rfl, hk⟩
  exact hk
theorem new_blw (w : World) (o : Obj) : Below w.heap.size w (w.alloc o) := (Below.refl _ _).alloc (Nat.le_refl _) o
/-- How far such a statement is: s: nothing, made, filled, run; y, z: which boxes are there. -/
structure St (W : World) (D : List Nat) (t0 : Array Value) (sb sa e0 e1 e2 sy sz : Nat) (l Rp : List Pg) (P Sv : Array Value) (C : Prop) (s : Nat) (y z : Bool) (ts : Array Value) (w : World) : Prop where
  ag : Ag D t0 ts
  below : Below W.heap.size W w
  h1 : s = 1 → ∃ v, ts[sb]? = some v ∧ w.ownsRow W.heap.size 47 66 v 0 []
  h2 : s = 2 → ∃ v, ts[sa]? = some v ∧ POwn w W.heap.size v l
  h3 : s = 3 → ∃ v, ts[e0]? = some v ∧ ts[e1]? = some (.agg P) ∧ ts[e2]? = some (.agg Sv) ∧ POwn w W.heap.size v Rp ∧ C
  hy : y = true → ∃ g, ts[sy]? = some (.pointer (some ⟨g, 0, none⟩)) ∧ W.heap.size ≤ g ∧ w.heap[g]? = some (.cells zP 26)
  hz : z = true → ∃ g, ts[sz]? = some (.pointer (some ⟨g, 0, none⟩)) ∧ W.heap.size ≤ g ∧ w.heap[g]? = some (.cells zS 32)
theorem own_blw {w w' : World} {base : Nat} {e : TypeId} {sz n : Nat} {v : Value} {xs : List Value} (h : w.ownsRow base e sz v n xs) (hb : Below w.heap.size w w') : w'.ownsRow base e sz v n xs := ownsRow_below h hb
theorem box_blw {w w' : World} {g : Nat} {c : Array Value} {t : TypeId} (h : w.heap[g]? = some (.cells c t)) (hb : Below w.heap.size w w') : w'.heap[g]? = some (.cells c t) := (hb.block g (Array.getElem?_eq_some_iff.1 h).1).trans h
theorem box_off {w : World} {base : Nat} {e t : TypeId} {sz n g : Nat} {v : Value} {xs : List Value} {c : Array Value} (h : w.ownsRow base e sz v n xs) (hh : w.heap[g]? = some (.cells c t)) (hne : e ≠ t) : some g ≠ v.ownBlock := by
  intro e1
  rcases h.2 with ⟨rfl, _⟩ | ⟨g', cap, cur, rfl, _, hg, _⟩
  · simp [Value.ownBlock] at e1
  · obtain rfl : g = g' := Option.some.inj e1
    rw [hg] at hh
    simp only [Option.some.injEq, Obj.cells.injEq] at hh
    exact hne hh.2.1
section
variable {W : World} {D : List Nat} {t0 : Array Value} {sb sa e0 e1 e2 sy sz : Nat} {l Rp : List Pg} {P Sv : Array Value} {C : Prop} {s : Nat} {y z : Bool} {ts : Array Value} {w : World}
theorem St.ally (h : St W D t0 sb sa e0 e1 e2 sy sz l Rp P Sv C s false z ts w) (hd : sy ∈ D) (hl : sy < t0.size) (n1 : sy ≠ sb) (n2 : sy ≠ sa) (n3 : sy ≠ e0) (n4 : sy ≠ e1) (n5 : sy ≠ e2) (n6 : sy ≠ sz) :
    St W D t0 sb sa e0 e1 e2 sy sz l Rp P Sv C s true z (ts.setIfInBounds sy (.pointer (some ⟨w.heap.size, 0, none⟩))) (w.alloc (.cells zP 26)) := by
  have X := new_blw w (.cells zP 26)
  refine ⟨h.ag.set hd _, chain h.below X, fun e => ?_, fun e => ?_, fun e => ?_, fun _ => ⟨w.heap.size, set_at h.ag hl _, h.below.size, heap_alloc_new w _⟩, fun e => ?_⟩
  · obtain ⟨v, a1, a2⟩ := h.h1 e
    exact ⟨v, (set_ne n1 _).trans a1, own_blw a2 X⟩
  · obtain ⟨v, a1, a2⟩ := h.h2 e
    exact ⟨v, (set_ne n2 _).trans a1, a2.below X⟩
  · obtain ⟨v, a1, a2, a3, a4⟩ := h.h3 e
    exact ⟨v, (set_ne n3 _).trans a1, (set_ne n4 _).trans a2, (set_ne n5 _).trans a3, a4.1.below X, a4.2⟩
  · obtain ⟨g, a1, a2, a3⟩ := h.hz e
    exact ⟨g, (set_ne n6 _).trans a1, a2, box_blw a3 X⟩
theorem St.allz (h : St W D t0 sb sa e0 e1 e2 sy sz l Rp P Sv C s y false ts w) (hd : sz ∈ D) (hl : sz < t0.size) (n1 : sz ≠ sb) (n2 : sz ≠ sa) (n3 : sz ≠ e0) (n4 : sz ≠ e1) (n5 : sz ≠ e2) (n6 : sz ≠ sy) :
    St W D t0 sb sa e0 e1 e2 sy sz l Rp P Sv C s y true (ts.setIfInBounds sz (.pointer (some ⟨w.heap.size, 0, none⟩))) (w.alloc (.cells zS 32)) := by
  have X := new_blw w (.cells zS 32)
  refine ⟨h.ag.set hd _, chain h.below X, fun e => ?_, fun e => ?_, fun e => ?_, fun e => ?_, fun _ => ⟨w.heap.size, set_at h.ag hl _, h.below.size, heap_alloc_new w _⟩⟩
  · obtain ⟨v, a1, a2⟩ := h.h1 e
    exact ⟨v, (set_ne n1 _).trans a1, own_blw a2 X⟩
  · obtain ⟨v, a1, a2⟩ := h.h2 e
    exact ⟨v, (set_ne n2 _).trans a1, a2.below X⟩
  · obtain ⟨v, a1, a2, a3, a4⟩ := h.h3 e
    exact ⟨v, (set_ne n3 _).trans a1, (set_ne n4 _).trans a2, (set_ne n5 _).trans a3, a4.1.below X, a4.2⟩
  · obtain ⟨g, a1, a2, a3⟩ := h.hy e
    exact ⟨g, (set_ne n6 _).trans a1, a2, box_blw a3 X⟩
theorem St.build (h : St W D t0 sb sa e0 e1 e2 sy sz l Rp P Sv C 0 y z ts w) (hd : sb ∈ D) (hl : sb < t0.size) (n1 : sb ≠ sy) (n2 : sb ≠ sz) :
    St W D t0 sb sa e0 e1 e2 sy sz l Rp P Sv C 1 y z (ts.setIfInBounds sb (.slice (some ⟨w.heap.size, 0, none⟩) 0 0)) (w.alloc (.cells #[] 47)) := by
  have X := new_blw w (.cells #[] 47)
  refine ⟨h.ag.set hd _, chain h.below X, fun _ => ⟨_, set_at h.ag hl _, World.ownsRow_lit w #[] 0 h.below.size (by decide) rfl⟩, fun e => by omega, fun e => by omega, fun e => ?_, fun e => ?_⟩
  · obtain ⟨g, a1, a2, a3⟩ := h.hy e
    exact ⟨g, (set_ne n1 _).trans a1, a2, box_blw a3 X⟩
  · obtain ⟨g, a1, a2, a3⟩ := h.hz e
    exact ⟨g, (set_ne n2 _).trans a1, a2, box_blw a3 X⟩
theorem St.app {v v' : Value} {w' : World} (h : St W D t0 sb sa e0 e1 e2 sy sz l Rp P Sv C 1 y z ts w) (hd : sa ∈ D) (hl : sa < t0.size) (n1 : sa ≠ sy) (n2 : sa ≠ sz) (hv : w.ownsRow W.heap.size 47 66 v 0 []) (ho : POwn w' W.heap.size v' l) (hg : w.grownBy w' v.ownBlock) :
    St W D t0 sb sa e0 e1 e2 sy sz l Rp P Sv C 2 y z (ts.setIfInBounds sa v') w' := by
  refine ⟨h.ag.set hd _, h.below.grown hg h.below.size (fun j e => (hv.lt j e).1), fun e => by omega, fun _ => ⟨_, set_at h.ag hl _, ho⟩, fun e => by omega, fun e => ?_, fun e => ?_⟩
  · obtain ⟨g, a1, a2, a3⟩ := h.hy e
    exact ⟨g, (set_ne n1 _).trans a1, a2, (hg.block g (Array.getElem?_eq_some_iff.1 a3).1 (box_off hv a3 (by decide))).trans a3⟩
  · obtain ⟨g, a1, a2, a3⟩ := h.hz e
    exact ⟨g, (set_ne n2 _).trans a1, a2, (hg.block g (Array.getElem?_eq_some_iff.1 a3).1 (box_off hv a3 (by decide))).trans a3⟩
theorem St.call {u x1 x2 : Value} {w' : World} {sc sm : Nat} (h : St W D t0 sb sa e0 e1 e2 sy sz l Rp P Sv C 2 y z ts w) (hd : sc ∈ D ∧ sm ∈ D ∧ e0 ∈ D ∧ e1 ∈ D ∧ e2 ∈ D) (hl : e0 < t0.size ∧ e1 < t0.size ∧ e2 < t0.size)
    (n1 : sc ≠ sy ∧ sm ≠ sy ∧ e0 ≠ sy ∧ e1 ≠ sy ∧ e2 ≠ sy) (n2 : sc ≠ sz ∧ sm ≠ sz ∧ e0 ≠ sz ∧ e1 ≠ sz ∧ e2 ≠ sz) (n3 : e1 ≠ e0 ∧ e2 ≠ e0 ∧ e2 ≠ e1) (ho : POwn w' W.heap.size u Rp) (hC : C) (hb : Below w.heap.size w w') :
    St W D t0 sb sa e0 e1 e2 sy sz l Rp P Sv C 3 y z (((((ts.setIfInBounds sc x1).setIfInBounds sm x2).setIfInBounds e0 u).setIfInBounds e1 (.agg P)).setIfInBounds e2 (.agg Sv)) w' := by
  have g1 := h.ag.set hd.1 x1
  have g2 := g1.set hd.2.1 x2
  have g3 := g2.set hd.2.2.1 u
  have g4 := g3.set hd.2.2.2.1 (.agg P)
  have g5 := g4.set hd.2.2.2.2 (.agg Sv)
  refine ⟨g5, chain h.below hb, fun e => by omega, fun e => by omega, fun _ => ⟨u, ?_, ?_, ?_, ho, hC⟩, fun e => ?_, fun e => ?_⟩
  · rw [set_ne n3.2.1, set_ne n3.1]
    exact set_at g2 hl.1 _
  · rw [set_ne n3.2.2]
    exact set_at g3 hl.2.1 _
  · exact set_at g4 hl.2.2 _
  · obtain ⟨g, a1, a2, a3⟩ := h.hy e
    exact ⟨g, by rw [set_ne n1.2.2.2.2, set_ne n1.2.2.2.1, set_ne n1.2.2.1, set_ne n1.2.1, set_ne n1.1]; exact a1, a2, box_blw a3 hb⟩
  · obtain ⟨g, a1, a2, a3⟩ := h.hz e
    exact ⟨g, by rw [set_ne n2.2.2.2.2, set_ne n2.2.2.2.1, set_ne n2.2.2.1, set_ne n2.2.1, set_ne n2.1]; exact a1, a2, box_blw a3 hb⟩
end
end Go.Proofs.YteopkgjkbhcicaaDoor
namespace Go.Proofs.YteopkgjkbhcicaaDoor
open Go.RowKit FerryCrc FerryAlu
set_option linter.unusedVariables false
set_option linter.unusedSimpArgs false

theorem pgs_row {w : World} {a : Option Addr} {len cap : Nat} {l : List Pg} (h : Pgs w a len cap l) : Row w a len cap 66 (flat l) := by
  refine ⟨by rw [flat_len h.ok, h.size], h.fit, h.null, fun j u hu => ?_⟩
  cases a with
  | none =>
    have h0 := (h.null rfl).1
    have hl : l = [] := List.length_eq_zero_iff.1 (by rw [h.size]; exact h0)
    subst hl
    simp [flat] at hu
  | some ad =>
    have hj := (List.getElem?_eq_some_iff.1 hu).1
    rw [flat_len h.ok] at hj
    obtain ⟨p, hp⟩ : ∃ p, l[0]? = some p := ⟨_, List.getElem?_eq_getElem (by omega)⟩
    obtain ⟨b, off, e, _⟩ := h.cell 0 p hp
    refine ⟨b, off, e, ?_⟩
    have h1 := h.flat_cells j u hu
    rw [Option.some.inj e, add_lit'] at h1
    exact h1
theorem want_none {o : Oper} {ops : Array Oper} {ts : Array Value} {A B : Prop} (hg : o.guard = none) (h : A) : if Region.wanted o (yielded ops ts) = true then A else B := by
  rw [if_pos (by simp [Region.wanted, hg])]
  exact h
theorem move_run {P : Program} {a : Act} {d : Nat} {x : Operand} {v : Value} {t : TypeId} {p : String} {af : Array Edge} (h : a.eval x = v) (w : World) : (execOp a.eval { dst := some d, op := Op.move x, type := t, pos := p, after := af, guard := none }).run P w = .ok (.value v) w := by
  unfold execOp
  simp only [h, Sem.run_pure]
theorem ext_run {P : Program} {a : Act} {d k : Nat} {x : Operand} {v : Value} {xs : Array Value} {t : TypeId} {p : String} {af : Array Edge} (h : a.eval x = .tuple xs) (hk : xs[k]? = some v) (w : World) : (execOp a.eval { dst := some d, op := Op.extract x k, type := t, pos := p, after := af, guard := none }).run P w = .ok (.value v) w := by
  unfold execOp
  simp only [h]
  go_simp
def rgaOps : Array Oper := #[{ dst := some 79, op := Op.buildSlice 22 0 #[], type := 22, pos := "top03.go:32", after := #[], guard := none }, { dst := some 80, op := Op.move (Operand.tmp 12), type := 22, pos := "top03.go:32", after := #[], guard := none }, { dst := some 81, op := Op.call { callee := Callee.builtin Builtin.append, args := #[Operand.tmp 79, Operand.tmp 80], argTypes := #[22, 22] }, type := 22, pos := "top03.go:32", after := #[{ on := 0, ground := Ground.data }, { on := 1, ground := Ground.data }], guard := none }, { dst := some 82, op := Op.load 26 (Operand.tmp 4), type := 26, pos := "top03.go:32", after := #[], guard := none }, { dst := some 83, op := Op.move (Operand.tmp 5), type := 3, pos := "top03.go:32", after := #[], guard := none }, { dst := some 84, op := Op.move (Operand.tmp 6), type := 3, pos := "top03.go:32", after := #[], guard := none }, { dst := some 85, op := Op.binOp BinOp.add 3 (Operand.tmp 83) (Operand.tmp 84) 3, type := 3, pos := "top03.go:32", after := #[{ on := 4, ground := Ground.data }, { on := 5, ground := Ground.data }], guard := none }, { dst := some 86, op := Op.call { callee := Callee.value (Operand.func 10), args := #[Operand.tmp 81, Operand.tmp 82, Operand.tmp 85], argTypes := #[22, 26, 3] }, type := 33, pos := "top03.go:32", after := #[{ on := 2, ground := Ground.data }, { on := 3, ground := Ground.data }, { on := 6, ground := Ground.data }, { on := 2, ground := Ground.chain }], guard := none }, { dst := some 78, op := Op.move (Operand.tmp 86), type := 33, pos := "top03.go:32", after := #[{ on := 7, ground := Ground.data }], guard := none }, { dst := some 87, op := Op.extract (Operand.tmp 78) 0, type := 22, pos := "top03.go:32", after := #[{ on := 8, ground := Ground.data }], guard := none }, { dst := some 88, op := Op.extract (Operand.tmp 78) 1, type := 26, pos := "top03.go:32", after := #[{ on := 8, ground := Ground.data }, { on := 14, ground := Ground.gcOnly Departure.lateStores }], guard := none }, { dst := some 89, op := Op.extract (Operand.tmp 78) 2, type := 32, pos := "top03.go:32", after := #[{ on := 8, ground := Ground.data }, { on := 15, ground := Ground.gcOnly Departure.lateStores }], guard := none }, { dst := some 15, op := Op.alloc 26, type := 0, pos := "top03.go:32", after := #[], guard := none }, { dst := some 16, op := Op.alloc 32, type := 0, pos := "top03.go:32", after := #[], guard := none }, { dst := some 14, op := Op.assign (Operand.tmp 87), type := 22, pos := "top03.go:32", after := #[{ on := 9, ground := Ground.data }, { on := 7, ground := Ground.chain }, { on := 0, ground := Ground.phase }, { on := 1, ground := Ground.phase }, { on := 2, ground := Ground.phase }, { on := 3, ground := Ground.phase }, { on := 4, ground := Ground.phase }, { on := 5, ground := Ground.phase }, { on := 6, ground := Ground.phase }, { on := 7, ground := Ground.phase }, { on := 8, ground := Ground.phase }, { on := 9, ground := Ground.phase }, { on := 10, ground := Ground.textOnly Departure.lateStores }, { on := 11, ground := Ground.textOnly Departure.lateStores }, { on := 12, ground := Ground.phase }, { on := 13, ground := Ground.phase }], guard := none }, { dst := none, op := Op.store 26 (Operand.tmp 15) (Operand.tmp 88), type := 0, pos := "top03.go:32", after := #[{ on := 12, ground := Ground.data }, { on := 10, ground := Ground.data }, { on := 14, ground := Ground.chain }, { on := 0, ground := Ground.phase }, { on := 1, ground := Ground.phase }, { on := 2, ground := Ground.phase }, { on := 3, ground := Ground.phase }, { on := 4, ground := Ground.phase }, { on := 5, ground := Ground.phase }, { on := 6, ground := Ground.phase }, { on := 7, ground := Ground.phase }, { on := 8, ground := Ground.phase }, { on := 9, ground := Ground.phase }, { on := 10, ground := Ground.phase }, { on := 11, ground := Ground.textOnly Departure.lateStores }, { on := 12, ground := Ground.phase }, { on := 13, ground := Ground.phase }, { on := 14, ground := Ground.phase }], guard := none }, { dst := none, op := Op.store 32 (Operand.tmp 16) (Operand.tmp 89), type := 0, pos := "top03.go:32", after := #[{ on := 13, ground := Ground.data }, { on := 11, ground := Ground.data }, { on := 15, ground := Ground.chain }, { on := 0, ground := Ground.phase }, { on := 1, ground := Ground.phase }, { on := 2, ground := Ground.phase }, { on := 3, ground := Ground.phase }, { on := 4, ground := Ground.phase }, { on := 5, ground := Ground.phase }, { on := 6, ground := Ground.phase }, { on := 7, ground := Ground.phase }, { on := 8, ground := Ground.phase }, { on := 9, ground := Ground.phase }, { on := 10, ground := Ground.phase }, { on := 11, ground := Ground.phase }, { on := 12, ground := Ground.phase }, { on := 13, ground := Ground.phase }, { on := 14, ground := Ground.phase }, { on := 15, ground := Ground.phase }], guard := none }]
set_option maxRecDepth 100000 in
set_option maxHeartbeats 4000000 in
theorem rga {Q : Exit → Act → World → Prop} {S : World → Prop} {a0 : Act} {W : World} (pa : Option Addr) (pn pc : Nat) (l : List Pg) (hp : Pgs W pa pn pc l) (R : Rn) (P0 : Array Value) (nn : Int)
    (hsz : 89 < a0.tmps.size) (x1 : a0.tmps[80]? = some (.slice pa pn pc)) (x2 : a0.tmps[82]? = some (.agg P0)) (x3 : a0.tmps[85]? = some (.int .i64 nn))
    (hcall : ∀ w' v, Below W.heap.size W w' → POwn w' W.heap.size v l → Calls Tryd.prog 10 #[v, .agg P0, .int .i64 nn] w' fun e w'' => ∃ u, e = .returned (.tuple #[u, .agg R.m.proc.toArray, .agg (stopL R).toArray]) ∧ POwn w'' w'.heap.size u R.m.pages ∧ R.m.Ok ∧ Below w'.heap.size w' w'')
    (hS : ∀ w', Below W.heap.size W w' → S w') (hQ : ∀ (d : Nat) v c a w, Q (.panic c) (Act.put a (some d) v) w → Q (.panic c) a w)
    (h : ∀ ub ua uc um v gy gz w, POwn w W.heap.size v R.m.pages → R.m.Ok → (W.heap.size ≤ gy ∧ w.heap[gy]? = some (.cells zP 26)) → (W.heap.size ≤ gz ∧ w.heap[gz]? = some (.cells zS 32)) → Below W.heap.size W w → S w → wpAnyH Tryd.prog .any rgaOps Q S 3 #[true, true, true, true, true, true, true, true, true, true, true, true, true, true, false, false, false] (((((((((a0.put (some 79) ub).put (some 81) ua).put (some 86) uc).put (some 78) um).put (some 87) v).put (some 88) (.agg R.m.proc.toArray)).put (some 89) (.agg (stopL R).toArray)).put (some 15) (.pointer (some ⟨gy, 0, none⟩))).put (some 16) (.pointer (some ⟨gz, 0, none⟩))) w) :
    wpAnyH Tryd.prog .any rgaOps Q S 12 #[false, true, false, true, true, true, true, false, false, false, false, false, false, false, false, false, false] a0 W := by
  have hm := hp.most
  have hrow := pgs_row hp
  have s311 : ∀ ts w, St W [79, 81, 86, 78, 87, 88, 89, 15, 16] a0.tmps 79 81 87 88 89 15 16 l R.m.pages R.m.proc.toArray (stopL R).toArray R.m.Ok 3 true true ts w → wpAnyH Tryd.prog .any rgaOps Q S 3 #[true, true, true, true, true, true, true, true, true, true, true, true, true, true, false, false, false] { a0 with tmps := ts } w := by
    intro ts w hst
    obtain ⟨v, k0, k1, k2, ho, okR⟩ := hst.h3 rfl
    obtain ⟨gy, ky, hgy, hyh⟩ := hst.hy rfl
    obtain ⟨gz, kz, hgz, hzh⟩ := hst.hz rfl
    have g := (((((((((hst.ag.step (by (try simp only [Array.size_setIfInBounds]); omega)).step (by (try simp only [Array.size_setIfInBounds]); omega)).step (by (try simp only [Array.size_setIfInBounds]); omega)).step (by (try simp only [Array.size_setIfInBounds]); omega)).step (by (try simp only [Array.size_setIfInBounds]); omega)).step (by (try simp only [Array.size_setIfInBounds]); omega)).step (by (try simp only [Array.size_setIfInBounds]); omega)).step (by (try simp only [Array.size_setIfInBounds]); omega)).step (by (try simp only [Array.size_setIfInBounds]); omega))
    rw [getD_of k0, getD_of k1, getD_of k2, getD_of ky, getD_of kz] at g
    have he9 : ({ a0 with tmps := ts } : Act) = (((((((((a0.put (some 79) (ts.getD 79 undef)).put (some 81) (ts.getD 81 undef)).put (some 86) (ts.getD 86 undef)).put (some 78) (ts.getD 78 undef)).put (some 87) v).put (some 88) (.agg R.m.proc.toArray)).put (some 89) (.agg (stopL R).toArray)).put (some 15) (.pointer (some ⟨gy, 0, none⟩))).put (some 16) (.pointer (some ⟨gz, 0, none⟩))) := by
      simp only [Act.put, Act.mk.injEq, and_true]
      exact g.eq
    rw [he9]
    exact h _ _ _ _ v gy gz w ho okR ⟨hgy, hyh⟩ ⟨hgz, hzh⟩ hst.below (hS w hst.below)
  have s310 : ∀ ts w, St W [79, 81, 86, 78, 87, 88, 89, 15, 16] a0.tmps 79 81 87 88 89 15 16 l R.m.pages R.m.proc.toArray (stopL R).toArray R.m.Ok 3 true false ts w → wpAnyH Tryd.prog .any rgaOps Q S 4 #[true, true, true, true, true, true, true, true, true, true, true, true, true, false, false, false, false] { a0 with tmps := ts } w := by
    intro ts w hst
    refine wpAnyH_ready (rs := [13]) (by kernel_rfl) (by simp) ?_
    refine AllReadyH.cons (o := { dst := some 16, op := Op.alloc 32, type := 0, pos := "top03.go:32", after := #[], guard := none }) rfl (fun K hK => ?_) ?_
    · refine want_none rfl ?_
      refine wp_allocS rfl ?_
      exact hK.out _ _ (hS _ (hst.allz (by decide) (by omega) (by decide) (by decide) (by decide) (by decide) (by decide) (by decide)).below) (fun _ => s311 _ _ (hst.allz (by decide) (by omega) (by decide) (by decide) (by decide) (by decide) (by decide) (by decide)))
    exact AllReadyH.nil
  have s301 : ∀ ts w, St W [79, 81, 86, 78, 87, 88, 89, 15, 16] a0.tmps 79 81 87 88 89 15 16 l R.m.pages R.m.proc.toArray (stopL R).toArray R.m.Ok 3 false true ts w → wpAnyH Tryd.prog .any rgaOps Q S 4 #[true, true, true, true, true, true, true, true, true, true, true, true, false, true, false, false, false] { a0 with tmps := ts } w := by
    intro ts w hst
    refine wpAnyH_ready (rs := [12]) (by kernel_rfl) (by simp) ?_
    refine AllReadyH.cons (o := { dst := some 15, op := Op.alloc 26, type := 0, pos := "top03.go:32", after := #[], guard := none }) rfl (fun K hK => ?_) ?_
    · refine want_none rfl ?_
      refine wp_allocP rfl ?_
      exact hK.out _ _ (hS _ (hst.ally (by decide) (by omega) (by decide) (by decide) (by decide) (by decide) (by decide) (by decide)).below) (fun _ => s311 _ _ (hst.ally (by decide) (by omega) (by decide) (by decide) (by decide) (by decide) (by decide) (by decide)))
    exact AllReadyH.nil
  have s300 : ∀ ts w, St W [79, 81, 86, 78, 87, 88, 89, 15, 16] a0.tmps 79 81 87 88 89 15 16 l R.m.pages R.m.proc.toArray (stopL R).toArray R.m.Ok 3 false false ts w → wpAnyH Tryd.prog .any rgaOps Q S 5 #[true, true, true, true, true, true, true, true, true, true, true, true, false, false, false, false, false] { a0 with tmps := ts } w := by
    intro ts w hst
    refine wpAnyH_ready (rs := [12, 13]) (by kernel_rfl) (by simp) ?_
    refine AllReadyH.cons (o := { dst := some 15, op := Op.alloc 26, type := 0, pos := "top03.go:32", after := #[], guard := none }) rfl (fun K hK => ?_) ?_
    · refine want_none rfl ?_
      refine wp_allocP rfl ?_
      exact hK.out _ _ (hS _ (hst.ally (by decide) (by omega) (by decide) (by decide) (by decide) (by decide) (by decide) (by decide)).below) (fun _ => s310 _ _ (hst.ally (by decide) (by omega) (by decide) (by decide) (by decide) (by decide) (by decide) (by decide)))
    refine AllReadyH.cons (o := { dst := some 16, op := Op.alloc 32, type := 0, pos := "top03.go:32", after := #[], guard := none }) rfl (fun K hK => ?_) ?_
    · refine want_none rfl ?_
      refine wp_allocS rfl ?_
      exact hK.out _ _ (hS _ (hst.allz (by decide) (by omega) (by decide) (by decide) (by decide) (by decide) (by decide) (by decide)).below) (fun _ => s301 _ _ (hst.allz (by decide) (by omega) (by decide) (by decide) (by decide) (by decide) (by decide) (by decide)))
    exact AllReadyH.nil
  have s211 : ∀ ts w, St W [79, 81, 86, 78, 87, 88, 89, 15, 16] a0.tmps 79 81 87 88 89 15 16 l R.m.pages R.m.proc.toArray (stopL R).toArray R.m.Ok 2 true true ts w → wpAnyH Tryd.prog .any rgaOps Q S 8 #[true, true, true, true, true, true, true, false, false, false, false, false, true, true, false, false, false] { a0 with tmps := ts } w := by
    intro ts w hst
    refine wpAnyH_ready (rs := [7]) (by kernel_rfl) (by simp) ?_
    refine AllReadyH.cons (o := { dst := some 86, op := Op.call { callee := Callee.value (Operand.func 10), args := #[Operand.tmp 81, Operand.tmp 82, Operand.tmp 85], argTypes := #[22, 26, 3] }, type := 33, pos := "top03.go:32", after := #[{ on := 2, ground := Ground.data }, { on := 3, ground := Ground.data }, { on := 6, ground := Ground.data }, { on := 2, ground := Ground.chain }], guard := none }) rfl (fun K hK => ?_) ?_
    · refine want_none rfl ?_
      obtain ⟨v, hv, own⟩ := hst.h2 rfl
      refine wp_call3 (.tmp 81) (.tmp 82) (.tmp 85) _ rfl v (.agg P0) (.int .i64 nn) (getD_of hv) (getD_of ((hst.ag.same 82 (by decide)).trans x2)) (getD_of ((hst.ag.same 85 (by decide)).trans x3)) ((hcall w v hst.below own).mono ?_)
      rintro e w' ⟨u, rfl, ho, okR, hb⟩
      refine ⟨_, rfl, ?_⟩
      refine hK.out _ _ (hS _ (chain hst.below hb)) (fun hSw => ?_)
      have hst' := hst.call (sc := 86) (sm := 78) (x1 := .tuple #[u, .agg R.m.proc.toArray, .agg (stopL R).toArray]) (x2 := .tuple #[u, .agg R.m.proc.toArray, .agg (stopL R).toArray]) (by decide) (by omega) (by decide) (by decide) (by decide) (ho.weaken hst.below.size) okR hb
      have hz1 : 86 < ts.size := by rw [hst.ag.size]; omega
      have hz2 : 78 < ts.size := by rw [hst.ag.size]; omega
      have k1 : ({ a0 with tmps := ts.setIfInBounds 86 (.tuple #[u, .agg R.m.proc.toArray, .agg (stopL R).toArray]) } : Act).eval (.tmp 86) = .tuple #[u, .agg R.m.proc.toArray, .agg (stopL R).toArray] := getD_of (Array.getElem?_setIfInBounds_self_of_lt hz1)
      refine wpAnyH_take (i := 8) (oi := { dst := some 78, op := Op.move (Operand.tmp 86), type := 33, pos := "top03.go:32", after := #[{ on := 7, ground := Ground.data }], guard := none }) (v := .tuple #[u, .agg R.m.proc.toArray, .agg (stopL R).toArray]) rfl (by kernel_rfl) (by kernel_rfl) (by kernel_rfl) (hQ _ _) (Or.inl ⟨by rfl, ?_⟩) hSw ?_
      · intro wq hq
        exact move_run k1 wq
      have k2 : ∀ t' : Array Value, t'[78]? = some (.tuple #[u, .agg R.m.proc.toArray, .agg (stopL R).toArray]) → ({ a0 with tmps := t' } : Act).eval (.tmp 78) = .tuple #[u, .agg R.m.proc.toArray, .agg (stopL R).toArray] := fun t' h => getD_of h
      have k3 : ((ts.setIfInBounds 86 (.tuple #[u, .agg R.m.proc.toArray, .agg (stopL R).toArray])).setIfInBounds 78 (.tuple #[u, .agg R.m.proc.toArray, .agg (stopL R).toArray]))[78]? = some (.tuple #[u, .agg R.m.proc.toArray, .agg (stopL R).toArray]) := Array.getElem?_setIfInBounds_self_of_lt (by rw [Array.size_setIfInBounds]; exact hz2)
      refine wpAnyH_take (i := 9) (oi := { dst := some 87, op := Op.extract (Operand.tmp 78) 0, type := 22, pos := "top03.go:32", after := #[{ on := 8, ground := Ground.data }], guard := none }) (v := u) rfl (by kernel_rfl) (by kernel_rfl) (by kernel_rfl) (hQ _ _) (Or.inl ⟨by rfl, ?_⟩) hSw ?_
      · intro wq hq
        exact ext_run (k2 _ (k3)) rfl wq
      refine wpAnyH_take (i := 10) (oi := { dst := some 88, op := Op.extract (Operand.tmp 78) 1, type := 26, pos := "top03.go:32", after := #[{ on := 8, ground := Ground.data }, { on := 14, ground := Ground.gcOnly Departure.lateStores }], guard := none }) (v := .agg R.m.proc.toArray) rfl (by kernel_rfl) (by kernel_rfl) (by kernel_rfl) (hQ _ _) (Or.inl ⟨by rfl, ?_⟩) hSw ?_
      · intro wq hq
        exact ext_run (k2 _ ((set_ne (by decide) _).trans k3)) rfl wq
      refine wpAnyH_take (i := 11) (oi := { dst := some 89, op := Op.extract (Operand.tmp 78) 2, type := 32, pos := "top03.go:32", after := #[{ on := 8, ground := Ground.data }, { on := 15, ground := Ground.gcOnly Departure.lateStores }], guard := none }) (v := .agg (stopL R).toArray) rfl (by kernel_rfl) (by kernel_rfl) (by kernel_rfl) (hQ _ _) (Or.inl ⟨by rfl, ?_⟩) hSw ?_
      · intro wq hq
        exact ext_run (k2 _ ((set_ne (by decide) _).trans ((set_ne (by decide) _).trans k3))) rfl wq
      exact s311 _ _ hst'
    exact AllReadyH.nil
  have s210 : ∀ ts w, St W [79, 81, 86, 78, 87, 88, 89, 15, 16] a0.tmps 79 81 87 88 89 15 16 l R.m.pages R.m.proc.toArray (stopL R).toArray R.m.Ok 2 true false ts w → wpAnyH Tryd.prog .any rgaOps Q S 9 #[true, true, true, true, true, true, true, false, false, false, false, false, true, false, false, false, false] { a0 with tmps := ts } w := by
    intro ts w hst
    refine wpAnyH_ready (rs := [7, 13]) (by kernel_rfl) (by simp) ?_
    refine AllReadyH.cons (o := { dst := some 86, op := Op.call { callee := Callee.value (Operand.func 10), args := #[Operand.tmp 81, Operand.tmp 82, Operand.tmp 85], argTypes := #[22, 26, 3] }, type := 33, pos := "top03.go:32", after := #[{ on := 2, ground := Ground.data }, { on := 3, ground := Ground.data }, { on := 6, ground := Ground.data }, { on := 2, ground := Ground.chain }], guard := none }) rfl (fun K hK => ?_) ?_
    · refine want_none rfl ?_
      obtain ⟨v, hv, own⟩ := hst.h2 rfl
      refine wp_call3 (.tmp 81) (.tmp 82) (.tmp 85) _ rfl v (.agg P0) (.int .i64 nn) (getD_of hv) (getD_of ((hst.ag.same 82 (by decide)).trans x2)) (getD_of ((hst.ag.same 85 (by decide)).trans x3)) ((hcall w v hst.below own).mono ?_)
      rintro e w' ⟨u, rfl, ho, okR, hb⟩
      refine ⟨_, rfl, ?_⟩
      refine hK.out _ _ (hS _ (chain hst.below hb)) (fun hSw => ?_)
      have hst' := hst.call (sc := 86) (sm := 78) (x1 := .tuple #[u, .agg R.m.proc.toArray, .agg (stopL R).toArray]) (x2 := .tuple #[u, .agg R.m.proc.toArray, .agg (stopL R).toArray]) (by decide) (by omega) (by decide) (by decide) (by decide) (ho.weaken hst.below.size) okR hb
      have hz1 : 86 < ts.size := by rw [hst.ag.size]; omega
      have hz2 : 78 < ts.size := by rw [hst.ag.size]; omega
      have k1 : ({ a0 with tmps := ts.setIfInBounds 86 (.tuple #[u, .agg R.m.proc.toArray, .agg (stopL R).toArray]) } : Act).eval (.tmp 86) = .tuple #[u, .agg R.m.proc.toArray, .agg (stopL R).toArray] := getD_of (Array.getElem?_setIfInBounds_self_of_lt hz1)
      refine wpAnyH_take (i := 8) (oi := { dst := some 78, op := Op.move (Operand.tmp 86), type := 33, pos := "top03.go:32", after := #[{ on := 7, ground := Ground.data }], guard := none }) (v := .tuple #[u, .agg R.m.proc.toArray, .agg (stopL R).toArray]) rfl (by kernel_rfl) (by kernel_rfl) (by kernel_rfl) (hQ _ _) (Or.inl ⟨by rfl, ?_⟩) hSw ?_
      · intro wq hq
        exact move_run k1 wq
      have k2 : ∀ t' : Array Value, t'[78]? = some (.tuple #[u, .agg R.m.proc.toArray, .agg (stopL R).toArray]) → ({ a0 with tmps := t' } : Act).eval (.tmp 78) = .tuple #[u, .agg R.m.proc.toArray, .agg (stopL R).toArray] := fun t' h => getD_of h
      have k3 : ((ts.setIfInBounds 86 (.tuple #[u, .agg R.m.proc.toArray, .agg (stopL R).toArray])).setIfInBounds 78 (.tuple #[u, .agg R.m.proc.toArray, .agg (stopL R).toArray]))[78]? = some (.tuple #[u, .agg R.m.proc.toArray, .agg (stopL R).toArray]) := Array.getElem?_setIfInBounds_self_of_lt (by rw [Array.size_setIfInBounds]; exact hz2)
      refine wpAnyH_take (i := 9) (oi := { dst := some 87, op := Op.extract (Operand.tmp 78) 0, type := 22, pos := "top03.go:32", after := #[{ on := 8, ground := Ground.data }], guard := none }) (v := u) rfl (by kernel_rfl) (by kernel_rfl) (by kernel_rfl) (hQ _ _) (Or.inl ⟨by rfl, ?_⟩) hSw ?_
      · intro wq hq
        exact ext_run (k2 _ (k3)) rfl wq
      refine wpAnyH_take (i := 10) (oi := { dst := some 88, op := Op.extract (Operand.tmp 78) 1, type := 26, pos := "top03.go:32", after := #[{ on := 8, ground := Ground.data }, { on := 14, ground := Ground.gcOnly Departure.lateStores }], guard := none }) (v := .agg R.m.proc.toArray) rfl (by kernel_rfl) (by kernel_rfl) (by kernel_rfl) (hQ _ _) (Or.inl ⟨by rfl, ?_⟩) hSw ?_
      · intro wq hq
        exact ext_run (k2 _ ((set_ne (by decide) _).trans k3)) rfl wq
      refine wpAnyH_take (i := 11) (oi := { dst := some 89, op := Op.extract (Operand.tmp 78) 2, type := 32, pos := "top03.go:32", after := #[{ on := 8, ground := Ground.data }, { on := 15, ground := Ground.gcOnly Departure.lateStores }], guard := none }) (v := .agg (stopL R).toArray) rfl (by kernel_rfl) (by kernel_rfl) (by kernel_rfl) (hQ _ _) (Or.inl ⟨by rfl, ?_⟩) hSw ?_
      · intro wq hq
        exact ext_run (k2 _ ((set_ne (by decide) _).trans ((set_ne (by decide) _).trans k3))) rfl wq
      exact s310 _ _ hst'
    refine AllReadyH.cons (o := { dst := some 16, op := Op.alloc 32, type := 0, pos := "top03.go:32", after := #[], guard := none }) rfl (fun K hK => ?_) ?_
    · refine want_none rfl ?_
      refine wp_allocS rfl ?_
      exact hK.out _ _ (hS _ (hst.allz (by decide) (by omega) (by decide) (by decide) (by decide) (by decide) (by decide) (by decide)).below) (fun _ => s211 _ _ (hst.allz (by decide) (by omega) (by decide) (by decide) (by decide) (by decide) (by decide) (by decide)))
    exact AllReadyH.nil
  have s201 : ∀ ts w, St W [79, 81, 86, 78, 87, 88, 89, 15, 16] a0.tmps 79 81 87 88 89 15 16 l R.m.pages R.m.proc.toArray (stopL R).toArray R.m.Ok 2 false true ts w → wpAnyH Tryd.prog .any rgaOps Q S 9 #[true, true, true, true, true, true, true, false, false, false, false, false, false, true, false, false, false] { a0 with tmps := ts } w := by
    intro ts w hst
    refine wpAnyH_ready (rs := [7, 12]) (by kernel_rfl) (by simp) ?_
    refine AllReadyH.cons (o := { dst := some 86, op := Op.call { callee := Callee.value (Operand.func 10), args := #[Operand.tmp 81, Operand.tmp 82, Operand.tmp 85], argTypes := #[22, 26, 3] }, type := 33, pos := "top03.go:32", after := #[{ on := 2, ground := Ground.data }, { on := 3, ground := Ground.data }, { on := 6, ground := Ground.data }, { on := 2, ground := Ground.chain }], guard := none }) rfl (fun K hK => ?_) ?_
    · refine want_none rfl ?_
      obtain ⟨v, hv, own⟩ := hst.h2 rfl
      refine wp_call3 (.tmp 81) (.tmp 82) (.tmp 85) _ rfl v (.agg P0) (.int .i64 nn) (getD_of hv) (getD_of ((hst.ag.same 82 (by decide)).trans x2)) (getD_of ((hst.ag.same 85 (by decide)).trans x3)) ((hcall w v hst.below own).mono ?_)
      rintro e w' ⟨u, rfl, ho, okR, hb⟩
      refine ⟨_, rfl, ?_⟩
      refine hK.out _ _ (hS _ (chain hst.below hb)) (fun hSw => ?_)
      have hst' := hst.call (sc := 86) (sm := 78) (x1 := .tuple #[u, .agg R.m.proc.toArray, .agg (stopL R).toArray]) (x2 := .tuple #[u, .agg R.m.proc.toArray, .agg (stopL R).toArray]) (by decide) (by omega) (by decide) (by decide) (by decide) (ho.weaken hst.below.size) okR hb
      have hz1 : 86 < ts.size := by rw [hst.ag.size]; omega
      have hz2 : 78 < ts.size := by rw [hst.ag.size]; omega
      have k1 : ({ a0 with tmps := ts.setIfInBounds 86 (.tuple #[u, .agg R.m.proc.toArray, .agg (stopL R).toArray]) } : Act).eval (.tmp 86) = .tuple #[u, .agg R.m.proc.toArray, .agg (stopL R).toArray] := getD_of (Array.getElem?_setIfInBounds_self_of_lt hz1)
      refine wpAnyH_take (i := 8) (oi := { dst := some 78, op := Op.move (Operand.tmp 86), type := 33, pos := "top03.go:32", after := #[{ on := 7, ground := Ground.data }], guard := none }) (v := .tuple #[u, .agg R.m.proc.toArray, .agg (stopL R).toArray]) rfl (by kernel_rfl) (by kernel_rfl) (by kernel_rfl) (hQ _ _) (Or.inl ⟨by rfl, ?_⟩) hSw ?_
      · intro wq hq
        exact move_run k1 wq
      have k2 : ∀ t' : Array Value, t'[78]? = some (.tuple #[u, .agg R.m.proc.toArray, .agg (stopL R).toArray]) → ({ a0 with tmps := t' } : Act).eval (.tmp 78) = .tuple #[u, .agg R.m.proc.toArray, .agg (stopL R).toArray] := fun t' h => getD_of h
      have k3 : ((ts.setIfInBounds 86 (.tuple #[u, .agg R.m.proc.toArray, .agg (stopL R).toArray])).setIfInBounds 78 (.tuple #[u, .agg R.m.proc.toArray, .agg (stopL R).toArray]))[78]? = some (.tuple #[u, .agg R.m.proc.toArray, .agg (stopL R).toArray]) := Array.getElem?_setIfInBounds_self_of_lt (by rw [Array.size_setIfInBounds]; exact hz2)
      refine wpAnyH_take (i := 9) (oi := { dst := some 87, op := Op.extract (Operand.tmp 78) 0, type := 22, pos := "top03.go:32", after := #[{ on := 8, ground := Ground.data }], guard := none }) (v := u) rfl (by kernel_rfl) (by kernel_rfl) (by kernel_rfl) (hQ _ _) (Or.inl ⟨by rfl, ?_⟩) hSw ?_
      · intro wq hq
        exact ext_run (k2 _ (k3)) rfl wq
      refine wpAnyH_take (i := 10) (oi := { dst := some 88, op := Op.extract (Operand.tmp 78) 1, type := 26, pos := "top03.go:32", after := #[{ on := 8, ground := Ground.data }, { on := 14, ground := Ground.gcOnly Departure.lateStores }], guard := none }) (v := .agg R.m.proc.toArray) rfl (by kernel_rfl) (by kernel_rfl) (by kernel_rfl) (hQ _ _) (Or.inl ⟨by rfl, ?_⟩) hSw ?_
      · intro wq hq
        exact ext_run (k2 _ ((set_ne (by decide) _).trans k3)) rfl wq
      refine wpAnyH_take (i := 11) (oi := { dst := some 89, op := Op.extract (Operand.tmp 78) 2, type := 32, pos := "top03.go:32", after := #[{ on := 8, ground := Ground.data }, { on := 15, ground := Ground.gcOnly Departure.lateStores }], guard := none }) (v := .agg (stopL R).toArray) rfl (by kernel_rfl) (by kernel_rfl) (by kernel_rfl) (hQ _ _) (Or.inl ⟨by rfl, ?_⟩) hSw ?_
      · intro wq hq
        exact ext_run (k2 _ ((set_ne (by decide) _).trans ((set_ne (by decide) _).trans k3))) rfl wq
      exact s301 _ _ hst'
    refine AllReadyH.cons (o := { dst := some 15, op := Op.alloc 26, type := 0, pos := "top03.go:32", after := #[], guard := none }) rfl (fun K hK => ?_) ?_
    · refine want_none rfl ?_
      refine wp_allocP rfl ?_
      exact hK.out _ _ (hS _ (hst.ally (by decide) (by omega) (by decide) (by decide) (by decide) (by decide) (by decide) (by decide)).below) (fun _ => s211 _ _ (hst.ally (by decide) (by omega) (by decide) (by decide) (by decide) (by decide) (by decide) (by decide)))
    exact AllReadyH.nil
  have s200 : ∀ ts w, St W [79, 81, 86, 78, 87, 88, 89, 15, 16] a0.tmps 79 81 87 88 89 15 16 l R.m.pages R.m.proc.toArray (stopL R).toArray R.m.Ok 2 false false ts w → wpAnyH Tryd.prog .any rgaOps Q S 10 #[true, true, true, true, true, true, true, false, false, false, false, false, false, false, false, false, false] { a0 with tmps := ts } w := by
    intro ts w hst
    refine wpAnyH_ready (rs := [7, 12, 13]) (by kernel_rfl) (by simp) ?_
    refine AllReadyH.cons (o := { dst := some 86, op := Op.call { callee := Callee.value (Operand.func 10), args := #[Operand.tmp 81, Operand.tmp 82, Operand.tmp 85], argTypes := #[22, 26, 3] }, type := 33, pos := "top03.go:32", after := #[{ on := 2, ground := Ground.data }, { on := 3, ground := Ground.data }, { on := 6, ground := Ground.data }, { on := 2, ground := Ground.chain }], guard := none }) rfl (fun K hK => ?_) ?_
    · refine want_none rfl ?_
      obtain ⟨v, hv, own⟩ := hst.h2 rfl
      refine wp_call3 (.tmp 81) (.tmp 82) (.tmp 85) _ rfl v (.agg P0) (.int .i64 nn) (getD_of hv) (getD_of ((hst.ag.same 82 (by decide)).trans x2)) (getD_of ((hst.ag.same 85 (by decide)).trans x3)) ((hcall w v hst.below own).mono ?_)
      rintro e w' ⟨u, rfl, ho, okR, hb⟩
      refine ⟨_, rfl, ?_⟩
      refine hK.out _ _ (hS _ (chain hst.below hb)) (fun hSw => ?_)
      have hst' := hst.call (sc := 86) (sm := 78) (x1 := .tuple #[u, .agg R.m.proc.toArray, .agg (stopL R).toArray]) (x2 := .tuple #[u, .agg R.m.proc.toArray, .agg (stopL R).toArray]) (by decide) (by omega) (by decide) (by decide) (by decide) (ho.weaken hst.below.size) okR hb
      have hz1 : 86 < ts.size := by rw [hst.ag.size]; omega
      have hz2 : 78 < ts.size := by rw [hst.ag.size]; omega
      have k1 : ({ a0 with tmps := ts.setIfInBounds 86 (.tuple #[u, .agg R.m.proc.toArray, .agg (stopL R).toArray]) } : Act).eval (.tmp 86) = .tuple #[u, .agg R.m.proc.toArray, .agg (stopL R).toArray] := getD_of (Array.getElem?_setIfInBounds_self_of_lt hz1)
      refine wpAnyH_take (i := 8) (oi := { dst := some 78, op := Op.move (Operand.tmp 86), type := 33, pos := "top03.go:32", after := #[{ on := 7, ground := Ground.data }], guard := none }) (v := .tuple #[u, .agg R.m.proc.toArray, .agg (stopL R).toArray]) rfl (by kernel_rfl) (by kernel_rfl) (by kernel_rfl) (hQ _ _) (Or.inl ⟨by rfl, ?_⟩) hSw ?_
      · intro wq hq
        exact move_run k1 wq
      have k2 : ∀ t' : Array Value, t'[78]? = some (.tuple #[u, .agg R.m.proc.toArray, .agg (stopL R).toArray]) → ({ a0 with tmps := t' } : Act).eval (.tmp 78) = .tuple #[u, .agg R.m.proc.toArray, .agg (stopL R).toArray] := fun t' h => getD_of h
      have k3 : ((ts.setIfInBounds 86 (.tuple #[u, .agg R.m.proc.toArray, .agg (stopL R).toArray])).setIfInBounds 78 (.tuple #[u, .agg R.m.proc.toArray, .agg (stopL R).toArray]))[78]? = some (.tuple #[u, .agg R.m.proc.toArray, .agg (stopL R).toArray]) := Array.getElem?_setIfInBounds_self_of_lt (by rw [Array.size_setIfInBounds]; exact hz2)
      refine wpAnyH_take (i := 9) (oi := { dst := some 87, op := Op.extract (Operand.tmp 78) 0, type := 22, pos := "top03.go:32", after := #[{ on := 8, ground := Ground.data }], guard := none }) (v := u) rfl (by kernel_rfl) (by kernel_rfl) (by kernel_rfl) (hQ _ _) (Or.inl ⟨by rfl, ?_⟩) hSw ?_
      · intro wq hq
        exact ext_run (k2 _ (k3)) rfl wq
      refine wpAnyH_take (i := 10) (oi := { dst := some 88, op := Op.extract (Operand.tmp 78) 1, type := 26, pos := "top03.go:32", after := #[{ on := 8, ground := Ground.data }, { on := 14, ground := Ground.gcOnly Departure.lateStores }], guard := none }) (v := .agg R.m.proc.toArray) rfl (by kernel_rfl) (by kernel_rfl) (by kernel_rfl) (hQ _ _) (Or.inl ⟨by rfl, ?_⟩) hSw ?_
      · intro wq hq
        exact ext_run (k2 _ ((set_ne (by decide) _).trans k3)) rfl wq
      refine wpAnyH_take (i := 11) (oi := { dst := some 89, op := Op.extract (Operand.tmp 78) 2, type := 32, pos := "top03.go:32", after := #[{ on := 8, ground := Ground.data }, { on := 15, ground := Ground.gcOnly Departure.lateStores }], guard := none }) (v := .agg (stopL R).toArray) rfl (by kernel_rfl) (by kernel_rfl) (by kernel_rfl) (hQ _ _) (Or.inl ⟨by rfl, ?_⟩) hSw ?_
      · intro wq hq
        exact ext_run (k2 _ ((set_ne (by decide) _).trans ((set_ne (by decide) _).trans k3))) rfl wq
      exact s300 _ _ hst'
    refine AllReadyH.cons (o := { dst := some 15, op := Op.alloc 26, type := 0, pos := "top03.go:32", after := #[], guard := none }) rfl (fun K hK => ?_) ?_
    · refine want_none rfl ?_
      refine wp_allocP rfl ?_
      exact hK.out _ _ (hS _ (hst.ally (by decide) (by omega) (by decide) (by decide) (by decide) (by decide) (by decide) (by decide)).below) (fun _ => s210 _ _ (hst.ally (by decide) (by omega) (by decide) (by decide) (by decide) (by decide) (by decide) (by decide)))
    refine AllReadyH.cons (o := { dst := some 16, op := Op.alloc 32, type := 0, pos := "top03.go:32", after := #[], guard := none }) rfl (fun K hK => ?_) ?_
    · refine want_none rfl ?_
      refine wp_allocS rfl ?_
      exact hK.out _ _ (hS _ (hst.allz (by decide) (by omega) (by decide) (by decide) (by decide) (by decide) (by decide) (by decide)).below) (fun _ => s201 _ _ (hst.allz (by decide) (by omega) (by decide) (by decide) (by decide) (by decide) (by decide) (by decide)))
    exact AllReadyH.nil
  have s111 : ∀ ts w, St W [79, 81, 86, 78, 87, 88, 89, 15, 16] a0.tmps 79 81 87 88 89 15 16 l R.m.pages R.m.proc.toArray (stopL R).toArray R.m.Ok 1 true true ts w → wpAnyH Tryd.prog .any rgaOps Q S 9 #[true, true, false, true, true, true, true, false, false, false, false, false, true, true, false, false, false] { a0 with tmps := ts } w := by
    intro ts w hst
    refine wpAnyH_ready (rs := [2]) (by kernel_rfl) (by simp) ?_
    refine AllReadyH.cons (o := { dst := some 81, op := Op.call { callee := Callee.builtin Builtin.append, args := #[Operand.tmp 79, Operand.tmp 80], argTypes := #[22, 22] }, type := 22, pos := "top03.go:32", after := #[{ on := 0, ground := Ground.data }, { on := 1, ground := Ground.data }], guard := none }) rfl (fun K hK => ?_) ?_
    · refine want_none rfl ?_
      obtain ⟨v, hv, own⟩ := hst.h1 rfl
      refine wp_append_row (.tmp 79) (.tmp 80) 22 47 rfl Tryd.underlying22 infoPage (by decide) W.heap.size v 0 [] (getD_of hv) own pa pn pc (flat l) (getD_of ((hst.ag.same 80 (by decide)).trans x1)) (hrow.below hst.below) (flat_one l) (by unfold maxLen; omega) (by omega) hst.below.size ?_
      intro v' w' ho' hg
      rw [List.nil_append, Nat.zero_add] at ho'
      have hPO : POwn w' W.heap.size v' l := by unfold POwn; rw [hp.size]; exact ho'
      have hst' := hst.app (by decide) (by omega) (by decide) (by decide) own hPO hg
      exact hK.out _ _ (hS _ hst'.below) (fun _ => s211 _ _ hst')
    exact AllReadyH.nil
  have s110 : ∀ ts w, St W [79, 81, 86, 78, 87, 88, 89, 15, 16] a0.tmps 79 81 87 88 89 15 16 l R.m.pages R.m.proc.toArray (stopL R).toArray R.m.Ok 1 true false ts w → wpAnyH Tryd.prog .any rgaOps Q S 10 #[true, true, false, true, true, true, true, false, false, false, false, false, true, false, false, false, false] { a0 with tmps := ts } w := by
    intro ts w hst
    refine wpAnyH_ready (rs := [2, 13]) (by kernel_rfl) (by simp) ?_
    refine AllReadyH.cons (o := { dst := some 81, op := Op.call { callee := Callee.builtin Builtin.append, args := #[Operand.tmp 79, Operand.tmp 80], argTypes := #[22, 22] }, type := 22, pos := "top03.go:32", after := #[{ on := 0, ground := Ground.data }, { on := 1, ground := Ground.data }], guard := none }) rfl (fun K hK => ?_) ?_
    · refine want_none rfl ?_
      obtain ⟨v, hv, own⟩ := hst.h1 rfl
      refine wp_append_row (.tmp 79) (.tmp 80) 22 47 rfl Tryd.underlying22 infoPage (by decide) W.heap.size v 0 [] (getD_of hv) own pa pn pc (flat l) (getD_of ((hst.ag.same 80 (by decide)).trans x1)) (hrow.below hst.below) (flat_one l) (by unfold maxLen; omega) (by omega) hst.below.size ?_
      intro v' w' ho' hg
      rw [List.nil_append, Nat.zero_add] at ho'
      have hPO : POwn w' W.heap.size v' l := by unfold POwn; rw [hp.size]; exact ho'
      have hst' := hst.app (by decide) (by omega) (by decide) (by decide) own hPO hg
      exact hK.out _ _ (hS _ hst'.below) (fun _ => s210 _ _ hst')
    refine AllReadyH.cons (o := { dst := some 16, op := Op.alloc 32, type := 0, pos := "top03.go:32", after := #[], guard := none }) rfl (fun K hK => ?_) ?_
    · refine want_none rfl ?_
      refine wp_allocS rfl ?_
      exact hK.out _ _ (hS _ (hst.allz (by decide) (by omega) (by decide) (by decide) (by decide) (by decide) (by decide) (by decide)).below) (fun _ => s111 _ _ (hst.allz (by decide) (by omega) (by decide) (by decide) (by decide) (by decide) (by decide) (by decide)))
    exact AllReadyH.nil
  have s101 : ∀ ts w, St W [79, 81, 86, 78, 87, 88, 89, 15, 16] a0.tmps 79 81 87 88 89 15 16 l R.m.pages R.m.proc.toArray (stopL R).toArray R.m.Ok 1 false true ts w → wpAnyH Tryd.prog .any rgaOps Q S 10 #[true, true, false, true, true, true, true, false, false, false, false, false, false, true, false, false, false] { a0 with tmps := ts } w := by
    intro ts w hst
    refine wpAnyH_ready (rs := [2, 12]) (by kernel_rfl) (by simp) ?_
    refine AllReadyH.cons (o := { dst := some 81, op := Op.call { callee := Callee.builtin Builtin.append, args := #[Operand.tmp 79, Operand.tmp 80], argTypes := #[22, 22] }, type := 22, pos := "top03.go:32", after := #[{ on := 0, ground := Ground.data }, { on := 1, ground := Ground.data }], guard := none }) rfl (fun K hK => ?_) ?_
    · refine want_none rfl ?_
      obtain ⟨v, hv, own⟩ := hst.h1 rfl
      refine wp_append_row (.tmp 79) (.tmp 80) 22 47 rfl Tryd.underlying22 infoPage (by decide) W.heap.size v 0 [] (getD_of hv) own pa pn pc (flat l) (getD_of ((hst.ag.same 80 (by decide)).trans x1)) (hrow.below hst.below) (flat_one l) (by unfold maxLen; omega) (by omega) hst.below.size ?_
      intro v' w' ho' hg
      rw [List.nil_append, Nat.zero_add] at ho'
      have hPO : POwn w' W.heap.size v' l := by unfold POwn; rw [hp.size]; exact ho'
      have hst' := hst.app (by decide) (by omega) (by decide) (by decide) own hPO hg
      exact hK.out _ _ (hS _ hst'.below) (fun _ => s201 _ _ hst')
    refine AllReadyH.cons (o := { dst := some 15, op := Op.alloc 26, type := 0, pos := "top03.go:32", after := #[], guard := none }) rfl (fun K hK => ?_) ?_
    · refine want_none rfl ?_
      refine wp_allocP rfl ?_
      exact hK.out _ _ (hS _ (hst.ally (by decide) (by omega) (by decide) (by decide) (by decide) (by decide) (by decide) (by decide)).below) (fun _ => s111 _ _ (hst.ally (by decide) (by omega) (by decide) (by decide) (by decide) (by decide) (by decide) (by decide)))
    exact AllReadyH.nil
  have s100 : ∀ ts w, St W [79, 81, 86, 78, 87, 88, 89, 15, 16] a0.tmps 79 81 87 88 89 15 16 l R.m.pages R.m.proc.toArray (stopL R).toArray R.m.Ok 1 false false ts w → wpAnyH Tryd.prog .any rgaOps Q S 11 #[true, true, false, true, true, true, true, false, false, false, false, false, false, false, false, false, false] { a0 with tmps := ts } w := by
    intro ts w hst
    refine wpAnyH_ready (rs := [2, 12, 13]) (by kernel_rfl) (by simp) ?_
    refine AllReadyH.cons (o := { dst := some 81, op := Op.call { callee := Callee.builtin Builtin.append, args := #[Operand.tmp 79, Operand.tmp 80], argTypes := #[22, 22] }, type := 22, pos := "top03.go:32", after := #[{ on := 0, ground := Ground.data }, { on := 1, ground := Ground.data }], guard := none }) rfl (fun K hK => ?_) ?_
    · refine want_none rfl ?_
      obtain ⟨v, hv, own⟩ := hst.h1 rfl
      refine wp_append_row (.tmp 79) (.tmp 80) 22 47 rfl Tryd.underlying22 infoPage (by decide) W.heap.size v 0 [] (getD_of hv) own pa pn pc (flat l) (getD_of ((hst.ag.same 80 (by decide)).trans x1)) (hrow.below hst.below) (flat_one l) (by unfold maxLen; omega) (by omega) hst.below.size ?_
      intro v' w' ho' hg
      rw [List.nil_append, Nat.zero_add] at ho'
      have hPO : POwn w' W.heap.size v' l := by unfold POwn; rw [hp.size]; exact ho'
      have hst' := hst.app (by decide) (by omega) (by decide) (by decide) own hPO hg
      exact hK.out _ _ (hS _ hst'.below) (fun _ => s200 _ _ hst')
    refine AllReadyH.cons (o := { dst := some 15, op := Op.alloc 26, type := 0, pos := "top03.go:32", after := #[], guard := none }) rfl (fun K hK => ?_) ?_
    · refine want_none rfl ?_
      refine wp_allocP rfl ?_
      exact hK.out _ _ (hS _ (hst.ally (by decide) (by omega) (by decide) (by decide) (by decide) (by decide) (by decide) (by decide)).below) (fun _ => s110 _ _ (hst.ally (by decide) (by omega) (by decide) (by decide) (by decide) (by decide) (by decide) (by decide)))
    refine AllReadyH.cons (o := { dst := some 16, op := Op.alloc 32, type := 0, pos := "top03.go:32", after := #[], guard := none }) rfl (fun K hK => ?_) ?_
    · refine want_none rfl ?_
      refine wp_allocS rfl ?_
      exact hK.out _ _ (hS _ (hst.allz (by decide) (by omega) (by decide) (by decide) (by decide) (by decide) (by decide) (by decide)).below) (fun _ => s101 _ _ (hst.allz (by decide) (by omega) (by decide) (by decide) (by decide) (by decide) (by decide) (by decide)))
    exact AllReadyH.nil
  have s011 : ∀ ts w, St W [79, 81, 86, 78, 87, 88, 89, 15, 16] a0.tmps 79 81 87 88 89 15 16 l R.m.pages R.m.proc.toArray (stopL R).toArray R.m.Ok 0 true true ts w → wpAnyH Tryd.prog .any rgaOps Q S 10 #[false, true, false, true, true, true, true, false, false, false, false, false, true, true, false, false, false] { a0 with tmps := ts } w := by
    intro ts w hst
    refine wpAnyH_ready (rs := [0]) (by kernel_rfl) (by simp) ?_
    refine AllReadyH.cons (o := { dst := some 79, op := Op.buildSlice 22 0 #[], type := 22, pos := "top03.go:32", after := #[], guard := none }) rfl (fun K hK => ?_) ?_
    · refine want_none rfl ?_
      refine wp_empty 22 47 rfl Tryd.underlying22 infoPage (by decide) ?_
      exact hK.out _ _ (hS _ (hst.build (by decide) (by omega) (by decide) (by decide)).below) (fun _ => s111 _ _ (hst.build (by decide) (by omega) (by decide) (by decide)))
    exact AllReadyH.nil
  have s010 : ∀ ts w, St W [79, 81, 86, 78, 87, 88, 89, 15, 16] a0.tmps 79 81 87 88 89 15 16 l R.m.pages R.m.proc.toArray (stopL R).toArray R.m.Ok 0 true false ts w → wpAnyH Tryd.prog .any rgaOps Q S 11 #[false, true, false, true, true, true, true, false, false, false, false, false, true, false, false, false, false] { a0 with tmps := ts } w := by
    intro ts w hst
    refine wpAnyH_ready (rs := [0, 13]) (by kernel_rfl) (by simp) ?_
    refine AllReadyH.cons (o := { dst := some 79, op := Op.buildSlice 22 0 #[], type := 22, pos := "top03.go:32", after := #[], guard := none }) rfl (fun K hK => ?_) ?_
    · refine want_none rfl ?_
      refine wp_empty 22 47 rfl Tryd.underlying22 infoPage (by decide) ?_
      exact hK.out _ _ (hS _ (hst.build (by decide) (by omega) (by decide) (by decide)).below) (fun _ => s110 _ _ (hst.build (by decide) (by omega) (by decide) (by decide)))
    refine AllReadyH.cons (o := { dst := some 16, op := Op.alloc 32, type := 0, pos := "top03.go:32", after := #[], guard := none }) rfl (fun K hK => ?_) ?_
    · refine want_none rfl ?_
      refine wp_allocS rfl ?_
      exact hK.out _ _ (hS _ (hst.allz (by decide) (by omega) (by decide) (by decide) (by decide) (by decide) (by decide) (by decide)).below) (fun _ => s011 _ _ (hst.allz (by decide) (by omega) (by decide) (by decide) (by decide) (by decide) (by decide) (by decide)))
    exact AllReadyH.nil
  have s001 : ∀ ts w, St W [79, 81, 86, 78, 87, 88, 89, 15, 16] a0.tmps 79 81 87 88 89 15 16 l R.m.pages R.m.proc.toArray (stopL R).toArray R.m.Ok 0 false true ts w → wpAnyH Tryd.prog .any rgaOps Q S 11 #[false, true, false, true, true, true, true, false, false, false, false, false, false, true, false, false, false] { a0 with tmps := ts } w := by
    intro ts w hst
    refine wpAnyH_ready (rs := [0, 12]) (by kernel_rfl) (by simp) ?_
    refine AllReadyH.cons (o := { dst := some 79, op := Op.buildSlice 22 0 #[], type := 22, pos := "top03.go:32", after := #[], guard := none }) rfl (fun K hK => ?_) ?_
    · refine want_none rfl ?_
      refine wp_empty 22 47 rfl Tryd.underlying22 infoPage (by decide) ?_
      exact hK.out _ _ (hS _ (hst.build (by decide) (by omega) (by decide) (by decide)).below) (fun _ => s101 _ _ (hst.build (by decide) (by omega) (by decide) (by decide)))
    refine AllReadyH.cons (o := { dst := some 15, op := Op.alloc 26, type := 0, pos := "top03.go:32", after := #[], guard := none }) rfl (fun K hK => ?_) ?_
    · refine want_none rfl ?_
      refine wp_allocP rfl ?_
      exact hK.out _ _ (hS _ (hst.ally (by decide) (by omega) (by decide) (by decide) (by decide) (by decide) (by decide) (by decide)).below) (fun _ => s011 _ _ (hst.ally (by decide) (by omega) (by decide) (by decide) (by decide) (by decide) (by decide) (by decide)))
    exact AllReadyH.nil
  have s000 : ∀ ts w, St W [79, 81, 86, 78, 87, 88, 89, 15, 16] a0.tmps 79 81 87 88 89 15 16 l R.m.pages R.m.proc.toArray (stopL R).toArray R.m.Ok 0 false false ts w → wpAnyH Tryd.prog .any rgaOps Q S 12 #[false, true, false, true, true, true, true, false, false, false, false, false, false, false, false, false, false] { a0 with tmps := ts } w := by
    intro ts w hst
    refine wpAnyH_ready (rs := [0, 12, 13]) (by kernel_rfl) (by simp) ?_
    refine AllReadyH.cons (o := { dst := some 79, op := Op.buildSlice 22 0 #[], type := 22, pos := "top03.go:32", after := #[], guard := none }) rfl (fun K hK => ?_) ?_
    · refine want_none rfl ?_
      refine wp_empty 22 47 rfl Tryd.underlying22 infoPage (by decide) ?_
      exact hK.out _ _ (hS _ (hst.build (by decide) (by omega) (by decide) (by decide)).below) (fun _ => s100 _ _ (hst.build (by decide) (by omega) (by decide) (by decide)))
    refine AllReadyH.cons (o := { dst := some 15, op := Op.alloc 26, type := 0, pos := "top03.go:32", after := #[], guard := none }) rfl (fun K hK => ?_) ?_
    · refine want_none rfl ?_
      refine wp_allocP rfl ?_
      exact hK.out _ _ (hS _ (hst.ally (by decide) (by omega) (by decide) (by decide) (by decide) (by decide) (by decide) (by decide)).below) (fun _ => s010 _ _ (hst.ally (by decide) (by omega) (by decide) (by decide) (by decide) (by decide) (by decide) (by decide)))
    refine AllReadyH.cons (o := { dst := some 16, op := Op.alloc 32, type := 0, pos := "top03.go:32", after := #[], guard := none }) rfl (fun K hK => ?_) ?_
    · refine want_none rfl ?_
      refine wp_allocS rfl ?_
      exact hK.out _ _ (hS _ (hst.allz (by decide) (by omega) (by decide) (by decide) (by decide) (by decide) (by decide) (by decide)).below) (fun _ => s001 _ _ (hst.allz (by decide) (by omega) (by decide) (by decide) (by decide) (by decide) (by decide) (by decide)))
    exact AllReadyH.nil
  exact s000 a0.tmps W ⟨ag_refl _ _, Below.refl _ _, fun e => by omega, fun e => by omega, fun e => by omega, fun e => by simp at e, fun e => by simp at e⟩
def rgbOps : Array Oper := #[{ dst := some 91, op := Op.buildSlice 22 0 #[], type := 22, pos := "top03.go:33", after := #[], guard := none }, { dst := some 92, op := Op.move (Operand.tmp 12), type := 22, pos := "top03.go:33", after := #[], guard := none }, { dst := some 93, op := Op.call { callee := Callee.builtin Builtin.append, args := #[Operand.tmp 91, Operand.tmp 92], argTypes := #[22, 22] }, type := 22, pos := "top03.go:33", after := #[{ on := 0, ground := Ground.data }, { on := 1, ground := Ground.data }], guard := none }, { dst := some 94, op := Op.load 26 (Operand.tmp 4), type := 26, pos := "top03.go:33", after := #[], guard := none }, { dst := some 95, op := Op.move (Operand.tmp 5), type := 3, pos := "top03.go:33", after := #[], guard := none }, { dst := some 96, op := Op.call { callee := Callee.value (Operand.func 10), args := #[Operand.tmp 93, Operand.tmp 94, Operand.tmp 95], argTypes := #[22, 26, 3] }, type := 33, pos := "top03.go:33", after := #[{ on := 2, ground := Ground.data }, { on := 3, ground := Ground.data }, { on := 4, ground := Ground.data }, { on := 2, ground := Ground.chain }], guard := none }, { dst := some 90, op := Op.move (Operand.tmp 96), type := 33, pos := "top03.go:33", after := #[{ on := 5, ground := Ground.data }], guard := none }, { dst := some 97, op := Op.extract (Operand.tmp 90) 0, type := 22, pos := "top03.go:33", after := #[{ on := 6, ground := Ground.data }], guard := none }, { dst := some 98, op := Op.extract (Operand.tmp 90) 1, type := 26, pos := "top03.go:33", after := #[{ on := 6, ground := Ground.data }, { on := 11, ground := Ground.gcOnly Departure.lateStores }], guard := none }, { dst := some 99, op := Op.extract (Operand.tmp 90) 2, type := 32, pos := "top03.go:33", after := #[{ on := 6, ground := Ground.data }, { on := 12, ground := Ground.gcOnly Departure.lateStores }], guard := none }, { dst := some 18, op := Op.alloc 32, type := 0, pos := "top03.go:33", after := #[], guard := none }, { dst := some 17, op := Op.assign (Operand.tmp 97), type := 22, pos := "top03.go:33", after := #[{ on := 7, ground := Ground.data }, { on := 5, ground := Ground.chain }, { on := 0, ground := Ground.phase }, { on := 1, ground := Ground.phase }, { on := 2, ground := Ground.phase }, { on := 3, ground := Ground.phase }, { on := 4, ground := Ground.phase }, { on := 5, ground := Ground.phase }, { on := 6, ground := Ground.phase }, { on := 7, ground := Ground.phase }, { on := 8, ground := Ground.textOnly Departure.lateStores }, { on := 9, ground := Ground.textOnly Departure.lateStores }, { on := 10, ground := Ground.phase }], guard := none }, { dst := none, op := Op.store 26 (Operand.tmp 10) (Operand.tmp 98), type := 0, pos := "top03.go:33", after := #[{ on := 8, ground := Ground.data }, { on := 11, ground := Ground.chain }, { on := 0, ground := Ground.phase }, { on := 1, ground := Ground.phase }, { on := 2, ground := Ground.phase }, { on := 3, ground := Ground.phase }, { on := 4, ground := Ground.phase }, { on := 5, ground := Ground.phase }, { on := 6, ground := Ground.phase }, { on := 7, ground := Ground.phase }, { on := 8, ground := Ground.phase }, { on := 9, ground := Ground.textOnly Departure.lateStores }, { on := 10, ground := Ground.phase }, { on := 11, ground := Ground.phase }], guard := none }, { dst := none, op := Op.store 32 (Operand.tmp 18) (Operand.tmp 99), type := 0, pos := "top03.go:33", after := #[{ on := 10, ground := Ground.data }, { on := 9, ground := Ground.data }, { on := 12, ground := Ground.chain }, { on := 0, ground := Ground.phase }, { on := 1, ground := Ground.phase }, { on := 2, ground := Ground.phase }, { on := 3, ground := Ground.phase }, { on := 4, ground := Ground.phase }, { on := 5, ground := Ground.phase }, { on := 6, ground := Ground.phase }, { on := 7, ground := Ground.phase }, { on := 8, ground := Ground.phase }, { on := 9, ground := Ground.phase }, { on := 10, ground := Ground.phase }, { on := 11, ground := Ground.phase }, { on := 12, ground := Ground.phase }], guard := none }]
set_option maxRecDepth 100000 in
set_option maxHeartbeats 4000000 in
theorem rgb {Q : Exit → Act → World → Prop} {S : World → Prop} {a0 : Act} {W : World} (pa : Option Addr) (pn pc : Nat) (l : List Pg) (hp : Pgs W pa pn pc l) (R : Rn) (P0 : Array Value) (nn : Int)
    (hsz : 99 < a0.tmps.size) (x1 : a0.tmps[92]? = some (.slice pa pn pc)) (x2 : a0.tmps[94]? = some (.agg P0)) (x3 : a0.tmps[95]? = some (.int .i64 nn))
    (hcall : ∀ w' v, Below W.heap.size W w' → POwn w' W.heap.size v l → Calls Tryd.prog 10 #[v, .agg P0, .int .i64 nn] w' fun e w'' => ∃ u, e = .returned (.tuple #[u, .agg R.m.proc.toArray, .agg (stopL R).toArray]) ∧ POwn w'' w'.heap.size u R.m.pages ∧ R.m.Ok ∧ Below w'.heap.size w' w'')
    (hS : ∀ w', Below W.heap.size W w' → S w') (hQ : ∀ (d : Nat) v c a w, Q (.panic c) (Act.put a (some d) v) w → Q (.panic c) a w)
    (h : ∀ ub ua uc um v gz w, POwn w W.heap.size v R.m.pages → R.m.Ok → (W.heap.size ≤ gz ∧ w.heap[gz]? = some (.cells zS 32)) → Below W.heap.size W w → S w → wpAnyH Tryd.prog .any rgbOps Q S 3 #[true, true, true, true, true, true, true, true, true, true, true, false, false, false] ((((((((a0.put (some 91) ub).put (some 93) ua).put (some 96) uc).put (some 90) um).put (some 97) v).put (some 98) (.agg R.m.proc.toArray)).put (some 99) (.agg (stopL R).toArray)).put (some 18) (.pointer (some ⟨gz, 0, none⟩))) w) :
    wpAnyH Tryd.prog .any rgbOps Q S 11 #[false, true, false, true, true, false, false, false, false, false, false, false, false, false] a0 W := by
  have hm := hp.most
  have hrow := pgs_row hp
  have s301 : ∀ ts w, St W [91, 93, 96, 90, 97, 98, 99, 18] a0.tmps 91 93 97 98 99 4 18 l R.m.pages R.m.proc.toArray (stopL R).toArray R.m.Ok 3 false true ts w → wpAnyH Tryd.prog .any rgbOps Q S 3 #[true, true, true, true, true, true, true, true, true, true, true, false, false, false] { a0 with tmps := ts } w := by
    intro ts w hst
    obtain ⟨v, k0, k1, k2, ho, okR⟩ := hst.h3 rfl
    obtain ⟨gz, kz, hgz, hzh⟩ := hst.hz rfl
    have g := ((((((((hst.ag.step (by (try simp only [Array.size_setIfInBounds]); omega)).step (by (try simp only [Array.size_setIfInBounds]); omega)).step (by (try simp only [Array.size_setIfInBounds]); omega)).step (by (try simp only [Array.size_setIfInBounds]); omega)).step (by (try simp only [Array.size_setIfInBounds]); omega)).step (by (try simp only [Array.size_setIfInBounds]); omega)).step (by (try simp only [Array.size_setIfInBounds]); omega)).step (by (try simp only [Array.size_setIfInBounds]); omega))
    rw [getD_of k0, getD_of k1, getD_of k2, getD_of kz] at g
    have he9 : ({ a0 with tmps := ts } : Act) = ((((((((a0.put (some 91) (ts.getD 91 undef)).put (some 93) (ts.getD 93 undef)).put (some 96) (ts.getD 96 undef)).put (some 90) (ts.getD 90 undef)).put (some 97) v).put (some 98) (.agg R.m.proc.toArray)).put (some 99) (.agg (stopL R).toArray)).put (some 18) (.pointer (some ⟨gz, 0, none⟩))) := by
      simp only [Act.put, Act.mk.injEq, and_true]
      exact g.eq
    rw [he9]
    exact h _ _ _ _ v gz w ho okR ⟨hgz, hzh⟩ hst.below (hS w hst.below)
  have s300 : ∀ ts w, St W [91, 93, 96, 90, 97, 98, 99, 18] a0.tmps 91 93 97 98 99 4 18 l R.m.pages R.m.proc.toArray (stopL R).toArray R.m.Ok 3 false false ts w → wpAnyH Tryd.prog .any rgbOps Q S 4 #[true, true, true, true, true, true, true, true, true, true, false, false, false, false] { a0 with tmps := ts } w := by
    intro ts w hst
    refine wpAnyH_ready (rs := [10]) (by kernel_rfl) (by simp) ?_
    refine AllReadyH.cons (o := { dst := some 18, op := Op.alloc 32, type := 0, pos := "top03.go:33", after := #[], guard := none }) rfl (fun K hK => ?_) ?_
    · refine want_none rfl ?_
      refine wp_allocS rfl ?_
      exact hK.out _ _ (hS _ (hst.allz (by decide) (by omega) (by decide) (by decide) (by decide) (by decide) (by decide) (by decide)).below) (fun _ => s301 _ _ (hst.allz (by decide) (by omega) (by decide) (by decide) (by decide) (by decide) (by decide) (by decide)))
    exact AllReadyH.nil
  have s201 : ∀ ts w, St W [91, 93, 96, 90, 97, 98, 99, 18] a0.tmps 91 93 97 98 99 4 18 l R.m.pages R.m.proc.toArray (stopL R).toArray R.m.Ok 2 false true ts w → wpAnyH Tryd.prog .any rgbOps Q S 8 #[true, true, true, true, true, false, false, false, false, false, true, false, false, false] { a0 with tmps := ts } w := by
    intro ts w hst
    refine wpAnyH_ready (rs := [5]) (by kernel_rfl) (by simp) ?_
    refine AllReadyH.cons (o := { dst := some 96, op := Op.call { callee := Callee.value (Operand.func 10), args := #[Operand.tmp 93, Operand.tmp 94, Operand.tmp 95], argTypes := #[22, 26, 3] }, type := 33, pos := "top03.go:33", after := #[{ on := 2, ground := Ground.data }, { on := 3, ground := Ground.data }, { on := 4, ground := Ground.data }, { on := 2, ground := Ground.chain }], guard := none }) rfl (fun K hK => ?_) ?_
    · refine want_none rfl ?_
      obtain ⟨v, hv, own⟩ := hst.h2 rfl
      refine wp_call3 (.tmp 93) (.tmp 94) (.tmp 95) _ rfl v (.agg P0) (.int .i64 nn) (getD_of hv) (getD_of ((hst.ag.same 94 (by decide)).trans x2)) (getD_of ((hst.ag.same 95 (by decide)).trans x3)) ((hcall w v hst.below own).mono ?_)
      rintro e w' ⟨u, rfl, ho, okR, hb⟩
      refine ⟨_, rfl, ?_⟩
      refine hK.out _ _ (hS _ (chain hst.below hb)) (fun hSw => ?_)
      have hst' := hst.call (sc := 96) (sm := 90) (x1 := .tuple #[u, .agg R.m.proc.toArray, .agg (stopL R).toArray]) (x2 := .tuple #[u, .agg R.m.proc.toArray, .agg (stopL R).toArray]) (by decide) (by omega) (by decide) (by decide) (by decide) (ho.weaken hst.below.size) okR hb
      have hz1 : 96 < ts.size := by rw [hst.ag.size]; omega
      have hz2 : 90 < ts.size := by rw [hst.ag.size]; omega
      have k1 : ({ a0 with tmps := ts.setIfInBounds 96 (.tuple #[u, .agg R.m.proc.toArray, .agg (stopL R).toArray]) } : Act).eval (.tmp 96) = .tuple #[u, .agg R.m.proc.toArray, .agg (stopL R).toArray] := getD_of (Array.getElem?_setIfInBounds_self_of_lt hz1)
      refine wpAnyH_take (i := 6) (oi := { dst := some 90, op := Op.move (Operand.tmp 96), type := 33, pos := "top03.go:33", after := #[{ on := 5, ground := Ground.data }], guard := none }) (v := .tuple #[u, .agg R.m.proc.toArray, .agg (stopL R).toArray]) rfl (by kernel_rfl) (by kernel_rfl) (by kernel_rfl) (hQ _ _) (Or.inl ⟨by rfl, ?_⟩) hSw ?_
      · intro wq hq
        exact move_run k1 wq
      have k2 : ∀ t' : Array Value, t'[90]? = some (.tuple #[u, .agg R.m.proc.toArray, .agg (stopL R).toArray]) → ({ a0 with tmps := t' } : Act).eval (.tmp 90) = .tuple #[u, .agg R.m.proc.toArray, .agg (stopL R).toArray] := fun t' h => getD_of h
      have k3 : ((ts.setIfInBounds 96 (.tuple #[u, .agg R.m.proc.toArray, .agg (stopL R).toArray])).setIfInBounds 90 (.tuple #[u, .agg R.m.proc.toArray, .agg (stopL R).toArray]))[90]? = some (.tuple #[u, .agg R.m.proc.toArray, .agg (stopL R).toArray]) := Array.getElem?_setIfInBounds_self_of_lt (by rw [Array.size_setIfInBounds]; exact hz2)
      refine wpAnyH_take (i := 7) (oi := { dst := some 97, op := Op.extract (Operand.tmp 90) 0, type := 22, pos := "top03.go:33", after := #[{ on := 6, ground := Ground.data }], guard := none }) (v := u) rfl (by kernel_rfl) (by kernel_rfl) (by kernel_rfl) (hQ _ _) (Or.inl ⟨by rfl, ?_⟩) hSw ?_
      · intro wq hq
        exact ext_run (k2 _ (k3)) rfl wq
      refine wpAnyH_take (i := 8) (oi := { dst := some 98, op := Op.extract (Operand.tmp 90) 1, type := 26, pos := "top03.go:33", after := #[{ on := 6, ground := Ground.data }, { on := 11, ground := Ground.gcOnly Departure.lateStores }], guard := none }) (v := .agg R.m.proc.toArray) rfl (by kernel_rfl) (by kernel_rfl) (by kernel_rfl) (hQ _ _) (Or.inl ⟨by rfl, ?_⟩) hSw ?_
      · intro wq hq
        exact ext_run (k2 _ ((set_ne (by decide) _).trans k3)) rfl wq
      refine wpAnyH_take (i := 9) (oi := { dst := some 99, op := Op.extract (Operand.tmp 90) 2, type := 32, pos := "top03.go:33", after := #[{ on := 6, ground := Ground.data }, { on := 12, ground := Ground.gcOnly Departure.lateStores }], guard := none }) (v := .agg (stopL R).toArray) rfl (by kernel_rfl) (by kernel_rfl) (by kernel_rfl) (hQ _ _) (Or.inl ⟨by rfl, ?_⟩) hSw ?_
      · intro wq hq
        exact ext_run (k2 _ ((set_ne (by decide) _).trans ((set_ne (by decide) _).trans k3))) rfl wq
      exact s301 _ _ hst'
    exact AllReadyH.nil
  have s200 : ∀ ts w, St W [91, 93, 96, 90, 97, 98, 99, 18] a0.tmps 91 93 97 98 99 4 18 l R.m.pages R.m.proc.toArray (stopL R).toArray R.m.Ok 2 false false ts w → wpAnyH Tryd.prog .any rgbOps Q S 9 #[true, true, true, true, true, false, false, false, false, false, false, false, false, false] { a0 with tmps := ts } w := by
    intro ts w hst
    refine wpAnyH_ready (rs := [5, 10]) (by kernel_rfl) (by simp) ?_
    refine AllReadyH.cons (o := { dst := some 96, op := Op.call { callee := Callee.value (Operand.func 10), args := #[Operand.tmp 93, Operand.tmp 94, Operand.tmp 95], argTypes := #[22, 26, 3] }, type := 33, pos := "top03.go:33", after := #[{ on := 2, ground := Ground.data }, { on := 3, ground := Ground.data }, { on := 4, ground := Ground.data }, { on := 2, ground := Ground.chain }], guard := none }) rfl (fun K hK => ?_) ?_
    · refine want_none rfl ?_
      obtain ⟨v, hv, own⟩ := hst.h2 rfl
      refine wp_call3 (.tmp 93) (.tmp 94) (.tmp 95) _ rfl v (.agg P0) (.int .i64 nn) (getD_of hv) (getD_of ((hst.ag.same 94 (by decide)).trans x2)) (getD_of ((hst.ag.same 95 (by decide)).trans x3)) ((hcall w v hst.below own).mono ?_)
      rintro e w' ⟨u, rfl, ho, okR, hb⟩
      refine ⟨_, rfl, ?_⟩
      refine hK.out _ _ (hS _ (chain hst.below hb)) (fun hSw => ?_)
      have hst' := hst.call (sc := 96) (sm := 90) (x1 := .tuple #[u, .agg R.m.proc.toArray, .agg (stopL R).toArray]) (x2 := .tuple #[u, .agg R.m.proc.toArray, .agg (stopL R).toArray]) (by decide) (by omega) (by decide) (by decide) (by decide) (ho.weaken hst.below.size) okR hb
      have hz1 : 96 < ts.size := by rw [hst.ag.size]; omega
      have hz2 : 90 < ts.size := by rw [hst.ag.size]; omega
      have k1 : ({ a0 with tmps := ts.setIfInBounds 96 (.tuple #[u, .agg R.m.proc.toArray, .agg (stopL R).toArray]) } : Act).eval (.tmp 96) = .tuple #[u, .agg R.m.proc.toArray, .agg (stopL R).toArray] := getD_of (Array.getElem?_setIfInBounds_self_of_lt hz1)
      refine wpAnyH_take (i := 6) (oi := { dst := some 90, op := Op.move (Operand.tmp 96), type := 33, pos := "top03.go:33", after := #[{ on := 5, ground := Ground.data }], guard := none }) (v := .tuple #[u, .agg R.m.proc.toArray, .agg (stopL R).toArray]) rfl (by kernel_rfl) (by kernel_rfl) (by kernel_rfl) (hQ _ _) (Or.inl ⟨by rfl, ?_⟩) hSw ?_
      · intro wq hq
        exact move_run k1 wq
      have k2 : ∀ t' : Array Value, t'[90]? = some (.tuple #[u, .agg R.m.proc.toArray, .agg (stopL R).toArray]) → ({ a0 with tmps := t' } : Act).eval (.tmp 90) = .tuple #[u, .agg R.m.proc.toArray, .agg (stopL R).toArray] := fun t' h => getD_of h
      have k3 : ((ts.setIfInBounds 96 (.tuple #[u, .agg R.m.proc.toArray, .agg (stopL R).toArray])).setIfInBounds 90 (.tuple #[u, .agg R.m.proc.toArray, .agg (stopL R).toArray]))[90]? = some (.tuple #[u, .agg R.m.proc.toArray, .agg (stopL R).toArray]) := Array.getElem?_setIfInBounds_self_of_lt (by rw [Array.size_setIfInBounds]; exact hz2)
      refine wpAnyH_take (i := 7) (oi := { dst := some 97, op := Op.extract (Operand.tmp 90) 0, type := 22, pos := "top03.go:33", after := #[{ on := 6, ground := Ground.data }], guard := none }) (v := u) rfl (by kernel_rfl) (by kernel_rfl) (by kernel_rfl) (hQ _ _) (Or.inl ⟨by rfl, ?_⟩) hSw ?_
      · intro wq hq
        exact ext_run (k2 _ (k3)) rfl wq
      refine wpAnyH_take (i := 8) (oi := { dst := some 98, op := Op.extract (Operand.tmp 90) 1, type := 26, pos := "top03.go:33", after := #[{ on := 6, ground := Ground.data }, { on := 11, ground := Ground.gcOnly Departure.lateStores }], guard := none }) (v := .agg R.m.proc.toArray) rfl (by kernel_rfl) (by kernel_rfl) (by kernel_rfl) (hQ _ _) (Or.inl ⟨by rfl, ?_⟩) hSw ?_
      · intro wq hq
        exact ext_run (k2 _ ((set_ne (by decide) _).trans k3)) rfl wq
      refine wpAnyH_take (i := 9) (oi := { dst := some 99, op := Op.extract (Operand.tmp 90) 2, type := 32, pos := "top03.go:33", after := #[{ on := 6, ground := Ground.data }, { on := 12, ground := Ground.gcOnly Departure.lateStores }], guard := none }) (v := .agg (stopL R).toArray) rfl (by kernel_rfl) (by kernel_rfl) (by kernel_rfl) (hQ _ _) (Or.inl ⟨by rfl, ?_⟩) hSw ?_
      · intro wq hq
        exact ext_run (k2 _ ((set_ne (by decide) _).trans ((set_ne (by decide) _).trans k3))) rfl wq
      exact s300 _ _ hst'
    refine AllReadyH.cons (o := { dst := some 18, op := Op.alloc 32, type := 0, pos := "top03.go:33", after := #[], guard := none }) rfl (fun K hK => ?_) ?_
    · refine want_none rfl ?_
      refine wp_allocS rfl ?_
      exact hK.out _ _ (hS _ (hst.allz (by decide) (by omega) (by decide) (by decide) (by decide) (by decide) (by decide) (by decide)).below) (fun _ => s201 _ _ (hst.allz (by decide) (by omega) (by decide) (by decide) (by decide) (by decide) (by decide) (by decide)))
    exact AllReadyH.nil
  have s101 : ∀ ts w, St W [91, 93, 96, 90, 97, 98, 99, 18] a0.tmps 91 93 97 98 99 4 18 l R.m.pages R.m.proc.toArray (stopL R).toArray R.m.Ok 1 false true ts w → wpAnyH Tryd.prog .any rgbOps Q S 9 #[true, true, false, true, true, false, false, false, false, false, true, false, false, false] { a0 with tmps := ts } w := by
    intro ts w hst
    refine wpAnyH_ready (rs := [2]) (by kernel_rfl) (by simp) ?_
    refine AllReadyH.cons (o := { dst := some 93, op := Op.call { callee := Callee.builtin Builtin.append, args := #[Operand.tmp 91, Operand.tmp 92], argTypes := #[22, 22] }, type := 22, pos := "top03.go:33", after := #[{ on := 0, ground := Ground.data }, { on := 1, ground := Ground.data }], guard := none }) rfl (fun K hK => ?_) ?_
    · refine want_none rfl ?_
      obtain ⟨v, hv, own⟩ := hst.h1 rfl
      refine wp_append_row (.tmp 91) (.tmp 92) 22 47 rfl Tryd.underlying22 infoPage (by decide) W.heap.size v 0 [] (getD_of hv) own pa pn pc (flat l) (getD_of ((hst.ag.same 92 (by decide)).trans x1)) (hrow.below hst.below) (flat_one l) (by unfold maxLen; omega) (by omega) hst.below.size ?_
      intro v' w' ho' hg
      rw [List.nil_append, Nat.zero_add] at ho'
      have hPO : POwn w' W.heap.size v' l := by unfold POwn; rw [hp.size]; exact ho'
      have hst' := hst.app (by decide) (by omega) (by decide) (by decide) own hPO hg
      exact hK.out _ _ (hS _ hst'.below) (fun _ => s201 _ _ hst')
    exact AllReadyH.nil
  have s100 : ∀ ts w, St W [91, 93, 96, 90, 97, 98, 99, 18] a0.tmps 91 93 97 98 99 4 18 l R.m.pages R.m.proc.toArray (stopL R).toArray R.m.Ok 1 false false ts w → wpAnyH Tryd.prog .any rgbOps Q S 10 #[true, true, false, true, true, false, false, false, false, false, false, false, false, false] { a0 with tmps := ts } w := by
    intro ts w hst
    refine wpAnyH_ready (rs := [2, 10]) (by kernel_rfl) (by simp) ?_
    refine AllReadyH.cons (o := { dst := some 93, op := Op.call { callee := Callee.builtin Builtin.append, args := #[Operand.tmp 91, Operand.tmp 92], argTypes := #[22, 22] }, type := 22, pos := "top03.go:33", after := #[{ on := 0, ground := Ground.data }, { on := 1, ground := Ground.data }], guard := none }) rfl (fun K hK => ?_) ?_
    · refine want_none rfl ?_
      obtain ⟨v, hv, own⟩ := hst.h1 rfl
      refine wp_append_row (.tmp 91) (.tmp 92) 22 47 rfl Tryd.underlying22 infoPage (by decide) W.heap.size v 0 [] (getD_of hv) own pa pn pc (flat l) (getD_of ((hst.ag.same 92 (by decide)).trans x1)) (hrow.below hst.below) (flat_one l) (by unfold maxLen; omega) (by omega) hst.below.size ?_
      intro v' w' ho' hg
      rw [List.nil_append, Nat.zero_add] at ho'
      have hPO : POwn w' W.heap.size v' l := by unfold POwn; rw [hp.size]; exact ho'
      have hst' := hst.app (by decide) (by omega) (by decide) (by decide) own hPO hg
      exact hK.out _ _ (hS _ hst'.below) (fun _ => s200 _ _ hst')
    refine AllReadyH.cons (o := { dst := some 18, op := Op.alloc 32, type := 0, pos := "top03.go:33", after := #[], guard := none }) rfl (fun K hK => ?_) ?_
    · refine want_none rfl ?_
      refine wp_allocS rfl ?_
      exact hK.out _ _ (hS _ (hst.allz (by decide) (by omega) (by decide) (by decide) (by decide) (by decide) (by decide) (by decide)).below) (fun _ => s101 _ _ (hst.allz (by decide) (by omega) (by decide) (by decide) (by decide) (by decide) (by decide) (by decide)))
    exact AllReadyH.nil
  have s001 : ∀ ts w, St W [91, 93, 96, 90, 97, 98, 99, 18] a0.tmps 91 93 97 98 99 4 18 l R.m.pages R.m.proc.toArray (stopL R).toArray R.m.Ok 0 false true ts w → wpAnyH Tryd.prog .any rgbOps Q S 10 #[false, true, false, true, true, false, false, false, false, false, true, false, false, false] { a0 with tmps := ts } w := by
    intro ts w hst
    refine wpAnyH_ready (rs := [0]) (by kernel_rfl) (by simp) ?_
    refine AllReadyH.cons (o := { dst := some 91, op := Op.buildSlice 22 0 #[], type := 22, pos := "top03.go:33", after := #[], guard := none }) rfl (fun K hK => ?_) ?_
    · refine want_none rfl ?_
      refine wp_empty 22 47 rfl Tryd.underlying22 infoPage (by decide) ?_
      exact hK.out _ _ (hS _ (hst.build (by decide) (by omega) (by decide) (by decide)).below) (fun _ => s101 _ _ (hst.build (by decide) (by omega) (by decide) (by decide)))
    exact AllReadyH.nil
  have s000 : ∀ ts w, St W [91, 93, 96, 90, 97, 98, 99, 18] a0.tmps 91 93 97 98 99 4 18 l R.m.pages R.m.proc.toArray (stopL R).toArray R.m.Ok 0 false false ts w → wpAnyH Tryd.prog .any rgbOps Q S 11 #[false, true, false, true, true, false, false, false, false, false, false, false, false, false] { a0 with tmps := ts } w := by
    intro ts w hst
    refine wpAnyH_ready (rs := [0, 10]) (by kernel_rfl) (by simp) ?_
    refine AllReadyH.cons (o := { dst := some 91, op := Op.buildSlice 22 0 #[], type := 22, pos := "top03.go:33", after := #[], guard := none }) rfl (fun K hK => ?_) ?_
    · refine want_none rfl ?_
      refine wp_empty 22 47 rfl Tryd.underlying22 infoPage (by decide) ?_
      exact hK.out _ _ (hS _ (hst.build (by decide) (by omega) (by decide) (by decide)).below) (fun _ => s100 _ _ (hst.build (by decide) (by omega) (by decide) (by decide)))
    refine AllReadyH.cons (o := { dst := some 18, op := Op.alloc 32, type := 0, pos := "top03.go:33", after := #[], guard := none }) rfl (fun K hK => ?_) ?_
    · refine want_none rfl ?_
      refine wp_allocS rfl ?_
      exact hK.out _ _ (hS _ (hst.allz (by decide) (by omega) (by decide) (by decide) (by decide) (by decide) (by decide) (by decide)).below) (fun _ => s001 _ _ (hst.allz (by decide) (by omega) (by decide) (by decide) (by decide) (by decide) (by decide) (by decide)))
    exact AllReadyH.nil
  exact s000 a0.tmps W ⟨ag_refl _ _, Below.refl _ _, fun e => by omega, fun e => by omega, fun e => by omega, fun e => by simp at e, fun e => by simp at e⟩
end Go.Proofs.YteopkgjkbhcicaaDoor
