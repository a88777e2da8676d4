/-
  States by their keys; the shapes of their parts.
-/
import Derived.Test.YtleeallnfmafnaaDoorVsKey
import Derived.Test.YtleeallnfmafnaaDoorVsNew
import Derived.Deep.Cut
namespace Go.Proofs.YtleeallnfmafnaaDoor.Vv
open Go.RowKit FerryCrc
set_option linter.unusedVariables false
set_option linter.unusedSimpArgs false

theorem info_proc : (Tryd.prog.info? 64).map (·.size) = some 21 := by kernel_rfl
theorem formed_proc {row : List Value} (h : row.length = 21) : (Value.agg row.toArray).formed Tryd.prog 64 = true := by
  have hc : Tryd.prog.cellsOf 64 = 21 := by kernel_rfl
  simp [Value.formed, Tryd.underlying64, hc, h]
theorem info_timer : (Tryd.prog.info? 66).map (·.size) = some 2 := by kernel_rfl
theorem formed_timer {row : List Value} (h : row.length = 2) : (Value.agg row.toArray).formed Tryd.prog 66 = true := by
  have hc : Tryd.prog.cellsOf 66 = 2 := by kernel_rfl
  simp [Value.formed, Tryd.underlying66, hc, h]
theorem info_page : (Tryd.prog.info? 43).map (·.size) = some 66 := by kernel_rfl
theorem formed_page {row : List Value} (h : row.length = 66) : (Value.agg row.toArray).formed Tryd.prog 43 = true := by
  have hc : Tryd.prog.cellsOf 43 = 66 := by kernel_rfl
  simp [Value.formed, Tryd.underlying43, hc, h]
theorem two_below (w : World) (x y : Obj) : Below w.heap.size w ((w.alloc x).alloc y) := ((Below.refl _ _).alloc (Nat.le_refl _) _).alloc (by simp) _
/-- The ports that a slice shows: their ages, and the keys of their messages. -/
structure Pv (w : World) (a : Option Addr) (len : Nat) (L : List (Int × List (List Lit))) : Prop where
  size : L.length = len
  most : len ≤ 140737488355328
  cell : ∀ k p, L[k]? = some p → ∃ b off x n c, a = some ⟨b, off, none⟩ ∧ w.rangeAt b (off + k * 2) [.slice x n c, .int .i64 p.1] ∧ Kv w 9 1 x n p.2
theorem Pv.below {w w' : World} {a : Option Addr} {len : Nat} {L : List (Int × List (List Lit))} (h : Pv w a len L) (hb : Below w.heap.size w w') : Pv w' a len L :=
  ⟨h.size, h.most, fun k p hp => by
    obtain ⟨b, off, x, n, c, e, h1, h3⟩ := h.cell k p hp
    exact ⟨b, off, x, n, c, e, vrange_below h1 hb, h3.below hb⟩⟩
theorem Pv.at {w : World} {a : Option Addr} {len : Nat} {L : List (Int × List (List Lit))} (h : Pv w a len L) {k : Nat} (hk : k < len) : ∃ g K b off x n c row, L[k]? = some (g, K) ∧ a = some ⟨b, off, none⟩ ∧ row = [.slice x n c, .int .i64 g] ∧ w.rangeAt b (off + k * 2) row ∧ Kv w 9 1 x n K := by
  obtain ⟨p, hp⟩ : ∃ p, L[k]? = some p := ⟨_, List.getElem?_eq_getElem (by rw [h.size]; exact hk)⟩
  obtain ⟨b, off, x, n, c, e, h1, h2⟩ := h.cell k p hp
  exact ⟨p.1, p.2, b, off, x, n, c, _, hp, e, rfl, h1, h2⟩
theorem info_eqPorts_any : (Tryd.prog.info? 46).map (·.size) = some 2 := by kernel_rfl
theorem eq_keys {P : Program} {t : TypeId} {m : Nat} (hk : P.keyTypeAt m t = true) (hm : m ≤ 10000) {xs ys : List Value} {lx ly : List Lit} {D D' : Nat} (fx : (Value.agg xs.toArray).formed P t = true) (fy : (Value.agg ys.toArray).formed P t = true)
    (hx : P.keyLits D t xs = some lx) (hy : P.keyLits D' t ys = some ly) (w : World) : (binOp .eql t (.agg xs.toArray) (.agg ys.toArray)).run P w = .ok (.bool (eqb Classical.propDecidable (lx = ly))) w := by
  obtain ⟨r, h1, h2⟩ := run_equalIn_deep (P := P) (10000 - m) m t hk w D D' (.agg xs.toArray) (.agg ys.toArray) lx ly fx fy hx hy
  rw [Nat.sub_add_cancel hm] at h1
  have hr : r = eqb Classical.propDecidable (lx = ly) := by
    cases r
    · exact (eqb_no (fun e => by simpa using h2.2 e)).symm
    · exact (eqb_yes (h2.1 rfl)).symm
  rw [run_eql_struct, h1, hr]
  rfl
theorem formed_data {row : List Value} (h : row.length = 64) : (Value.agg row.toArray).formed Tryd.prog 41 = true := by
  have hc : Tryd.prog.cellsOf 41 = 64 := by kernel_rfl
  simp [Value.formed, Tryd.underlying41, hc, h]
theorem eql_data {ds ds' : List Value} {ld ld' : List Lit} {D D' : Nat} (h : Tryd.prog.keyLits D 41 ds = some ld) (h' : Tryd.prog.keyLits D' 41 ds' = some ld') (hz : ds.length = 64) (hz' : ds'.length = 64)
    (ev : Operand → Value) (x y : Operand) (hx : ev x = .agg ds.toArray) (hy : ev y = .agg ds'.toArray) (o : Oper) (t : TypeId) (ho : o.op = .binOp .eql 41 x y t) (w : World) : (execOp ev o).run Tryd.prog w = .ok (.value (.bool (eqb Classical.propDecidable (ld = ld')))) w := by
  unfold execOp
  simp only [ho, hx, hy, Sem.run_bind, run_eqGuard_agg _ _ _ _ _ _ _ (show Tryd.prog.eqGuardType Tryd.prog.depth 41 = false by kernel_rfl), Result.andThen_ok, eq_keys (m := 3) (show Tryd.prog.keyTypeAt 3 41 = true by kernel_rfl) (by decide) (formed_data hz) (formed_data hz') h h']
  rfl
theorem page_parts {D : Nat} {row : List Value} {l : List Lit} (h : Tryd.prog.keyLits D 43 row = some l) : ∃ x d ds ld D', row = .int .i64 x :: .bool d :: ds ∧ l = .int .i64 x :: .bool d :: ld ∧ Tryd.prog.keyLits D' 41 ds = some ld ∧ ds.length = 64 := by
  cases D with
  | zero => simp [Program.keyLits] at h
  | succ D =>
    unfold Program.keyLits at h
    simp only [Tryd.underlying43] at h
    have hc : Tryd.prog.cellsOf 43 = 66 := by kernel_rfl
    have c0 : Tryd.prog.cellsOf 3 = 1 := by kernel_rfl
    have c1 : Tryd.prog.cellsOf 4 = 1 := by kernel_rfl
    have c2 : Tryd.prog.cellsOf 41 = 64 := by kernel_rfl
    split at h
    · rename_i hl
      have hlen := hl.1
      rw [hc] at hlen
      simp only [List.mapM_cons, List.mapM_nil, c0, c1, c2, Option.map_eq_some_iff] at h
      obtain ⟨ls, hls, hfl⟩ := h
      simp only [Option.pure_def, Option.bind_eq_bind, Option.bind_eq_some_iff, Option.some.injEq] at hls
      obtain ⟨l0, h0, ls1, ⟨l1, h1, ls2, ⟨l2, h2, ls3, e3, e2⟩, e1⟩, e0⟩ := hls
      obtain ⟨x, ex, rfl⟩ := keyLits_int' Tryd.underlying3 h0
      obtain ⟨d, ed, rfl⟩ := keyLits_bool' Tryd.underlying4 h1
      have hd : (row.drop 2).take 64 = row.drop 2 := List.take_of_length_le (by rw [List.length_drop, hlen]; decide)
      rw [hd] at h2
      refine ⟨x, d, row.drop 2, l2, D, ?_, ?_, h2, by rw [List.length_drop, hlen]⟩
      · match row, hlen with
        | r0 :: r1 :: rs, _ =>
          simp at ex ed
          rw [ex, ed]
          rfl
      · subst e3 e2 e1 e0
        rw [← hfl]
        simp
    · cases h
/-- What alikePages looks at. -/
def pk (l : List Lit) : Option Lit × List Lit := (l.head?, l.drop 2)
theorem infoData : (Tryd.prog.info? 41).map (·.size) = some 64 := by kernel_rfl
theorem info_alikes_any : (Tryd.prog.info? 43).map (·.size) = some 66 := by kernel_rfl
def zPageV : Array Value := (.int .i64 0 :: .bool false :: List.replicate 64 (.int .u8 0)).toArray
theorem zero_pageV (w : World) : (zeroValue 43).run Tryd.prog w = .ok (.agg zPageV) w := by kernel_rfl
/-- A state, by its keys. -/
structure Sk where
  id : Int
  frame : Int
  epoch : Int
  procs : List (List Lit)
  ready : List (List Lit)
  timers : List (List Lit)
  up : List (List Lit)
  sems : List (List Lit)
  ports : List (Int × List (List Lit))
  pages : List (List Lit)
/-- All but Epoch and the pages. -/
def Sk.but (s t : Sk) : Prop := s.id = t.id ∧ s.frame = t.frame ∧ s.procs = t.procs ∧ s.ready = t.ready ∧ s.timers = t.timers ∧ s.up = t.up ∧ s.sems = t.sems ∧ s.ports = t.ports
/-- A state's cells. -/
def Sv (w : World) (cs : List Value) (s : Sk) : Prop := ∃ a3 n3 c3 a4 n4 c4 a5 n5 c5 a6 n6 c6 a7 n7 c7 a8 n8 c8 a9 n9 c9, cs = [.int .i64 s.id, .int .i64 s.frame, .int .i64 s.epoch, .slice a3 n3 c3, .slice a4 n4 c4, .slice a5 n5 c5, .slice a6 n6 c6, .slice a7 n7 c7, .slice a8 n8 c8, .slice a9 n9 c9] ∧ Kv w 64 21 a3 n3 s.procs ∧ Kv w 3 1 a4 n4 s.ready ∧ Kv w 66 2 a5 n5 s.timers ∧ Kv w 4 1 a6 n6 s.up ∧ Kv w 3 1 a7 n7 s.sems ∧ Pv w a8 n8 s.ports ∧ Kv w 43 66 a9 n9 s.pages
theorem Sv.below {w w' : World} {cs : List Value} {s : Sk} (h : Sv w cs s) (hb : Below w.heap.size w w') : Sv w' cs s := by
  obtain ⟨a3, n3, c3, a4, n4, c4, a5, n5, c5, a6, n6, c6, a7, n7, c7, a8, n8, c8, a9, n9, c9, e, h3, h4, h5, h6, h7, h8, h9⟩ := h
  exact ⟨a3, n3, c3, a4, n4, c4, a5, n5, c5, a6, n6, c6, a7, n7, c7, a8, n8, c8, a9, n9, c9, e, h3.below hb, h4.below hb, h5.below hb, h6.below hb, h7.below hb, h8.below hb, h9.below hb⟩
def Sk.same (s t : Sk) : Prop := s.epoch = t.epoch ∧ s.but t ∧ s.pages = t.pages
def Sk.alike (s t : Sk) : Prop := s.but t ∧ s.pages.map pk = t.pages.map pk
theorem infoState : (Tryd.prog.info? 29).map (·.size) = some 10 := by kernel_rfl
end Go.Proofs.YtleeallnfmafnaaDoor.Vv
