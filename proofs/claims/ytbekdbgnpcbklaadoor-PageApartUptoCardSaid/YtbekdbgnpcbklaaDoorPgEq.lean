/-
  Whole pages compared; the document's Same of equal lists.
-/
import Derived.Test.YtbekdbgnpcbklaaDoorPgIn
import Derived.Laws.StructEq
namespace Go.Proofs.YtbekdbgnpcbklaaDoor
open Go.RowKit FerryCrc
set_option linter.unusedVariables false

theorem part_plain {t : TypeId} {d : TypeDesc} (hu : Tryd.prog.underlying t = some d) (hd : d.isRow = false) {xs : Array Value} {off : Nat} {v : Value} (hx : xs[off]? = some v) (w : World) : (part t xs off).run Tryd.prog w = .ok v w := by
  cases d <;> simp [TypeDesc.isRow] at hd <;> simp [part, isAgg, run_underlying hu, hx]
theorem part_row {p : Pg} (h : p.Ok) (w : World) : (part 57 p.cells.toArray 2).run Tryd.prog w = .ok (.agg p.row.toArray) w := by
  have hs := sizeData
  cases hq : Tryd.prog.info? 57 with
  | none => simp [hq] at hs
  | some i =>
    have hi : i.size = 64 := by simpa [hq] using hs
    have he : List.take 64 (List.drop 2 p.cells) = p.row := by
      rw [show List.drop 2 p.cells = p.row from rfl]
      exact List.take_of_length_le (by rw [h.row]; decide)
    simp [part, isAgg, run_underlying Tryd.underlying57, sizeOf, typeInfo, hq, hi, he]
theorem structPg : Tryd.prog.underlying 59 = some (.struct (Tryd.prog.fieldsOf 59)) := by
  simp only [Program.fieldsOf, Tryd.underlying59]
theorem heldPg : Tryd.prog.stoodInHeld 59 = false := by kernel_rfl
theorem eqFields3 {P : Program} (w : World) (d : Nat) (xs : Array Value) (f0 f1 f2 : Field) (n0 : f0.name ≠ "_") (n1 : f1.name ≠ "_") (n2 : f2.name ≠ "_") (x0 x1 x2 : Value)
    (a0 : (part f0.type xs f0.offset).run P w = .ok x0 w) (a1 : (part f1.type xs f1.offset).run P w = .ok x1 w) (a2 : (part f2.type xs f2.offset).run P w = .ok x2 w)
    (e0 : (Op.equalIn d f0.type x0 x0).run P w = .ok true w) (e1 : (Op.equalIn d f1.type x1 x1).run P w = .ok true w) (e2 : (Op.equalIn d f2.type x2 x2).run P w = .ok true w) :
    (Op.eqFields d xs xs [f0, f1, f2]).run P w = .ok true w := by
  simp only [Op.eqFields, if_pos n0, if_pos n1, if_pos n2, Sem.run_bind, Sem.run_ite, a0, a1, a2, Result.andThen_ok, e0, e1, e2, Bool.not_true, Bool.false_eq_true, if_false, Sem.run_pure]
theorem same_page (d : Nat) {p : Pg} (hp : p.Ok) (w : World) : (Op.equalIn (d + 2 + 1) 59 (.agg p.cells.toArray) (.agg p.cells.toArray)).run Tryd.prog w = .ok true w := by
  rw [run_equalIn_struct (P := Tryd.prog) w (d + 2) 59 _ _ structPg heldPg]
  have a0 : (part 3 p.cells.toArray 0).run Tryd.prog w = .ok (.int .i64 p.rights) w := part_plain Tryd.underlying3 rfl rfl w
  have a1 : (part 4 p.cells.toArray 1).run Tryd.prog w = .ok (.bool p.dirty) w := part_plain Tryd.underlying4 rfl rfl w
  have a2 := part_row hp w
  have e0 := run_equalIn_int (P := Tryd.prog) w (d + 1) 3 .i64 .i64 p.rights p.rights Tryd.underlying3
  have e1 := run_equalIn_bool' (P := Tryd.prog) w (d + 1) 4 p.dirty p.dirty Tryd.underlying4
  have e2 := eq_rows d hp hp w
  have hfo := structPg
  rw [Tryd.underlying59] at hfo
  simp only [Option.some.injEq, TypeDesc.struct.injEq] at hfo
  rw [← hfo]
  rw [decide_eq_true rfl] at e2
  rw [beq_self_eq_true] at e0 e1
  exact eqFields3 w (d + 2) _ _ _ _ (by decide) (by decide) (by decide) _ _ _ a0 a1 a2 e0 e1 e2
theorem neq_page {p : Pg} (hp : p.Ok) (w : World) : (binOp .neq 59 (.agg p.cells.toArray) (.agg p.cells.toArray)).run Tryd.prog w = .ok (.bool false) w := by
  rw [run_neq_struct, same_page 9997 hp w]
  rfl
set_option maxRecDepth 100000 in
set_option maxHeartbeats 400000 in
theorem refSame_any (a : Option Addr) (len cap : Nat) (l : List Pg) (a' : Option Addr) (cap' : Nat) (w : World) (hs : Pgs w a len cap l) (hs' : Pgs w a' len cap' l) :
    Calls Tryd.prog 23 #[.slice a len cap, .slice a' len cap'] w fun e w' => e = .returned (.bool true) ∧ Below w.heap.size w w' := by
  have hm := hs.most
  have HS := hide hs
  have HS' := hide hs'
  clear hs hs'
  go_enter Tryd.func23, Tryd.ntmps23
  go_wp2
  go_loopw [5] (fun i wr => ∃ k : Nat, k ≤ len ∧ i = .int .i64 k ∧ Hid (Below w.heap.size w wr)) (fun i _ => len - (intOf i).toNat)
  case atStart => exact ⟨0, by omega, rfl, Below.refl _ _⟩
  case round =>
    obtain ⟨k, hk, rfl, hb⟩ := hrel
    by_cases hlt : k < len
    · obtain ⟨p, hp⟩ : ∃ p, l[k]? = some p := ⟨_, List.getElem?_eq_getElem (by rw [HS.out.size]; exact hlt)⟩
      obtain ⟨b, off, rfl, hr⟩ := HS.out.cell k p hp
      obtain ⟨b', off', rfl, hr'⟩ := HS'.out.cell k p hp
      have hr1 := range_below hr hb.out
      have hr2 := range_below hr' hb.out
      have hpo : p.Ok := HS.out.ok p (List.mem_of_getElem? hp)
      have hu41 := Tryd.underlying59
      have hi1 : (Tryd.prog.info? 59).map (·.size) = some p.cells.length := by rw [hpo.cells]; exact sizePage
      have hne : ∀ w, (binOp .neq 59 (.agg p.cells.toArray) (.agg p.cells.toArray)).run Tryd.prog w = .ok (.bool false) w := fun w => neq_page hpo w
      clear hr hr' hp hpo
      generalize p.cells = cs at *
      go_wp2
      refine wp_region_quiet_lit (by kernel_rfl) (by kernel_rfl) ?_
      repeat (first
        | (go_big_quiet_want; refine quiet_load_mid 59 (.tmp 19) rfl b (off + k * 66) rfl cs _ hr1 hu41 rfl hi1 ?_; simp only [Act.put, List.setIfInBounds_toArray, List.set_cons_succ, List.set_cons_zero]; go_big_quiet_on)
        | (go_big_quiet_want; refine quiet_load_mid 59 (.tmp 23) rfl b' (off' + k * 66) rfl cs _ hr2 hu41 rfl hi1 ?_; simp only [Act.put, List.setIfInBounds_toArray, List.set_cons_succ, List.set_cons_zero]; go_big_quiet_on)
        | (go_big_quiet_want; refine quiet_neq 59 59 (.tmp 20) (.tmp 24) rfl _ _ rfl rfl (by kernel_rfl) _ hne ?_; simp only [Act.put, List.setIfInBounds_toArray, List.set_cons_succ, List.set_cons_zero]; go_big_quiet_on)
        | go_big_quiet_step (fail))
      refine wpQuiet_nil ?_
      intro _ hw'
      obtain ⟨nq, rfl⟩ := hw'
      clear hne hr1 hr2 hu41 hi1
      go_wp2
      go_roundw
      case rel => exact ⟨k + 1, by omega, by go_num, drewN_below hb.out nq⟩
      case measure => simp [intOf]; omega
    · obtain rfl : k = len := by omega
      go_wp2
      go_ret
      exact ⟨rfl, hb.out⟩
/-- Same of two lists that show the same pages. -/
theorem same_own {w : World} {base base' : Nat} {v v' : Value} {l : List Pg} (h : POwn w base v l) (h' : POwn w base' v' l) (ok : Oks l) (hm : l.length ≤ 1759218604391) :
    Calls Tryd.prog 23 #[v, v'] w fun e w' => e = .returned (.bool true) ∧ Below w.heap.size w w' := by
  obtain ⟨a, c, rfl, h1, _⟩ := h.pgs ok hm
  obtain ⟨a', c', rfl, h2, _⟩ := h'.pgs ok hm
  exact refSame_any a _ c l a' c' w h1 h2
end Go.Proofs.YtbekdbgnpcbklaaDoor
