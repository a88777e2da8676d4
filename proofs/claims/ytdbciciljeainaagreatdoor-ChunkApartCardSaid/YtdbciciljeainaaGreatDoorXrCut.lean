/-
  The document's Cut.
-/
import Derived.Test.YtdbciciljeainaaGreatDoorXfKit
import Derived.Deep.Cut
import Derived.Deep.CutRange
namespace Go.Proofs.YtdbciciljeainaaGreatDoor
open Go.RowKit FerryCrc
set_option linter.unusedVariables false
set_option linter.unusedSimpArgs false

def okPt (p : Int) : Bool := decide (0 ≤ p) && decide (p < 8)
def okNs (b r m : Int) : Bool := okNum b && okNum r && okNum m
theorem okNm_parts (p b r m : Int) : okNm p b r m = (okPt p && okNs b r m) := by
  unfold okNm okPt okNs
  simp only [Bool.and_assoc]
set_option maxRecDepth 100000 in
theorem rpart_any (x : Int) (w : World) : Calls Tryz.prog 34 #[.int .i64 x] w fun e w' => e = .returned (.bool (okPt x)) ∧ w' = w := by
  go_enter Tryz.func34, Tryz.ntmps34
  go_wp2
  all_goals go_ret
  all_goals refine ⟨ret_b ?_, rfl⟩
  all_goals (unfold okPt; simp_all <;> (intros; omega))
set_option maxRecDepth 100000 in
set_option maxHeartbeats 1000000 in
theorem rnumbers_any (b r m : Int) (w : World) : Calls Tryz.prog 35 #[.agg #[.int .i64 b, .int .i64 r, .int .i64 m]] w fun e w' => e = .returned (.bool (okNs b r m)) ∧ Below w.heap.size w w' := by
  obtain ⟨W, hW, B0, D0⟩ := box1 w [.int .i64 b, .int .i64 r, .int .i64 m] 23
  have HWD := hide hW
  have HD := hide D0
  have g0 := B0.cell 0 rfl
  have g1 := B0.cell 1 rfl
  have g2 := B0.cell 2 rfl
  obtain ⟨R, hR⟩ : ∃ R, okNs b r m = R := ⟨_, rfl⟩
  rw [hR]
  have HR := hide hR
  clear hW D0 B0 hR
  go_enter Tryz.func35, Tryz.ntmps35
  go_upto_region 1 with fail
  have hW := HWD.out
  simp only [hW]
  clear hW HWD
  by_cases a1 : 1 ≤ b
  · by_cases a2 : b ≤ 2147483647
    · by_cases a3 : 1 ≤ r
      · by_cases a4 : r ≤ 2147483647
        · by_cases a5 : 1 ≤ m
          · by_cases a6 : m ≤ 2147483647
            · go_wp2
              go_ret
              exact ⟨ret_b (by rw [← HR.out]; simp [okNs, okNum, a1, a2, a3, a4, a5, a6]), HD.out⟩
            · go_wp2
              go_ret
              exact ⟨ret_b (by rw [← HR.out]; simp [okNs, okNum] <;> (intros; omega)), HD.out⟩
          · go_wp2
            go_ret
            exact ⟨ret_b (by rw [← HR.out]; simp [okNs, okNum] <;> (intros; omega)), HD.out⟩
        · go_wp2
          go_ret
          exact ⟨ret_b (by rw [← HR.out]; simp [okNs, okNum] <;> (intros; omega)), HD.out⟩
      · go_wp2
        go_ret
        exact ⟨ret_b (by rw [← HR.out]; simp [okNs, okNum] <;> (intros; omega)), HD.out⟩
    · go_wp2
      go_ret
      exact ⟨ret_b (by rw [← HR.out]; simp [okNs, okNum] <;> (intros; omega)), HD.out⟩
  · go_wp2
    go_ret
    exact ⟨ret_b (by rw [← HR.out]; simp [okNs, okNum] <;> (intros; omega)), HD.out⟩
theorem nt_one' (x : Nt) : ∀ u ∈ x.cells, u.oneCell' = true := by
  intro u hu
  simp only [Nt.cells, List.mem_cons, List.not_mem_nil, or_false] at hu
  rcases hu with rfl | rfl | rfl | rfl | rfl | rfl | rfl | rfl | rfl | rfl <;> rfl
/-- append of one record that lies in a block of its own, as one step of a statement whose order Go leaves open. -/
theorem step_l {α : Type} {f : α → List Value} {sz byt : Nat} (hf : ∀ x, (f x).length = sz) (h0 : 0 < sz) (z : α) {t e : TypeId} (ht : Tryz.prog.underlying t = some (.slice e)) (hinfo : (Tryz.prog.info? e).map (fun i => (i.size, i.bytes, i.zero.map (·.cells))) = some (sz, byt, some (f z).toArray))
    {w : World} {ops : Array Oper} {o : Oper} {act : Act} {K : Act → World → Prop} {Q : Exit → Act → World → Prop} {EE : Prop} (hgd : o.guard = none) (s y : Operand)
    (ho : o.op = .call { callee := .builtin .append, args := #[s, y], argTypes := #[t, t] })
    (base : Nat) (v : Value) (xs : List α) (hs : act.eval s = v) (hown : LOwn f sz e w base v xs)
    (g c : Nat) (x : α) (hx : act.eval y = .slice (some ⟨g, 0, none⟩) 1 c) (one : ∀ u ∈ f x, u.oneCell' = true) (hc : ∀ j u, (f x)[j]? = some u → w.cell? ⟨g, j, none⟩ = some u)
    (h63 : xs.length < 4294967296) (hby : (xs.length + 1) * byt ≤ 140737488355328) (hbase : base ≤ w.heap.size)
    (h : ∀ v' w', LOwn f sz e w' base v' (xs ++ [x]) → Below base w w' → K (act.put o.dst v') w') : if Region.wanted o (yielded ops act.tmps) = true then Oper.wp Tryz.prog o act w K Q else EE := by
  obtain ⟨i, zz, hi, hz, hsz, hb, hzc⟩ := info_open hinfo
  have hw : Region.wanted o (yielded ops act.tmps) = true := by simp [Region.wanted, hgd]
  rw [if_pos hw]
  obtain ⟨v', w', hrun, k1, k2, -⟩ := run_append_own (P := Tryz.prog) w base t o.type e i zz sz byt ht hi hz hsz hb (by rw [hzc]; simp [hf]) h0 v xs.length (xs.flatMap f) hown ⟨g, 0, none⟩ 1 c (f x) (by rw [hf]; simp) (fun j u hu => by rw [add_none, Nat.zero_add]; exact hc j u hu) one (by unfold maxLen; omega) hby hbase
  unfold Oper.wp execOp
  simp only [ho, resolve, invoke, builtin, Sem.run_bind, Sem.run_pure, Result.andThen_ok, List.map_toArray, List.map_cons, List.map_nil, hs, hx, hrun]
  refine h v' w' ?_ ((Below.refl _ _).grown k2 hbase (fun j e => (World.ownsRow.lt hown j e).1))
  unfold LOwn
  rw [List.length_append, show (xs ++ [x]).flatMap f = xs.flatMap f ++ f x by simp]
  exact k1

end Go.Proofs.YtdbciciljeainaaGreatDoor
