/-
  Two pages held against each other but for their mark.
-/
import Derived.Test.YtkjbcnlhallcdaaVsPort
import Derived.Test.YtkjbcnlhallcdaaVsNew
import Derived.Deep.Cut
namespace Go.Proofs.Ytkjbcnlhallcdaa
open Go.RowKit FerryCrc
set_option linter.unusedVariables false
set_option linter.unusedSimpArgs false

theorem eq_keys {P : Program} {t : TypeId} {m : Nat} (hk : P.keyTypeAt m t = true) (hm : m ≤ 10000) {xs ys : List Value} {lx ly : List Lit} {D D' : Nat} (fx : (Value.agg xs.toArray).formed P t = true) (fy : (Value.agg ys.toArray).formed P t = true)
    (hx : P.keyLits D t xs = some lx) (hy : P.keyLits D' t ys = some ly) (w : World) : (binOp .eql t (.agg xs.toArray) (.agg ys.toArray)).run P w = .ok (.bool (eqb Classical.propDecidable (lx = ly))) w := by
  obtain ⟨r, h1, h2⟩ := run_equalIn_deep (P := P) (10000 - m) m t hk w D D' (.agg xs.toArray) (.agg ys.toArray) lx ly fx fy hx hy
  rw [Nat.sub_add_cancel hm] at h1
  have hr : r = eqb Classical.propDecidable (lx = ly) := by
    cases r
    · exact (eqb_no (fun e => by simpa using h2.2 e)).symm
    · exact (eqb_yes (h2.1 rfl)).symm
  rw [run_eql_struct, h1, hr]
  rfl
theorem formed_data {row : List Value} (h : row.length = 64) : (Value.agg row.toArray).formed Try.prog 38 = true := by
  have hc : Try.prog.cellsOf 38 = 64 := by kernel_rfl
  simp [Value.formed, Try.underlying38, hc, h]
theorem eql_data {ds ds' : List Value} {ld ld' : List Lit} {D D' : Nat} (h : Try.prog.keyLits D 38 ds = some ld) (h' : Try.prog.keyLits D' 38 ds' = some ld') (hz : ds.length = 64) (hz' : ds'.length = 64)
    (ev : Operand → Value) (x y : Operand) (hx : ev x = .agg ds.toArray) (hy : ev y = .agg ds'.toArray) (o : Oper) (t : TypeId) (ho : o.op = .binOp .eql 38 x y t) (w : World) : (execOp ev o).run Try.prog w = .ok (.value (.bool (eqb Classical.propDecidable (ld = ld')))) w := by
  unfold execOp
  simp only [ho, hx, hy, Sem.run_bind, run_eqGuard_agg _ _ _ _ _ _ _ (show Try.prog.eqGuardType Try.prog.depth 38 = false by kernel_rfl), Result.andThen_ok, eq_keys (m := 3) (show Try.prog.keyTypeAt 3 38 = true by kernel_rfl) (by decide) (formed_data hz) (formed_data hz') h h']
  rfl
theorem page_parts {D : Nat} {row : List Value} {l : List Lit} (h : Try.prog.keyLits D 40 row = some l) : ∃ x d ds ld D', row = .int .i64 x :: .bool d :: ds ∧ l = .int .i64 x :: .bool d :: ld ∧ Try.prog.keyLits D' 38 ds = some ld ∧ ds.length = 64 := by
  cases D with
  | zero => simp [Program.keyLits] at h
  | succ D =>
    unfold Program.keyLits at h
    simp only [Try.underlying40] at h
    have hc : Try.prog.cellsOf 40 = 66 := by kernel_rfl
    have c0 : Try.prog.cellsOf 3 = 1 := by kernel_rfl
    have c1 : Try.prog.cellsOf 4 = 1 := by kernel_rfl
    have c2 : Try.prog.cellsOf 38 = 64 := by kernel_rfl
    split at h
    · rename_i hl
      have hlen := hl.1
      rw [hc] at hlen
      simp only [List.mapM_cons, List.mapM_nil, c0, c1, c2, Option.map_eq_some_iff] at h
      obtain ⟨ls, hls, hfl⟩ := h
      simp only [Option.pure_def, Option.bind_eq_bind, Option.bind_eq_some_iff, Option.some.injEq] at hls
      obtain ⟨l0, h0, ls1, ⟨l1, h1, ls2, ⟨l2, h2, ls3, e3, e2⟩, e1⟩, e0⟩ := hls
      obtain ⟨x, ex, rfl⟩ := keyLits_int' Try.underlying3 h0
      obtain ⟨d, ed, rfl⟩ := keyLits_bool' Try.underlying4 h1
      have hd : (row.drop 2).take 64 = row.drop 2 := List.take_of_length_le (by rw [List.length_drop, hlen]; decide)
      rw [hd] at h2
      refine ⟨x, d, row.drop 2, l2, D, ?_, ?_, h2, by rw [List.length_drop, hlen]⟩
      · match row, hlen with
        | r0 :: r1 :: rs, _ =>
          simp at ex ed
          rw [ex, ed]
          rfl
      · subst e3 e2 e1 e0
        rw [← hfl]
        simp
    · cases h
/-- What alikePages looks at. -/
def pk (l : List Lit) : Option Lit × List Lit := (l.head?, l.drop 2)

theorem infoData : (Try.prog.info? 38).map (·.size) = some 64 := by kernel_rfl
set_option maxRecDepth 100000 in
set_option maxHeartbeats 1600000 in
theorem alikePages_any (row row' : List Value) (l l' : List Lit) (D D' : Nat) (w : World) (h : Try.prog.keyLits D 40 row = some l) (h' : Try.prog.keyLits D' 40 row' = some l') :
    Calls Try.prog 15 #[.agg row.toArray, .agg row'.toArray] w fun e w' => e = .returned (.bool (eqb Classical.propDecidable (pk l = pk l'))) ∧ Below w.heap.size w w' := by
  obtain ⟨x, d, ds, ld, D1, hrow, hl, hk1, hz1⟩ := page_parts h
  obtain ⟨x', d', ds', ld', D2, hrow', hl', hk2, hz2⟩ := page_parts h'
  have HPK : Hid (pk l = pk l' ↔ x = x' ∧ ld = ld') := by
    unfold Hid
    rw [hl, hl']
    simp [pk]
  have HK1 := hide hk1
  have HK2 := hide hk2
  have HZ1 := hide hz1
  have HZ2 := hide hz2
  have n1 := rangeNew w row 40
  have n1b := vrange_below n1 (one_below (w.alloc (.cells row.toArray 40)) (.cells row'.toArray 40))
  have n2 := rangeNew (w.alloc (.cells row.toArray 40)) row' 40
  have hsz : (w.alloc (.cells row.toArray 40)).heap.size = w.heap.size + 1 := by simp
  rw [hsz] at n2
  have HB0 := hide (two_below w (.cells row.toArray 40) (.cells row'.toArray 40))
  have hc1 : ((w.alloc (.cells row.toArray 40)).alloc (.cells row'.toArray 40)).cell? ⟨w.heap.size, 0, none⟩ = some (.int .i64 x) := n1b 0 _ (by rw [hrow]; rfl)
  have hc2 : ((w.alloc (.cells row.toArray 40)).alloc (.cells row'.toArray 40)).cell? ⟨w.heap.size + 1, 0, none⟩ = some (.int .i64 x') := n2 0 _ (by rw [hrow']; rfl)
  have HD1 : Hid (((w.alloc (.cells row.toArray 40)).alloc (.cells row'.toArray 40)).rangeAt w.heap.size 2 ds) := fun j v hv => by rw [Nat.add_comm 2 j]; have := n1b (j + 2) v (by rw [hrow]; exact hv); rw [Nat.zero_add] at this; exact this
  have HD2 : Hid (((w.alloc (.cells row.toArray 40)).alloc (.cells row'.toArray 40)).rangeAt (w.heap.size + 1) 2 ds') := fun j v hv => by rw [Nat.add_comm 2 j]; have := n2 (j + 2) v (by rw [hrow']; exact hv); rw [Nat.zero_add] at this; exact this
  have HUD := hide Try.underlying38
  have HID1 : Hid ((Try.prog.info? 38).map (·.size) = some ds.length) := by unfold Hid; rw [hz1]; exact infoData
  have HID2 : Hid ((Try.prog.info? 38).map (·.size) = some ds'.length) := by unfold Hid; rw [hz2]; exact infoData
  clear h h' hl hl' hk1 hk2 hz1 hz2 n1 n1b n2 hsz hrow hrow'
  go_enter Try.func15, Try.ntmps15
  go_upto_region 1 with fail
  generalize (w.alloc (.cells row.toArray 40)).alloc (.cells row'.toArray 40) = W0 at *
  by_cases hx : x = x'
  · subst hx
    refine wp_region_list ?_
    refine wpList_tail (pre := [{ dst := some 5, op := Go.Op.fieldAddr 40 (Go.Operand.tmp 2) 0, type := 0, pos := "valid.go:64", after := #[], guard := none }, { dst := some 6, op := Go.Op.load 3 (Go.Operand.tmp 5), type := 3, pos := "valid.go:64", after := #[{ on := 0, ground := Go.Ground.data }], guard := none }, { dst := some 7, op := Go.Op.fieldAddr 40 (Go.Operand.tmp 3) 0, type := 0, pos := "valid.go:64", after := #[], guard := none }, { dst := some 8, op := Go.Op.load 3 (Go.Operand.tmp 7), type := 3, pos := "valid.go:64", after := #[{ on := 2, ground := Go.Ground.data }], guard := none }, { dst := some 9, op := Go.Op.binOp Go.BinOp.eql 3 (Go.Operand.tmp 6) (Go.Operand.tmp 8) 3, type := 4, pos := "valid.go:64", after := #[{ on := 1, ground := Go.Ground.data }, { on := 3, ground := Go.Ground.data }], guard := none }, { dst := some 10, op := Go.Op.move (Go.Operand.tmp 9), type := 4, pos := "valid.go:64", after := #[{ on := 4, ground := Go.Ground.data }], guard := none }, { dst := some 11, op := Go.Op.fieldAddr 40 (Go.Operand.tmp 2) 2, type := 0, pos := "valid.go:64", after := #[{ on := 5, ground := Go.Ground.guard }], guard := some (5, true) }]) _ ?_
    intro tl htl
    have HTL := hide htl
    clear htl
    simp only [List.cons_append, List.nil_append]
    go_wp2_with fail
    have htl := HTL.out
    clear HTL
    subst htl
    refine wpList_load_g (op := { dst := some 12, op := Go.Op.load 38 (Go.Operand.tmp 11), type := 38, pos := "valid.go:64", after := #[{ on := 6, ground := Go.Ground.data }, { on := 5, ground := Go.Ground.guard }], guard := some (5, true) }) (by rfl) 38 (.tmp 11) rfl w.heap.size (2) rfl ds _ HD1.out HUD.out rfl HID1.out ?_
    simp only [Act.put, List.setIfInBounds_toArray, List.set_cons_zero, List.set_cons_succ]
    refine wpList_tail (pre := [{ dst := some 13, op := Go.Op.fieldAddr 40 (Go.Operand.tmp 3) 2, type := 0, pos := "valid.go:64", after := #[{ on := 5, ground := Go.Ground.guard }], guard := some (5, true) }]) _ ?_
    intro tl htl
    have HTL := hide htl
    clear htl
    simp only [List.cons_append, List.nil_append]
    go_wp2_with fail
    have htl := HTL.out
    clear HTL
    subst htl
    refine wpList_load_g (op := { dst := some 14, op := Go.Op.load 38 (Go.Operand.tmp 13), type := 38, pos := "valid.go:64", after := #[{ on := 8, ground := Go.Ground.data }, { on := 5, ground := Go.Ground.guard }], guard := some (5, true) }) (by rfl) 38 (.tmp 13) rfl (w.heap.size + 1) (2) rfl ds' _ HD2.out HUD.out rfl HID2.out ?_
    simp only [Act.put, List.setIfInBounds_toArray, List.set_cons_zero, List.set_cons_succ]
    refine wpList_run_g (op := { dst := some 15, op := Go.Op.binOp Go.BinOp.eql 38 (Go.Operand.tmp 12) (Go.Operand.tmp 14) 38, type := 4, pos := "valid.go:64", after := #[{ on := 7, ground := Go.Ground.data }, { on := 9, ground := Go.Ground.data }, { on := 5, ground := Go.Ground.guard }], guard := some (5, true) }) (by rfl) (.bool (eqb Classical.propDecidable (ld = ld'))) (eql_data HK1.out HK2.out HZ1.out HZ2.out _ (.tmp 12) (.tmp 14) rfl rfl _ _ rfl _) ?_
    simp only [Act.put, List.setIfInBounds_toArray, List.set_cons_zero, List.set_cons_succ]
    go_wp2
    go_ret
    exact ⟨ret_bool (eqb_congr ⟨fun h => HPK.out.2 ⟨by simp, h⟩, fun h => (HPK.out.1 h).2⟩), HB0.out⟩
  · have hne : (x == x') = false := by rw [beq_eq_false_iff_ne]; exact hx
    have HX : Hid (¬ x = x') := hx
    clear hx
    go_wp2
    go_ret
    exact ⟨ret_bool (eqb_no (fun h => HX.out (HPK.out.1 h).1)).symm, HB0.out⟩
end Go.Proofs.Ytkjbcnlhallcdaa
