/-
  The law's own small memory: two pages, three instructions in the first.
-/
import Derived.Test.YteopkgjkbhcicaaDoorIsFet
import Derived.Test.YteopkgjkbhcicaaDoorPgUpd
namespace Go.Proofs.YteopkgjkbhcicaaDoor
open Go.RowKit FerryCrc
set_option linter.unusedVariables false
set_option linter.unusedSimpArgs false

theorem wpList_bs {P : Program} {w w' : World} {ops : Array Oper} {rest : List Oper} {o : Oper} {a : Act} {Q : Exit → Act → World → Prop} (hgd : o.guard = none) (t : TypeId) (x0 x1 : Operand) (ho : o.op = .buildSlice t 2 #[(0, x0), (1, x1)])
    (v0 v1 : Value) (h0 : a.eval x0 = v0) (h1 : a.eval x1 = v1) (v : Value) (hrun : (Instr.buildSlice t 2 #[(0, v0), (1, v1)]).run P w = .ok v w')
    (h : wpList P ops Q rest (a.put o.dst v) w') : wpList P ops Q (o :: rest) a w := by
  refine wpList_plain hgd fun K hK => ?_
  unfold Oper.wp
  simp only [execOp, ho, List.map_toArray, List.map_cons, List.map_nil, h0, h1, Sem.run_bind, hrun, Result.andThen_ok, Sem.run_pure]
  exact hK _ _ h

def code12 : List Nat := [16, 16, 0, 5, 35, 16, 0, 64, 64, 0, 0, 3]
def dat (k : Nat) : List Nat := code12.take k ++ List.replicate (64 - k) 0
def mem (k : Nat) : List Pg := [⟨5, false, dat k⟩, ⟨3, false, List.replicate 64 0⟩]
theorem dat_len {k : Nat} (h : k ≤ 12) : (dat k).length = 64 := by
  have : code12.length = 12 := rfl
  simp [dat, this]
  omega
theorem dat_lt (k : Nat) : ∀ c ∈ dat k, c < 256 := by
  intro c hc
  rcases List.mem_append.1 hc with h | h
  · have h2 := List.mem_of_mem_take h
    simp [code12] at h2
    omega
  · rw [List.eq_of_mem_replicate h]
    decide
theorem mem_ok {k : Nat} (h : k ≤ 12) : Oks (mem k) := by
  intro p hp
  simp only [mem, List.mem_cons, List.not_mem_nil, or_false] at hp
  rcases hp with rfl | rfl
  · exact ⟨by show (-9223372036854775808 : Int) ≤ 5; decide, by show (5 : Int) ≤ 9223372036854775807; decide, dat_len h, dat_lt k⟩
  · exact ⟨by show (-9223372036854775808 : Int) ≤ 3; decide, by show (3 : Int) ≤ 9223372036854775807; decide, by show (List.replicate 64 0).length = 64; decide, by show ∀ c ∈ List.replicate 64 0, c < 256; decide⟩
theorem dat_succ : ∀ k, k < 12 → dat (k + 1) = (dat k).set k (code12.getD k 0) := by decide
theorem cells_put (r : Int) (d : Bool) (l : List Nat) (k c : Nat) : (⟨r, d, l.set k c⟩ : Pg).cells = (⟨r, d, l⟩ : Pg).cells.set (2 + k) (.int .u8 (c : Int)) := by
  rw [Nat.add_comm]
  simp [Pg.cells, Pg.row, List.map_set, bv]
def zPage : Array Value := (⟨0, false, List.replicate 64 0⟩ : Pg).cells.toArray
theorem zero_page (w : World) : (zeroValue 47).run Tryd.prog w = .ok (.agg zPage) w := by kernel_rfl
theorem zPage_ne : zPage ≠ #[] := by decide
theorem build_mem (w : World) : (Instr.buildSlice 22 2 #[(0, .agg (zPage.setIfInBounds 0 (.int .i64 5))), (1, .agg (zPage.setIfInBounds 0 (.int .i64 3)))]).run Tryd.prog w = .ok (.slice (some ⟨w.heap.size, 0, none⟩) 2 2) (w.alloc (.cells (flat (mem 0)).toArray 47)) := by kernel_rfl
theorem own_mem (w : World) : POwn (w.alloc (.cells (flat (mem 0)).toArray 47)) w.heap.size (.slice (some ⟨w.heap.size, 0, none⟩) 2 2) (mem 0) :=
  World.ownsRow_lit w (flat (mem 0)).toArray 2 (Nat.le_refl _) (by decide) (by kernel_rfl)
theorem mem_cell {w : World} {base g k j : Nat} {p : Pg} (h : POwn w base (.slice (some ⟨g, 0, none⟩) 2 2) (mem k)) (hk : k ≤ 12) (hp : (mem k)[0]? = some p) (hj : j < 66) : w.cell? ⟨g, j, none⟩ = p.cells[j]? ∧ w.frozen? ⟨g, j, none⟩ = false := by
  refine ⟨?_, World.ownsRow.frozenAt h _⟩
  have h1 := flat_get (mem_ok hk) (k := 0) j hp hj
  rw [Nat.zero_mul, Nat.zero_add] at h1
  rw [World.ownsRow.cellAt h j (by show j < 2 * 66; omega), h1]

set_option maxRecDepth 100000 in
set_option maxHeartbeats 4000000 in
theorem memory_any (w : World) : Calls Tryd.prog 19 #[] w fun e w' => e = .returned (.slice (some ⟨w.heap.size, 0, none⟩) 2 2) ∧ POwn w' w.heap.size (.slice (some ⟨w.heap.size, 0, none⟩) 2 2) (mem 12) ∧ Below w.heap.size w w' := by
  have HB := hide (build_mem w)
  have HO := hide (own_mem w)
  have D0 : Hid (Below w.heap.size w (w.alloc (.cells (flat (mem 0)).toArray 47))) := (Below.refl _ _).alloc (Nat.le_refl _) _
  have HS : Hid ((w.alloc (.cells (flat (mem 0)).toArray 47)).heap.size = w.heap.size + 1) := by unfold Hid; simp
  generalize w.alloc (.cells (flat (mem 0)).toArray 47) = w0 at *
  have hzp := zero_page
  have hne := zPage_ne
  generalize zPage = Z at *
  go_enter Tryd.func19, Tryd.ntmps19
  go_wp2_with (first | (refine wpList_bs rfl 22 (.tmp 5) (.tmp 6) rfl (.agg (Z.setIfInBounds 0 (.int .i64 5))) (.agg (Z.setIfInBounds 0 (.int .i64 3))) rfl rfl _ HB.out ?_) | fail)
  clear HB hzp hne
  have hB1 : Below w0.heap.size w0 (w0.alloc (.cells #[.int .u8 16, .int .u8 16, .int .u8 0, .int .u8 5, .int .u8 35, .int .u8 16, .int .u8 0, .int .u8 64, .int .u8 64, .int .u8 0, .int .u8 0, .int .u8 3] 5)) := (Below.refl _ _).alloc (Nat.le_refl _) _
  have HO1 := hide (HO.out.below hB1)
  have D1 := hide (D0.out.trans (hB1.mono (by rw [HS.out]; omega)))
  have HC : Hid (∀ j c : Nat, code12[j]? = some c → (w0.alloc (.cells #[.int .u8 16, .int .u8 16, .int .u8 0, .int .u8 5, .int .u8 35, .int .u8 16, .int .u8 0, .int .u8 64, .int .u8 64, .int .u8 0, .int .u8 0, .int .u8 3] 5)).cell? ⟨w0.heap.size, j, none⟩ = some (.int .u8 (c : Int))) := fun j c hj => by
    rw [World.cell?_alloc_at _ _ _ _ rfl]
    have hj2 : j < 12 := (List.getElem?_eq_some_iff.1 hj).1
    rcases (by omega : j = 0 ∨ j = 1 ∨ j = 2 ∨ j = 3 ∨ j = 4 ∨ j = 5 ∨ j = 6 ∨ j = 7 ∨ j = 8 ∨ j = 9 ∨ j = 10 ∨ j = 11) with rfl | rfl | rfl | rfl | rfl | rfl | rfl | rfl | rfl | rfl | rfl | rfl
    all_goals
      obtain rfl := Option.some.inj hj
      rfl
  clear hB1 HO D0
  generalize w0.alloc (.cells #[.int .u8 16, .int .u8 16, .int .u8 0, .int .u8 5, .int .u8 35, .int .u8 16, .int .u8 0, .int .u8 64, .int .u8 64, .int .u8 0, .int .u8 0, .int .u8 3] 5) = w1 at *
  have HNE : Hid (w0.heap.size ≠ w.heap.size) := by unfold Hid; rw [HS.out]; omega
  clear HS
  generalize w0.heap.size = h1 at *
  go_loopw [11] (fun i wr => ∃ k : Nat, k ≤ 12 ∧ i = .int .i64 (k : Int) ∧ Hid (POwn wr w.heap.size (.slice (some ⟨w.heap.size, 0, none⟩) 2 2) (mem k)) ∧ Hid (∀ j c : Nat, code12[j]? = some c → wr.cell? ⟨h1, j, none⟩ = some (.int .u8 (c : Int))) ∧ Hid (Below w.heap.size w wr)) (fun i _ => 12 - (intOf i).toNat)
  case atStart => exact ⟨0, by omega, rfl, HO1.out, HC.out, D1.out⟩
  case round =>
    obtain ⟨k, hk, rfl, hown, hcs, hbl⟩ := hrel
    by_cases hlt : k < 12
    · obtain ⟨c, hc⟩ : ∃ c, code12[k]? = some c := ⟨_, List.getElem?_eq_getElem hlt⟩
      have r0 := hcs.out k c hc
      have k12 : (k : Int) < 12 := by omega
      have k64 : (k : Int) < 64 := by omega
      have hp : (mem k)[0]? = some ⟨5, false, dat k⟩ := rfl
      obtain ⟨x0, x1⟩ := mem_cell hown.out hk hp (j := 2 + k) (by omega)
      obtain ⟨u, hu⟩ : ∃ u, (⟨5, false, dat k⟩ : Pg).cells[2 + k]? = some u := ⟨_, List.getElem?_eq_getElem (by rw [(mem_ok hk _ (List.mem_of_getElem? hp)).cells]; omega)⟩
      rw [hu] at x0
      have hst := POwn.stored (l := mem k) hown.out (mem_ok hk) hp (show 2 + k < 66 by omega) (cells_put 5 false (dat k) k c)
      rw [Nat.zero_mul, Nat.zero_add] at hst
      have he : (mem k).set 0 ⟨5, false, (dat k).set k c⟩ = mem (k + 1) := by
        unfold mem
        rw [dat_succ k hlt, List.getD_eq_getElem?_getD, hc]
        rfl
      rw [he] at hst
      have HST := hide hst
      have HLT := hide hlt
      clear hst he hu hc hp hlt
      go_wp2
      go_roundw
      case rel => exact ⟨k + 1, by have := HLT.out; omega, by go_num, HST.out, fun j c hj => by rw [World.cell?_setCell_other _ _ _ _ (by intro h; exact HNE.out (congrArg Addr.block h).symm)]; exact hcs.out j c hj, hbl.out.setCell (Nat.le_refl _) _⟩
      case measure => simp [intOf]; have := HLT.out; omega
    · obtain rfl : k = 12 := by omega
      go_wp2
      go_ret
      exact ⟨rfl, hown.out, hbl.out⟩
end Go.Proofs.YteopkgjkbhcicaaDoor
