/-
  Contracts of the document's rows of bits: Row and Number.
-/
import Derived.Test.YtegkodgondlcmaaDoorBase
import Derived.Test.YtegkodgondlcmaaDoorAlu
import Derived.LoopTactic
import Derived.Laws.Rows
import Derived.Deep.WholeRow
namespace FerryAlu
/-- The number of a row of 32 bits, as far as its highest m bits. -/
def nm (f : Nat → Bool) : Nat → Nat
  | 0 => 0
  | m + 1 => 2 * nm f m + (f (31 - m)).toNat
theorem nm_lt (f : Nat → Bool) (m : Nat) : nm f m < 2 ^ m := by
  induction m with
  | zero => simp [nm]
  | succ m ih =>
    rw [nm, Nat.pow_succ]
    have : (f (31 - m)).toNat ≤ 1 := by cases f (31 - m) <;> decide
    omega
theorem nm_bit (f : Nat → Bool) (m j : Nat) (hm : m ≤ 32) (hj : j < m) : (nm f m).testBit j = f (32 - m + j) := by
  induction m generalizing j with
  | zero => omega
  | succ m ih =>
    rw [nm]
    cases j with
    | zero =>
      rw [show 32 - (m + 1) + 0 = 31 - m by omega, Nat.testBit_zero]
      cases f (31 - m) <;> simp <;> omega
    | succ j =>
      rw [Nat.testBit_succ, show (2 * nm f m + (f (31 - m)).toNat) / 2 = nm f m by cases f (31 - m) <;> simp <;> omega, ih j (by omega) (by omega)]
      congr 1
      omega
theorem nm_testBit (f : Nat → Bool) (i : Nat) : (nm f 32).testBit i = (decide (i < 32) && f i) := by
  by_cases h : i < 32
  · rw [nm_bit f 32 i (by omega) h]
    simp [h]
  · rw [Nat.testBit_lt_two_pow (Nat.lt_of_lt_of_le (nm_lt f 32) (Nat.pow_le_pow_right (by decide) (by omega)))]
    simp [h]
theorem nm_eq {f : Nat → Bool} {x : Nat} (hx : x < 4294967296) (h : ∀ i, i < 32 → f i = x.testBit i) : nm f 32 = x := by
  apply Nat.eq_of_testBit_eq
  intro i
  rw [nm_testBit]
  by_cases hi : i < 32
  · simp [hi, h i hi]
  · rw [Nat.testBit_lt_two_pow (Nat.lt_of_lt_of_le hx (Nat.pow_le_pow_right (n := 2) (i := 32) (by decide) (by omega)))]
    simp [hi]
end FerryAlu
namespace Go.Proofs.YtegkodgondlcmaaDoor
open Go.RowKit FerryAlu
set_option linter.unusedVariables false

/-- A row of 32 bits as memory holds it, the bits from 0 to k - 1 laid. -/
def Tb (f : Nat → Bool) : Nat → Array Value
  | 0 => #[.bool false, .bool false, .bool false, .bool false, .bool false, .bool false, .bool false, .bool false, .bool false, .bool false, .bool false, .bool false, .bool false, .bool false, .bool false, .bool false, .bool false, .bool false, .bool false, .bool false, .bool false, .bool false, .bool false, .bool false, .bool false, .bool false, .bool false, .bool false, .bool false, .bool false, .bool false, .bool false]
  | k + 1 => (Tb f k).setIfInBounds k (.bool (f k))
theorem Tb_size (f : Nat → Bool) (k : Nat) : (Tb f k).size = 32 := by
  induction k with
  | zero => rfl
  | succ k ih => rw [Tb, Array.size_setIfInBounds, ih]
theorem Tb_get (f : Nat → Bool) (k i : Nat) (hi : i < k) (hk : k ≤ 32) : (Tb f k)[i]? = some (.bool (f i)) := by
  induction k with
  | zero => omega
  | succ k ih =>
    rw [Tb, Array.getElem?_setIfInBounds]
    by_cases e : k = i
    · subst e
      rw [if_pos rfl, Tb_size, if_pos (by omega)]
    · rw [if_neg e]
      exact ih (by omega) (by omega)
theorem Tb_bool (f : Nat → Bool) (k : Nat) : ∀ v ∈ Tb f k, ∃ b, v = .bool b := by
  induction k with
  | zero =>
    intro v hv
    simp [Tb] at hv
    exact ⟨false, hv⟩
  | succ k ih =>
    intro v hv
    rw [Tb] at hv
    rcases Array.mem_or_eq_of_mem_setIfInBounds hv with h | h
    · exact ih v h
    · exact ⟨_, h⟩
theorem Tb_all (f : Nat → Bool) (k : Nat) : (Tb f k).all (·.oneCell') = true := by
  rw [Array.all_eq_true_iff_forall_mem]
  intro v hv
  obtain ⟨b, rfl⟩ := Tb_bool f k v hv
  rfl
theorem Tb_congr {f g : Nat → Bool} (k : Nat) (h : ∀ i, i < k → f i = g i) : Tb f k = Tb g k := by
  induction k with
  | zero => rfl
  | succ k ih => rw [Tb, Tb, ih (fun i hi => h i (by omega)), h k (by omega)]
theorem info62 : (Tryd.prog.info? 102).map (·.size) = some 32 := by kernel_rfl

theorem row_any (x : Nat) (w : World) (hx : x < 4294967296) :
    Calls Tryd.prog 52 #[.int .u32 (x : Int)] w fun e w' => e = .returned (.agg (Tb x.testBit 32)) ∧ Below w.heap.size w w' := by
  go_enter Tryd.func52, Tryd.ntmps52
  go_wp2
  go_loopw [4, 5] (fun n i wr => ∃ k : Nat, k ≤ 32 ∧ n = .int .i64 ((x / 2 ^ k : Nat) : Int) ∧ i = .int .i64 (k : Int) ∧ wr = (w.alloc (.cells (Tb x.testBit 0) 102)).alloc (.cells (Tb x.testBit k) 102)) (fun _ i _ => 32 - (intOf i).toNat)
  case atStart => exact ⟨0, by omega, by simp, rfl, rfl⟩
  case round =>
    obtain ⟨k, hk, rfl, rfl, rfl⟩ := hrel
    have hs := Tb_size x.testBit k
    by_cases hlt : k < 32
    · have HT : Hid (Tb x.testBit (k + 1) = (Tb x.testBit k).setIfInBounds k (.bool (x.testBit k))) := rfl
      have hd : x / 2 ^ (k + 1) = x / 2 ^ k / 2 := by rw [Nat.pow_succ, Nat.div_div_eq_div_mul]
      have hb0 : x.testBit k = decide (x / 2 ^ k % 2 = 1) := Nat.testBit_eq_decide_div_mod_eq
      have hl : x / 2 ^ k < 4294967296 := Nat.lt_of_le_of_lt (Nat.div_le_self _ _) hx
      generalize Tb x.testBit k = T at *
      generalize x.testBit k = bt at *
      generalize x / 2 ^ k = y at *
      have hb : ((y : Int) % 2 == 1) = bt := by
        rw [hb0, Bool.eq_iff_iff, beq_iff_eq, decide_eq_true_iff]
        omega
      have hq : (y : Int).tdiv 2 = ((y / 2 : Nat) : Int) := by rw [Int.tdiv_eq_ediv_of_nonneg (by omega)]; omega
      have HZ := hide hd
      have hw : wrap64 ((y / 2 : Nat) : Int) = ((y / 2 : Nat) : Int) := by unfold wrap64; omega
      generalize y / 2 = z at *
      clear hb0 hd
      go_wp2
      go_roundw
      case rel => exact ⟨k + 1, by omega, by rw [HZ.out, hw], by go_num, by rw [HT.out]⟩
      case measure => simp [intOf]; omega
    · obtain rfl : k = 32 := by omega
      obtain ⟨T, hT⟩ : ∃ T, Tb x.testBit 32 = T := ⟨_, rfl⟩
      rw [hT] at hs ⊢
      obtain ⟨Z, hZ⟩ : ∃ Z, Tb x.testBit 0 = Z := ⟨_, rfl⟩
      have hz := Tb_size x.testBit 0
      rw [hZ] at hz ⊢
      have hall := Tb_all x.testBit 32
      rw [hT] at hall
      have hg1 : ((w.alloc (.cells Z 102)).alloc (.cells T 102)).heap[w.heap.size + 1]? = some (.cells T 102 (0, 0)) := heap_alloc2_new w _ _
      have hg0 : ((w.alloc (.cells Z 102)).alloc (.cells T 102)).heap[w.heap.size]? = some (.cells Z 102 (0, 0)) := heap_alloc2_old w _ _
      have hbel : Below w.heap.size w ((w.alloc (.cells Z 102)).alloc (.cells T 102)) := ((Below.refl _ _).alloc (Nat.le_refl _) _).alloc (by simp) _
      have HG0 := hide hg0
      have HG1 := hide hg1
      have HB := hide hbel
      have hi : (Tryd.prog.info? 102).map (·.size) = some T.size := by rw [hs]; exact info62
      have HI := hide hi
      clear hi hbel hg0 hg1
      generalize (w.alloc (.cells Z 102)).alloc (.cells T 102) = W at *
      go_wp2_with (first | refine wpList_load_row rfl 102 _ rfl (w.heap.size + 1) rfl 102 T (0, 0) _ HG1.out Tryd.underlying102 rfl HI.out ?_ | refine wpList_store_row rfl 102 _ _ rfl w.heap.size T rfl rfl 102 Z HG0.out HI.out (hz.trans hs.symm) hall ?_)
      refine bodyPost_ret (results_cell_row rfl _ _ w.heap.size 102 T (0, 0) _ rfl (setRow_heap _ _ _ _ _ _ HG0.out) Tryd.underlying102 rfl HI.out) rfl ?_
      exact ⟨by rw [hT], below_setRow (Nat.le_refl _) _ HB.out⟩

set_option maxRecDepth 100000 in
theorem rnumber_any (f : Nat → Bool) (w : World) :
    Calls Tryd.prog 56 #[.agg (Tb f 32)] w fun e w' => e = .returned (.int .u32 (nm f 32 : Nat)) ∧ Below w.heap.size w w' := by
  have hs := Tb_size f 32
  obtain ⟨T, hT⟩ : ∃ T, Tb f 32 = T := ⟨_, rfl⟩
  have hget := Tb_get f 32
  rw [hT] at hs hget ⊢
  have HG := hide hget
  clear hget
  go_enter Tryd.func56, Tryd.ntmps56
  go_wp2
  have HC : Hid (∀ i, i < 32 → (w.alloc (.cells T 102)).cell? ⟨w.heap.size, i, none⟩ = some (.bool (f i))) := fun i hi => by
    rw [World.cell?_alloc_at _ _ _ _ rfl]
    exact HG.out i hi (by decide)
  have HB : Hid (Below w.heap.size w (w.alloc (.cells T 102))) := (Below.refl _ _).alloc (Nat.le_refl _) _
  generalize w.alloc (.cells T 102) = W at *
  go_loop [3, 4] (fun n i => ∃ t : Nat, t ≤ 32 ∧ n = .int .i64 (nm f (32 - t) : Nat) ∧ i = .int .i64 ((t : Int) - 1)) (fun _ i => ((intOf i) + 1).toNat)
  case atStart => exact ⟨32, by omega, rfl, rfl⟩
  case round =>
    obtain ⟨t, ht, rfl, rfl⟩ := hrel
    cases t with
    | succ k =>
      rw [show ((k + 1 : Nat) : Int) - 1 = (k : Int) by omega]
      have hk : k < 32 := by omega
      have hn : nm f (32 - (k + 1)) < 2 ^ (32 - (k + 1)) := nm_lt f _
      have hp : 2 ^ (32 - (k + 1)) ≤ 2147483648 := Nat.pow_le_pow_right (n := 2) (j := 31) (by decide) (by omega)
      have HN : Hid (nm f (32 - k) = 2 * nm f (32 - (k + 1)) + (f k).toNat) := by
        unfold Hid
        rw [show 32 - k = (32 - (k + 1)) + 1 by omega, nm, show 31 - (32 - (k + 1)) = k by omega]
      have hc := HC.out k hk
      generalize nm f (32 - (k + 1)) = v at *
      have hv : v < 2147483648 := by omega
      have hw : wrap64 (2 * (v : Int)) = 2 * (v : Int) := by unfold wrap64; omega
      have hw1 : wrap64 (2 * (v : Int) + 1) = 2 * (v : Int) + 1 := by unfold wrap64; omega
      clear hn hp
      generalize f k = bt at *
      cases bt
      · go_wp2
        go_round
        case rel => exact ⟨k, by omega, by rw [HN.out]; simp, by go_num⟩
        case measure => simp [intOf]
      · go_wp2
        go_round
        case rel => exact ⟨k, by omega, by rw [HN.out]; simp, by go_num⟩
        case measure => simp [intOf]
    | zero =>
      have hl := nm_lt f 32
      obtain ⟨v, hv⟩ : ∃ v, nm f 32 = v := ⟨_, rfl⟩
      rw [hv] at hl
      rw [show 32 - 0 = 32 by decide, hv]
      go_wp2
      go_ret
      exact ⟨rfl, HB.out⟩

theorem Tb_set (f : Nat → Bool) (k : Nat) (v : Bool) (hk : k < 32) : (Tb f 32).setIfInBounds k (.bool v) = Tb (fun i => if i = k then v else f i) 32 := by
  apply Array.ext_getElem?
  intro i
  rw [Array.getElem?_setIfInBounds, Tb_size]
  by_cases hi : i < 32
  · by_cases e : k = i
    · subst e
      rw [if_pos rfl, if_pos hk, Tb_get _ 32 k hk (by decide), if_pos rfl]
    · rw [if_neg e, Tb_get _ 32 i hi (by decide), Tb_get _ 32 i hi (by decide), if_neg (fun h => e h.symm)]
  · rw [if_neg (by omega)]
    have h1 : (Tb f 32)[i]? = none := by rw [Array.getElem?_eq_none_iff, Tb_size]; omega
    have h2 : (Tb (fun i => if i = k then v else f i) 32)[i]? = none := by rw [Array.getElem?_eq_none_iff, Tb_size]; omega
    rw [h1, h2]

/-- A block of memory that holds a row of 32 bits. -/
def Rw (w : World) (g : Nat) (f : Nat → Bool) : Prop := w.heap[g]? = some (.cells (Tb f 32) 102 (0, 0))
theorem Rw.cell {w : World} {g : Nat} {f : Nat → Bool} (h : Rw w g f) (i : Nat) (hi : i < 32) : w.cell? ⟨g, i, none⟩ = some (.bool (f i)) := by
  rw [cell_of_row w g i _ _ _ h]
  exact Tb_get f 32 i hi (by decide)
theorem Rw.frozen {w : World} {g : Nat} {f : Nat → Bool} (h : Rw w g f) (i : Nat) : w.frozen? ⟨g, i, none⟩ = false := frozen_of_row w g i _ _ h
theorem Rw.congr {w : World} {g : Nat} {f f' : Nat → Bool} (h : Rw w g f) (e : ∀ i, i < 32 → f i = f' i) : Rw w g f' := by
  unfold Rw at *
  rw [← Tb_congr 32 e]
  exact h
theorem Rw.set {w : World} {g : Nat} {f : Nat → Bool} (h : Rw w g f) (k : Nat) (v : Bool) (hk : k < 32) : Rw (w.setCell ⟨g, k, none⟩ (.bool v)) g (fun i => if i = k then v else f i) := by
  unfold Rw at *
  rw [heap_setCell_same w g k _ _ _ h, Tb_set f k v hk]
theorem Rw.other {w : World} {g : Nat} {f : Nat → Bool} (h : Rw w g f) (a : Addr) (v : Value) (hg : g ≠ a.block) : Rw (w.setCell a v) g f := by
  unfold Rw at *
  rw [heap_setCell_other w a g v hg]
  exact h
theorem Rw.lt {w : World} {g : Nat} {f : Nat → Bool} (h : Rw w g f) : g < w.heap.size := (Array.getElem?_eq_some_iff.1 h).1
theorem Rw.below {w w' : World} {g : Nat} {f : Nat → Bool} (h : Rw w g f) (hb : Below w.heap.size w w') : Rw w' g f := by
  unfold Rw at *
  rw [hb.block g (Rw.lt h)]
  exact h
theorem Rw.alloc {w : World} {g : Nat} {f : Nat → Bool} (h : Rw w g f) (o : Obj) : Rw (w.alloc o) g f := by
  unfold Rw at *
  rw [((Below.refl w.heap.size w).alloc (Nat.le_refl _) o).block g (Rw.lt h)]
  exact h
theorem Rw.new (w : World) (f : Nat → Bool) : Rw (w.alloc (.cells (Tb f 32) 102)) w.heap.size f := heap_alloc_new w _
theorem Tb_false : Tb (fun _ => false) 32 = Tb (fun _ => false) 0 := by kernel_rfl
theorem Rw.zero (w : World) : Rw (w.alloc (.cells (Tb (fun _ => false) 0) 102)) w.heap.size (fun _ => false) := by
  unfold Rw
  rw [Tb_false]
  exact heap_alloc_new w _
theorem size62 (f : Nat → Bool) : (Tryd.prog.info? 102).map (·.size) = some (Tb f 32).size := by rw [Tb_size]; exact info62
theorem Rw.lay {w : World} {g : Nat} {f : Nat → Bool} (h : Rw w g f) (f' : Nat → Bool) : Rw (w.setRow g (Tb f' 32)) g f' := setRow_heap _ _ _ _ _ _ h
theorem zero_heap (w : World) : (w.alloc (.cells #[.bool false, .bool false, .bool false, .bool false, .bool false, .bool false, .bool false, .bool false, .bool false, .bool false, .bool false, .bool false, .bool false, .bool false, .bool false, .bool false, .bool false, .bool false, .bool false, .bool false, .bool false, .bool false, .bool false, .bool false, .bool false, .bool false, .bool false, .bool false, .bool false, .bool false, .bool false, .bool false] 102)).heap[w.heap.size]? = some (.cells #[.bool false, .bool false, .bool false, .bool false, .bool false, .bool false, .bool false, .bool false, .bool false, .bool false, .bool false, .bool false, .bool false, .bool false, .bool false, .bool false, .bool false, .bool false, .bool false, .bool false, .bool false, .bool false, .bool false, .bool false, .bool false, .bool false, .bool false, .bool false, .bool false, .bool false, .bool false, .bool false] 102 (0, 0)) := heap_alloc_new w _
theorem zero_size {T : Array Value} (h : T.size = 32) : ((#[.bool false, .bool false, .bool false, .bool false, .bool false, .bool false, .bool false, .bool false, .bool false, .bool false, .bool false, .bool false, .bool false, .bool false, .bool false, .bool false, .bool false, .bool false, .bool false, .bool false, .bool false, .bool false, .bool false, .bool false, .bool false, .bool false, .bool false, .bool false, .bool false, .bool false, .bool false, .bool false] : Array Value)).size = T.size := by rw [h]; rfl
theorem zero_lay (w : World) (T : Array Value) : (w.alloc (.cells #[.bool false, .bool false, .bool false, .bool false, .bool false, .bool false, .bool false, .bool false, .bool false, .bool false, .bool false, .bool false, .bool false, .bool false, .bool false, .bool false, .bool false, .bool false, .bool false, .bool false, .bool false, .bool false, .bool false, .bool false, .bool false, .bool false, .bool false, .bool false, .bool false, .bool false, .bool false, .bool false] 102)).setRow w.heap.size T = w.alloc (.cells T 102) := World.setRow_alloc_new w _ T _
theorem zero_row (w : World) : Rw (w.alloc (.cells #[.bool false, .bool false, .bool false, .bool false, .bool false, .bool false, .bool false, .bool false, .bool false, .bool false, .bool false, .bool false, .bool false, .bool false, .bool false, .bool false, .bool false, .bool false, .bool false, .bool false, .bool false, .bool false, .bool false, .bool false, .bool false, .bool false, .bool false, .bool false, .bool false, .bool false, .bool false, .bool false] 102)) w.heap.size (fun _ => false) := Rw.zero w
theorem zero_after {w1 : World} {T : Array Value} {f : Nat → Bool} (h : Rw (w1.alloc (.cells T 102)) w1.heap.size f) :
    Rw ((w1.alloc (.cells T 102)).alloc (.cells #[.bool false, .bool false, .bool false, .bool false, .bool false, .bool false, .bool false, .bool false, .bool false, .bool false, .bool false, .bool false, .bool false, .bool false, .bool false, .bool false, .bool false, .bool false, .bool false, .bool false, .bool false, .bool false, .bool false, .bool false, .bool false, .bool false, .bool false, .bool false, .bool false, .bool false, .bool false, .bool false] 102)) w1.heap.size f ∧ Rw ((w1.alloc (.cells T 102)).alloc (.cells #[.bool false, .bool false, .bool false, .bool false, .bool false, .bool false, .bool false, .bool false, .bool false, .bool false, .bool false, .bool false, .bool false, .bool false, .bool false, .bool false, .bool false, .bool false, .bool false, .bool false, .bool false, .bool false, .bool false, .bool false, .bool false, .bool false, .bool false, .bool false, .bool false, .bool false, .bool false, .bool false] 102)) (w1.heap.size + 1) (fun _ => false) := by
  refine ⟨h.alloc _, ?_⟩
  have := zero_row (w1.alloc (.cells T 102))
  rw [show (w1.alloc (.cells T 102)).heap.size = w1.heap.size + 1 by simp] at this
  exact this
theorem zero2_a (w : World) : ((w.alloc (.cells #[.bool false, .bool false, .bool false, .bool false, .bool false, .bool false, .bool false, .bool false, .bool false, .bool false, .bool false, .bool false, .bool false, .bool false, .bool false, .bool false, .bool false, .bool false, .bool false, .bool false, .bool false, .bool false, .bool false, .bool false, .bool false, .bool false, .bool false, .bool false, .bool false, .bool false, .bool false, .bool false] 102)).alloc (.cells #[.bool false, .bool false, .bool false, .bool false, .bool false, .bool false, .bool false, .bool false, .bool false, .bool false, .bool false, .bool false, .bool false, .bool false, .bool false, .bool false, .bool false, .bool false, .bool false, .bool false, .bool false, .bool false, .bool false, .bool false, .bool false, .bool false, .bool false, .bool false, .bool false, .bool false, .bool false, .bool false] 102)).heap[w.heap.size]? = some (.cells #[.bool false, .bool false, .bool false, .bool false, .bool false, .bool false, .bool false, .bool false, .bool false, .bool false, .bool false, .bool false, .bool false, .bool false, .bool false, .bool false, .bool false, .bool false, .bool false, .bool false, .bool false, .bool false, .bool false, .bool false, .bool false, .bool false, .bool false, .bool false, .bool false, .bool false, .bool false, .bool false] 102 (0, 0)) := heap_alloc2_old w _ _
theorem zero2_b (w : World) (T : Array Value) : (((w.alloc (.cells #[.bool false, .bool false, .bool false, .bool false, .bool false, .bool false, .bool false, .bool false, .bool false, .bool false, .bool false, .bool false, .bool false, .bool false, .bool false, .bool false, .bool false, .bool false, .bool false, .bool false, .bool false, .bool false, .bool false, .bool false, .bool false, .bool false, .bool false, .bool false, .bool false, .bool false, .bool false, .bool false] 102)).alloc (.cells #[.bool false, .bool false, .bool false, .bool false, .bool false, .bool false, .bool false, .bool false, .bool false, .bool false, .bool false, .bool false, .bool false, .bool false, .bool false, .bool false, .bool false, .bool false, .bool false, .bool false, .bool false, .bool false, .bool false, .bool false, .bool false, .bool false, .bool false, .bool false, .bool false, .bool false, .bool false, .bool false] 102)).setRow w.heap.size T).heap[w.heap.size + 1]? = some (.cells #[.bool false, .bool false, .bool false, .bool false, .bool false, .bool false, .bool false, .bool false, .bool false, .bool false, .bool false, .bool false, .bool false, .bool false, .bool false, .bool false, .bool false, .bool false, .bool false, .bool false, .bool false, .bool false, .bool false, .bool false, .bool false, .bool false, .bool false, .bool false, .bool false, .bool false, .bool false, .bool false] 102 (0, 0)) := by
  rw [setRow_other _ _ _ _ (by omega)]
  exact heap_alloc2_new w _ _
theorem zero2_rows {w : World} {T T2 : Array Value} (f g : Nat → Bool) (hT : Tb f 32 = T) (hT2 : Tb g 32 = T2) :
    Rw ((((w.alloc (.cells #[.bool false, .bool false, .bool false, .bool false, .bool false, .bool false, .bool false, .bool false, .bool false, .bool false, .bool false, .bool false, .bool false, .bool false, .bool false, .bool false, .bool false, .bool false, .bool false, .bool false, .bool false, .bool false, .bool false, .bool false, .bool false, .bool false, .bool false, .bool false, .bool false, .bool false, .bool false, .bool false] 102)).alloc (.cells #[.bool false, .bool false, .bool false, .bool false, .bool false, .bool false, .bool false, .bool false, .bool false, .bool false, .bool false, .bool false, .bool false, .bool false, .bool false, .bool false, .bool false, .bool false, .bool false, .bool false, .bool false, .bool false, .bool false, .bool false, .bool false, .bool false, .bool false, .bool false, .bool false, .bool false, .bool false, .bool false] 102)).setRow w.heap.size T).setRow (w.heap.size + 1) T2) w.heap.size f ∧ Rw ((((w.alloc (.cells #[.bool false, .bool false, .bool false, .bool false, .bool false, .bool false, .bool false, .bool false, .bool false, .bool false, .bool false, .bool false, .bool false, .bool false, .bool false, .bool false, .bool false, .bool false, .bool false, .bool false, .bool false, .bool false, .bool false, .bool false, .bool false, .bool false, .bool false, .bool false, .bool false, .bool false, .bool false, .bool false] 102)).alloc (.cells #[.bool false, .bool false, .bool false, .bool false, .bool false, .bool false, .bool false, .bool false, .bool false, .bool false, .bool false, .bool false, .bool false, .bool false, .bool false, .bool false, .bool false, .bool false, .bool false, .bool false, .bool false, .bool false, .bool false, .bool false, .bool false, .bool false, .bool false, .bool false, .bool false, .bool false, .bool false, .bool false] 102)).setRow w.heap.size T).setRow (w.heap.size + 1) T2) (w.heap.size + 1) g ∧ Below w.heap.size w ((((w.alloc (.cells #[.bool false, .bool false, .bool false, .bool false, .bool false, .bool false, .bool false, .bool false, .bool false, .bool false, .bool false, .bool false, .bool false, .bool false, .bool false, .bool false, .bool false, .bool false, .bool false, .bool false, .bool false, .bool false, .bool false, .bool false, .bool false, .bool false, .bool false, .bool false, .bool false, .bool false, .bool false, .bool false] 102)).alloc (.cells #[.bool false, .bool false, .bool false, .bool false, .bool false, .bool false, .bool false, .bool false, .bool false, .bool false, .bool false, .bool false, .bool false, .bool false, .bool false, .bool false, .bool false, .bool false, .bool false, .bool false, .bool false, .bool false, .bool false, .bool false, .bool false, .bool false, .bool false, .bool false, .bool false, .bool false, .bool false, .bool false] 102)).setRow w.heap.size T).setRow (w.heap.size + 1) T2) := by
  subst hT hT2
  refine ⟨?_, setRow_heap _ _ _ _ _ _ (zero2_b w _), ?_⟩
  · unfold Rw
    rw [setRow_other _ _ _ _ (by omega)]
    exact setRow_heap _ _ _ _ _ _ (zero2_a w)
  · exact below_setRow (by omega) _ (below_setRow (Nat.le_refl _) _ (((Below.refl _ _).alloc (Nat.le_refl _) _).alloc (by simp) _))
theorem zero4 {w : World} {T U : Array Value} (f g : Nat → Bool) (hT : Tb f 32 = T) (hU : Tb g 32 = U) :
    Rw ((((w.alloc (.cells T 102)).alloc (.cells U 102)).alloc (.cells #[.bool false, .bool false, .bool false, .bool false, .bool false, .bool false, .bool false, .bool false, .bool false, .bool false, .bool false, .bool false, .bool false, .bool false, .bool false, .bool false, .bool false, .bool false, .bool false, .bool false, .bool false, .bool false, .bool false, .bool false, .bool false, .bool false, .bool false, .bool false, .bool false, .bool false, .bool false, .bool false] 102)).alloc (.cells #[.bool false, .bool false, .bool false, .bool false, .bool false, .bool false, .bool false, .bool false, .bool false, .bool false, .bool false, .bool false, .bool false, .bool false, .bool false, .bool false, .bool false, .bool false, .bool false, .bool false, .bool false, .bool false, .bool false, .bool false, .bool false, .bool false, .bool false, .bool false, .bool false, .bool false, .bool false, .bool false] 102)) w.heap.size f ∧ Rw ((((w.alloc (.cells T 102)).alloc (.cells U 102)).alloc (.cells #[.bool false, .bool false, .bool false, .bool false, .bool false, .bool false, .bool false, .bool false, .bool false, .bool false, .bool false, .bool false, .bool false, .bool false, .bool false, .bool false, .bool false, .bool false, .bool false, .bool false, .bool false, .bool false, .bool false, .bool false, .bool false, .bool false, .bool false, .bool false, .bool false, .bool false, .bool false, .bool false] 102)).alloc (.cells #[.bool false, .bool false, .bool false, .bool false, .bool false, .bool false, .bool false, .bool false, .bool false, .bool false, .bool false, .bool false, .bool false, .bool false, .bool false, .bool false, .bool false, .bool false, .bool false, .bool false, .bool false, .bool false, .bool false, .bool false, .bool false, .bool false, .bool false, .bool false, .bool false, .bool false, .bool false, .bool false] 102)) (w.heap.size + 1) g ∧ Rw ((((w.alloc (.cells T 102)).alloc (.cells U 102)).alloc (.cells #[.bool false, .bool false, .bool false, .bool false, .bool false, .bool false, .bool false, .bool false, .bool false, .bool false, .bool false, .bool false, .bool false, .bool false, .bool false, .bool false, .bool false, .bool false, .bool false, .bool false, .bool false, .bool false, .bool false, .bool false, .bool false, .bool false, .bool false, .bool false, .bool false, .bool false, .bool false, .bool false] 102)).alloc (.cells #[.bool false, .bool false, .bool false, .bool false, .bool false, .bool false, .bool false, .bool false, .bool false, .bool false, .bool false, .bool false, .bool false, .bool false, .bool false, .bool false, .bool false, .bool false, .bool false, .bool false, .bool false, .bool false, .bool false, .bool false, .bool false, .bool false, .bool false, .bool false, .bool false, .bool false, .bool false, .bool false] 102)) (w.heap.size + 1 + 1) (fun _ => false) ∧ Rw ((((w.alloc (.cells T 102)).alloc (.cells U 102)).alloc (.cells #[.bool false, .bool false, .bool false, .bool false, .bool false, .bool false, .bool false, .bool false, .bool false, .bool false, .bool false, .bool false, .bool false, .bool false, .bool false, .bool false, .bool false, .bool false, .bool false, .bool false, .bool false, .bool false, .bool false, .bool false, .bool false, .bool false, .bool false, .bool false, .bool false, .bool false, .bool false, .bool false] 102)).alloc (.cells #[.bool false, .bool false, .bool false, .bool false, .bool false, .bool false, .bool false, .bool false, .bool false, .bool false, .bool false, .bool false, .bool false, .bool false, .bool false, .bool false, .bool false, .bool false, .bool false, .bool false, .bool false, .bool false, .bool false, .bool false, .bool false, .bool false, .bool false, .bool false, .bool false, .bool false, .bool false, .bool false] 102)) (w.heap.size + 1 + 1 + 1) (fun _ => false) ∧ Below w.heap.size w ((((w.alloc (.cells T 102)).alloc (.cells U 102)).alloc (.cells #[.bool false, .bool false, .bool false, .bool false, .bool false, .bool false, .bool false, .bool false, .bool false, .bool false, .bool false, .bool false, .bool false, .bool false, .bool false, .bool false, .bool false, .bool false, .bool false, .bool false, .bool false, .bool false, .bool false, .bool false, .bool false, .bool false, .bool false, .bool false, .bool false, .bool false, .bool false, .bool false] 102)).alloc (.cells #[.bool false, .bool false, .bool false, .bool false, .bool false, .bool false, .bool false, .bool false, .bool false, .bool false, .bool false, .bool false, .bool false, .bool false, .bool false, .bool false, .bool false, .bool false, .bool false, .bool false, .bool false, .bool false, .bool false, .bool false, .bool false, .bool false, .bool false, .bool false, .bool false, .bool false, .bool false, .bool false] 102)) := by
  subst hT hU
  have h0 := (((Rw.new w f).alloc (.cells (Tb g 32) 102)).alloc (.cells #[.bool false, .bool false, .bool false, .bool false, .bool false, .bool false, .bool false, .bool false, .bool false, .bool false, .bool false, .bool false, .bool false, .bool false, .bool false, .bool false, .bool false, .bool false, .bool false, .bool false, .bool false, .bool false, .bool false, .bool false, .bool false, .bool false, .bool false, .bool false, .bool false, .bool false, .bool false, .bool false] 102)).alloc (.cells #[.bool false, .bool false, .bool false, .bool false, .bool false, .bool false, .bool false, .bool false, .bool false, .bool false, .bool false, .bool false, .bool false, .bool false, .bool false, .bool false, .bool false, .bool false, .bool false, .bool false, .bool false, .bool false, .bool false, .bool false, .bool false, .bool false, .bool false, .bool false, .bool false, .bool false, .bool false, .bool false] 102)
  have h1 := ((Rw.new (w.alloc (.cells (Tb f 32) 102)) g).alloc (.cells #[.bool false, .bool false, .bool false, .bool false, .bool false, .bool false, .bool false, .bool false, .bool false, .bool false, .bool false, .bool false, .bool false, .bool false, .bool false, .bool false, .bool false, .bool false, .bool false, .bool false, .bool false, .bool false, .bool false, .bool false, .bool false, .bool false, .bool false, .bool false, .bool false, .bool false, .bool false, .bool false] 102)).alloc (.cells #[.bool false, .bool false, .bool false, .bool false, .bool false, .bool false, .bool false, .bool false, .bool false, .bool false, .bool false, .bool false, .bool false, .bool false, .bool false, .bool false, .bool false, .bool false, .bool false, .bool false, .bool false, .bool false, .bool false, .bool false, .bool false, .bool false, .bool false, .bool false, .bool false, .bool false, .bool false, .bool false] 102)
  have h2 := (zero_row ((w.alloc (.cells (Tb f 32) 102)).alloc (.cells (Tb g 32) 102))).alloc (.cells #[.bool false, .bool false, .bool false, .bool false, .bool false, .bool false, .bool false, .bool false, .bool false, .bool false, .bool false, .bool false, .bool false, .bool false, .bool false, .bool false, .bool false, .bool false, .bool false, .bool false, .bool false, .bool false, .bool false, .bool false, .bool false, .bool false, .bool false, .bool false, .bool false, .bool false, .bool false, .bool false] 102)
  have h3 := zero_row (((w.alloc (.cells (Tb f 32) 102)).alloc (.cells (Tb g 32) 102)).alloc (.cells #[.bool false, .bool false, .bool false, .bool false, .bool false, .bool false, .bool false, .bool false, .bool false, .bool false, .bool false, .bool false, .bool false, .bool false, .bool false, .bool false, .bool false, .bool false, .bool false, .bool false, .bool false, .bool false, .bool false, .bool false, .bool false, .bool false, .bool false, .bool false, .bool false, .bool false, .bool false, .bool false] 102))
  rw [show (w.alloc (.cells (Tb f 32) 102)).heap.size = w.heap.size + 1 by simp] at h1
  rw [show ((w.alloc (.cells (Tb f 32) 102)).alloc (.cells (Tb g 32) 102)).heap.size = w.heap.size + 1 + 1 by simp] at h2
  rw [show (((w.alloc (.cells (Tb f 32) 102)).alloc (.cells (Tb g 32) 102)).alloc (.cells #[.bool false, .bool false, .bool false, .bool false, .bool false, .bool false, .bool false, .bool false, .bool false, .bool false, .bool false, .bool false, .bool false, .bool false, .bool false, .bool false, .bool false, .bool false, .bool false, .bool false, .bool false, .bool false, .bool false, .bool false, .bool false, .bool false, .bool false, .bool false, .bool false, .bool false, .bool false, .bool false] 102)).heap.size = w.heap.size + 1 + 1 + 1 by simp] at h3
  refine ⟨h0, h1, h2, h3, ?_⟩
  exact ((((Below.refl _ _).alloc (Nat.le_refl _) _).alloc (by simp) _).alloc (by simp; omega) _).alloc (by simp; omega) _
theorem zero3 {w : World} {T : Array Value} (f : Nat → Bool) (hT : Tb f 32 = T) :
    Rw (((w.alloc (.cells T 102)).alloc (.cells #[.bool false, .bool false, .bool false, .bool false, .bool false, .bool false, .bool false, .bool false, .bool false, .bool false, .bool false, .bool false, .bool false, .bool false, .bool false, .bool false, .bool false, .bool false, .bool false, .bool false, .bool false, .bool false, .bool false, .bool false, .bool false, .bool false, .bool false, .bool false, .bool false, .bool false, .bool false, .bool false] 102)).alloc (.cells #[.bool false, .bool false, .bool false, .bool false, .bool false, .bool false, .bool false, .bool false, .bool false, .bool false, .bool false, .bool false, .bool false, .bool false, .bool false, .bool false, .bool false, .bool false, .bool false, .bool false, .bool false, .bool false, .bool false, .bool false, .bool false, .bool false, .bool false, .bool false, .bool false, .bool false, .bool false, .bool false] 102)) w.heap.size f ∧ Rw (((w.alloc (.cells T 102)).alloc (.cells #[.bool false, .bool false, .bool false, .bool false, .bool false, .bool false, .bool false, .bool false, .bool false, .bool false, .bool false, .bool false, .bool false, .bool false, .bool false, .bool false, .bool false, .bool false, .bool false, .bool false, .bool false, .bool false, .bool false, .bool false, .bool false, .bool false, .bool false, .bool false, .bool false, .bool false, .bool false, .bool false] 102)).alloc (.cells #[.bool false, .bool false, .bool false, .bool false, .bool false, .bool false, .bool false, .bool false, .bool false, .bool false, .bool false, .bool false, .bool false, .bool false, .bool false, .bool false, .bool false, .bool false, .bool false, .bool false, .bool false, .bool false, .bool false, .bool false, .bool false, .bool false, .bool false, .bool false, .bool false, .bool false, .bool false, .bool false] 102)) (w.heap.size + 1) (fun _ => false) ∧ Rw (((w.alloc (.cells T 102)).alloc (.cells #[.bool false, .bool false, .bool false, .bool false, .bool false, .bool false, .bool false, .bool false, .bool false, .bool false, .bool false, .bool false, .bool false, .bool false, .bool false, .bool false, .bool false, .bool false, .bool false, .bool false, .bool false, .bool false, .bool false, .bool false, .bool false, .bool false, .bool false, .bool false, .bool false, .bool false, .bool false, .bool false] 102)).alloc (.cells #[.bool false, .bool false, .bool false, .bool false, .bool false, .bool false, .bool false, .bool false, .bool false, .bool false, .bool false, .bool false, .bool false, .bool false, .bool false, .bool false, .bool false, .bool false, .bool false, .bool false, .bool false, .bool false, .bool false, .bool false, .bool false, .bool false, .bool false, .bool false, .bool false, .bool false, .bool false, .bool false] 102)) (w.heap.size + 1 + 1) (fun _ => false) ∧ Below w.heap.size w (((w.alloc (.cells T 102)).alloc (.cells #[.bool false, .bool false, .bool false, .bool false, .bool false, .bool false, .bool false, .bool false, .bool false, .bool false, .bool false, .bool false, .bool false, .bool false, .bool false, .bool false, .bool false, .bool false, .bool false, .bool false, .bool false, .bool false, .bool false, .bool false, .bool false, .bool false, .bool false, .bool false, .bool false, .bool false, .bool false, .bool false] 102)).alloc (.cells #[.bool false, .bool false, .bool false, .bool false, .bool false, .bool false, .bool false, .bool false, .bool false, .bool false, .bool false, .bool false, .bool false, .bool false, .bool false, .bool false, .bool false, .bool false, .bool false, .bool false, .bool false, .bool false, .bool false, .bool false, .bool false, .bool false, .bool false, .bool false, .bool false, .bool false, .bool false, .bool false] 102)) := by
  subst hT
  have h0 := ((Rw.new w f).alloc (.cells #[.bool false, .bool false, .bool false, .bool false, .bool false, .bool false, .bool false, .bool false, .bool false, .bool false, .bool false, .bool false, .bool false, .bool false, .bool false, .bool false, .bool false, .bool false, .bool false, .bool false, .bool false, .bool false, .bool false, .bool false, .bool false, .bool false, .bool false, .bool false, .bool false, .bool false, .bool false, .bool false] 102)).alloc (.cells #[.bool false, .bool false, .bool false, .bool false, .bool false, .bool false, .bool false, .bool false, .bool false, .bool false, .bool false, .bool false, .bool false, .bool false, .bool false, .bool false, .bool false, .bool false, .bool false, .bool false, .bool false, .bool false, .bool false, .bool false, .bool false, .bool false, .bool false, .bool false, .bool false, .bool false, .bool false, .bool false] 102)
  have h2 := (zero_row (w.alloc (.cells (Tb f 32) 102))).alloc (.cells #[.bool false, .bool false, .bool false, .bool false, .bool false, .bool false, .bool false, .bool false, .bool false, .bool false, .bool false, .bool false, .bool false, .bool false, .bool false, .bool false, .bool false, .bool false, .bool false, .bool false, .bool false, .bool false, .bool false, .bool false, .bool false, .bool false, .bool false, .bool false, .bool false, .bool false, .bool false, .bool false] 102)
  have h3 := zero_row ((w.alloc (.cells (Tb f 32) 102)).alloc (.cells #[.bool false, .bool false, .bool false, .bool false, .bool false, .bool false, .bool false, .bool false, .bool false, .bool false, .bool false, .bool false, .bool false, .bool false, .bool false, .bool false, .bool false, .bool false, .bool false, .bool false, .bool false, .bool false, .bool false, .bool false, .bool false, .bool false, .bool false, .bool false, .bool false, .bool false, .bool false, .bool false] 102))
  rw [show (w.alloc (.cells (Tb f 32) 102)).heap.size = w.heap.size + 1 by simp] at h2
  rw [show ((w.alloc (.cells (Tb f 32) 102)).alloc (.cells #[.bool false, .bool false, .bool false, .bool false, .bool false, .bool false, .bool false, .bool false, .bool false, .bool false, .bool false, .bool false, .bool false, .bool false, .bool false, .bool false, .bool false, .bool false, .bool false, .bool false, .bool false, .bool false, .bool false, .bool false, .bool false, .bool false, .bool false, .bool false, .bool false, .bool false, .bool false, .bool false] 102)).heap.size = w.heap.size + 1 + 1 by simp] at h3
  refine ⟨h0, h2, h3, ?_⟩
  exact (((Below.refl _ _).alloc (Nat.le_refl _) _).alloc (by simp) _).alloc (by simp; omega) _
/-- What is wanted of a row that is loaded or laid. -/
theorem row_facts {w : World} {B : Nat} {f : Nat → Bool} (h : Rw w B f) : ∃ T, Tb f 32 = T ∧ T.size = 32 ∧ T.all (·.oneCell') = true ∧ (Tryd.prog.info? 102).map (·.size) = some T.size ∧ w.heap[B]? = some (.cells T 102 (0, 0)) :=
  ⟨_, rfl, Tb_size f 32, Tb_all f 32, size62 f, h⟩
end Go.Proofs.YtegkodgondlcmaaDoor
