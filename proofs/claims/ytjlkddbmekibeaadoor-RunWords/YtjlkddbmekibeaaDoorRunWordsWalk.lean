/-
  RunWords: the words of errors, program and document, and the law walked.
-/
import Derived.Test.YtjlkddbmekibeaaDoorRnNum
import Derived.Test.YtjlkddbmekibeaaDoorRnNth
import Derived.Test.YtjlkddbmekibeaaDoorRnLay
import Derived.WalkKit
import Derived.Lib.AppendIntMem
namespace Go.Proofs.YtjlkddbmekibeaaDoor.runWords
open Go.RowKit FerryCrc
set_option linter.unusedVariables false
set_option linter.unusedSimpArgs false

def wds : List ByteArray := [⟨#[111, 107]⟩, ⟨#[115, 104, 111, 114, 116]⟩, ⟨#[114, 101, 115, 116]⟩, ⟨#[116, 97, 103]⟩, ⟨#[114, 97, 110, 103, 101]⟩, ⟨#[108, 101, 110, 103, 116, 104]⟩, ⟨#[115, 117, 109]⟩, ⟨#[107, 105, 110, 100]⟩, ⟨#[112, 108, 97, 110]⟩, ⟨#[115, 116, 97, 116, 101]⟩, ⟨#[98, 97, 115, 101]⟩, ⟨#[115, 105, 122, 101]⟩, ⟨#[97, 114, 103, 117, 109, 101, 110, 116]⟩, ⟨#[101, 110, 100]⟩, ⟨#[98, 117, 115, 121]⟩, ⟨#[100, 111, 119, 110]⟩, ⟨#[108, 111, 115, 116]⟩, ⟨#[110, 111, 110, 101]⟩, ⟨#[116, 101, 120, 116]⟩, ⟨#[115, 116, 111, 112]⟩, ⟨#[100, 105, 118, 105, 100, 101]⟩]
def allW : ByteArray := ⟨([111, 107, 32, 115, 104, 111, 114, 116, 32, 114, 101, 115, 116, 32, 116, 97, 103, 32, 114, 97, 110, 103, 101, 32, 108, 101, 110, 103, 116, 104, 32, 115, 117, 109, 32, 107, 105, 110, 100, 32, 112, 108, 97, 110, 32, 115, 116, 97, 116, 101, 32, 98, 97, 115, 101].append [32, 115, 105, 122, 101, 32, 97, 114, 103, 117, 109, 101, 110, 116, 32, 101, 110, 100, 32, 98, 117, 115, 121, 32, 100, 111, 119, 110, 32, 108, 111, 115, 116, 32, 110, 111, 110, 101, 32, 116, 101, 120, 116, 32, 115, 116, 111, 112, 32, 100, 105, 118, 105, 100, 101]).toArray⟩
/-- The word of an error's number. -/
def wordOf (n : Int) : ByteArray := if 0 ≤ n ∧ n ≤ 20 then wds.getD n.toNat ⟨#[]⟩ else ⟨#[101, 114, 114, 111, 114, 32]⟩ ++ ⟨(Lib.itoa n).toArray⟩
theorem word_in : ∀ k : Fin 21, str (nrun (k.val : Int) (bytesOf allW)).2 = wds.getD k.val ⟨#[]⟩ := by decide +kernel
theorem wds_ne : ∀ k : Fin 21, (wds.getD k.val ⟨#[]⟩).toList.isEmpty = false := by decide +kernel

/-- What strconv.Itoa leaves as it was. -/
theorem grow_below (w : World) (k : Nat) (os : Array Obj) : Below w.heap.size w (Go.Sort.grow (w.drewN k) os) :=
  ⟨rfl, rfl, rfl, by simp [Go.Sort.grow], fun j hj => by
    show (w.heap ++ os)[j]? = w.heap[j]?
    rw [Array.getElem?_append_left hj]⟩

set_option maxRecDepth 100000 in
set_option maxHeartbeats 4000000 in
theorem refWord_any (n : Int) (w : World) (h0 : -9223372036854775808 ≤ n) (h1 : n ≤ 9223372036854775807) :
    Calls Tryd.prog 5 #[.int .i64 n] w fun e w' => e = .returned (.string (wordOf n)) ∧ Below w.heap.size w w' := by
  by_cases hn : 0 ≤ n ∧ n ≤ 20
  · obtain ⟨k, rfl⟩ := Int.eq_ofNat_of_zero_le hn.1
    have hk : k < 21 := by omega
    have HW : Hid (str (nrun (k : Int) (bytesOf allW)).2 = wordOf (k : Int)) := by
      unfold Hid wordOf
      rw [if_pos (by omega)]
      exact word_in ⟨k, hk⟩
    have hk0 : decide ((k : Int) < 0) = false := by simp
    have hk20 : decide ((20 : Int) < (k : Int)) = false := by simp; omega
    have HC := hide (nth_any allW (k : Int) w (by decide +kernel))
    unfold allW at HC
    clear hn
    go_enter Tryd.func5, Tryd.ntmps5
    go_wp2_with fail
    refine Calls.mono HC.out ?_
    rintro e w1 ⟨rfl, b1⟩
    go_wp2
    go_ret
    refine ⟨?_, b1⟩
    rw [← HW.out]
    rfl
  · have HW : Hid (wordOf n = ⟨#[101, 114, 114, 111, 114, 32]⟩ ++ ⟨(Lib.itoa n).toArray⟩) := by
      unfold Hid wordOf
      rw [if_neg hn]
    have hlen := Lib.itoa_length_le n h0 h1
    by_cases hneg : n < 0
    · go_enter Tryd.func5, Tryd.ntmps5
      go_wp2_with fail
      refine Calls.mono (number_any n _ h0 h1) ?_
      rintro e w1 ⟨rfl, b1⟩
      go_wp2
      go_ret
      refine ⟨?_, b1⟩
      rw [HW.out]
      rfl
    · have hg : 20 < n := by omega
      have hneg' : 0 ≤ n := by omega
      go_enter Tryd.func5, Tryd.ntmps5
      go_wp2_with fail
      refine Calls.mono (number_any n _ h0 h1) ?_
      rintro e w1 ⟨rfl, b1⟩
      go_wp2
      go_ret
      refine ⟨?_, b1⟩
      rw [HW.out]
      rfl

set_option maxRecDepth 100000 in
set_option maxHeartbeats 4000000 in
theorem named_in (K : ByteArray) (k g : Nat) (s : ByteArray) (w : World) (hk : k < 21) (hc : w.cell? ⟨g, k, none⟩ = some (.string s)) (hs : s.toList.isEmpty = false) :
    Calls Tryd.prog 6 #[.string K, .int .i64 (k : Int), .slice (some ⟨g, 0, none⟩) 21 21] w fun e w' => e = .returned (.string s) ∧ Below w.heap.size w w' := by
  have hk0 : decide ((k : Int) < 0) = false := by simp
  have hk20 : decide ((21 : Int) ≤ (k : Int)) = false := by simp; omega
  have hk2 : (k : Int) < 21 := by omega
  go_enter Tryd.func6, Tryd.ntmps6
  go_wp2
  go_ret
  exact ⟨rfl, Below.refl _ _⟩
set_option maxRecDepth 100000 in
set_option maxHeartbeats 4000000 in
theorem named_out (n : Int) (g : Nat) (w : World) (h0 : -9223372036854775808 ≤ n) (h1 : n ≤ 9223372036854775807) (hn : ¬ (0 ≤ n ∧ n ≤ 20)) (htab : Lib.TabIs Tryd.prog w "internal/strconv.uint64pow10" .u64 Lib.pow10Tab) :
    Calls Tryd.prog 6 #[.string ⟨#[101, 114, 114, 111, 114]⟩, .int .i64 n, .slice (some ⟨g, 0, none⟩) 21 21] w fun e w' => e = .returned (.string (wordOf n)) ∧ Below w.heap.size w w' := by
  have HC := hide (Any.strconv_Itoa itoaT n h0 h1 w htab)
  have hlen := Lib.itoa_length_le n h0 h1
  have HW : Hid (wordOf n = ⟨#[101, 114, 114, 111, 114, 32]⟩ ++ ⟨(Lib.itoa n).toArray⟩) := by
    unfold Hid wordOf
    rw [if_neg hn]
  by_cases hneg : n < 0
  · go_enter Tryd.func6, Tryd.ntmps6
    go_wp2_with fail
    refine Calls.mono HC.out ?_
    rintro e w1 ⟨rfl, kk, os, rfl⟩
    go_wp2
    go_ret
    refine ⟨?_, grow_below w kk os⟩
    rw [HW.out]
    rfl
  · have hg : 21 ≤ n := by omega
    have hneg' : 0 ≤ n := by omega
    go_enter Tryd.func6, Tryd.ntmps6
    go_wp2_with fail
    refine Calls.mono HC.out ?_
    rintro e w1 ⟨rfl, kk, os, rfl⟩
    go_wp2
    go_ret
    refine ⟨?_, grow_below w kk os⟩
    rw [HW.out]
    rfl

theorem wds_cell (w : World) (t : TypeId) (k : Nat) (hk : k < 21) : (w.alloc (.cells ((wds.map Value.string).toArray) t)).cell? ⟨w.heap.size, k, none⟩ = some (.string (wds.getD k ⟨#[]⟩)) := by
  rw [World.cell?_alloc_at _ _ _ _ rfl, List.getElem?_toArray, List.getElem?_map, List.getD_eq_getElem?_getD]
  have : wds.length = 21 := rfl
  rw [List.getElem?_eq_getElem (by omega)]
  rfl
set_option maxRecDepth 100000 in
set_option maxHeartbeats 4000000 in
theorem word_any (n : Int) (w : World) (h0 : -9223372036854775808 ≤ n) (h1 : n ≤ 9223372036854775807) (htab : Lib.TabBelow Tryd.prog w.heap.size w "internal/strconv.uint64pow10" .u64 Lib.pow10Tab) :
    Calls Tryd.prog 4 #[.int .i64 n] w fun e w' => e = .returned (.string (wordOf n)) ∧ Below w.heap.size w w' := by
  have hb : Below w.heap.size w (w.alloc (.cells ((wds.map Value.string).toArray) 9)) := (Below.refl _ _).alloc (Nat.le_refl _) _
  have HB := hide hb
  have HC : Hid (Calls Tryd.prog 6 #[.string ⟨#[101, 114, 114, 111, 114]⟩, .int .i64 n, .slice (some ⟨w.heap.size, 0, none⟩) 21 21] (w.alloc (.cells ((wds.map Value.string).toArray) 9)) fun e w' => e = .returned (.string (wordOf n)) ∧ Below (w.alloc (.cells ((wds.map Value.string).toArray) 9)).heap.size (w.alloc (.cells ((wds.map Value.string).toArray) 9)) w') := by
    by_cases hn : 0 ≤ n ∧ n ≤ 20
    · obtain ⟨k, rfl⟩ := Int.eq_ofNat_of_zero_le hn.1
      have hk : k < 21 := by omega
      have := named_in ⟨#[101, 114, 114, 111, 114]⟩ k w.heap.size _ _ hk (wds_cell w 9 k hk) (wds_ne ⟨k, hk⟩)
      refine this.mono ?_
      rintro e w' ⟨rfl, b⟩
      refine ⟨?_, b⟩
      unfold wordOf
      rw [if_pos (by omega)]
      rfl
    · exact named_out n _ _ h0 h1 hn (htab _ hb)
  generalize hcs : (wds.map Value.string).toArray = cs at HC HB
  have HCS := hide hcs
  clear hcs hb
  go_enter Tryd.func4, Tryd.ntmps4
  go_wp2_with fail
  have hcs2 : #[Value.string ⟨#[111, 107]⟩, .string ⟨#[115, 104, 111, 114, 116]⟩, .string ⟨#[114, 101, 115, 116]⟩, .string ⟨#[116, 97, 103]⟩, .string ⟨#[114, 97, 110, 103, 101]⟩, .string ⟨#[108, 101, 110, 103, 116, 104]⟩, .string ⟨#[115, 117, 109]⟩, .string ⟨#[107, 105, 110, 100]⟩, .string ⟨#[112, 108, 97, 110]⟩, .string ⟨#[115, 116, 97, 116, 101]⟩, .string ⟨#[98, 97, 115, 101]⟩, .string ⟨#[115, 105, 122, 101]⟩, .string ⟨#[97, 114, 103, 117, 109, 101, 110, 116]⟩, .string ⟨#[101, 110, 100]⟩, .string ⟨#[98, 117, 115, 121]⟩, .string ⟨#[100, 111, 119, 110]⟩, .string ⟨#[108, 111, 115, 116]⟩, .string ⟨#[110, 111, 110, 101]⟩, .string ⟨#[116, 101, 120, 116]⟩, .string ⟨#[115, 116, 111, 112]⟩, .string ⟨#[100, 105, 118, 105, 100, 101]⟩] = cs := by rw [← HCS.out]; rfl
  rw [hcs2]
  refine Calls.mono HC.out ?_
  rintro e w1 ⟨rfl, b1⟩
  clear hcs2
  go_wp2
  go_ret
  exact ⟨rfl, chain HB.out b1⟩

set_option maxRecDepth 100000 in
set_option maxHeartbeats 4000000 in
theorem law (n : Int) (w : World) (h0 : -9223372036854775808 ≤ n) (h1 : n ≤ 9223372036854775807) (htab : Lib.TabIs Tryd.prog w "internal/strconv.uint64pow10" .u64 Lib.pow10Tab) :
    Calls Tryd.prog 3 #[.int .i64 n] w fun e w' => e = .returned (.bool true) ∧ Below w.heap.size w w' := by
  have HT := hide (Lib.tabBelow_of_tabIs htab)
  have H14 : Hid (wordOf 14 = ⟨#[98, 117, 115, 121]⟩) := by unfold Hid; rfl
  go_enter Tryd.func3, Tryd.ntmps3
  go_wp2_with fail
  refine Calls.mono (word_any 14 w (by omega) (by omega) HT.out) ?_
  rintro e w1 ⟨rfl, b1⟩
  rw [H14.out]
  go_wp2_with fail
  refine Calls.mono (word_any n w1 h0 h1 (Lib.tabBelow_of_tabIs (HT.out _ b1))) ?_
  rintro e w2 ⟨rfl, b2⟩
  go_wp2_with fail
  refine Calls.mono (refWord_any n w2 h0 h1) ?_
  rintro e w3 ⟨rfl, b3⟩
  go_wp2
  go_ret
  exact ⟨rfl, chain (chain b1 b2) b3⟩
end Go.Proofs.YtjlkddbmekibeaaDoor.runWords
