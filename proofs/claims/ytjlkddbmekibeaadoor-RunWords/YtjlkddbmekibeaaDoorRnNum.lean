/-
  The document's decimal numeral of a number (layer 25's Number).
-/
import Derived.Test.YtjlkddbmekibeaaDoorTiny
import Derived.Lib.ItoaNum
import Derived.Lib.ItoaLen
namespace Go.Proofs.YtjlkddbmekibeaaDoor
open Go.RowKit FerryCrc
set_option linter.unusedVariables false
set_option linter.unusedSimpArgs false

/-- The digits of a number, none for 0. -/
def digs (u : Nat) : List UInt8 := if u = 0 then [] else Lib.decDigits u
theorem digs_step {u : Nat} (h : u ≠ 0) : digs (u / 10) ++ [UInt8.ofNat (48 + u % 10)] = digs u := by
  unfold digs
  rw [if_neg h]
  conv => rhs; unfold Lib.decDigits
  by_cases h10 : u < 10
  · rw [if_pos (by omega), dif_pos h10, Nat.mod_eq_of_lt h10]
    rfl
  · rw [if_neg (by omega), dif_neg h10]
theorem itoa_digs {n : Int} (h : n ≠ 0) : Lib.itoa n = if n < 0 then 45 :: digs n.natAbs else digs n.natAbs := by
  have hd : digs n.natAbs = Lib.decDigits n.natAbs := by
    unfold digs
    rw [if_neg (by omega)]
  rw [hd]
  unfold Lib.itoa
  by_cases hn : n < 0
  · rw [if_pos hn, if_pos hn]
  · rw [if_neg hn, if_neg hn, show n.toNat = n.natAbs by omega]
theorem t_quo (k : Int) : (k.tdiv 10).natAbs = k.natAbs / 10 := by rw [Int.natAbs_tdiv]; rfl
theorem t_pos {k : Int} (h : 0 < k) : k.tmod 10 = ((k.natAbs % 10 : Nat) : Int) := by
  obtain ⟨a, rfl⟩ := Int.eq_ofNat_of_zero_le (by omega : 0 ≤ k)
  rw [Int.natAbs_natCast]
  exact (Int.ofNat_tmod a 10).symm
theorem t_neg {k : Int} (h : k < 0) : k.tmod 10 = -((k.natAbs % 10 : Nat) : Int) := by
  obtain ⟨a, ha⟩ := Int.eq_ofNat_of_zero_le (by omega : 0 ≤ -k)
  obtain rfl : k = -(a : Int) := by omega
  rw [Int.natAbs_neg, Int.natAbs_natCast, Int.neg_tmod]
  rfl
theorem conv_one (w : World) (d : Nat) (h : d < 10) : (convert 27 9 (.slice (some ⟨w.heap.size, 0, none⟩) 1 1)).run Tryd.prog (w.alloc (.cells #[.int .u8 (48 + (d : Int))] 5)) = .ok (.string ⟨#[UInt8.ofNat (48 + d)]⟩) (w.alloc (.cells #[.int .u8 (48 + (d : Int))] 5)) := by
  refine run_convert_bytes_back (P := Tryd.prog) _ 27 9 5 ⟨w.heap.size, 0, none⟩ 1 [UInt8.ofNat (48 + d)] Tryd.underlying27 Tryd.underlying5 Tryd.underlying9 (fun j hj => ?_)
  obtain rfl : j = 0 := by simp at hj; exact hj
  show (w.alloc _).cell? ⟨w.heap.size, 0, none⟩ = _
  rw [World.cell?_alloc_at _ _ _ _ rfl]
  show some _ = some _
  congr 2
  simp
  omega
theorem str_cons (c : UInt8) (l : List UInt8) : (⟨#[c]⟩ ++ ⟨l.toArray⟩ : ByteArray) = ⟨(c :: l).toArray⟩ := by
  apply ByteArray.ext
  rw [ByteArray.data_append]
  simp

theorem str_cons' (d : Nat) (l : List UInt8) : Value.string (⟨#[48 + UInt8.ofNat d]⟩ ++ ⟨l.toArray⟩ : ByteArray) = .string ⟨(UInt8.ofNat (48 + d) :: l).toArray⟩ := by
  rw [str_cons, UInt8.ofNat_add]
  rfl

set_option maxRecDepth 100000 in
set_option maxHeartbeats 4000000 in
theorem number_any (n : Int) (w : World) (h0 : -9223372036854775808 ≤ n) (h1 : n ≤ 9223372036854775807) :
    Calls Tryd.prog 7 #[.int .i64 n] w fun e w' => e = .returned (.string ⟨(Lib.itoa n).toArray⟩) ∧ Below w.heap.size w w' := by
  by_cases hz : n = 0
  · subst hz
    go_enter Tryd.func7, Tryd.ntmps7
    go_wp2
    go_ret
    refine ⟨?_, Below.refl _ _⟩
    show Ending.returned (.string ⟨#[48]⟩) = _
    rw [show Lib.itoa 0 = [48] by unfold Lib.itoa Lib.decDigits; rfl]
  · have hne : (n == 0) = false := by simpa using hz
    have HI := hide (itoa_digs hz)
    go_enter Tryd.func7, Tryd.ntmps7
    go_wp2
    go_loopw [3, 4] (fun s m wr => ∃ (k : Int) (l : List UInt8), s = .string ⟨l.toArray⟩ ∧ m = .int .i64 k ∧ -9223372036854775808 ≤ k ∧ k ≤ 9223372036854775807 ∧ Hid (digs k.natAbs ++ l = digs n.natAbs) ∧ Hid (Below w.heap.size w wr)) (fun _ m _ => (intOf m).natAbs)
    case atStart => exact ⟨n, [], rfl, rfl, h0, h1, show digs n.natAbs ++ [] = digs n.natAbs from List.append_nil _, Below.refl _ _⟩
    case round =>
      obtain ⟨k, l, rfl, rfl, k0, k1, hd, hb⟩ := hrel
      have hll : l.length ≤ 21 := by
        have h3 := congrArg List.length hd.out
        have h2 := Lib.itoa_length_le n h0 h1
        rw [HI.out] at h2
        rw [List.length_append] at h3
        split at h2
        · rw [List.length_cons] at h2; omega
        · omega
      by_cases hk : k = 0
      · subst hk
        have hl : l = digs n.natAbs := by simpa [digs] using hd.out
        have HL := hide hl
        clear hl hd
        by_cases hn : n < 0
        · have hI : Lib.itoa n = 45 :: l := by rw [HI.out, if_pos hn, HL.out]
          have HI2 := hide hI
          clear hI
          go_wp2
          go_ret
          refine ⟨?_, hb.out⟩
          rw [HI2.out]
          show Ending.returned (.string (⟨#[45]⟩ ++ ⟨l.toArray⟩)) = _
          rw [str_cons]
        · have hI : Lib.itoa n = l := by rw [HI.out, if_neg hn, HL.out]
          have HI2 := hide hI
          have hn' : 0 ≤ n := by omega
          clear hI hn
          go_wp2
          go_ret
          refine ⟨?_, hb.out⟩
          show Ending.returned (.string ⟨l.toArray⟩) = _
          rw [HI2.out]
      · have hkn : (k != 0) = true := by simpa using hk
        obtain ⟨d, hd9, hdm⟩ : ∃ d : Nat, d < 10 ∧ k.natAbs % 10 = d := ⟨_, Nat.mod_lt _ (by omega), rfl⟩
        obtain ⟨q, hq, hq0, hq1, hqa⟩ : ∃ q : Int, k.tdiv 10 = q ∧ -9223372036854775808 ≤ q ∧ q ≤ 9223372036854775807 ∧ q.natAbs = k.natAbs / 10 := ⟨_, rfl, by have := t_quo k; omega, by have := t_quo k; omega, t_quo k⟩
        have hst : Hid (digs q.natAbs ++ (UInt8.ofNat (48 + d) :: l) = digs n.natAbs) := by
          unfold Hid
          rw [← hd.out, hqa, ← hdm, ← digs_step (u := k.natAbs) (by omega), List.append_assoc]
          rfl
        have hmes : Hid (q.natAbs < k.natAbs) := by unfold Hid; omega
        have hconv := conv_one wr d hd9
        have HB := hide ((hb.out).alloc (by exact hb.out.size) (.cells #[.int .u8 (48 + (d : Int))] 5))
        clear hb hd
        by_cases hpos : 0 < k
        · have ht : k.tmod 10 = (d : Int) := by rw [t_pos hpos, hdm]
          have hdl : decide ((d : Int) < 0) = false := by simp
          have hm48 : (48 + (d : Int)) % 256 = 48 + (d : Int) := by omega
          clear hdm hqa
          go_wp2
          go_roundw
          case rel => exact ⟨q, _, by rw [str_cons'], rfl, hq0, hq1, hst, HB.out⟩
          case measure => exact hmes.out
        · by_cases hd0 : d = 0
          · have ht : k.tmod 10 = (d : Int) := by rw [t_neg (by omega), hdm, hd0]; rfl
            have hdl : decide ((d : Int) < 0) = false := by simp
            have hm48 : (48 + (d : Int)) % 256 = 48 + (d : Int) := by omega
            clear hdm hqa hd0
            go_wp2
            go_roundw
            case rel => exact ⟨q, _, by rw [str_cons'], rfl, hq0, hq1, hst, HB.out⟩
            case measure => exact hmes.out
          · have ht : k.tmod 10 = -(d : Int) := by rw [t_neg (by omega), hdm]
            have hm48 : (48 + (d : Int)) % 256 = 48 + (d : Int) := by omega
            have hdl : decide (-(d : Int) < 0) = true := by simp; omega
            have hnn : -(-(d : Int)) = (d : Int) := by omega
            have hdp : 0 < d := by omega
            clear hdm hqa hd0
            go_wp2
            go_roundw
            case rel => exact ⟨q, _, by rw [str_cons'], rfl, hq0, hq1, hst, HB.out⟩
            case measure => exact hmes.out
end Go.Proofs.YtjlkddbmekibeaaDoor
