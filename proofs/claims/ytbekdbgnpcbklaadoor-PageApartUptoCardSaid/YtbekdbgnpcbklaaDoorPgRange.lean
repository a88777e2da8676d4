/-
  The fault of a range of bytes: the program's, page by page; the document's, byte by byte.
-/
import Derived.Test.YtbekdbgnpcbklaaDoorPgRef2
namespace Go.Proofs.YtbekdbgnpcbklaaDoor
open Go.RowKit FerryCrc
set_option linter.unusedVariables false

/-- The fault of a byte, where addresses end at 2^32. -/
def bflt (l : List Pg) (a k : Nat) : Nat := if 4294967296 ≤ a then 3 else bfault l a k
/-- f is the fault of the first of the N bytes from n on that has one, by this fault of bytes; 0 where none has. -/
def RF (B : Nat → Nat) (n N f : Nat) : Prop := (f = 0 ∧ ∀ i, i < N → B (n + i) = 0) ∨ (∃ i, i < N ∧ (∀ j, j < i → B (n + j) = 0) ∧ f = B (n + i) ∧ f ≠ 0)
theorem RF.uniq {B : Nat → Nat} {n N f f' : Nat} (h : RF B n N f) (h' : RF B n N f') : f = f' := by
  rcases h with ⟨rfl, h⟩ | ⟨i, hi, h1, rfl, h2⟩ <;> rcases h' with ⟨rfl, h'⟩ | ⟨i', hi', h1', rfl, h2'⟩
  · rfl
  · exact absurd (h i' hi') h2'
  · exact absurd (h' i hi) h2
  · rcases Nat.lt_trichotomy i i' with e | e | e
    · exact absurd (h1' i e) h2
    · rw [e]
    · exact absurd (h1 i' e) h2'
theorem RF.congr {B B' : Nat → Nat} {n N f : Nat} (h : RF B n N f) (e : ∀ a, B a = B' a) : RF B' n N f := by
  have : B = B' := funext e
  rw [← this]; exact h
theorem bflt_page {l : List Pg} {a b k : Nat} (h : a / 64 = b / 64) : bflt l a k = bflt l b k := by
  unfold bflt bfault
  rw [h]
  by_cases h1 : 4294967296 ≤ a
  · rw [if_pos h1, if_pos (by omega)]
  · rw [if_neg h1, if_neg (by omega)]
theorem bflt_le (l : List Pg) (n k : Nat) (hk : k < 3) : bflt l n k ≤ 6 := by
  unfold bflt
  have := bfault_le l n k hk
  split <;> omega
theorem bflt_zero {l : List Pg} {a k : Nat} (h : bflt l a k = 0) : a < 4294967296 ∧ a / 64 < l.length := by
  unfold bflt at h
  split at h
  · omega
  · refine ⟨by omega, ?_⟩
    unfold bfault at h
    split at h
    · omega
    · rename_i p hp
      exact (List.getElem?_eq_some_iff.1 hp).1

set_option maxRecDepth 100000 in
theorem byteFault_all (a : Option Addr) (len cap : Nat) (l : List Pg) (n k : Nat) (r : Int) (w : World) (hs : Pgs w a len cap l) (hn : n < 18446744073709551616) (hr : Right k r) :
    Calls Tryd.prog 40 #[.slice a len cap, .int .u64 (n : Int), .int .i64 r] w fun e w' => e = .returned (.int .i64 ((bflt l n k : Nat) : Int)) ∧ w = w' := by
  by_cases h : n < 4294967296
  · have := byteFault_any a len cap l n k r w hs h hr
    have e : bflt l n k = bfault l n k := by unfold bflt; rw [if_neg (by omega)]
    rw [e]
    exact this
  · have HE : Hid (bflt l n k = 3) := by unfold Hid bflt; rw [if_pos (by omega)]
    have hd : (4294967296 : Int) ≤ (n : Int) := by omega
    clear hs hr h
    go_enter Tryd.func40, Tryd.ntmps40
    go_wp2
    go_ret
    exact ⟨ret_int (by rw [HE.out]; rfl), rfl⟩

set_option maxRecDepth 100000 in
theorem nextPage_any (n : Nat) (w : World) (hn : n < 9223372041149743104) :
    Calls Tryd.prog 41 #[.int .u64 (n : Int)] w fun e w' => e = .returned (.int .u64 ((n / 64 * 64 + 64 : Nat) : Int)) ∧ w = w' := by
  obtain ⟨j, hj⟩ : ∃ j, n % 64 = j := ⟨_, rfl⟩
  have e1 : (n : Int) % 64 = (j : Int) := by omega
  have e2 : n / 64 * 64 = n - j := by omega
  have HE : Hid (n / 64 * 64 + 64 = n - j + 64) := by unfold Hid; omega
  have hjn : j ≤ n := by omega
  clear hj e2
  go_enter Tryd.func41, Tryd.ntmps41
  go_wp2
  go_ret
  exact ⟨ret_int (by rw [HE.out]; omega), rfl⟩

set_option maxRecDepth 100000 in
theorem rangeFault_any (a : Option Addr) (len cap : Nat) (l : List Pg) (n N k : Nat) (r : Int) (w : World) (hs : Pgs w a len cap l) (hn : n < 4294967296) (hN : N < 9223372036854775808) (hr : Right k r) :
    Calls Tryd.prog 33 #[.slice a len cap, .int .u32 (n : Int), .int .i64 (N : Int), .int .i64 r] w fun e w' => ∃ f : Nat, e = .returned (.int .i64 (f : Int)) ∧ RF (fun a => bflt l a k) n N f ∧ f ≤ 6 ∧ w = w' := by
  have HF := hide (fun m (hm : m < 18446744073709551616) => byteFault_all a len cap l m k r w hs hm hr)
  have hk3 : k < 3 := by rcases hr with ⟨rfl, _⟩ | ⟨rfl, _⟩ | ⟨rfl, _⟩ <;> decide
  clear hs hr
  have s1 : ((n : Int) + (N : Int)) % 18446744073709551616 = (n : Int) + (N : Int) := by omega
  go_enter Tryd.func33, Tryd.ntmps33
  go_wp2
  go_loopw [10] (fun i wr => ∃ m : Nat, n ≤ m ∧ i = .int .u64 (m : Int) ∧ m ≤ n + N + 64 ∧ (∀ b, n ≤ b → b < m → bflt l b k = 0) ∧ (m = n ∨ m % 64 = 0) ∧ wr = w) (fun i _ => n + N + 64 - (intOf i).toNat)
  case atStart => exact ⟨n, Nat.le_refl _, rfl, by omega, fun b h1 h2 => by omega, .inl rfl, rfl⟩
  case round =>
    obtain ⟨m, hnm, rfl, hmN, hz, hal, rfl⟩ := hrel
    have HZ := hide hz
    have HAL := hide hal
    clear hz hal
    by_cases hlt : m < n + N
    · have h1 := hide (HF.out m (by omega))
      have h2 := hide (nextPage_any m wr (by omega))
      obtain ⟨f, hf⟩ : ∃ f, bflt l m k = f := ⟨_, rfl⟩
      have HFE := hide hf
      rw [hf] at h1
      clear hf
      have hlt2 : (m : Int) < (n : Int) + (N : Int) := by omega
      by_cases hf0 : f = 0
      · subst hf0
        go_wp2_with fail
        refine Calls.mono h1.out ?_
        rintro e w' ⟨rfl, rfl⟩
        go_wp2_with fail
        refine Calls.mono h2.out ?_
        rintro e w' ⟨rfl, rfl⟩
        go_wp2
        refine ⟨⟨m / 64 * 64 + 64, by omega, by congr 1, by omega, fun b hb1 hb2 => ?_, .inr (by omega), trivial⟩, ?_⟩
        · by_cases hbm : b < m
          · exact HZ.out b hb1 hbm
          · rw [bflt_page (show b / 64 = m / 64 by omega)]
            exact HFE.out
        · simp only [intOf]
          omega
      · have hd : ((f : Int) != 0) = true := by simp; omega
        go_wp2_with fail
        refine Calls.mono h1.out ?_
        rintro e w' ⟨rfl, rfl⟩
        go_wp2
        go_ret
        refine ⟨f, rfl, .inr ⟨m - n, by omega, fun j hj => HZ.out (n + j) (by omega) (by omega), ?_, hf0⟩, ?_, rfl⟩
        · show f = bflt l (n + (m - n)) k
          rw [show n + (m - n) = m by omega]
          exact HFE.out.symm
        · rw [← HFE.out]
          exact bflt_le l m k hk3
    · have hlt2 : ¬ (m : Int) < (n : Int) + (N : Int) := by omega
      go_wp2
      go_ret
      exact ⟨0, rfl, .inl ⟨rfl, fun i hi => HZ.out (n + i) (by omega) (by omega)⟩, by decide, rfl⟩
end Go.Proofs.YtbekdbgnpcbklaaDoor
