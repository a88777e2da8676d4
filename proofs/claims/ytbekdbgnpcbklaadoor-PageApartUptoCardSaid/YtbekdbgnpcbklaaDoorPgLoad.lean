/-
  The program's page: faults of bytes and numbers, numbers loaded and fetched.
-/
import Derived.Test.YtbekdbgnpcbklaaDoorPgSame
import Derived.Test.YtbekdbgnpcbklaaDoorPgMath
namespace Go.Proofs.YtbekdbgnpcbklaaDoor
open Go.RowKit FerryCrc
set_option linter.unusedVariables false

/-- The fault of the byte at an address, for the right of bit k. -/
def bfault (l : List Pg) (n k : Nat) : Nat := match l[n / 64]? with
  | none => 3
  | some p => if rbit p.rights k then 0 else 4 + k
/-- The fault of a number of so many bytes at an address. -/
def nfault (l : List Pg) (n size k : Nat) : Nat := if n % size = 0 then bfault l n k else 2
/-- The bytes of a number. -/
def nbytes (l : List Pg) (n size : Nat) : List Nat := match l[n / 64]? with
  | none => []
  | some p => (p.data.drop (n % 64)).take size
/-- The number that is loaded; 0 where there is a fault. -/
def ldv (l : List Pg) (n size k : Nat) : Nat := if nfault l n size k = 0 then num (nbytes l n size) else 0
/-- The right of bit k, as the program writes it. -/
def Right (k : Nat) (r : Int) : Prop := (k = 0 ∧ r = 1) ∨ (k = 1 ∧ r = 2) ∨ (k = 2 ∧ r = 4)
def Sized (s : Nat) : Prop := s = 1 ∨ s = 2 ∨ s = 4

theorem bfault_none {l : List Pg} {n k : Nat} (h : l[n / 64]? = none) : bfault l n k = 3 := by simp [bfault, h]
theorem bfault_some {l : List Pg} {n k : Nat} {p : Pg} (h : l[n / 64]? = some p) : bfault l n k = if rbit p.rights k then 0 else 4 + k := by simp [bfault, h]
theorem bfault_le (l : List Pg) (n k : Nat) (hk : k < 3) : bfault l n k ≤ 6 := by
  unfold bfault
  split
  · omega
  · split <;> omega

theorem right_bit {k : Nat} {r x : Int} (h : Right k r) : (bits .and .i64 x r != 0) = rbit x k := by
  rw [Bool.eq_iff_iff]
  simp only [bne_iff_ne, ne_eq, rbit, decide_eq_true_eq]
  rcases h with ⟨rfl, rfl⟩ | ⟨rfl, rfl⟩ | ⟨rfl, rfl⟩
  · rw [i64_and1]; simp; omega
  · rw [i64_and2]; simp; omega
  · rw [i64_and4, show (2 ^ 2 : Int) = 4 from rfl]; omega

set_option maxRecDepth 100000 in
theorem byteFault_any (a : Option Addr) (len cap : Nat) (l : List Pg) (n k : Nat) (r : Int) (w : World) (hs : Pgs w a len cap l) (hn : n < 4294967296) (hr : Right k r) :
    Calls Tryd.prog 40 #[.slice a len cap, .int .u64 (n : Int), .int .i64 r] w fun e w' => e = .returned (.int .i64 ((bfault l n k : Nat) : Int)) ∧ w = w' := by
  have hm := hs.most
  have HS := hide hs
  clear hs
  have hd0 : ¬ (4294967296 : Int) ≤ (n : Int) := by omega
  by_cases hlt : n / 64 < len
  · obtain ⟨p, hp⟩ : ∃ p, l[n / 64]? = some p := ⟨_, List.getElem?_eq_getElem (by rw [HS.out.size]; exact hlt)⟩
    obtain ⟨b, off, rfl, hrg⟩ := HS.out.cell _ p hp
    have hc := hrg 0 _ rfl
    simp only [Nat.add_zero] at hc
    have HB := hide (bfault_some (k := k) hp)
    have hd1 : ¬ (len : Int) ≤ (n : Int) / 64 := by omega
    clear hp hrg
    have e64 : ((n : Int) / 64) = ((n / 64 : Nat) : Int) := by omega
    generalize hq : n / 64 = q at *
    have HQ := hide hq
    clear hq
    have q1 : (q : Int) < (len : Int) := by omega
    obtain ⟨t, ht⟩ : ∃ t, rbit p.rights k = t := ⟨_, rfl⟩
    have hbv : (bits .and .i64 p.rights r != 0) = t := by rw [← ht]; exact right_bit hr
    have HB2 : Hid (bfault l n k = if t then 0 else 4 + k) := by unfold Hid; rw [HB.out, ht]
    clear HB ht
    rcases hr with ⟨rfl, rfl⟩ | ⟨rfl, rfl⟩ | ⟨rfl, rfl⟩ <;> cases t
    all_goals
      go_enter Tryd.func40, Tryd.ntmps40
      go_wp2
      go_ret
      exact ⟨ret_int (by rw [HB2.out]; simp), rfl⟩
  · have HB : Hid (bfault l n k = 3) := bfault_none (List.getElem?_eq_none (by rw [HS.out.size]; omega))
    have hd1 : (len : Int) ≤ (n : Int) / 64 := by omega
    clear hlt
    go_enter Tryd.func40, Tryd.ntmps40
    go_wp2
    go_ret
    exact ⟨ret_int (by rw [HB.out]; rfl), rfl⟩

theorem nfault_align {l : List Pg} {n size k : Nat} (h : ¬ n % size = 0) : nfault l n size k = 2 := by simp [nfault, h]
theorem nfault_byte {l : List Pg} {n size k : Nat} (h : n % size = 0) : nfault l n size k = bfault l n k := by simp [nfault, h]
theorem nfault_le (l : List Pg) (n size k : Nat) (hk : k < 3) : nfault l n size k ≤ 6 := by
  unfold nfault
  have := bfault_le l n k hk
  split <;> omega

set_option maxRecDepth 100000 in
theorem numberFault_any (a : Option Addr) (len cap : Nat) (l : List Pg) (n s k : Nat) (r : Int) (w : World) (hs : Pgs w a len cap l) (hn : n < 4294967296) (hr : Right k r) (hz : Sized s) :
    Calls Tryd.prog 31 #[.slice a len cap, .int .u32 (n : Int), .int .i64 (s : Int), .int .i64 r] w fun e w' => e = .returned (.tuple #[.int .i64 ((nfault l n s k : Nat) : Int), .nilIface]) ∧ w = w' := by
  have H1 := hide (byteFault_any a len cap l n k r w hs hn hr)
  clear hs
  by_cases ha : n % s = 0
  · have HB : Hid (nfault l n s k = bfault l n k) := nfault_byte ha
    have hd1 : (n : Int) % (s : Int) = 0 := by omega
    rcases hz with rfl | rfl | rfl
    all_goals
      go_enter Tryd.func31, Tryd.ntmps31
      go_wp2_with fail
      refine Calls.mono H1.out ?_
      rintro e w' ⟨rfl, rfl⟩
      go_wp2
      go_ret2
      exact ⟨by rw [HB.out]; rfl, rfl⟩
  · have HB : Hid (nfault l n s k = 2) := nfault_align ha
    rcases hz with rfl | rfl | rfl
    · omega
    · have hd1 : ((n : Int) % 2 != 0) = true := by simp; omega
      clear ha
      go_enter Tryd.func31, Tryd.ntmps31
      go_wp2
      go_ret2
      exact ⟨by rw [HB.out]; rfl, rfl⟩
    · have hd1 : ((n : Int) % 4 != 0) = true := by simp; omega
      clear ha
      go_enter Tryd.func31, Tryd.ntmps31
      go_wp2
      go_ret2
      exact ⟨by rw [HB.out]; rfl, rfl⟩
end Go.Proofs.YtbekdbgnpcbklaaDoor
