/-
  The program's page, more: a size that there isn't, the bytes of a number, Load and Fetch.
-/
import Derived.Test.YtbekdbgnpcbklaaDoorPgLoad
namespace Go.Proofs.YtbekdbgnpcbklaaDoor
open Go.RowKit FerryCrc
set_option linter.unusedVariables false

set_option maxRecDepth 100000 in
theorem numberFault_bad {w : World} {A : Addr} (h12 : w.cell? ⟨0, 0, none⟩ = some (sent A)) (a : Option Addr) (len cap n : Nat) (s r : Int) (h1 : ¬ s = 1) (h2 : ¬ s = 2) (h4 : ¬ s = 4) :
    Calls Tryd.prog 31 #[.slice a len cap, .int .u32 (n : Int), .int .i64 s, .int .i64 r] w fun e w' => e = .returned (.tuple #[.int .i64 0, sent A]) ∧ Below w.heap.size w w' := by
  have d1 : (s != 1) = true := by simpa using h1
  have d2 : (s != 2) = true := by simpa using h2
  have d4 : (s != 4) = true := by simpa using h4
  clear h1 h2 h4
  go_enter Tryd.func31, Tryd.ntmps31
  go_wp2
  go_quiet (fail)
  go_wp2
  go_ret2
  exact ⟨rfl, drewN_below (Below.refl _ _) nq⟩

set_option maxRecDepth 100000 in
theorem numberAt_any (b off len cap : Nat) (l : List Pg) (n s : Nat) (w : World) (hs : Pgs w (some ⟨b, off, none⟩) len cap l) (hn : n < 4294967296) (hq : n / 64 < len) (hz : Sized s) (ha : n % s = 0) :
    Calls Tryd.prog 36 #[.slice (some ⟨b, off, none⟩) len cap, .int .u32 (n : Int), .int .i64 (s : Int)] w fun e w' => e = .returned (.slice (some ⟨b, off + n / 64 * 66 + 2 + n % 64, none⟩) s (64 - n % 64)) ∧ w = w' := by
  have hm := hs.most
  have e64 : ((n : Int) / 64) = ((n / 64 : Nat) : Int) := by omega
  have f64 : ((n : Int) % 64) = ((n % 64 : Nat) : Int) := by omega
  have hfit : n % 64 + s ≤ 64 := by rcases hz with rfl | rfl | rfl <;> omega
  have hs4 : s ≤ 4 := by rcases hz with rfl | rfl | rfl <;> omega
  clear hs ha hz
  generalize hg : n / 64 = q at *
  generalize hj : n % 64 = j at *
  have q1 : (q : Int) < (len : Int) := by omega
  have j1 : (j : Int) ≤ 64 := by omega
  have j2 : (s : Int) ≤ 64 - (j : Int) := by omega
  clear hg hj
  go_enter Tryd.func36, Tryd.ntmps36
  go_wp2
  go_ret
  exact ⟨rfl, rfl⟩

theorem u32_step {v c : Nat} (hv : v < 16777216) (hc : c < 256) : bits .or .u32 ((v : Int) * 256) (c : Int) = ((v * 256 + c : Nat) : Int) := by
  have := u32_or_nat (v * 256) c (by omega) (by omega)
  rw [nat_join 8 (v * 256) c (by omega) (by omega)] at this
  exact this

set_option maxRecDepth 100000 in
theorem number_any (a : Option Addr) (len cap : Nat) (l : List Nat) (w : World) (hs : Bts w a len cap l) (h4 : len ≤ 4) :
    Calls Tryd.prog 35 #[.slice a len cap] w fun e w' => e = .returned (.int .u32 ((num l : Nat) : Int)) ∧ w = w' := by
  have HS := hide hs
  clear hs
  go_enter Tryd.func35, Tryd.ntmps35
  go_wp2
  go_loopw [3, 8] (fun v i wr => ∃ k : Nat, k ≤ len ∧ i = .int .i64 (k : Int) ∧ v = .int .u32 ((num (l.take k) : Nat) : Int) ∧ wr = w) (fun _ i _ => len - (intOf i).toNat)
  case atStart => exact ⟨0, by omega, rfl, rfl, rfl⟩
  case round =>
    obtain ⟨k, hk, rfl, rfl, rfl⟩ := hrel
    by_cases hlt : k < len
    · obtain ⟨b, off, rfl, c, hc, hcell⟩ := HS.out.cell k hlt
      have HC : Hid (c < 256) := HS.out.small c (List.mem_of_getElem? hc)
      have HT : Hid (num (l.take (k + 1)) = num (l.take k) * 256 + c) := by unfold Hid; rw [List.take_add_one, hc]; exact num_snoc _ _
      have HV : Hid (num (l.take k) < 16777216) := by
        have h1 := num_lt (l.take k) (fun x hx => HS.out.small x (List.mem_of_mem_take hx))
        have h2 : (l.take k).length ≤ 3 := by rw [List.length_take]; omega
        have h3 : 256 ^ (l.take k).length ≤ 256 ^ 3 := Nat.pow_le_pow_right (by decide) h2
        unfold Hid
        omega
      clear hc
      have hw := u32_step HV.out HC.out
      generalize num (l.take k) = v at *
      have HW := hide hw
      clear hw
      have hwr : ((v : Int) * 256) % 4294967296 = (v : Int) * 256 := by have := HV.out; omega
      have hc32 : (c : Int) % 4294967296 = (c : Int) := by have := HC.out; omega
      go_wp2
      exact ⟨⟨k + 1, by omega, by simp, by rw [HT.out, HW.out], trivial⟩, by simp [intOf]; omega⟩
    · obtain rfl : k = len := by omega
      have HT : Hid (l.take k = l) := by unfold Hid; rw [← HS.out.size, List.take_length]
      go_wp2
      go_ret
      exact ⟨ret_int (by rw [HT.out]), rfl⟩

/-- The bytes of a number, as the slice of them shows. -/
theorem nbytes_bts {w : World} {b off len cap : Nat} {l : List Pg} {n s : Nat} (hs : Pgs w (some ⟨b, off, none⟩) len cap l) (hq : n / 64 < len) (hfit : n % 64 + s ≤ 64) :
    Bts w (some ⟨b, off + n / 64 * 66 + 2 + n % 64, none⟩) s (64 - n % 64) (nbytes l n s) := by
  obtain ⟨p, hp⟩ : ∃ p, l[n / 64]? = some p := ⟨_, List.getElem?_eq_getElem (by rw [hs.size]; exact hq)⟩
  obtain ⟨b', off', e, hr⟩ := hs.cell _ p hp
  simp only [Option.some.injEq, Addr.mk.injEq, and_true] at e
  obtain ⟨rfl, rfl⟩ := e
  have ok := hs.ok p (List.mem_of_getElem? hp)
  have hn : nbytes l n s = (p.data.drop (n % 64)).take s := by simp [nbytes, hp]
  have hlen : ((p.data.drop (n % 64)).take s).length = s := by rw [List.length_take, List.length_drop, ok.size]; omega
  rw [hn]
  refine ⟨hlen, by omega, by omega, fun c hc => ok.small c (List.mem_of_mem_drop (List.mem_of_mem_take hc)), fun e => by simp at e, fun k hk => ⟨b, _, rfl, ((p.data.drop (n % 64)).take s)[k], List.getElem?_eq_getElem (by omega), ?_⟩⟩
  have h1 := range_row hr (n % 64 + k) (bv ((p.data.drop (n % 64)).take s)[k]) (by
    have hlt : n % 64 + k < p.data.length := by rw [ok.size]; omega
    simp [Pg.row, List.getElem?_eq_getElem hlt])
  rw [Nat.add_assoc (off + n / 64 * 66 + 2)]
  exact h1
theorem nbytes_len {l : List Pg} {n s : Nat} (ok : Oks l) : (nbytes l n s).length ≤ s := by
  unfold nbytes
  split
  · simp
  · rw [List.length_take]; omega
theorem fits {n s : Nat} (hz : Sized s) (ha : n % s = 0) : n % 64 + s ≤ 64 := by rcases hz with rfl | rfl | rfl <;> omega
theorem nfault_zero {l : List Pg} {n s k : Nat} (h : nfault l n s k = 0) : n % s = 0 ∧ ∃ p, l[n / 64]? = some p ∧ rbit p.rights k = true := by
  unfold nfault at h
  split at h
  case isFalse => omega
  case isTrue ha =>
    refine ⟨ha, ?_⟩
    unfold bfault at h
    split at h
    · omega
    · rename_i p hp
      split at h
      · exact ⟨p, hp, by assumption⟩
      · omega
theorem ldv_zero {l : List Pg} {n s k : Nat} (h : nfault l n s k = 0) : ldv l n s k = num (nbytes l n s) := by simp [ldv, h]
theorem ldv_fault {l : List Pg} {n s k : Nat} (h : ¬ nfault l n s k = 0) : ldv l n s k = 0 := by simp [ldv, h]

set_option maxRecDepth 100000 in
theorem load_any (a : Option Addr) (len cap : Nat) (l : List Pg) (n s : Nat) (w : World) (hs : Pgs w a len cap l) (hn : n < 4294967296) (hz : Sized s) :
    Calls Tryd.prog 13 #[.slice a len cap, .int .u32 (n : Int), .int .i64 (s : Int)] w fun e w' => e = .returned (.tuple #[.int .u32 ((ldv l n s 0 : Nat) : Int), .int .i64 ((nfault l n s 0 : Nat) : Int), .nilIface]) ∧ w = w' := by
  have H1 := hide (numberFault_any a len cap l n s 0 1 w hs hn (.inl ⟨rfl, rfl⟩) hz)
  by_cases h0 : nfault l n s 0 = 0
  · obtain ⟨ha, p, hp, _⟩ := nfault_zero h0
    have hq : n / 64 < len := by rw [← hs.size]; exact (List.getElem?_eq_some_iff.1 hp).1
    obtain ⟨b, off, rfl, _⟩ := hs.cell _ p hp
    have H2 := hide (numberAt_any b off len cap l n s w hs hn hq hz ha)
    have H3 := hide (number_any _ _ _ _ w (nbytes_bts hs hq (fits hz ha)) (by rcases hz with rfl | rfl | rfl <;> omega))
    have HV := hide (ldv_zero h0)
    rw [h0] at H1 ⊢
    clear hs hp hq ha h0
    go_enter Tryd.func13, Tryd.ntmps13
    go_wp2_with fail
    refine Calls.mono H1.out ?_
    rintro e w' ⟨rfl, rfl⟩
    go_wp2_with fail
    refine Calls.mono H2.out ?_
    rintro e w' ⟨rfl, rfl⟩
    go_wp2_with fail
    refine Calls.mono H3.out ?_
    rintro e w' ⟨rfl, rfl⟩
    go_wp2
    go_ret3
    exact ⟨by rw [HV.out]; rfl, rfl⟩
  · have HV := hide (ldv_fault h0)
    have hd : ((nfault l n s 0 : Nat) : Int) ≠ 0 := by omega
    have hd1 : (((nfault l n s 0 : Nat) : Int) != 0) = true := by simpa using hd
    clear hs hd h0
    generalize nfault l n s 0 = f at *
    go_enter Tryd.func13, Tryd.ntmps13
    go_wp2_with fail
    refine Calls.mono H1.out ?_
    rintro e w' ⟨rfl, rfl⟩
    go_wp2
    go_ret3
    exact ⟨by rw [HV.out]; rfl, rfl⟩

set_option maxRecDepth 100000 in
theorem load_bad {w : World} {A : Addr} (h12 : w.cell? ⟨0, 0, none⟩ = some (sent A)) (a : Option Addr) (len cap n : Nat) (s : Int) (h1 : ¬ s = 1) (h2 : ¬ s = 2) (h4 : ¬ s = 4) :
    Calls Tryd.prog 13 #[.slice a len cap, .int .u32 (n : Int), .int .i64 s] w fun e w' => e = .returned (.tuple #[.int .u32 0, .int .i64 0, sent A]) ∧ Below w.heap.size w w' := by
  have H1 := hide (numberFault_bad h12 a len cap n s 1 h1 h2 h4)
  clear h12 h1 h2 h4
  unfold sent at *
  go_enter Tryd.func13, Tryd.ntmps13
  go_wp2_with fail
  refine Calls.mono H1.out ?_
  rintro e w' ⟨rfl, hb⟩
  go_wp2
  go_ret3
  exact ⟨rfl, hb⟩

set_option maxRecDepth 100000 in
theorem fetch_any (a : Option Addr) (len cap : Nat) (l : List Pg) (n : Nat) (w : World) (hs : Pgs w a len cap l) (hn : n < 4294967296) :
    Calls Tryd.prog 15 #[.slice a len cap, .int .u32 (n : Int)] w fun e w' => e = .returned (.tuple #[.int .u32 ((ldv l n 4 2 : Nat) : Int), .int .i64 ((nfault l n 4 2 : Nat) : Int)]) ∧ w = w' := by
  have hz : Sized 4 := .inr (.inr rfl)
  have H1 := hide (numberFault_any a len cap l n 4 2 4 w hs hn (.inr (.inr ⟨rfl, rfl⟩)) hz)
  by_cases h0 : nfault l n 4 2 = 0
  · obtain ⟨ha, p, hp, _⟩ := nfault_zero h0
    have hq : n / 64 < len := by rw [← hs.size]; exact (List.getElem?_eq_some_iff.1 hp).1
    obtain ⟨b, off, rfl, _⟩ := hs.cell _ p hp
    have H2 := hide (numberAt_any b off len cap l n 4 w hs hn hq hz ha)
    have H3 := hide (number_any _ _ _ _ w (nbytes_bts hs hq (fits hz ha)) (by decide))
    have HV := hide (ldv_zero h0)
    rw [h0] at H1 ⊢
    clear hs hp hq ha h0
    go_enter Tryd.func15, Tryd.ntmps15
    go_wp2_with fail
    refine Calls.mono H1.out ?_
    rintro e w' ⟨rfl, rfl⟩
    go_wp2_with fail
    refine Calls.mono H2.out ?_
    rintro e w' ⟨rfl, rfl⟩
    go_wp2_with fail
    refine Calls.mono H3.out ?_
    rintro e w' ⟨rfl, rfl⟩
    go_wp2
    go_ret2
    exact ⟨by rw [HV.out]; rfl, rfl⟩
  · have HV := hide (ldv_fault h0)
    have hd : ((nfault l n 4 2 : Nat) : Int) ≠ 0 := by omega
    have hd1 : (((nfault l n 4 2 : Nat) : Int) != 0) = true := by simpa using hd
    clear hs hd h0
    generalize nfault l n 4 2 = f at *
    go_enter Tryd.func15, Tryd.ntmps15
    go_wp2_with fail
    refine Calls.mono H1.out ?_
    rintro e w' ⟨rfl, rfl⟩
    go_wp2
    go_ret2
    exact ⟨by rw [HV.out]; rfl, rfl⟩
end Go.Proofs.YtbekdbgnpcbklaaDoor
