/-
  The document's page: faults of bytes, numbers loaded and fetched.
-/
import Derived.Test.YtbekdbgnpcbklaaDoorPgStore
namespace Go.Proofs.YtbekdbgnpcbklaaDoor
open Go.RowKit FerryCrc
set_option linter.unusedVariables false

theorem bit_right (r : Int) (k : Nat) : (bits .and .i64 (r / 2 ^ k) 1 == 1) = rbit r k := by
  rw [i64_and1, Bool.eq_iff_iff, beq_iff_eq, rbit, decide_eq_true_eq]

set_option maxRecDepth 100000 in
theorem refRight_any (r : Int) (k : Nat) (w : World) (hk : k < 3) :
    Calls Tryd.prog 39 #[.int .i64 r, .int .i64 (k : Int)] w fun e w' => e = .returned (.bool (rbit r k)) ∧ w = w' := by
  have H := hide (bit_right r k)
  go_enter Tryd.func39, Tryd.ntmps39
  go_wp2
  go_ret
  exact ⟨ret_bool (by rw [← H.out]), rfl⟩

set_option maxRecDepth 100000 in
theorem refByte_any (a : Option Addr) (len cap : Nat) (l : List Pg) (n k : Nat) (w : World) (hs : Pgs w a len cap l) (hn : n < 9223372036854775808) (hk : k < 3) :
    Calls Tryd.prog 28 #[.slice a len cap, .int .i64 (n : Int), .int .i64 (k : Int)] w fun e w' => e = .returned (.int .i64 ((bfault l n k : Nat) : Int)) ∧ w = w' := by
  have hm := hs.most
  have HS := hide hs
  clear hs
  obtain ⟨q, hqn⟩ : ∃ q, n / 64 = q := ⟨_, rfl⟩
  have e64 : (n : Int) / 64 = (q : Int) := by omega
  have HQN := hide hqn
  have q0 : q < 9223372036854775808 := by omega
  by_cases hlt : q < len
  · obtain ⟨p, hp⟩ : ∃ p, l[q]? = some p := ⟨_, List.getElem?_eq_getElem (by rw [HS.out.size]; exact hlt)⟩
    obtain ⟨b, off, rfl, hrg⟩ := HS.out.cell _ p hp
    have hc := hrg 0 _ rfl
    simp only [Nat.add_zero] at hc
    have HB := hide (bfault_some (n := n) (k := k) (by rw [hqn]; exact hp))
    have R := hide (refRight_any p.rights k w hk)
    have q1 : (q : Int) < (len : Int) := by omega
    clear hp hrg hqn
    obtain ⟨t, ht⟩ : ∃ t, rbit p.rights k = t := ⟨_, rfl⟩
    rw [ht] at HB R
    clear ht
    cases t
    all_goals
      go_enter Tryd.func28, Tryd.ntmps28
      go_wp2_with fail
      refine Calls.mono R.out ?_
      rintro e w' ⟨rfl, rfl⟩
      go_wp2
      go_ret
      exact ⟨ret_int (by rw [HB.out]; simp), rfl⟩
  · have HB : Hid (bfault l n k = 3) := bfault_none (List.getElem?_eq_none (by rw [HS.out.size, hqn]; omega))
    have q1 : (len : Int) ≤ (q : Int) := by omega
    clear hqn hlt
    go_enter Tryd.func28, Tryd.ntmps28
    go_wp2
    go_ret
    exact ⟨ret_int (by rw [HB.out]; rfl), rfl⟩

/-- The byte at an address; 0 where there is none. -/
def byteAt (l : List Pg) (n : Nat) : Nat := match l[n / 64]? with
  | none => 0
  | some p => p.data.getD (n % 64) 0
theorem byteAt_some {l : List Pg} {n : Nat} {p : Pg} (h : l[n / 64]? = some p) : byteAt l n = p.data.getD (n % 64) 0 := by simp [byteAt, h]
theorem byteAt_lt {l : List Pg} (ok : Oks l) (n : Nat) : byteAt l n < 256 := by
  unfold byteAt
  split
  · decide
  · rename_i p hp
    have o := ok p (List.mem_of_getElem? hp)
    refine o.small _ ?_
    rw [List.getD_eq_getElem?_getD, List.getElem?_eq_getElem (by rw [o.size]; omega)]
    exact List.getElem_mem _

set_option maxRecDepth 100000 in
theorem refAt_any (a : Option Addr) (len cap : Nat) (l : List Pg) (n : Nat) (w : World) (hs : Pgs w a len cap l) (hn : n < 9223372036854775808) (hq : n / 64 < len) :
    Calls Tryd.prog 30 #[.slice a len cap, .int .i64 (n : Int)] w fun e w' => e = .returned (.int .u8 ((byteAt l n : Nat) : Int)) ∧ w = w' := by
  have hm := hs.most
  obtain ⟨p, hp⟩ : ∃ p, l[n / 64]? = some p := ⟨_, List.getElem?_eq_getElem (by rw [hs.size]; exact hq)⟩
  obtain ⟨b, off, rfl, hr⟩ := hs.cell _ p hp
  have ok := hs.ok p (List.mem_of_getElem? hp)
  have hc := range_row hr (n % 64) (bv (byteAt l n)) (by
    rw [byteAt_some hp, List.getD_eq_getElem?_getD]
    have hlt : n % 64 < p.data.length := by rw [ok.size]; omega
    simp [Pg.row, List.getElem?_eq_getElem hlt])
  unfold bv at hc
  obtain ⟨q, hqn⟩ : ∃ q, n / 64 = q := ⟨_, rfl⟩
  obtain ⟨j, hjn⟩ : ∃ j, n % 64 = j := ⟨_, rfl⟩
  have e64 : (n : Int) / 64 = (q : Int) := by omega
  have f64 : (n : Int) % 64 = (j : Int) := by omega
  rw [hqn] at hq
  rw [hqn, hjn] at hc
  have j1 : j < 64 := by omega
  have q0 : q < 9223372036854775808 := by omega
  have q1 : (q : Int) < (len : Int) := by omega
  have j2 : (j : Int) < 64 := by omega
  clear hs hp hr ok hqn hjn
  go_enter Tryd.func30, Tryd.ntmps30
  go_wp2
  go_ret
  exact ⟨rfl, rfl⟩

/-- The bytes from an address on. -/
def rdB (l : List Pg) (n s : Nat) : List Nat := (List.range s).map fun i => byteAt l (n + i)
theorem rdB_len (l : List Pg) (n s : Nat) : (rdB l n s).length = s := by simp [rdB]
theorem rdB_succ (l : List Pg) (n s : Nat) : rdB l n (s + 1) = rdB l n s ++ [byteAt l (n + s)] := by simp [rdB, List.range_succ]
theorem rdB_lt {l : List Pg} (ok : Oks l) (n s : Nat) : ∀ c ∈ rdB l n s, c < 256 := by
  intro c hc
  obtain ⟨i, _, rfl⟩ := List.mem_map.1 hc
  exact byteAt_lt ok _
theorem nbytes_rdB {l : List Pg} (ok : Oks l) {n s : Nat} (hq : n / 64 < l.length) (hf : n % 64 + s ≤ 64) : nbytes l n s = rdB l n s := by
  obtain ⟨p, hp⟩ : ∃ p, l[n / 64]? = some p := ⟨_, List.getElem?_eq_getElem hq⟩
  have o := ok p (List.mem_of_getElem? hp)
  refine List.ext_getElem? fun i => ?_
  have hn : nbytes l n s = (p.data.drop (n % 64)).take s := by simp [nbytes, hp]
  rw [hn, List.getElem?_take, List.getElem?_drop]
  by_cases hi : i < s
  · rw [if_pos hi, List.getElem?_eq_getElem (by rw [o.size]; omega)]
    simp only [rdB, List.getElem?_map, List.getElem?_range hi, Option.map_some, Option.some.injEq]
    rw [byteAt_some (p := p) (by rw [show (n + i) / 64 = n / 64 by omega]; exact hp), List.getD_eq_getElem?_getD, show (n + i) % 64 = n % 64 + i by omega, List.getElem?_eq_getElem (by rw [o.size]; omega)]
    rfl
  · rw [if_neg hi, List.getElem?_eq_none (by rw [rdB_len]; omega)]

set_option maxRecDepth 100000 in
theorem refWord_any (a : Option Addr) (len cap : Nat) (l : List Pg) (n s : Nat) (w : World) (hs : Pgs w a len cap l) (hn : n < 4294967296) (h4 : s ≤ 4) (hf : n % 64 + s ≤ 64) (hq : n / 64 < len) :
    Calls Tryd.prog 34 #[.slice a len cap, .int .i64 (n : Int), .int .i64 (s : Int)] w fun e w' => e = .returned (.int .u32 ((num (rdB l n s) : Nat) : Int)) ∧ w = w' := by
  have HS := hide hs
  have HA : Hid (∀ i, i < s → Calls Tryd.prog 30 #[.slice a len cap, .int .i64 ((n : Int) + (i : Int))] w fun e w' => e = .returned (.int .u8 ((byteAt l (n + i) : Nat) : Int)) ∧ w = w') := fun i hi => by
    have := refAt_any a len cap l (n + i) w hs (by omega) (by omega)
    rw [Int.natCast_add] at this
    exact this
  clear hs
  go_enter Tryd.func34, Tryd.ntmps34
  go_wp2
  go_loopw [7, 8] (fun v i wr => ∃ k : Nat, k ≤ s ∧ i = .int .i64 (k : Int) ∧ v = .int .i64 ((num (rdB l n k) : Nat) : Int) ∧ wr = w) (fun _ i _ => s - (intOf i).toNat)
  case atStart => exact ⟨0, by omega, rfl, rfl, rfl⟩
  case round =>
    obtain ⟨k, hk, rfl, rfl, rfl⟩ := hrel
    have HV : Hid (num (rdB l n k) < 4294967296) := by
      have h1 := num_lt _ (rdB_lt HS.out.ok n k)
      have h3 : 256 ^ (rdB l n k).length ≤ 256 ^ 4 := Nat.pow_le_pow_right (by decide) (by rw [rdB_len]; omega)
      unfold Hid
      omega
    by_cases hlt : k < s
    · have HT : Hid (num (rdB l n (k + 1)) = num (rdB l n k) * 256 + byteAt l (n + k)) := by unfold Hid; rw [rdB_succ]; exact num_snoc _ _
      have HL : Hid (byteAt l (n + k) < 256) := byteAt_lt HS.out.ok _
      have HK := hide (HA.out k hlt)
      generalize num (rdB l n k) = v at *
      generalize byteAt l (n + k) = c at *
      have v1 := HV.out
      have c1 := HL.out
      go_wp2_with fail
      refine Calls.mono HK.out ?_
      rintro e w' ⟨rfl, rfl⟩
      go_wp2
      go_roundw
      case rel => exact ⟨k + 1, by omega, by go_num, by rw [HT.out]; congr 1; omega, trivial⟩
      case measure => simp [intOf]; omega
    · obtain rfl : k = s := by omega
      obtain ⟨v, hv⟩ : ∃ v, num (rdB l n k) = v := ⟨_, rfl⟩
      have HE := hide hv
      rw [hv] at HV ⊢
      clear hv
      have v1 := HV.out
      go_wp2
      go_ret
      exact ⟨ret_int (by rw [HE.out]), rfl⟩

set_option maxRecDepth 100000 in
theorem refLoad_any (a : Option Addr) (len cap : Nat) (l : List Pg) (n s : Nat) (w : World) (hs : Pgs w a len cap l) (hn : n < 4294967296) (hz : Sized s) :
    Calls Tryd.prog 12 #[.slice a len cap, .int .u32 (n : Int), .int .i64 (s : Int)] w fun e w' => e = .returned (.tuple #[.int .u32 ((ldv l n s 0 : Nat) : Int), .int .i64 ((nfault l n s 0 : Nat) : Int), .int .i64 0]) ∧ w = w' := by
  by_cases ha : n % s = 0
  · have H1 := hide (refByte_any a len cap l n 0 w hs (by omega) (by decide))
    have hnb := nfault_byte (l := l) (k := 0) ha
    by_cases h0 : nfault l n s 0 = 0
    · obtain ⟨_, p, hp, _⟩ := nfault_zero h0
      have hq : n / 64 < len := by rw [← hs.size]; exact (List.getElem?_eq_some_iff.1 hp).1
      have H3 := hide (refWord_any a len cap l n s w hs hn (by rcases hz with rfl | rfl | rfl <;> omega) (fits hz ha) hq)
      have HV : Hid (ldv l n s 0 = num (rdB l n s)) := by unfold Hid; rw [ldv_zero h0, nbytes_rdB hs.ok (by rw [hs.size]; exact hq) (fits hz ha)]
      rw [← hnb, h0] at H1
      rw [h0]
      clear hs hp hq h0 hnb
      rcases hz with rfl | rfl | rfl
      all_goals
        have hd1 : (n : Int) % _ = 0 := Int.emod_eq_zero_of_dvd (Int.natCast_dvd_natCast.2 (Nat.dvd_of_mod_eq_zero ha))
        go_enter Tryd.func12, Tryd.ntmps12
        go_wp2_with fail
        refine Calls.mono H1.out ?_
        rintro e w' ⟨rfl, rfl⟩
        go_wp2_with fail
        refine Calls.mono H3.out ?_
        rintro e w' ⟨rfl, rfl⟩
        go_wp2
        go_ret3
        exact ⟨by rw [HV.out]; rfl, rfl⟩
    · have HV := hide (ldv_fault h0)
      have hd : ((nfault l n s 0 : Nat) : Int) ≠ 0 := by omega
      have hd2 : (((nfault l n s 0 : Nat) : Int) != 0) = true := by simpa using hd
      rw [← hnb] at H1
      clear hs hd h0 hnb
      generalize nfault l n s 0 = f at *
      rcases hz with rfl | rfl | rfl
      all_goals
        have hd1 : (n : Int) % _ = 0 := Int.emod_eq_zero_of_dvd (Int.natCast_dvd_natCast.2 (Nat.dvd_of_mod_eq_zero ha))
        go_enter Tryd.func12, Tryd.ntmps12
        go_wp2_with fail
        refine Calls.mono H1.out ?_
        rintro e w' ⟨rfl, rfl⟩
        go_wp2
        go_ret3
        exact ⟨by rw [HV.out]; rfl, rfl⟩
  · have HB : Hid (nfault l n s 0 = 2) := nfault_align ha
    have HV : Hid (ldv l n s 0 = 0) := ldv_fault (by rw [HB.out]; decide)
    clear hs
    rcases hz with rfl | rfl | rfl
    · omega
    · have hd1 : ((n : Int) % 2 != 0) = true := by simp; omega
      clear ha
      go_enter Tryd.func12, Tryd.ntmps12
      go_wp2
      go_ret3
      exact ⟨by rw [HB.out, HV.out]; rfl, rfl⟩
    · have hd1 : ((n : Int) % 4 != 0) = true := by simp; omega
      clear ha
      go_enter Tryd.func12, Tryd.ntmps12
      go_wp2
      go_ret3
      exact ⟨by rw [HB.out, HV.out]; rfl, rfl⟩
set_option maxRecDepth 100000 in
theorem refLoad_bad (a : Option Addr) (len cap n : Nat) (s : Int) (w : World) (h1 : ¬ s = 1) (h2 : ¬ s = 2) (h4 : ¬ s = 4) :
    Calls Tryd.prog 12 #[.slice a len cap, .int .u32 (n : Int), .int .i64 s] w fun e w' => e = .returned (.tuple #[.int .u32 0, .int .i64 0, .int .i64 12]) ∧ w = w' := by
  have d1 : (s != 1) = true := by simpa using h1
  have d2 : (s != 2) = true := by simpa using h2
  have d4 : (s != 4) = true := by simpa using h4
  clear h1 h2 h4
  go_enter Tryd.func12, Tryd.ntmps12
  go_wp2
  go_ret3
  exact ⟨rfl, rfl⟩
set_option maxRecDepth 100000 in
theorem refFetch_any (a : Option Addr) (len cap : Nat) (l : List Pg) (n : Nat) (w : World) (hs : Pgs w a len cap l) (hn : n < 4294967296) :
    Calls Tryd.prog 14 #[.slice a len cap, .int .u32 (n : Int)] w fun e w' => e = .returned (.tuple #[.int .u32 ((ldv l n 4 2 : Nat) : Int), .int .i64 ((nfault l n 4 2 : Nat) : Int)]) ∧ w = w' := by
  have hz : Sized 4 := .inr (.inr rfl)
  by_cases ha : n % 4 = 0
  · have H1 := hide (refByte_any a len cap l n 2 w hs (by omega) (by decide))
    have hnb := nfault_byte (l := l) (k := 2) ha
    have hd1 : (n : Int) % 4 = 0 := by omega
    by_cases h0 : nfault l n 4 2 = 0
    · obtain ⟨_, p, hp, _⟩ := nfault_zero h0
      have hq : n / 64 < len := by rw [← hs.size]; exact (List.getElem?_eq_some_iff.1 hp).1
      have H3 := hide (refWord_any a len cap l n 4 w hs hn (by decide) (fits hz ha) hq)
      have HV : Hid (ldv l n 4 2 = num (rdB l n 4)) := by unfold Hid; rw [ldv_zero h0, nbytes_rdB hs.ok (by rw [hs.size]; exact hq) (fits hz ha)]
      rw [← hnb, h0] at H1
      rw [h0]
      clear hs hp hq h0 hnb
      go_enter Tryd.func14, Tryd.ntmps14
      go_wp2_with fail
      refine Calls.mono H1.out ?_
      rintro e w' ⟨rfl, rfl⟩
      go_wp2_with fail
      refine Calls.mono H3.out ?_
      rintro e w' ⟨rfl, rfl⟩
      go_wp2
      go_ret2
      exact ⟨by rw [HV.out]; rfl, rfl⟩
    · have HV := hide (ldv_fault h0)
      have hd : ((nfault l n 4 2 : Nat) : Int) ≠ 0 := by omega
      have hd2 : (((nfault l n 4 2 : Nat) : Int) != 0) = true := by simpa using hd
      rw [← hnb] at H1
      clear hs hd h0 hnb
      generalize nfault l n 4 2 = f at *
      go_enter Tryd.func14, Tryd.ntmps14
      go_wp2_with fail
      refine Calls.mono H1.out ?_
      rintro e w' ⟨rfl, rfl⟩
      go_wp2
      go_ret2
      exact ⟨by rw [HV.out]; rfl, rfl⟩
  · have HB : Hid (nfault l n 4 2 = 2) := nfault_align ha
    have HV : Hid (ldv l n 4 2 = 0) := ldv_fault (by rw [HB.out]; decide)
    have hd1 : ((n : Int) % 4 != 0) = true := by simp; omega
    clear hs ha
    go_enter Tryd.func14, Tryd.ntmps14
    go_wp2
    go_ret2
    exact ⟨by rw [HB.out, HV.out]; rfl, rfl⟩
end Go.Proofs.YtbekdbgnpcbklaaDoor
