/-
  The document's page: faults of bytes, numbers loaded and fetched.
  The document's page: a byte put, a number stored.
-/
import Derived.Test.YtegkodgondlcmaaDoorPgPoke
namespace Go.Proofs.YtegkodgondlcmaaDoor
open Go.RowKit FerryCrc
set_option linter.unusedVariables false

theorem bit_right (r : Int) (k : Nat) : (bits .and .i64 (r / 2 ^ k) 1 == 1) = rbit r k := by
  rw [i64_and1, Bool.eq_iff_iff, beq_iff_eq, rbit, decide_eq_true_eq]

set_option maxRecDepth 100000 in
theorem refRight_any (r : Int) (k : Nat) (w : World) (hk : k < 3) :
    Calls Tryd.prog 78 #[.int .i64 r, .int .i64 (k : Int)] w fun e w' => e = .returned (.bool (rbit r k)) ∧ w = w' := by
  have H := hide (bit_right r k)
  go_enter Tryd.func78, Tryd.ntmps78
  go_wp2
  go_ret
  exact ⟨ret_bool (by rw [← H.out]), rfl⟩

set_option maxRecDepth 100000 in
theorem refByte_any (a : Option Addr) (len cap : Nat) (l : List Pg) (n k : Nat) (w : World) (hs : Pgs w a len cap l) (hn : n < 9223372036854775808) (hk : k < 3) :
    Calls Tryd.prog 62 #[.slice a len cap, .int .i64 (n : Int), .int .i64 (k : Int)] w fun e w' => e = .returned (.int .i64 ((bfault l n k : Nat) : Int)) ∧ w = w' := by
  have hm := hs.most
  have HS := hide hs
  clear hs
  obtain ⟨q, hqn⟩ : ∃ q, n / 64 = q := ⟨_, rfl⟩
  have e64 : (n : Int) / 64 = (q : Int) := by omega
  have HQN := hide hqn
  have q0 : q < 9223372036854775808 := by omega
  by_cases hlt : q < len
  · obtain ⟨p, hp⟩ : ∃ p, l[q]? = some p := ⟨_, List.getElem?_eq_getElem (by rw [HS.out.size]; exact hlt)⟩
    obtain ⟨b, off, rfl, hrg⟩ := HS.out.cell _ p hp
    have hc := hrg 0 _ rfl
    simp only [Nat.add_zero] at hc
    have HB := hide (bfault_some (n := n) (k := k) (by rw [hqn]; exact hp))
    have R := hide (refRight_any p.rights k w hk)
    have q1 : (q : Int) < (len : Int) := by omega
    clear hp hrg hqn
    obtain ⟨t, ht⟩ : ∃ t, rbit p.rights k = t := ⟨_, rfl⟩
    rw [ht] at HB R
    clear ht
    cases t
    all_goals
      go_enter Tryd.func62, Tryd.ntmps62
      go_wp2_with fail
      refine Calls.mono R.out ?_
      rintro e w' ⟨rfl, rfl⟩
      go_wp2
      go_ret
      exact ⟨ret_int (by rw [HB.out]; simp), rfl⟩
  · have HB : Hid (bfault l n k = 3) := bfault_none (List.getElem?_eq_none (by rw [HS.out.size, hqn]; omega))
    have q1 : (len : Int) ≤ (q : Int) := by omega
    clear hqn hlt
    go_enter Tryd.func62, Tryd.ntmps62
    go_wp2
    go_ret
    exact ⟨ret_int (by rw [HB.out]; rfl), rfl⟩

/-- The byte at an address; 0 where there is none. -/
def byteAt (l : List Pg) (n : Nat) : Nat := match l[n / 64]? with
  | none => 0
  | some p => p.data.getD (n % 64) 0
theorem byteAt_some {l : List Pg} {n : Nat} {p : Pg} (h : l[n / 64]? = some p) : byteAt l n = p.data.getD (n % 64) 0 := by simp [byteAt, h]
theorem byteAt_lt {l : List Pg} (ok : Oks l) (n : Nat) : byteAt l n < 256 := by
  unfold byteAt
  split
  · decide
  · rename_i p hp
    have o := ok p (List.mem_of_getElem? hp)
    refine o.small _ ?_
    rw [List.getD_eq_getElem?_getD, List.getElem?_eq_getElem (by rw [o.size]; omega)]
    exact List.getElem_mem _

set_option maxRecDepth 100000 in
theorem refAt_any (a : Option Addr) (len cap : Nat) (l : List Pg) (n : Nat) (w : World) (hs : Pgs w a len cap l) (hn : n < 9223372036854775808) (hq : n / 64 < len) :
    Calls Tryd.prog 79 #[.slice a len cap, .int .i64 (n : Int)] w fun e w' => e = .returned (.int .u8 ((byteAt l n : Nat) : Int)) ∧ w = w' := by
  have hm := hs.most
  obtain ⟨p, hp⟩ : ∃ p, l[n / 64]? = some p := ⟨_, List.getElem?_eq_getElem (by rw [hs.size]; exact hq)⟩
  obtain ⟨b, off, rfl, hr⟩ := hs.cell _ p hp
  have ok := hs.ok p (List.mem_of_getElem? hp)
  have hc := range_row hr (n % 64) (bv (byteAt l n)) (by
    rw [byteAt_some hp, List.getD_eq_getElem?_getD]
    have hlt : n % 64 < p.data.length := by rw [ok.size]; omega
    simp [Pg.row, List.getElem?_eq_getElem hlt])
  unfold bv at hc
  obtain ⟨q, hqn⟩ : ∃ q, n / 64 = q := ⟨_, rfl⟩
  obtain ⟨j, hjn⟩ : ∃ j, n % 64 = j := ⟨_, rfl⟩
  have e64 : (n : Int) / 64 = (q : Int) := by omega
  have f64 : (n : Int) % 64 = (j : Int) := by omega
  rw [hqn] at hq
  rw [hqn, hjn] at hc
  have j1 : j < 64 := by omega
  have q0 : q < 9223372036854775808 := by omega
  have q1 : (q : Int) < (len : Int) := by omega
  have j2 : (j : Int) < 64 := by omega
  clear hs hp hr ok hqn hjn
  go_enter Tryd.func79, Tryd.ntmps79
  go_wp2
  go_ret
  exact ⟨rfl, rfl⟩

/-- The bytes from an address on. -/
def rdB (l : List Pg) (n s : Nat) : List Nat := (List.range s).map fun i => byteAt l (n + i)
theorem rdB_len (l : List Pg) (n s : Nat) : (rdB l n s).length = s := by simp [rdB]
theorem rdB_succ (l : List Pg) (n s : Nat) : rdB l n (s + 1) = rdB l n s ++ [byteAt l (n + s)] := by simp [rdB, List.range_succ]
theorem rdB_lt {l : List Pg} (ok : Oks l) (n s : Nat) : ∀ c ∈ rdB l n s, c < 256 := by
  intro c hc
  obtain ⟨i, _, rfl⟩ := List.mem_map.1 hc
  exact byteAt_lt ok _
theorem nbytes_rdB {l : List Pg} (ok : Oks l) {n s : Nat} (hq : n / 64 < l.length) (hf : n % 64 + s ≤ 64) : nbytes l n s = rdB l n s := by
  obtain ⟨p, hp⟩ : ∃ p, l[n / 64]? = some p := ⟨_, List.getElem?_eq_getElem hq⟩
  have o := ok p (List.mem_of_getElem? hp)
  refine List.ext_getElem? fun i => ?_
  have hn : nbytes l n s = (p.data.drop (n % 64)).take s := by simp [nbytes, hp]
  rw [hn, List.getElem?_take, List.getElem?_drop]
  by_cases hi : i < s
  · rw [if_pos hi, List.getElem?_eq_getElem (by rw [o.size]; omega)]
    simp only [rdB, List.getElem?_map, List.getElem?_range hi, Option.map_some, Option.some.injEq]
    rw [byteAt_some (p := p) (by rw [show (n + i) / 64 = n / 64 by omega]; exact hp), List.getD_eq_getElem?_getD, show (n + i) % 64 = n % 64 + i by omega, List.getElem?_eq_getElem (by rw [o.size]; omega)]
    rfl
  · rw [if_neg hi, List.getElem?_eq_none (by rw [rdB_len]; omega)]

set_option maxRecDepth 100000 in
theorem refWord_any (a : Option Addr) (len cap : Nat) (l : List Pg) (n s : Nat) (w : World) (hs : Pgs w a len cap l) (hn : n < 4294967296) (h4 : s ≤ 4) (hf : n % 64 + s ≤ 64) (hq : n / 64 < len) :
    Calls Tryd.prog 63 #[.slice a len cap, .int .i64 (n : Int), .int .i64 (s : Int)] w fun e w' => e = .returned (.int .u32 ((num (rdB l n s) : Nat) : Int)) ∧ w = w' := by
  have HS := hide hs
  have HA : Hid (∀ i, i < s → Calls Tryd.prog 79 #[.slice a len cap, .int .i64 ((n : Int) + (i : Int))] w fun e w' => e = .returned (.int .u8 ((byteAt l (n + i) : Nat) : Int)) ∧ w = w') := fun i hi => by
    have := refAt_any a len cap l (n + i) w hs (by omega) (by omega)
    rw [Int.natCast_add] at this
    exact this
  clear hs
  go_enter Tryd.func63, Tryd.ntmps63
  go_wp2
  go_loopw [7, 8] (fun v i wr => ∃ k : Nat, k ≤ s ∧ i = .int .i64 (k : Int) ∧ v = .int .i64 ((num (rdB l n k) : Nat) : Int) ∧ wr = w) (fun _ i _ => s - (intOf i).toNat)
  case atStart => exact ⟨0, by omega, rfl, rfl, rfl⟩
  case round =>
    obtain ⟨k, hk, rfl, rfl, rfl⟩ := hrel
    have HV : Hid (num (rdB l n k) < 4294967296) := by
      have h1 := num_lt _ (rdB_lt HS.out.ok n k)
      have h3 : 256 ^ (rdB l n k).length ≤ 256 ^ 4 := Nat.pow_le_pow_right (by decide) (by rw [rdB_len]; omega)
      unfold Hid
      omega
    by_cases hlt : k < s
    · have HT : Hid (num (rdB l n (k + 1)) = num (rdB l n k) * 256 + byteAt l (n + k)) := by unfold Hid; rw [rdB_succ]; exact num_snoc _ _
      have HL : Hid (byteAt l (n + k) < 256) := byteAt_lt HS.out.ok _
      have HK := hide (HA.out k hlt)
      generalize num (rdB l n k) = v at *
      generalize byteAt l (n + k) = c at *
      have v1 := HV.out
      have c1 := HL.out
      go_wp2_with fail
      refine Calls.mono HK.out ?_
      rintro e w' ⟨rfl, rfl⟩
      go_wp2
      go_roundw
      case rel => exact ⟨k + 1, by omega, by go_num, by rw [HT.out]; congr 1; omega, trivial⟩
      case measure => simp [intOf]; omega
    · obtain rfl : k = s := by omega
      obtain ⟨v, hv⟩ : ∃ v, num (rdB l n k) = v := ⟨_, rfl⟩
      have HE := hide hv
      rw [hv] at HV ⊢
      clear hv
      have v1 := HV.out
      go_wp2
      go_ret
      exact ⟨ret_int (by rw [HE.out]), rfl⟩

set_option maxRecDepth 100000 in
theorem refLoad_any (a : Option Addr) (len cap : Nat) (l : List Pg) (n s : Nat) (w : World) (hs : Pgs w a len cap l) (hn : n < 4294967296) (hz : Sized s) :
    Calls Tryd.prog 36 #[.slice a len cap, .int .u32 (n : Int), .int .i64 (s : Int)] w fun e w' => e = .returned (.tuple #[.int .u32 ((ldv l n s 0 : Nat) : Int), .int .i64 ((nfault l n s 0 : Nat) : Int), .int .i64 0]) ∧ w = w' := by
  by_cases ha : n % s = 0
  · have H1 := hide (refByte_any a len cap l n 0 w hs (by omega) (by decide))
    have hnb := nfault_byte (l := l) (k := 0) ha
    by_cases h0 : nfault l n s 0 = 0
    · obtain ⟨_, p, hp, _⟩ := nfault_zero h0
      have hq : n / 64 < len := by rw [← hs.size]; exact (List.getElem?_eq_some_iff.1 hp).1
      have H3 := hide (refWord_any a len cap l n s w hs hn (by rcases hz with rfl | rfl | rfl <;> omega) (fits hz ha) hq)
      have HV : Hid (ldv l n s 0 = num (rdB l n s)) := by unfold Hid; rw [ldv_zero h0, nbytes_rdB hs.ok (by rw [hs.size]; exact hq) (fits hz ha)]
      rw [← hnb, h0] at H1
      rw [h0]
      clear hs hp hq h0 hnb
      rcases hz with rfl | rfl | rfl
      all_goals
        have hd1 : (n : Int) % _ = 0 := Int.emod_eq_zero_of_dvd (Int.natCast_dvd_natCast.2 (Nat.dvd_of_mod_eq_zero ha))
        go_enter Tryd.func36, Tryd.ntmps36
        go_wp2_with fail
        refine Calls.mono H1.out ?_
        rintro e w' ⟨rfl, rfl⟩
        go_wp2_with fail
        refine Calls.mono H3.out ?_
        rintro e w' ⟨rfl, rfl⟩
        go_wp2
        go_ret3
        exact ⟨by rw [HV.out]; rfl, rfl⟩
    · have HV := hide (ldv_fault h0)
      have hd : ((nfault l n s 0 : Nat) : Int) ≠ 0 := by omega
      have hd2 : (((nfault l n s 0 : Nat) : Int) != 0) = true := by simpa using hd
      rw [← hnb] at H1
      clear hs hd h0 hnb
      generalize nfault l n s 0 = f at *
      rcases hz with rfl | rfl | rfl
      all_goals
        have hd1 : (n : Int) % _ = 0 := Int.emod_eq_zero_of_dvd (Int.natCast_dvd_natCast.2 (Nat.dvd_of_mod_eq_zero ha))
        go_enter Tryd.func36, Tryd.ntmps36
        go_wp2_with fail
        refine Calls.mono H1.out ?_
        rintro e w' ⟨rfl, rfl⟩
        go_wp2
        go_ret3
        exact ⟨by rw [HV.out]; rfl, rfl⟩
  · have HB : Hid (nfault l n s 0 = 2) := nfault_align ha
    have HV : Hid (ldv l n s 0 = 0) := ldv_fault (by rw [HB.out]; decide)
    clear hs
    rcases hz with rfl | rfl | rfl
    · omega
    · have hd1 : ((n : Int) % 2 != 0) = true := by simp; omega
      clear ha
      go_enter Tryd.func36, Tryd.ntmps36
      go_wp2
      go_ret3
      exact ⟨by rw [HB.out, HV.out]; rfl, rfl⟩
    · have hd1 : ((n : Int) % 4 != 0) = true := by simp; omega
      clear ha
      go_enter Tryd.func36, Tryd.ntmps36
      go_wp2
      go_ret3
      exact ⟨by rw [HB.out, HV.out]; rfl, rfl⟩
set_option maxRecDepth 100000 in
theorem refLoad_bad (a : Option Addr) (len cap n : Nat) (s : Int) (w : World) (h1 : ¬ s = 1) (h2 : ¬ s = 2) (h4 : ¬ s = 4) :
    Calls Tryd.prog 36 #[.slice a len cap, .int .u32 (n : Int), .int .i64 s] w fun e w' => e = .returned (.tuple #[.int .u32 0, .int .i64 0, .int .i64 12]) ∧ w = w' := by
  have d1 : (s != 1) = true := by simpa using h1
  have d2 : (s != 2) = true := by simpa using h2
  have d4 : (s != 4) = true := by simpa using h4
  clear h1 h2 h4
  go_enter Tryd.func36, Tryd.ntmps36
  go_wp2
  go_ret3
  exact ⟨rfl, rfl⟩
set_option maxRecDepth 100000 in
theorem refFetch_any (a : Option Addr) (len cap : Nat) (l : List Pg) (n : Nat) (w : World) (hs : Pgs w a len cap l) (hn : n < 4294967296) :
    Calls Tryd.prog 50 #[.slice a len cap, .int .u32 (n : Int)] w fun e w' => e = .returned (.tuple #[.int .u32 ((ldv l n 4 2 : Nat) : Int), .int .i64 ((nfault l n 4 2 : Nat) : Int)]) ∧ w = w' := by
  have hz : Sized 4 := .inr (.inr rfl)
  by_cases ha : n % 4 = 0
  · have H1 := hide (refByte_any a len cap l n 2 w hs (by omega) (by decide))
    have hnb := nfault_byte (l := l) (k := 2) ha
    have hd1 : (n : Int) % 4 = 0 := by omega
    by_cases h0 : nfault l n 4 2 = 0
    · obtain ⟨_, p, hp, _⟩ := nfault_zero h0
      have hq : n / 64 < len := by rw [← hs.size]; exact (List.getElem?_eq_some_iff.1 hp).1
      have H3 := hide (refWord_any a len cap l n 4 w hs hn (by decide) (fits hz ha) hq)
      have HV : Hid (ldv l n 4 2 = num (rdB l n 4)) := by unfold Hid; rw [ldv_zero h0, nbytes_rdB hs.ok (by rw [hs.size]; exact hq) (fits hz ha)]
      rw [← hnb, h0] at H1
      rw [h0]
      clear hs hp hq h0 hnb
      go_enter Tryd.func50, Tryd.ntmps50
      go_wp2_with fail
      refine Calls.mono H1.out ?_
      rintro e w' ⟨rfl, rfl⟩
      go_wp2_with fail
      refine Calls.mono H3.out ?_
      rintro e w' ⟨rfl, rfl⟩
      go_wp2
      go_ret2
      exact ⟨by rw [HV.out]; rfl, rfl⟩
    · have HV := hide (ldv_fault h0)
      have hd : ((nfault l n 4 2 : Nat) : Int) ≠ 0 := by omega
      have hd2 : (((nfault l n 4 2 : Nat) : Int) != 0) = true := by simpa using hd
      rw [← hnb] at H1
      clear hs hd h0 hnb
      generalize nfault l n 4 2 = f at *
      go_enter Tryd.func50, Tryd.ntmps50
      go_wp2_with fail
      refine Calls.mono H1.out ?_
      rintro e w' ⟨rfl, rfl⟩
      go_wp2
      go_ret2
      exact ⟨by rw [HV.out]; rfl, rfl⟩
  · have HB : Hid (nfault l n 4 2 = 2) := nfault_align ha
    have HV : Hid (ldv l n 4 2 = 0) := ldv_fault (by rw [HB.out]; decide)
    have hd1 : ((n : Int) % 4 != 0) = true := by simp; omega
    clear hs ha
    go_enter Tryd.func50, Tryd.ntmps50
    go_wp2
    go_ret2
    exact ⟨by rw [HB.out, HV.out]; rfl, rfl⟩
end Go.Proofs.YtegkodgondlcmaaDoor
namespace Go.Proofs.YtegkodgondlcmaaDoor
open Go.RowKit FerryCrc
set_option linter.unusedVariables false

set_option maxRecDepth 100000 in
theorem refPut_any (g len cap base : Nat) (l : List Pg) (P : Nat → Bool) (B : Nat → Nat) (D : Nat → Bool) (n c : Nat) (w : World) (ho : POwn w base (.slice (some ⟨g, 0, none⟩) len cap) (upd l P B D)) (hl : l.length = len) (ok : Oks l) (hm : len ≤ 1759218604391)
    (hB : ∀ a, B a < 256) (hq : n / 64 < len) (hn : n < 9223372036854775808) (hc : B n = c) :
    Calls Tryd.prog 64 #[.slice (some ⟨g, 0, none⟩) len cap, .int .i64 (n : Int), .int .u8 (c : Int)] w fun e w' => e = .returned (.tuple #[]) ∧ POwn w' base (.slice (some ⟨g, 0, none⟩) len cap) (upd l (fun a => P a || a == n) B (fun r => D r || r == n / 64)) ∧ Below g w w' := by
  obtain ⟨q, hqn⟩ : ∃ q, n / 64 = q := ⟨_, rfl⟩
  obtain ⟨j, hjn⟩ : ∃ j, n % 64 = j := ⟨_, rfl⟩
  have e64 : (n : Int) / 64 = (q : Int) := by omega
  have f64 : (n : Int) % 64 = (j : Int) := by omega
  have j1 : j < 64 := by omega
  have q0 : q < 9223372036854775808 := by omega
  have hqj : 64 * q + j = n := by omega
  rw [hqn] at hq ⊢
  obtain ⟨⟨u, hcell⟩, hf, hst⟩ := POwn.byte ho hl ok (fun a _ => hB a) (q := q) (x := j) (by omega) j1
  rw [hqj, hc] at hst
  obtain ⟨⟨u2, hcell2⟩, hf2, hst2⟩ := POwn.mark hst hl ok (fun a _ => hB a) (q := q) (by omega)
  have HST := hide hst2
  unfold bv at hcell2 hf2 HST
  clear hst hst2 ho hqn hjn hqj hc
  have q1 : (q : Int) < (len : Int) := by omega
  have j2 : (j : Int) < 64 := by omega
  go_enter Tryd.func64, Tryd.ntmps64
  go_wp2
  go_end0
  refine ⟨rfl, HST.out, ?_⟩
  exact ((Below.refl g w).setCell (p := ⟨g, q * 66 + 2 + j, none⟩) (Nat.le_refl _) _).setCell (p := ⟨g, q * 66 + 1, none⟩) (Nat.le_refl _) _

theorem byt_down {v s n k : Nat} (h : k < s) : v / 256 ^ (s - 1 - k) % 256 = byt v s n (n + k) := by unfold byt; rw [show n + k - n = k by omega]

set_option maxRecDepth 100000 in
set_option maxHeartbeats 1000000 in
theorem refStore_any (a : Option Addr) (len cap : Nat) (l : List Pg) (n s v : Nat) (w : World) (hs : Pgs w a len cap l) (hn : n < 4294967296) (hz : Sized s) (hv : v < 4294967296) :
    Calls Tryd.prog 38 #[.slice a len cap, .int .u32 (n : Int), .int .i64 (s : Int), .int .u32 (v : Int)] w fun e w' => ∃ x, e = .returned (.tuple #[x, .int .i64 ((nfault l n s 1 : Nat) : Int), .int .i64 0]) ∧ POwn w' w.heap.size x (stv l n s v) ∧ Below w.heap.size w w' := by
  by_cases ha : n % s = 0
  · have H1 := hide (refByte_any a len cap l n 1 w hs (by omega) (by decide))
    have hnb := nfault_byte (l := l) (k := 1) ha
    have hd1 : (n : Int) % (s : Int) = 0 := Int.emod_eq_zero_of_dvd (Int.natCast_dvd_natCast.2 (Nat.dvd_of_mod_eq_zero ha))
    have hs4 : s ≤ 4 := by rcases hz with rfl | rfl | rfl <;> omega
    have hs0 : 0 < s := by rcases hz with rfl | rfl | rfl <;> omega
    have hs1 : ((s : Int) == 0) = false := by simp; omega
    by_cases h0 : nfault l n s 1 = 0
    · obtain ⟨_, p, hp, _⟩ := nfault_zero h0
      have hq : n / 64 < len := by rw [← hs.size]; exact (List.getElem?_eq_some_iff.1 hp).1
      have H2 := hide (refCopy_any a len cap l w hs)
      have HV : Hid (stv l n s v = stored l n s v) := by unfold Hid stv; rw [if_pos h0]
      have HS := hide hs
      have HF := hide (fits hz ha)
      have HQ := hide hq
      rw [← hnb, h0] at H1
      rw [h0]
      clear hs hp h0 hnb
      obtain ⟨S, hS⟩ : ∃ S, S = s := ⟨s, rfl⟩
      have HSS := hide hS
      rw [← hS] at HF HV hs4 hs0
      clear hS hd1 hs1
      rcases hz with rfl | rfl | rfl
      all_goals
        have hd1 : (n : Int) % _ = 0 := Int.emod_eq_zero_of_dvd (Int.natCast_dvd_natCast.2 (Nat.dvd_of_mod_eq_zero ha))
        go_enter Tryd.func38, Tryd.ntmps38
        go_wp2_with fail
        refine Calls.mono H1.out ?_
        rintro e w' ⟨rfl, rfl⟩
        go_wp2_with fail
        refine Calls.mono H2.out ?_
        rintro e w1 ⟨x, rfl, ho, hb⟩
        obtain ⟨a1, c1, rfl, _, hform⟩ := ho.pgs HS.out.ok (by rw [HS.out.size]; exact HS.out.most)
        rcases hform with ⟨_, hnil⟩ | ⟨g, rfl, hg⟩
        · exfalso
          have := HS.out.size
          rw [hnil] at this
          simp at this
          omega
        have HO := hide ho
        have HB := hide hb
        have HG := hide hg
        have hlen := HS.out.size
        clear ho hb hg
        rw [hlen] at HO ⊢
        have HLEN := hide hlen
        clear hlen
        go_wp2
        go_loopw [13, 14] (fun x i wr => ∃ k : Nat, k ≤ S ∧ i = .int .i64 ((k : Int) - 1) ∧ x = .int .i64 ((v / 256 ^ (S - k) : Nat) : Int) ∧ Hid (POwn wr w.heap.size (.slice (some ⟨g, 0, none⟩) len c1) (upd l (inR (n + k) (S - k)) (byt v S n) (fun r => decide (k < S) && r == n / 64))) ∧ Hid (Below w.heap.size w wr)) (fun _ i _ => (intOf i + 1).toNat)
        case atStart => 
          refine ⟨S, by omega, by rw [HSS.out]; rfl, by simp, ?_, HB.out⟩
          have e : upd l (inR (n + S) (S - S)) (byt v S n) (fun r => decide (S < S) && r == n / 64) = l := (upd_congr HS.out.ok (fun a _ => ⟨by rw [Nat.sub_self]; exact inR_zero _ a, fun _ => rfl⟩) (fun r _ => by simp)).trans (upd_none l _)
          unfold Hid
          rw [e]
          exact HO.out
        case round =>
          obtain ⟨k, hk, rfl, rfl, hown, hb⟩ := hrel
          by_cases hpos : 0 < k
          · obtain ⟨j, rfl⟩ : ∃ j, k = j + 1 := ⟨k - 1, by omega⟩
            obtain ⟨X, hX⟩ : ∃ X, v / 256 ^ (S - (j + 1)) = X := ⟨_, rfl⟩
            have hc : byt v S n (n + j) = X % 256 := by rw [← byt_down (v := v) (s := S) (n := n) (k := j) (by omega), ← hX, show S - 1 - j = S - (j + 1) by omega]
            have HP := hide (refPut_any g len c1 w.heap.size l _ _ _ (n + j) _ wr hown.out HLEN.out HS.out.ok HS.out.most (byt_lt v S n) (by have := HF.out; have := HQ.out; omega) (by omega) hc)
            have HX : Hid (v / 256 ^ (S - j) = X / 256) := by unfold Hid; rw [← hX, show S - j = S - (j + 1) + 1 by omega, Nat.pow_succ, Nat.div_div_eq_div_mul]
            have x1 : X < 4294967296 := by rw [← hX]; exact Nat.lt_of_le_of_lt (Nat.div_le_self _ _) hv
            have e1 : (((j + 1 : Nat) : Int) - 1) = (j : Int) := by omega
            obtain ⟨y, hy⟩ : ∃ y, X % 256 = y := ⟨_, rfl⟩
            obtain ⟨z, hz⟩ : ∃ z, X / 256 = z := ⟨_, rfl⟩
            have m1 : (X : Int) % 256 = (y : Int) := by omega
            have m2 : (X : Int) / 256 = (z : Int) := by omega
            have m3 : (y : Int) % 256 = (y : Int) := by omega
            rw [hy] at HP
            rw [hz] at HX
            clear hy hz
            rw [hX, e1]
            rw [Int.natCast_add] at HP
            clear hc hX e1
            go_wp2_with fail
            refine Calls.mono HP.out ?_
            rintro e w2 ⟨rfl, ho2, hb2⟩
            have HO2 := hide ho2
            have HB2 := hide (hb.out.trans (hb2.mono HG.out))
            clear ho2 hb2
            go_wp2
            go_roundw
            case rel =>
              refine ⟨j, by omega, by congr 1, by rw [HX.out], ?_, HB2.out⟩
              have e : upd l (inR (n + j) (S - j)) (byt v S n) (fun r => decide (j < S) && r == n / 64) = upd l (fun a => inR (n + (j + 1)) (S - (j + 1)) a || a == n + j) (byt v S n) (fun r => (decide (j + 1 < S) && r == n / 64) || r == (n + j) / 64) := by
                refine upd_congr HS.out.ok (fun a _ => ⟨?_, fun _ => rfl⟩) (fun r _ => ?_)
                · rw [Bool.eq_iff_iff]
                  simp only [inR, decide_eq_true_eq, Bool.or_eq_true, beq_iff_eq]
                  omega
                · rw [show (n + j) / 64 = n / 64 by have := HF.out; omega, Bool.eq_iff_iff]
                  simp only [decide_eq_true_eq, Bool.or_eq_true, Bool.and_eq_true, beq_iff_eq]
                  omega
              unfold Hid
              rw [e]
              exact HO2.out
            case measure => simp [intOf]
          · obtain rfl : k = 0 := by omega
            have e : upd l (inR (n + 0) (S - 0)) (byt v S n) (fun r => decide (0 < S) && r == n / 64) = stored l n S v := by
              refine upd_congr HS.out.ok (fun a _ => ⟨rfl, fun _ => rfl⟩) (fun r _ => ?_)
              rw [decide_eq_true hs0]
              simp [isQ]
            have HO3 := hown.out
            rw [e] at HO3
            have HO4 := hide HO3
            clear HO3 e
            go_wp2
            go_ret3
            refine ⟨_, rfl, ?_, hb.out⟩
            have := HO4.out
            rw [← HSS.out, HV.out]
            unfold POwn at this ⊢
            rw [stored_len] at this ⊢
            rw [HLEN.out] at this ⊢
            exact this
    · have hd : ((nfault l n s 1 : Nat) : Int) ≠ 0 := by omega
      have hd2 : (((nfault l n s 1 : Nat) : Int) != 0) = true := by simpa using hd
      have HV : Hid (stv l n s v = []) := by unfold Hid stv; rw [if_neg h0]
      rw [← hnb] at H1
      clear hs hd h0 hnb hd1 hs1
      generalize nfault l n s 1 = f at *
      rcases hz with rfl | rfl | rfl
      all_goals
        have hd1 : (n : Int) % _ = 0 := Int.emod_eq_zero_of_dvd (Int.natCast_dvd_natCast.2 (Nat.dvd_of_mod_eq_zero ha))
        go_enter Tryd.func38, Tryd.ntmps38
        go_wp2_with fail
        refine Calls.mono H1.out ?_
        rintro e w' ⟨rfl, rfl⟩
        go_wp2
        go_ret3
        exact ⟨_, rfl, by rw [HV.out]; exact pown_nil _ _, Below.refl _ _⟩
  · have HB : Hid (nfault l n s 1 = 2) := nfault_align ha
    have HV : Hid (stv l n s v = []) := by unfold Hid stv; rw [if_neg (by rw [HB.out]; decide)]
    clear hs
    rcases hz with rfl | rfl | rfl
    · omega
    · have hd1 : ((n : Int) % 2 != 0) = true := by simp; omega
      clear ha
      go_enter Tryd.func38, Tryd.ntmps38
      go_wp2
      go_ret3
      exact ⟨_, by rw [HB.out]; rfl, by rw [HV.out]; exact pown_nil _ _, Below.refl _ _⟩
    · have hd1 : ((n : Int) % 4 != 0) = true := by simp; omega
      clear ha
      go_enter Tryd.func38, Tryd.ntmps38
      go_wp2
      go_ret3
      exact ⟨_, by rw [HB.out]; rfl, by rw [HV.out]; exact pown_nil _ _, Below.refl _ _⟩
set_option maxRecDepth 100000 in
theorem refStore_bad (a : Option Addr) (len cap n : Nat) (s : Int) (v : Nat) (w : World) (h1 : ¬ s = 1) (h2 : ¬ s = 2) (h4 : ¬ s = 4) :
    Calls Tryd.prog 38 #[.slice a len cap, .int .u32 (n : Int), .int .i64 s, .int .u32 (v : Int)] w fun e w' => e = .returned (.tuple #[.slice none 0 0, .int .i64 0, .int .i64 12]) ∧ w = w' := by
  have d1 : (s != 1) = true := by simpa using h1
  have d2 : (s != 2) = true := by simpa using h2
  have d4 : (s != 4) = true := by simpa using h4
  clear h1 h2 h4
  go_enter Tryd.func38, Tryd.ntmps38
  go_wp2
  go_ret3
  exact ⟨rfl, rfl⟩
end Go.Proofs.YtegkodgondlcmaaDoor
