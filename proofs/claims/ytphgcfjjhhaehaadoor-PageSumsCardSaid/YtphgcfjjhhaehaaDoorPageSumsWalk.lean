/-
  Walk of the law PageSums.
-/
import Derived.Test.YtphgcfjjhhaehaaDoorPgKnown
namespace Go.Proofs.YtphgcfjjhhaehaaDoor.pageSums
open Go.RowKit FerryCrc
set_option linter.unusedVariables false

theorem open_bit (p : Pg) : rbit p.open.rights 0 = true := by
  unfold rbit Pg.open
  simp
theorem open_bit2 (p : Pg) : rbit p.open.rights 2 = rbit p.rights 2 := by
  unfold rbit Pg.open
  have : (p.rights / 2 * 2 + 1) / 2 ^ 2 = p.rights / 2 ^ 2 := by simp; omega
  simp only [this]
theorem andNot3 (n : Nat) (h : n < 4294967296) : bits .andNot .u32 (n : Int) 3 = ((n / 4 * 4 : Nat) : Int) := by
  have := u32_andNot_nat n 3 h (by decide)
  rw [show (n &&& (4294967295 - 3)) = n / 4 * 4 from ?_] at this
  · exact this
  · have h1 : (n / 4 * 4 + n % 4) &&& 4294967292 = n / 4 * 4 := by
      have e : n / 4 * 4 + n % 4 = n / 4 * 4 ||| n % 4 := (nat_join 2 (n / 4 * 4) (n % 4) (by omega) (by omega)).symm
      rw [e, Nat.and_or_distrib_right]
      have a1 : n / 4 * 4 &&& 4294967292 = n / 4 * 4 := by
        have := Nat.and_two_pow_sub_one_eq_mod (n / 4) 30
        have e2 : n / 4 * 4 &&& 4294967292 = (n / 4 &&& 1073741823) * 4 := by
          have := Nat.shiftLeft_and_distrib (a := n / 4) (b := 1073741823) (i := 2)
          simpa [Nat.shiftLeft_eq] using this.symm
        rw [e2, this, Nat.mod_eq_of_lt (by omega)]
      have a2 : n % 4 &&& 4294967292 = 0 := by
        have : n % 4 = 0 ∨ n % 4 = 1 ∨ n % 4 = 2 ∨ n % 4 = 3 := by omega
        rcases this with h | h | h | h <;> rw [h] <;> decide
      rw [a1, a2, Nat.or_zero]
    rw [show n / 4 * 4 + n % 4 = n by omega] at h1
    exact h1

theorem rf_page {L : List Pg} {m h : Nat} (hm : m < 4294967296) (h4 : m % 4 = 0) (hr : RF (fun a => bflt L a 0) m 4 h) : h = bfault L m 0 := by
  have e : ∀ i, i < 4 → bflt L (m + i) 0 = bfault L m 0 := fun i hi => by
    rw [bflt_page (show (m + i) / 64 = m / 64 by omega)]
    unfold bflt
    rw [if_neg (by omega)]
  rcases hr with ⟨rfl, h0⟩ | ⟨i, hi, _, rfl, _⟩
  · rw [← e 0 (by decide)]
    exact (h0 0 (by decide)).symm
  · exact e i hi
theorem open_page {l : List Pg} {q : Nat} {P : Pg} (h : (l.map Pg.open)[q]? = some P) : rbit P.rights 0 = true := by
  rw [List.getElem?_map] at h
  cases hl : l[q]? with
  | none => rw [hl] at h; simp at h
  | some p =>
    rw [hl] at h
    simp only [Option.map_some, Option.some.injEq] at h
    rw [← h]
    exact open_bit p
theorem rd4 (L : List Pg) (m : Nat) : rdB L m 4 = [byteAt L m, byteAt L (m + 1), byteAt L (m + 2), byteAt L (m + 3)] := rfl

theorem num_halves (L : List Pg) (m : Nat) : num (rdB L m 4) = num (rdB L m 2) * 65536 + num (rdB L (m + 2) 2) := by
  rw [rdB_succ, rdB_succ L m 2, num_snoc, num_snoc, rdB_succ L (m + 2) 1, rdB_succ L (m + 2) 0, num_snoc, num_snoc, show rdB L (m + 2) 0 = [] from rfl, show num [] = 0 from rfl, Nat.add_zero, show m + 2 + 1 = m + 3 from rfl]
  omega
theorem str_size (bs : List Nat) : (str bs).size = bs.length := by simp [str, ByteArray.size]
theorem str_get (bs : List Nat) (hs : ∀ c ∈ bs, c < 256) (k : Nat) (h : k < (str bs).size) (c : Nat) (hc : bs[k]? = some c) : ((str bs)[k]'h).toNat = c := by
  have hk : k < bs.length := by rw [← str_size]; exact h
  have e : (str bs)[k]'h = UInt8.ofNat bs[k] := by
    show (str bs).data[k]'_ = _
    simp [str]
  rw [e]
  have h2 := hs bs[k] (List.getElem_mem hk)
  rw [List.getElem?_eq_getElem hk] at hc
  rw [← Option.some.inj hc]
  simp
  omega

theorem ldv_rd {L : List Pg} (ok : Oks L) {n s k : Nat} {P : Pg} (hq : L[n / 64]? = some P) (hb : rbit P.rights k = true) (hz : Sized s) (ha : n % s = 0) : nfault L n s k = 0 ∧ ldv L n s k = num (rdB L n s) := by
  have h0 : nfault L n s k = 0 := by rw [nfault_byte ha, bfault_some hq, hb]; rfl
  refine ⟨h0, ?_⟩
  rw [ldv_zero h0, nbytes_rdB ok (List.getElem?_eq_some_iff.1 hq).1 (fits hz ha)]

set_option maxRecDepth 100000 in
set_option maxHeartbeats 1000000 in
theorem law (a : Option Addr) (len cap : Nat) (l : List Pg) (n : Nat) (w : World) (hs : Pgs w a len cap l) (hn : n < 4294967296) :
    Calls Tryd.prog 7 #[.slice a len cap, .int .u32 (n : Int)] w fun e w' => e = .returned (.bool true) ∧ Below w.heap.size w w' := by
  obtain rfl := hs.size
  have HS := hide hs
  have han := andNot3 n hn
  obtain ⟨m, hmn⟩ : ∃ m, n / 4 * 4 = m := ⟨_, rfl⟩
  rw [hmn] at han
  have hm32 : m < 4294967296 := by omega
  have hm4 : m % 4 = 0 := by omega
  have okL : Oks (l.map Pg.open) := fun P hP => by
    obtain ⟨p, hp, rfl⟩ := List.mem_map.1 hP
    exact Pg.open_ok (hs.ok p hp)
  have hmL : (l.map Pg.open).length ≤ 1759218604391 := by rw [List.length_map]; exact hs.most
  have HPO := hide (fun q P => open_page (l := l) (q := q) (P := P))
  clear hs hmn
  go_enter Tryd.func7, Tryd.ntmps7
  go_wp2_with fail
  refine Calls.mono (known_any w) ?_
  rintro e w1 ⟨rfl, b1⟩
  have D1 := hide b1
  clear b1
  go_wp2_with fail
  refine Calls.mono (readable_any a _ cap l w1 (HS.out.below D1.out)) ?_
  rintro e w2 ⟨v, rfl, ho, b⟩
  obtain ⟨a1, c1, rfl, hpg, _⟩ := ho.pgs okL hmL
  rw [List.length_map] at hpg ⊢
  have D2 := hide (chain D1.out b)
  have HP := hide hpg
  clear ho b D1 hpg hmL
  generalize l.map Pg.open = L at *
  have hf : nfault L m 4 0 = bfault L m 0 := nfault_byte hm4
  have hg : nfault L m 4 2 = bfault L m 2 := nfault_byte hm4
  have H1 : Hid (Calls Tryd.prog 27 #[.slice a1 l.length c1, .int .u32 (m : Int), .int .i64 4] w2 fun e w' => e = .returned (.tuple #[.int .u32 ((ldv L m 4 0 : Nat) : Int), .int .i64 ((nfault L m 4 0 : Nat) : Int), .nilIface]) ∧ w2 = w') := load_any a1 _ c1 L m 4 w2 HP.out hm32 (.inr (.inr rfl))
  have H2 := hide (fetch_any a1 _ c1 L m w2 HP.out hm32)
  have H3 : Hid (Calls Tryd.prog 29 #[.slice a1 l.length c1, .int .u32 (m : Int), .int .i64 4] w2 fun e w' => ∃ f : Nat, e = .returned (.tuple #[.string (str (if f = 0 then rdB L m 4 else [])), .int .i64 (f : Int), .nilIface]) ∧ RF (fun a => bflt L a 0) m 4 f ∧ f ≤ 6 ∧ Below w2.heap.size w2 w') := out_any a1 _ c1 L m 4 w2 HP.out hm32 (by decide)
  have HR := hide (fun h => rf_page (L := L) (m := m) (h := h) hm32 hm4)
  cases hq : L[m / 64]? with
  | none =>
    have e0 : bfault L m 0 = 3 := bfault_none hq
    have e2 : bfault L m 2 = 3 := bfault_none hq
    rw [ldv_fault (by rw [hf, e0]; decide), hf, e0] at H1
    rw [ldv_fault (by rw [hg, e2]; decide), hg, e2] at H2
    have HE0 := hide e0
    clear hf hg e0 e2 hq hm4
    go_wp2_with fail
    refine Calls.mono H1.out ?_
    rintro e w' ⟨rfl, rfl⟩
    go_wp2_with fail
    refine Calls.mono H2.out ?_
    rintro e w' ⟨rfl, rfl⟩
    go_wp2_with fail
    refine Calls.mono H3.out ?_
    rintro e w3 ⟨f, rfl, hrf, hf6, b⟩
    obtain rfl : f = 3 := by rw [HR.out f hrf, HE0.out]
    have D3 := hide (chain D2.out b)
    clear hrf b hf6
    rw [if_neg (by decide)]
    have hstr : str [] = ByteArray.empty := rfl
    go_wp2
    go_ret
    exact ⟨rfl, D3.out⟩
  | some P =>
    have hb0 := HPO.out _ P hq
    obtain ⟨n0, l0⟩ := ldv_rd okL hq hb0 (.inr (.inr rfl)) hm4
    obtain ⟨n2, l2⟩ := ldv_rd okL (n := m) (s := 2) hq hb0 (.inr (.inl rfl)) (by omega)
    obtain ⟨n3, l3⟩ := ldv_rd okL (n := m + 2) (s := 2) (P := P) (by rw [show (m + 2) / 64 = m / 64 by omega]; exact hq) hb0 (.inr (.inl rfl)) (by omega)
    have l1 : ∀ i, i < 4 → nfault L (m + i) 1 0 = 0 ∧ ldv L (m + i) 1 0 = byteAt L (m + i) := fun i hi => by
      obtain ⟨x, y⟩ := ldv_rd okL (n := m + i) (s := 1) (P := P) (by rw [show (m + i) / 64 = m / 64 by omega]; exact hq) hb0 (.inl rfl) (by omega)
      refine ⟨x, ?_⟩
      rw [y]
      simp [rdB, num, List.range_succ]
    obtain ⟨b, off, rfl, hrg⟩ := HP.out.cell _ P hq
    have hc := hrg 0 _ rfl
    simp only [Nat.add_zero] at hc
    obtain ⟨t, ht⟩ : ∃ t, rbit P.rights 2 = t := ⟨_, rfl⟩
    have hbv : (bits .and .i64 P.rights 4 != 0) = t := by rw [← ht]; exact right_bit (.inr (.inr ⟨rfl, rfl⟩))
    have e2 : bfault L m 2 = if t then 0 else 6 := by rw [bfault_some hq, ht]
    have e0 : bfault L m 0 = 0 := by rw [← hf]; exact n0
    have lf : ldv L m 4 2 = if t then num (rdB L m 4) else 0 := by
      cases t with
      | true => exact (ldv_rd okL hq ht (.inr (.inr rfl)) hm4).2
      | false => exact ldv_fault (by rw [hg, e2]; decide)
    rw [l0, n0] at H1
    rw [lf, hg, e2] at H2
    have HE0 := hide e0
    have K0 : Hid (∀ i, i < 4 → byteAt L (m + i) < 256) := fun i _ => byteAt_lt okL _
    have hqlt : m / 64 < l.length := by rw [← HP.out.size]; exact (List.getElem?_eq_some_iff.1 hq).1
    obtain ⟨q, hqq⟩ : ∃ q, m / 64 = q := ⟨_, rfl⟩
    rw [hqq] at hc hqlt
    have e64 : (m : Int) / 64 = (q : Int) := by omega
    have q1 : (q : Int) < (l.length : Int) := by omega
    have q2 : (q : Int) % 4294967296 = (q : Int) := by omega
    have hm33 : m ≤ 4294967292 := by omega
    have L1 := hide l1
    have L2 := hide l2
    have L3 := hide l3
    have N2 := hide n2
    have N3 := hide n3
    clear hf hg e0 e2 hm4 l0 n0 lf ht l1 l2 l3 n2 n3 hrg hb0 hq hqq
    cases t
    all_goals
      go_wp2_with fail
      refine Calls.mono H1.out ?_
      rintro e w' ⟨rfl, rfl⟩
      go_wp2_with fail
      refine Calls.mono H2.out ?_
      rintro e w' ⟨rfl, rfl⟩
      go_wp2_with fail
      refine Calls.mono H3.out ?_
      rintro e w3 ⟨f, rfl, hrf, hf6, b⟩
      obtain rfl : f = 0 := by rw [HR.out f hrf, HE0.out]
      have D3 := hide (chain D2.out b)
      have HP3 := hide (HP.out.below b)
      rw [if_pos rfl]
      have hc3 : w3.cell? _ = _ := cell_below hc b
      clear hrf b hf6 hc
      go_wp2_with fail
      go_loopw [13, 14] (fun x i wr => ∃ k : Nat, k ≤ 4 ∧ i = .int .i64 (k : Int) ∧ x = .int .u32 ((num (rdB L m k) : Nat) : Int) ∧ wr = w3) (fun _ i _ => 4 - (intOf i).toNat)
      case atStart => exact ⟨0, by omega, rfl, rfl, rfl⟩
      case round =>
        obtain ⟨k, hk, rfl, rfl, rfl⟩ := hrel
        by_cases hlt : k < 4
        · have HK : Hid (Calls Tryd.prog 27 #[.slice (some ⟨b, off, none⟩) l.length c1, .int .u32 ((m : Int) + (k : Int)), .int .i64 1] wr fun e w' => e = .returned (.tuple #[.int .u32 ((byteAt L (m + k) : Nat) : Int), .int .i64 0, .nilIface]) ∧ wr = w') := by
            have := load_any _ _ c1 L (m + k) 1 wr HP3.out (by omega) (.inl rfl)
            rw [(L1.out k hlt).1, (L1.out k hlt).2, Int.natCast_add] at this
            exact this
          have HT : Hid (num (rdB L m (k + 1)) = num (rdB L m k) * 256 + byteAt L (m + k)) := by unfold Hid; rw [rdB_succ]; exact num_snoc _ _
          have HV : Hid (num (rdB L m k) < 16777216) := by
            have h1 := num_lt _ (rdB_lt okL m k)
            have h3 : 256 ^ (rdB L m k).length ≤ 256 ^ 3 := Nat.pow_le_pow_right (by decide) (by rw [rdB_len]; omega)
            unfold Hid
            omega
          have HC := hide (K0.out k hlt)
          have v1 := HV.out
          have c1' := HC.out
          have hk32 : (k : Int) % 4294967296 = (k : Int) := by omega
          have hc32 : ((byteAt L (m + k) : Nat) : Int) % 4294967296 = ((byteAt L (m + k) : Nat) : Int) := by omega
          have hmk32 : ((m : Int) + (k : Int)) % 4294967296 = (m : Int) + (k : Int) := by omega
          have hsz : (str (rdB L m 4)).size = 4 := rfl
          have hidx : ∀ h, ((str (rdB L m 4))[k]'h).toNat = byteAt L (m + k) := fun h => str_get _ (rdB_lt okL m 4) k h _ (by simp [rdB, hlt])
          generalize num (rdB L m k) = v at *
          generalize byteAt L (m + k) = c at *
          go_wp2_with fail
          refine Calls.mono HK.out ?_
          rintro e w' ⟨rfl, rfl⟩
          go_wp2
          exact ⟨⟨k + 1, by omega, by simp, by rw [HT.out]; rfl, trivial⟩, by simp [intOf]; omega⟩
        · obtain rfl : k = 4 := by omega
          have HA : Hid (Calls Tryd.prog 27 #[.slice (some ⟨b, off, none⟩) l.length c1, .int .u32 (m : Int), .int .i64 2] wr fun e w' => e = .returned (.tuple #[.int .u32 ((num (rdB L m 2) : Nat) : Int), .int .i64 0, .nilIface]) ∧ wr = w') := by
            have := load_any _ _ c1 L m 2 wr HP3.out hm32 (.inr (.inl rfl))
            rw [N2.out, L2.out] at this
            exact this
          have HBB : Hid (Calls Tryd.prog 27 #[.slice (some ⟨b, off, none⟩) l.length c1, .int .u32 ((m : Int) + 2), .int .i64 2] wr fun e w' => e = .returned (.tuple #[.int .u32 ((num (rdB L (m + 2) 2) : Nat) : Int), .int .i64 0, .nilIface]) ∧ wr = w') := by
            have := load_any _ _ c1 L (m + 2) 2 wr HP3.out (by omega) (.inr (.inl rfl))
            rw [N3.out, L3.out, Int.natCast_add] at this
            exact this
          have hW : num (rdB L m 4) = num (rdB L m 2) * 65536 + num (rdB L (m + 2) 2) := num_halves L m
          have hA2 := num_lt _ (rdB_lt okL m 2)
          have hB2 := num_lt _ (rdB_lt okL (m + 2) 2)
          rw [rdB_len] at hA2 hB2
          rw [hW]
          generalize num (rdB L m 2) = A at *
          generalize num (rdB L (m + 2) 2) = B at *
          clear hW
          have a1 : A < 65536 := hA2
          have b1 : B < 65536 := hB2
          clear hA2 hB2
          have s1 : ((A : Int) * 65536) % 4294967296 = (A : Int) * 65536 := by omega
          have s2 : ((A : Int) * 65536 + (B : Int)) % 4294967296 = (A : Int) * 65536 + (B : Int) := by omega
          have s3 : ((m : Int) + 2) % 4294967296 = (m : Int) + 2 := by omega
          go_wp2_with fail
          refine Calls.mono HA.out ?_
          rintro e w' ⟨rfl, rfl⟩
          go_wp2_with fail
          refine Calls.mono HBB.out ?_
          rintro e w' ⟨rfl, rfl⟩
          go_wp2
          go_ret
          exact ⟨rfl, D3.out⟩
end Go.Proofs.YtphgcfjjhhaehaaDoor.pageSums
