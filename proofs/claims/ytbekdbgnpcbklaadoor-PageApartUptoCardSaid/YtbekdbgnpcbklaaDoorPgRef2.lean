/-
  The document's page: a byte put, a number stored.
-/
import Derived.Test.YtbekdbgnpcbklaaDoorPgRef
namespace Go.Proofs.YtbekdbgnpcbklaaDoor
open Go.RowKit FerryCrc
set_option linter.unusedVariables false

set_option maxRecDepth 100000 in
theorem refPut_any (g len cap base : Nat) (l : List Pg) (P : Nat → Bool) (B : Nat → Nat) (D : Nat → Bool) (n c : Nat) (w : World) (ho : POwn w base (.slice (some ⟨g, 0, none⟩) len cap) (upd l P B D)) (hl : l.length = len) (ok : Oks l) (hm : len ≤ 1759218604391)
    (hB : ∀ a, B a < 256) (hq : n / 64 < len) (hn : n < 9223372036854775808) (hc : B n = c) :
    Calls Tryd.prog 29 #[.slice (some ⟨g, 0, none⟩) len cap, .int .i64 (n : Int), .int .u8 (c : Int)] w fun e w' => e = .returned (.tuple #[]) ∧ POwn w' base (.slice (some ⟨g, 0, none⟩) len cap) (upd l (fun a => P a || a == n) B (fun r => D r || r == n / 64)) ∧ Below g w w' := by
  obtain ⟨q, hqn⟩ : ∃ q, n / 64 = q := ⟨_, rfl⟩
  obtain ⟨j, hjn⟩ : ∃ j, n % 64 = j := ⟨_, rfl⟩
  have e64 : (n : Int) / 64 = (q : Int) := by omega
  have f64 : (n : Int) % 64 = (j : Int) := by omega
  have j1 : j < 64 := by omega
  have q0 : q < 9223372036854775808 := by omega
  have hqj : 64 * q + j = n := by omega
  rw [hqn] at hq ⊢
  obtain ⟨⟨u, hcell⟩, hf, hst⟩ := POwn.byte ho hl ok (fun a _ => hB a) (q := q) (x := j) (by omega) j1
  rw [hqj, hc] at hst
  obtain ⟨⟨u2, hcell2⟩, hf2, hst2⟩ := POwn.mark hst hl ok (fun a _ => hB a) (q := q) (by omega)
  have HST := hide hst2
  unfold bv at hcell2 hf2 HST
  clear hst hst2 ho hqn hjn hqj hc
  have q1 : (q : Int) < (len : Int) := by omega
  have j2 : (j : Int) < 64 := by omega
  go_enter Tryd.func29, Tryd.ntmps29
  go_wp2
  go_end0
  refine ⟨rfl, HST.out, ?_⟩
  exact ((Below.refl g w).setCell (p := ⟨g, q * 66 + 2 + j, none⟩) (Nat.le_refl _) _).setCell (p := ⟨g, q * 66 + 1, none⟩) (Nat.le_refl _) _

theorem byt_down {v s n k : Nat} (h : k < s) : v / 256 ^ (s - 1 - k) % 256 = byt v s n (n + k) := by unfold byt; rw [show n + k - n = k by omega]

set_option maxRecDepth 100000 in
set_option maxHeartbeats 1000000 in
theorem refStore_any (a : Option Addr) (len cap : Nat) (l : List Pg) (n s v : Nat) (w : World) (hs : Pgs w a len cap l) (hn : n < 4294967296) (hz : Sized s) (hv : v < 4294967296) :
    Calls Tryd.prog 6 #[.slice a len cap, .int .u32 (n : Int), .int .i64 (s : Int), .int .u32 (v : Int)] w fun e w' => ∃ x, e = .returned (.tuple #[x, .int .i64 ((nfault l n s 1 : Nat) : Int), .int .i64 0]) ∧ POwn w' w.heap.size x (stv l n s v) ∧ Below w.heap.size w w' := by
  by_cases ha : n % s = 0
  · have H1 := hide (refByte_any a len cap l n 1 w hs (by omega) (by decide))
    have hnb := nfault_byte (l := l) (k := 1) ha
    have hd1 : (n : Int) % (s : Int) = 0 := Int.emod_eq_zero_of_dvd (Int.natCast_dvd_natCast.2 (Nat.dvd_of_mod_eq_zero ha))
    have hs4 : s ≤ 4 := by rcases hz with rfl | rfl | rfl <;> omega
    have hs0 : 0 < s := by rcases hz with rfl | rfl | rfl <;> omega
    have hs1 : ((s : Int) == 0) = false := by simp; omega
    by_cases h0 : nfault l n s 1 = 0
    · obtain ⟨_, p, hp, _⟩ := nfault_zero h0
      have hq : n / 64 < len := by rw [← hs.size]; exact (List.getElem?_eq_some_iff.1 hp).1
      have H2 := hide (refCopy_any a len cap l w hs)
      have HV : Hid (stv l n s v = stored l n s v) := by unfold Hid stv; rw [if_pos h0]
      have HS := hide hs
      have HF := hide (fits hz ha)
      have HQ := hide hq
      rw [← hnb, h0] at H1
      rw [h0]
      clear hs hp h0 hnb
      obtain ⟨S, hS⟩ : ∃ S, S = s := ⟨s, rfl⟩
      have HSS := hide hS
      rw [← hS] at HF HV hs4 hs0
      clear hS hd1 hs1
      rcases hz with rfl | rfl | rfl
      all_goals
        have hd1 : (n : Int) % _ = 0 := Int.emod_eq_zero_of_dvd (Int.natCast_dvd_natCast.2 (Nat.dvd_of_mod_eq_zero ha))
        go_enter Tryd.func6, Tryd.ntmps6
        go_wp2_with fail
        refine Calls.mono H1.out ?_
        rintro e w' ⟨rfl, rfl⟩
        go_wp2_with fail
        refine Calls.mono H2.out ?_
        rintro e w1 ⟨x, rfl, ho, hb⟩
        obtain ⟨a1, c1, rfl, _, hform⟩ := ho.pgs HS.out.ok (by rw [HS.out.size]; exact HS.out.most)
        rcases hform with ⟨_, hnil⟩ | ⟨g, rfl, hg⟩
        · exfalso
          have := HS.out.size
          rw [hnil] at this
          simp at this
          omega
        have HO := hide ho
        have HB := hide hb
        have HG := hide hg
        have hlen := HS.out.size
        clear ho hb hg
        rw [hlen] at HO ⊢
        have HLEN := hide hlen
        clear hlen
        go_wp2
        go_loopw [13, 14] (fun x i wr => ∃ k : Nat, k ≤ S ∧ i = .int .i64 ((k : Int) - 1) ∧ x = .int .i64 ((v / 256 ^ (S - k) : Nat) : Int) ∧ Hid (POwn wr w.heap.size (.slice (some ⟨g, 0, none⟩) len c1) (upd l (inR (n + k) (S - k)) (byt v S n) (fun r => decide (k < S) && r == n / 64))) ∧ Hid (Below w.heap.size w wr)) (fun _ i _ => (intOf i + 1).toNat)
        case atStart => 
          refine ⟨S, by omega, by rw [HSS.out]; rfl, by simp, ?_, HB.out⟩
          have e : upd l (inR (n + S) (S - S)) (byt v S n) (fun r => decide (S < S) && r == n / 64) = l := (upd_congr HS.out.ok (fun a _ => ⟨by rw [Nat.sub_self]; exact inR_zero _ a, fun _ => rfl⟩) (fun r _ => by simp)).trans (upd_none l _)
          unfold Hid
          rw [e]
          exact HO.out
        case round =>
          obtain ⟨k, hk, rfl, rfl, hown, hb⟩ := hrel
          by_cases hpos : 0 < k
          · obtain ⟨j, rfl⟩ : ∃ j, k = j + 1 := ⟨k - 1, by omega⟩
            obtain ⟨X, hX⟩ : ∃ X, v / 256 ^ (S - (j + 1)) = X := ⟨_, rfl⟩
            have hc : byt v S n (n + j) = X % 256 := by rw [← byt_down (v := v) (s := S) (n := n) (k := j) (by omega), ← hX, show S - 1 - j = S - (j + 1) by omega]
            have HP := hide (refPut_any g len c1 w.heap.size l _ _ _ (n + j) _ wr hown.out HLEN.out HS.out.ok HS.out.most (byt_lt v S n) (by have := HF.out; have := HQ.out; omega) (by omega) hc)
            have HX : Hid (v / 256 ^ (S - j) = X / 256) := by unfold Hid; rw [← hX, show S - j = S - (j + 1) + 1 by omega, Nat.pow_succ, Nat.div_div_eq_div_mul]
            have x1 : X < 4294967296 := by rw [← hX]; exact Nat.lt_of_le_of_lt (Nat.div_le_self _ _) hv
            have e1 : (((j + 1 : Nat) : Int) - 1) = (j : Int) := by omega
            obtain ⟨y, hy⟩ : ∃ y, X % 256 = y := ⟨_, rfl⟩
            obtain ⟨z, hz⟩ : ∃ z, X / 256 = z := ⟨_, rfl⟩
            have m1 : (X : Int) % 256 = (y : Int) := by omega
            have m2 : (X : Int) / 256 = (z : Int) := by omega
            have m3 : (y : Int) % 256 = (y : Int) := by omega
            rw [hy] at HP
            rw [hz] at HX
            clear hy hz
            rw [hX, e1]
            rw [Int.natCast_add] at HP
            clear hc hX e1
            go_wp2_with fail
            refine Calls.mono HP.out ?_
            rintro e w2 ⟨rfl, ho2, hb2⟩
            have HO2 := hide ho2
            have HB2 := hide (hb.out.trans (hb2.mono HG.out))
            clear ho2 hb2
            go_wp2
            go_roundw
            case rel =>
              refine ⟨j, by omega, by congr 1, by rw [HX.out], ?_, HB2.out⟩
              have e : upd l (inR (n + j) (S - j)) (byt v S n) (fun r => decide (j < S) && r == n / 64) = upd l (fun a => inR (n + (j + 1)) (S - (j + 1)) a || a == n + j) (byt v S n) (fun r => (decide (j + 1 < S) && r == n / 64) || r == (n + j) / 64) := by
                refine upd_congr HS.out.ok (fun a _ => ⟨?_, fun _ => rfl⟩) (fun r _ => ?_)
                · rw [Bool.eq_iff_iff]
                  simp only [inR, decide_eq_true_eq, Bool.or_eq_true, beq_iff_eq]
                  omega
                · rw [show (n + j) / 64 = n / 64 by have := HF.out; omega, Bool.eq_iff_iff]
                  simp only [decide_eq_true_eq, Bool.or_eq_true, Bool.and_eq_true, beq_iff_eq]
                  omega
              unfold Hid
              rw [e]
              exact HO2.out
            case measure => simp [intOf]
          · obtain rfl : k = 0 := by omega
            have e : upd l (inR (n + 0) (S - 0)) (byt v S n) (fun r => decide (0 < S) && r == n / 64) = stored l n S v := by
              refine upd_congr HS.out.ok (fun a _ => ⟨rfl, fun _ => rfl⟩) (fun r _ => ?_)
              rw [decide_eq_true hs0]
              simp [isQ]
            have HO3 := hown.out
            rw [e] at HO3
            have HO4 := hide HO3
            clear HO3 e
            go_wp2
            go_ret3
            refine ⟨_, rfl, ?_, hb.out⟩
            have := HO4.out
            rw [← HSS.out, HV.out]
            unfold POwn at this ⊢
            rw [stored_len] at this ⊢
            rw [HLEN.out] at this ⊢
            exact this
    · have hd : ((nfault l n s 1 : Nat) : Int) ≠ 0 := by omega
      have hd2 : (((nfault l n s 1 : Nat) : Int) != 0) = true := by simpa using hd
      have HV : Hid (stv l n s v = []) := by unfold Hid stv; rw [if_neg h0]
      rw [← hnb] at H1
      clear hs hd h0 hnb hd1 hs1
      generalize nfault l n s 1 = f at *
      rcases hz with rfl | rfl | rfl
      all_goals
        have hd1 : (n : Int) % _ = 0 := Int.emod_eq_zero_of_dvd (Int.natCast_dvd_natCast.2 (Nat.dvd_of_mod_eq_zero ha))
        go_enter Tryd.func6, Tryd.ntmps6
        go_wp2_with fail
        refine Calls.mono H1.out ?_
        rintro e w' ⟨rfl, rfl⟩
        go_wp2
        go_ret3
        exact ⟨_, rfl, by rw [HV.out]; exact pown_nil _ _, Below.refl _ _⟩
  · have HB : Hid (nfault l n s 1 = 2) := nfault_align ha
    have HV : Hid (stv l n s v = []) := by unfold Hid stv; rw [if_neg (by rw [HB.out]; decide)]
    clear hs
    rcases hz with rfl | rfl | rfl
    · omega
    · have hd1 : ((n : Int) % 2 != 0) = true := by simp; omega
      clear ha
      go_enter Tryd.func6, Tryd.ntmps6
      go_wp2
      go_ret3
      exact ⟨_, by rw [HB.out]; rfl, by rw [HV.out]; exact pown_nil _ _, Below.refl _ _⟩
    · have hd1 : ((n : Int) % 4 != 0) = true := by simp; omega
      clear ha
      go_enter Tryd.func6, Tryd.ntmps6
      go_wp2
      go_ret3
      exact ⟨_, by rw [HB.out]; rfl, by rw [HV.out]; exact pown_nil _ _, Below.refl _ _⟩
set_option maxRecDepth 100000 in
theorem refStore_bad (a : Option Addr) (len cap n : Nat) (s : Int) (v : Nat) (w : World) (h1 : ¬ s = 1) (h2 : ¬ s = 2) (h4 : ¬ s = 4) :
    Calls Tryd.prog 6 #[.slice a len cap, .int .u32 (n : Int), .int .i64 s, .int .u32 (v : Int)] w fun e w' => e = .returned (.tuple #[.slice none 0 0, .int .i64 0, .int .i64 12]) ∧ w = w' := by
  have d1 : (s != 1) = true := by simpa using h1
  have d2 : (s != 2) = true := by simpa using h2
  have d4 : (s != 4) = true := by simpa using h4
  clear h1 h2 h4
  go_enter Tryd.func6, Tryd.ntmps6
  go_wp2
  go_ret3
  exact ⟨rfl, rfl⟩
end Go.Proofs.YtbekdbgnpcbklaaDoor
