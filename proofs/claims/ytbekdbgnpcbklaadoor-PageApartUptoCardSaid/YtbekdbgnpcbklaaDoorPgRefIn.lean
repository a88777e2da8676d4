/-
  The document's In.
-/
import Derived.Test.YtbekdbgnpcbklaaDoorPgRefOut
namespace Go.Proofs.YtbekdbgnpcbklaaDoor
open Go.RowKit FerryCrc
set_option linter.unusedVariables false

theorem str_idx (bs : List Nat) (hs : ∀ c ∈ bs, c < 256) (k : Nat) (h : k < (str bs).size) (c : Nat) (hc : bs[k]? = some c) : ((str bs)[k]'h).toNat = c := by
  have hk : k < bs.length := by rw [← str_len]; exact h
  have e : (str bs)[k]'h = UInt8.ofNat bs[k] := by
    show (str bs).data[k]'_ = _
    simp [str]
  rw [e]
  have h2 := hs bs[k] (List.getElem_mem hk)
  rw [List.getElem?_eq_getElem hk] at hc
  rw [← Option.some.inj hc]
  simp
  omega

set_option maxRecDepth 100000 in
set_option maxHeartbeats 1000000 in
theorem refIn_any (a : Option Addr) (len cap : Nat) (l : List Pg) (n : Nat) (D : List Nat) (w : World) (hs : Pgs w a len cap l) (hn : n < 4294967296) (hD : ∀ c ∈ D, c < 256) (hDl : D.length ≤ 9223372036854775807) (hlen : len ≤ 67108864) :
    Calls Tryd.prog 7 #[.slice a len cap, .int .u32 (n : Int), .string (str D)] w fun e w' => ∃ (f : Nat) (x : Value), e = .returned (.tuple #[x, .int .i64 (f : Int)]) ∧ RF (fun a => bfault l a 1) n D.length f ∧ f ≤ 6 ∧ POwn w' w.heap.size x (if f = 0 then put_in l n D else []) ∧ Below w.heap.size w w' := by
  have HS := hide hs
  have hm := hs.most
  have hsz : (str D).size = D.length := str_len D
  have HD := hide hD
  obtain ⟨N, hN⟩ : ∃ N, D.length = N := ⟨_, rfl⟩
  have HNN := hide hN
  rw [hN] at hsz hDl ⊢
  have HCP := hide (refCopy_any a len cap l w hs)
  clear hs hD hN
  go_enter Tryd.func7, Tryd.ntmps7
  go_wp2
  go_loopw [8] (fun i wr => ∃ k : Nat, k ≤ N ∧ k ≤ 4294967296 ∧ i = .int .i64 (k : Int) ∧ Hid (∀ j, j < k → bfault l (n + j) 1 = 0) ∧ wr = w) (fun i _ => N - (intOf i).toNat)
  case atStart => exact ⟨0, by omega, by omega, rfl, fun j hj => by omega, rfl⟩
  case round =>
    obtain ⟨k, hk, hk32, rfl, hz, rfl⟩ := hrel
    by_cases hlt : k < N
    · obtain ⟨m, hmn⟩ : ∃ m, n + k = m := ⟨_, rfl⟩
      have e0 : (n : Int) + (k : Int) = (m : Int) := by omega
      have H1 := hide (refByte_any a len cap l m 1 wr HS.out (by omega) (by decide))
      obtain ⟨f, hf⟩ : ∃ f, bfault l m 1 = f := ⟨_, rfl⟩
      have HF := hide hf
      have HM := hide hmn
      rw [hf] at H1
      have hf6 : f ≤ 6 := by rw [← hf]; exact bfault_le l m 1 (by decide)
      by_cases hf0 : f = 0
      · subst hf0
        have hm32 : m < 4294967296 := by
          unfold bfault at hf
          split at hf
          · omega
          · rename_i p hp
            have h2 := (List.getElem?_eq_some_iff.1 hp).1
            have h3 := HS.out.size
            omega
        clear hf hmn
        go_wp2_with fail
        refine Calls.mono H1.out ?_
        rintro e w' ⟨rfl, rfl⟩
        go_wp2
        refine ⟨⟨k + 1, by omega, by have := HM.out; omega, by simp, fun j hj => ?_, trivial⟩, by simp [intOf]; omega⟩
        by_cases e : j = k
        · subst e; rw [HM.out]; exact HF.out
        · exact hz.out j (by omega)
      · have hd : ((f : Int) != 0) = true := by simp; omega
        clear hf
        go_wp2_with fail
        refine Calls.mono H1.out ?_
        rintro e w' ⟨rfl, rfl⟩
        go_wp2
        go_ret2
        refine ⟨f, _, rfl, .inr ⟨k, hlt, hz.out, ?_, hf0⟩, hf6, by rw [if_neg hf0]; exact pown_nil _ _, Below.refl _ _⟩
        show f = bfault l (n + k) 1
        rw [HM.out]
        exact HF.out.symm
    · obtain rfl : k = N := by omega
      have HLEN := hide HS.out.size
      go_wp2_with fail
      refine Calls.mono HCP.out ?_
      rintro e w1 ⟨v1, rfl, ho1, b1⟩
      obtain ⟨a1, c1, rfl, _, hform⟩ := ho1.pgs HS.out.ok (by rw [HLEN.out]; exact hm)
      have HO := hide ho1
      have HB := hide b1
      have HFM : Hid ((a1 = none ∧ l = []) ∨ ∃ g, a1 = some ⟨g, 0, none⟩ ∧ wr.heap.size ≤ g) := hform
      clear ho1 b1 hform HCP
      rw [HLEN.out] at HO ⊢
      obtain ⟨w, hw⟩ : ∃ w, w = wr := ⟨_, rfl⟩
      subst hw
      go_wp2
      go_loopw [11] (fun i wr => ∃ t : Nat, t ≤ k ∧ i = .int .i64 (t : Int) ∧ Hid (POwn wr w.heap.size (.slice a1 len c1) (upd l (inR n t) (datB D n) (tch n t))) ∧ Hid (Below w.heap.size w wr)) (fun i _ => k - (intOf i).toNat)
      case atStart =>
        refine ⟨0, by omega, rfl, ?_, HB.out⟩
        have e : upd l (inR n 0) (datB D n) (tch n 0) = l := (upd_congr HS.out.ok (fun a _ => ⟨inR_zero n a, fun _ => rfl⟩) (fun r _ => by simp [tch])).trans (upd_none l _)
        unfold Hid
        rw [e]
        exact HO.out
      case round =>
        obtain ⟨t, ht, rfl, hown, hbl⟩ := hrel
        by_cases htk : t < k
        · have hbt := hz.out t htk
          have hq : (n + t) / 64 < len := by
            unfold bfault at hbt
            split at hbt
            · omega
            · rename_i p hp
              rw [← HLEN.out]
              exact (List.getElem?_eq_some_iff.1 hp).1
          rcases HFM.out with ⟨_, hnil⟩ | ⟨g, rfl, hg⟩
          · exfalso
            have := HLEN.out
            rw [hnil] at this
            simp at this
            omega
          have htl : t < D.length := by rw [HNN.out]; exact htk
          have hB : datB D n (n + t) = D[t] := by
            unfold datB
            rw [show n + t - n = t by omega, List.getD_eq_getElem?_getD, List.getElem?_eq_getElem htl]
            rfl
          have hidx : ∀ h, ((str D)[t]'h).toNat = D[t] := fun h => str_idx D HD.out t h _ (List.getElem?_eq_getElem htl)
          have HPT := hide (refPut_any g len c1 w.heap.size l _ _ _ (n + t) _ wr hown.out HLEN.out HS.out.ok hm (datB_lt HD.out n) hq (by omega) hB)
          have hc256 : D[t] < 256 := HD.out _ (List.getElem_mem htl)
          rw [Int.natCast_add] at HPT
          have HG := hide hg
          clear hbt hB hg
          generalize D[t] = c at *
          have t1 : (t : Int) < (k : Int) := by omega
          have t2 : (0 : Int) ≤ (t : Int) := by omega
          have htsz : t < k := htk
          have q32 : n + t < 4294967296 := by omega
          go_wp2_with fail
          refine Calls.mono HPT.out ?_
          rintro e w2 ⟨rfl, ho2, b2⟩
          have HO2 := hide ho2
          have HB2 := hide (hbl.out.trans (b2.mono HG.out))
          clear ho2 b2
          go_wp2
          go_roundw
          case rel =>
            refine ⟨t + 1, by omega, by go_num, ?_, HB2.out⟩
            have e : upd l (inR n (t + 1)) (datB D n) (tch n (t + 1)) = upd l (fun a => inR n t a || a == n + t) (datB D n) (fun r => tch n t r || r == (n + t) / 64) := by
              refine upd_congr HS.out.ok (fun a _ => ⟨inR_succ n t a, fun _ => rfl⟩) (fun r _ => ?_)
              rw [Bool.eq_iff_iff]
              simp only [tch, decide_eq_true_eq, Bool.or_eq_true, beq_iff_eq]
              omega
            unfold Hid
            rw [e]
            exact HO2.out
          case measure => simp [intOf]; omega
        · obtain rfl : t = k := by omega
          go_wp2
          go_ret2
          refine ⟨0, _, rfl, .inl ⟨rfl, hz.out⟩, by decide, ?_, hbl.out⟩
          rw [if_pos rfl]
          have := hown.out
          unfold put_in
          rw [HNN.out]
          unfold POwn at this ⊢
          rw [upd_len, HLEN.out] at this ⊢
          exact this
end Go.Proofs.YtbekdbgnpcbklaaDoor
