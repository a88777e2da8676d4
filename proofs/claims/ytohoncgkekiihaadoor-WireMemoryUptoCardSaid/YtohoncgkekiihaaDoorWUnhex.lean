/-
  Package wire's digits: Unhex.
-/
import Derived.Test.YtohoncgkekiihaaDoorWHex
import Derived.Test.YtohoncgkekiihaaDoorWOpen0
import Derived.Test.YtohoncgkekiihaaDoorCuRead
import Derived.Test.YtohoncgkekiihaaDoorLow
namespace FerryCrc
/-- What a digit stands for; 16 if it is none. -/
def hexv (c : Nat) : Nat := if 48 ≤ c ∧ c ≤ 57 then c - 48 else if 97 ≤ c ∧ c ≤ 102 then c - 87 else 16
/-- The same as the program says it: -1 if it is none. -/
def hexi (c : Nat) : Int := if hexv c < 16 then (hexv c : Int) else -1
theorem hexv_hexd {n : Nat} (h : n < 16) : hexv (hexd n) = n := by
  unfold hexv hexd
  by_cases h1 : n < 10
  · rw [if_pos h1, if_pos (by omega)]; omega
  · rw [if_neg h1, if_neg (by omega), if_pos (by omega)]; omega
theorem hexd_hexv {c : Nat} (h : hexv c < 16) : hexd (hexv c) = c := by
  unfold hexv at h ⊢
  by_cases h1 : 48 ≤ c ∧ c ≤ 57
  · rw [if_pos h1]; unfold hexd; rw [if_pos (by omega)]; omega
  · by_cases h2 : 97 ≤ c ∧ c ≤ 102
    · rw [if_neg h1, if_pos h2]; unfold hexd; rw [if_neg (by omega)]; omega
    · rw [if_neg h1, if_neg h2] at h; omega
end FerryCrc
namespace Go.Proofs.YtohoncgkekiihaaDoor
open Go.RowKit FerryCrc
set_option linter.unusedVariables false
set_option linter.unusedSimpArgs false

theorem value_any (c : Nat) (w : World) (h : c < 256) :
    Calls Tryd.prog 53 #[.int .u8 (c : Int)] w fun e w' => e = .returned (.int .i64 (hexi c)) ∧ w = w' := by
  by_cases h1 : 48 ≤ c ∧ c ≤ 57
  · have hv : Hid (hexi c = ((c - 48 : Nat) : Int)) := by unfold Hid hexi hexv; rw [if_pos h1, if_pos (by omega)]
    have d1 : (48 : Int) ≤ (c : Int) := by omega
    have d2 : (c : Int) ≤ 57 := by omega
    go_enter Tryd.func53, Tryd.ntmps53
    go_wp2
    go_ret
    exact ⟨ret_int (by rw [hv.out]; omega), rfl⟩
  · by_cases h2 : 97 ≤ c ∧ c ≤ 102
    · have hv : Hid (hexi c = ((c - 87 : Nat) : Int)) := by unfold Hid hexi hexv; rw [if_neg h1, if_pos h2, if_pos (by omega)]
      have d1 : (97 : Int) ≤ (c : Int) := by omega
      have d2 : (c : Int) ≤ 102 := by omega
      have d3 : (48 : Int) ≤ (c : Int) := by omega
      have d4 : ¬ (c : Int) ≤ 57 := by omega
      go_enter Tryd.func53, Tryd.ntmps53
      go_wp2
      go_ret
      exact ⟨ret_int (by rw [hv.out]; omega), rfl⟩
    · have hv : Hid (hexi c = -1) := by unfold Hid hexi hexv; rw [if_neg h1, if_neg h2]; rfl
      go_enter Tryd.func53, Tryd.ntmps53
      go_wp2
      all_goals first | omega | (go_ret; exact ⟨ret_int (by rw [hv.out]), rfl⟩)
/-- The bytes that pairs of digits stand for. -/
def unhexOf : List Nat → List Nat
  | c :: d :: l => (hexv c * 16 + hexv d) :: unhexOf l
  | _ => []
theorem unhexOf_len : ∀ l : List Nat, (unhexOf l).length = l.length / 2
  | [] => rfl
  | [_] => by simp [unhexOf]
  | _ :: _ :: l => by
    show (unhexOf l).length + 1 = (l.length + 1 + 1) / 2
    rw [unhexOf_len l]
    omega
theorem unhexOf_at : ∀ (l : List Nat) (k c d : Nat), l[2 * k]? = some c → l[2 * k + 1]? = some d → (unhexOf l)[k]? = some (hexv c * 16 + hexv d)
  | [], _, _, _, h, _ => by simp at h
  | [_], k, _, _, _, h => by simp at h
  | x :: y :: l, 0, c, d, h1, h2 => by
    simp at h1 h2
    subst h1 h2
    rfl
  | x :: y :: l, k + 1, c, d, h1, h2 => by
    have e1 : 2 * (k + 1) = 2 * k + 1 + 1 := by omega
    rw [e1] at h1 h2
    simp only [List.getElem?_cons_succ] at h1 h2
    show (unhexOf l)[k]? = _
    exact unhexOf_at l k c d h1 h2
theorem str_at {S : ByteArray} {k c : Nat} (hks : k < S.size) (hc : (bytesOf S)[k]? = some c) : S[k].toNat = c := by
  unfold bytesOf at hc
  rw [List.getElem?_map, Array.getElem?_toList] at hc
  have h2 : S.data[k]? = some S[k] := Array.getElem?_eq_getElem hks
  rw [h2] at hc
  exact Option.some.inj hc
theorem or_nat4 (v c : Nat) (hc : c < 16) : v * 16 ||| c = v * 16 + c := by
  have := Nat.two_pow_add_eq_or_of_lt (i := 4) (show c < 2 ^ 4 by omega) v
  rw [Nat.mul_comm v 16]
  exact this.symm
theorem i64_or4 {v c : Nat} (hv : v < 16) (hc : c < 16) : bits .or .i64 ((v : Int) * 16) (c : Int) = ((v * 16 + c : Nat) : Int) := by
  have e1 : (v : Int) * 16 = ((v * 16 : Nat) : Int) := by simp
  rw [e1]
  have key : (BitVec.ofInt 64 ((v * 16 : Nat) : Int) ||| BitVec.ofInt 64 (c : Int)).toNat = v * 16 + c := by
    rw [BitVec.toNat_or, BitVec.ofInt_natCast, BitVec.ofInt_natCast, BitVec.toNat_ofNat, BitVec.toNat_ofNat, Nat.mod_eq_of_lt (by omega), Nat.mod_eq_of_lt (by omega), or_nat4 v c hc]
  show IntKind.i64.wrap ((BitVec.ofInt 64 ((v * 16 : Nat) : Int) ||| BitVec.ofInt 64 (c : Int)).toNat : Nat) = _
  rw [key, IntKind.wrap_i64]
  omega
/-- What Unhex answers. -/
def Unh (w : World) (E : Nat → Addr) (L : List Nat) (n : Nat) (e : Ending) (w' : World) : Prop :=
  ∃ v ev, e = .returned (.tuple #[v, ev]) ∧ Below w.heap.size w w' ∧
    ((∃ i c : Nat, L[i]? = some c ∧ ¬ hexv c < 16 ∧ v = .slice none 0 0 ∧ AtErr w' w.heap.size ev (E 18) (i : Int) ∧ ∀ j c : Nat, j < i → L[j]? = some c → hexv c < 16) ∨
     ((∀ j c : Nat, j < n → L[j]? = some c → hexv c < 16) ∧ n % 2 = 1 ∧ v = .slice none 0 0 ∧ AtErr w' w.heap.size ev (E 1) (n : Int)) ∨
     ((∀ j c : Nat, j < n → L[j]? = some c → hexv c < 16) ∧ n % 2 = 0 ∧ ev = .nilIface ∧ Own w' w.heap.size v (unhexOf L)))
set_option maxRecDepth 100000 in
set_option maxHeartbeats 400000 in
theorem unhex_any {E : Nat → Addr} (S : ByteArray) (n : Nat) (w : World) (hn : S.size = n) (hm : n ≤ 140737488351232) (he : Errs w E) :
    Calls Tryd.prog 21 #[.string S] w fun e w' => Unh w E (bytesOf S) n e w' := by
  have v18 := he.v18
  have v1 := he.v1
  have HE : Hid (∀ W, Below w.heap.size w W → W.cell? ⟨0, 0, none⟩ = some (sent (E 18)) ∧ W.cell? ⟨1, 0, none⟩ = some (sent (E 1))) := fun W hb => ⟨cell_below v18 hb, cell_below v1 hb⟩
  clear he v18 v1
  go_enter Tryd.func21, Tryd.ntmps21
  go_wp2_with fail
  go_loopw [9] (fun i wr => ∃ k : Nat, k ≤ n ∧ i = .int .i64 (k : Int) ∧ Hid (∀ j c : Nat, j < k → (bytesOf S)[j]? = some c → hexv c < 16) ∧ Hid (Below w.heap.size w wr)) (fun i _ => n - (intOf i).toNat)
  case atStart => exact ⟨0, by omega, rfl, fun j c hj => by omega, Below.refl _ _⟩
  case round =>
    obtain ⟨k, hk, rfl, HV, HB⟩ := hrel
    obtain ⟨e18, e1⟩ := HE.out wr HB.out
    unfold sent at e18 e1
    by_cases hlt : k < n
    · obtain ⟨c, hc⟩ : ∃ c, (bytesOf S)[k]? = some c := ⟨_, List.getElem?_eq_getElem (by rw [bytesOf_len, hn]; exact hlt)⟩
      have hc8 := bytesOf_lt S c (List.mem_of_getElem? hc)
      have hks : k < S.size := by omega
      have hck : S[k].toNat = c := str_at hks hc
      have HCC := hide hc
      clear hc
      go_wp2_with fail
      refine Calls.mono (value_any c _ hc8) ?_
      rintro e w2 ⟨rfl, rfl⟩
      by_cases hv : hexv c < 16
      · have hi : ¬ hexi c < 0 := by unfold hexi; rw [if_pos hv]; omega
        generalize hexi c = z at *
        go_wp2
        refine ⟨⟨k + 1, by omega, by first | rfl | simp, fun j d hj hd => ?_, HB⟩, by simp [intOf]; omega⟩
        by_cases hjk : j < k
        · exact HV.out j d hjk hd
        · obtain rfl : j = k := by omega
          rw [HCC.out] at hd
          exact (Option.some.inj hd) ▸ hv
      · have hi : hexi c < 0 := by unfold hexi; rw [if_neg hv]; decide
        generalize hexi c = z at *
        go_wp2_with fail
        refine Calls.mono (placed_any (E 18) _ _) ?_
        rintro e w2 ⟨ev, rfl, ha, hb2⟩
        have HA := hide (ha.wk HB.out.size)
        have HB2 := hide (chain HB.out hb2)
        clear ha hb2
        go_wp2
        go_ret2
        exact ⟨_, ev, rfl, HB2.out, .inl ⟨k, c, HCC.out, hv, rfl, HA.out, HV.out⟩⟩
    · obtain rfl : k = n := by omega
      have hmod : (k : Int) % 2 = ((k % 2 : Nat) : Int) := by omega
      have htm : Int.tmod (k : Int) 2 = ((k % 2 : Nat) : Int) := by rw [Int.tmod_eq_emod_of_nonneg (by omega)]; omega
      by_cases hodd : k % 2 = 1
      · rw [hodd] at htm hmod
        go_wp2_with fail
        refine Calls.mono (placed_any (E 1) _ _) ?_
        rintro e w2 ⟨ev, rfl, ha, hb2⟩
        have HA := hide (ha.wk HB.out.size)
        have HB2 := hide (chain HB.out hb2)
        clear ha hb2
        go_wp2
        go_ret2
        exact ⟨_, ev, rfl, HB2.out, .inr (.inl ⟨HV.out, hodd, rfl, HA.out⟩)⟩
      · have hev : k % 2 = 0 := by omega
        rw [hev] at htm hmod
        obtain ⟨m, hm2⟩ : ∃ m, k / 2 = m := ⟨_, rfl⟩
        have hdv : (k : Int) / 2 = (m : Int) := by omega
        have htd : Int.tdiv (k : Int) 2 = (m : Int) := by rw [Int.tdiv_eq_ediv_of_nonneg (by omega)]; omega
        go_wp2_with (first | (at_make; refine make_bts rfl (.tmp 31) (.tmp 31) rfl _ _ m rfl rfl rfl rfl (by omega) ?_; intro w3 hown3 hb3; have HO3 := hide (hown3.wk HB.out.size); have HB3 := hide (chain HB.out hb3); clear hown3 hb3))
        obtain ⟨g, hg⟩ : ∃ g, wr.heap.size = g := ⟨_, rfl⟩
        rw [hg] at HO3 ⊢
        have hgw : w.heap.size ≤ g := by have := HB.out.size; omega
        have HUL : Hid ((unhexOf (bytesOf S)).length = m) := by unfold Hid; rw [unhexOf_len, bytesOf_len, hn]; exact hm2
        clear hg e18 e1
        go_loopw [35] (fun i wq => ∃ q : Nat, q ≤ m ∧ i = .int .i64 (q : Int) ∧ Hid (Own wq w.heap.size (.slice (some ⟨g, 0, none⟩) m m) ((unhexOf (bytesOf S)).take q ++ List.replicate (m - q) 0)) ∧ Hid (Below w.heap.size w wq)) (fun i _ => m - (intOf i).toNat)
        case atStart => exact ⟨0, by omega, rfl, by simpa using HO3, HB3⟩
        case round =>
          obtain ⟨q, hq, rfl, HO, HBQ⟩ := hrel
          have HZL : Hid (((unhexOf (bytesOf S)).take q ++ List.replicate (m - q) 0).length = m) := by
            unfold Hid
            rw [List.length_append, List.length_take, List.length_replicate, HUL.out]
            omega
          by_cases hql : q < m
          · obtain ⟨c, hc⟩ : ∃ c, (bytesOf S)[2 * q]? = some c := ⟨_, List.getElem?_eq_getElem (by rw [bytesOf_len, hn]; omega)⟩
            obtain ⟨d, hd⟩ : ∃ d, (bytesOf S)[2 * q + 1]? = some d := ⟨_, List.getElem?_eq_getElem (by rw [bytesOf_len, hn]; omega)⟩
            have hc8 := bytesOf_lt S c (List.mem_of_getElem? hc)
            have hd8 := bytesOf_lt S d (List.mem_of_getElem? hd)
            have h1s : 2 * q < S.size := by omega
            have h2s : 2 * q + 1 < S.size := by omega
            have hck : S[2 * q].toNat = c := str_at h1s hc
            have hdk : S[2 * q + 1].toNat = d := str_at h2s hd
            have HUA := hide (unhexOf_at _ q c d hc hd)
            have hxv := HV.out _ c (show 2 * q < k by omega) hc
            have hyv := HV.out _ d (show 2 * q + 1 < k by omega) hd
            have hxi : hexi c = (hexv c : Int) := by unfold hexi; rw [if_pos hxv]
            have hyi : hexi d = (hexv d : Int) := by unfold hexi; rw [if_pos hyv]
            have HC := hide (fun W => value_any c W hc8)
            have HD := hide (fun W => value_any d W hd8)
            rw [hxi] at HC
            rw [hyi] at HD
            clear hc hd hxi hyi
            generalize hexv c = x at *
            generalize hexv d = y at *
            obtain ⟨r, hr⟩ : ∃ r, 2 * q = r := ⟨_, rfl⟩
            have hmul : IntKind.i64.wrap (2 * (q : Int)) = (r : Int) := by rw [IntKind.wrap_i64]; omega
            have hwr : IntKind.i64.wrap (r : Int) = (r : Int) := by rw [IntKind.wrap_i64]; omega
            have hwr1 : IntKind.i64.wrap ((r + 1 : Nat) : Int) = ((r + 1 : Nat) : Int) := by rw [IntKind.wrap_i64]; omega
            have hadd : IntKind.i64.wrap ((r : Int) + 1) = (r : Int) + 1 := by rw [IntKind.wrap_i64]; omega
            rw [hr] at h1s
            rw [hr] at h2s
            have hck' : S[r].toNat = c := by subst hr; exact hck
            have hdk' : S[r + 1].toNat = d := by subst hr; exact hdk
            clear hck hdk
            have hrk : r < k := by omega
            have hrk1 : r + 1 < k := by omega
            have hrk2 : (r : Int) + 1 < (k : Int) := by omega
            have hr0 : (0 : Int) ≤ (r : Int) + 1 := by omega
            have htn : ((r : Int) + 1).toNat = r + 1 := by omega
            have hshl : IntKind.i64.wrap ((x : Int) * 16) = (x : Int) * 16 := by rw [IntKind.wrap_i64]; omega
            have hor := i64_or4 hxv hyv
            obtain ⟨z, hz⟩ : ∃ z, x * 16 + y = z := ⟨_, rfl⟩
            rw [hz] at hor HUA
            have hz8 : z < 256 := by omega
            have hu8 : IntKind.u8.wrap (z : Int) = (z : Int) := by rw [IntKind.wrap_u8]; omega
            have hfro := HO.out.frozenAt HZL.out q
            have hcel := HO.out.cellAt HZL.out q 0 (by rw [List.getElem?_append_right (by rw [List.length_take, HUL.out]; omega), List.length_take, HUL.out, Nat.min_eq_left hq, Nat.sub_self, List.getElem?_replicate]; rw [if_pos (by omega)])
            have HST := hide (HO.out.stored HZL.out q z)
            have HSE : Hid (((unhexOf (bytesOf S)).take q ++ List.replicate (m - q) 0).set q z = (unhexOf (bytesOf S)).take (q + 1) ++ List.replicate (m - (q + 1)) 0) := by
              unfold Hid
              rw [List.take_add_one, HUA.out, List.set_append_right _ _ (by rw [List.length_take, HUL.out]; omega), List.length_take, HUL.out, Nat.min_eq_left hq, Nat.sub_self]
              obtain ⟨j, hj⟩ : ∃ j, m - q = j + 1 := ⟨m - q - 1, by omega⟩
              rw [hj, show m - (q + 1) = j by omega, List.replicate_succ, List.set_cons_zero, List.append_assoc]
              rfl
            rw [HSE.out] at HST
            have hfro' : wr.drew.frozen? ⟨g, q, none⟩ = false := hfro
            have hcel' : wr.drew.cell? ⟨g, q, none⟩ = some (.int .u8 0) := hcel
            clear HUA HSE hcel hfro hxv hyv hz hc8 hd8 hmod htm hdv htd HO3 HB3 HE hodd
            go_wp2_with fail
            go_region_held3 (fun wz => True) (exact trivial) (first | (go_at_call 53; with_reducible refine Calls.mono (HC.out wr.drew) ?_; rintro e w4 ⟨rfl, rfl⟩) | (go_at_call 53; with_reducible refine Calls.mono (HD.out wr.drew) ?_; rintro e w4 ⟨rfl, rfl⟩))
            all_goals go_wp2
            all_goals exact ⟨⟨q + 1, by omega, by first | rfl | simp, HST, HBQ.out.trans (((frm_setCell wr ⟨g, q, none⟩ (.int .u8 (z : Int))).below HBQ.out.size (fun j e => by rw [e]; exact hgw)).drew)⟩, by simp [intOf]; omega⟩
          · obtain rfl : q = m := by omega
            have HF : Hid ((unhexOf (bytesOf S)).take q ++ List.replicate (q - q) 0 = unhexOf (bytesOf S)) := by
              unfold Hid
              rw [Nat.sub_self, List.take_of_length_le (by rw [HUL.out]; exact Nat.le_refl _)]
              simp
            rw [HF.out] at HO
            go_wp2
            go_ret2
            exact ⟨_, _, rfl, HBQ.out, .inr (.inr ⟨HV.out, hev, rfl, HO.out⟩)⟩
end Go.Proofs.YtohoncgkekiihaaDoor
