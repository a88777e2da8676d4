/-
  Walk of the document's Patch: four bytes that make the sum what is wanted, found by elimination.
-/
import Derived.Test.YtchmfjendnaflaaDoorRefSolve
import Derived.Test.YtchmfjendnaflaaDoorRefTurn
import Derived.Test.YtchmfjendnaflaaDoorRefSum
import Derived.Test.YtchmfjendnaflaaDoorForge
namespace FerryCrc
theorem col_val {n i : Nat} (hi : i < 32) (hn : 4 ≤ n) : bitsN (8 * (n - i / 8 - 1)) (mv 0 (2 ^ (i % 8))) = bitsN (8 * n) (2 ^ i) := by
  unfold mv
  rw [Nat.zero_xor, ← bitsN_add]
  have e : 2 ^ i = 2 ^ (8 * (i / 8)) * 2 ^ (i % 8) := by rw [← Nat.pow_add]; congr 1; omega
  rw [e, show 8 * n = 8 * (i / 8) + (8 + 8 * (n - i / 8 - 1)) by omega, bitsN_add (8 * (i / 8)), bitsN_pow]
theorem sum_gen (m n h z u : Nat) : bitsN m (bitsN n (h ^^^ z) ^^^ u) = bitsN m (bitsN n h ^^^ u) ^^^ bitsN (n + m) z := by
  rw [bitsN_add, bitsN_xor n, ← bitsN_xor m]
  congr 1
  apply Nat.eq_of_testBit_eq
  intro i
  simp only [Nat.testBit_xor]
  cases (bitsN n h).testBit i <;> cases (bitsN n z).testBit i <;> cases u.testBit i <;> rfl
theorem sum_mid {h z : Nat} {d : List Nat} (hz : z < 4294967296) : mvs (mvs h (le4 z)) d = mvs (mvs h (le4 0)) d ^^^ bitsN (8 * (d.length + 4)) z := by
  have e1 := mvs_four h z hz
  have e2 := mvs_four h 0 (by decide)
  rw [Nat.xor_zero] at e2
  rw [e1, e2, mvs_num, mvs_num, sum_gen]
  congr 2
  omega
theorem sum_low {l : List Nat} {p z : Nat} (h : p + 4 ≤ l.length) (hz : z < 4294967296) : sumOf (lowTo l p z 4) = sumOf (lowTo l p 0 4) ^^^ bitsN (8 * (l.length - p)) z := by
  rw [lowTo_mid h, lowTo_mid h]
  unfold sumOf
  rw [mvs_app2, mvs_app2, mvs_app2, mvs_app2, sum_mid hz, List.length_drop, show l.length - (p + 4) + 4 = l.length - p by omega]
  apply Nat.eq_of_testBit_eq
  intro i
  simp only [Nat.testBit_xor]
  generalize (mvs (mvs (mvs _ (l.take p)) (le4 0)) (l.drop (p + 4))).testBit i = a
  cases a <;> cases (bitsN (8 * (l.length - p)) z).testBit i <;> simp
theorem found {l : List Nat} {p want x : Nat} (h : p + 4 ≤ l.length) (hl : ∀ c ∈ l, c < 256) (hw : want < 4294967296) (hx : x < 4294967296) (e : bitsN (8 * (l.length - p)) x = sumOf (lowTo l p 0 4) ^^^ want) : x = patchZ l p want := by
  have hz := patchZ_lt (p := p) hl hw
  have hf := forge_sum (p := p) hl hw
  rw [patchOf, ← lowTo_mid h, sum_low h hz] at hf
  have h0 : bitsN (8 * (l.length - p)) (x ^^^ patchZ l p want) = 0 := by
    rw [bitsN_xor, e]
    revert hf
    generalize bitsN (8 * (l.length - p)) (patchZ l p want) = B
    generalize sumOf (lowTo l p 0 4) = S
    intro hf
    rw [← hf]
    apply Nat.eq_of_testBit_eq
    intro i
    simp only [Nat.testBit_xor, Nat.zero_testBit]
    cases S.testBit i <;> cases B.testBit i <;> rfl
  have := bitsN_zero (xor_lt32 hx hz) h0
  apply Nat.eq_of_testBit_eq
  intro i
  have q := congrArg (fun n => n.testBit i) this
  simp only [Nat.testBit_xor, Nat.zero_testBit] at q
  cases e1 : x.testBit i <;> cases e2 : (patchZ l p want).testBit i <;> simp_all
theorem low_twice {l : List Nat} {p x y : Nat} (h : p + 4 ≤ l.length) : lowTo (lowTo l p y 4) p x 4 = lowTo l p x 4 := by
  rw [lowTo_mid (by rw [lowTo_length]; exact h), lowTo_mid h, lowTo_mid h]
  have hl : (l.take p).length = p := by simp; omega
  rw [show p + 4 = (l.take p).length + 4 by rw [hl]]
  congr 1
  · conv => lhs; arg 1; rw [← hl]
    rw [List.take_left]
  · congr 1
    rw [← List.drop_drop, List.drop_left]
    rfl
theorem lowTo_small {l : List Nat} {p n : Nat} (hl : ∀ c ∈ l, c < 256) (k : Nat) : ∀ c ∈ lowTo l p n k, c < 256 := by
  induction k with
  | zero => exact hl
  | succ k ih =>
    intro c hc
    rw [lowTo] at hc
    rcases List.mem_or_eq_of_mem_set hc with h | h
    · exact ih c h
    · rw [h]; exact Nat.mod_lt _ (by decide)
end FerryCrc
namespace Go.Proofs.YtchmfjendnaflaaDoor
open Go.RowKit FerryCrc
set_option linter.unusedVariables false

theorem pow_byte (k : Nat) : (2 : Int) ^ (k % 8) % 256 = ((2 ^ (k % 8) : Nat) : Int) := by
  have h : 2 ^ (k % 8) < 2 ^ 8 := pow_lt8 k
  rw [show (2 : Int) ^ (k % 8) = ((2 ^ (k % 8) : Nat) : Int) by simp]
  generalize 2 ^ (k % 8) = q at *
  omega
theorem refPatch_bad (a : Option Addr) (len cap : Nat) (pos : Int) (want : Nat) (w : World) (hm : len ≤ 140737488355328) (hbad : pos < 0 ∨ (len : Int) - 4 < pos) :
    Calls Tryd.prog 27 #[.slice a len cap, .int .i64 pos, .int .u32 (want : Int)] w fun e w' => e = .returned (.tuple #[.slice none 0 0, .int .i64 12]) ∧ w = w' := by
  go_enter Tryd.func27, Tryd.ntmps27
  go_wp2
  all_goals (go_ret2; exact ⟨rfl, rfl⟩)

set_option maxRecDepth 100000 in
set_option maxHeartbeats 1000000 in
theorem refPatch_any (a : Option Addr) (len cap : Nat) (l : List Nat) (p want : Nat) (w : World) (hs : Bts w a len cap l) (hp : p + 4 ≤ len) (hw : want < 4294967296) :
    Calls Tryd.prog 27 #[.slice a len cap, .int .i64 (p : Int), .int .u32 (want : Int)] w fun e w' => ∃ g c, e = .returned (.tuple #[.slice (some ⟨g, 0, none⟩) len c, .int .i64 0]) ∧ Own w' w.heap.size (.slice (some ⟨g, 0, none⟩) len c) (patchOf l p want) ∧ Below w.heap.size w w' := by
  have hmost := hs.most
  have hd1 : decide ((p : Int) < 0) = false := by simp
  have hd2 : decide ((len : Int) - 4 < (p : Int)) = false := by simp; omega
  have hown := own_empty w
  have hs1 := hs.below ((Below.refl _ _).alloc (Nat.le_refl _) (.cells #[] 5))
  have hz := zero52 (fun i => bitsN (8 * (len - p)) (2 ^ i))
  go_enter Tryd.func27, Tryd.ntmps27
  go_wp2_with (at_builtin; refine append_bts rfl (.tmp 24) (.tmp 25) rfl w.heap.size (.slice (some ⟨w.heap.size, 0, none⟩) 0 0) [] rfl hown a len cap l rfl hs1 (by simp; omega) (by simp) ?_; intro v' w1 hown1 hgrow1 hnil1)
  have hne : v' ≠ .slice none 0 0 := fun e => by simpa using (hnil1.1 e).1
  rw [List.nil_append] at hown1
  obtain ⟨g, c, hv, hg⟩ := own_form hown1 hne
  rw [hs.size] at hv
  subst hv
  have hb1 : Below w.heap.size w w1 := ((Below.refl _ _).alloc (Nat.le_refl _) (.cells #[] 5)).grown hgrow1 (by simp) (by intro k e; simp [Value.ownBlock] at e; omega)
  have HLN := hide hs.size
  have HSM := hide hs.small
  clear hs hs1 hown hgrow1 hnil1 hne hd1 hd2
  have HZ := hide hz
  clear hz
  go_loopw [9] (fun i wr => ∃ k : Nat, k ≤ 4 ∧ i = .int .i64 k ∧ Hid (Below w.heap.size w wr) ∧ Hid (Own wr w.heap.size (.slice (some ⟨g, 0, none⟩) len c) (lowTo l p 0 k))) (fun i _ => 4 - (intOf i).toNat)
  case atStart => exact ⟨0, by omega, rfl, hb1, hown1⟩
  case round =>
    obtain ⟨k, hk, rfl, hb, hownk⟩ := hrel
    clear hown1 hb1
    have hlen : (lowTo l p 0 k).length = len := by rw [lowTo_length, HLN.out]
    by_cases hlt : k < 4
    · have HT : Hid (lowTo l p 0 (k + 1) = (lowTo l p 0 k).set (p + k) 0) := by unfold Hid; rw [lowTo]; simp
      generalize lowTo l p 0 k = t at *
      obtain ⟨x, hx⟩ : ∃ x, t[p + k]? = some x := ⟨_, List.getElem?_eq_getElem (by omega)⟩
      have hcell := hownk.out.cellAt hlen (p + k) x hx
      have hfro := hownk.out.frozenAt hlen (p + k)
      have HS := hide (hownk.out.stored hlen (p + k) 0)
      clear hx
      go_wp2
      go_roundw
      case rel => exact ⟨k + 1, by omega, by go_num, hb.out.setCell hg _, by rw [HT.out]; exact HS.out⟩
      case measure => simp [intOf]; omega
    · obtain rfl : k = 4 := by omega
      have hz := HZ.out
      go_wp2
      clear hz hlt hk hlen
      have HCV := hide (fun i (hi : i < 32) => col_val (n := len - p) hi (by omega))
      obtain ⟨F, hF⟩ : ∃ F, F = fun i => bitsN (8 * (len - p)) (2 ^ i) := ⟨_, rfl⟩
      have HF : Hid (∀ i, bitsN (8 * (len - p)) (2 ^ i) = F i) := fun i => by rw [hF]
      have HT0 := hide (heap_alloc_new wr (.cells (Ta F 0) 70))
      have HB2 : Hid (Below wr.heap.size wr (wr.alloc (.cells (Ta F 0) 70))) := (Below.refl _ _).alloc (Nat.le_refl _) _
      rw [← hF]
      have HFF := hide hF
      clear HZ hF
      generalize wr.alloc (.cells (Ta F 0) 70) = X at *
      generalize wr = W2 at *
      go_loopw [11] (fun i wx => ∃ k : Nat, k ≤ 32 ∧ i = .int .i64 k ∧ Hid (Below W2.heap.size W2 wx) ∧ Hid (wx.heap[W2.heap.size]? = some (.cells (Ta F k) 70 (0, 0)))) (fun i _ => 32 - (intOf i).toNat)
      case atStart => exact ⟨0, by omega, rfl, HB2, HT0⟩
      case round =>
        obtain ⟨k, hk, rfl, HB3, HT3⟩ := hrel
        clear HB2 HT0
        by_cases hlt : k < 32
        · have hcv := HCV.out k hlt
          rw [HF.out] at hcv
          have HK := hide hcv
          have hq : 2 ^ (k % 8) < 256 := pow_lt8 k
          have HM := hide (fun wx => move_any 0 (2 ^ (k % 8)) wx (by decide) hq)
          have hmv : mv 0 (2 ^ (k % 8)) < 4294967296 := mv_lt (by decide) hq
          have HTS := hide (Ta_size F k)
          have HTN : Hid (Ta F (k + 1) = (Ta F k).setIfInBounds k (.int .u32 (F k : Nat))) := rfl
          clear hcv hq
          go_wp2_with fail
          rw [pow_byte]
          refine (HM.out _).mono ?_
          rintro e w' ⟨rfl, rfl⟩
          clear HM
          generalize 2 ^ (k % 8) = q at *
          generalize mv 0 q = r at *
          have HSH := hide (fun wx => refShift_any r (len - p - k / 8 - 1) wx hmv (by omega))
          have hcast : ((len - p - k / 8 - 1 : Nat) : Int) = (len : Int) - (p : Int) - (k : Int) / 8 - 1 := by omega
          rw [hcast, HK.out] at HSH
          clear hcast
          go_wp2_with fail
          refine (HSH.out _).mono ?_
          rintro e w4 ⟨rfl, b4⟩
          have hlt3 : W2.heap.size < wr.heap.size := (Array.getElem?_eq_some_iff.1 HT3.out).1
          have hg4 := heap_at HT3.out b4 hlt3
          have HB4 : Hid (Below W2.heap.size W2 w4) := chain HB3.out b4
          generalize Ta F k = T at *
          obtain ⟨v, hv⟩ : ∃ v, T[k]? = some v := ⟨_, Array.getElem?_eq_getElem (by rw [HTS.out]; exact hlt)⟩
          have hcell := (cell_of_row w4 W2.heap.size k _ _ _ hg4).trans hv
          have hfro := frozen_of_row w4 W2.heap.size k _ _ hg4
          have HN := hide (heap_setCell_same w4 W2.heap.size k T 70 (.int .u32 (F k : Nat)) hg4)
          clear hg4 hlt3 b4 hv HSH
          go_wp2
          refine ⟨?_, ?measure⟩
          · (repeat apply Exists.intro)
            refine ⟨?rel, rfl⟩
            case rel => exact ⟨k + 1, by omega, by go_num, HB4.out.setCell (p := ⟨W2.heap.size, k, none⟩) (Nat.le_refl _) _, by rw [HTN.out]; exact HN.out⟩
          case measure => simp [intOf]; omega
        · obtain rfl : k = 32 := by omega
          have HO2 := hide (hownk.out.below HB3.out)
          have HB4 := hide (chain hb.out HB3.out)
          have hsb := HO2.out.bts (by rw [lowTo_length, HLN.out]) (by omega) (lowTo_small HSM.out 4)
          have HSU := hide (refSum_any _ _ _ _ _ hsb.drew)
          have hsl : sumOf (lowTo l p 0 4) < 4294967296 := xor_lt32 (mvs_lt (by decide) (lowTo_small HSM.out 4)) (by decide)
          have HX := hide (u32_xor_nat _ want hsl hw)
          have hgl := xor_lt32 hsl hw
          have HSV := hide (solve_any (L := bitsN (8 * (len - p))) (bitsN_xor _) (fun _ h => bitsN_lt h) (fun v hv => ⟨bkN (8 * (len - p)) v, bkN_lt hv, bitsN_bkN _ _⟩) (sumOf (lowTo l p 0 4) ^^^ want) hgl wr.drew)
          rw [← HFF.out] at HSV
          have hsz := Ta_size F 32
          have HFD := hide (fun x hx => found (l := l) (p := p) (want := want) (x := x) (by rw [HLN.out]; exact hp) HSM.out hw hx)
          rw [HLN.out] at HFD
          generalize Ta F 32 = TT at *
          generalize sumOf (lowTo l p 0 4) = S0 at *
          have hlt3 : W2.heap.size < wr.heap.size := (Array.getElem?_eq_some_iff.1 HT3.out).1
          obtain ⟨cl⟩ := TT
          have hrg : ∀ wz : World, wz.heap[W2.heap.size]? = some (.cells ⟨cl⟩ 70 (0, 0)) → wz.rangeAt W2.heap.size 0 cl := fun wz h j v hv => by
            rw [show 0 + j = j by omega, cell_of_row wz W2.heap.size j _ _ _ h]
            simpa using hv
          have hrg0 := hrg wr HT3.out
          have hrgS : ∀ w' : World, Below wr.heap.size wr w' → w'.rangeAt W2.heap.size 0 cl := fun w' hb => hrg w' (heap_at HT3.out hb hlt3)
          have HRS := hide hrgS
          clear hrg hrgS
          have hu52 := Tryd.underlying70
          have hcl : cl.length = 32 := by simpa using hsz
          have hi52 : (Tryd.prog.info? 70).map (·.size) = some cl.length := by rw [hcl]; exact info52
          go_wp2_with fail
          go_region_held3 (fun wz => wz.rangeAt W2.heap.size 0 cl) (first | exact hrg0 | exact hr6) (first | (go_at_call 33; refine HSU.out.mono ?_; rintro e w' ⟨rfl, rfl⟩) | (go_at_call 50; rw [HX.out]; refine (HSV.out).mono ?_; rintro e w5 ⟨x, hx, hxe, rfl, hb5d⟩; have hb5 := undrew hb5d; have hr6 := HRS.out w5 hb5))
          all_goals go_wp2
          have HO5 := hide (HO2.out.below hb5)
          have HB5 := hide (chain HB4.out hb5)
          have HPQ : Hid (lowTo (lowTo l p 0 4) p x 4 = patchOf l p want) := by
            unfold Hid
            rw [low_twice (by rw [HLN.out]; exact hp), HFD.out x hx hxe, lowTo_mid (by rw [HLN.out]; exact hp)]
            rfl
          have HLL : Hid ((lowTo l p 0 4).length = len) := by unfold Hid; rw [lowTo_length, HLN.out]
          clear HFD hxe hb5 hb5d hr6 hrg0 HSV HSU HX HRS HO2 HB4 hsb hu52 hi52 hcl hsz hlt3 HT3 HB3 hownk hb
          generalize lowTo l p 0 4 = L0 at *
          go_loopw [14] (fun i wx => ∃ k : Nat, k ≤ 4 ∧ i = .int .i64 k ∧ Hid (Below w.heap.size w wx) ∧ Hid (Own wx w.heap.size (.slice (some ⟨g, 0, none⟩) len c) (lowTo L0 p x k))) (fun i _ => 4 - (intOf i).toNat)
          case atStart => exact ⟨0, by omega, rfl, HB5, HO5⟩
          case round =>
            obtain ⟨k, hk, rfl, hb, hownk⟩ := hrel
            clear HO5 HB5
            have hlen : (lowTo L0 p x k).length = len := by rw [lowTo_length, HLL.out]
            by_cases hlt : k < 4
            · have HT : Hid (lowTo L0 p x (k + 1) = (lowTo L0 p x k).set (p + k) (x / 2 ^ (8 * k) % 256)) := rfl
              generalize lowTo L0 p x k = t at *
              obtain ⟨y, hy⟩ : ∃ y, t[p + k]? = some y := ⟨_, List.getElem?_eq_getElem (by omega)⟩
              have hcell := hownk.out.cellAt hlen (p + k) y hy
              have hfro := hownk.out.frozenAt hlen (p + k)
              have HS := hide (hownk.out.stored hlen (p + k) (x / 2 ^ (8 * k) % 256))
              clear hy
              go_wp2
              go_roundw
              case rel => exact ⟨k + 1, by omega, by go_num, hb.out.setCell hg _, by rw [HT.out]; first | exact HS.out | (rw [low_val]; exact HS.out)⟩
              case measure => simp [intOf]; omega
            · obtain rfl : k = 4 := by omega
              go_wp2
              go_ret2
              exact ⟨g, c, rfl, by rw [← HPQ.out]; exact hownk.out, hb.out⟩
end Go.Proofs.YtchmfjendnaflaaDoor
