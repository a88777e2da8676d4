/-
  Two lists of pages held against each other but for their marks.
-/
import Derived.Test.YtkjbcnlhallcdaaVsAlike
import Derived.Deep.Cut
namespace Go.Proofs.Ytkjbcnlhallcdaa
open Go.RowKit FerryCrc
set_option linter.unusedVariables false
set_option linter.unusedSimpArgs false

theorem info_alikes_any : (Try.prog.info? 40).map (·.size) = some 66 := by kernel_rfl
def zPageV : Array Value := (.int .i64 0 :: .bool false :: List.replicate 64 (.int .u8 0)).toArray
theorem zero_pageV (w : World) : (zeroValue 40).run Try.prog w = .ok (.agg zPageV) w := by kernel_rfl

set_option maxRecDepth 100000 in
set_option maxHeartbeats 1600000 in
theorem alikes_any (a : Option Addr) (len cap : Nat) (L : List (List Lit)) (a' : Option Addr) (len' cap' : Nat) (L' : List (List Lit)) (w : World) (hs : Kv w 40 66 a len L) (hs' : Kv w 40 66 a' len' L') :
    Calls Try.prog 14 #[.slice a len cap, .slice a' len' cap', .func (.func 15) #[] #[]] w fun e w' => e = .returned (.bool (eqb Classical.propDecidable (L.map pk = L'.map pk))) ∧ Below w.heap.size w w' := by
  have hm := hs.most
  have hm' := hs'.most
  have hu := Try.underlying40
  have hz47 : ∀ w, (zeroValue 40).run Try.prog w = .ok (.agg zPageV) w := zero_pageV
  by_cases hnm : len = len'
  · subst hnm
    have HS := hide hs
    have HS' := hide hs'
    clear hs hs'
    go_enter Try.func14, Try.ntmps14
    go_wp2
    go_loopw [7, 8, 9, 17] (fun x7 x8 x9 i wr => ∃ k : Nat, k ≤ len ∧ i = .int .i64 k ∧ Hid (Below w.heap.size w wr) ∧ Hid ((L.take k).map pk = (L'.take k).map pk)) (fun _ _ _ i _ => len - (intOf i).toNat)
    case atStart => exact ⟨0, by omega, rfl, Below.refl _ _, rfl⟩
    case round =>
      obtain ⟨k, hk, rfl, hb, HQ⟩ := hrel
      by_cases hlt : k < len
      · obtain ⟨l1, b, off, row, D1, hl1, rfl, hr1, hz1, hk1⟩ := (HS.out.below hb.out).at hlt
        obtain ⟨l2, b', off', row', D2, hl2, rfl, hr2, hz2, hk2⟩ := (HS'.out.below hb.out).at hlt
        have hi1 : (Try.prog.info? 40).map (·.size) = some row.length := by rw [hz1]; exact info_alikes_any
        have hi2 : (Try.prog.info? 40).map (·.size) = some row'.length := by rw [hz2]; exact info_alikes_any
        have HI1 := hide hi1
        have HI2 := hide hi2
        have HZ1 := hide hz1
        have HZ2 := hide hz2
        have ONE1 : Hid (row.toArray.all (·.oneCell') = true) := keys_one (m := 4) (by kernel_rfl) hk1
        have ONE2 : Hid (row'.toArray.all (·.oneCell') = true) := keys_one (m := 4) (by kernel_rfl) hk2
        have HL1 := hide hl1
        have HL2 := hide hl2
        have HP : Hid (∀ W, Below wr.heap.size wr W → Calls Try.prog 15 #[.agg row.toArray, .agg row'.toArray] W fun e w' => e = .returned (.bool (eqb Classical.propDecidable (pk l1 = pk l2))) ∧ Below W.heap.size W w') := fun W hW => alikePages_any row row' l1 l2 D1 D2 W hk1 hk2
        clear hk1 hk2
        have HR2 := hide hr2
        clear hl1 hl2 hz1 hz2 hi1 hi2 hr2
        go_upto_region 6 with (first | (refine wpList_load_mid (op := { dst := some 21, op := Go.Op.load 40 (Go.Operand.tmp 20), type := 40, pos := "slices.go:41", after := #[{ on := 1, ground := Go.Ground.data }], guard := none }) rfl 40 (.tmp 20) rfl b (off + k * 66) rfl row _ hr1 hu rfl HI1.out ?_) | (refine wpList_store_new (op := { dst := none, op := Go.Op.store 40 (Go.Operand.tmp 8) (Go.Operand.tmp 21), type := 0, pos := "slices.go:41", after := #[{ on := 3, ground := Go.Ground.data }, { on := 2, ground := Go.Ground.data }, { on := 4, ground := Go.Ground.chain }, { on := 0, ground := Go.Ground.phase }, { on := 1, ground := Go.Ground.phase }, { on := 2, ground := Go.Ground.phase }, { on := 3, ground := Go.Ground.phase }, { on := 4, ground := Go.Ground.phase }], guard := none }) rfl 40 (.tmp 8) (.tmp 21) rfl row.toArray rfl rfl (by rw [List.size_toArray]; exact HI1.out) (show (66 : Nat) = row.toArray.size by rw [List.size_toArray, HZ1.out]) ONE1.out ?_) | fail)
        try simp only [Act.put]
        have B1 := hide (one_below wr (.cells row.toArray 40))
        have N1 := hide (rangeNew wr row 40)
        have S1 : Hid ((wr.alloc (.cells row.toArray 40)).heap.size = wr.heap.size + 1) := by unfold Hid; simp
        generalize wr.alloc (.cells row.toArray 40) = W1 at *
        have hr2 := vrange_below HR2.out B1.out
        clear hr1
        go_upto_region 7 with (first | (refine wpList_load_mid (op := { dst := some 25, op := Go.Op.load 40 (Go.Operand.tmp 24), type := 40, pos := "slices.go:42", after := #[{ on := 2, ground := Go.Ground.data }], guard := none }) rfl 40 (.tmp 24) rfl b' (off' + k * 66) rfl row' _ hr2 hu rfl HI2.out ?_) | (refine wpList_store_new (op := { dst := none, op := Go.Op.store 40 (Go.Operand.tmp 9) (Go.Operand.tmp 25), type := 0, pos := "slices.go:42", after := #[{ on := 4, ground := Go.Ground.data }, { on := 3, ground := Go.Ground.data }, { on := 0, ground := Go.Ground.phase }, { on := 1, ground := Go.Ground.phase }, { on := 2, ground := Go.Ground.phase }, { on := 3, ground := Go.Ground.phase }, { on := 4, ground := Go.Ground.phase }], guard := none }) rfl 40 (.tmp 9) (.tmp 25) rfl row'.toArray rfl rfl (by rw [List.size_toArray]; exact HI2.out) (show (66 : Nat) = row'.toArray.size by rw [List.size_toArray, HZ2.out]) ONE2.out ?_) | fail)
        try simp only [Act.put]
        have B2 := hide (chain B1.out (one_below W1 (.cells row'.toArray 40)))
        have N2 := hide (rangeNew W1 row' 40)
        have N1' := hide (vrange_below N1.out (one_below W1 (.cells row'.toArray 40)))
        generalize W1.alloc (.cells row'.toArray 40) = W2 at *
        have n1 := N1'.out
        have n2 := N2.out
        clear hr2
        go_wp2_with (first | (refine wpList_load_mid (op := { dst := some 27, op := Go.Op.load 40 (Go.Operand.tmp 8), type := 40, pos := "slices.go:43", after := #[], guard := none }) rfl 40 (.tmp 8) rfl wr.heap.size 0 rfl row _ n1 hu rfl HI1.out ?_) | (refine wpList_load_mid (op := { dst := some 28, op := Go.Op.load 40 (Go.Operand.tmp 9), type := 40, pos := "slices.go:43", after := #[], guard := none }) rfl 40 (.tmp 9) rfl W1.heap.size 0 rfl row' _ n2 hu rfl HI2.out ?_) | fail)
        refine Calls.mono (HP.out W2 B2.out) ?_
        rintro e w5 ⟨rfl, b5⟩
        have HB5 := hide (chain hb.out (chain B2.out b5))
        clear n1 n2 b5
        generalize hq : eqb Classical.propDecidable (pk l1 = pk l2) = r at *
        have HQ2 := hide hq
        clear hq
        cases r
        · go_wp2
          go_ret
          exact ⟨ret_bool (eqb_no (fun e => by have h1 : (L.map pk)[k]? = some (pk l1) := (by rw [List.getElem?_map, HL1.out]; rfl); have h2 : (L'.map pk)[k]? = some (pk l2) := (by rw [List.getElem?_map, HL2.out]; rfl); rw [e, h2] at h1; have h3 := HQ2.out; rw [eqb_yes (Option.some.inj h1).symm] at h3; exact absurd h3 (by decide))).symm, HB5.out⟩
        · go_wp2
          go_roundw
          case rel => exact ⟨k + 1, by omega, by go_num, HB5.out, by unfold Hid; have h3 := eqb_iff.1 HQ2.out; rw [take_nextK HL1.out, take_nextK HL2.out, List.map_append, List.map_append, HQ.out]; simp [h3]⟩
          case measure => simp [intOf]; omega
      · obtain rfl : k = len := by omega
        have HE : Hid (L.map pk = L'.map pk) := by
          have h := HQ.out
          rw [List.take_of_length_le (by rw [HS.out.size]; omega), List.take_of_length_le (by rw [HS'.out.size]; omega)] at h
          exact h
        go_wp2
        go_ret
        exact ⟨ret_bool (eqb_yes HE.out).symm, hb.out⟩
  · have hne : ((len : Int) != (len' : Int)) = true := by simp; omega
    have HN : Hid (¬ L.map pk = L'.map pk) := fun e => hnm (by rw [← hs.size, ← hs'.size]; have h := congrArg List.length e; simpa using h)
    clear hs hs'
    go_enter Try.func14, Try.ntmps14
    go_wp2
    go_ret
    exact ⟨ret_bool (eqb_no HN.out).symm, Below.refl _ _⟩
end Go.Proofs.Ytkjbcnlhallcdaa
