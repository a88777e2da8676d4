/-
  Two lists of ports compared.
-/
import Derived.Test.YtkjbcnlhallcdaaVsPort
import Derived.Test.YtkjbcnlhallcdaaVsNew
import Derived.Deep.Cut
namespace Go.Proofs.Ytkjbcnlhallcdaa
open Go.RowKit FerryCrc
set_option linter.unusedVariables false
set_option linter.unusedSimpArgs false

/-- The ports that a slice shows: their ages, and the keys of their messages. -/
structure Pv (w : World) (a : Option Addr) (len : Nat) (L : List (Int × List (List Lit))) : Prop where
  size : L.length = len
  most : len ≤ 140737488355328
  cell : ∀ k p, L[k]? = some p → ∃ b off x n c, a = some ⟨b, off, none⟩ ∧ w.rangeAt b (off + k * 2) [.slice x n c, .int .i64 p.1] ∧ Kv w 9 1 x n p.2
theorem Pv.below {w w' : World} {a : Option Addr} {len : Nat} {L : List (Int × List (List Lit))} (h : Pv w a len L) (hb : Below w.heap.size w w') : Pv w' a len L :=
  ⟨h.size, h.most, fun k p hp => by
    obtain ⟨b, off, x, n, c, e, h1, h3⟩ := h.cell k p hp
    exact ⟨b, off, x, n, c, e, vrange_below h1 hb, h3.below hb⟩⟩
theorem Pv.at {w : World} {a : Option Addr} {len : Nat} {L : List (Int × List (List Lit))} (h : Pv w a len L) {k : Nat} (hk : k < len) : ∃ g K b off x n c row, L[k]? = some (g, K) ∧ a = some ⟨b, off, none⟩ ∧ row = [.slice x n c, .int .i64 g] ∧ w.rangeAt b (off + k * 2) row ∧ Kv w 9 1 x n K := by
  obtain ⟨p, hp⟩ : ∃ p, L[k]? = some p := ⟨_, List.getElem?_eq_getElem (by rw [h.size]; exact hk)⟩
  obtain ⟨b, off, x, n, c, e, h1, h2⟩ := h.cell k p hp
  exact ⟨p.1, p.2, b, off, x, n, c, _, hp, e, rfl, h1, h2⟩
theorem info_eqPorts_any : (Try.prog.info? 55).map (·.size) = some 2 := by kernel_rfl

set_option maxRecDepth 100000 in
set_option maxHeartbeats 1600000 in
theorem eqPorts_any (a : Option Addr) (len cap : Nat) (L : List (Int × List (List Lit))) (a' : Option Addr) (len' cap' : Nat) (L' : List (Int × List (List Lit))) (w : World) (hs : Pv w a len L) (hs' : Pv w a' len' L') :
    Calls Try.prog 23 #[.slice a len cap, .slice a' len' cap', .func (.func 24) #[] #[]] w fun e w' => e = .returned (.bool (eqb Classical.propDecidable (L = L'))) ∧ Below w.heap.size w w' := by
  have hm := hs.most
  have hm' := hs'.most
  have hu := Try.underlying55
  by_cases hnm : len = len'
  · subst hnm
    have HS := hide hs
    have HS' := hide hs'
    clear hs hs'
    go_enter Try.func23, Try.ntmps23
    go_wp2
    go_loopw [7, 8, 9, 17] (fun x7 x8 x9 i wr => ∃ k : Nat, k ≤ len ∧ i = .int .i64 k ∧ Hid (Below w.heap.size w wr) ∧ Hid ((L.take k) = (L'.take k))) (fun _ _ _ i _ => len - (intOf i).toNat)
    case atStart => exact ⟨0, by omega, rfl, Below.refl _ _, rfl⟩
    case round =>
      obtain ⟨k, hk, rfl, hb, HQ⟩ := hrel
      by_cases hlt : k < len
      · obtain ⟨g1, K1, b, off, x1, n1, c1, row, hl1, rfl, hrow, hr1, v1⟩ := (HS.out.below hb.out).at hlt
        obtain ⟨g2, K2, b', off', x2, n2, c2, row', hl2, rfl, hrow', hr2, v2⟩ := (HS'.out.below hb.out).at hlt
        have hz1 : row.length = 2 := by rw [hrow]; rfl
        have hz2 : row'.length = 2 := by rw [hrow']; rfl
        have hi1 : (Try.prog.info? 55).map (·.size) = some row.length := by rw [hz1]; exact info_eqPorts_any
        have hi2 : (Try.prog.info? 55).map (·.size) = some row'.length := by rw [hz2]; exact info_eqPorts_any
        have HI1 := hide hi1
        have HI2 := hide hi2
        have HZ1 := hide hz1
        have HZ2 := hide hz2
        have ONE1 : Hid (row.toArray.all (·.oneCell') = true) := all_oneCell_toArray (by intro u hu; rw [hrow] at hu; simp only [List.mem_cons, List.not_mem_nil, or_false] at hu; rcases hu with rfl | rfl <;> rfl)
        have ONE2 : Hid (row'.toArray.all (·.oneCell') = true) := all_oneCell_toArray (by intro u hu; rw [hrow'] at hu; simp only [List.mem_cons, List.not_mem_nil, or_false] at hu; rcases hu with rfl | rfl <;> rfl)
        have HL1 := hide hl1
        have HL2 := hide hl2
        have HP : Hid (∀ W, Below wr.heap.size wr W → Calls Try.prog 24 #[.agg row.toArray, .agg row'.toArray] W fun e w' => e = .returned (.bool (eqb Classical.propDecidable (g1 = g2 ∧ K1 = K2))) ∧ Below W.heap.size W w') := fun W hW => by rw [hrow, hrow']; exact samePorts_any x1 x2 n1 n2 c1 c2 g1 g2 K1 K2 W (v1.below hW) (v2.below hW)
        clear hrow hrow' v1 v2
        have HR2 := hide hr2
        clear hl1 hl2 hz1 hz2 hi1 hi2 hr2
        go_upto_region 6 with (first | (refine wpList_load_mid (op := { dst := some 21, op := Go.Op.load 55 (Go.Operand.tmp 20), type := 55, pos := "slices.go:41", after := #[{ on := 1, ground := Go.Ground.data }], guard := none }) rfl 55 (.tmp 20) rfl b (off + k * 2) rfl row _ hr1 hu rfl HI1.out ?_) | (refine wpList_store_new (op := { dst := none, op := Go.Op.store 55 (Go.Operand.tmp 8) (Go.Operand.tmp 21), type := 0, pos := "slices.go:41", after := #[{ on := 3, ground := Go.Ground.data }, { on := 2, ground := Go.Ground.data }, { on := 4, ground := Go.Ground.chain }, { on := 0, ground := Go.Ground.phase }, { on := 1, ground := Go.Ground.phase }, { on := 2, ground := Go.Ground.phase }, { on := 3, ground := Go.Ground.phase }, { on := 4, ground := Go.Ground.phase }], guard := none }) rfl 55 (.tmp 8) (.tmp 21) rfl row.toArray rfl rfl (by rw [List.size_toArray]; exact HI1.out) (show (2 : Nat) = row.toArray.size by rw [List.size_toArray, HZ1.out]) ONE1.out ?_) | fail)
        try simp only [Act.put]
        have B1 := hide (one_below wr (.cells row.toArray 55))
        have N1 := hide (rangeNew wr row 55)
        have S1 : Hid ((wr.alloc (.cells row.toArray 55)).heap.size = wr.heap.size + 1) := by unfold Hid; simp
        generalize wr.alloc (.cells row.toArray 55) = W1 at *
        have hr2 := vrange_below HR2.out B1.out
        clear hr1
        go_upto_region 7 with (first | (refine wpList_load_mid (op := { dst := some 25, op := Go.Op.load 55 (Go.Operand.tmp 24), type := 55, pos := "slices.go:42", after := #[{ on := 2, ground := Go.Ground.data }], guard := none }) rfl 55 (.tmp 24) rfl b' (off' + k * 2) rfl row' _ hr2 hu rfl HI2.out ?_) | (refine wpList_store_new (op := { dst := none, op := Go.Op.store 55 (Go.Operand.tmp 9) (Go.Operand.tmp 25), type := 0, pos := "slices.go:42", after := #[{ on := 4, ground := Go.Ground.data }, { on := 3, ground := Go.Ground.data }, { on := 0, ground := Go.Ground.phase }, { on := 1, ground := Go.Ground.phase }, { on := 2, ground := Go.Ground.phase }, { on := 3, ground := Go.Ground.phase }, { on := 4, ground := Go.Ground.phase }], guard := none }) rfl 55 (.tmp 9) (.tmp 25) rfl row'.toArray rfl rfl (by rw [List.size_toArray]; exact HI2.out) (show (2 : Nat) = row'.toArray.size by rw [List.size_toArray, HZ2.out]) ONE2.out ?_) | fail)
        try simp only [Act.put]
        have B2 := hide (chain B1.out (one_below W1 (.cells row'.toArray 55)))
        have N2 := hide (rangeNew W1 row' 55)
        have N1' := hide (vrange_below N1.out (one_below W1 (.cells row'.toArray 55)))
        generalize W1.alloc (.cells row'.toArray 55) = W2 at *
        have n1 := N1'.out
        have n2 := N2.out
        clear hr2
        go_wp2_with (first | (refine wpList_load_mid (op := { dst := some 27, op := Go.Op.load 55 (Go.Operand.tmp 8), type := 55, pos := "slices.go:43", after := #[], guard := none }) rfl 55 (.tmp 8) rfl wr.heap.size 0 rfl row _ n1 hu rfl HI1.out ?_) | (refine wpList_load_mid (op := { dst := some 28, op := Go.Op.load 55 (Go.Operand.tmp 9), type := 55, pos := "slices.go:43", after := #[], guard := none }) rfl 55 (.tmp 9) rfl W1.heap.size 0 rfl row' _ n2 hu rfl HI2.out ?_) | fail)
        refine Calls.mono (HP.out W2 B2.out) ?_
        rintro e w5 ⟨rfl, b5⟩
        have HB5 := hide (chain hb.out (chain B2.out b5))
        clear n1 n2 b5
        generalize hq : eqb Classical.propDecidable (g1 = g2 ∧ K1 = K2) = r at *
        have HQ2 := hide hq
        clear hq
        cases r
        · go_wp2
          go_ret
          exact ⟨ret_bool (eqb_no (fun e => by have h1 := HL1.out; rw [e, HL2.out] at h1; have h2 := Option.some.inj h1; have h3 := HQ2.out; rw [eqb_yes ⟨(congrArg Prod.fst h2).symm, (congrArg Prod.snd h2).symm⟩] at h3; exact absurd h3 (by decide))).symm, HB5.out⟩
        · go_wp2
          go_roundw
          case rel => exact ⟨k + 1, by omega, by go_num, HB5.out, by unfold Hid; have h3 := eqb_iff.1 HQ2.out; rw [take_nextK HL1.out, take_nextK HL2.out, HQ.out, h3.1, h3.2]⟩
          case measure => simp [intOf]; omega
      · obtain rfl : k = len := by omega
        have HE : Hid (L = L') := by
          have h := HQ.out
          rw [List.take_of_length_le (by rw [HS.out.size]; omega), List.take_of_length_le (by rw [HS'.out.size]; omega)] at h
          exact h
        go_wp2
        go_ret
        exact ⟨ret_bool (eqb_yes HE.out).symm, hb.out⟩
  · have hne : ((len : Int) != (len' : Int)) = true := by simp; omega
    have HN : Hid (¬ L = L') := fun e => hnm (by rw [← hs.size, ← hs'.size]; rw [e])
    clear hs hs'
    go_enter Try.func23, Try.ntmps23
    go_wp2
    go_ret
    exact ⟨ret_bool (eqb_no HN.out).symm, Below.refl _ _⟩
end Go.Proofs.Ytkjbcnlhallcdaa
