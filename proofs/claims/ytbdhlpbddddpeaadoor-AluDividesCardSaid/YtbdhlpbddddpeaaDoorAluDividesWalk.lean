/-
  Walk of the law AluDivides.
-/
import Derived.Test.YtbdhlpbddddpeaaDoorAluCut
import Derived.Test.YtbdhlpbddddpeaaDoorErrCode0
namespace Go.Proofs.YtbdhlpbddddpeaaDoor.aluDivides
open Go.RowKit FerryAlu
set_option linter.unusedVariables false

theorem do_zero {w : World} {E : Nat → Addr} (he : Errs w E) (op : Int) (b : Nat) (hop : op = 10 ∨ op = 11 ∨ op = 12 ∨ op = 13) :
    Calls Tryd.prog 9 #[.int .i64 op, .int .u32 (b : Int), .int .u32 0] w fun e w' => e = .returned (.tuple #[.int .u32 0, sent (E 20)]) ∧ Below w.heap.size w w' := by
  have v20 := he.v20
  clear he
  rcases hop with rfl | rfl | rfl | rfl
  all_goals (
    go_enter Tryd.func9, Tryd.ntmps9
    go_wp2
    go_region
    all_goals go_wp2
    all_goals (go_ret2; exact ⟨rfl, (Below.refl _ _).drew⟩))

theorem remu72 (w : World) : Calls Tryd.prog 9 #[.int .i64 12, .int .u32 7, .int .u32 2] w fun e w' => e = .returned (.tuple #[.int .u32 1, .nilIface]) ∧ w = w' := do_remu 7 2 w (by decide) (by decide) (by decide)

theorem isE (E : Nat → Addr) : IsErr E (sent (E 20)) 20 := .inr ⟨by decide, by decide, rfl⟩

set_option maxRecDepth 100000 in
set_option maxHeartbeats 2000000 in
theorem law_zero {w : World} {E : Nat → Addr} (he : Errs w E) (b : Nat) :
    Calls Tryd.prog 3 #[.int .u32 (b : Int), .int .u32 0] w fun e w' => e = .returned (.bool true) ∧ Below w.heap.size w w' := by
  have H0 := hide he
  have F := hide (remu72 w)
  clear he
  go_enter Tryd.func3, Tryd.ntmps3
  go_wp2_with fail
  refine Calls.mono F.out ?_
  rintro e w' ⟨rfl, rfl⟩
  go_wp2_with fail
  refine wp_loop_rounds 5 ?_
  rw [rounds_succ]
  go_wp2_with fail
  refine Calls.mono (do_zero H0.out 10 b (by decide)) ?_
  rintro e w1 ⟨rfl, hb1⟩
  have H1 := hide (H0.out.below hb1)
  have B1 := hide hb1
  clear hb1
  go_wp2_with fail
  refine Calls.mono (code_any H1.out (sent (E 20)) 20 (isE E)) ?_
  rintro e w' ⟨rfl, rfl⟩
  go_wp2_with fail
  rw [rounds_succ]
  go_wp2_with fail
  refine Calls.mono (do_zero H1.out 11 b (by decide)) ?_
  rintro e w2 ⟨rfl, hb2⟩
  have H2 := hide (H1.out.below hb2)
  have B2 := hide hb2
  clear hb2
  go_wp2_with fail
  refine Calls.mono (code_any H2.out (sent (E 20)) 20 (isE E)) ?_
  rintro e w' ⟨rfl, rfl⟩
  go_wp2_with fail
  rw [rounds_succ]
  go_wp2_with fail
  refine Calls.mono (do_zero H2.out 12 b (by decide)) ?_
  rintro e w3 ⟨rfl, hb3⟩
  have H3 := hide (H2.out.below hb3)
  have B3 := hide hb3
  clear hb3
  go_wp2_with fail
  refine Calls.mono (code_any H3.out (sent (E 20)) 20 (isE E)) ?_
  rintro e w' ⟨rfl, rfl⟩
  go_wp2_with fail
  rw [rounds_succ]
  go_wp2_with fail
  refine Calls.mono (do_zero H3.out 13 b (by decide)) ?_
  rintro e w4 ⟨rfl, hb4⟩
  have H4 := hide (H3.out.below hb4)
  have B4 := hide hb4
  clear hb4
  go_wp2_with fail
  refine Calls.mono (code_any H4.out (sent (E 20)) 20 (isE E)) ?_
  rintro e w' ⟨rfl, rfl⟩
  go_wp2_with fail
  rw [rounds_succ]
  go_wp2
  go_ret
  exact ⟨rfl, chain (chain (chain B1.out B2.out) B3.out) B4.out⟩

set_option maxRecDepth 100000 in
set_option maxHeartbeats 2000000 in
theorem law_some (b c : Nat) (w : World) (hb : b < 4294967296) (hc : c < 4294967296) (h0 : c ≠ 0) :
    Calls Tryd.prog 3 #[.int .u32 (b : Int), .int .u32 (c : Int)] w fun e w' => e = .returned (.bool true) ∧ Below w.heap.size w w' := by
  have F := hide (remu72 w)
  have D10 := hide (do_divu b c w hb hc h0)
  have D11 := hide (do_divs b c w hb hc h0)
  have D12 := hide (do_remu b c w hb hc h0)
  have D13 := hide (do_rems b c w hb hc h0)
  have C := hide (code_none w)
  have SB := hide (signed_any b w hb)
  have SC := hide (signed_any c w hc)
  have hsb := sg_ge b
  have hsc := sg_ge c
  have hsb' := sg_le hb
  have hsc' := sg_le hc
  have hc0 : sg c ≠ 0 := fun h => h0 ((sg_zero hc).1 h)
  have hr := tmod_range (b := sg c) hsb hsb'
  have ST := hide (signed_any (un ((sg b).tmod (sg c))) w (un_lt _))
  rw [sg_un hr.1 hr.2] at ST
  have hback := divs_back c hb
  have hsize := tmod_size (a := sg b) hc0
  have hsign := tmod_sign (a := sg b) (b := sg c)
  have hq : b / c * c + b % c = b := by rw [Nat.mul_comm]; exact Nat.div_add_mod b c
  have hq1 : b / c < 4294967296 := Nat.lt_of_le_of_lt (Nat.div_le_self _ _) hb
  have hr1 : b % c < c := Nat.mod_lt _ (by omega)
  have hm0 : b / c * c ≤ 4294967295 := by omega
  have hs1 : un ((sg b).tdiv (sg c)) < 4294967296 := un_lt _
  have ht1 : un ((sg b).tmod (sg c)) < 4294967296 := un_lt _
  generalize (sg b).tmod (sg c) = z at *
  generalize un ((sg b).tdiv (sg c)) = s at *
  generalize un z = t at *
  generalize b / c = q at *
  generalize b % c = r at *
  have e0 : ((c : Int) == 0) = false := by simp; omega
  have e1 : decide (c ≤ r) = false := by simp; omega
  have e2 : IntKind.u64.wrap (IntKind.u64.wrap (IntKind.u64.wrap (q : Int) * IntKind.u64.wrap (c : Int)) + IntKind.u64.wrap (r : Int)) = (b : Int) := by
    have u : ∀ n : Nat, n < 18446744073709551616 → IntKind.u64.wrap (n : Int) = (n : Int) := fun n h => by rw [IntKind.wrap_u64]; omega
    rw [u q (by omega), u c (by omega), u r (by omega), ← Int.natCast_mul, u _ (by omega), ← Int.natCast_add, u _ (by omega), hq]
  have e3 : ((s : Int) * (c : Int) % 4294967296 + (t : Int)) % 4294967296 = (b : Int) := by rw [← Int.natCast_mul]; omega
  have HB := hide hsb
  have HB' := hide hsb'
  have HC := hide hsc
  have HC' := hide hsc'
  have H0 := hide hc0
  have HS := hide hsize
  have HG := hide hsign
  have HW : Hid (wrap64 (-sg c) = -sg c ∧ wrap64 (sg c) = sg c) := ⟨by unfold wrap64; omega, by unfold wrap64; omega⟩
  have hcn : ¬ c = 0 := h0
  clear hb hc h0 hsb hsb' hsc hsc' hc0 hsize hsign hback hq hq1 hr1 hm0 hs1 ht1 hr
  generalize sg b = sb at *
  generalize sg c = sc at *
  go_enter Tryd.func3, Tryd.ntmps3
  go_wp2_with fail
  refine Calls.mono F.out ?_
  rintro e w' ⟨rfl, rfl⟩
  go_wp2_with fail
  refine wp_loop_rounds 5 ?_
  rw [rounds_succ]
  go_wp2_with fail
  refine Calls.mono D10.out ?_
  rintro e w' ⟨rfl, rfl⟩
  go_wp2_with fail
  refine Calls.mono C.out ?_
  rintro e w' ⟨rfl, rfl⟩
  go_wp2_with fail
  rw [rounds_succ]
  go_wp2_with fail
  refine Calls.mono D11.out ?_
  rintro e w' ⟨rfl, rfl⟩
  go_wp2_with fail
  refine Calls.mono C.out ?_
  rintro e w' ⟨rfl, rfl⟩
  go_wp2_with fail
  rw [rounds_succ]
  go_wp2_with fail
  refine Calls.mono D12.out ?_
  rintro e w' ⟨rfl, rfl⟩
  go_wp2_with fail
  refine Calls.mono C.out ?_
  rintro e w' ⟨rfl, rfl⟩
  go_wp2_with fail
  rw [rounds_succ]
  go_wp2_with fail
  refine Calls.mono D13.out ?_
  rintro e w' ⟨rfl, rfl⟩
  go_wp2_with fail
  refine Calls.mono C.out ?_
  rintro e w' ⟨rfl, rfl⟩
  go_wp2_with fail
  rw [rounds_succ]
  go_wp2_with fail
  refine Calls.mono (do_of D10.out) ?_
  rintro e w' ⟨rfl, rfl⟩
  go_wp2_with fail
  refine Calls.mono (do_of D12.out) ?_
  rintro e w' ⟨rfl, rfl⟩
  go_wp2_with fail
  refine Calls.mono (do_of D11.out) ?_
  rintro e w' ⟨rfl, rfl⟩
  go_wp2_with fail
  refine Calls.mono (do_of D13.out) ?_
  rintro e w' ⟨rfl, rfl⟩
  go_wp2_with fail
  refine Calls.mono SB.out ?_
  rintro e w' ⟨rfl, rfl⟩
  go_wp2_with fail
  refine Calls.mono SC.out ?_
  rintro e w' ⟨rfl, rfl⟩
  go_wp2_with fail
  refine Calls.mono ST.out ?_
  rintro e w' ⟨rfl, rfl⟩
  go_wp2_with fail
  all_goals first
    | (exfalso; have q1 := HS.out; have q2 := H0.out; have q3 := HW.out; omega)
    | (exfalso; rename_i hzz hbb; have hg := HG.out hzz; have hd : decide (z < 0) = decide (sb < 0) := decide_eq_decide.2 hg; have h2 := hbb.2; rw [hd] at h2; simp at h2)
    | (go_ret; refine ⟨ret_bool ?_, Below.refl _ _⟩; have q1 := HS.out; have q2 := H0.out; have q3 := HW.out; have q4 := HC.out; have q5 := HC'.out; simp; (try unfold wrap64 at *); omega)

theorem law {E : Nat → Addr} (b c : Nat) (w : World) (he : Errs w E) (hb : b < 4294967296) (hc : c < 4294967296) :
    Calls Tryd.prog 3 #[.int .u32 (b : Int), .int .u32 (c : Int)] w fun e w' => e = .returned (.bool true) ∧ Below w.heap.size w w' := by
  by_cases h0 : c = 0
  · subst h0
    exact law_zero he b
  · exact law_some b c w hb hc h0
end Go.Proofs.YtbdhlpbddddpeaaDoor.aluDivides
