/-
  Walk of the law PortQueues, for plans that are not in form or of a port out.
-/
import Derived.Test.YtpfmccgiijbcjaaDoorRPqState
namespace Go.Proofs.YtpfmccgiijbcjaaDoorR.portQueues
open Go.RowKit
set_option linter.unusedVariables false
set_option linter.unusedSimpArgs false

theorem bad_put {k s d r : Int} (h : ¬ planErr k s d r = 0 ∨ ¬ (k = 1 ∨ k = 3)) : 1 ≤ movErr true k s d r [] 0 ByteArray.empty ∧ movErr true k s d r [] 0 ByteArray.empty ≤ 20 := by
  unfold movErr
  by_cases hp : planErr k s d r = 0
  · have hk : ¬ (k = 1 ∨ k = 3) := h.resolve_left (fun q => q hp)
    have hi := pe_is k s d r
    rw [if_pos (chk_mk hp (by show (0 : Int) ≤ d; omega) (by omega) (by have := ma_is k ([] : List ByteArray).length; omega) rfl)]
    rw [if_neg (by unfold kin; simp; omega)]
    omega
  · have hc : chkErr k s d r [] 0 = 8 := by unfold chkErr; rw [if_neg hp]
    rw [if_neg (by rw [hc]; decide), hc]
    omega

set_option maxRecDepth 100000 in
set_option maxHeartbeats 8000000 in
theorem law0 {E : Nat → Addr} (k s d r : Int) (a : Option Addr) (len cap : Nat) (w : World) (he : Errs w E) (hbad : ¬ planErr k s d r = 0 ∨ ¬ (k = 1 ∨ k = 3)) :
    Calls Tryd.prog 6 #[.agg #[.int .i64 k, .int .i64 s, .int .i64 d, .int .i64 r], .slice a len cap] w fun e w' => e = .returned (.bool true) ∧ Below w.heap.size w w' := by
  have HE := hide he
  have HB := hide hbad
  have HM := hide (bad_put hbad)
  have P0 := hide (pl_alloc w k s d r)
  have D0 := hide (new_below2 w (.cells #[.int .i64 k, .int .i64 s, .int .i64 d, .int .i64 r] 23))
  clear he hbad
  go_enter Tryd.func6, Tryd.ntmps6
  go_wp2_with fail
  generalize w.alloc (.cells #[.int .i64 k, .int .i64 s, .int .i64 d, .int .i64 r] 23) = W0 at *
  refine Calls.mono (fixed_yes (HE.out.below D0.out)) ?_
  rintro e w1 ⟨rfl, b1⟩
  have P1 := hide (P0.out.below b1)
  have D1 := hide (chain D0.out b1)
  clear b1 P0 D0
  have k0 := P1.out.c0
  have k1 := P1.out.c1
  have k2 := P1.out.c2
  have k3 := P1.out.c3
  go_wp2_with fail
  refine Calls.mono (refCheckPlan_any k s d r w1) ?_
  rintro e w2 ⟨rfl, b2⟩
  have P2 := hide (P1.out.below b2)
  have D2 := hide (chain D1.out b2)
  clear b2 P1 D1 k0 k1 k2 k3
  have k0 := P2.out.c0
  have k1 := P2.out.c1
  have k2 := P2.out.c2
  have k3 := P2.out.c3
  have HG := hide (put_any (HE.out.below D2.out) k s d r 0 none 0 0 [] ByteArray.empty ⟨rfl, by decide, fun x hx => by simp at hx, rfl, by decide, fun _ => ⟨rfl, rfl⟩, fun j v hv => by simp at hv⟩ (by decide))
  by_cases hp : planErr k s d r = 0
  · have hk : ¬ (k = 1 ∨ k = 3) := HB.out.resolve_left (fun q => q hp)
    have n1 : (k == 1) = false := beq_eq_false_iff_ne.2 (by omega)
    have n3 : (k == 3) = false := beq_eq_false_iff_ne.2 (by omega)
    have m1 : (k != 1) = true := bne_iff_ne.2 (by omega)
    have m3 : (k != 3) = true := bne_iff_ne.2 (by omega)
    rw [hp]
    clear hk hp
    go_wp2_with fail
    refine Calls.mono HG.out ?_
    rintro e w6 ⟨x6, v6, rfl, hv6, o6, b6⟩
    obtain rfl := bareN hv6 (by have := HM.out; omega)
    obtain ⟨a6, c6, rfl, _⟩ := o6.row
    have DN := hide (chain D2.out (chain b6 (new_below2 w6 (.cells #[.slice a6 (movL true k s d r [] 0 ByteArray.empty).length c6, .int .i64 0] 26))))
    clear b6 o6 hv6 HG k0 k1 k2 k3
    generalize (movL true k s d r [] 0 ByteArray.empty).length = n6 at *
    unfold sent
    go_wp2
    go_ret
    exact ⟨rfl, DN.out⟩
  · have hne : ((planErr k s d r : Int) != 0) = true := by simp; omega
    generalize planErr k s d r = PE at *
    clear hp
    go_wp2_with fail
    refine Calls.mono HG.out ?_
    rintro e w6 ⟨x6, v6, rfl, hv6, o6, b6⟩
    obtain rfl := bareN hv6 (by have := HM.out; omega)
    obtain ⟨a6, c6, rfl, _⟩ := o6.row
    have DN := hide (chain D2.out (chain b6 (new_below2 w6 (.cells #[.slice a6 (movL true k s d r [] 0 ByteArray.empty).length c6, .int .i64 0] 26))))
    clear b6 o6 hv6 HG k0 k1 k2 k3
    generalize (movL true k s d r [] 0 ByteArray.empty).length = n6 at *
    unfold sent
    go_wp2
    go_ret
    exact ⟨rfl, DN.out⟩
end Go.Proofs.YtpfmccgiijbcjaaDoorR.portQueues
