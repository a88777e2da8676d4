/-
  Reports and messages compared.
-/
import Derived.Test.YtgcodajiehfloaaDoorPlLaw
import Derived.Deep.QuietTactic
import Derived.Deep.MidRow
import Derived.BigQuiet
namespace Go.Proofs.YtgcodajiehfloaaDoor
open Go.RowKit
set_option linter.unusedVariables false
set_option linter.unusedSimpArgs false

theorem quiet_run {P : Program} {C : World → Prop} {a : Act} {o : Oper} {K : Act → Prop} (v : Value) (h : ∀ w, C w → (execOp a.eval o).run P w = .ok (.value v) w) (hk : K (a.put o.dst v)) : o.quiet P a C K :=
  ⟨v, fun w hw => by unfold Oper.quietAt; rw [h w hw]; exact ⟨rfl, rfl⟩, hk⟩
theorem quiet_load_mid {P : Program} {w0 : World} {a : Act} {o : Oper} {K : Act → Prop} (ty : TypeId) (x : Operand) (ho : o.op = .load ty x)
    (b off : Nat) (hx : a.eval x = .pointer (some ⟨b, off, none⟩)) (cs : List Value) (d : TypeDesc) (hc : w0.rangeAt b off cs)
    (hu : P.underlying ty = some d) (hd : d.isRow = true) (hi : (P.info? ty).map (·.size) = some cs.length) (hk : K (a.put o.dst (.agg cs.toArray))) : o.quiet P a (fun w' => ∃ n, w' = w0.drewN n) K := by
  refine quiet_run _ (fun w hw => ?_) hk
  obtain ⟨n, rfl⟩ := hw
  have hc' : (w0.drewN n).rangeAt b off cs := hc
  unfold execOp
  simp only [ho, hx, Instr.loadAt, Instr.sureAddr, Sem.run_bind, Sem.run_pure, Result.andThen_ok, run_loadVar_mid _ b off ty cs d hc' hu hd hi]
theorem quiet_neq {P : Program} {C : World → Prop} {a : Act} {o : Oper} {K : Act → Prop} (ty t' : TypeId) (x y : Operand) (ho : o.op = .binOp .neq ty x y t') (A B : Array Value) (hx : a.eval x = .agg A) (hy : a.eval y = .agg B)
    (hg : P.eqGuardType P.depth ty = false) (r : Bool) (hr : ∀ w, (binOp .neq ty (.agg A) (.agg B)).run P w = .ok (.bool r) w) (hk : K (a.put o.dst (.bool r))) : o.quiet P a C K := by
  refine quiet_run _ (fun w hw => ?_) hk
  unfold execOp
  simp only [ho, hx, hy, Sem.run_bind, run_eqGuard_agg _ _ _ _ _ _ _ hg, Result.andThen_ok, hr]
  rfl

set_option maxRecDepth 100000 in
set_option maxHeartbeats 4000000 in
theorem sameReports_yes {w : World} (a a' : Option Addr) (len c c' : Nat) (R : List Int) (hs : Rcs repc 4 w a len c R) (hs' : Rcs repc 4 w a' len c' R) (hm : len ≤ 1048576) :
    Calls Tryd.prog 11 #[.slice a len c, .slice a' len c'] w fun e w' => e = .returned (.bool true) ∧ Below w.heap.size w w' := by
  have HS := hide hs
  have HS' := hide hs'
  have hl := hs.size
  clear hs hs'
  go_enter Tryd.func11, Tryd.ntmps11
  go_wp2
  go_loopw [5] (fun i wr => ∃ k : Nat, k ≤ len ∧ i = .int .i64 (k : Int) ∧ Hid (Below w.heap.size w wr)) (fun i _ => len - (intOf i).toNat)
  case atStart => exact ⟨0, by omega, rfl, Below.refl _ _⟩
  case round =>
    obtain ⟨k, hk, rfl, hb⟩ := hrel
    by_cases hlt : k < len
    · obtain ⟨x, hx⟩ : ∃ x, R[k]? = some x := ⟨_, List.getElem?_eq_getElem (by rw [hl]; exact hlt)⟩
      obtain ⟨b, off, rfl, hr⟩ := (HS.out.below hb.out).at repc4 (by decide) hx
      obtain ⟨b', off', rfl, hr'⟩ := (HS'.out.below hb.out).at repc4 (by decide) hx
      have r0 := hr 0 _ rfl
      have r1 := hr 1 _ rfl
      have r2 := hr 2 _ rfl
      have r3 := hr 3 _ rfl
      have s0 := hr' 0 _ rfl
      have s1 := hr' 1 _ rfl
      have s2 := hr' 2 _ rfl
      have s3 := hr' 3 _ rfl
      simp only [Nat.add_zero] at r0 s0
      have hne := neq_rep 3 (-1) (x % 4294967296) 0
      clear hr hr' hx
      generalize x % 4294967296 = X at *
      go_wp2_with fail
      refine wp_region_quiet_lit (by kernel_rfl) (by kernel_rfl) ?_
      repeat (first
        | (go_big_quiet_want; refine quiet_neq 65 65 (.tmp 20) (.tmp 24) rfl _ _ rfl rfl (by kernel_rfl) _ hne ?_; simp only [Act.put, List.setIfInBounds_toArray, List.set_cons_succ, List.set_cons_zero]; go_big_quiet_on)
        | go_big_quiet_step (fail))
      refine wpQuiet_nil ?_
      intro _ hw'
      obtain ⟨nq, rfl⟩ := hw'
      go_wp2
      go_roundw
      case rel => exact ⟨k + 1, by omega, by go_num, drewN_below hb.out nq⟩
      case measure => simp [intOf]; omega
    · obtain rfl : k = len := by omega
      go_wp2
      go_ret
      exact ⟨rfl, hb.out⟩
set_option maxRecDepth 100000 in
set_option maxHeartbeats 4000000 in
theorem sameMsgs_yes {w : World} (a a' : Option Addr) (len c c' : Nat) (R : List Mgv) (hs : Rcs Mgv.cells 2 w a len c R) (hs' : Rcs Mgv.cells 2 w a' len c' R) (hm : len ≤ 16777216) :
    Calls Tryd.prog 14 #[.slice a len c, .slice a' len c'] w fun e w' => e = .returned (.bool true) ∧ Below w.heap.size w w' := by
  have HS := hide hs
  have HS' := hide hs'
  have hl := hs.size
  clear hs hs'
  go_enter Tryd.func14, Tryd.ntmps14
  go_wp2
  go_loopw [5] (fun i wr => ∃ k : Nat, k ≤ len ∧ i = .int .i64 (k : Int) ∧ Hid (Below w.heap.size w wr)) (fun i _ => len - (intOf i).toNat)
  case atStart => exact ⟨0, by omega, rfl, Below.refl _ _⟩
  case round =>
    obtain ⟨k, hk, rfl, hb⟩ := hrel
    by_cases hlt : k < len
    · obtain ⟨x, hx⟩ : ∃ x, R[k]? = some x := ⟨_, List.getElem?_eq_getElem (by rw [hl]; exact hlt)⟩
      obtain ⟨b, off, rfl, hr⟩ := (HS.out.below hb.out).at mgv2 (by decide) hx
      obtain ⟨b', off', rfl, hr'⟩ := (HS'.out.below hb.out).at mgv2 (by decide) hx
      have r0 := hr 0 _ rfl
      have r1 := hr 1 _ rfl
      have s0 := hr' 0 _ rfl
      have s1 := hr' 1 _ rfl
      simp only [Nat.add_zero] at r0 s0
      have hne := neq_msg x.port x.data
      clear hr hr' hx
      generalize x.port = X at *
      generalize x.data = Y at *
      go_wp2_with fail
      refine wp_region_quiet_lit (by kernel_rfl) (by kernel_rfl) ?_
      repeat (first
        | (go_big_quiet_want; refine quiet_neq 53 53 (.tmp 20) (.tmp 24) rfl _ _ rfl rfl (by kernel_rfl) _ hne ?_; simp only [Act.put, List.setIfInBounds_toArray, List.set_cons_succ, List.set_cons_zero]; go_big_quiet_on)
        | go_big_quiet_step (fail))
      refine wpQuiet_nil ?_
      intro _ hw'
      obtain ⟨nq, rfl⟩ := hw'
      go_wp2
      go_roundw
      case rel => exact ⟨k + 1, by omega, by go_num, drewN_below hb.out nq⟩
      case measure => simp [intOf]; omega
    · obtain rfl : k = len := by omega
      go_wp2
      go_ret
      exact ⟨rfl, hb.out⟩
end Go.Proofs.YtgcodajiehfloaaDoor
