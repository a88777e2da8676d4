/-
  The machine's compute, walked.
-/
import Derived.Test.YteopkgjkbhcicaaDoorCmComp
namespace Go.Proofs.YteopkgjkbhcicaaDoor
open Go.RowKit FerryCrc FerryAlu
set_option linter.unusedVariables false
set_option linter.unusedSimpArgs false

theorem quiet_of_drewn {P : Program} {f : FuncId} {args : Array Value} {w : World} {n : Nat} {v : Value}
    (h : Calls P f args (w.drewN n) fun e w' => e = .returned v ∧ ∃ k, w' = (w.drewN n).drewN k) : Calls P f args (w.drewN n) fun e w'' => e = .returned v ∧ ∃ m, w'' = w.drewN m :=
  h.mono fun _ _ ⟨he, k, hk⟩ => ⟨he, n + k, by rw [hk, World.drewN_drewN]⟩

set_option maxRecDepth 100000 in
set_option maxHeartbeats 8000000 in
theorem compute_any {w : World} {mb base : Nat} {v : Value} {m : Mc} (h : MAt w mb base v m) (op : Int) (a b c : Nat) (imm : Int) (hb : b < 16) (hc : c < 16) (h1 : -9223372036854775808 ≤ imm) (h2 : imm ≤ 9223372036854775807) (o1 : 1 ≤ op) (o2 : op ≤ 20) (A : Addr) (hd : Dvz w A) :
    Calls Tryd.prog 34 #[.pointer (some ⟨mb, 0, none⟩), .agg #[.int .i64 op, .int .i64 (a : Int), .int .i64 (b : Int), .int .i64 (c : Int), .int .i64 imm]] w fun e w' => e = .returned (.tuple #[.int .u32 (((m.cmp (mkI op a b c imm)).getD 0 : Nat) : Int), .int .i64 (if (m.cmp (mkI op a b c imm)).isSome then 0 else 7)]) ∧ Below w.heap.size w w' := by
  have D0 : Hid (Below w.heap.size w (w.alloc (.cells #[.int .i64 op, .int .i64 (a : Int), .int .i64 (b : Int), .int .i64 (c : Int), .int .i64 imm] 71))) := (Below.refl _ _).alloc (Nat.le_refl _) _
  have hbl := bl_alloc w #[.int .i64 op, .int .i64 (a : Int), .int .i64 (b : Int), .int .i64 (c : Int), .int .i64 imm] 71
  obtain ⟨c0, c1, c2, c3, c4⟩ := bl_get hbl
  have r0 := (h.below D0.out).reg hb
  have r1 := (h.below D0.out).reg hc
  have hd0 : Hid (Dvz (w.alloc (.cells #[.int .i64 op, .int .i64 (a : Int), .int .i64 (b : Int), .int .i64 (c : Int), .int .i64 imm] 71)) A) := hd.below D0.out
  have b1 : (b : Int) < 16 := by omega
  have k1 : (c : Int) < 16 := by omega
  have HW := hide (fun w => word_any imm w h1 h2)
  have xl := reg_lt h.ok b
  have yl := reg_lt h.ok c
  have zl := un_lt imm
  have HC : Hid (m.cmp (mkI op a b c imm) = if op = 20 then some (un imm * 65536 % 4294967296) else if op = 16 then aluV 1 (m.reg b) (un imm) else if op = 17 then aluV 3 (m.reg b) (un imm) else if op = 18 then aluV 4 (m.reg b) (un imm) else if op = 19 then aluV 5 (m.reg b) (un imm) else aluV op (m.reg b) (m.reg c)) := by
    unfold Hid Mc.cmp
    simp
  clear hbl h hd
  generalize m.cmp (mkI op a b c imm) = R at *
  generalize m.reg b = x at *
  generalize m.reg c = y at *
  generalize un imm = z at *
  have HXL := hide xl
  have HYL := hide yl
  have HZL := hide zl
  go_enter Tryd.func34, Tryd.ntmps34
  go_wp2_with fail
  generalize w.alloc (.cells #[.int .i64 op, .int .i64 (a : Int), .int .i64 (b : Int), .int .i64 (c : Int), .int .i64 imm] 71) = W0 at *
  go_quiet (first | (go_at_call 32; exact Calls.quiet_of_same ((HW.out _).mono fun _ _ h => ⟨h.1, h.2.symm⟩)))
  replace D0 := hide (drewN_below D0.out nq)
  replace c0 : (W0.drewN nq).cell? ⟨w.heap.size, 0, none⟩ = some (.int .i64 op) := c0
  replace c2 : (W0.drewN nq).cell? ⟨w.heap.size, 2, none⟩ = some (.int .i64 (b : Int)) := c2
  replace c3 : (W0.drewN nq).cell? ⟨w.heap.size, 3, none⟩ = some (.int .i64 (c : Int)) := c3
  replace r0 : (W0.drewN nq).cell? ⟨mb, 1 + b, none⟩ = some (.int .u32 (x : Int)) := r0
  replace r1 : (W0.drewN nq).cell? ⟨mb, 1 + c, none⟩ = some (.int .u32 (y : Int)) := r1
  replace hd0 : Hid (Dvz (W0.drewN nq) A) := hd0
  generalize W0.drewN nq = W1 at *
  by_cases e20 : op = 20
  · subst e20
    have HR := HC.out
    rw [if_pos rfl] at HR
    subst HR
    clear HC
    go_wp2
    go_ret2
    exact ⟨rfl, D0.out⟩
  have d20 : (op == 20) = false := by simpa using e20
  by_cases e16 : op = 16
  · subst e16
    obtain ⟨u, hu⟩ : ∃ u, aluV 1 x z = some u := ⟨_, rfl⟩
    have HR := HC.out
    rw [if_neg (by decide), if_pos rfl, hu] at HR
    subst HR
    have HD := hide (fun w => do_some 1 x z u w (by decide) (by decide) HXL.out HZL.out hu)
    clear HC hu
    go_wp2_with fail
    go_quiet (first | (go_at_call 44; exact Calls.quiet_of_same ((HD.out _).mono fun _ _ h => ⟨h.1, h.2.symm⟩)))
    go_wp2
    go_ret2
    exact ⟨rfl, drewN_below D0.out _⟩
  have d16 : (op == 16) = false := by simpa using e16
  by_cases e17 : op = 17
  · subst e17
    obtain ⟨u, hu⟩ : ∃ u, aluV 3 x z = some u := ⟨_, rfl⟩
    have HR := HC.out
    rw [if_neg (by decide), if_neg (by decide), if_pos rfl, hu] at HR
    subst HR
    have HD := hide (fun w => do_some 3 x z u w (by decide) (by decide) HXL.out HZL.out hu)
    clear HC hu
    go_wp2_with fail
    go_quiet (first | (go_at_call 44; exact Calls.quiet_of_same ((HD.out _).mono fun _ _ h => ⟨h.1, h.2.symm⟩)))
    go_wp2
    go_ret2
    exact ⟨rfl, drewN_below D0.out _⟩
  have d17 : (op == 17) = false := by simpa using e17
  by_cases e18 : op = 18
  · subst e18
    obtain ⟨u, hu⟩ : ∃ u, aluV 4 x z = some u := ⟨_, rfl⟩
    have HR := HC.out
    rw [if_neg (by decide), if_neg (by decide), if_neg (by decide), if_pos rfl, hu] at HR
    subst HR
    have HD := hide (fun w => do_some 4 x z u w (by decide) (by decide) HXL.out HZL.out hu)
    clear HC hu
    go_wp2_with fail
    go_quiet (first | (go_at_call 44; exact Calls.quiet_of_same ((HD.out _).mono fun _ _ h => ⟨h.1, h.2.symm⟩)))
    go_wp2
    go_ret2
    exact ⟨rfl, drewN_below D0.out _⟩
  have d18 : (op == 18) = false := by simpa using e18
  by_cases e19 : op = 19
  · subst e19
    obtain ⟨u, hu⟩ : ∃ u, aluV 5 x z = some u := ⟨_, rfl⟩
    have HR := HC.out
    rw [if_neg (by decide), if_neg (by decide), if_neg (by decide), if_neg (by decide), if_pos rfl, hu] at HR
    subst HR
    have HD := hide (fun w => do_some 5 x z u w (by decide) (by decide) HXL.out HZL.out hu)
    clear HC hu
    go_wp2_with fail
    go_quiet (first | (go_at_call 44; exact Calls.quiet_of_same ((HD.out _).mono fun _ _ h => ⟨h.1, h.2.symm⟩)))
    go_wp2
    go_ret2
    exact ⟨rfl, drewN_below D0.out _⟩
  have d19 : (op == 19) = false := by simpa using e19
  have HR := HC.out
  rw [if_neg e20, if_neg e16, if_neg e17, if_neg e18, if_neg e19] at HR
  have o15 : op ≤ 15 := by omega
  clear HC e20 e16 e17 e18 e19
  go_wp2_with fail
  go_quiet (fail)
  replace D0 := hide (drewN_below D0.out nq)
  replace c0 : (W1.drewN nq).cell? ⟨w.heap.size, 0, none⟩ = some (.int .i64 op) := c0
  replace c2 : (W1.drewN nq).cell? ⟨w.heap.size, 2, none⟩ = some (.int .i64 (b : Int)) := c2
  replace c3 : (W1.drewN nq).cell? ⟨w.heap.size, 3, none⟩ = some (.int .i64 (c : Int)) := c3
  replace r0 : (W1.drewN nq).cell? ⟨mb, 1 + b, none⟩ = some (.int .u32 (x : Int)) := r0
  replace r1 : (W1.drewN nq).cell? ⟨mb, 1 + c, none⟩ = some (.int .u32 (y : Int)) := r1
  replace hd0 : Hid (Dvz (W1.drewN nq) A) := hd0
  generalize W1.drewN nq = W2 at *
  go_wp2_with fail
  cases hR : aluV op x y with
  | some u =>
    rw [hR] at HR
    subst HR
    have HD := hide (fun w => do_some op x y u w o1 o15 HXL.out HYL.out hR)
    clear hR
    go_quiet (first | (go_at_call 44; exact Calls.quiet_of_same ((HD.out _).mono fun _ _ h => ⟨h.1, h.2.symm⟩)))
    go_wp2
    go_ret2
    exact ⟨rfl, drewN_below D0.out _⟩
  | none =>
    obtain ⟨⟨q1, q2⟩, q3⟩ := alu_none o1 o15 hR
    rw [hR] at HR
    subst HR
    subst q3
    have HD : Hid (∀ w, Dvz w A → Calls Tryd.prog 44 #[.int .i64 op, .int .u32 (x : Int), .int .u32 ((0 : Nat) : Int)] w fun e w' => e = .returned (.tuple #[.int .u32 0, .iface 108 (.pointer (some A))]) ∧ ∃ n, w' = w.drewN n) := fun w hw => do_zero op x w A hw q1 q2
    clear hR
    go_quiet (first | (go_at_call 44; exact quiet_of_drewn (HD.out _ hd0.out)))
    go_wp2
    go_ret2
    exact ⟨rfl, drewN_below D0.out _⟩
end Go.Proofs.YteopkgjkbhcicaaDoor
