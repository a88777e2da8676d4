/-
  The document's Trim and Flip.
-/
import Derived.Test.YtgnkmenjjmfcfaaDoorLkRH
import Derived.Test.YtgnkmenjjmfcfaaDoorRefTurnR
namespace Go.Proofs.YtgnkmenjjmfcfaaDoor
open Go.RowKit FerryCrc Q
set_option linter.unusedVariables false
set_option linter.unusedSimpArgs false
set_option maxRecDepth 100000 in
set_option maxHeartbeats 2000000 in
theorem rtrim_any {base rb : Nat} {va : Option Addr} {vc : Nat} {D : List Md} {L : Lk} (N : Int) (hN1 : -9223372036854775808 ≤ N) (hN2 : N ≤ 9223372036854775807) (cut : Int) (hc1 : -9223372036854775808 ≤ cut) (ok : ∀ k x, L.M k = some x → 1 ≤ k ∧ k ≤ (L.n : Int)) (hS : Sm L D) (hn : L.n ≤ 2199023255552) {w : World} (h : RAt w base rb va vc D) :
    Calls Tryd.prog 29 #[.pointer (some ⟨rb, 0, none⟩), .int .i64 N, .int .i64 cut] w fun e w' => e = .returned (.int .i64 (rE L N cut : Nat)) ∧ ∃ D', Sm (rL L N cut) D' ∧ RPost w w' base rb va D' := by
  have HF := hide (rfind_any N hN1 hN2 ok hS (by omega) h)
  have HH := hide h
  have hl := hS.len
  clear hN1 hN2 h
  by_cases hE : fE L N = 0
  · obtain ⟨k, rfl, hk1, f, t, s, sp, hd, hfv, -, hsz⟩ := sm_there hS ok hE
    have HI : Hid (fI L ((k : Int) + 1) = (k : Int)) := by unfold Hid fI; rw [if_pos hE]; omega
    rw [HI.out] at HF
    have hD : D.length ≤ 2199023255552 := by omega
    obtain ⟨g, rfl, -⟩ := mget HH.out.own hd
    have HDK := hide hd
    have hkD : k < D.length := by omega
    have f3 : (k : Int) < (D.length : Int) := by omega
    have f4 : ¬ (k : Int) < 0 := by omega
    clear hd HI
    by_cases hb : sp = true ∨ cut < 1
    · have hr : rE L ((k : Int) + 1) cut = 12 := by unfold rE; rw [if_pos hE, hfv, if_pos hb]
      have HSM : Hid (Sm (rL L ((k : Int) + 1) cut) D) := by unfold Hid rL; rw [if_neg (by rw [hr]; decide)]; exact hS
      rw [hr]
      clear hE hfv hS ok hl hsz hr
      go_enter Tryd.func29, Tryd.ntmps29
      go_wp2_with fail
      refine Calls.mono HF.out ?_
      rintro e w1 ⟨rfl, b⟩
      have HD := hide b
      clear b HF
      have r0 := (HH.out.below HD.out).bk.cell 0 rfl
      obtain ⟨g1, eg, d0, d1, d2, d3, d4⟩ := mget ((HH.out.below HD.out).own) HDK.out
      simp only [Option.some.injEq, Addr.mk.injEq, and_true] at eg
      subst eg
      rcases hb with rfl | hb
      · go_wp2
        go_ret
        exact ⟨rfl, _, HSM.out, HH.out.post HD.out⟩
      · cases sp with
        | true =>
          go_wp2
          go_ret
          exact ⟨rfl, _, HSM.out, HH.out.post HD.out⟩
        | false =>
          go_wp2
          go_ret
          exact ⟨rfl, _, HSM.out, HH.out.post HD.out⟩
    · have hr : rE L ((k : Int) + 1) cut = 0 := by unfold rE; rw [if_pos hE, hfv, if_neg hb]
      obtain ⟨m, hm⟩ : ∃ m : Nat, (s.size : Int) - min cut (s.size : Int) = (m : Int) := ⟨((s.size : Int) - min cut (s.size : Int)).toNat, by omega⟩
      have hsp : sp = false := by cases sp with
        | false => rfl
        | true => exact absurd (.inl rfl) hb
      subst hsp
      have hc : ¬ cut < 1 := fun x => hb (.inr x)
      have hms : (s.extract 0 m).size ≤ 4096 := by rw [ByteArray.size_extract]; omega
      have HSM : Hid (Sm (rL L ((k : Int) + 1) cut) (D.set k ⟨f, t, s.extract 0 m, true, false⟩)) := by
        unfold Hid rL
        rw [if_pos hr, hfv]
        have e1 : lft ⟨f, t, s, false⟩ cut = m := by unfold lft; dsimp only; rw [hm]; omega
        rw [e1]
        exact sm_set hS k f t _ true hms
      rw [hr]
      have g1 : (m : Int) ≤ (s.size : Int) := by omega
      have g2 : (s.size : Int) ≤ 4096 := by omega
      have g3 : min cut (s.size : Int) ≤ 4096 := by omega
      have g4 : 1 ≤ min cut (s.size : Int) ∨ min cut (s.size : Int) = 0 := by omega
      have g5 : wrap64 ((s.size : Int) - min cut (s.size : Int)) = (m : Int) := by unfold wrap64; omega
      have g7 : IntKind.i64.wrap (m : Int) = (m : Int) := by rw [IntKind.wrap_i64]; omega
      have g6 : IntKind.i64.wrap ((s.size : Int) - min cut (s.size : Int)) = (m : Int) := by rw [IntKind.wrap_i64]; omega
      clear hE hfv hS ok hl hsz hr hb hms g4
      go_enter Tryd.func29, Tryd.ntmps29
      go_wp2_with fail
      refine Calls.mono HF.out ?_
      rintro e w1 ⟨rfl, b⟩
      have HD := hide b
      clear b HF
      have r0 := (HH.out.below HD.out).bk.cell 0 rfl
      obtain ⟨g1, eg, d0, d1, d2, d3, d4⟩ := mget ((HH.out.below HD.out).own) HDK.out
      simp only [Option.some.injEq, Addr.mk.injEq, and_true] at eg
      subst eg
      go_upto_region 7 with fail
      have HRW := hide (HH.out.below HD.out)
      have HFW : Hid (Frm (RW rb (some ⟨g, 0, none⟩)) w w1) := Frm.ofBelow HD.out
      clear r0 d0 d1 d2 d3 d4
      refine wp_region_held_drew (S := fun _ => True) (by kernel_rfl) trivial (fun hHeld => ?_)
      obtain ⟨wd, hwd⟩ : ∃ z, z = w1.drew := ⟨_, rfl⟩
      have HRd : Hid (RAt wd base rb (some ⟨g, 0, none⟩) vc D) := by rw [hwd]; exact HRW.out.below (Below.refl _ _).drew
      have HFd : Hid (Frm (RW rb (some ⟨g, 0, none⟩)) w wd) := by rw [hwd]; exact HFW.out.drew
      rw [← hwd] at ⊢
      clear hwd
      have r0 := HRd.out.bk.cell 0 rfl
      obtain ⟨-, HR3, ⟨x, y0⟩, p0, HFm⟩ := rpost_set (w := w) (j := 2) (u := .string (s.extract 0 m)) (y := ⟨f, t, (s.extract 0 m), false, false⟩) HRd.out rfl HFd.out hkD ⟨_, HDK.out, rfl⟩ (by decide)
      replace HR3 := hide HR3
      replace HFm := hide HFm
      refine wpAnyH_take (i := 0) (oi := { dst := some 35, op := Go.Op.move (Go.Operand.tmp 0), type := 33, pos := "ref.go:85", after := #[], guard := none }) (v := ?_) rfl (by kernel_rfl) (by kernel_rfl) (by kernel_rfl) (fun _ _ _ h => h) (Or.inl ⟨by rfl, ?_⟩) (by exact trivial) ?_
      rotate_left
      · intro w hSw
        go_simp
        try with_reducible rfl
      try simp only [Act.put, List.setIfInBounds_toArray, List.set_cons_zero, List.set_cons_succ]
      refine wpAnyH_take (i := 1) (oi := { dst := some 36, op := Go.Op.nilCheck (Go.Operand.tmp 35), type := 0, pos := "ref.go:85", after := #[{ on := 0, ground := Go.Ground.data }], guard := none }) (v := ?_) rfl (by kernel_rfl) (by kernel_rfl) (by kernel_rfl) (fun _ _ _ h => h) (Or.inl ⟨by rfl, ?_⟩) (by exact trivial) ?_
      rotate_left
      · intro w hSw
        go_simp
        try with_reducible rfl
      try simp only [Act.put, List.setIfInBounds_toArray, List.set_cons_zero, List.set_cons_succ]
      refine wpAnyH_take (i := 2) (oi := { dst := some 37, op := Go.Op.fieldAddr 28 (Go.Operand.tmp 36) 0, type := 0, pos := "ref.go:85", after := #[{ on := 1, ground := Go.Ground.data }], guard := none }) (v := ?_) rfl (by kernel_rfl) (by kernel_rfl) (by kernel_rfl) (fun _ _ _ h => h) (Or.inl ⟨by rfl, ?_⟩) (by exact trivial) ?_
      rotate_left
      · intro w hSw
        go_simp
        try with_reducible rfl
      try simp only [Act.put, List.setIfInBounds_toArray, List.set_cons_zero, List.set_cons_succ]
      refine wpAnyH_take (i := 4) (oi := { dst := some 39, op := Go.Op.move (Go.Operand.tmp 7), type := 3, pos := "ref.go:85", after := #[], guard := none }) (v := ?_) rfl (by kernel_rfl) (by kernel_rfl) (by kernel_rfl) (fun _ _ _ h => h) (Or.inl ⟨by rfl, ?_⟩) (by exact trivial) ?_
      rotate_left
      · intro w hSw
        go_simp
        try with_reducible rfl
      try simp only [Act.put, List.setIfInBounds_toArray, List.set_cons_zero, List.set_cons_succ]
      refine wpAnyH_take (i := 5) (oi := { dst := some 40, op := Go.Op.move (Go.Operand.tmp 8), type := 9, pos := "ref.go:85", after := #[], guard := none }) (v := ?_) rfl (by kernel_rfl) (by kernel_rfl) (by kernel_rfl) (fun _ _ _ h => h) (Or.inl ⟨by rfl, ?_⟩) (by exact trivial) ?_
      rotate_left
      · intro w hSw
        go_simp
        try with_reducible rfl
      try simp only [Act.put, List.setIfInBounds_toArray, List.set_cons_zero, List.set_cons_succ]
      refine wpAnyH_take (i := 6) (oi := { dst := some 41, op := Go.Op.move (Go.Operand.tmp 8), type := 9, pos := "ref.go:85", after := #[], guard := none }) (v := ?_) rfl (by kernel_rfl) (by kernel_rfl) (by kernel_rfl) (fun _ _ _ h => h) (Or.inl ⟨by rfl, ?_⟩) (by exact trivial) ?_
      rotate_left
      · intro w hSw
        go_simp
        try with_reducible rfl
      try simp only [Act.put, List.setIfInBounds_toArray, List.set_cons_zero, List.set_cons_succ]
      refine wpAnyH_take (i := 7) (oi := { dst := some 42, op := Go.Op.call { callee := Go.Callee.builtin Go.Builtin.len, args := #[Go.Operand.tmp 41], argTypes := #[9] }, type := 3, pos := "ref.go:85", after := #[{ on := 6, ground := Go.Ground.data }], guard := none }) (v := ?_) rfl (by kernel_rfl) (by kernel_rfl) (by kernel_rfl) (fun _ _ _ h => h) (Or.inl ⟨by rfl, ?_⟩) (by exact trivial) ?_
      rotate_left
      · intro w hSw
        go_simp
        try with_reducible rfl
      try simp only [Act.put, List.setIfInBounds_toArray, List.set_cons_zero, List.set_cons_succ]
      refine wpAnyH_take (i := 8) (oi := { dst := some 43, op := Go.Op.move (Go.Operand.tmp 2), type := 3, pos := "ref.go:85", after := #[], guard := none }) (v := ?_) rfl (by kernel_rfl) (by kernel_rfl) (by kernel_rfl) (fun _ _ _ h => h) (Or.inl ⟨by rfl, ?_⟩) (by exact trivial) ?_
      rotate_left
      · intro w hSw
        go_simp
        try with_reducible rfl
      try simp only [Act.put, List.setIfInBounds_toArray, List.set_cons_zero, List.set_cons_succ]
      refine wpAnyH_take (i := 9) (oi := { dst := some 44, op := Go.Op.move (Go.Operand.tmp 8), type := 9, pos := "ref.go:85", after := #[], guard := none }) (v := ?_) rfl (by kernel_rfl) (by kernel_rfl) (by kernel_rfl) (fun _ _ _ h => h) (Or.inl ⟨by rfl, ?_⟩) (by exact trivial) ?_
      rotate_left
      · intro w hSw
        go_simp
        try with_reducible rfl
      try simp only [Act.put, List.setIfInBounds_toArray, List.set_cons_zero, List.set_cons_succ]
      refine wpAnyH_take (i := 10) (oi := { dst := some 45, op := Go.Op.call { callee := Go.Callee.builtin Go.Builtin.len, args := #[Go.Operand.tmp 44], argTypes := #[9] }, type := 3, pos := "ref.go:85", after := #[{ on := 9, ground := Go.Ground.data }], guard := none }) (v := ?_) rfl (by kernel_rfl) (by kernel_rfl) (by kernel_rfl) (fun _ _ _ h => h) (Or.inl ⟨by rfl, ?_⟩) (by exact trivial) ?_
      rotate_left
      · intro w hSw
        go_simp
        try with_reducible rfl
      try simp only [Act.put, List.setIfInBounds_toArray, List.set_cons_zero, List.set_cons_succ]
      refine wpAnyH_take (i := 11) (oi := { dst := some 46, op := Go.Op.call { callee := Go.Callee.builtin Go.Builtin.min, args := #[Go.Operand.tmp 43, Go.Operand.tmp 45], argTypes := #[3, 3] }, type := 3, pos := "ref.go:85", after := #[{ on := 8, ground := Go.Ground.data }, { on := 10, ground := Go.Ground.data }], guard := none }) (v := ?_) rfl (by kernel_rfl) (by kernel_rfl) (by kernel_rfl) (fun _ _ _ h => h) (Or.inl ⟨by rfl, ?_⟩) (by exact trivial) ?_
      rotate_left
      · intro w hSw
        go_simp
        try with_reducible rfl
      try simp only [Act.put, List.setIfInBounds_toArray, List.set_cons_zero, List.set_cons_succ]
      refine wpAnyH_take (i := 12) (oi := { dst := some 47, op := Go.Op.binOp Go.BinOp.sub 3 (Go.Operand.tmp 42) (Go.Operand.tmp 46) 3, type := 3, pos := "ref.go:85", after := #[{ on := 7, ground := Go.Ground.data }, { on := 11, ground := Go.Ground.data }], guard := none }) (v := ?_) rfl (by kernel_rfl) (by kernel_rfl) (by kernel_rfl) (fun _ _ _ h => h) (Or.inl ⟨by rfl, ?_⟩) (by exact trivial) ?_
      rotate_left
      · intro w hSw
        go_simp
        try with_reducible rfl
      try simp only [Act.put, List.setIfInBounds_toArray, List.set_cons_zero, List.set_cons_succ]
      refine wpAnyH_take (i := 13) (oi := { dst := some 48, op := Go.Op.slice 9 (Go.Operand.tmp 40) none (some (Go.Operand.tmp 47)) none, type := 9, pos := "ref.go:85", after := #[{ on := 5, ground := Go.Ground.data }, { on := 12, ground := Go.Ground.data }], guard := none }) (v := ?_) rfl (by kernel_rfl) (by kernel_rfl) (by kernel_rfl) (fun _ _ _ h => h) (Or.inl ⟨by rfl, ?_⟩) (by exact trivial) ?_
      rotate_left
      · intro w hSw
        go_simp
        try with_reducible rfl
      try simp only [Act.put, List.setIfInBounds_toArray, List.set_cons_zero, List.set_cons_succ]
      refine wpAnyH_ready (rs := [3]) (by kernel_rfl) (by simp) ?_
      refine AllReadyH.cons (o := { dst := some 38, op := Go.Op.load 26 (Go.Operand.tmp 37), type := 26, pos := "ref.go:85", after := #[{ on := 2, ground := Go.Ground.data }], guard := none }) rfl (fun K hK => ?_) AllReadyH.nil
      go_simp
      refine hK.out _ _ trivial (fun hHeld2 => ?_)
      clear hK K
      try simp only [Act.put, List.setIfInBounds_toArray, List.set_cons_zero, List.set_cons_succ]
      refine wpAnyH_take (i := 14) (oi := { dst := some 49, op := Go.Op.indexAddr 26 (Go.Operand.tmp 38) (Go.Operand.tmp 39), type := 0, pos := "ref.go:85", after := #[{ on := 3, ground := Go.Ground.data }, { on := 4, ground := Go.Ground.data }, { on := 0, ground := Go.Ground.phase }, { on := 1, ground := Go.Ground.phase }, { on := 2, ground := Go.Ground.phase }, { on := 3, ground := Go.Ground.phase }, { on := 4, ground := Go.Ground.phase }, { on := 5, ground := Go.Ground.phase }, { on := 6, ground := Go.Ground.phase }, { on := 7, ground := Go.Ground.phase }, { on := 8, ground := Go.Ground.phase }, { on := 9, ground := Go.Ground.phase }, { on := 10, ground := Go.Ground.phase }, { on := 11, ground := Go.Ground.phase }, { on := 12, ground := Go.Ground.phase }, { on := 13, ground := Go.Ground.phase }], guard := none }) (v := ?_) rfl (by kernel_rfl) (by kernel_rfl) (by kernel_rfl) (fun _ _ _ h => h) (Or.inl ⟨by rfl, ?_⟩) (by exact trivial) ?_
      rotate_left
      · intro w hSw
        go_simp
        try with_reducible rfl
      try simp only [Act.put, List.setIfInBounds_toArray, List.set_cons_zero, List.set_cons_succ]
      refine wpAnyH_take (i := 15) (oi := { dst := some 50, op := Go.Op.fieldAddr 83 (Go.Operand.tmp 49) 0, type := 0, pos := "ref.go:85", after := #[{ on := 14, ground := Go.Ground.data }, { on := 0, ground := Go.Ground.phase }, { on := 1, ground := Go.Ground.phase }, { on := 2, ground := Go.Ground.phase }, { on := 3, ground := Go.Ground.phase }, { on := 4, ground := Go.Ground.phase }, { on := 5, ground := Go.Ground.phase }, { on := 6, ground := Go.Ground.phase }, { on := 7, ground := Go.Ground.phase }, { on := 8, ground := Go.Ground.phase }, { on := 9, ground := Go.Ground.phase }, { on := 10, ground := Go.Ground.phase }, { on := 11, ground := Go.Ground.phase }, { on := 12, ground := Go.Ground.phase }, { on := 13, ground := Go.Ground.phase }], guard := none }) (v := ?_) rfl (by kernel_rfl) (by kernel_rfl) (by kernel_rfl) (fun _ _ _ h => h) (Or.inl ⟨by rfl, ?_⟩) (by exact trivial) ?_
      rotate_left
      · intro w hSw
        go_simp
        try with_reducible rfl
      try simp only [Act.put, List.setIfInBounds_toArray, List.set_cons_zero, List.set_cons_succ]
      refine wpAnyH_take (i := 16) (oi := { dst := some 51, op := Go.Op.fieldAddr 41 (Go.Operand.tmp 50) 2, type := 0, pos := "ref.go:85", after := #[{ on := 15, ground := Go.Ground.data }, { on := 0, ground := Go.Ground.phase }, { on := 1, ground := Go.Ground.phase }, { on := 2, ground := Go.Ground.phase }, { on := 3, ground := Go.Ground.phase }, { on := 4, ground := Go.Ground.phase }, { on := 5, ground := Go.Ground.phase }, { on := 6, ground := Go.Ground.phase }, { on := 7, ground := Go.Ground.phase }, { on := 8, ground := Go.Ground.phase }, { on := 9, ground := Go.Ground.phase }, { on := 10, ground := Go.Ground.phase }, { on := 11, ground := Go.Ground.phase }, { on := 12, ground := Go.Ground.phase }, { on := 13, ground := Go.Ground.phase }], guard := none }) (v := ?_) rfl (by kernel_rfl) (by kernel_rfl) (by kernel_rfl) (fun _ _ _ h => h) (Or.inl ⟨by rfl, ?_⟩) (by exact trivial) ?_
      rotate_left
      · intro w hSw
        go_simp
        try with_reducible rfl
      try simp only [Act.put, List.setIfInBounds_toArray, List.set_cons_zero, List.set_cons_succ]
      refine wpAnyH_ready (rs := [17]) (by kernel_rfl) (by simp) ?_
      refine AllReadyH.cons (o := { dst := none, op := Go.Op.store 9 (Go.Operand.tmp 51) (Go.Operand.tmp 48), type := 0, pos := "ref.go:85", after := #[{ on := 16, ground := Go.Ground.data }, { on := 13, ground := Go.Ground.data }, { on := 0, ground := Go.Ground.phase }, { on := 1, ground := Go.Ground.phase }, { on := 2, ground := Go.Ground.phase }, { on := 3, ground := Go.Ground.phase }, { on := 4, ground := Go.Ground.phase }, { on := 5, ground := Go.Ground.phase }, { on := 6, ground := Go.Ground.phase }, { on := 7, ground := Go.Ground.phase }, { on := 8, ground := Go.Ground.phase }, { on := 9, ground := Go.Ground.phase }, { on := 10, ground := Go.Ground.phase }, { on := 11, ground := Go.Ground.phase }, { on := 12, ground := Go.Ground.phase }, { on := 13, ground := Go.Ground.phase }], guard := none }) rfl (fun K hK => ?_) AllReadyH.nil
      go_simp
      refine hK.out _ _ trivial (fun hHeld2 => ?_)
      clear hK K
      try simp only [Act.put, List.setIfInBounds_toArray, List.set_cons_zero, List.set_cons_succ]
      refine wpAnyH_done (by kernel_rfl) ?_ _
      obtain ⟨w6, hw6⟩ : ∃ z, wd.setCell ⟨g, k * 5 + 2, none⟩ (.string (s.extract 0 m)) = z := ⟨_, rfl⟩
      rw [hw6] at HR3 HFm
      simp only [hw6]
      clear hw6 y0 p0 r0 HRd HFd
      have hk6 : k < (D.set k ⟨f, t, (s.extract 0 m), false, false⟩).length := by rw [List.length_set]; exact hkD
      have h6 : (D.set k ⟨f, t, (s.extract 0 m), false, false⟩)[k]? = some ⟨f, t, (s.extract 0 m), false, false⟩ := List.getElem?_set_self hkD
      obtain ⟨HP, -, ⟨x', y0⟩, p0, -⟩ := rpost_set (w := w) (j := 3) (u := .bool true) (y := ⟨f, t, (s.extract 0 m), true, false⟩) HR3.out rfl HFm.out hk6 ⟨_, h6, rfl⟩ (by decide)
      rw [List.set_set] at HP
      have HPP := hide HP
      have r0 := HR3.out.bk.cell 0 rfl
      rw [List.length_set] at r0
      clear HP h6 hk6
      go_wp2
      go_ret
      exact ⟨rfl, _, HSM.out, HPP.out⟩
  · obtain ⟨-, h17, hz⟩ := sm_not hS hE
    have HI : Hid (fI L N = -1) := by unfold Hid fI; rw [if_neg hE]
    rw [HI.out] at HF
    have hr : rE L N cut = 17 := by unfold rE; rw [if_neg hE]
    have HSM : Hid (Sm (rL L N cut) D) := by unfold Hid rL; rw [if_neg (by rw [hr]; decide)]; exact hS
    rw [hr]
    clear hE hz h17 hS ok hl HI hr
    go_enter Tryd.func29, Tryd.ntmps29
    go_wp2_with fail
    refine Calls.mono HF.out ?_
    rintro e w1 ⟨rfl, b⟩
    have HD := hide b
    clear b HF
    go_wp2
    go_ret
    exact ⟨rfl, _, HSM.out, HH.out.post HD.out⟩
set_option maxRecDepth 100000 in
set_option maxHeartbeats 2000000 in
theorem rturn_bad (a : Option Addr) (n c : Nat) (l : List Nat) (pos : Int) (mask : Nat) (w : World) (hs : Bts w a n c l) (hm : mask < 4294967296) (hbad : ¬ (mask ≠ 0 ∧ 0 ≤ pos ∧ pos + (lenOf mask : Int) ≤ 8 * (n : Int))) :
    Calls Tryd.prog 41 #[.slice a n c, .int .i64 pos, .int .u32 (mask : Int)] w fun e w' => e = .returned (.tuple #[.slice none 0 0, .int .i64 12]) ∧ Below w.heap.size w w' := by
  by_cases h : mask = 0 ∨ pos < 0 ∨ 8 * (n : Int) < pos
  · refine (refTurn_low a n c l pos mask w hs h).mono ?_
    rintro e w' ⟨rfl, rfl⟩
    exact ⟨rfl, Below.refl _ _⟩
  · obtain ⟨p, rfl⟩ : ∃ p : Nat, pos = (p : Int) := ⟨pos.toNat, by omega⟩
    refine (refTurn_any a n c l p mask w hs (by omega) hm (by omega)).mono ?_
    rintro e w' ⟨b, ⟨hf, -⟩ | ⟨-, rfl⟩⟩
    · have h1 := (fits_iff (len := n) (pos := p) (show mask ≠ 0 by omega) hm).1 hf
      exact absurd ⟨by omega, by omega, by omega⟩ hbad
    · exact ⟨rfl, b⟩
theorem rturn_ok (a : Option Addr) (n c : Nat) (l : List Nat) (p mask : Nat) (w : World) (hs : Bts w a n c l) (h0 : mask ≠ 0) (hm : mask < 4294967296) (hfit : p + lenOf mask ≤ 8 * n) :
    Calls Tryd.prog 41 #[.slice a n c, .int .i64 (p : Int), .int .u32 (mask : Int)] w fun e w' => ∃ g c', e = .returned (.tuple #[.slice (some ⟨g, 0, none⟩) n c', .int .i64 0]) ∧ Own w' w.heap.size (.slice (some ⟨g, 0, none⟩) n c') (turnTo l p mask 32) ∧ Below w.heap.size w w' := by
  refine (refTurn_any a n c l p mask w hs h0 hm (by omega)).mono ?_
  rintro e w' ⟨b, ⟨-, g, c', rfl, o⟩ | ⟨hf, -⟩⟩
  · exact ⟨g, c', rfl, o, b⟩
  · exact absurd ((fits_iff h0 hm).2 hfit) hf
set_option maxRecDepth 100000 in
set_option maxHeartbeats 2000000 in
theorem rflip_any {base rb : Nat} {va : Option Addr} {vc : Nat} {D : List Md} {L : Lk} (N : Int) (hN1 : -9223372036854775808 ≤ N) (hN2 : N ≤ 9223372036854775807) (pos : Int) (mask : Nat) (hmk : mask < 4294967296) (ok : ∀ k x, L.M k = some x → 1 ≤ k ∧ k ≤ (L.n : Int)) (hS : Sm L D) (hn : L.n ≤ 2199023255552) {w : World} (h : RAt w base rb va vc D) :
    Calls Tryd.prog 30 #[.pointer (some ⟨rb, 0, none⟩), .int .i64 N, .int .i64 pos, .int .u32 (mask : Int)] w fun e w' => e = .returned (.int .i64 (pE L N pos mask : Nat)) ∧ ∃ D', Sm (pL L N pos mask) D' ∧ RPost w w' base rb va D' := by
  have HF := hide (rfind_any N hN1 hN2 ok hS (by omega) h)
  have HH := hide h
  have hl := hS.len
  clear hN1 hN2 h
  by_cases hE : fE L N = 0
  · obtain ⟨k, rfl, hk1, f, t, s, sp, hd, hfv, -, hsz⟩ := sm_there hS ok hE
    have HI : Hid (fI L ((k : Int) + 1) = (k : Int)) := by unfold Hid fI; rw [if_pos hE]; omega
    rw [HI.out] at HF
    have hD : D.length ≤ 2199023255552 := by omega
    obtain ⟨g, rfl, -⟩ := mget HH.out.own hd
    have HDK := hide hd
    have hkD : k < D.length := by omega
    have f3 : (k : Int) < (D.length : Int) := by omega
    have f4 : ¬ (k : Int) < 0 := by omega
    clear hd HI
    cases sp with
    | true =>
      have hr : pE L ((k : Int) + 1) pos mask = 12 := by unfold pE; rw [if_pos hE, hfv, if_pos (.inl rfl)]
      have HSM : Hid (Sm (pL L ((k : Int) + 1) pos mask) D) := by unfold Hid pL; rw [if_neg (by rw [hr]; decide)]; exact hS
      rw [hr]
      clear hE hfv hS ok hl hsz hr
      go_enter Tryd.func30, Tryd.ntmps30
      go_wp2_with fail
      refine Calls.mono HF.out ?_
      rintro e w1 ⟨rfl, b⟩
      have HD := hide b
      clear b HF
      have r0 := (HH.out.below HD.out).bk.cell 0 rfl
      obtain ⟨g1, eg, d0, d1, d2, d3, d4⟩ := mget ((HH.out.below HD.out).own) HDK.out
      simp only [Option.some.injEq, Addr.mk.injEq, and_true] at eg
      subst eg
      go_wp2
      go_ret
      exact ⟨rfl, _, HSM.out, HH.out.post HD.out⟩
    | false =>
      obtain ⟨n, hns⟩ : ∃ n : Nat, s.size = n := ⟨_, rfl⟩
      have hn4 : n ≤ 4096 := by omega
      have HSN := hide hns
      cases hok : flOk ⟨f, t, s, false⟩ pos mask with
      | false =>
        have hr : pE L ((k : Int) + 1) pos mask = 12 := by unfold pE; rw [if_pos hE, hfv]; exact if_pos (.inr hok)
        have HSM : Hid (Sm (pL L ((k : Int) + 1) pos mask) D) := by unfold Hid pL; rw [if_neg (by rw [hr]; decide)]; exact hS
        rw [hr]
        have hbad : ¬ (mask ≠ 0 ∧ 0 ≤ pos ∧ pos + (lenOf mask : Int) ≤ 8 * (n : Int)) := by
          have h5 := of_decide_eq_false hok
          simp only [hns] at h5
          exact h5
        have HBAD := hide hbad
        clear hE hfv hS ok hl hsz hr hok hbad hns
        go_enter Tryd.func30, Tryd.ntmps30
        go_wp2_with fail
        refine Calls.mono HF.out ?_
        rintro e w1 ⟨rfl, b⟩
        have HD := hide b
        clear b HF
        have r0 := (HH.out.below HD.out).bk.cell 0 rfl
        obtain ⟨g1, eg, d0, d1, d2, d3, d4⟩ := mget ((HH.out.below HD.out).own) HDK.out
        simp only [Option.some.injEq, Addr.mk.injEq, and_true] at eg
        subst eg
        obtain ⟨cc, W3, hrun, hs3, d3⟩ := conv_lay w1 s n HSN.out (by omega)
        have HS3 := hide hs3
        have HD3 := hide (chain HD.out d3)
        clear hs3 d3
        go_wp2_with fail
        refine Calls.mono (rturn_bad _ n cc (bytesOf s) pos mask W3 HS3.out hmk HBAD.out) ?_
        rintro e w4 ⟨rfl, b4⟩
        have HD4 := hide (chain HD3.out b4)
        clear b4 hrun r0 d0 d1 d2 d3 d4
        go_wp2
        go_ret
        exact ⟨rfl, _, HSM.out, HH.out.post HD4.out⟩
      | true =>
        have hr : pE L ((k : Int) + 1) pos mask = 0 := by unfold pE; rw [if_pos hE, hfv]; exact if_neg (fun h => by rcases h with h | h; cases h; rw [hok] at h; cases h)
        obtain ⟨p, rfl⟩ : ∃ p : Nat, pos = (p : Int) := ⟨pos.toNat, by have h5 := of_decide_eq_true hok; omega⟩
        have HFIT : Hid (mask ≠ 0 ∧ p + lenOf mask ≤ 8 * n) := by
          have h5 := of_decide_eq_true hok
          simp only [hns] at h5
          exact ⟨h5.1, by omega⟩
        have hlen : (turnTo (bytesOf s) p mask 32).length = n := by rw [turnTo_length, bytesOf_len]; exact hns
        have HLEN := hide hlen
        obtain ⟨T, hT⟩ : ∃ T, str (turnTo (bytesOf s) p mask 32) = T := ⟨_, rfl⟩
        have HTT := hide hT
        have HSM : Hid (Sm (pL L ((k : Int) + 1) (p : Int) mask) (D.set k ⟨f, t, T, true, false⟩)) := by
          unfold Hid pL turnB
          rw [if_pos hr, hfv, Int.toNat_natCast]
          dsimp only
          rw [hT]
          exact sm_set hS k f t _ true (by rw [← hT, str_len, hlen]; exact hn4)
        rw [hr]
        clear hE hfv hS ok hl hsz hr hok hlen hT hns
        go_enter Tryd.func30, Tryd.ntmps30
        go_wp2_with fail
        refine Calls.mono HF.out ?_
        rintro e w1 ⟨rfl, b⟩
        have HD := hide b
        clear b HF
        have r0 := (HH.out.below HD.out).bk.cell 0 rfl
        obtain ⟨g1, eg, d0, d1, d2, d3, d4⟩ := mget ((HH.out.below HD.out).own) HDK.out
        simp only [Option.some.injEq, Addr.mk.injEq, and_true] at eg
        subst eg
        obtain ⟨cc, W3, hrun, hs3, d3⟩ := conv_lay w1 s n HSN.out (by omega)
        have HS3 := hide hs3
        have HD3 := hide (chain HD.out d3)
        clear hs3 d3
        go_wp2_with fail
        refine Calls.mono (rturn_ok _ n cc (bytesOf s) p mask W3 HS3.out HFIT.out.1 hmk HFIT.out.2) ?_
        rintro e w4 ⟨gt, ct, rfl, o4, b4⟩
        have HD4 := hide (chain HD3.out b4)
        have HB4 := hide (o4.bts HLEN.out (by omega) (turnTo_lt (bytesOf_lt s) p mask 32))
        clear b4 o4 hrun r0 d0 d1 d2 d3 d4
        go_upto_region 9 with fail
        have HRW := hide (HH.out.below HD4.out)
        have HFW : Hid (Frm (RW rb (some ⟨g, 0, none⟩)) w w4) := Frm.ofBelow HD4.out
        refine wp_region_held_drew (S := fun _ => True) (by kernel_rfl) trivial (fun hHeld => ?_)
        obtain ⟨wd, hwd⟩ : ∃ z, z = w4.drew := ⟨_, rfl⟩
        have HRd : Hid (RAt wd base rb (some ⟨g, 0, none⟩) vc D) := by rw [hwd]; exact HRW.out.below (Below.refl _ _).drew
        have HFd : Hid (Frm (RW rb (some ⟨g, 0, none⟩)) w wd) := by rw [hwd]; exact HFW.out.drew
        have HBd : Hid (Bts wd (some ⟨gt, 0, none⟩) n ct (turnTo (bytesOf s) p mask 32)) := by rw [hwd]; exact HB4.out.below (Below.refl _ _).drew
        have hcv := bts_string HBd.out
        rw [HTT.out] at hcv
        rw [← hwd] at ⊢
        clear hwd
        have r0 := HRd.out.bk.cell 0 rfl
        obtain ⟨-, HR3, ⟨x, y0⟩, p0, HFm⟩ := rpost_set (w := w) (j := 2) (u := .string T) (y := ⟨f, t, T, false, false⟩) HRd.out rfl HFd.out hkD ⟨_, HDK.out, rfl⟩ (by decide)
        replace HR3 := hide HR3
        replace HFm := hide HFm
        refine wpAnyH_take (i := 0) (oi := { dst := some 43, op := Go.Op.move (Go.Operand.tmp 0), type := 33, pos := "ref.go:103", after := #[], guard := none }) (v := ?_) rfl (by kernel_rfl) (by kernel_rfl) (by kernel_rfl) (fun _ _ _ h => h) (Or.inl ⟨by rfl, ?_⟩) (by exact trivial) ?_
        rotate_left
        · intro w hSw
          go_simp
          try with_reducible rfl
        try simp only [Act.put, List.setIfInBounds_toArray, List.set_cons_zero, List.set_cons_succ]
        refine wpAnyH_take (i := 1) (oi := { dst := some 44, op := Go.Op.nilCheck (Go.Operand.tmp 43), type := 0, pos := "ref.go:103", after := #[{ on := 0, ground := Go.Ground.data }], guard := none }) (v := ?_) rfl (by kernel_rfl) (by kernel_rfl) (by kernel_rfl) (fun _ _ _ h => h) (Or.inl ⟨by rfl, ?_⟩) (by exact trivial) ?_
        rotate_left
        · intro w hSw
          go_simp
          try with_reducible rfl
        try simp only [Act.put, List.setIfInBounds_toArray, List.set_cons_zero, List.set_cons_succ]
        refine wpAnyH_take (i := 2) (oi := { dst := some 45, op := Go.Op.fieldAddr 28 (Go.Operand.tmp 44) 0, type := 0, pos := "ref.go:103", after := #[{ on := 1, ground := Go.Ground.data }], guard := none }) (v := ?_) rfl (by kernel_rfl) (by kernel_rfl) (by kernel_rfl) (fun _ _ _ h => h) (Or.inl ⟨by rfl, ?_⟩) (by exact trivial) ?_
        rotate_left
        · intro w hSw
          go_simp
          try with_reducible rfl
        try simp only [Act.put, List.setIfInBounds_toArray, List.set_cons_zero, List.set_cons_succ]
        refine wpAnyH_take (i := 4) (oi := { dst := some 47, op := Go.Op.move (Go.Operand.tmp 9), type := 3, pos := "ref.go:103", after := #[], guard := none }) (v := ?_) rfl (by kernel_rfl) (by kernel_rfl) (by kernel_rfl) (fun _ _ _ h => h) (Or.inl ⟨by rfl, ?_⟩) (by exact trivial) ?_
        rotate_left
        · intro w hSw
          go_simp
          try with_reducible rfl
        try simp only [Act.put, List.setIfInBounds_toArray, List.set_cons_zero, List.set_cons_succ]
        refine wpAnyH_take (i := 5) (oi := { dst := some 48, op := Go.Op.move (Go.Operand.tmp 10), type := 78, pos := "ref.go:103", after := #[], guard := none }) (v := ?_) rfl (by kernel_rfl) (by kernel_rfl) (by kernel_rfl) (fun _ _ _ h => h) (Or.inl ⟨by rfl, ?_⟩) (by exact trivial) ?_
        rotate_left
        · intro w hSw
          go_simp
          try with_reducible rfl
        try simp only [Act.put, List.setIfInBounds_toArray, List.set_cons_zero, List.set_cons_succ]
        refine wpAnyH_ready (rs := [3, 6]) (by kernel_rfl) (by simp) ?_
        refine AllReadyH.cons (o := { dst := some 46, op := Go.Op.load 26 (Go.Operand.tmp 45), type := 26, pos := "ref.go:103", after := #[{ on := 2, ground := Go.Ground.data }], guard := none }) rfl (fun K hK => ?_) ?_
        · go_simp
          refine hK.out _ _ trivial (fun hHeld2 => ?_)
          clear hK K
          try simp only [Act.put, List.setIfInBounds_toArray, List.set_cons_zero, List.set_cons_succ]
          refine wpAnyH_ready (rs := [6]) (by kernel_rfl) (by simp) ?_
          refine AllReadyH.cons (o := { dst := some 49, op := Go.Op.convert 78 9 (Go.Operand.tmp 48), type := 9, pos := "ref.go:103", after := #[{ on := 5, ground := Go.Ground.data }], guard := none }) rfl (fun K hK => ?_) AllReadyH.nil
          go_simp
          refine hK.out _ _ trivial (fun hHeld2 => ?_)
          clear hK K
          try simp only [Act.put, List.setIfInBounds_toArray, List.set_cons_zero, List.set_cons_succ]
          refine wpAnyH_take (i := 7) (oi := { dst := some 50, op := Go.Op.indexAddr 26 (Go.Operand.tmp 46) (Go.Operand.tmp 47), type := 0, pos := "ref.go:103", after := #[{ on := 3, ground := Go.Ground.data }, { on := 4, ground := Go.Ground.data }, { on := 0, ground := Go.Ground.phase }, { on := 1, ground := Go.Ground.phase }, { on := 2, ground := Go.Ground.phase }, { on := 3, ground := Go.Ground.phase }, { on := 4, ground := Go.Ground.phase }, { on := 5, ground := Go.Ground.phase }, { on := 6, ground := Go.Ground.phase }], guard := none }) (v := ?_) rfl (by kernel_rfl) (by kernel_rfl) (by kernel_rfl) (fun _ _ _ h => h) (Or.inl ⟨by rfl, ?_⟩) (by exact trivial) ?_
          rotate_left
          · intro w hSw
            go_simp
            try with_reducible rfl
          try simp only [Act.put, List.setIfInBounds_toArray, List.set_cons_zero, List.set_cons_succ]
          refine wpAnyH_take (i := 8) (oi := { dst := some 51, op := Go.Op.fieldAddr 83 (Go.Operand.tmp 50) 0, type := 0, pos := "ref.go:103", after := #[{ on := 7, ground := Go.Ground.data }, { on := 0, ground := Go.Ground.phase }, { on := 1, ground := Go.Ground.phase }, { on := 2, ground := Go.Ground.phase }, { on := 3, ground := Go.Ground.phase }, { on := 4, ground := Go.Ground.phase }, { on := 5, ground := Go.Ground.phase }, { on := 6, ground := Go.Ground.phase }], guard := none }) (v := ?_) rfl (by kernel_rfl) (by kernel_rfl) (by kernel_rfl) (fun _ _ _ h => h) (Or.inl ⟨by rfl, ?_⟩) (by exact trivial) ?_
          rotate_left
          · intro w hSw
            go_simp
            try with_reducible rfl
          try simp only [Act.put, List.setIfInBounds_toArray, List.set_cons_zero, List.set_cons_succ]
          refine wpAnyH_take (i := 9) (oi := { dst := some 52, op := Go.Op.fieldAddr 41 (Go.Operand.tmp 51) 2, type := 0, pos := "ref.go:103", after := #[{ on := 8, ground := Go.Ground.data }, { on := 0, ground := Go.Ground.phase }, { on := 1, ground := Go.Ground.phase }, { on := 2, ground := Go.Ground.phase }, { on := 3, ground := Go.Ground.phase }, { on := 4, ground := Go.Ground.phase }, { on := 5, ground := Go.Ground.phase }, { on := 6, ground := Go.Ground.phase }], guard := none }) (v := ?_) rfl (by kernel_rfl) (by kernel_rfl) (by kernel_rfl) (fun _ _ _ h => h) (Or.inl ⟨by rfl, ?_⟩) (by exact trivial) ?_
          rotate_left
          · intro w hSw
            go_simp
            try with_reducible rfl
          try simp only [Act.put, List.setIfInBounds_toArray, List.set_cons_zero, List.set_cons_succ]
          refine wpAnyH_ready (rs := [10]) (by kernel_rfl) (by simp) ?_
          refine AllReadyH.cons (o := { dst := none, op := Go.Op.store 9 (Go.Operand.tmp 52) (Go.Operand.tmp 49), type := 0, pos := "ref.go:103", after := #[{ on := 9, ground := Go.Ground.data }, { on := 6, ground := Go.Ground.data }, { on := 0, ground := Go.Ground.phase }, { on := 1, ground := Go.Ground.phase }, { on := 2, ground := Go.Ground.phase }, { on := 3, ground := Go.Ground.phase }, { on := 4, ground := Go.Ground.phase }, { on := 5, ground := Go.Ground.phase }, { on := 6, ground := Go.Ground.phase }], guard := none }) rfl (fun K hK => ?_) AllReadyH.nil
          go_simp
          refine hK.out _ _ trivial (fun hHeld2 => ?_)
          clear hK K
          try simp only [Act.put, List.setIfInBounds_toArray, List.set_cons_zero, List.set_cons_succ]
          refine wpAnyH_done (by kernel_rfl) ?_ _
          obtain ⟨w6, hw6⟩ : ∃ z, wd.setCell ⟨g, k * 5 + 2, none⟩ (.string T) = z := ⟨_, rfl⟩
          rw [hw6] at HR3 HFm
          simp only [hw6]
          clear hw6 y0 p0 r0 HRd HFd
          have hk6 : k < (D.set k ⟨f, t, T, false, false⟩).length := by rw [List.length_set]; exact hkD
          have h6 : (D.set k ⟨f, t, T, false, false⟩)[k]? = some ⟨f, t, T, false, false⟩ := List.getElem?_set_self hkD
          obtain ⟨HP, -, ⟨x', y0⟩, p0, -⟩ := rpost_set (w := w) (j := 3) (u := .bool true) (y := ⟨f, t, T, true, false⟩) HR3.out rfl HFm.out hk6 ⟨_, h6, rfl⟩ (by decide)
          rw [List.set_set] at HP
          have HPP := hide HP
          have r0 := HR3.out.bk.cell 0 rfl
          rw [List.length_set] at r0
          clear HP h6 hk6
          go_wp2
          go_ret
          exact ⟨rfl, _, HSM.out, HPP.out⟩
        refine AllReadyH.cons (o := { dst := some 49, op := Go.Op.convert 78 9 (Go.Operand.tmp 48), type := 9, pos := "ref.go:103", after := #[{ on := 5, ground := Go.Ground.data }], guard := none }) rfl (fun K hK => ?_) ?_
        · go_simp
          refine hK.out _ _ trivial (fun hHeld2 => ?_)
          clear hK K
          try simp only [Act.put, List.setIfInBounds_toArray, List.set_cons_zero, List.set_cons_succ]
          refine wpAnyH_ready (rs := [3]) (by kernel_rfl) (by simp) ?_
          refine AllReadyH.cons (o := { dst := some 46, op := Go.Op.load 26 (Go.Operand.tmp 45), type := 26, pos := "ref.go:103", after := #[{ on := 2, ground := Go.Ground.data }], guard := none }) rfl (fun K hK => ?_) AllReadyH.nil
          go_simp
          refine hK.out _ _ trivial (fun hHeld2 => ?_)
          clear hK K
          try simp only [Act.put, List.setIfInBounds_toArray, List.set_cons_zero, List.set_cons_succ]
          refine wpAnyH_take (i := 7) (oi := { dst := some 50, op := Go.Op.indexAddr 26 (Go.Operand.tmp 46) (Go.Operand.tmp 47), type := 0, pos := "ref.go:103", after := #[{ on := 3, ground := Go.Ground.data }, { on := 4, ground := Go.Ground.data }, { on := 0, ground := Go.Ground.phase }, { on := 1, ground := Go.Ground.phase }, { on := 2, ground := Go.Ground.phase }, { on := 3, ground := Go.Ground.phase }, { on := 4, ground := Go.Ground.phase }, { on := 5, ground := Go.Ground.phase }, { on := 6, ground := Go.Ground.phase }], guard := none }) (v := ?_) rfl (by kernel_rfl) (by kernel_rfl) (by kernel_rfl) (fun _ _ _ h => h) (Or.inl ⟨by rfl, ?_⟩) (by exact trivial) ?_
          rotate_left
          · intro w hSw
            go_simp
            try with_reducible rfl
          try simp only [Act.put, List.setIfInBounds_toArray, List.set_cons_zero, List.set_cons_succ]
          refine wpAnyH_take (i := 8) (oi := { dst := some 51, op := Go.Op.fieldAddr 83 (Go.Operand.tmp 50) 0, type := 0, pos := "ref.go:103", after := #[{ on := 7, ground := Go.Ground.data }, { on := 0, ground := Go.Ground.phase }, { on := 1, ground := Go.Ground.phase }, { on := 2, ground := Go.Ground.phase }, { on := 3, ground := Go.Ground.phase }, { on := 4, ground := Go.Ground.phase }, { on := 5, ground := Go.Ground.phase }, { on := 6, ground := Go.Ground.phase }], guard := none }) (v := ?_) rfl (by kernel_rfl) (by kernel_rfl) (by kernel_rfl) (fun _ _ _ h => h) (Or.inl ⟨by rfl, ?_⟩) (by exact trivial) ?_
          rotate_left
          · intro w hSw
            go_simp
            try with_reducible rfl
          try simp only [Act.put, List.setIfInBounds_toArray, List.set_cons_zero, List.set_cons_succ]
          refine wpAnyH_take (i := 9) (oi := { dst := some 52, op := Go.Op.fieldAddr 41 (Go.Operand.tmp 51) 2, type := 0, pos := "ref.go:103", after := #[{ on := 8, ground := Go.Ground.data }, { on := 0, ground := Go.Ground.phase }, { on := 1, ground := Go.Ground.phase }, { on := 2, ground := Go.Ground.phase }, { on := 3, ground := Go.Ground.phase }, { on := 4, ground := Go.Ground.phase }, { on := 5, ground := Go.Ground.phase }, { on := 6, ground := Go.Ground.phase }], guard := none }) (v := ?_) rfl (by kernel_rfl) (by kernel_rfl) (by kernel_rfl) (fun _ _ _ h => h) (Or.inl ⟨by rfl, ?_⟩) (by exact trivial) ?_
          rotate_left
          · intro w hSw
            go_simp
            try with_reducible rfl
          try simp only [Act.put, List.setIfInBounds_toArray, List.set_cons_zero, List.set_cons_succ]
          refine wpAnyH_ready (rs := [10]) (by kernel_rfl) (by simp) ?_
          refine AllReadyH.cons (o := { dst := none, op := Go.Op.store 9 (Go.Operand.tmp 52) (Go.Operand.tmp 49), type := 0, pos := "ref.go:103", after := #[{ on := 9, ground := Go.Ground.data }, { on := 6, ground := Go.Ground.data }, { on := 0, ground := Go.Ground.phase }, { on := 1, ground := Go.Ground.phase }, { on := 2, ground := Go.Ground.phase }, { on := 3, ground := Go.Ground.phase }, { on := 4, ground := Go.Ground.phase }, { on := 5, ground := Go.Ground.phase }, { on := 6, ground := Go.Ground.phase }], guard := none }) rfl (fun K hK => ?_) AllReadyH.nil
          go_simp
          refine hK.out _ _ trivial (fun hHeld2 => ?_)
          clear hK K
          try simp only [Act.put, List.setIfInBounds_toArray, List.set_cons_zero, List.set_cons_succ]
          refine wpAnyH_done (by kernel_rfl) ?_ _
          obtain ⟨w6, hw6⟩ : ∃ z, wd.setCell ⟨g, k * 5 + 2, none⟩ (.string T) = z := ⟨_, rfl⟩
          rw [hw6] at HR3 HFm
          simp only [hw6]
          clear hw6 y0 p0 r0 HRd HFd
          have hk6 : k < (D.set k ⟨f, t, T, false, false⟩).length := by rw [List.length_set]; exact hkD
          have h6 : (D.set k ⟨f, t, T, false, false⟩)[k]? = some ⟨f, t, T, false, false⟩ := List.getElem?_set_self hkD
          obtain ⟨HP, -, ⟨x', y0⟩, p0, -⟩ := rpost_set (w := w) (j := 3) (u := .bool true) (y := ⟨f, t, T, true, false⟩) HR3.out rfl HFm.out hk6 ⟨_, h6, rfl⟩ (by decide)
          rw [List.set_set] at HP
          have HPP := hide HP
          have r0 := HR3.out.bk.cell 0 rfl
          rw [List.length_set] at r0
          clear HP h6 hk6
          go_wp2
          go_ret
          exact ⟨rfl, _, HSM.out, HPP.out⟩
        exact AllReadyH.nil
  · obtain ⟨-, h17, hz⟩ := sm_not hS hE
    have HI : Hid (fI L N = -1) := by unfold Hid fI; rw [if_neg hE]
    rw [HI.out] at HF
    have hr : pE L N pos mask = 17 := by unfold pE; rw [if_neg hE]
    have HSM : Hid (Sm (pL L N pos mask) D) := by unfold Hid pL; rw [if_neg (by rw [hr]; decide)]; exact hS
    rw [hr]
    clear hE hz h17 hS ok hl HI hr
    go_enter Tryd.func30, Tryd.ntmps30
    go_wp2_with fail
    refine Calls.mono HF.out ?_
    rintro e w1 ⟨rfl, b⟩
    have HD := hide b
    clear b HF
    go_wp2
    go_ret
    exact ⟨rfl, _, HSM.out, HH.out.post HD.out⟩
end Go.Proofs.YtgnkmenjjmfcfaaDoor
