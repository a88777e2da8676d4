/-
  The program's Trim and Flip.
-/
import Derived.Test.YtgnkmenjjmfcfaaDoorLkTake
import Derived.Test.YtgnkmenjjmfcfaaDoorTurnW
namespace Go.Proofs.YtgnkmenjjmfcfaaDoor
open Go.RowKit FerryCrc Q
set_option linter.unusedVariables false
set_option linter.unusedSimpArgs false

/-- What Trim says, and what it leaves. -/
def rE (L : Lk) (k cut : Int) : Nat := if fE L k = 0 then (if (fv L k).sp = true ∨ cut < 1 then 12 else 0) else 17
def lft (x : Lt) (cut : Int) : Nat := ((x.s.size : Int) - min cut (x.s.size : Int)).toNat
def rL (L : Lk) (k cut : Int) : Lk := if rE L k cut = 0 then ⟨L.n, setM L.M k (some ⟨(fv L k).f, (fv L k).t, (fv L k).s.extract 0 (lft (fv L k) cut), true⟩)⟩ else L
set_option maxRecDepth 100000 in
set_option maxHeartbeats 2000000 in
theorem trim_any {lb mb : Nat} {L : Lk} (k : Int) (h1 : -9223372036854775808 ≤ k) (h2 : k ≤ 9223372036854775807) (cut : Int) (hn : L.n ≤ 4611686018427387904) {w : World} {E : Nat → Addr} (h : LAt w lb mb L) (he : w.cell? ⟨12, 0, none⟩ = some (sent (E 17))) (h12 : w.cell? ⟨0, 0, none⟩ = some (sent (E 12))) :
    Calls Tryd.prog 12 #[.pointer (some ⟨lb, 0, none⟩), .int .i64 k, .int .i64 cut] w fun e w' => e = .returned (erv E (rE L k cut)) ∧ LAt w' lb mb (rL L k cut) ∧ Frm (TwoB lb mb) w w' := by
  have HSZ := hide h.sz
  have HC := hide (fE_case L k)
  have H12 := hide (fun (w' : World) (D : Below w.heap.size w w') => cell_below h12 D)
  have HF := hide (fun (w' : World) (D : Below w.heap.size w w') => find_any (E := E) k h1 h2 (h.below D) (cell_below he D))
  obtain ⟨re, hre⟩ : ∃ x, rE L k cut = x := ⟨_, rfl⟩
  obtain ⟨rl, hrl⟩ : ∃ x, rL L k cut = x := ⟨_, rfl⟩
  obtain ⟨fe, hfe⟩ : ∃ x, fE L k = x := ⟨_, rfl⟩
  obtain ⟨X, hX⟩ : ∃ X, fv L k = X := ⟨_, rfl⟩
  rw [hX, hfe] at HF HC
  rw [hre, hrl]
  have HRE := hide hre
  have HRL0 := hide hrl
  have HFE := hide hfe
  have HXX := hide hX
  clear hre hrl hfe hX h12
  obtain ⟨f, t, s, sp⟩ := X
  dsimp only [Lt.v, Lt.cells] at HF
  have HL := hide (fun (w' : World) (D : Below w.heap.size w w') => h.below D)
  have HD := hide (Below.refl w.heap.size w)
  obtain ⟨W, hW⟩ : ∃ W, W = w := ⟨_, rfl⟩
  have HQ0 : Hid (lb < w.heap.size ∧ mb < w.heap.size) := ⟨h.lb_lt, h.mb_lt⟩
  clear h he
  go_enter Tryd.func12, Tryd.ntmps12
  go_upto_region 1 with fail
  go_wp2_with fail
  refine Calls.mono (HF.out w HD.out) ?_
  rintro e W1 ⟨rfl, b⟩
  replace HD := hide (chain HD.out b)
  have HDa := HD
  clear b HF
  obtain ⟨W2, hW2, B2, D2⟩ := box1 W1 [.int .i64 f, .int .i64 t, .string s, .bool sp] 74
  have HB2 := hide B2
  replace HD := hide (chain HD.out D2)
  obtain ⟨r, hr⟩ : ∃ r, W1.heap.size = r := ⟨_, rfl⟩
  have HRL : Hid (mb < r ∧ lb < r ∧ w.heap.size ≤ r) := by
    have q1 := (HL.out _ HDa.out).lb_lt
    have q2 := (HL.out _ HDa.out).mb_lt
    rw [hr] at q1 q2
    exact ⟨q2, q1, by rw [← hr]; exact HDa.out.size⟩
  rw [hr] at HB2
  clear B2 D2
  go_upto_region 2 with fail
  try simp only [hW2, hr]
  clear hW2 hr HDa
  rcases HC.out with ⟨rfl, hm, -⟩ | ⟨rfl, -, hm⟩
  · rw [show erv E 17 = sent (E 17) from rfl]
    unfold sent
    go_wp2
    go_ret
    have a1 : re = 17 := by rw [← HRE.out]; unfold rE; rw [HFE.out]; rfl
    have a2 : rl = L := by rw [← HRL0.out]; unfold rL; rw [HRE.out, a1]; rfl
    subst a1 a2
    exact ⟨rfl, HL.out _ HD.out, Frm.ofBelow HD.out⟩
  · rw [show erv E 0 = .nilIface from rfl]
    have HM := hide hm
    have HSZ0 : Hid (s.size ≤ 4096) := HSZ.out k _ hm
    clear hm HC
    have x0 := HB2.out.cell 0 rfl
    have x1 := HB2.out.cell 1 rfl
    have x2 := HB2.out.cell 2 rfl
    have x3 := HB2.out.cell 3 rfl
    go_upto_region 4 with fail
    by_cases hbad : sp = true ∨ cut < 1
    · have e12 := H12.out _ HD.out
      unfold sent at e12
      have a1 : re = 12 := by rw [← HRE.out]; unfold rE; rw [HFE.out, HXX.out, if_pos rfl]; exact if_pos hbad
      have a2 : rl = L := by rw [← HRL0.out]; unfold rL; rw [HRE.out, a1]; rfl
      subst a1 a2
      cases sp with
      | true =>
        go_wp2
        go_ret
        exact ⟨rfl, HL.out _ HD.out, Frm.ofBelow HD.out⟩
      | false =>
        have hc : cut < 1 := by rcases hbad with h | h; cases h; exact h
        go_wp2
        go_ret
        exact ⟨rfl, HL.out _ HD.out, Frm.ofBelow HD.out⟩
    · obtain rfl : sp = false := by cases sp; rfl; exact absurd (.inl rfl) hbad
      have hc : ¬ cut < 1 := fun h => hbad (.inr h)
      have a1 : re = 0 := by rw [← HRE.out]; unfold rE; rw [HFE.out, HXX.out, if_pos rfl]; exact if_neg hbad
      subst a1
      obtain ⟨n, hns⟩ : ∃ n : Nat, s.size = n := ⟨_, rfl⟩
      have HSN := hide hns
      have hn4 := HSZ0.out
      rw [hns] at hn4
      obtain ⟨m, hm⟩ : ∃ m : Nat, (n : Int) - (if (n : Int) < cut then (n : Int) else cut) = (m : Int) := ⟨((n : Int) - (if (n : Int) < cut then (n : Int) else cut)).toNat, by split <;> omega⟩
      have hm1 : m ≤ n := by split at hm <;> omega
      have hlm : lft ⟨f, t, s, false⟩ cut = m := by
        unfold lft
        simp only [hns]
        split at hm <;> omega
      have HLM := hide hlm
      clear hbad hlm
      go_upto_region 7 with fail
      try simp only [hm]
      generalize (if (n : Int) < cut then (n : Int) else cut) = mi
      have hm4 : (m : Int) ≤ (n : Int) := by omega
      clear hm
      have HC2 := hide (fun (s' : ByteArray) (hs' : s'.size ≤ 4096) (w' : World) (D : Below w.heap.size w w') => spoil_any (k := k) h1 h2 f t s s' false hs' hn (by rw [HM.out]; rfl) (HL.out w' D))
      have HD2 := hide HD.out.drew
      have HSX : Hid ((s.extract 0 m).size ≤ 4096) := by
        have h5 := HSZ0.out
        unfold Hid
        rw [ByteArray.size_extract]
        omega
      have HC3 := hide (HC2.out (s.extract 0 m) HSX.out W2.drew HD2.out)
      clear HC2
      refine wp_region_held_drew (S := fun wz => wz.cell? ⟨r, 0, none⟩ = some (.int .i64 f) ∧ wz.cell? ⟨r, 1, none⟩ = some (.int .i64 t) ∧ wz.cell? ⟨r, 2, none⟩ = some (.string s) ∧ wz.cell? ⟨r, 3, none⟩ = some (.bool false)) (by kernel_rfl) ⟨x0, x1, x2, x3⟩ (fun hHeld => ?_)
      refine wpAnyH_take (i := 0) (oi := { dst := some 37, op := Go.Op.move (Go.Operand.tmp 0), type := 24, pos := "link.go:92", after := #[], guard := none }) (v := ?_) rfl (by kernel_rfl) (by kernel_rfl) (by kernel_rfl) (fun _ _ _ h => h) (Or.inl ⟨by rfl, ?_⟩) (by assumption) ?_
      rotate_left
      · intro w hSw
        obtain ⟨q0, q1, q2, q3⟩ := hSw
        go_simp
        try with_reducible rfl
      simp only [Act.put, List.setIfInBounds_toArray, List.set_cons_zero, List.set_cons_succ]
      refine wpAnyH_take (i := 1) (oi := { dst := some 38, op := Go.Op.move (Go.Operand.tmp 1), type := 3, pos := "link.go:92", after := #[], guard := none }) (v := ?_) rfl (by kernel_rfl) (by kernel_rfl) (by kernel_rfl) (fun _ _ _ h => h) (Or.inl ⟨by rfl, ?_⟩) (by assumption) ?_
      rotate_left
      · intro w hSw
        obtain ⟨q0, q1, q2, q3⟩ := hSw
        go_simp
        try with_reducible rfl
      simp only [Act.put, List.setIfInBounds_toArray, List.set_cons_zero, List.set_cons_succ]
      refine wpAnyH_take (i := 2) (oi := { dst := some 39, op := Go.Op.load 74 (Go.Operand.tmp 7), type := 74, pos := "link.go:92", after := #[], guard := none }) (v := ?_) rfl (by kernel_rfl) (by kernel_rfl) (by kernel_rfl) (fun _ _ _ h => h) (Or.inl ⟨by rfl, ?_⟩) (by assumption) ?_
      rotate_left
      · intro w hSw
        obtain ⟨q0, q1, q2, q3⟩ := hSw
        go_simp
        try with_reducible rfl
      simp only [Act.put, List.setIfInBounds_toArray, List.set_cons_zero, List.set_cons_succ]
      refine wpAnyH_take (i := 3) (oi := { dst := some 40, op := Go.Op.fieldAddr 74 (Go.Operand.tmp 7) 0, type := 0, pos := "link.go:92", after := #[], guard := none }) (v := ?_) rfl (by kernel_rfl) (by kernel_rfl) (by kernel_rfl) (fun _ _ _ h => h) (Or.inl ⟨by rfl, ?_⟩) (by assumption) ?_
      rotate_left
      · intro w hSw
        obtain ⟨q0, q1, q2, q3⟩ := hSw
        go_simp
        try with_reducible rfl
      simp only [Act.put, List.setIfInBounds_toArray, List.set_cons_zero, List.set_cons_succ]
      refine wpAnyH_take (i := 4) (oi := { dst := some 41, op := Go.Op.fieldAddr 41 (Go.Operand.tmp 40) 2, type := 0, pos := "link.go:92", after := #[{ on := 3, ground := Go.Ground.data }], guard := none }) (v := ?_) rfl (by kernel_rfl) (by kernel_rfl) (by kernel_rfl) (fun _ _ _ h => h) (Or.inl ⟨by rfl, ?_⟩) (by assumption) ?_
      rotate_left
      · intro w hSw
        obtain ⟨q0, q1, q2, q3⟩ := hSw
        go_simp
        try with_reducible rfl
      simp only [Act.put, List.setIfInBounds_toArray, List.set_cons_zero, List.set_cons_succ]
      refine wpAnyH_take (i := 5) (oi := { dst := some 42, op := Go.Op.load 9 (Go.Operand.tmp 41), type := 9, pos := "link.go:92", after := #[{ on := 4, ground := Go.Ground.data }], guard := none }) (v := ?_) rfl (by kernel_rfl) (by kernel_rfl) (by kernel_rfl) (fun _ _ _ h => h) (Or.inl ⟨by rfl, ?_⟩) (by assumption) ?_
      rotate_left
      · intro w hSw
        obtain ⟨q0, q1, q2, q3⟩ := hSw
        go_simp
        try with_reducible rfl
      simp only [Act.put, List.setIfInBounds_toArray, List.set_cons_zero, List.set_cons_succ]
      refine wpAnyH_take (i := 6) (oi := { dst := some 43, op := Go.Op.move (Go.Operand.tmp 9), type := 3, pos := "link.go:92", after := #[], guard := none }) (v := ?_) rfl (by kernel_rfl) (by kernel_rfl) (by kernel_rfl) (fun _ _ _ h => h) (Or.inl ⟨by rfl, ?_⟩) (by assumption) ?_
      rotate_left
      · intro w hSw
        obtain ⟨q0, q1, q2, q3⟩ := hSw
        go_simp
        try with_reducible rfl
      simp only [Act.put, List.setIfInBounds_toArray, List.set_cons_zero, List.set_cons_succ]
      refine wpAnyH_take (i := 7) (oi := { dst := some 44, op := Go.Op.slice 9 (Go.Operand.tmp 42) none (some (Go.Operand.tmp 43)) none, type := 9, pos := "link.go:92", after := #[{ on := 5, ground := Go.Ground.data }, { on := 6, ground := Go.Ground.data }], guard := none }) (v := ?_) rfl (by kernel_rfl) (by kernel_rfl) (by kernel_rfl) (fun _ _ _ h => h) (Or.inl ⟨by rfl, ?_⟩) (by assumption) ?_
      rotate_left
      · intro w hSw
        obtain ⟨q0, q1, q2, q3⟩ := hSw
        go_simp
        try with_reducible rfl
      simp only [Act.put, List.setIfInBounds_toArray, List.set_cons_zero, List.set_cons_succ]
      refine wpAnyH_ready (rs := [8]) (by kernel_rfl) (by simp) ?_
      refine AllReadyH.cons (o := { dst := some 45, op := Go.Op.call { callee := Go.Callee.value (Go.Operand.func 34), args := #[Go.Operand.tmp 37, Go.Operand.tmp 38, Go.Operand.tmp 39, Go.Operand.tmp 44], argTypes := #[24, 3, 74, 9] }, type := 0, pos := "link.go:92", after := #[{ on := 0, ground := Go.Ground.data }, { on := 1, ground := Go.Ground.data }, { on := 2, ground := Go.Ground.data }, { on := 7, ground := Go.Ground.data }], guard := none }) rfl (fun K hK => ?_) AllReadyH.nil
      go_simp
      go_at_call 34
      refine Calls.mono HC3.out ?_
      rintro e W3 ⟨rfl, l3, f3⟩
      have L3 := hide l3
      have F3 := hide f3
      clear l3 f3
      try dsimp only
      have hnr : ¬ TwoB lb mb r := fun e => by rcases e with e | e; have := HRL.out.2.1; omega; have := HRL.out.1; omega
      refine hK.out _ _ ⟨F3.out.cell x0 hnr, F3.out.cell x1 hnr, F3.out.cell x2 hnr, F3.out.cell x3 hnr⟩ (fun hHeld2 => ?_)
      clear hK K
      try simp only [Act.put, List.setIfInBounds_toArray, List.set_cons_zero, List.set_cons_succ]
      refine wpAnyH_done (by kernel_rfl) ?_ _
      clear x0 x1 x2 x3 hns
      go_wp2
      go_ret
      have a2 : rl = ⟨L.n, setM L.M k (some ⟨f, t, s.extract 0 m, true⟩)⟩ := by rw [← HRL0.out]; unfold rL; rw [HRE.out, HXX.out, HLM.out]; rfl
      subst a2
      exact ⟨rfl, L3.out, (Frm.ofBelow HD2.out).trans F3.out (fun _ _ h => h)⟩
/-- What Flip says, and what it leaves. -/
def flOk (x : Lt) (pos : Int) (mask : Nat) : Bool := decide (mask ≠ 0 ∧ 0 ≤ pos ∧ pos + (lenOf mask : Int) ≤ 8 * (x.s.size : Int))
def pE (L : Lk) (k pos : Int) (mask : Nat) : Nat := if fE L k = 0 then (if (fv L k).sp = true ∨ flOk (fv L k) pos mask = false then 12 else 0) else 17
def turnB (s : ByteArray) (pos : Int) (mask : Nat) : ByteArray := str (turnTo (bytesOf s) pos.toNat mask 32)
def pL (L : Lk) (k pos : Int) (mask : Nat) : Lk := if pE L k pos mask = 0 then ⟨L.n, setM L.M k (some ⟨(fv L k).f, (fv L k).t, turnB (fv L k).s pos mask, true⟩)⟩ else L
theorem turnTo_lt {l : List Nat} (h : ∀ c ∈ l, c < 256) (pos mask k : Nat) : ∀ c ∈ turnTo l pos mask k, c < 256 := turnTo_small pos mask k h
set_option maxRecDepth 100000 in
set_option maxHeartbeats 2000000 in
theorem flip_any {lb mb : Nat} {L : Lk} (k : Int) (h1 : -9223372036854775808 ≤ k) (h2 : k ≤ 9223372036854775807) (pos : Int) (mask : Nat) (hmk : mask < 4294967296) (hn : L.n ≤ 4611686018427387904) {w : World} {E : Nat → Addr} (h : LAt w lb mb L) (he : w.cell? ⟨12, 0, none⟩ = some (sent (E 17))) (h12 : w.cell? ⟨0, 0, none⟩ = some (sent (E 12))) :
    Calls Tryd.prog 13 #[.pointer (some ⟨lb, 0, none⟩), .int .i64 k, .int .i64 pos, .int .u32 (mask : Int)] w fun e w' => e = .returned (erv E (pE L k pos mask)) ∧ LAt w' lb mb (pL L k pos mask) ∧ Frm (TwoB lb mb) w w' := by
  have HSZ := hide h.sz
  have HC := hide (fE_case L k)
  have H12 := hide (fun (w' : World) (D : Below w.heap.size w w') => cell_below h12 D)
  have HF := hide (fun (w' : World) (D : Below w.heap.size w w') => find_any (E := E) k h1 h2 (h.below D) (cell_below he D))
  obtain ⟨re, hre⟩ : ∃ x, pE L k pos mask = x := ⟨_, rfl⟩
  obtain ⟨rl, hrl⟩ : ∃ x, pL L k pos mask = x := ⟨_, rfl⟩
  obtain ⟨fe, hfe⟩ : ∃ x, fE L k = x := ⟨_, rfl⟩
  obtain ⟨X, hX⟩ : ∃ X, fv L k = X := ⟨_, rfl⟩
  rw [hX, hfe] at HF HC
  rw [hre, hrl]
  have HRE := hide hre
  have HRL0 := hide hrl
  have HFE := hide hfe
  have HXX := hide hX
  clear hre hrl hfe hX h12
  obtain ⟨f, t, s, sp⟩ := X
  dsimp only [Lt.v, Lt.cells] at HF
  have HL := hide (fun (w' : World) (D : Below w.heap.size w w') => h.below D)
  have HD := hide (Below.refl w.heap.size w)
  obtain ⟨W, hW⟩ : ∃ W, W = w := ⟨_, rfl⟩
  have HQ0 : Hid (lb < w.heap.size ∧ mb < w.heap.size) := ⟨h.lb_lt, h.mb_lt⟩
  clear h he
  go_enter Tryd.func13, Tryd.ntmps13
  go_upto_region 1 with fail
  go_wp2_with fail
  refine Calls.mono (HF.out w HD.out) ?_
  rintro e W1 ⟨rfl, b⟩
  replace HD := hide (chain HD.out b)
  have HDa := HD
  clear b HF
  obtain ⟨W2, hW2, B2, D2⟩ := box1 W1 [.int .i64 f, .int .i64 t, .string s, .bool sp] 74
  have HB2 := hide B2
  replace HD := hide (chain HD.out D2)
  obtain ⟨r, hr⟩ : ∃ r, W1.heap.size = r := ⟨_, rfl⟩
  have HRL : Hid (mb < r ∧ lb < r ∧ w.heap.size ≤ r) := by
    have q1 := (HL.out _ HDa.out).lb_lt
    have q2 := (HL.out _ HDa.out).mb_lt
    rw [hr] at q1 q2
    exact ⟨q2, q1, by rw [← hr]; exact HDa.out.size⟩
  rw [hr] at HB2
  clear B2 D2
  go_upto_region 2 with fail
  try simp only [hW2, hr]
  clear hW2 hr HDa
  rcases HC.out with ⟨rfl, hm, -⟩ | ⟨rfl, -, hm⟩
  · rw [show erv E 17 = sent (E 17) from rfl]
    unfold sent
    go_wp2
    go_ret
    have a1 : re = 17 := by rw [← HRE.out]; unfold pE; rw [HFE.out]; rfl
    have a2 : rl = L := by rw [← HRL0.out]; unfold pL; rw [HRE.out, a1]; rfl
    subst a1 a2
    exact ⟨rfl, HL.out _ HD.out, Frm.ofBelow HD.out⟩
  · rw [show erv E 0 = .nilIface from rfl]
    have HM := hide hm
    have HSZ0 : Hid (s.size ≤ 4096) := HSZ.out k _ hm
    clear hm HC
    have x0 := HB2.out.cell 0 rfl
    have x1 := HB2.out.cell 1 rfl
    have x2 := HB2.out.cell 2 rfl
    have x3 := HB2.out.cell 3 rfl
    go_upto_region 4 with fail
    cases sp with
    | true =>
      have e12 := H12.out _ HD.out
      unfold sent at e12
      have a1 : re = 12 := by rw [← HRE.out]; unfold pE; rw [HFE.out, HXX.out, if_pos rfl]; exact if_pos (.inl rfl)
      have a2 : rl = L := by rw [← HRL0.out]; unfold pL; rw [HRE.out, a1]; rfl
      subst a1 a2
      go_wp2
      go_ret
      exact ⟨rfl, HL.out _ HD.out, Frm.ofBelow HD.out⟩
    | false =>
      obtain ⟨n, hns⟩ : ∃ n : Nat, s.size = n := ⟨_, rfl⟩
      have HSN := hide hns
      have hn4 : n ≤ 4096 := by rw [← hns]; exact HSZ0.out
      obtain ⟨cc, W3, hrun, hs3, d3⟩ := conv_lay W2 s n hns (by omega)
      have HS3 := hide hs3
      have HD3 := hide (chain HD.out d3)
      have HX3 := hide (HB2.out.below d3)
      clear hs3 d3 hns
      go_upto_region 6 with fail
      cases hok : flOk ⟨f, t, s, false⟩ pos mask with
      | false =>
        have a1 : re = 12 := by rw [← HRE.out]; unfold pE; rw [HFE.out, HXX.out, if_pos rfl]; exact if_pos (.inr hok)
        have a2 : rl = L := by rw [← HRL0.out]; unfold pL; rw [HRE.out, a1]; rfl
        subst a1 a2
        have hbad : mask = 0 ∨ pos < 0 ∨ 8 * (n : Int) - (lenOf mask : Int) < pos := by
          have h5 := of_decide_eq_false hok
          simp only [HSN.out] at h5
          omega
        clear hok
        go_wp2_with fail
        refine Calls.mono (turn_bad _ n cc pos mask (E 12) W3 (H12.out _ HD3.out) (by omega) hmk hbad) ?_
        rintro e W4 ⟨rfl, b4⟩
        have HD4 := hide (chain HD3.out b4)
        clear b4 hbad hrun x0 x1 x2 x3
        unfold sent
        go_wp2
        go_ret
        exact ⟨rfl, HL.out _ HD4.out, Frm.ofBelow HD4.out⟩
      | true =>
        have a1 : re = 0 := by rw [← HRE.out]; unfold pE; rw [HFE.out, HXX.out, if_pos rfl]; exact if_neg (fun h => by rcases h with h | h; cases h; rw [hok] at h; cases h)
        subst a1
        obtain ⟨p, rfl⟩ : ∃ p : Nat, pos = (p : Int) := ⟨pos.toNat, by have h5 := of_decide_eq_true hok; omega⟩
        have hfit : mask ≠ 0 ∧ p + lenOf mask ≤ 8 * n := by
          have h5 := of_decide_eq_true hok
          simp only [HSN.out] at h5
          exact ⟨h5.1, by omega⟩
        clear hok
        go_wp2_with fail
        refine Calls.mono (turn_any _ n cc (bytesOf s) p mask W3 HS3.out hfit.1 hmk hfit.2) ?_
        rintro e W4 ⟨g, rfl, o4, b4⟩
        have HD4 := hide (chain HD3.out b4)
        have HX4 := hide (HX3.out.below b4)
        have hlen : (turnTo (bytesOf s) p mask 32).length = n := by rw [turnTo_length, bytesOf_len]; exact HSN.out
        have HB4 := hide (o4.bts hlen (by omega) (turnTo_lt (bytesOf_lt s) p mask 32))
        clear b4 o4 hfit hrun x0 x1 x2 x3
        have HSX : Hid ((str (turnTo (bytesOf s) p mask 32)).size ≤ 4096) := by unfold Hid; rw [str_len, hlen]; exact hn4
        have hcv := bts_string HB4.out
        have HC3 := hide (spoil_any (k := k) h1 h2 f t s (str (turnTo (bytesOf s) p mask 32)) false HSX.out hn (by rw [HM.out]; rfl) (HL.out _ HD4.out))
        obtain ⟨T, hT⟩ : ∃ T, str (turnTo (bytesOf s) p mask 32) = T := ⟨_, rfl⟩
        rw [hT] at hcv HC3
        have HTT := hide hT
        clear hT hlen HB4 HSX
        have x0 := HX4.out.cell 0 rfl
        have x1 := HX4.out.cell 1 rfl
        have x2 := HX4.out.cell 2 rfl
        have x3 := HX4.out.cell 3 rfl
        go_upto_region 9 with fail
        go_wp2_with fail
        refine Calls.mono HC3.out ?_
        rintro e W5 ⟨rfl, l3, f3⟩
        have L3 := hide l3
        have F3 := hide f3
        clear l3 f3 x0 x1 x2 x3 hcv HC3
        go_wp2
        go_ret
        have a2 : rl = ⟨L.n, setM L.M k (some ⟨f, t, T, true⟩)⟩ := by rw [← HRL0.out]; unfold pL turnB; rw [HRE.out, HXX.out, Int.toNat_natCast, HTT.out]; rfl
        subst a2
        exact ⟨rfl, L3.out, (Frm.ofBelow HD4.out).trans F3.out (fun _ _ h => h)⟩
end Go.Proofs.YtgnkmenjjmfcfaaDoor
