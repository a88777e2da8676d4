/-
  The document's Copy and Take.
-/
import Derived.Test.YtgnkmenjjmfcfaaDoorLkRG
namespace Go.Proofs.YtgnkmenjjmfcfaaDoor
open Go.RowKit FerryCrc Q
set_option linter.unusedVariables false
set_option linter.unusedSimpArgs false
/-- A field of one of them is stored. -/
theorem rpost_set {w w5 : World} {base rb g j k : Nat} {va : Option Addr} {vc : Nat} {D : List Md} {y : Md} {u : Value} (h : RAt w5 base rb va vc D) (hva : va = some ⟨g, 0, none⟩) (D5 : Frm (RW rb va) w w5) (hk : k < D.length) (hy : ∃ d, D[k]? = some d ∧ (m5 d).set j u = m5 y) (hj : j < 5) :
    RPost w (w5.setCell ⟨g, k * 5 + j, none⟩ u) base rb va (D.set k y) ∧ RAt (w5.setCell ⟨g, k * 5 + j, none⟩ u) base rb va vc (D.set k y) ∧ (∃ x, w5.cell? ⟨g, k * 5 + j, none⟩ = some x) ∧ w5.frozen? ⟨g, k * 5 + j, none⟩ = false ∧ Frm (RW rb va) w (w5.setCell ⟨g, k * 5 + j, none⟩ u) := by
  subst hva
  obtain ⟨d, hd, hu⟩ := hy
  obtain ⟨h1, h2⟩ := World.ownsRow.stored h.own (k * 5 + j) u
  have hl : ((D.flatMap m5).set (k * 5 + j) u) = (D.set k y).flatMap m5 := by
    rw [← fl_setL m55 hk, ← hu]
    have h5 : (m5 d).length = 5 := rfl
    apply List.ext_getElem?
    intro i
    have hfl := fl_len m55 D
    have hsm : ∀ (vs : List Value) (o : Nat) (xs : List Value) (i : Nat), (setL xs o vs)[i]? = if o ≤ i ∧ i < o + vs.length ∧ i < xs.length then vs[i - o]? else xs[i]? := by
      intro vs
      induction vs with
      | nil => intro o xs i; simp [setL]; omega
      | cons v vs ih =>
        intro o xs i
        show (setL (xs.set o v) (o + 1) vs)[i]? = _
        rw [ih]
        rw [List.length_set, List.length_cons]
        by_cases e : i = o
        · subst e
          by_cases hx : i < xs.length
          · simp [hx]
            intro a
            omega
          · simp [hx]
        · rw [List.getElem?_set_ne (fun x => e x.symm)]
          by_cases hr : o + 1 ≤ i ∧ i < o + 1 + vs.length ∧ i < xs.length
          · rw [if_pos hr, if_pos (by omega), show i - o = (i - (o + 1)) + 1 by omega, List.getElem?_cons_succ]
          · rw [if_neg hr, if_neg (by omega)]
    rw [hsm, List.length_set, h5, hfl]
    by_cases hr : k * 5 ≤ i ∧ i < k * 5 + 5 ∧ i < D.length * 5
    · rw [if_pos hr]
      have e0 := fl_get m55 (l := D) (k := k) (x := d) (i - k * 5) hd (by omega)
      rw [show k * 5 + (i - k * 5) = i by omega] at e0
      by_cases e : i = k * 5 + j
      · subst e
        rw [List.getElem?_set_self (by rw [hfl]; omega), Nat.add_sub_cancel_left, List.getElem?_set_self (by rw [h5]; omega)]
      · rw [List.getElem?_set_ne (fun x => e x.symm), List.getElem?_set_ne (by omega), e0]
    · rw [if_neg hr, List.getElem?_set_ne (by omega)]
  have ho : MOwn (w5.setCell ⟨g, k * 5 + j, none⟩ u) base (.slice (some ⟨g, 0, none⟩) (D.set k y).length vc) (D.set k y) := by
    unfold MOwn LOwn
    rw [List.length_set, ← hl]
    exact h1
  have hne := own_box nmr h.own h.bk
  have hR : RAt (w5.setCell ⟨g, k * 5 + j, none⟩ u) base rb (some ⟨g, 0, none⟩) vc (D.set k y) := ⟨by rw [List.length_set]; exact h.bk.other ⟨g, k * 5 + j, none⟩ u (fun e => hne (by rw [ob, e]; rfl)), ho, h.hb⟩
  have hF : Frm (RW rb (some ⟨g, 0, none⟩)) w (w5.setCell ⟨g, k * 5 + j, none⟩ u) := D5.trans (frm_setCell w5 ⟨g, k * 5 + j, none⟩ u) (fun i _ e => .inr (by rw [e]; rfl))
  refine ⟨⟨some ⟨g, 0, none⟩, vc, hR, hF, fun g' e => .inl e⟩, hR, ?_, ?_, hF⟩
  · have hc := fl_len m55 D
    exact ⟨_, (World.ownsRow.cellAt h.own (k * 5 + j) (by omega)).trans (List.getElem?_eq_getElem (by omega))⟩
  · exact World.ownsRow.frozenAt h.own _
set_option maxRecDepth 100000 in
set_option maxHeartbeats 2000000 in
theorem rcopy_any {base rb : Nat} {va : Option Addr} {vc : Nat} {D : List Md} {L : Lk} (N : Int) (hN1 : -9223372036854775808 ≤ N) (hN2 : N ≤ 9223372036854775807) (ok : ∀ k x, L.M k = some x → 1 ≤ k ∧ k ≤ (L.n : Int)) (hS : Sm L D) (hn : L.n ≤ 2199023255552) {w : World} (h : RAt w base rb va vc D) :
    Calls Tryd.prog 28 #[.pointer (some ⟨rb, 0, none⟩), .int .i64 N] w fun e w' => e = .returned (.tuple #[.int .i64 (cN L N), .int .i64 (fE L N : Nat)]) ∧ ∃ D', Sm (cL L N) D' ∧ RPost w w' base rb va D' := by
  have HF := hide (rfind_any N hN1 hN2 ok hS (by omega) h)
  have HH := hide h
  have HBS : Hid (base ≤ w.heap.size) := by have h1 := h.bk.lt; have h2 := h.hb; unfold Hid; omega
  have hl := hS.len
  clear hN1 hN2 h
  by_cases hE : fE L N = 0
  · obtain ⟨k, rfl, hk1, f, t, s, sp, hd, hfv, -, hsz⟩ := sm_there hS ok hE
    have HI : Hid (fI L ((k : Int) + 1) = (k : Int)) := by unfold Hid fI; rw [if_pos hE]; omega
    rw [HI.out] at HF
    have HSM : Hid (Sm (cL L ((k : Int) + 1)) (D ++ [⟨f, t, s, sp, false⟩])) := by unfold Hid cL; rw [if_pos hE, hfv]; exact sm_more hS f t s sp hsz
    rw [show cN L ((k : Int) + 1) = (D.length : Int) + 1 by unfold cN; rw [if_pos hE, hl], hE]
    have hD : D.length ≤ 2199023255552 := by omega
    obtain ⟨g, rfl, -⟩ := mget HH.out.own hd
    have HDK := hide hd
    have f3 : (k : Int) < (D.length : Int) := by omega
    have f4 : ¬ (k : Int) < 0 := by omega
    clear hE hfv hd hS ok hl hsz HI
    go_enter Tryd.func28, Tryd.ntmps28
    go_wp2_with fail
    refine Calls.mono HF.out ?_
    rintro e w1 ⟨rfl, b⟩
    have HD := hide b
    clear b HF
    go_upto_region 4 with fail
    refine wp_region_held_drew (S := fun _ => True) (by kernel_rfl) trivial (fun hHeld => ?_)
    have HBd : Hid (Below w.heap.size w w1.drew) := HD.out.drew
    obtain ⟨wd, hwd⟩ : ∃ z, z = w1.drew := ⟨_, rfl⟩
    rw [← hwd] at HBd ⊢
    clear hwd
    have r0 := (HH.out.below HBd.out).bk.cell 0 rfl
    obtain ⟨g1, eg, d0, d1, d2, d3, d4⟩ := mget ((HH.out.below HBd.out).own) HDK.out
    simp only [Option.some.injEq, Addr.mk.injEq, and_true] at eg
    subst eg
    refine wpAnyH_take (i := 0) (oi := { dst := some 12, op := Go.Op.move (Go.Operand.tmp 0), type := 33, pos := "ref.go:71", after := #[], guard := none }) (v := ?_) rfl (by kernel_rfl) (by kernel_rfl) (by kernel_rfl) (fun _ _ _ h => h) (Or.inl ⟨by rfl, ?_⟩) (by exact trivial) ?_
    rotate_left
    · intro w hSw
      go_simp
      try with_reducible rfl
    try simp only [Act.put, List.setIfInBounds_toArray, List.set_cons_zero, List.set_cons_succ]
    refine wpAnyH_take (i := 1) (oi := { dst := some 13, op := Go.Op.move (Go.Operand.tmp 0), type := 33, pos := "ref.go:71", after := #[], guard := none }) (v := ?_) rfl (by kernel_rfl) (by kernel_rfl) (by kernel_rfl) (fun _ _ _ h => h) (Or.inl ⟨by rfl, ?_⟩) (by exact trivial) ?_
    rotate_left
    · intro w hSw
      go_simp
      try with_reducible rfl
    try simp only [Act.put, List.setIfInBounds_toArray, List.set_cons_zero, List.set_cons_succ]
    refine wpAnyH_take (i := 2) (oi := { dst := some 14, op := Go.Op.nilCheck (Go.Operand.tmp 13), type := 0, pos := "ref.go:71", after := #[{ on := 1, ground := Go.Ground.data }], guard := none }) (v := ?_) rfl (by kernel_rfl) (by kernel_rfl) (by kernel_rfl) (fun _ _ _ h => h) (Or.inl ⟨by rfl, ?_⟩) (by exact trivial) ?_
    rotate_left
    · intro w hSw
      go_simp
      try with_reducible rfl
    try simp only [Act.put, List.setIfInBounds_toArray, List.set_cons_zero, List.set_cons_succ]
    refine wpAnyH_take (i := 3) (oi := { dst := some 15, op := Go.Op.fieldAddr 28 (Go.Operand.tmp 14) 0, type := 0, pos := "ref.go:71", after := #[{ on := 2, ground := Go.Ground.data }], guard := none }) (v := ?_) rfl (by kernel_rfl) (by kernel_rfl) (by kernel_rfl) (fun _ _ _ h => h) (Or.inl ⟨by rfl, ?_⟩) (by exact trivial) ?_
    rotate_left
    · intro w hSw
      go_simp
      try with_reducible rfl
    try simp only [Act.put, List.setIfInBounds_toArray, List.set_cons_zero, List.set_cons_succ]
    refine wpAnyH_take (i := 5) (oi := { dst := some 17, op := Go.Op.move (Go.Operand.tmp 0), type := 33, pos := "ref.go:71", after := #[], guard := none }) (v := ?_) rfl (by kernel_rfl) (by kernel_rfl) (by kernel_rfl) (fun _ _ _ h => h) (Or.inl ⟨by rfl, ?_⟩) (by exact trivial) ?_
    rotate_left
    · intro w hSw
      go_simp
      try with_reducible rfl
    try simp only [Act.put, List.setIfInBounds_toArray, List.set_cons_zero, List.set_cons_succ]
    refine wpAnyH_take (i := 6) (oi := { dst := some 18, op := Go.Op.nilCheck (Go.Operand.tmp 17), type := 0, pos := "ref.go:71", after := #[{ on := 5, ground := Go.Ground.data }], guard := none }) (v := ?_) rfl (by kernel_rfl) (by kernel_rfl) (by kernel_rfl) (fun _ _ _ h => h) (Or.inl ⟨by rfl, ?_⟩) (by exact trivial) ?_
    rotate_left
    · intro w hSw
      go_simp
      try with_reducible rfl
    try simp only [Act.put, List.setIfInBounds_toArray, List.set_cons_zero, List.set_cons_succ]
    refine wpAnyH_take (i := 7) (oi := { dst := some 19, op := Go.Op.fieldAddr 28 (Go.Operand.tmp 18) 0, type := 0, pos := "ref.go:71", after := #[{ on := 6, ground := Go.Ground.data }], guard := none }) (v := ?_) rfl (by kernel_rfl) (by kernel_rfl) (by kernel_rfl) (fun _ _ _ h => h) (Or.inl ⟨by rfl, ?_⟩) (by exact trivial) ?_
    rotate_left
    · intro w hSw
      go_simp
      try with_reducible rfl
    try simp only [Act.put, List.setIfInBounds_toArray, List.set_cons_zero, List.set_cons_succ]
    refine wpAnyH_take (i := 9) (oi := { dst := some 21, op := Go.Op.move (Go.Operand.tmp 6), type := 3, pos := "ref.go:71", after := #[], guard := none }) (v := ?_) rfl (by kernel_rfl) (by kernel_rfl) (by kernel_rfl) (fun _ _ _ h => h) (Or.inl ⟨by rfl, ?_⟩) (by exact trivial) ?_
    rotate_left
    · intro w hSw
      go_simp
      try with_reducible rfl
    try simp only [Act.put, List.setIfInBounds_toArray, List.set_cons_zero, List.set_cons_succ]
    refine wpAnyH_ready (rs := [4, 8]) (by kernel_rfl) (by simp) ?_
    refine AllReadyH.cons (o := { dst := some 16, op := Go.Op.load 26 (Go.Operand.tmp 15), type := 26, pos := "ref.go:71", after := #[{ on := 3, ground := Go.Ground.data }], guard := none }) rfl (fun K hK => ?_) ?_
    · go_simp
      refine hK.out _ _ trivial (fun hHeld2 => ?_)
      clear hK K
      try simp only [Act.put, List.setIfInBounds_toArray, List.set_cons_zero, List.set_cons_succ]
      refine wpAnyH_ready (rs := [8]) (by kernel_rfl) (by simp) ?_
      refine AllReadyH.cons (o := { dst := some 20, op := Go.Op.load 26 (Go.Operand.tmp 19), type := 26, pos := "ref.go:71", after := #[{ on := 7, ground := Go.Ground.data }], guard := none }) rfl (fun K hK => ?_) AllReadyH.nil
      go_simp
      refine hK.out _ _ trivial (fun hHeld2 => ?_)
      clear hK K
      try simp only [Act.put, List.setIfInBounds_toArray, List.set_cons_zero, List.set_cons_succ]
      refine wpAnyH_take (i := 10) (oi := { dst := some 22, op := Go.Op.indexAddr 26 (Go.Operand.tmp 20) (Go.Operand.tmp 21), type := 0, pos := "ref.go:71", after := #[{ on := 8, ground := Go.Ground.data }, { on := 9, ground := Go.Ground.data }], guard := none }) (v := ?_) rfl (by kernel_rfl) (by kernel_rfl) (by kernel_rfl) (fun _ _ _ h => h) (Or.inl ⟨by rfl, ?_⟩) (by exact trivial) ?_
      rotate_left
      · intro w hSw
        go_simp
        try with_reducible rfl
      try simp only [Act.put, List.setIfInBounds_toArray, List.set_cons_zero, List.set_cons_succ]
      refine wpAnyH_ready (rs := [11]) (by kernel_rfl) (by simp) ?_
      refine AllReadyH.cons (o := { dst := some 23, op := Go.Op.load 83 (Go.Operand.tmp 22), type := 83, pos := "ref.go:71", after := #[{ on := 10, ground := Go.Ground.data }], guard := none }) rfl (fun K hK => ?_) AllReadyH.nil
      go_simp
      refine hK.out _ _ trivial (fun hHeld2 => ?_)
      clear hK K
      try simp only [Act.put, List.setIfInBounds_toArray, List.set_cons_zero, List.set_cons_succ]
      refine wpAnyH_ready (rs := [12]) (by kernel_rfl) (by simp) ?_
      refine AllReadyH.cons (o := { dst := some 24, op := Go.Op.buildSlice 26 1 #[(0, Go.Operand.tmp 23)], type := 26, pos := "ref.go:71", after := #[{ on := 11, ground := Go.Ground.data }], guard := none }) rfl (fun K hK => ?_) AllReadyH.nil
      go_simp
      refine hK.out _ _ trivial (fun hHeld2 => ?_)
      clear hK K
      try simp only [Act.put, List.setIfInBounds_toArray, List.set_cons_zero, List.set_cons_succ]
      obtain ⟨w5, hw5, B5', D5⟩ := box1 wd [.int .i64 f, .int .i64 t, .string s, .bool sp, .bool false] 83
      obtain ⟨g5, hg5⟩ : ∃ g, wd.heap.size = g := ⟨_, rfl⟩
      rw [hg5] at B5'
      simp only [hw5, hg5]
      have B5 := hide B5'
      have HB5 := hide (chain HBd.out D5)
      have HM5 := hide ((HH.out.below HB5.out).own)
      clear hw5 hg5 B5' D5
      replace r0 := (HH.out.below HB5.out).bk.cell 0 rfl
      refine wpAnyH_ready (rs := [13]) (by kernel_rfl) (by simp) ?_
      refine AllReadyH.cons (o := { dst := some 25, op := Go.Op.call { callee := Go.Callee.builtin Go.Builtin.append, args := #[Go.Operand.tmp 16, Go.Operand.tmp 24], argTypes := #[26, 26] }, type := 26, pos := "ref.go:71", after := #[{ on := 4, ground := Go.Ground.data }, { on := 12, ground := Go.Ground.data }], guard := none }) rfl (fun K hK => ?_) AllReadyH.nil
      refine step_m5 rfl (.tmp 16) (.tmp 24) rfl base (.slice (some ⟨g, 0, none⟩) D.length vc) D rfl HM5.out g5 1 ⟨f, t, s, sp, false⟩ rfl B5.out (by omega) (by have h1 := HB5.out.size; have h2 := HBS.out; omega) ?_
      intro g' c' w6 k1 k2 k3
      have HA := rpost_app HH.out HB5.out k1 k2 k3
      refine hK.out _ _ trivial (fun hHeld3 => ?_)
      clear hK K
      try simp only [Act.put, List.setIfInBounds_toArray, List.set_cons_zero, List.set_cons_succ]
      have HP := hide HA.2.2
      have HK := hide HA.2.1
      have r6 := HA.1.cell 0 rfl
      have p6 := HA.1.frozen 0
      clear HA k1 k2 k3
      refine wpAnyH_take (i := 14) (oi := { dst := some 26, op := Go.Op.nilCheck (Go.Operand.tmp 12), type := 0, pos := "ref.go:71", after := #[{ on := 0, ground := Go.Ground.data }, { on := 0, ground := Go.Ground.phase }, { on := 1, ground := Go.Ground.phase }, { on := 2, ground := Go.Ground.phase }, { on := 3, ground := Go.Ground.phase }, { on := 4, ground := Go.Ground.phase }, { on := 5, ground := Go.Ground.phase }, { on := 6, ground := Go.Ground.phase }, { on := 7, ground := Go.Ground.phase }, { on := 8, ground := Go.Ground.phase }, { on := 9, ground := Go.Ground.phase }, { on := 10, ground := Go.Ground.phase }, { on := 11, ground := Go.Ground.phase }, { on := 12, ground := Go.Ground.phase }, { on := 13, ground := Go.Ground.phase }], guard := none }) (v := ?_) rfl (by kernel_rfl) (by kernel_rfl) (by kernel_rfl) (fun _ _ _ h => h) (Or.inl ⟨by rfl, ?_⟩) (by exact trivial) ?_
      rotate_left
      · intro w hSw
        go_simp
        try with_reducible rfl
      try simp only [Act.put, List.setIfInBounds_toArray, List.set_cons_zero, List.set_cons_succ]
      refine wpAnyH_take (i := 15) (oi := { dst := some 27, op := Go.Op.fieldAddr 28 (Go.Operand.tmp 26) 0, type := 0, pos := "ref.go:71", after := #[{ on := 14, ground := Go.Ground.data }, { on := 0, ground := Go.Ground.phase }, { on := 1, ground := Go.Ground.phase }, { on := 2, ground := Go.Ground.phase }, { on := 3, ground := Go.Ground.phase }, { on := 4, ground := Go.Ground.phase }, { on := 5, ground := Go.Ground.phase }, { on := 6, ground := Go.Ground.phase }, { on := 7, ground := Go.Ground.phase }, { on := 8, ground := Go.Ground.phase }, { on := 9, ground := Go.Ground.phase }, { on := 10, ground := Go.Ground.phase }, { on := 11, ground := Go.Ground.phase }, { on := 12, ground := Go.Ground.phase }, { on := 13, ground := Go.Ground.phase }], guard := none }) (v := ?_) rfl (by kernel_rfl) (by kernel_rfl) (by kernel_rfl) (fun _ _ _ h => h) (Or.inl ⟨by rfl, ?_⟩) (by exact trivial) ?_
      rotate_left
      · intro w hSw
        go_simp
        try with_reducible rfl
      try simp only [Act.put, List.setIfInBounds_toArray, List.set_cons_zero, List.set_cons_succ]
      refine wpAnyH_ready (rs := [16]) (by kernel_rfl) (by simp) ?_
      refine AllReadyH.cons (o := { dst := none, op := Go.Op.store 26 (Go.Operand.tmp 27) (Go.Operand.tmp 25), type := 0, pos := "ref.go:71", after := #[{ on := 15, ground := Go.Ground.data }, { on := 13, ground := Go.Ground.data }, { on := 13, ground := Go.Ground.chain }, { on := 0, ground := Go.Ground.phase }, { on := 1, ground := Go.Ground.phase }, { on := 2, ground := Go.Ground.phase }, { on := 3, ground := Go.Ground.phase }, { on := 4, ground := Go.Ground.phase }, { on := 5, ground := Go.Ground.phase }, { on := 6, ground := Go.Ground.phase }, { on := 7, ground := Go.Ground.phase }, { on := 8, ground := Go.Ground.phase }, { on := 9, ground := Go.Ground.phase }, { on := 10, ground := Go.Ground.phase }, { on := 11, ground := Go.Ground.phase }, { on := 12, ground := Go.Ground.phase }, { on := 13, ground := Go.Ground.phase }], guard := none }) rfl (fun K hK => ?_) AllReadyH.nil
      go_simp
      refine hK.out _ _ trivial (fun hHeld4 => ?_)
      clear hK K
      try simp only [Act.put, List.setIfInBounds_toArray, List.set_cons_zero, List.set_cons_succ]
      refine wpAnyH_done (by kernel_rfl) ?_ _
      have e7 := HK.out.cell 0 rfl
      clear r0 r6 p6 d0 d1 d2 d3 d4
      go_wp2
      go_ret2
      exact ⟨rfl, _, HSM.out, HP.out⟩
    refine AllReadyH.cons (o := { dst := some 20, op := Go.Op.load 26 (Go.Operand.tmp 19), type := 26, pos := "ref.go:71", after := #[{ on := 7, ground := Go.Ground.data }], guard := none }) rfl (fun K hK => ?_) ?_
    · go_simp
      refine hK.out _ _ trivial (fun hHeld2 => ?_)
      clear hK K
      try simp only [Act.put, List.setIfInBounds_toArray, List.set_cons_zero, List.set_cons_succ]
      refine wpAnyH_take (i := 10) (oi := { dst := some 22, op := Go.Op.indexAddr 26 (Go.Operand.tmp 20) (Go.Operand.tmp 21), type := 0, pos := "ref.go:71", after := #[{ on := 8, ground := Go.Ground.data }, { on := 9, ground := Go.Ground.data }], guard := none }) (v := ?_) rfl (by kernel_rfl) (by kernel_rfl) (by kernel_rfl) (fun _ _ _ h => h) (Or.inl ⟨by rfl, ?_⟩) (by exact trivial) ?_
      rotate_left
      · intro w hSw
        go_simp
        try with_reducible rfl
      try simp only [Act.put, List.setIfInBounds_toArray, List.set_cons_zero, List.set_cons_succ]
      refine wpAnyH_ready (rs := [4, 11]) (by kernel_rfl) (by simp) ?_
      refine AllReadyH.cons (o := { dst := some 16, op := Go.Op.load 26 (Go.Operand.tmp 15), type := 26, pos := "ref.go:71", after := #[{ on := 3, ground := Go.Ground.data }], guard := none }) rfl (fun K hK => ?_) ?_
      · go_simp
        refine hK.out _ _ trivial (fun hHeld2 => ?_)
        clear hK K
        try simp only [Act.put, List.setIfInBounds_toArray, List.set_cons_zero, List.set_cons_succ]
        refine wpAnyH_ready (rs := [11]) (by kernel_rfl) (by simp) ?_
        refine AllReadyH.cons (o := { dst := some 23, op := Go.Op.load 83 (Go.Operand.tmp 22), type := 83, pos := "ref.go:71", after := #[{ on := 10, ground := Go.Ground.data }], guard := none }) rfl (fun K hK => ?_) AllReadyH.nil
        go_simp
        refine hK.out _ _ trivial (fun hHeld2 => ?_)
        clear hK K
        try simp only [Act.put, List.setIfInBounds_toArray, List.set_cons_zero, List.set_cons_succ]
        refine wpAnyH_ready (rs := [12]) (by kernel_rfl) (by simp) ?_
        refine AllReadyH.cons (o := { dst := some 24, op := Go.Op.buildSlice 26 1 #[(0, Go.Operand.tmp 23)], type := 26, pos := "ref.go:71", after := #[{ on := 11, ground := Go.Ground.data }], guard := none }) rfl (fun K hK => ?_) AllReadyH.nil
        go_simp
        refine hK.out _ _ trivial (fun hHeld2 => ?_)
        clear hK K
        try simp only [Act.put, List.setIfInBounds_toArray, List.set_cons_zero, List.set_cons_succ]
        obtain ⟨w5, hw5, B5', D5⟩ := box1 wd [.int .i64 f, .int .i64 t, .string s, .bool sp, .bool false] 83
        obtain ⟨g5, hg5⟩ : ∃ g, wd.heap.size = g := ⟨_, rfl⟩
        rw [hg5] at B5'
        simp only [hw5, hg5]
        have B5 := hide B5'
        have HB5 := hide (chain HBd.out D5)
        have HM5 := hide ((HH.out.below HB5.out).own)
        clear hw5 hg5 B5' D5
        replace r0 := (HH.out.below HB5.out).bk.cell 0 rfl
        refine wpAnyH_ready (rs := [13]) (by kernel_rfl) (by simp) ?_
        refine AllReadyH.cons (o := { dst := some 25, op := Go.Op.call { callee := Go.Callee.builtin Go.Builtin.append, args := #[Go.Operand.tmp 16, Go.Operand.tmp 24], argTypes := #[26, 26] }, type := 26, pos := "ref.go:71", after := #[{ on := 4, ground := Go.Ground.data }, { on := 12, ground := Go.Ground.data }], guard := none }) rfl (fun K hK => ?_) AllReadyH.nil
        refine step_m5 rfl (.tmp 16) (.tmp 24) rfl base (.slice (some ⟨g, 0, none⟩) D.length vc) D rfl HM5.out g5 1 ⟨f, t, s, sp, false⟩ rfl B5.out (by omega) (by have h1 := HB5.out.size; have h2 := HBS.out; omega) ?_
        intro g' c' w6 k1 k2 k3
        have HA := rpost_app HH.out HB5.out k1 k2 k3
        refine hK.out _ _ trivial (fun hHeld3 => ?_)
        clear hK K
        try simp only [Act.put, List.setIfInBounds_toArray, List.set_cons_zero, List.set_cons_succ]
        have HP := hide HA.2.2
        have HK := hide HA.2.1
        have r6 := HA.1.cell 0 rfl
        have p6 := HA.1.frozen 0
        clear HA k1 k2 k3
        refine wpAnyH_take (i := 14) (oi := { dst := some 26, op := Go.Op.nilCheck (Go.Operand.tmp 12), type := 0, pos := "ref.go:71", after := #[{ on := 0, ground := Go.Ground.data }, { on := 0, ground := Go.Ground.phase }, { on := 1, ground := Go.Ground.phase }, { on := 2, ground := Go.Ground.phase }, { on := 3, ground := Go.Ground.phase }, { on := 4, ground := Go.Ground.phase }, { on := 5, ground := Go.Ground.phase }, { on := 6, ground := Go.Ground.phase }, { on := 7, ground := Go.Ground.phase }, { on := 8, ground := Go.Ground.phase }, { on := 9, ground := Go.Ground.phase }, { on := 10, ground := Go.Ground.phase }, { on := 11, ground := Go.Ground.phase }, { on := 12, ground := Go.Ground.phase }, { on := 13, ground := Go.Ground.phase }], guard := none }) (v := ?_) rfl (by kernel_rfl) (by kernel_rfl) (by kernel_rfl) (fun _ _ _ h => h) (Or.inl ⟨by rfl, ?_⟩) (by exact trivial) ?_
        rotate_left
        · intro w hSw
          go_simp
          try with_reducible rfl
        try simp only [Act.put, List.setIfInBounds_toArray, List.set_cons_zero, List.set_cons_succ]
        refine wpAnyH_take (i := 15) (oi := { dst := some 27, op := Go.Op.fieldAddr 28 (Go.Operand.tmp 26) 0, type := 0, pos := "ref.go:71", after := #[{ on := 14, ground := Go.Ground.data }, { on := 0, ground := Go.Ground.phase }, { on := 1, ground := Go.Ground.phase }, { on := 2, ground := Go.Ground.phase }, { on := 3, ground := Go.Ground.phase }, { on := 4, ground := Go.Ground.phase }, { on := 5, ground := Go.Ground.phase }, { on := 6, ground := Go.Ground.phase }, { on := 7, ground := Go.Ground.phase }, { on := 8, ground := Go.Ground.phase }, { on := 9, ground := Go.Ground.phase }, { on := 10, ground := Go.Ground.phase }, { on := 11, ground := Go.Ground.phase }, { on := 12, ground := Go.Ground.phase }, { on := 13, ground := Go.Ground.phase }], guard := none }) (v := ?_) rfl (by kernel_rfl) (by kernel_rfl) (by kernel_rfl) (fun _ _ _ h => h) (Or.inl ⟨by rfl, ?_⟩) (by exact trivial) ?_
        rotate_left
        · intro w hSw
          go_simp
          try with_reducible rfl
        try simp only [Act.put, List.setIfInBounds_toArray, List.set_cons_zero, List.set_cons_succ]
        refine wpAnyH_ready (rs := [16]) (by kernel_rfl) (by simp) ?_
        refine AllReadyH.cons (o := { dst := none, op := Go.Op.store 26 (Go.Operand.tmp 27) (Go.Operand.tmp 25), type := 0, pos := "ref.go:71", after := #[{ on := 15, ground := Go.Ground.data }, { on := 13, ground := Go.Ground.data }, { on := 13, ground := Go.Ground.chain }, { on := 0, ground := Go.Ground.phase }, { on := 1, ground := Go.Ground.phase }, { on := 2, ground := Go.Ground.phase }, { on := 3, ground := Go.Ground.phase }, { on := 4, ground := Go.Ground.phase }, { on := 5, ground := Go.Ground.phase }, { on := 6, ground := Go.Ground.phase }, { on := 7, ground := Go.Ground.phase }, { on := 8, ground := Go.Ground.phase }, { on := 9, ground := Go.Ground.phase }, { on := 10, ground := Go.Ground.phase }, { on := 11, ground := Go.Ground.phase }, { on := 12, ground := Go.Ground.phase }, { on := 13, ground := Go.Ground.phase }], guard := none }) rfl (fun K hK => ?_) AllReadyH.nil
        go_simp
        refine hK.out _ _ trivial (fun hHeld4 => ?_)
        clear hK K
        try simp only [Act.put, List.setIfInBounds_toArray, List.set_cons_zero, List.set_cons_succ]
        refine wpAnyH_done (by kernel_rfl) ?_ _
        have e7 := HK.out.cell 0 rfl
        clear r0 r6 p6 d0 d1 d2 d3 d4
        go_wp2
        go_ret2
        exact ⟨rfl, _, HSM.out, HP.out⟩
      refine AllReadyH.cons (o := { dst := some 23, op := Go.Op.load 83 (Go.Operand.tmp 22), type := 83, pos := "ref.go:71", after := #[{ on := 10, ground := Go.Ground.data }], guard := none }) rfl (fun K hK => ?_) ?_
      · go_simp
        refine hK.out _ _ trivial (fun hHeld2 => ?_)
        clear hK K
        try simp only [Act.put, List.setIfInBounds_toArray, List.set_cons_zero, List.set_cons_succ]
        refine wpAnyH_ready (rs := [4, 12]) (by kernel_rfl) (by simp) ?_
        refine AllReadyH.cons (o := { dst := some 16, op := Go.Op.load 26 (Go.Operand.tmp 15), type := 26, pos := "ref.go:71", after := #[{ on := 3, ground := Go.Ground.data }], guard := none }) rfl (fun K hK => ?_) ?_
        · go_simp
          refine hK.out _ _ trivial (fun hHeld2 => ?_)
          clear hK K
          try simp only [Act.put, List.setIfInBounds_toArray, List.set_cons_zero, List.set_cons_succ]
          refine wpAnyH_ready (rs := [12]) (by kernel_rfl) (by simp) ?_
          refine AllReadyH.cons (o := { dst := some 24, op := Go.Op.buildSlice 26 1 #[(0, Go.Operand.tmp 23)], type := 26, pos := "ref.go:71", after := #[{ on := 11, ground := Go.Ground.data }], guard := none }) rfl (fun K hK => ?_) AllReadyH.nil
          go_simp
          refine hK.out _ _ trivial (fun hHeld2 => ?_)
          clear hK K
          try simp only [Act.put, List.setIfInBounds_toArray, List.set_cons_zero, List.set_cons_succ]
          obtain ⟨w5, hw5, B5', D5⟩ := box1 wd [.int .i64 f, .int .i64 t, .string s, .bool sp, .bool false] 83
          obtain ⟨g5, hg5⟩ : ∃ g, wd.heap.size = g := ⟨_, rfl⟩
          rw [hg5] at B5'
          simp only [hw5, hg5]
          have B5 := hide B5'
          have HB5 := hide (chain HBd.out D5)
          have HM5 := hide ((HH.out.below HB5.out).own)
          clear hw5 hg5 B5' D5
          replace r0 := (HH.out.below HB5.out).bk.cell 0 rfl
          refine wpAnyH_ready (rs := [13]) (by kernel_rfl) (by simp) ?_
          refine AllReadyH.cons (o := { dst := some 25, op := Go.Op.call { callee := Go.Callee.builtin Go.Builtin.append, args := #[Go.Operand.tmp 16, Go.Operand.tmp 24], argTypes := #[26, 26] }, type := 26, pos := "ref.go:71", after := #[{ on := 4, ground := Go.Ground.data }, { on := 12, ground := Go.Ground.data }], guard := none }) rfl (fun K hK => ?_) AllReadyH.nil
          refine step_m5 rfl (.tmp 16) (.tmp 24) rfl base (.slice (some ⟨g, 0, none⟩) D.length vc) D rfl HM5.out g5 1 ⟨f, t, s, sp, false⟩ rfl B5.out (by omega) (by have h1 := HB5.out.size; have h2 := HBS.out; omega) ?_
          intro g' c' w6 k1 k2 k3
          have HA := rpost_app HH.out HB5.out k1 k2 k3
          refine hK.out _ _ trivial (fun hHeld3 => ?_)
          clear hK K
          try simp only [Act.put, List.setIfInBounds_toArray, List.set_cons_zero, List.set_cons_succ]
          have HP := hide HA.2.2
          have HK := hide HA.2.1
          have r6 := HA.1.cell 0 rfl
          have p6 := HA.1.frozen 0
          clear HA k1 k2 k3
          refine wpAnyH_take (i := 14) (oi := { dst := some 26, op := Go.Op.nilCheck (Go.Operand.tmp 12), type := 0, pos := "ref.go:71", after := #[{ on := 0, ground := Go.Ground.data }, { on := 0, ground := Go.Ground.phase }, { on := 1, ground := Go.Ground.phase }, { on := 2, ground := Go.Ground.phase }, { on := 3, ground := Go.Ground.phase }, { on := 4, ground := Go.Ground.phase }, { on := 5, ground := Go.Ground.phase }, { on := 6, ground := Go.Ground.phase }, { on := 7, ground := Go.Ground.phase }, { on := 8, ground := Go.Ground.phase }, { on := 9, ground := Go.Ground.phase }, { on := 10, ground := Go.Ground.phase }, { on := 11, ground := Go.Ground.phase }, { on := 12, ground := Go.Ground.phase }, { on := 13, ground := Go.Ground.phase }], guard := none }) (v := ?_) rfl (by kernel_rfl) (by kernel_rfl) (by kernel_rfl) (fun _ _ _ h => h) (Or.inl ⟨by rfl, ?_⟩) (by exact trivial) ?_
          rotate_left
          · intro w hSw
            go_simp
            try with_reducible rfl
          try simp only [Act.put, List.setIfInBounds_toArray, List.set_cons_zero, List.set_cons_succ]
          refine wpAnyH_take (i := 15) (oi := { dst := some 27, op := Go.Op.fieldAddr 28 (Go.Operand.tmp 26) 0, type := 0, pos := "ref.go:71", after := #[{ on := 14, ground := Go.Ground.data }, { on := 0, ground := Go.Ground.phase }, { on := 1, ground := Go.Ground.phase }, { on := 2, ground := Go.Ground.phase }, { on := 3, ground := Go.Ground.phase }, { on := 4, ground := Go.Ground.phase }, { on := 5, ground := Go.Ground.phase }, { on := 6, ground := Go.Ground.phase }, { on := 7, ground := Go.Ground.phase }, { on := 8, ground := Go.Ground.phase }, { on := 9, ground := Go.Ground.phase }, { on := 10, ground := Go.Ground.phase }, { on := 11, ground := Go.Ground.phase }, { on := 12, ground := Go.Ground.phase }, { on := 13, ground := Go.Ground.phase }], guard := none }) (v := ?_) rfl (by kernel_rfl) (by kernel_rfl) (by kernel_rfl) (fun _ _ _ h => h) (Or.inl ⟨by rfl, ?_⟩) (by exact trivial) ?_
          rotate_left
          · intro w hSw
            go_simp
            try with_reducible rfl
          try simp only [Act.put, List.setIfInBounds_toArray, List.set_cons_zero, List.set_cons_succ]
          refine wpAnyH_ready (rs := [16]) (by kernel_rfl) (by simp) ?_
          refine AllReadyH.cons (o := { dst := none, op := Go.Op.store 26 (Go.Operand.tmp 27) (Go.Operand.tmp 25), type := 0, pos := "ref.go:71", after := #[{ on := 15, ground := Go.Ground.data }, { on := 13, ground := Go.Ground.data }, { on := 13, ground := Go.Ground.chain }, { on := 0, ground := Go.Ground.phase }, { on := 1, ground := Go.Ground.phase }, { on := 2, ground := Go.Ground.phase }, { on := 3, ground := Go.Ground.phase }, { on := 4, ground := Go.Ground.phase }, { on := 5, ground := Go.Ground.phase }, { on := 6, ground := Go.Ground.phase }, { on := 7, ground := Go.Ground.phase }, { on := 8, ground := Go.Ground.phase }, { on := 9, ground := Go.Ground.phase }, { on := 10, ground := Go.Ground.phase }, { on := 11, ground := Go.Ground.phase }, { on := 12, ground := Go.Ground.phase }, { on := 13, ground := Go.Ground.phase }], guard := none }) rfl (fun K hK => ?_) AllReadyH.nil
          go_simp
          refine hK.out _ _ trivial (fun hHeld4 => ?_)
          clear hK K
          try simp only [Act.put, List.setIfInBounds_toArray, List.set_cons_zero, List.set_cons_succ]
          refine wpAnyH_done (by kernel_rfl) ?_ _
          have e7 := HK.out.cell 0 rfl
          clear r0 r6 p6 d0 d1 d2 d3 d4
          go_wp2
          go_ret2
          exact ⟨rfl, _, HSM.out, HP.out⟩
        refine AllReadyH.cons (o := { dst := some 24, op := Go.Op.buildSlice 26 1 #[(0, Go.Operand.tmp 23)], type := 26, pos := "ref.go:71", after := #[{ on := 11, ground := Go.Ground.data }], guard := none }) rfl (fun K hK => ?_) ?_
        · go_simp
          refine hK.out _ _ trivial (fun hHeld2 => ?_)
          clear hK K
          try simp only [Act.put, List.setIfInBounds_toArray, List.set_cons_zero, List.set_cons_succ]
          obtain ⟨w5, hw5, B5', D5⟩ := box1 wd [.int .i64 f, .int .i64 t, .string s, .bool sp, .bool false] 83
          obtain ⟨g5, hg5⟩ : ∃ g, wd.heap.size = g := ⟨_, rfl⟩
          rw [hg5] at B5'
          simp only [hw5, hg5]
          have B5 := hide B5'
          have HB5 := hide (chain HBd.out D5)
          have HM5 := hide ((HH.out.below HB5.out).own)
          clear hw5 hg5 B5' D5
          replace r0 := (HH.out.below HB5.out).bk.cell 0 rfl
          refine wpAnyH_ready (rs := [4]) (by kernel_rfl) (by simp) ?_
          refine AllReadyH.cons (o := { dst := some 16, op := Go.Op.load 26 (Go.Operand.tmp 15), type := 26, pos := "ref.go:71", after := #[{ on := 3, ground := Go.Ground.data }], guard := none }) rfl (fun K hK => ?_) AllReadyH.nil
          go_simp
          refine hK.out _ _ trivial (fun hHeld2 => ?_)
          clear hK K
          try simp only [Act.put, List.setIfInBounds_toArray, List.set_cons_zero, List.set_cons_succ]
          refine wpAnyH_ready (rs := [13]) (by kernel_rfl) (by simp) ?_
          refine AllReadyH.cons (o := { dst := some 25, op := Go.Op.call { callee := Go.Callee.builtin Go.Builtin.append, args := #[Go.Operand.tmp 16, Go.Operand.tmp 24], argTypes := #[26, 26] }, type := 26, pos := "ref.go:71", after := #[{ on := 4, ground := Go.Ground.data }, { on := 12, ground := Go.Ground.data }], guard := none }) rfl (fun K hK => ?_) AllReadyH.nil
          refine step_m5 rfl (.tmp 16) (.tmp 24) rfl base (.slice (some ⟨g, 0, none⟩) D.length vc) D rfl HM5.out g5 1 ⟨f, t, s, sp, false⟩ rfl B5.out (by omega) (by have h1 := HB5.out.size; have h2 := HBS.out; omega) ?_
          intro g' c' w6 k1 k2 k3
          have HA := rpost_app HH.out HB5.out k1 k2 k3
          refine hK.out _ _ trivial (fun hHeld3 => ?_)
          clear hK K
          try simp only [Act.put, List.setIfInBounds_toArray, List.set_cons_zero, List.set_cons_succ]
          have HP := hide HA.2.2
          have HK := hide HA.2.1
          have r6 := HA.1.cell 0 rfl
          have p6 := HA.1.frozen 0
          clear HA k1 k2 k3
          refine wpAnyH_take (i := 14) (oi := { dst := some 26, op := Go.Op.nilCheck (Go.Operand.tmp 12), type := 0, pos := "ref.go:71", after := #[{ on := 0, ground := Go.Ground.data }, { on := 0, ground := Go.Ground.phase }, { on := 1, ground := Go.Ground.phase }, { on := 2, ground := Go.Ground.phase }, { on := 3, ground := Go.Ground.phase }, { on := 4, ground := Go.Ground.phase }, { on := 5, ground := Go.Ground.phase }, { on := 6, ground := Go.Ground.phase }, { on := 7, ground := Go.Ground.phase }, { on := 8, ground := Go.Ground.phase }, { on := 9, ground := Go.Ground.phase }, { on := 10, ground := Go.Ground.phase }, { on := 11, ground := Go.Ground.phase }, { on := 12, ground := Go.Ground.phase }, { on := 13, ground := Go.Ground.phase }], guard := none }) (v := ?_) rfl (by kernel_rfl) (by kernel_rfl) (by kernel_rfl) (fun _ _ _ h => h) (Or.inl ⟨by rfl, ?_⟩) (by exact trivial) ?_
          rotate_left
          · intro w hSw
            go_simp
            try with_reducible rfl
          try simp only [Act.put, List.setIfInBounds_toArray, List.set_cons_zero, List.set_cons_succ]
          refine wpAnyH_take (i := 15) (oi := { dst := some 27, op := Go.Op.fieldAddr 28 (Go.Operand.tmp 26) 0, type := 0, pos := "ref.go:71", after := #[{ on := 14, ground := Go.Ground.data }, { on := 0, ground := Go.Ground.phase }, { on := 1, ground := Go.Ground.phase }, { on := 2, ground := Go.Ground.phase }, { on := 3, ground := Go.Ground.phase }, { on := 4, ground := Go.Ground.phase }, { on := 5, ground := Go.Ground.phase }, { on := 6, ground := Go.Ground.phase }, { on := 7, ground := Go.Ground.phase }, { on := 8, ground := Go.Ground.phase }, { on := 9, ground := Go.Ground.phase }, { on := 10, ground := Go.Ground.phase }, { on := 11, ground := Go.Ground.phase }, { on := 12, ground := Go.Ground.phase }, { on := 13, ground := Go.Ground.phase }], guard := none }) (v := ?_) rfl (by kernel_rfl) (by kernel_rfl) (by kernel_rfl) (fun _ _ _ h => h) (Or.inl ⟨by rfl, ?_⟩) (by exact trivial) ?_
          rotate_left
          · intro w hSw
            go_simp
            try with_reducible rfl
          try simp only [Act.put, List.setIfInBounds_toArray, List.set_cons_zero, List.set_cons_succ]
          refine wpAnyH_ready (rs := [16]) (by kernel_rfl) (by simp) ?_
          refine AllReadyH.cons (o := { dst := none, op := Go.Op.store 26 (Go.Operand.tmp 27) (Go.Operand.tmp 25), type := 0, pos := "ref.go:71", after := #[{ on := 15, ground := Go.Ground.data }, { on := 13, ground := Go.Ground.data }, { on := 13, ground := Go.Ground.chain }, { on := 0, ground := Go.Ground.phase }, { on := 1, ground := Go.Ground.phase }, { on := 2, ground := Go.Ground.phase }, { on := 3, ground := Go.Ground.phase }, { on := 4, ground := Go.Ground.phase }, { on := 5, ground := Go.Ground.phase }, { on := 6, ground := Go.Ground.phase }, { on := 7, ground := Go.Ground.phase }, { on := 8, ground := Go.Ground.phase }, { on := 9, ground := Go.Ground.phase }, { on := 10, ground := Go.Ground.phase }, { on := 11, ground := Go.Ground.phase }, { on := 12, ground := Go.Ground.phase }, { on := 13, ground := Go.Ground.phase }], guard := none }) rfl (fun K hK => ?_) AllReadyH.nil
          go_simp
          refine hK.out _ _ trivial (fun hHeld4 => ?_)
          clear hK K
          try simp only [Act.put, List.setIfInBounds_toArray, List.set_cons_zero, List.set_cons_succ]
          refine wpAnyH_done (by kernel_rfl) ?_ _
          have e7 := HK.out.cell 0 rfl
          clear r0 r6 p6 d0 d1 d2 d3 d4
          go_wp2
          go_ret2
          exact ⟨rfl, _, HSM.out, HP.out⟩
        exact AllReadyH.nil
      exact AllReadyH.nil
    exact AllReadyH.nil
  · obtain ⟨-, h17, hz⟩ := sm_not hS hE
    have HI : Hid (fI L N = -1) := by unfold Hid fI; rw [if_neg hE]
    rw [HI.out] at HF
    have HSM : Hid (Sm (cL L N) D) := by unfold Hid cL; rw [if_neg hE]; exact hS
    rw [show cN L N = 0 by unfold cN; rw [if_neg hE], h17]
    clear hE hz h17 hS ok hl HI
    go_enter Tryd.func28, Tryd.ntmps28
    go_wp2_with fail
    refine Calls.mono HF.out ?_
    rintro e w1 ⟨rfl, b⟩
    have HD := hide b
    clear b HF
    go_wp2
    go_ret2
    exact ⟨rfl, _, HSM.out, HH.out.post HD.out⟩
set_option maxRecDepth 100000 in
set_option maxHeartbeats 2000000 in
theorem rtake_any {base rb : Nat} {va : Option Addr} {vc : Nat} {D : List Md} {L : Lk} (N : Int) (hN1 : -9223372036854775808 ≤ N) (hN2 : N ≤ 9223372036854775807) (ok : ∀ k x, L.M k = some x → 1 ≤ k ∧ k ≤ (L.n : Int)) (hS : Sm L D) (hn : L.n ≤ 2199023255552) {w : World} (h : RAt w base rb va vc D) :
    Calls Tryd.prog 27 #[.pointer (some ⟨rb, 0, none⟩), .int .i64 N] w fun e w' => e = .returned (.tuple #[(fv L N).a, .int .i64 (fE L N : Nat)]) ∧ ∃ D', Sm (tL L N) D' ∧ RPost w w' base rb va D' := by
  have HF := hide (fun (w' : World) (D1 : Below w.heap.size w w') => rlook_any N hN1 hN2 ok hS (by omega) (h.below D1))
  obtain ⟨W, hW, B0, D0⟩ := box1 w [.int .i64 0, .int .i64 0, .string ⟨#[]⟩] 41
  obtain ⟨q, hq⟩ : ∃ q, w.heap.size = q := ⟨_, rfl⟩
  have HQ0 : Hid (w.heap.size ≤ q) := Nat.le_of_eq hq
  have HRB : Hid (rb < q ∧ ∀ g, va.map (·.block) = some g → g < q) := by
    have h1 := h.bk.lt
    rw [← hq]
    exact ⟨h1, fun g e => (World.ownsRow.lt h.own g (by rw [ob]; exact e)).2⟩
  rw [hq] at B0
  have HB0 := hide B0
  have HD := hide D0
  have HWD := hide hW
  have HQ := hide hq
  have HH := hide h
  have hl := hS.len
  obtain ⟨⟨f, t, s, sp⟩, hX⟩ : ∃ X, fv L N = X := ⟨_, rfl⟩
  rw [hX] at HF
  rw [hX]
  dsimp only [Lt.a] at HF ⊢
  clear B0 D0 hW hq h hN1 hN2
  by_cases hE : fE L N = 0
  · obtain ⟨k, rfl, hk1, f', t', s', sp', hd, hfv, -, -⟩ := sm_there hS ok hE
    rw [hX] at hfv
    obtain ⟨rfl, rfl, rfl, rfl⟩ := Lt.mk.inj hfv
    rw [hE] at HF
    rw [hE]
    obtain ⟨g, rfl, -⟩ := mget HH.out.own hd
    have HSM := hide (sm_spend hS k f t s sp)
    have HDK := hide hd
    have hkD : k < D.length := by omega
    have f3 : (k : Int) < (D.length : Int) := by omega
    have f4 : ¬ (k : Int) < 0 := by omega
    clear hE hfv hd hS ok hl hX
    go_enter Tryd.func27, Tryd.ntmps27
    go_upto_region 1 with fail
    have hW := HWD.out
    have hq := HQ.out
    clear HWD HQ
    simp only [hW, hq]
    clear hW hq
    go_wp2_with fail
    refine Calls.mono (HF.out W HD.out) ?_
    rintro e W1 ⟨rfl, b⟩
    replace HD := hide (chain HD.out b)
    replace HB0 := hide (HB0.out.below b)
    clear b HF
    obtain ⟨W2, hW2, B2, D2⟩ := box1 W1 [.int .i64 f, .int .i64 t, .string s] 41
    obtain ⟨q2, hq2⟩ : ∃ q, W1.heap.size = q := ⟨_, rfl⟩
    rw [hq2] at B2
    have HB2 := hide B2
    have HQ2 : Hid (q < q2 ∧ W1.heap.size ≤ q2) := by have h1 := HB0.out.lt; exact ⟨by omega, Nat.le_of_eq hq2⟩
    replace HD := hide (chain HD.out D2)
    replace HB0 := hide (HB0.out.below D2)
    clear B2 D2
    go_upto_region 2 with fail
    try simp only [hW2, hq2]
    clear hW2 hq2
    have hR := HH.out.below HD.out
    obtain ⟨-, HR3, ⟨x, y0⟩, p0, HFm⟩ := rpost_set (w := w) (j := 4) (u := .bool true) (y := ⟨f, t, s, sp, true⟩) hR rfl (Frm.ofBelow HD.out) hkD ⟨_, HDK.out, rfl⟩ (by decide)
    have HR3 := hide HR3
    have HFm := hide HFm
    have hgq : g < q := HRB.out.2 g rfl
    have r0 := hR.bk.cell 0 rfl
    have HB03 : Hid (Bk (W2.setCell ⟨g, k * 5 + 4, none⟩ (.bool true)) q [.int .i64 0, .int .i64 0, .string ⟨#[]⟩] 41) := HB0.out.other ⟨g, k * 5 + 4, none⟩ _ (by show q ≠ g; omega)
    have HB23 : Hid (Bk (W2.setCell ⟨g, k * 5 + 4, none⟩ (.bool true)) q2 [.int .i64 f, .int .i64 t, .string s] 41) := HB2.out.other ⟨g, k * 5 + 4, none⟩ _ (by have := HQ2.out.1; show q2 ≠ g; omega)
    clear hR
    go_upto_region 4 with fail
    obtain ⟨W3, hW3⟩ : ∃ z, W2.setCell ⟨g, k * 5 + 4, none⟩ (.bool true) = z := ⟨_, rfl⟩
    rw [hW3] at HR3 HFm HB03 HB23
    try simp only [hW3]
    clear hW3 y0 p0 r0
    have x0 := HB23.out.cell 0 rfl
    have x1 := HB23.out.cell 1 rfl
    have x2 := HB23.out.cell 2 rfl
    have n0 := HB03.out.cell 0 rfl
    have n1 := HB03.out.cell 1 rfl
    have n2 := HB03.out.cell 2 rfl
    have p0 := HB03.out.frozen 0
    have p1 := HB03.out.frozen 1
    have p2 := HB03.out.frozen 2
    obtain ⟨W4, hW4, Y1, Y2⟩ := put3 HB03.out rfl f t s
    have HF4 : Hid (Frm (fun j => j = q) W3 W4) := by
      rw [← hW4]
      exact ((frm_setCell _ ⟨q, 0, none⟩ _).trans (frm_setCell _ ⟨q, 1, none⟩ _) (fun _ _ e => e)).trans (frm_setCell _ ⟨q, 2, none⟩ _) (fun _ _ e => e)
    have e0 := Y1.cell 0 rfl
    have e1 := Y1.cell 1 rfl
    have e2 := Y1.cell 2 rfl
    clear Y1 Y2
    go_wp2
    try simp only [hW4]
    refine bodyPost_ret (v := .tuple #[.agg #[.int .i64 f, .int .i64 t, .string s], .int .i64 0]) (by simp [results, Tryd.results27, go_sem, e0, e1, e2]) rfl ?_
    refine ⟨rfl, _, HSM.out, ?_⟩
    have hrq : rb < q := HRB.out.1
    have h1 := HR3.out
    exact ⟨_, _, ⟨by
      have h4 := h1.bk
      have h5 := h4.lt
      unfold Bk at *
      rw [HF4.out.block rb h5 (by omega)]
      exact h4, h1.own.frm HF4.out (fun g' e => by rw [ob] at e; have := Option.some.inj e; dsimp only at this; omega), h1.hb⟩, HFm.out.trans HF4.out (fun j hj e => by have := HQ0.out; omega), fun g' e => .inl e⟩
  · obtain ⟨-, h17, hz⟩ := sm_not hS hE
    have HSM : Hid (Sm (tL L N) D) := by unfold Hid; rw [tL_none hE]; exact hS
    have HE17 : Hid (((17 : Nat) : Int) ≠ 0) := by unfold Hid; decide
    rw [h17] at HF
    rw [h17]
    clear hE hz h17 hS ok hl hX
    go_enter Tryd.func27, Tryd.ntmps27
    go_upto_region 1 with fail
    have hW := HWD.out
    have hq := HQ.out
    clear HWD HQ
    simp only [hW, hq]
    clear hW hq
    go_wp2_with fail
    refine Calls.mono (HF.out W HD.out) ?_
    rintro e W1 ⟨rfl, b⟩
    replace HD := hide (chain HD.out b)
    replace HB0 := hide (HB0.out.below b)
    clear b HF
    obtain ⟨W2, hW2, B2, D2⟩ := box1 W1 [.int .i64 f, .int .i64 t, .string s] 41
    obtain ⟨q2, hq2⟩ : ∃ q, W1.heap.size = q := ⟨_, rfl⟩
    rw [hq2] at B2
    have HB2 := hide B2
    replace HD := hide (chain HD.out D2)
    replace HB0 := hide (HB0.out.below D2)
    clear B2 D2
    go_upto_region 2 with fail
    try simp only [hW2, hq2]
    clear hW2 hq2
    have x0 := HB2.out.cell 0 rfl
    have x1 := HB2.out.cell 1 rfl
    have x2 := HB2.out.cell 2 rfl
    have n0 := HB0.out.cell 0 rfl
    have n1 := HB0.out.cell 1 rfl
    have n2 := HB0.out.cell 2 rfl
    have p0 := HB0.out.frozen 0
    have p1 := HB0.out.frozen 1
    have p2 := HB0.out.frozen 2
    obtain ⟨W4, hW4, Y1, Y2⟩ := put3 HB0.out rfl f t s
    have XN := hide (Y2 _ _ HQ0.out HD.out)
    have e0 := Y1.cell 0 rfl
    have e1 := Y1.cell 1 rfl
    have e2 := Y1.cell 2 rfl
    clear Y1 Y2
    go_wp2
    try simp only [hW4]
    refine bodyPost_ret (v := .tuple #[.agg #[.int .i64 f, .int .i64 t, .string s], .int .i64 17]) (by simp [results, Tryd.results27, go_sem, e0, e1, e2]) rfl ?_
    exact ⟨rfl, _, HSM.out, HH.out.post XN.out⟩
end Go.Proofs.YtgnkmenjjmfcfaaDoor
