/-
  The document's Waiting and Flush.
-/
import Derived.Test.YtgnkmenjjmfcfaaDoorLkRI
namespace Go.Proofs.YtgnkmenjjmfcfaaDoor
open Go.RowKit FerryCrc Q
set_option linter.unusedVariables false
set_option linter.unusedSimpArgs false

def pre (L : Lk) (d : Int) (i : Nat) : List Int := ((List.range i).map (fun i : Nat => (i : Int) + 1)).filter (wtP L d)
theorem pre_succ (L : Lk) (d : Int) (i : Nat) : pre L d (i + 1) = pre L d i ++ (if wtP L d ((i : Int) + 1) = true then [(i : Int) + 1] else []) := by
  unfold pre
  rw [List.range_succ, List.map_append, List.filter_append, List.map_singleton, List.filter_cons, List.filter_nil]
theorem pre_len (L : Lk) (d : Int) (i : Nat) : (pre L d i).length ≤ i := by
  unfold pre
  refine Nat.le_trans (List.length_filter_le _ _) ?_
  rw [List.length_map, List.length_range]
  exact Nat.le_refl _
theorem sm_wtP {L : Lk} {D : List Md} (h : Sm L D) {k : Nat} {f t : Int} {s : ByteArray} {sp st : Bool} (hd : D[k]? = some ⟨f, t, s, sp, st⟩) (d : Int) : wtP L d ((k : Int) + 1) = (decide (t = d) && !st) := by
  unfold wtP
  rcases h.per k _ hd with ⟨h1, h2⟩ | ⟨h1, h2, -⟩
  · dsimp only at h1
    rw [h2, h1]
    simp
  · dsimp only at h1 h2
    rw [h2, h1]
    simp
set_option maxRecDepth 100000 in
set_option maxHeartbeats 2000000 in
theorem rwaiting_any {base rb : Nat} {va : Option Addr} {vc : Nat} {D : List Md} {L : Lk} (d : Int) (hS : Sm L D) (hn : L.n ≤ 2199023255552) {w : World} (h : RAt w base rb va vc D) :
    Calls Tryd.prog 21 #[.pointer (some ⟨rb, 0, none⟩), .int .i64 d] w fun e w' => ∃ a n c, e = .returned (.slice a n c) ∧ n = (wtL L d).length ∧ IsOwn w' w.heap.size (.slice a n c) (wtL L d) ∧ Below w.heap.size w w' := by
  have HH := hide h
  have hl := hS.len
  have HS := hide hS
  have hD : (D.length : Int) ≤ 2199023255552 := by omega
  have HLn := hide hl
  clear h hS hl
  go_enter Tryd.func21, Tryd.ntmps21
  go_upto_region 3 with fail
  go_loopw [5, 6] (fun v s wr => ∃ i : Nat, i ≤ D.length ∧ s = .int .i64 (i : Int) ∧ Hid (IsOwn wr w.heap.size v (pre L d i)) ∧ Hid (Below w.heap.size w wr)) (fun _ s _ => D.length - (intOf s).toNat)
  case atStart => exact ⟨0, Nat.zero_le _, rfl, isOwn_nil _ _, Below.refl _ _⟩
  case round =>
  obtain ⟨i, hi, rfl, HZ, HB⟩ := hrel
  have r0 := (HH.out.below HB.out).bk.cell 0 rfl
  obtain ⟨za, zc, rfl⟩ := own_len HZ.out rfl
  by_cases hlt : i < D.length
  · obtain ⟨⟨f, t, s, sp, st⟩, hd⟩ : ∃ x, D[i]? = some x := ⟨_, List.getElem?_eq_getElem hlt⟩
    have HWT0 : Hid (wtP L d ((i : Int) + 1) = (decide (t = d) && !st)) := sm_wtP HS.out hd d
    obtain ⟨g, hg, d0, d1, d2, d3, d4⟩ := mget ((HH.out.below HB.out).own) hd
    subst hg
    have f3 : (i : Int) < (D.length : Int) := by omega
    have f4 : ¬ (i : Int) < 0 := by omega
    have hpl := pre_len L d i
    clear hd
    cases st with
    | true =>
      have HWT : Hid (wtP L d ((i : Int) + 1) = false) := by unfold Hid; rw [HWT0.out]; simp
      clear HWT0
      go_wp2
      exact ⟨⟨i + 1, by omega, by simp, by unfold Hid; rw [pre_succ, if_neg (by rw [HWT.out]; decide), List.append_nil]; exact HZ.out, HB.out⟩, by simp [intOf]; omega⟩
    | false =>
      by_cases ht : t = d
      · subst ht
        have HWT : Hid (wtP L t ((i : Int) + 1) = true) := by unfold Hid; rw [HWT0.out]; simp
        have e1 : (t == t) = true := by simp
        clear HWT0
        go_wp2_with (at_builtin; (refine append_lits (f := iv) iv1 0 Tryd.underlying51 infoI _ rfl (.tmp 38) (.tmp 41) rfl w.heap.size (.slice za (pre L t i).length zc) (pre L t i) rfl (HZ.out.below (xnew wr _)) wr.heap.size 1 1 [(i : Int) + 1] rfl rfl (Bk.new wr _ _) (iv_one _) (by decide) (by omega) (by omega) (by have h1 := HB.out.size; have h2 := (xnew wr (.cells #[.int .i64 ((i : Int) + 1)] 3)).size; omega) ?_; intro g4 c4 w4 k1 k2 k3; have H4 := hide k1; have HB4 := hide (bel_grown (chain HB.out (xnew wr _)) k2 (Nat.le_refl _) (fun b e => (World.ownsRow.lt HZ.out b e).1)); clear k1 k2 k3))
        exact ⟨⟨i + 1, by omega, by simp, by unfold Hid; rw [pre_succ, if_pos HWT.out]; exact H4.out, HB4.out⟩, by simp [intOf]; omega⟩
      · have HWT : Hid (wtP L d ((i : Int) + 1) = false) := by unfold Hid; rw [HWT0.out]; simp [ht]
        have e1 : (t == d) = false := beq_eq_false_iff_ne.2 ht
        clear HWT0 ht
        go_wp2
        exact ⟨⟨i + 1, by omega, by simp, by unfold Hid; rw [pre_succ, if_neg (by rw [HWT.out]; decide), List.append_nil]; exact HZ.out, HB.out⟩, by simp [intOf]; omega⟩
  · obtain rfl : i = D.length := by omega
    have hnk : ¬ (D.length : Int) < (D.length : Int) := by omega
    have HW : Hid (pre L d D.length = wtL L d) := by unfold Hid; rw [HLn.out]; rfl
    go_wp2
    go_ret
    rw [HW.out] at HZ
    exact ⟨za, _, zc, rfl, by rw [HW.out], by rw [HW.out]; exact HZ.out, HB.out⟩
set_option maxRecDepth 100000 in
set_option maxHeartbeats 2000000 in
theorem rflush_any {base rb : Nat} {va : Option Addr} {vc : Nat} {D : List Md} {L : Lk} (d : Int) (hS : Sm L D) (hn : L.n ≤ 2199023255552) {w : World} (h : RAt w base rb va vc D) :
    Calls Tryd.prog 31 #[.pointer (some ⟨rb, 0, none⟩), .int .i64 d] w fun e w' => e = .returned (.int .i64 ((wtL L d).length : Int)) ∧ ∃ D', Sm (fuL L d) D' ∧ RPost w w' base rb va D' := by
  have HW := hide (rwaiting_any d hS hn h)
  have HH := hide h
  have HS := hide hS
  have hwl := wtL_len L d
  clear h hS
  go_enter Tryd.func31, Tryd.ntmps31
  go_wp2_with fail
  refine Calls.mono HW.out ?_
  rintro e w1 ⟨oa, on, oc, rfl, hon, o, b⟩
  have HO1 := hide o
  have HB := hide b
  have HON := hide hon
  have hon2 : (on : Int) ≤ 2199023255552 := by omega
  clear o b hon HW
  go_upto_region 3 with fail
  go_loopw [6] (fun s' wr => ∃ (i : Nat) (Dj : List Md), i ≤ on ∧ s' = .int .i64 (i : Int) ∧ Hid (RAt wr base rb va vc Dj) ∧ Hid (Sm ⟨L.n, cutM L.M ((wtL L d).take i)⟩ Dj) ∧ Hid (Frm (RW rb va) w wr) ∧ Hid (IsOwn wr w.heap.size (.slice oa on oc) (wtL L d))) (fun s' _ => on - (intOf s').toNat)
  case atStart => exact ⟨0, D, Nat.zero_le _, rfl, HH.out.below HB.out, by unfold Hid; rw [List.take_zero, cutM_nil]; exact HS.out, Frm.ofBelow HB.out, HO1.out⟩
  case round =>
  obtain ⟨i, Dj, hi, rfl, HR, HSj, HF, HO⟩ := hrel
  by_cases hlt : i < on
  · obtain ⟨k, hk⟩ : ∃ k, (wtL L d)[i]? = some k := ⟨_, List.getElem?_eq_getElem (by have := HON.out; omega)⟩
    obtain ⟨hk1, hk2⟩ := wtL_rng (List.mem_of_getElem? hk)
    obtain ⟨q, rfl⟩ : ∃ q : Nat, k = (q : Int) + 1 := ⟨(k - 1).toNat, by omega⟩
    have hkD : q < Dj.length := by rw [HSj.out.len]; dsimp only; omega
    obtain ⟨⟨f, t, s, sp, st⟩, hd⟩ : ∃ x, Dj[q]? = some x := ⟨_, List.getElem?_eq_getElem hkD⟩
    have HS2 : Hid (Sm ⟨L.n, cutM L.M ((wtL L d).take (i + 1))⟩ (Dj.set q ⟨f, t, s, sp, true⟩)) := by
      have h1 := sm_spend HSj.out q f t s sp
      unfold tL at h1
      dsimp only at h1
      rw [cutM_step] at h1
      unfold Hid
      rw [List.take_add_one, hk]
      exact h1
    have hDn : (Dj.length : Int) ≤ 2199023255552 := by rw [HSj.out.len]; dsimp only; omega
    have f1 : (i : Int) < (on : Int) := by omega
    have f2 : ¬ (i : Int) < 0 := by omega
    have f3 : (q : Int) < (Dj.length : Int) := by omega
    have f4 : ¬ (q : Int) < 0 := by omega
    have f5 : IntKind.i64.wrap (q : Int) = (q : Int) := by rw [IntKind.wrap_i64]; omega
    clear hk1 hk2
    go_upto_region 5 with fail
    refine wp_region_held_drew (S := fun _ => True) (by kernel_rfl) trivial (fun hHeld => ?_)
    obtain ⟨wd, hwd⟩ : ∃ z, z = wr.drew := ⟨_, rfl⟩
    have HRd : Hid (RAt wd base rb va vc Dj) := by rw [hwd]; exact HR.out.below (Below.refl _ _).drew
    have HFd : Hid (Frm (RW rb va) w wd) := by rw [hwd]; exact HF.out.drew
    have HOd : Hid (IsOwn wd w.heap.size (.slice oa on oc) (wtL L d)) := by rw [hwd]; exact HO.out.below (Below.refl _ _).drew
    rw [← hwd]
    clear hwd
    obtain ⟨gv, hgv, -⟩ := mget HRd.out.own hd
    subst hgv
    have r0 := HRd.out.bk.cell 0 rfl
    obtain ⟨bo, oo, eo, hco⟩ := (own_rcs HOd.out).at iv1 (by decide) hk
    have z0 := hco 0 _ rfl
    rw [Nat.mul_one, Nat.add_zero] at z0
    subst eo
    clear hco
    obtain ⟨-, HR3, ⟨x, y0⟩, p0, HFm⟩ := rpost_set (w := w) (j := 4) (u := .bool true) (y := ⟨f, t, s, sp, true⟩) HRd.out rfl HFd.out hkD ⟨_, hd, rfl⟩ (by decide)
    replace HR3 := hide HR3
    replace HFm := hide HFm
    have HO3 : Hid (IsOwn (wd.setCell ⟨gv, q * 5 + 4, none⟩ (.bool true)) w.heap.size (.slice (some ⟨bo, oo, none⟩) on oc) (wtL L d)) := HOd.out.far (p := ⟨gv, q * 5 + 4, none⟩) (own_unlike (by decide) HRd.out.own HOd.out (by rw [ob]; rfl)) _
    refine wpAnyH_take (i := 0) (oi := { dst := some 16, op := Go.Op.move (Go.Operand.tmp 0), type := 33, pos := "ref.go:123", after := #[], guard := none }) (v := ?_) rfl (by kernel_rfl) (by kernel_rfl) (by kernel_rfl) (fun _ _ _ h => h) (Or.inl ⟨by rfl, ?_⟩) (by exact trivial) ?_
    rotate_left
    · intro w hSw
      go_simp
      try with_reducible rfl
    try simp only [Act.put, List.setIfInBounds_toArray, List.set_cons_zero, List.set_cons_succ]
    refine wpAnyH_take (i := 1) (oi := { dst := some 17, op := Go.Op.nilCheck (Go.Operand.tmp 16), type := 0, pos := "ref.go:123", after := #[{ on := 0, ground := Go.Ground.data }], guard := none }) (v := ?_) rfl (by kernel_rfl) (by kernel_rfl) (by kernel_rfl) (fun _ _ _ h => h) (Or.inl ⟨by rfl, ?_⟩) (by exact trivial) ?_
    rotate_left
    · intro w hSw
      go_simp
      try with_reducible rfl
    try simp only [Act.put, List.setIfInBounds_toArray, List.set_cons_zero, List.set_cons_succ]
    refine wpAnyH_take (i := 2) (oi := { dst := some 18, op := Go.Op.fieldAddr 28 (Go.Operand.tmp 17) 0, type := 0, pos := "ref.go:123", after := #[{ on := 1, ground := Go.Ground.data }], guard := none }) (v := ?_) rfl (by kernel_rfl) (by kernel_rfl) (by kernel_rfl) (fun _ _ _ h => h) (Or.inl ⟨by rfl, ?_⟩) (by exact trivial) ?_
    rotate_left
    · intro w hSw
      go_simp
      try with_reducible rfl
    try simp only [Act.put, List.setIfInBounds_toArray, List.set_cons_zero, List.set_cons_succ]
    refine wpAnyH_take (i := 4) (oi := { dst := some 20, op := Go.Op.move (Go.Operand.tmp 5), type := 51, pos := "ref.go:123", after := #[], guard := none }) (v := ?_) rfl (by kernel_rfl) (by kernel_rfl) (by kernel_rfl) (fun _ _ _ h => h) (Or.inl ⟨by rfl, ?_⟩) (by exact trivial) ?_
    rotate_left
    · intro w hSw
      go_simp
      try with_reducible rfl
    try simp only [Act.put, List.setIfInBounds_toArray, List.set_cons_zero, List.set_cons_succ]
    refine wpAnyH_take (i := 5) (oi := { dst := some 21, op := Go.Op.move (Go.Operand.tmp 6), type := 3, pos := "ref.go:123", after := #[], guard := none }) (v := ?_) rfl (by kernel_rfl) (by kernel_rfl) (by kernel_rfl) (fun _ _ _ h => h) (Or.inl ⟨by rfl, ?_⟩) (by exact trivial) ?_
    rotate_left
    · intro w hSw
      go_simp
      try with_reducible rfl
    try simp only [Act.put, List.setIfInBounds_toArray, List.set_cons_zero, List.set_cons_succ]
    refine wpAnyH_take (i := 6) (oi := { dst := some 22, op := Go.Op.indexAddr 51 (Go.Operand.tmp 20) (Go.Operand.tmp 21), type := 0, pos := "ref.go:123", after := #[{ on := 4, ground := Go.Ground.data }, { on := 5, ground := Go.Ground.data }], guard := none }) (v := ?_) rfl (by kernel_rfl) (by kernel_rfl) (by kernel_rfl) (fun _ _ _ h => h) (Or.inl ⟨by rfl, ?_⟩) (by exact trivial) ?_
    rotate_left
    · intro w hSw
      go_simp
      try with_reducible rfl
    try simp only [Act.put, List.setIfInBounds_toArray, List.set_cons_zero, List.set_cons_succ]
    refine wpAnyH_ready (rs := [3, 7]) (by kernel_rfl) (by simp) ?_
    refine AllReadyH.cons (o := { dst := some 19, op := Go.Op.load 26 (Go.Operand.tmp 18), type := 26, pos := "ref.go:123", after := #[{ on := 2, ground := Go.Ground.data }], guard := none }) rfl (fun K hK => ?_) ?_
    · go_simp
      refine hK.out _ _ trivial (fun hHeld2 => ?_)
      clear hK K
      try simp only [Act.put, List.setIfInBounds_toArray, List.set_cons_zero, List.set_cons_succ]
      refine wpAnyH_ready (rs := [7]) (by kernel_rfl) (by simp) ?_
      refine AllReadyH.cons (o := { dst := some 23, op := Go.Op.load 3 (Go.Operand.tmp 22), type := 3, pos := "ref.go:123", after := #[{ on := 6, ground := Go.Ground.data }], guard := none }) rfl (fun K hK => ?_) AllReadyH.nil
      go_simp
      refine hK.out _ _ trivial (fun hHeld2 => ?_)
      clear hK K
      try simp only [Act.put, List.setIfInBounds_toArray, List.set_cons_zero, List.set_cons_succ]
      refine wpAnyH_take (i := 8) (oi := { dst := some 24, op := Go.Op.binOp Go.BinOp.sub 3 (Go.Operand.tmp 23) (Go.Operand.const (Go.Value.int Go.IntKind.i64 1)) 3, type := 3, pos := "ref.go:123", after := #[{ on := 7, ground := Go.Ground.data }], guard := none }) (v := ?_) rfl (by kernel_rfl) (by kernel_rfl) (by kernel_rfl) (fun _ _ _ h => h) (Or.inl ⟨by rfl, ?_⟩) (by exact trivial) ?_
      rotate_left
      · intro w hSw
        go_simp
        try with_reducible rfl
      try simp only [Act.put, List.setIfInBounds_toArray, List.set_cons_zero, List.set_cons_succ]
      refine wpAnyH_take (i := 9) (oi := { dst := some 25, op := Go.Op.indexAddr 26 (Go.Operand.tmp 19) (Go.Operand.tmp 24), type := 0, pos := "ref.go:123", after := #[{ on := 3, ground := Go.Ground.data }, { on := 8, ground := Go.Ground.data }, { on := 0, ground := Go.Ground.phase }, { on := 1, ground := Go.Ground.phase }, { on := 2, ground := Go.Ground.phase }, { on := 3, ground := Go.Ground.phase }, { on := 4, ground := Go.Ground.phase }, { on := 5, ground := Go.Ground.phase }, { on := 6, ground := Go.Ground.phase }, { on := 7, ground := Go.Ground.phase }, { on := 8, ground := Go.Ground.phase }], guard := none }) (v := ?_) rfl (by kernel_rfl) (by kernel_rfl) (by kernel_rfl) (fun _ _ _ h => h) (Or.inl ⟨by rfl, ?_⟩) (by exact trivial) ?_
      rotate_left
      · intro w hSw
        go_simp
        try with_reducible rfl
      try simp only [Act.put, List.setIfInBounds_toArray, List.set_cons_zero, List.set_cons_succ]
      refine wpAnyH_take (i := 10) (oi := { dst := some 26, op := Go.Op.fieldAddr 83 (Go.Operand.tmp 25) 2, type := 0, pos := "ref.go:123", after := #[{ on := 9, ground := Go.Ground.data }, { on := 0, ground := Go.Ground.phase }, { on := 1, ground := Go.Ground.phase }, { on := 2, ground := Go.Ground.phase }, { on := 3, ground := Go.Ground.phase }, { on := 4, ground := Go.Ground.phase }, { on := 5, ground := Go.Ground.phase }, { on := 6, ground := Go.Ground.phase }, { on := 7, ground := Go.Ground.phase }, { on := 8, ground := Go.Ground.phase }], guard := none }) (v := ?_) rfl (by kernel_rfl) (by kernel_rfl) (by kernel_rfl) (fun _ _ _ h => h) (Or.inl ⟨by rfl, ?_⟩) (by exact trivial) ?_
      rotate_left
      · intro w hSw
        go_simp
        try with_reducible rfl
      try simp only [Act.put, List.setIfInBounds_toArray, List.set_cons_zero, List.set_cons_succ]
      refine wpAnyH_ready (rs := [11]) (by kernel_rfl) (by simp) ?_
      refine AllReadyH.cons (o := { dst := none, op := Go.Op.store 4 (Go.Operand.tmp 26) (Go.Operand.const (Go.Value.bool true)), type := 0, pos := "ref.go:123", after := #[{ on := 10, ground := Go.Ground.data }, { on := 0, ground := Go.Ground.phase }, { on := 1, ground := Go.Ground.phase }, { on := 2, ground := Go.Ground.phase }, { on := 3, ground := Go.Ground.phase }, { on := 4, ground := Go.Ground.phase }, { on := 5, ground := Go.Ground.phase }, { on := 6, ground := Go.Ground.phase }, { on := 7, ground := Go.Ground.phase }, { on := 8, ground := Go.Ground.phase }], guard := none }) rfl (fun K hK => ?_) AllReadyH.nil
      go_simp
      refine hK.out _ _ trivial (fun hHeld2 => ?_)
      clear hK K
      try simp only [Act.put, List.setIfInBounds_toArray, List.set_cons_zero, List.set_cons_succ]
      refine wpAnyH_done (by kernel_rfl) ?_ _
      go_wp2
      refine ⟨⟨i + 1, Dj.set q ⟨f, t, s, sp, true⟩, by omega, by simp, ?_, HS2.out, HFm.out, HO3.out⟩, by simp [intOf]; omega⟩
      exact HR3.out
    refine AllReadyH.cons (o := { dst := some 23, op := Go.Op.load 3 (Go.Operand.tmp 22), type := 3, pos := "ref.go:123", after := #[{ on := 6, ground := Go.Ground.data }], guard := none }) rfl (fun K hK => ?_) ?_
    · go_simp
      refine hK.out _ _ trivial (fun hHeld2 => ?_)
      clear hK K
      try simp only [Act.put, List.setIfInBounds_toArray, List.set_cons_zero, List.set_cons_succ]
      refine wpAnyH_take (i := 8) (oi := { dst := some 24, op := Go.Op.binOp Go.BinOp.sub 3 (Go.Operand.tmp 23) (Go.Operand.const (Go.Value.int Go.IntKind.i64 1)) 3, type := 3, pos := "ref.go:123", after := #[{ on := 7, ground := Go.Ground.data }], guard := none }) (v := ?_) rfl (by kernel_rfl) (by kernel_rfl) (by kernel_rfl) (fun _ _ _ h => h) (Or.inl ⟨by rfl, ?_⟩) (by exact trivial) ?_
      rotate_left
      · intro w hSw
        go_simp
        try with_reducible rfl
      try simp only [Act.put, List.setIfInBounds_toArray, List.set_cons_zero, List.set_cons_succ]
      refine wpAnyH_ready (rs := [3]) (by kernel_rfl) (by simp) ?_
      refine AllReadyH.cons (o := { dst := some 19, op := Go.Op.load 26 (Go.Operand.tmp 18), type := 26, pos := "ref.go:123", after := #[{ on := 2, ground := Go.Ground.data }], guard := none }) rfl (fun K hK => ?_) AllReadyH.nil
      go_simp
      refine hK.out _ _ trivial (fun hHeld2 => ?_)
      clear hK K
      try simp only [Act.put, List.setIfInBounds_toArray, List.set_cons_zero, List.set_cons_succ]
      refine wpAnyH_take (i := 9) (oi := { dst := some 25, op := Go.Op.indexAddr 26 (Go.Operand.tmp 19) (Go.Operand.tmp 24), type := 0, pos := "ref.go:123", after := #[{ on := 3, ground := Go.Ground.data }, { on := 8, ground := Go.Ground.data }, { on := 0, ground := Go.Ground.phase }, { on := 1, ground := Go.Ground.phase }, { on := 2, ground := Go.Ground.phase }, { on := 3, ground := Go.Ground.phase }, { on := 4, ground := Go.Ground.phase }, { on := 5, ground := Go.Ground.phase }, { on := 6, ground := Go.Ground.phase }, { on := 7, ground := Go.Ground.phase }, { on := 8, ground := Go.Ground.phase }], guard := none }) (v := ?_) rfl (by kernel_rfl) (by kernel_rfl) (by kernel_rfl) (fun _ _ _ h => h) (Or.inl ⟨by rfl, ?_⟩) (by exact trivial) ?_
      rotate_left
      · intro w hSw
        go_simp
        try with_reducible rfl
      try simp only [Act.put, List.setIfInBounds_toArray, List.set_cons_zero, List.set_cons_succ]
      refine wpAnyH_take (i := 10) (oi := { dst := some 26, op := Go.Op.fieldAddr 83 (Go.Operand.tmp 25) 2, type := 0, pos := "ref.go:123", after := #[{ on := 9, ground := Go.Ground.data }, { on := 0, ground := Go.Ground.phase }, { on := 1, ground := Go.Ground.phase }, { on := 2, ground := Go.Ground.phase }, { on := 3, ground := Go.Ground.phase }, { on := 4, ground := Go.Ground.phase }, { on := 5, ground := Go.Ground.phase }, { on := 6, ground := Go.Ground.phase }, { on := 7, ground := Go.Ground.phase }, { on := 8, ground := Go.Ground.phase }], guard := none }) (v := ?_) rfl (by kernel_rfl) (by kernel_rfl) (by kernel_rfl) (fun _ _ _ h => h) (Or.inl ⟨by rfl, ?_⟩) (by exact trivial) ?_
      rotate_left
      · intro w hSw
        go_simp
        try with_reducible rfl
      try simp only [Act.put, List.setIfInBounds_toArray, List.set_cons_zero, List.set_cons_succ]
      refine wpAnyH_ready (rs := [11]) (by kernel_rfl) (by simp) ?_
      refine AllReadyH.cons (o := { dst := none, op := Go.Op.store 4 (Go.Operand.tmp 26) (Go.Operand.const (Go.Value.bool true)), type := 0, pos := "ref.go:123", after := #[{ on := 10, ground := Go.Ground.data }, { on := 0, ground := Go.Ground.phase }, { on := 1, ground := Go.Ground.phase }, { on := 2, ground := Go.Ground.phase }, { on := 3, ground := Go.Ground.phase }, { on := 4, ground := Go.Ground.phase }, { on := 5, ground := Go.Ground.phase }, { on := 6, ground := Go.Ground.phase }, { on := 7, ground := Go.Ground.phase }, { on := 8, ground := Go.Ground.phase }], guard := none }) rfl (fun K hK => ?_) AllReadyH.nil
      go_simp
      refine hK.out _ _ trivial (fun hHeld2 => ?_)
      clear hK K
      try simp only [Act.put, List.setIfInBounds_toArray, List.set_cons_zero, List.set_cons_succ]
      refine wpAnyH_done (by kernel_rfl) ?_ _
      go_wp2
      refine ⟨⟨i + 1, Dj.set q ⟨f, t, s, sp, true⟩, by omega, by simp, ?_, HS2.out, HFm.out, HO3.out⟩, by simp [intOf]; omega⟩
      exact HR3.out
    exact AllReadyH.nil
  · obtain rfl : on = i := by omega
    have hnk : ¬ (on : Int) < (on : Int) := by omega
    have HSF : Hid (Sm (fuL L d) Dj) := by
      have h1 := HSj.out
      rw [HON.out, List.take_length] at h1
      exact h1
    go_wp2
    go_ret
    exact ⟨ret_int (by rw [HON.out]), _, HSF.out, va, vc, HR.out, HF.out, fun g e => .inl e⟩
end Go.Proofs.YtgnkmenjjmfcfaaDoor
