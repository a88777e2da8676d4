/-
  ferrylaw21.LinkMemory.
-/
import Derived.Test.YtgnkmenjjmfcfaaDoorLkFm
import Derived.Test.YtgnkmenjjmfcfaaDoorLkAns
import Derived.BigQuiet
namespace Go.Proofs.YtgnkmenjjmfcfaaDoor.linkMemory
open Go.Proofs.YtgnkmenjjmfcfaaDoor Go.RowKit FerryCrc Q
set_option linter.unusedVariables false
set_option linter.unusedSimpArgs false
theorem fm_cell {w : World} {base g n c j : Nat} {G : List Sl} {C : List (List Int)} {x : Sl} (h : Fm w base (.slice (some ⟨g, 0, none⟩) n c) G C) (hj : G[j]? = some x) : w.cell? ⟨g, j, none⟩ = some x.v := by
  obtain ⟨b, o, ea, hc⟩ := (own_rcs h.own).at gv1 (by decide) hj
  simp only [Option.some.injEq, Addr.mk.injEq, and_true] at ea
  obtain ⟨rfl, rfl⟩ := ea
  have := hc 0 _ rfl
  simpa using this
theorem own_icell {w : World} {base g n c j : Nat} {l : List Int} {x : Int} (h : IsOwn w base (.slice (some ⟨g, 0, none⟩) n c) l) (hj : l[j]? = some x) : w.cell? ⟨g, j, none⟩ = some (.int .i64 x) := by
  obtain ⟨b, o, ea, hc⟩ := (own_rcs h).at iv1 (by decide) hj
  simp only [Option.some.injEq, Addr.mk.injEq, and_true] at ea
  obtain ⟨rfl, rfl⟩ := ea
  have := hc 0 _ rfl
  simpa using this
theorem set_same {α : Type} {C : List α} {i : Nat} {l : α} (h : C[i]? = some l) : C.set i l = C := by
  obtain ⟨hi, rfl⟩ := List.getElem?_eq_some_iff.1 h
  exact List.set_getElem_self hi
theorem sz_snoc {C : List (List Int)} {l : List Int} (h : ∀ (j : Nat) m, C[j]? = some m → m.length ≤ 1048576) (hl : l.length ≤ 1048576) : ∀ (j : Nat) m, (C ++ [l])[j]? = some m → m.length ≤ 1048576 := fun j m hm => by
  by_cases e : j < C.length
  · rw [List.getElem?_append_left e] at hm
    exact h j m hm
  · have h1 := (List.getElem?_eq_some_iff.1 hm).1
    rw [List.length_append, List.length_singleton] at h1
    obtain rfl : j = C.length := by omega
    rw [List.getElem?_concat_length] at hm
    rw [← Option.some.inj hm]
    exact hl
theorem mk_snoc {F : List Int} {m : Int} (h : ∀ (j : Nat) f, F[j]? = some f → -4398046511104 ≤ f ∧ f ≤ 0) (hm : -4398046511104 ≤ m ∧ m ≤ 0) : ∀ (j : Nat) f, (F ++ [m])[j]? = some f → -4398046511104 ≤ f ∧ f ≤ 0 := fun j f hf => by
  by_cases e : j < F.length
  · rw [List.getElem?_append_left e] at hf
    exact h j f hf
  · have h1 := (List.getElem?_eq_some_iff.1 hf).1
    rw [List.length_append, List.length_singleton] at h1
    obtain rfl : j = F.length := by omega
    rw [List.getElem?_concat_length] at hf
    rw [← Option.some.inj hf]
    exact hm
set_option maxRecDepth 100000 in
set_option maxHeartbeats 40000000 in
theorem law (a : Option Addr) (n c : Nat) (R : List Kp) (w : World) {E : Nat → Addr} (he : Errs w E) (hs : Rcs kpC 7 w a n c R) (hok : ∀ o ∈ R, o.ok2) (hn : n ≤ 1048576) :
    Calls Tryd.prog 6 #[.slice a n c] w fun e w' => e = .returned (.bool true) ∧ Below w.heap.size w w' := by
  have HF := hide (fixed_any w he.toQ)
  have HE := hide he
  have HR := hide (fun (w' : World) (b : Below w.heap.size w w') => hs.below b)
  have HOK := hide hok
  have HRN := hide hs.size
  clear he hs hok
  go_enter Tryd.func6, Tryd.ntmps6
  go_wp2_with fail
  refine Calls.mono HF.out ?_
  rintro e w1 ⟨rfl, b⟩
  have HB0 := hide b
  clear b HF
  go_wp2_with fail
  refine Calls.mono (new_any w1) ?_
  rintro e w2 ⟨lb, mb, rfl, l1, p1, p2, b1⟩
  have HL1 := hide l1
  have HP1 : Hid (w.heap.size ≤ lb ∧ w.heap.size ≤ mb) := by have := HB0.out.size; exact ⟨by omega, by omega⟩
  have HB1 := hide (chain HB0.out b1)
  clear l1 b1 p1 p2
  obtain ⟨w4, hW, X1, DD⟩ := box1 w2 [.slice none 0 0] 28
  obtain ⟨r1, hq⟩ : ∃ q, w2.heap.size = q := ⟨_, rfl⟩
  have HRR : Hid (w2.heap.size = r1) := hq
  rw [hq] at X1
  have T1 := hide (tw_new (wb := w) (w' := w) HL1.out DD X1 (chain HB1.out DD) HP1.out (by have h1 := HB1.out.size; omega))
  clear X1 DD HL1 HB0 HB1 HP1 HRR
  go_upto_region 5 with fail
  try simp only [hW, hq]
  clear hW hq
  go_upto_region 9 with fail
  have HM1 := hide (lm_first T1.out)
  clear T1
  go_loopw [5, 6, 7] (fun v1 v2 s wr => ∃ (i : Nat) (va : Option Addr) (vc : Nat) (L : Lk) (D : List Md) (G1 G2 : List Sl) (C : List (List Int)), i ≤ n ∧ s = .int .i64 (i : Int) ∧ Hid (Lm w wr lb mb r1 va vc L D v1 G1 v2 G2 C C) ∧ Hid (L.n ≤ i ∧ C.length = 4 * i) ∧ Hid (∀ (j : Nat) l, C[j]? = some l → l.length ≤ 1048576)) (fun _ _ s _ => n - (intOf s).toNat)
  case atStart =>
    exact ⟨0, none, 0, _, [], [], [], [], Nat.zero_le _, rfl, HM1.out, ⟨Nat.le_refl _, rfl⟩, fun j l h => by simp at h⟩
  case round =>
  obtain ⟨i, va, vc, L, D, G1, G2, C, hi, rfl, HM, HLe, HSZ⟩ := hrel
  clear HM1
  by_cases hlt : i < n
  · --
    as_aux_lemma =>
      obtain ⟨⟨kd, sd, N, X, Y, mq, sb⟩, ho⟩ : ∃ o, R[i]? = some o := ⟨_, List.getElem?_eq_getElem (by have := HRN.out; omega)⟩
      have HO := hide (HOK.out _ (List.mem_of_getElem? ho))
      obtain ⟨b0, of0, ea, hc⟩ := (HR.out wr HM.out.t.b).at kp7 (by decide) ho
      subst ea
      have x0 := hc 0 _ rfl
      have x1 := hc 1 _ rfl
      have x2 := hc 2 _ rfl
      have x3 := hc 3 _ rfl
      have x4 := hc 4 _ rfl
      have x5 := hc 5 _ rfl
      have x6 := hc 6 _ rfl
      simp only [Nat.add_zero] at x0
      clear hc ho
      have hj1 : (i : Int) < (n : Int) := by omega
      have hj0 : ¬ (i : Int) < 0 := by omega
      have HC := hide (lkPlays.plays_any (HE.out) HM.out.t (by have := HLe.out.1; omega) kd sd N X Y mq sb HO.out.1.1 HO.out.1.2.1 HO.out.2 HO.out.1.2.2.1 HO.out.1.2.2.2)
      go_wp2_with fail
      refine Calls.mono HC.out ?_
      rintro e wz ⟨rfl, p⟩
      obtain ⟨va', vc', L', D', M2, hle⟩ := HM.out.plays p
      have HM2 := hide M2
      have HLE : Hid (L'.n ≤ i + 1) := by have h1 := HLe.out.1; unfold Hid; omega
      have HCL := hide HLe.out.2
      clear HC p M2 hle HM HLe x0 x1 x2 x3 x4 x5 x6 HO
      go_upto_region 14 with fail
      go_loopw [5, 6, 8] (fun v1 v2 s wr => ∃ (k : Nat) (G1 G2 : List Sl) (C : List (List Int)), k ≤ 4 ∧ s = .int .i64 (k : Int) ∧ Hid (Lm w wr lb mb r1 va' vc' L' D' v1 G1 v2 G2 C C) ∧ Hid (C.length = 4 * i + k) ∧ Hid (∀ (j : Nat) l, C[j]? = some l → l.length ≤ 1048576)) (fun _ _ s _ => 4 - (intOf s).toNat)
      case atStart => exact ⟨0, G1, G2, C, by omega, rfl, HM2.out, HCL.out, HSZ.out⟩
      case round =>
      obtain ⟨k, G1, G2, C, hk, rfl, HM, HCL, HSZ⟩ := hrel
      clear HM2
      by_cases hk4 : k < 4
      · --
        as_aux_lemma =>
          have f1 : (k : Int) < 4 := by omega
          have hLn : L'.n ≤ 1048576 := by have h1 := HLE.out; omega
          go_wp2_with fail
          refine Calls.mono (rwaiting_any _ HM.out.t.s (by omega) HM.out.t.r) ?_
          rintro e w5 ⟨ya, yn, yc, rfl, hyn, hy, b5⟩
          clear hyn
          have HY := hide hy
          have HB5 := hide b5
          clear hy b5
          go_wp2_with fail
          refine Calls.mono (waiting_any _ (by omega) (HM.out.t.l.below HB5.out) sort_any) ?_
          rintro e w6 ⟨xa, xn, xc, rfl, hxn, hx, b6⟩
          clear hxn
          have HX := hide hx
          have HB6 := hide (chain HB5.out b6)
          have HYb := hide (HY.out.below b6)
          have HXY : Hid (∀ b, (Value.slice xa xn xc).ownBlock = some b → (Value.slice ya yn yc).ownBlock ≠ some b) := fun b e1 e2 => by
            have h1 := (World.ownsRow.lt HX.out b e1).1
            have h2 := (World.ownsRow.lt HY.out b e2).2
            omega
          have HXw := hide (HX.out.weaken HB5.out.size)
          have HG1 : Hid (G1.length ≤ 8388608) := by have h1 := HM.out.f1.len; have h2 := HCL.out; unfold Hid; omega
          have HG2 : Hid (G2.length ≤ 8388608) := by have h1 := HM.out.f2.len; have h2 := HCL.out; unfold Hid; omega
          have HBS : Hid (w.heap.size ≤ w6.heap.size) := by have h1 := HM.out.t.b.size; have h2 := HB6.out.size; unfold Hid; omega
          clear hx b6 HX HY HB5
          go_upto_region 15 with (first | (at_builtin; (refine step_g rfl (.tmp 45) (.tmp 50) rfl w.heap.size _ G1 rfl ((HM.out.below (chain HB6.out (xnew w6 _))).f1.own) w6.heap.size 1 ⟨xa, xn, xc⟩ rfl (Bk.new w6 (gv ⟨xa, xn, xc⟩) _) (by have := HG1.out; omega) (Nat.le_trans HBS.out (xnew w6 _).size) ?_; intro ga ca w7 k1 k2 k3 k4; have HA := HM.out.one (x := ⟨xa, xn, xc⟩) (y := ⟨ya, yn, yc⟩) (chain HB6.out (xnew w6 _)) (HXw.out.below (xnew w6 _)) (HYb.out.below (xnew w6 _)) HXY.out k1 k3 (fun b e => by obtain rfl := Option.some.inj e; exact k4); have HM7 := hide HA.1; have HY7 := hide HA.2.1; have HF7 := hide HA.2.2; clear HA k1 k2 k3 k4)) | (at_builtin; (refine step_g rfl (.tmp 52) (.tmp 54) rfl w.heap.size _ G2 rfl ((HM7.out.below (xnew w7 _)).f2.own) w7.heap.size 1 ⟨ya, yn, yc⟩ rfl (Bk.new w7 (gv ⟨ya, yn, yc⟩) _) (by have := HG2.out; omega) (Nat.le_trans HM7.out.t.b.size (xnew w7 _).size) ?_; intro gb cb w8 k1 k2 k3 k4; have HM8 := hide ((HM7.out.below (xnew w7 _)).sym.snoc (x := ⟨ya, yn, yc⟩) k1 k3 (fun b e => by obtain rfl := Option.some.inj e; exact k4) ((HY7.out.weaken HM.out.t.b.size).below (xnew w7 _)) (fun b e => ⟨(HF7.out b e).2, (HF7.out b e).1⟩)).sym; clear k1 k2 k3 k4)))
          go_wp2
          exact ⟨⟨k + 1, _, _, _, by omega, by simp, HM8.out, by have h1 := HCL.out; unfold Hid; rw [List.length_append, List.length_singleton]; omega, sz_snoc HSZ.out (Nat.le_trans (wtL_len L' _) hLn)⟩, by simp [intOf]; omega⟩
      · --
        as_aux_lemma =>
          obtain rfl : k = 4 := by omega
          go_wp2
          exact ⟨⟨i + 1, _, _, _, _, _, _, _, by omega, by simp, HM.out, ⟨HLE.out, by have h1 := HCL.out; omega⟩, HSZ.out⟩, by simp [intOf]; omega⟩
  · --
    obtain rfl : n = i := by omega
    have hnk : ¬ (n : Int) < (n : Int) := by omega
    have HCN : Hid (C.length ≤ 4194304) := by have h1 := HLe.out.2; unfold Hid; omega
    have HLn : Hid (L.n ≤ 1048576) := by have h1 := HLe.out.1; unfold Hid; omega
    obtain ⟨N, hN⟩ : ∃ N, C.length = N := ⟨_, rfl⟩
    have hg1 : G1.length = N := by rw [← HM.out.f1.len]; exact hN
    have hg2 : G2.length = N := by rw [← HM.out.f2.len]; exact hN
    obtain ⟨la, lc, rfl⟩ := own_len HM.out.f1.own hg1
    obtain ⟨xa, xc, rfl⟩ := own_len HM.out.f2.own hg2
    have HN := hide hN
    have HG1 := hide hg1
    have HG2 := hide hg2
    have hNb : N ≤ 4194304 := by have := HCN.out; omega
    clear HLe HCN hg1 hg2 hN HR HOK HRN
    go_upto_region 19 with fail
    clear hnk
    generalize wr = W1 at *
    go_loopw [10] (fun s wr => ∃ j : Nat, j ≤ N ∧ s = .int .i64 (j : Int) ∧ Hid (Lm w wr lb mb r1 va vc L D (.slice la N lc) G1 (.slice xa N xc) G2 C C)) (fun s _ => N - (intOf s).toNat)
    case atStart => exact ⟨0, Nat.zero_le _, rfl, HM.out⟩
    case round =>
    obtain ⟨j, hj, rfl, HM2⟩ := hrel
    clear HM
    by_cases hjN : j < N
    · --
      as_aux_lemma =>
        obtain ⟨gl, rfl⟩ := lown_some HM2.out.f1.own hjN
        obtain ⟨gx, rfl⟩ := lown_some HM2.out.f2.own hjN
        obtain ⟨⟨ua, un, uc⟩, l, hu1, hu2, hu3, hu4⟩ := HM2.out.f1.get (j := j) (by have := HG1.out; omega)
        obtain ⟨⟨ta, tn, tc⟩, l', ht1, ht2, ht3, ht4⟩ := HM2.out.f2.get (j := j) (by have := HG2.out; omega)
        rw [hu2] at ht2
        obtain rfl := Option.some.inj ht2
        dsimp only at hu4 ht4
        obtain rfl : tn = un := by omega
        have HY1 := hide (show wr.cell? ⟨gl, j, none⟩ = some (.slice ua tn uc) from fm_cell HM2.out.f1 hu1)
        have HY2 := hide (show wr.cell? ⟨gx, j, none⟩ = some (.slice ta tn tc) from fm_cell HM2.out.f2 ht1)
        have HS1 := hide (own_rcs (show IsOwn wr w.heap.size (.slice ua tn uc) l from hu3))
        have HS2 := hide (own_rcs (show IsOwn wr w.heap.size (.slice ta tn tc) l from ht3))
        have HSN : Hid (tn ≤ 4611686018427387904) := by have h1 := HSZ.out j l hu2; unfold Hid; omega
        clear hu1 hu2 hu3 hu4 ht1 ht2 ht3 ht4
        have j1 : (j : Int) < (N : Int) := by omega
        have j3 : (j : Int) < (N : Int) := by omega
        have j2 : ¬ (j : Int) < 0 := by omega
        go_upto_region 21 with fail
        refine wp_region_held_drew (S := fun wz => Hid (Below wr.heap.size wr wz)) (by kernel_rfl) (hide ((Below.refl wr.heap.size wr).drew)) (fun hHeld => ?_)
        have X0 : Hid (Below wr.heap.size wr wr.drew) := (Below.refl _ _).drew
        obtain ⟨wd, hwd⟩ : ∃ z, z = wr.drew := ⟨_, rfl⟩
        rw [← hwd] at X0 hHeld ⊢
        clear hwd
        refine wpAnyH_take (i := 0) (oi := { dst := some 62, op := Go.Op.move (Go.Operand.tmp 5), type := 56, pos := "law.go:303", after := #[], guard := none }) (v := ?_) rfl (by kernel_rfl) (by kernel_rfl) (by kernel_rfl) (fun _ _ _ h => h) (Or.inl ⟨by rfl, ?_⟩) (by assumption) ?_
        rotate_left
        · intro w hSw
          go_simp
          try with_reducible rfl
        try simp only [Act.put, List.setIfInBounds_toArray, List.set_cons_zero, List.set_cons_succ]
        refine wpAnyH_take (i := 1) (oi := { dst := some 63, op := Go.Op.move (Go.Operand.tmp 10), type := 3, pos := "law.go:303", after := #[], guard := none }) (v := ?_) rfl (by kernel_rfl) (by kernel_rfl) (by kernel_rfl) (fun _ _ _ h => h) (Or.inl ⟨by rfl, ?_⟩) (by assumption) ?_
        rotate_left
        · intro w hSw
          go_simp
          try with_reducible rfl
        try simp only [Act.put, List.setIfInBounds_toArray, List.set_cons_zero, List.set_cons_succ]
        refine wpAnyH_take (i := 2) (oi := { dst := some 64, op := Go.Op.indexAddr 56 (Go.Operand.tmp 62) (Go.Operand.tmp 63), type := 0, pos := "law.go:303", after := #[{ on := 0, ground := Go.Ground.data }, { on := 1, ground := Go.Ground.data }], guard := none }) (v := ?_) rfl (by kernel_rfl) (by kernel_rfl) (by kernel_rfl) (fun _ _ _ h => h) (Or.inl ⟨by rfl, ?_⟩) (by assumption) ?_
        rotate_left
        · intro w hSw
          have z1 := j1
          have z2 := j2
          go_simp
          try with_reducible rfl
        try simp only [Act.put, List.setIfInBounds_toArray, List.set_cons_zero, List.set_cons_succ]
        refine wpAnyH_take (i := 3) (oi := { dst := some 65, op := Go.Op.load 51 (Go.Operand.tmp 64), type := 51, pos := "law.go:303", after := #[{ on := 2, ground := Go.Ground.data }], guard := none }) (v := ?_) rfl (by kernel_rfl) (by kernel_rfl) (by kernel_rfl) (fun _ _ _ h => h) (Or.inl ⟨by rfl, ?_⟩) (by assumption) ?_
        rotate_left
        · intro w hSw
          have z := cell_below HY1.out hSw.out
          go_simp
          try with_reducible rfl
        try simp only [Act.put, List.setIfInBounds_toArray, List.set_cons_zero, List.set_cons_succ]
        refine wpAnyH_take (i := 4) (oi := { dst := some 66, op := Go.Op.move (Go.Operand.tmp 6), type := 56, pos := "law.go:303", after := #[], guard := none }) (v := ?_) rfl (by kernel_rfl) (by kernel_rfl) (by kernel_rfl) (fun _ _ _ h => h) (Or.inl ⟨by rfl, ?_⟩) (by assumption) ?_
        rotate_left
        · intro w hSw
          go_simp
          try with_reducible rfl
        try simp only [Act.put, List.setIfInBounds_toArray, List.set_cons_zero, List.set_cons_succ]
        refine wpAnyH_take (i := 5) (oi := { dst := some 67, op := Go.Op.move (Go.Operand.tmp 10), type := 3, pos := "law.go:303", after := #[], guard := none }) (v := ?_) rfl (by kernel_rfl) (by kernel_rfl) (by kernel_rfl) (fun _ _ _ h => h) (Or.inl ⟨by rfl, ?_⟩) (by assumption) ?_
        rotate_left
        · intro w hSw
          go_simp
          try with_reducible rfl
        try simp only [Act.put, List.setIfInBounds_toArray, List.set_cons_zero, List.set_cons_succ]
        refine wpAnyH_take (i := 6) (oi := { dst := some 68, op := Go.Op.indexAddr 56 (Go.Operand.tmp 66) (Go.Operand.tmp 67), type := 0, pos := "law.go:303", after := #[{ on := 4, ground := Go.Ground.data }, { on := 5, ground := Go.Ground.data }], guard := none }) (v := ?_) rfl (by kernel_rfl) (by kernel_rfl) (by kernel_rfl) (fun _ _ _ h => h) (Or.inl ⟨by rfl, ?_⟩) (by assumption) ?_
        rotate_left
        · intro w hSw
          have z1 := j3
          have z2 := j2
          go_simp
          try with_reducible rfl
        try simp only [Act.put, List.setIfInBounds_toArray, List.set_cons_zero, List.set_cons_succ]
        refine wpAnyH_take (i := 7) (oi := { dst := some 69, op := Go.Op.load 51 (Go.Operand.tmp 68), type := 51, pos := "law.go:303", after := #[{ on := 6, ground := Go.Ground.data }], guard := none }) (v := ?_) rfl (by kernel_rfl) (by kernel_rfl) (by kernel_rfl) (fun _ _ _ h => h) (Or.inl ⟨by rfl, ?_⟩) (by assumption) ?_
        rotate_left
        · intro w hSw
          have z := cell_below HY2.out hSw.out
          go_simp
          try with_reducible rfl
        try simp only [Act.put, List.setIfInBounds_toArray, List.set_cons_zero, List.set_cons_succ]
        refine wpAnyH_ready (rs := [8]) (by kernel_rfl) (by simp) ?_
        refine AllReadyH.cons (o := { dst := some 70, op := Go.Op.call { callee := Go.Callee.value (Go.Operand.func 22), args := #[Go.Operand.tmp 65, Go.Operand.tmp 69], argTypes := #[51, 51] }, type := 4, pos := "law.go:303", after := #[{ on := 3, ground := Go.Ground.data }, { on := 7, ground := Go.Ground.data }], guard := none }) rfl (fun K hK => ?_) AllReadyH.nil
        go_simp
        go_at_call 22
        with_reducible refine Calls.mono (sameInts_any (HS1.out.below X0.out) (HS2.out.below X0.out) HSN.out) ?_
        rintro e y1 ⟨rfl, D1⟩
        have X1 := hide (chain X0.out D1)
        clear D1 hHeld
        try dsimp only
        refine hK.out _ _ X1 (fun hHeld => ?_)
        clear hK K
        try simp only [Act.put, List.setIfInBounds_toArray, List.set_cons_zero, List.set_cons_succ]
        refine wpAnyH_take (i := 9) (oi := { dst := some 71, op := Go.Op.unOp Go.UnOp.not 4 (Go.Operand.tmp 70), type := 4, pos := "law.go:303", after := #[{ on := 8, ground := Go.Ground.data }], guard := none }) (v := ?_) rfl (by kernel_rfl) (by kernel_rfl) (by kernel_rfl) (fun _ _ _ h => h) (Or.inl ⟨by rfl, ?_⟩) (by assumption) ?_
        rotate_left
        · intro w hSw
          go_simp
          try with_reducible rfl
        try simp only [Act.put, List.setIfInBounds_toArray, List.set_cons_zero, List.set_cons_succ]
        refine wpAnyH_done (by kernel_rfl) ?_ _
        have HMz := hide (HM2.out.below X1.out)
        clear HM2 HY1 HY2 HS1 HS2
        go_wp2
        exact ⟨⟨j + 1, by omega, by simp, HMz.out⟩, by simp [intOf]; omega⟩
    · --
      obtain rfl : N = j := by omega
      have hnk : ¬ (N : Int) < (N : Int) := by omega
      have HN1 := hide HM2.out.marks
      clear HM2 HG2
      go_upto_region 26 with fail
      clear hnk
      generalize wr = W2 at *
      go_loopw [11, 12, 13] (fun m f s wr => ∃ (i : Nat) (M : Int) (F : List Int) (C' : List (List Int)), i ≤ N ∧ s = .int .i64 (i : Int) ∧ m = .int .i64 M ∧ -(i : Int) * 1048576 ≤ M ∧ M ≤ 0 ∧ Hid (Ln w wr lb mb r1 va vc L D (.slice la N lc) G1 C' f F) ∧ Hid (Mks C i F C') ∧ Hid (∀ (j : Nat) f, F[j]? = some f → -4398046511104 ≤ f ∧ f ≤ 0)) (fun _ _ s _ => N - (intOf s).toNat)
      case atStart => exact ⟨0, 0, [], C, Nat.zero_le _, rfl, rfl, by simp, by simp, HN1.out, Mks.first C, fun j f h => by simp at h⟩
      case round =>
      obtain ⟨i, M, F, C', hi, rfl, rfl, hM1, hM2, HNr, HMk, HFb⟩ := hrel
      clear HN1
      by_cases hiN : i < N
      · --
        as_aux_lemma =>
          obtain ⟨gl, rfl⟩ := lown_some HNr.out.f.own hiN
          obtain ⟨⟨ua, un, uc⟩, l, hu1, hu2, -, hu4⟩ := HNr.out.f.get (j := i) (by have := HG1.out; omega)
          dsimp only at hu4
          have HU1 := hide hu1
          have HU2 := hide hu2
          have hun : un ≤ 1048576 := by
            have h1 := HMk.out.ls i l _ hu2 (List.getElem?_eq_getElem (by have := HN.out; omega))
            have h2 := HSZ.out i _ (List.getElem?_eq_getElem (by have := HN.out; omega))
            omega
          have HUL := hide hu4
          clear hu1 hu2 hu4
          have f1 : (i : Int) < (N : Int) := by omega
          have f2 : ¬ (i : Int) < 0 := by omega
          go_upto_region 29 with (at_builtin; (refine step_i rfl (.tmp 78) (.tmp 80) rfl w.heap.size _ F rfl ((HNr.out.below (xnew wr _)).o) wr.heap.size 1 M rfl (Bk.new wr (iv M) _) (by have := HMk.out.lenF; omega) (Nat.le_trans HNr.out.t.b.size (xnew wr _).size) ?_; intro ga ca w5 k1 k2 k3 k4; have HN5 := hide ((HNr.out.below (xnew wr _)).more k1 k3 (fun b e => by obtain rfl := Option.some.inj e; exact k4)); clear k1 k2 k3 k4))
          go_upto_region 30 with fail
          go_loopw [11, 14] (fun m s wr => ∃ k : Nat, k ≤ un ∧ s = .int .i64 (k : Int) ∧ m = .int .i64 (M - (k : Int)) ∧ Hid (Ln w wr lb mb r1 va vc L D (.slice (some ⟨gl, 0, none⟩) N lc) G1 (C'.set i (mkd M k l)) (.slice (some ⟨ga, 0, none⟩) (F.length + 1) ca) (F ++ [M]))) (fun _ s _ => un - (intOf s).toNat)
          case atStart => exact ⟨0, Nat.zero_le _, rfl, by simp, by rw [mkd_zero, set_same HU2.out]; exact HN5.out⟩
          case round =>
          obtain ⟨k, hk, rfl, rfl, HNk⟩ := hrel
          clear HN5
          have y0 : wr.cell? ⟨gl, i, none⟩ = some (.slice ua un uc) := fm_cell HNk.out.f HU1.out
          by_cases hku : k < un
          · --
            as_aux_lemma =>
              have hll : (mkd M k l).length = l.length := mkd_len (by have := HUL.out; omega)
              have hset : (C'.set i (mkd M k l))[i]? = some (mkd M k l) := List.getElem?_set_self (List.getElem?_eq_some_iff.1 HU2.out).1
              have hown := HNk.out.f.each i _ _ HU1.out hset
              obtain ⟨bu, rfl⟩ := lown_some (show IsOwn wr w.heap.size (.slice ua un uc) (mkd M k l) from hown) hku
              obtain ⟨p1, ⟨u0, y1⟩, y2⟩ := HNk.out.put HU1.out hset rfl (k := k) (by have := HUL.out; omega) (M - (k : Int) - 1)
              have HPn := hide p1
              clear p1 hown hset
              have hw : IntKind.i64.wrap (M - (k : Int) - 1) = M - (k : Int) - 1 := by rw [IntKind.wrap_i64]; omega
              have g1 : (k : Int) < (un : Int) := by omega
              have g2 : ¬ (k : Int) < 0 := by omega
              go_wp2
              refine ⟨⟨k + 1, by omega, by simp, ?_, ?_⟩, by simp [intOf]; omega⟩
              · congr 1
                omega
              · have h5 := HPn.out
                have e5 : (C'.set i (mkd M k l)).set i ((mkd M k l).set k (M - (k : Int) - 1)) = C'.set i (mkd M (k + 1) l) := by rw [List.set_set, show M - (k : Int) - 1 = M - 1 - (k : Int) by omega, mkd_set (by have := HUL.out; omega)]
                rw [e5] at h5
                exact h5
          · --
            as_aux_lemma =>
              obtain rfl : k = un := by omega
              have g1 : ¬ (k : Int) < (k : Int) := by omega
              have h5 := HNk.out
              rw [show k = l.length from HUL.out, mkd_all] at h5
              have HNe := hide h5
              clear HNk h5
              go_wp2
              exact ⟨⟨i + 1, M - (k : Int), F ++ [M], _, by omega, by simp, rfl, by omega, by omega, HNe.out, HMk.out.next HU2.out M, mk_snoc HFb.out ⟨by omega, by omega⟩⟩, by simp [intOf]; omega⟩
      · --
        obtain rfl : N = i := by omega
        have hnk : ¬ (N : Int) < (N : Int) := by omega
        have HFL := hide HMk.out.lenF
        obtain ⟨fa, fc, rfl⟩ := own_len HNr.out.o HFL.out
        have HCL : Hid (C'.length = N) := by have h1 := HMk.out.len; have h2 := HN.out; unfold Hid; omega
        have HSZ2 : Hid (∀ (j : Nat) l, C'[j]? = some l → l.length ≤ 1048576) := fun j l hl => by
          have hj := (List.getElem?_eq_some_iff.1 hl).1
          have h3 := HMk.out.ls j l _ hl (List.getElem?_eq_getElem (by have h1 := HMk.out.len; omega))
          have h2 := HSZ.out j _ (List.getElem?_eq_getElem (by have h1 := HMk.out.len; omega))
          omega
        have HMM := hide HMk.out.mks
        clear HMk HSZ HN hM1 hM2
        go_upto_region 35 with fail
        clear hnk
        generalize wr = W3 at *
        go_loopw [15] (fun s wr => ∃ j : Nat, j ≤ N ∧ s = .int .i64 (j : Int) ∧ Hid (Ln w wr lb mb r1 va vc L D (.slice la N lc) G1 C' (.slice fa N fc) F)) (fun s _ => N - (intOf s).toNat)
        case atStart => exact ⟨0, Nat.zero_le _, rfl, HNr.out⟩
        case round =>
        obtain ⟨j, hj, rfl, HNj⟩ := hrel
        clear HNr
        by_cases hjN : j < N
        · --
          as_aux_lemma =>
            obtain ⟨gl, rfl⟩ := lown_some HNj.out.f.own hjN
            obtain ⟨⟨ua, un, uc⟩, l, hu1, hu2, hu3, hu4⟩ := HNj.out.f.get (j := j) (by have := HG1.out; omega)
            dsimp only at hu4
            have HU1 := hide hu1
            have HU2 := hide hu2
            have hun : un ≤ 1048576 := by have h1 := HSZ2.out j l hu2; omega
            have HUL := hide hu4
            have HE8 := hide (E8.first (B := wr.heap.size) hu3)
            clear hu1 hu2 hu3 hu4
            have f1 : (j : Int) < (N : Int) := by omega
            have f2 : ¬ (j : Int) < 0 := by omega
            have y0 : wr.cell? ⟨gl, j, none⟩ = some (.slice ua un uc) := fm_cell HNj.out.f HU1.out
            go_upto_region 39 with fail
            clear y0
            generalize wr = W4 at *
            go_loopw [16, 17] (fun g s wr => ∃ (k : Nat) (M : List Int), k ≤ 8 ∧ s = .int .i64 (k : Int) ∧ M.length = k ∧ Hid (E8 wr w.heap.size W4.heap.size ⟨ua, un, uc⟩ l g M) ∧ Hid (Frm (fun b => (Value.slice ua un uc).ownBlock = some b) W4 wr)) (fun _ s _ => 8 - (intOf s).toNat)
            case atStart => exact ⟨0, [], by omega, rfl, rfl, HE8.out, Frm.refl _ _⟩
            case round =>
            obtain ⟨k, M, hk, rfl, hMl, HEk, HFk⟩ := hrel
            clear HE8
            by_cases hk8 : k < 8
            · --
              as_aux_lemma =>
                have g1 : (k : Int) < 8 := by omega
                have HML := hide hMl
                clear hMl
                have hw : IntKind.i64.wrap (7000 + (k : Int)) = 7000 + (k : Int) := by rw [IntKind.wrap_i64]; omega
                go_upto_region 40 with (at_builtin; (refine step_i rfl (.tmp 114) (.tmp 117) rfl w.heap.size _ (l ++ M) rfl ((HEk.out.below (xnew wr _)).row) wr.heap.size 1 (7000 + (k : Int)) rfl (Bk.new wr (iv (7000 + (k : Int))) _) (by have h1 := HUL.out; have h2 := HML.out; rw [List.length_append]; omega) (Nat.le_trans (Nat.le_trans HNj.out.t.b.size HFk.out.size) (xnew wr _).size) ?_; intro ga ca w5 k1 k2 k3 k4; have HE5 := hide ((HEk.out.below (xnew wr _)).next (Nat.le_trans HFk.out.size (xnew wr _).size) k1 k2 k3 k4); have HF5 := hide ((HFk.out.trans (Frm.ofBelow (S := fun _ => False) (xnew wr _)) (fun _ _ e => e.elim)).trans (frm_grown k3) (fun b hb e => (HEk.out.blk b e).resolve_right (by omega))); clear k1 k2 k3 k4; obtain ⟨nn, hnn⟩ : ∃ z, z = (l ++ M).length + 1 := ⟨_, rfl⟩; rw [← hnn] at HE5 ⊢; clear hnn))
                go_wp2
                exact ⟨⟨k + 1, _, by omega, by simp, by rw [List.length_append, HML.out]; rfl, HE5.out, HF5.out⟩, by simp [intOf]; omega⟩
            · --
              as_aux_lemma =>
                obtain rfl : k = 8 := by omega
                obtain ⟨ga, gc, rfl⟩ := own_len HEk.out.row (n := un + 8) (by rw [List.length_append, hMl]; have := HUL.out; omega)
                have HNz := hide (HNj.out.e8 HU1.out HU2.out HFk.out HEk.out.old)
                have y0 : wr.cell? ⟨gl, j, none⟩ = some (.slice ua un uc) := fm_cell HNz.out.f HU1.out
                have hw : IntKind.i64.wrap ((un : Int) + 8) = (un : Int) + 8 := by rw [IntKind.wrap_i64]; omega
                clear HEk HFk HNj
                go_wp2
                exact ⟨⟨j + 1, by omega, by simp, HNz.out⟩, by simp [intOf]; omega⟩
        · --
          obtain rfl : N = j := by omega
          have hnk : ¬ (N : Int) < (N : Int) := by omega
          go_upto_region 45 with fail
          clear hnk
          generalize wr = W5 at *
          go_loopw [18] (fun s wr => ∃ j : Nat, j ≤ N ∧ s = .int .i64 (j : Int) ∧ Hid (Ln w wr lb mb r1 va vc L D (.slice la N lc) G1 C' (.slice fa N fc) F)) (fun s _ => N - (intOf s).toNat)
          case atStart => exact ⟨0, Nat.zero_le _, rfl, HNj.out⟩
          case round =>
          obtain ⟨j, hj, rfl, HNr⟩ := hrel
          clear HNj
          by_cases hjN : j < N
          · --
            as_aux_lemma =>
              obtain ⟨gl, rfl⟩ := lown_some HNr.out.f.own hjN
              obtain ⟨gf, rfl⟩ := lown_some HNr.out.o hjN
              obtain ⟨⟨ua, un, uc⟩, l, hu1, hu2, hu3, hu4⟩ := HNr.out.f.get (j := j) (by have := HG1.out; omega)
              dsimp only at hu4
              obtain ⟨f, hf⟩ : ∃ f, F[j]? = some f := ⟨_, List.getElem?_eq_getElem (by have := HFL.out; omega)⟩
              have HU1 := hide hu1
              have HU2 := hide hu2
              have HFf := hide hf
              have hun : un ≤ 1048576 := by have h1 := HSZ2.out j l hu2; omega
              have HUL := hide hu4
              have HLM := hide (HMM.out j l f hu2 hf)
              have hfb := HFb.out j f hf
              clear hu1 hu2 hu3 hu4 hf
              have f1 : (j : Int) < (N : Int) := by omega
              have f2 : ¬ (j : Int) < 0 := by omega
              go_upto_region 48 with fail
              go_loopw [19] (fun s wr => ∃ k : Nat, k ≤ un ∧ s = .int .i64 (k : Int) ∧ Hid (Ln w wr lb mb r1 va vc L D (.slice (some ⟨gl, 0, none⟩) N lc) G1 C' (.slice (some ⟨gf, 0, none⟩) N fc) F)) (fun s _ => un - (intOf s).toNat)
              case atStart => exact ⟨0, Nat.zero_le _, rfl, HNr.out⟩
              case round =>
              obtain ⟨k, hk, rfl, HNk⟩ := hrel
              clear HNr
              have y0 : wr.cell? ⟨gl, j, none⟩ = some (.slice ua un uc) := fm_cell HNk.out.f HU1.out
              by_cases hku : k < un
              · --
                as_aux_lemma =>
                  have hown := HNk.out.f.each j _ _ HU1.out HU2.out
                  obtain ⟨bu, rfl⟩ := lown_some (show IsOwn wr w.heap.size (.slice ua un uc) l from hown) hku
                  have y1 : wr.cell? ⟨bu, k, none⟩ = some (.int .i64 (f - 1 - (k : Int))) := own_icell (show IsOwn wr w.heap.size (.slice (some ⟨bu, 0, none⟩) un uc) l from hown) (by rw [HLM.out]; exact mrk_at (by have := HUL.out; omega))
                  have y2 : wr.cell? ⟨gf, j, none⟩ = some (.int .i64 f) := own_icell HNk.out.o HFf.out
                  clear hown
                  have hw1 : IntKind.i64.wrap (f - 1) = f - 1 := by rw [IntKind.wrap_i64]; omega
                  have hw2 : IntKind.i64.wrap (f - 1 - (k : Int)) = f - 1 - (k : Int) := by rw [IntKind.wrap_i64]; omega
                  have g1 : (k : Int) < (un : Int) := by omega
                  have g2 : ¬ (k : Int) < 0 := by omega
                  go_upto_region 50 with fail
                  go_region
                  go_wp2
                  exact ⟨⟨k + 1, by omega, by simp, HNk.out.below ((Below.refl _ _).drew)⟩, by simp [intOf]; omega⟩
              · --
                as_aux_lemma =>
                  obtain rfl : k = un := by omega
                  have g1 : ¬ (k : Int) < (k : Int) := by omega
                  go_wp2
                  exact ⟨⟨j + 1, by omega, by simp, HNk.out⟩, by simp [intOf]; omega⟩
          · --
            as_aux_lemma =>
              obtain rfl : N = j := by omega
              have hnk : ¬ (N : Int) < (N : Int) := by omega
              have hLn : L.n ≤ 1048576 := HLn.out
              go_wp2_with fail
              refine Calls.mono (waiting_any 0 (by omega) HNr.out.t.l sort_any) ?_
              rintro e w5 ⟨aa, na, ca, rfl, hna, oa, b⟩
              have HNA := hide hna
              clear hna
              have HN5 := hide (HNr.out.below b)
              have HA := hide (own_rcs oa)
              clear b oa HNr
              go_wp2_with fail
              refine Calls.mono (rwaiting_any 0 HN5.out.t.s (by omega) HN5.out.t.r) ?_
              rintro e w6 ⟨ab, nb, cb, rfl, hnb, ob', b⟩
              have HNB := hide hnb
              clear hnb
              have HN6 := hide (HN5.out.below b)
              replace HA := hide (HA.out.below b)
              have HBs := hide (own_rcs ob')
              clear b ob' HN5
              obtain rfl : na = nb := HNA.out.trans HNB.out.symm
              go_wp2_with fail
              refine Calls.mono (sameInts_any HA.out HBs.out (by have h1 := wtL_len L 0; have h2 := HNA.out; omega)) ?_
              rintro e w7 ⟨rfl, b⟩
              have HN7 := hide (HN6.out.below b)
              clear b HN6 HA HBs HNA HNB
              go_wp2_with fail
              refine Calls.mono (waiting_any 1 (by omega) HN7.out.t.l sort_any) ?_
              rintro e w8 ⟨aa, na, ca, rfl, hna, oa, b⟩
              have HNA := hide hna
              clear hna
              have HN5 := hide (HN7.out.below b)
              have HA := hide (own_rcs oa)
              clear b oa HN7
              go_wp2_with fail
              refine Calls.mono (rwaiting_any 1 HN5.out.t.s (by omega) HN5.out.t.r) ?_
              rintro e w9 ⟨ab, nb, cb, rfl, hnb, ob', b⟩
              have HNB := hide hnb
              clear hnb
              have HN6 := hide (HN5.out.below b)
              replace HA := hide (HA.out.below b)
              have HBs := hide (own_rcs ob')
              clear b ob' HN5
              obtain rfl : na = nb := HNA.out.trans HNB.out.symm
              go_wp2_with fail
              refine Calls.mono (sameInts_any HA.out HBs.out (by have h1 := wtL_len L 1; have h2 := HNA.out; omega)) ?_
              rintro e w10 ⟨rfl, b⟩
              have HZ := hide ((HN6.out.below b).t.b)
              clear b HN6 HA HBs HNA HNB
              go_wp2
              go_ret
              exact ⟨rfl, HZ.out⟩
end Go.Proofs.YtgnkmenjjmfcfaaDoor.linkMemory
