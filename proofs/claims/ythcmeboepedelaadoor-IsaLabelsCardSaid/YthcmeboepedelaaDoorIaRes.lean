/-
  The words made of the items.
-/
import Derived.Test.YthcmeboepedelaaDoorIaLine
import Derived.OwnWalk
namespace Go.Proofs.YthcmeboepedelaaDoor
open Go.RowKit FerryCrc
set_option linter.unusedVariables false
set_option linter.unusedSimpArgs false
def wdC (x : Int) : List Value := [.int .u32 x]
theorem wdC1 (x : Int) : (wdC x).length = 1 := rfl
theorem infoU4 : (Tryd.prog.info? 28).map (fun i => (i.size, i.bytes, i.zero.map (·.cells))) = some (1, 4, some (wdC 0).toArray) := by kernel_rfl
theorem wdC_one (l : List Int) : ∀ u ∈ l.flatMap wdC, u.oneCell' = true := by
  intro u hu
  obtain ⟨x, -, hx⟩ := List.mem_flatMap.1 hu
  simp only [wdC, List.mem_singleton] at hx
  subst hx
  rfl
/-- An item with its label's address. -/
def resI (M : ByteArray → Option Int) (k : Nat) (x : It) : It := if x.label = ⟨#[]⟩ then x else { x with imm := if x.op = 16 then (M x.label).getD 0 else ((M x.label).getD 0 - 4 * ((k : Int) + 1)).tdiv 4 }
def wordR (x : It) : Int := if okI x.ins then encv x.ins else 0
def resW (M : ByteArray → Option Int) : Nat → List It → List Int
  | _, [] => []
  | k, x :: l => wordR (resI M k x) :: resW M (k + 1) l
theorem resW_len (M : ByteArray → Option Int) : ∀ (k : Nat) (l : List It), (resW M k l).length = l.length
  | _, [] => rfl
  | k, x :: l => by simp [resW, resW_len M (k + 1) l]
theorem resW_at (M : ByteArray → Option Int) : ∀ (j k : Nat) (l : List It) (x : It), l[k]? = some x → (resW M j l)[k]? = some (wordR (resI M (j + k) x))
  | _, _, [], x, h => by simp at h
  | j, 0, y :: l, x, h => by
    simp at h
    subst h
    simp [resW]
  | j, k + 1, y :: l, x, h => by
    have h1 := resW_at M (j + 1) k l x (by simpa using h)
    simp only [resW, List.getElem?_cons_succ]
    rw [h1, show j + 1 + k = j + (k + 1) by omega]
structure ResOk (M : ByteArray → Option Int) (x : It) : Prop where
  op : x.op ≠ 0
  lab : x.label = ⟨#[]⟩ ∨ ∃ ad, M x.label = some ad ∧ 0 ≤ ad ∧ ad ≤ 4000000
  sm : x.label.size ≤ 140737488351232
set_option maxRecDepth 100000 in
set_option maxHeartbeats 40000000 in
theorem resolve_any (w : World) (hv : Isv w) {base mb cnt : Nat} {M : ByteArray → Option Int} {v : Value} {I : List It} (hM : Lab w mb cnt M) (hI : LOwn itC 8 77 w base v I) (hn : I.length ≤ 100000) (hok : ∀ x ∈ I, ResOk M x) :
    Calls Tryd.prog 33 #[v, .map (some mb)] w fun e w' => ∃ u, e = .returned (.tuple #[u, .nilIface]) ∧ LOwn wdC 1 28 w' w.heap.size u (resW M 0 I) ∧ Below w.heap.size w w' := by
  have HV := hide (fun (w' : World) (b : Below w.heap.size w w') => hv.below b)
  have HM := hide (fun (w' : World) (b : Below w.heap.size w w') => hM.below b)
  have HI := hide (fun (w' : World) (b : Below w.heap.size w w') => hI.below b)
  have HOK := hide hok
  have HN := hide hn
  obtain ⟨n, hn2⟩ : ∃ n, I.length = n := ⟨_, rfl⟩
  obtain ⟨ia, ic, rfl⟩ := own_len hI hn2
  have HL := hide hn2
  have hnn : n ≤ 100000 := by omega
  obtain ⟨i0, z0, q1, q2, q3, q4, q5⟩ := info_open infoU4
  have HZ := hide (And.intro q1 (And.intro q2 (And.intro q3 q4)))
  clear hv hM hI hok hn hn2 q1 q2 q3 q4 q5
  go_enter Tryd.func33, Tryd.ntmps33
  go_upto_region 3 with (refine wpList_make_own _ rfl (.const (.int .i64 0)) (.tmp 12) 31 rfl w.heap.size 28 i0 z0 1 Tryd.underlying31 HZ.out.1 HZ.out.2.1 HZ.out.2.2.1 .i64 .i64 (n : Int) n rfl rfl rfl (by rw [HZ.out.2.2.2]; omega) (by unfold maxLen; omega) (Nat.le_refl _) ?_; intro w1 k1 k2; have K1 := hide (show LOwn wdC 1 28 w1 w.heap.size (.slice (some ⟨w.heap.size, 0, none⟩) 0 n) [] from k1); have KB := hide (bel_grown (Below.refl _ _) k2 (Nat.le_refl _) (fun b h => by cases h)); clear k1 k2)
  clear HZ
  go_loopw [6, 16] (fun u s wr => ∃ k : Nat, k ≤ n ∧ s = .int .i64 (k : Int) ∧ Hid (LOwn wdC 1 28 wr w.heap.size u ((resW M 0 I).take k)) ∧ Hid (Below w.heap.size w wr)) (fun _ s _ => n - (intOf s).toNat)
  case atStart => exact ⟨0, Nat.zero_le _, rfl, K1.out, KB.out⟩
  case round =>
  obtain ⟨k, hk, rfl, HU, HB⟩ := hrel
  clear K1 KB
  by_cases hlt : k < n
  · --
    obtain ⟨gi, rfl⟩ := lown_some (HI.out wr HB.out) hlt
    obtain ⟨x, hx⟩ : ∃ x, I[k]? = some x := ⟨_, List.getElem?_eq_getElem (by have := HL.out; omega)⟩
    obtain ⟨b, o, ea, hc⟩ := (own_rcs (HI.out wr HB.out)).at it8 (by decide) hx
    have HXK := hide (HOK.out x (List.mem_of_getElem? hx))
    have HWA := hide (resW_at M 0 k I x hx)
    rw [Nat.zero_add] at HWA
    clear hx
    simp only [Option.some.injEq, Addr.mk.injEq, and_true] at ea
    obtain ⟨rfl, rfl⟩ := ea
    obtain ⟨op, xa, xb, xc, imm, plain, label, line⟩ := x
    have y0 := hc 0 _ rfl
    have y1 := hc 1 _ rfl
    have y2 := hc 2 _ rfl
    have y3 := hc 3 _ rfl
    have y4 := hc 4 _ rfl
    have y5 := hc 5 _ rfl
    have y6 := hc 6 _ rfl
    have y7 := hc 7 _ rfl
    simp only [Nat.add_zero, Nat.zero_add] at y0 y1 y2 y3 y4 y5 y6 y7
    clear hc
    have hlen : ((resW M 0 I).take k).length = k := by rw [List.length_take, resW_len, HL.out]; omega
    have HLK := hide hlen
    obtain ⟨ua, uc, rfl⟩ := own_len HU.out hlen
    have HTK : Hid ((resW M 0 I).take (k + 1) = (resW M 0 I).take k ++ [wordR (resI M k ⟨op, xa, xb, xc, imm, plain, label, line⟩)]) := by unfold Hid; rw [List.take_add_one, HWA.out]; rfl
    have HOP : Hid (op ≠ 0) := HXK.out.op
    have HSM : Hid (label.size ≤ 140737488351232) := HXK.out.sm
    clear hlen HWA
    have g1 : (k : Int) < (n : Int) := by omega
    have g2 : ¬ (k : Int) < 0 := by omega
    obtain ⟨W, hW, B0, D0⟩ := box1 wr [.int .i64 op, .int .i64 xa, .int .i64 xb, .int .i64 xc, .int .i64 imm, .int .u32 plain, .string label, .int .i64 line] 77
    obtain ⟨q, hq⟩ : ∃ q, wr.heap.size = q := ⟨_, rfl⟩
    rw [hq] at B0
    have HHW := hide hW
    have HHQ := hide hq
    have HBX := hide B0
    have HBW := hide (chain HB.out D0)
    have HUW := hide (HU.out.below D0)
    have HMW := hide (HM.out W HBW.out)
    have HQW : Hid (w.heap.size ≤ q) := by have h1 := HB.out.size; unfold Hid; omega
    clear hW hq B0 D0 HB HU
    go_upto_region 5 with fail
    simp only [HHW.out, HHQ.out]
    clear HHW y0 y1 y2 y3 y4 y5 y6 y7
    have x0 := HBX.out.cell 0 rfl
    have x6 := HBX.out.cell 6 rfl
    by_cases hl : label = ⟨#[]⟩
    · --
      as_aux_lemma =>
      subst hl
      have HR1 : Hid (resI M k ⟨op, xa, xb, xc, imm, plain, ⟨#[]⟩, line⟩ = ⟨op, xa, xb, xc, imm, plain, ⟨#[]⟩, line⟩) := by unfold Hid resI; rw [if_pos rfl]
      rw [HR1.out] at HTK
      have HWD := hide (word_any ⟨op, xa, xb, xc, imm, plain, ⟨#[]⟩, line⟩ W (HV.out W HBW.out) HOP.out)
      have HTK2 : Hid ((resW M 0 I).take (k + 1) = (resW M 0 I).take k ++ [if okI (It.ins ⟨op, xa, xb, xc, imm, plain, ⟨#[]⟩, line⟩) then encv (It.ins ⟨op, xa, xb, xc, imm, plain, ⟨#[]⟩, line⟩) else 0]) := HTK.out
      generalize (if okI (It.ins ⟨op, xa, xb, xc, imm, plain, ⟨#[]⟩, line⟩) = true then encv (It.ins ⟨op, xa, xb, xc, imm, plain, ⟨#[]⟩, line⟩) else 0) = wd at *
      unfold itC at HWD
      dsimp only at HWD
      go_upto_region 6 with (refine wp_lookS _ rfl (.tmp 22) (.tmp 24) rfl HMW.out rfl _ HSM.out rfl ?_; intro yy _; generalize (M ⟨#[]⟩).isSome = bb)
      have x1 := HBX.out.cell 1 rfl
      have x2 := HBX.out.cell 2 rfl
      have x3 := HBX.out.cell 3 rfl
      have x4 := HBX.out.cell 4 rfl
      have x5 := HBX.out.cell 5 rfl
      have x7 := HBX.out.cell 7 rfl
      go_wp2_with fail
      refine Calls.mono HWD.out ?_
      rintro e w4 ⟨rfl, b4⟩
      have HUX := hide (HUW.out.below b4)
      have HB4 := hide (chain HBW.out b4)
      clear b4 HWD x0 x1 x2 x3 x4 x5 x6 x7 HUW HBW HMW HBX
      go_wp2_with (at_builtin; (refine append_lits (f := wdC) wdC1 0 Tryd.underlying31 infoU4 _ rfl (.tmp 54) (.tmp 57) rfl w.heap.size _ ((resW M 0 I).take k) rfl (HUX.out.below (xnew w4 _)) w4.heap.size 1 1 [wd] rfl rfl (Bk.new w4 (wdC wd) _) (wdC_one _) (by decide) (by have := HLK.out; omega) (by have := HLK.out; omega) (Nat.le_trans HB4.out.size (xnew w4 _).size) ?_; intro g' c' w5 k1 k2 k3; have K1 := hide k1; have K2 := hide (bel_grown (chain HB4.out (xnew w4 _)) k2 (Nat.le_refl _) (fun b h => (World.ownsRow.lt HUX.out b h).1)); clear k1 k2 k3; obtain ⟨vv, hvv⟩ : ∃ vv, vv = Value.slice (some ⟨g', 0, none⟩) (((resW M 0 I).take k).length + 1) c' := ⟨_, rfl⟩; rw [← hvv] at K1 ⊢; clear hvv))
      rw [← HTK2.out] at K1
      exact ⟨⟨k + 1, by omega, by simp, K1.out, K2.out⟩, by simp [intOf]; omega⟩
    · --
      as_aux_lemma =>
      have HLB : Hid (∃ ad, M label = some ad ∧ 0 ≤ ad ∧ ad ≤ 4000000) := (HXK.out.lab).resolve_left hl
      obtain ⟨ad, hM, ha0, ha1⟩ := HLB.out
      have HAD := hide hM
      have e1 : ¬ label.toList = [] := str_nil hl
      have e2 : label.toList.isEmpty = false := by rw [Bool.eq_false_iff, ne_eq, List.isEmpty_iff]; exact e1
      obtain ⟨im, him⟩ : ∃ im, (if op = 16 then ad else (ad - 4 * ((k : Int) + 1)).tdiv 4) = im := ⟨_, rfl⟩
      have HR1 : Hid (resI M k ⟨op, xa, xb, xc, imm, plain, label, line⟩ = ⟨op, xa, xb, xc, im, plain, label, line⟩) := by
        unfold Hid resI
        rw [if_neg hl]
        dsimp only
        rw [hM]
        dsimp only [Option.getD]
        rw [him]
      rw [HR1.out] at HTK
      have hkk : (k : Int) ≤ 100000 := by omega
      have HLI := hide (fun w => labelImm_any op ad (4 * ((k : Int) + 1)) w ⟨ha0, ha1⟩ ⟨by omega, by omega⟩)
      rw [him] at HLI
      have hw1 : IntKind.i64.wrap (4 * ((k : Int) + 1)) = 4 * ((k : Int) + 1) := by rw [IntKind.wrap_i64]; omega
      have x4 := HBX.out.cell 4 rfl
      have f4 := HBX.out.frozen 4
      clear him hM hl HLB HXK
      go_upto_region 6 with (refine wp_lookS _ rfl (.tmp 22) (.tmp 24) rfl HMW.out rfl _ HSM.out rfl ?_; intro yy hyy; rw [hyy ad HAD.out, HAD.out])
      go_wp2_with fail
      refine Calls.mono (HLI.out _) ?_
      rintro e w' ⟨rfl, rfl⟩
      obtain ⟨W2, hW2⟩ : ∃ z, z = W.setCell ⟨q, 4, none⟩ (.int .i64 im) := ⟨_, rfl⟩
      have D2 : Below w.heap.size w W2 := by rw [hW2]; exact HBW.out.setCell (p := ⟨q, 4, none⟩) HQW.out _
      have B2 : Bk W2 q [.int .i64 op, .int .i64 xa, .int .i64 xb, .int .i64 xc, .int .i64 im, .int .u32 plain, .string label, .int .i64 line] 77 := by rw [hW2]; exact HBX.out.set 4 _
      have HU2 : LOwn wdC 1 28 W2 w.heap.size (.slice ua k uc) ((resW M 0 I).take k) := by rw [hW2]; exact HUW.out.far (p := ⟨q, 4, none⟩) (fun e => own_box (by decide) HUW.out HBX.out e) _
      have HUV := hide HU2
      have HD2 := hide D2
      have HB2 := hide B2
      have HWW := hide hW2
      clear hW2 D2 B2 HU2
      have HWD := hide (word_any ⟨op, xa, xb, xc, im, plain, label, line⟩ W2 (HV.out W2 HD2.out) HOP.out)
      have HTK2 : Hid ((resW M 0 I).take (k + 1) = (resW M 0 I).take k ++ [if okI (It.ins ⟨op, xa, xb, xc, im, plain, label, line⟩) then encv (It.ins ⟨op, xa, xb, xc, im, plain, label, line⟩) else 0]) := HTK.out
      generalize (if okI (It.ins ⟨op, xa, xb, xc, im, plain, label, line⟩) = true then encv (It.ins ⟨op, xa, xb, xc, im, plain, label, line⟩) else 0) = wd at *
      unfold itC at HWD
      dsimp only at HWD
      go_upto_region 10 with fail
      rw [← HWW.out]
      clear HWW x0 x4 x6 f4 HBX HBW HUW HMW HLI
      have x0 := HB2.out.cell 0 rfl
      have x1 := HB2.out.cell 1 rfl
      have x2 := HB2.out.cell 2 rfl
      have x3 := HB2.out.cell 3 rfl
      have x4 := HB2.out.cell 4 rfl
      have x5 := HB2.out.cell 5 rfl
      have x6 := HB2.out.cell 6 rfl
      have x7 := HB2.out.cell 7 rfl
      go_wp2_with fail
      refine Calls.mono HWD.out ?_
      rintro e w4 ⟨rfl, b4⟩
      have HUX := hide (HUV.out.below b4)
      have HB4 := hide (chain HD2.out b4)
      clear b4 HWD x0 x1 x2 x3 x4 x5 x6 x7 HUV HD2 HB2
      go_wp2_with (at_builtin; (refine append_lits (f := wdC) wdC1 0 Tryd.underlying31 infoU4 _ rfl (.tmp 54) (.tmp 57) rfl w.heap.size _ ((resW M 0 I).take k) rfl (HUX.out.below (xnew w4 _)) w4.heap.size 1 1 [wd] rfl rfl (Bk.new w4 (wdC wd) _) (wdC_one _) (by decide) (by have := HLK.out; omega) (by have := HLK.out; omega) (Nat.le_trans HB4.out.size (xnew w4 _).size) ?_; intro g' c' w5 k1 k2 k3; have K1 := hide k1; have K2 := hide (bel_grown (chain HB4.out (xnew w4 _)) k2 (Nat.le_refl _) (fun b h => (World.ownsRow.lt HUX.out b h).1)); clear k1 k2 k3; obtain ⟨vv, hvv⟩ : ∃ vv, vv = Value.slice (some ⟨g', 0, none⟩) (((resW M 0 I).take k).length + 1) c' := ⟨_, rfl⟩; rw [← hvv] at K1 ⊢; clear hvv))
      rw [← HTK2.out] at K1
      exact ⟨⟨k + 1, by omega, by simp, K1.out, K2.out⟩, by simp [intOf]; omega⟩
  · as_aux_lemma =>
    obtain rfl : n = k := by omega
    have g1 : ¬ ((n : Nat) : Int) < ((n : Nat) : Int) := by omega
    have HUe := HU.out
    rw [List.take_of_length_le (by rw [resW_len, HL.out]; exact Nat.le_refl _)] at HUe
    have HU2 := hide HUe
    clear HUe HU
    go_wp2
    go_ret2
    exact ⟨_, rfl, HU2.out, HB.out⟩
end Go.Proofs.YthcmeboepedelaaDoor
