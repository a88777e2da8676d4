/-
  The laws' fixed answers.
-/
import Derived.Test.YthcmeboepedelaaDoorIaAsm
namespace Go.Proofs.YthcmeboepedelaaDoor
open Go.RowKit FerryCrc
set_option linter.unusedVariables false
set_option linter.unusedSimpArgs false
def fxL : ByteArray := ⟨#[120, 58, 32, 106, 97, 108, 32, 114, 49, 32, 120]⟩
def fxR : ByteArray := ⟨#[32, 106, 97, 108, 32, 114, 49, 32, 120]⟩
def fxD : Ln1 := ⟨[⟨#[120]⟩], fxR, some [⟨#[114, 49]⟩, ⟨#[120]⟩]⟩
theorem isNm_of {s : ByteArray} (h1 : decide (1 ≤ s.size) = true) (h2 : decide (s.size ≤ 15) = true) (h3 : (bytesOf s).all okC = true) (h4 : ((bytesOf s).headD 48 |> digB) = false) (h5 : decide (regN s < 16) = false) : IsNm s := by
  refine ⟨of_decide_eq_true h1, of_decide_eq_true h2, fun x hx => ?_, fun i x hx => ?_, of_decide_eq_false h5⟩
  · cases hb : bytesOf s with
    | nil => rw [hb] at hx; simp at hx
    | cons a l => rw [hb] at hx h4; simp at hx; simp at h4; rw [← hx]; exact h4
  · exact List.all_eq_true.1 h3 x (List.mem_of_getElem? hx)
theorem nm_x : IsNm ⟨#[120]⟩ := isNm_of (by decide +kernel) (by decide +kernel) (by decide +kernel) (by decide +kernel) (by decide +kernel)
theorem fx_jal : numN ⟨#[106, 97, 108]⟩ = 54 := by decide +kernel
theorem fx_stO : stO ⟨#[106, 97, 108]⟩ = ⟨#[97, 116]⟩ := by decide +kernel
theorem fx_words : Wds ⟨#[32, 114, 49, 32, 120]⟩ [⟨#[114, 49]⟩, ⟨#[120]⟩] := by
  have e1 : nw1 ⟨#[32, 114, 49, 32, 120]⟩ = ⟨#[114, 49]⟩ := by decide +kernel
  have e2 : nw2 ⟨#[32, 114, 49, 32, 120]⟩ = ⟨#[32, 120]⟩ := by decide +kernel
  have e3 : nw1 ⟨#[32, 120]⟩ = ⟨#[120]⟩ := by decide +kernel
  have e4 : nw2 ⟨#[32, 120]⟩ = ⟨#[]⟩ := by decide +kernel
  have e5 : nw1 ⟨#[]⟩ = ⟨#[]⟩ := by decide +kernel
  have h1 := Wds.cons (r := ⟨#[32, 120]⟩) (ws := []) (by rw [e3]; decide) (by rw [e4]; exact .nil e5)
  rw [e3] at h1
  have h2 := Wds.cons (r := ⟨#[32, 114, 49, 32, 120]⟩) (ws := [⟨#[120]⟩]) (by rw [e1]; decide) (by rw [e2]; exact h1)
  rw [e1] at h2
  exact h2
theorem fx_stok : StOk ⟨#[106, 97, 108]⟩ ⟨#[32, 114, 49, 32, 120]⟩ [⟨#[114, 49]⟩, ⟨#[120]⟩] := by
  refine ⟨by decide +kernel, ⟨by decide, by decide, by decide⟩, fx_words, by decide +kernel, fun k hk => ?_, by decide, by decide⟩
  rw [fx_stO]
  rcases (by simp at hk; omega : k = 0 ∨ k = 1) with rfl | rfl
  · exact .inl ⟨.inl (by decide +kernel), by decide +kernel⟩
  · exact .inr ⟨.inr (by decide +kernel), nm_x⟩
theorem fx_line : LineD (cut1 fxL 10) fxD := by
  have e0 : cut1 fxL 10 = fxL := by decide +kernel
  have e1 : cut1 fxL 59 = fxL := by decide +kernel
  have e2 : nw2 fxL = fxR := by decide +kernel
  have e3 : nw1 fxR = ⟨#[106, 97, 108]⟩ := by decide +kernel
  have e4 : nw2 fxR = ⟨#[32, 114, 49, 32, 120]⟩ := by decide +kernel
  rw [e0]
  refine ⟨?_, ?_⟩
  · rw [e1]
    exact .cons (by decide +kernel) (by decide +kernel) nm_x (by rw [e2]; exact .nil (by decide +kernel))
  · show nw1 fxR ≠ ⟨#[]⟩ ∧ StOk (nw1 fxR) (nw2 fxR) _
    rw [e3, e4]
    exact ⟨by decide, fx_stok⟩
theorem fx_put : linePut fxR (some [⟨#[114, 49]⟩, ⟨#[120]⟩]) 1 = [⟨54, 1, 0, 0, 0, 0, ⟨#[120]⟩, 1⟩] := by kernel_rfl
theorem fx_lins : Lins fxL [fxD] := .last (by decide +kernel) fx_line
theorem fx_ok : AsmOk (fun _ => none) 0 0 1 [fxD] := by
  have hp : linePut fxD.r fxD.o 1 = [⟨54, 1, 0, 0, 0, 0, ⟨#[120]⟩, 1⟩] := fx_put
  refine ⟨by decide, by decide, by decide, by decide, by rw [hp]; decide, ⟨rfl, trivial⟩, ?_⟩
  rw [hp]
  exact ⟨by decide, by decide, by decide, by decide⟩
theorem fx_I : asmI [] 1 [fxD] = [⟨54, 1, 0, 0, 0, 0, ⟨#[120]⟩, 1⟩] := by
  have hp : linePut fxD.r fxD.o 1 = [⟨54, 1, 0, 0, 0, 0, ⟨#[120]⟩, 1⟩] := fx_put
  show [] ++ linePut fxD.r fxD.o 1 = _
  rw [hp]
  rfl
theorem fx_M : asmM (fun _ => none) 0 1 [fxD] = setS (fun _ => none) ⟨#[120]⟩ 0 := rfl
theorem fx_res : ∀ x ∈ asmI [] 1 [fxD], ResOk (asmM (fun _ => none) 0 1 [fxD]) x := by
  rw [fx_I, fx_M]
  intro x hx
  simp only [List.mem_singleton] at hx
  subst hx
  exact ⟨by decide, .inr ⟨0, setS_same _ _ _, by decide, by decide⟩, by decide +kernel⟩
theorem fx_W : resW (asmM (fun _ => none) 0 1 [fxD]) 0 (asmI [] 1 [fxD]) = [907083775] := by
  rw [fx_I, fx_M]
  show [wordR (resI _ 0 _)] = _
  have h1 : resI (setS (fun _ => none) ⟨#[120]⟩ 0) 0 ⟨54, 1, 0, 0, 0, 0, ⟨#[120]⟩, 1⟩ = ⟨54, 1, 0, 0, -1, 0, ⟨#[120]⟩, 1⟩ := by
    unfold resI
    rw [if_neg (by decide)]
    dsimp only
    rw [setS_same]
    rfl
  rw [h1]
  decide +kernel
set_option maxRecDepth 100000 in
set_option maxHeartbeats 40000000 in
theorem fixed_any (w : World) (ht : Iat w) (hv : Isv w) : Calls Tryd.prog 8 #[] w fun e w' => e = .returned (.bool true) ∧ Below w.heap.size w w' := by
  have HT := hide (fun (w' : World) (b : Below w.heap.size w w') => ht.below b)
  have HV := hide (fun (w' : World) (b : Below w.heap.size w w') => hv.below b)
  have HE := hide (encode_any ⟨1, 1, 2, 3, 0⟩ w hv)
  simp only [show okI ⟨1, 1, 2, 3, 0⟩ = true by decide +kernel, if_true, show encv ⟨1, 1, 2, 3, 0⟩ = 17969152 by decide +kernel] at HE
  unfold Ins.cells at HE
  dsimp only at HE
  clear ht hv
  go_enter Tryd.func8, Tryd.ntmps8
  go_wp2_with fail
  refine Calls.mono HE.out ?_
  rintro e w1 ⟨⟨v, rfl, rfl⟩, b1⟩
  have HB1 := hide b1
  have HD := hide (decode_any 273743871 w1 (by decide) (HV.out w1 b1))
  clear b1 HE
  go_wp2_with fail
  refine Calls.mono HD.out ?_
  rintro e w2 ⟨⟨v, rfl, hv2⟩, b2⟩
  rw [if_pos (by decide +kernel)] at hv2
  subst hv2
  rw [show dec 273743871 = ⟨16, 5, 0, 0, -1⟩ by kernel_rfl]
  have HB2 := hide (chain HB1.out b2)
  clear b2 HB1 HD
  unfold Ins.cells
  dsimp only
  obtain ⟨W, hW, B0, D0⟩ := box1 w2 [.int .i64 16, .int .i64 5, .int .i64 0, .int .i64 0, .int .i64 (-1)] 27
  obtain ⟨q, hq⟩ : ∃ q, w2.heap.size = q := ⟨_, rfl⟩
  rw [hq] at B0
  have HHW := hide hW
  have HHQ := hide hq
  have HBX := hide B0
  have HBW := hide (chain HB2.out D0)
  clear hW hq B0 D0 HB2
  go_upto_region 5 with fail
  simp only [HHW.out, HHQ.out]
  clear HHW HHQ
  have x0 := HBX.out.cell 0 rfl
  have x1 := HBX.out.cell 1 rfl
  have x2 := HBX.out.cell 2 rfl
  have x3 := HBX.out.cell 3 rfl
  have x4 := HBX.out.cell 4 rfl
  have HA := hide (assemble_any fxL [fxD] W (HT.out W HBW.out) (HV.out W HBW.out) (by decide +kernel) fx_lins fx_ok fx_res)
  rw [fx_W] at HA
  unfold fxL at HA
  go_wp2_with fail
  refine Calls.mono HA.out ?_
  rintro e w3 ⟨u, rfl, k1, k2⟩
  obtain ⟨ua, uc, rfl⟩ := own_len k1 (n := 1) rfl
  obtain ⟨gu, rfl⟩ := lown_some k1 (i := 0) (by decide)
  obtain ⟨b, o, ea, hc⟩ := (own_rcs k1).at wdC1 (by decide) (show ([907083775] : List Int)[0]? = some 907083775 from rfl)
  simp only [Option.some.injEq, Addr.mk.injEq, and_true] at ea
  obtain ⟨rfl, rfl⟩ := ea
  have y0 := hc 0 _ rfl
  simp only [Nat.mul_one, Nat.add_zero, Nat.zero_add] at y0
  have HB3 := hide (chain HBW.out k2)
  clear hc k1 k2 HA x0 x1 x2 x3 x4 HBX HBW
  have HNA := hide (Name_any 55 w3 (HT.out w3 HB3.out))
  rw [show nameI 55 = ⟨#[106, 114]⟩ by decide +kernel] at HNA
  go_wp2_with fail
  refine Calls.mono HNA.out ?_
  rintro e w4 ⟨rfl, rfl⟩
  have HNU := hide (Number_any ⟨#[115, 121, 115]⟩ w3 (HT.out w3 HB3.out))
  rw [show numN ⟨#[115, 121, 115]⟩ = 64 by decide +kernel] at HNU
  go_wp2_with fail
  refine Calls.mono HNU.out ?_
  rintro e w4 ⟨rfl, rfl⟩
  go_wp2
  go_ret
  exact ⟨rfl, HB3.out⟩
end Go.Proofs.YthcmeboepedelaaDoor
