/-
  A statement read and put.
-/
import Derived.Test.YthcmeboepedelaaDoorIaPut
namespace Go.Proofs.YthcmeboepedelaaDoor
open Go.RowKit FerryCrc
set_option linter.unusedVariables false
set_option linter.unusedSimpArgs false
theorem bel_grown {B : Nat} {a w w' : World} {row : Option Nat} (h : Below B a w) (hg : w.grownBy w' row) (ha : B ≤ a.heap.size) (hr : ∀ b, row = some b → B ≤ b) : Below B a w' := h.grown hg (Nat.le_trans ha h.size) hr
def lenV (v : Value) : Nat := match v with | .slice _ n _ => n | _ => 0
def tx (s : ByteArray) : List Value := [.string s]
theorem tx1 (s : ByteArray) : (tx s).length = 1 := rfl
theorem infoTx : (Tryd.prog.info? 9).map (fun i => (i.size, i.bytes, i.zero.map (·.cells))) = some (1, 16, some (tx ⟨#[]⟩).toArray) := by kernel_rfl
theorem tx_one (l : List ByteArray) : ∀ u ∈ l.flatMap tx, u.oneCell' = true := by
  intro u hu
  obtain ⟨x, -, hx⟩ := List.mem_flatMap.1 hu
  simp only [tx, List.mem_singleton] at hx
  subst hx
  rfl
/-- The words of a text. -/
inductive Wds : ByteArray → List ByteArray → Prop
  | nil {r : ByteArray} (h : nw1 r = ⟨#[]⟩) : Wds r []
  | cons {r : ByteArray} {ws : List ByteArray} (h : nw1 r ≠ ⟨#[]⟩) (t : Wds (nw2 r) ws) : Wds r (nw1 r :: ws)
theorem nw2_size (s : ByteArray) : (nw2 s).size ≤ s.size := by
  unfold nw2
  rw [ByteArray.size_extract]
  omega
theorem Wds.at_nil {r : ByteArray} (h : Wds r []) : nw1 r = ⟨#[]⟩ := by cases h; assumption
theorem Wds.at_cons {r x : ByteArray} {ws : List ByteArray} (h : Wds r (x :: ws)) : nw1 r = x ∧ x ≠ ⟨#[]⟩ ∧ Wds (nw2 r) ws := by
  cases h with
  | cons h t => exact ⟨rfl, h, t⟩
/-- The operands read up to the k-th. -/
def rds (op : Int) (ks : List Nat) (ws : List ByteArray) : Nat → Opd
  | 0 => ⟨op, 0, 0, 0, 0, 0, ⟨#[]⟩⟩
  | k + 1 => rd1 (rds op ks ws k) (ks.getD k 0) (ws.getD k ⟨#[]⟩)
structure StOk (name rest : ByteArray) (ws : List ByteArray) : Prop where
  is : stB name = true
  plain : Plain name
  words : Wds rest ws
  len : ws.length = (stO name).size
  ok : ∀ k : Nat, k < ws.length → RdOk ((bytesOf (stO name)).getD k 0) (ws.getD k ⟨#[]⟩)
  small : rest.size ≤ 140737488351232
  few : ws.length ≤ 4
set_option maxRecDepth 100000 in
set_option maxHeartbeats 40000000 in
theorem readStm_any (name rest : ByteArray) (ws : List ByteArray) (w : World) (ht : Iat w) (hs : StOk name rest ws) {base nb ib : Nat} {v : Value} {num : Int} {I : List It} (h : Asm w base nb ib v num I) (hI : I.length + 1 ≤ 1000000) :
    Calls Tryd.prog 47 #[.string name, .string rest, putV nb ib] w fun e w' => e = .returned .nilIface ∧ ∃ v', Asm w' base nb ib v' num (I ++ [{ itOf name (rds (numN name : Int) (bytesOf (stO name)) ws ws.length) with line := num }]) ∧ Frm (PutS ib v) w w' ∧ (∀ b, v'.ownBlock = some b → v.ownBlock = some b ∨ w.heap.size ≤ b) := by
  have HT := hide (fun (w' : World) (b : Below w.heap.size w w') => ht.below b)
  have HS := hide hs
  have HH := hide (fun (w' : World) (b : Below w.heap.size w w') => h.below b)
  have HL := hide h.it.lt
  have HLE := hide h.le
  have HI := hide hI
  have HST := hide (stm_any name w ht)
  have HNM := hide (Number_any name)
  rw [hs.is] at HST
  have HX := hide (str_index (stO name))
  obtain ⟨wd, hwd⟩ : ∃ z, stO name = z := ⟨_, rfl⟩
  have HWD := hide hwd
  rw [hwd] at HST HX
  have hwm : (wd.size : Int) ≤ 4 := by have h1 := hs.len; have h2 := hs.few; rw [← hwd]; omega
  unfold putV
  clear ht hs h hI hwd
  go_enter Tryd.func47, Tryd.ntmps47
  go_wp2_with fail
  refine Calls.mono HST.out ?_
  rintro e w' ⟨rfl, rfl⟩
  go_wp2_with fail
  refine Calls.mono (nextWord_any rest HS.out.small w) ?_
  rintro e w1 ⟨rfl, b1⟩
  have HB1 := hide b1
  clear b1 HST
  go_upto_region 6 with fail
  go_loopw [9, 10, 11] (fun l x r wr => ∃ (k : Nat) (rk : ByteArray), k ≤ ws.length ∧ x = .string (nw1 rk) ∧ r = .string (nw2 rk) ∧ Hid (LOwn tx 1 9 wr w.heap.size l (ws.take k)) ∧ Hid (Wds rk (ws.drop k)) ∧ Hid (rk.size ≤ 140737488351232) ∧ Hid (Below w.heap.size w wr)) (fun l _ _ _ => 10 - lenV l)
  case atStart =>
    exact ⟨0, rest, Nat.zero_le _, rfl, rfl, World.ownsRow_nil _ _ _ _, by simpa [Hid] using HS.out.words, HS.out.small, HB1.out⟩
  case round =>
  obtain ⟨k, rk, hk, rfl, rfl, HL1, HW1, HK1, HBr⟩ := hrel
  clear HB1
  have hm := HS.out.few
  have hlen : (ws.take k).length = k := by rw [List.length_take]; omega
  obtain ⟨la, lc, rfl⟩ := own_len HL1.out hlen
  have HLK := hide hlen
  clear hlen
  by_cases hlt : k < ws.length
  · as_aux_lemma =>
    obtain ⟨x, hx⟩ : ∃ x, ws[k]? = some x := ⟨_, List.getElem?_eq_getElem hlt⟩
    have HD1 : Hid (ws.drop k = x :: ws.drop (k + 1)) := by unfold Hid; rw [List.drop_eq_getElem_cons hlt]; rw [List.getElem?_eq_getElem hlt] at hx; rw [Option.some.inj hx]
    have hW := HW1.out
    rw [HD1.out] at hW
    obtain ⟨q1, q2, q3⟩ := hW.at_cons
    have e1 : ¬ (nw1 rk).toList = [] := str_nil (by rw [q1]; exact q2)
    have e2 : (nw1 rk).toList.isEmpty = false := by rw [Bool.eq_false_iff, ne_eq, List.isEmpty_iff]; exact e1
    have HQ1 := hide q1
    have HQ3 := hide q3
    have HT1 : Hid (ws.take (k + 1) = ws.take k ++ [nw1 rk]) := by unfold Hid; rw [List.take_add_one, hx, HQ1.out]; rfl
    have hkm : (k : Int) ≤ (wd.size : Int) := by have h1 := HS.out.len; rw [HWD.out] at h1; omega
    have HN2 := hide (fun w => nextWord_any (nw2 rk) (Nat.le_trans (nw2_size rk) HK1.out) w)
    clear q1 q2 q3 hW hx
    go_upto_region 7 with (at_builtin; (refine append_lits (f := tx) tx1 ⟨#[]⟩ Tryd.underlying65 infoTx _ rfl (.tmp 43) (.tmp 45) rfl w.heap.size (.slice la k lc) (ws.take k) rfl (HL1.out.below (xnew wr _)) wr.heap.size 1 1 [nw1 rk] rfl rfl (Bk.new wr (tx (nw1 rk)) _) (tx_one _) (by decide) (by have := HLK.out; omega) (by have := HLK.out; omega) (Nat.le_trans HBr.out.size (xnew wr _).size) ?_; intro ga ca w5 k1 k2 k3; have K1 := hide k1; have KB := hide (bel_grown (chain HBr.out (xnew wr _)) k2 (Nat.le_refl _) (fun b h => (World.ownsRow.lt HL1.out b h).1)); clear k1 k2 k3))
    go_wp2_with fail
    refine Calls.mono (HN2.out w5) ?_
    rintro e w6 ⟨rfl, b6⟩
    have KL := hide (K1.out.below b6)
    have KB6 := hide (chain KB.out b6)
    clear b6 K1 KB HN2
    rw [HLK.out] at KL
    rw [← HT1.out] at KL
    go_wp2
    exact ⟨⟨k + 1, nw2 rk, by omega, rfl, rfl, KL.out, HQ3.out, Nat.le_trans (nw2_size rk) HK1.out, KB6.out⟩, by simp [lenV]; omega⟩
  · --
    obtain rfl : ws.length = k := by omega
    have e1 : nw1 rk = ⟨#[]⟩ := by
      have h1 := HW1.out
      rw [List.drop_of_length_le (Nat.le_refl _)] at h1
      exact h1.at_nil
    rw [e1]
    have HLW : Hid (LOwn tx 1 9 wr w.heap.size (.slice la ws.length lc) ws) := by
      have h1 := HL1.out
      rw [List.take_of_length_le (Nat.le_refl _)] at h1
      exact h1
    have HWS : Hid ((ws.length : Int) = (wd.size : Int)) := by have h1 := HS.out.len; rw [HWD.out] at h1; unfold Hid; omega
    have hws := HWS.out
    clear HL1 HW1 HK1 e1 HLK hk hlt
    go_upto_region 11 with fail
    clear hws
    obtain ⟨w3, hw3⟩ : ∃ z, z = wr := ⟨_, rfl⟩
    rw [← hw3] at HLW HBr ⊢
    clear hw3
    obtain ⟨W, hW, B0, D0⟩ := box1 w3 [.int .i64 (numN name : Int), .int .i64 0, .int .i64 0, .int .i64 0, .int .i64 0, .int .i64 0, .string ⟨#[]⟩] 114
    obtain ⟨q, hq⟩ : ∃ q, w3.heap.size = q := ⟨_, rfl⟩
    rw [hq] at B0
    have HO0 := hide B0
    have HQW : Hid (w.heap.size ≤ q) := by have h1 := HBr.out.size; unfold Hid; omega
    have HLW2 := hide (HLW.out.below D0)
    have HBW := hide (chain HBr.out D0)
    have HNB := hide (HNM.out w3 (HT.out w3 HBr.out))
    clear B0 D0 HLW HBr HNM
    have HHW := hide hW
    have HHQ := hide hq
    clear hW hq
    go_wp2_with fail
    refine Calls.mono HNB.out ?_
    rintro e w' ⟨rfl, rfl⟩
    go_upto_region 13 with fail
    simp only [HHW.out, HHQ.out]
    clear HHW HHQ HNB
    obtain ⟨op, hop⟩ : ∃ op, (numN name : Int) = op := ⟨_, rfl⟩
    rw [hop] at HO0
    have HOP := hide hop
    clear hop
    go_loopw [59] (fun s wr => ∃ k : Nat, k ≤ ws.length ∧ s = .int .i64 (k : Int) ∧ Hid (Bk wr q (opC (rds op (bytesOf wd) ws k)) 114) ∧ Hid (LOwn tx 1 9 wr w.heap.size (.slice la ws.length lc) ws) ∧ Hid (Below w.heap.size w wr)) (fun s _ => ws.length - (intOf s).toNat)
    case atStart => exact ⟨0, Nat.zero_le _, rfl, HO0.out, HLW2.out, HBW.out⟩
    case round =>
    obtain ⟨k, hk, rfl, HO, HLW, HBr⟩ := hrel
    clear HO0 HLW2 HBW
    by_cases hlt : k < ws.length
    · as_aux_lemma =>
        obtain ⟨gl, rfl⟩ := lown_some HLW.out hlt
        obtain ⟨x, hx⟩ : ∃ x, ws[k]? = some x := ⟨_, List.getElem?_eq_getElem hlt⟩
        have hgx : ws.getD k ⟨#[]⟩ = x := by rw [List.getD_eq_getElem?_getD, hx]; rfl
        obtain ⟨b, o, ea, hc⟩ := (own_rcs HLW.out).at tx1 (by decide) hx
        simp only [Option.some.injEq, Addr.mk.injEq, and_true] at ea
        obtain ⟨rfl, rfl⟩ := ea
        have y0 := hc 0 _ rfl
        simp only [Nat.mul_one, Nat.add_zero, Nat.zero_add] at y0
        clear hc hx
        have hkw : k < wd.size := by have h1 := HWS.out; omega
        obtain ⟨c, hcb⟩ := bytes_get wd hkw
        have ix : ∀ w, (Instr.index 9 (.string wd) (.int .i64 (k : Int))).run Tryd.prog w = .ok (.int .u8 (c : Int)) w := HX.out k c hcb
        have hgc : (bytesOf wd).getD k 0 = c := by rw [List.getD_eq_getElem?_getD, hcb]; rfl
        have hok := HS.out.ok k hlt
        rw [HWD.out, hgc, hgx] at hok
        have HRD := hide (read_any (rds op (bytesOf wd) ws k) c x q wr (HT.out wr HBr.out) HO.out hok)
        have HST1 : Hid (rds op (bytesOf wd) ws (k + 1) = rd1 (rds op (bytesOf wd) ws k) c x) := by show rd1 _ _ _ = _; rw [hgc, hgx]
        have g1 : (k : Int) < (ws.length : Int) := by omega
        have g2 : ¬ (k : Int) < 0 := by omega
        have g3 : (k : Int) < (wd.size : Int) := by omega
        clear hok hgx hgc hcb
        go_wp2_with fail
        refine Calls.mono HRD.out ?_
        rintro e w6 ⟨rfl, kb, fr⟩
        have KB := hide kb
        have KL := hide (HLW.out.frm fr (fun g e e2 => own_box (by decide) HLW.out HO.out (by rw [← e2]; exact e)))
        have KR := hide (HBr.out.trans (Frm.below fr HBr.out.size (fun j e => by rw [e]; exact HQW.out)))
        clear kb fr HRD y0 ix
        rw [← HST1.out] at KB
        go_wp2
        exact ⟨⟨k + 1, by omega, by simp, KB.out, KL.out, KR.out⟩, by simp [intOf]; omega⟩
    · as_aux_lemma =>
        obtain rfl : ws.length = k := by omega
        have g1 : ¬ ((ws.length : Nat) : Int) < ((ws.length : Nat) : Int) := by omega
        obtain ⟨oo, hoo⟩ : ∃ oo, rds op (bytesOf wd) ws ws.length = oo := ⟨_, rfl⟩
        have HOO := hide hoo
        rw [hoo] at HO
        have HP := hide (putStm_any name oo wr (HH.out wr HBr.out) HI.out HS.out.plain)
        unfold putV at HP
        clear hoo
        obtain ⟨o1, o2, o3, o4, o5, o6, o7⟩ := oo
        have HOn := hide (show Bk wr q [.int .i64 o1, .int .i64 o2, .int .i64 o3, .int .i64 o4, .int .i64 o5, .int .i64 o6, .string o7] 114 from HO.out)
        have x0 := HOn.out.cell 0 rfl
        have x1 := HOn.out.cell 1 rfl
        have x2 := HOn.out.cell 2 rfl
        have x3 := HOn.out.cell 3 rfl
        have x4 := HOn.out.cell 4 rfl
        have x5 := HOn.out.cell 5 rfl
        have x6 := HOn.out.cell 6 rfl
        unfold opC at HP
        dsimp only at HP
        clear HO HOn
        go_wp2_with fail
        refine Calls.mono HP.out ?_
        rintro e w6 ⟨rfl, v', k1, k2, k3⟩
        have K1 := hide k1
        have K2 := hide ((Frm.ofBelow (S := PutS ib v) HBr.out).trans k2 (fun j hj e => e))
        have K3 : Hid (∀ b, v'.ownBlock = some b → v.ownBlock = some b ∨ w.heap.size ≤ b) := fun b e => (k3 b e).imp id (fun h => Nat.le_trans HBr.out.size h)
        clear k1 k2 k3 HP x0 x1 x2 x3 x4 x5 x6
        go_wp2
        go_ret
        refine ⟨rfl, v', ?_, K2.out, K3.out⟩
        rw [HOP.out, HWD.out, HOO.out]
        exact K1.out
end Go.Proofs.YthcmeboepedelaaDoor
