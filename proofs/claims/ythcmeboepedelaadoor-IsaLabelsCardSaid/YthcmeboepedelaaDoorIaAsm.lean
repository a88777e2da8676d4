/-
  Assemble, where every line is read.
-/
import Derived.Test.YthcmeboepedelaaDoorIaRes
namespace Go.Proofs.YthcmeboepedelaaDoor
open Go.RowKit FerryCrc
set_option linter.unusedVariables false
set_option linter.unusedSimpArgs false
/-- What a line is: its labels, what stands behind them, its operands. -/
structure Ln1 where
  ns : List ByteArray
  r : ByteArray
  o : Option (List ByteArray)
def LineD (line : ByteArray) (d : Ln1) : Prop := Lbs (cut1 line 59) d.ns d.r ∧ LineOk d.r d.o
inductive Lins : ByteArray → List Ln1 → Prop
  | last {s : ByteArray} {d : Ln1} (h : cutB s 10 = false) (hd : LineD (cut1 s 10) d) : Lins s [d]
  | more {s : ByteArray} {d : Ln1} {ds : List Ln1} (h : cutB s 10 = true) (hd : LineD (cut1 s 10) d) (t : Lins (cut2 s 10) ds) : Lins s (d :: ds)
def asmM : (ByteArray → Option Int) → Nat → Int → List Ln1 → (ByteArray → Option Int)
  | M, _, _, [] => M
  | M, i, num, d :: ds => asmM (addL (4 * (i : Int)) M d.ns) (i + (linePut d.r d.o num).length) (num + 1) ds
def asmI : List It → Int → List Ln1 → List It
  | I, _, [] => I
  | I, num, d :: ds => asmI (I ++ linePut d.r d.o num) (num + 1) ds
def AsmOk : (ByteArray → Option Int) → Nat → Nat → Int → List Ln1 → Prop
  | _, i, c, num, [] => i ≤ 512 ∧ c ≤ 1000000 ∧ 0 ≤ num ∧ num ≤ 1000000
  | M, i, c, num, d :: ds => i ≤ 512 ∧ c + d.ns.length ≤ 1000000 ∧ 0 ≤ num ∧ num ≤ 1000000 ∧ i + (linePut d.r d.o num).length ≤ 512 ∧ FrL (4 * (i : Int)) M d.ns ∧ AsmOk (addL (4 * (i : Int)) M d.ns) (i + (linePut d.r d.o num).length) (c + d.ns.length) (num + 1) ds
theorem cut2_size {s : ByteArray} {d : UInt8} (h : cutB s d = true) : (cut2 s d).size + 1 ≤ s.size := by
  unfold cutB at h
  simp only [decide_eq_true_eq] at h
  rcases ixB_room s d with e | ⟨i, e, hi⟩
  · omega
  · unfold cut2
    rw [if_neg (by omega), ByteArray.size_extract, e]
    simp
    omega
theorem cut2_none {s : ByteArray} {d : UInt8} (h : cutB s d = false) : (cut2 s d) = ⟨#[]⟩ := by
  unfold cutB at h
  simp only [decide_eq_false_iff_not] at h
  unfold cut2
  rw [if_pos (by omega)]
def meas (x y : Value) : Nat := strV x + (match y with | .bool true => 1 | _ => 0)
theorem bel_cell {B : Nat} {a w : World} (h : Below B a w) (hB : B ≤ a.heap.size) : True := trivial
set_option maxRecDepth 100000 in
set_option maxHeartbeats 40000000 in
theorem assemble_any (src : ByteArray) (ds : List Ln1) (w : World) (ht : Iat w) (hv : Isv w) (hs : src.size ≤ 140737488351232) (hL : Lins src ds) (hok : AsmOk (fun _ => none) 0 0 1 ds) (hres : ∀ x ∈ asmI [] 1 ds, ResOk (asmM (fun _ => none) 0 1 ds) x) :
    Calls Tryd.prog 21 #[.string src] w fun e w' => ∃ u, e = .returned (.tuple #[u, .nilIface]) ∧ LOwn wdC 1 28 w' w.heap.size u (resW (asmM (fun _ => none) 0 1 ds) 0 (asmI [] 1 ds)) ∧ Below w.heap.size w w' := by
  have HT := hide ht
  have HV := hide (fun (w' : World) (b : Below w.heap.size w w') => hv.below b)
  have HRS := hide hres
  have HL := hide hL
  have HOK := hide hok
  have HS := hide hs
  have hmk := run_makeMap (P := Tryd.prog) 72 w
  obtain ⟨Mf, hMf⟩ : ∃ z, asmM (fun _ => none) 0 1 ds = z := ⟨_, rfl⟩
  obtain ⟨If, hIf⟩ : ∃ z, asmI [] 1 ds = z := ⟨_, rfl⟩
  have HMF := hide hMf
  have HIF := hide hIf
  rw [hMf, hIf] at HRS ⊢
  clear ht hv hs hL hok hres hMf hIf
  obtain ⟨w1, hw1, B1, B2, D1⟩ := box2 (w.alloc (.map #[] 0)) [.slice none 0 0] 73 [.int .i64 1] 3
  have h0 : (w.alloc (.map #[] 0)).heap.size = w.heap.size + 1 := Array.size_push _
  have HMB := hide ((lab_new w).below D1)
  rw [h0] at B1 B2
  have D0 : Below w.heap.size w w1 := (xnew w (.map #[] 0)).trans (D1.mono (by rw [h0]; omega))
  have HA1 : Hid (Asm w1 w.heap.size (w.heap.size + 1 + 1) (w.heap.size + 1) (.slice none 0 0) 1 []) := ⟨B2, B1, World.ownsRow_nil _ _ _ _, by omega⟩
  have HD := hide D0
  obtain ⟨q, hq⟩ : ∃ q, w.heap.size = q := ⟨_, rfl⟩
  have HQ := hide hq
  rw [hq] at HMB HA1
  clear B1 B2 D1 D0 hq
  go_enter Tryd.func21, Tryd.ntmps21
  go_upto_region 5 with fail
  simp only [h0, hw1, HQ.out]
  clear hw1 h0 hmk
  go_loopw [0, 6, 7] (fun x y z wr => ∃ (mr : Bool) (sr : ByteArray) (es : List Ln1) (M : ByteArray → Option Int) (I : List It) (num : Int) (cnt : Nat) (v : Value) (nb : Nat), x = .string sr ∧ y = .bool mr ∧ z = .pointer (some ⟨nb, 0, none⟩) ∧ Hid (mr = true → Lins sr es) ∧ Hid (mr = false → es = [] ∧ sr = ⟨#[]⟩) ∧ Hid (AsmOk M I.length cnt num es) ∧ Hid (asmM M I.length num es = Mf) ∧ Hid (asmI I num es = If) ∧ Hid (sr.size ≤ 140737488351232) ∧ Hid (Lab wr q cnt M) ∧ Hid (Asm wr w.heap.size nb (q + 1) v num I) ∧ Hid (Below w.heap.size w wr)) (fun x y _ _ => meas x y)
  case atStart => exact ⟨true, src, ds, fun _ => none, [], 1, 0, .slice none 0 0, q + 1 + 1, rfl, rfl, rfl, fun _ => HL.out, (fun e => by cases e), HOK.out, HMF.out, HIF.out, HS.out, HMB.out, (by rw [HQ.out]; exact HA1.out), HD.out⟩
  case round =>
  obtain ⟨mr, sr, es, M, I, num, cnt, v, nb, rfl, rfl, rfl, HLi, HLe, HOk, HMf, HIf, HSz, HLb, HAs, HBw⟩ := hrel
  clear HMB HA1 HD HL HOK HS HMF HIF
  cases mr with
  | true => as_aux_lemma =>
    have HCT := hide (fun w => cut_any sr 10 HSz.out w)
    obtain ⟨d, es2, he, hd, hnext⟩ : ∃ d es2, es = d :: es2 ∧ LineD (cut1 sr 10) d ∧ ((cutB sr 10 = true → Lins (cut2 sr 10) es2) ∧ (cutB sr 10 = false → es2 = [] ∧ cut2 sr 10 = ⟨#[]⟩)) := by
      have h1 := HLi.out rfl
      cases h1 with
      | last h hd => exact ⟨_, [], rfl, hd, (fun e => by rw [h] at e; cases e), fun _ => ⟨rfl, cut2_none h⟩⟩
      | more h hd t => exact ⟨_, _, rfl, hd, fun _ => t, (fun e => by rw [h] at e; cases e)⟩
    subst he
    obtain ⟨ns, r, o⟩ := d
    have hok := HOk.out
    obtain ⟨o1, o2, o3, o4, o5, o6, o7⟩ := hok
    have HLD := hide hd
    have HNX := hide hnext
    have HO5 := hide o5
    have HO6 := hide o6
    have HO7 := hide o7
    have HO2 := hide o2
    have HMS : Hid (cutB sr 10 = true → (cut2 sr 10).size + 1 ≤ sr.size) := fun h => cut2_size h
    have hs1 := cut1_size sr 10
    have HL1 : Hid ((cut1 sr 10).size ≤ 140737488351232) := Nat.le_trans hs1 HSz.out
    have HL2 : Hid ((cut2 sr 10).size ≤ 140737488351232) := by
      unfold Hid
      cases hb : cutB sr 10 with
      | true => have := cut2_size hb; have := HSz.out; omega
      | false => rw [cut2_none hb]; decide
    obtain ⟨l1, hl1⟩ : ∃ z, cut1 sr 10 = z := ⟨_, rfl⟩
    obtain ⟨l2, hl2⟩ : ∃ z, cut2 sr 10 = z := ⟨_, rfl⟩
    obtain ⟨mm, hmm⟩ : ∃ z, cutB sr 10 = z := ⟨_, rfl⟩
    rw [hl1] at HLD HL1
    rw [hl2] at HNX HMS HL2
    rw [hmm] at HNX HMS
    have HCT2 := hide (HCT.out wr)
    rw [hl1, hl2, hmm] at HCT2
    obtain ⟨va, vc, hv⟩ := own_len HAs.out.own (n := I.length) rfl
    subst hv
    have hI1 : (I.length : Int) ≤ 512 := by omega
    have hw4 : IntKind.i64.wrap (4 * (I.length : Int)) = 4 * (I.length : Int) := by rw [IntKind.wrap_i64]; omega
    have HNM : Hid (0 ≤ num ∧ num ≤ 1000000) := ⟨o3, o4⟩
    clear hd hnext o2 o5 o6 o7 hs1 hl1 hl2 hmm HLi HLe HCT o3 o4 HOk
    go_wp2_with fail
    refine Calls.mono HCT2.out ?_
    rintro e w2 ⟨rfl, b2⟩
    have HB2 := hide (chain HBw.out b2)
    have HLb2 := hide (HLb.out.below b2)
    have HA2 := hide (HAs.out.below b2)
    have HRL := hide (readLine_any l1 (4 * (I.length : Int)) ns r o w w2 HT.out HB2.out HL1.out HLD.out.1 HLD.out.2 HO6.out HO2.out HLb2.out (by rw [HQ.out]; exact Nat.le_refl _) HA2.out (by omega))
    unfold putV at HRL
    have y0 := HA2.out.it.cell 0 rfl
    clear b2 HCT2 HBw HLb HAs HO6
    go_wp2_with fail
    refine Calls.mono HRL.out ?_
    rintro e w3 ⟨rfl, kl, v', ka, kf, -⟩
    have HL3 := hide kl
    have HA3 := hide ka
    have HB3 := hide (HB2.out.trans (Frm.below kf HB2.out.size (fun j e => by rcases e with e | e | e; exact (by rw [e, HQ.out]; exact Nat.le_refl _); exact (by rw [e]; exact HA2.out.le); exact (World.ownsRow.lt HA2.out.own j e).1)))
    clear kl ka kf HRL y0 HB2 HLb2 HA2
    obtain ⟨I2, hI2⟩ : ∃ z, I ++ linePut r o num = z := ⟨_, rfl⟩
    have hI2l : I2.length = I.length + (linePut r o num).length := by rw [← hI2, List.length_append]
    have hI3 : (I2.length : Int) ≤ 512 := by have h1 := HO5.out; omega
    have HI2L := hide hI2l
    have HI2 := hide hI2
    rw [hI2] at HA3
    obtain ⟨va', vc', hv'⟩ := own_len HA3.out.own (n := I2.length) rfl
    subst hv'
    clear hI2 hI2l
    have z0 := HA3.out.it.cell 0 rfl
    have n0 := HA3.out.num.cell 0 rfl
    have hg : ¬ (512 : Int) < (I2.length : Int) := by omega
    have hwn : IntKind.i64.wrap (num + 1) = num + 1 := by have := HNM.out; rw [IntKind.wrap_i64]; omega
    obtain ⟨w4, hw4', Bn, D4⟩ := box1 w3 [.int .i64 num] 3
    obtain ⟨nq, hnq⟩ : ∃ z, w3.heap.size = z := ⟨_, rfl⟩
    rw [hnq] at Bn
    have HBN := hide Bn
    have HWH := hide hw4'
    have HNQ := hide hnq
    have HL4 := hide (HL3.out.below D4)
    have HA4 := hide (HA3.out.below D4)
    have HB4 := hide (chain HB3.out D4)
    have HQN : Hid (w.heap.size ≤ nq) := by have h1 := HB3.out.size; unfold Hid; omega
    clear Bn hw4' hnq D4 HL3 HA3 HB3
    go_upto_region 6 with fail
    simp only [HWH.out, HNQ.out]
    clear HWH HNQ z0 n0
    have n1 := HBN.out.cell 0 rfl
    have nf := HBN.out.frozen 0
    obtain ⟨w5, hw5⟩ : ∃ z, z = w4.setCell ⟨nq, 0, none⟩ (.int .i64 (num + 1)) := ⟨_, rfl⟩
    have hfr : Frm (fun k => k = nq) w4 w5 := by rw [hw5]; exact frm_setCell w4 ⟨nq, 0, none⟩ _
    have BN5 : Bk w5 nq [.int .i64 (num + 1)] 3 := by rw [hw5]; exact HBN.out.set 0 _
    have hne : nq ≠ q + 1 := fun e => by
      have h1 := HBN.out
      have h2 := HA4.out.it
      rw [← e] at h2
      unfold Bk at h1 h2
      rw [h1] at h2
      have h3 := Option.some.inj h2
      injection h3 with h4 h5
      exact absurd h5 (by decide)
    have hnm : nq ≠ q := lab_bk HL4.out HBN.out
    have IT5 : Bk w5 (q + 1) [.slice va' I2.length vc'] 73 := by rw [hw5]; exact HA4.out.it.other _ _ (Ne.symm hne)
    have OW5 : LOwn itC 8 77 w5 w.heap.size (.slice va' I2.length vc') I2 := HA4.out.own.frm hfr (fun b e e2 => own_box (by decide) HA4.out.own HBN.out (by rw [e, e2]))
    have HA5 : Hid (Asm w5 w.heap.size nq (q + 1) (.slice va' I2.length vc') (num + 1) I2) := ⟨BN5, IT5, OW5, HA4.out.le⟩
    have HL5 := hide (HL4.out.frm hfr (fun e => hnm e.symm))
    have HB5 := hide (HB4.out.trans (Frm.below hfr HB4.out.size (fun j e => by rw [e]; exact HQN.out)))
    have HW5 := hide hw5
    clear hfr BN5 hne hnm IT5 OW5 hw5 HA4 HL4 HB4 HBN
    go_wp2
    rw [← HW5.out]
    refine ⟨⟨mm, l2, es2, _, I2, num + 1, _, _, nq, rfl, rfl, rfl, HNX.out.1, HNX.out.2, ?_, ?_, ?_, HL2.out, HL5.out, HA5.out, HB5.out⟩, ?_⟩
    · rw [HI2L.out]; exact HO7.out
    · rw [HI2L.out]; exact HMf.out
    · rw [← HI2.out]; exact HIf.out
    · cases mm with
      | true => have := HMS.out rfl; simp [meas, strV]; omega
      | false =>
        have h2 := (HNX.out.2 rfl).2
        rw [h2]
        simp only [meas, strV]
        have h3 : (⟨#[]⟩ : ByteArray).size = 0 := rfl
        omega
  | false => as_aux_lemma =>
    obtain ⟨rfl, rfl⟩ := HLe.out rfl
    have HMf2 : Hid (M = Mf) := HMf.out
    have HIf2 : Hid (I = If) := HIf.out
    have hol : I.length ≤ 512 := HOk.out.1
    have HRV := hide (resolve_any wr (HV.out wr HBw.out) HLb.out HAs.out.own (by omega) (by rw [HMf2.out, HIf2.out]; exact HRS.out))
    rw [HMf2.out, HIf2.out] at HRV
    have z0 := HAs.out.it.cell 0 rfl
    clear hol HOk HMf HIf
    go_wp2_with fail
    refine Calls.mono HRV.out ?_
    rintro e w3 ⟨u, rfl, k1, k2⟩
    have K1 := hide (k1.weaken HBw.out.size)
    have K2 := hide (chain HBw.out k2)
    clear k1 k2 HRV z0
    go_wp2
    go_ret2
    exact ⟨u, rfl, K1.out, K2.out⟩
end Go.Proofs.YthcmeboepedelaaDoor
