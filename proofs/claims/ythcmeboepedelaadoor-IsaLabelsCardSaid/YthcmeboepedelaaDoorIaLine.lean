/-
  A line read: its labels, its statement.
-/
import Derived.Test.YthcmeboepedelaaDoorIaRS
namespace Go.Proofs.YthcmeboepedelaaDoor
open Go.RowKit FerryCrc
set_option linter.unusedVariables false
set_option linter.unusedSimpArgs false
theorem lab_bk {w : World} {mb n b : Nat} {M : ByteArray → Option Int} {cs : List Value} {t : TypeId} (h : Lab w mb n M) (hb : Bk w b cs t) : b ≠ mb := fun e => by
  obtain ⟨D, ⟨es, clock, q1, q2⟩, q3⟩ := h
  subst e
  unfold Bk at hb
  rw [hb] at q1
  cases q1
theorem lab_own {α : Type} {f : α → List Value} {sz : Nat} {e : TypeId} {w : World} {base mb n : Nat} {M : ByteArray → Option Int} {v : Value} {l : List α} (h : Lab w mb n M) (ho : LOwn f sz e w base v l) : v.ownBlock ≠ some mb := fun hg => by
  obtain ⟨D, ⟨es, clock, q1, q2⟩, q3⟩ := h
  rcases ho.2 with ⟨rfl, -⟩ | ⟨g1, cap, cur, rfl, -, hh, -⟩
  · cases hg
  · simp only [Value.ownBlock, Option.some.injEq] at hg
    subst hg
    rw [hh] at q1
    cases q1
theorem Asm.frm {S : Nat → Prop} {w w' : World} {base nb ib : Nat} {v : Value} {num : Int} {I : List It} (h : Asm w base nb ib v num I) (fr : Frm S w w') (h1 : ¬ S nb) (h2 : ¬ S ib) (h3 : ∀ b, v.ownBlock = some b → ¬ S b) : Asm w' base nb ib v num I := by
  refine ⟨?_, ?_, h.own.frm fr h3, h.le⟩
  · have h0 := h.num
    have hl := h0.lt
    unfold Bk at *
    rw [fr.block nb hl h1]
    exact h0
  · have h0 := h.it
    have hl := h0.lt
    unfold Bk at *
    rw [fr.block ib hl h2]
    exact h0
def strV (v : Value) : Nat := match v with | .string s => s.size | _ => 0
theorem nw_size (s : ByteArray) : (nw1 s).size + (nw2 s).size ≤ s.size := by
  have h1 : nwS s ≤ nwE s := by unfold nwE; omega
  have h2 := nwE_le s
  unfold nw1 nw2
  rw [ByteArray.size_extract, ByteArray.size_extract]
  omega
theorem cut1_size (s : ByteArray) (d : UInt8) : (cut1 s d).size ≤ s.size := by
  unfold cut1
  split
  · exact Nat.le_refl _
  · rw [ByteArray.size_extract]
    omega
theorem sfx_big {s : ByteArray} {d : UInt8} (h : sfxB s d = true) : 1 ≤ s.size := by
  unfold sfxB at h
  simp only [Bool.and_eq_true, decide_eq_true_eq] at h
  exact h.1
theorem trim_size (s : ByteArray) (d : UInt8) : (trimD s d).size ≤ s.size := by
  unfold trimD
  split
  · rw [ByteArray.size_extract]
    omega
  · exact Nat.le_refl _
/-- The labels ahead of a statement. -/
inductive Lbs : ByteArray → List ByteArray → ByteArray → Prop
  | nil {r : ByteArray} (h : sfxB (nw1 r) 58 = false) : Lbs r [] r
  | cons {r n r' : ByteArray} {ns : List ByteArray} (h : sfxB (nw1 r) 58 = true) (hn : trimD (nw1 r) 58 = n) (ok : IsNm n) (t : Lbs (nw2 r) ns r') : Lbs r (n :: ns) r'
theorem Lbs.at_nil {r r' : ByteArray} (h : Lbs r [] r') : r = r' ∧ sfxB (nw1 r) 58 = false := by cases h; exact ⟨rfl, by assumption⟩
theorem Lbs.at_cons {r r' n : ByteArray} {ns : List ByteArray} (h : Lbs r (n :: ns) r') : sfxB (nw1 r) 58 = true ∧ trimD (nw1 r) 58 = n ∧ IsNm n ∧ Lbs (nw2 r) ns r' := by
  cases h with
  | cons h hn ok t => exact ⟨h, hn, ok, t⟩
def addL (a : Int) (M : ByteArray → Option Int) : List ByteArray → (ByteArray → Option Int)
  | [] => M
  | n :: ns => addL a (setS M n a) ns
def FrL (a : Int) (M : ByteArray → Option Int) : List ByteArray → Prop
  | [] => True
  | n :: ns => M n = none ∧ FrL a (setS M n a) ns
/-- What a line's statement puts. -/
def lineIt (r : ByteArray) (ws : List ByteArray) : It := itOf (nw1 r) (rds (numN (nw1 r) : Int) (bytesOf (stO (nw1 r))) ws ws.length)
def LineOk (r : ByteArray) (o : Option (List ByteArray)) : Prop := match o with | none => nw1 r = ⟨#[]⟩ | some ws => nw1 r ≠ ⟨#[]⟩ ∧ StOk (nw1 r) (nw2 r) ws
def linePut (r : ByteArray) (o : Option (List ByteArray)) (num : Int) : List It := match o with | none => [] | some ws => [{ lineIt r ws with line := num }]
def LineS (mb ib : Nat) (v : Value) (k : Nat) : Prop := k = mb ∨ PutS ib v k
set_option maxRecDepth 100000 in
set_option maxHeartbeats 40000000 in
theorem readLine_any (line : ByteArray) (addr : Int) (ns : List ByteArray) (r : ByteArray) (o : Option (List ByteArray)) (w0 w : World) (ht : Iat w0) (hB : Below w0.heap.size w0 w) (hm : line.size ≤ 140737488351232) (hL : Lbs (cut1 line 59) ns r) (hO : LineOk r o) {nb ib mb cnt : Nat} {M : ByteArray → Option Int} {v : Value} {num : Int} {I : List It}
    (hF : FrL addr M ns) (hc : cnt + ns.length ≤ 1000000) (hM : Lab w mb cnt M) (hmb : w0.heap.size ≤ mb) (h : Asm w w0.heap.size nb ib v num I) (hI : I.length + 1 ≤ 1000000) :
    Calls Tryd.prog 32 #[.string line, .map (some mb), .int .i64 addr, putV nb ib] w fun e w' => e = .returned .nilIface ∧ Lab w' mb (cnt + ns.length) (addL addr M ns) ∧ ∃ v', Asm w' w0.heap.size nb ib v' num (I ++ linePut r o num) ∧ Frm (LineS mb ib v) w w' ∧ (∀ b, v'.ownBlock = some b → v.ownBlock = some b ∨ w.heap.size ≤ b) := by
  have HT := hide (fun (w' : World) (b : Below w0.heap.size w0 w') => ht.below b)
  have HB := hide hB
  have HM0 := hide hM
  have HH0 := hide h
  have HF0 := hide hF
  have HL0 := hide hL
  have HO := hide hO
  have HI := hide hI
  have HC := hide hc
  have HMB := hide hmb
  have HS1 : Hid ((cut1 line 59).size ≤ 140737488351232) := Nat.le_trans (cut1_size line 59) hm
  have HCUT := hide (cut_any line 59 hm w)
  obtain ⟨l1, hl1⟩ : ∃ z, cut1 line 59 = z := ⟨_, rfl⟩
  rw [hl1] at HL0 HS1 HCUT
  clear ht hB hM h hF hL hO hI hc hmb hl1
  unfold putV
  go_enter Tryd.func32, Tryd.ntmps32
  go_wp2_with fail
  refine Calls.mono HCUT.out ?_
  rintro e w1 ⟨rfl, b1⟩
  have HB1 := hide b1
  clear b1 HCUT
  go_wp2_with fail
  refine Calls.mono (nextWord_any l1 HS1.out w1) ?_
  rintro e w2 ⟨rfl, b2⟩
  have HB2 := hide (chain HB1.out b2)
  clear b2 HB1
  go_upto_region 3 with fail
  go_loopw [9, 10] (fun x y wr => ∃ (ms : List ByteArray) (rk : ByteArray) (Mk : ByteArray → Option Int) (ck : Nat), x = .string (nw1 rk) ∧ y = .string (nw2 rk) ∧ Hid (Lbs rk ms r) ∧ Hid (FrL addr Mk ms) ∧ Hid (addL addr Mk ms = addL addr M ns) ∧ Hid (ck + ms.length = cnt + ns.length) ∧ Hid (rk.size ≤ 140737488351232) ∧ Hid (Lab wr mb ck Mk) ∧ Hid (Asm wr w0.heap.size nb ib v num I) ∧ Hid (Frm (fun k => k = mb) w wr)) (fun x y _ => strV x + strV y)
  case atStart => exact ⟨ns, l1, M, cnt, rfl, rfl, HL0.out, HF0.out, rfl, rfl, HS1.out, HM0.out.below HB2.out, HH0.out.below HB2.out, Frm.ofBelow HB2.out⟩
  case round =>
  obtain ⟨ms, rk, Mk, ck, rfl, rfl, HLk, HFk, HAk, HCk, HSk, HMk, HHk, HRk⟩ := hrel
  clear HB2 HL0 HF0 HM0
  have HBk := hide (HB.out.trans (Frm.below HRk.out HB.out.size (fun j e => by rw [e]; exact HMB.out)))
  have hs1 : (nw1 rk).size ≤ 140737488351232 := by have h1 := nw_size rk; have h2 := HSk.out; omega
  have hs2 : (nw2 rk).size ≤ 140737488351232 := by have h1 := nw_size rk; have h2 := HSk.out; omega
  have HS2 := hide hs2
  cases ms with
  | cons n ms => as_aux_lemma =>
    obtain ⟨q1, q2, q3, q4⟩ := HLk.out.at_cons
    have HSF := hide (sfx_any (nw1 rk) 58 hs1 wr)
    have HTR := hide (trim_any (nw1 rk) 58 hs1 wr)
    rw [q1] at HSF
    rw [q2] at HTR
    have HNM := hide (isName_any n q3 wr (HT.out wr HBk.out))
    have HQ4 := hide q4
    have HNS : Hid (n.size ≤ 140737488351232) := by have h1 := q3.short; unfold Hid; omega
    have HBG := hide (sfx_big q1)
    have hMn : Mk n = none := HFk.out.1
    have HMN := hide hMn
    clear q1 q2 q3 q4 hMn hs1 hs2
    go_wp2_with fail
    refine Calls.mono HSF.out ?_
    rintro e w' ⟨rfl, rfl⟩
    go_wp2_with fail
    refine Calls.mono HTR.out ?_
    rintro e w' ⟨rfl, rfl⟩
    go_wp2_with fail
    refine Calls.mono HNM.out ?_
    rintro e w' ⟨rfl, rfl⟩
    clear HSF HTR HNM
    go_upto_region 11 with (first | (refine wp_lookS _ rfl (.tmp 34) (.tmp 35) rfl HMk.out rfl n HNS.out rfl ?_; intro y _; rw [HMN.out]) | (refine wp_layS _ rfl (.tmp 41) (.tmp 42) (.tmp 43) rfl HMk.out (by have h1 := HCk.out; have h2 := HC.out; omega) rfl n HNS.out rfl addr rfl ?_; intro w5 k1 k2; have K1 := hide k1; have K2 := hide k2; clear k1 k2))
    go_wp2_with fail
    refine Calls.mono (nextWord_any (nw2 rk) HS2.out w5) ?_
    rintro e w6 ⟨rfl, b6⟩
    have K3 := hide (K1.out.below b6)
    have KA := hide ((HHk.out.frm (frm_grown K2.out) (fun e => lab_bk HMk.out HHk.out.num (Option.some.inj e).symm) (fun e => lab_bk HMk.out HHk.out.it (Option.some.inj e).symm) (fun b e e2 => lab_own HMk.out HHk.out.own (by rw [e]; exact e2.symm))).below b6)
    have KF := hide ((HRk.out.trans (frm_grown K2.out) (fun j hj e => (Option.some.inj e).symm)).trans (Frm.ofBelow (S := fun _ => False) b6) (fun _ _ e => e.elim))
    clear b6 K1 K2
    go_wp2
    refine ⟨⟨ms, nw2 rk, setS Mk n addr, ck + 1, rfl, rfl, HQ4.out, HFk.out.2, HAk.out, by have h1 := HCk.out; rw [List.length_cons] at h1; unfold Hid; omega, HS2.out, K3.out, KA.out, KF.out⟩, ?_⟩
    have h1 := nw_size (nw2 rk)
    have h2 := HBG.out
    simp only [strV]
    omega
  | nil => as_aux_lemma =>
    obtain ⟨rfl, q1⟩ := HLk.out.at_nil
    have HSF := hide (sfx_any (nw1 rk) 58 hs1 wr)
    rw [q1] at HSF
    clear q1 hs1 hs2
    have hck : ck = cnt + ns.length := by have h1 := HCk.out; simpa using h1
    have HMe : Hid (Lab wr mb (cnt + ns.length) (addL addr M ns)) := by have h1 := HMk.out; have h2 : Mk = addL addr M ns := HAk.out; rw [← hck, ← h2]; exact h1
    clear hck HMk
    go_wp2_with fail
    refine Calls.mono HSF.out ?_
    rintro e w' ⟨rfl, rfl⟩
    clear HSF
    cases o with
    | none =>
      have e1 : nw1 rk = ⟨#[]⟩ := HO.out
      rw [e1]
      clear e1
      go_wp2
      go_ret
      exact ⟨rfl, HMe.out, v, by simpa [linePut] using HHk.out, HRk.out.mono (fun j hj e => .inl e), fun b e => .inl e⟩
    | some ws =>
      have e0 : nw1 rk ≠ ⟨#[]⟩ := HO.out.1
      have e1 : ¬ (nw1 rk).toList = [] := str_nil e0
      have e2 : (nw1 rk).toList.isEmpty = false := by rw [Bool.eq_false_iff, ne_eq, List.isEmpty_iff]; exact e1
      have HP := hide (readStm_any (nw1 rk) (nw2 rk) ws wr (HT.out wr HBk.out) HO.out.2 HHk.out HI.out)
      unfold putV at HP
      clear e0
      go_wp2_with fail
      refine Calls.mono HP.out ?_
      rintro e w6 ⟨rfl, v', k1, k2, k3⟩
      have K1 := hide k1
      have K4 := hide (HMe.out.frm k2 (fun e => by rcases e with e | e; exact lab_bk HMe.out HHk.out.it e.symm; exact lab_own HMe.out HHk.out.own e))
      have K2 := hide ((HRk.out.mono (T := LineS mb ib v) (fun j hj e => .inl e)).trans k2 (fun j hj e => .inr e))
      have K3 : Hid (∀ b, v'.ownBlock = some b → v.ownBlock = some b ∨ w.heap.size ≤ b) := fun b e => (k3 b e).imp id (fun h => Nat.le_trans HRk.out.size h)
      clear k1 k2 k3 HP
      go_wp2
      go_ret
      exact ⟨rfl, K4.out, v', K1.out, K2.out, K3.out⟩
end Go.Proofs.YthcmeboepedelaaDoor
