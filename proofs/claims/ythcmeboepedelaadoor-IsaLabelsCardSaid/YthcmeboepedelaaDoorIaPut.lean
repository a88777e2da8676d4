/-
  Operands read, statements put.
-/
import Derived.Test.YthcmeboepedelaaDoorIaStm
namespace Go.Proofs.YthcmeboepedelaaDoor
open Go.RowKit FerryCrc
set_option linter.unusedVariables false
set_option linter.unusedSimpArgs false
/-- The operands that were read. -/
structure Opd where
  op : Int
  a : Int
  b : Int
  c : Int
  imm : Int
  num : Int
  label : ByteArray
def opC (o : Opd) : List Value := [.int .i64 o.op, .int .i64 o.a, .int .i64 o.b, .int .i64 o.c, .int .i64 o.imm, .int .i64 o.num, .string o.label]
/-- What one operand makes of them. -/
def rd1 (o : Opd) (k : Nat) (s : ByteArray) : Opd :=
  if k = 97 then { o with a := (regN s : Int) } else if k = 98 then { o with b := (regN s : Int) } else { o with label := s }
def RdOk (k : Nat) (s : ByteArray) : Prop := ((k = 97 ∨ k = 98) ∧ regN s < 16) ∨ ((k = 108 ∨ k = 116) ∧ IsNm s)
set_option maxRecDepth 100000 in
set_option maxHeartbeats 4000000 in
theorem read_any (o : Opd) (k : Nat) (s : ByteArray) (b : Nat) (w : World) (ht : Iat w) (hb : Bk w b (opC o) 114) (hk : RdOk k s) :
    Calls Tryd.prog 68 #[.pointer (some ⟨b, 0, none⟩), .int .u8 (k : Int), .string s] w fun e w' => e = .returned .nilIface ∧ Bk w' b (opC (rd1 o k s)) 114 ∧ Frm (fun j => j = b) w w' := by
  obtain ⟨op, a, bb, c, imm, num, label⟩ := o
  have HB := hide hb
  rcases hk with ⟨rfl | rfl, hr⟩ | ⟨rfl | rfl, hn⟩
  · have HR := hide (setReg1_any s b w ht hr ⟨_, hb.cell 1 rfl⟩ (hb.frozen 1))
    unfold rd1
    rw [if_pos rfl]
    generalize regN s = r at *
    clear ht hb hr
    go_enter Tryd.func68, Tryd.ntmps68
    go_wp2_with fail
    refine Calls.mono HR.out ?_
    rintro e w' ⟨rfl, rfl⟩
    go_wp2
    go_ret
    exact ⟨rfl, HB.out.set 1 _, frm_setCell w ⟨b, 1, none⟩ _⟩
  · have HR := hide (setReg2_any s b w ht hr ⟨_, hb.cell 2 rfl⟩ (hb.frozen 2))
    unfold rd1
    rw [if_neg (by decide), if_pos rfl]
    generalize regN s = r at *
    clear ht hb hr
    go_enter Tryd.func68, Tryd.ntmps68
    go_wp2_with fail
    refine Calls.mono HR.out ?_
    rintro e w' ⟨rfl, rfl⟩
    go_wp2
    go_ret
    exact ⟨rfl, HB.out.set 2 _, frm_setCell w ⟨b, 2, none⟩ _⟩
  · have HR := hide (isName_any s hn w ht)
    have c6 := hb.cell 6 rfl
    have f6 := hb.frozen 6
    unfold rd1
    rw [if_neg (by decide), if_neg (by decide)]
    clear ht hb hn
    go_enter Tryd.func68, Tryd.ntmps68
    go_wp2_with fail
    refine Calls.mono HR.out ?_
    rintro e w' ⟨rfl, rfl⟩
    go_wp2
    go_ret
    exact ⟨rfl, HB.out.set 6 _, frm_setCell w ⟨b, 6, none⟩ _⟩
  · have HR := hide (isName_any s hn w ht)
    have c6 := hb.cell 6 rfl
    have f6 := hb.frozen 6
    unfold rd1
    rw [if_neg (by decide), if_neg (by decide)]
    clear ht hb hn
    go_enter Tryd.func68, Tryd.ntmps68
    go_wp2_with fail
    refine Calls.mono HR.out ?_
    rintro e w' ⟨rfl, rfl⟩
    go_wp2
    go_ret
    exact ⟨rfl, HB.out.set 6 _, frm_setCell w ⟨b, 6, none⟩ _⟩
/-- The closure that puts. -/
def putV (nb ib : Nat) : Value := .func (.func 31) #[] #[.pointer (some ⟨nb, 0, none⟩), .pointer (some ⟨ib, 0, none⟩)]
/-- What a statement puts. -/
def itOf (s : ByteArray) (o : Opd) : It :=
  if s = ⟨#[108, 97]⟩ then ⟨16, o.a, 0, 0, 0, 0, o.label, 0⟩ else if s = ⟨#[110, 111, 112]⟩ then ⟨16, 0, 0, 0, 0, 0, ⟨#[]⟩, 0⟩ else ⟨o.op, o.a, o.b, o.c, o.imm, 0, o.label, 0⟩
def Plain (s : ByteArray) : Prop := s ≠ ⟨#[108, 105]⟩ ∧ s ≠ ⟨#[46, 119, 111, 114, 100]⟩ ∧ s ≠ ⟨#[46, 115, 112, 97, 99, 101]⟩
set_option maxRecDepth 100000 in
set_option maxHeartbeats 4000000 in
theorem putStm_any (s : ByteArray) (o : Opd) (w : World) {base nb ib : Nat} {v : Value} {num : Int} {I : List It} (h : Asm w base nb ib v num I) (hI : I.length + 1 ≤ 1000000) (hs : Plain s) :
    Calls Tryd.prog 69 #[.string s, .agg (opC o).toArray, putV nb ib] w fun e w' => e = .returned (.tuple #[]) ∧ ∃ v', Asm w' base nb ib v' num (I ++ [{ itOf s o with line := num }]) ∧ Frm (PutS ib v) w w' ∧ (∀ b, v'.ownBlock = some b → v.ownBlock = some b ∨ w.heap.size ≤ b) := by
  obtain ⟨op, a, b, c, imm, n, label⟩ := o
  obtain ⟨s1, s2, s3⟩ := hs
  have e1 : (s.toList == [108, 105]) = false := nil_lit rfl s1
  have e2 : (s.toList == [46, 119, 111, 114, 100]) = false := nil_lit rfl s2
  have e3 : (s.toList == [46, 115, 112, 97, 99, 101]) = false := nil_lit rfl s3
  clear s1 s2 s3
  unfold putV opC
  dsimp only
  obtain ⟨W, hW, B0, D0⟩ := box1 w [.int .i64 op, .int .i64 a, .int .i64 b, .int .i64 c, .int .i64 imm, .int .i64 n, .string label] 114
  obtain ⟨q, hq⟩ : ∃ q, w.heap.size = q := ⟨_, rfl⟩
  rw [hq] at B0
  have x0 := B0.cell 0 rfl
  have x1 := B0.cell 1 rfl
  have x2 := B0.cell 2 rfl
  have x3 := B0.cell 3 rfl
  have x4 := B0.cell 4 rfl
  have x6 := B0.cell 6 rfl
  have H1 := hide (h.below D0)
  have HD := hide D0
  have HQ := hide hq
  have HI := hide hI
  have FIN : Hid (∀ x : It, ∀ w', (∃ v', Asm w' base nb ib v' num (I ++ [{ x with line := num }]) ∧ Frm (PutS ib v) W w' ∧ (∀ b, v'.ownBlock = some b → v.ownBlock = some b ∨ W.heap.size ≤ b)) → (∃ v', Asm w' base nb ib v' num (I ++ [{ x with line := num }]) ∧ Frm (PutS ib v) w w' ∧ (∀ b, v'.ownBlock = some b → v.ownBlock = some b ∨ w.heap.size ≤ b))) := by
    rintro x w' ⟨v', k1, k2, k3⟩
    refine ⟨v', k1, (Frm.ofBelow (S := PutS ib v) HD.out).trans k2 (fun j hj e => e), fun b e => (k3 b e).imp id (fun h => Nat.le_trans HD.out.size h)⟩
  clear h hI B0 D0
  unfold itOf
  by_cases h1 : s = ⟨#[108, 97]⟩
  · subst h1
    rw [if_pos rfl]
    have HP := hide (put_any ⟨16, a, 0, 0, 0, 0, label, 0⟩ W H1.out HI.out)
    have FF := hide (FIN.out ⟨16, a, 0, 0, 0, 0, label, 0⟩)
    clear FIN
    unfold itC at HP
    dsimp only at HP
    go_enter Tryd.func69, Tryd.ntmps69
    go_upto_region 1 with fail
    try simp only [hW, hq]
    clear hW hq
    go_wp2_with fail
    refine Calls.mono HP.out ?_
    rintro e w' ⟨rfl, k⟩
    have KK := hide (FF.out w' k)
    clear k x0 x1 x2 x3 x4 x6
    go_wp2
    first | refine bodyPost_end (v := .tuple #[]) (results_none rfl _ _ _) rfl ?_ | refine bodyPost_ret (v := .tuple #[]) (results_none rfl _ _ _) rfl ?_
    exact ⟨rfl, KK.out⟩
  · rw [if_neg h1]
    have e4 : (s.toList == [108, 97]) = false := nil_lit rfl h1
    clear h1
    by_cases h2 : s = ⟨#[110, 111, 112]⟩
    · subst h2
      rw [if_pos rfl]
      have HP := hide (put_any ⟨16, 0, 0, 0, 0, 0, ⟨#[]⟩, 0⟩ W H1.out HI.out)
      have FF := hide (FIN.out ⟨16, 0, 0, 0, 0, 0, ⟨#[]⟩, 0⟩)
      clear FIN
      unfold itC at HP
      dsimp only at HP
      go_enter Tryd.func69, Tryd.ntmps69
      go_upto_region 1 with fail
      try simp only [hW, hq]
      clear hW hq
      go_wp2_with fail
      refine Calls.mono HP.out ?_
      rintro e w' ⟨rfl, k⟩
      have KK := hide (FF.out w' k)
      clear k x0 x1 x2 x3 x4 x6
      go_wp2
      first | refine bodyPost_end (v := .tuple #[]) (results_none rfl _ _ _) rfl ?_ | refine bodyPost_ret (v := .tuple #[]) (results_none rfl _ _ _) rfl ?_
      exact ⟨rfl, KK.out⟩
    · rw [if_neg h2]
      have e5 : (s.toList == [110, 111, 112]) = false := nil_lit rfl h2
      clear h2
      have HP := hide (put_any ⟨op, a, b, c, imm, 0, label, 0⟩ W H1.out HI.out)
      have FF := hide (FIN.out ⟨op, a, b, c, imm, 0, label, 0⟩)
      clear FIN
      unfold itC at HP
      dsimp only at HP
      go_enter Tryd.func69, Tryd.ntmps69
      go_upto_region 1 with fail
      try simp only [hW, hq]
      clear hW hq
      go_wp2_with fail
      refine Calls.mono HP.out ?_
      rintro e w' ⟨rfl, k⟩
      have KK := hide (FF.out w' k)
      clear k x0 x1 x2 x3 x4 x6
      go_wp2
      first | refine bodyPost_end (v := .tuple #[]) (results_none rfl _ _ _) rfl ?_ | refine bodyPost_ret (v := .tuple #[]) (results_none rfl _ _ _) rfl ?_
      exact ⟨rfl, KK.out⟩
end Go.Proofs.YthcmeboepedelaaDoor
