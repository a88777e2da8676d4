/-
  The program's find, add, spoil, New.
-/
import Derived.Test.YtgnkmenjjmfcfaaDoorLkFind
import Derived.Maps.OwnOps
namespace Go.Proofs.YtgnkmenjjmfcfaaDoor
open Go.RowKit FerryCrc Q
set_option linter.unusedVariables false
set_option linter.unusedSimpArgs false
/-- A letter stored into a block. -/
theorem putl {w : World} {q : Nat} {cs : List Value} {ty : TypeId} (hb : Bk w q cs ty) (hl : cs.length = 4) (f t : Int) (s : ByteArray) (sp : Bool) : ∃ W, (((w.setCell ⟨q, 0, none⟩ (.int .i64 f)).setCell ⟨q, 1, none⟩ (.int .i64 t)).setCell ⟨q, 2, none⟩ (.string s)).setCell ⟨q, 3, none⟩ (.bool sp) = W ∧ Bk W q [.int .i64 f, .int .i64 t, .string s, .bool sp] ty ∧ ∀ B a, B ≤ q → Below B a w → Below B a W :=
  ⟨_, rfl, hb.sets [.int .i64 f, .int .i64 t, .string s, .bool sp] hl, fun B a h1 h2 => below_sets h1 [.int .i64 f, .int .i64 t, .string s, .bool sp] 0 h2⟩
def Z4 : List Value := [.int .i64 0, .int .i64 0, .string ⟨#[]⟩, .bool false]
def W4 (w : World) (b : Nat) (f t : Int) (s : ByteArray) (sp : Bool) : Prop := Bk w b [.int .i64 f, .int .i64 t, .string s, .bool sp] 74
set_option maxRecDepth 100000 in
set_option maxHeartbeats 2000000 in
theorem find_any {lb mb : Nat} {L : Lk} (k : Int) (h1 : -9223372036854775808 ≤ k) (h2 : k ≤ 9223372036854775807) {w : World} {E : Nat → Addr} (h : LAt w lb mb L) (he : w.cell? ⟨12, 0, none⟩ = some (sent (E 17))) :
    Calls Tryd.prog 33 #[.pointer (some ⟨lb, 0, none⟩), .int .i64 k] w fun e w' => e = .returned (.tuple #[(fv L k).v, erv E (fE L k)]) ∧ Below w.heap.size w w' := by
  obtain ⟨W, hW, B0, D0⟩ := box1 w [.int .i64 0, .int .i64 0, .string ⟨#[]⟩, .bool false] 74
  obtain ⟨q, hq⟩ : ∃ q, w.heap.size = q := ⟨_, rfl⟩
  have HQ0 : Hid (w.heap.size ≤ q) := Nat.le_of_eq hq
  rw [hq] at B0
  have HB0 := hide B0
  have HD := hide D0
  have HWD := hide hW
  have HQ := hide hq
  have HG : Hid (12 < q) := by have h3 := block_lt_of_cell he; rw [hq] at h3; exact h3
  have HL := hide (h.below D0)
  have HE := hide (cell_below he D0)
  clear B0 D0 hW hq h he
  go_enter Tryd.func33, Tryd.ntmps33
  go_upto_region 1 with fail
  have hW := HWD.out
  have hq := HQ.out
  clear HWD HQ
  simp only [hW, hq]
  clear hW hq
  have c1 := HL.out.bk.cell 1 rfl
  have B1 := Bk.new W [.int .i64 0, .int .i64 0, .string ⟨#[]⟩, .bool false] 74
  have HB1 := hide B1
  have n0 := B1.cell 0 rfl
  have n1 := B1.cell 1 rfl
  have n2 := B1.cell 2 rfl
  have n3 := B1.cell 3 rfl
  have f0 := B1.frozen 0
  have f1 := B1.frozen 1
  have f2 := B1.frozen 2
  have f3 := B1.frozen 3
  clear B1
  obtain ⟨b, hb⟩ : ∃ b, (L.M k).isSome = b := ⟨_, rfl⟩
  have HBb := hide hb
  go_upto_region 2 with (at_lookup; (refine wp_look _ rfl _ _ rfl HL.out rfl k h1 h2 rfl ?_; intro f t s sp hX; rw [hb]; have HX := hide hX; clear hX hb))
  clear n0 n1 n2 n3 f0 f1 f2 f3 c1 HB1
  obtain ⟨W2, hW2, X1, X2⟩ := box1 W [.int .i64 f, .int .i64 t, .string s, .bool sp] 74
  have HX1 := hide X1
  have HX2 := hide (chain HD.out X2)
  replace HB0 := hide (HB0.out.below X2)
  replace HE := hide (cell_below HE.out X2)
  simp only [hW2]
  clear hW2 X1 X2 HL
  have n0 := HB0.out.cell 0 rfl
  have n1 := HB0.out.cell 1 rfl
  have n2 := HB0.out.cell 2 rfl
  have n3 := HB0.out.cell 3 rfl
  have f0 := HB0.out.frozen 0
  have f1 := HB0.out.frozen 1
  have f2 := HB0.out.frozen 2
  have f3 := HB0.out.frozen 3
  cases b with
  | false =>
    have e17 := HE.out
    unfold sent at e17
    have g1 : ¬ (12 = q) := Nat.ne_of_lt HG.out
    have g2 : ¬ (q = 12) := fun e => g1 e.symm
    go_upto_region 3 with fail
    go_region
    obtain ⟨W3, hW3, X1, X2⟩ := putl (w := W2) HB0.out rfl 0 0 ⟨#[]⟩ false
    have HX4 := hide (X2 _ _ HQ0.out HX2.out).drew
    simp only [hW3]
    have e0 := X1.cell 0 rfl
    have e1 := X1.cell 1 rfl
    have e2 := X1.cell 2 rfl
    have e3 := X1.cell 3 rfl
    clear X1 X2 hW3
    go_wp2
    refine bodyPost_ret (v := .tuple #[.agg #[.int .i64 0, .int .i64 0, .string ⟨#[]⟩, .bool false], .iface 148 (.pointer (some (E 17)))]) (by simp [results, Tryd.results33, go_sem, e0, e1, e2, e3]) rfl ?_
    refine ⟨?_, HX4.out⟩
    have h3 := HBb.out
    unfold fv fE
    cases hM : L.M k with
    | none => rfl
    | some y =>
      rw [hM] at h3
      cases h3
  | true =>
    have x0 := HX1.out.cell 0 rfl
    have x1 := HX1.out.cell 1 rfl
    have x2 := HX1.out.cell 2 rfl
    have x3 := HX1.out.cell 3 rfl
    obtain ⟨W3, hW3, X1, X2⟩ := putl (w := W2) HB0.out rfl f t s sp
    have HX3 := hide X1
    have HX4 := hide (X2 _ _ HQ0.out HX2.out)
    clear X1 X2
    go_wp2
    have e0 := HX3.out.cell 0 rfl
    have e1 := HX3.out.cell 1 rfl
    have e2 := HX3.out.cell 2 rfl
    have e3 := HX3.out.cell 3 rfl
    refine bodyPost_ret (v := .tuple #[.agg #[.int .i64 f, .int .i64 t, .string s, .bool sp], .nilIface]) (by simp [results, Tryd.results33, go_sem, e0, e1, e2, e3]) rfl ?_
    refine ⟨?_, HX4.out⟩
    rw [HX.out]
    unfold fE
    rw [HBb.out]
    rfl
/-- What is behind a write into the map and one into the link's block. -/
theorem frm_two {lb mb : Nat} {w w1 w2 w3 : World} {v : Value} (h1 : Below w.heap.size w w1) (h2 : w1.setCell ⟨lb, 0, none⟩ v = w2) (h3 : w2.drew.grownBy w3 (some mb)) : Frm (TwoB lb mb) w w3 := by
  have q1 := Frm.ofBelow (S := TwoB lb mb) h1
  have q2 : Frm (TwoB lb mb) w1 w2 := by
    rw [← h2]
    exact (frm_setCell w1 ⟨lb, 0, none⟩ v).mono (fun j _ e => .inl e)
  have q3 : Frm (TwoB lb mb) w2 w3 := (frm_grown (w := w2.drew) h3).mono (fun j _ e => .inr (Option.some.inj e).symm) |> fun f => ⟨f.os, f.tape, f.output, f.size, f.block⟩
  exact (q1.trans q2 (fun _ _ h => h)).trans q3 (fun _ _ h => h)
set_option maxRecDepth 100000 in
set_option maxHeartbeats 2000000 in
theorem add_any {lb mb : Nat} {L : Lk} (f t : Int) (s : ByteArray) (sp : Bool) (hs : s.size ≤ 4096) (hn : L.n ≤ 4611686018427387904) {w : World} (h : LAt w lb mb L) :
    Calls Tryd.prog 32 #[.pointer (some ⟨lb, 0, none⟩), .agg #[.int .i64 f, .int .i64 t, .string s, .bool sp]] w fun e w' => e = .returned (.int .i64 ((L.n : Int) + 1)) ∧ LAt w' lb mb ⟨L.n + 1, setM L.M ((L.n : Int) + 1) (some ⟨f, t, s, sp⟩)⟩ ∧ Frm (TwoB lb mb) w w' := by
  obtain ⟨n, M⟩ := L
  simp only at hn ⊢
  have HLT := hide h.lb_lt
  have HMT := hide h.mb_lt
  have HNE := hide h.ne
  have HOK : Hid (∀ k x, M k = some x → 1 ≤ k ∧ k ≤ (n : Int)) := h.ok
  have HSZ : Hid (∀ k x, M k = some x → x.s.size ≤ 4096) := h.sz
  obtain ⟨W, hW, B0, D0⟩ := box1 w [.int .i64 f, .int .i64 t, .string s, .bool sp] 74
  obtain ⟨q, hq⟩ : ∃ q, w.heap.size = q := ⟨_, rfl⟩
  have HQL : Hid (q ≠ lb) := by have := HLT.out; unfold Hid; omega
  rw [hq] at B0
  have HB0 := hide B0
  have HD := hide D0
  have HWD := hide hW
  have HQ := hide hq
  have HL := hide (h.below D0)
  clear B0 D0 hW hq h
  go_enter Tryd.func32, Tryd.ntmps32
  go_upto_region 1 with fail
  have hW := HWD.out
  have hq := HQ.out
  clear HWD HQ
  simp only [hW, hq]
  clear hW hq
  have hw : wrap64 ((n : Int) + 1) = (n : Int) + 1 := by unfold wrap64; omega
  have c0 := HL.out.bk.cell 0 rfl
  have z0 := HL.out.bk.frozen 0
  dsimp only at c0
  go_upto_region 2 with fail
  obtain ⟨W2, hW2⟩ : ∃ z, W.setCell ⟨lb, 0, none⟩ (.int .i64 ((n : Int) + 1)) = z := ⟨_, rfl⟩
  simp only [hW2]
  have HW2 := hide hW2
  have K1 : Hid (Bk W2 lb [.int .i64 ((n : Int) + 1), .map (some mb)] 61) := by
    rw [← hW2]
    exact HL.out.bk.set 0 _
  have KO : Hid (∃ D, W2.ownsMap Tryd.prog 3 letR mb n D ∧ MIs D M) := by
    obtain ⟨D, h3, h4⟩ := HL.out.own
    exact ⟨D, by rw [← hW2]; exact h3.setCell HNE.out _, h4⟩
  have KB := hide (HB0.out.other ⟨lb, 0, none⟩ (.int .i64 ((n : Int) + 1)) HQL.out)
  rw [hW2] at KB
  clear hW2 c0 z0 HL HB0
  obtain ⟨D, h3, h4⟩ := KO.out
  obtain ⟨W3, hrun, r1, r2⟩ := (World.ownsMap.drew h3).update keyI undMap (by unfold maxLen; omega) (key := .int .i64 ((n : Int) + 1)) (keyOf_kl (k := (n : Int) + 1) (by omega) (by omega)) (show letR (.agg #[.int .i64 f, .int .i64 t, .string s, .bool sp]) = some ((Lt.mk f t s sp).d, []) from letR_mk ⟨f, t, s, sp⟩)
  have HR1 : Hid (∃ D, W3.ownsMap Tryd.prog 3 letR mb (n + 1) D ∧ MIs D (setM M ((n : Int) + 1) (some ⟨f, t, s, sp⟩))) := ⟨_, r1, h4.put h3.isMap _ _⟩
  have HR2 := hide r2
  clear h3 h4 r1 r2 KO
  have c0 := K1.out.cell 0 rfl
  have c1 := K1.out.cell 1 rfl
  have x0 := KB.out.cell 0 rfl
  have x1 := KB.out.cell 1 rfl
  have x2 := KB.out.cell 2 rfl
  have x3 := KB.out.cell 3 rfl
  go_region
  clear hrun c0 c1 x0 x1 x2 x3
  have K3 : Hid (Bk W3 lb [.int .i64 ((n : Int) + 1), .map (some mb)] 61) := by
    have h5 := K1.out
    have h6 : lb < W2.heap.size := h5.lt
    unfold Hid
    unfold Bk at h5 ⊢
    rw [HR2.out.block lb h6 (fun e => HNE.out (Option.some.inj e).symm)]
    exact h5
  have c0 := K3.out.cell 0 rfl
  go_wp2
  go_ret
  refine ⟨rfl, ⟨K3.out, HR1.out, fun k x hk => ?_, fun k x hk => ?_⟩, frm_two HD.out HW2.out HR2.out⟩
  · replace hk : setM M ((n : Int) + 1) (some ⟨f, t, s, sp⟩) k = some x := hk
    show 1 ≤ k ∧ k ≤ ((n + 1 : Nat) : Int)
    by_cases e : k = (n : Int) + 1
    · omega
    · rw [setM_ne _ _ e] at hk
      have := HOK.out k x hk
      omega
  · replace hk : setM M ((n : Int) + 1) (some ⟨f, t, s, sp⟩) k = some x := hk
    by_cases e : k = (n : Int) + 1
    · subst e
      rw [setM_same] at hk
      obtain rfl := Option.some.inj hk
      exact hs
    · rw [setM_ne _ _ e] at hk
      exact HSZ.out k x hk
set_option maxRecDepth 100000 in
set_option maxHeartbeats 2000000 in
theorem spoil_any {lb mb : Nat} {L : Lk} (k : Int) (h1 : -9223372036854775808 ≤ k) (h2 : k ≤ 9223372036854775807) (f t : Int) (s0 s : ByteArray) (sp : Bool) (hs : s.size ≤ 4096) (hn : L.n ≤ 4611686018427387904) (hk : (L.M k).isSome = true) {w : World} (h : LAt w lb mb L) :
    Calls Tryd.prog 34 #[.pointer (some ⟨lb, 0, none⟩), .int .i64 k, .agg #[.int .i64 f, .int .i64 t, .string s0, .bool sp], .string s] w fun e w' => e = .returned (.tuple #[]) ∧ LAt w' lb mb ⟨L.n, setM L.M k (some ⟨f, t, s, true⟩)⟩ ∧ Frm (TwoB lb mb) w w' := by
  obtain ⟨n, M⟩ := L
  simp only at hn hk ⊢
  have HLT := hide h.lb_lt
  have HNE := hide h.ne
  have HOK : Hid (∀ k x, M k = some x → 1 ≤ k ∧ k ≤ (n : Int)) := h.ok
  have HSZ : Hid (∀ k x, M k = some x → x.s.size ≤ 4096) := h.sz
  obtain ⟨W, hW, B0, D0⟩ := box1 w [.int .i64 f, .int .i64 t, .string s0, .bool sp] 74
  obtain ⟨q, hq⟩ : ∃ q, w.heap.size = q := ⟨_, rfl⟩
  have HQL : Hid (lb < q ∧ w.heap.size ≤ q) := by have := HLT.out; unfold Hid; omega
  rw [hq] at B0
  have HB0 := hide B0
  have HD := hide D0
  have HWD := hide hW
  have HQ := hide hq
  have HL := hide (h.below D0)
  have HKK := hide hk
  clear B0 D0 hW hq h hk
  go_enter Tryd.func34, Tryd.ntmps34
  go_upto_region 1 with fail
  have hW := HWD.out
  have hq := HQ.out
  clear HWD HQ
  simp only [hW, hq]
  clear hW hq
  have c2 := HB0.out.cell 2 rfl
  have c3 := HB0.out.cell 3 rfl
  have f2 := HB0.out.frozen 2
  have f3 := HB0.out.frozen 3
  go_upto_region 2 with fail
  obtain ⟨W2, hW2⟩ : ∃ z, (W.setCell ⟨q, 2, none⟩ (.string s)).setCell ⟨q, 3, none⟩ (.bool true) = z := ⟨_, rfl⟩
  simp only [hW2]
  have KB : Hid (Bk W2 q [.int .i64 f, .int .i64 t, .string s, .bool true] 74) := by
    rw [← hW2]
    exact (HB0.out.set 2 (.string s)).set 3 (.bool true)
  have KD : Hid (Below w.heap.size w W2) := by
    rw [← hW2]
    exact (HD.out.setCell (p := ⟨q, 2, none⟩) HQL.out.2 _).setCell (p := ⟨q, 3, none⟩) HQL.out.2 _
  have KL : Hid (LAt W2 lb mb ⟨n, M⟩) := by
    rw [← hW2]
    have hm := HL.out.mb_lt
    have hl := HL.out.lb_lt
    have hmq : ¬ mb = q := by
      obtain ⟨D, ⟨es, clock, p1, -⟩, -⟩ := HL.out.own
      intro e
      have p2 := HB0.out
      unfold Bk at p2
      rw [← e, p1] at p2
      cases p2
    have g1 := (frm_setCell W ⟨q, 2, none⟩ (.string s)).trans (frm_setCell (W.setCell ⟨q, 2, none⟩ (.string s)) ⟨q, 3, none⟩ (.bool true)) (S := fun k => k = q) (fun _ _ e => e)
    exact HL.out.frm g1 (by have := HQL.out.1; omega) hmq
  clear hW2 c2 c3 f2 f3 HL HB0 HD
  obtain ⟨D, h3, h4⟩ := KL.out.own
  have hrr : ∃ W3, (Instr.mapUpdate 59 (.map (some mb)) (.int .i64 k) (.agg #[.int .i64 f, .int .i64 t, .string s, .bool true])).run Tryd.prog W2.drew = .ok () W3 ∧ (∃ D, W3.ownsMap Tryd.prog 3 letR mb n D ∧ MIs D (setM M k (some ⟨f, t, s, true⟩))) ∧ W2.drew.grownBy W3 (some mb) := by
    obtain ⟨W3, hrun, r1, r2⟩ := (World.ownsMap.drew h3).update keyI undMap (by simp only; unfold maxLen; omega) (key := .int .i64 k) (keyOf_kl (k := k) h1 h2) (show letR (.agg #[.int .i64 f, .int .i64 t, .string s, .bool true]) = some ((Lt.mk f t s true).d, []) from letR_mk ⟨f, t, s, true⟩)
    refine ⟨W3, hrun, ⟨_, ?_, h4.put h3.isMap k _⟩, r2⟩
    have h5 := Maps.size_put (k := kl k) (h3.tidy keyI) (Lt.mk f t s true).d
    rw [h4.has k, show (M k).isSome = true from HKK.out, if_pos rfl] at h5
    have h6 := h3.size_le
    obtain ⟨es, clock, p1, p2, p3, p4⟩ := r1
    refine ⟨es, clock, p1, p2, ?_, p4⟩
    rw [p4, Maps.size_eq, length_read] at h5
    simp only at h6
    omega
  obtain ⟨W3, hrun, r1, r2⟩ := hrr
  have HR1 := hide r1
  have HR2 := hide r2
  clear h3 h4 r1 r2
  have K1 := hide KL.out.bk
  have c1 := K1.out.cell 1 rfl
  have x0 := KB.out.cell 0 rfl
  have x1 := KB.out.cell 1 rfl
  have x2 := KB.out.cell 2 rfl
  have x3 := KB.out.cell 3 rfl
  go_region
  clear hrun c1 x0 x1 x2 x3
  go_wp2
  refine bodyPost_end (v := .tuple #[]) (by simp [results, Tryd.results34, go_sem]) rfl ?_
  have K3 : Bk W3 lb [.int .i64 (n : Int), .map (some mb)] 61 := by
    have h5 : Bk W2 lb [.int .i64 (n : Int), .map (some mb)] 61 := K1.out
    have h6 : lb < W2.heap.size := h5.lt
    unfold Bk at h5 ⊢
    rw [HR2.out.block lb h6 (fun e => HNE.out (Option.some.inj e).symm)]
    exact h5
  refine ⟨rfl, ⟨K3, HR1.out, fun j x hj => ?_, fun j x hj => ?_⟩, ?_⟩
  · replace hj : setM M k (some ⟨f, t, s, true⟩) j = some x := hj
    by_cases e : j = k
    · subst e
      obtain ⟨y, hy⟩ := Option.isSome_iff_exists.1 HKK.out
      exact HOK.out j y hy
    · rw [setM_ne _ _ e] at hj
      exact HOK.out j x hj
  · replace hj : setM M k (some ⟨f, t, s, true⟩) j = some x := hj
    by_cases e : j = k
    · subst e
      rw [setM_same] at hj
      obtain rfl := Option.some.inj hj
      exact hs
    · rw [setM_ne _ _ e] at hj
      exact HSZ.out j x hj
  · have q1 := Frm.ofBelow (S := TwoB lb mb) KD.out
    have q3 : Frm (TwoB lb mb) W2 W3 := (frm_grown (w := W2.drew) HR2.out).mono (fun j _ e => .inr (Option.some.inj e).symm) |> fun f => ⟨f.os, f.tape, f.output, f.size, f.block⟩
    exact q1.trans q3 (fun _ _ h => h)
set_option maxRecDepth 100000 in
set_option maxHeartbeats 2000000 in
theorem new_any (w : World) : Calls Tryd.prog 8 #[] w fun e w' => ∃ lb mb, e = .returned (.pointer (some ⟨lb, 0, none⟩)) ∧ LAt w' lb mb ⟨0, fun _ => none⟩ ∧ w.heap.size ≤ lb ∧ w.heap.size ≤ mb ∧ Below w.heap.size w w' := by
  have hmk := run_makeMap (P := Tryd.prog) 59 w
  have h0 : (w.alloc (.map #[] 0)).heap.size = w.heap.size + 1 := Array.size_push _
  go_enter Tryd.func8, Tryd.ntmps8
  go_wp2
  go_ret
  have b1 := xnew w (.map #[] 0)
  have o1 := World.ownsMap_made w Tryd.prog 3 letR
  have b2 := xnew (w.alloc (.map #[] 0)) (.cells #[.int .i64 0, .map (some w.heap.size)] 61)
  have k2 := Bk.new (w.alloc (.map #[] 0)) [.int .i64 0, .map (some w.heap.size)] 61
  rw [h0] at k2
  refine ⟨w.heap.size + 1, w.heap.size, rfl, ⟨k2, ⟨_, o1.alloc _, mis_none⟩, fun k x h => (by cases h), fun k x h => (by cases h)⟩, Nat.le_succ _, Nat.le_refl _, chain b1 b2⟩
end Go.Proofs.YtgnkmenjjmfcfaaDoor
