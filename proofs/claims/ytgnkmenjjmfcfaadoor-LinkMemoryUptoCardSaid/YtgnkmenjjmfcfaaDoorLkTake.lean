/-
  The program's Look, Take, Drop, Copy.
-/
import Derived.Test.YtgnkmenjjmfcfaaDoorLkCalls
namespace Go.Proofs.YtgnkmenjjmfcfaaDoor
open Go.RowKit FerryCrc Q
set_option linter.unusedVariables false
set_option linter.unusedSimpArgs false

def tL (L : Lk) (k : Int) : Lk := ⟨L.n, setM L.M k none⟩
def cN (L : Lk) (k : Int) : Int := if fE L k = 0 then (L.n : Int) + 1 else 0
def cL (L : Lk) (k : Int) : Lk := if fE L k = 0 then ⟨L.n + 1, setM L.M ((L.n : Int) + 1) (some (fv L k))⟩ else L
theorem Bk.grownB {w w' : World} {b m : Nat} {cs : List Value} {ty : TypeId} (h : Bk w b cs ty) (hg : w.grownBy w' (some m)) (hne : b ≠ m) : Bk w' b cs ty := by
  have h1 := h.lt
  unfold Bk at *
  rw [hg.block b h1 (fun e => hne (Option.some.inj e))]
  exact h
set_option maxRecDepth 100000 in
set_option maxHeartbeats 2000000 in
theorem look_any {lb mb : Nat} {L : Lk} (k : Int) (h1 : -9223372036854775808 ≤ k) (h2 : k ≤ 9223372036854775807) {w : World} {E : Nat → Addr} (h : LAt w lb mb L) (he : w.cell? ⟨12, 0, none⟩ = some (sent (E 17))) :
    Calls Tryd.prog 17 #[.pointer (some ⟨lb, 0, none⟩), .int .i64 k] w fun e w' => e = .returned (.tuple #[(fv L k).a, .bool (fv L k).sp, erv E (fE L k)]) ∧ Below w.heap.size w w' := by
  have HF := hide (fun (w' : World) (D : Below w.heap.size w w') => find_any (E := E) k h1 h2 (h.below D) (cell_below he D))
  obtain ⟨X, hX⟩ : ∃ X, fv L k = X := ⟨_, rfl⟩
  obtain ⟨er, her⟩ : ∃ er, erv E (fE L k) = er := ⟨_, rfl⟩
  rw [hX, her] at HF
  rw [hX, her]
  obtain ⟨f, t, s, sp⟩ := X
  dsimp only [Lt.v, Lt.cells, Lt.a] at HF ⊢
  obtain ⟨W, hW, B0, D0⟩ := box1 w [.int .i64 0, .int .i64 0, .string ⟨#[]⟩] 41
  obtain ⟨q, hq⟩ : ∃ q, w.heap.size = q := ⟨_, rfl⟩
  have HQ0 : Hid (w.heap.size ≤ q ∧ lb < q ∧ mb < q) := by have q1 := h.lb_lt; have q2 := h.mb_lt; rw [hq] at q1 q2; exact ⟨Nat.le_of_eq hq, q1, q2⟩
  rw [hq] at B0
  have HB0 := hide B0
  have HD := hide D0
  have HWD := hide hW
  have HQ := hide hq
  have HL := hide (fun (w' : World) (D : Below w.heap.size w w') => h.below D)
  clear B0 D0 hW hq h he
  go_enter Tryd.func17, Tryd.ntmps17
  go_upto_region 1 with fail
  have hW := HWD.out
  have hq := HQ.out
  clear HWD HQ
  simp only [hW, hq]
  clear hW hq
  go_wp2_with fail
  refine Calls.mono (HF.out W HD.out) ?_
  rintro e W1 ⟨rfl, b⟩
  replace HD := hide (chain HD.out b)
  replace HB0 := hide (HB0.out.below b)
  have HDa := HD
  clear b HF
  obtain ⟨W2, hW2, B2, D2⟩ := box1 W1 [.int .i64 f, .int .i64 t, .string s, .bool sp] 74
  have HB2 := hide B2
  replace HD := hide (chain HD.out D2)
  replace HB0 := hide (HB0.out.below D2)
  obtain ⟨r, hr⟩ : ∃ r, W1.heap.size = r := ⟨_, rfl⟩
  have HRL : Hid (mb < r ∧ lb < r ∧ w.heap.size ≤ r) := by
    have q1 := (HL.out _ HDa.out).lb_lt
    have q2 := (HL.out _ HDa.out).mb_lt
    rw [hr] at q1 q2
    exact ⟨q2, q1, by rw [← hr]; exact HDa.out.size⟩
  rw [hr] at HB2
  clear B2 D2
  go_upto_region 2 with fail
  try simp only [hW2, hr]
  clear hW2 hr HDa
  have x0 := HB2.out.cell 0 rfl
  have x1 := HB2.out.cell 1 rfl
  have x2 := HB2.out.cell 2 rfl
  have x3 := HB2.out.cell 3 rfl
  have n0 := HB0.out.cell 0 rfl
  have n1 := HB0.out.cell 1 rfl
  have n2 := HB0.out.cell 2 rfl
  have f0 := HB0.out.frozen 0
  have f1 := HB0.out.frozen 1
  have f2 := HB0.out.frozen 2
  go_region
  obtain ⟨W3, hW3, X1, X2⟩ := put3 (w := W2) HB0.out rfl f t s
  have HX4 := hide (X2 _ _ HQ0.out.1 HD.out).drew
  try simp only [hW3]
  have e0 := X1.cell 0 rfl
  have e1 := X1.cell 1 rfl
  have e2 := X1.cell 2 rfl
  clear X1 X2 hW3 x0 x1 x2 x3 n0 n1 n2 f0 f1 f2
  go_wp2
  refine bodyPost_ret (v := .tuple #[.agg #[.int .i64 f, .int .i64 t, .string s], .bool sp, er]) (by simp [results, Tryd.results17, go_sem, e0, e1, e2]) rfl ?_
  exact ⟨rfl, HX4.out⟩
set_option maxRecDepth 100000 in
set_option maxHeartbeats 2000000 in
theorem take_any {lb mb : Nat} {L : Lk} (k : Int) (h1 : -9223372036854775808 ≤ k) (h2 : k ≤ 9223372036854775807) {w : World} {E : Nat → Addr} (h : LAt w lb mb L) (he : w.cell? ⟨12, 0, none⟩ = some (sent (E 17))) :
    Calls Tryd.prog 14 #[.pointer (some ⟨lb, 0, none⟩), .int .i64 k] w fun e w' => e = .returned (.tuple #[(fv L k).a, erv E (fE L k)]) ∧ LAt w' lb mb (tL L k) ∧ Frm (TwoB lb mb) w w' := by
  have HF := hide (fun (w' : World) (D : Below w.heap.size w w') => find_any (E := E) k h1 h2 (h.below D) (cell_below he D))
  obtain ⟨X, hX⟩ : ∃ X, fv L k = X := ⟨_, rfl⟩
  obtain ⟨er, her⟩ : ∃ er, erv E (fE L k) = er := ⟨_, rfl⟩
  rw [hX, her] at HF
  rw [hX, her]
  obtain ⟨f, t, s, sp⟩ := X
  dsimp only [Lt.v, Lt.cells, Lt.a] at HF ⊢
  obtain ⟨W, hW, B0, D0⟩ := box1 w [.int .i64 0, .int .i64 0, .string ⟨#[]⟩] 41
  obtain ⟨q, hq⟩ : ∃ q, w.heap.size = q := ⟨_, rfl⟩
  have HQ0 : Hid (w.heap.size ≤ q ∧ lb < q ∧ mb < q) := by have q1 := h.lb_lt; have q2 := h.mb_lt; rw [hq] at q1 q2; exact ⟨Nat.le_of_eq hq, q1, q2⟩
  rw [hq] at B0
  have HB0 := hide B0
  have HD := hide D0
  have HWD := hide hW
  have HQ := hide hq
  have HL := hide (fun (w' : World) (D : Below w.heap.size w w') => h.below D)
  clear B0 D0 hW hq h he
  go_enter Tryd.func14, Tryd.ntmps14
  go_upto_region 1 with fail
  have hW := HWD.out
  have hq := HQ.out
  clear HWD HQ
  simp only [hW, hq]
  clear hW hq
  go_wp2_with fail
  refine Calls.mono (HF.out W HD.out) ?_
  rintro e W1 ⟨rfl, b⟩
  replace HD := hide (chain HD.out b)
  replace HB0 := hide (HB0.out.below b)
  have HDa := HD
  clear b HF
  obtain ⟨W2, hW2, B2, D2⟩ := box1 W1 [.int .i64 f, .int .i64 t, .string s, .bool sp] 74
  have HB2 := hide B2
  replace HD := hide (chain HD.out D2)
  replace HB0 := hide (HB0.out.below D2)
  obtain ⟨r, hr⟩ : ∃ r, W1.heap.size = r := ⟨_, rfl⟩
  have HRL : Hid (mb < r ∧ lb < r ∧ w.heap.size ≤ r) := by
    have q1 := (HL.out _ HDa.out).lb_lt
    have q2 := (HL.out _ HDa.out).mb_lt
    rw [hr] at q1 q2
    exact ⟨q2, q1, by rw [← hr]; exact HDa.out.size⟩
  rw [hr] at HB2
  clear B2 D2
  go_upto_region 2 with fail
  try simp only [hW2, hr]
  clear hW2 hr HDa
  have c1 := (HL.out _ HD.out).bk.cell 1 rfl
  go_upto_region 3 with (at_delete; (refine wp_del _ rfl _ _ rfl (HL.out _ HD.out) rfl k h1 h2 rfl ?_; intro W3 q1 q2; have H3 := hide q1; have H4 := hide q2; clear q1 q2))
  clear c1
  replace HB0 := hide (HB0.out.grownB H4.out (by have := HQ0.out.2.2; omega))
  replace HB2 := hide (HB2.out.grownB H4.out (by have := HRL.out.1; omega))
  have x0 := HB2.out.cell 0 rfl
  have x1 := HB2.out.cell 1 rfl
  have x2 := HB2.out.cell 2 rfl
  have x3 := HB2.out.cell 3 rfl
  have n0 := HB0.out.cell 0 rfl
  have n1 := HB0.out.cell 1 rfl
  have n2 := HB0.out.cell 2 rfl
  have f0 := HB0.out.frozen 0
  have f1 := HB0.out.frozen 1
  have f2 := HB0.out.frozen 2
  obtain ⟨W4, hW4, X1, X2⟩ := put3 (w := W3) HB0.out rfl f t s
  have HF4 : Hid (Frm (fun j => j = q) W3 W4) := by
    rw [← hW4]
    exact ((frm_setCell _ ⟨q, 0, none⟩ _).trans (frm_setCell _ ⟨q, 1, none⟩ _) (fun _ _ e => e)).trans (frm_setCell _ ⟨q, 2, none⟩ _) (fun _ _ e => e)
  have e0 := X1.cell 0 rfl
  have e1 := X1.cell 1 rfl
  have e2 := X1.cell 2 rfl
  clear X1 X2
  go_wp2
  try simp only [hW4]
  refine bodyPost_ret (v := .tuple #[.agg #[.int .i64 f, .int .i64 t, .string s], er]) (by simp [results, Tryd.results14, go_sem, e0, e1, e2]) rfl ?_
  refine ⟨rfl, H3.out.frm HF4.out (by have := HQ0.out.2.1; omega) (by have := HQ0.out.2.2; omega), ?_⟩
  have g1 := (Frm.ofBelow (S := TwoB lb mb) HD.out).trans ((frm_grown H4.out).mono (T := TwoB lb mb) (fun j _ e => .inr (Option.some.inj e).symm)) (fun _ _ h => h)
  exact g1.trans HF4.out (fun j hj e => by have := HQ0.out.1; omega)
set_option maxRecDepth 100000 in
set_option maxHeartbeats 2000000 in
theorem drop_any {lb mb : Nat} {L : Lk} (k : Int) (h1 : -9223372036854775808 ≤ k) (h2 : k ≤ 9223372036854775807) {w : World} {E : Nat → Addr} (h : LAt w lb mb L) (he : w.cell? ⟨12, 0, none⟩ = some (sent (E 17))) :
    Calls Tryd.prog 18 #[.pointer (some ⟨lb, 0, none⟩), .int .i64 k] w fun e w' => e = .returned (erv E (fE L k)) ∧ LAt w' lb mb (tL L k) ∧ Frm (TwoB lb mb) w w' := by
  have HF := hide (take_any (E := E) k h1 h2 h he)
  obtain ⟨X, hX⟩ : ∃ X, fv L k = X := ⟨_, rfl⟩
  obtain ⟨er, her⟩ : ∃ er, erv E (fE L k) = er := ⟨_, rfl⟩
  rw [hX, her] at HF
  rw [her]
  obtain ⟨f, t, s, sp⟩ := X
  dsimp only [Lt.a] at HF
  clear h he hX her
  go_enter Tryd.func18, Tryd.ntmps18
  go_wp2_with fail
  refine Calls.mono HF.out ?_
  rintro e W1 ⟨rfl, a1, a2⟩
  have A1 := hide a1
  have A2 := hide a2
  clear a1 a2 HF
  go_wp2
  go_ret
  exact ⟨rfl, A1.out.below (xnew W1 _), A2.out.trans (frm_alloc _ _ _) (fun _ _ h => h)⟩
set_option maxRecDepth 100000 in
set_option maxHeartbeats 2000000 in
theorem copy_any {lb mb : Nat} {L : Lk} (k : Int) (h1 : -9223372036854775808 ≤ k) (h2 : k ≤ 9223372036854775807) (hn : L.n ≤ 4611686018427387904) {w : World} {E : Nat → Addr} (h : LAt w lb mb L) (he : w.cell? ⟨12, 0, none⟩ = some (sent (E 17))) :
    Calls Tryd.prog 11 #[.pointer (some ⟨lb, 0, none⟩), .int .i64 k] w fun e w' => e = .returned (.tuple #[.int .i64 (cN L k), erv E (fE L k)]) ∧ LAt w' lb mb (cL L k) ∧ Frm (TwoB lb mb) w w' := by
  have HSZ := hide h.sz
  have HC := hide (fE_case L k)
  have HF := hide (fun (w' : World) (D : Below w.heap.size w w') => find_any (E := E) k h1 h2 (h.below D) (cell_below he D))
  obtain ⟨cn, hcn⟩ : ∃ x, cN L k = x := ⟨_, rfl⟩
  obtain ⟨cl, hcl⟩ : ∃ x, cL L k = x := ⟨_, rfl⟩
  obtain ⟨fe, hfe⟩ : ∃ x, fE L k = x := ⟨_, rfl⟩
  obtain ⟨X, hX⟩ : ∃ X, fv L k = X := ⟨_, rfl⟩
  rw [hX, hfe] at HF HC
  rw [hcn, hcl, hfe]
  have HCN := hide hcn
  have HCL := hide hcl
  have HFE := hide hfe
  have HXX := hide hX
  clear hcn hcl hfe hX
  obtain ⟨f, t, s, sp⟩ := X
  dsimp only [Lt.v, Lt.cells] at HF
  have HL := hide (fun (w' : World) (D : Below w.heap.size w w') => h.below D)
  have HD := hide (Below.refl w.heap.size w)
  obtain ⟨W, hW⟩ : ∃ W, W = w := ⟨_, rfl⟩
  have HQ0 : Hid (lb < w.heap.size ∧ mb < w.heap.size) := ⟨h.lb_lt, h.mb_lt⟩
  clear h he
  go_enter Tryd.func11, Tryd.ntmps11
  go_upto_region 1 with fail
  go_wp2_with fail
  refine Calls.mono (HF.out w HD.out) ?_
  rintro e W1 ⟨rfl, b⟩
  replace HD := hide (chain HD.out b)
  have HDa := HD
  clear b HF
  obtain ⟨W2, hW2, B2, D2⟩ := box1 W1 [.int .i64 f, .int .i64 t, .string s, .bool sp] 74
  have HB2 := hide B2
  replace HD := hide (chain HD.out D2)
  obtain ⟨r, hr⟩ : ∃ r, W1.heap.size = r := ⟨_, rfl⟩
  have HRL : Hid (mb < r ∧ lb < r ∧ w.heap.size ≤ r) := by
    have q1 := (HL.out _ HDa.out).lb_lt
    have q2 := (HL.out _ HDa.out).mb_lt
    rw [hr] at q1 q2
    exact ⟨q2, q1, by rw [← hr]; exact HDa.out.size⟩
  rw [hr] at HB2
  clear B2 D2
  go_upto_region 2 with fail
  try simp only [hW2, hr]
  clear hW2 hr HDa
  rcases HC.out with ⟨rfl, hm, -⟩ | ⟨rfl, -, hm⟩
  · rw [show erv E 17 = sent (E 17) from rfl]
    unfold sent
    go_wp2
    go_ret2
    have a1 : cn = 0 := by rw [← HCN.out]; unfold cN; rw [HFE.out]; rfl
    have a2 : cl = L := by rw [← HCL.out]; unfold cL; rw [HFE.out]; rfl
    subst a1 a2
    exact ⟨rfl, HL.out _ HD.out, Frm.ofBelow HD.out⟩
  · rw [show erv E 0 = .nilIface from rfl]
    have HM := hide hm
    clear hm
    have x0 := HB2.out.cell 0 rfl
    have x1 := HB2.out.cell 1 rfl
    have x2 := HB2.out.cell 2 rfl
    have x3 := HB2.out.cell 3 rfl
    go_upto_region 4 with fail
    go_wp2_with fail
    refine Calls.mono (add_any f t s sp (HSZ.out k _ HM.out) hn (HL.out _ HD.out)) ?_
    rintro e W3 ⟨rfl, l3, f3⟩
    have L3 := hide l3
    have F3 := hide f3
    clear l3 f3 x0 x1 x2 x3
    go_wp2
    go_ret2
    have a1 : cn = (L.n : Int) + 1 := by rw [← HCN.out]; unfold cN; rw [HFE.out]; rfl
    have a2 : cl = ⟨L.n + 1, setM L.M ((L.n : Int) + 1) (some ⟨f, t, s, sp⟩)⟩ := by rw [← HCL.out]; unfold cL; rw [HFE.out, HXX.out]; rfl
    subst a1 a2
    exact ⟨rfl, L3.out, (Frm.ofBelow HD.out).trans F3.out (fun _ _ h => h)⟩
end Go.Proofs.YtgnkmenjjmfcfaaDoor
