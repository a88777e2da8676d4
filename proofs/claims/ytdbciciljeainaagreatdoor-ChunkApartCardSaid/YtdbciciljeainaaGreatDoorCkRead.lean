/-
  The program's read: what the fields behind the length say.
-/
import Derived.Test.YtdbciciljeainaaGreatDoorCkMath
import Derived.Test.YtdbciciljeainaaGreatDoorCkCu
import Derived.Test.YtdbciciljeainaaGreatDoorXfKit
namespace Go.Proofs.YtdbciciljeainaaGreatDoor
open Go.RowKit FerryCrc
set_option linter.unusedVariables false
set_option linter.unusedSimpArgs false

set_option maxRecDepth 100000 in
theorem clo_any (A c g len p bd : Nat) (L : List Nat) (n : Nat) (w : World) (hA : w.cell? ⟨A, 0, none⟩ = some (.pointer (some ⟨c, 0, none⟩))) (h : Cur w c g len p bd L) (hn : n = 1 ∨ n = 2 ∨ n = 4) (hs : n ≤ bd - p) (hb : nbe (cut L p n) < 4294967296) :
    Calls Tryz.prog 71 #[.int .i64 (n : Int), .pointer (some ⟨A, 0, none⟩)] w fun e w' => e = .returned (.int .i64 ((nbe (cut L p n) : Nat) : Int)) ∧ Cur w' c g len (p + n) bd L ∧ Frm (fun k => k = c) w w' := by
  have HC := hide (ranged_ok c g len p bd L n 0 4294967295 w h hn hs (by omega) (by omega))
  clear h hs hb hn
  go_enter Tryz.func71, Tryz.ntmps71
  go_wp2_with fail
  refine Calls.mono HC.out ?_
  rintro e w1 ⟨rfl, h1, h2⟩
  have H1 := hide h1
  have H2 := hide h2
  clear h1 h2
  go_wp2
  go_ret
  exact ⟨rfl, H1.out, H2.out⟩

def zN : List Value := [.int .i64 0, .int .i64 0, .int .i64 0, .int .i64 0, .int .i64 0, .int .i64 0, .int .i64 0, .int .i64 0, .int .u32 0, .string ⟨#[]⟩]
/-- A note that is being read. -/
structure Rn (w W : World) (A R n c g len p : Nat) (L : List Nat) (cs : List Value) : Prop where
  cur : Cur W c g len p len L
  ptr : Bk W A [.pointer (some ⟨c, 0, none⟩)] 88
  bR : Bk W R zN 33
  bN : Bk W n cs 33
  frm : Frm (fun k => k = c) w W
  cl : c < w.heap.size
  gl : g < w.heap.size
  a : w.heap.size ≤ A
  r : A < R
  n : R < n
theorem Bk.frm {S : Nat → Prop} {w w' : World} {b : Nat} {cs : List Value} {t : TypeId} (h : Bk w b cs t) (hf : Frm S w w') (hn : ¬ S b) : Bk w' b cs t := by
  unfold Bk
  rw [hf.block b h.lt hn]
  exact h
theorem Rn.call {w W W' : World} {A R n c g len p p' : Nat} {L : List Nat} {cs : List Value} (h : Rn w W A R n c g len p L cs) (h1 : Cur W' c g len p' len L) (hf : Frm (fun k => k = c) W W') : Rn w W' A R n c g len p' L cs := by
  have h2 := h.cl; have h3 := h.a; have h4 := h.r; have h5 := h.n
  exact ⟨h1, h.ptr.frm hf (by omega), h.bR.frm hf (by omega), h.bN.frm hf (by omega), h.frm.trans hf (fun j _ t => t), h.cl, h.gl, h.a, h.r, h.n⟩
theorem Rn.over {w W W' : World} {A R n c g len p : Nat} {L : List Nat} {cs : List Value} (h : Rn w W A R n c g len p L cs) (hb : Below W.heap.size W W') : Rn w W' A R n c g len p L cs :=
  ⟨h.cur.below hb, h.ptr.below hb, h.bR.below hb, h.bN.below hb, h.frm.trans (Frm.ofBelow (S := fun _ => False) hb) (fun j _ t => t.elim), h.cl, h.gl, h.a, h.r, h.n⟩
theorem Rn.set {w W : World} {A R n c g len p : Nat} {L : List Nat} {cs : List Value} (h : Rn w W A R n c g len p L cs) (i : Nat) (v : Value) : Rn w (W.setCell ⟨n, i, none⟩ v) A R n c g len p L (cs.set i v) := by
  have h2 := h.cl; have h3 := h.a; have h4 := h.r; have h5 := h.n; have h6 := h.gl
  exact ⟨h.cur.frm (frm_setCell W ⟨n, i, none⟩ v) (by show ¬ c = n; omega) (by show ¬ g = n; omega), h.ptr.other _ _ (by show A ≠ n; omega), h.bR.other _ _ (by show R ≠ n; omega), h.bN.set i v, h.frm.trans (frm_setCell W ⟨n, i, none⟩ v) (fun j hj t => by have : j = n := t; omega), h.cl, h.gl, h.a, h.r, h.n⟩
theorem Rn.sets {A R n c g len p : Nat} {L : List Nat} : ∀ (vs : List Value) (o : Nat) {w W : World} {cs : List Value}, Rn w W A R n c g len p L cs → Rn w (W.setCells n o vs) A R n c g len p L (setL cs o vs)
  | [], _, _, _, _, h => h
  | v :: vs, o, _, _, _, h => Rn.sets vs (o + 1) (h.set o v)

theorem clo1_any (A c g len p bd : Nat) (L : List Nat) (w : World) (hA : w.cell? ⟨A, 0, none⟩ = some (.pointer (some ⟨c, 0, none⟩))) (h : Cur w c g len p bd L) (hs : 1 ≤ bd - p) (hl : ∀ c ∈ L, c < 256) :
    Calls Tryz.prog 71 #[.int .i64 1, .pointer (some ⟨A, 0, none⟩)] w fun e w' => e = .returned (.int .i64 ((nbe (cut L p 1) : Nat) : Int)) ∧ Cur w' c g len (p + 1) bd L ∧ Frm (fun k => k = c) w w' :=
  clo_any A c g len p bd L 1 w hA h (.inl rfl) hs (Nat.lt_of_lt_of_le (cut_lt hl p 1) (by decide))
theorem clo4_any (A c g len p bd : Nat) (L : List Nat) (w : World) (hA : w.cell? ⟨A, 0, none⟩ = some (.pointer (some ⟨c, 0, none⟩))) (h : Cur w c g len p bd L) (hs : 4 ≤ bd - p) (hl : ∀ c ∈ L, c < 256) :
    Calls Tryz.prog 71 #[.int .i64 4, .pointer (some ⟨A, 0, none⟩)] w fun e w' => e = .returned (.int .i64 ((nbe (cut L p 4) : Nat) : Int)) ∧ Cur w' c g len (p + 4) bd L ∧ Frm (fun k => k = c) w w' :=
  clo_any A c g len p bd L 4 w hA h (.inr (.inr rfl)) hs (Nat.lt_of_lt_of_le (cut_lt hl p 4) (by decide))
theorem frm_setCells {b : Nat} : ∀ (vs : List Value) (o : Nat) (w : World), Frm (fun k => k = b) w (w.setCells b o vs)
  | [], _, w => Frm.refl _ w
  | v :: vs, o, w => (frm_setCell w ⟨b, o, none⟩ v).trans (frm_setCells vs (o + 1) (w.setCell ⟨b, o, none⟩ v)) (fun j _ t => t)

set_option maxRecDepth 100000 in
set_option maxHeartbeats 4000000 in
theorem read_any (c g len : Nat) (L : List Nat) (w : World) (h : Cur w c g len 2 len L) (hl : 23 ≤ len) :
    Calls Tryz.prog 50 #[.pointer (some ⟨c, 0, none⟩)] w fun e w' => e = .returned (.agg (rdN L).cells.toArray) ∧ Frm (fun k => k = c) w w' := by
  have hg : g < w.heap.size := by
    obtain ⟨_, _, e, _, _, hc⟩ := h.bts.cell 0 (by omega)
    have hx := block_lt_of_cell hc
    simp only [Option.some.injEq, Addr.mk.injEq, and_true] at e
    rw [e.1]
    exact hx
  have hc : c < w.heap.size := h.lt
  have HS := hide h.bts.small
  have HLE := hide h.bts.size
  have HLM := hide h.bts.most
  obtain ⟨W, hW, B0, B1, B2, D⟩ := box3 w [.pointer (some ⟨c, 0, none⟩)] 88 zN 33 zN 33
  obtain ⟨A, hA⟩ : ∃ A, w.heap.size = A := ⟨_, rfl⟩
  have HR : Hid (Rn w W w.heap.size (w.heap.size + 1) (w.heap.size + 2) c g len 2 L zN) := ⟨h.below D, B0, B1, B2, Frm.ofBelow D, hc, hg, Nat.le_refl _, by omega, by omega⟩
  obtain ⟨R, hR⟩ : ∃ R, w.heap.size + 1 = R := ⟨_, rfl⟩
  obtain ⟨n, hn⟩ : ∃ n, w.heap.size + 2 = n := ⟨_, rfl⟩
  rw [hR, hn, hA] at HR
  have HW := hide hW
  have HAA := hide hA
  have HRR := hide hR
  have HNN : Hid (R + 1 = n) := by unfold Hid; omega
  have HLL := hide hl
  have hmf : ∀ (fn : Fn) (first cap : Array Value) (w : World), (Instr.makeFunc fn first cap).run Tryz.prog w = .ok (.func fn first cap) w := fun _ _ _ _ => rfl
  clear h hg hc hW B0 B1 B2 D hR hn hA hl
  go_enter Tryz.func50, Tryz.ntmps50
  go_upto_region 3 with fail
  have hW := HW.out
  have hA := HAA.out
  have hR := HRR.out
  have hn := HNN.out
  unfold zN at hW
  simp only [hW, hR]
  simp only [hn]
  simp only [hA]
  clear hW hA hR hn HW HAA HRR HNN
  go_wp2_with fail
  refine Calls.mono (clo1_any A c g len 2 len L _ (HR.out.ptr.cell 0 rfl) HR.out.cur (by have := HLL.out; omega) HS.out) ?_
  rintro e w0 ⟨rfl, q1, q2⟩
  replace HR := hide (HR.out.call (p' := 3) q1 q2)
  clear q1 q2
  go_wp2_with fail
  refine Calls.mono (clo1_any A c g len 3 len L _ (HR.out.ptr.cell 0 rfl) HR.out.cur (by have := HLL.out; omega) HS.out) ?_
  rintro e w1 ⟨rfl, q1, q2⟩
  replace HR := hide (HR.out.call (p' := 4) q1 q2)
  clear q1 q2
  have g0 := HR.out.bN.cell 0 rfl
  have f0 := HR.out.bN.frozen 0
  have g1 := HR.out.bN.cell 1 rfl
  have f1 := HR.out.bN.frozen 1
  go_wp2_with fail
  replace HR := hide ((HR.out.set 0 (.int .i64 ((nbe (cut L 2 1) : Nat) : Int))).set 1 (.int .i64 ((nbe (cut L 3 1) : Nat) : Int)))
  clear g0 f0 g1 f1
  refine Calls.mono (clo4_any A c g len 4 len L _ (HR.out.ptr.cell 0 rfl) HR.out.cur (by have := HLL.out; omega) HS.out) ?_
  rintro e w2 ⟨rfl, q1, q2⟩
  replace HR := hide (HR.out.call (p' := 8) q1 q2)
  clear q1 q2
  go_wp2_with fail
  refine Calls.mono (clo4_any A c g len 8 len L _ (HR.out.ptr.cell 0 rfl) HR.out.cur (by have := HLL.out; omega) HS.out) ?_
  rintro e w3 ⟨rfl, q1, q2⟩
  replace HR := hide (HR.out.call (p' := 12) q1 q2)
  clear q1 q2
  go_wp2_with fail
  refine Calls.mono (clo4_any A c g len 12 len L _ (HR.out.ptr.cell 0 rfl) HR.out.cur (by have := HLL.out; omega) HS.out) ?_
  rintro e w4 ⟨rfl, q1, q2⟩
  replace HR := hide (HR.out.call (p' := 16) q1 q2)
  clear q1 q2
  have g2 := HR.out.bN.cell 2 rfl
  have f2 := HR.out.bN.frozen 2
  have g3 := HR.out.bN.cell 3 rfl
  have f3 := HR.out.bN.frozen 3
  have g4 := HR.out.bN.cell 4 rfl
  have f4 := HR.out.bN.frozen 4
  go_wp2_with fail
  replace HR := hide (((HR.out.set 2 (.int .i64 ((nbe (cut L 4 4) : Nat) : Int))).set 3 (.int .i64 ((nbe (cut L 8 4) : Nat) : Int))).set 4 (.int .i64 ((nbe (cut L 12 4) : Nat) : Int)))
  clear g2 f2 g3 f3 g4 f4
  refine Calls.mono (clo1_any A c g len 16 len L _ (HR.out.ptr.cell 0 rfl) HR.out.cur (by have := HLL.out; omega) HS.out) ?_
  rintro e w5 ⟨rfl, q1, q2⟩
  replace HR := hide (HR.out.call (p' := 17) q1 q2)
  clear q1 q2
  go_wp2_with fail
  refine Calls.mono (clo1_any A c g len 17 len L _ (HR.out.ptr.cell 0 rfl) HR.out.cur (by have := HLL.out; omega) HS.out) ?_
  rintro e w6 ⟨rfl, q1, q2⟩
  replace HR := hide (HR.out.call (p' := 18) q1 q2)
  clear q1 q2
  go_wp2_with fail
  refine Calls.mono (clo1_any A c g len 18 len L _ (HR.out.ptr.cell 0 rfl) HR.out.cur (by have := HLL.out; omega) HS.out) ?_
  rintro e w7 ⟨rfl, q1, q2⟩
  replace HR := hide (HR.out.call (p' := 19) q1 q2)
  clear q1 q2
  have g5 := HR.out.bN.cell 5 rfl
  have f5 := HR.out.bN.frozen 5
  have g6 := HR.out.bN.cell 6 rfl
  have f6 := HR.out.bN.frozen 6
  have g7 := HR.out.bN.cell 7 rfl
  have f7 := HR.out.bN.frozen 7
  go_wp2_with fail
  replace HR := hide (((HR.out.set 5 (.int .i64 ((nbe (cut L 16 1) : Nat) : Int))).set 6 (.int .i64 ((nbe (cut L 17 1) : Nat) : Int))).set 7 (.int .i64 ((nbe (cut L 18 1) : Nat) : Int)))
  clear g5 f5 g6 f6 g7 f7
  refine Calls.mono (clo4_any A c g len 19 len L _ (HR.out.ptr.cell 0 rfl) HR.out.cur (by have := HLL.out; omega) HS.out) ?_
  rintro e w8 ⟨rfl, q1, q2⟩
  replace HR := hide (HR.out.call (p' := 23) q1 q2)
  clear q1 q2
  have g8 := HR.out.bN.cell 8 rfl
  have f8 := HR.out.bN.frozen 8
  have wu : IntKind.u32.wrap ((nbe (cut L 19 4) : Nat) : Int) = ((nbe (cut L 19 4) : Nat) : Int) := by
    have := cut_lt HS.out 19 4
    rw [IntKind.wrap_u32]
    omega
  go_upto_region 7 with fail
  replace HR := hide (HR.out.set 8 (.int .u32 ((nbe (cut L 19 4) : Nat) : Int)))
  clear g8 f8 wu
  generalize w8.setCell ⟨n, 8, none⟩ (.int .u32 ((nbe (cut L 19 4) : Nat) : Int)) = W7 at *
  replace HR : Hid (Rn w W7 A R n c g len 23 L [.int .i64 ((nbe (cut L 2 1) : Nat) : Int), .int .i64 ((nbe (cut L 3 1) : Nat) : Int), .int .i64 ((nbe (cut L 4 4) : Nat) : Int), .int .i64 ((nbe (cut L 8 4) : Nat) : Int), .int .i64 ((nbe (cut L 12 4) : Nat) : Int), .int .i64 ((nbe (cut L 16 1) : Nat) : Int), .int .i64 ((nbe (cut L 17 1) : Nat) : Int), .int .i64 ((nbe (cut L 18 1) : Nat) : Int), .int .u32 ((nbe (cut L 19 4) : Nat) : Int), .string ⟨#[]⟩]) := HR
  replace HR := hide (HR.out.over (Below.refl _ W7).drew)
  have hp := HR.out.ptr.cell 0 rfl
  obtain ⟨z, hz⟩ : ∃ z, len - 23 = z := ⟨_, rfl⟩
  have HZ := hide hz
  have HC1 := hide (left_any c g len 23 len L _ HR.out.cur)
  rw [hz] at HC1
  clear hz
  have HA : Hid (∀ wz, Rn w wz A R n c g len 23 L [.int .i64 ((nbe (cut L 2 1) : Nat) : Int), .int .i64 ((nbe (cut L 3 1) : Nat) : Int), .int .i64 ((nbe (cut L 4 4) : Nat) : Int), .int .i64 ((nbe (cut L 8 4) : Nat) : Int), .int .i64 ((nbe (cut L 12 4) : Nat) : Int), .int .i64 ((nbe (cut L 16 1) : Nat) : Int), .int .i64 ((nbe (cut L 17 1) : Nat) : Int), .int .i64 ((nbe (cut L 18 1) : Nat) : Int), .int .u32 ((nbe (cut L 19 4) : Nat) : Int), .string ⟨#[]⟩] → wz.cell? ⟨A, 0, none⟩ = some (.pointer (some ⟨c, 0, none⟩))) := fun _ h => h.ptr.cell 0 rfl
  go_region_held3 (fun wz => wz.cell? ⟨A, 0, none⟩ = some (.pointer (some ⟨c, 0, none⟩))) (first | exact hp | exact hold2 | exact hold3) (first
    | (go_at_call 74; refine HC1.out.mono ?_; rintro e w20 ⟨rfl, hb2⟩; have HR2 := hide (HR.out.over hb2); have hold2 := HR2.out.ptr.cell 0 rfl; clear hb2)
    | (go_at_call 73; refine (raw_ok c g len 23 len L z _ HR2.out.cur (by have := HZ.out; omega)).mono ?_; rintro e w21 ⟨b, hb0, rfl, ho, hcu, hf⟩; have HR3 := hide (HR2.out.call hcu hf); have hold3 := HR3.out.ptr.cell 0 rfl; have HO := hide ho; clear hb0 ho hcu hf)
    | fail)
  have hcl : (cut L 23 z).length = z := by
    unfold cut
    rw [List.length_take, List.length_drop, HLE.out]
    have := HZ.out
    omega
  have hst := bts_string (HO.out.bts hcl (by have := HZ.out; have := HLM.out; omega) (fun c hc => HS.out c (List.mem_of_mem_drop (List.mem_of_mem_take hc))))
  have g9 := HR3.out.bN.cell 9 rfl
  have f9 := HR3.out.bN.frozen 9
  clear hold2 hold3 hp hcl HR HR2 HC1 HA HO
  go_upto_region 9 with fail
  replace HR3 := hide (HR3.out.set 9 (.string (str (cut L 23 z))))
  clear hst g9 f9
  generalize w21.setCell ⟨n, 9, none⟩ (.string (str (cut L 23 z))) = W8 at *
  replace HR3 : Hid (Rn w W8 A R n c g len (23 + z) L [.int .i64 ((nbe (cut L 2 1) : Nat) : Int), .int .i64 ((nbe (cut L 3 1) : Nat) : Int), .int .i64 ((nbe (cut L 4 4) : Nat) : Int), .int .i64 ((nbe (cut L 8 4) : Nat) : Int), .int .i64 ((nbe (cut L 12 4) : Nat) : Int), .int .i64 ((nbe (cut L 16 1) : Nat) : Int), .int .i64 ((nbe (cut L 17 1) : Nat) : Int), .int .i64 ((nbe (cut L 18 1) : Nat) : Int), .int .u32 ((nbe (cut L 19 4) : Nat) : Int), .string (str (cut L 23 z))]) := HR3
  have c0 := HR3.out.bN.cell 0 rfl
  have c1 := HR3.out.bN.cell 1 rfl
  have c2 := HR3.out.bN.cell 2 rfl
  have c3 := HR3.out.bN.cell 3 rfl
  have c4 := HR3.out.bN.cell 4 rfl
  have c5 := HR3.out.bN.cell 5 rfl
  have c6 := HR3.out.bN.cell 6 rfl
  have c7 := HR3.out.bN.cell 7 rfl
  have c8 := HR3.out.bN.cell 8 rfl
  have c9 := HR3.out.bN.cell 9 rfl
  have g0 := HR3.out.bR.cell 0 rfl
  have g1 := HR3.out.bR.cell 1 rfl
  have g2 := HR3.out.bR.cell 2 rfl
  have g3 := HR3.out.bR.cell 3 rfl
  have g4 := HR3.out.bR.cell 4 rfl
  have g5 := HR3.out.bR.cell 5 rfl
  have g6 := HR3.out.bR.cell 6 rfl
  have g7 := HR3.out.bR.cell 7 rfl
  have g8 := HR3.out.bR.cell 8 rfl
  have g9 := HR3.out.bR.cell 9 rfl
  have f0 := HR3.out.bR.frozen 0
  have f1 := HR3.out.bR.frozen 1
  have f2 := HR3.out.bR.frozen 2
  have f3 := HR3.out.bR.frozen 3
  have f4 := HR3.out.bR.frozen 4
  have f5 := HR3.out.bR.frozen 5
  have f6 := HR3.out.bR.frozen 6
  have f7 := HR3.out.bR.frozen 7
  have f8 := HR3.out.bR.frozen 8
  have f9 := HR3.out.bR.frozen 9
  have Q1 := hide (HR3.out.bR.sets [.int .i64 ((nbe (cut L 2 1) : Nat) : Int), .int .i64 ((nbe (cut L 3 1) : Nat) : Int), .int .i64 ((nbe (cut L 4 4) : Nat) : Int), .int .i64 ((nbe (cut L 8 4) : Nat) : Int), .int .i64 ((nbe (cut L 12 4) : Nat) : Int), .int .i64 ((nbe (cut L 16 1) : Nat) : Int), .int .i64 ((nbe (cut L 17 1) : Nat) : Int), .int .i64 ((nbe (cut L 18 1) : Nat) : Int), .int .u32 ((nbe (cut L 19 4) : Nat) : Int), .string (str (cut L 23 z))] rfl)
  have Q3 : Hid (Frm (fun k => k = c) w (W8.setCells R 0 [.int .i64 ((nbe (cut L 2 1) : Nat) : Int), .int .i64 ((nbe (cut L 3 1) : Nat) : Int), .int .i64 ((nbe (cut L 4 4) : Nat) : Int), .int .i64 ((nbe (cut L 8 4) : Nat) : Int), .int .i64 ((nbe (cut L 12 4) : Nat) : Int), .int .i64 ((nbe (cut L 16 1) : Nat) : Int), .int .i64 ((nbe (cut L 17 1) : Nat) : Int), .int .i64 ((nbe (cut L 18 1) : Nat) : Int), .int .u32 ((nbe (cut L 19 4) : Nat) : Int), .string (str (cut L 23 z))])) := HR3.out.frm.trans (frm_setCells [.int .i64 ((nbe (cut L 2 1) : Nat) : Int), .int .i64 ((nbe (cut L 3 1) : Nat) : Int), .int .i64 ((nbe (cut L 4 4) : Nat) : Int), .int .i64 ((nbe (cut L 8 4) : Nat) : Int), .int .i64 ((nbe (cut L 12 4) : Nat) : Int), .int .i64 ((nbe (cut L 16 1) : Nat) : Int), .int .i64 ((nbe (cut L 17 1) : Nat) : Int), .int .i64 ((nbe (cut L 18 1) : Nat) : Int), .int .u32 ((nbe (cut L 19 4) : Nat) : Int), .string (str (cut L 23 z))] 0 W8) (fun j hj t => by
    have h1 := HR3.out.a
    have h2 := HR3.out.r
    have h3 : j = R := t
    omega)
  have HX : Hid ((rdN L).cells = [.int .i64 ((nbe (cut L 2 1) : Nat) : Int), .int .i64 ((nbe (cut L 3 1) : Nat) : Int), .int .i64 ((nbe (cut L 4 4) : Nat) : Int), .int .i64 ((nbe (cut L 8 4) : Nat) : Int), .int .i64 ((nbe (cut L 12 4) : Nat) : Int), .int .i64 ((nbe (cut L 16 1) : Nat) : Int), .int .i64 ((nbe (cut L 17 1) : Nat) : Int), .int .i64 ((nbe (cut L 18 1) : Nat) : Int), .int .u32 ((nbe (cut L 19 4) : Nat) : Int), .string (str (cut L 23 z))]) := by
    unfold Hid rdN Nt.cells
    rw [HLE.out, HZ.out]
  clear HR3
  go_wp2
  obtain ⟨W9, hW9⟩ : ∃ W9, ((((((((((W8.setCell ⟨R, 0, none⟩ (.int .i64 ((nbe (cut L 2 1) : Nat) : Int))).setCell ⟨R, 1, none⟩ (.int .i64 ((nbe (cut L 3 1) : Nat) : Int))).setCell ⟨R, 2, none⟩ (.int .i64 ((nbe (cut L 4 4) : Nat) : Int))).setCell ⟨R, 3, none⟩ (.int .i64 ((nbe (cut L 8 4) : Nat) : Int))).setCell ⟨R, 4, none⟩ (.int .i64 ((nbe (cut L 12 4) : Nat) : Int))).setCell ⟨R, 5, none⟩ (.int .i64 ((nbe (cut L 16 1) : Nat) : Int))).setCell ⟨R, 6, none⟩ (.int .i64 ((nbe (cut L 17 1) : Nat) : Int))).setCell ⟨R, 7, none⟩ (.int .i64 ((nbe (cut L 18 1) : Nat) : Int))).setCell ⟨R, 8, none⟩ (.int .u32 ((nbe (cut L 19 4) : Nat) : Int))).setCell ⟨R, 9, none⟩ (.string (str (cut L 23 z)))) = W9 := ⟨_, rfl⟩
  simp only [hW9]
  rw [show World.setCells W8 R 0 [.int .i64 ((nbe (cut L 2 1) : Nat) : Int), .int .i64 ((nbe (cut L 3 1) : Nat) : Int), .int .i64 ((nbe (cut L 4 4) : Nat) : Int), .int .i64 ((nbe (cut L 8 4) : Nat) : Int), .int .i64 ((nbe (cut L 12 4) : Nat) : Int), .int .i64 ((nbe (cut L 16 1) : Nat) : Int), .int .i64 ((nbe (cut L 17 1) : Nat) : Int), .int .i64 ((nbe (cut L 18 1) : Nat) : Int), .int .u32 ((nbe (cut L 19 4) : Nat) : Int), .string (str (cut L 23 z))] = W9 from hW9] at Q1 Q3
  clear hW9
  have e0 := Q1.out.cell 0 rfl
  have e1 := Q1.out.cell 1 rfl
  have e2 := Q1.out.cell 2 rfl
  have e3 := Q1.out.cell 3 rfl
  have e4 := Q1.out.cell 4 rfl
  have e5 := Q1.out.cell 5 rfl
  have e6 := Q1.out.cell 6 rfl
  have e7 := Q1.out.cell 7 rfl
  have e8 := Q1.out.cell 8 rfl
  have e9 := Q1.out.cell 9 rfl
  refine bodyPost_ret (v := .agg #[.int .i64 ((nbe (cut L 2 1) : Nat) : Int), .int .i64 ((nbe (cut L 3 1) : Nat) : Int), .int .i64 ((nbe (cut L 4 4) : Nat) : Int), .int .i64 ((nbe (cut L 8 4) : Nat) : Int), .int .i64 ((nbe (cut L 12 4) : Nat) : Int), .int .i64 ((nbe (cut L 16 1) : Nat) : Int), .int .i64 ((nbe (cut L 17 1) : Nat) : Int), .int .i64 ((nbe (cut L 18 1) : Nat) : Int), .int .u32 ((nbe (cut L 19 4) : Nat) : Int), .string (str (cut L 23 z))]) (by simp [results, Tryz.results50, go_sem, e0, e1, e2, e3, e4, e5, e6, e7, e8, e9]) rfl ?_
  exact ⟨by rw [HX.out], Q3.out⟩
end Go.Proofs.YtdbciciljeainaaGreatDoor
