/-
  The program's Send, Look, Take, Drop, Copy, Trim, Made.
-/
import Derived.Test.YtgnkmenjjmfcfaaDoorLkFns
import Derived.Deep.CutRange
namespace Go.Proofs.YtgnkmenjjmfcfaaDoor
open Go.RowKit FerryCrc Q
set_option linter.unusedVariables false
set_option linter.unusedSimpArgs false

def Lt.a (x : Lt) : Value := .agg #[.int .i64 x.f, .int .i64 x.t, .string x.s]
theorem fE_le (L : Lk) (k : Int) : fE L k ≤ 17 := by unfold fE; split <;> omega
theorem fE_case (L : Lk) (k : Int) : (fE L k = 17 ∧ L.M k = none ∧ fv L k = zLt) ∨ (fE L k = 0 ∧ (L.M k).isSome = true ∧ L.M k = some (fv L k)) := by
  unfold fE fv
  cases L.M k with
  | none => exact .inl ⟨rfl, rfl, rfl⟩
  | some x => exact .inr ⟨rfl, rfl, rfl⟩
theorem put3 {w : World} {q : Nat} {cs : List Value} {ty : TypeId} (hb : Bk w q cs ty) (hl : cs.length = 3) (f t : Int) (s : ByteArray) : ∃ W, ((w.setCell ⟨q, 0, none⟩ (.int .i64 f)).setCell ⟨q, 1, none⟩ (.int .i64 t)).setCell ⟨q, 2, none⟩ (.string s) = W ∧ Bk W q [.int .i64 f, .int .i64 t, .string s] ty ∧ ∀ B a, B ≤ q → Below B a w → Below B a W :=
  ⟨_, rfl, hb.sets [.int .i64 f, .int .i64 t, .string s] hl, fun B a h1 h2 => below_sets h1 [.int .i64 f, .int .i64 t, .string s] 0 h2⟩
/-- What Send says, and what it leaves. -/
def sOk (f t : Int) : Bool := (f == 0 && t == 1) || (f == 1 && t == 0)
def sE (f t : Int) (s : ByteArray) : Nat := if sOk f t then (if s.size = 0 ∨ 4096 < s.size then 11 else 0) else 12
def sL (L : Lk) (f t : Int) (s : ByteArray) : Lk := if sE f t s = 0 then ⟨L.n + 1, setM L.M ((L.n : Int) + 1) (some ⟨f, t, s, false⟩)⟩ else L
def sN (L : Lk) (f t : Int) (s : ByteArray) : Int := if sE f t s = 0 then (L.n : Int) + 1 else 0
theorem bel_drewN (w : World) (n : Nat) : Below w.heap.size w (w.drewN n) := ⟨rfl, rfl, rfl, Nat.le_refl _, fun _ _ => rfl⟩
theorem made_any {lb mb : Nat} {L : Lk} {w : World} (h : LAt w lb mb L) : Calls Tryd.prog 16 #[.pointer (some ⟨lb, 0, none⟩)] w fun e w' => e = .returned (.int .i64 (L.n : Int)) ∧ w' = w := by
  have c0 := h.bk.cell 0 rfl
  go_enter Tryd.func16, Tryd.ntmps16
  go_wp2
  go_ret
  exact ⟨rfl, rfl⟩
set_option maxRecDepth 100000 in
set_option maxHeartbeats 2000000 in
theorem send_any {lb mb : Nat} {L : Lk} (f t : Int) (s : ByteArray) (hn : L.n ≤ 4611686018427387904) (hs : s.size ≤ 9223372036854775807) {w : World} {E : Nat → Addr} (h : LAt w lb mb L) (h12 : w.cell? ⟨0, 0, none⟩ = some (sent (E 12))) (h11 : w.cell? ⟨1, 0, none⟩ = some (sent (E 11))) :
    Calls Tryd.prog 10 #[.pointer (some ⟨lb, 0, none⟩), .agg #[.int .i64 f, .int .i64 t, .string s]] w fun e w' => e = .returned (.tuple #[.int .i64 (sN L f t s), erv E (sE f t s)]) ∧ LAt w' lb mb (sL L f t s) ∧ Frm (TwoB lb mb) w w' := by
  obtain ⟨W, hW, B0, D0⟩ := box1 w [.int .i64 f, .int .i64 t, .string s] 41
  obtain ⟨q, hq⟩ : ∃ q, w.heap.size = q := ⟨_, rfl⟩
  rw [hq] at B0
  have HB0 := hide B0
  have HD := hide D0
  have HWD := hide hW
  have HQ := hide hq
  have HL := hide (h.below D0)
  have H12 := hide (cell_below h12 D0)
  have H11 := hide (cell_below h11 D0)
  have HS := hide hs
  clear B0 D0 hW hq h h12 h11 hs
  go_enter Tryd.func10, Tryd.ntmps10
  go_upto_region 1 with fail
  have hW := HWD.out
  have hq := HQ.out
  clear HWD HQ
  simp only [hW, hq]
  clear hW hq
  have c0 := HB0.out.cell 0 rfl
  have c1 := HB0.out.cell 1 rfl
  have c2 := HB0.out.cell 2 rfl
  obtain ⟨b, hb⟩ : ∃ b, sOk f t = b := ⟨_, rfl⟩
  go_cut [24] from 6 to 24 (fun v wz => v = .bool (!b) ∧ wz = W)
  case first =>
    by_cases a0 : f = 0 <;> by_cases a1 : f = 1 <;> by_cases b0 : t = 0 <;> by_cases b1 : t = 1
    all_goals (simp only [sOk, a0, a1, b0, b1, beq_self_eq_true, beq_iff_eq, decide_eq_true_eq] at hb)
    all_goals first | (exfalso; omega) | skip
    all_goals (subst_vars; go_wp2; go_meet; (case rel => first | exact ⟨rfl, rfl⟩ | exact ⟨by simp_all, rfl⟩))
  case rest =>
  obtain ⟨rfl, hwc⟩ := hcut
  obtain ⟨W1, hw⟩ : ∃ z, z = wc := ⟨_, rfl⟩
  subst hw
  subst hwc
  have HBB := hide hb
  clear hb c0 c1 c2
  cases b with
  | false =>
    have e12 := H12.out
    unfold sent at e12
    go_upto_region 2 with fail
    go_quiet (fail)
    go_wp2
    refine bodyPost_ret (v := .tuple #[.int .i64 0, .iface 148 (.pointer (some (E 12)))]) (by simp [results, Tryd.results10, go_sem]) rfl ?_
    have he : sE f t s = 12 := by unfold sE; rw [HBB.out]; rfl
    have hn9 : sN L f t s = 0 := by unfold sN; rw [he]; rfl
    have hl9 : sL L f t s = L := by unfold sL; rw [he]; rfl
    rw [he, hn9, hl9]
    exact ⟨rfl, HL.out.below (bel_drewN _ _), Frm.ofBelow (chain HD.out (bel_drewN _ _))⟩
  | true =>
    have c2 := HB0.out.cell 2 rfl
    have hsz := HS.out
    obtain ⟨n, hn0⟩ : ∃ n : Nat, s.size = n := ⟨_, rfl⟩
    have HSN := hide hn0
    rw [hn0] at hsz
    by_cases h0 : n = 0
    · subst h0
      have e11 := H11.out
      unfold sent at e11
      go_upto_region 4 with fail
      go_quiet (fail)
      go_wp2
      refine bodyPost_ret (v := .tuple #[.int .i64 0, .iface 148 (.pointer (some (E 11)))]) (by simp [results, Tryd.results10, go_sem]) rfl ?_
      have he : sE f t s = 11 := by unfold sE; rw [HBB.out, HSN.out]; rfl
      have hn9 : sN L f t s = 0 := by unfold sN; rw [he]; rfl
      have hl9 : sL L f t s = L := by unfold sL; rw [he]; rfl
      rw [he, hn9, hl9]
      exact ⟨rfl, HL.out.below (bel_drewN _ _), Frm.ofBelow (chain HD.out (bel_drewN _ _))⟩
    · have q0 : ((n : Int) == 0) = false := by simp; omega
      by_cases h4 : 4096 < n
      · have q1 : (4096 : Int) < (n : Int) := by omega
        have e11 := H11.out
        unfold sent at e11
        go_upto_region 4 with fail
        go_quiet (fail)
        go_wp2
        refine bodyPost_ret (v := .tuple #[.int .i64 0, .iface 148 (.pointer (some (E 11)))]) (by simp [results, Tryd.results10, go_sem]) rfl ?_
        have he : sE f t s = 11 := by unfold sE; rw [HBB.out, HSN.out, if_pos rfl, if_pos (.inr h4)]
        have hn9 : sN L f t s = 0 := by unfold sN; rw [he]; rfl
        have hl9 : sL L f t s = L := by unfold sL; rw [he]; rfl
        rw [he, hn9, hl9]
        exact ⟨rfl, HL.out.below (bel_drewN _ _), Frm.ofBelow (chain HD.out (bel_drewN _ _))⟩
      · have q1 : ¬ (4096 : Int) < (n : Int) := by omega
        have c0 := HB0.out.cell 0 rfl
        have c1 := HB0.out.cell 1 rfl
        go_upto_region 5 with fail
        go_wp2_with fail
        refine Calls.mono (add_any f t s false (by rw [HSN.out]; omega) hn HL.out) ?_
        rintro e W2 ⟨rfl, hl2, hf2⟩
        have H1 := hide hl2
        have H2 := hide hf2
        clear hl2 hf2 c0 c1 c2
        go_wp2
        go_ret2
        have he : sE f t s = 0 := by unfold sE; rw [HBB.out, HSN.out, if_pos rfl, if_neg (by omega)]
        have hn9 : sN L f t s = (L.n : Int) + 1 := by unfold sN; rw [he]; rfl
        have hl9 : sL L f t s = ⟨L.n + 1, setM L.M ((L.n : Int) + 1) (some ⟨f, t, s, false⟩)⟩ := by unfold sL; rw [he]; rfl
        rw [he, hn9, hl9]
        exact ⟨rfl, H1.out, (Frm.ofBelow HD.out).trans H2.out (fun _ _ h => h)⟩
end Go.Proofs.YtgnkmenjjmfcfaaDoor
