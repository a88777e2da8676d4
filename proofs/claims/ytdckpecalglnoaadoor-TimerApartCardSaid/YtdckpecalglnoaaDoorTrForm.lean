/-
  The document's Form and Sort.
-/
import Derived.Test.YtdckpecalglnoaaDoorTrRead
import Derived.Test.YtdckpecalglnoaaDoorTrList
import Derived.Test.YtdckpecalglnoaaDoorTimerOneWalk
namespace Go.Proofs.YtdckpecalglnoaaDoor
open Classical
open Go.RowKit
set_option linter.unusedVariables false
set_option linter.unusedSimpArgs false

theorem Nod.nodup {l : List Tm} (h : Nod l) : l.Nodup := (List.pairwise_map.1 (show (l.map Tm.proc).Pairwise (· ≠ ·) from h)).imp fun hab e => hab (by rw [e])
theorem rem_dT_mem {l : List Tm} (h : InR l 8) (hn : Nod l) {t : Tm} : t ∈ rem (dT l) ↔ t ∈ l := by
  rw [rem_mem]
  constructor
  · rintro ⟨i, hi, h1, rfl⟩
    rw [dT_find h hn hi] at h1 ⊢
    cases hf : findT l i with
    | none => rw [hf] at h1; exact absurd h1 (by decide)
    | some u =>
      obtain ⟨h2, h3⟩ := timerOne.findT_mem hf
      have : (⟨(i : Int), (some u).elim (-1) Tm.due⟩ : Tm) = u := by
        cases u
        simp at h3 ⊢
        exact h3.symm
      rw [this]
      exact h2
  · intro ht
    have hi := h t ht
    have h1 := hi.1
    have h2 := hi.2.1
    refine ⟨t.proc.toNat, by omega, ?_, ?_⟩
    all_goals
      rw [dT_find h hn (by omega), timerOne.findT_of hn ht (by omega)]
    · exact hi.2.2.1
    · cases t
      simp at h1 ⊢
      omega
theorem rem_dT {l : List Tm} (h : InR l 8) (hn : Nod l) : (rem (dT l)).Perm l := (List.perm_ext_iff_of_nodup (rem_nodup _) hn.nodup).2 fun t => rem_dT_mem h hn
theorem srt_dT {l : List Tm} (h : InR l 8) (hn : Nod l) : srt (rem (dT l)) = srt l := ord_unique (srt_ord _) (srt_ord _) ((srt_perm _).trans ((rem_dT h hn).trans (srt_perm _).symm))
theorem srt_self (l : List Tm) : decide (srt l = l) = decide (Ord l) := decide_eq_decide.2 ⟨fun h => by rw [← h]; exact srt_ord _, srt_of⟩
theorem sortE_ok {l : List Tm} (h1 : InR l 8) (h2 : Nod l) : sortE l = 0 := by
  unfold sortE
  rw [if_neg (by simpa using h1), if_neg (by simpa using h2)]
theorem rdD_form {l : List Tm} (h : Form l 8) : rdD l = dT l := by
  unfold rdD
  rw [if_pos (sortE_ok h.1 h.2.1)]
theorem D8.far8 {w : World} {g b : Nat} {D : Du} (h : D8 w g D) (hne : b ≠ g) (D' : Du) : D8 (Go.Proofs.YtdckpecalglnoaaDoor.set8 w b D') g D := (((((((h.far hne).far hne).far hne).far hne).far hne).far hne).far hne).far hne

theorem D8.all {w : World} {g : Nat} {D : Du} (h : D8 w g D) : w.cell? ⟨g, 0, none⟩ = some (.int .i64 (D 0)) ∧ w.cell? ⟨g, 1, none⟩ = some (.int .i64 (D 1)) ∧ w.cell? ⟨g, 2, none⟩ = some (.int .i64 (D 2)) ∧ w.cell? ⟨g, 3, none⟩ = some (.int .i64 (D 3)) ∧ w.cell? ⟨g, 4, none⟩ = some (.int .i64 (D 4)) ∧ w.cell? ⟨g, 5, none⟩ = some (.int .i64 (D 5)) ∧ w.cell? ⟨g, 6, none⟩ = some (.int .i64 (D 6)) ∧ w.cell? ⟨g, 7, none⟩ = some (.int .i64 (D 7)) :=
  ⟨h.c (by decide), h.c (by decide), h.c (by decide), h.c (by decide), h.c (by decide), h.c (by decide), h.c (by decide), h.c (by decide)⟩

set_option maxRecDepth 100000 in
set_option maxHeartbeats 1000000 in
theorem form_any (w : World) (a : Option Addr) (len cap : Nat) (l : List Tm) (hs : Tms w a len cap l) (hm : len ≤ 9223372036854775806) :
    Calls Tryd.prog 35 #[.slice a len cap] w fun e w' => ∃ v b, e = .returned (.tuple #[v, .bool b]) ∧ v = dv (rdD l) ∧ b = decide (Form l 8) ∧ Below w.heap.size w w' := by
  have HS := hide hs
  have hl := hs.size
  have HN := hide none_any
  have Z0 := hide (d8_zero w 71)
  have X0 := hide (new_below w (.cells #[.int .i64 0, .int .i64 0, .int .i64 0, .int .i64 0, .int .i64 0, .int .i64 0, .int .i64 0, .int .i64 0] 71))
  have hz0 : w.heap.size < (w.alloc (.cells #[.int .i64 0, .int .i64 0, .int .i64 0, .int .i64 0, .int .i64 0, .int .i64 0, .int .i64 0, .int .i64 0] 71)).heap.size := by simp
  clear hs
  go_enter Tryd.func35, Tryd.ntmps35
  go_wp2_with fail
  generalize w.alloc (.cells #[.int .i64 0, .int .i64 0, .int .i64 0, .int .i64 0, .int .i64 0, .int .i64 0, .int .i64 0, .int .i64 0] 71) = W0 at *
  refine Calls.mono (read_any W0 a len cap l (HS.out.below X0.out) hm) ?_
  rintro e w1 ⟨v1, c1, rfl, hv1, hc1, b1⟩
  have Z1 := Z0.out.below b1
  have X1 := chain X0.out b1
  have hz1 : w.heap.size < w1.heap.size := Nat.lt_of_lt_of_le hz0 b1.size
  have HRD := hide (rfl : rdD l = rdD l)
  obtain ⟨D, hD⟩ : ∃ D, rdD l = D := ⟨_, rfl⟩
  rw [hD] at hv1
  subst hv1
  have N1 := new_below w1 (.cells #[.int .i64 (D 0), .int .i64 (D 1), .int .i64 (D 2), .int .i64 (D 3), .int .i64 (D 4), .int .i64 (D 5), .int .i64 (D 6), .int .i64 (D 7)] 71)
  have Y2 := hide (d8_alloc w1 D 71)
  have Z2 := hide (Z1.below N1)
  have X2 := hide (chain X1 N1)
  have HD := hide hD
  clear b1 N1 Z1 X1 Z0 X0 hz0 HRD hD
  have hgn : w1.heap.size ≠ w.heap.size := by omega
  unfold dv
  by_cases h0 : sortE l = 0
  case neg =>
    have hc : (c1 != 0) = true := by rw [hc1]; simp; omega
    have HA : Hid (rdD l = noD ∧ decide (Form l 8) = false) := ⟨by unfold rdD; rw [if_neg h0], decide_eq_false (fun h => h0 (by unfold sortE; rw [if_neg (by simpa using h.1), if_neg (by simpa using h.2.1)]))⟩
    clear h0 hc1
    go_wp2_with fail
    generalize w1.alloc (.cells #[.int .i64 (D 0), .int .i64 (D 1), .int .i64 (D 2), .int .i64 (D 3), .int .i64 (D 4), .int .i64 (D 5), .int .i64 (D 6), .int .i64 (D 7)] 71) = W2 at *
    refine Calls.mono (HN.out _) ?_
    rintro e w5 ⟨rfl, b5⟩
    have hy5 := Z2.out.below b5
    have hb5 := chain X2.out b5
    clear b5
    have y0 := hy5.c (i := 0) (by decide)
    have y1 := hy5.c (i := 1) (by decide)
    have y2 := hy5.c (i := 2) (by decide)
    have y3 := hy5.c (i := 3) (by decide)
    have y4 := hy5.c (i := 4) (by decide)
    have y5 := hy5.c (i := 5) (by decide)
    have y6 := hy5.c (i := 6) (by decide)
    have y7 := hy5.c (i := 7) (by decide)
    have ff := hy5.f
    have Q8 := hide (hy5.set8 noD)
    have B8 := hide (set8_below hb5 (Nat.le_refl _) noD)
    unfold set8 at Q8 B8
    unfold dv
    clear hy5 hb5
    go_wp2
    generalize (((((((w5.setCell ⟨w.heap.size, 0, none⟩ (.int .i64 (noD 0))).setCell ⟨w.heap.size, 1, none⟩ (.int .i64 (noD 1))).setCell ⟨w.heap.size, 2, none⟩ (.int .i64 (noD 2))).setCell ⟨w.heap.size, 3, none⟩ (.int .i64 (noD 3))).setCell ⟨w.heap.size, 4, none⟩ (.int .i64 (noD 4))).setCell ⟨w.heap.size, 5, none⟩ (.int .i64 (noD 5))).setCell ⟨w.heap.size, 6, none⟩ (.int .i64 (noD 6))).setCell ⟨w.heap.size, 7, none⟩ (.int .i64 (noD 7)) = W9 at *
    have e0 := Q8.out.c (i := 0) (by decide)
    have e1 := Q8.out.c (i := 1) (by decide)
    have e2 := Q8.out.c (i := 2) (by decide)
    have e3 := Q8.out.c (i := 3) (by decide)
    have e4 := Q8.out.c (i := 4) (by decide)
    have e5 := Q8.out.c (i := 5) (by decide)
    have e6 := Q8.out.c (i := 6) (by decide)
    have e7 := Q8.out.c (i := 7) (by decide)
    (try simp only [Exit.inBlock, Exit.then])
    refine bodyPost_ret (v := .tuple #[dv noD, .bool false]) (by simp [results, Tryd.results35, go_sem, e0, e1, e2, e3, e4, e5, e6, e7, dv]) rfl ?_
    exact ⟨_, _, rfl, by rw [HA.out.1], by rw [HA.out.2], B8.out⟩
  have hc : (c1 != 0) = false := by rw [hc1, h0]; rfl
  have hin : InR l 8 := Classical.byContradiction fun h => by unfold sortE at h0; rw [if_pos h] at h0; simp at h0
  have hnd : Nod l := Classical.byContradiction fun h => by unfold sortE at h0; rw [if_neg (by simpa using hin), if_pos h] at h0; simp at h0
  have HDD : Hid (srt (rem D) = srt l) := by
    unfold Hid
    rw [← HD.out]
    unfold rdD
    rw [if_pos h0]
    exact srt_dT hin hnd
  have HFO : Hid (decide (srt l = l) = decide (Form l 8)) := by
    unfold Hid
    rw [srt_self]
    exact decide_eq_decide.2 ⟨fun h => ⟨hin, hnd, h⟩, fun h => h.2.2⟩
  have h8 := hnd.few hin
  have hs8 := srt_len l
  have HL := hide (fun W => list_any D W)
  clear h0 hc1 hin hnd
  go_wp2_with fail
  obtain ⟨G, hG⟩ : ∃ G, G = w1.heap.size := ⟨_, rfl⟩
  rw [← hG] at Y2 hgn ⊢
  generalize w1.alloc (.cells #[.int .i64 (D 0), .int .i64 (D 1), .int .i64 (D 2), .int .i64 (D 3), .int .i64 (D 4), .int .i64 (D 5), .int .i64 (D 6), .int .i64 (D 7)] 71) = W2 at *
  clear hG
  unfold dv at HL
  obtain ⟨q0, q1, q2, q3, q4, q5, q6, q7⟩ := Y2.out.all
  have K2 := hide (show _ from (show D8 W2.drew G D from ⟨⟨Y2.out.bl.cell, Y2.out.bl.free⟩, Y2.out.lt⟩).all)
  have ff := Z2.out.f
  have HSS := hide (fun (W : World) (b : Below W2.heap.size W2 W) => HS.out.below (chain X2.out b))
  have HFB := hide (fun (W : World) (b : Below W2.heap.size W2 W) => And.intro (Z2.out.below b) (chain X2.out b))
  obtain ⟨bf, hbf⟩ : ∃ bf, decide (srt l = l) = bf := ⟨_, rfl⟩
  have HBF := hide hbf
  clear hbf
  refine wp_region_held_drew (S := fun wz => wz.cell? ⟨G, 0, none⟩ = some (.int .i64 (D 0)) ∧ wz.cell? ⟨G, 1, none⟩ = some (.int .i64 (D 1)) ∧ wz.cell? ⟨G, 2, none⟩ = some (.int .i64 (D 2)) ∧ wz.cell? ⟨G, 3, none⟩ = some (.int .i64 (D 3)) ∧ wz.cell? ⟨G, 4, none⟩ = some (.int .i64 (D 4)) ∧ wz.cell? ⟨G, 5, none⟩ = some (.int .i64 (D 5)) ∧ wz.cell? ⟨G, 6, none⟩ = some (.int .i64 (D 6)) ∧ wz.cell? ⟨G, 7, none⟩ = some (.int .i64 (D 7))) (by kernel_rfl) K2.out (fun hHeld => ?_)
  refine wpAnyH_take (i := 0) (oi := { dst := some 14, op := Op.load 71 (Operand.tmp 4), type := 71, pos := "ref.go:84", after := #[], guard := none }) (v := ?_) rfl (by kernel_rfl) (by kernel_rfl) (by kernel_rfl) (fun _ _ _ h => h) (Or.inl ⟨by rfl, ?_⟩) (by assumption) ?_
  rotate_left
  · intro w hSw
    try dsimp only at hSw
    go_simp
    try with_reducible rfl
  simp only [Act.put, List.setIfInBounds_toArray, List.set_cons_zero, List.set_cons_succ]
  refine wpAnyH_take (i := 1) (oi := { dst := some 15, op := Op.load 71 (Operand.tmp 4), type := 71, pos := "ref.go:84", after := #[], guard := none }) (v := ?_) rfl (by kernel_rfl) (by kernel_rfl) (by kernel_rfl) (fun _ _ _ h => h) (Or.inl ⟨by rfl, ?_⟩) (by assumption) ?_
  rotate_left
  · intro w hSw
    try dsimp only at hSw
    go_simp
    try with_reducible rfl
  simp only [Act.put, List.setIfInBounds_toArray, List.set_cons_zero, List.set_cons_succ]
  refine wpAnyH_take (i := 3) (oi := { dst := some 17, op := Op.move (Operand.tmp 0), type := 22, pos := "ref.go:84", after := #[], guard := none }) (v := ?_) rfl (by kernel_rfl) (by kernel_rfl) (by kernel_rfl) (fun _ _ _ h => h) (Or.inl ⟨by rfl, ?_⟩) (by assumption) ?_
  rotate_left
  · intro w hSw
    try dsimp only at hSw
    go_simp
    try with_reducible rfl
  simp only [Act.put, List.setIfInBounds_toArray, List.set_cons_zero, List.set_cons_succ]
  refine wpAnyH_ready (rs := [2]) (by kernel_rfl) (by simp) ?_
  refine AllReadyH.cons (o := { dst := some 16, op := Op.call { callee := Callee.value (Operand.func 36), args := #[Operand.tmp 15], argTypes := #[71] }, type := 22, pos := "ref.go:84", after := #[{ on := 1, ground := Ground.data }], guard := none }) rfl (fun K hK => ?_) AllReadyH.nil
  go_simp
  go_at_call 36
  refine (HL.out _).mono ?_
  rintro e w3 ⟨v3, rfl, h3, b3⟩
  rw [HDD.out] at h3
  obtain ⟨a3, c3, rfl, t3⟩ := town_tms h3
  rw [hs8, hl] at t3 ⊢
  have T3 := hide t3
  have B3 := hide (show Below W2.heap.size W2 w3 from chain ((Below.refl _ _).drew) b3)
  have Y3 := hide (Y2.out.below B3.out)
  clear h3 b3 t3
  try go_wp2_with fail
  refine hK.out _ _ Y3.out.all (fun hHeld2 => ?_)
  clear hK K hHeld
  try simp only [Act.put, List.setIfInBounds_toArray, List.set_cons_zero, List.set_cons_succ]
  refine wpAnyH_ready (rs := [4]) (by kernel_rfl) (by simp) ?_
  refine AllReadyH.cons (o := { dst := some 18, op := Op.call { callee := Callee.value (Operand.func 14), args := #[Operand.tmp 16, Operand.tmp 17], argTypes := #[22, 22] }, type := 4, pos := "ref.go:84", after := #[{ on := 2, ground := Ground.data }, { on := 3, ground := Ground.data }, { on := 2, ground := Ground.chain }], guard := none }) rfl (fun K hK => ?_) AllReadyH.nil
  go_simp
  go_at_call 14
  refine (same_any a3 a _ _ c3 cap _ _ T3.out (HSS.out _ B3.out) (by omega) (by omega)).mono ?_
  rintro e w4 ⟨rfl, b4⟩
  rw [HBF.out]
  have B4 := hide (chain B3.out b4)
  have Y4 := hide (Y3.out.below b4)
  obtain ⟨hy5, hb5⟩ := HFB.out w4 B4.out
  obtain ⟨y0, y1, y2, y3, y4, y5, y6, y7⟩ := hy5.all
  have gg := hy5.f
  have Q8 := hide (hy5.set8 D)
  have BX := hide (set8_below hb5 (Nat.le_refl _) D)
  have Y5 := hide (Y4.out.far8 (Ne.symm hgn) D)
  unfold set8 at Q8 BX Y5
  clear hy5 hb5 b4
  try go_wp2_with fail
  refine hK.out _ _ Y4.out.all (fun hHeld3 => ?_)
  clear hK K hHeld2
  try simp only [Act.put, List.setIfInBounds_toArray, List.set_cons_zero, List.set_cons_succ]
  refine wpAnyH_ready (rs := [5]) (by kernel_rfl) (by simp) ?_
  refine AllReadyH.cons (o := { dst := none, op := Op.store 71 (Operand.tmp 2) (Operand.tmp 14), type := 0, pos := "ref.go:84", after := #[{ on := 0, ground := Ground.data }, { on := 4, ground := Ground.chain }, { on := 0, ground := Ground.phase }, { on := 1, ground := Ground.textOnly Departure.lateStores }, { on := 2, ground := Ground.textOnly Departure.lateStoresUnsure }, { on := 3, ground := Ground.textOnly Departure.lateStores }, { on := 4, ground := Ground.textOnly Departure.lateStoresUnsure }], guard := none }) rfl (fun K hK => ?_) AllReadyH.nil
  clear hHeld3
  go_simp
  refine hK.out _ _ Y5.out.all (fun hHeld4 => ?_)
  clear hK K
  try simp only [Act.put, List.setIfInBounds_toArray, List.set_cons_zero, List.set_cons_succ]
  refine wpAnyH_take (i := 6) (oi := { dst := some 3, op := Op.assign (Operand.tmp 18), type := 4, pos := "ref.go:84", after := #[{ on := 4, ground := Ground.data }, { on := 5, ground := Ground.chain }, { on := 0, ground := Ground.phase }, { on := 1, ground := Ground.phase }, { on := 2, ground := Ground.phase }, { on := 3, ground := Ground.phase }, { on := 4, ground := Ground.phase }, { on := 5, ground := Ground.phase }], guard := none }) (v := ?_) rfl (by kernel_rfl) (by kernel_rfl) (by kernel_rfl) (fun _ _ _ h => h) (Or.inl ⟨by rfl, ?_⟩) (by assumption) ?_
  rotate_left
  · intro w hSw
    try dsimp only at hSw
    go_simp
    try with_reducible rfl
  simp only [Act.put, List.setIfInBounds_toArray, List.set_cons_zero, List.set_cons_succ]
  refine wpAnyH_done (by kernel_rfl) ?_ _
  clear hHeld4
  generalize (((((((w4.setCell ⟨w.heap.size, 0, none⟩ (.int .i64 (D 0))).setCell ⟨w.heap.size, 1, none⟩ (.int .i64 (D 1))).setCell ⟨w.heap.size, 2, none⟩ (.int .i64 (D 2))).setCell ⟨w.heap.size, 3, none⟩ (.int .i64 (D 3))).setCell ⟨w.heap.size, 4, none⟩ (.int .i64 (D 4))).setCell ⟨w.heap.size, 5, none⟩ (.int .i64 (D 5))).setCell ⟨w.heap.size, 6, none⟩ (.int .i64 (D 6))).setCell ⟨w.heap.size, 7, none⟩ (.int .i64 (D 7)) = W9 at *
  go_wp2
  have e0 := Q8.out.c (i := 0) (by decide)
  have e1 := Q8.out.c (i := 1) (by decide)
  have e2 := Q8.out.c (i := 2) (by decide)
  have e3 := Q8.out.c (i := 3) (by decide)
  have e4 := Q8.out.c (i := 4) (by decide)
  have e5 := Q8.out.c (i := 5) (by decide)
  have e6 := Q8.out.c (i := 6) (by decide)
  have e7 := Q8.out.c (i := 7) (by decide)
  (try simp only [Exit.inBlock, Exit.then])
  refine bodyPost_ret (v := .tuple #[dv D, .bool bf]) (by simp [results, Tryd.results35, go_sem, e0, e1, e2, e3, e4, e5, e6, e7, dv]) rfl ?_
  exact ⟨_, _, rfl, by rw [HD.out], by rw [← HFO.out, HBF.out], BX.out⟩
end Go.Proofs.YtdckpecalglnoaaDoor
