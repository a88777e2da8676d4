/-
  The document's Read.
-/
import Derived.Test.YtdckpecalglnoaaDoorTrBase
namespace Go.Proofs.YtdckpecalglnoaaDoor
open Classical
open Go.RowKit
set_option linter.unusedVariables false
set_option linter.unusedSimpArgs false

/-- The dues that Read answers. -/
def rdD (l : List Tm) [Decidable (InR l 8)] [Decidable (Nod l)] : Du := if sortE l = 0 then dT l else noD
abbrev zs8 : Array Value := #[.int .i64 0, .int .i64 0, .int .i64 0, .int .i64 0, .int .i64 0, .int .i64 0, .int .i64 0, .int .i64 0]
theorem InR.take {l : List Tm} {n : Int} (h : InR l n) (k : Nat) : InR (l.take k) n := fun t ht => h t (List.mem_of_mem_take ht)

set_option maxRecDepth 100000 in
set_option maxHeartbeats 4000000 in
theorem read_any (w : World) (a : Option Addr) (len cap : Nat) (l : List Tm) (hs : Tms w a len cap l) (hm : len ≤ 9223372036854775806) :
    Calls Tryd.prog 37 #[.slice a len cap] w fun e w' => ∃ v c, e = .returned (.tuple #[v, .int .i64 c]) ∧ v = dv (rdD l) ∧ c = (sortE l : Int) ∧ Below w.heap.size w w' := by
  have HS := hide hs
  have hl := hs.size
  have HN := hide none_any
  have Z0 := hide (d8_zero w 71)
  have X0 := hide (new_below w (.cells #[.int .i64 0, .int .i64 0, .int .i64 0, .int .i64 0, .int .i64 0, .int .i64 0, .int .i64 0, .int .i64 0] 71))
  clear hs
  go_enter Tryd.func37, Tryd.ntmps37
  go_wp2_with fail
  have hz0 : w.heap.size < (w.alloc (.cells #[.int .i64 0, .int .i64 0, .int .i64 0, .int .i64 0, .int .i64 0, .int .i64 0, .int .i64 0, .int .i64 0] 71)).heap.size := by simp
  generalize w.alloc (.cells #[.int .i64 0, .int .i64 0, .int .i64 0, .int .i64 0, .int .i64 0, .int .i64 0, .int .i64 0, .int .i64 0] 71) = W0 at *
  refine Calls.mono (HN.out _) ?_
  rintro e w1 ⟨rfl, b1⟩
  have Z1 := hide (Z0.out.below b1)
  have X1 := hide (chain X0.out b1)
  have hz1 : w.heap.size < w1.heap.size := Nat.lt_of_lt_of_le hz0 b1.size
  clear b1 Z0 X0 hz0
  have Y1 := hide (d8_alloc w1 noD 71)
  have N1 := new_below w1 (.cells #[.int .i64 (noD 0), .int .i64 (noD 1), .int .i64 (noD 2), .int .i64 (noD 3), .int .i64 (noD 4), .int .i64 (noD 5), .int .i64 (noD 6), .int .i64 (noD 7)] 71)
  have Z2 := hide (Z1.out.below N1)
  have X2 := hide (chain X1.out N1)
  clear N1
  unfold dv
  go_wp2
  obtain ⟨G, hG⟩ : ∃ G, G = w1.heap.size := ⟨_, rfl⟩
  rw [← hG] at Y1 hz1 ⊢
  generalize w1.alloc (.cells #[.int .i64 (noD 0), .int .i64 (noD 1), .int .i64 (noD 2), .int .i64 (noD 3), .int .i64 (noD 4), .int .i64 (noD 5), .int .i64 (noD 6), .int .i64 (noD 7)] 71) = W2 at *
  clear hG Z1 X1
  go_loopw [5, 6] (fun o i wr => ∃ k : Nat, k ≤ len ∧ i = .int .i64 (k : Int) ∧ o = .bool (!decide (Nod (l.take k))) ∧ Hid (InR (l.take k) 8) ∧ Hid (D8 wr G (dT (l.take k))) ∧ Hid (D8 wr w.heap.size (fun _ => 0)) ∧ Hid (Below w.heap.size w wr)) (fun _ i _ => len - (intOf i).toNat)
  case atStart => exact ⟨0, by omega, rfl, by simp [Nod], fun t ht => by simp at ht, Y1.out, Z2.out, X2.out⟩
  case round =>
    obtain ⟨k, hk, rfl, rfl, hin, hd, hy, hb⟩ := hrel
    by_cases hlt : k < len
    · obtain ⟨t, ht⟩ : ∃ p, l[k]? = some p := ⟨_, List.getElem?_eq_getElem (by rw [hl]; exact hlt)⟩
      obtain ⟨b, off, rfl, hr⟩ := (HS.out.below hb.out).at tm2 (by decide) ht
      have r0 := hr 0 _ rfl
      have r1 := hr 1 _ rfl
      simp only [Nat.add_zero] at r0
      have N3 := new_below wr (.cells #[.int .i64 t.proc, .int .i64 t.due] 48)
      have HTK : Hid (l.take (k + 1) = l.take k ++ [t]) := by unfold Hid; rw [List.take_add_one, ht]; rfl
      have HDT := hide (dT_take l ht)
      have HM := hide (List.mem_of_getElem? ht)
      have hkk : (k : Int) < (len : Int) := by omega
      clear hr ht
      by_cases hti : t.In 8
      case neg =>
        have HA : Hid (sortE l = 4 ∧ rdD l = noD) := by
          have e : sortE l = 4 := by unfold sortE; rw [if_pos (fun h => hti (h t HM.out))]
          exact ⟨e, by unfold rdD; rw [e]; rfl⟩
        have Y3 := hide (hy.out.below N3)
        have B3 := hide (chain hb.out N3)
        generalize hND : decide (Nod (l.take k)) = nd at *
        have hfin : ∀ (W : World), Below (wr.alloc (.cells #[.int .i64 t.proc, .int .i64 t.due] 48)).heap.size (wr.alloc (.cells #[.int .i64 t.proc, .int .i64 t.due] 48)) W → D8 W w.heap.size (fun _ => 0) ∧ Below w.heap.size w W := fun W h => ⟨Y3.out.below h, chain B3.out h⟩
        have HFI := hide hfin
        clear hfin hND N3
        have hcase : t.proc < 0 ∨ (¬ t.proc < 0 ∧ 8 ≤ t.proc) ∨ (¬ t.proc < 0 ∧ ¬ 8 ≤ t.proc ∧ t.due < 0) ∨ (¬ t.proc < 0 ∧ ¬ 8 ≤ t.proc ∧ ¬ t.due < 0 ∧ 1010000 < t.due) := by
          unfold Tm.In at hti
          omega
        clear hti
        rcases hcase with h1 | ⟨h1, h2⟩ | ⟨h1, h2, h3⟩ | ⟨h1, h2, h3, h4⟩
        all_goals
          first
          | have d1 : decide (t.proc < 0) = true := decide_eq_true h1
          | have d1 : decide (t.proc < 0) = false := decide_eq_false h1
          (try first
            | have d2 : decide (8 ≤ t.proc) = true := decide_eq_true h2
            | have d2 : decide (8 ≤ t.proc) = false := decide_eq_false h2)
          (try first
            | have d3 : decide (t.due < 0) = true := decide_eq_true h3
            | have d3 : decide (t.due < 0) = false := decide_eq_false h3)
          (try have d4 : decide (1010000 < t.due) = true := decide_eq_true h4)
          (try clear h4)
          (try clear h3)
          (try clear h2)
          clear h1
          go_wp2_with fail
          refine Calls.mono (HN.out _) ?_
          rintro e w5 ⟨rfl, b5⟩
          obtain ⟨hy5, hb5⟩ := HFI.out w5 b5
          clear b5
          have y0 := hy5.c (i := 0) (by decide)
          have y1 := hy5.c (i := 1) (by decide)
          have y2 := hy5.c (i := 2) (by decide)
          have y3 := hy5.c (i := 3) (by decide)
          have y4 := hy5.c (i := 4) (by decide)
          have y5 := hy5.c (i := 5) (by decide)
          have y6 := hy5.c (i := 6) (by decide)
          have y7 := hy5.c (i := 7) (by decide)
          have ff := hy5.f
          have Q8 := hide (hy5.set8 noD)
          have B8 := hide (set8_below hb5 (Nat.le_refl _) noD)
          unfold set8 at Q8 B8
          unfold dv
          clear hy5 hb5
          go_wp2
          generalize (((((((w5.setCell ⟨w.heap.size, 0, none⟩ (.int .i64 (noD 0))).setCell ⟨w.heap.size, 1, none⟩ (.int .i64 (noD 1))).setCell ⟨w.heap.size, 2, none⟩ (.int .i64 (noD 2))).setCell ⟨w.heap.size, 3, none⟩ (.int .i64 (noD 3))).setCell ⟨w.heap.size, 4, none⟩ (.int .i64 (noD 4))).setCell ⟨w.heap.size, 5, none⟩ (.int .i64 (noD 5))).setCell ⟨w.heap.size, 6, none⟩ (.int .i64 (noD 6))).setCell ⟨w.heap.size, 7, none⟩ (.int .i64 (noD 7)) = W9 at *
          have e0 := Q8.out.c (i := 0) (by decide)
          have e1 := Q8.out.c (i := 1) (by decide)
          have e2 := Q8.out.c (i := 2) (by decide)
          have e3 := Q8.out.c (i := 3) (by decide)
          have e4 := Q8.out.c (i := 4) (by decide)
          have e5 := Q8.out.c (i := 5) (by decide)
          have e6 := Q8.out.c (i := 6) (by decide)
          have e7 := Q8.out.c (i := 7) (by decide)
          (try simp only [Exit.inBlock, Exit.then])
          refine bodyPost_ret (v := .tuple #[dv noD, .int .i64 4]) (by simp [results, Tryd.results37, go_sem, e0, e1, e2, e3, e4, e5, e6, e7, dv]) rfl ?_
          exact ⟨_, _, rfl, by rw [HA.out.2], by rw [HA.out.1]; rfl, B8.out⟩
      obtain ⟨p, hp⟩ : ∃ p : Nat, t.proc = (p : Int) := ⟨t.proc.toNat, by have := hti.1; omega⟩
      have hp8 : p < 8 := by have := hti.2.1; omega
      have d1 : decide (t.proc < 0) = false := decide_eq_false (by have := hti.1; omega)
      have d2 : decide (8 ≤ t.proc) = false := decide_eq_false (by have := hti.2.1; omega)
      have d3 : decide (t.due < 0) = false := decide_eq_false (by have := hti.2.2.1; omega)
      have d4 : decide (1010000 < t.due) = false := decide_eq_false (by have := hti.2.2.2; omega)
      have HIN2 : Hid (InR (l.take (k + 1)) 8) := by
        unfold Hid
        rw [HTK.out]
        intro u hu
        rcases List.mem_append.1 hu with hu | hu
        · exact hin.out u hu
        · rw [List.mem_singleton.1 hu]; exact hti
      have HDH := hide (dT_has hin.out hp8)
      rw [show t.proc.toNat = p by omega] at HDT
      have HP := hide hp
      have p0 : (0 : Int) ≤ (p : Int) := by omega
      have p8 : (p : Int) < 8 := by omega
      rw [hp] at r0 d1 d2 N3
      have c1 := (hd.out.below N3).c hp8
      have f1 := (hd.out.below N3).f p
      have P1 := (hd.out.below N3).put hp8 t.due
      rw [← HDT.out] at P1
      have P2 := hide P1
      have Q2 := hide ((hy.out.below N3).far (b := G) (o := p) (u := .int .i64 t.due) (by omega))
      have B2 := hide ((chain hb.out N3).setCell (p := ⟨G, p, none⟩) (Nat.le_of_lt hz1) (.int .i64 t.due))
      clear hti hp P1 N3
      have HNS := nod_snoc (l := l.take k) (t := t)
      rw [← HTK.out, HP.out] at HNS
      by_cases hnd : Nod (l.take k)
      · have e1 : decide (Nod (l.take k)) = true := decide_eq_true hnd
        have HNX : Hid (decide (0 ≤ dT (l.take k) p) = !decide (Nod (l.take (k + 1)))) := by
          unfold Hid
          rw [Bool.eq_iff_iff]
          simp only [decide_eq_true_eq, Bool.not_eq_true', decide_eq_false_iff_not]
          rw [HDH.out, HNS]
          constructor
          · intro h h2
            exact h2.2 h
          · intro h
            exact Classical.byContradiction fun h2 => h ⟨hnd, h2⟩
        obtain ⟨q, hq⟩ : ∃ q, decide (0 ≤ dT (l.take k) p) = q := ⟨_, rfl⟩
        rw [hq] at HNX
        rw [e1]
        have HQ : Hid (q = !decide (Nod (l.take (k + 1)))) := HNX.out
        generalize dT (l.take k) p = dd at *
        clear hnd HNS e1 HNX
        go_wp2
        go_roundw
        case rel => exact ⟨k + 1, by omega, by go_num, by rw [HQ.out], HIN2.out, P2.out, Q2.out, B2.out⟩
        case measure => simp [intOf]; omega
      · have e1 : decide (Nod (l.take k)) = false := decide_eq_false hnd
        have HNX : Hid (decide (Nod (l.take (k + 1))) = false) := decide_eq_false (fun h => hnd (HNS.1 h).1)
        rw [e1]
        clear hnd HNS e1
        go_wp2
        go_roundw
        case rel => exact ⟨k + 1, by omega, by go_num, by rw [HNX.out]; rfl, HIN2.out, P2.out, Q2.out, B2.out⟩
        case measure => simp [intOf]; omega
    · obtain rfl : k = len := by omega
      have HR : Hid (l.take k = l) := by unfold Hid; rw [← hl, List.take_length]
      rw [HR.out] at hin hd ⊢
      by_cases hnd : Nod l
      · have e1 : decide (Nod l) = true := decide_eq_true hnd
        have HA : Hid (sortE l = 0 ∧ rdD l = dT l) := by
          have e : sortE l = 0 := by unfold sortE; rw [if_neg (by simpa using hin.out), if_neg (by simpa using hnd)]
          exact ⟨e, by unfold rdD; rw [if_pos e]⟩
        rw [e1]
        have z0 := hd.out.c (i := 0) (by decide)
        have z1 := hd.out.c (i := 1) (by decide)
        have z2 := hd.out.c (i := 2) (by decide)
        have z3 := hd.out.c (i := 3) (by decide)
        have z4 := hd.out.c (i := 4) (by decide)
        have z5 := hd.out.c (i := 5) (by decide)
        have z6 := hd.out.c (i := 6) (by decide)
        have z7 := hd.out.c (i := 7) (by decide)
        have y0 := hy.out.c (i := 0) (by decide)
        have y1 := hy.out.c (i := 1) (by decide)
        have y2 := hy.out.c (i := 2) (by decide)
        have y3 := hy.out.c (i := 3) (by decide)
        have y4 := hy.out.c (i := 4) (by decide)
        have y5 := hy.out.c (i := 5) (by decide)
        have y6 := hy.out.c (i := 6) (by decide)
        have y7 := hy.out.c (i := 7) (by decide)
        have ff := hy.out.f
        have Q8 := hide (hy.out.set8 (dT l))
        have B8 := hide (set8_below hb.out (Nat.le_refl _) (dT l))
        unfold set8 at Q8 B8
        clear hd hy hnd e1
        generalize dT l = DD at *
        go_wp2
        generalize (((((((wr.setCell ⟨w.heap.size, 0, none⟩ (.int .i64 (DD 0))).setCell ⟨w.heap.size, 1, none⟩ (.int .i64 (DD 1))).setCell ⟨w.heap.size, 2, none⟩ (.int .i64 (DD 2))).setCell ⟨w.heap.size, 3, none⟩ (.int .i64 (DD 3))).setCell ⟨w.heap.size, 4, none⟩ (.int .i64 (DD 4))).setCell ⟨w.heap.size, 5, none⟩ (.int .i64 (DD 5))).setCell ⟨w.heap.size, 6, none⟩ (.int .i64 (DD 6))).setCell ⟨w.heap.size, 7, none⟩ (.int .i64 (DD 7)) = W9 at *
        have e0 := Q8.out.c (i := 0) (by decide)
        have e1 := Q8.out.c (i := 1) (by decide)
        have e2 := Q8.out.c (i := 2) (by decide)
        have e3 := Q8.out.c (i := 3) (by decide)
        have e4 := Q8.out.c (i := 4) (by decide)
        have e5 := Q8.out.c (i := 5) (by decide)
        have e6 := Q8.out.c (i := 6) (by decide)
        have e7 := Q8.out.c (i := 7) (by decide)
        (try simp only [Exit.inBlock, Exit.then])
        refine bodyPost_ret (v := .tuple #[dv DD, .int .i64 0]) (by simp [results, Tryd.results37, go_sem, e0, e1, e2, e3, e4, e5, e6, e7, dv]) rfl ?_
        exact ⟨_, _, rfl, by rw [HA.out.2], by rw [HA.out.1]; rfl, B8.out⟩
      · have e1 : decide (Nod l) = false := decide_eq_false hnd
        have HA : Hid (sortE l = 12 ∧ rdD l = noD) := by
          have e : sortE l = 12 := by unfold sortE; rw [if_neg (by simpa using hin.out), if_pos hnd]
          exact ⟨e, by unfold rdD; rw [e]; rfl⟩
        rw [e1]
        clear hnd e1
        go_wp2_with fail
        refine Calls.mono (HN.out _) ?_
        rintro e w5 ⟨rfl, b5⟩
        have hy5 := hy.out.below b5
        have hb5 := chain hb.out b5
        clear b5
        have y0 := hy5.c (i := 0) (by decide)
        have y1 := hy5.c (i := 1) (by decide)
        have y2 := hy5.c (i := 2) (by decide)
        have y3 := hy5.c (i := 3) (by decide)
        have y4 := hy5.c (i := 4) (by decide)
        have y5 := hy5.c (i := 5) (by decide)
        have y6 := hy5.c (i := 6) (by decide)
        have y7 := hy5.c (i := 7) (by decide)
        have ff := hy5.f
        have Q8 := hide (hy5.set8 noD)
        have B8 := hide (set8_below hb5 (Nat.le_refl _) noD)
        unfold set8 at Q8 B8
        unfold dv
        clear hy5 hb5
        go_wp2
        generalize (((((((w5.setCell ⟨w.heap.size, 0, none⟩ (.int .i64 (noD 0))).setCell ⟨w.heap.size, 1, none⟩ (.int .i64 (noD 1))).setCell ⟨w.heap.size, 2, none⟩ (.int .i64 (noD 2))).setCell ⟨w.heap.size, 3, none⟩ (.int .i64 (noD 3))).setCell ⟨w.heap.size, 4, none⟩ (.int .i64 (noD 4))).setCell ⟨w.heap.size, 5, none⟩ (.int .i64 (noD 5))).setCell ⟨w.heap.size, 6, none⟩ (.int .i64 (noD 6))).setCell ⟨w.heap.size, 7, none⟩ (.int .i64 (noD 7)) = W9 at *
        have e0 := Q8.out.c (i := 0) (by decide)
        have e1 := Q8.out.c (i := 1) (by decide)
        have e2 := Q8.out.c (i := 2) (by decide)
        have e3 := Q8.out.c (i := 3) (by decide)
        have e4 := Q8.out.c (i := 4) (by decide)
        have e5 := Q8.out.c (i := 5) (by decide)
        have e6 := Q8.out.c (i := 6) (by decide)
        have e7 := Q8.out.c (i := 7) (by decide)
        (try simp only [Exit.inBlock, Exit.then])
        refine bodyPost_ret (v := .tuple #[dv noD, .int .i64 12]) (by simp [results, Tryd.results37, go_sem, e0, e1, e2, e3, e4, e5, e6, e7, dv]) rfl ?_
        exact ⟨_, _, rfl, by rw [HA.out.2], by rw [HA.out.1]; rfl, B8.out⟩
end Go.Proofs.YtdckpecalglnoaaDoor
