/-
  ferrytop's keeps: the table's own rules, by words, hold of every good table.
-/
import Derived.Test.YtnjabidelpafgaaDoorRyTop
import Derived.Test.YtnjabidelpafgaaDoorRyOwn
import Derived.Test.YtnjabidelpafgaaDoorRyKeep
import Derived.Deep.CutBlock
import Derived.BigQuiet
namespace Go.Proofs.YtnjabidelpafgaaDoor
open Classical
open Go.RowKit
set_option linter.unusedVariables false
set_option linter.unusedSimpArgs false

theorem ref_cases {p : Pro} {n c : Nat} (h : RefP p n c) : (p.state = 1 ∧ n = 0 ∧ c = 1 ∧ p.wait = 0) ∨ (p.state = 2 ∧ n = 1 ∧ c = 0 ∧ p.wait ≠ 0 ∧ True) ∨ (p.state = 2 ∧ n = 0 ∧ c = 0 ∧ p.wait ≠ 0 ∧ p.wait ≠ 1) ∨ (p.state ≠ 1 ∧ p.state ≠ 2 ∧ n = 0 ∧ c = 0 ∧ p.wait = 0) := by
  obtain ⟨-, ⟨h1, -, -⟩, ⟨h2, h3, h4⟩, h5⟩ := h
  by_cases e1 : p.state = 1
  · rw [if_pos e1] at h5
    refine .inl ⟨e1, ?_, h5, ?_⟩
    · by_cases e : n = 1
      · have := h3 e; omega
      · omega
    · exact Classical.byContradiction fun e => by have := h1.1 e; omega
  · rw [if_neg e1] at h5
    by_cases e2 : p.state = 2
    · have hw := h1.2 e2
      by_cases e : n = 1
      · exact .inr (.inl ⟨e2, e, h5, hw, trivial⟩)
      · exact .inr (.inr (.inl ⟨e2, by omega, h5, hw, h4 (by omega)⟩))
    · refine .inr (.inr (.inr ⟨e1, e2, ?_, h5, ?_⟩))
      · by_cases e : n = 1
        · have := h3 e; omega
        · omega
      · exact Classical.byContradiction fun e => by have := h1.1 e; omega
theorem bestF_max (l : List Pro) : ∀ (r : List Int) (x : Int), prioAt l x ≤ prioAt l (bestF l x r) ∧ ∀ i ∈ r, prioAt l i ≤ prioAt l (bestF l x r)
  | [], x => ⟨Int.le_refl _, fun i hi => by simp at hi⟩
  | z :: r, x => by
    have ih := bestF_max l r (pickS l x z)
    have e : bestF l x (z :: r) = bestF l (pickS l x z) r := rfl
    rw [e]
    have h1 : prioAt l x ≤ prioAt l (pickS l x z) ∧ prioAt l z ≤ prioAt l (pickS l x z) := by
      unfold pickS
      split <;> constructor <;> omega
    refine ⟨Int.le_trans h1.1 ih.1, fun i hi => ?_⟩
    rcases List.mem_cons.1 hi with rfl | hi
    · exact Int.le_trans h1.2 ih.1
    · exact ih.2 i hi
theorem pick_facts {l : List Pro} {r : List Int} {t : List Tm} (hg : Good l r t) (hr : r ≠ []) : pickE l r t = 0 ∧ ∃ (k : Nat) (q : Pro), pickP l r t = (k : Int) ∧ l[k]? = some q ∧ q.state = 1 ∧ ∀ i ∈ r, prioAt l i ≤ q.prio := by
  refine ⟨by rw [(pickE_good hg).1]; exact if_neg hr, ?_⟩
  rw [(pickE_good hg).2]
  cases r with
  | nil => exact absurd rfl hr
  | cons x s =>
    have hm : bestF l x (x :: s) ∈ x :: s := by
      rcases bestF_mem l (x :: s) x with e | e
      · rw [e]; simp
      · exact e
    obtain ⟨k, q, hk, e, hs⟩ := goodR_mem hg.2.2.1 hm
    refine ⟨k, q, e, hk, hs, fun i hi => ?_⟩
    have := (bestF_max l (x :: s) x).2 i hi
    rw [e, prioAt_of hk] at this
    exact this
theorem ord_next {t : List Tm} (h1 : Ord t) (h2 : Nod t) {j : Nat} {x y : Tm} (hx : t[j]? = some x) (hy : t[j + 1]? = some y) : x.due < y.due ∨ (x.due = y.due ∧ x.proc < y.proc) := by
  obtain ⟨hj, rfl⟩ := List.getElem?_eq_some_iff.1 hx
  obtain ⟨hj1, rfl⟩ := List.getElem?_eq_some_iff.1 hy
  have h3 := (Tm.le_iff _ _).1 (List.pairwise_iff_getElem.1 h1 j (j + 1) hj hj1 (by omega))
  have h4 : t[j].proc ≠ t[j + 1].proc := by
    unfold Nod at h2
    have := List.pairwise_iff_getElem.1 h2 j (j + 1) (by simpa using hj) (by simpa using hj1) (by omega)
    simpa using this
  omega

set_option maxRecDepth 100000 in
set_option maxHeartbeats 8000000 in
theorem keeps_any {w : World} {E : Nat → Addr} (he : Er9 w E) (pa : Option Addr) (pn pc : Nat) (l : List Pro) (hp : Pros w pa pn pc l) (ra : Option Addr) (rn rc : Nat) (r : List Int) (hr : Is w ra rn rc r) (ta : Option Addr) (tn tc : Nat) (t : List Tm) (ht : Tms w ta tn tc t) (hg : Good l r t) :
    Calls Tryd.prog 9 #[.agg #[.slice pa pn pc, .slice ra rn rc, .slice ta tn tc]] w fun e w' => e = .returned (.bool true) ∧ Below w.heap.size w w' := by
  have BX : Hid (Bl (w.alloc (.cells #[.slice pa pn pc, .slice ra rn rc, .slice ta tn tc] 28)) w.heap.size [.slice pa pn pc, .slice ra rn rc, .slice ta tn tc]) := bl_alloc w #[.slice pa pn pc, .slice ra rn rc, .slice ta tn tc] 28
  have HB0 := hide (new_below w (.cells #[.slice pa pn pc, .slice ra rn rc, .slice ta tn tc] 28))
  have hl1 : Hid (w.heap.size < (w.alloc (.cells #[.slice pa pn pc, .slice ra rn rc, .slice ta tn tc] 28)).heap.size) := by unfold Hid; simp
  have HS := hide (hp.below HB0.out)
  have HI := hide (hr.below HB0.out)
  have HT := hide (ht.below HB0.out)
  have HE := hide (he.below HB0.out)
  have HL : Hid (l.length = pn) := hp.size
  have HLR : Hid (r.length = rn) := hr.size
  have HLT : Hid (t.length = tn) := ht.size
  have HGD := hide hg
  have hp8 : pn ≤ 8 := by have := hg.1; have := hp.size; omega
  have hr8 : rn ≤ 8 := by have := goodR_few hg.2.2.1 hg.1; have := hr.size; omega
  have ht8 : tn ≤ 8 := by have := hg.tfew; have := ht.size; omega
  have HP8 := hide hp8
  have HR8 := hide hr8
  have HT8 := hide ht8
  clear hp hr ht he hg
  go_enter Tryd.func9, Tryd.ntmps9
  go_upto_region 1 with fail
  generalize w.alloc (.cells #[.slice pa pn pc, .slice ra rn rc, .slice ta tn tc] 28) = W0 at *
  have b0 := BX.out.cell 0 _ rfl
  go_wp2
  clear b0
  go_loopw [21] (fun i wr => ∃ k : Nat, k ≤ pn ∧ i = .int .i64 (k : Int) ∧ Hid (Below W0.heap.size W0 wr)) (fun i _ => pn - (intOf i).toNat)
  case atStart => exact ⟨0, by omega, rfl, Below.refl _ _⟩
  case round =>
    obtain ⟨k, hk, rfl, hb⟩ := hrel
    by_cases hlt : k < pn
    · obtain ⟨p, hpk⟩ : ∃ p, l[k]? = some p := ⟨_, List.getElem?_eq_getElem (by rw [HL.out]; exact hlt)⟩
      obtain ⟨b, off, rfl, hr⟩ := (HS.out.below hb.out).at pro21 (by decide) hpk
      have HRg := hide hr
      have HCASE := hide (ref_cases (HGD.out.ref hpk))
      have X1 := new_below wr (.cells p.cells.toArray 37)
      have BW1 := hide (chain hb.out X1)
      have PB : Hid (Bl (wr.alloc (.cells p.cells.toArray 37)) wr.heap.size p.cells) := bl_alloc wr p.cells.toArray 37
      have PZ : Hid (wr.heap.size < (wr.alloc (.cells p.cells.toArray 37)).heap.size) := by unfold Hid; simp
      have hk1 : (k : Int) < (pn : Int) := by omega
      clear hr X1 hpk
      go_upto_region 4 with (first
        | (refine wpList_load_mid rfl 37 (.tmp 24) rfl b (off + k * 21) rfl p.cells _ HRg.out Tryd.underlying37 rfl sizeProc ?_)
        | (refine wpList_store_new rfl 37 (.tmp 4) (.tmp 25) rfl p.cells.toArray rfl rfl sizeProc (by rfl) (pro_all p) ?_))
      generalize wr.alloc (.cells p.cells.toArray 37) = W1 at *
      generalize p.cells.toArray = PA at *
      generalize wr.heap.size = pb at *
      clear HRg
      have b1 := (BX.out.below hl1.out BW1.out).cell 1 _ rfl
      go_wp2
      clear b1
      go_loopw [5, 29] (fun c i ws => ∃ j : Nat, j ≤ rn ∧ i = .int .i64 (j : Int) ∧ c = .int .i64 ((r.take j).count (k : Int) : Int) ∧ ws = W1) (fun _ i _ => rn - (intOf i).toNat)
      case atStart => exact ⟨0, by omega, rfl, rfl, rfl⟩
      case round =>
        obtain ⟨j, hj, rfl, rfl, rfl⟩ := hrel
        by_cases hjl : j < rn
        · obtain ⟨x, hx⟩ : ∃ x, r[j]? = some x := ⟨_, List.getElem?_eq_getElem (by rw [HLR.out]; exact hjl)⟩
          obtain ⟨b', off', rfl, hr⟩ := (HI.out.below BW1.out).at ci1 (by decide) hx
          have q0 := hr 0 _ rfl
          simp only [Nat.add_zero, Nat.mul_one] at q0
          have hj1 : (j : Int) < (rn : Int) := by omega
          have HN := hide (count_take (k : Int) hx)
          have hc : (r.take j).count (k : Int) ≤ j := Nat.le_trans List.count_le_length (by rw [List.length_take]; omega)
          clear hr hx
          generalize (r.take j).count (k : Int) = c at *
          cases hxn : (x == (k : Int))
          · rw [hxn] at HN
            go_wp2
            go_roundw
            case rel => exact ⟨j + 1, by omega, by go_num, by rw [HN.out]; rfl, trivial⟩
            case measure => simp [intOf]; omega
          · rw [hxn] at HN
            have hc8 : c ≤ 1000000 := by omega
            go_wp2
            go_roundw
            case rel => exact ⟨j + 1, by omega, by go_num, by rw [HN.out]; simp, trivial⟩
            case measure => simp [intOf]; omega
        · obtain rfl : rn = j := by omega
          have HTK : Hid (r.take rn = r) := by unfold Hid; rw [← HLR.out, List.take_length]
          rw [HTK.out]
          generalize hcr : r.count (k : Int) = cr0 at *
          have b2 := (BX.out.below hl1.out BW1.out).cell 2 _ rfl
          go_wp2
          clear b2
          have HW1 := hide (Below.refl wr.heap.size wr)
          obtain ⟨wv, hwv⟩ : ∃ wv, wv = wr := ⟨_, rfl⟩
          subst hwv
          go_loopw [8, 42] (fun c i wt => ∃ q : Nat, q ≤ tn ∧ i = .int .i64 (q : Int) ∧ c = .int .i64 (tcount (t.take q) (k : Int) : Int) ∧ Hid (Below wv.heap.size wv wt)) (fun _ i _ => tn - (intOf i).toNat)
          case atStart => exact ⟨0, by omega, rfl, rfl, HW1.out⟩
          case round =>
            obtain ⟨q, hq, rfl, rfl, hbt⟩ := hrel
            have BWT := hide (chain BW1.out hbt.out)
            by_cases hql : q < tn
            · obtain ⟨x, hx⟩ : ∃ x, t[q]? = some x := ⟨_, List.getElem?_eq_getElem (by rw [HLT.out]; exact hql)⟩
              obtain ⟨b', off', rfl, hr⟩ := (HT.out.below BWT.out).at tm2 (by decide) hx
              have r0 := hr 0 _ rfl
              have r1 := hr 1 _ rfl
              simp only [Nat.add_zero] at r0
              have HBN := hide (hbt.out.alloc hbt.out.size (.cells #[.int .i64 x.proc, .int .i64 x.due] 54))
              have hq1 : (q : Int) < (tn : Int) := by omega
              have HN := hide (tcount_take (k : Int) hx)
              have hc : tcount (t.take q) (k : Int) ≤ q := Nat.le_trans List.count_le_length (by rw [List.length_map, List.length_take]; omega)
              clear hr hx
              generalize tcount (t.take q) (k : Int) = c at *
              cases hxn : (x.proc == (k : Int))
              · rw [hxn] at HN
                go_wp2
                go_roundw
                case rel => exact ⟨q + 1, by omega, by go_num, by rw [HN.out]; rfl, HBN.out⟩
                case measure => simp [intOf]; omega
              · rw [hxn] at HN
                have hc8 : c ≤ 1000000 := by omega
                go_wp2
                go_roundw
                case rel => exact ⟨q + 1, by omega, by go_num, by rw [HN.out]; simp, HBN.out⟩
                case measure => simp [intOf]; omega
            · obtain rfl : tn = q := by omega
              have HTQ : Hid (t.take tn = t) := by unfold Hid; rw [← HLT.out, List.take_length]
              rw [HTQ.out]
              have PB9 := PB.out.below PZ.out hbt.out
              have q17 := PB9.cell 17 _ rfl
              have q19 := PB9.cell 19 _ rfl
              have BW3 := hide BWT.out
              clear PB9
              rcases HCASE.out with ⟨s1, cn, cr, cw⟩ | ⟨s2, cn, cr, cw, hw1⟩ | ⟨s2, cn, cr, cw, hw1⟩ | ⟨s1, s2, cn, cr, cw⟩
              · have z1 : (p.state == 1) = true := by simp [s1]
                have z2 : (p.state == 2) = false := by simp [s1]
                have z3 : (p.wait == 1) = false := by simp [cw]
                have z4 : (p.wait != 0) = false := by simp [cw]
                have y5 : p.state ≠ 2 := by omega
                rw [cr, cn]
                clear s1 cw y5 HCASE
                go_wp2
                go_roundw
                case rel => exact ⟨k + 1, by omega, by go_num, BW3.out⟩
                case measure => simp [intOf]; omega
              · by_cases e1 : p.wait = 1
                · have z1 : (p.state == 1) = false := by simp [s2]
                  have z2 : (p.state == 2) = true := by simp [s2]
                  have z0 : (p.state != 2) = false := by simp [s2]
                  have z3 : (p.wait == 1) = true := by simp [e1]
                  have z4 : (p.wait != 0) = true := by simp [e1]
                  rw [cr, cn]
                  clear s2 cw e1 hw1 HCASE
                  go_wp2
                  go_roundw
                  case rel => exact ⟨k + 1, by omega, by go_num, BW3.out⟩
                  case measure => simp [intOf]; omega
                · have z1 : (p.state == 1) = false := by simp [s2]
                  have z2 : (p.state == 2) = true := by simp [s2]
                  have z0 : (p.state != 2) = false := by simp [s2]
                  have z3 : (p.wait == 1) = false := by simp [e1]
                  have z4 : (p.wait != 0) = true := by simp [cw]
                  rw [cr, cn]
                  clear s2 cw e1 hw1 HCASE
                  go_wp2
                  go_roundw
                  case rel => exact ⟨k + 1, by omega, by go_num, BW3.out⟩
                  case measure => simp [intOf]; omega
              · have z1 : (p.state == 1) = false := by simp [s2]
                have z2 : (p.state == 2) = true := by simp [s2]
                have z3 : (p.wait == 1) = false := by simp [hw1]
                have z4 : (p.wait != 0) = true := by simp [cw]
                rw [cr, cn]
                clear s2 cw hw1 HCASE
                go_wp2
                go_roundw
                case rel => exact ⟨k + 1, by omega, by go_num, BW3.out⟩
                case measure => simp [intOf]; omega
              · have z1 : (p.state == 1) = false := by simp [s1]
                have z2 : (p.state == 2) = false := by simp [s2]
                have z3 : (p.wait == 1) = false := by simp [cw]
                have z4 : (p.wait != 0) = false := by simp [cw]
                rw [cr, cn]
                clear s1 s2 cw HCASE
                go_wp2
                go_roundw
                case rel => exact ⟨k + 1, by omega, by go_num, BW3.out⟩
                case measure => simp [intOf]; omega
    · obtain rfl : pn = k := by omega
      have BO := hide hb.out
      go_wp2
      go_loopw [11] (fun i wr => ∃ j : Nat, (j + 1 ≤ tn ∨ j = 0) ∧ i = .int .i64 ((j + 1 : Nat) : Int) ∧ Hid (Below W0.heap.size W0 wr)) (fun i _ => tn + 1 - (intOf i).toNat)
      case atStart => exact ⟨0, .inr rfl, rfl, BO.out⟩
      case round =>
        clear BO hb
        obtain ⟨j, hj, rfl, hb⟩ := hrel
        have b2 := (BX.out.below hl1.out hb.out).cell 2 _ rfl
        by_cases hlt' : j + 1 < tn
        · obtain ⟨x, hx⟩ : ∃ x, t[j]? = some x := ⟨_, List.getElem?_eq_getElem (by rw [HLT.out]; omega)⟩
          obtain ⟨y, hy⟩ : ∃ y, t[j + 1]? = some y := ⟨_, List.getElem?_eq_getElem (by rw [HLT.out]; omega)⟩
          obtain ⟨b, off, rfl, hrx⟩ := HT.out.at tm2 (by decide) hx
          obtain ⟨b', off', e', hry⟩ := HT.out.at tm2 (by decide) hy
          simp only [Option.some.injEq, Addr.mk.injEq, and_true] at e'
          obtain ⟨rfl, rfl⟩ := e'
          have HRX := hide hrx
          have HRY := hide hry
          have HBB : Hid (b < W0.heap.size) := block_lt_of_cell (hrx 0 _ rfl)
          have HORD := hide (ord_next HGD.out.2.2.2.1.2.2 HGD.out.2.2.2.1.2.1 hx hy)
          have hj1 : ((j : Int) + 1) < (tn : Int) := by omega
          have hj0 : (0 : Int) ≤ (j : Int) := by omega
          have hj2 : (j : Int) < (tn : Int) := by omega
          have hj8 : j ≤ 8 := by omega
          have hj01 : (0 : Int) ≤ (j : Int) + 1 := by omega
          have hwj : IntKind.i64.wrap (j : Int) = (j : Int) := by rw [IntKind.wrap_i64]; omega
          clear hrx hry hx hy
          go_upto_region 24 with fail
          clear b2
          have BR0 := hide hb.out
          have HCT : Hid (∀ wz, Below wr.heap.size wr wz → (fun wz => wz.cell? ⟨w.heap.size, 2, none⟩ = some (.slice (some ⟨b, off, none⟩) tn tc) ∧ wz.cell? ⟨b, off + j * 2, none⟩ = some (.int .i64 x.proc) ∧ wz.cell? ⟨b, off + j * 2 + 1, none⟩ = some (.int .i64 x.due) ∧ wz.cell? ⟨b, off + (j + 1) * 2, none⟩ = some (.int .i64 y.proc) ∧ wz.cell? ⟨b, off + (j + 1) * 2 + 1, none⟩ = some (.int .i64 y.due)) wz) := fun wz hz => by
            have hz0 := hb.out.trans (hz.mono hb.out.size)
            refine ⟨(BX.out.below hl1.out hz0).cell 2 _ rfl, ?_, ?_, ?_, ?_⟩
            · rw [hz0.cell (p := ⟨b, off + j * 2, none⟩) HBB.out]; exact HRX.out 0 _ rfl
            · rw [hz0.cell (p := ⟨b, off + j * 2 + 1, none⟩) HBB.out]; exact HRX.out 1 _ rfl
            · rw [hz0.cell (p := ⟨b, off + (j + 1) * 2, none⟩) HBB.out]; exact HRY.out 0 _ rfl
            · rw [hz0.cell (p := ⟨b, off + (j + 1) * 2 + 1, none⟩) HBB.out]; exact HRY.out 1 _ rfl
          have C0 : Hid (Below wr.heap.size wr wr.drew) := (Below.refl _ _).drew
          have HY0 : Hid (wr.heap.size ≤ wr.drew.heap.size) := Nat.le_refl wr.heap.size
          refine wp_region_held_drew (S := fun wz => wz.cell? ⟨w.heap.size, 2, none⟩ = some (.slice (some ⟨b, off, none⟩) tn tc) ∧ wz.cell? ⟨b, off + j * 2, none⟩ = some (.int .i64 x.proc) ∧ wz.cell? ⟨b, off + j * 2 + 1, none⟩ = some (.int .i64 x.due) ∧ wz.cell? ⟨b, off + (j + 1) * 2, none⟩ = some (.int .i64 y.proc) ∧ wz.cell? ⟨b, off + (j + 1) * 2 + 1, none⟩ = some (.int .i64 y.due)) (by kernel_rfl) (HCT.out _ C0.out) (fun hHeld => ?_)
          generalize wr.drew = Y0 at *
          refine wpAnyH_take (i := 0) (oi := { dst := some 102, op := Go.Op.fieldAddr 28 (Go.Operand.tmp 1) 2, type := 0, pos := "top04.go:74", after := #[], guard := none }) (v := ?_) rfl (by kernel_rfl) (by kernel_rfl) (by kernel_rfl) (fun _ _ _ h => h) (Or.inl ⟨by rfl, ?_⟩) (by assumption) ?_
          rotate_left
          · intro w hSw
            try dsimp only at hSw
            go_simp
            try with_reducible rfl
          simp only [Act.put, List.setIfInBounds_toArray, List.set_cons_zero, List.set_cons_succ]
          refine wpAnyH_take (i := 1) (oi := { dst := some 103, op := Go.Op.load 26 (Go.Operand.tmp 102), type := 26, pos := "top04.go:74", after := #[{ on := 0, ground := Go.Ground.data }], guard := none }) (v := ?_) rfl (by kernel_rfl) (by kernel_rfl) (by kernel_rfl) (fun _ _ _ h => h) (Or.inl ⟨by rfl, ?_⟩) (by assumption) ?_
          rotate_left
          · intro w hSw
            try dsimp only at hSw
            go_simp
            try with_reducible rfl
          simp only [Act.put, List.setIfInBounds_toArray, List.set_cons_zero, List.set_cons_succ]
          refine wpAnyH_take (i := 2) (oi := { dst := some 104, op := Go.Op.move (Go.Operand.tmp 11), type := 3, pos := "top04.go:74", after := #[], guard := none }) (v := ?_) rfl (by kernel_rfl) (by kernel_rfl) (by kernel_rfl) (fun _ _ _ h => h) (Or.inl ⟨by rfl, ?_⟩) (by assumption) ?_
          rotate_left
          · intro w hSw
            try dsimp only at hSw
            go_simp
            try with_reducible rfl
          simp only [Act.put, List.setIfInBounds_toArray, List.set_cons_zero, List.set_cons_succ]
          refine wpAnyH_take (i := 3) (oi := { dst := some 105, op := Go.Op.binOp Go.BinOp.sub 3 (Go.Operand.tmp 104) (Go.Operand.const (Go.Value.int Go.IntKind.i64 1)) 3, type := 3, pos := "top04.go:74", after := #[{ on := 2, ground := Go.Ground.data }], guard := none }) (v := ?_) rfl (by kernel_rfl) (by kernel_rfl) (by kernel_rfl) (fun _ _ _ h => h) (Or.inl ⟨by rfl, ?_⟩) (by assumption) ?_
          rotate_left
          · intro w hSw
            try dsimp only at hSw
            go_simp
            try with_reducible rfl
          simp only [Act.put, List.setIfInBounds_toArray, List.set_cons_zero, List.set_cons_succ]
          refine wpAnyH_take (i := 4) (oi := { dst := some 106, op := Go.Op.indexAddr 26 (Go.Operand.tmp 103) (Go.Operand.tmp 105), type := 0, pos := "top04.go:74", after := #[{ on := 1, ground := Go.Ground.data }, { on := 3, ground := Go.Ground.data }], guard := none }) (v := ?_) rfl (by kernel_rfl) (by kernel_rfl) (by kernel_rfl) (fun _ _ _ h => h) (Or.inl ⟨by rfl, ?_⟩) (by assumption) ?_
          rotate_left
          · intro w hSw
            try dsimp only at hSw
            go_simp
            try with_reducible rfl
          simp only [Act.put, List.setIfInBounds_toArray, List.set_cons_zero, List.set_cons_succ]
          refine wpAnyH_take (i := 5) (oi := { dst := some 107, op := Go.Op.load 54 (Go.Operand.tmp 106), type := 54, pos := "top04.go:74", after := #[{ on := 4, ground := Go.Ground.data }], guard := none }) (v := ?_) rfl (by kernel_rfl) (by kernel_rfl) (by kernel_rfl) (fun _ _ _ h => h) (Or.inl ⟨by rfl, ?_⟩) (by assumption) ?_
          rotate_left
          · intro w hSw
            try dsimp only at hSw
            go_simp
            try with_reducible rfl
          simp only [Act.put, List.setIfInBounds_toArray, List.set_cons_zero, List.set_cons_succ]
          refine wpAnyH_take (i := 6) (oi := { dst := some 108, op := Go.Op.fieldAddr 28 (Go.Operand.tmp 1) 2, type := 0, pos := "top04.go:74", after := #[{ on := 13, ground := Go.Ground.gcOnly Go.Departure.lateStores }], guard := none }) (v := ?_) rfl (by kernel_rfl) (by kernel_rfl) (by kernel_rfl) (fun _ _ _ h => h) (Or.inl ⟨by rfl, ?_⟩) (by assumption) ?_
          rotate_left
          · intro w hSw
            try dsimp only at hSw
            go_simp
            try with_reducible rfl
          simp only [Act.put, List.setIfInBounds_toArray, List.set_cons_zero, List.set_cons_succ]
          refine wpAnyH_take (i := 7) (oi := { dst := some 109, op := Go.Op.load 26 (Go.Operand.tmp 108), type := 26, pos := "top04.go:74", after := #[{ on := 6, ground := Go.Ground.data }, { on := 13, ground := Go.Ground.gcOnly Go.Departure.lateStores }], guard := none }) (v := ?_) rfl (by kernel_rfl) (by kernel_rfl) (by kernel_rfl) (fun _ _ _ h => h) (Or.inl ⟨by rfl, ?_⟩) (by assumption) ?_
          rotate_left
          · intro w hSw
            try dsimp only at hSw
            go_simp
            try with_reducible rfl
          simp only [Act.put, List.setIfInBounds_toArray, List.set_cons_zero, List.set_cons_succ]
          refine wpAnyH_take (i := 8) (oi := { dst := some 110, op := Go.Op.move (Go.Operand.tmp 11), type := 3, pos := "top04.go:74", after := #[{ on := 13, ground := Go.Ground.gcOnly Go.Departure.lateStores }], guard := none }) (v := ?_) rfl (by kernel_rfl) (by kernel_rfl) (by kernel_rfl) (fun _ _ _ h => h) (Or.inl ⟨by rfl, ?_⟩) (by assumption) ?_
          rotate_left
          · intro w hSw
            try dsimp only at hSw
            go_simp
            try with_reducible rfl
          simp only [Act.put, List.setIfInBounds_toArray, List.set_cons_zero, List.set_cons_succ]
          refine wpAnyH_take (i := 9) (oi := { dst := some 111, op := Go.Op.indexAddr 26 (Go.Operand.tmp 109) (Go.Operand.tmp 110), type := 0, pos := "top04.go:74", after := #[{ on := 7, ground := Go.Ground.data }, { on := 8, ground := Go.Ground.data }, { on := 13, ground := Go.Ground.gcOnly Go.Departure.lateStores }], guard := none }) (v := ?_) rfl (by kernel_rfl) (by kernel_rfl) (by kernel_rfl) (fun _ _ _ h => h) (Or.inl ⟨by rfl, ?_⟩) (by assumption) ?_
          rotate_left
          · intro w hSw
            try dsimp only at hSw
            go_simp
            try with_reducible rfl
          simp only [Act.put, List.setIfInBounds_toArray, List.set_cons_zero, List.set_cons_succ]
          refine wpAnyH_take (i := 10) (oi := { dst := some 112, op := Go.Op.load 54 (Go.Operand.tmp 111), type := 54, pos := "top04.go:74", after := #[{ on := 9, ground := Go.Ground.data }, { on := 13, ground := Go.Ground.gcOnly Go.Departure.lateStores }], guard := none }) (v := ?_) rfl (by kernel_rfl) (by kernel_rfl) (by kernel_rfl) (fun _ _ _ h => h) (Or.inl ⟨by rfl, ?_⟩) (by assumption) ?_
          rotate_left
          · intro w hSw
            try dsimp only at hSw
            go_simp
            try with_reducible rfl
          simp only [Act.put, List.setIfInBounds_toArray, List.set_cons_zero, List.set_cons_succ]
          refine wpAnyH_ready (rs := [11, 12]) (by kernel_rfl) (by simp) ?_
          refine AllReadyH.cons (o := { dst := some 12, op := Go.Op.alloc 54, type := 0, pos := "top04.go:74", after := #[], guard := none }) rfl (fun K hK => ?_) (AllReadyH.cons (o := { dst := some 13, op := Go.Op.alloc 54, type := 0, pos := "top04.go:74", after := #[], guard := none }) rfl (fun K hK => ?_) AllReadyH.nil)
          · have NA := hide (bl_alloc Y0 #[.int .i64 0, .int .i64 0] 54)
            have XB := hide (new_below Y0 (.cells #[.int .i64 0, .int .i64 0] 54))
            have C1 := hide (chain C0.out XB.out)
            have ZB : Hid ((Y0.alloc (.cells #[.int .i64 0, .int .i64 0] 54)).heap.size = Y0.heap.size + 1) := by unfold Hid; simp
            go_simp
            try go_wp2_with fail
            refine hK.out _ _ (HCT.out _ C1.out) (fun hHeld2 => ?_)
            clear hK K hHeld
            have hHeld := hHeld2
            clear hHeld2
            try simp only [Act.put, List.setIfInBounds_toArray, List.set_cons_zero, List.set_cons_succ]
            generalize Y0.alloc (.cells #[.int .i64 0, .int .i64 0] 54) = Y1 at *
            have HGA : Hid (wr.heap.size ≤ Y0.heap.size) := HY0.out
            have HGA1 : Hid (Y0.heap.size < Y1.heap.size) := by have := ZB.out; unfold Hid; omega
            generalize Y0.heap.size = ga at *
            clear ZB XB
            refine wpAnyH_ready (rs := [12]) (by kernel_rfl) (by simp) ?_
            refine AllReadyH.cons (o := { dst := some 13, op := Go.Op.alloc 54, type := 0, pos := "top04.go:74", after := #[], guard := none }) rfl (fun K hK => ?_) (AllReadyH.nil)
            have NBx := hide (bl_alloc Y1 #[.int .i64 0, .int .i64 0] 54)
            have XB := hide (new_below Y1 (.cells #[.int .i64 0, .int .i64 0] 54))
            have C2 := hide (chain C1.out XB.out)
            have ZB : Hid ((Y1.alloc (.cells #[.int .i64 0, .int .i64 0] 54)).heap.size = Y1.heap.size + 1) := by unfold Hid; simp
            go_simp
            try go_wp2_with fail
            refine hK.out _ _ (HCT.out _ C2.out) (fun hHeld2 => ?_)
            clear hK K hHeld
            have hHeld := hHeld2
            clear hHeld2
            try simp only [Act.put, List.setIfInBounds_toArray, List.set_cons_zero, List.set_cons_succ]
            generalize Y1.alloc (.cells #[.int .i64 0, .int .i64 0] 54) = Y2 at *
            have NA := hide (NA.out.below HGA1.out XB.out)
            have HGB : Hid (wr.heap.size ≤ Y1.heap.size) := C1.out.size
            have HNE : Hid (ga ≠ Y1.heap.size) := by have := HGA1.out; unfold Hid; omega
            generalize Y1.heap.size = gb at *
            clear ZB XB
            refine wpAnyH_ready (rs := [13]) (by kernel_rfl) (by simp) ?_
            refine AllReadyH.cons (o := { dst := none, op := Go.Op.store 54 (Go.Operand.tmp 12) (Go.Operand.tmp 107), type := 0, pos := "top04.go:74", after := #[{ on := 11, ground := Go.Ground.data }, { on := 5, ground := Go.Ground.data }, { on := 0, ground := Go.Ground.phase }, { on := 1, ground := Go.Ground.phase }, { on := 2, ground := Go.Ground.phase }, { on := 3, ground := Go.Ground.phase }, { on := 4, ground := Go.Ground.phase }, { on := 5, ground := Go.Ground.phase }, { on := 6, ground := Go.Ground.textOnly Go.Departure.lateStores }, { on := 7, ground := Go.Ground.textOnly Go.Departure.lateStores }, { on := 8, ground := Go.Ground.textOnly Go.Departure.lateStores }, { on := 9, ground := Go.Ground.textOnly Go.Departure.lateStores }, { on := 10, ground := Go.Ground.textOnly Go.Departure.lateStores }, { on := 11, ground := Go.Ground.phase }, { on := 12, ground := Go.Ground.phase }], guard := none }) rfl (fun K hK => ?_) (AllReadyH.nil)
            have s0 := NA.out.cell 0 _ rfl
            have s1 := NA.out.cell 1 _ rfl
            have f0 := NA.out.free 0
            have f1 := NA.out.free 1
            have C3 := hide ((C2.out.setCell (p := ⟨ga, 0, none⟩) HGA.out (.int .i64 x.proc)).setCell (p := ⟨ga, 1, none⟩) HGA.out (.int .i64 x.due))
            have N9 := hide ((NA.out.set (k := 0) (by simp) (.int .i64 x.proc)).set (k := 1) (by simp) (.int .i64 x.due))
            have NBx' := hide ((NBx.out.far (g' := ga) (k := 0) (u := .int .i64 x.proc) HNE.out).far (g' := ga) (k := 1) (u := .int .i64 x.due) HNE.out)
            go_simp
            try go_wp2_with fail
            clear s0 s1 f0 f1
            refine hK.out _ _ (HCT.out _ C3.out) (fun hHeld2 => ?_)
            clear hK K hHeld
            have hHeld := hHeld2
            clear hHeld2
            try simp only [Act.put, List.setIfInBounds_toArray, List.set_cons_zero, List.set_cons_succ]
            clear NA
            have NA := N9
            clear N9
            clear NBx
            have NBx := NBx'
            clear NBx'
            generalize (Y2.setCell ⟨ga, 0, none⟩ (.int .i64 x.proc)).setCell ⟨ga, 1, none⟩ (.int .i64 x.due) = Y3 at *
            refine wpAnyH_ready (rs := [14]) (by kernel_rfl) (by simp) ?_
            refine AllReadyH.cons (o := { dst := none, op := Go.Op.store 54 (Go.Operand.tmp 13) (Go.Operand.tmp 112), type := 0, pos := "top04.go:74", after := #[{ on := 12, ground := Go.Ground.data }, { on := 10, ground := Go.Ground.data }, { on := 13, ground := Go.Ground.chain }, { on := 0, ground := Go.Ground.phase }, { on := 1, ground := Go.Ground.phase }, { on := 2, ground := Go.Ground.phase }, { on := 3, ground := Go.Ground.phase }, { on := 4, ground := Go.Ground.phase }, { on := 5, ground := Go.Ground.phase }, { on := 6, ground := Go.Ground.phase }, { on := 7, ground := Go.Ground.phase }, { on := 8, ground := Go.Ground.phase }, { on := 9, ground := Go.Ground.phase }, { on := 10, ground := Go.Ground.phase }, { on := 11, ground := Go.Ground.phase }, { on := 12, ground := Go.Ground.phase }, { on := 13, ground := Go.Ground.phase }], guard := none }) rfl (fun K hK => ?_) (AllReadyH.nil)
            have s0 := NBx.out.cell 0 _ rfl
            have s1 := NBx.out.cell 1 _ rfl
            have f0 := NBx.out.free 0
            have f1 := NBx.out.free 1
            have C4 := hide ((C3.out.setCell (p := ⟨gb, 0, none⟩) HGB.out (.int .i64 y.proc)).setCell (p := ⟨gb, 1, none⟩) HGB.out (.int .i64 y.due))
            have N9 := hide ((NBx.out.set (k := 0) (by simp) (.int .i64 y.proc)).set (k := 1) (by simp) (.int .i64 y.due))
            have NA' := hide ((NA.out.far (g' := gb) (k := 0) (u := .int .i64 y.proc) (fun e => HNE.out e.symm)).far (g' := gb) (k := 1) (u := .int .i64 y.due) (fun e => HNE.out e.symm))
            go_simp
            try go_wp2_with fail
            clear s0 s1 f0 f1
            refine hK.out _ _ (HCT.out _ C4.out) (fun hHeld2 => ?_)
            clear hK K hHeld
            have hHeld := hHeld2
            clear hHeld2
            try simp only [Act.put, List.setIfInBounds_toArray, List.set_cons_zero, List.set_cons_succ]
            clear NBx
            have NBx := N9
            clear N9
            clear NA
            have NA := NA'
            clear NA'
            generalize (Y3.setCell ⟨gb, 0, none⟩ (.int .i64 y.proc)).setCell ⟨gb, 1, none⟩ (.int .i64 y.due) = Y4 at *
            have nx0 := NA.out.cell 0 _ rfl
            have nx1 := NA.out.cell 1 _ rfl
            have ny0 := NBx.out.cell 0 _ rfl
            have ny1 := NBx.out.cell 1 _ rfl
            have BW3 := hide (BR0.out.trans (C4.out.mono BR0.out.size))
            refine wpAnyH_done (by kernel_rfl) ?_ _
            rcases HORD.out with hlt1 | ⟨heq1, hpr⟩
            · have z1 : decide (y.due < x.due) = false := by simp; omega
              have z2 : (x.due == y.due) = false := by simp; omega
              clear hlt1
              go_wp2
              go_roundw
              case rel => exact ⟨j + 1, .inl (by omega), by go_num, BW3.out⟩
              case measure => simp [intOf]; omega
            · have z1 : decide (y.due < x.due) = false := by simp; omega
              have z2 : (x.due == y.due) = true := by simp [heq1]
              have z3 : decide (y.proc ≤ x.proc) = false := by simp; omega
              clear heq1 hpr
              go_wp2
              go_roundw
              case rel => exact ⟨j + 1, .inl (by omega), by go_num, BW3.out⟩
              case measure => simp [intOf]; omega
          · have NA := hide (bl_alloc Y0 #[.int .i64 0, .int .i64 0] 54)
            have XB := hide (new_below Y0 (.cells #[.int .i64 0, .int .i64 0] 54))
            have C1 := hide (chain C0.out XB.out)
            have ZB : Hid ((Y0.alloc (.cells #[.int .i64 0, .int .i64 0] 54)).heap.size = Y0.heap.size + 1) := by unfold Hid; simp
            go_simp
            try go_wp2_with fail
            refine hK.out _ _ (HCT.out _ C1.out) (fun hHeld2 => ?_)
            clear hK K hHeld
            have hHeld := hHeld2
            clear hHeld2
            try simp only [Act.put, List.setIfInBounds_toArray, List.set_cons_zero, List.set_cons_succ]
            generalize Y0.alloc (.cells #[.int .i64 0, .int .i64 0] 54) = Y1 at *
            have HGA : Hid (wr.heap.size ≤ Y0.heap.size) := HY0.out
            have HGA1 : Hid (Y0.heap.size < Y1.heap.size) := by have := ZB.out; unfold Hid; omega
            generalize Y0.heap.size = ga at *
            clear ZB XB
            refine wpAnyH_ready (rs := [11]) (by kernel_rfl) (by simp) ?_
            refine AllReadyH.cons (o := { dst := some 12, op := Go.Op.alloc 54, type := 0, pos := "top04.go:74", after := #[], guard := none }) rfl (fun K hK => ?_) (AllReadyH.nil)
            have NBx := hide (bl_alloc Y1 #[.int .i64 0, .int .i64 0] 54)
            have XB := hide (new_below Y1 (.cells #[.int .i64 0, .int .i64 0] 54))
            have C2 := hide (chain C1.out XB.out)
            have ZB : Hid ((Y1.alloc (.cells #[.int .i64 0, .int .i64 0] 54)).heap.size = Y1.heap.size + 1) := by unfold Hid; simp
            go_simp
            try go_wp2_with fail
            refine hK.out _ _ (HCT.out _ C2.out) (fun hHeld2 => ?_)
            clear hK K hHeld
            have hHeld := hHeld2
            clear hHeld2
            try simp only [Act.put, List.setIfInBounds_toArray, List.set_cons_zero, List.set_cons_succ]
            generalize Y1.alloc (.cells #[.int .i64 0, .int .i64 0] 54) = Y2 at *
            have NA := hide (NA.out.below HGA1.out XB.out)
            have HGB : Hid (wr.heap.size ≤ Y1.heap.size) := C1.out.size
            have HNE : Hid (ga ≠ Y1.heap.size) := by have := HGA1.out; unfold Hid; omega
            generalize Y1.heap.size = gb at *
            clear ZB XB
            refine wpAnyH_ready (rs := [13]) (by kernel_rfl) (by simp) ?_
            refine AllReadyH.cons (o := { dst := none, op := Go.Op.store 54 (Go.Operand.tmp 12) (Go.Operand.tmp 107), type := 0, pos := "top04.go:74", after := #[{ on := 11, ground := Go.Ground.data }, { on := 5, ground := Go.Ground.data }, { on := 0, ground := Go.Ground.phase }, { on := 1, ground := Go.Ground.phase }, { on := 2, ground := Go.Ground.phase }, { on := 3, ground := Go.Ground.phase }, { on := 4, ground := Go.Ground.phase }, { on := 5, ground := Go.Ground.phase }, { on := 6, ground := Go.Ground.textOnly Go.Departure.lateStores }, { on := 7, ground := Go.Ground.textOnly Go.Departure.lateStores }, { on := 8, ground := Go.Ground.textOnly Go.Departure.lateStores }, { on := 9, ground := Go.Ground.textOnly Go.Departure.lateStores }, { on := 10, ground := Go.Ground.textOnly Go.Departure.lateStores }, { on := 11, ground := Go.Ground.phase }, { on := 12, ground := Go.Ground.phase }], guard := none }) rfl (fun K hK => ?_) (AllReadyH.nil)
            have s0 := NBx.out.cell 0 _ rfl
            have s1 := NBx.out.cell 1 _ rfl
            have f0 := NBx.out.free 0
            have f1 := NBx.out.free 1
            have C3 := hide ((C2.out.setCell (p := ⟨gb, 0, none⟩) HGB.out (.int .i64 x.proc)).setCell (p := ⟨gb, 1, none⟩) HGB.out (.int .i64 x.due))
            have N9 := hide ((NBx.out.set (k := 0) (by simp) (.int .i64 x.proc)).set (k := 1) (by simp) (.int .i64 x.due))
            have NA' := hide ((NA.out.far (g' := gb) (k := 0) (u := .int .i64 x.proc) (fun e => HNE.out e.symm)).far (g' := gb) (k := 1) (u := .int .i64 x.due) (fun e => HNE.out e.symm))
            go_simp
            try go_wp2_with fail
            clear s0 s1 f0 f1
            refine hK.out _ _ (HCT.out _ C3.out) (fun hHeld2 => ?_)
            clear hK K hHeld
            have hHeld := hHeld2
            clear hHeld2
            try simp only [Act.put, List.setIfInBounds_toArray, List.set_cons_zero, List.set_cons_succ]
            clear NBx
            have NBx := N9
            clear N9
            clear NA
            have NA := NA'
            clear NA'
            generalize (Y2.setCell ⟨gb, 0, none⟩ (.int .i64 x.proc)).setCell ⟨gb, 1, none⟩ (.int .i64 x.due) = Y3 at *
            refine wpAnyH_ready (rs := [14]) (by kernel_rfl) (by simp) ?_
            refine AllReadyH.cons (o := { dst := none, op := Go.Op.store 54 (Go.Operand.tmp 13) (Go.Operand.tmp 112), type := 0, pos := "top04.go:74", after := #[{ on := 12, ground := Go.Ground.data }, { on := 10, ground := Go.Ground.data }, { on := 13, ground := Go.Ground.chain }, { on := 0, ground := Go.Ground.phase }, { on := 1, ground := Go.Ground.phase }, { on := 2, ground := Go.Ground.phase }, { on := 3, ground := Go.Ground.phase }, { on := 4, ground := Go.Ground.phase }, { on := 5, ground := Go.Ground.phase }, { on := 6, ground := Go.Ground.phase }, { on := 7, ground := Go.Ground.phase }, { on := 8, ground := Go.Ground.phase }, { on := 9, ground := Go.Ground.phase }, { on := 10, ground := Go.Ground.phase }, { on := 11, ground := Go.Ground.phase }, { on := 12, ground := Go.Ground.phase }, { on := 13, ground := Go.Ground.phase }], guard := none }) rfl (fun K hK => ?_) (AllReadyH.nil)
            have s0 := NA.out.cell 0 _ rfl
            have s1 := NA.out.cell 1 _ rfl
            have f0 := NA.out.free 0
            have f1 := NA.out.free 1
            have C4 := hide ((C3.out.setCell (p := ⟨ga, 0, none⟩) HGA.out (.int .i64 y.proc)).setCell (p := ⟨ga, 1, none⟩) HGA.out (.int .i64 y.due))
            have N9 := hide ((NA.out.set (k := 0) (by simp) (.int .i64 y.proc)).set (k := 1) (by simp) (.int .i64 y.due))
            have NBx' := hide ((NBx.out.far (g' := ga) (k := 0) (u := .int .i64 y.proc) HNE.out).far (g' := ga) (k := 1) (u := .int .i64 y.due) HNE.out)
            go_simp
            try go_wp2_with fail
            clear s0 s1 f0 f1
            refine hK.out _ _ (HCT.out _ C4.out) (fun hHeld2 => ?_)
            clear hK K hHeld
            have hHeld := hHeld2
            clear hHeld2
            try simp only [Act.put, List.setIfInBounds_toArray, List.set_cons_zero, List.set_cons_succ]
            clear NA
            have NA := N9
            clear N9
            clear NBx
            have NBx := NBx'
            clear NBx'
            generalize (Y3.setCell ⟨ga, 0, none⟩ (.int .i64 y.proc)).setCell ⟨ga, 1, none⟩ (.int .i64 y.due) = Y4 at *
            have nx0 := NBx.out.cell 0 _ rfl
            have nx1 := NBx.out.cell 1 _ rfl
            have ny0 := NA.out.cell 0 _ rfl
            have ny1 := NA.out.cell 1 _ rfl
            have BW3 := hide (BR0.out.trans (C4.out.mono BR0.out.size))
            refine wpAnyH_done (by kernel_rfl) ?_ _
            rcases HORD.out with hlt1 | ⟨heq1, hpr⟩
            · have z1 : decide (y.due < x.due) = false := by simp; omega
              have z2 : (x.due == y.due) = false := by simp; omega
              clear hlt1
              go_wp2
              go_roundw
              case rel => exact ⟨j + 1, .inl (by omega), by go_num, BW3.out⟩
              case measure => simp [intOf]; omega
            · have z1 : decide (y.due < x.due) = false := by simp; omega
              have z2 : (x.due == y.due) = true := by simp [heq1]
              have z3 : decide (y.proc ≤ x.proc) = false := by simp; omega
              clear heq1 hpr
              go_wp2
              go_roundw
              case rel => exact ⟨j + 1, .inl (by omega), by go_num, BW3.out⟩
              case measure => simp [intOf]; omega
        · have hge : decide ((j : Int) + 1 < (tn : Int)) = false := decide_eq_false (by omega)
          have hge' : decide (j + 1 < tn) = false := decide_eq_false (by omega)
          have B4 := hide hb.out
          clear hlt' hj
          have b0 := (BX.out.below hl1.out hb.out).cell 0 _ rfl
          have b1 := (BX.out.below hl1.out hb.out).cell 1 _ rfl
          go_wp2_with fail
          refine Calls.mono (pick_any (HE.out.below hb.out) pa pn pc l (HS.out.below hb.out) ra rn rc r (HI.out.below hb.out) ta tn tc t (HT.out.below hb.out) (by omega) (by omega) (by omega)) ?_
          rintro e w5 ⟨v, rfl, hv, x5⟩
          have B5 := hide (chain B4.out x5)
          clear x5 b0 b1 b2 hge hge'
          by_cases hre : r = []
          · have hE : pickE l r t = 17 := by rw [(pickE_good HGD.out).1]; exact if_pos hre
            rw [hE] at hv
            obtain rfl := bare_ne hv (by decide)
            have hrn : rn = 0 := by rw [← HLR.out, hre]; rfl
            subst hrn
            have b1 := (BX.out.below hl1.out B5.out).cell 1 _ rfl
            unfold sent
            go_wp2
            go_ret
            exact ⟨rfl, HB0.out.trans (B5.out.mono HB0.out.size)⟩
          · obtain ⟨hE, kk, q, hP, hq, hqs, hmax⟩ := pick_facts HGD.out hre
            rw [hE] at hv
            obtain rfl := bare0 hv
            rw [hP]
            have hrn : (0 : Nat) < rn := by rw [← HLR.out]; exact List.length_pos_iff.2 hre
            have hrn1 : ((rn : Int) == 0) = false := by simp; omega
            obtain ⟨b, off, rfl, hrq⟩ := (HS.out.below B5.out).at pro21 (by decide) hq
            have p17 := hrq 17 _ rfl
            have hkp : (kk : Int) < (pn : Int) := by have := (List.getElem?_eq_some_iff.1 hq).1; have := HL.out; omega
            have hk0 : (0 : Int) ≤ (kk : Int) := by omega
            have z0 : decide ((kk : Int) < 0) = false := by simp
            have z1 : decide ((pn : Int) ≤ (kk : Int)) = false := by simp; omega
            have z1' : decide (pn ≤ kk) = false := by simp; omega
            have z2 : (q.state != 1) = false := by simp [hqs]
            have b0 := (BX.out.below hl1.out B5.out).cell 0 _ rfl
            have b1 := (BX.out.below hl1.out B5.out).cell 1 _ rfl
            have HMAX := hide hmax
            have HQQ := hide hq
            clear hmax hq hqs hrq hre hv hE hP
            go_wp2
            clear p17 z0 z1 z1' z2 b0 b1
            go_loopw [168] (fun i wr => ∃ m : Nat, m ≤ rn ∧ i = .int .i64 (m : Int) ∧ Hid (Below W0.heap.size W0 wr)) (fun i _ => rn - (intOf i).toNat)
            case atStart => exact ⟨0, by omega, rfl, B5.out⟩
            case round =>
              obtain ⟨m, hm, rfl, hbm⟩ := hrel
              by_cases hml : m < rn
              · obtain ⟨x, hx⟩ : ∃ x, r[m]? = some x := ⟨_, List.getElem?_eq_getElem (by rw [HLR.out]; exact hml)⟩
                obtain ⟨kx, px, hpx, rfl, -⟩ := goodR_mem HGD.out.2.2.1 (List.mem_of_getElem? hx)
                have hle := HMAX.out _ (List.mem_of_getElem? hx)
                rw [prioAt_of hpx] at hle
                obtain ⟨b', off', rfl, hr⟩ := (HI.out.below hbm.out).at ci1 (by decide) hx
                have q0 := hr 0 _ rfl
                simp only [Nat.add_zero, Nat.mul_one] at q0
                obtain ⟨b2, off2, e2, hr2⟩ := (HS.out.below hbm.out).at pro21 (by decide) hpx
                simp only [Option.some.injEq, Addr.mk.injEq, and_true] at e2
                obtain ⟨rfl, rfl⟩ := e2
                obtain ⟨b3, off3, e3, hr3⟩ := (HS.out.below hbm.out).at pro21 (by decide) HQQ.out
                simp only [Option.some.injEq, Addr.mk.injEq, and_true] at e3
                obtain ⟨rfl, rfl⟩ := e3
                have p18 := hr2 18 _ rfl
                have q18 := hr3 18 _ rfl
                have b0 := (BX.out.below hl1.out hbm.out).cell 0 _ rfl
                have hm1 : (m : Int) < (rn : Int) := by omega
                have hkx : (kx : Int) < (pn : Int) := by have := (List.getElem?_eq_some_iff.1 hpx).1; have := HL.out; omega
                have hkx0 : (0 : Int) ≤ (kx : Int) := by omega
                have z3 : decide (q.prio < px.prio) = false := by simp; omega
                clear hr hr2 hr3 hx hpx hle
                go_upto_region 35 with fail
                go_quiet (fail)
                go_wp2
                go_roundw
                case rel => exact ⟨m + 1, by omega, by go_num, drewN_below hbm.out nq⟩
                case measure => simp [intOf]; omega
              · obtain rfl : rn = m := by omega
                go_wp2
                go_ret
                exact ⟨rfl, HB0.out.trans (hbm.out.mono HB0.out.size)⟩
end Go.Proofs.YtnjabidelpafgaaDoor
