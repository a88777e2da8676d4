/-
  The law ReadyTurns, walked.
-/
import Derived.Test.YtinhgcpehnjhbaaDoorRyLaw
import Derived.Test.YtinhgcpehnjhbaaDoorRyTop
namespace Go.Proofs.YtinhgcpehnjhbaaDoor.readyTurns
open Classical
open Go.RowKit
set_option linter.unusedVariables false
set_option linter.unusedSimpArgs false

/-- A list that lies in none of the bad blocks. -/
def Off (a : Option Addr) (len : Nat) (bad : Nat → Prop) : Prop := ∀ b off, a = some ⟨b, off, none⟩ → 0 < len → ¬ bad b
theorem rcs_off {α : Type} {f : α → List Value} {sz : Nat} {w : World} {a : Option Addr} {len cap : Nat} {l : List α} {bad : Nat → Prop} (h : Rcs f sz w a len cap l) (ho : Off a len bad) {g : Nat} (hg : bad g) (k : Nat) (u : Value) : Rcs f sz (w.setCell ⟨g, k, none⟩ u) a len cap l := by
  refine ⟨h.size, h.row.size, h.row.fit, h.row.null, fun j v hv => ?_⟩
  obtain ⟨b, off, ha, hc⟩ := h.row.cell j v hv
  have hj := (List.getElem?_eq_some_iff.1 hv).1
  have hl : 0 < len := by
    rw [h.row.size] at hj
    rcases Nat.eq_zero_or_pos len with e | e
    · rw [e] at hj; omega
    · exact e
  refine ⟨b, off, ha, ?_⟩
  rw [World.cell?_setCell_other _ _ _ _ (fun e => ho b off ha hl (by have := congrArg Addr.block e; simp only at this; rw [← this]; exact hg))]
  exact hc
theorem rcs_lt {α : Type} {f : α → List Value} {sz : Nat} (hf : ∀ x, (f x).length = sz) (h0 : 0 < sz) {w : World} {a : Option Addr} {len cap : Nat} {l : List α} (h : Rcs f sz w a len cap l) {b off : Nat} (ha : a = some ⟨b, off, none⟩) (hl : 0 < len) : b < w.heap.size := by
  obtain ⟨x, hx⟩ : ∃ x, l[0]? = some x := ⟨_, List.getElem?_eq_getElem (by rw [h.size]; exact hl)⟩
  obtain ⟨b', off', e, hc⟩ := h.at hf h0 hx
  rw [ha] at e
  simp only [Option.some.injEq, Addr.mk.injEq, and_true] at e
  obtain ⟨rfl, rfl⟩ := e
  obtain ⟨v, hv⟩ : ∃ v, (f x)[0]? = some v := ⟨_, List.getElem?_eq_getElem (by rw [hf x]; exact h0)⟩
  have := block_lt_of_cell (hc 0 v hv)
  exact this
theorem own_off {w : World} {base : Nat} {e : TypeId} {sz : Nat} {a : Option Addr} {n c m : Nat} {cs : List Value} (h : w.ownsRow base e sz (.slice a n c) m cs) {bad : Nat → Prop} (hb : ∀ k, base ≤ k → ¬ bad k) : Off a n bad := by
  intro b off ha _
  subst ha
  exact hb b (h.lt b rfl).1
/-- A table that lies in block nb, its lists in none of the bad blocks. -/
structure Now (w : World) (nb : Nat) (bad : Nat → Prop) (a1 : Option Addr) (n1 c1 : Nat) (a2 : Option Addr) (n2 c2 : Nat) (a3 : Option Addr) (n3 c3 : Nat) (l : List Pro) (r : List Int) (t : List Tm) : Prop where
  bl : Bl w nb [.slice a1 n1 c1, .slice a2 n2 c2, .slice a3 n3 c3]
  p : Pros w a1 n1 c1 l
  r : Is w a2 n2 c2 r
  t : Tms w a3 n3 c3 t
  o1 : Off a1 n1 bad
  o2 : Off a2 n2 bad
  o3 : Off a3 n3 bad
theorem Now.below {w w' : World} {nb : Nat} {bad : Nat → Prop} {a1 : Option Addr} {n1 c1 : Nat} {a2 : Option Addr} {n2 c2 : Nat} {a3 : Option Addr} {n3 c3 : Nat} {l : List Pro} {r : List Int} {t : List Tm} (h : Now w nb bad a1 n1 c1 a2 n2 c2 a3 n3 c3 l r t) (hn : nb < w.heap.size) (hb : Below w.heap.size w w') : Now w' nb bad a1 n1 c1 a2 n2 c2 a3 n3 c3 l r t :=
  ⟨h.bl.below hn hb, h.p.below hb, h.r.below hb, h.t.below hb, h.o1, h.o2, h.o3⟩
theorem Now.set {w : World} {nb : Nat} {bad : Nat → Prop} {a1 : Option Addr} {n1 c1 : Nat} {a2 : Option Addr} {n2 c2 : Nat} {a3 : Option Addr} {n3 c3 : Nat} {l : List Pro} {r : List Int} {t : List Tm} (h : Now w nb bad a1 n1 c1 a2 n2 c2 a3 n3 c3 l r t) {g : Nat} (hg : bad g) (hne : g ≠ nb) (k : Nat) (u : Value) : Now (w.setCell ⟨g, k, none⟩ u) nb bad a1 n1 c1 a2 n2 c2 a3 n3 c3 l r t :=
  ⟨h.bl.far hne, rcs_off h.p h.o1 hg k u, rcs_off h.r h.o2 hg k u, rcs_off h.t h.o3 hg k u, h.o1, h.o2, h.o3⟩
theorem Now.wide {w : World} {nb : Nat} {bad bad' : Nat → Prop} {a1 : Option Addr} {n1 c1 : Nat} {a2 : Option Addr} {n2 c2 : Nat} {a3 : Option Addr} {n3 c3 : Nat} {l : List Pro} {r : List Int} {t : List Tm} (h : Now w nb bad a1 n1 c1 a2 n2 c2 a3 n3 c3 l r t) (hb : ∀ k, k < w.heap.size → bad' k → bad k) : Now w nb bad' a1 n1 c1 a2 n2 c2 a3 n3 c3 l r t :=
  ⟨h.bl, h.p, h.r, h.t, fun b off ha hl hh => h.o1 b off ha hl (hb b (rcs_lt pro21 (by decide) h.p ha hl) hh), fun b off ha hl hh => h.o2 b off ha hl (hb b (rcs_lt ci1 (by decide) h.r ha hl) hh), fun b off ha hl hh => h.o3 b off ha hl (hb b (rcs_lt tm2 (by decide) h.t ha hl) hh)⟩
/-- Another table goes into the block. -/
theorem now_new {w w1 : World} {nb base : Nat} {bad : Nat → Prop} {x y z : Value} {a1 : Option Addr} {n1 c1 : Nat} {a2 : Option Addr} {n2 c2 : Nat} {a3 : Option Addr} {n3 c3 : Nat} {l : List Pro} {r : List Int} {t : List Tm} (hbl : Bl w1 nb [x, y, z]) (ht : Tab w base (.slice a1 n1 c1) (.slice a2 n2 c2) (.slice a3 n3 c3) l r t) (hb : Below w.heap.size w w1) (hbad : ∀ k, base ≤ k → ¬ bad k) (hn : bad nb) :
    Now (((w1.setCell ⟨nb, 0, none⟩ (.slice a1 n1 c1)).setCell ⟨nb, 1, none⟩ (.slice a2 n2 c2)).setCell ⟨nb, 2, none⟩ (.slice a3 n3 c3)) nb bad a1 n1 c1 a2 n2 c2 a3 n3 c3 l r t := by
  obtain ⟨_, _, e1, hps⟩ := prown_pros ht.p
  obtain ⟨_, _, e2, his⟩ := iown_is ht.r
  obtain ⟨_, _, e3, hts⟩ := town_tms ht.t
  have o1 := own_off ht.p hbad
  have o2 := own_off ht.r hbad
  have o3 := own_off ht.t hbad
  simp only [Value.slice.injEq] at e1 e2 e3
  obtain ⟨rfl, rfl, rfl⟩ := e1
  obtain ⟨rfl, rfl, rfl⟩ := e2
  obtain ⟨rfl, rfl, rfl⟩ := e3
  exact ⟨bl_three hbl _ _ _, rcs_off (rcs_off (rcs_off (hps.below hb) o1 hn _ _) o1 hn _ _) o1 hn _ _, rcs_off (rcs_off (rcs_off (his.below hb) o2 hn _ _) o2 hn _ _) o2 hn _ _, rcs_off (rcs_off (rcs_off (hts.below hb) o3 hn _ _) o3 hn _ _) o3 hn _ _, o1, o2, o3⟩
theorem bl_far3 {w : World} {g g' : Nat} {cs : List Value} {u v x : Value} (h : Bl w g cs) (hne : g' ≠ g) : Bl (((w.setCell ⟨g', 0, none⟩ u).setCell ⟨g', 1, none⟩ v).setCell ⟨g', 2, none⟩ x) g cs := ((h.far hne).far hne).far hne

set_option maxRecDepth 100000 in
set_option maxHeartbeats 4000000 in
theorem law (pa : Option Addr) (pn pc : Nat) (l : List Pro) (ra : Option Addr) (rn rc : Nat) (r : List Int) (ta : Option Addr) (tn tc : Nat) (t : List Tm) (w : World) {E : Nat → Addr} (he : Er9 w E) (hp : Pros w pa pn pc l) (hr : Is w ra rn rc r) (ht : Tms w ta tn tc t) (hmp : pn ≤ 9223372036854775807) (hmr : rn ≤ 9223372036854775807) (hmt : tn ≤ 9223372036854775807) :
    Calls Tryd.prog 5 #[.agg #[.slice pa pn pc, .slice ra rn rc, .slice ta tn tc]] w fun e w' => e = .returned (.bool true) ∧ Below w.heap.size w w' := by
  have X := new_below w (.cells #[.slice pa pn pc, .slice ra rn rc, .slice ta tn tc] 26)
  have BX0 : Hid (Bl (w.alloc (.cells #[.slice pa pn pc, .slice ra rn rc, .slice ta tn tc] 26)) w.heap.size [.slice pa pn pc, .slice ra rn rc, .slice ta tn tc]) := bl_alloc w #[.slice pa pn pc, .slice ra rn rc, .slice ta tn tc] 26
  have hz0 : Hid (w.heap.size < (w.alloc (.cells #[.slice pa pn pc, .slice ra rn rc, .slice ta tn tc] 26)).heap.size) := by unfold Hid; simp
  have B0 := hide X
  have HE0 := hide he
  have HS0 := hide hp
  have HI0 := hide hr
  have HT0 := hide ht
  have HL : Hid (l.length = pn) := hp.size
  have HLR : Hid (r.length = rn) := hr.size
  have HLT : Hid (t.length = tn) := ht.size
  clear X he hp hr ht
  go_enter Tryd.func5, Tryd.ntmps5
  go_upto_region 1 with fail
  generalize w.alloc (.cells #[.slice pa pn pc, .slice ra rn rc, .slice ta tn tc] 26) = W0 at *
  go_wp2_with fail
  refine Calls.mono (awake_any (HE0.out.below B0.out)) ?_
  rintro e w1 ⟨rfl, x1⟩
  have B1 := hide (B0.out.trans (x1.mono B0.out.size))
  have BX1 := hide (BX0.out.below hz0.out x1)
  have hz1 : Hid (w.heap.size < w1.heap.size) := Nat.lt_of_lt_of_le hz0.out x1.size
  clear x1
  have b0 := BX1.out.cell 0 _ rfl
  have b1 := BX1.out.cell 1 _ rfl
  have b2 := BX1.out.cell 2 _ rfl
  go_wp2_with fail
  refine Calls.mono (rrgood_any w1 pa pn pc l (HS0.out.below B1.out) ra rn rc r (HI0.out.below B1.out) ta tn tc t (HT0.out.below B1.out)) ?_
  rintro e w2 ⟨rfl, x2⟩
  have B2 := hide (chain B1.out x2)
  have BX2 := hide (BX1.out.below hz1.out x2)
  have hz2 : Hid (w.heap.size < w2.heap.size) := Nat.lt_of_lt_of_le hz1.out x2.size
  clear x2 b0 b1 b2 BX0 B0 hz0 BX1 B1 hz1
  have b0 := BX2.out.cell 0 _ rfl
  have b1 := BX2.out.cell 1 _ rfl
  have b2 := BX2.out.cell 2 _ rfl
  by_cases hg : Good l r t
  case neg =>
    rw [decide_eq_false hg]
    clear hg
    go_wp2
    go_ret
    exact ⟨rfl, B2.out⟩
  rw [decide_eq_true hg]
  by_cases hr0 : rn = 0
  · subst hr0
    clear hg
    go_wp2
    go_ret
    exact ⟨rfl, B2.out⟩
  have d0 : ((rn : Int) == 0) = false := by rw [beq_eq_false_iff_ne]; omega
  have HG := hide hg
  have hr8 : rn ≤ 8 := by rw [← HLR.out]; exact goodR_few hg.2.2.1 hg.1
  have hp8 : pn ≤ 8 := by rw [← HL.out]; exact hg.1
  have HIN := hide hg.2.2.1.1
  have HS := hide (HS0.out.below B2.out)
  have HI := hide (HI0.out.below B2.out)
  clear hg
  go_wp2
  clear d0
  go_loopw [3, 30] (fun mv i wr => ∃ k : Nat, k ≤ rn ∧ i = .int .i64 (k : Int) ∧ mv = .int .i64 (mxF l (r.take k)) ∧ wr = w2) (fun _ i _ => rn - (intOf i).toNat)
  case atStart => exact ⟨0, by omega, rfl, rfl, rfl⟩
  case round =>
    obtain ⟨k, hk, rfl, rfl, rfl⟩ := hrel
    by_cases hlt : k < rn
    · obtain ⟨y, hy⟩ : ∃ p, r[k]? = some p := ⟨_, List.getElem?_eq_getElem (by rw [HLR.out]; exact hlt)⟩
      obtain ⟨b, off, rfl, hc⟩ := HI.out.at ci1 (by decide) hy
      have q0 := hc 0 _ rfl
      simp only [Nat.add_zero, Nat.mul_one] at q0
      have hyi := HIN.out y (List.mem_of_getElem? hy)
      rw [HL.out] at hyi
      obtain ⟨yn, rfl⟩ := Int.eq_ofNat_of_zero_le hyi.1
      have y1 : (yn : Int) < (pn : Int) := hyi.2
      have hk1 : (k : Int) < (rn : Int) := by omega
      obtain ⟨p, hp⟩ : ∃ p, l[yn]? = some p := ⟨_, List.getElem?_eq_getElem (by rw [HL.out]; omega)⟩
      obtain ⟨c, o, rfl, hrp⟩ := HS.out.at pro21 (by decide) hp
      have p18 := hrp 18 _ rfl
      have HTK : Hid (mxF l (r.take (k + 1)) = if mxF l (r.take k) < p.prio then p.prio else mxF l (r.take k)) := by
        unfold Hid
        rw [mxF_take l hy]
        unfold mxS
        rw [prioAt_of hp]
      generalize mxF l (r.take k) = mm at *
      clear hc hy hyi hrp hp
      by_cases hgt : mm < p.prio
      · have d1 : decide (mm < p.prio) = true := decide_eq_true hgt
        rw [if_pos hgt] at HTK
        clear hgt
        go_wp2
        go_roundw
        case rel => exact ⟨k + 1, by omega, by go_num, by rw [HTK.out], trivial⟩
        case measure => simp [intOf]; omega
      · have d1 : decide (mm < p.prio) = false := decide_eq_false hgt
        rw [if_neg hgt] at HTK
        clear hgt
        go_wp2
        go_roundw
        case rel => exact ⟨k + 1, by omega, by go_num, by rw [HTK.out], trivial⟩
        case measure => simp [intOf]; omega
    obtain rfl : k = rn := by omega
    have HTr : Hid (r.take k = r) := by unfold Hid; rw [← HLR.out, List.take_length]
    rw [HTr.out]
    have HMX : Hid (∀ i ∈ r, prioAt l i ≤ mxF l r) := (mx_le l r (-1)).2
    generalize mxF l r = m at *
    go_wp2
    generalize wr = wq at *
    go_loopw [6, 52] (fun cv i wr => ∃ j : Nat, j ≤ k ∧ i = .int .i64 (j : Int) ∧ cv = .int .i64 ((topsOf l m (r.take j)).length : Int) ∧ wr = wq) (fun _ i _ => k - (intOf i).toNat)
    case atStart => exact ⟨0, by omega, rfl, rfl, rfl⟩
    case round =>
      obtain ⟨j, hj, rfl, rfl, rfl⟩ := hrel
      by_cases hlt : j < k
      · obtain ⟨y, hy⟩ : ∃ p, r[j]? = some p := ⟨_, List.getElem?_eq_getElem (by rw [HLR.out]; exact hlt)⟩
        obtain ⟨b, off, rfl, hc⟩ := HI.out.at ci1 (by decide) hy
        have q0 := hc 0 _ rfl
        simp only [Nat.add_zero, Nat.mul_one] at q0
        have hyi := HIN.out y (List.mem_of_getElem? hy)
        rw [HL.out] at hyi
        obtain ⟨yn, rfl⟩ := Int.eq_ofNat_of_zero_le hyi.1
        have y1 : (yn : Int) < (pn : Int) := hyi.2
        have hk1 : (j : Int) < (k : Int) := by omega
        obtain ⟨p, hp⟩ : ∃ p, l[yn]? = some p := ⟨_, List.getElem?_eq_getElem (by rw [HL.out]; omega)⟩
        obtain ⟨c, o, rfl, hrp⟩ := HS.out.at pro21 (by decide) hp
        have p18 := hrp 18 _ rfl
        have HTK : Hid ((topsOf l m (r.take (j + 1))).length = (topsOf l m (r.take j)).length + if p.prio = m then 1 else 0) := by
          unfold Hid
          rw [tops_take hy, prioAt_of hp]
        have hle : (topsOf l m (r.take j)).length ≤ j := Nat.le_trans (List.length_filter_le _ _) (by rw [List.length_take]; omega)
        generalize (topsOf l m (r.take j)).length = cn at *
        have hc8 : cn ≤ 8 := by omega
        clear hc hy hyi hrp hp
        by_cases hgt : p.prio = m
        · have d1 : (p.prio == m) = true := by simp [hgt]
          rw [if_pos hgt] at HTK
          clear hgt
          go_wp2
          go_roundw
          case rel => exact ⟨j + 1, by omega, by go_num, by rw [HTK.out]; go_num, trivial⟩
          case measure => simp [intOf]; omega
        · have d1 : (p.prio == m) = false := by simp [hgt]
          rw [if_neg hgt] at HTK
          clear hgt
          go_wp2
          go_roundw
          case rel => exact ⟨j + 1, by omega, by go_num, by rw [HTK.out]; rfl, trivial⟩
          case measure => simp [intOf]; omega
      obtain rfl : j = k := by omega
      rw [HTr.out]
      obtain ⟨T0, hT0⟩ : ∃ T, topsOf l m r = T := ⟨_, rfl⟩
      rw [hT0]
      have HTOP := hide hT0
      have HNd := hide (goodR_nodup HG.out.2.2.1)
      have HTn : Hid T0.Nodup := by unfold Hid; rw [← hT0]; exact HNd.out.sublist List.filter_sublist
      have HTm : Hid (∀ i ∈ T0, i ∈ r ∧ prioAt l i = m) := fun i hi => tops_mem (by rw [HTOP.out]; exact hi)
      have hn8' : T0.length ≤ 8 := by rw [← hT0]; exact Nat.le_trans (List.length_filter_le _ _) (by rw [HLR.out]; exact hr8)
      obtain ⟨n0, hn0⟩ : ∃ n, T0.length = n := ⟨_, rfl⟩
      rw [hn0] at hn8' ⊢
      have HN0 := hide hn0
      have HBd : Hid (∀ (rr : List Int), rr.Perm r → (∀ i ∈ rr, prioAt l i ≤ m)) := fun rr hp i hi => HMX.out i (hp.mem_iff.1 hi)
      clear hT0 hn0
      have hb2 := B2.out.size
      go_wp2_with fail
      refine Calls.mono (to_any wr _ _ _ ⟨_, _, _, rfl⟩ ⟨_, _, _, rfl⟩ ⟨_, _, _, rfl⟩) ?_
      rintro e w3 ⟨rfl, x3⟩
      have X4 := new_below w3 (.cells #[.slice pa pn pc, .slice ra j rc, .slice ta tn tc] 29)
      have x4 := chain x3 X4
      have B4 := hide (chain B2.out x4)
      have BX4 := hide (BX2.out.below hz2.out x4)
      have hw3 : Hid (w.heap.size < w3.heap.size) := Nat.lt_of_lt_of_le hz2.out x3.size
      have NW : Hid (Now (w3.alloc (.cells #[.slice pa pn pc, .slice ra j rc, .slice ta tn tc] 29)) w3.heap.size (fun b => b = w3.heap.size) pa pn pc ra j rc ta tn tc l r t) :=
        ⟨bl_alloc w3 #[.slice pa pn pc, .slice ra j rc, .slice ta tn tc] 29, HS0.out.below B4.out, HI0.out.below B4.out, HT0.out.below B4.out, fun b off ha hl e => by have := rcs_lt pro21 (by decide) HS0.out ha hl; have := hw3.out; omega, fun b off ha hl e => by have := rcs_lt ci1 (by decide) HI0.out ha hl; have := hw3.out; omega, fun b off ha hl e => by have := rcs_lt tm2 (by decide) HT0.out ha hl; have := hw3.out; omega⟩
      have hz4 : Hid (w3.heap.size < (w3.alloc (.cells #[.slice pa pn pc, .slice ra j rc, .slice ta tn tc] 29)).heap.size) := by unfold Hid; simp
      clear x3 X4 x4 b0 b1 b2 hb2
      go_upto_region 20 with fail
      generalize w3.alloc (.cells #[.slice pa pn pc, .slice ra j rc, .slice ta tn tc] 29) = W3 at *
      generalize w3.heap.size = nb at *
      clear HS HI BX2 hz2 B2
      go_wp2
      go_loopw [10] (fun q wz => ∃ (qn : Nat) (rr : List Int) (a1 : Option Addr) (n1 c1 : Nat) (a2 : Option Addr) (n2 c2 : Nat) (a3 : Option Addr) (n3 c3 : Nat), qn ≤ 2 ∧ q = .int .i64 (qn : Int) ∧ Hid (rr.Perm r) ∧ Hid (topsOf l m rr = T0) ∧ Hid (Now wz nb (fun b => b = nb) a1 n1 c1 a2 n2 c2 a3 n3 c3 l rr t) ∧ Hid (Bl wz w.heap.size [.slice pa pn pc, .slice ra j rc, .slice ta tn tc]) ∧ Hid (nb < wz.heap.size) ∧ Hid (Below w.heap.size w wz)) (fun q _ => 2 - (intOf q).toNat)
      case atStart => exact ⟨0, r, _, _, _, _, _, _, _, _, _, by omega, rfl, List.Perm.refl _, HTOP.out, NW.out, BX4.out, hz4.out, B4.out⟩
      case round =>
        obtain ⟨qn, rr, a1, n1, c1, a2, n2, c2, a3, n3, c3, hq, rfl, hperm, htop, hnow, hbx, hnb, hb⟩ := hrel
        by_cases hq2 : qn < 2
        case neg =>
          obtain rfl : qn = 2 := by omega
          go_wp2
          go_ret
          exact ⟨rfl, hb.out⟩
        have hq1 : (qn : Int) < 2 := by omega
        have X5 := new_below wr (.cells #[.bool false, .bool false, .bool false, .bool false, .bool false, .bool false, .bool false, .bool false] 61)
        have HZ : Hid (Bl (wr.alloc (.cells #[.bool false, .bool false, .bool false, .bool false, .bool false, .bool false, .bool false, .bool false] 61)) wr.heap.size (seenI [])) := by
          have := bl_alloc wr #[.bool false, .bool false, .bool false, .bool false, .bool false, .bool false, .bool false, .bool false] 61
          have e : (#[.bool false, .bool false, .bool false, .bool false, .bool false, .bool false, .bool false, .bool false] : Array Value).toList = seenI [] := rfl
          rw [e] at this
          exact this
        have N5 := hide ((hnow.out.wide (bad' := fun b => b = nb ∨ b = wr.heap.size) (fun k hk h => by rcases h with h | h; exact h; omega)).below hnb.out X5)
        have BX5 := hide (hbx.out.below (Nat.lt_trans hw3.out hnb.out) X5)
        have B5 := hide (chain hb.out X5)
        have hz5 : Hid (wr.heap.size < (wr.alloc (.cells #[.bool false, .bool false, .bool false, .bool false, .bool false, .bool false, .bool false, .bool false] 61)).heap.size) := by unfold Hid; simp
        clear X5 hnow hbx hb
        go_wp2
        generalize wr.alloc (.cells #[.bool false, .bool false, .bool false, .bool false, .bool false, .bool false, .bool false, .bool false] 61) = W5 at *
        generalize wr.heap.size = sb at *
        go_loopw [12] (fun i wz => ∃ (k : Nat) (rr : List Int) (a1 : Option Addr) (n1 c1 : Nat) (a2 : Option Addr) (n2 c2 : Nat) (a3 : Option Addr) (n3 c3 : Nat), k ≤ n0 ∧ i = .int .i64 (k : Int) ∧ Hid (rr.Perm r) ∧ Hid (topsOf l m rr = T0.drop k ++ T0.take k) ∧ Hid (Now wz nb (fun b => b = nb ∨ b = sb) a1 n1 c1 a2 n2 c2 a3 n3 c3 l rr t) ∧ Hid (Bl wz sb (seenI (T0.take k))) ∧ Hid (Bl wz w.heap.size [.slice pa pn pc, .slice ra j rc, .slice ta tn tc]) ∧ Hid (sb < wz.heap.size) ∧ Hid (Below w.heap.size w wz)) (fun i _ => n0 - (intOf i).toNat)
        case atStart => exact ⟨0, rr, a1, n1, c1, a2, n2, c2, a3, n3, c3, by omega, rfl, hperm.out, by unfold Hid; rw [htop.out]; simp, N5.out, HZ.out, BX5.out, hz5.out, B5.out⟩
        case round =>
          clear hperm htop N5 HZ BX5 hz5 B5
          obtain ⟨k, rr, a1, n1, c1, a2, n2, c2, a3, n3, c3, hk, rfl, hperm, htop, hnow, hsn, hbx, hsb, hb⟩ := hrel
          by_cases hlt : k < n0
          case neg =>
            obtain rfl : k = n0 := by omega
            have HTT : Hid (topsOf l m rr = T0) := by
              unfold Hid
              rw [htop.out, ← HN0.out, List.drop_length, List.take_length]
              rfl
            have NX := hide (hnow.out.wide (bad' := fun b => b = nb) (fun _ _ h => .inl h))
            have hnb2 : Hid (nb < wr.heap.size) := Nat.lt_trans hnb.out hsb.out
            go_wp2
            go_roundw
            case rel => exact ⟨qn + 1, rr, a1, n1, c1, a2, n2, c2, a3, n3, c3, by omega, by go_num, hperm.out, HTT.out, NX.out, hbx.out, hnb2.out, hb.out⟩
            case measure => simp [intOf]; omega
          have HGR := hide (good_perm HG.out hperm.out)
          obtain ⟨y, hy⟩ : ∃ y, T0[k]? = some y := ⟨_, List.getElem?_eq_getElem (by rw [HN0.out]; exact hlt)⟩
          have hkT : k < T0.length := (List.getElem?_eq_some_iff.1 hy).1
          have hdk : T0.drop k = y :: T0.drop (k + 1) := by
            rw [List.drop_eq_getElem_cons hkT, (List.getElem?_eq_some_iff.1 hy).2]
          have HTy : Hid (topsOf l m rr = y :: (T0.drop (k + 1) ++ T0.take k)) := by unfold Hid; rw [htop.out, hdk]; rfl
          have HPK := hide (pick_top HGR.out (HBd.out rr hperm.out) HTy.out)
          have hyT := HTm.out y (List.mem_of_getElem? hy)
          obtain ⟨yn, p, hp, rfl, hst⟩ := goodR_mem HG.out.2.2.1 hyT.1
          have hpm : p.prio = m := by rw [← hyT.2, prioAt_of hp]
          have HTK := hide (take_snoc hy)
          have HNS : Hid (inL (T0.take k) yn = false) := by
            have h1 := HTn.out.sublist (List.take_sublist (k + 1) T0)
            rw [HTK.out, nodup_snoc] at h1
            exact decide_eq_false h1.2
          have hyp : yn < pn := by have := (List.getElem?_eq_some_iff.1 hp).1; rw [HL.out] at this; exact this
          have HNX : Hid (topsOf l m (yldR rr (yn : Int)) = T0.drop (k + 1) ++ T0.take (k + 1)) := by
            unfold Hid yldR
            rw [tops_yield (goodR_nodup HGR.out.2.2.1) HTy.out, HTK.out, List.append_assoc]
          have HPX : Hid ((yldR rr (yn : Int)).Perm r) := (yield_perm (goodR_nodup HGR.out.2.2.1) (hperm.out.mem_iff.2 hyT.1)).trans hperm.out
          have HOK : Hid (OkP l (yn : Int) [1]) := ⟨by omega, by rw [HL.out]; omega, by rw [stateAt_of hp, hst]; simp⟩
          have HPp := hide hp
          have n1b : Hid (n1 ≤ 9223372036854775807) := by have := hnow.out.p.size; have := HL.out; unfold Hid; omega
          have n2b : Hid (n2 ≤ 9223372036854775807) := by have := hnow.out.r.size; have := hperm.out.length_eq; have := HLR.out; unfold Hid; omega
          have n3b : Hid (n3 ≤ 9223372036854775807) := by have := hnow.out.t.size; have := HLT.out; unfold Hid; omega
          have hk1 : (k : Int) < (n0 : Int) := by omega
          have HE5 := hide (HE0.out.below hb.out)
          have hnbw : Hid (nb < wr.heap.size) := Nat.lt_trans hnb.out hsb.out
          have m0 := hnow.out.bl.cell 0 _ rfl
          have m1 := hnow.out.bl.cell 1 _ rfl
          have m2 := hnow.out.bl.cell 2 _ rfl
          have HPM := hide hpm
          have HST := hide hst
          clear hy hkT hdk hyT hp hst hpm
          go_wp2_with fail
          refine Calls.mono (pick_any HE5.out a1 n1 c1 l hnow.out.p a2 n2 c2 rr hnow.out.r a3 n3 c3 t hnow.out.t n1b.out n2b.out n3b.out) ?_
          rintro e w5 ⟨v, rfl, hv, x5⟩
          rw [HPK.out.1]
          rw [HPK.out.2] at hv
          obtain rfl := bare0 hv
          have N5 := hide (hnow.out.below hnbw.out x5)
          have S5 := hide (hsn.out.below hsb.out x5)
          have BX5 := hide (hbx.out.below (Nat.lt_trans (Nat.lt_trans hw3.out hnb.out) hsb.out) x5)
          have B5 := hide (chain hb.out x5)
          have hsb5 : Hid (sb < w5.heap.size) := Nat.lt_of_lt_of_le hsb.out x5.size
          clear hv x5 m0 m1 m2
          have c0 := BX5.out.cell 0 _ rfl
          obtain ⟨cb, co, epa, hrp⟩ := (HS0.out.below B5.out).at pro21 (by decide) HPp.out
          subst epa
          have p17 := hrp 17 _ rfl
          have p18 := hrp 18 _ rfl
          have hy8 : yn < 8 := by omega
          have s0 := S5.out.cell yn _ (seenI_at _ hy8)
          rw [HNS.out] at s0
          have f0 := S5.out.free yn
          have d1 : decide ((yn : Int) < 0) = false := decide_eq_false (by omega)
          have d2 : decide ((pn : Int) ≤ (yn : Int)) = false := decide_eq_false (by omega)
          have d2n : decide (pn ≤ yn) = false := decide_eq_false (by omega)
          have d2m : ¬ pn ≤ yn := by omega
          have d3 : decide ((7 : Int) < (yn : Int)) = false := decide_eq_false (by omega)
          have d3n : decide (7 < yn) = false := decide_eq_false (by omega)
          have d3m : ¬ 7 < yn := by omega
          have d4 : (p.prio != m) = false := by simp [HPM.out]
          have d5 : (p.state != 1) = false := by simp [HST.out]
          have y0 : (0 : Int) ≤ (yn : Int) := by omega
          have y1 : (yn : Int) < (pn : Int) := by omega
          have y8 : (yn : Int) < 8 := by omega
          have bl2 := S5.out.set (k := yn) (by rw [seenI_len]; exact hy8) (.bool true)
          rw [seenI_next _ hy8, ← HTK.out] at bl2
          have S6 := hide bl2
          have N6 := hide (N5.out.set (g := sb) (.inr rfl) (by have := hnb.out; omega) yn (.bool true))
          have BX6 := hide (BX5.out.far (g' := sb) (k := yn) (u := .bool true) (by have := hw3.out; have := hnb.out; omega))
          have B6 := hide (B5.out.setCell (p := ⟨sb, yn, none⟩) (by show w.heap.size ≤ sb; have := hw3.out; have := hnb.out; omega) (.bool true))
          have hsb6 : Hid (sb < (w5.setCell ⟨sb, yn, none⟩ (.bool true)).heap.size) := by unfold Hid; simp [World.setCell]; exact hsb5.out
          clear bl2 hrp
          go_upto_region 31 with fail
          clear c0 p17 p18 s0 f0 d1 d2 d2n d2m d3 d3n d3m d4 d5 N5 S5 BX5 B5 hsb5
          generalize w5.setCell ⟨sb, yn, none⟩ (.bool true) = W6 at *
          have m0 := N6.out.bl.cell 0 _ rfl
          have m1 := N6.out.bl.cell 1 _ rfl
          have m2 := N6.out.bl.cell 2 _ rfl
          go_wp2_with fail
          refine Calls.mono (yield_any (HE0.out.below B6.out) a1 n1 c1 l N6.out.p a2 n2 c2 rr N6.out.r a3 n3 c3 t N6.out.t n1b.out n2b.out n3b.out (yn : Int)) ?_
          rintro e w7 ⟨a4, n4, c4, a5, n5, c5, a6, n6, c6, v, rfl, hv, htab, x7⟩
          have hE : ofE (Good l rr t) (OkP l (yn : Int) [1]) = 0 := by unfold ofE; rw [if_pos HGR.out, if_pos HOK.out]
          have hT1 : ownT (Good l rr t ∧ OkP l (yn : Int) [1]) l = l := if_pos ⟨HGR.out, HOK.out⟩
          have hT2 : ownT (Good l rr t ∧ OkP l (yn : Int) [1]) (yldR rr (yn : Int)) = yldR rr (yn : Int) := if_pos ⟨HGR.out, HOK.out⟩
          have hT3 : ownT (Good l rr t ∧ OkP l (yn : Int) [1]) t = t := if_pos ⟨HGR.out, HOK.out⟩
          rw [hE] at hv
          rw [hT1, hT2, hT3] at htab
          obtain rfl := bare0 hv
          have X8 := new_below w7 (.cells #[.slice a4 n4 c4, .slice a5 n5 c5, .slice a6 n6 c6] 29)
          have x8 := chain x7 X8
          have hnb6 : nb < W6.heap.size := by have := hnb.out; have := hsb6.out; omega
          have NB8 := N6.out.bl.below hnb6 x8
          have U8 : Hid (Bl (w7.alloc (.cells #[.slice a4 n4 c4, .slice a5 n5 c5, .slice a6 n6 c6] 29)) w7.heap.size [.slice a4 n4 c4, .slice a5 n5 c5, .slice a6 n6 c6]) := bl_alloc w7 #[.slice a4 n4 c4, .slice a5 n5 c5, .slice a6 n6 c6] 29
          have N9 := hide (now_new (bad := fun b => b = nb ∨ b = sb) NB8 htab X8 (fun k' hk' h => by have := hsb6.out; rcases h with h | h <;> omega) (.inl rfl))
          have S9 := hide (bl_far3 (g' := nb) (u := .slice a4 n4 c4) (v := .slice a5 n5 c5) (x := .slice a6 n6 c6) (S6.out.below hsb6.out x8) (by have := hnb.out; omega))
          have hbx6 : w.heap.size < W6.heap.size := by have := hw3.out; omega
          have BX9 := hide (bl_far3 (g' := nb) (u := .slice a4 n4 c4) (v := .slice a5 n5 c5) (x := .slice a6 n6 c6) (BX6.out.below hbx6 x8) (by have := hw3.out; omega))
          have B9 := hide (below3 (g := nb) (.slice a4 n4 c4) (.slice a5 n5 c5) (.slice a6 n6 c6) (chain B6.out x8) (by have := hw3.out; omega))
          have hsb9 : Hid (sb < ((((w7.alloc (.cells #[.slice a4 n4 c4, .slice a5 n5 c5, .slice a6 n6 c6] 29)).setCell ⟨nb, 0, none⟩ (.slice a4 n4 c4)).setCell ⟨nb, 1, none⟩ (.slice a5 n5 c5)).setCell ⟨nb, 2, none⟩ (.slice a6 n6 c6)).heap.size) := by
            unfold Hid
            have h1 := hsb6.out
            have h2 := x7.size
            simp [World.setCell]
            omega
          have NBH := hide NB8
          clear hE hT1 hT2 hT3 hv htab X8 x8 x7 NB8 m0 m1 m2 hnb6 hbx6
          go_upto_region 32 with fail
          generalize w7.alloc (.cells #[.slice a4 n4 c4, .slice a5 n5 c5, .slice a6 n6 c6] 29) = W8 at *
          generalize w7.heap.size = ub at *
          have g0 := NBH.out.cell 0 _ rfl
          have g1 := NBH.out.cell 1 _ rfl
          have g2 := NBH.out.cell 2 _ rfl
          have f0 := NBH.out.free 0
          have f1 := NBH.out.free 1
          have f2 := NBH.out.free 2
          have u0 := U8.out.cell 0 _ rfl
          have u1 := U8.out.cell 1 _ rfl
          have u2 := U8.out.cell 2 _ rfl
          go_wp2
          go_roundw
          case rel => exact ⟨k + 1, yldR rr (yn : Int), a4, n4, c4, a5, n5, c5, a6, n6, c6, by omega, by go_num, HPX.out, HNX.out, N9.out, S9.out, BX9.out, hsb9.out, B9.out⟩
          case measure => simp [intOf]; omega
end Go.Proofs.YtinhgcpehnjhbaaDoor.readyTurns
