/-
  Walk of the law TimerRelative.
-/
import Derived.Test.YtahdaodikpblnaaDoorTmLaw
import Derived.Test.YtahdaodikpblnaaDoorTmShift
import Derived.Test.YtahdaodikpblnaaDoorTmsOpen
import Derived.Test.YtahdaodikpblnaaDoorTimerOneWalk
import Derived.Deep.Cut
namespace Go.Proofs.YtahdaodikpblnaaDoor.timerRelative
open Classical
open Go.RowKit
set_option linter.unusedVariables false
set_option linter.unusedSimpArgs false

theorem sh_map_proc (n : Int) (l : List Tm) : (l.map (sh n)).map Tm.proc = l.map Tm.proc := by
  rw [List.map_map]
  rfl
theorem sh_form {l : List Tm} {n : Int} (h : Form l 8) (hn : ShiftOk n) : InR (l.map (sh n)) 8 ∧ Nod (l.map (sh n)) := by
  refine ⟨fun t ht => ?_, ?_⟩
  · obtain ⟨u, hu, rfl⟩ := List.mem_map.1 ht
    have := h.1 u hu
    have h1 := this.1
    have h2 := this.2.1
    have h3 := this.2.2.1
    have h4 := this.2.2.2
    have h5 := hn.1
    unfold Tm.In sh
    simp
    omega
  · unfold Nod
    rw [sh_map_proc]
    exact h.2.1
theorem fired_sh (l : List Tm) {n now : Int} (h0 : 0 ≤ now) : (fired (l.map (sh n)) now).map Tm.proc = (fired l (now + n)).map Tm.proc := by
  unfold fired
  rw [List.filter_map, List.map_map]
  have : (List.filter ((fun t : Tm => decide (t.due ≤ now)) ∘ sh n) l) = List.filter (fun t => decide (t.due ≤ now + n)) l := List.filter_congr fun t _ => by
    have h1 : max (t.due - n) 0 ≤ now ↔ t.due ≤ now + n := by
      rw [Int.max_def]
      split <;> omega
    exact decide_eq_decide.2 h1
  rw [this]
  rfl
theorem fired_perm {l l' : List Tm} (h : l.Perm l') (now : Int) : ((fired l now).map Tm.proc).Perm ((fired l' now).map Tm.proc) := (h.filter _).map _
theorem sh_ord {l : List Tm} {n : Int} (h : Ord l) (hd : ∀ t ∈ l, n ≤ t.due) : Ord (l.map (sh n)) := by
  unfold Ord
  rw [List.pairwise_map]
  refine h.imp_of_mem fun {a b} ha hb hab => ?_
  rw [Tm.le_iff] at *
  have h1 := hd a ha
  have h2 := hd b hb
  simp [sh]
  omega

/-- What the counts hold. -/
def cC (A B : List Int) : List Value := (List.range 8).map fun (i : Nat) => .int .i64 ((A.count (i : Int) : Int) - (B.count (i : Int) : Int))
theorem cC_len (A B : List Int) : (cC A B).length = 8 := by simp [cC]
theorem cC_at (A B : List Int) {i : Nat} (h : i < 8) : (cC A B)[i]? = some (.int .i64 ((A.count (i : Int) : Int) - (B.count (i : Int) : Int))) := by simp [cC, h]
theorem cC_up (A B : List Int) {x : Nat} (h : x < 8) : (cC A B).set x (.int .i64 ((A.count (x : Int) : Int) - (B.count (x : Int) : Int) + 1)) = cC (A ++ [(x : Int)]) B := by
  refine List.ext_getElem? fun j => ?_
  by_cases hj : j < 8
  · rw [cC_at _ _ hj]
    by_cases e : j = x
    · subst e
      rw [List.getElem?_set_self (by rw [cC_len]; exact hj), List.count_append]
      simp
      omega
    · rw [List.getElem?_set_ne (Ne.symm e), cC_at _ _ hj, List.count_append]
      have : List.count (j : Int) [(x : Int)] = 0 := List.count_eq_zero.2 (by simp; omega)
      rw [this]
      simp
  · rw [List.getElem?_eq_none (by rw [List.length_set, cC_len]; omega), List.getElem?_eq_none (by rw [cC_len]; omega)]
theorem cC_down (A B : List Int) {x : Nat} (h : x < 8) : (cC A B).set x (.int .i64 ((A.count (x : Int) : Int) - (B.count (x : Int) : Int) - 1)) = cC A (B ++ [(x : Int)]) := by
  refine List.ext_getElem? fun j => ?_
  by_cases hj : j < 8
  · rw [cC_at _ _ hj]
    by_cases e : j = x
    · subst e
      rw [List.getElem?_set_self (by rw [cC_len]; exact hj), List.count_append]
      simp
      omega
    · rw [List.getElem?_set_ne (Ne.symm e), cC_at _ _ hj, List.count_append]
      have : List.count (j : Int) [(x : Int)] = 0 := List.count_eq_zero.2 (by simp; omega)
      rw [this]
      simp
  · rw [List.getElem?_eq_none (by rw [List.length_set, cC_len]; omega), List.getElem?_eq_none (by rw [cC_len]; omega)]
theorem cC_zero {A B : List Int} (h : A.Perm B) {i : Nat} (hi : i < 8) : (cC A B)[i]? = some (.int .i64 0) := by
  rw [cC_at _ _ hi, h.count_eq]
  simp

theorem and7 {p : Nat} (h : p < 8) : bits .and .i64 (p : Int) 7 = (p : Int) := by
  have hn : p = 0 ∨ p = 1 ∨ p = 2 ∨ p = 3 ∨ p = 4 ∨ p = 5 ∨ p = 6 ∨ p = 7 := by omega
  rcases hn with rfl | rfl | rfl | rfl | rfl | rfl | rfl | rfl <;> decide
theorem neq_zero (w : World) : (binOp .neq 44 (.agg #[.int .i64 0, .int .i64 0, .int .i64 0, .int .i64 0, .int .i64 0, .int .i64 0, .int .i64 0, .int .i64 0]) (.agg #[.int .i64 0, .int .i64 0, .int .i64 0, .int .i64 0, .int .i64 0, .int .i64 0, .int .i64 0, .int .i64 0])).run Tryd.prog w = .ok (.bool false) w := by
  kernel_rfl
theorem first_least {l : List Tm} {t : Tm} (h : Ord l) (ht : l[0]? = some t) {n : Int} (hn : n ≤ t.due) : ∀ u ∈ l, n ≤ u.due := by
  cases l with
  | nil => simp at ht
  | cons x l =>
    simp at ht
    subst ht
    intro u hu
    rcases List.mem_cons.1 hu with rfl | hu
    · exact hn
    · have := (Tm.le_iff _ _).1 ((List.pairwise_cons.1 h).1 u hu)
      omega
theorem take_snoc {A : List Int} {k : Nat} {x : Int} (h : A[k]? = some x) : A.take (k + 1) = A.take k ++ [x] := by
  rw [List.take_add_one, h]
  rfl
theorem wrap_small (n : Int) (h0 : -100 ≤ n) (h1 : n ≤ 100) : wrap64 n = n := by
  rw [← IntWalk.i64_left, IntKind.wrap_i64]
  omega

set_option maxRecDepth 100000 in
set_option maxHeartbeats 2000000 in
theorem body {w : World} {E : Nat → Addr} (he : Er3 w E) (a : Option Addr) (len cap : Nat) (l : List Tm) (hs : Tms w a len cap l) (ticks now T0 T nw NT : Int) (hm : len ≤ 8796093021952)
    (et : wrap64 ((IntKind.u64.wrap ticks).tmod 10000) = T0) (et2 : wrap64 (1 + T0) = T) (en : wrap64 ((IntKind.u64.wrap now).tmod 1010001) = nw) (ent : wrap64 (nw + T) = NT) (hT : ShiftOk T) (h0 : 0 ≤ nw) (hNT : NT = nw + T) :
    Calls Tryd.prog 5 #[.slice a len cap, .int .i64 ticks, .int .i64 now] w fun e w' => e = .returned (.bool true) ∧ Below w.heap.size w w' := by
  have HS := hide hs
  have HE := hide he
  have HF : Hid (Form (srt (pick l)) 8) := form_srt (pick_form l).1 (pick_form l).2
  have HT := hide hT
  have H0 := hide h0
  have HNT := hide hNT
  clear hs he hT h0 hNT
  go_enter Tryd.func5, Tryd.ntmps5
  go_wp2_with fail
  refine Calls.mono (formed_any HE.out a len cap l HS.out (by omega)) ?_
  rintro e w1 ⟨x1, rfl, h1, b1⟩
  generalize srt (pick l) = L at *
  obtain ⟨a1, c1, rfl, t1⟩ := town_tms h1
  have T1 := hide t1
  have B1 := hide b1
  clear h1 b1 t1
  have H8 : Hid (L.length ≤ 8) := HF.out.2.1.few HF.out.1
  have hsf := sh_form HF.out HT.out
  have HSE : Hid (shiftE L T = 0 ∧ shiftL L T = srt (L.map (sh T))) := ⟨by unfold shiftE; rw [if_neg (by simpa using HF.out), if_neg (by simpa using HT.out)], by unfold shiftL; rw [if_pos ⟨HF.out, HT.out⟩]⟩
  have HG : Hid (Form (srt (L.map (sh T))) 8) := form_srt hsf.1 hsf.2
  have HPN : Hid ((srt (L.map (sh T))).Perm (L.map (sh T))) := srt_perm _
  have HLN : Hid ((srt (L.map (sh T))).length = L.length) := by unfold Hid; rw [srt_len, List.length_map]
  have HON : Hid ((∀ t ∈ L, T ≤ t.due) → srt (L.map (sh T)) = L.map (sh T)) := fun h => srt_of (sh_ord HF.out.2.2 h)
  clear hsf
  go_wp2_with fail
  refine Calls.mono (known_any (HE.out.below B1.out)) ?_
  rintro e w2 ⟨rfl, b2⟩
  have T1 := hide (T1.out.below b2)
  have B2 := hide (chain B1.out b2)
  clear b2 B1
  go_wp2_with fail
  refine Calls.mono (copied_any w2 a1 _ c1 L T1.out (by have := H8.out; omega)) ?_
  rintro e w3 ⟨x3, rfl, h3, b3⟩
  obtain ⟨a3, c3, rfl, t3⟩ := town_tms h3
  have T3 := hide t3
  have T1 := hide (T1.out.below b3)
  have B3 := hide (chain B2.out b3)
  clear h3 b3 t3 B2
  go_wp2_with fail
  refine Calls.mono (tshift_any (HE.out.below B3.out) a3 _ c3 L T3.out T (by have := H8.out; omega)) ?_
  rintro e w4 ⟨x4, v4, rfl, hv4, h4, b4⟩
  rw [HSE.out.1] at hv4
  rw [HSE.out.2] at h4
  generalize srt (L.map (sh T)) = N at *
  obtain rfl := bare0 hv4
  obtain ⟨a4, c4, rfl, t4⟩ := town_tms h4
  rw [HLN.out] at t4
  have T4 := hide t4
  have T1 := hide (T1.out.below b4)
  have B4 := hide (chain B3.out b4)
  rw [HLN.out]
  clear hv4 h4 b4 t4 B3 T3 HSE
  have HC1 : Hid (chkT N 8 = 0) := by unfold Hid chkT; rw [if_neg (by decide), if_pos HG.out]
  go_wp2_with fail
  refine Calls.mono (tcheck_any (HE.out.below B4.out) a4 _ c4 N T4.out 8 (by have := H8.out; omega)) ?_
  rintro e w5 ⟨v5, rfl, hv5, b5⟩
  rw [HC1.out] at hv5
  obtain rfl := bare0 hv5
  have T1 := hide (T1.out.below b5)
  have T4 := hide (T4.out.below b5)
  have B5 := hide (chain B4.out b5)
  clear hv5 b5 B4
  have HPA : Hid (((fired N nw).map Tm.proc).Perm ((fired L NT).map Tm.proc)) := by
    unfold Hid
    have h := fired_perm HPN.out nw
    rw [fired_sh L H0.out, ← HNT.out] at h
    exact h
  have HAE : Hid ((∀ t ∈ L, T ≤ t.due) → (fired N nw).map Tm.proc = (fired L NT).map Tm.proc) := fun h => by
    rw [HON.out h, fired_sh L H0.out, ← HNT.out]
  have HBL : Hid (∀ x ∈ (fired L NT).map Tm.proc, ∃ p : Nat, x = (p : Int) ∧ p < 8) := fun x hx => by
    obtain ⟨t, ht, rfl⟩ := List.mem_map.1 hx
    have := HF.out.1 t (List.mem_filter.1 ht).1
    have h1 := this.1
    have h2 := this.2.1
    exact ⟨t.proc.toNat, by omega, by omega⟩
  have HB8 : Hid (((fired L NT).map Tm.proc).length ≤ 8) := by
    unfold Hid
    rw [List.length_map]
    exact Nat.le_trans (fired_len _ _) H8.out
  obtain ⟨A, hA⟩ : ∃ A, (fired N nw).map Tm.proc = A := ⟨_, rfl⟩
  obtain ⟨B, hB⟩ : ∃ B, (fired L NT).map Tm.proc = B := ⟨_, rfl⟩
  rw [hA, hB] at HPA HAE
  rw [hB] at HBL HB8
  have HA := hide hA
  have HB := hide hB
  have HAB := hide HPA.out.length_eq
  clear hA hB
  go_wp2_with fail
  refine Calls.mono (tfire_any (HE.out.below B5.out) a4 _ c4 N T4.out nw (by have := H8.out; omega)) ?_
  rintro e w6 ⟨x6, y6, v6, rfl, hv6, hi6, ht6, b6⟩
  rw [show fireE N = 0 by unfold fireE; rw [if_pos HG.out]] at hv6
  rw [show fireP N nw = (fired N nw).map Tm.proc by unfold fireP; rw [if_pos HG.out], HA.out] at hi6
  obtain rfl := bare0 hv6
  obtain ⟨a6, c6, rfl, i6⟩ := iown_is hi6
  rw [HAB.out] at i6 ⊢
  have I6 := hide i6
  have T1 := hide (T1.out.below b6)
  have T4 := hide (T4.out.below b6)
  have B6 := hide (chain B5.out b6)
  clear hv6 hi6 ht6 b6 i6 B5
  go_wp2_with fail
  refine Calls.mono (copied_any w6 a1 _ c1 L T1.out (by have := H8.out; omega)) ?_
  rintro e w7 ⟨x7, rfl, h7, b7⟩
  obtain ⟨a7, c7, rfl, t7⟩ := town_tms h7
  have T7 := hide t7
  have T1 := hide (T1.out.below b7)
  have T4 := hide (T4.out.below b7)
  have I6 := hide (I6.out.below b7)
  have B7 := hide (chain B6.out b7)
  clear h7 b7 t7 B6
  go_wp2_with fail
  refine Calls.mono (tfire_any (HE.out.below B7.out) a7 _ c7 L T7.out NT (by have := H8.out; omega)) ?_
  rintro e w8 ⟨x8, y8, v8, rfl, hv8, hi8, ht8, b8⟩
  rw [show fireE L = 0 by unfold fireE; rw [if_pos HF.out]] at hv8
  rw [show fireP L NT = (fired L NT).map Tm.proc by unfold fireP; rw [if_pos HF.out], HB.out] at hi8
  obtain rfl := bare0 hv8
  obtain ⟨a8, c8, rfl, i8⟩ := iown_is hi8
  have I8 := hide i8
  have T1 := hide (T1.out.below b8)
  have T4 := hide (T4.out.below b8)
  have I6 := hide (I6.out.below b8)
  have B8 := hide (chain B7.out b8)
  clear hv8 hi8 ht8 b8 i8 B7 T7
  have HZ : Hid (Bl (w8.alloc (.cells #[.int .i64 0, .int .i64 0, .int .i64 0, .int .i64 0, .int .i64 0, .int .i64 0, .int .i64 0, .int .i64 0] 44)) w8.heap.size (cC [] [])) := by
    have := bl_alloc w8 #[.int .i64 0, .int .i64 0, .int .i64 0, .int .i64 0, .int .i64 0, .int .i64 0, .int .i64 0, .int .i64 0] 44
    have e : (#[.int .i64 0, .int .i64 0, .int .i64 0, .int .i64 0, .int .i64 0, .int .i64 0, .int .i64 0, .int .i64 0] : Array Value).toList = cC [] [] := rfl
    rw [e] at this
    exact this
  have HZB := hide (new_below w8 (.cells #[.int .i64 0, .int .i64 0, .int .i64 0, .int .i64 0, .int .i64 0, .int .i64 0, .int .i64 0, .int .i64 0] 44))
  have hz0 : w8.heap.size < (w8.alloc (.cells #[.int .i64 0, .int .i64 0, .int .i64 0, .int .i64 0, .int .i64 0, .int .i64 0, .int .i64 0, .int .i64 0] 44)).heap.size := by simp
  go_wp2
  generalize w8.alloc (.cells #[.int .i64 0, .int .i64 0, .int .i64 0, .int .i64 0, .int .i64 0, .int .i64 0, .int .i64 0, .int .i64 0] 44) = W0 at *
  go_loopw [18] (fun i wr => ∃ k : Nat, k ≤ B.length ∧ i = .int .i64 (k : Int) ∧ Hid (Bl wr w8.heap.size (cC (A.take k) (B.take k))) ∧ w8.heap.size < wr.heap.size ∧ Hid (Below w8.heap.size w8 wr)) (fun i _ => B.length - (intOf i).toNat)
  case atStart => exact ⟨0, by omega, rfl, HZ.out, hz0, HZB.out⟩
  case round =>
    obtain ⟨k, hk, rfl, hbl, hz, hb⟩ := hrel
    by_cases hlt : k < B.length
    · obtain ⟨x, hx⟩ : ∃ p, A[k]? = some p := ⟨_, List.getElem?_eq_getElem (by rw [HAB.out]; exact hlt)⟩
      obtain ⟨y, hy⟩ : ∃ p, B[k]? = some p := ⟨_, List.getElem?_eq_getElem hlt⟩
      obtain ⟨p, rfl, hp8⟩ := HBL.out x (HPA.out.mem_iff.1 (List.mem_of_getElem? hx))
      obtain ⟨q, rfl, hq8⟩ := HBL.out y (List.mem_of_getElem? hy)
      obtain ⟨b, off, rfl, hr⟩ := (I6.out.below hb.out).at ci1 (by decide) hx
      obtain ⟨b', off', rfl, hr'⟩ := (I8.out.below hb.out).at ci1 (by decide) hy
      have r0 := hr 0 _ rfl
      have s0 := hr' 0 _ rfl
      simp only [Nat.add_zero, Nat.mul_one] at r0 s0
      have hkk : (k : Int) < (B.length : Int) := by omega
      have hk8 : k < 8 := by have := HB8.out; omega
      have p0 : (0 : Int) ≤ (p : Int) := by omega
      have p8 : (p : Int) < 8 := by omega
      have q0 : (0 : Int) ≤ (q : Int) := by omega
      have q8 : (q : Int) < 8 := by omega
      have HTA := hide (take_snoc hx)
      have HTB := hide (take_snoc hy)
      have HY := hide hy
      have c0 := hbl.out.cell p _ (cC_at _ _ hp8)
      have f0 := hbl.out.free p
      have hA1 : (A.take k).count (p : Int) ≤ 8 := Nat.le_trans List.count_le_length (by rw [List.length_take]; have := HB8.out; omega)
      have hB1 : (B.take k).count (p : Int) ≤ 8 := Nat.le_trans List.count_le_length (by rw [List.length_take]; have := HB8.out; omega)
      have hA2 : (A.take (k + 1)).count (q : Int) ≤ 8 := Nat.le_trans List.count_le_length (by rw [List.length_take]; have := HB8.out; have := HAB.out; omega)
      have hB2 : (B.take k).count (q : Int) ≤ 8 := Nat.le_trans List.count_le_length (by rw [List.length_take]; have := HB8.out; omega)
      have bl1 := hbl.out.set (k := p) (by rw [cC_len]; exact hp8) (.int .i64 (((A.take k).count (p : Int) : Int) - ((B.take k).count (p : Int) : Int) + 1))
      rw [cC_up _ _ hp8, ← HTA.out] at bl1
      have hcx : ∃ cx : Int, ((A.take k).count (p : Int) : Int) - ((B.take k).count (p : Int) : Int) = cx := ⟨_, rfl⟩
      obtain ⟨cx, hcx⟩ := hcx
      have hcy : ∃ cy : Int, ((A.take (k + 1)).count (q : Int) : Int) - ((B.take k).count (q : Int) : Int) = cy := ⟨_, rfl⟩
      obtain ⟨cy, hcy⟩ := hcy
      rw [hcx] at c0 bl1
      have ew1 : wrap64 (cx + 1) = cx + 1 := wrap_small _ (by omega) (by omega)
      have ew2 : wrap64 (cy - 1) = cy - 1 := wrap_small _ (by omega) (by omega)
      have bp := and7 hp8
      have bq := and7 hq8
      have hsz : (wr.setCell ⟨w8.heap.size, p, none⟩ (.int .i64 (cx + 1))).heap.size = wr.heap.size := by simp [World.setCell]
      have hb1 := hb.out.setCell (p := ⟨w8.heap.size, p, none⟩) (Nat.le_refl _) (.int .i64 (cx + 1))
      have HB1 := hide hb1
      have BL1 := hide bl1
      have HCY := hide hcy
      have HSZ := hide hsz
      clear hA1 hB1 hA2 hB2 bl1 hcx hb1 hsz hcy hr hr' hx hy s0
      go_upto_region 18 with (fail)
      generalize wr.setCell ⟨w8.heap.size, p, none⟩ (.int .i64 (cx + 1)) = W1 at *
      obtain ⟨bb, oo, e0, hr'⟩ := (I8.out.below HB1.out).at ci1 (by decide) HY.out
      simp only [Option.some.injEq, Addr.mk.injEq, and_true] at e0
      obtain ⟨rfl, rfl⟩ := e0
      have s1 := hr' 0 _ rfl
      simp only [Nat.add_zero, Nat.mul_one] at s1
      have c1' := BL1.out.cell q _ (cC_at _ _ hq8)
      rw [HCY.out] at c1'
      have f1 := BL1.out.free q
      have bl2 := BL1.out.set (k := q) (by rw [cC_len]; exact hq8) (.int .i64 (((A.take (k + 1)).count (q : Int) : Int) - ((B.take k).count (q : Int) : Int) - 1))
      rw [cC_down _ _ hq8, ← HTB.out, HCY.out] at bl2
      have BL2 := hide bl2
      have HB2 := hide (HB1.out.setCell (p := ⟨w8.heap.size, q, none⟩) (Nat.le_refl _) (.int .i64 (cy - 1)))
      have hz2 : w8.heap.size < (W1.setCell ⟨w8.heap.size, q, none⟩ (.int .i64 (cy - 1))).heap.size := by have := HSZ.out; simp [World.setCell]; omega
      have HZ2 := hide hz2
      clear bl2 hr' r0 hz2
      go_wp2
      go_roundw
      case rel => exact ⟨k + 1, by omega, by go_num, BL2.out, HZ2.out, HB2.out⟩
      case measure => simp [intOf]; omega
    · obtain rfl : k = B.length := by omega
      have BLZ : Hid (Bl wr w8.heap.size (cC A B)) := by
        have := hbl.out
        rw [List.take_length, ← HAB.out, List.take_length] at this
        exact this
      have z0 := BLZ.out.cell 0 _ (cC_zero HPA.out (by decide))
      have z1 := BLZ.out.cell 1 _ (cC_zero HPA.out (by decide))
      have z2 := BLZ.out.cell 2 _ (cC_zero HPA.out (by decide))
      have z3 := BLZ.out.cell 3 _ (cC_zero HPA.out (by decide))
      have z4 := BLZ.out.cell 4 _ (cC_zero HPA.out (by decide))
      have z5 := BLZ.out.cell 5 _ (cC_zero HPA.out (by decide))
      have z6 := BLZ.out.cell 6 _ (cC_zero HPA.out (by decide))
      have z7 := BLZ.out.cell 7 _ (cC_zero HPA.out (by decide))
      have hne := neq_zero
      have DW := hide hb.out
      have hL8 := H8.out
      have T1 := hide (T1.out.below DW.out)
      have T4 := hide (T4.out.below DW.out)
      have I6 := hide (I6.out.below DW.out)
      have I8 := hide (I8.out.below DW.out)
      have BW := hide (chain B8.out DW.out)
      clear hbl
      go_wp2
      clear z0 z1 z2 z3 z4 z5 z6 z7 hne
      clear BLZ hb DW
      obtain ⟨W2, hW2⟩ : ∃ W, W = wr := ⟨_, rfl⟩
      subst hW2
      go_loopw [19] (fun i wx => ∃ k : Nat, k ≤ L.length ∧ i = .int .i64 (k : Int) ∧ Hid (Below W2.heap.size W2 wx)) (fun i _ => L.length - (intOf i).toNat)
      case atStart => exact ⟨0, by omega, rfl, Below.refl _ _⟩
      case round =>
        obtain ⟨k, hk, rfl, hb⟩ := hrel
        by_cases hlt2 : k < L.length
        · obtain ⟨t, ht⟩ : ∃ p, L[k]? = some p := ⟨_, List.getElem?_eq_getElem hlt2⟩
          obtain ⟨b, off, rfl, hr⟩ := (T1.out.below hb.out).at tm2 (by decide) ht
          have r0 := hr 0 _ rfl
          simp only [Nat.add_zero] at r0
          have hti := HF.out.1 t (List.mem_of_getElem? ht)
          have hw : wrap64 (t.due - T) = t.due - T := by
            have h1 := hti.2.2.1
            have h2 := hti.2.2.2
            have h3 := HT.out.1
            have h4 := HT.out.2
            rw [← IntWalk.i64_left, IntKind.wrap_i64]
            omega
          have HFD : Hid (findT N t.proc = some (sh T t)) := timerOne.findT_of HG.out.2.1 (HPN.out.mem_iff.2 (List.mem_map.2 ⟨t, List.mem_of_getElem? ht, rfl⟩)) rfl
          have HFV : Hid (findD N t.proc = max (t.due - T) 0) := by unfold Hid findD; rw [HFD.out]; rfl
          have hkk : (k : Int) < (L.length : Int) := by omega
          have HTT := hide ht
          clear hr hti ht
          go_wp2_with fail
          refine Calls.mono (tfind_any wr a4 _ c4 N (T4.out.below hb.out) t.proc (by omega)) ?_
          rintro e w9 ⟨rfl, b9⟩
          rw [HFD.out, HFV.out]
          obtain ⟨bb, oo, e0, hr⟩ := ((T1.out.below hb.out).below b9).at tm2 (by decide) HTT.out
          simp only [Option.some.injEq, Addr.mk.injEq, and_true] at e0
          obtain ⟨rfl, rfl⟩ := e0
          have s1 := hr 1 _ rfl
          simp only [Option.isSome_some]
          have D9 := hide (chain hb.out b9)
          clear b9 r0 hr
          go_wp2
          go_roundw
          case rel => exact ⟨k + 1, by omega, by go_num, D9.out⟩
          case measure => simp [intOf]; omega
        · obtain rfl : k = L.length := by omega
          have T1 := hide (T1.out.below hb.out)
          have T4 := hide (T4.out.below hb.out)
          have I6 := hide (I6.out.below hb.out)
          have I8 := hide (I8.out.below hb.out)
          have BX := hide (chain BW.out hb.out)
          by_cases hL0 : L.length = 0
          · have d0 : decide ((0 : Int) < (L.length : Int)) = false := decide_eq_false (by omega)
            clear hlt2 hk
            go_wp2
            go_ret
            exact ⟨rfl, BX.out⟩
          have d0 : decide ((0 : Int) < (L.length : Int)) = true := decide_eq_true (by omega)
          obtain ⟨t, ht⟩ : ∃ p, L[0]? = some p := ⟨_, List.getElem?_eq_getElem (by omega)⟩
          obtain ⟨b, off, rfl, hr⟩ := T1.out.at tm2 (by decide) ht
          have r1 := hr 1 _ rfl
          simp only [Nat.zero_mul, Nat.add_zero] at r1
          have hpos : (0 : Int) < (L.length : Int) := by omega
          have HTT := hide ht
          clear hr ht
          by_cases hd : T ≤ t.due
          case neg =>
            have d1 : decide (T ≤ t.due) = false := decide_eq_false hd
            clear hd hlt2 hk
            go_wp2
            go_ret
            exact ⟨rfl, BX.out⟩
          have d1 : decide (T ≤ t.due) = true := decide_eq_true hd
          have HAL := hide (first_least HF.out.2.2 HTT.out hd)
          have HNE := hide (HON.out HAL.out)
          have HEQ := hide (HAE.out HAL.out)
          clear hd
          obtain ⟨W3, hW3⟩ : ∃ W, W = wr := ⟨_, rfl⟩
          subst hW3
          go_wp2
          clear r1
          go_loopw [22] (fun i wx => ∃ k : Nat, k ≤ L.length ∧ i = .int .i64 (k : Int) ∧ Hid (Below W3.heap.size W3 wx)) (fun i _ => L.length - (intOf i).toNat)
          case atStart => exact ⟨0, by omega, rfl, Below.refl _ _⟩
          case round =>
            obtain ⟨k, hk', rfl, hb'⟩ := hrel
            by_cases hlt3 : k < L.length
            · obtain ⟨u, hu⟩ : ∃ p, L[k]? = some p := ⟨_, List.getElem?_eq_getElem hlt3⟩
              obtain ⟨v, hv, hvp⟩ : ∃ v, N[k]? = some v ∧ v.proc = u.proc := ⟨sh T u, by rw [HNE.out, List.getElem?_map, hu]; rfl, rfl⟩
              obtain ⟨b1, o1, e1, hr1⟩ := (T1.out.below hb'.out).at tm2 (by decide) hu
              simp only [Option.some.injEq, Addr.mk.injEq, and_true] at e1
              obtain ⟨rfl, rfl⟩ := e1
              obtain ⟨b2, o2, rfl, hr2⟩ := (T4.out.below hb'.out).at tm2 (by decide) hv
              have r0 := hr1 0 _ rfl
              have s0 := hr2 0 _ rfl
              simp only [Nat.add_zero] at r0 s0
              rw [hvp] at s0
              have hkk : (k : Int) < (L.length : Int) := by omega
              clear hr1 hr2 hu hv hvp
              go_wp2_with fail
              go_quiet (fail)
              go_wp2
              go_roundw
              case rel => exact ⟨k + 1, by omega, by go_num, drewN_below hb'.out nq⟩
              case measure => simp [intOf]; omega
            · obtain rfl : k = L.length := by omega
              have DX := hide (chain BX.out hb'.out)
              have J6 : Hid (Is wr a6 B.length c6 B) := by
                have := I6.out.below hb'.out
                rw [HEQ.out] at this
                exact this
              have J8 := hide (I8.out.below hb'.out)
              go_wp2_with fail
              refine Calls.mono (ints_eq a6 a8 _ c6 c8 B J6.out J8.out (by have := HB8.out; omega)) ?_
              rintro e w11 ⟨rfl, b11⟩
              have D11 := hide (chain DX.out b11)
              clear b11
              go_wp2
              go_ret
              exact ⟨rfl, D11.out⟩

theorem law (a : Option Addr) (len cap : Nat) (l : List Tm) (ticks now : Int) (w : World) {E : Nat → Addr} (he : Er3 w E) (hs : Tms w a len cap l) (ok : ∀ t ∈ l, t.Ok) (hm : len ≤ 8796093021952) (n0 : -9223372036854775808 ≤ ticks) (n1 : ticks ≤ 9223372036854775807) (m0 : -9223372036854775808 ≤ now) (m1 : now ≤ 9223372036854775807) :
    Calls Tryd.prog 5 #[.slice a len cap, .int .i64 ticks, .int .i64 now] w fun e w' => e = .returned (.bool true) ∧ Below w.heap.size w w' := by
  have h1 : wrap64 ((IntKind.u64.wrap ticks).tmod 10000) = (ticks % 18446744073709551616) % 10000 := by
    rw [wrap_u, Int.tmod_eq_emod_of_nonneg (by omega)]
    exact wrap_in _ (by omega) (by omega)
  have h2 : wrap64 (1 + (ticks % 18446744073709551616) % 10000) = 1 + (ticks % 18446744073709551616) % 10000 := wrap_in _ (by omega) (by omega)
  have h3 : 0 ≤ cvD now ∧ cvD now ≤ 1010000 := by
    unfold cvD
    omega
  have h4 : wrap64 (cvD now + (1 + (ticks % 18446744073709551616) % 10000)) = cvD now + (1 + (ticks % 18446744073709551616) % 10000) := by
    rw [← IntWalk.i64_left, IntKind.wrap_i64]
    omega
  exact body he a len cap l hs ticks now _ _ _ _ hm h1 h2 (cvD_walk now) h4 ⟨by omega, by omega⟩ h3.1 rfl
end Go.Proofs.YtahdaodikpblnaaDoor.timerRelative
