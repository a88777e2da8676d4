/-
  The laws' known and formed.
-/
import Derived.Test.YtahdaodikpblnaaDoorTmFire
namespace Go.Proofs.YtahdaodikpblnaaDoor
open Classical
open Go.RowKit
set_option linter.unusedVariables false
set_option linter.unusedSimpArgs false

theorem Bl.grown {w w' : World} {g : Nat} {cs : List Value} {row : Option Nat} (h : Bl w g cs) (hg : w.grownBy w' row) (hlt : g < w.heap.size) (hne : some g ≠ row) : Bl w' g cs := by
  have hb := hg.block g hlt hne
  exact ⟨fun j v hv => by rw [World.cell?_of_block (a := ⟨g, j, none⟩) hb]; exact h.cell j v hv, fun j => by rw [World.frozen?_of_block (a := ⟨g, j, none⟩) hb]; exact h.free j⟩
theorem form07 : Form [⟨0, 7⟩] 8 := by unfold Form InR Nod Ord Tm.In; decide
theorem set25 : setL [⟨0, 7⟩] 2 5 = [⟨2, 5⟩, ⟨0, 7⟩] := by
  unfold setL
  rw [if_pos ⟨form07, by unfold SetOk; decide⟩]
  exact ord_unique (srt_ord _) (by unfold Ord; decide) ((srt_perm _).trans (List.Perm.swap _ _ _))
theorem setE25 : setE [⟨0, 7⟩] 2 5 = 0 := by unfold setE; rw [if_neg (not_not_intro form07), if_neg (not_not_intro (by unfold SetOk; decide))]
theorem form25 : Form [⟨2, 5⟩, ⟨0, 7⟩] 8 := by unfold Form InR Nod Ord Tm.In; decide
theorem fire6 : fireP [⟨2, 5⟩, ⟨0, 7⟩] 6 = [2] ∧ fireL [⟨2, 5⟩, ⟨0, 7⟩] 6 = [⟨0, 7⟩] ∧ fireE [⟨2, 5⟩, ⟨0, 7⟩] = 0 := by
  unfold fireP fireL fireE
  rw [if_pos form25, if_pos form25, if_pos form25]
  exact ⟨rfl, rfl, rfl⟩
theorem tms_one (w : World) (t : Tm) : Tms (w.alloc (.cells #[.int .i64 t.proc, .int .i64 t.due] 48)) (some ⟨w.heap.size, 0, none⟩) 1 1 [t] := by
  refine ⟨rfl, rfl, Nat.le_refl _, fun e => by simp at e, fun j v hv => ⟨_, _, rfl, ?_⟩⟩
  rw [Nat.zero_add, World.cell?_alloc_at _ _ _ _ rfl]
  simpa [Tm.cells] using hv

set_option maxRecDepth 100000 in
set_option maxHeartbeats 4000000 in
theorem known_any {w : World} {E : Nat → Addr} (he : Er3 w E) : Calls Tryd.prog 8 #[] w fun e w' => e = .returned (.bool true) ∧ Below w.heap.size w w' := by
  have HE := hide he
  have T0 := hide (tms_one w ⟨0, 7⟩)
  have B0 := hide (new_below w (.cells #[.int .i64 0, .int .i64 7] 48))
  clear he
  go_enter Tryd.func8, Tryd.ntmps8
  go_wp2_with fail
  refine Calls.mono (tset_any (HE.out.below B0.out) _ _ _ [⟨0, 7⟩] T0.out 2 5 (by decide)) ?_
  rintro e w1 ⟨x1, v1, rfl, hv1, h1, b1⟩
  rw [setE25] at hv1
  rw [set25] at h1
  obtain rfl := bare0 hv1
  obtain ⟨a1, c1, rfl, t1⟩ := town_tms h1
  have T1 := hide t1
  have B1 := hide (chain B0.out b1)
  clear hv1 h1 b1 t1
  go_wp2_with fail
  refine Calls.mono (tfire_any (HE.out.below B1.out) _ _ _ _ T1.out 6 (by decide)) ?_
  rintro e w2 ⟨x2, y2, v2, rfl, hv2, h2, k2, b2⟩
  rw [fire6.2.2] at hv2
  rw [fire6.1] at h2
  rw [fire6.2.1] at k2
  obtain rfl := bare0 hv2
  obtain ⟨a2, c2, rfl, t2⟩ := iown_is h2
  obtain ⟨a3, c3, rfl, t3⟩ := town_tms k2
  obtain ⟨g2, o2, rfl, q2⟩ := t2.at ci1 (by decide) (k := 0) rfl
  obtain ⟨g3, o3, rfl, q3⟩ := t3.at tm2 (by decide) (k := 0) rfl
  have c0 := q2 0 _ rfl
  have c1' := q3 1 _ rfl
  have B2 := hide (chain B1.out b2)
  clear hv2 h2 k2 b2 t2 t3 q2 q3
  simp only [Nat.zero_mul, Nat.add_zero] at c0 c1'
  go_wp2
  go_ret
  exact ⟨rfl, B2.out⟩

/-- The numbers that the laws make of raw ones. -/
def cvP (n : Int) : Int := (n % 18446744073709551616) % 8
def cvD (n : Int) : Int := (n % 18446744073709551616) % 1010001
theorem wrap_u (n : Int) : IntKind.u64.wrap n = n % 18446744073709551616 := by
  rw [IntKind.wrap_u64]
theorem wrap_in (n : Int) (h0 : 0 ≤ n) (h1 : n ≤ 1010001) : wrap64 n = n := by
  rw [← IntWalk.i64_left, IntKind.wrap_i64]
  omega
theorem cvP_walk (n : Int) : wrap64 ((IntKind.u64.wrap n).tmod 8) = cvP n := by
  rw [wrap_u, Int.tmod_eq_emod_of_nonneg (by omega)]
  exact wrap_in _ (by omega) (by omega)
theorem cvD_walk (n : Int) : wrap64 ((IntKind.u64.wrap n).tmod 1010001) = cvD n := by
  rw [wrap_u, Int.tmod_eq_emod_of_nonneg (by omega)]
  exact wrap_in _ (by omega) (by omega)
def pickS (acc : List Tm) (t : Tm) : List Tm := if cvP t.proc ∈ acc.map Tm.proc then acc else acc ++ [⟨cvP t.proc, cvD t.due⟩]
def pick (l : List Tm) : List Tm := l.foldl pickS []
theorem pick_take (l : List Tm) {k : Nat} {t : Tm} (ht : l[k]? = some t) : pick (l.take (k + 1)) = pickS (pick (l.take k)) t := by
  unfold pick
  rw [List.take_add_one, ht, List.foldl_append]
  rfl
theorem cv_in (t : Tm) : Tm.In 8 ⟨cvP t.proc, cvD t.due⟩ := by
  unfold Tm.In cvP cvD
  simp
  omega
theorem pick_ok : ∀ (l acc : List Tm), InR acc 8 → Nod acc → InR (l.foldl pickS acc) 8 ∧ Nod (l.foldl pickS acc)
  | [], acc, h1, h2 => ⟨h1, h2⟩
  | t :: l, acc, h1, h2 => by
    have h : InR (pickS acc t) 8 ∧ Nod (pickS acc t) := by
      unfold pickS
      split
      · exact ⟨h1, h2⟩
      · next hn =>
        refine ⟨fun x hx => ?_, nod_snoc.2 ⟨h2, hn⟩⟩
        rcases List.mem_append.1 hx with hx | hx
        · exact h1 x hx
        · rw [List.mem_singleton.1 hx]
          exact cv_in t
    exact pick_ok l (pickS acc t) h.1 h.2
theorem pick_form (l : List Tm) : InR (pick l) 8 ∧ Nod (pick l) := pick_ok l [] (fun t ht => by simp at ht) (by unfold Nod; decide)

set_option maxRecDepth 100000 in
set_option maxHeartbeats 4000000 in
theorem formed_any {w : World} {E : Nat → Addr} (he : Er3 w E) (a : Option Addr) (len cap : Nat) (l : List Tm) (hs : Tms w a len cap l) (hm : len ≤ 9223372036854775806) :
    Calls Tryd.prog 11 #[.slice a len cap] w fun e w' => ∃ x, e = .returned (.tuple #[x, .bool true]) ∧ TOwn w' w.heap.size x (srt (pick l)) ∧ Below w.heap.size w w' := by
  have HS := hide hs
  have hl := hs.size
  have HE := hide he
  have HI := hide infoTimer
  have HZ : Hid (Bl (w.alloc (.cells #[.bool false, .bool false, .bool false, .bool false, .bool false, .bool false, .bool false, .bool false] 65)) w.heap.size (seenC [])) := by
    have := bl_alloc w #[.bool false, .bool false, .bool false, .bool false, .bool false, .bool false, .bool false, .bool false] 65
    have e : (#[.bool false, .bool false, .bool false, .bool false, .bool false, .bool false, .bool false, .bool false] : Array Value).toList = seenC [] := rfl
    rw [e] at this
    exact this
  have HB0 := hide (new_below w (.cells #[.bool false, .bool false, .bool false, .bool false, .bool false, .bool false, .bool false, .bool false] 65))
  have hz0 : w.heap.size < (w.alloc (.cells #[.bool false, .bool false, .bool false, .bool false, .bool false, .bool false, .bool false, .bool false] 65)).heap.size := by simp
  clear hs he
  go_enter Tryd.func11, Tryd.ntmps11
  go_wp2
  generalize w.alloc (.cells #[.bool false, .bool false, .bool false, .bool false, .bool false, .bool false, .bool false, .bool false] 65) = W0 at *
  go_loopw [4, 6] (fun o i wr => ∃ k : Nat, k ≤ len ∧ i = .int .i64 (k : Int) ∧ Hid (TOwn wr W0.heap.size o (pick (l.take k))) ∧ Hid (Bl wr w.heap.size (seenC (pick (l.take k)))) ∧ W0.heap.size ≤ wr.heap.size ∧ Hid (Below w.heap.size w wr)) (fun _ i _ => len - (intOf i).toNat)
  case atStart => exact ⟨0, by omega, rfl, town_nil _ _, HZ.out, Nat.le_refl _, HB0.out⟩
  case round =>
    obtain ⟨k, hk, rfl, hown, hbl, hz, hb⟩ := hrel
    by_cases hlt : k < len
    · obtain ⟨t, ht⟩ : ∃ p, l[k]? = some p := ⟨_, List.getElem?_eq_getElem (by rw [hl]; exact hlt)⟩
      obtain ⟨b, off, rfl, hr⟩ := (HS.out.below hb.out).at tm2 (by decide) ht
      have r0 := hr 0 _ rfl
      have r1 := hr 1 _ rfl
      simp only [Nat.add_zero] at r0
      have hk1 : (k : Int) < (len : Int) := by omega
      obtain ⟨p, hp⟩ : ∃ p : Nat, cvP t.proc = (p : Int) := ⟨(cvP t.proc).toNat, by have := (cv_in t).1; simp at this; omega⟩
      have hp8 : p < 8 := by have := (cv_in t).2.1; simp at this; omega
      have ep : wrap64 ((IntKind.u64.wrap t.proc).tmod 8) = (p : Int) := by rw [cvP_walk, hp]
      have ed : wrap64 ((IntKind.u64.wrap t.due).tmod 1010001) = cvD t.due := cvD_walk _
      have HPT : Hid (pick (l.take (k + 1)) = if (p : Int) ∈ (pick (l.take k)).map Tm.proc then pick (l.take k) else pick (l.take k) ++ [⟨(p : Int), cvD t.due⟩]) := by
        unfold Hid
        rw [pick_take l ht]
        unfold pickS
        rw [hp]
      have HP := hide hp
      have p0 : (0 : Int) ≤ (p : Int) := by omega
      have p8 : (p : Int) < 8 := by omega
      have c0 := hbl.out.cell p _ (seenC_at _ hp8)
      have f0 := hbl.out.free p
      have hwz : w.heap.size < wr.heap.size := by omega
      have HFEW : Hid ((pick (l.take k)).length ≤ 8) := (pick_form _).2.few (pick_form _).1
      generalize cvD t.due = dd at *
      clear hr ht hp
      cases hh : hasP (pick (l.take k)) p
      · rw [hh] at c0
        have HN : Hid (pick (l.take (k + 1)) = pick (l.take k) ++ [⟨(p : Int), dd⟩]) := by
          unfold Hid
          rw [HPT.out, if_neg (of_decide_eq_false hh)]
        clear hh
        have bl2 := hbl.out.set (k := p) (by rw [seenC_len]; exact hp8) (.bool true)
        rw [seenC_next _ ⟨(p : Int), dd⟩ rfl hp8, ← HN.out] at bl2
        have hz2 : w.heap.size < (wr.setCell ⟨w.heap.size, p, none⟩ (.bool true)).heap.size := by simp [World.setCell]; exact hwz
        have BL2 := hide (bl2.below hz2 (new_below _ (.cells #[.int .i64 (p : Int), .int .i64 dd] 48)))
        have O1 := ownsRow_setCell_below hown.out (a := ⟨w.heap.size, p, none⟩) hz0 (.bool true)
        have O2 := hide (ownsRow_below O1 (new_below _ (.cells #[.int .i64 (p : Int), .int .i64 dd] 48)))
        have hsz : (wr.setCell ⟨w.heap.size, p, none⟩ (.bool true)).heap.size = wr.heap.size := by simp [World.setCell]
        have HB2 := hide (chain (hb.out.setCell (p := ⟨w.heap.size, p, none⟩) (Nat.le_refl _) (.bool true)) (new_below _ (.cells #[.int .i64 (p : Int), .int .i64 dd] 48)))
        clear bl2 hz2 O1
        have hzz := HB2.out.size
        have hw2 : W0.heap.size ≤ ((wr.setCell ⟨w.heap.size, p, none⟩ (.bool true)).alloc (.cells #[.int .i64 (p : Int), .int .i64 dd] 48)).heap.size := by simp [hsz]; omega
        have HW2 := hide hw2
        clear hw2 hzz hsz
        go_wp2_with (at_builtin; refine append_rec rfl (.tmp 40) (.tmp 44) 22 48 rfl Tryd.underlying22 HI.out (by decide) W0.heap.size _ _ _ rfl O2.out wr.heap.size 1 (Tm.cells ⟨(p : Int), dd⟩) rfl rfl (fun i u hu => by rw [World.cell?_alloc_at _ _ _ _ (by simp)]; simpa [Tm.cells] using hu) (fun u hu => tm_one [⟨(p : Int), dd⟩] u (by simpa using hu)) (by have := HFEW.out; unfold maxLen; omega) (by have := HFEW.out; omega) HW2.out ?_; intro g7 c7 w7 ho7 hg7 hat7 hlt7)
        have D7 := hide (HB2.out.grown hg7 (Nat.le_trans hb.out.size (by simp [World.setCell])) (fun k' hk' => Nat.le_trans (Nat.le_of_lt hz0) (O2.out.lt k' hk').1))
        have O7 : Hid (TOwn w7 W0.heap.size (.slice (some ⟨g7, 0, none⟩) ((pick (l.take k)).length + 1) c7) (pick (l.take (k + 1)))) := by
          unfold Hid
          rw [HN.out]
          simpa [TOwn] using ho7
        have BL7 := hide (BL2.out.grown hg7 (Nat.lt_of_lt_of_le hz0 HW2.out) (fun e => by have := (O2.out.lt _ e.symm).1; omega))
        have Z7 := hide (Nat.le_trans HW2.out hg7.size)
        clear ho7 hg7 hat7
        go_wp2
        go_roundw
        case rel => exact ⟨k + 1, by omega, by go_num, O7.out, BL7.out, Z7.out, D7.out⟩
        case measure => simp [intOf]; omega
      · rw [hh] at c0
        have HN : Hid (pick (l.take (k + 1)) = pick (l.take k)) := by
          unfold Hid
          rw [HPT.out, if_pos (of_decide_eq_true hh)]
        clear hh
        go_wp2
        go_roundw
        case rel => exact ⟨k + 1, by omega, by go_num, by unfold Hid; rw [HN.out]; exact hown.out, by unfold Hid; rw [HN.out]; exact hbl.out, hz, hb.out⟩
        case measure => simp [intOf]; omega
    · obtain rfl : k = len := by omega
      have HR : Hid (l.take k = l) := by unfold Hid; rw [← hl, List.take_length]
      rw [HR.out] at hown
      obtain ⟨a1, c1, rfl, t1⟩ := town_tms hown.out
      have HF := pick_form l
      have T1 := hide t1
      have H8 := hide (HF.2.few HF.1)
      have hkk : ¬ (k : Int) < (k : Int) := by omega
      have HSE : Hid (sortE (pick l) = 0 ∧ sortL (pick l) = srt (pick l)) := ⟨by unfold sortE; rw [if_neg (by simpa using HF.1), if_neg (by simpa using HF.2)], by unfold sortL; rw [if_pos HF]⟩
      have HCK : Hid (chkT (srt (pick l)) 8 = 0) := by
        unfold Hid chkT
        rw [if_neg (by decide), if_pos (form_srt HF.1 HF.2)]
      have HSL := hide (srt_len (pick l))
      clear hown t1 HF hlt
      go_wp2_with fail
      refine Calls.mono (tsort_any (HE.out.below hb.out) a1 _ c1 (pick l) T1.out (by have := H8.out; omega)) ?_
      rintro e w2 ⟨x2, v2, rfl, hv2, h2, b2⟩
      rw [HSE.out.1] at hv2
      rw [HSE.out.2] at h2
      obtain rfl := bare0 hv2
      obtain ⟨a2, c2, rfl, t2⟩ := town_tms h2
      have O2 := hide (ownsRow_weaken h2 hb.out.size)
      have T2 := hide t2
      have B2 := hide (chain hb.out b2)
      clear hv2 h2 t2 b2
      go_wp2_with fail
      refine Calls.mono (tcheck_any (HE.out.below B2.out) a2 _ c2 (srt (pick l)) T2.out 8 (by have := H8.out; rw [HSL.out]; omega)) ?_
      rintro e w3 ⟨v3, rfl, hv3, b3⟩
      rw [HCK.out] at hv3
      obtain rfl := bare0 hv3
      have O3 := hide (ownsRow_below O2.out b3)
      have B3 := hide (chain B2.out b3)
      rw [HSL.out]
      clear hv3 b3
      go_wp2
      go_ret2
      exact ⟨_, rfl, by rw [← HSL.out] at *; exact O3.out, B3.out⟩
end Go.Proofs.YtahdaodikpblnaaDoor
