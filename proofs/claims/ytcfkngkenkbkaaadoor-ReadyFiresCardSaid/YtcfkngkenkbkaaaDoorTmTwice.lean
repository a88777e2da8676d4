/-
  timer's twice and without.
-/
import Derived.Test.YtcfkngkenkbkaaaDoorTmBase
namespace Go.Proofs.YtcfkngkenkbkaaaDoor
open Classical
open Go.RowKit
set_option linter.unusedVariables false
set_option linter.unusedSimpArgs false

/-- Which of the eight processes have a timer in the list. -/
def hasP (l : List Tm) (i : Nat) : Bool := decide ((i : Int) ∈ l.map Tm.proc)
def seenC (l : List Tm) : List Value := (List.range 8).map fun i => .bool (hasP l i)
theorem seenC_len (l : List Tm) : (seenC l).length = 8 := by simp [seenC]
theorem seenC_at (l : List Tm) {i : Nat} (h : i < 8) : (seenC l)[i]? = some (.bool (hasP l i)) := by simp [seenC, h]
theorem seenC_next (l : List Tm) (t : Tm) {p : Nat} (hp : t.proc = (p : Int)) (h : p < 8) : (seenC l).set p (.bool true) = seenC (l ++ [t]) := by
  refine List.ext_getElem? fun j => ?_
  by_cases hj : j < 8
  · rw [seenC_at _ hj]
    by_cases e : j = p
    · subst e
      rw [List.getElem?_set_self (by rw [seenC_len]; exact hj)]
      simp [hasP, hp]
    · rw [List.getElem?_set_ne (Ne.symm e), seenC_at _ hj]
      simp [hasP, hp]
      intro h
      exact absurd (by omega) e
  · rw [List.getElem?_eq_none (by rw [List.length_set, seenC_len]; omega), List.getElem?_eq_none (by rw [seenC_len]; omega)]
theorem nod_snoc {l : List Tm} {t : Tm} : Nod (l ++ [t]) ↔ Nod l ∧ t.proc ∉ l.map Tm.proc := by
  unfold Nod
  rw [List.map_append, List.nodup_append]
  constructor
  · rintro ⟨h1, _, h3⟩
    exact ⟨h1, fun h => h3 _ h _ (by simp) rfl⟩
  · rintro ⟨h1, h2⟩
    refine ⟨h1, by simp, fun a ha b hb => ?_⟩
    simp at hb
    subst hb
    rintro rfl
    exact h2 ha
theorem Nod.take {l : List Tm} (h : Nod l) (k : Nat) : Nod (l.take k) := h.sublist ((List.take_sublist k l).map _)

set_option maxRecDepth 100000 in
set_option maxHeartbeats 4000000 in
theorem twice_any (w : World) (a : Option Addr) (len cap : Nat) (l : List Tm) (hs : Tms w a len cap l) (hin : InR l 8) (hm : len ≤ 9223372036854775807) :
    Calls Tryd.prog 78 #[.slice a len cap] w fun e w' => e = .returned (.bool (!decide (Nod l))) ∧ Below w.heap.size w w' := by
  have HS := hide hs
  have hl := hs.size
  have HI := hide hin
  have HZ : Hid (Bl (w.alloc (.cells #[.bool false, .bool false, .bool false, .bool false, .bool false, .bool false, .bool false, .bool false] 61)) w.heap.size (seenC [])) := by
    have := bl_alloc w #[.bool false, .bool false, .bool false, .bool false, .bool false, .bool false, .bool false, .bool false] 61
    have e : (#[.bool false, .bool false, .bool false, .bool false, .bool false, .bool false, .bool false, .bool false] : Array Value).toList = seenC [] := rfl
    rw [e] at this
    exact this
  have HB0 := hide (new_below w (.cells #[.bool false, .bool false, .bool false, .bool false, .bool false, .bool false, .bool false, .bool false] 61))
  have hz0 : w.heap.size < (w.alloc (.cells #[.bool false, .bool false, .bool false, .bool false, .bool false, .bool false, .bool false, .bool false] 61)).heap.size := by simp
  clear hs hin
  go_enter Tryd.func78, Tryd.ntmps78
  go_wp2
  generalize w.alloc (.cells #[.bool false, .bool false, .bool false, .bool false, .bool false, .bool false, .bool false, .bool false] 61) = W0 at *
  go_loopw [8] (fun i wr => ∃ k : Nat, k ≤ len ∧ i = .int .i64 (k : Int) ∧ Hid (Nod (l.take k)) ∧ Hid (Bl wr w.heap.size (seenC (l.take k))) ∧ w.heap.size < wr.heap.size ∧ Hid (Below w.heap.size w wr)) (fun i _ => len - (intOf i).toNat)
  case atStart => exact ⟨0, by omega, rfl, by unfold Hid Nod; simp, HZ.out, hz0, HB0.out⟩
  case round =>
    obtain ⟨k, hk, rfl, hn, hbl, hz, hb⟩ := hrel
    by_cases hlt : k < len
    · obtain ⟨t, ht⟩ : ∃ p, l[k]? = some p := ⟨_, List.getElem?_eq_getElem (by rw [hl]; exact hlt)⟩
      obtain ⟨b, off, rfl, hr⟩ := (HS.out.below hb.out).at tm2 (by decide) ht
      have r0 := hr 0 _ rfl
      have r1 := hr 1 _ rfl
      simp only [Nat.add_zero] at r0
      have hti := HI.out t (List.mem_of_getElem? ht)
      obtain ⟨p, hp⟩ : ∃ p : Nat, t.proc = (p : Int) := ⟨t.proc.toNat, by have := hti.1; omega⟩
      have hp8 : p < 8 := by have := hti.2.1; omega
      have HTK : Hid (l.take (k + 1) = l.take k ++ [t]) := by unfold Hid; rw [List.take_add_one, ht]; rfl
      have HP := hide hp
      have HM := hide (List.mem_of_getElem? ht)
      rw [hp] at r0
      generalize t.due = td at *
      have HB1 := hide (chain hb.out (new_below wr (.cells #[.int .i64 (p : Int), .int .i64 td] 68)))
      have BL1 := hide (hbl.out.below hz (new_below wr (.cells #[.int .i64 (p : Int), .int .i64 td] 68)))
      have c0 := BL1.out.cell p _ (seenC_at _ hp8)
      have f0 := BL1.out.free p
      have hk1 : (k : Int) < (len : Int) := by omega
      have p0 : (0 : Int) ≤ (p : Int) := by omega
      have p8 : (p : Int) < 8 := by omega
      clear hr ht hti hp
      cases hh : hasP (l.take k) p
      · rw [hh] at c0
        have HH := hide hh
        have bl2 := hbl.out.set (k := p) (by rw [seenC_len]; exact hp8) (.bool true)
        rw [seenC_next _ t HP.out hp8, ← HTK.out] at bl2
        have hz2 : w.heap.size < (wr.setCell ⟨w.heap.size, p, none⟩ (.bool true)).heap.size := by simp [World.setCell]; exact hz
        have BL2 := hide (bl2.below hz2 (new_below _ (.cells #[.int .i64 (p : Int), .int .i64 td] 68)))
        have HB2 := hide (chain (hb.out.setCell (p := ⟨w.heap.size, p, none⟩) (Nat.le_refl _) (.bool true)) (new_below _ (.cells #[.int .i64 (p : Int), .int .i64 td] 68)))
        clear bl2 hz2
        clear hh
        go_wp2
        go_roundw
        case rel =>
          refine ⟨k + 1, by omega, by go_num, ?_, BL2.out, ?_, HB2.out⟩
          · unfold Hid
            rw [HTK.out, nod_snoc]
            refine ⟨hn.out, ?_⟩
            have := HH.out
            unfold hasP at this
            rw [HP.out]
            exact of_decide_eq_false this
          · simp [World.setCell]
            omega
        case measure => simp [intOf]; omega
      · rw [hh] at c0
        have HR : Hid (decide (Nod l) = false) := decide_eq_false (fun h => by
          have h1 := h.take (k + 1)
          rw [HTK.out, nod_snoc] at h1
          refine h1.2 ?_
          unfold hasP at hh
          rw [HP.out]
          exact of_decide_eq_true hh)
        clear hh
        go_wp2
        go_ret
        exact ⟨by rw [HR.out]; rfl, HB1.out⟩
    · obtain rfl : k = len := by omega
      have HR : Hid (decide (Nod l) = true) := decide_eq_true (by
        have := hn.out
        rw [← hl, List.take_length] at this
        exact this)
      go_wp2
      go_ret
      exact ⟨by rw [HR.out]; rfl, hb.out⟩

/-- The timers of the others. -/
def others (l : List Tm) (p : Int) : List Tm := l.filter fun t => t.proc != p
theorem others_take (l : List Tm) (p : Int) {k : Nat} {t : Tm} (ht : l[k]? = some t) : others (l.take (k + 1)) p = others (l.take k) p ++ (if t.proc != p then [t] else []) := by
  unfold others
  rw [List.take_add_one, ht, List.filter_append]
  congr 1
  simp [List.filter_cons]
theorem others_len (l : List Tm) (p : Int) : (others l p).length ≤ l.length := List.length_filter_le _ _

set_option maxRecDepth 100000 in
set_option maxHeartbeats 4000000 in
theorem without_any (w : World) (a : Option Addr) (len cap : Nat) (l : List Tm) (hs : Tms w a len cap l) (p : Int) (hm : len ≤ 1048576) :
    Calls Tryd.prog 65 #[.slice a len cap, .int .i64 p] w fun e w' => ∃ v, e = .returned v ∧ TOwn w' w.heap.size v (others l p) ∧ Below w.heap.size w w' := by
  have HS := hide hs
  have hl := hs.size
  have HI := hide infoTimer
  clear hs
  go_enter Tryd.func65, Tryd.ntmps65
  go_wp2
  go_loopw [5, 10] (fun o i wr => ∃ k : Nat, k ≤ len ∧ i = .int .i64 (k : Int) ∧ Hid (TOwn wr w.heap.size o (others (l.take k) p)) ∧ Hid (Below w.heap.size w wr)) (fun _ i _ => len - (intOf i).toNat)
  case atStart => exact ⟨0, by omega, rfl, town_nil _ _, Below.refl _ _⟩
  case round =>
    obtain ⟨k, hk, rfl, hown, hb⟩ := hrel
    by_cases hlt : k < len
    · obtain ⟨t, ht⟩ : ∃ p, l[k]? = some p := ⟨_, List.getElem?_eq_getElem (by rw [hl]; exact hlt)⟩
      obtain ⟨b, off, rfl, hr⟩ := (HS.out.below hb.out).at tm2 (by decide) ht
      have r0 := hr 0 _ rfl
      have r1 := hr 1 _ rfl
      simp only [Nat.add_zero] at r0
      have HTK := hide (others_take l p ht)
      have B1 := new_below wr (.cells #[.int .i64 t.proc, .int .i64 t.due] 68)
      have B2 := new_below (wr.alloc (.cells #[.int .i64 t.proc, .int .i64 t.due] 68)) (.cells #[.int .i64 t.proc, .int .i64 t.due] 68)
      have HB1 := hide (chain hb.out B1)
      have HB2 := hide (chain (chain hb.out B1) B2)
      have O1 := hide (ownsRow_below hown.out B1)
      have O2 := hide (ownsRow_below (ownsRow_below hown.out B1) B2)
      have HLE : Hid ((others (l.take k) p).length ≤ k) := Nat.le_trans (others_len _ _) (by rw [List.length_take]; omega)
      have hk1 : (k : Int) < (len : Int) := by omega
      clear hr ht B1 B2
      by_cases hne : t.proc = p
      · have d0 : (t.proc != p) = false := by simp [hne]
        rw [d0] at HTK
        clear hne
        go_wp2
        go_roundw
        case rel => exact ⟨k + 1, by omega, by go_num, by unfold Hid; rw [HTK.out]; simpa using O1.out, HB1.out⟩
        case measure => simp [intOf]; omega
      · have d0 : (t.proc != p) = true := by simp [hne]
        rw [d0] at HTK
        clear hne
        go_wp2_with (at_builtin; refine append_rec rfl (.tmp 18) (.tmp 20) 24 68 rfl Tryd.underlying24 HI.out (by decide) w.heap.size _ _ _ rfl O2.out (wr.heap.size + 1) 1 t.cells rfl rfl (fun i u hu => by rw [World.cell?_alloc_at _ _ _ _ (by simp)]; simpa [Tm.cells] using hu) (fun u hu => tm_one [t] u (by simpa using hu)) (by have := HLE.out; unfold maxLen; omega) (by have := HLE.out; omega) HB2.out.size ?_; intro g7 c7 w7 ho7 hg7 hat7 hlt7)
        have D7 := hide (HB2.out.grown hg7 HB2.out.size (fun k' hk' => (O2.out.lt k' hk').1))
        have O7 : Hid (TOwn w7 w.heap.size (.slice (some ⟨g7, 0, none⟩) ((others (l.take k) p).length + 1) c7) (others (l.take (k + 1)) p)) := by
          unfold Hid
          rw [HTK.out]
          simpa [TOwn] using ho7
        clear ho7 hg7 hat7
        go_wp2
        go_roundw
        case rel => exact ⟨k + 1, by omega, by go_num, O7.out, D7.out⟩
        case measure => simp [intOf]; omega
    · obtain rfl : k = len := by omega
      have HR : Hid (others (l.take k) p = others l p) := by unfold Hid; rw [← hl, List.take_length]
      go_wp2
      go_ret
      exact ⟨_, rfl, by rw [← HR.out]; exact hown.out, hb.out⟩
end Go.Proofs.YtcfkngkenkbkaaaDoor
