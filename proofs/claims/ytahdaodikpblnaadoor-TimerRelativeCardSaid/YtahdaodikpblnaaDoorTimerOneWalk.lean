/-
  Walk of the law TimerOne.
-/
import Derived.Test.YtahdaodikpblnaaDoorTmLaw
import Derived.Test.YtahdaodikpblnaaDoorTmsOpen
namespace Go.Proofs.YtahdaodikpblnaaDoor.timerOne
open Classical
open Go.RowKit
set_option linter.unusedVariables false
set_option linter.unusedSimpArgs false

theorem nod_inj : ∀ {l : List Tm}, Nod l → ∀ {a b : Tm}, a ∈ l → b ∈ l → a.proc = b.proc → a = b
  | [], _, a, b, ha, _, _ => by simp at ha
  | x :: l, h, a, b, ha, hb, he => by
    have h' := List.nodup_cons.1 (show ((x :: l).map Tm.proc).Nodup from h)
    rcases List.mem_cons.1 ha with rfl | ha
    · rcases List.mem_cons.1 hb with rfl | hb
      · rfl
      · exact absurd (List.mem_map.2 ⟨b, hb, he.symm⟩) h'.1
    · have ha' := ha
      rcases List.mem_cons.1 hb with rfl | hb
      · exact absurd (List.mem_map.2 ⟨a, ha', he⟩) h'.1
      · exact nod_inj h'.2 ha hb he
theorem findT_mem {l : List Tm} {q : Int} {t : Tm} (h : findT l q = some t) : t ∈ l ∧ t.proc = q :=
  ⟨List.mem_of_find?_eq_some h, by simpa using List.find?_some h⟩
theorem findT_of {l : List Tm} (hn : Nod l) {q : Int} {t : Tm} (ht : t ∈ l) (hq : t.proc = q) : findT l q = some t := by
  cases hf : findT l q with
  | none =>
    have := List.find?_eq_none.1 hf t ht
    simp [hq] at this
  | some u =>
    obtain ⟨h1, h2⟩ := findT_mem hf
    rw [nod_inj hn h1 ht (h2.trans hq.symm)]
theorem findT_congr {l l' : List Tm} (hn : Nod l) (hn' : Nod l') {q : Int} (h : ∀ t : Tm, t.proc = q → (t ∈ l ↔ t ∈ l')) : findT l q = findT l' q := by
  cases hf : findT l' q with
  | none =>
    cases hg : findT l q with
    | none => rfl
    | some u =>
      obtain ⟨h1, h2⟩ := findT_mem hg
      have := findT_of hn' ((h u h2).1 h1) h2
      rw [hf] at this
      cases this
  | some u =>
    obtain ⟨h1, h2⟩ := findT_mem hf
    exact findT_of hn ((h u h2).2 h1) h2
theorem others_mem {l : List Tm} {p : Int} {t : Tm} : t ∈ others l p ↔ t ∈ l ∧ t.proc ≠ p := by
  unfold others
  rw [List.mem_filter]
  simp
theorem others_form {l : List Tm} {p n : Int} (h : Form l n) : Form (others l p) n := h.sub List.filter_sublist
theorem set_parts {l : List Tm} {p d : Int} (h : Form l 8) (hk : SetOk p d) : InR (others l p ++ [⟨p, d⟩]) 8 ∧ Nod (others l p ++ [⟨p, d⟩]) := by
  refine ⟨fun t ht => ?_, nod_snoc.2 ⟨(others_form h).2.1, fun hm => ?_⟩⟩
  · rcases List.mem_append.1 ht with ht | ht
    · exact (others_form h).1 t ht
    · rw [List.mem_singleton.1 ht]
      exact hk
  · obtain ⟨t, ht, he⟩ := List.mem_map.1 hm
    exact (others_mem.1 ht).2 he
theorem others_srt (l : List Tm) (p : Int) {d : Int} {l' : List Tm} (hl : Ord l) (hperm : l'.Perm (others l p ++ [⟨p, d⟩])) (ho : Ord l') : others l' p = others l p := by
  refine ord_unique (ho.sublist List.filter_sublist) (hl.sublist List.filter_sublist) ?_
  have h1 : (others l' p).Perm (others (others l p ++ [⟨p, d⟩]) p) := hperm.filter _
  have h2 : others (others l p ++ [⟨p, d⟩]) p = others l p := by
    unfold others
    rw [List.filter_append, List.filter_filter]
    simp
  rw [h2] at h1
  exact h1
theorem drop_find {l : List Tm} (p : Int) : decide ((others l p).length < l.length) = (findT l p).isSome := by
  cases hf : findT l p with
  | none =>
    have : others l p = l := List.filter_eq_self.2 fun t ht => by
      have := List.find?_eq_none.1 hf t ht
      simpa using this
    rw [this]
    simp
  | some t =>
    obtain ⟨h1, h2⟩ := findT_mem hf
    have : (others l p).length < l.length := by
      unfold others
      rw [← List.countP_eq_length_filter]
      refine Nat.lt_of_le_of_ne List.countP_le_length (fun e => ?_)
      have := List.countP_eq_length.1 e t h1
      simp [h2] at this
    simp [this]

set_option maxRecDepth 100000 in
set_option maxHeartbeats 4000000 in
theorem law (a : Option Addr) (len cap : Nat) (l : List Tm) (proc due : Int) (w : World) {E : Nat → Addr} (he : Er3 w E) (hs : Tms w a len cap l) (ok : ∀ t ∈ l, t.Ok) (hm : len ≤ 8796093021952) (n0 : -9223372036854775808 ≤ proc) (n1 : proc ≤ 9223372036854775807) (m0 : -9223372036854775808 ≤ due) (m1 : due ≤ 9223372036854775807) :
    Calls Tryd.prog 6 #[.slice a len cap, .int .i64 proc, .int .i64 due] w fun e w' => e = .returned (.bool true) ∧ Below w.heap.size w w' := by
  have HS := hide hs
  have HE := hide he
  have HF : Hid (Form (srt (pick l)) 8) := form_srt (pick_form l).1 (pick_form l).2
  have ep := cvP_walk proc
  have ed := cvD_walk due
  have hci := cv_in ⟨proc, due⟩
  have HK : Hid (SetOk (cvP proc) (cvD due)) := hci
  clear hs he ok n0 n1 m0 m1 hci
  go_enter Tryd.func6, Tryd.ntmps6
  go_wp2_with fail
  refine Calls.mono (formed_any HE.out a len cap l HS.out (by omega)) ?_
  rintro e w1 ⟨x1, rfl, h1, b1⟩
  generalize srt (pick l) = L at *
  generalize cvP proc = p at *
  generalize cvD due = d at *
  obtain ⟨a1, c1, rfl, t1⟩ := town_tms h1
  have T1 := hide t1
  have B1 := hide b1
  clear h1 b1 t1
  have H8 : Hid (L.length ≤ 8) := HF.out.2.1.few HF.out.1
  have HSE : Hid (setE L p d = 0 ∧ setL L p d = srt (others L p ++ [⟨p, d⟩])) := ⟨by unfold setE; rw [if_neg (by simpa using HF.out), if_neg (by simpa using HK.out)], by unfold setL; rw [if_pos ⟨HF.out, HK.out⟩]⟩
  have hsp := set_parts HF.out HK.out
  have HG : Hid (Form (srt (others L p ++ [⟨p, d⟩])) 8) := form_srt hsp.1 hsp.2
  have HO : Hid (others (srt (others L p ++ [⟨p, d⟩])) p = others L p) := others_srt L p HF.out.2.2 (srt_perm _) (srt_ord _)
  have HM : Hid (∀ t : Tm, t ∈ srt (others L p ++ [⟨p, d⟩]) ↔ (t ∈ L ∧ t.proc ≠ p) ∨ t = ⟨p, d⟩) := fun t => by
    rw [(srt_perm _).mem_iff, List.mem_append, others_mem, List.mem_singleton]
  clear hsp
  go_wp2_with fail
  refine Calls.mono (known_any (HE.out.below B1.out)) ?_
  rintro e w2 ⟨rfl, b2⟩
  have T1 := hide (T1.out.below b2)
  have B2 := hide (chain B1.out b2)
  clear b2 B1
  go_wp2_with fail
  refine Calls.mono (copied_any w2 a1 _ c1 L T1.out (by have := H8.out; omega)) ?_
  rintro e w3 ⟨x3, rfl, h3, b3⟩
  obtain ⟨a3, c3, rfl, t3⟩ := town_tms h3
  have T3 := hide t3
  have T1 := hide (T1.out.below b3)
  have B3 := hide (chain B2.out b3)
  clear h3 b3 t3 B2
  go_wp2_with fail
  refine Calls.mono (tset_any (HE.out.below B3.out) a3 _ c3 L T3.out p d (by have := H8.out; omega)) ?_
  rintro e w4 ⟨x4, v4, rfl, hv4, h4, b4⟩
  rw [HSE.out.1] at hv4
  rw [HSE.out.2] at h4
  generalize srt (others L p ++ [⟨p, d⟩]) = S at *
  obtain rfl := bare0 hv4
  obtain ⟨a4, c4, rfl, t4⟩ := town_tms h4
  have T4 := hide t4
  have T1 := hide (T1.out.below b4)
  have B4 := hide (chain B3.out b4)
  have S8 : Hid (S.length ≤ 8) := HG.out.2.1.few HG.out.1
  clear hv4 h4 b4 t4 B3 T3 HSE
  go_wp2_with fail
  refine Calls.mono (copied_any w4 a4 _ c4 S T4.out (by have := S8.out; omega)) ?_
  rintro e w5 ⟨x5, rfl, h5, b5⟩
  obtain ⟨a5, c5, rfl, t5⟩ := town_tms h5
  have T5 := hide t5
  have T1 := hide (T1.out.below b5)
  have T4 := hide (T4.out.below b5)
  have B5 := hide (chain B4.out b5)
  clear h5 b5 t5 B4
  have HFS : Hid (findT S p = some ⟨p, d⟩) := findT_of HG.out.2.1 ((HM.out _).2 (.inr rfl)) rfl
  have HD1 : Hid (dropB S p = true ∧ dropE S = 0 ∧ dropL S p = others L p) := ⟨by unfold dropB; rw [if_pos HG.out, drop_find, HFS.out]; rfl, by unfold dropE; rw [if_pos HG.out], by unfold dropL; rw [if_pos HG.out, HO.out]⟩
  have HD2 : Hid (dropB L p = (findT L p).isSome ∧ dropE L = 0 ∧ dropL L p = others L p) := ⟨by unfold dropB; rw [if_pos HF.out, drop_find], by unfold dropE; rw [if_pos HF.out], by unfold dropL; rw [if_pos HF.out]⟩
  have HOF : Hid (Form (others L p) 8) := others_form HF.out
  have O8 : Hid ((others L p).length ≤ 8) := Nat.le_trans (others_len _ _) H8.out
  go_wp2_with fail
  refine Calls.mono (tdrop_any (HE.out.below B5.out) a5 _ c5 S T5.out p (by have := S8.out; omega)) ?_
  rintro e w6 ⟨x6, q6, v6, rfl, hq6, hv6, h6, b6⟩
  rw [HD1.out.1] at hq6
  rw [HD1.out.2.1] at hv6
  rw [HD1.out.2.2] at h6
  subst hq6
  obtain rfl := bare0 hv6
  obtain ⟨a6, c6, rfl, t6⟩ := town_tms h6
  have T6 := hide t6
  have T1 := hide (T1.out.below b6)
  have T4 := hide (T4.out.below b6)
  have B6 := hide (chain B5.out b6)
  clear hv6 h6 b6 t6 B5 T5 HD1
  go_wp2_with fail
  refine Calls.mono (copied_any w6 a1 _ c1 L T1.out (by have := H8.out; omega)) ?_
  rintro e w7 ⟨x7, rfl, h7, b7⟩
  obtain ⟨a7, c7, rfl, t7⟩ := town_tms h7
  have T7 := hide t7
  have T1 := hide (T1.out.below b7)
  have T4 := hide (T4.out.below b7)
  have T6 := hide (T6.out.below b7)
  have B7 := hide (chain B6.out b7)
  clear h7 b7 t7 B6
  go_wp2_with fail
  refine Calls.mono (tdrop_any (HE.out.below B7.out) a7 _ c7 L T7.out p (by have := H8.out; omega)) ?_
  rintro e w8 ⟨x8, q8, v8, rfl, hq8, hv8, h8, b8⟩
  rw [HD2.out.1] at hq8
  rw [HD2.out.2.1] at hv8
  rw [HD2.out.2.2] at h8
  have HQ8 := hide hq8
  obtain rfl := bare0 hv8
  obtain ⟨a8, c8, rfl, t8⟩ := town_tms h8
  have T8 := hide t8
  have T1 := hide (T1.out.below b8)
  have T4 := hide (T4.out.below b8)
  have T6 := hide (T6.out.below b8)
  have B8 := hide (chain B7.out b8)
  clear hv8 h8 b8 t8 B7 T7 HD2 hq8
  have HC1 : Hid (chkT S 8 = 0) := by unfold Hid chkT; rw [if_neg (by decide), if_pos HG.out]
  have HC2 : Hid (chkT (others L p) 8 = 0) := by unfold Hid chkT; rw [if_neg (by decide), if_pos HOF.out]
  go_wp2_with fail
  refine Calls.mono (tcheck_any (HE.out.below B8.out) a4 _ c4 S T4.out 8 (by have := S8.out; omega)) ?_
  rintro e w9 ⟨v9, rfl, hv9, b9⟩
  rw [HC1.out] at hv9
  obtain rfl := bare0 hv9
  have T1 := hide (T1.out.below b9)
  have T4 := hide (T4.out.below b9)
  have T6 := hide (T6.out.below b9)
  have T8 := hide (T8.out.below b9)
  have B9 := hide (chain B8.out b9)
  clear hv9 b9 B8
  go_wp2_with fail
  refine Calls.mono (tcheck_any (HE.out.below B9.out) a6 _ c6 (others L p) T6.out 8 (by have := O8.out; omega)) ?_
  rintro e w10 ⟨v10, rfl, hv10, b10⟩
  rw [HC2.out] at hv10
  obtain rfl := bare0 hv10
  have T1 := hide (T1.out.below b10)
  have T4 := hide (T4.out.below b10)
  have T6 := hide (T6.out.below b10)
  have T8 := hide (T8.out.below b10)
  have B10 := hide (chain B9.out b10)
  clear hv10 b10 B9
  go_wp2_with fail
  refine Calls.mono (tfind_any w10 a1 _ c1 L T1.out p (by have := H8.out; omega)) ?_
  rintro e w11 ⟨rfl, b11⟩
  have T1 := hide (T1.out.below b11)
  have T4 := hide (T4.out.below b11)
  have T6 := hide (T6.out.below b11)
  have T8 := hide (T8.out.below b11)
  have B11 := hide (chain B10.out b11)
  rw [← HQ8.out]
  generalize findD L p = z11 at *
  clear b11 B10 HQ8
  go_wp2_with fail
  refine Calls.mono (same_any a6 a8 _ _ c6 c8 _ _ T6.out T8.out (by have := O8.out; omega) (by have := O8.out; omega)) ?_
  rintro e w12 ⟨rfl, b12⟩
  have T1 := hide (T1.out.below b12)
  have T4 := hide (T4.out.below b12)
  have T6 := hide (T6.out.below b12)
  have B12 := hide (chain B11.out b12)
  rw [decide_eq_true rfl]
  clear b12 B11 T8
  go_wp2_with fail
  refine Calls.mono (tfind_any w12 a4 _ c4 S T4.out p (by have := S8.out; omega)) ?_
  rintro e w13 ⟨rfl, b13⟩
  have T1 := hide (T1.out.below b13)
  have T4 := hide (T4.out.below b13)
  have T6 := hide (T6.out.below b13)
  have B13 := hide (chain B12.out b13)
  have HFD : Hid (findD S p = d) := by unfold Hid findD; rw [HFS.out]; rfl
  rw [HFD.out, HFS.out]
  clear b13 B12
  have HFN : Hid (findT (others L p) p = none) := List.find?_eq_none.2 fun t ht => by
    have := (others_mem.1 ht).2
    simpa using this
  go_wp2_with fail
  refine Calls.mono (tfind_any w13 a6 _ c6 (others L p) T6.out p (by have := O8.out; omega)) ?_
  rintro e w14 ⟨rfl, b14⟩
  have T1 := hide (T1.out.below b14)
  have T4 := hide (T4.out.below b14)
  have T6 := hide (T6.out.below b14)
  have B14 := hide (chain B13.out b14)
  rw [HFN.out]
  generalize findD (others L p) p = z14 at *
  clear b14 B13
  simp only [Option.isSome_some, Option.isSome_none]
  have HFC : Hid (∀ q : Int, q ≠ p → findT S q = findT L q ∧ findT (others L p) q = findT L q) := fun q hq =>
    ⟨findT_congr HG.out.2.1 HF.out.2.1 (fun t ht => by
      rw [HM.out t]
      constructor
      · rintro (h | rfl)
        · exact h.1
        · exact absurd ht.symm hq
      · exact fun h => .inl ⟨h, by rw [ht]; exact hq⟩),
     findT_congr HOF.out.2.1 HF.out.2.1 (fun t ht => by
      rw [others_mem]
      exact ⟨fun h => h.1, fun h => ⟨h, by rw [ht]; exact hq⟩⟩)⟩
  go_wp2
  go_loopw [24] (fun i wr => ∃ k : Nat, k ≤ 8 ∧ i = .int .i64 (k : Int) ∧ Hid (Below w14.heap.size w14 wr)) (fun i _ => 8 - (intOf i).toNat)
  case atStart => exact ⟨0, by omega, rfl, Below.refl _ _⟩
  case round =>
    obtain ⟨k, hk, rfl, hb⟩ := hrel
    by_cases hlt : k < 8
    · have hk1 : (k : Int) < 8 := by omega
      have d1 : decide ((k : Int) < 8) = true := decide_eq_true hk1
      go_wp2_with fail
      refine Calls.mono (tfind_any wr a1 _ c1 L (T1.out.below hb.out) (k : Int) (by have := H8.out; omega)) ?_
      rintro e w15 ⟨rfl, b15⟩
      have D15 := hide (chain hb.out b15)
      clear b15
      go_wp2_with fail
      refine Calls.mono (tfind_any w15 a4 _ c4 S (T4.out.below D15.out) (k : Int) (by have := S8.out; omega)) ?_
      rintro e w16 ⟨rfl, b16⟩
      have D16 := hide (chain D15.out b16)
      clear b16 D15
      go_wp2_with fail
      refine Calls.mono (tfind_any w16 a6 _ c6 (others L p) (T6.out.below D16.out) (k : Int) (by have := O8.out; omega)) ?_
      rintro e w17 ⟨rfl, b17⟩
      have D17 := hide (chain D16.out b17)
      clear b17 D16
      by_cases hqp : (k : Int) = p
      · have e1 : ((k : Int) != p) = false := by simp [hqp]
        clear hqp
        generalize findD L (k : Int) = z1 at *
        generalize findD S (k : Int) = z2 at *
        generalize findD (others L p) (k : Int) = z3 at *
        generalize (findT L (k : Int)).isSome = y1 at *
        generalize (findT S (k : Int)).isSome = y2 at *
        generalize (findT (others L p) (k : Int)).isSome = y3 at *
        go_wp2
        go_roundw
        case rel => exact ⟨k + 1, by omega, by go_num, D17.out⟩
        case measure => simp [intOf]; omega
      · have e1 : ((k : Int) != p) = true := by simp [hqp]
        have h1 := HFC.out (k : Int) hqp
        have h2 : findD S (k : Int) = findD L (k : Int) := by unfold findD; rw [h1.1]
        have h3 : findD (others L p) (k : Int) = findD L (k : Int) := by unfold findD; rw [h1.2]
        rw [h2, h3, h1.1, h1.2]
        clear hqp h1 h2 h3
        generalize findD L (k : Int) = z1 at *
        generalize (findT L (k : Int)).isSome = y1 at *
        go_wp2
        go_roundw
        case rel => exact ⟨k + 1, by omega, by go_num, D17.out⟩
        case measure => simp [intOf]; omega
    · obtain rfl : k = 8 := by omega
      have D18 := hide (chain B14.out hb.out)
      go_wp2
      go_ret
      exact ⟨rfl, D18.out⟩
end Go.Proofs.YtahdaodikpblnaaDoor.timerOne
