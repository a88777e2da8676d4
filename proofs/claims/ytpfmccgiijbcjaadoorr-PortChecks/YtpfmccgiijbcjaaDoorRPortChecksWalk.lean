/-
  Walk of the law PortChecks.
-/
import Derived.Test.YtpfmccgiijbcjaaDoorRPtFixed
import Derived.Test.YtpfmccgiijbcjaaDoorRPtFree
import Derived.Test.YtpfmccgiijbcjaaDoorRPtRAge
import Derived.Test.YtpfmccgiijbcjaaDoorRPtCase
namespace Go.Proofs.YtpfmccgiijbcjaaDoorR.portChecks
open Go.RowKit
set_option linter.unusedVariables false
set_option linter.unusedSimpArgs false

theorem ageL_len {w : World} {k s d r : Int} {a : Option Addr} {len cap : Nat} {l : List ByteArray} {age : Int} (h : Sts w a len cap l) : (ageL k s d r l age).length ≤ 8796093022207 := by
  unfold ageL
  split
  · rw [h.size]; exact h.most
  · simp
theorem ageL_small {w : World} {k s d r : Int} {a : Option Addr} {len cap : Nat} {l : List ByteArray} {age : Int} (h : Sts w a len cap l) : Smalls (ageL k s d r l age) := by
  unfold ageL
  split
  · exact h.small
  · intro x hx; simp at hx

set_option maxRecDepth 100000 in
set_option maxHeartbeats 8000000 in
theorem law {E : Nat → Addr} (k s d r : Int) (a : Option Addr) (len cap : Nat) (l : List ByteArray) (age : Int) (D : ByteArray) (x7 x8 x9 : Value) (w : World) (he : Errs w E) (hs : Sts w a len cap l) (hD : D.size ≤ 9223372036854775807) (hx7 : ∃ a n c, x7 = .slice a n c) (hx8 : ∃ a n c, x8 = .slice a n c) (hx9 : ∃ a n c, x9 = .slice a n c) :
    Calls Tryd.prog 3 #[.agg #[.int .i64 k, .int .i64 s, .int .i64 d, .int .i64 r, .slice a len cap, .int .i64 age, .string D, x7, x8, x9]] w fun e w' => e = .returned (.bool true) ∧ Below w.heap.size w w' := by
  obtain ⟨a7, n7, c7, rfl⟩ := hx7
  obtain ⟨a8, n8, c8, rfl⟩ := hx8
  obtain ⟨a9, n9, c9, rfl⟩ := hx9
  have HE := hide he
  have HS := hide hs
  have hl := hs.size
  have CX := hide (cx_alloc w k s d r (.slice a len cap) age D (.slice a7 n7 c7) (.slice a8 n8 c8) (.slice a9 n9 c9))
  have DC := hide (cx_below w k s d r (.slice a len cap) age D (.slice a7 n7 c7) (.slice a8 n8 c8) (.slice a9 n9 c9))
  clear he hs
  go_enter Tryd.func3, Tryd.ntmps3
  go_wp2_with fail
  generalize w.alloc (.cells #[.int .i64 k, .int .i64 s, .int .i64 d, .int .i64 r, .slice a len cap, .int .i64 age, .string D, .slice a7 n7 c7, .slice a8 n8 c8, .slice a9 n9 c9] 31) = W0 at *
  refine Calls.mono (fixed_yes (HE.out.below DC.out)) ?_
  rintro e w1 ⟨rfl, b1⟩
  have CX := hide (CX.out.below b1)
  have DC := hide (chain DC.out b1)
  clear b1
  go_wp2_with fail
  have DC := hide (DC.out.drew)
  have CX := hide (CX.out.below ((Below.refl _ _).drew))
  go_region_held3 (fun wz => wz.cell? ⟨w.heap.size, 0, none⟩ = some (.int .i64 k) ∧ wz.cell? ⟨w.heap.size, 1, none⟩ = some (.int .i64 s) ∧ wz.cell? ⟨w.heap.size, 2, none⟩ = some (.int .i64 d) ∧ wz.cell? ⟨w.heap.size, 3, none⟩ = some (.int .i64 r) ∧ wz.cell? ⟨w.heap.size, 4, none⟩ = some (.slice a len cap) ∧ wz.cell? ⟨w.heap.size, 5, none⟩ = some (.int .i64 age)) (exact ⟨CX.out.c0, CX.out.c1, CX.out.c2, CX.out.c3, CX.out.c4, CX.out.c5⟩)
    (first
      | (go_at_call 10; refine (checkPlan_any (HE.out.below DC.out) k s d r).mono ?_; rintro e w5 ⟨v5, rfl, hv5, b5⟩; have HV := hide hv5; clear hv5; have DC := hide (chain DC.out b5); have CX := hide (CX.out.below b5); clear b5)
      | (go_at_call 11; refine (refCheckPlan_any k s d r _).mono ?_; rintro e w5 ⟨rfl, b5⟩; have DC := hide (chain DC.out b5); have CX := hide (CX.out.below b5); clear b5)
      | (go_at_call 9; refine (lsame_yes (HE.out.below DC.out) _ _ HV.out).mono ?_; rintro e w5 ⟨rfl, b5⟩; have DC := hide (chain DC.out b5); have CX := hide (CX.out.below b5); clear b5)
      | (go_at_call 13; refine (lcopied_any a len cap l age _ (HS.out.below DC.out)).mono ?_; rintro e w5 ⟨v5, rfl, o5, b5⟩; obtain ⟨a5, c5, rfl, s5⟩ := o5.sts (by rw [hl]; exact HS.out.most) HS.out.small; rw [hl] at s5 ⊢; have SC := hide s5; clear s5 o5; have DC := hide (chain DC.out b5); have CX := hide (CX.out.below b5); clear b5)
      | (go_at_call 12; refine (check_any (HE.out.below DC.out) k s d r age _ len _ l SC.out).mono ?_; rintro e w5 ⟨v5, rfl, hv5, b5⟩; have HV := hide hv5; clear hv5; have DC := hide (chain DC.out b5); have CX := hide (CX.out.below b5); clear b5)
      | (go_at_call 14; refine (refCheck_any k s d r age a len cap l (HS.out.below DC.out)).mono ?_; rintro e w5 ⟨rfl, b5⟩; have DC := hide (chain DC.out b5); have CX := hide (CX.out.below b5); clear b5))
  rename_i hheld
  clear hheld
  go_wp2_with fail
  have TWn : Hid (Two (w5.alloc (.cells #[.slice none 0 0, .int .i64 0] 26)).drew w5.heap.size (.slice none 0 0) (.int .i64 0)) := (two_alloc w5 (.slice none 0 0) (.int .i64 0) 26).below ((Below.refl _ _).drew)
  have DCn : Hid (Below w.heap.size w (w5.alloc (.cells #[.slice none 0 0, .int .i64 0] 26)).drew) := chain DC.out (newd_below w5 (.cells #[.slice none 0 0, .int .i64 0] 26))
  have CXn : Hid (Cx (w5.alloc (.cells #[.slice none 0 0, .int .i64 0] 26)).drew w.heap.size k s d r (.slice a len cap) age D) := CX.out.below (newd_below w5 (.cells #[.slice none 0 0, .int .i64 0] 26))
  have hwA : w.heap.size < w5.heap.size := block_lt_of_cell CX.out.c0
  go_cut [3, 4] (fun v3 v4 wx => ∃ (g : Nat) (aa : Option Addr) (cc : Nat), v3 = .pointer (some ⟨g, 0, none⟩) ∧ Two wx g (.slice aa (ageL k s d r l age).length cc) (.int .i64 (ageA k s d r l age)) ∧ SLk wx w.heap.size (.slice aa (ageL k s d r l age).length cc) (ageL k s d r l age) ∧ Bare E v4 (chkErr k s d r l age) ∧ Below w5.heap.size w5 wx)
  case first =>
    go_region_held3 (fun wz => wz.cell? ⟨w.heap.size, 0, none⟩ = some (.int .i64 k) ∧ wz.cell? ⟨w.heap.size, 1, none⟩ = some (.int .i64 s) ∧ wz.cell? ⟨w.heap.size, 2, none⟩ = some (.int .i64 d) ∧ wz.cell? ⟨w.heap.size, 3, none⟩ = some (.int .i64 r) ∧ wz.cell? ⟨w.heap.size, 4, none⟩ = some (.slice a len cap) ∧ wz.cell? ⟨w.heap.size, 5, none⟩ = some (.int .i64 age)) (first | exact ⟨CX.out.c0, CX.out.c1, CX.out.c2, CX.out.c3, CX.out.c4, CX.out.c5⟩ | exact ⟨CXn.out.c0, CXn.out.c1, CXn.out.c2, CXn.out.c3, CXn.out.c4, CXn.out.c5⟩ | exact ⟨CK.out.c0, CK.out.c1, CK.out.c2, CK.out.c3, CK.out.c4, CK.out.c5⟩ | (have q := CK.out.below (new_below' _ (.cells #[.slice none 0 0, .int .i64 0] 26)); exact ⟨q.c0, q.c1, q.c2, q.c3, q.c4, q.c5⟩) | (have q := CK.out.far2 (x' := .slice aa (ageL k s d r l age).length cc) (y' := .int .i64 (ageA k s d r l age)) (g := w5.heap.size) hwA; exact ⟨q.c0, q.c1, q.c2, q.c3, q.c4, q.c5⟩) | (have q := CK.out.far2 (x' := .slice aa (ageL k s d r l age).length cc) (y' := .int .i64 (ageA k s d r l age)) (g := w6.heap.size) hw6; exact ⟨q.c0, q.c1, q.c2, q.c3, q.c4, q.c5⟩) | (have q := CK.out.below (new_below' _ (.cells #[.slice aa (ageL k s d r l age).length cc, .int .i64 (ageA k s d r l age)] 26)); exact ⟨q.c0, q.c1, q.c2, q.c3, q.c4, q.c5⟩))
      (first
        | (go_at_call 13; refine (lcopied_any a len cap l age _ (HS.out.below (by first | exact DC.out | exact DCn.out | exact DC.out.drew))).mono ?_; rintro e w6 ⟨v6, rfl, o6, b6⟩; obtain ⟨a6, c6, rfl, s6⟩ := o6.sts (by rw [hl]; exact HS.out.most) HS.out.small; rw [hl] at s6 ⊢; have SC := hide s6; have B6 := hide b6; have DK := hide (chain (by first | exact DC.out | exact DCn.out | exact DC.out.drew) b6); have CK := hide (Cx.below (by first | exact CX.out | exact CXn.out | exact CX.out.below ((Below.refl _ _).drew)) b6); have hw6 : w.heap.size < w6.heap.size := block_lt_of_cell CK.out.c0; clear s6 o6 b6)
        | (go_at_call 15; refine (age_any (HE.out.below (by first | exact DK.out | exact (chain DK.out (new_below' _ (.cells #[.slice none 0 0, .int .i64 0] 26))))) k s d r age _ len _ l (by first | exact SC.out | exact SC.out.below (new_below' _ (.cells #[.slice none 0 0, .int .i64 0] 26)))).mono ?_; rintro e w7 ⟨x7', v7, rfl, hv7, o7, b7⟩; obtain ⟨aa, cc, rfl, _⟩ := o7.row; have HV := hide hv7; have OA := hide o7; have B7 := hide b7; have CK := hide (Cx.below (by first | exact CK.out | exact (CK.out.below (new_below' _ (.cells #[.slice none 0 0, .int .i64 0] 26)))) b7); have ta := (show Two _ _ _ _ from (by first | exact ((TWn.out.below B6.out).below B7.out) | exact ((two_alloc w6 (.slice none 0 0) (.int .i64 0) 26).below B7.out) | exact (two_alloc w6 (.slice none 0 0) (.int .i64 0) 26))); have g0 := ta.c0; have g1 := ta.c1; have f0 := ta.f0; have f1 := ta.f1; clear ta hv7 o7 b7))
    all_goals go_wp2
    all_goals go_meet
    all_goals first
      | exact ⟨_, _, _, rfl, (fin_port (u := .int .i64 (ageA k s d r l age)) ((TWn.out.below B6.out).below B7.out) OA.out (chain (chain (newd_below w5 (.cells #[.slice none 0 0, .int .i64 0] 26)) B6.out) B7.out) (by have := B6.out.size; simp at this; omega) (Nat.le_refl _)).1, (fin_port (u := .int .i64 (ageA k s d r l age)) ((TWn.out.below B6.out).below B7.out) OA.out (chain (chain (newd_below w5 (.cells #[.slice none 0 0, .int .i64 0] 26)) B6.out) B7.out) (by have := B6.out.size; simp at this; omega) (Nat.le_refl _)).2.1.weaken DK.out.size, HV.out, (fin_port (u := .int .i64 (ageA k s d r l age)) ((TWn.out.below B6.out).below B7.out) OA.out (chain (chain (newd_below w5 (.cells #[.slice none 0 0, .int .i64 0] 26)) B6.out) B7.out) (by have := B6.out.size; simp at this; omega) (Nat.le_refl _)).2.2⟩
      | exact ⟨_, _, _, rfl, (fin_port (u := .int .i64 (ageA k s d r l age)) ((two_alloc w6 (.slice none 0 0) (.int .i64 0) 26).below B7.out) OA.out (chain (chain (undrew B6.out) (new_below' w6 (.cells #[.slice none 0 0, .int .i64 0] 26))) B7.out) (by simp) (undrew B6.out).size).1, (fin_port (u := .int .i64 (ageA k s d r l age)) ((two_alloc w6 (.slice none 0 0) (.int .i64 0) 26).below B7.out) OA.out (chain (chain (undrew B6.out) (new_below' w6 (.cells #[.slice none 0 0, .int .i64 0] 26))) B7.out) (by simp) (undrew B6.out).size).2.1.weaken (chain DK.out (new_below' w6 (.cells #[.slice none 0 0, .int .i64 0] 26))).size, HV.out, (fin_port (u := .int .i64 (ageA k s d r l age)) ((two_alloc w6 (.slice none 0 0) (.int .i64 0) 26).below B7.out) OA.out (chain (chain (undrew B6.out) (new_below' w6 (.cells #[.slice none 0 0, .int .i64 0] 26))) B7.out) (by simp) (undrew B6.out).size).2.2⟩
      | exact ⟨_, _, _, rfl, two_alloc w7 _ _ _, (OA.out.below (new_below' w7 _)).weaken DK.out.size, HV.out, chain (chain (undrew B6.out) B7.out) (new_below' w7 _)⟩
  case rest =>
    obtain ⟨g, aa, cc, rfl, tA, oA, hvA, bA⟩ := hcut
    have DC := hide (chain DC.out bA)
    have CX := hide (CX.out.below bA)
    have TG := hide tA
    have OG := hide oA
    have HV := hide hvA
    clear bA tA oA hvA TWn DCn CXn hwA
    have k0 := CX.out.c0
    have k1 := CX.out.c1
    have k2 := CX.out.c2
    have k3 := CX.out.c3
    have k4 := CX.out.c4
    have k5 := CX.out.c5
    go_wp2_with fail
    refine Calls.mono (refAge_any k s d r age a len cap l (HS.out.below DC.out)) ?_
    rintro e w7 ⟨x7', rfl, o7, b7⟩
    obtain ⟨ab, cb, rfl, _⟩ := o7.row
    clear k0 k1 k2 k3 k4 k5
    have DC := hide (chain DC.out (chain b7 (new_below' w7 (.cells #[.slice ab (ageL k s d r l age).length cb, .int .i64 (ageA k s d r l age)] 26))))
    have CX := hide (CX.out.below (chain b7 (new_below' w7 (.cells #[.slice ab (ageL k s d r l age).length cb, .int .i64 (ageA k s d r l age)] 26))))
    have TG := hide (TG.out.below (chain b7 (new_below' w7 (.cells #[.slice ab (ageL k s d r l age).length cb, .int .i64 (ageA k s d r l age)] 26))))
    have OG := hide (OG.out.below (chain b7 (new_below' w7 (.cells #[.slice ab (ageL k s d r l age).length cb, .int .i64 (ageA k s d r l age)] 26))))
    have TH := hide (two_alloc w7 (.slice ab (ageL k s d r l age).length cb) (.int .i64 (ageA k s d r l age)) 26)
    have OH := hide (o7.below (new_below' w7 (.cells #[.slice ab (ageL k s d r l age).length cb, .int .i64 (ageA k s d r l age)] 26)))
    clear b7 o7
    go_wp2_with fail
    generalize w7.alloc (.cells #[.slice ab (ageL k s d r l age).length cb, .int .i64 (ageA k s d r l age)] 26) = X7 at *
    refine Calls.mono (lsame_yes (HE.out.below DC.out) _ _ HV.out) ?_
    rintro e w8 ⟨rfl, b8⟩
    have DC := hide (chain DC.out b8)
    have CX := hide (CX.out.below b8)
    have TG := hide (TG.out.below b8)
    have OG := hide (OG.out.below b8)
    have TH := hide (TH.out.below b8)
    have OH := hide (OH.out.below b8)
    clear b8
    have y0 := TG.out.c0
    have y1 := TG.out.c1
    have y2 := TH.out.c0
    have y3 := TH.out.c1
    go_wp2_with fail
    refine Calls.mono (same_slk OG.out OH.out (ageL_len HS.out) (ageL_small HS.out)) ?_
    rintro e w9 ⟨rfl, b9⟩
    have DC := hide (chain DC.out b9)
    have CX := hide (CX.out.below b9)
    clear b9 y0 y1 y2 y3 TG OG TH OH
    have k0 := CX.out.c0
    have k1 := CX.out.c1
    have k2 := CX.out.c2
    have k3 := CX.out.c3
    have k4 := CX.out.c4
    have k5 := CX.out.c5
    go_wp2_with fail
    clear k0 k1 k2 k3 k4 k5
    have DC := hide (DC.out.drew)
    have CX := hide (CX.out.below ((Below.refl _ _).drew))
    go_region_held3 (fun wz => wz.cell? ⟨w.heap.size, 0, none⟩ = some (.int .i64 k) ∧ wz.cell? ⟨w.heap.size, 1, none⟩ = some (.int .i64 s) ∧ wz.cell? ⟨w.heap.size, 2, none⟩ = some (.int .i64 d) ∧ wz.cell? ⟨w.heap.size, 3, none⟩ = some (.int .i64 r) ∧ wz.cell? ⟨w.heap.size, 4, none⟩ = some (.slice a len cap) ∧ wz.cell? ⟨w.heap.size, 5, none⟩ = some (.int .i64 age)) (exact ⟨CX.out.c0, CX.out.c1, CX.out.c2, CX.out.c3, CX.out.c4, CX.out.c5⟩)
      (first
        | (go_at_call 13; refine (lcopied_any a len cap l age _ (HS.out.below DC.out)).mono ?_; rintro e w5 ⟨v5, rfl, o5, b5⟩; obtain ⟨a5, c5, rfl, s5⟩ := o5.sts (by rw [hl]; exact HS.out.most) HS.out.small; rw [hl] at s5 ⊢; have SC := hide s5; clear s5 o5; have DC := hide (chain DC.out b5); have CX := hide (CX.out.below b5); clear b5)
        | (go_at_call 18; refine (free_any (HE.out.below DC.out) k s d r age _ len _ l SC.out).mono ?_; rintro e w5 ⟨v5, rfl, hv5, b5⟩; have HV := hide hv5; clear hv5; have DC := hide (chain DC.out b5); have CX := hide (CX.out.below b5); clear b5))
    rename_i hheld
    clear hheld
    have k0 := CX.out.c0
    have k1 := CX.out.c1
    have k2 := CX.out.c2
    have k3 := CX.out.c3
    have k4 := CX.out.c4
    have k5 := CX.out.c5
    go_wp2_with fail
    refine Calls.mono (refFree_any k s d r age a len cap l (HS.out.below DC.out)) ?_
    rintro e w11 ⟨rfl, b11⟩
    clear k0 k1 k2 k3 k4 k5
    have DC := hide (chain DC.out b11)
    have CX := hide (CX.out.below b11)
    clear b11
    go_wp2_with fail
    refine Calls.mono (lsame_yes (HE.out.below DC.out) _ _ HV.out) ?_
    rintro e w12 ⟨rfl, b12⟩
    have DC := hide (chain DC.out b12)
    have CX := hide (CX.out.below b12)
    clear b12
    have k0 := CX.out.c0
    have k1 := CX.out.c1
    have k2 := CX.out.c2
    have k3 := CX.out.c3
    have k4 := CX.out.c4
    have k5 := CX.out.c5
    go_wp2_with fail
    refine Calls.mono (most_any (HE.out.below DC.out) k s d r) ?_
    rintro e w13 ⟨v13, rfl, hv13, b13⟩
    clear k0 k1 k2 k3 k4 k5
    have DC := hide (chain DC.out b13)
    have CX := hide (CX.out.below b13)
    have HV := hide hv13
    clear b13 hv13
    have k0 := CX.out.c0
    have k1 := CX.out.c1
    have k2 := CX.out.c2
    have k3 := CX.out.c3
    have k4 := CX.out.c4
    have k5 := CX.out.c5
    go_wp2_with fail
    refine Calls.mono (refMost_any k s d r) ?_
    rintro e w14 ⟨rfl, b14⟩
    clear k0 k1 k2 k3 k4 k5
    have DC := hide (chain DC.out b14)
    have CX := hide (CX.out.below b14)
    clear b14
    go_wp2_with fail
    refine Calls.mono (lsame_yes (HE.out.below DC.out) _ _ HV.out) ?_
    rintro e w15 ⟨rfl, b15⟩
    have DC := hide (chain DC.out b15)
    clear b15
    go_wp2
    go_ret
    exact ⟨rfl, DC.out⟩

end Go.Proofs.YtpfmccgiijbcjaaDoorR.portChecks
