/-
  Walk of the law PortMoves.
-/
import Derived.Test.YtpfmccgiijbcjaaDoorRPtFixed
import Derived.Test.YtpfmccgiijbcjaaDoorRPtDrain
import Derived.Test.YtpfmccgiijbcjaaDoorRPtCase
import Derived.Deep.DeepCutAuto
namespace Go.Proofs.YtpfmccgiijbcjaaDoorR.portMoves
open Go.RowKit
set_option linter.unusedVariables false
set_option linter.unusedSimpArgs false

theorem movL_len (b : Bool) (k s d r : Int) (l : List ByteArray) (age : Int) (D : ByteArray) : (movL b k s d r l age D).length ≤ 8796093022207 := by
  unfold movL
  split
  · rename_i h
    have h2 := (chk0 h.1).2
    have hp := pe_is k s d r
    have hp0 := (chk0 h.1).1
    unfold fitB at h2
    simp only [Bool.and_eq_true, decide_eq_true_eq] at h2
    unfold addL
    split
    · split
      · rw [List.length_append]; simp only [List.length_cons, List.length_nil]; omega
      · simp
    · simp
  · simp
theorem movL_small (b : Bool) (k s d r : Int) {l : List ByteArray} (age : Int) {D : ByteArray} (h : Smalls l) (hD : D.size ≤ 9223372036854775807) : Smalls (movL b k s d r l age D) := by
  unfold movL
  split
  · unfold addL
    split
    · split
      · intro x hx
        rcases List.mem_append.1 hx with hx | hx
        · exact h x hx
        · rw [List.mem_singleton.1 hx]; exact hD
      · exact small1 D hD
    · intro x hx; simp at hx
  · intro x hx; simp at hx
theorem got_len {w : World} {k s d r : Int} {a : Option Addr} {len cap : Nat} {l : List ByteArray} {age : Int} (h : Sts w a len cap l) : (got k s d r l age).list.length ≤ 8796093022207 := by
  have h1 := h.size
  have h2 := h.most
  unfold got
  split
  · split
    · simp only [List.length_drop]; omega
    · show l.length ≤ _; omega
  · simp [noGot]
theorem got_small {w : World} {k s d r : Int} {a : Option Addr} {len cap : Nat} {l : List ByteArray} {age : Int} (h : Sts w a len cap l) : Smalls (got k s d r l age).list := by
  unfold got
  split
  · split
    · exact fun x hx => h.small x (List.mem_of_mem_drop hx)
    · exact h.small
  · intro x hx; simp [noGot] at hx
theorem drnL_len {w : World} {k s d r : Int} {a : Option Addr} {len cap : Nat} {l : List ByteArray} {age : Int} (h : Sts w a len cap l) : (drnL k s d r l age).length ≤ 8796093022207 := by
  have h1 := h.size
  have h2 := h.most
  unfold drnL
  split
  · omega
  · simp
theorem drnL_small {w : World} {k s d r : Int} {a : Option Addr} {len cap : Nat} {l : List ByteArray} {age : Int} (h : Sts w a len cap l) : Smalls (drnL k s d r l age) := by
  unfold drnL
  split
  · exact h.small
  · intro x hx; simp at hx

set_option maxRecDepth 100000 in
set_option maxHeartbeats 16000000 in
theorem law {E : Nat → Addr} (k s d r : Int) (a : Option Addr) (len cap : Nat) (l : List ByteArray) (age : Int) (D : ByteArray) (x7 x8 x9 : Value) (w : World) (he : Errs w E) (hs : Sts w a len cap l) (hD : D.size ≤ 9223372036854775807) (hx7 : ∃ a n c, x7 = .slice a n c) (hx8 : ∃ a n c, x8 = .slice a n c) (hx9 : ∃ a n c, x9 = .slice a n c) :
    Calls Tryd.prog 4 #[.agg #[.int .i64 k, .int .i64 s, .int .i64 d, .int .i64 r, .slice a len cap, .int .i64 age, .string D, x7, x8, x9]] w fun e w' => e = .returned (.bool true) ∧ Below w.heap.size w w' := by
  obtain ⟨a7, n7, c7, rfl⟩ := hx7
  obtain ⟨a8, n8, c8, rfl⟩ := hx8
  obtain ⟨a9, n9, c9, rfl⟩ := hx9
  have HE := hide he
  have HS := hide hs
  have hl := hs.size
  have CX := hide (cx_alloc w k s d r (.slice a len cap) age D (.slice a7 n7 c7) (.slice a8 n8 c8) (.slice a9 n9 c9))
  have DC := hide (cx_below w k s d r (.slice a len cap) age D (.slice a7 n7 c7) (.slice a8 n8 c8) (.slice a9 n9 c9))
  clear he hs
  go_enter Tryd.func4, Tryd.ntmps4
  go_wp2_with fail
  generalize w.alloc (.cells #[.int .i64 k, .int .i64 s, .int .i64 d, .int .i64 r, .slice a len cap, .int .i64 age, .string D, .slice a7 n7 c7, .slice a8 n8 c8, .slice a9 n9 c9] 31) = W0 at *
  refine Calls.mono (fixed_yes (HE.out.below DC.out)) ?_
  rintro e w1 ⟨rfl, b1⟩
  have CX := hide (CX.out.below b1)
  have DC := hide (chain DC.out b1)
  clear b1
  go_wp2_with fail
  have TWn : Hid (Two (w1.alloc (.cells #[.slice none 0 0, .int .i64 0] 26)).drew w1.heap.size (.slice none 0 0) (.int .i64 0)) := (two_alloc w1 (.slice none 0 0) (.int .i64 0) 26).below ((Below.refl _ _).drew)
  have DCn : Hid (Below w.heap.size w (w1.alloc (.cells #[.slice none 0 0, .int .i64 0] 26)).drew) := chain DC.out (newd_below w1 (.cells #[.slice none 0 0, .int .i64 0] 26))
  have CXn : Hid (Cx (w1.alloc (.cells #[.slice none 0 0, .int .i64 0] 26)).drew w.heap.size k s d r (.slice a len cap) age D) := CX.out.below (newd_below w1 (.cells #[.slice none 0 0, .int .i64 0] 26))
  have hwA : w.heap.size < w1.heap.size := block_lt_of_cell CX.out.c0
  go_cut [3, 4] (fun v3 v4 wx => ∃ (g : Nat) (aa : Option Addr) (cc : Nat), v3 = .pointer (some ⟨g, 0, none⟩) ∧ w.heap.size < g ∧ Two wx g (.slice aa (movL true k s d r l age D).length cc) (.int .i64 (0)) ∧ SLk wx w.heap.size (.slice aa (movL true k s d r l age D).length cc) (movL true k s d r l age D) ∧ Bare E v4 (movErr true k s d r l age D) ∧ Below w1.heap.size w1 wx)
  case first =>
    go_region_held3 (fun wz => wz.cell? ⟨w.heap.size, 0, none⟩ = some (.int .i64 k) ∧ wz.cell? ⟨w.heap.size, 1, none⟩ = some (.int .i64 s) ∧ wz.cell? ⟨w.heap.size, 2, none⟩ = some (.int .i64 d) ∧ wz.cell? ⟨w.heap.size, 3, none⟩ = some (.int .i64 r) ∧ wz.cell? ⟨w.heap.size, 4, none⟩ = some (.slice a len cap) ∧ wz.cell? ⟨w.heap.size, 5, none⟩ = some (.int .i64 age) ∧ wz.cell? ⟨w.heap.size, 6, none⟩ = some (.string D)) (first | exact ⟨CX.out.c0, CX.out.c1, CX.out.c2, CX.out.c3, CX.out.c4, CX.out.c5, CX.out.c6⟩ | exact ⟨CXn.out.c0, CXn.out.c1, CXn.out.c2, CXn.out.c3, CXn.out.c4, CXn.out.c5, CXn.out.c6⟩ | exact ⟨CK.out.c0, CK.out.c1, CK.out.c2, CK.out.c3, CK.out.c4, CK.out.c5, CK.out.c6⟩ | (have q := CK.out.below (new_below' _ (.cells #[.slice none 0 0, .int .i64 0] 26)); exact ⟨q.c0, q.c1, q.c2, q.c3, q.c4, q.c5, q.c6⟩) | (have q := CK.out.far2 (x' := .slice aa (movL true k s d r l age D).length cc) (y' := .int .i64 (0)) (g := w1.heap.size) hwA; exact ⟨q.c0, q.c1, q.c2, q.c3, q.c4, q.c5, q.c6⟩) | (have q := CK.out.far2 (x' := .slice aa (movL true k s d r l age D).length cc) (y' := .int .i64 (0)) (g := w6.heap.size) hw6; exact ⟨q.c0, q.c1, q.c2, q.c3, q.c4, q.c5, q.c6⟩) | (have q := CK.out.below (new_below' _ (.cells #[.slice aa (movL true k s d r l age D).length cc, .int .i64 (0)] 26)); exact ⟨q.c0, q.c1, q.c2, q.c3, q.c4, q.c5, q.c6⟩))
      (first
        | (go_at_call 13; refine (lcopied_any a len cap l age _ (HS.out.below (by first | exact DC.out | exact DCn.out | exact DC.out.drew))).mono ?_; rintro e w6 ⟨v6, rfl, o6, b6⟩; obtain ⟨a6, c6, rfl, s6⟩ := o6.sts (by rw [hl]; exact HS.out.most) HS.out.small; rw [hl] at s6 ⊢; have SC := hide s6; have B6 := hide b6; have DK := hide (chain (by first | exact DC.out | exact DCn.out | exact DC.out.drew) b6); have CK := hide (Cx.below (by first | exact CX.out | exact CXn.out | exact CX.out.below ((Below.refl _ _).drew)) b6); have hw6 : w.heap.size < w6.heap.size := block_lt_of_cell CK.out.c0; clear s6 o6 b6)
        | (go_at_call 22; refine (put_any (HE.out.below (by first | exact DK.out | exact (chain DK.out (new_below' _ (.cells #[.slice none 0 0, .int .i64 0] 26))))) k s d r age _ len _ l D (by first | exact SC.out | exact SC.out.below (new_below' _ (.cells #[.slice none 0 0, .int .i64 0] 26))) hD).mono ?_; rintro e w7 ⟨x7', v7, rfl, hv7, o7, b7⟩; obtain ⟨aa, cc, rfl, _⟩ := o7.row; have HV := hide hv7; have OA := hide o7; have B7 := hide b7; have CK := hide (Cx.below (by first | exact CK.out | exact (CK.out.below (new_below' _ (.cells #[.slice none 0 0, .int .i64 0] 26)))) b7); have ta := (show Two _ _ _ _ from (by first | exact ((TWn.out.below B6.out).below B7.out) | exact ((two_alloc w6 (.slice none 0 0) (.int .i64 0) 26).below B7.out) | exact (two_alloc w6 (.slice none 0 0) (.int .i64 0) 26))); have g0 := ta.c0; have g1 := ta.c1; have f0 := ta.f0; have f1 := ta.f1; clear ta hv7 o7 b7))
    all_goals go_wp2
    all_goals go_meet
    all_goals first
      | exact ⟨_, _, _, rfl, hwA, (fin_port (u := .int .i64 (0)) ((TWn.out.below B6.out).below B7.out) OA.out (chain (chain (newd_below w1 (.cells #[.slice none 0 0, .int .i64 0] 26)) B6.out) B7.out) (by have := B6.out.size; simp at this; omega) (Nat.le_refl _)).1, (fin_port (u := .int .i64 (0)) ((TWn.out.below B6.out).below B7.out) OA.out (chain (chain (newd_below w1 (.cells #[.slice none 0 0, .int .i64 0] 26)) B6.out) B7.out) (by have := B6.out.size; simp at this; omega) (Nat.le_refl _)).2.1.weaken DK.out.size, HV.out, (fin_port (u := .int .i64 (0)) ((TWn.out.below B6.out).below B7.out) OA.out (chain (chain (newd_below w1 (.cells #[.slice none 0 0, .int .i64 0] 26)) B6.out) B7.out) (by have := B6.out.size; simp at this; omega) (Nat.le_refl _)).2.2⟩
      | exact ⟨_, _, _, rfl, hw6, (fin_port (u := .int .i64 (0)) ((two_alloc w6 (.slice none 0 0) (.int .i64 0) 26).below B7.out) OA.out (chain (chain (undrew B6.out) (new_below' w6 (.cells #[.slice none 0 0, .int .i64 0] 26))) B7.out) (by simp) (undrew B6.out).size).1, (fin_port (u := .int .i64 (0)) ((two_alloc w6 (.slice none 0 0) (.int .i64 0) 26).below B7.out) OA.out (chain (chain (undrew B6.out) (new_below' w6 (.cells #[.slice none 0 0, .int .i64 0] 26))) B7.out) (by simp) (undrew B6.out).size).2.1.weaken (chain DK.out (new_below' w6 (.cells #[.slice none 0 0, .int .i64 0] 26))).size, HV.out, (fin_port (u := .int .i64 (0)) ((two_alloc w6 (.slice none 0 0) (.int .i64 0) 26).below B7.out) OA.out (chain (chain (undrew B6.out) (new_below' w6 (.cells #[.slice none 0 0, .int .i64 0] 26))) B7.out) (by simp) (undrew B6.out).size).2.2⟩
      | exact ⟨_, _, _, rfl, (Nat.lt_of_lt_of_le hw6 B7.out.size), two_alloc w7 _ _ _, (OA.out.below (new_below' w7 _)).weaken DK.out.size, HV.out, chain (chain (undrew B6.out) B7.out) (new_below' w7 _)⟩
  case rest =>
    obtain ⟨g, aa, cc, rfl, hwg, tA, oA, hvA, bA⟩ := hcut
    have DC := hide (chain DC.out bA)
    have CX := hide (CX.out.below bA)
    have TG := hide tA
    have OG := hide oA
    have HV := hide hvA
    have tA' := tA
    clear bA tA oA hvA TWn DCn CXn hwA
    have k0 := CX.out.c0
    have k1 := CX.out.c1
    have k2 := CX.out.c2
    have k3 := CX.out.c3
    have k4 := CX.out.c4
    have k5 := CX.out.c5
    have k6 := CX.out.c6
    go_wp2_with fail
    refine Calls.mono (refPut_any k s d r age a len cap l D (HS.out.below DC.out) hD) ?_
    rintro e w7 ⟨x7', rfl, o7, b7⟩
    obtain ⟨ab, cb, rfl, _⟩ := o7.row
    clear k0 k1 k2 k3 k4 k5 k6
    have bb := chain b7 (new_below' w7 (.cells #[.slice ab (movL true k s d r l age D).length cb, .int .i64 0] 26))
    have DC := hide (chain DC.out bb)
    have CX := hide (CX.out.below bb)
    have TG := hide (TG.out.below bb)
    have OG := hide (OG.out.below bb)
    have TH := hide (two_alloc w7 (.slice ab (movL true k s d r l age D).length cb) (.int .i64 0) 26)
    have OH := hide (o7.below (new_below' w7 (.cells #[.slice ab (movL true k s d r l age D).length cb, .int .i64 0] 26)))
    have hgh : g ≠ w7.heap.size := by have q : g < wc.heap.size := block_lt_of_cell tA'.c0; have := b7.size; omega
    have hwh : w.heap.size < w7.heap.size := by have q : g < wc.heap.size := block_lt_of_cell tA'.c0; have := b7.size; omega
    clear b7 o7 bb tA'
    go_wp2_with fail
    generalize w7.alloc (.cells #[.slice ab (movL true k s d r l age D).length cb, .int .i64 0] 26) = X7 at *
    generalize w7.heap.size = h at *
    refine Calls.mono (lsame_yes (HE.out.below DC.out) _ _ HV.out) ?_
    rintro e w9 ⟨rfl, b9⟩
    have DC := hide (chain DC.out b9)
    have CX := hide (CX.out.below b9)
    have TG := hide (TG.out.below b9)
    have TH := hide (TH.out.below b9)
    have OG := hide (OG.out.below b9)
    have OH := hide (OH.out.below b9)
    clear b9
    have y0 := TG.out.c0
    have y1 := TG.out.c1
    have y2 := TH.out.c0
    have y3 := TH.out.c1
    go_wp2_with fail
    refine Calls.mono (same_slk OG.out OH.out (movL_len _ _ _ _ _ _ _ _) (movL_small _ _ _ _ _ _ HS.out.small hD)) ?_
    rintro e w10 ⟨rfl, b10⟩
    have DC := hide (chain DC.out b10)
    have CX := hide (CX.out.below b10)
    have TG := hide (TG.out.below b10)
    have TH := hide (TH.out.below b10)
    clear b10 y0 y1 y2 y3 OG OH
    go_wp2_with fail
    have DC := hide (DC.out.drew)
    have CX := hide (CX.out.below ((Below.refl _ _).drew))
    have TG := hide (TG.out.below ((Below.refl _ _).drew))
    have TH := hide (TH.out.below ((Below.refl _ _).drew))
    go_region_held3 (fun wz => wz.cell? ⟨w.heap.size, 0, none⟩ = some (.int .i64 k) ∧ wz.cell? ⟨w.heap.size, 1, none⟩ = some (.int .i64 s) ∧ wz.cell? ⟨w.heap.size, 2, none⟩ = some (.int .i64 d) ∧ wz.cell? ⟨w.heap.size, 3, none⟩ = some (.int .i64 r) ∧ wz.cell? ⟨w.heap.size, 4, none⟩ = some (.slice a len cap) ∧ wz.cell? ⟨w.heap.size, 5, none⟩ = some (.int .i64 age) ∧ wz.cell? ⟨w.heap.size, 6, none⟩ = some (.string D)) (first | exact ⟨CX.out.c0, CX.out.c1, CX.out.c2, CX.out.c3, CX.out.c4, CX.out.c5, CX.out.c6⟩ | (have q := CX.out.far2 (x' := .slice aa (movL false k s d r l age D).length cc) (y' := .int .i64 (0)) (g := g) hwg; exact ⟨q.c0, q.c1, q.c2, q.c3, q.c4, q.c5, q.c6⟩))
      (first
        | (go_at_call 13; refine (lcopied_any a len cap l age _ (HS.out.below DC.out)).mono ?_; rintro e w5 ⟨v5, rfl, o5, b5⟩; obtain ⟨a5, c5, rfl, s5⟩ := o5.sts (by rw [hl]; exact HS.out.most) HS.out.small; rw [hl] at s5 ⊢; have SC := hide s5; clear s5 o5; have DC := hide (chain DC.out b5); have CX := hide (CX.out.below b5); have TG := hide (TG.out.below b5); have TH := hide (TH.out.below b5); clear b5; have hgb := block_lt_of_cell TG.out.c0; have hhb := block_lt_of_cell TH.out.c0)
        | (go_at_call 24; refine (write_any (HE.out.below DC.out) k s d r age _ len _ l D SC.out hD).mono ?_; rintro e w7 ⟨x5, v5, rfl, hv5, o5, b5⟩; obtain ⟨aa, cc, rfl, _⟩ := o5.row; have HV := hide hv5; have OG := hide o5; clear hv5 o5; have DC := hide (chain DC.out b5); have CX := hide (CX.out.below b5); have TG := hide (TG.out.below b5); have TH := hide (TH.out.below b5); clear b5; have ga := TG.out.c0; have gb := TG.out.c1; have gc := TG.out.f0; have gd := TG.out.f1))
    rename_i hheld
    clear hheld ga gb gc gd
    have CX := hide (CX.out.far2 (x' := .slice aa (movL false k s d r l age D).length cc) (y' := .int .i64 (0)) hwg)
    have DC := hide ((DC.out.setCell (p := ⟨g, 0, none⟩) (Nat.le_of_lt hwg) (.slice aa (movL false k s d r l age D).length cc)).setCell (p := ⟨g, 1, none⟩) (Nat.le_of_lt hwg) (.int .i64 (0)))
    have TH := hide ((TH.out.far (b' := g) (o := 0) (u := .slice aa (movL false k s d r l age D).length cc) hgh).far (b' := g) (o := 1) (u := .int .i64 (0)) hgh)
    have OG := hide ((OG.out.setCell (p := ⟨g, 0, none⟩) hgb (.slice aa (movL false k s d r l age D).length cc)).setCell (p := ⟨g, 1, none⟩) hgb (.int .i64 (0)))
    have TG := hide (TG.out.set (.slice aa (movL false k s d r l age D).length cc) (.int .i64 (0)))
    generalize (w7.setCell ⟨g, 0, none⟩ (.slice aa (movL false k s d r l age D).length cc)).setCell ⟨g, 1, none⟩ (.int .i64 (0)) = Y2 at *
    have k0 := CX.out.c0
    have k1 := CX.out.c1
    have k2 := CX.out.c2
    have k3 := CX.out.c3
    have k4 := CX.out.c4
    have k5 := CX.out.c5
    have k6 := CX.out.c6
    go_wp2_with fail
    refine Calls.mono (refWrite_any k s d r age a len cap l D (HS.out.below DC.out) hD) ?_
    rintro e w8 ⟨x8, rfl, o8, b8⟩
    obtain ⟨ab, cb, rfl, _⟩ := o8.row
    have hhy := block_lt_of_cell TH.out.c0
    have OH := hide o8
    clear k0 k1 k2 k3 k4 k5 k6
    have DC := hide (chain DC.out b8)
    have CX := hide (CX.out.below b8)
    have TG := hide (TG.out.below b8)
    have TH := hide (TH.out.below b8)
    have OG := hide (OG.out.below b8)
    have ga := TH.out.c0
    have gb := TH.out.c1
    have gc := TH.out.f0
    have gd := TH.out.f1
    clear o8 b8
    go_wp2_with fail
    clear ga gb gc gd
    have CX := hide (CX.out.far2 (x' := .slice ab (movL false k s d r l age D).length cb) (y' := .int .i64 (0)) hwh)
    have DC := hide ((DC.out.setCell (p := ⟨h, 0, none⟩) (Nat.le_of_lt hwh) (.slice ab (movL false k s d r l age D).length cb)).setCell (p := ⟨h, 1, none⟩) (Nat.le_of_lt hwh) (.int .i64 (0)))
    have TG := hide ((TG.out.far (b' := h) (o := 0) (u := .slice ab (movL false k s d r l age D).length cb) hgh.symm).far (b' := h) (o := 1) (u := .int .i64 (0)) hgh.symm)
    have OG := hide ((OG.out.setCell (p := ⟨h, 0, none⟩) hhb (.slice ab (movL false k s d r l age D).length cb)).setCell (p := ⟨h, 1, none⟩) hhb (.int .i64 (0)))
    have OH := hide ((OH.out.setCell (p := ⟨h, 0, none⟩) hhy (.slice ab (movL false k s d r l age D).length cb)).setCell (p := ⟨h, 1, none⟩) hhy (.int .i64 (0)))
    have TH := hide (TH.out.set (.slice ab (movL false k s d r l age D).length cb) (.int .i64 (0)))
    generalize (w8.setCell ⟨h, 0, none⟩ (.slice ab (movL false k s d r l age D).length cb)).setCell ⟨h, 1, none⟩ (.int .i64 (0)) = Z2 at *
    refine Calls.mono (lsame_yes (HE.out.below DC.out) _ _ HV.out) ?_
    rintro e w9 ⟨rfl, b9⟩
    have DC := hide (chain DC.out b9)
    have CX := hide (CX.out.below b9)
    have TG := hide (TG.out.below b9)
    have TH := hide (TH.out.below b9)
    have OG := hide (OG.out.below b9)
    have OH := hide (OH.out.below b9)
    clear b9
    have y0 := TG.out.c0
    have y1 := TG.out.c1
    have y2 := TH.out.c0
    have y3 := TH.out.c1
    go_wp2_with fail
    refine Calls.mono (same_slk OG.out OH.out (movL_len _ _ _ _ _ _ _ _) (movL_small _ _ _ _ _ _ HS.out.small hD)) ?_
    rintro e w10 ⟨rfl, b10⟩
    have DC := hide (chain DC.out b10)
    have CX := hide (CX.out.below b10)
    have TG := hide (TG.out.below b10)
    have TH := hide (TH.out.below b10)
    clear b10 y0 y1 y2 y3 OG OH
    go_wp2_with fail
    have DC := hide (DC.out.drew)
    have CX := hide (CX.out.below ((Below.refl _ _).drew))
    have TG := hide (TG.out.below ((Below.refl _ _).drew))
    have TH := hide (TH.out.below ((Below.refl _ _).drew))
    go_region_held3 (fun wz => wz.cell? ⟨w.heap.size, 0, none⟩ = some (.int .i64 k) ∧ wz.cell? ⟨w.heap.size, 1, none⟩ = some (.int .i64 s) ∧ wz.cell? ⟨w.heap.size, 2, none⟩ = some (.int .i64 d) ∧ wz.cell? ⟨w.heap.size, 3, none⟩ = some (.int .i64 r) ∧ wz.cell? ⟨w.heap.size, 4, none⟩ = some (.slice a len cap) ∧ wz.cell? ⟨w.heap.size, 5, none⟩ = some (.int .i64 age) ∧ wz.cell? ⟨w.heap.size, 6, none⟩ = some (.string D)) (first | exact ⟨CX.out.c0, CX.out.c1, CX.out.c2, CX.out.c3, CX.out.c4, CX.out.c5, CX.out.c6⟩ | (have q := CX.out.far2 (x' := .slice aa ((got k s d r l age).list).length cc) (y' := .int .i64 ((got k s d r l age).age)) (g := g) hwg; exact ⟨q.c0, q.c1, q.c2, q.c3, q.c4, q.c5, q.c6⟩))
      (first
        | (go_at_call 13; refine (lcopied_any a len cap l age _ (HS.out.below DC.out)).mono ?_; rintro e w5 ⟨v5, rfl, o5, b5⟩; obtain ⟨a5, c5, rfl, s5⟩ := o5.sts (by rw [hl]; exact HS.out.most) HS.out.small; rw [hl] at s5 ⊢; have SC := hide s5; clear s5 o5; have DC := hide (chain DC.out b5); have CX := hide (CX.out.below b5); have TG := hide (TG.out.below b5); have TH := hide (TH.out.below b5); clear b5; have hgb := block_lt_of_cell TG.out.c0; have hhb := block_lt_of_cell TH.out.c0)
        | (go_at_call 26; refine (get_any (HE.out.below DC.out) k s d r age _ len _ l SC.out).mono ?_; rintro e w7 ⟨x5, v5, rfl, hv5, o5, b5⟩; obtain ⟨aa, cc, rfl, _⟩ := o5.row; have HV := hide hv5; have OG := hide o5; clear hv5 o5; have DC := hide (chain DC.out b5); have CX := hide (CX.out.below b5); have TG := hide (TG.out.below b5); have TH := hide (TH.out.below b5); clear b5; have ga := TG.out.c0; have gb := TG.out.c1; have gc := TG.out.f0; have gd := TG.out.f1))
    rename_i hheld
    clear hheld ga gb gc gd
    have CX := hide (CX.out.far2 (x' := .slice aa ((got k s d r l age).list).length cc) (y' := .int .i64 ((got k s d r l age).age)) hwg)
    have DC := hide ((DC.out.setCell (p := ⟨g, 0, none⟩) (Nat.le_of_lt hwg) (.slice aa ((got k s d r l age).list).length cc)).setCell (p := ⟨g, 1, none⟩) (Nat.le_of_lt hwg) (.int .i64 ((got k s d r l age).age)))
    have TH := hide ((TH.out.far (b' := g) (o := 0) (u := .slice aa ((got k s d r l age).list).length cc) hgh).far (b' := g) (o := 1) (u := .int .i64 ((got k s d r l age).age)) hgh)
    have OG := hide ((OG.out.setCell (p := ⟨g, 0, none⟩) hgb (.slice aa ((got k s d r l age).list).length cc)).setCell (p := ⟨g, 1, none⟩) hgb (.int .i64 ((got k s d r l age).age)))
    have TG := hide (TG.out.set (.slice aa ((got k s d r l age).list).length cc) (.int .i64 ((got k s d r l age).age)))
    generalize (w7.setCell ⟨g, 0, none⟩ (.slice aa ((got k s d r l age).list).length cc)).setCell ⟨g, 1, none⟩ (.int .i64 ((got k s d r l age).age)) = Y3 at *
    have k0 := CX.out.c0
    have k1 := CX.out.c1
    have k2 := CX.out.c2
    have k3 := CX.out.c3
    have k4 := CX.out.c4
    have k5 := CX.out.c5
    have k6 := CX.out.c6
    go_wp2_with fail
    refine Calls.mono (refGet_any k s d r age a len cap l (HS.out.below DC.out)) ?_
    rintro e w8 ⟨x8, rfl, o8, b8⟩
    obtain ⟨ab, cb, rfl, _⟩ := o8.row
    have hhy := block_lt_of_cell TH.out.c0
    have OH := hide o8
    clear k0 k1 k2 k3 k4 k5 k6
    have DC := hide (chain DC.out b8)
    have CX := hide (CX.out.below b8)
    have TG := hide (TG.out.below b8)
    have TH := hide (TH.out.below b8)
    have OG := hide (OG.out.below b8)
    have ga := TH.out.c0
    have gb := TH.out.c1
    have gc := TH.out.f0
    have gd := TH.out.f1
    clear o8 b8
    go_wp2_with fail
    clear ga gb gc gd
    have CX := hide (CX.out.far2 (x' := .slice ab ((got k s d r l age).list).length cb) (y' := .int .i64 ((got k s d r l age).age)) hwh)
    have DC := hide ((DC.out.setCell (p := ⟨h, 0, none⟩) (Nat.le_of_lt hwh) (.slice ab ((got k s d r l age).list).length cb)).setCell (p := ⟨h, 1, none⟩) (Nat.le_of_lt hwh) (.int .i64 ((got k s d r l age).age)))
    have TG := hide ((TG.out.far (b' := h) (o := 0) (u := .slice ab ((got k s d r l age).list).length cb) hgh.symm).far (b' := h) (o := 1) (u := .int .i64 ((got k s d r l age).age)) hgh.symm)
    have OG := hide ((OG.out.setCell (p := ⟨h, 0, none⟩) hhb (.slice ab ((got k s d r l age).list).length cb)).setCell (p := ⟨h, 1, none⟩) hhb (.int .i64 ((got k s d r l age).age)))
    have OH := hide ((OH.out.setCell (p := ⟨h, 0, none⟩) hhy (.slice ab ((got k s d r l age).list).length cb)).setCell (p := ⟨h, 1, none⟩) hhy (.int .i64 ((got k s d r l age).age)))
    have TH := hide (TH.out.set (.slice ab ((got k s d r l age).list).length cb) (.int .i64 ((got k s d r l age).age)))
    generalize (w8.setCell ⟨h, 0, none⟩ (.slice ab ((got k s d r l age).list).length cb)).setCell ⟨h, 1, none⟩ (.int .i64 ((got k s d r l age).age)) = Z3 at *
    refine Calls.mono (lsame_yes (HE.out.below DC.out) _ _ HV.out) ?_
    rintro e w9 ⟨rfl, b9⟩
    have DC := hide (chain DC.out b9)
    have CX := hide (CX.out.below b9)
    have TG := hide (TG.out.below b9)
    have TH := hide (TH.out.below b9)
    have OG := hide (OG.out.below b9)
    have OH := hide (OH.out.below b9)
    clear b9
    have y0 := TG.out.c0
    have y1 := TG.out.c1
    have y2 := TH.out.c0
    have y3 := TH.out.c1
    go_wp2_with fail
    refine Calls.mono (same_slk OG.out OH.out (got_len HS.out) (got_small HS.out)) ?_
    rintro e w10 ⟨rfl, b10⟩
    have DC := hide (chain DC.out b10)
    have CX := hide (CX.out.below b10)
    have TG := hide (TG.out.below b10)
    have TH := hide (TH.out.below b10)
    clear b10 y0 y1 y2 y3 OG OH
    go_wp2_with fail
    have DC := hide (DC.out.drew)
    have CX := hide (CX.out.below ((Below.refl _ _).drew))
    have TG := hide (TG.out.below ((Below.refl _ _).drew))
    have TH := hide (TH.out.below ((Below.refl _ _).drew))
    go_region_held3 (fun wz => wz.cell? ⟨w.heap.size, 0, none⟩ = some (.int .i64 k) ∧ wz.cell? ⟨w.heap.size, 1, none⟩ = some (.int .i64 s) ∧ wz.cell? ⟨w.heap.size, 2, none⟩ = some (.int .i64 d) ∧ wz.cell? ⟨w.heap.size, 3, none⟩ = some (.int .i64 r) ∧ wz.cell? ⟨w.heap.size, 4, none⟩ = some (.slice a len cap) ∧ wz.cell? ⟨w.heap.size, 5, none⟩ = some (.int .i64 age) ∧ wz.cell? ⟨w.heap.size, 6, none⟩ = some (.string D)) (first | exact ⟨CX.out.c0, CX.out.c1, CX.out.c2, CX.out.c3, CX.out.c4, CX.out.c5, CX.out.c6⟩ | (have q := CX.out.far2 (x' := .slice none 0 0) (y' := .int .i64 (0)) (g := g) hwg; exact ⟨q.c0, q.c1, q.c2, q.c3, q.c4, q.c5, q.c6⟩))
      (first
        | (go_at_call 13; refine (lcopied_any a len cap l age _ (HS.out.below DC.out)).mono ?_; rintro e w5 ⟨v5, rfl, o5, b5⟩; obtain ⟨a5, c5, rfl, s5⟩ := o5.sts (by rw [hl]; exact HS.out.most) HS.out.small; rw [hl] at s5 ⊢; have SC := hide s5; clear s5 o5; have DC := hide (chain DC.out b5); have CX := hide (CX.out.below b5); have TG := hide (TG.out.below b5); have TH := hide (TH.out.below b5); clear b5; have hgb := block_lt_of_cell TG.out.c0; have hhb := block_lt_of_cell TH.out.c0)
        | (go_at_call 28; refine (drain_any (HE.out.below DC.out) k s d r age _ len _ l SC.out).mono ?_; rintro e w7 ⟨x5, v5, rfl, hv5, o5, b5⟩; obtain ⟨aa, cc, rfl, _⟩ := o5.row; have HV := hide hv5; have OG := hide o5; clear hv5 o5; have DC := hide (chain DC.out b5); have CX := hide (CX.out.below b5); have TG := hide (TG.out.below b5); have TH := hide (TH.out.below b5); clear b5; have ga := TG.out.c0; have gb := TG.out.c1; have gc := TG.out.f0; have gd := TG.out.f1))
    rename_i hheld
    clear hheld ga gb gc gd
    have CX := hide (CX.out.far2 (x' := .slice none 0 0) (y' := .int .i64 (0)) hwg)
    have DC := hide ((DC.out.setCell (p := ⟨g, 0, none⟩) (Nat.le_of_lt hwg) (.slice none 0 0)).setCell (p := ⟨g, 1, none⟩) (Nat.le_of_lt hwg) (.int .i64 (0)))
    have TH := hide ((TH.out.far (b' := g) (o := 0) (u := .slice none 0 0) hgh).far (b' := g) (o := 1) (u := .int .i64 (0)) hgh)
    have OG := hide ((OG.out.setCell (p := ⟨g, 0, none⟩) hgb (.slice none 0 0)).setCell (p := ⟨g, 1, none⟩) hgb (.int .i64 (0)))
    have TG := hide (TG.out.set (.slice none 0 0) (.int .i64 (0)))
    generalize (w7.setCell ⟨g, 0, none⟩ (.slice none 0 0)).setCell ⟨g, 1, none⟩ (.int .i64 (0)) = Y4 at *
    have k0 := CX.out.c0
    have k1 := CX.out.c1
    have k2 := CX.out.c2
    have k3 := CX.out.c3
    have k4 := CX.out.c4
    have k5 := CX.out.c5
    have k6 := CX.out.c6
    go_wp2_with fail
    refine Calls.mono (refDrain_any k s d r age a len cap l (HS.out.below DC.out)) ?_
    rintro e w8 ⟨x8, rfl, o8, b8⟩
    obtain ⟨ab, cb, rfl, _⟩ := o8.row
    have hhy := block_lt_of_cell TH.out.c0
    have OH := hide o8
    clear k0 k1 k2 k3 k4 k5 k6
    have DC := hide (chain DC.out b8)
    have CX := hide (CX.out.below b8)
    have TG := hide (TG.out.below b8)
    have TH := hide (TH.out.below b8)
    have OG := hide (OG.out.below b8)
    have ga := TH.out.c0
    have gb := TH.out.c1
    have gc := TH.out.f0
    have gd := TH.out.f1
    clear o8 b8
    go_wp2_with fail
    clear ga gb gc gd
    have CX := hide (CX.out.far2 (x' := .slice none 0 0) (y' := .int .i64 (0)) hwh)
    have DC := hide ((DC.out.setCell (p := ⟨h, 0, none⟩) (Nat.le_of_lt hwh) (.slice none 0 0)).setCell (p := ⟨h, 1, none⟩) (Nat.le_of_lt hwh) (.int .i64 (0)))
    have TG := hide ((TG.out.far (b' := h) (o := 0) (u := .slice none 0 0) hgh.symm).far (b' := h) (o := 1) (u := .int .i64 (0)) hgh.symm)
    have OG := hide ((OG.out.setCell (p := ⟨h, 0, none⟩) hhb (.slice none 0 0)).setCell (p := ⟨h, 1, none⟩) hhb (.int .i64 (0)))
    have OH := hide ((OH.out.setCell (p := ⟨h, 0, none⟩) hhy (.slice none 0 0)).setCell (p := ⟨h, 1, none⟩) hhy (.int .i64 (0)))
    have TH := hide (TH.out.set (.slice none 0 0) (.int .i64 (0)))
    generalize (w8.setCell ⟨h, 0, none⟩ (.slice none 0 0)).setCell ⟨h, 1, none⟩ (.int .i64 (0)) = Z4 at *
    refine Calls.mono (lsame_yes (HE.out.below DC.out) _ _ HV.out) ?_
    rintro e w9 ⟨rfl, b9⟩
    have DC := hide (chain DC.out b9)
    have CX := hide (CX.out.below b9)
    have TG := hide (TG.out.below b9)
    have TH := hide (TH.out.below b9)
    have OG := hide (OG.out.below b9)
    have OH := hide (OH.out.below b9)
    clear b9
    have y0 := TG.out.c0
    have y1 := TG.out.c1
    have y2 := TH.out.c0
    have y3 := TH.out.c1
    go_wp2_with fail
    refine Calls.mono (same_slk (slk_nil w9 0) (slk_nil w9 0) (by simp) (fun x hx => by simp at hx)) ?_
    rintro e w10 ⟨rfl, b10⟩
    have DC := hide (chain DC.out b10)
    have OG := hide (OG.out.below b10)
    have OH := hide (OH.out.below b10)
    clear b10 y0 y1 y2 y3
    go_wp2_with fail
    refine Calls.mono (texts_slk OG.out OH.out (drnL_len HS.out) (drnL_small HS.out)) ?_
    rintro e w11 ⟨rfl, b11⟩
    have DC := hide (chain DC.out b11)
    clear b11
    go_wp2
    go_ret
    exact ⟨rfl, DC.out⟩

end Go.Proofs.YtpfmccgiijbcjaaDoorR.portMoves
