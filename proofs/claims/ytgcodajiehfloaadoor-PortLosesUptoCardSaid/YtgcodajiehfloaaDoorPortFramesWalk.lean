/-
  Walk of the law PortFrames.
-/
import Derived.Test.YtgcodajiehfloaaDoorPlLaw2
import Derived.Test.YtgcodajiehfloaaDoorPtCase
namespace Go.Proofs.YtgcodajiehfloaaDoor.portFrames
open Go.RowKit
set_option linter.unusedVariables false
set_option linter.unusedSimpArgs false

/-- The three lists of a case. -/
structure Cz (w : World) (b : Nat) (x y z : Value) : Prop where
  c7 : w.cell? ⟨b, 7, none⟩ = some x
  c8 : w.cell? ⟨b, 8, none⟩ = some y
  c9 : w.cell? ⟨b, 9, none⟩ = some z
theorem Cz.below {w w' : World} {b : Nat} {x y z : Value} (h : Cz w b x y z) (hb : Below w.heap.size w w') : Cz w' b x y z := ⟨cell_below h.c7 hb, cell_below h.c8 hb, cell_below h.c9 hb⟩
theorem cz_alloc (w : World) (k s d r : Int) (x : Value) (age : Int) (D : ByteArray) (y z u : Value) :
    Cz (w.alloc (.cells #[.int .i64 k, .int .i64 s, .int .i64 d, .int .i64 r, x, .int .i64 age, .string D, y, z, u] 31)) w.heap.size y z u :=
  ⟨by rw [World.cell?_alloc_at _ _ _ _ rfl]; rfl, by rw [World.cell?_alloc_at _ _ _ _ rfl]; rfl, by rw [World.cell?_alloc_at _ _ _ _ rfl]; rfl⟩

theorem plv_one (l : List Plv) : ∀ u ∈ l.flatMap Plv.cells, u.oneCell' = true := by
  intro u hu
  obtain ⟨p, _, hp⟩ := List.mem_flatMap.1 hu
  simp only [Plv.cells, List.mem_cons, List.not_mem_nil, or_false] at hp
  rcases hp with rfl | rfl | rfl | rfl <;> rfl
/-- A copy of plans, as a step of a statement whose order Go leaves open. -/
theorem step_plans {w : World} {ops : Array Oper} {o : Oper} {act : Act} {K : Act → World → Prop} {Q : Exit → Act → World → Prop} {EE : Prop} (hgd : o.guard = none) (s x : Operand)
    (ho : o.op = .call { callee := .builtin .append, args := #[s, x], argTypes := #[27, 27] })
    (ad : Addr) (hs : act.eval s = .slice (some ad) 0 0) (a : Option Addr) (n c : Nat) (l : List Plv) (hx : act.eval x = .slice a n c) (hr : Rcs Plv.cells 4 w a n c l) (hm : n ≤ 1048576)
    (h : ∀ a' c' w', Rcs Plv.cells 4 w' a' n c' l → Below w.heap.size w w' → K (act.put o.dst (.slice a' n c')) w') :
    if Region.wanted o (yielded ops act.tmps) = true then Oper.wp Tryd.prog o act w K Q else EE := by
  obtain ⟨i, z, hi, hz, hsz, hby, hzs⟩ := infoPlan
  refine step_rows hgd s x 27 ho 23 i z 4 32 Tryd.underlying27 hi hz hsz hby hzs (by decide) w.heap.size _ 0 [] hs (.inr ⟨rfl, rfl, _, rfl⟩) a n c (l.flatMap Plv.cells) hx hr.row (plv_one l) (by unfold maxLen; omega) (by omega) (Nat.le_refl _) ?_
  intro v' w' h1 h2
  rw [List.nil_append, Nat.zero_add] at h1
  obtain ⟨a', c', rfl, hr'⟩ := h1.row
  exact h a' c' w' ⟨hr.size, hr'⟩ h2
theorem step_msgs {w : World} {ops : Array Oper} {o : Oper} {act : Act} {K : Act → World → Prop} {Q : Exit → Act → World → Prop} {EE : Prop} (hgd : o.guard = none) (s x : Operand)
    (ho : o.op = .call { callee := .builtin .append, args := #[s, x], argTypes := #[29, 29] })
    (ad : Addr) (hs : act.eval s = .slice (some ad) 0 0) (a : Option Addr) (n c : Nat) (l : List Mgv) (hx : act.eval x = .slice a n c) (hr : Rcs Mgv.cells 2 w a n c l) (hm : n ≤ 1048576)
    (h : ∀ a' c' w', Rcs Mgv.cells 2 w' a' n c' l → Below w.heap.size w w' → K (act.put o.dst (.slice a' n c')) w') :
    if Region.wanted o (yielded ops act.tmps) = true then Oper.wp Tryd.prog o act w K Q else EE := by
  obtain ⟨i, z, hi, hz, hsz, hby, hzs⟩ := infoMsg
  refine step_rows hgd s x 29 ho 53 i z 2 24 Tryd.underlying29 hi hz hsz hby hzs (by decide) w.heap.size _ 0 [] hs (.inr ⟨rfl, rfl, _, rfl⟩) a n c (l.flatMap Mgv.cells) hx hr.row (mgv_one l) (by unfold maxLen; omega) (by omega) (Nat.le_refl _) ?_
  intro v' w' h1 h2
  rw [List.nil_append, Nat.zero_add] at h1
  obtain ⟨a', c', rfl, hr'⟩ := h1.row
  exact h a' c' w' ⟨hr.size, hr'⟩ h2
theorem own_rcs {α : Type} {f : α → List Value} {sz base : Nat} {e : TypeId} {w : World} {v : Value} {l : List α} (h : w.ownsRow base e sz v l.length (l.flatMap f)) : ∃ a c, v = .slice a l.length c ∧ Rcs f sz w a l.length c l := by
  obtain ⟨a, c, e, hr⟩ := RLk.row (.inl h)
  exact ⟨a, c, e, rfl, hr⟩

/-- What stands in a block laid there once more. -/
theorem two_again {w : World} {g : Nat} {x y : Value} {e : TypeId} (h : w.heap[g]? = some (.cells #[x, y] e (0, 0))) : Below w.heap.size w ((w.setCell ⟨g, 0, none⟩ x).setCell ⟨g, 1, none⟩ y) := by
  have h1 : (w.setCell ⟨g, 0, none⟩ x).heap[g]? = some (.cells #[x, y] e (0, 0)) := heap_setCell_same w g 0 #[x, y] e x h
  have h2 : ((w.setCell ⟨g, 0, none⟩ x).setCell ⟨g, 1, none⟩ y).heap[g]? = some (.cells #[x, y] e (0, 0)) := heap_setCell_same _ g 1 #[x, y] e y h1
  refine ⟨rfl, rfl, rfl, by simp, fun k _ => ?_⟩
  by_cases hk : k = g
  · subst hk; rw [h2, h]
  · rw [heap_setCell_other _ ⟨g, 1, none⟩ k y (fun e => hk e), heap_setCell_other _ ⟨g, 0, none⟩ k x (fun e => hk e)]
theorem heap_below {w w' : World} {g : Nat} {o : Obj} (h : w.heap[g]? = some o) (hb : Below w.heap.size w w') : w'.heap[g]? = some o := by
  rw [hb.block g (Array.getElem?_eq_some_iff.1 h).1]
  exact h
theorem arrK_len (ps : List Plv) (ks : List Key) (ms : List Mgv) : (arrK ps ks ms).1.length ≤ ps.length ∧ (arrK ps ks ms).2.length ≤ ms.length := by
  unfold arrK
  split
  · rename_i h
    have h1 := fold_len ps (agedAll ps ks, []) ms
    have h2 := agedAll_len (allE_zero h).1
    unfold arrive
    simp only [List.length_nil, Nat.zero_add] at h1
    omega
  · simp
theorem endsK_len (ps : List Plv) (ks : List Key) : (endsK ps ks).length ≤ ps.length ∧ (emitK ps ks).length ≤ 8 * ps.length := by
  unfold endsK emitK
  split
  · rename_i h
    obtain ⟨h1, h2, h3⟩ := allE_zero h
    have h4 := endAll_len h1
    have h5 := emit_len h2 h3 ps.length
    omega
  · simp
theorem same_own {w : World} {base base' : Nat} {v v' : Value} {l l' : List Pr} {K : List Key} {n : Nat} (h : PrOwn w base v l) (h' : PrOwn w base' v' l') (hk : l.map Pr.key = K) (hk' : l'.map Pr.key = K) (hn : K.length ≤ 1048576) :
    Calls Tryd.prog 10 #[v, v'] w fun e w' => e = .returned (.bool true) ∧ Below w.heap.size w w' := by
  obtain ⟨a, c, rfl, p1⟩ := h.prs
  obtain ⟨a', c', rfl, p2⟩ := h'.prs
  have e1 : l.length = K.length := by rw [← hk, List.length_map]
  have e2 : l'.length = K.length := by rw [← hk', List.length_map]
  rw [e1] at p1 ⊢
  rw [e2] at p2 ⊢
  exact samePorts_yes a a' _ c c' l l' p1 p2 (hk.trans hk'.symm) hn

set_option maxRecDepth 100000 in
set_option maxHeartbeats 8000000 in
theorem law {E : Nat → Addr} (k s d r : Int) (a : Option Addr) (len cap : Nat) (age : Int) (D : ByteArray) (a7 : Option Addr) (n7 c7 : Nat) (ps : List Plv) (a8 : Option Addr) (n8 c8 : Nat) (l : List Pr) (a9 : Option Addr) (n9 c9 : Nat) (ms : List Mgv) (w : World) (he : Errs w E)
    (hs7 : Rcs Plv.cells 4 w a7 n7 c7 ps) (hs8 : Prs w a8 n8 c8 l) (hs9 : Rcs Mgv.cells 2 w a9 n9 c9 ms) (hm7 : n7 ≤ 1048576) (hm8 : n8 ≤ 1048576) (hm9 : n9 ≤ 1048576) (hD : ∀ m ∈ ms, m.data.size ≤ 9223372036854775807) :
    Calls Tryd.prog 3 #[.agg #[.int .i64 k, .int .i64 s, .int .i64 d, .int .i64 r, .slice a len cap, .int .i64 age, .string D, .slice a7 n7 c7, .slice a8 n8 c8, .slice a9 n9 c9]] w fun e w' => e = .returned (.bool true) ∧ Below w.heap.size w w' := by
  have HE := hide he
  have H7 := hide hs7
  have H8 := hide hs8
  have H9 := hide hs9
  have HD := hide hD
  have CZ := hide (cz_alloc w k s d r (.slice a len cap) age D (.slice a7 n7 c7) (.slice a8 n8 c8) (.slice a9 n9 c9))
  have DC := hide (cx_below w k s d r (.slice a len cap) age D (.slice a7 n7 c7) (.slice a8 n8 c8) (.slice a9 n9 c9))
  clear he hs7 hs8 hs9 hD
  go_enter Tryd.func3, Tryd.ntmps3
  go_wp2_with fail
  generalize w.alloc (.cells #[.int .i64 k, .int .i64 s, .int .i64 d, .int .i64 r, .slice a len cap, .int .i64 age, .string D, .slice a7 n7 c7, .slice a8 n8 c8, .slice a9 n9 c9] 31) = W0 at *
  refine Calls.mono (fixed_yes (HE.out.below DC.out)) ?_
  rintro e w1 ⟨rfl, b1⟩
  have CZ := hide (CZ.out.below b1)
  have DC := hide (chain DC.out b1)
  clear b1
  go_wp2_with fail
  have HH : Hid (∀ wz, Below w1.heap.size w1 wz → wz.cell? ⟨w.heap.size, 7, none⟩ = some (.slice a7 n7 c7) ∧ wz.cell? ⟨w.heap.size, 8, none⟩ = some (.slice a8 n8 c8) ∧ wz.cell? ⟨w.heap.size, 9, none⟩ = some (.slice a9 n9 c9)) := fun wz hz => by have q := CZ.out.below hz; exact ⟨q.c7, q.c8, q.c9⟩
  have J7 := hide (H7.out.below DC.out)
  have J8 := hide (H8.out.below DC.out)
  have J9 := hide (H9.out.below DC.out)
  have JE := hide (HE.out.below DC.out)
  go_cut [3, 4, 5] (fun v3 v4 v5 wx => IsErr wx E v5 (allE ps (l.map Pr.key)).1 (allE ps (l.map Pr.key)).2 ∧ (∃ l', PrOwn wx w1.heap.size v3 l' ∧ l'.map Pr.key = (arrK ps (l.map Pr.key) ms).1) ∧ wx.ownsRow w1.heap.size 65 4 v4 (arrK ps (l.map Pr.key) ms).2.length ((arrK ps (l.map Pr.key) ms).2.flatMap repc) ∧ Below w1.heap.size w1 wx)
  case first =>
    go_region_held3 (fun wz => wz.cell? ⟨w.heap.size, 7, none⟩ = some (.slice a7 n7 c7) ∧ wz.cell? ⟨w.heap.size, 8, none⟩ = some (.slice a8 n8 c8) ∧ wz.cell? ⟨w.heap.size, 9, none⟩ = some (.slice a9 n9 c9))
      (first | exact HH.out _ ((Below.refl _ _).drew) | exact HH.out _ (newd_below _ _) | exact HH.out _ (newd2_below _ _ _) | exact HH.out _ B8.out | exact HH.out _ B7.out | exact HH.out _ B6.out | exact HH.out _ (chain B6.out (new_below' _ _)) | exact HH.out _ B5.out | exact HH.out _ (chain B5.out (new_below' _ _)))
      (first
        | (refine step_plans (by rfl) (.tmp 14) (.tmp 16) (by rfl) _ (by simp [Act.eval, Act.put]; rfl) a7 n7 c7 ps (by simp [Act.eval, Act.put]) (J7.out.below (by first | exact newd_below _ _ | exact newd2_below _ _ _)) hm7 ?_; intro a5 c5 w5 h5 b5; have P5 := hide h5; have B5 : Hid (Below w1.heap.size w1 w5) := chain (by first | exact newd_below _ _ | exact newd2_below _ _ _) b5; clear h5 b5)
        | (go_at_call 7; refine (copiedAll_any a8 n8 c8 l (J8.out.below (by first | exact B5.out | exact chain B5.out (new_below' _ _))) hm8).mono ?_; rintro e w6 ⟨x6, l6, rfl, h6, k6, b6⟩; have O6 := hide h6; have K6 := hide k6; have P6 := hide (P5.out.below (by first | exact b6 | exact chain (new_below' _ _) b6)); have B6 : Hid (Below w1.heap.size w1 w6) := chain (by first | exact B5.out | exact chain B5.out (new_below' _ _)) b6; clear h6 k6 b6)
        | (refine step_msgs (by rfl) (.tmp 21) (.tmp 23) (by rfl) _ (by simp [Act.eval, Act.put]; rfl) a9 n9 c9 ms (by simp [Act.eval, Act.put]) (J9.out.below (by first | exact B6.out | exact chain B6.out (new_below' _ _))) hm9 ?_; intro a7' c7' w7 h7 b7; have M7 := hide h7; have P7 := hide (P6.out.below (by first | exact b7 | exact chain (new_below' _ _) b7)); have O7 := hide (O6.out.below (by first | exact b7 | exact chain (new_below' _ _) b7)); have B7 : Hid (Below w1.heap.size w1 w7) := chain (by first | exact B6.out | exact chain B6.out (new_below' _ _)) b7; clear h7 b7)
        | (go_at_call 6; obtain ⟨a6, c6, rfl, pr6⟩ := O7.out.prs; have hl6 : l6.length = n8 := by { have h := congrArg List.length K6.out; rw [List.length_map, List.length_map, H8.out.rcs.size] at h; exact h }; refine (arrive_any (JE.out.below B7.out) a5 n7 c5 ps a6 l6.length c6 l6 a7' n9 c7' ms P7.out pr6 M7.out hm7 (by rw [hl6]; exact hm8) hm9 HD.out).mono ?_; rintro e w8 ⟨x8, r8, v8, rfl, hv8, hx8, hr8, b8⟩; rw [K6.out] at hv8 hx8 hr8; have B8 : Hid (Below w1.heap.size w1 w8) := chain B7.out b8; have V8 := hide hv8; have X8 := hide hx8; have R8 := hide hr8; have Z8 := hide B7.out.size; clear hv8 hx8 hr8 b8))
    all_goals go_wp2
    all_goals go_meet
    all_goals (obtain ⟨l', hx1, hx2⟩ := X8.out; exact ⟨V8.out, ⟨l', hx1.weaken Z8.out, hx2⟩, ownsRow_weaken R8.out Z8.out, B8.out⟩)
  case rest =>
    obtain ⟨hv, ⟨l1, ho1, hk1⟩, hr1, b2⟩ := hcut
    have V1 := hide hv
    have O1 := hide ho1
    have K1 := hide hk1
    have R1 := hide hr1
    have D2 := hide (chain DC.out b2)
    have C2 := hide (CZ.out.below b2)
    clear hv ho1 hk1 hr1 b2 CZ DC J7 J8 J9 JE HH
    have q7 := C2.out.c7
    have q8 := C2.out.c8
    have q9 := C2.out.c9
    go_wp2_with fail
    refine Calls.mono (refArrive_any a7 n7 c7 ps a8 n8 c8 l a9 n9 c9 ms (H7.out.below D2.out) (H8.out.below D2.out) (H9.out.below D2.out) hm7 hm8 hm9 HD.out) ?_
    rintro e w3 ⟨x3, r3, rfl, ⟨l3, ho3, hk3⟩, hr3, b3⟩
    have V3 := hide (V1.out.below b3)
    have O1 := hide (O1.out.below b3)
    have R1 := hide (ownsRow_below R1.out b3)
    have O3 := hide ho3
    have K3 := hide hk3
    have R3 := hide hr3
    have D3 := hide (chain D2.out b3)
    have C3 := hide (C2.out.below b3)
    clear ho3 hk3 hr3 b3 q7 q8 q9 V1 D2 C2
    have LA := hide (arrK_len ps (l.map Pr.key) ms)
    have LE := hide (endsK_len ps (l.map Pr.key))
    have h7l := H7.out.size
    have h9l := H9.out.size
    obtain ⟨cc, hcc⟩ : ∃ cc, (allE ps (l.map Pr.key)).1 = cc := ⟨_, rfl⟩
    obtain ⟨pp, hpp⟩ : ∃ pp, (allE ps (l.map Pr.key)).2 = pp := ⟨_, rfl⟩
    rw [hcc, hpp] at V3 ⊢
    have HCC := hide hcc
    have HPP := hide hpp
    clear hcc hpp
    have TE := hide (two_alloc w3 (.int .i64 (cc : Int)) (.int .i64 pp) 40)
    have BE := hide (new_below' w3 (.cells #[.int .i64 (cc : Int), .int .i64 pp] 40))
    have EH : Hid ((w3.alloc (.cells #[.int .i64 (cc : Int), .int .i64 pp] 40)).heap[w3.heap.size]? = some (.cells #[.int .i64 (cc : Int), .int .i64 pp] 40 (0, 0))) := heap_alloc_new _ _
    go_wp2_with fail
    generalize w3.alloc (.cells #[.int .i64 (cc : Int), .int .i64 pp] 40) = W3 at *
    have D4 := hide (chain D3.out BE.out)
    refine Calls.mono (told_yes (HE.out.below D4.out) u5 cc pp (V3.out.below BE.out)) ?_
    rintro e w4 ⟨rfl, b4⟩
    have B4 := hide (chain BE.out b4)
    have D4 := hide (chain D4.out b4)
    have T4 := hide (TE.out.below b4)
    have EH := hide (heap_below EH.out b4)
    have O1 := hide (O1.out.below B4.out)
    have O3 := hide (O3.out.below B4.out)
    have R1 := hide (ownsRow_below R1.out B4.out)
    have R3 := hide (ownsRow_below R3.out B4.out)
    have C4 := hide (C3.out.below B4.out)
    clear b4 B4 TE BE C3 D3 V3
    go_wp2_with fail
    refine Calls.mono (same_own (n := n8) O1.out O3.out K1.out K3.out (by have := LA.out.1; omega)) ?_
    rintro e w5 ⟨rfl, b5⟩
    have D5 := hide (chain D4.out b5)
    have T5 := hide (T4.out.below b5)
    have EH := hide (heap_below EH.out b5)
    have R1 := hide (ownsRow_below R1.out b5)
    have R3 := hide (ownsRow_below R3.out b5)
    have C5 := hide (C4.out.below b5)
    clear b5 D4 T4 C4 O1 O3
    obtain ⟨ra, rc, e1, rr1⟩ := own_rcs R1.out
    obtain ⟨ra', rc', e3, rr3⟩ := own_rcs R3.out
    subst e1 e3
    have HR1 := hide rr1
    have HR3 := hide rr3
    clear rr1 rr3 R1 R3
    go_wp2_with fail
    refine Calls.mono (sameReports_yes _ _ _ _ _ _ HR1.out HR3.out (by have := LA.out.2; omega)) ?_
    rintro e w6 ⟨rfl, b6⟩
    have D6 := hide (chain D5.out b6)
    have T6 := hide (T5.out.below b6)
    have EH := hide (heap_below EH.out b6)
    have C6 := hide (C5.out.below b6)
    clear b6 D5 T5 C5 HR1 HR3
    go_wp2_with fail
    have HH : Hid (∀ wz, Below w6.heap.size w6 wz → wz.cell? ⟨w.heap.size, 7, none⟩ = some (.slice a7 n7 c7) ∧ wz.cell? ⟨w.heap.size, 8, none⟩ = some (.slice a8 n8 c8)) := fun wz hz => by have q := C6.out.below hz; exact ⟨q.c7, q.c8⟩
    have J7 := hide (H7.out.below D6.out)
    have J8 := hide (H8.out.below D6.out)
    have JE := hide (HE.out.below D6.out)
    go_cut [3, 9, 5] (fun v3 v9 v5 wx => IsErr wx E v5 cc pp ∧ (∃ l', PrOwn wx w6.heap.size v3 l' ∧ l'.map Pr.key = endsK ps (l.map Pr.key)) ∧ wx.ownsRow w6.heap.size 53 2 v9 (emitK ps (l.map Pr.key)).length ((emitK ps (l.map Pr.key)).flatMap Mgv.cells) ∧ Below w6.heap.size w6 wx)
    case first =>
      go_region_held3 (fun wz => wz.cell? ⟨w.heap.size, 7, none⟩ = some (.slice a7 n7 c7) ∧ wz.cell? ⟨w.heap.size, 8, none⟩ = some (.slice a8 n8 c8))
        (first | exact HH.out _ ((Below.refl _ _).drew) | exact HH.out _ (newd_below _ _) | exact HH.out _ B8.out | exact HH.out _ Y6.out | exact HH.out _ B5.out)
        (first
          | (refine step_plans (by rfl) (.tmp 57) (.tmp 59) (by rfl) _ (by simp [Act.eval, Act.put]; rfl) a7 n7 c7 ps (by simp [Act.eval, Act.put]) (J7.out.below (newd_below _ _)) hm7 ?_; intro a5 c5 w5 h5 b5; have P5 := hide h5; have B5 : Hid (Below w6.heap.size w6 w5) := chain (newd_below _ _) b5; clear h5 b5)
          | (go_at_call 7; refine (copiedAll_any a8 n8 c8 l (J8.out.below B5.out) hm8).mono ?_; rintro e y6 ⟨x6, l6, rfl, h6, k6, b6⟩; have O6 := hide h6; have K6 := hide k6; have P6 := hide (P5.out.below b6); have Y6 : Hid (Below w6.heap.size w6 y6) := chain B5.out b6; clear h6 k6 b6)
          | (go_at_call 12; obtain ⟨a6, c6, rfl, pr6⟩ := O6.out.prs; have hl6 : l6.length = n8 := by { have h := congrArg List.length K6.out; rw [List.length_map, List.length_map, H8.out.rcs.size] at h; exact h }; refine (emit_any (JE.out.below Y6.out) a5 n7 c5 ps a6 l6.length c6 l6 P6.out pr6 hm7 (by rw [hl6]; exact hm8)).mono ?_; rintro e w8 ⟨x8, r8, v8, rfl, hv8, hx8, hr8, b8⟩; rw [K6.out] at hv8 hx8 hr8; rw [HCC.out, HPP.out] at hv8; have B8 : Hid (Below w6.heap.size w6 w8) := chain Y6.out b8; have V8 := hide hv8; have X8 := hide hx8; have R8 := hide hr8; have Z8 := hide Y6.out.size; clear hv8 hx8 hr8 b8))
      all_goals go_wp2
      all_goals go_meet
      all_goals (obtain ⟨l', hx1, hx2⟩ := X8.out; exact ⟨V8.out, ⟨l', hx1.weaken Z8.out, hx2⟩, ownsRow_weaken R8.out Z8.out, B8.out⟩)
    case rest =>
      obtain ⟨hv, ⟨l1, ho1, hk1⟩, hr1, b2⟩ := hcut
      have V1 := hide hv
      have O1 := hide ho1
      have K1 := hide hk1
      have R1 := hide hr1
      have D2 := hide (chain D6.out b2)
      have C2 := hide (C6.out.below b2)
      have T2 := hide (T6.out.below b2)
      have EH := hide (heap_below EH.out b2)
      clear hv ho1 hk1 hr1 b2 C6 D6 T6 J7 J8 JE HH
      have q7 := C2.out.c7
      have q8 := C2.out.c8
      go_wp2_with fail
      refine Calls.mono (refEmit_any a7 n7 c7 ps a8 n8 c8 l (H7.out.below D2.out) (H8.out.below D2.out) hm7 hm8) ?_
      rintro e z3 ⟨y3, r3, rfl, ⟨l3, ho3, hk3⟩, hr3, b3⟩
      rw [HCC.out, HPP.out]
      have V3 := hide (V1.out.below b3)
      have O1 := hide (O1.out.below b3)
      have R1 := hide (ownsRow_below R1.out b3)
      have O3 := hide ho3
      have K3 := hide hk3
      have R3 := hide hr3
      have D3 := hide (chain D2.out b3)
      have T3 := hide (T2.out.below b3)
      have EH := hide (heap_below EH.out b3)
      clear ho3 hk3 hr3 b3 q7 q8 V1 D2 C2 T2
      have g0 := T3.out.c0
      have g1 := T3.out.c1
      have f0 := T3.out.f0
      have f1 := T3.out.f1
      have BA := hide (two_again EH.out)
      go_wp2_with fail
      generalize (z3.setCell ⟨w3.heap.size, 0, none⟩ (.int .i64 (cc : Int))).setCell ⟨w3.heap.size, 1, none⟩ (.int .i64 pp) = Z3 at *
      have D4 := hide (chain D3.out BA.out)
      refine Calls.mono (told_yes (HE.out.below D4.out) u5 cc pp (V3.out.below BA.out)) ?_
      rintro e z4 ⟨rfl, b4⟩
      have B4 := hide (chain BA.out b4)
      have D4 := hide (chain D4.out b4)
      have O1 := hide (O1.out.below B4.out)
      have O3 := hide (O3.out.below B4.out)
      have R1 := hide (ownsRow_below R1.out B4.out)
      have R3 := hide (ownsRow_below R3.out B4.out)
      clear b4 B4 BA D3 V3 T3 g0 g1 f0 f1 EH
      go_wp2_with fail
      refine Calls.mono (same_own (n := n8) O1.out O3.out K1.out K3.out (by have := LE.out.1; omega)) ?_
      rintro e z5 ⟨rfl, b5⟩
      have D5 := hide (chain D4.out b5)
      have R1 := hide (ownsRow_below R1.out b5)
      have R3 := hide (ownsRow_below R3.out b5)
      clear b5 D4 O1 O3
      obtain ⟨sa, sc, e1, rr1⟩ := own_rcs R1.out
      obtain ⟨sa', sc', e3, rr3⟩ := own_rcs R3.out
      subst e1 e3
      have HR1 := hide rr1
      have HR3 := hide rr3
      clear rr1 rr3 R1 R3
      go_wp2_with fail
      refine Calls.mono (sameMsgs_yes _ _ _ _ _ _ HR1.out HR3.out (by have := LE.out.2; omega)) ?_
      rintro e z6 ⟨rfl, b6⟩
      have D6 := hide (chain D5.out b6)
      clear b6 D5 HR1 HR3
      go_wp2
      go_ret
      exact ⟨rfl, D6.out⟩
end Go.Proofs.YtgcodajiehfloaaDoor.portFrames
