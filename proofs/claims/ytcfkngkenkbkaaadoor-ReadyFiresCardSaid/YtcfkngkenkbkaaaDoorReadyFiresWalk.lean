/-
  The law ReadyFires, walked.
-/
import Derived.Test.YtcfkngkenkbkaaaDoorRyLaw
import Derived.Test.YtcfkngkenkbkaaaDoorRyKeep
import Derived.Test.YtcfkngkenkbkaaaDoorRyEq
namespace Go.Proofs.YtcfkngkenkbkaaaDoor.readyFires
open Classical
open Go.RowKit
set_option linter.unusedVariables false
set_option linter.unusedSimpArgs false

theorem from_any (w : World) (v1 v2 v3 : Value) (h1 : ∃ a n c, v1 = .slice a n c) (h2 : ∃ a n c, v2 = .slice a n c) (h3 : ∃ a n c, v3 = .slice a n c) :
    Calls Tryd.prog 30 #[.agg #[v1, v2, v3]] w fun e w' => e = .returned (.agg #[v1, v2, v3]) ∧ Below w.heap.size w w' := by
  obtain ⟨a1, n1, c1, rfl⟩ := h1
  obtain ⟨a2, n2, c2, rfl⟩ := h2
  obtain ⟨a3, n3, c3, rfl⟩ := h3
  go_enter Tryd.func30, Tryd.ntmps30
  go_wp2
  refine bodyPost_ret (v := .agg #[.slice a1 n1 c1, .slice a2 n2 c2, .slice a3 n3 c3]) (by simp [results, Tryd.results30, go_sem]) rfl ?_
  exact ⟨rfl, chain (new_below _ _) (new_below _ _)⟩
/-- append to a row of the call's own, as one step of a statement whose order Go leaves open, behind a guard. -/
theorem step_own_w {w : World} {ops : Array Oper} {o : Oper} {act : Act} {K : Act → World → Prop} {Q : Exit → Act → World → Prop} {EE : Prop} (hw : Region.wanted o (yielded ops act.tmps) = true) (s x : Operand) (t e : TypeId)
    (ho : o.op = .call { callee := .builtin .append, args := #[s, x], argTypes := #[t, t] }) (ht : Tryd.prog.underlying t = some (.slice e))
    {size bytes : Nat} (hi : ∃ i z, Tryd.prog.info? e = some i ∧ i.zero = some z ∧ i.size = size ∧ i.bytes = bytes ∧ z.cells.size = size) (h0 : 0 < size)
    (base : Nat) (v : Value) (n : Nat) (xs : List Value) (hs : act.eval s = v) (hv : w.ownsRow base e size v n xs)
    (a : Option Addr) (m c : Nat) (cs : List Value) (hx : act.eval x = .slice a m c) (hr : Row w a m c size cs) (one : ∀ u ∈ cs, u.oneCell' = true)
    (b1 : n + m ≤ maxLen) (b2 : (n + m) * bytes ≤ 140737488355328) (hbase : base ≤ w.heap.size)
    (h : ∀ v' w', w'.ownsRow base e size v' (n + m) (xs ++ cs) → Below base w w' → K (act.put o.dst v') w') :
    if Region.wanted o (yielded ops act.tmps) = true then Oper.wp Tryd.prog o act w K Q else EE := by
  rw [if_pos hw]
  obtain ⟨i, z, h2, h3, h4, h5, h6⟩ := hi
  obtain ⟨v', w', hrun, k1, k2⟩ : ∃ v' w', (Builtin.append_ #[t, t] o.type #[v, .slice a m c]).run Tryd.prog w = .ok v' w' ∧ w'.ownsRow base e size v' (n + m) (xs ++ cs) ∧ Below base w w' := by
    by_cases hm : m = 0
    · subst hm
      obtain rfl : cs = [] := List.length_eq_zero_iff.1 (by simpa using hr.size)
      obtain ⟨b, cap, rfl, hb⟩ := RLk.row (.inl hv)
      exact ⟨_, w, run_append_empty (P := Tryd.prog) w t o.type e i ht h2 b a n cap c hb.fit, by simpa using hv, Below.refl _ _⟩
    · match a, hx, hr with
      | none, hx, hr => exact absurd (hr.null rfl).1 hm
      | some ad, hx, hr =>
        have hcell : ∀ j u, cs[j]? = some u → w.cell? (ad.add j) = some u := fun j u hu => by
          obtain ⟨b, off, ha, hc⟩ := hr.cell j u hu
          simp only [Option.some.injEq] at ha
          subst ha
          rw [add_lit']
          exact hc
        obtain ⟨v', w', hrun, k1, k2, _⟩ := run_append_own (P := Tryd.prog) w base t o.type e i z size bytes ht h2 h3 h4 h5 h6 h0 v n xs hv ad m c cs hr.size hcell one b1 b2 hbase
        exact ⟨v', w', hrun, k1, (Below.refl _ _).grown k2 hbase (fun j e => (World.ownsRow.lt hv j e).1)⟩
  unfold Oper.wp execOp
  simp only [ho, resolve, invoke, builtin, Sem.run_bind, Sem.run_pure, Result.andThen_ok, List.map_toArray, List.map_cons, List.map_nil, hs, hx, hrun]
  exact h v' w' k1 k2
/-- Two tables of answers, in memory, that show the same. -/
theorem tab_lists {w : World} {base : Nat} {a1 : Option Addr} {n1 c1 : Nat} {a2 : Option Addr} {n2 c2 : Nat} {a3 : Option Addr} {n3 c3 : Nat} {l : List Pro} {r : List Int} {t : List Tm} (h : Tab w base (.slice a1 n1 c1) (.slice a2 n2 c2) (.slice a3 n3 c3) l r t) : Pros w a1 n1 c1 l ∧ Is w a2 n2 c2 r ∧ Tms w a3 n3 c3 t := by
  obtain ⟨a, c, e, h1⟩ := prown_pros h.p
  obtain ⟨a', c', e', h2⟩ := iown_is h.r
  obtain ⟨a'', c'', e'', h3⟩ := town_tms h.t
  simp only [Value.slice.injEq] at e e' e''
  obtain ⟨rfl, rfl, rfl⟩ := e
  obtain ⟨rfl, rfl, rfl⟩ := e'
  obtain ⟨rfl, rfl, rfl⟩ := e''
  exact ⟨h1, h2, h3⟩

theorem held6 {W wz : World} {b g : Nat} {x y z u v t : Value} (hb : Bl W b [x, y, z]) (hl : b < W.heap.size) (hg : Bl W g [u, v, t]) (hl' : g < W.heap.size) (h : Below W.heap.size W wz) : wz.cell? ⟨b, 0, none⟩ = some x ∧ wz.cell? ⟨b, 1, none⟩ = some y ∧ wz.cell? ⟨b, 2, none⟩ = some z ∧ wz.cell? ⟨g, 0, none⟩ = some u ∧ wz.cell? ⟨g, 1, none⟩ = some v ∧ wz.cell? ⟨g, 2, none⟩ = some t := by
  obtain ⟨h1, h2, h3⟩ := heldC hb hl h
  obtain ⟨h4, h5, h6⟩ := heldC hg hl' h
  exact ⟨h1, h2, h3, h4, h5, h6⟩

set_option maxRecDepth 100000 in
set_option maxHeartbeats 8000000 in
theorem lawA (pa : Option Addr) (pn pc : Nat) (l : List Pro) (ra : Option Addr) (rn rc : Nat) (r : List Int) (ta : Option Addr) (tn tc : Nat) (t : List Tm) (now later : Int) (w : World) {E : Nat → Addr} (he : Errs w E) (hp : Pros w pa pn pc l) (hr : Is w ra rn rc r) (ht : Tms w ta tn tc t) (hmp : pn ≤ 9223372036854775807) (hmr : rn ≤ 9223372036854775807) (hmt : tn ≤ 9223372036854775807) (hcase : now ≤ later) :
    Calls Tryd.prog 7 #[.agg #[.slice pa pn pc, .slice ra rn rc, .slice ta tn tc], .int .i64 now, .int .i64 later] w fun e w' => e = .returned (.bool true) ∧ Below w.heap.size w w' := by
  have X := new_below w (.cells #[.slice pa pn pc, .slice ra rn rc, .slice ta tn tc] 26)
  have BX0 : Hid (Bl (w.alloc (.cells #[.slice pa pn pc, .slice ra rn rc, .slice ta tn tc] 26)) w.heap.size [.slice pa pn pc, .slice ra rn rc, .slice ta tn tc]) := bl_alloc w #[.slice pa pn pc, .slice ra rn rc, .slice ta tn tc] 26
  have hz0 : Hid (w.heap.size < (w.alloc (.cells #[.slice pa pn pc, .slice ra rn rc, .slice ta tn tc] 26)).heap.size) := by unfold Hid; simp
  have B0 := hide X
  have HE := hide he
  have HS := hide hp
  have HI := hide hr
  have HT := hide ht
  have HL : Hid (l.length = pn) := hp.size
  have HLE : Hid (now ≤ later) := by unfold Hid; omega
  have dgt : decide (later < now) = false := by simp; omega
  clear X he hp hr ht
  go_enter Tryd.func7, Tryd.ntmps7
  go_upto_region 1 with fail
  generalize w.alloc (.cells #[.slice pa pn pc, .slice ra rn rc, .slice ta tn tc] 26) = W0 at *
  go_wp2_with fail
  refine Calls.mono (some_any W0) ?_
  rintro e w1 ⟨g1, g2, g3, rfl, p1, i1, t1, b1⟩
  have P1 := hide p1
  have I1 := hide i1
  have T1 := hide t1
  have D1 := hide b1
  clear p1 i1 t1 b1
  go_wp2_with fail
  refine Calls.mono (to_any w1 _ _ _ ⟨_, _, _, rfl⟩ ⟨_, _, _, rfl⟩ ⟨_, _, _, rfl⟩) ?_
  rintro e w2 ⟨rfl, b2⟩
  have D2 := hide (chain D1.out b2)
  have P2 := hide (P1.out.below b2)
  have I2 := hide (I1.out.below b2)
  have T2 := hide (T1.out.below b2)
  clear b2
  go_wp2_with fail
  refine Calls.mono (fire_any ((HE.out.below B0.out).below D2.out).er9 _ 4 4 someP P2.out _ 2 2 [1, 0] I2.out _ 1 1 [⟨3, 10⟩] T2.out (by decide) (by decide) (by decide) 10) ?_
  rintro e w3 ⟨sa1, sn1, sc1, sa2, sn2, sc2, sa3, sn3, sc3, sx, sv, rfl, hsv, hst, hsx, b3⟩
  rw [show ownE (Good someP [1, 0] [⟨3, 10⟩]) = 0 from if_pos some_good] at hsv
  rw [show ownT (Good someP [1, 0] [⟨3, 10⟩]) (firedI [⟨3, 10⟩] 10) = [3] from (if_pos some_good).trans (by decide)] at hsx
  obtain rfl := bare0 hsv
  obtain ⟨sxa, sxc, rfl, -⟩ := iown_is hsx
  have D3 := hide (chain (chain D2.out b3) (new_below w3 (.cells #[.slice sa1 sn1 sc1, .slice sa2 sn2 sc2, .slice sa3 sn3 sc3] 29)))
  clear hsv hst hsx b3 P1 I1 T1 P2 I2 T2 D1 D2
  go_upto_region 6 with fail
  generalize w3.alloc (.cells #[.slice sa1 sn1 sc1, .slice sa2 sn2 sc2, .slice sa3 sn3 sc3] 29) = W3 at *
  have B3 := hide (B0.out.trans (D3.out.mono B0.out.size))
  have BX3 := hide (BX0.out.below hz0.out D3.out)
  have hz3 : Hid (w.heap.size < W3.heap.size) := Nat.lt_of_lt_of_le hz0.out D3.out.size
  have b0 := BX3.out.cell 0 _ rfl
  have b1 := BX3.out.cell 1 _ rfl
  have b2 := BX3.out.cell 2 _ rfl
  go_wp2_with fail
  refine Calls.mono (to_any W3 _ _ _ ⟨_, _, _, rfl⟩ ⟨_, _, _, rfl⟩ ⟨_, _, _, rfl⟩) ?_
  rintro e w4 ⟨rfl, x4⟩
  have B4 := hide (chain B3.out x4)
  have D4 := hide x4
  clear x4
  go_wp2_with fail
  refine Calls.mono (fire_any (HE.out.below B4.out).er9 pa pn pc l (HS.out.below B4.out) ra rn rc r (HI.out.below B4.out) ta tn tc t (HT.out.below B4.out) hmp hmr hmt now) ?_
  rintro e w5 ⟨ua1, un1, uc1, ua2, un2, uc2, ua3, un3, uc3, ux, uv, rfl, huv, hut, hux, x5⟩
  have X6 := new_below w5 (.cells #[.slice ua1 un1 uc1, .slice ua2 un2 uc2, .slice ua3 un3 uc3] 29)
  have D6 := hide (chain (chain D4.out x5) X6)
  have HUT := hide (hut.below X6)
  have HUX := hide (ownsRow_below hux X6)
  have HUV := hide huv
  have HUB : Hid (Bl (w5.alloc (.cells #[.slice ua1 un1 uc1, .slice ua2 un2 uc2, .slice ua3 un3 uc3] 29)) w5.heap.size [.slice ua1 un1 uc1, .slice ua2 un2 uc2, .slice ua3 un3 uc3]) := bl_alloc w5 #[.slice ua1 un1 uc1, .slice ua2 un2 uc2, .slice ua3 un3 uc3] 29
  have hzu : Hid (w5.heap.size < (w5.alloc (.cells #[.slice ua1 un1 uc1, .slice ua2 un2 uc2, .slice ua3 un3 uc3] 29)).heap.size) := by unfold Hid; simp
  obtain ⟨uxa, uxc, rfl, -⟩ := iown_is hux
  clear huv hut hux x5 X6 b0 b1 b2
  go_upto_region 7 with fail
  generalize w5.alloc (.cells #[.slice ua1 un1 uc1, .slice ua2 un2 uc2, .slice ua3 un3 uc3] 29) = W6 at *
  generalize w5.heap.size = ub at *
  have B6 := hide (chain B3.out D6.out)
  have BX6 := hide (BX3.out.below hz3.out D6.out)
  have hz6 : Hid (w.heap.size < W6.heap.size) := Nat.lt_of_lt_of_le hz3.out D6.out.size
  clear D3 D4 D6 B0 B4 BX0 hz0 BX3 hz3 B3
  have b0 := BX6.out.cell 0 _ rfl
  have b1 := BX6.out.cell 1 _ rfl
  have b2 := BX6.out.cell 2 _ rfl
  go_wp2_with fail
  refine Calls.mono (rrgood_any W6 pa pn pc l (HS.out.below B6.out) ra rn rc r (HI.out.below B6.out) ta tn tc t (HT.out.below B6.out)) ?_
  rintro e w7 ⟨rfl, x7⟩
  have B7 := hide (chain B6.out x7)
  have BX7 := hide (BX6.out.below hz6.out x7)
  have hz7 : Hid (w.heap.size < w7.heap.size) := Nat.lt_of_lt_of_le hz6.out x7.size
  have HUT7 := hide (HUT.out.below x7)
  have HUX7 := hide (ownsRow_below HUX.out x7)
  have HUB7 := hide (HUB.out.below hzu.out x7)
  have hzu7 : Hid (ub < w7.heap.size) := Nat.lt_of_lt_of_le hzu.out x7.size
  clear x7 b0 b1 b2 B6 BX6 hz6 HUT HUX HUB hzu
  by_cases hg : Good l r t
  case neg =>
    rw [decide_eq_false hg]
    have hE9 : ownE (Good l r t) = 9 := if_neg hg
    have hx0 : ownT (Good l r t) (firedI t now) = [] := if_neg hg
    rw [hE9] at HUV
    rw [hx0]
    clear hg hE9 hx0
    go_wp2_with fail
    refine Calls.mono (plain_any (HE.out.below B7.out) uv 9 HUV.out 9) ?_
    rintro e w8 ⟨rfl, x8⟩
    have B8 := hide (chain B7.out x8)
    clear x8
    go_wp2
    go_ret
    exact ⟨rfl, B8.out⟩
  have HG := hide hg
  rw [decide_eq_true hg]
  have hE0 : ownE (Good l r t) = 0 := if_pos hg
  have hx1 : ownT (Good l r t) (firedI t now) = firedI t now := if_pos hg
  have hx2 : ownT (Good l r t) (fireAll l r (firedI t now)).1 = (fireAll l r (firedI t now)).1 := if_pos hg
  have hx3 : ownT (Good l r t) (fireAll l r (firedI t now)).2 = (fireAll l r (firedI t now)).2 := if_pos hg
  have hx4 : ownT (Good l r t) (left t now) = left t now := if_pos hg
  rw [hE0] at HUV
  rw [hx1] at HUX7 ⊢
  rw [hx2, hx3, hx4] at HUT7
  obtain rfl := bare0 HUV.out
  have HG1 := hide (good_fire (now := now) hg)
  clear hE0 hx1 hx2 hx3 hx4 hg HUV
  have q0 := HUB7.out.cell 0 _ rfl
  have q1 := HUB7.out.cell 1 _ rfl
  have q2 := HUB7.out.cell 2 _ rfl
  have HUL := hide (tab_lists HUT7.out)
  have hun1 : Hid (un1 ≤ 8 ∧ un2 ≤ 8 ∧ un3 ≤ 8) := by
    have s1 := HUL.out.1.size
    have s2 := HUL.out.2.1.size
    have s3 := HUL.out.2.2.size
    have h1 := HG1.out.1
    have h2 := goodR_few HG1.out.2.2.1 HG1.out.1
    have h3 := HG1.out.tfew
    exact ⟨by omega, by omega, by omega⟩
  go_wp2_with fail
  refine Calls.mono (fire_any (HE.out.below B7.out).er9 ua1 un1 uc1 _ HUL.out.1 ua2 un2 uc2 _ HUL.out.2.1 ua3 un3 uc3 _ HUL.out.2.2 (by have := hun1.out.1; omega) (by have := hun1.out.2.1; omega) (by have := hun1.out.2.2; omega) later) ?_
  rintro e w8 ⟨va1, vn1, vc1, va2, vn2, vc2, va3, vn3, vc3, vx, vv, rfl, hvv, hvt, hvx, x8⟩
  have e1 : ownT (Good (fireAll l r (firedI t now)).1 (fireAll l r (firedI t now)).2 (left t now)) (fireAll (fireAll l r (firedI t now)).1 (fireAll l r (firedI t now)).2 (firedI (left t now) later)).1 = (fireAll l r (firedI t later)).1 := (if_pos HG1.out).trans (by rw [(fire_twice HLE.out HG.out).2.2])
  have e2 : ownT (Good (fireAll l r (firedI t now)).1 (fireAll l r (firedI t now)).2 (left t now)) (fireAll (fireAll l r (firedI t now)).1 (fireAll l r (firedI t now)).2 (firedI (left t now) later)).2 = (fireAll l r (firedI t later)).2 := (if_pos HG1.out).trans (by rw [(fire_twice HLE.out HG.out).2.2])
  have e3 : ownT (Good (fireAll l r (firedI t now)).1 (fireAll l r (firedI t now)).2 (left t now)) (left (left t now) later) = left t later := (if_pos HG1.out).trans (fire_twice HLE.out HG.out).2.1
  have e4 : ownT (Good (fireAll l r (firedI t now)).1 (fireAll l r (firedI t now)).2 (left t now)) (firedI (left t now) later) = firedI (left t now) later := if_pos HG1.out
  rw [e1, e2, e3] at hvt
  rw [e4] at hvx
  rw [show ownE (Good (fireAll l r (firedI t now)).1 (fireAll l r (firedI t now)).2 (left t now)) = 0 from if_pos HG1.out] at hvv
  obtain rfl := bare0 hvv
  obtain ⟨vxa, vxc, rfl, -⟩ := iown_is hvx
  have X9 := new_below w8 (.cells #[.slice va1 vn1 vc1, .slice va2 vn2 vc2, .slice va3 vn3 vc3] 29)
  have D9 := hide (chain x8 X9)
  have HVT := hide (hvt.below X9)
  have HVX := hide (ownsRow_below hvx X9)
  have HVB : Hid (Bl (w8.alloc (.cells #[.slice va1 vn1 vc1, .slice va2 vn2 vc2, .slice va3 vn3 vc3] 29)) w8.heap.size [.slice va1 vn1 vc1, .slice va2 vn2 vc2, .slice va3 vn3 vc3]) := bl_alloc w8 #[.slice va1 vn1 vc1, .slice va2 vn2 vc2, .slice va3 vn3 vc3] 29
  have hzv : Hid (w8.heap.size < (w8.alloc (.cells #[.slice va1 vn1 vc1, .slice va2 vn2 vc2, .slice va3 vn3 vc3] 29)).heap.size) := by unfold Hid; simp
  clear hvv hvt hvx x8 X9 q0 q1 q2 e1 e2 e3 e4
  go_upto_region 10 with fail
  generalize w8.alloc (.cells #[.slice va1 vn1 vc1, .slice va2 vn2 vc2, .slice va3 vn3 vc3] 29) = W9 at *
  generalize w8.heap.size = vb at *
  have B9 := hide (chain B7.out D9.out)
  have BX9 := hide (BX7.out.below hz7.out D9.out)
  have hz9 : Hid (w.heap.size < W9.heap.size) := Nat.lt_of_lt_of_le hz7.out D9.out.size
  have HUX9 := hide (ownsRow_below HUX7.out D9.out)
  clear HUT7 HUX7 HUB7 hzu7 HUL hun1 BX7 hz7 B7 D9
  have b0 := BX9.out.cell 0 _ rfl
  have b1 := BX9.out.cell 1 _ rfl
  have b2 := BX9.out.cell 2 _ rfl
  go_wp2_with fail
  refine Calls.mono (to_any W9 _ _ _ ⟨_, _, _, rfl⟩ ⟨_, _, _, rfl⟩ ⟨_, _, _, rfl⟩) ?_
  rintro e w10 ⟨rfl, x10⟩
  have D10 := hide x10
  clear x10
  go_wp2_with fail
  refine Calls.mono (fire_any (HE.out.below (chain B9.out D10.out)).er9 pa pn pc l (HS.out.below (chain B9.out D10.out)) ra rn rc r (HI.out.below (chain B9.out D10.out)) ta tn tc t (HT.out.below (chain B9.out D10.out)) hmp hmr hmt later) ?_
  rintro e w11 ⟨za1, zn1, zc1, za2, zn2, zc2, za3, zn3, zc3, zx, zv, rfl, hzv', hzt, hzx, x11⟩
  rw [show ownE (Good l r t) = 0 from if_pos HG.out] at hzv'
  rw [show ownT (Good l r t) (firedI t later) = firedI t later from if_pos HG.out] at hzx
  rw [show ownT (Good l r t) (fireAll l r (firedI t later)).1 = (fireAll l r (firedI t later)).1 from if_pos HG.out, show ownT (Good l r t) (fireAll l r (firedI t later)).2 = (fireAll l r (firedI t later)).2 from if_pos HG.out, show ownT (Good l r t) (left t later) = left t later from if_pos HG.out] at hzt
  obtain rfl := bare0 hzv'
  obtain ⟨zxa, zxc, rfl, -⟩ := iown_is hzx
  have X12 := new_below w11 (.cells #[.slice za1 zn1 zc1, .slice za2 zn2 zc2, .slice za3 zn3 zc3] 29)
  have D12 := hide (chain (chain D10.out x11) X12)
  have HZT := hide (hzt.below X12)
  have HZX := hide (ownsRow_below hzx X12)
  have HZB : Hid (Bl (w11.alloc (.cells #[.slice za1 zn1 zc1, .slice za2 zn2 zc2, .slice za3 zn3 zc3] 29)) w11.heap.size [.slice za1 zn1 zc1, .slice za2 zn2 zc2, .slice za3 zn3 zc3]) := bl_alloc w11 #[.slice za1 zn1 zc1, .slice za2 zn2 zc2, .slice za3 zn3 zc3] 29
  have hzz : Hid (w11.heap.size < (w11.alloc (.cells #[.slice za1 zn1 zc1, .slice za2 zn2 zc2, .slice za3 zn3 zc3] 29)).heap.size) := by unfold Hid; simp
  clear hzv' hzt hzx x11 X12 b0 b1 b2
  go_upto_region 11 with fail
  generalize w11.alloc (.cells #[.slice za1 zn1 zc1, .slice za2 zn2 zc2, .slice za3 zn3 zc3] 29) = W12 at *
  generalize w11.heap.size = zb at *
  have B12 := hide (chain B9.out D12.out)
  have BX12 := hide (BX9.out.below hz9.out D12.out)
  have hz12 : Hid (w.heap.size < W12.heap.size) := Nat.lt_of_lt_of_le hz9.out D12.out.size
  have HUX12 := hide (ownsRow_below HUX9.out D12.out)
  have HVX12 := hide (ownsRow_below HVX.out D12.out)
  have HVT12 := hide (HVT.out.below D12.out)
  have HVB12 := hide (HVB.out.below hzv.out D12.out)
  have hzv12 : Hid (vb < W12.heap.size) := Nat.lt_of_lt_of_le hzv.out D12.out.size
  clear HUX9 HVX HVT HVB hzv B9 BX9 hz9 D12 D10
  have HVL := hide (tab_lists HVT12.out)
  have HZL := hide (tab_lists HZT.out)
  obtain rfl : zn1 = vn1 := by rw [← HVL.out.1.size, ← HZL.out.1.size]
  obtain rfl : zn2 = vn2 := by rw [← HVL.out.2.1.size, ← HZL.out.2.1.size]
  obtain rfl : zn3 = vn3 := by rw [← HVL.out.2.2.size, ← HZL.out.2.2.size]
  have HG2 := hide (good_fire (now := later) HG.out)
  have hn8 : Hid (zn1 ≤ 8 ∧ zn2 ≤ 8 ∧ zn3 ≤ 8) := by
    have s1 := HZL.out.1.size
    have s2 := HZL.out.2.1.size
    have s3 := HZL.out.2.2.size
    have h1 := HG2.out.1
    have h2 := goodR_few HG2.out.2.2.1 HG2.out.1
    have h3 := HG2.out.tfew
    exact ⟨by omega, by omega, by omega⟩
  have hc8 : Hid ((firedI t later).length ≤ 8) := by
    unfold Hid firedI
    rw [List.length_map]
    exact Nat.le_trans (fired_len t later) HG.out.tfew
  have HAB := hide (fire_twice HLE.out HG.out).1
  have hab : Hid ((firedI t now).length + (firedI (left t now) later).length = (firedI t later).length) := by unfold Hid; rw [← HAB.out, List.length_append]
  have HUI : Hid (Is W12 uxa (firedI t now).length uxc (firedI t now)) := by
    obtain ⟨a, c, e, h⟩ := iown_is HUX12.out
    simp only [Value.slice.injEq, true_and] at e
    obtain ⟨rfl, rfl⟩ := e
    exact h
  have HVI : Hid (Is W12 vxa (firedI (left t now) later).length vxc (firedI (left t now) later)) := by
    obtain ⟨a, c, e, h⟩ := iown_is HVX12.out
    simp only [Value.slice.injEq, true_and] at e
    obtain ⟨rfl, rfl⟩ := e
    exact h
  have HZI : Hid (Is W12 zxa (firedI t later).length zxc (firedI t later)) := by
    obtain ⟨a, c, e, h⟩ := iown_is HZX.out
    simp only [Value.slice.injEq, true_and] at e
    obtain ⟨rfl, rfl⟩ := e
    exact h
  have HW := hide (Below.refl W12.heap.size W12)
  go_region_held3 (fun wz => wz.cell? ⟨vb, 0, none⟩ = some (.slice va1 zn1 vc1) ∧ wz.cell? ⟨vb, 1, none⟩ = some (.slice va2 zn2 vc2) ∧ wz.cell? ⟨vb, 2, none⟩ = some (.slice va3 zn3 vc3) ∧ wz.cell? ⟨zb, 0, none⟩ = some (.slice za1 zn1 zc1) ∧ wz.cell? ⟨zb, 1, none⟩ = some (.slice za2 zn2 zc2) ∧ wz.cell? ⟨zb, 2, none⟩ = some (.slice za3 zn3 zc3))
    (first | exact held6 HVB12.out hzv12.out HZB.out hzz.out HW.out | exact held6 HVB12.out hzv12.out HZB.out hzz.out HW.out.drew | exact held6 HVB12.out hzv12.out HZB.out hzz.out (chain HW.out (new_below _ _)))
    (first
      | (go_at_call 30; refine (from_any _ _ _ _ ⟨_, _, _, rfl⟩ ⟨_, _, _, rfl⟩ ⟨_, _, _, rfl⟩).mono ?_; rintro e wf ⟨rfl, bf⟩; have HW := hide (chain HW.out (by first | exact bf | exact undrewB bf)); clear bf)
      | (go_at_call 29; refine (requal_same _ va1 zn1 vc1 _ (HVL.out.1.below HW.out) va2 zn2 vc2 _ (HVL.out.2.1.below HW.out) va3 zn3 vc3 _ (HVL.out.2.2.below HW.out) za1 zc1 (HZL.out.1.below HW.out) za2 zc2 (HZL.out.2.1.below HW.out) za3 zc3 (HZL.out.2.2.below HW.out) (by have := hn8.out.1; omega) (by have := hn8.out.2.1; omega) (by have := hn8.out.2.2; omega)).mono ?_; rintro e wq ⟨rfl, bf⟩; have HW := hide (chain HW.out (by first | exact bf | exact undrewB bf)); clear bf)
      | (go_at_call 16; refine (equalInts_any _ yb2 (firedI t later).length yc2 (firedI t later) Y2.out zxa (firedI t later).length zxc (firedI t later) (HZI.out.below HW.out) (by have := hc8.out; omega) (by have := hc8.out; omega)).mono ?_; rintro e wi ⟨rfl, bf⟩; have HW := hide (chain HW.out (by first | exact bf | exact undrewB bf)); clear bf)
      | (refine step_own_w (by rfl) (.tmp 95) (.tmp 96) 23 3 (by rfl) Tryd.underlying23 infoInt (by decide) W12.heap.size _ 0 [] (by rfl) (World.ownsRow_lit _ #[] 0 HW.out.size (by decide) rfl) uxa (firedI t now).length uxc ((firedI t now).flatMap ci) (by rfl) (HUI.out.below (chain HW.out (new_below _ _))).row (ci_one _) (by have := hc8.out; have := hab.out; unfold maxLen; omega) (by have := hc8.out; have := hab.out; omega) (chain HW.out (new_below _ _)).size ?_; intro v1 wa1 k1 k2; have HW := hide ((chain HW.out (new_below _ _)).trans k2); have k1' : IOwn wa1 W12.heap.size v1 (firedI t now) := (by rw [Nat.zero_add, List.nil_append] at k1; exact k1); obtain ⟨yb1, yc1, rfl, -⟩ := iown_is k1'; have Y1 := hide k1'; clear k1 k2 k1')
      | (refine step_own_w (by rfl) (.tmp 97) (.tmp 98) 23 3 (by rfl) Tryd.underlying23 infoInt (by decide) W12.heap.size _ (firedI t now).length ((firedI t now).flatMap ci) (by rfl) Y1.out vxa (firedI (left t now) later).length vxc ((firedI (left t now) later).flatMap ci) (by rfl) (HVI.out.below HW.out).row (ci_one _) (by have := hc8.out; have := hab.out; unfold maxLen; omega) (by have := hc8.out; have := hab.out; omega) HW.out.size ?_; intro v2 wa2 k1 k2; have HW := hide (HW.out.trans k2); have k1' : IOwn wa2 W12.heap.size v2 (firedI t later) := (by unfold IOwn; rw [← HAB.out, List.length_append, List.flatMap_append]; exact k1); obtain ⟨yb2, yc2, rfl, k3⟩ := iown_is k1'; have Y2 := hide k3; clear k1 k2 k1' k3)
      | fail)
  have B13 := hide (chain B12.out HW.out)
  have BX13 := hide (BX12.out.below hz12.out HW.out)
  have hz13 : Hid (w.heap.size < wi.heap.size) := Nat.lt_of_lt_of_le hz12.out HW.out.size
  have HZB13 := hide (HZB.out.below hzz.out HW.out)
  have hzz13 : Hid (zb < wi.heap.size) := Nat.lt_of_lt_of_le hzz.out HW.out.size
  have HZP := hide (HZL.out.1.below HW.out)
  have HZM := hide (HZL.out.2.2.below HW.out)
  have HZC := hide (HZI.out.below HW.out)
  have HLP : Hid (zn1 = pn) := by
    unfold Hid
    rw [← HZL.out.1.size, fireAll_len, HL.out]
  have hn3 := hn8.out.2.2
  have hn1 := hn8.out.1
  have hcl := hc8.out
  have HND : Hid ((firedI t later).Nodup) := List.Nodup.sublist (List.filter_sublist.map _) HG.out.2.2.2.1.2.1
  clear HVL HVT12 HVB12 hzv12 HUX12 HVX12 HUI HVI Y1 Y2 HZT HZX HZI HZL HZB hzz B12 BX12 hz12 HW hab HAB
  have r2 := HZB13.out.cell 2 _ rfl
  go_wp2
  go_loopw [107] (fun i wr => ∃ k : Nat, k ≤ zn3 ∧ i = .int .i64 (k : Int) ∧ Hid (Below wi.heap.size wi wr)) (fun i _ => zn3 - (intOf i).toNat)
  case atStart => exact ⟨0, by omega, rfl, Below.refl _ _⟩
  case round =>
    obtain ⟨k, hk, rfl, hb⟩ := hrel
    by_cases hlt : k < zn3
    · obtain ⟨x, hx⟩ : ∃ p, (left t later)[k]? = some p := ⟨_, List.getElem?_eq_getElem (by rw [HZM.out.size]; exact hlt)⟩
      have hd : decide (x.due ≤ later) = false := by
        have := (List.mem_filter.1 (List.mem_of_getElem? hx)).2
        simpa using this
      obtain ⟨b, off, rfl, hrr⟩ := (HZM.out.below hb.out).at tm2 (by decide) hx
      have r0 := hrr 0 _ rfl
      have r1 := hrr 1 _ rfl
      simp only [Nat.add_zero] at r0
      have HB1 := hide (chain hb.out (new_below wr (.cells #[.int .i64 x.proc, .int .i64 x.due] 68)))
      have hk1 : (k : Int) < (zn3 : Int) := by omega
      clear hrr hx r2
      go_wp2
      go_roundw
      case rel => exact ⟨k + 1, by omega, by go_num, HB1.out⟩
      case measure => simp [intOf]; omega
    · obtain rfl : k = zn3 := by omega
      clear r2
      go_wp2
      have HB2 := hide hb.out
      clear hb
      go_loopw [118] (fun i ws => ∃ q : Nat, q ≤ (firedI t later).length ∧ i = .int .i64 (q : Int) ∧ Hid (Below wi.heap.size wi ws)) (fun i _ => (firedI t later).length - (intOf i).toNat)
      case atStart => exact ⟨0, by omega, rfl, HB2.out⟩
      case round =>
        obtain ⟨q, hq, rfl, hb⟩ := hrel
        have c0 := (BX13.out.below hz13.out hb.out).cell 0 _ rfl
        have z0 := (HZB13.out.below hzz13.out hb.out).cell 0 _ rfl
        by_cases hlt : q < (firedI t later).length
        · obtain ⟨i, hi⟩ : ∃ i, (firedI t later)[q]? = some i := ⟨_, List.getElem?_eq_getElem hlt⟩
          have hii := firedI_in HG.out later i (List.mem_of_getElem? hi)
          obtain ⟨m, rfl⟩ := Int.eq_ofNat_of_zero_le hii.1
          have hml : m < l.length := by omega
          obtain ⟨p, hp⟩ : ∃ p, l[m]? = some p := ⟨_, List.getElem?_eq_getElem hml⟩
          have hP := fireAll_at (r := r) (fun j hj => (firedI_in HG.out later j hj).1) HND.out (List.mem_of_getElem? hi) hp
          obtain ⟨xb, xo, rfl, xr⟩ := (HZC.out.below hb.out).at ci1 (by decide) hi
          have x0 := xr 0 _ rfl
          simp only [Nat.add_zero, Nat.mul_one] at x0
          obtain ⟨lb, lo, rfl, hr1⟩ := (HS.out.below (chain B13.out hb.out)).at pro21 (by decide) hp
          have l19 := hr1 19 _ rfl
          obtain ⟨pb, po, rfl, hr2⟩ := (HZP.out.below hb.out).at pro21 (by decide) hP
          have z17 := hr2 17 (.int .i64 1) rfl
          have z1 := hr2 1 (.int .u32 (lateR p)) rfl
          have hm0 : (0 : Int) ≤ (m : Int) := by omega
          have hmp1 : (m : Int) < (pn : Int) := by rw [← HL.out]; exact hii.2
          have hmz1 : (m : Int) < (zn1 : Int) := by rw [HLP.out, ← HL.out]; exact hii.2
          have dm1 : decide ((m : Int) < 0) = false := decide_eq_false (by omega)
          have dm2 : decide ((pn : Int) ≤ (m : Int)) = false := decide_eq_false (by omega)
          have dm3 : decide ((zn1 : Int) ≤ (m : Int)) = false := decide_eq_false (by omega)
          have hq1 : (q : Int) < ((firedI t later).length : Int) := by omega
          have HB1 := hide hb.out
          clear hr1 hr2 xr hi hp hP hii hml
          by_cases hw : p.wait = 1
          · have d1 : (p.wait == 1) = true := by simp [hw]
            rw [show lateR p = 0 from if_pos hw] at z1
            clear hw
            go_wp2
            go_roundw
            case rel => exact ⟨q + 1, by omega, by go_num, HB1.out⟩
            case measure => simp [intOf]; omega
          · have d1 : (p.wait == 1) = false := by simp [hw]
            rw [show lateR p = 4294967294 from if_neg hw] at z1
            clear hw
            go_wp2
            go_roundw
            case rel => exact ⟨q + 1, by omega, by go_num, HB1.out⟩
            case measure => simp [intOf]; omega
        · obtain rfl : q = (firedI t later).length := by omega
          go_wp2
          go_ret
          exact ⟨rfl, chain B13.out hb.out⟩
set_option maxRecDepth 100000 in
set_option maxHeartbeats 8000000 in
theorem lawB (pa : Option Addr) (pn pc : Nat) (l : List Pro) (ra : Option Addr) (rn rc : Nat) (r : List Int) (ta : Option Addr) (tn tc : Nat) (t : List Tm) (now later : Int) (w : World) {E : Nat → Addr} (he : Errs w E) (hp : Pros w pa pn pc l) (hr : Is w ra rn rc r) (ht : Tms w ta tn tc t) (hmp : pn ≤ 9223372036854775807) (hmr : rn ≤ 9223372036854775807) (hmt : tn ≤ 9223372036854775807) (hcase : later < now) :
    Calls Tryd.prog 7 #[.agg #[.slice pa pn pc, .slice ra rn rc, .slice ta tn tc], .int .i64 now, .int .i64 later] w fun e w' => e = .returned (.bool true) ∧ Below w.heap.size w w' := by
  have X := new_below w (.cells #[.slice pa pn pc, .slice ra rn rc, .slice ta tn tc] 26)
  have BX0 : Hid (Bl (w.alloc (.cells #[.slice pa pn pc, .slice ra rn rc, .slice ta tn tc] 26)) w.heap.size [.slice pa pn pc, .slice ra rn rc, .slice ta tn tc]) := bl_alloc w #[.slice pa pn pc, .slice ra rn rc, .slice ta tn tc] 26
  have hz0 : Hid (w.heap.size < (w.alloc (.cells #[.slice pa pn pc, .slice ra rn rc, .slice ta tn tc] 26)).heap.size) := by unfold Hid; simp
  have B0 := hide X
  have HE := hide he
  have HS := hide hp
  have HI := hide hr
  have HT := hide ht
  have HL : Hid (l.length = pn) := hp.size
  have HLE : Hid (later ≤ now) := by unfold Hid; omega
  have dgt : decide (later < now) = true := by simp; omega
  clear X he hp hr ht
  go_enter Tryd.func7, Tryd.ntmps7
  go_upto_region 1 with fail
  generalize w.alloc (.cells #[.slice pa pn pc, .slice ra rn rc, .slice ta tn tc] 26) = W0 at *
  go_wp2_with fail
  refine Calls.mono (some_any W0) ?_
  rintro e w1 ⟨g1, g2, g3, rfl, p1, i1, t1, b1⟩
  have P1 := hide p1
  have I1 := hide i1
  have T1 := hide t1
  have D1 := hide b1
  clear p1 i1 t1 b1
  go_wp2_with fail
  refine Calls.mono (to_any w1 _ _ _ ⟨_, _, _, rfl⟩ ⟨_, _, _, rfl⟩ ⟨_, _, _, rfl⟩) ?_
  rintro e w2 ⟨rfl, b2⟩
  have D2 := hide (chain D1.out b2)
  have P2 := hide (P1.out.below b2)
  have I2 := hide (I1.out.below b2)
  have T2 := hide (T1.out.below b2)
  clear b2
  go_wp2_with fail
  refine Calls.mono (fire_any ((HE.out.below B0.out).below D2.out).er9 _ 4 4 someP P2.out _ 2 2 [1, 0] I2.out _ 1 1 [⟨3, 10⟩] T2.out (by decide) (by decide) (by decide) 10) ?_
  rintro e w3 ⟨sa1, sn1, sc1, sa2, sn2, sc2, sa3, sn3, sc3, sx, sv, rfl, hsv, hst, hsx, b3⟩
  rw [show ownE (Good someP [1, 0] [⟨3, 10⟩]) = 0 from if_pos some_good] at hsv
  rw [show ownT (Good someP [1, 0] [⟨3, 10⟩]) (firedI [⟨3, 10⟩] 10) = [3] from (if_pos some_good).trans (by decide)] at hsx
  obtain rfl := bare0 hsv
  obtain ⟨sxa, sxc, rfl, -⟩ := iown_is hsx
  have D3 := hide (chain (chain D2.out b3) (new_below w3 (.cells #[.slice sa1 sn1 sc1, .slice sa2 sn2 sc2, .slice sa3 sn3 sc3] 29)))
  clear hsv hst hsx b3 P1 I1 T1 P2 I2 T2 D1 D2
  go_upto_region 6 with fail
  generalize w3.alloc (.cells #[.slice sa1 sn1 sc1, .slice sa2 sn2 sc2, .slice sa3 sn3 sc3] 29) = W3 at *
  have B3 := hide (B0.out.trans (D3.out.mono B0.out.size))
  have BX3 := hide (BX0.out.below hz0.out D3.out)
  have hz3 : Hid (w.heap.size < W3.heap.size) := Nat.lt_of_lt_of_le hz0.out D3.out.size
  have b0 := BX3.out.cell 0 _ rfl
  have b1 := BX3.out.cell 1 _ rfl
  have b2 := BX3.out.cell 2 _ rfl
  go_wp2_with fail
  refine Calls.mono (to_any W3 _ _ _ ⟨_, _, _, rfl⟩ ⟨_, _, _, rfl⟩ ⟨_, _, _, rfl⟩) ?_
  rintro e w4 ⟨rfl, x4⟩
  have B4 := hide (chain B3.out x4)
  have D4 := hide x4
  clear x4
  go_wp2_with fail
  refine Calls.mono (fire_any (HE.out.below B4.out).er9 pa pn pc l (HS.out.below B4.out) ra rn rc r (HI.out.below B4.out) ta tn tc t (HT.out.below B4.out) hmp hmr hmt later) ?_
  rintro e w5 ⟨ua1, un1, uc1, ua2, un2, uc2, ua3, un3, uc3, ux, uv, rfl, huv, hut, hux, x5⟩
  have X6 := new_below w5 (.cells #[.slice ua1 un1 uc1, .slice ua2 un2 uc2, .slice ua3 un3 uc3] 29)
  have D6 := hide (chain (chain D4.out x5) X6)
  have HUT := hide (hut.below X6)
  have HUX := hide (ownsRow_below hux X6)
  have HUV := hide huv
  have HUB : Hid (Bl (w5.alloc (.cells #[.slice ua1 un1 uc1, .slice ua2 un2 uc2, .slice ua3 un3 uc3] 29)) w5.heap.size [.slice ua1 un1 uc1, .slice ua2 un2 uc2, .slice ua3 un3 uc3]) := bl_alloc w5 #[.slice ua1 un1 uc1, .slice ua2 un2 uc2, .slice ua3 un3 uc3] 29
  have hzu : Hid (w5.heap.size < (w5.alloc (.cells #[.slice ua1 un1 uc1, .slice ua2 un2 uc2, .slice ua3 un3 uc3] 29)).heap.size) := by unfold Hid; simp
  obtain ⟨uxa, uxc, rfl, -⟩ := iown_is hux
  clear huv hut hux x5 X6 b0 b1 b2
  go_upto_region 7 with fail
  generalize w5.alloc (.cells #[.slice ua1 un1 uc1, .slice ua2 un2 uc2, .slice ua3 un3 uc3] 29) = W6 at *
  generalize w5.heap.size = ub at *
  have B6 := hide (chain B3.out D6.out)
  have BX6 := hide (BX3.out.below hz3.out D6.out)
  have hz6 : Hid (w.heap.size < W6.heap.size) := Nat.lt_of_lt_of_le hz3.out D6.out.size
  clear D3 D4 D6 B0 B4 BX0 hz0 BX3 hz3 B3
  have b0 := BX6.out.cell 0 _ rfl
  have b1 := BX6.out.cell 1 _ rfl
  have b2 := BX6.out.cell 2 _ rfl
  go_wp2_with fail
  refine Calls.mono (rrgood_any W6 pa pn pc l (HS.out.below B6.out) ra rn rc r (HI.out.below B6.out) ta tn tc t (HT.out.below B6.out)) ?_
  rintro e w7 ⟨rfl, x7⟩
  have B7 := hide (chain B6.out x7)
  have BX7 := hide (BX6.out.below hz6.out x7)
  have hz7 : Hid (w.heap.size < w7.heap.size) := Nat.lt_of_lt_of_le hz6.out x7.size
  have HUT7 := hide (HUT.out.below x7)
  have HUX7 := hide (ownsRow_below HUX.out x7)
  have HUB7 := hide (HUB.out.below hzu.out x7)
  have hzu7 : Hid (ub < w7.heap.size) := Nat.lt_of_lt_of_le hzu.out x7.size
  clear x7 b0 b1 b2 B6 BX6 hz6 HUT HUX HUB hzu
  by_cases hg : Good l r t
  case neg =>
    rw [decide_eq_false hg]
    have hE9 : ownE (Good l r t) = 9 := if_neg hg
    have hx0 : ownT (Good l r t) (firedI t later) = [] := if_neg hg
    rw [hE9] at HUV
    rw [hx0]
    clear hg hE9 hx0
    go_wp2_with fail
    refine Calls.mono (plain_any (HE.out.below B7.out) uv 9 HUV.out 9) ?_
    rintro e w8 ⟨rfl, x8⟩
    have B8 := hide (chain B7.out x8)
    clear x8
    go_wp2
    go_ret
    exact ⟨rfl, B8.out⟩
  have HG := hide hg
  rw [decide_eq_true hg]
  have hE0 : ownE (Good l r t) = 0 := if_pos hg
  have hx1 : ownT (Good l r t) (firedI t later) = firedI t later := if_pos hg
  have hx2 : ownT (Good l r t) (fireAll l r (firedI t later)).1 = (fireAll l r (firedI t later)).1 := if_pos hg
  have hx3 : ownT (Good l r t) (fireAll l r (firedI t later)).2 = (fireAll l r (firedI t later)).2 := if_pos hg
  have hx4 : ownT (Good l r t) (left t later) = left t later := if_pos hg
  rw [hE0] at HUV
  rw [hx1] at HUX7 ⊢
  rw [hx2, hx3, hx4] at HUT7
  obtain rfl := bare0 HUV.out
  have HG1 := hide (good_fire (now := later) hg)
  clear hE0 hx1 hx2 hx3 hx4 hg HUV
  have q0 := HUB7.out.cell 0 _ rfl
  have q1 := HUB7.out.cell 1 _ rfl
  have q2 := HUB7.out.cell 2 _ rfl
  have HUL := hide (tab_lists HUT7.out)
  have hun1 : Hid (un1 ≤ 8 ∧ un2 ≤ 8 ∧ un3 ≤ 8) := by
    have s1 := HUL.out.1.size
    have s2 := HUL.out.2.1.size
    have s3 := HUL.out.2.2.size
    have h1 := HG1.out.1
    have h2 := goodR_few HG1.out.2.2.1 HG1.out.1
    have h3 := HG1.out.tfew
    exact ⟨by omega, by omega, by omega⟩
  go_wp2_with fail
  refine Calls.mono (fire_any (HE.out.below B7.out).er9 ua1 un1 uc1 _ HUL.out.1 ua2 un2 uc2 _ HUL.out.2.1 ua3 un3 uc3 _ HUL.out.2.2 (by have := hun1.out.1; omega) (by have := hun1.out.2.1; omega) (by have := hun1.out.2.2; omega) now) ?_
  rintro e w8 ⟨va1, vn1, vc1, va2, vn2, vc2, va3, vn3, vc3, vx, vv, rfl, hvv, hvt, hvx, x8⟩
  have e1 : ownT (Good (fireAll l r (firedI t later)).1 (fireAll l r (firedI t later)).2 (left t later)) (fireAll (fireAll l r (firedI t later)).1 (fireAll l r (firedI t later)).2 (firedI (left t later) now)).1 = (fireAll l r (firedI t now)).1 := (if_pos HG1.out).trans (by rw [(fire_twice HLE.out HG.out).2.2])
  have e2 : ownT (Good (fireAll l r (firedI t later)).1 (fireAll l r (firedI t later)).2 (left t later)) (fireAll (fireAll l r (firedI t later)).1 (fireAll l r (firedI t later)).2 (firedI (left t later) now)).2 = (fireAll l r (firedI t now)).2 := (if_pos HG1.out).trans (by rw [(fire_twice HLE.out HG.out).2.2])
  have e3 : ownT (Good (fireAll l r (firedI t later)).1 (fireAll l r (firedI t later)).2 (left t later)) (left (left t later) now) = left t now := (if_pos HG1.out).trans (fire_twice HLE.out HG.out).2.1
  have e4 : ownT (Good (fireAll l r (firedI t later)).1 (fireAll l r (firedI t later)).2 (left t later)) (firedI (left t later) now) = firedI (left t later) now := if_pos HG1.out
  rw [e1, e2, e3] at hvt
  rw [e4] at hvx
  rw [show ownE (Good (fireAll l r (firedI t later)).1 (fireAll l r (firedI t later)).2 (left t later)) = 0 from if_pos HG1.out] at hvv
  obtain rfl := bare0 hvv
  obtain ⟨vxa, vxc, rfl, -⟩ := iown_is hvx
  have X9 := new_below w8 (.cells #[.slice va1 vn1 vc1, .slice va2 vn2 vc2, .slice va3 vn3 vc3] 29)
  have D9 := hide (chain x8 X9)
  have HVT := hide (hvt.below X9)
  have HVX := hide (ownsRow_below hvx X9)
  have HVB : Hid (Bl (w8.alloc (.cells #[.slice va1 vn1 vc1, .slice va2 vn2 vc2, .slice va3 vn3 vc3] 29)) w8.heap.size [.slice va1 vn1 vc1, .slice va2 vn2 vc2, .slice va3 vn3 vc3]) := bl_alloc w8 #[.slice va1 vn1 vc1, .slice va2 vn2 vc2, .slice va3 vn3 vc3] 29
  have hzv : Hid (w8.heap.size < (w8.alloc (.cells #[.slice va1 vn1 vc1, .slice va2 vn2 vc2, .slice va3 vn3 vc3] 29)).heap.size) := by unfold Hid; simp
  clear hvv hvt hvx x8 X9 q0 q1 q2 e1 e2 e3 e4
  go_upto_region 10 with fail
  generalize w8.alloc (.cells #[.slice va1 vn1 vc1, .slice va2 vn2 vc2, .slice va3 vn3 vc3] 29) = W9 at *
  generalize w8.heap.size = vb at *
  have B9 := hide (chain B7.out D9.out)
  have BX9 := hide (BX7.out.below hz7.out D9.out)
  have hz9 : Hid (w.heap.size < W9.heap.size) := Nat.lt_of_lt_of_le hz7.out D9.out.size
  have HUX9 := hide (ownsRow_below HUX7.out D9.out)
  clear HUT7 HUX7 HUB7 hzu7 HUL hun1 BX7 hz7 B7 D9
  have b0 := BX9.out.cell 0 _ rfl
  have b1 := BX9.out.cell 1 _ rfl
  have b2 := BX9.out.cell 2 _ rfl
  go_wp2_with fail
  refine Calls.mono (to_any W9 _ _ _ ⟨_, _, _, rfl⟩ ⟨_, _, _, rfl⟩ ⟨_, _, _, rfl⟩) ?_
  rintro e w10 ⟨rfl, x10⟩
  have D10 := hide x10
  clear x10
  go_wp2_with fail
  refine Calls.mono (fire_any (HE.out.below (chain B9.out D10.out)).er9 pa pn pc l (HS.out.below (chain B9.out D10.out)) ra rn rc r (HI.out.below (chain B9.out D10.out)) ta tn tc t (HT.out.below (chain B9.out D10.out)) hmp hmr hmt now) ?_
  rintro e w11 ⟨za1, zn1, zc1, za2, zn2, zc2, za3, zn3, zc3, zx, zv, rfl, hzv', hzt, hzx, x11⟩
  rw [show ownE (Good l r t) = 0 from if_pos HG.out] at hzv'
  rw [show ownT (Good l r t) (firedI t now) = firedI t now from if_pos HG.out] at hzx
  rw [show ownT (Good l r t) (fireAll l r (firedI t now)).1 = (fireAll l r (firedI t now)).1 from if_pos HG.out, show ownT (Good l r t) (fireAll l r (firedI t now)).2 = (fireAll l r (firedI t now)).2 from if_pos HG.out, show ownT (Good l r t) (left t now) = left t now from if_pos HG.out] at hzt
  obtain rfl := bare0 hzv'
  obtain ⟨zxa, zxc, rfl, -⟩ := iown_is hzx
  have X12 := new_below w11 (.cells #[.slice za1 zn1 zc1, .slice za2 zn2 zc2, .slice za3 zn3 zc3] 29)
  have D12 := hide (chain (chain D10.out x11) X12)
  have HZT := hide (hzt.below X12)
  have HZX := hide (ownsRow_below hzx X12)
  have HZB : Hid (Bl (w11.alloc (.cells #[.slice za1 zn1 zc1, .slice za2 zn2 zc2, .slice za3 zn3 zc3] 29)) w11.heap.size [.slice za1 zn1 zc1, .slice za2 zn2 zc2, .slice za3 zn3 zc3]) := bl_alloc w11 #[.slice za1 zn1 zc1, .slice za2 zn2 zc2, .slice za3 zn3 zc3] 29
  have hzz : Hid (w11.heap.size < (w11.alloc (.cells #[.slice za1 zn1 zc1, .slice za2 zn2 zc2, .slice za3 zn3 zc3] 29)).heap.size) := by unfold Hid; simp
  clear hzv' hzt hzx x11 X12 b0 b1 b2
  go_upto_region 11 with fail
  generalize w11.alloc (.cells #[.slice za1 zn1 zc1, .slice za2 zn2 zc2, .slice za3 zn3 zc3] 29) = W12 at *
  generalize w11.heap.size = zb at *
  have B12 := hide (chain B9.out D12.out)
  have BX12 := hide (BX9.out.below hz9.out D12.out)
  have hz12 : Hid (w.heap.size < W12.heap.size) := Nat.lt_of_lt_of_le hz9.out D12.out.size
  have HUX12 := hide (ownsRow_below HUX9.out D12.out)
  have HVX12 := hide (ownsRow_below HVX.out D12.out)
  have HVT12 := hide (HVT.out.below D12.out)
  have HVB12 := hide (HVB.out.below hzv.out D12.out)
  have hzv12 : Hid (vb < W12.heap.size) := Nat.lt_of_lt_of_le hzv.out D12.out.size
  clear HUX9 HVX HVT HVB hzv B9 BX9 hz9 D12 D10
  have HVL := hide (tab_lists HVT12.out)
  have HZL := hide (tab_lists HZT.out)
  obtain rfl : zn1 = vn1 := by rw [← HVL.out.1.size, ← HZL.out.1.size]
  obtain rfl : zn2 = vn2 := by rw [← HVL.out.2.1.size, ← HZL.out.2.1.size]
  obtain rfl : zn3 = vn3 := by rw [← HVL.out.2.2.size, ← HZL.out.2.2.size]
  have HG2 := hide (good_fire (now := now) HG.out)
  have hn8 : Hid (zn1 ≤ 8 ∧ zn2 ≤ 8 ∧ zn3 ≤ 8) := by
    have s1 := HZL.out.1.size
    have s2 := HZL.out.2.1.size
    have s3 := HZL.out.2.2.size
    have h1 := HG2.out.1
    have h2 := goodR_few HG2.out.2.2.1 HG2.out.1
    have h3 := HG2.out.tfew
    exact ⟨by omega, by omega, by omega⟩
  have hc8 : Hid ((firedI t now).length ≤ 8) := by
    unfold Hid firedI
    rw [List.length_map]
    exact Nat.le_trans (fired_len t now) HG.out.tfew
  have HAB := hide (fire_twice HLE.out HG.out).1
  have hab : Hid ((firedI t later).length + (firedI (left t later) now).length = (firedI t now).length) := by unfold Hid; rw [← HAB.out, List.length_append]
  have HUI : Hid (Is W12 uxa (firedI t later).length uxc (firedI t later)) := by
    obtain ⟨a, c, e, h⟩ := iown_is HUX12.out
    simp only [Value.slice.injEq, true_and] at e
    obtain ⟨rfl, rfl⟩ := e
    exact h
  have HVI : Hid (Is W12 vxa (firedI (left t later) now).length vxc (firedI (left t later) now)) := by
    obtain ⟨a, c, e, h⟩ := iown_is HVX12.out
    simp only [Value.slice.injEq, true_and] at e
    obtain ⟨rfl, rfl⟩ := e
    exact h
  have HZI : Hid (Is W12 zxa (firedI t now).length zxc (firedI t now)) := by
    obtain ⟨a, c, e, h⟩ := iown_is HZX.out
    simp only [Value.slice.injEq, true_and] at e
    obtain ⟨rfl, rfl⟩ := e
    exact h
  have HW := hide (Below.refl W12.heap.size W12)
  go_region_held3 (fun wz => wz.cell? ⟨vb, 0, none⟩ = some (.slice va1 zn1 vc1) ∧ wz.cell? ⟨vb, 1, none⟩ = some (.slice va2 zn2 vc2) ∧ wz.cell? ⟨vb, 2, none⟩ = some (.slice va3 zn3 vc3) ∧ wz.cell? ⟨zb, 0, none⟩ = some (.slice za1 zn1 zc1) ∧ wz.cell? ⟨zb, 1, none⟩ = some (.slice za2 zn2 zc2) ∧ wz.cell? ⟨zb, 2, none⟩ = some (.slice za3 zn3 zc3))
    (first | exact held6 HVB12.out hzv12.out HZB.out hzz.out HW.out | exact held6 HVB12.out hzv12.out HZB.out hzz.out HW.out.drew | exact held6 HVB12.out hzv12.out HZB.out hzz.out (chain HW.out (new_below _ _)))
    (first
      | (go_at_call 30; refine (from_any _ _ _ _ ⟨_, _, _, rfl⟩ ⟨_, _, _, rfl⟩ ⟨_, _, _, rfl⟩).mono ?_; rintro e wf ⟨rfl, bf⟩; have HW := hide (chain HW.out (by first | exact bf | exact undrewB bf)); clear bf)
      | (go_at_call 29; refine (requal_same _ va1 zn1 vc1 _ (HVL.out.1.below HW.out) va2 zn2 vc2 _ (HVL.out.2.1.below HW.out) va3 zn3 vc3 _ (HVL.out.2.2.below HW.out) za1 zc1 (HZL.out.1.below HW.out) za2 zc2 (HZL.out.2.1.below HW.out) za3 zc3 (HZL.out.2.2.below HW.out) (by have := hn8.out.1; omega) (by have := hn8.out.2.1; omega) (by have := hn8.out.2.2; omega)).mono ?_; rintro e wq ⟨rfl, bf⟩; have HW := hide (chain HW.out (by first | exact bf | exact undrewB bf)); clear bf)
      | (go_at_call 16; refine (equalInts_any _ yb2 (firedI t now).length yc2 (firedI t now) Y2.out zxa (firedI t now).length zxc (firedI t now) (HZI.out.below HW.out) (by have := hc8.out; omega) (by have := hc8.out; omega)).mono ?_; rintro e wi ⟨rfl, bf⟩; have HW := hide (chain HW.out (by first | exact bf | exact undrewB bf)); clear bf)
      | (refine step_own_w (by rfl) (.tmp 95) (.tmp 96) 23 3 (by rfl) Tryd.underlying23 infoInt (by decide) W12.heap.size _ 0 [] (by rfl) (World.ownsRow_lit _ #[] 0 HW.out.size (by decide) rfl) uxa (firedI t later).length uxc ((firedI t later).flatMap ci) (by rfl) (HUI.out.below (chain HW.out (new_below _ _))).row (ci_one _) (by have := hc8.out; have := hab.out; unfold maxLen; omega) (by have := hc8.out; have := hab.out; omega) (chain HW.out (new_below _ _)).size ?_; intro v1 wa1 k1 k2; have HW := hide ((chain HW.out (new_below _ _)).trans k2); have k1' : IOwn wa1 W12.heap.size v1 (firedI t later) := (by rw [Nat.zero_add, List.nil_append] at k1; exact k1); obtain ⟨yb1, yc1, rfl, -⟩ := iown_is k1'; have Y1 := hide k1'; clear k1 k2 k1')
      | (refine step_own_w (by rfl) (.tmp 97) (.tmp 98) 23 3 (by rfl) Tryd.underlying23 infoInt (by decide) W12.heap.size _ (firedI t later).length ((firedI t later).flatMap ci) (by rfl) Y1.out vxa (firedI (left t later) now).length vxc ((firedI (left t later) now).flatMap ci) (by rfl) (HVI.out.below HW.out).row (ci_one _) (by have := hc8.out; have := hab.out; unfold maxLen; omega) (by have := hc8.out; have := hab.out; omega) HW.out.size ?_; intro v2 wa2 k1 k2; have HW := hide (HW.out.trans k2); have k1' : IOwn wa2 W12.heap.size v2 (firedI t now) := (by unfold IOwn; rw [← HAB.out, List.length_append, List.flatMap_append]; exact k1); obtain ⟨yb2, yc2, rfl, k3⟩ := iown_is k1'; have Y2 := hide k3; clear k1 k2 k1' k3)
      | fail)
  have B13 := hide (chain B12.out HW.out)
  have BX13 := hide (BX12.out.below hz12.out HW.out)
  have hz13 : Hid (w.heap.size < wi.heap.size) := Nat.lt_of_lt_of_le hz12.out HW.out.size
  have HZB13 := hide (HZB.out.below hzz.out HW.out)
  have hzz13 : Hid (zb < wi.heap.size) := Nat.lt_of_lt_of_le hzz.out HW.out.size
  have HZP := hide (HZL.out.1.below HW.out)
  have HZM := hide (HZL.out.2.2.below HW.out)
  have HZC := hide (HZI.out.below HW.out)
  have HLP : Hid (zn1 = pn) := by
    unfold Hid
    rw [← HZL.out.1.size, fireAll_len, HL.out]
  have hn3 := hn8.out.2.2
  have hn1 := hn8.out.1
  have hcl := hc8.out
  have HND : Hid ((firedI t now).Nodup) := List.Nodup.sublist (List.filter_sublist.map _) HG.out.2.2.2.1.2.1
  clear HVL HVT12 HVB12 hzv12 HUX12 HVX12 HUI HVI Y1 Y2 HZT HZX HZI HZL HZB hzz B12 BX12 hz12 HW hab HAB
  have r2 := HZB13.out.cell 2 _ rfl
  go_wp2
  go_loopw [107] (fun i wr => ∃ k : Nat, k ≤ zn3 ∧ i = .int .i64 (k : Int) ∧ Hid (Below wi.heap.size wi wr)) (fun i _ => zn3 - (intOf i).toNat)
  case atStart => exact ⟨0, by omega, rfl, Below.refl _ _⟩
  case round =>
    obtain ⟨k, hk, rfl, hb⟩ := hrel
    by_cases hlt : k < zn3
    · obtain ⟨x, hx⟩ : ∃ p, (left t now)[k]? = some p := ⟨_, List.getElem?_eq_getElem (by rw [HZM.out.size]; exact hlt)⟩
      have hd : decide (x.due ≤ now) = false := by
        have := (List.mem_filter.1 (List.mem_of_getElem? hx)).2
        simpa using this
      obtain ⟨b, off, rfl, hrr⟩ := (HZM.out.below hb.out).at tm2 (by decide) hx
      have r0 := hrr 0 _ rfl
      have r1 := hrr 1 _ rfl
      simp only [Nat.add_zero] at r0
      have HB1 := hide (chain hb.out (new_below wr (.cells #[.int .i64 x.proc, .int .i64 x.due] 68)))
      have hk1 : (k : Int) < (zn3 : Int) := by omega
      clear hrr hx r2
      go_wp2
      go_roundw
      case rel => exact ⟨k + 1, by omega, by go_num, HB1.out⟩
      case measure => simp [intOf]; omega
    · obtain rfl : k = zn3 := by omega
      clear r2
      go_wp2
      have HB2 := hide hb.out
      clear hb
      go_loopw [118] (fun i ws => ∃ q : Nat, q ≤ (firedI t now).length ∧ i = .int .i64 (q : Int) ∧ Hid (Below wi.heap.size wi ws)) (fun i _ => (firedI t now).length - (intOf i).toNat)
      case atStart => exact ⟨0, by omega, rfl, HB2.out⟩
      case round =>
        obtain ⟨q, hq, rfl, hb⟩ := hrel
        have c0 := (BX13.out.below hz13.out hb.out).cell 0 _ rfl
        have z0 := (HZB13.out.below hzz13.out hb.out).cell 0 _ rfl
        by_cases hlt : q < (firedI t now).length
        · obtain ⟨i, hi⟩ : ∃ i, (firedI t now)[q]? = some i := ⟨_, List.getElem?_eq_getElem hlt⟩
          have hii := firedI_in HG.out now i (List.mem_of_getElem? hi)
          obtain ⟨m, rfl⟩ := Int.eq_ofNat_of_zero_le hii.1
          have hml : m < l.length := by omega
          obtain ⟨p, hp⟩ : ∃ p, l[m]? = some p := ⟨_, List.getElem?_eq_getElem hml⟩
          have hP := fireAll_at (r := r) (fun j hj => (firedI_in HG.out now j hj).1) HND.out (List.mem_of_getElem? hi) hp
          obtain ⟨xb, xo, rfl, xr⟩ := (HZC.out.below hb.out).at ci1 (by decide) hi
          have x0 := xr 0 _ rfl
          simp only [Nat.add_zero, Nat.mul_one] at x0
          obtain ⟨lb, lo, rfl, hr1⟩ := (HS.out.below (chain B13.out hb.out)).at pro21 (by decide) hp
          have l19 := hr1 19 _ rfl
          obtain ⟨pb, po, rfl, hr2⟩ := (HZP.out.below hb.out).at pro21 (by decide) hP
          have z17 := hr2 17 (.int .i64 1) rfl
          have z1 := hr2 1 (.int .u32 (lateR p)) rfl
          have hm0 : (0 : Int) ≤ (m : Int) := by omega
          have hmp1 : (m : Int) < (pn : Int) := by rw [← HL.out]; exact hii.2
          have hmz1 : (m : Int) < (zn1 : Int) := by rw [HLP.out, ← HL.out]; exact hii.2
          have dm1 : decide ((m : Int) < 0) = false := decide_eq_false (by omega)
          have dm2 : decide ((pn : Int) ≤ (m : Int)) = false := decide_eq_false (by omega)
          have dm3 : decide ((zn1 : Int) ≤ (m : Int)) = false := decide_eq_false (by omega)
          have hq1 : (q : Int) < ((firedI t now).length : Int) := by omega
          have HB1 := hide hb.out
          clear hr1 hr2 xr hi hp hP hii hml
          by_cases hw : p.wait = 1
          · have d1 : (p.wait == 1) = true := by simp [hw]
            rw [show lateR p = 0 from if_pos hw] at z1
            clear hw
            go_wp2
            go_roundw
            case rel => exact ⟨q + 1, by omega, by go_num, HB1.out⟩
            case measure => simp [intOf]; omega
          · have d1 : (p.wait == 1) = false := by simp [hw]
            rw [show lateR p = 4294967294 from if_neg hw] at z1
            clear hw
            go_wp2
            go_roundw
            case rel => exact ⟨q + 1, by omega, by go_num, HB1.out⟩
            case measure => simp [intOf]; omega
        · obtain rfl : q = (firedI t now).length := by omega
          go_wp2
          go_ret
          exact ⟨rfl, chain B13.out hb.out⟩

theorem law (pa : Option Addr) (pn pc : Nat) (l : List Pro) (ra : Option Addr) (rn rc : Nat) (r : List Int) (ta : Option Addr) (tn tc : Nat) (t : List Tm) (now later : Int) (w : World) {E : Nat → Addr} (he : Errs w E) (hp : Pros w pa pn pc l) (hr : Is w ra rn rc r) (ht : Tms w ta tn tc t) (hmp : pn ≤ 9223372036854775807) (hmr : rn ≤ 9223372036854775807) (hmt : tn ≤ 9223372036854775807) :
    Calls Tryd.prog 7 #[.agg #[.slice pa pn pc, .slice ra rn rc, .slice ta tn tc], .int .i64 now, .int .i64 later] w fun e w' => e = .returned (.bool true) ∧ Below w.heap.size w w' := by
  by_cases h : now ≤ later
  · exact lawA pa pn pc l ra rn rc r ta tn tc t now later w he hp hr ht hmp hmr hmt h
  · exact lawB pa pn pc l ra rn rc r ta tn tc t now later w he hp hr ht hmp hmr hmt (by omega)
end Go.Proofs.YtcfkngkenkbkaaaDoor.readyFires
