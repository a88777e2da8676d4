/-
  Lists of plans and ports: what the document says against them.
-/
import Derived.Test.YtgcodajiehfloaaDoorPlAll
namespace Go.Proofs.YtgcodajiehfloaaDoor
open Go.RowKit
set_option linter.unusedVariables false
set_option linter.unusedSimpArgs false

theorem refNone_any (w : World) : Calls Tryd.prog 26 #[] w fun e w' => e = .returned (.agg #[.int .i64 0, .int .i64 (-1)]) ∧ Below w.heap.size w w' := by
  have T := hide (two_alloc w (.int .i64 0) (.int .i64 (-1)) 40)
  have D := hide ((Below.refl w.heap.size w).alloc (Nat.le_refl _) (.cells #[.int .i64 0, .int .i64 (-1)] 40))
  go_enter Tryd.func26, Tryd.ntmps26
  go_wp2
  generalize w.alloc (.cells #[.int .i64 0, .int .i64 (-1)] 40) = W at *
  have e0 := T.out.c0
  have e1 := T.out.c1
  refine bodyPost_ret (v := .agg #[.int .i64 0, .int .i64 (-1)]) (by simp [results, Tryd.results26, go_sem, e0, e1]) rfl ?_
  exact ⟨rfl, D.out⟩

set_option maxRecDepth 100000 in
set_option maxHeartbeats 4000000 in
theorem refAll_any {w : World} (a : Option Addr) (len cap : Nat) (ps : List Plv) (a' : Option Addr) (len' cap' : Nat) (l : List Pr) (hs : Rcs Plv.cells 4 w a len cap ps) (hs' : Prs w a' len' cap' l) (hm : len ≤ 1048576) (hm' : len' ≤ 1048576) :
    Calls Tryd.prog 23 #[.slice a len cap, .slice a' len' cap'] w fun e w' => e = .returned (.agg #[.int .i64 ((allE ps (l.map Pr.key)).1 : Int), .int .i64 (allE ps (l.map Pr.key)).2]) ∧ Below w.heap.size w w' := by
  have HS := hide hs
  have HS' := hide hs'
  have hl := hs.size
  have hl' := hs'.rcs.size
  clear hs hs'
  by_cases hq : len = len'
  case neg =>
    have hd : ((len : Int) != (len' : Int)) = true := by simp; omega
    have HA := hide (allE_len (ps := ps) (ks := l.map Pr.key) (by simp; omega))
    have T := hide (two_alloc w (.int .i64 12) (.int .i64 (-1)) 40)
    have D := hide ((Below.refl w.heap.size w).alloc (Nat.le_refl _) (.cells #[.int .i64 12, .int .i64 (-1)] 40))
    go_enter Tryd.func23, Tryd.ntmps23
    go_wp2
    generalize w.alloc (.cells #[.int .i64 12, .int .i64 (-1)] 40) = W at *
    have e0 := T.out.c0
    have e1 := T.out.c1
    refine bodyPost_ret (v := .agg #[.int .i64 12, .int .i64 (-1)]) (by simp [results, Tryd.results23, go_sem, e0, e1]) rfl ?_
    exact ⟨by rw [HA.out]; rfl, D.out⟩
  subst hq
  have HLL : Hid (ps.length = (l.map Pr.key).length) := by unfold Hid; rw [List.length_map, hl, hl']
  have T0 := hide (two_alloc w (.int .i64 0) (.int .i64 0) 40)
  have D0 := hide ((Below.refl w.heap.size w).alloc (Nat.le_refl _) (.cells #[.int .i64 0, .int .i64 0] 40))
  go_enter Tryd.func23, Tryd.ntmps23
  go_wp2
  generalize w.alloc (.cells #[.int .i64 0, .int .i64 0] 40) = W0 at *
  go_loopw [5] (fun i wr => ∃ k : Nat, k ≤ len ∧ i = .int .i64 (k : Int) ∧ Hid (∀ j q, j < k → ps[j]? = some q → q.err = 0) ∧ Hid (Below W0.heap.size W0 wr)) (fun i _ => len - (intOf i).toNat)
  case atStart => exact ⟨0, by omega, rfl, fun j q hj => by omega, Below.refl _ _⟩
  case round =>
    obtain ⟨k, hk, rfl, hall, hb⟩ := hrel
    by_cases hlt : k < len
    · obtain ⟨p, hp⟩ : ∃ p, ps[k]? = some p := ⟨_, List.getElem?_eq_getElem (by rw [hl]; exact hlt)⟩
      obtain ⟨b, off, rfl, hr⟩ := (HS.out.below (chain D0.out hb.out)).at plv4 (by decide) hp
      have HP := hide hp
      have r0 := hr 0 _ rfl
      have r1 := hr 1 _ rfl
      have r2 := hr 2 _ rfl
      have r3 := hr 3 _ rfl
      simp only [Nat.add_zero] at r0
      clear hr hp
      have HER : Hid (p.err = planErr p.k p.s p.d p.r) := rfl
      generalize p.k = kk at *
      generalize p.s = ss at *
      generalize p.d = dd at *
      generalize p.r = rr at *
      go_wp2_with fail
      refine Calls.mono (refCheckPlan_any kk ss dd rr wr) ?_
      rintro e w2 ⟨rfl, b2⟩
      have HB2 := hide (chain hb.out b2)
      clear b2 r0 r1 r2 r3
      by_cases h0 : planErr kk ss dd rr = 0
      · rw [h0]
        go_wp2
        go_roundw
        case rel =>
          refine ⟨k + 1, by omega, by go_num, fun j q hj hq => ?_, HB2.out⟩
          by_cases e : j = k
          · subst e
            rw [HP.out] at hq
            obtain rfl := Option.some.inj hq
            rw [HER.out]
            exact h0
          · exact hall.out j q (by omega) hq
        case measure => simp [intOf]; omega
      · have HA := hide (allE_plan HLL.out (badPlan_at HP.out (by rw [HER.out]; exact h0) hall.out))
        have hne : ((planErr kk ss dd rr : Int) != 0) = true := by simp; omega
        have TR := hide (T0.out.below HB2.out)
        have g0 := TR.out.c0
        have g1 := TR.out.c1
        have f0 := TR.out.f0
        have f1 := TR.out.f1
        clear h0
        generalize planErr kk ss dd rr = P at *
        go_wp2
        have Q3 := hide (TR.out.set (.int .i64 8) (.int .i64 (k : Int)))
        have D3 := hide (((chain D0.out HB2.out).setCell (p := ⟨w.heap.size, 0, none⟩) (Nat.le_refl _) (.int .i64 8)).setCell (p := ⟨w.heap.size, 1, none⟩) (Nat.le_refl _) (.int .i64 (k : Int)))
        generalize (w2.setCell ⟨w.heap.size, 0, none⟩ (.int .i64 8)).setCell ⟨w.heap.size, 1, none⟩ (.int .i64 (k : Int)) = W9 at *
        have e0 := Q3.out.c0
        have e1 := Q3.out.c1
        (try simp only [Exit.inBlock, Exit.then])
        refine bodyPost_ret (v := .agg #[.int .i64 8, .int .i64 (k : Int)]) (by simp [results, Tryd.results23, go_sem, e0, e1]) rfl ?_
        exact ⟨by rw [HA.out]; rfl, D3.out⟩
    · obtain rfl : k = len := by omega
      have HBP := hide (badPlan_no (ps := ps) (fun j q hj hq => hall.out j q (by rw [hl] at hj; exact hj) hq))
      clear hall hlt
      go_wp2
      go_loopw [6] (fun i wx => ∃ j : Nat, j ≤ k ∧ i = .int .i64 (j : Int) ∧ Hid (∀ t q y, t < j → ps[t]? = some q → (l.map Pr.key)[t]? = some y → fitK q y = true) ∧ Hid (Below W0.heap.size W0 wx)) (fun i _ => k - (intOf i).toNat)
      case atStart => exact ⟨0, by omega, rfl, fun t q y ht => by omega, hb.out⟩
      case round =>
        obtain ⟨j, hj, rfl, hall, hbx⟩ := hrel
        by_cases hlt : j < k
        · obtain ⟨p, hp⟩ : ∃ p, ps[j]? = some p := ⟨_, List.getElem?_eq_getElem (by rw [hl]; exact hlt)⟩
          obtain ⟨x, hx⟩ : ∃ x, l[j]? = some x := ⟨_, List.getElem?_eq_getElem (by rw [hl']; exact hlt)⟩
          obtain ⟨b, off, rfl, hr⟩ := (HS.out.below (chain D0.out hbx.out)).at plv4 (by decide) hp
          obtain ⟨b', off', rfl, hr'⟩ := (HS'.out.below (chain D0.out hbx.out)).rcs.at pr2 (by decide) hx
          have HXS := hide ((HS'.out.below (chain D0.out hbx.out)).shows_ x (List.mem_of_getElem? hx))
          have HP := hide hp
          have HX : Hid ((l.map Pr.key)[j]? = some x.key) := by unfold Hid; rw [List.getElem?_map, hx]; rfl
          have r0 := hr 0 _ rfl
          have r1 := hr 1 _ rfl
          have r2 := hr 2 _ rfl
          have r3 := hr 3 _ rfl
          have s0 := hr' 0 _ rfl
          have s1 := hr' 1 _ rfl
          simp only [Nat.add_zero] at r0 s0
          clear hr hr' hp hx
          have HER : Hid (fitK p x.key = fitB p.k p.s p.d x.msgs x.age) := rfl
          have hsn : Sts wr x.a x.msgs.length x.cap x.msgs := HXS.out
          have HSN := hide hsn
          clear hsn HXS
          generalize p.k = kk at *
          generalize p.s = ss at *
          generalize p.d = dd at *
          generalize p.r = rr at *
          go_wp2_with fail
          go_region_held3 (fun wz => wz.cell? ⟨b, off + j * 4, none⟩ = some (.int .i64 kk) ∧ wz.cell? ⟨b, off + j * 4 + 1, none⟩ = some (.int .i64 ss) ∧ wz.cell? ⟨b, off + j * 4 + 2, none⟩ = some (.int .i64 dd) ∧ wz.cell? ⟨b, off + j * 4 + 3, none⟩ = some (.int .i64 rr) ∧ wz.cell? ⟨b', off' + j * 2, none⟩ = some (.slice x.a x.msgs.length x.cap) ∧ wz.cell? ⟨b', off' + j * 2 + 1, none⟩ = some (.int .i64 x.age))
            (first | exact ⟨r0, r1, r2, r3, s0, s1⟩ | exact ⟨cell_below r0 B5.out, cell_below r1 B5.out, cell_below r2 B5.out, cell_below r3 B5.out, cell_below s0 B5.out, cell_below s1 B5.out⟩)
            ((go_at_call 42; refine (refFits_any kk ss dd rr x.age x.a x.msgs.length x.cap x.msgs _ (HSN.out.below ((Below.refl _ _).drew))).mono ?_; rintro e w5 ⟨rfl, b5⟩; have B5 := hide (undrew b5); clear b5))
          rename_i hheld
          clear hheld r0 r1 r2 r3 s0 s1
          have HB5 := hide (chain hbx.out B5.out)
          cases hf : fitB kk ss dd x.msgs x.age
          · have HA := hide (allE_port HLL.out HBP.out (badPort_at HP.out HX.out (by rw [HER.out]; exact hf) hall.out))
            have TR := hide (T0.out.below HB5.out)
            have g0 := TR.out.c0
            have g1 := TR.out.c1
            have f0 := TR.out.f0
            have f1 := TR.out.f1
            go_wp2
            have Q3 := hide (TR.out.set (.int .i64 9) (.int .i64 (j : Int)))
            have D3 := hide (((chain D0.out HB5.out).setCell (p := ⟨w.heap.size, 0, none⟩) (Nat.le_refl _) (.int .i64 9)).setCell (p := ⟨w.heap.size, 1, none⟩) (Nat.le_refl _) (.int .i64 (j : Int)))
            generalize (w5.setCell ⟨w.heap.size, 0, none⟩ (.int .i64 9)).setCell ⟨w.heap.size, 1, none⟩ (.int .i64 (j : Int)) = W9 at *
            have e0 := Q3.out.c0
            have e1 := Q3.out.c1
            (try simp only [Exit.inBlock, Exit.then])
            refine bodyPost_ret (v := .agg #[.int .i64 9, .int .i64 (j : Int)]) (by simp [results, Tryd.results23, go_sem, e0, e1]) rfl ?_
            exact ⟨by rw [HA.out]; rfl, D3.out⟩
          · go_wp2
            go_roundw
            case rel =>
              refine ⟨j + 1, by omega, by go_num, fun t q y ht hq hy => ?_, HB5.out⟩
              by_cases e : t = j
              · subst e
                rw [HP.out] at hq
                rw [HX.out] at hy
                obtain rfl := Option.some.inj hq
                obtain rfl := Option.some.inj hy
                rw [HER.out]
                exact hf
              · exact hall.out t q y (by omega) hq hy
            case measure => simp [intOf]; omega
        · obtain rfl : j = k := by omega
          have HBQ := hide (badPort_no (ps := ps) (ks := l.map Pr.key) (fun t q y ht hq hy => hall.out t q y (by rw [hl] at ht; exact ht) hq hy))
          have HA := hide (allE_no HLL.out HBP.out HBQ.out)
          clear hall hlt
          go_wp2_with fail
          refine Calls.mono (refNone_any wr) ?_
          rintro e w2 ⟨rfl, b2⟩
          have TR := hide (T0.out.below (chain hbx.out b2))
          have DR := hide (chain D0.out (chain hbx.out b2))
          have g0 := TR.out.c0
          have g1 := TR.out.c1
          have f0 := TR.out.f0
          have f1 := TR.out.f1
          clear b2
          go_wp2
          have Q3 := hide (TR.out.set (.int .i64 0) (.int .i64 (-1)))
          have D3 := hide ((DR.out.setCell (p := ⟨w.heap.size, 0, none⟩) (Nat.le_refl _) (.int .i64 0)).setCell (p := ⟨w.heap.size, 1, none⟩) (Nat.le_refl _) (.int .i64 (-1)))
          generalize (w2.setCell ⟨w.heap.size, 0, none⟩ (.int .i64 0)).setCell ⟨w.heap.size, 1, none⟩ (.int .i64 (-1)) = W9 at *
          have e0 := Q3.out.c0
          have e1 := Q3.out.c1
          (try simp only [Exit.inBlock, Exit.then])
          refine bodyPost_ret (v := .agg #[.int .i64 0, .int .i64 (-1)]) (by simp [results, Tryd.results23, go_sem, e0, e1]) rfl ?_
          exact ⟨by rw [HA.out]; rfl, D3.out⟩
end Go.Proofs.YtgcodajiehfloaaDoor
