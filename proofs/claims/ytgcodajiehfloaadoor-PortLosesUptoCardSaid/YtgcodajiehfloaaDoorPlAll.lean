/-
  Lists of plans and ports: checkAll of the program.
-/
import Derived.Test.YtgcodajiehfloaaDoorPlAll0
namespace Go.Proofs.YtgcodajiehfloaaDoor
open Go.RowKit
set_option linter.unusedVariables false
set_option linter.unusedSimpArgs false

theorem at_err {w : World} {E : Nat → Addr} {i : Nat} {p : Int} (h1 : 1 ≤ i) (h2 : i ≤ 20) (t : TypeId) : IsErr (w.alloc (.cells #[.int .i64 p, sent (E i)] t)) E (.iface 78 (.pointer (some ⟨w.heap.size, 0, none⟩))) i p :=
  .inr (.inr ⟨h1, h2, w.heap.size, 0, rfl, by rw [World.cell?_alloc_at _ _ _ _ rfl]; rfl, by rw [World.cell?_alloc_at _ _ _ _ rfl]; rfl⟩)

structure Pls (w : World) (b : Nat) (k s d r : Int) : Prop where
  c0 : w.cell? ⟨b, 0, none⟩ = some (.int .i64 k)
  c1 : w.cell? ⟨b, 1, none⟩ = some (.int .i64 s)
  c2 : w.cell? ⟨b, 2, none⟩ = some (.int .i64 d)
  c3 : w.cell? ⟨b, 3, none⟩ = some (.int .i64 r)
theorem Pls.below {w w' : World} {b : Nat} {k s d r : Int} (h : Pls w b k s d r) (hb : Below w.heap.size w w') : Pls w' b k s d r :=
  ⟨cell_below h.c0 hb, cell_below h.c1 hb, cell_below h.c2 hb, cell_below h.c3 hb⟩
theorem pls_alloc (w : World) (k s d r : Int) : Pls (w.alloc (.cells #[.int .i64 k, .int .i64 s, .int .i64 d, .int .i64 r] 23)) w.heap.size k s d r :=
  ⟨by rw [World.cell?_alloc_at _ _ _ _ rfl]; rfl, by rw [World.cell?_alloc_at _ _ _ _ rfl]; rfl, by rw [World.cell?_alloc_at _ _ _ _ rfl]; rfl, by rw [World.cell?_alloc_at _ _ _ _ rfl]; rfl⟩

set_option maxRecDepth 100000 in
set_option maxHeartbeats 4000000 in
theorem checkAll_any {w : World} {E : Nat → Addr} (he : Errs w E) (a : Option Addr) (len cap : Nat) (ps : List Plv) (a' : Option Addr) (len' cap' : Nat) (l : List Pr) (hs : Rcs Plv.cells 4 w a len cap ps) (hs' : Prs w a' len' cap' l) (hm : len ≤ 1048576) (hm' : len' ≤ 1048576) :
    Calls Tryd.prog 19 #[.slice a len cap, .slice a' len' cap'] w fun e w' => ∃ v, e = .returned v ∧ IsErr w' E v (allE ps (l.map Pr.key)).1 (allE ps (l.map Pr.key)).2 ∧ Below w.heap.size w w' := by
  have HE := hide he
  have HS := hide hs
  have HS' := hide hs'
  have hl := hs.size
  have hl' := hs'.rcs.size
  clear he hs hs'
  by_cases hq : len = len'
  case neg =>
    have hd : ((len : Int) != (len' : Int)) = true := by simp; omega
    have HA := hide (allE_len (ps := ps) (ks := l.map Pr.key) (by simp; omega))
    have v12 := HE.out.v12
    go_enter Tryd.func19, Tryd.ntmps19
    go_wp2
    go_ret
    exact ⟨_, rfl, by rw [HA.out]; exact .inr (.inl ⟨by decide, by decide, rfl, rfl⟩), Below.refl _ _⟩
  subst hq
  have HLL : Hid (ps.length = (l.map Pr.key).length) := by unfold Hid; rw [List.length_map, hl, hl']
  go_enter Tryd.func19, Tryd.ntmps19
  go_wp2
  go_loopw [17] (fun i wr => ∃ k : Nat, k ≤ len ∧ i = .int .i64 (k : Int) ∧ Hid (∀ j q, j < k → ps[j]? = some q → q.err = 0) ∧ Hid (Below w.heap.size w wr)) (fun i _ => len - (intOf i).toNat)
  case atStart => exact ⟨0, by omega, rfl, fun j q hj => by omega, Below.refl _ _⟩
  case round =>
    obtain ⟨k, hk, rfl, hall, hb⟩ := hrel
    by_cases hlt : k < len
    · obtain ⟨p, hp⟩ : ∃ p, ps[k]? = some p := ⟨_, List.getElem?_eq_getElem (by rw [hl]; exact hlt)⟩
      obtain ⟨b, off, rfl, hr⟩ := (HS.out.below hb.out).at plv4 (by decide) hp
      have HP := hide hp
      have r0 := hr 0 _ rfl
      have r1 := hr 1 _ rfl
      have r2 := hr 2 _ rfl
      have r3 := hr 3 _ rfl
      simp only [Nat.add_zero] at r0
      clear hr hp
      have HER : Hid (p.err = planErr p.k p.s p.d p.r) := rfl
      generalize p.k = kk at *
      generalize p.s = ss at *
      generalize p.d = dd at *
      generalize p.r = rr at *
      have HB1 := hide (chain hb.out ((Below.refl wr.heap.size wr).alloc (Nat.le_refl _) (.cells #[.int .i64 kk, .int .i64 ss, .int .i64 dd, .int .i64 rr] 23)))
      go_wp2_with fail
      generalize wr.alloc (.cells #[.int .i64 kk, .int .i64 ss, .int .i64 dd, .int .i64 rr] 23) = W1 at *
      refine Calls.mono (checkPlan_any (HE.out.below HB1.out) kk ss dd rr) ?_
      rintro e w2 ⟨v, rfl, hv, b2⟩
      have HB2 := hide (chain HB1.out b2)
      clear b2 r0 r1 r2 r3
      rcases hv with ⟨rfl, h0⟩ | ⟨h1, h2, rfl⟩
      · go_wp2
        go_roundw
        case rel =>
          refine ⟨k + 1, by omega, by go_num, fun j q hj hq => ?_, HB2.out⟩
          by_cases e : j = k
          · subst e
            rw [HP.out] at hq
            obtain rfl := Option.some.inj hq
            rw [HER.out]
            exact h0
          · exact hall.out j q (by omega) hq
        case measure => simp [intOf]; omega
      · have v8 := (HE.out.below HB2.out).v8
        have HA := hide (allE_plan HLL.out (badPlan_at HP.out (by rw [HER.out]; omega) hall.out))
        unfold sent at v8 ⊢
        go_wp2
        go_ret
        exact ⟨_, rfl, by rw [HA.out]; exact at_err (by decide) (by decide) _, chain HB2.out ((Below.refl _ _).alloc (Nat.le_refl _) _)⟩
    · obtain rfl : k = len := by omega
      have HBP := hide (badPlan_no (ps := ps) (fun j q hj hq => hall.out j q (by rw [hl] at hj; exact hj) hq))
      clear hall hlt
      go_wp2
      go_loopw [33] (fun i wx => ∃ j : Nat, j ≤ k ∧ i = .int .i64 (j : Int) ∧ Hid (∀ t q y, t < j → ps[t]? = some q → (l.map Pr.key)[t]? = some y → fitK q y = true) ∧ Hid (Below w.heap.size w wx)) (fun i _ => k - (intOf i).toNat)
      case atStart => exact ⟨0, by omega, rfl, fun t q y ht => by omega, hb.out⟩
      case round =>
        obtain ⟨j, hj, rfl, hall, hbx⟩ := hrel
        by_cases hlt : j < k
        · obtain ⟨p, hp⟩ : ∃ p, ps[j]? = some p := ⟨_, List.getElem?_eq_getElem (by rw [hl]; exact hlt)⟩
          obtain ⟨x, hx⟩ : ∃ x, l[j]? = some x := ⟨_, List.getElem?_eq_getElem (by rw [hl']; exact hlt)⟩
          obtain ⟨b, off, rfl, hr⟩ := (HS.out.below hbx.out).at plv4 (by decide) hp
          obtain ⟨b', off', rfl, hr'⟩ := (HS'.out.below hbx.out).rcs.at pr2 (by decide) hx
          have HXS := hide ((HS'.out.below hbx.out).shows_ x (List.mem_of_getElem? hx))
          have HP := hide hp
          have HX : Hid ((l.map Pr.key)[j]? = some x.key) := by unfold Hid; rw [List.getElem?_map, hx]; rfl
          have r0 := hr 0 _ rfl
          have r1 := hr 1 _ rfl
          have r2 := hr 2 _ rfl
          have r3 := hr 3 _ rfl
          have s0 := hr' 0 _ rfl
          have s1 := hr' 1 _ rfl
          simp only [Nat.add_zero] at r0 s0
          clear hr hr' hp hx
          have HER : Hid (fitK p x.key = fitB p.k p.s p.d x.msgs x.age) := rfl
          have hsn : Sts wr x.a x.msgs.length x.cap x.msgs := HXS.out
          have HSN := hide hsn
          clear hsn HXS
          generalize p.k = kk at *
          generalize p.s = ss at *
          generalize p.d = dd at *
          generalize p.r = rr at *
          have HB1 := hide ((Below.refl wr.heap.size wr).alloc (Nat.le_refl _) (.cells #[.int .i64 kk, .int .i64 ss, .int .i64 dd, .int .i64 rr] 23))
          have t0 := cell_below s0 HB1.out
          have t1 := cell_below s1 HB1.out
          have PL := hide (pls_alloc wr kk ss dd rr)
          go_wp2_with fail
          generalize wr.alloc (.cells #[.int .i64 kk, .int .i64 ss, .int .i64 dd, .int .i64 rr] 23) = W1 at *
          go_region_held3 (fun wz => wz.cell? ⟨wr.heap.size, 0, none⟩ = some (.int .i64 kk) ∧ wz.cell? ⟨wr.heap.size, 1, none⟩ = some (.int .i64 ss) ∧ wz.cell? ⟨wr.heap.size, 2, none⟩ = some (.int .i64 dd) ∧ wz.cell? ⟨wr.heap.size, 3, none⟩ = some (.int .i64 rr) ∧ wz.cell? ⟨b', off' + j * 2, none⟩ = some (.slice x.a x.msgs.length x.cap) ∧ wz.cell? ⟨b', off' + j * 2 + 1, none⟩ = some (.int .i64 x.age))
            (first | exact ⟨PL.out.c0, PL.out.c1, PL.out.c2, PL.out.c3, t0, t1⟩ | (have q := PL.out.below B5.out; exact ⟨q.c0, q.c1, q.c2, q.c3, cell_below t0 B5.out, cell_below t1 B5.out⟩))
            ((go_at_call 39; refine (fits_any kk ss dd rr x.age x.a x.msgs.length x.cap x.msgs _ (HSN.out.below (chain HB1.out ((Below.refl _ _).drew)))).mono ?_; rintro e w5 ⟨rfl, b5⟩; have B5 := hide (undrew b5); clear b5))
          rename_i hheld
          clear hheld r0 r1 r2 r3 s0 s1 t0 t1
          have HB5 := hide (chain hbx.out (chain HB1.out B5.out))
          cases hf : fitB kk ss dd x.msgs x.age
          · have v9 := (HE.out.below HB5.out).v9
            have HA := hide (allE_port HLL.out HBP.out (badPort_at HP.out HX.out (by rw [HER.out]; exact hf) hall.out))
            unfold sent at v9
            go_wp2
            go_ret
            exact ⟨_, rfl, by rw [HA.out]; exact at_err (by decide) (by decide) _, chain HB5.out ((Below.refl _ _).alloc (Nat.le_refl _) _)⟩
          · go_wp2
            go_roundw
            case rel =>
              refine ⟨j + 1, by omega, by go_num, fun t q y ht hq hy => ?_, HB5.out⟩
              by_cases e : t = j
              · subst e
                rw [HP.out] at hq
                rw [HX.out] at hy
                obtain rfl := Option.some.inj hq
                obtain rfl := Option.some.inj hy
                rw [HER.out]
                exact hf
              · exact hall.out t q y (by omega) hq hy
            case measure => simp [intOf]; omega
        · obtain rfl : j = k := by omega
          have HBQ := hide (badPort_no (ps := ps) (ks := l.map Pr.key) (fun t q y ht hq hy => hall.out t q y (by rw [hl] at ht; exact ht) hq hy))
          have HA := hide (allE_no HLL.out HBP.out HBQ.out)
          clear hall hlt
          go_wp2
          go_ret
          exact ⟨_, rfl, by rw [HA.out]; exact .inl ⟨rfl, rfl, rfl⟩, hbx.out⟩
end Go.Proofs.YtgcodajiehfloaaDoor
