/-
  A frame's end, for all ports: the program's Emit.
-/
import Derived.Test.YtgcodajiehfloaaDoorPlArrive
namespace Go.Proofs.YtgcodajiehfloaaDoor
open Go.RowKit
set_option linter.unusedVariables false
set_option linter.unusedSimpArgs false

theorem partL_same {xs : List Key} {n k : Nat} (hn : xs.length = n) (hx : xs[k]? = some ([], 0)) : partL xs n (k + 1) = partL xs n k := by
  have hk : k < xs.length := (List.getElem?_eq_some_iff.1 hx).1
  unfold partL
  rw [List.take_add_one, hx, show n - k = (n - (k + 1)) + 1 by omega, List.replicate_succ]
  simp
def emL (k : Nat) (l : List ByteArray) : List Mgv := l.map fun d => ⟨(k : Int), d⟩
def endsK (ps : List Plv) (ks : List Key) : List Key := if (allE ps ks).1 = 0 then endAll ps ks else []
def emitK (ps : List Plv) (ks : List Key) : List Mgv := if (allE ps ks).1 = 0 then emit ps ks ps.length else []

set_option maxRecDepth 100000 in
set_option maxHeartbeats 4000000 in
theorem emit_any {w : World} {E : Nat → Addr} (he : Errs w E) (a : Option Addr) (len cap : Nat) (ps : List Plv) (a' : Option Addr) (len' cap' : Nat) (l : List Pr) (hs : Rcs Plv.cells 4 w a len cap ps) (hs' : Prs w a' len' cap' l)
    (hm : len ≤ 1048576) (hm' : len' ≤ 1048576) :
    Calls Tryd.prog 12 #[.slice a len cap, .slice a' len' cap'] w fun e w' => ∃ x r v, e = .returned (.tuple #[x, r, v]) ∧ IsErr w' E v (allE ps (l.map Pr.key)).1 (allE ps (l.map Pr.key)).2 ∧ (∃ l', PrOwn w' w.heap.size x l' ∧ l'.map Pr.key = endsK ps (l.map Pr.key)) ∧
      w'.ownsRow w.heap.size 53 2 r (emitK ps (l.map Pr.key)).length ((emitK ps (l.map Pr.key)).flatMap Mgv.cells) ∧ Below w.heap.size w w' := by
  have HE := hide he
  have HS := hide hs
  have HS' := hide hs'
  have hl := hs.size
  have hl' := hs'.rcs.size
  have HI := hide infoPort
  have HR := hide infoMsg
  clear he hs hs'
  go_enter Tryd.func12, Tryd.ntmps12
  go_wp2_with fail
  refine Calls.mono (checkAll_any HE.out a len cap ps a' len' cap' l HS.out HS'.out hm hm') ?_
  rintro e w1 ⟨v, rfl, hv, b1⟩
  have B1 := hide b1
  have V1 := hide hv
  clear b1 hv
  have bad : ∀ T : TypeId, ∀ P : Value, v = .iface T P → ¬ (allE ps (l.map Pr.key)).1 = 0 → Hid (endsK ps (l.map Pr.key) = [] ∧ emitK ps (l.map Pr.key) = []) := fun T P _ h => ⟨by unfold endsK; rw [if_neg h], by unfold emitK; rw [if_neg h]⟩
  rcases V1.out with ⟨rfl, h0, h0'⟩ | ⟨h1, h2, e, h3⟩ | ⟨h1, h2, b, o, e, h3, h4⟩
  · obtain ⟨hle, hbp, hbq⟩ := allE_zero h0
    have hll : len = len' := by rw [List.length_map] at hle; omega
    subst hll
    have HBP := hide hbp
    have HBQ := hide hbq
    have HEN : Hid (endsK ps (l.map Pr.key) = endAll ps (l.map Pr.key)) := by unfold Hid endsK; rw [if_pos h0]
    have HEM : Hid (emitK ps (l.map Pr.key) = emit ps (l.map Pr.key) len) := by unfold Hid emitK; rw [if_pos h0, hl]
    have HAL := hide (endAll_len hle)
    have hGw : w.heap.size ≤ w1.heap.size := B1.out.size
    have HLE := hide hle
    have H0 := hide h0
    have H0' := hide h0'
    clear hbp hbq hle h0 h0' V1 bad
    go_wp2_with (obtain ⟨i, z, hi, hz, hsz, hby, hzs⟩ := HI.out; refine wpList_make_full w1 rfl (.tmp 21) (.tmp 21) 28 rfl w.heap.size 26 i z 2 Tryd.underlying28 hi hz hsz .i64 .i64 (len : Int) (len : Int) len rfl rfl rfl rfl (by rw [hby]; omega) (by unfold maxLen; omega) B1.out.size ?_; have hzp := zeroPort hi hz; clear hi hz hsz hby hzs; intro w2 ho2 hg2; replace ho2 := prown_made hzp ho2; clear hzp)
    have hG : w1.heap.size < w2.heap.size := (ho2.row.lt w1.heap.size rfl).2
    have O2 := hide ho2
    have B2 := hide (B1.out.grown hg2 B1.out.size (fun k hk => by simp at hk))
    clear ho2 hg2
    go_loopw [9, 25] (fun r i wr => ∃ (k : Nat) (L : List Pr), k ≤ len ∧ i = .int .i64 (k : Int) ∧ L.length = len ∧ Hid (PrOwn wr w.heap.size (.slice (some ⟨w1.heap.size, 0, none⟩) len len) L) ∧ Hid (L.map Pr.key = partL (endAll ps (l.map Pr.key)) len k) ∧ Hid (wr.ownsRow w.heap.size 53 2 r (emit ps (l.map Pr.key) k).length ((emit ps (l.map Pr.key) k).flatMap Mgv.cells)) ∧ Hid (PrOff r.ownBlock (.slice (some ⟨w1.heap.size, 0, none⟩) len len) L) ∧ Hid (Below w.heap.size w wr)) (fun _ i _ => len - (intOf i).toNat)
    case atStart => exact ⟨0, _, by omega, rfl, by simp, O2.out, by unfold Hid partL; simp [zpr, Pr.key], World.ownsRow_nil _ _ _ _, PrOff.none_ _, B2.out⟩
    case round =>
      obtain ⟨k, L, hk, rfl, hL, hown, hkey, hrep, hoff, hb⟩ := hrel
      by_cases hlt : k < len
      · obtain ⟨p, hp⟩ : ∃ p, ps[k]? = some p := ⟨_, List.getElem?_eq_getElem (by rw [hl]; exact hlt)⟩
        obtain ⟨x, hx⟩ : ∃ x, l[k]? = some x := ⟨_, List.getElem?_eq_getElem (by rw [hl']; exact hlt)⟩
        obtain ⟨y, hy⟩ : ∃ y, L[k]? = some y := ⟨_, List.getElem?_eq_getElem (by rw [hL]; exact hlt)⟩
        have HX : Hid ((l.map Pr.key)[k]? = some x.key) := by unfold Hid; rw [List.getElem?_map, hx]; rfl
        have hfl : x.msgs.length ≤ 8 := (fit_len (good_plan HBP.out hp) (good_port HBQ.out hp HX.out)).1
        have hel := emit_len (ps := ps) (ks := l.map Pr.key) HBP.out HBQ.out k
        have HAT := hide (endAll_at hp HX.out)
        have HEA := hide (emit_at hp HX.out)
        obtain ⟨b, off, rfl, hr⟩ := (HS.out.below hb.out).at plv4 (by decide) hp
        obtain ⟨b', off', rfl, hr'⟩ := (HS'.out.below hb.out).rcs.at pr2 (by decide) hx
        have hsx : Sts wr x.a x.msgs.length x.cap x.msgs := (HS'.out.below hb.out).shows_ x (List.mem_of_getElem? hx)
        have HSX := hide hsx
        have HSW : Hid (Sts w x.a x.msgs.length x.cap x.msgs) := HS'.out.shows_ x (List.mem_of_getElem? hx)
        have HY := hide hy
        have s0 := hr' 0 _ rfl
        have s1 := hr' 1 _ rfl
        have r0 := hr 0 _ rfl
        have r1 := hr 1 _ rfl
        have r2 := hr 2 _ rfl
        have r3 := hr 3 _ rfl
        simp only [Nat.add_zero] at r0 s0
        clear hr hr' hp hx hy hsx
        have HEND : Hid (endK p x.key = if kin p.k = true then (x.msgs, x.age) else ([], 0)) := rfl
        have HEMK : Hid (emK k p x.key = if kin p.k = true then [] else x.msgs.map fun d => ⟨(k : Int), d⟩) := rfl
        rw [HEND.out] at HAT
        rw [HEMK.out] at HEA
        generalize p.k = kk at *
        generalize p.s = ss at *
        generalize p.d = dd at *
        generalize p.r = rr at *
        have BQ := hide (new_below' wr (.cells #[.slice x.a x.msgs.length x.cap, .int .i64 x.age] 26))
        have TQ := hide (two_alloc wr (.slice x.a x.msgs.length x.cap) (.int .i64 x.age) 26)
        have q0 := cell_below r0 BQ.out
        have q1 := cell_below r1 BQ.out
        have q2 := cell_below r2 BQ.out
        have q3 := cell_below r3 BQ.out
        have hq1 : (k : Int) < (len : Int) := by omega
        clear r0 r1 r2 r3
        go_wp2_with fail
        generalize wr.alloc (.cells #[.slice x.a x.msgs.length x.cap, .int .i64 x.age] 26) = WQ at *
        refine Calls.mono (isIn_any kk ss dd rr WQ) ?_
        rintro e w4 ⟨rfl, b4⟩
        have B4 := hide (chain BQ.out b4)
        have T4 := hide (TQ.out.below b4)
        have D4 := hide (chain hb.out B4.out)
        have O4 := hide (hown.out.below B4.out)
        have R4 := hide (ownsRow_below hrep.out B4.out)
        clear b4 q0 q1 q2 q3 s0 s1 BQ TQ HEND HEMK
        cases hkin : kin kk
        · rw [hkin] at HAT HEA
          have HKS : Hid (L.map Pr.key = partL (endAll ps (l.map Pr.key)) len (k + 1)) := by
            unfold Hid
            rw [hkey.out, partL_same (HAL.out.trans hl) HAT.out]
          have t0 := T4.out.c0
          obtain ⟨W, hW⟩ : ∃ W, W = wr := ⟨_, rfl⟩
          subst hW
          go_wp2
          clear t0 hown hrep
          go_loopw [9, 43] (fun r i wx => ∃ t : Nat, t ≤ x.msgs.length ∧ i = .int .i64 (t : Int) ∧ Hid (PrOwn wx w.heap.size (.slice (some ⟨w1.heap.size, 0, none⟩) len len) L) ∧ Hid (wx.ownsRow w.heap.size 53 2 r (emit ps (l.map Pr.key) k ++ emL k (x.msgs.take t)).length ((emit ps (l.map Pr.key) k ++ emL k (x.msgs.take t)).flatMap Mgv.cells)) ∧ Hid (PrOff r.ownBlock (.slice (some ⟨w1.heap.size, 0, none⟩) len len) L) ∧ Hid (Below w.heap.size w wx)) (fun _ i _ => x.msgs.length - (intOf i).toNat)
          case atStart => exact ⟨0, by omega, rfl, O4.out, by unfold Hid; simpa [emL] using R4.out, hoff.out, D4.out⟩
          case round =>
            clear hoff
            obtain ⟨t, ht, rfl, hown, hrep, hoff, hb2⟩ := hrel
            by_cases hlt2 : t < x.msgs.length
            · obtain ⟨sx, hsx⟩ : ∃ sx, x.msgs[t]? = some sx := ⟨_, List.getElem?_eq_getElem hlt2⟩
              obtain ⟨bs, os, hxa, hsc⟩ := (HSW.out.below hb2.out).cell hsx
              rw [hxa]
              have HTK : Hid (emL k (x.msgs.take (t + 1)) = emL k (x.msgs.take t) ++ [⟨(k : Int), sx⟩]) := by
                unfold Hid emL
                rw [List.take_add_one, hsx]
                simp
              have BL := hide (new_below' wr (.cells #[.int .i64 (k : Int), .string sx] 53))
              have RL := hide (ownsRow_below hrep.out BL.out)
              have OL := hide (hown.out.below BL.out)
              have hln : (emit ps (l.map Pr.key) k ++ emL k (x.msgs.take t)).length ≤ 8 * k + 8 := by
                unfold emL
                rw [List.length_append, List.length_map, List.length_take]
                omega
              have HXA := hide hxa
              clear hsx hxa
              go_wp2_with (at_builtin; refine append_rec rfl (.tmp 47) (.tmp 51) 29 53 rfl Tryd.underlying29 HR.out (by decide) w.heap.size _ _ _ rfl RL.out wr.heap.size 1 (Mgv.cells ⟨(k : Int), sx⟩) rfl rfl (fun i u hu => by rw [World.cell?_alloc_at _ _ _ _ rfl]; simpa [Mgv.cells] using hu) (fun u hu => mgv_one [⟨(k : Int), sx⟩] u (by simpa using hu)) (by unfold maxLen; omega) (by omega) (Nat.le_trans hb2.out.size BL.out.size) ?_; intro g6 c6 w6 ho6 hg6 hat6 hlt6)
              have O6 := hide (OL.out.grown hg6 hoff.out)
              have P6 := hide (PrOff.moved OL.out hoff.out hat6)
              have D6 := hide ((chain hb2.out BL.out).grown hg6 (chain hb2.out BL.out).size (fun k' hk' => (RL.out.lt k' hk').1))
              have R6 := hide ho6
              clear ho6 hg6 hat6
              refine ⟨⟨t + 1, by omega, by go_num, O6.out, ?_, P6.out, D6.out⟩, by simp [intOf]; omega⟩
              unfold Hid
              rw [HTK.out, ← List.append_assoc, List.length_append, List.flatMap_append]
              simpa using R6.out
            · obtain rfl : t = x.msgs.length := by omega
              have HEX : Hid (emit ps (l.map Pr.key) (k + 1) = emit ps (l.map Pr.key) k ++ emL k (x.msgs.take x.msgs.length)) := by
                unfold Hid
                rw [HEA.out, List.take_length]
                rfl
              clear hlt2
              go_wp2
              refine ⟨⟨k + 1, L, by omega, by go_num, hL, hown.out, HKS.out, by unfold Hid; rw [HEX.out]; exact hrep.out, hoff.out, hb2.out⟩, by simp [intOf]; omega⟩
        · rw [hkin] at HAT HEA
          have t0 := T4.out.c0
          have t1 := T4.out.c1
          go_wp2_with fail
          refine Calls.mono (copied_any x.a x.msgs.length x.cap x.msgs x.age w4 (HSX.out.below B4.out)) ?_
          rintro e w5 ⟨v5, rfl, o5, b5⟩
          obtain ⟨a5, c5, rfl, st5⟩ := o5.sts HSX.out.most HSX.out.small
          have hG4 : w1.heap.size < w4.heap.size := (O4.out.row.lt _ rfl).2
          have HQ : Hid ((⟨a5, c5, x.msgs, x.age⟩ : Pr).Shows w5) := st5
          have HF := hide (o5.off (g := w1.heap.size) (age := x.age) hG4)
          obtain ⟨⟨z0, hz0⟩, ⟨z1, hz1⟩, f0, f1, hput, hgr⟩ := (O4.out.below b5).put hL HY.out HQ.out HF.out
          have HPUT := hide hput
          have D5 := hide ((chain D4.out b5).grown hgr (chain D4.out b5).size (fun k' hk' => by simp at hk'; omega))
          have R5 := hide ((ownsRow_below R4.out b5).kept hgr hoff.out.ne)
          have P5 := hide (hoff.out.set (k := k) (q := ⟨a5, c5, x.msgs, x.age⟩) (by
            cases hb0 : u9.ownBlock with
            | none => exact off_none _
            | some g' => exact o5.off (g := g') (age := x.age) (R4.out.lt g' hb0).2))
          have HKF : Hid ((L.set k ⟨a5, c5, x.msgs, x.age⟩).map Pr.key = partL (endAll ps (l.map Pr.key)) len (k + 1)) := by
            unfold Hid
            rw [List.map_set, hkey.out, ← partL_next (HAL.out.trans hl) HAT.out]
            rfl
          have HEX : Hid (emit ps (l.map Pr.key) (k + 1) = emit ps (l.map Pr.key) k) := by
            unfold Hid
            rw [HEA.out]
            simp
          clear o5 b5 st5 hput hgr
          go_wp2
          go_roundw
          case rel => exact ⟨k + 1, _, by omega, by go_num, by rw [List.length_set]; exact hL, HPUT.out, HKF.out, by unfold Hid; rw [HEX.out]; exact R5.out, P5.out, D5.out⟩
          case measure => simp [intOf]; omega
      · obtain rfl : k = len := by omega
        have HK0 : Hid (L.map Pr.key = endAll ps (l.map Pr.key)) := by
          unfold Hid
          rw [hkey.out, partL_full (HAL.out.trans hl)]
        clear hlt hkey
        go_wp2
        go_ret3
        exact ⟨_, _, _, rfl, by rw [H0.out, H0'.out]; exact .inl ⟨rfl, rfl, rfl⟩, ⟨L, hown.out, by rw [HEN.out]; exact HK0.out⟩, by rw [HEM.out]; exact hrep.out, hb.out⟩
  · subst e
    have HA := (bad _ _ rfl (by omega)).out
    have HA2 := hide HA
    clear HA bad
    unfold sent at V1 ⊢
    go_wp2
    go_ret3
    exact ⟨_, _, _, rfl, V1.out, ⟨[], prown_nil _ _, by rw [HA2.out.1]; rfl⟩, by rw [HA2.out.2]; exact World.ownsRow_nil _ _ _ _, B1.out⟩
  · subst e
    have HA := (bad _ _ rfl (by omega)).out
    have HA2 := hide HA
    clear HA bad h3 h4
    go_wp2
    go_ret3
    exact ⟨_, _, _, rfl, V1.out, ⟨[], prown_nil _ _, by rw [HA2.out.1]; rfl⟩, by rw [HA2.out.2]; exact World.ownsRow_nil _ _ _ _, B1.out⟩
end Go.Proofs.YtgcodajiehfloaaDoor
