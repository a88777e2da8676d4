/-
  A frame's end, for all ports: the document's Emit.
-/
import Derived.Test.YtgcodajiehfloaaDoorPlRArrive
import Derived.Test.YtgcodajiehfloaaDoorPlEmit
namespace Go.Proofs.YtgcodajiehfloaaDoor
open Go.RowKit
set_option linter.unusedVariables false
set_option linter.unusedSimpArgs false

theorem PrOff.snoc {w : World} {g n c : Nat} {u v : Value} {L : List Pr} {q : Pr} (ho : PrOff u.ownBlock v L) (hu : ∀ g', u.ownBlock = some g' → g' < w.heap.size) (hat : v.ownBlock = some g ∨ g = w.heap.size) (hq : q.off u.ownBlock) : PrOff u.ownBlock (.slice (some ⟨g, 0, none⟩) n c) (L ++ [q]) := by
  refine ⟨.inr fun e => ?_, fun p hp => ?_⟩
  · have e' : u.ownBlock = some g := e.symm
    rcases hat with h | rfl
    · rcases ho.row with h2 | h2
      · rw [h2] at h; cases h
      · exact h2 (h.trans e'.symm)
    · exact absurd (hu _ e') (Nat.lt_irrefl _)
  · rcases List.mem_append.1 hp with hp | hp
    · exact ho.each p hp
    · rw [List.mem_singleton.1 hp]; exact hq
theorem PrOff.back {u v : Value} {L : List Pr} (ho : PrOff u.ownBlock v L) : u.ownBlock = none ∨ u.ownBlock ≠ v.ownBlock := by
  rcases ho.row with h | h
  · cases hu : u.ownBlock with
    | none => exact .inl rfl
    | some g => exact .inr (by rw [h]; simp)
  · exact .inr (Ne.symm h)
theorem zpr_off (g : Option Nat) : zpr.off g := fun h => absurd rfl h
/-- append of one record as a step of a region that draws. -/
theorem step_rec {w : World} {ops : Array Oper} {o : Oper} {act : Act} {K : Act → World → Prop} {Q : Exit → Act → World → Prop} {EE : Prop} (hgd : o.guard = none) (s x : Operand) (t e : TypeId)
    (ho : o.op = .call { callee := .builtin .append, args := #[s, x], argTypes := #[t, t] }) (ht : Tryd.prog.underlying t = some (.slice e))
    {size bytes : Nat} (hi : ∃ i z, Tryd.prog.info? e = some i ∧ i.zero = some z ∧ i.size = size ∧ i.bytes = bytes ∧ z.cells.size = size) (h0 : 0 < size)
    (base : Nat) (v : Value) (n : Nat) (xs : List Value) (hs : act.eval s = v) (hown : w.ownsRow base e size v n xs)
    (g c : Nat) (cs : List Value) (hx : act.eval x = .slice (some ⟨g, 0, none⟩) 1 c) (hl : cs.length = size) (hc : ∀ j u, cs[j]? = some u → w.cell? ⟨g, j, none⟩ = some u) (one : ∀ u ∈ cs, u.oneCell' = true)
    (h63 : n + 1 ≤ maxLen) (hby : (n + 1) * bytes ≤ 140737488355328) (hbase : base ≤ w.heap.size)
    (h : ∀ g cap w', w'.ownsRow base e size (.slice (some ⟨g, 0, none⟩) (n + 1) cap) (n + 1) (xs ++ cs) → w.grownBy w' v.ownBlock → (v.ownBlock = some g ∨ g = w.heap.size) → g < w'.heap.size → K (act.put o.dst (.slice (some ⟨g, 0, none⟩) (n + 1) cap)) w') :
    if Region.wanted o (yielded ops act.tmps) = true then Oper.wp Tryd.prog o act w K Q else EE := by
  obtain ⟨i, z, hi, hz, hsz, hb, hzs⟩ := hi
  refine step_append_lies w hgd s x t ho base e i z size bytes ht hi hz hsz hb hzs h0 v n xs hs hown ⟨g, 0, none⟩ 1 c cs hx (by rw [hl, Nat.one_mul]) ?_ one (by decide) h63 hby hbase _ rfl h
  intro j u hu
  rw [add_lit', Nat.zero_add]
  exact hc j u hu

set_option maxRecDepth 100000 in
set_option maxHeartbeats 4000000 in
theorem refEmit_any {w : World} (a : Option Addr) (len cap : Nat) (ps : List Plv) (a' : Option Addr) (len' cap' : Nat) (l : List Pr) (hs : Rcs Plv.cells 4 w a len cap ps) (hs' : Prs w a' len' cap' l)
    (hm : len ≤ 1048576) (hm' : len' ≤ 1048576) :
    Calls Tryd.prog 13 #[.slice a len cap, .slice a' len' cap' ] w fun e w' => ∃ x r, e = .returned (.tuple #[x, r, .agg #[.int .i64 ((allE ps (l.map Pr.key)).1 : Int), .int .i64 (allE ps (l.map Pr.key)).2]]) ∧ (∃ l', PrOwn w' w.heap.size x l' ∧ l'.map Pr.key = endsK ps (l.map Pr.key)) ∧
      w'.ownsRow w.heap.size 53 2 r (emitK ps (l.map Pr.key)).length ((emitK ps (l.map Pr.key)).flatMap Mgv.cells) ∧ Below w.heap.size w w' := by
  have HS := hide hs
  have HS' := hide hs'
  have hl := hs.size
  have hl' := hs'.rcs.size
  have HI := hide infoPort
  have HR := hide infoMsg
  have T0 := hide (two_alloc w (.int .i64 0) (.int .i64 0) 40)
  have D0 := hide (new_below' w (.cells #[.int .i64 0, .int .i64 0] 40))
  have hz0 : w.heap.size < (w.alloc (.cells #[.int .i64 0, .int .i64 0] 40)).heap.size := by simp
  clear hs hs'
  go_enter Tryd.func13, Tryd.ntmps13
  go_wp2_with fail
  generalize w.alloc (.cells #[.int .i64 0, .int .i64 0] 40) = W0 at *
  refine Calls.mono (refAll_any a len cap ps a' len' cap' l (HS.out.below D0.out) (HS'.out.below D0.out) hm hm') ?_
  rintro e w1 ⟨rfl, b1⟩
  have D1 := hide (chain D0.out b1)
  have T1 := hide (T0.out.below b1)
  have hz1 : w.heap.size < w1.heap.size := Nat.lt_of_lt_of_le hz0 b1.size
  clear b1 T0 D0 hz0
  by_cases h0 : (allE ps (l.map Pr.key)).1 = 0
  case neg =>
    have HA : Hid (endsK ps (l.map Pr.key) = [] ∧ emitK ps (l.map Pr.key) = []) := ⟨by unfold endsK; rw [if_neg h0], by unfold emitK; rw [if_neg h0]⟩
    have hne : (((allE ps (l.map Pr.key)).1 : Int) != 0) = true := by simp; omega
    generalize hcc : (allE ps (l.map Pr.key)).1 = cc at *
    generalize hpp : (allE ps (l.map Pr.key)).2 = pp at *
    have HCC := hide hcc
    have HPP := hide hpp
    clear hcc hpp
    have TE := hide (two_alloc w1 (.int .i64 (cc : Int)) (.int .i64 pp) 40)
    have BE := hide (new_below' w1 (.cells #[.int .i64 (cc : Int), .int .i64 pp] 40))
    have T2 := hide (T1.out.below BE.out)
    clear h0
    go_wp2_with fail
    generalize w1.alloc (.cells #[.int .i64 (cc : Int), .int .i64 pp] 40) = WE at *
    have g0 := T2.out.c0
    have g1 := T2.out.c1
    have f0 := T2.out.f0
    have f1 := T2.out.f1
    go_region_held3 (fun wz => wz.cell? ⟨w1.heap.size, 0, none⟩ = some (.int .i64 (cc : Int)) ∧ wz.cell? ⟨w1.heap.size, 1, none⟩ = some (.int .i64 pp)) (first | exact ⟨TE.out.c0, TE.out.c1⟩ | (have q := (TE.out.far (b' := w.heap.size) (o := 0) (u := .int .i64 (cc : Int)) (by omega)).far (b' := w.heap.size) (o := 1) (u := .int .i64 pp) (by omega); exact ⟨q.c0, q.c1⟩)) (fail)
    rename_i hheld
    clear hheld
    go_wp2
    have Q3 := hide (T2.out.set (.int .i64 (cc : Int)) (.int .i64 pp))
    have D3 := hide (((chain D1.out BE.out).setCell (p := ⟨w.heap.size, 0, none⟩) (Nat.le_refl _) (.int .i64 (cc : Int))).setCell (p := ⟨w.heap.size, 1, none⟩) (Nat.le_refl _) (.int .i64 pp))
    generalize (WE.setCell ⟨w.heap.size, 0, none⟩ (.int .i64 (cc : Int))).setCell ⟨w.heap.size, 1, none⟩ (.int .i64 pp) = W9 at *
    have e0 := Q3.out.c0
    have e1 := Q3.out.c1
    (try simp only [Exit.inBlock, Exit.then])
    refine bodyPost_ret (v := .tuple #[.slice none 0 0, .slice none 0 0, .agg #[.int .i64 (cc : Int), .int .i64 pp]]) (by simp [results, Tryd.results13, go_sem, e0, e1]) rfl ?_
    exact ⟨_, _, by rw [HCC.out, HPP.out], ⟨[], prown_nil _ _, by rw [HA.out.1]; rfl⟩, by rw [HA.out.2]; exact World.ownsRow_nil _ _ _ _, D3.out.drew⟩
  have hE : allE ps (l.map Pr.key) = (0, -1) := by
    obtain ⟨h1, h2, h3⟩ := allE_zero h0
    exact allE_no h1 h2 h3
  obtain ⟨hle, hbp, hbq⟩ := allE_zero h0
  have hll : len = len' := by rw [List.length_map] at hle; omega
  subst hll
  have HBP := hide hbp
  have HBQ := hide hbq
  have HEN : Hid (endsK ps (l.map Pr.key) = endAll ps (l.map Pr.key)) := by unfold Hid endsK; rw [if_pos h0]
  have HEM : Hid (emitK ps (l.map Pr.key) = emit ps (l.map Pr.key) len) := by unfold Hid emitK; rw [if_pos h0, hl]
  have HAL := hide (endAll_len hle)
  rw [hE]
  have HE0 := hide hE
  have HLE := hide hle
  clear h0 hbp hbq hle hE
  have BE := hide (new_below' w1 (.cells #[.int .i64 0, .int .i64 (-1)] 40))
  have T2 := hide (T1.out.below BE.out)
  have D2 := hide (chain D1.out BE.out)
  have hz2 : w.heap.size < (w1.alloc (.cells #[.int .i64 0, .int .i64 (-1)] 40)).heap.size := Nat.lt_of_lt_of_le hz1 BE.out.size
  clear T1 D1
  go_wp2
  generalize w1.alloc (.cells #[.int .i64 0, .int .i64 (-1)] 40) = WE at *
  clear BE
  go_loopw [8, 9, 10] (fun o r i wr => ∃ (k : Nat) (L : List Pr), k ≤ len ∧ i = .int .i64 (k : Int) ∧ L.length = k ∧ Hid (PrOwn wr WE.heap.size o L) ∧ Hid (L.map Pr.key = (endAll ps (l.map Pr.key)).take k) ∧ Hid (wr.ownsRow WE.heap.size 53 2 r (emit ps (l.map Pr.key) k).length ((emit ps (l.map Pr.key) k).flatMap Mgv.cells)) ∧ Hid (PrOff r.ownBlock o L) ∧ Hid (∀ p ∈ L, p.off (some w.heap.size)) ∧ Hid (Below WE.heap.size WE wr)) (fun _ _ i _ => len - (intOf i).toNat)
  case atStart => exact ⟨0, [], by omega, rfl, rfl, prown_nil _ _, by unfold Hid; simp, World.ownsRow_nil _ _ _ _, PrOff.nope _ _, fun p hp => by simp at hp, Below.refl _ _⟩
  case round =>
    obtain ⟨k, L, hk, rfl, hL, hown, hkey, hrep, hoff, hofR, hb⟩ := hrel
    by_cases hlt : k < len
    · obtain ⟨p, hp⟩ : ∃ p, ps[k]? = some p := ⟨_, List.getElem?_eq_getElem (by rw [hl]; exact hlt)⟩
      obtain ⟨x, hx⟩ : ∃ x, l[k]? = some x := ⟨_, List.getElem?_eq_getElem (by rw [hl']; exact hlt)⟩
      have HX : Hid ((l.map Pr.key)[k]? = some x.key) := by unfold Hid; rw [List.getElem?_map, hx]; rfl
      have hfl : x.msgs.length ≤ 8 := (fit_len (good_plan HBP.out hp) (good_port HBQ.out hp HX.out)).1
      have hel := emit_len (ps := ps) (ks := l.map Pr.key) HBP.out HBQ.out k
      have HAT := hide (endAll_at hp HX.out)
      have HEA := hide (emit_at hp HX.out)
      obtain ⟨b, off, rfl, hr⟩ := (HS.out.below (chain D2.out hb.out)).at plv4 (by decide) hp
      obtain ⟨b', off', rfl, hr'⟩ := (HS'.out.below (chain D2.out hb.out)).rcs.at pr2 (by decide) hx
      have hbl := rcs_lt pr2 (by decide) HS'.out.rcs hx
      have HSW : Hid (Sts w x.a x.msgs.length x.cap x.msgs) := HS'.out.shows_ x (List.mem_of_getElem? hx)
      have hsl := HSW.out.size
      have r0 := hr 0 _ rfl
      have r1 := hr 1 _ rfl
      have r2 := hr 2 _ rfl
      have r3 := hr 3 _ rfl
      have s0 := hr' 0 _ rfl
      have s1 := hr' 1 _ rfl
      simp only [Nat.add_zero] at r0 s0
      obtain ⟨_, _, e0, hrw⟩ := HS'.out.rcs.at pr2 (by decide) hx
      simp only [Option.some.injEq, Addr.mk.injEq, and_true] at e0
      obtain ⟨rfl, rfl⟩ := e0
      have y0 := hrw 0 _ rfl
      simp only [Nat.add_zero] at y0
      have HY0 := hide y0
      clear hr hr' hp hx hrw y0
      have HEND : Hid (endK p x.key = if kin p.k = true then (x.msgs, x.age) else ([], 0)) := rfl
      have HEMK : Hid (emK k p x.key = if kin p.k = true then [] else emL k x.msgs) := rfl
      rw [HEND.out] at HAT
      rw [HEMK.out] at HEA
      generalize p.k = kk at *
      generalize p.s = ss at *
      generalize p.d = dd at *
      generalize p.r = rr at *
      have hq1 : (k : Int) < (len : Int) := by omega
      go_wp2_with fail
      refine Calls.mono (refIsIn_any kk ss dd rr wr) ?_
      rintro e w4 ⟨rfl, b4⟩
      have s2 := cell_below s0 b4
      have s3 := cell_below s1 b4
      have D4 := hide (chain hb.out b4)
      have O4 := hide (hown.out.below b4)
      have R4 := hide (ownsRow_below hrep.out b4)
      clear b4 r0 r1 r2 r3 s0 s1 HEND HEMK hown hrep
      cases hkin : kin kk
      · rw [hkin] at HAT HEA
        have HKN : Hid ((L ++ [zpr]).map Pr.key = (endAll ps (l.map Pr.key)).take (k + 1)) := by
          unfold Hid
          rw [List.map_append, hkey.out, List.take_add_one, HAT.out]
          rfl
        have HOR : Hid (∀ p ∈ L ++ [zpr], p.off (some w.heap.size)) := by
          intro q hq
          rcases List.mem_append.1 hq with hq | hq
          · exact hofR.out q hq
          · rw [List.mem_singleton.1 hq]; exact zpr_off _
        have BL := hide (new_below' w4 (.cells #[.slice none 0 0, .int .i64 0] 26))
        have OL := hide (O4.out.below BL.out)
        have RL := hide (ownsRow_below R4.out BL.out)
        have hLk : Hid (L.length = k) := hL
        go_upto_region 12 with (at_builtin; refine append_rec rfl (.tmp 46) (.tmp 48) 28 26 rfl Tryd.underlying28 HI.out (by decide) WE.heap.size _ L.length (L.flatMap Pr.cells) rfl OL.out.row w4.heap.size 1 zpr.cells rfl rfl (fun i u hu => by rw [World.cell?_alloc_at _ _ _ _ rfl]; simpa [Pr.cells, zpr] using hu) (fun u hu => pr_one [zpr] u (by simpa using hu)) (by unfold maxLen; omega) (by omega) (Nat.le_trans D4.out.size BL.out.size) ?_; intro g6 c6 w6 ho6 hg6 hat6 hlt6)
        have O6 := hide (OL.out.snoc (zpr_shows _) (zpr_off _) ho6 hg6 hat6)
        rw [hL] at O6
        have R6 := hide (RL.out.kept hg6 hoff.out.back)
        have P6 := hide (PrOff.snoc (w := w4.alloc (.cells #[.slice none 0 0, .int .i64 0] 26)) (n := k + 1) (c := c6) hoff.out (fun g' hg' => (RL.out.lt g' hg').2) hat6 (zpr_off _))
        have D6 := hide ((chain D4.out BL.out).grown hg6 (chain D4.out BL.out).size (fun k' hk' => (OL.out.row.lt k' hk').1))
        clear ho6 hg6 hat6 O4 R4 OL RL s2 s3 hoff hofR
        go_wp2
        go_loopw [9, 11] (fun r i wx => ∃ t : Nat, t ≤ x.msgs.length ∧ i = .int .i64 (t : Int) ∧ Hid (PrOwn wx WE.heap.size (.slice (some ⟨g6, 0, none⟩) (k + 1) c6) (L ++ [zpr])) ∧ Hid (wx.ownsRow WE.heap.size 53 2 r (emit ps (l.map Pr.key) k ++ emL k (x.msgs.take t)).length ((emit ps (l.map Pr.key) k ++ emL k (x.msgs.take t)).flatMap Mgv.cells)) ∧ Hid (PrOff r.ownBlock (.slice (some ⟨g6, 0, none⟩) (k + 1) c6) (L ++ [zpr])) ∧ Hid (Below WE.heap.size WE wx)) (fun _ i _ => x.msgs.length - (intOf i).toNat)
        case atStart => exact ⟨0, by omega, rfl, O6.out, by unfold Hid; simpa [emL] using R6.out, P6.out, D6.out⟩
        case round =>
          obtain ⟨t, ht, rfl, hown, hrep, hoff, hb2⟩ := hrel
          have z0 := cell_below HY0.out (chain D2.out hb2.out)
          by_cases hlt2 : t < x.msgs.length
          · obtain ⟨sx, hsx⟩ : ∃ sx, x.msgs[t]? = some sx := ⟨_, List.getElem?_eq_getElem hlt2⟩
            obtain ⟨bs, os, hxa, hsc⟩ := (HSW.out.below (chain D2.out hb2.out)).cell hsx
            rw [hxa] at z0
            have HTK : Hid (emL k (x.msgs.take (t + 1)) = emL k (x.msgs.take t) ++ [⟨(k : Int), sx⟩]) := by
              unfold Hid emL
              rw [List.take_add_one, hsx]
              simp
            have BL := hide (new_below' wr (.cells #[.int .i64 (k : Int), .string sx] 53))
            have RL := hide (ownsRow_below hrep.out BL.out)
            have OL := hide (hown.out.below BL.out)
            have hln : (emit ps (l.map Pr.key) k ++ emL k (x.msgs.take t)).length ≤ 8 * k + 8 := by
              unfold emL
              rw [List.length_append, List.length_map, List.length_take]
              omega
            have ht1 : (t : Int) < (x.msgs.length : Int) := by omega
            clear hsx hxa
            go_wp2_with (at_builtin; refine append_rec rfl (.tmp 60) (.tmp 71) 29 53 rfl Tryd.underlying29 HR.out (by decide) WE.heap.size _ _ _ rfl RL.out wr.heap.size 1 (Mgv.cells ⟨(k : Int), sx⟩) rfl rfl (fun i u hu => by rw [World.cell?_alloc_at _ _ _ _ rfl]; simpa [Mgv.cells] using hu) (fun u hu => mgv_one [⟨(k : Int), sx⟩] u (by simpa using hu)) (by unfold maxLen; omega) (by omega) (Nat.le_trans hb2.out.size BL.out.size) ?_; intro g7 c7 w7 ho7 hg7 hat7 hlt7)
            have O7 := hide (OL.out.grown hg7 hoff.out)
            have P7 := hide (PrOff.moved OL.out hoff.out hat7)
            have D7 := hide ((chain hb2.out BL.out).grown hg7 (chain hb2.out BL.out).size (fun k' hk' => (RL.out.lt k' hk').1))
            have R7 := hide ho7
            clear ho7 hg7 hat7
            refine ⟨⟨t + 1, by omega, by go_num, O7.out, ?_, P7.out, D7.out⟩, by simp [intOf]; omega⟩
            unfold Hid
            rw [HTK.out, ← List.append_assoc, List.length_append, List.flatMap_append]
            simpa using R7.out
          · obtain rfl : t = x.msgs.length := by omega
            have HEX : Hid (emit ps (l.map Pr.key) (k + 1) = emit ps (l.map Pr.key) k ++ emL k (x.msgs.take x.msgs.length)) := by
              unfold Hid
              rw [HEA.out, List.take_length]
              rfl
            clear hlt2
            go_wp2
            refine ⟨⟨k + 1, L ++ [zpr], by omega, by go_num, by rw [List.length_append, hL]; rfl, hown.out, HKN.out, by unfold Hid; rw [HEX.out]; exact hrep.out, hoff.out, HOR.out, hb2.out⟩, by simp [intOf]; omega⟩
      · rw [hkin] at HAT HEA
        go_wp2_with fail
        have HH : Hid (∀ wz, Below w4.heap.size w4 wz → wz.cell? ⟨b', off' + k * 2, none⟩ = some (.slice x.a x.msgs.length x.cap) ∧ wz.cell? ⟨b', off' + k * 2 + 1, none⟩ = some (.int .i64 x.age)) := fun wz hz => ⟨cell_below s2 hz, cell_below s3 hz⟩
        have hU : Hid (∀ g', u8.ownBlock = some g' → g' ≠ b') := fun g' hg' e => by have := (O4.out.row.lt g' hg').1; have := D2.out.size; omega
        have SR := hide ((HSW.out.below (chain D2.out D4.out)).row)
        have hLk : L.length ≤ 1048576 := by omega
        clear s2 s3
        go_region_held3 (fun wz => wz.cell? ⟨b', off' + k * 2, none⟩ = some (.slice x.a x.msgs.length x.cap) ∧ wz.cell? ⟨b', off' + k * 2 + 1, none⟩ = some (.int .i64 x.age))
          (first | exact HH.out _ (Below.refl _ _) | exact HH.out _ ((Below.refl _ _).drew) | exact HH.out _ (below_new _ _) | exact HH.out _ B5.out | exact HH.out _ (chain B5.out (new_below' _ _)) | exact HH.out _ (newd_below _ _) | (have q := HH.out _ (chain B5.out (new_below' w5 (.cells #[.slice a5 x.msgs.length c5, .int .i64 x.age] 26))); exact ⟨HG6.out.cell q.1 (fun e => hU.out _ e.symm rfl), HG6.out.cell q.2 (fun e => hU.out _ e.symm rfl)⟩))
          (first
            | (refine step_sts (by rfl) (.tmp 31) (.tmp 36) (by rfl) w4.heap.size (.slice (some ⟨w4.heap.size, 0, none⟩) 0 0) [] (by simp [Act.eval, Act.put]) ((slk_empty w4 _ (Nat.le_refl _)).below ((Below.refl _ _).drew)) x.a x.msgs.length x.cap x.msgs (by simp [Act.eval, Act.put]) rfl (SR.out.below (below_new _ _)) (by simp; omega) (below_new w4 _).size ?_; intro v5 w5 h5 b5; have B5 := hide ((below_new w4 (.cells #[] 9)).trans b5); rw [List.nil_append] at h5; obtain ⟨a5, c5, rfl, st5⟩ := h5.sts HSW.out.most HSW.out.small; have HQ : Hid ((⟨a5, c5, x.msgs, x.age⟩ : Pr).Shows w5) := st5; have O5 := hide h5; clear h5 b5 st5)
            | (refine step_rec (by rfl) (.tmp 30) (.tmp 44) 28 26 (by rfl) Tryd.underlying28 HI.out (by decide) WE.heap.size u8 L.length (L.flatMap Pr.cells) (by simp [Act.eval, Act.put]) ((O4.out.below (chain B5.out (new_below' w5 (.cells #[.slice a5 x.msgs.length c5, .int .i64 x.age] 26)))).row) w5.heap.size 1 (Pr.cells ⟨a5, c5, x.msgs, x.age⟩) (by simp [Act.eval, Act.put]) rfl (fun i u hu => by rw [World.cell?_alloc_at _ _ _ _ rfl]; simpa [Pr.cells] using hu) (fun u hu => pr_one [⟨a5, c5, x.msgs, x.age⟩] u (by simpa using hu)) (by unfold maxLen; omega) (by omega) (Nat.le_trans D4.out.size (chain B5.out (new_below' _ _)).size) ?_; intro g6 c6 w6 ho6 hg6 hat6 hlt6; have HG6 := hide hg6; have HO6 := hide ho6; have HAT6 := hide hat6; clear ho6 hg6 hat6))
        rename_i hheld
        clear hheld
        have OL := hide (O4.out.below (chain B5.out (new_below' w5 (.cells #[.slice a5 x.msgs.length c5, .int .i64 x.age] 26))))
        have RL := hide (ownsRow_below R4.out (chain B5.out (new_below' w5 (.cells #[.slice a5 x.msgs.length c5, .int .i64 x.age] 26))))
        have QL := hide (HQ.out.below (new_below' w5 (.cells #[.slice a5 x.msgs.length c5, .int .i64 x.age] 26)))
        have D5 := hide (chain D4.out (chain B5.out (new_below' w5 (.cells #[.slice a5 x.msgs.length c5, .int .i64 x.age] 26))))
        have HF : Hid ((⟨a5, c5, x.msgs, x.age⟩ : Pr).off u8.ownBlock) := by
          unfold Hid
          cases hb0 : u8.ownBlock with
          | none => exact off_none _
          | some g' => exact O5.out.off (g := g') (age := x.age) (O4.out.row.lt g' hb0).2
        have HF9 : Hid ((⟨a5, c5, x.msgs, x.age⟩ : Pr).off u9.ownBlock) := by
          unfold Hid
          cases hb0 : u9.ownBlock with
          | none => exact off_none _
          | some g' => exact O5.out.off (g := g') (age := x.age) (R4.out.lt g' hb0).2
        have O6 := hide (OL.out.snoc QL.out HF.out HO6.out HG6.out HAT6.out)
        have R6 := hide (RL.out.kept HG6.out hoff.out.back)
        have P6 := hide (PrOff.snoc (w := w5.alloc (.cells #[.slice a5 x.msgs.length c5, .int .i64 x.age] 26)) (n := k + 1) (c := c6) hoff.out (fun g' hg' => (RL.out.lt g' hg').2) HAT6.out HF9.out)
        have D6 := hide (D5.out.grown HG6.out D5.out.size (fun k' hk' => (OL.out.row.lt k' hk').1))
        rw [hL] at O6
        have HKN : Hid ((L ++ [(⟨a5, c5, x.msgs, x.age⟩ : Pr)]).map Pr.key = (endAll ps (l.map Pr.key)).take (k + 1)) := by
          unfold Hid
          rw [List.map_append, hkey.out, List.take_add_one, HAT.out]
          rfl
        have HOR : Hid (∀ p ∈ L ++ [(⟨a5, c5, x.msgs, x.age⟩ : Pr)], p.off (some w.heap.size)) := by
          intro q hq
          rcases List.mem_append.1 hq with hq | hq
          · exact hofR.out q hq
          · rw [List.mem_singleton.1 hq]
            exact O5.out.off (g := w.heap.size) (age := x.age) (by have := D4.out.size; omega)
        have HEX : Hid (emit ps (l.map Pr.key) (k + 1) = emit ps (l.map Pr.key) k) := by
          unfold Hid
          rw [HEA.out]
          simp
        go_wp2
        go_roundw
        case rel => exact ⟨k + 1, _, by omega, by go_num, by rw [List.length_append, hL]; rfl, O6.out, HKN.out, by unfold Hid; rw [HEX.out]; exact R6.out, P6.out, HOR.out, D6.out⟩
        case measure => simp [intOf]; omega
    · obtain rfl : k = len := by omega
      have HK0 : Hid (L.map Pr.key = endAll ps (l.map Pr.key)) := by
        unfold Hid
        rw [hkey.out, List.take_of_length_le (by rw [HAL.out, hl]; exact Nat.le_refl _)]
      clear hlt hkey
      go_wp2_with fail
      refine Calls.mono (refNone_any wr) ?_
      rintro e w8 ⟨rfl, b8⟩
      have T8 := hide (T2.out.below (chain hb.out b8))
      have D8 := hide (chain D2.out (chain hb.out b8))
      have O8 := hide (hown.out.below b8)
      have R8 := hide (ownsRow_below hrep.out b8)
      have g0 := T8.out.c0
      have g1 := T8.out.c1
      have f0 := T8.out.f0
      have f1 := T8.out.f1
      clear b8
      go_wp2
      have Q3 := hide (T8.out.set (.int .i64 0) (.int .i64 (-1)))
      have D3 := hide ((D8.out.setCell (p := ⟨w.heap.size, 0, none⟩) (Nat.le_refl _) (.int .i64 0)).setCell (p := ⟨w.heap.size, 1, none⟩) (Nat.le_refl _) (.int .i64 (-1)))
      have G1 := hide (set_two w8 w.heap.size (.int .i64 0) (.int .i64 (-1)))
      have O9 := hide (O8.out.grown G1.out ⟨under_ne O8.out.row (by omega), hofR.out⟩)
      have R9 := hide (R8.out.kept G1.out (under_ne R8.out (by omega)))
      generalize (w8.setCell ⟨w.heap.size, 0, none⟩ (.int .i64 0)).setCell ⟨w.heap.size, 1, none⟩ (.int .i64 (-1)) = W9 at *
      have e0 := Q3.out.c0
      have e1 := Q3.out.c1
      (try simp only [Exit.inBlock, Exit.then])
      refine bodyPost_ret (v := .tuple #[u8, u9, .agg #[.int .i64 0, .int .i64 (-1)]]) (by simp [results, Tryd.results13, go_sem, e0, e1]) rfl ?_
      exact ⟨_, _, by rw [HE0.out]; rfl, ⟨L, O9.out.weaken (by omega), by rw [HEN.out]; exact HK0.out⟩, by rw [HEM.out]; exact ownsRow_weaken R9.out (by omega), D3.out⟩
end Go.Proofs.YtgcodajiehfloaaDoor
