/-
  A frame's begin, for all ports: the document's Arrive, its first loop.
-/
import Derived.Test.YtgcodajiehfloaaDoorPlArrive
import Derived.Test.YtgcodajiehfloaaDoorPlRAll
import Derived.Test.YtgcodajiehfloaaDoorPtRAdd
namespace Go.Proofs.YtgcodajiehfloaaDoor
open Go.RowKit
set_option linter.unusedVariables false
set_option linter.unusedSimpArgs false

set_option maxRecDepth 100000 in
set_option maxHeartbeats 4000000 in
theorem refPut_any {w : World} (k s d r age : Int) (a : Option Addr) (len cap : Nat) (l : List ByteArray) (D : ByteArray) (hs : Sts w a len cap l) (hD : D.size ≤ 9223372036854775807) :
    Calls Tryd.prog 25 #[.agg #[.int .i64 k, .int .i64 s, .int .i64 d, .int .i64 r], .agg #[.slice a len cap, .int .i64 age], .string D] w fun e w' => ∃ x, e = .returned (.tuple #[.agg #[x, .int .i64 0], .int .i64 (movErr true k s d r l age D : Int)]) ∧ SLk w' w.heap.size x (movL true k s d r l age D) ∧ Below w.heap.size w w' := by
  have HS := hide hs
  have hl := hs.size
  have hm := hs.most
  have PQ := hide (pqr_pq w k s d r (.slice a len cap) age (.slice none 0 0) (.int .i64 0))
  have B0 := hide (pqr_below w k s d r (.slice a len cap) age (.slice none 0 0) (.int .i64 0))
  have T0 := hide (pqr_two w k s d r (.slice a len cap) age (.slice none 0 0) (.int .i64 0))
  have hz := pqr_size w k s d r (.slice a len cap) age (.slice none 0 0) (.int .i64 0)
  clear hs
  go_enter Tryd.func25, Tryd.ntmps25
  go_wp2_with fail
  generalize ((w.alloc (.cells #[.int .i64 k, .int .i64 s, .int .i64 d, .int .i64 r] 23)).alloc (.cells #[.slice a len cap, .int .i64 age] 26)).alloc (.cells #[.slice none 0 0, .int .i64 0] 26) = W0 at *
  refine Calls.mono (refAdd_any true k s d r age a len cap l D (HS.out.below B0.out) hD) ?_
  rintro e w1 ⟨x1, rfl, o1, b1⟩
  obtain ⟨a3, c3', rfl, _⟩ := o1.row
  have O3 := hide o1
  have D3 := hide (chain B0.out b1)
  have T3 := hide (T0.out.below b1)
  clear o1 b1 PQ B0 T0
  have g0 := T3.out.c0
  have g1 := T3.out.c1
  have f0 := T3.out.f0
  have f1 := T3.out.f1
  generalize hn3 : (movL true k s d r l age D).length = n3 at *
  generalize hP : movErr true k s d r l age D = P at *
  go_wp2
  have FP := hide (fin_port (u := .int .i64 0) T3.out O3.out D3.out (by omega) (by omega))
  generalize (w1.setCell ⟨w.heap.size + 1 + 1, 0, none⟩ (.slice a3 n3 c3')).setCell ⟨w.heap.size + 1 + 1, 1, none⟩ (.int .i64 0) = W9 at *
  have e0 := FP.out.1.c0
  have e1 := FP.out.1.c1
  (try simp only [Exit.inBlock, Exit.then])
  refine bodyPost_ret (v := .tuple #[.agg #[.slice a3 n3 c3', .int .i64 0], .int .i64 (P : Int)]) (by simp [results, Tryd.results25, go_sem, e0, e1]; try rfl) rfl ?_
  exact ⟨_, by rw [hP], FP.out.2.1.weaken (by omega), FP.out.2.2⟩


theorem PrOff.nope (v : Value) (l : List Pr) : PrOff none v l := ⟨by cases h : v.ownBlock <;> simp, fun p _ => off_none p⟩
theorem under_ne {w : World} {base g n sz : Nat} {e : TypeId} {v : Value} {xs : List Value} (h : w.ownsRow base e sz v n xs) (hg : g < base) : v.ownBlock = none ∨ v.ownBlock ≠ some g :=
  .inr fun e => by have := (h.lt g e).1; omega
theorem set_two (w : World) (g : Nat) (x y : Value) : w.grownBy ((w.setCell ⟨g, 0, none⟩ x).setCell ⟨g, 1, none⟩ y) (some g) :=
  ⟨rfl, rfl, rfl, by simp, fun k hk hne => by rw [heap_setCell_other _ ⟨g, 1, none⟩ k y (fun e => hne (by simp [e])), heap_setCell_other _ ⟨g, 0, none⟩ k x (fun e => hne (by simp [e]))]⟩
set_option maxRecDepth 100000 in
set_option maxHeartbeats 4000000 in
theorem refArrive_any {w : World} (a : Option Addr) (len cap : Nat) (ps : List Plv) (a' : Option Addr) (len' cap' : Nat) (l : List Pr) (am : Option Addr) (lm cm : Nat) (ms : List Mgv) (hs : Rcs Plv.cells 4 w a len cap ps) (hs' : Prs w a' len' cap' l) (hsm : Rcs Mgv.cells 2 w am lm cm ms)
    (hm : len ≤ 1048576) (hm' : len' ≤ 1048576) (hmm : lm ≤ 1048576) (hD : ∀ m ∈ ms, m.data.size ≤ 9223372036854775807) :
    Calls Tryd.prog 8 #[.slice a len cap, .slice a' len' cap', .slice am lm cm] w fun e w' => ∃ x r, e = .returned (.tuple #[x, r, .agg #[.int .i64 ((allE ps (l.map Pr.key)).1 : Int), .int .i64 (allE ps (l.map Pr.key)).2]]) ∧ (∃ l', PrOwn w' w.heap.size x l' ∧ l'.map Pr.key = (arrK ps (l.map Pr.key) ms).1) ∧
      w'.ownsRow w.heap.size 65 4 r (arrK ps (l.map Pr.key) ms).2.length ((arrK ps (l.map Pr.key) ms).2.flatMap repc) ∧ Below w.heap.size w w' := by
  have HS := hide hs
  have HS' := hide hs'
  have HM := hide hsm
  have HD := hide hD
  have hl := hs.size
  have hl' := hs'.rcs.size
  have hlm := hsm.size
  have HI := hide infoPort
  have HR := hide infoRep
  have T0 := hide (two_alloc w (.int .i64 0) (.int .i64 0) 40)
  have D0 := hide (new_below' w (.cells #[.int .i64 0, .int .i64 0] 40))
  have hz0 : w.heap.size < (w.alloc (.cells #[.int .i64 0, .int .i64 0] 40)).heap.size := by simp
  clear hs hs' hsm hD
  go_enter Tryd.func8, Tryd.ntmps8
  go_wp2_with fail
  generalize w.alloc (.cells #[.int .i64 0, .int .i64 0] 40) = W0 at *
  refine Calls.mono (refAll_any a len cap ps a' len' cap' l (HS.out.below D0.out) (HS'.out.below D0.out) hm hm') ?_
  rintro e w1 ⟨rfl, b1⟩
  have D1 := hide (chain D0.out b1)
  have T1 := hide (T0.out.below b1)
  have hz1 : w.heap.size < w1.heap.size := Nat.lt_of_lt_of_le hz0 b1.size
  clear b1 T0 D0 hz0
  by_cases h0 : (allE ps (l.map Pr.key)).1 = 0
  case neg =>
    have HA : Hid (arrK ps (l.map Pr.key) ms = ([], [])) := by unfold Hid arrK; rw [if_neg h0]
    have hne : (((allE ps (l.map Pr.key)).1 : Int) != 0) = true := by simp; omega
    generalize hcc : (allE ps (l.map Pr.key)).1 = cc at *
    generalize hpp : (allE ps (l.map Pr.key)).2 = pp at *
    have HCC := hide hcc
    have HPP := hide hpp
    clear hcc hpp
    have TE := hide (two_alloc w1 (.int .i64 (cc : Int)) (.int .i64 pp) 40)
    have BE := hide (new_below' w1 (.cells #[.int .i64 (cc : Int), .int .i64 pp] 40))
    have T2 := hide (T1.out.below BE.out)
    clear h0
    go_wp2_with fail
    generalize w1.alloc (.cells #[.int .i64 (cc : Int), .int .i64 pp] 40) = WE at *
    have g0 := T2.out.c0
    have g1 := T2.out.c1
    have f0 := T2.out.f0
    have f1 := T2.out.f1
    go_region_held3 (fun wz => wz.cell? ⟨w1.heap.size, 0, none⟩ = some (.int .i64 (cc : Int)) ∧ wz.cell? ⟨w1.heap.size, 1, none⟩ = some (.int .i64 pp)) (first | exact ⟨TE.out.c0, TE.out.c1⟩ | (have q := (TE.out.far (b' := w.heap.size) (o := 0) (u := .int .i64 (cc : Int)) (by omega)).far (b' := w.heap.size) (o := 1) (u := .int .i64 pp) (by omega); exact ⟨q.c0, q.c1⟩)) (fail)
    rename_i hheld
    clear hheld
    go_wp2
    have Q3 := hide (T2.out.set (.int .i64 (cc : Int)) (.int .i64 pp))
    have D3 := hide (((chain D1.out BE.out).setCell (p := ⟨w.heap.size, 0, none⟩) (Nat.le_refl _) (.int .i64 (cc : Int))).setCell (p := ⟨w.heap.size, 1, none⟩) (Nat.le_refl _) (.int .i64 pp))
    generalize (WE.setCell ⟨w.heap.size, 0, none⟩ (.int .i64 (cc : Int))).setCell ⟨w.heap.size, 1, none⟩ (.int .i64 pp) = W9 at *
    have e0 := Q3.out.c0
    have e1 := Q3.out.c1
    (try simp only [Exit.inBlock, Exit.then])
    refine bodyPost_ret (v := .tuple #[.slice none 0 0, .slice none 0 0, .agg #[.int .i64 (cc : Int), .int .i64 pp]]) (by simp [results, Tryd.results8, go_sem, e0, e1]) rfl ?_
    exact ⟨_, _, by rw [HCC.out, HPP.out], ⟨[], prown_nil _ _, by rw [HA.out]; rfl⟩, by rw [HA.out]; exact World.ownsRow_nil _ _ _ _, D3.out.drew⟩
  have hE : allE ps (l.map Pr.key) = (0, -1) := by
    obtain ⟨h1, h2, h3⟩ := allE_zero h0
    exact allE_no h1 h2 h3
  obtain ⟨hle, hbp, hbq⟩ := allE_zero h0
  have hll : len = len' := by rw [List.length_map] at hle; omega
  subst hll
  have HBP := hide hbp
  have HBQ := hide hbq
  have HAR : Hid (arrK ps (l.map Pr.key) ms = arrive ps (l.map Pr.key) ms) := by unfold Hid arrK; rw [if_pos h0]
  have HAL := hide (agedAll_len hle)
  rw [hE]
  have HE0 := hide hE
  have HLE := hide hle
  clear h0 hbp hbq hle hE
  have BE := hide (new_below' w1 (.cells #[.int .i64 0, .int .i64 (-1)] 40))
  have T2 := hide (T1.out.below BE.out)
  have D2 := hide (chain D1.out BE.out)
  have hz2 : w.heap.size < (w1.alloc (.cells #[.int .i64 0, .int .i64 (-1)] 40)).heap.size := Nat.lt_of_lt_of_le hz1 BE.out.size
  clear T1 D1
  go_wp2
  generalize w1.alloc (.cells #[.int .i64 0, .int .i64 (-1)] 40) = WE at *
  clear BE
  go_loopw [10, 11] (fun o i wr => ∃ (k : Nat) (L : List Pr), k ≤ len ∧ i = .int .i64 (k : Int) ∧ L.length = k ∧ Hid (PrOwn wr WE.heap.size o L) ∧ Hid (L.map Pr.key = (agedAll ps (l.map Pr.key)).take k) ∧ Hid (∀ p ∈ L, p.off (some w.heap.size)) ∧ Hid (Below WE.heap.size WE wr)) (fun _ i _ => len - (intOf i).toNat)
  case atStart => exact ⟨0, [], by omega, rfl, rfl, prown_nil _ _, by unfold Hid; simp, fun p hp => by simp at hp, Below.refl _ _⟩
  case round =>
    obtain ⟨k, L, hk, rfl, hL, hown, hkey, hofR, hb⟩ := hrel
    by_cases hlt : k < len
    · obtain ⟨p, hp⟩ : ∃ p, ps[k]? = some p := ⟨_, List.getElem?_eq_getElem (by rw [hl]; exact hlt)⟩
      obtain ⟨x, hx⟩ : ∃ x, l[k]? = some x := ⟨_, List.getElem?_eq_getElem (by rw [hl']; exact hlt)⟩
      have HX : Hid ((l.map Pr.key)[k]? = some x.key) := by unfold Hid; rw [List.getElem?_map, hx]; rfl
      have hck := chkK_zero (good_plan HBP.out hp) (good_port HBQ.out hp HX.out)
      have HCK : Hid (chkErr p.k p.s p.d p.r x.msgs x.age = 0) := hck
      have HAT : Hid ((agedAll ps (l.map Pr.key))[k]? = some (x.msgs, agedV p.k x.msgs.length x.age)) := agedAll_at hp HX.out
      have HAA : Hid (ageA p.k p.s p.d p.r x.msgs x.age = agedV p.k x.msgs.length x.age) := by unfold Hid ageA; rw [if_pos HCK.out]
      have HAB : Hid (ageL p.k p.s p.d p.r x.msgs x.age = x.msgs) := by unfold Hid ageL; rw [if_pos HCK.out]
      obtain ⟨b, off, rfl, hr⟩ := (HS.out.below (chain D2.out hb.out)).at plv4 (by decide) hp
      obtain ⟨b', off', rfl, hr'⟩ := (HS'.out.below (chain D2.out hb.out)).rcs.at pr2 (by decide) hx
      have hsx : Sts wr x.a x.msgs.length x.cap x.msgs := (HS'.out.below (chain D2.out hb.out)).shows_ x (List.mem_of_getElem? hx)
      have HSX := hide hsx
      have r0 := hr 0 _ rfl
      have r1 := hr 1 _ rfl
      have r2 := hr 2 _ rfl
      have r3 := hr 3 _ rfl
      have s0 := hr' 0 _ rfl
      have s1 := hr' 1 _ rfl
      simp only [Nat.add_zero] at r0 s0
      clear hr hr' hp hx hsx hck
      generalize p.k = kk at *
      generalize p.s = ss at *
      generalize p.d = dd at *
      generalize p.r = rr at *
      have HH : Hid (∀ wz, Below wr.heap.size wr wz → wz.cell? ⟨b, off + k * 4, none⟩ = some (.int .i64 kk) ∧ wz.cell? ⟨b, off + k * 4 + 1, none⟩ = some (.int .i64 ss) ∧ wz.cell? ⟨b, off + k * 4 + 2, none⟩ = some (.int .i64 dd) ∧ wz.cell? ⟨b, off + k * 4 + 3, none⟩ = some (.int .i64 rr) ∧ wz.cell? ⟨b', off' + k * 2, none⟩ = some (.slice x.a x.msgs.length x.cap) ∧ wz.cell? ⟨b', off' + k * 2 + 1, none⟩ = some (.int .i64 x.age)) :=
        fun wz hz => ⟨cell_below r0 hz, cell_below r1 hz, cell_below r2 hz, cell_below r3 hz, cell_below s0 hz, cell_below s1 hz⟩
      clear r0 r1 r2 r3 s0 s1
      have hq1 : (k : Int) < (len : Int) := by omega
      go_wp2_with fail
      go_cut [12] (fun v12 wx => ∃ (g : Nat) (a5 : Option Addr) (c5 : Nat), v12 = .pointer (some ⟨g, 0, none⟩) ∧ wr.heap.size ≤ g ∧ Two wx g (.slice a5 x.msgs.length c5) (.int .i64 (agedV kk x.msgs.length x.age)) ∧ SLk wx wr.heap.size (.slice a5 x.msgs.length c5) x.msgs ∧ Below wr.heap.size wr wx)
      case first =>
        go_region_held3 (fun wz => wz.cell? ⟨b, off + k * 4, none⟩ = some (.int .i64 kk) ∧ wz.cell? ⟨b, off + k * 4 + 1, none⟩ = some (.int .i64 ss) ∧ wz.cell? ⟨b, off + k * 4 + 2, none⟩ = some (.int .i64 dd) ∧ wz.cell? ⟨b, off + k * 4 + 3, none⟩ = some (.int .i64 rr) ∧ wz.cell? ⟨b', off' + k * 2, none⟩ = some (.slice x.a x.msgs.length x.cap) ∧ wz.cell? ⟨b', off' + k * 2 + 1, none⟩ = some (.int .i64 x.age))
          (first | exact HH.out _ (Below.refl _ _) | exact HH.out _ ((Below.refl _ _).drew) | exact HH.out _ (newd_below _ _) | exact HH.out _ (new_below' _ _) | exact HH.out _ B5.out | exact HH.out _ (chain B5.out (new_below' _ _)) | exact HH.out _ ((B5.out.setCell (p := ⟨wr.heap.size, 0, none⟩) (Nat.le_refl _) _).setCell (p := ⟨wr.heap.size, 1, none⟩) (Nat.le_refl _) _))
          (first
            | (go_at_call 24; refine (refAge_any kk ss dd rr x.age x.a x.msgs.length x.cap x.msgs (HSX.out.below (newd_below wr (.cells #[.slice none 0 0, .int .i64 0] 26)))).mono ?_; rintro e w5 ⟨x5, rfl, o5, b5⟩; rw [HAB.out] at o5; rw [HAA.out, HCK.out]; obtain ⟨a5, c5, rfl, _⟩ := o5.row; have O5 := hide o5; have B5 := hide (chain (newd_below wr (.cells #[.slice none 0 0, .int .i64 0] 26)) b5); have T5 := hide (((two_alloc wr (.slice none 0 0) (.int .i64 0) 26).below ((Below.refl _ _).drew)).below b5); have ga := T5.out.c0; have gb := T5.out.c1; have gc := T5.out.f0; have gd := T5.out.f1; clear o5 b5)
            | (go_at_call 24; refine (refAge_any kk ss dd rr x.age x.a x.msgs.length x.cap x.msgs (HSX.out.below ((Below.refl _ _).drew))).mono ?_; rintro e w5 ⟨x5, rfl, o5, b5⟩; rw [HAB.out] at o5; rw [HAA.out, HCK.out]; obtain ⟨a5, c5, rfl, _⟩ := o5.row; have O5 := hide o5; have B5 := hide (undrew b5); clear o5 b5))
        all_goals go_wp2
        all_goals go_meet
        all_goals first
          | exact ⟨_, _, _, rfl, Nat.le_refl _, (fin_port (u := .int .i64 (agedV kk x.msgs.length x.age)) T5.out O5.out B5.out (by simp) (Nat.le_refl _)).1, (fin_port (u := .int .i64 (agedV kk x.msgs.length x.age)) T5.out O5.out B5.out (by simp) (Nat.le_refl _)).2.1.weaken (by simp), (fin_port (u := .int .i64 (agedV kk x.msgs.length x.age)) T5.out O5.out B5.out (by simp) (Nat.le_refl _)).2.2⟩
          | exact ⟨_, _, _, rfl, B5.out.size, two_alloc w5 _ _ _, O5.out.below (new_below' _ _), chain B5.out (new_below' _ _)⟩
      case rest =>
        obtain ⟨g, a5, c5, rfl, hg, t5, o5, b5⟩ := hcut
        have O5 := hide o5
        have B5 := hide b5
        have D5 := hide (chain hb.out b5)
        obtain ⟨a6, c6, e6, st⟩ := o5.sts HSX.out.most HSX.out.small
        simp only [Value.slice.injEq, true_and] at e6
        obtain ⟨rfl, rfl⟩ := e6
        have HQ : Hid ((⟨a5, c5, x.msgs, agedV kk x.msgs.length x.age⟩ : Pr).Shows wc) := st
        have HF : Hid ((⟨a5, c5, x.msgs, agedV kk x.msgs.length x.age⟩ : Pr).off u10.ownBlock) := by
          unfold Hid
          cases hb0 : u10.ownBlock with
          | none => exact off_none _
          | some g' => exact o5.off (g := g') (hown.out.row.lt g' hb0).2
        have HOR : Hid (∀ p ∈ L ++ [(⟨a5, c5, x.msgs, agedV kk x.msgs.length x.age⟩ : Pr)], p.off (some w.heap.size)) := by
          intro q hq
          rcases List.mem_append.1 hq with hq | hq
          · exact hofR.out q hq
          · rw [List.mem_singleton.1 hq]
            exact o5.off (g := w.heap.size) (by have := hb.out.size; omega)
        have ta := t5.c0
        have tb := t5.c1
        have BL := hide (new_below' wc (.cells #[.slice a5 x.msgs.length c5, .int .i64 (agedV kk x.msgs.length x.age)] 26))
        have OL := hide ((hown.out.below B5.out).below BL.out)
        have QL := hide (HQ.out.below BL.out)
        have HKN : Hid ((L ++ [(⟨a5, c5, x.msgs, agedV kk x.msgs.length x.age⟩ : Pr)]).map Pr.key = (agedAll ps (l.map Pr.key)).take (k + 1)) := by
          unfold Hid
          rw [List.map_append, hkey.out, List.take_add_one, HAT.out]
          rfl
        clear t5 o5 b5 st
        go_wp2_with (at_builtin; refine append_rec rfl (.tmp 45) (.tmp 47) 28 26 rfl Tryd.underlying28 HI.out (by decide) WE.heap.size _ L.length (L.flatMap Pr.cells) rfl OL.out.row wc.heap.size 1 (Pr.cells ⟨a5, c5, x.msgs, agedV kk x.msgs.length x.age⟩) rfl rfl (fun i u hu => by rw [World.cell?_alloc_at _ _ _ _ rfl]; simpa [Pr.cells] using hu) (fun u hu => pr_one [⟨a5, c5, x.msgs, agedV kk x.msgs.length x.age⟩] u (by simpa using hu)) (by unfold maxLen; omega) (by omega) (Nat.le_trans D5.out.size BL.out.size) ?_; intro g6 c6 w6 ho6 hg6 hat6 hlt6)
        have O6 := hide (OL.out.snoc QL.out HF.out ho6 hg6 hat6)
        rw [hL] at O6
        have D6 := hide ((chain D5.out BL.out).grown hg6 (chain D5.out BL.out).size (fun k' hk' => (OL.out.row.lt k' hk').1))
        clear ho6 hg6 hat6
        refine ⟨⟨k + 1, _, by omega, by go_num, by rw [List.length_append, hL]; rfl, O6.out, HKN.out, HOR.out, D6.out⟩, by simp [intOf]; omega⟩
    · obtain rfl : k = len := by omega
      have HK0 : Hid (L.map Pr.key = agedAll ps (l.map Pr.key)) := by
        unfold Hid
        rw [hkey.out, List.take_of_length_le (by rw [HAL.out, hl]; exact Nat.le_refl _)]
      clear hlt hkey
      go_wp2
      go_loopw [14, 15] (fun r i wx => ∃ (j : Nat) (L : List Pr) (R : List Int), j ≤ lm ∧ i = .int .i64 (j : Int) ∧ L.length = k ∧ R.length ≤ j ∧ Hid (PrOwn wx WE.heap.size u10 L) ∧ Hid ((ms.take j).foldl (stepK ps) (agedAll ps (l.map Pr.key), []) = (L.map Pr.key, R)) ∧ Hid (wx.ownsRow WE.heap.size 65 4 r R.length (R.flatMap repc)) ∧ Hid (PrOff r.ownBlock u10 L) ∧ Hid (∀ p ∈ L, p.off (some w.heap.size)) ∧ Hid (Below WE.heap.size WE wx)) (fun _ i _ => lm - (intOf i).toNat)
      case atStart => exact ⟨0, L, [], by omega, rfl, hL, by simp, hown.out, by unfold Hid; rw [HK0.out]; rfl, World.ownsRow_nil _ _ _ _, PrOff.nope _ _, hofR.out, hb.out⟩
      case round =>
        clear hown hL hb HK0 hofR
        obtain ⟨j, L, R, hj, rfl, hL, hR, hown, hfold, hrep, hoff, hofR, hb⟩ := hrel
        by_cases hlt : j < lm
        · obtain ⟨m, hmj⟩ : ∃ m, ms[j]? = some m := ⟨_, List.getElem?_eq_getElem (by rw [hlm]; exact hlt)⟩
          obtain ⟨bm, om, rfl, hr⟩ := (HM.out.below (chain D2.out hb.out)).at mgv2 (by decide) hmj
          have hDm := HD.out m (List.mem_of_getElem? hmj)
          have r0 := hr 0 _ rfl
          have r1 := hr 1 _ rfl
          simp only [Nat.add_zero] at r0
          have HFN : Hid ((ms.take (j + 1)).foldl (stepK ps) (agedAll ps (l.map Pr.key), []) = (nextK ps (L.map Pr.key) m, if tookB ps (L.map Pr.key) m = true then R else R ++ [m.port])) := by
            unfold Hid
            rw [fold_next hmj, hfold.out, stepK_eq]
          have BM := hide (new_below' wr (.cells #[.int .i64 m.port, .string m.data] 53))
          have TM := hide (two_alloc wr (.int .i64 m.port) (.string m.data) 53)
          have OX := hide (hown.out.below BM.out)
          have RX := hide (ownsRow_below hrep.out BM.out)
          have PX := hide hoff.out
          have DX := hide (chain hb.out BM.out)
          have hq9 : (j : Int) < (lm : Int) := by omega
          clear hr hmj
          go_upto_region 15 with fail
          generalize wr.alloc (.cells #[.int .i64 m.port, .string m.data] 53) = WM at *
          clear r0 r1
          by_cases hlow : m.port < 0
          · have d1 : decide (0 ≤ m.port) = false := decide_eq_false (by omega)
            have HTK := hide (took_low (ps := ps) (ks := L.map Pr.key) hlow)
            have t0 := TM.out.c0
            have hwp : IntKind.u32.wrap m.port = m.port % 4294967296 := IntKind.wrap_u32 m.port
            have BL := hide (new_below' WM (.cells #[.int .i64 3, .int .i64 (-1), .int .u32 (m.port % 4294967296), .int .u32 0] 65))
            have RL := hide (ownsRow_below RX.out BL.out)
            have OL := hide (OX.out.below BL.out)
            go_wp2_with (at_builtin; refine append_rec rfl (.tmp 95) (.tmp 100) 33 65 rfl Tryd.underlying33 HR.out (by decide) WE.heap.size _ R.length (R.flatMap repc) rfl RL.out WM.heap.size 1 (repc m.port) rfl rfl (fun i u hu => by rw [World.cell?_alloc_at _ _ _ _ rfl]; simpa [repc] using hu) (fun u hu => repc_one [m.port] u (by simpa using hu)) (by unfold maxLen; omega) (by omega) (Nat.le_trans DX.out.size BL.out.size) ?_; intro g6 c6 w6 ho6 hg6 hat6 hlt6)
            have O6 := hide (OL.out.grown hg6 PX.out)
            have P6 := hide (PrOff.moved OL.out PX.out hat6)
            have D6 := hide ((chain DX.out BL.out).grown hg6 (chain DX.out BL.out).size (fun k' hk' => (RL.out.lt k' hk').1))
            have R6 := hide ho6
            clear ho6 hg6 hat6
            refine ⟨⟨j + 1, L, R ++ [m.port], by omega, by go_num, hL, by rw [List.length_append]; simp; omega, O6.out, ?_, ?_, P6.out, hofR.out, D6.out⟩, by simp [intOf]; omega⟩
            · unfold Hid
              rw [HFN.out, nextK_none HTK.out]
              unfold tookB
              rw [HTK.out]
              rfl
            · unfold Hid
              rw [List.length_append, List.flatMap_append]
              simpa using R6.out
          by_cases hhigh : (k : Int) ≤ m.port
          · have d1 : decide (0 ≤ m.port) = true := decide_eq_true (by omega)
            have d2 : decide (m.port < (k : Int)) = false := decide_eq_false (by omega)
            have HTK := hide (took_high (ps := ps) (ks := L.map Pr.key) (m := m) (by rw [hl]; exact hhigh))
            have t0 := TM.out.c0
            have hwp : IntKind.u32.wrap m.port = m.port % 4294967296 := IntKind.wrap_u32 m.port
            have BL := hide (new_below' WM (.cells #[.int .i64 3, .int .i64 (-1), .int .u32 (m.port % 4294967296), .int .u32 0] 65))
            have RL := hide (ownsRow_below RX.out BL.out)
            have OL := hide (OX.out.below BL.out)
            go_wp2_with (at_builtin; refine append_rec rfl (.tmp 95) (.tmp 100) 33 65 rfl Tryd.underlying33 HR.out (by decide) WE.heap.size _ R.length (R.flatMap repc) rfl RL.out WM.heap.size 1 (repc m.port) rfl rfl (fun i u hu => by rw [World.cell?_alloc_at _ _ _ _ rfl]; simpa [repc] using hu) (fun u hu => repc_one [m.port] u (by simpa using hu)) (by unfold maxLen; omega) (by omega) (Nat.le_trans DX.out.size BL.out.size) ?_; intro g6 c6 w6 ho6 hg6 hat6 hlt6)
            have O6 := hide (OL.out.grown hg6 PX.out)
            have P6 := hide (PrOff.moved OL.out PX.out hat6)
            have D6 := hide ((chain DX.out BL.out).grown hg6 (chain DX.out BL.out).size (fun k' hk' => (RL.out.lt k' hk').1))
            have R6 := hide ho6
            clear ho6 hg6 hat6
            refine ⟨⟨j + 1, L, R ++ [m.port], by omega, by go_num, hL, by rw [List.length_append]; simp; omega, O6.out, ?_, ?_, P6.out, hofR.out, D6.out⟩, by simp [intOf]; omega⟩
            · unfold Hid
              rw [HFN.out, nextK_none HTK.out]
              unfold tookB
              rw [HTK.out]
              rfl
            · unfold Hid
              rw [List.length_append, List.flatMap_append]
              simpa using R6.out
          obtain ⟨t, ht⟩ : ∃ t : Nat, m.port = (t : Int) := ⟨m.port.toNat, by omega⟩
          have htl : t < k := by omega
          obtain ⟨p, hp⟩ : ∃ p, ps[t]? = some p := ⟨_, List.getElem?_eq_getElem (by rw [hl]; exact htl)⟩
          obtain ⟨x, hx⟩ : ∃ x, L[t]? = some x := ⟨_, List.getElem?_eq_getElem (by rw [hL]; exact htl)⟩
          have HX : Hid ((L.map Pr.key)[t]? = some x.key) := by unfold Hid; rw [List.getElem?_map, hx]; rfl
          have HTK := hide (took_at (m := m) ht hp HX.out)
          obtain ⟨b, off, rfl, hr⟩ := (HS.out.below (chain D2.out DX.out)).at plv4 (by decide) hp
          obtain ⟨G, cG, hu, hGb, hGl⟩ := World.ownsRow.form OX.out.row (by omega)
          rw [hL] at hu
          subst hu
          obtain ⟨ax, cx, ex, hpx⟩ := OX.out.prs
          rw [hL] at ex hpx
          simp only [Value.slice.injEq, true_and] at ex
          obtain ⟨rfl, rfl⟩ := ex
          obtain ⟨b', off', eb, hr'⟩ := hpx.rcs.at pr2 (by decide) hx
          simp only [Option.some.injEq, Addr.mk.injEq, and_true] at eb
          obtain ⟨rfl, rfl⟩ := eb
          have hsx : Sts WM x.a x.msgs.length x.cap x.msgs := hpx.shows_ x (List.mem_of_getElem? hx)
          have HSX := hide hsx
          have HLX := hide hx
          have r0 := hr 0 _ rfl
          have r1 := hr 1 _ rfl
          have r2 := hr 2 _ rfl
          have r3 := hr 3 _ rfl
          have s0 := hr' 0 _ rfl
          have s1 := hr' 1 _ rfl
          simp only [Nat.add_zero, Nat.zero_add] at r0 s0 s1
          clear hr hr' hp hx hpx hsx
          have HKX : Hid (x.key = (x.msgs, x.age)) := rfl
          rw [HKX.out] at HTK
          simp only at HTK
          have HPT : Hid (m.port = (t : Int)) := ht
          generalize hk1 : p.k = kk at *
          generalize hss : p.s = ss at *
          generalize hdd : p.d = dd at *
          generalize hrr : p.r = rr at *
          generalize hDD : m.data = DD at *
          rw [ht] at TM hlow hhigh
          have d1 : decide (0 ≤ (t : Int)) = true := decide_eq_true (by omega)
          have d2 : decide ((t : Int) < (k : Int)) = true := decide_eq_true (by omega)
          have hq1 : (t : Int) < (k : Int) := by omega
          have HH : Hid (∀ wz, Below WM.heap.size WM wz → wz.cell? ⟨b, off + t * 4, none⟩ = some (.int .i64 kk) ∧ wz.cell? ⟨b, off + t * 4 + 1, none⟩ = some (.int .i64 ss) ∧ wz.cell? ⟨b, off + t * 4 + 2, none⟩ = some (.int .i64 dd) ∧ wz.cell? ⟨b, off + t * 4 + 3, none⟩ = some (.int .i64 rr) ∧ wz.cell? ⟨G, t * 2, none⟩ = some (.slice x.a x.msgs.length x.cap) ∧ wz.cell? ⟨G, t * 2 + 1, none⟩ = some (.int .i64 x.age) ∧ wz.cell? ⟨wr.heap.size, 0, none⟩ = some (.int .i64 (t : Int)) ∧ wz.cell? ⟨wr.heap.size, 1, none⟩ = some (.string DD)) :=
            fun wz hz => ⟨cell_below r0 hz, cell_below r1 hz, cell_below r2 hz, cell_below r3 hz, cell_below s0 hz, cell_below s1 hz, cell_below TM.out.c0 hz, cell_below TM.out.c1 hz⟩
          have m0 := TM.out.c0
          clear r0 r1 r2 r3 s0 s1
          go_wp2_with fail
          go_cut [18, 19] (fun v7 v8 wx => ∃ (g : Nat) (a5 : Option Addr) (c5 : Nat), v7 = .pointer (some ⟨g, 0, none⟩) ∧ WM.heap.size ≤ g ∧ v8 = .int .i64 (movErr true kk ss dd rr x.msgs x.age DD : Int) ∧ Two wx g (.slice a5 (movL true kk ss dd rr x.msgs x.age DD).length c5) (.int .i64 0) ∧ SLk wx WM.heap.size (.slice a5 (movL true kk ss dd rr x.msgs x.age DD).length c5) (movL true kk ss dd rr x.msgs x.age DD) ∧ Below WM.heap.size WM wx)
          case first =>
            go_region_held3 (fun wz => wz.cell? ⟨b, off + t * 4, none⟩ = some (.int .i64 kk) ∧ wz.cell? ⟨b, off + t * 4 + 1, none⟩ = some (.int .i64 ss) ∧ wz.cell? ⟨b, off + t * 4 + 2, none⟩ = some (.int .i64 dd) ∧ wz.cell? ⟨b, off + t * 4 + 3, none⟩ = some (.int .i64 rr) ∧ wz.cell? ⟨G, t * 2, none⟩ = some (.slice x.a x.msgs.length x.cap) ∧ wz.cell? ⟨G, t * 2 + 1, none⟩ = some (.int .i64 x.age) ∧ wz.cell? ⟨wr.heap.size, 0, none⟩ = some (.int .i64 (t : Int)) ∧ wz.cell? ⟨wr.heap.size, 1, none⟩ = some (.string DD))
              (first | exact HH.out _ (Below.refl _ _) | exact HH.out _ ((Below.refl _ _).drew) | exact HH.out _ (newd_below _ _) | exact HH.out _ (new_below' _ _) | exact HH.out _ B5.out | exact HH.out _ (chain B5.out (new_below' _ _)) | exact HH.out _ ((B5.out.setCell (p := ⟨WM.heap.size, 0, none⟩) (Nat.le_refl _) _).setCell (p := ⟨WM.heap.size, 1, none⟩) (Nat.le_refl _) _))
              (first
                | (go_at_call 25; refine (refPut_any kk ss dd rr x.age x.a x.msgs.length x.cap x.msgs DD (HSX.out.below (newd_below WM (.cells #[.slice none 0 0, .int .i64 0] 26))) hDm).mono ?_; rintro e w5 ⟨x5, rfl, o5, b5⟩; obtain ⟨a5, c5, rfl, _⟩ := o5.row; have O5 := hide o5; have B5 := hide (chain (newd_below WM (.cells #[.slice none 0 0, .int .i64 0] 26)) b5); have T5 := hide (((two_alloc WM (.slice none 0 0) (.int .i64 0) 26).below ((Below.refl _ _).drew)).below b5); have ga := T5.out.c0; have gb := T5.out.c1; have gc := T5.out.f0; have gd := T5.out.f1; clear o5 b5)
                | (go_at_call 25; refine (refPut_any kk ss dd rr x.age x.a x.msgs.length x.cap x.msgs DD (HSX.out.below ((Below.refl _ _).drew)) hDm).mono ?_; rintro e w5 ⟨x5, rfl, o5, b5⟩; obtain ⟨a5, c5, rfl, _⟩ := o5.row; have O5 := hide o5; have B5 := hide (undrew b5); clear o5 b5))
            all_goals go_wp2
            all_goals go_meet
            all_goals first
              | exact ⟨_, _, _, rfl, Nat.le_refl _, rfl, (fin_port (u := .int .i64 0) T5.out O5.out B5.out (by simp) (Nat.le_refl _)).1, (fin_port (u := .int .i64 0) T5.out O5.out B5.out (by simp) (Nat.le_refl _)).2.1.weaken (by simp), (fin_port (u := .int .i64 0) T5.out O5.out B5.out (by simp) (Nat.le_refl _)).2.2⟩
              | exact ⟨_, _, _, rfl, B5.out.size, rfl, two_alloc w5 _ _ _, O5.out.below (new_below' _ _), chain B5.out (new_below' _ _)⟩
          case rest =>
            obtain ⟨g, a5, c5, rfl, hg, rfl, t5, o5, b5⟩ := hcut
            have T5 := hide t5
            have O5 := hide o5
            have B5 := hide b5
            obtain ⟨q0, q1, q2, q3, q4, q5, q6, q7⟩ := HH.out wc b5
            have OXc := hide (OX.out.below b5)
            have RXc := hide (ownsRow_below RX.out b5)
            have DXc := hide (chain DX.out b5)
            clear t5 o5 b5 m0 HH
            have HWm : Hid (WE.heap.size ≤ WM.heap.size) := DX.out.size
            by_cases h0 : movErr true kk ss dd rr x.msgs x.age DD = 0
            · rw [if_pos h0] at HTK
              have HNX := hide (nextK_some HTK.out)
              rw [HPT.out] at HNX
              obtain ⟨a', c', e', st⟩ := O5.out.sts (movL_len _ _ _ _ _ _ _ _) (movL_small _ _ _ _ _ _ HSX.out.small hDm)
              simp only [Value.slice.injEq, true_and] at e'
              obtain ⟨rfl, rfl⟩ := e'
              have HQ : Hid ((⟨a5, c5, movL true kk ss dd rr x.msgs x.age DD, 0⟩ : Pr).Shows wc) := st
              have HF := hide (O5.out.off (g := G) (age := 0) hGl)
              obtain ⟨⟨z0, hz0⟩, ⟨z1, hz1⟩, f0, f1, hput, hgr⟩ := OXc.out.put hL HLX.out HQ.out HF.out
              have HPUT := hide hput
              have R7 := hide (RXc.out.kept hgr PX.out.ne)
              have D7 := hide (DXc.out.grown hgr DXc.out.size (fun k' hk' => by simp at hk'; omega))
              have P7 := hide (PX.out.set (k := t) (q := ⟨a5, c5, movL true kk ss dd rr x.msgs x.age DD, 0⟩) (by
                cases hb0 : u14.ownBlock with
                | none => exact off_none _
                | some g' => exact O5.out.off (g := g') (age := 0) (RX.out.lt g' hb0).2))
              have HOR : Hid (∀ p ∈ L.set t ⟨a5, c5, movL true kk ss dd rr x.msgs x.age DD, 0⟩, p.off (some w.heap.size)) := by
                intro q hq
                rcases List.mem_or_eq_of_mem_set hq with hq | rfl
                · exact hofR.out q hq
                · exact O5.out.off (g := w.heap.size) (age := 0) (by have := HWm.out; omega)
              have HFF : Hid ((ms.take (j + 1)).foldl (stepK ps) (agedAll ps (l.map Pr.key), []) = ((L.set t ⟨a5, c5, movL true kk ss dd rr x.msgs x.age DD, 0⟩).map Pr.key, R)) := by
                unfold Hid
                rw [HFN.out, HNX.out, List.map_set]
                unfold tookB
                rw [HTK.out]
                rfl
              have ta := T5.out.c0
              have tb := T5.out.c1
              clear hput hgr st HTK HFN
              rw [h0]
              generalize movL true kk ss dd rr x.msgs x.age DD = LL at *
              generalize hNN : LL.length = NN at *
              go_wp2
              go_roundw
              case rel => exact ⟨j + 1, _, R, by omega, by go_num, by rw [List.length_set]; exact hL, by omega, HPUT.out, HFF.out, R7.out, P7.out, HOR.out, D7.out⟩
              case measure => simp [intOf]; omega
            · rw [if_neg h0] at HTK
              have hne : ((movErr true kk ss dd rr x.msgs x.age DD : Int) == 0) = false := by simp; omega
              have hne2 : ((movErr true kk ss dd rr x.msgs x.age DD : Int) != 0) = true := by simp; omega
              have OX := hide OXc.out
              have RX := hide RXc.out
              have DX := hide DXc.out
              generalize movErr true kk ss dd rr x.msgs x.age DD = ER at *
              clear h0 q0 q1 q2 q3 q4 q5 q7 OXc RXc DXc ht
              rw [← HPT.out] at q6
              have hwp : IntKind.u32.wrap m.port = m.port % 4294967296 := IntKind.wrap_u32 m.port
              have BL := hide (new_below' wc (.cells #[.int .i64 3, .int .i64 (-1), .int .u32 (m.port % 4294967296), .int .u32 0] 65))
              have RL := hide (ownsRow_below RX.out BL.out)
              have OL := hide (OX.out.below BL.out)
              go_wp2_with (at_builtin; refine append_rec rfl (.tmp 95) (.tmp 100) 33 65 rfl Tryd.underlying33 HR.out (by decide) WE.heap.size _ R.length (R.flatMap repc) rfl RL.out wc.heap.size 1 (repc m.port) rfl rfl (fun i u hu => by rw [World.cell?_alloc_at _ _ _ _ rfl]; simpa [repc] using hu) (fun u hu => repc_one [m.port] u (by simpa using hu)) (by unfold maxLen; omega) (by omega) (Nat.le_trans DX.out.size BL.out.size) ?_; intro g6 c6 w6 ho6 hg6 hat6 hlt6)
              have O6 := hide (OL.out.grown hg6 PX.out)
              have P6 := hide (PrOff.moved OL.out PX.out hat6)
              have D6 := hide ((chain DX.out BL.out).grown hg6 (chain DX.out BL.out).size (fun k' hk' => (RL.out.lt k' hk').1))
              have R6 := hide ho6
              clear ho6 hg6 hat6
              refine ⟨⟨j + 1, L, R ++ [m.port], by omega, by go_num, hL, by rw [List.length_append]; simp; omega, O6.out, ?_, ?_, P6.out, hofR.out, D6.out⟩, by simp [intOf]; omega⟩
              · unfold Hid
                rw [HFN.out, nextK_none HTK.out]
                unfold tookB
                rw [HTK.out]
                rfl
              · unfold Hid
                rw [List.length_append, List.flatMap_append]
                simpa using R6.out
        · obtain rfl : j = lm := by omega
          have HT : Hid (ms.take j = ms) := by unfold Hid; rw [← hlm, List.take_length]
          rw [HT.out] at hfold
          have HF2 : Hid (arrK ps (l.map Pr.key) ms = (L.map Pr.key, R)) := by unfold Hid; rw [HAR.out]; exact hfold.out
          clear hlt hfold
          go_wp2_with fail
          refine Calls.mono (refNone_any wr) ?_
          rintro e w8 ⟨rfl, b8⟩
          have T8 := hide (T2.out.below (chain hb.out b8))
          have D8 := hide (chain D2.out (chain hb.out b8))
          have O8 := hide (hown.out.below b8)
          have R8 := hide (ownsRow_below hrep.out b8)
          have g0 := T8.out.c0
          have g1 := T8.out.c1
          have f0 := T8.out.f0
          have f1 := T8.out.f1
          clear b8
          go_wp2
          have Q3 := hide (T8.out.set (.int .i64 0) (.int .i64 (-1)))
          have D3 := hide ((D8.out.setCell (p := ⟨w.heap.size, 0, none⟩) (Nat.le_refl _) (.int .i64 0)).setCell (p := ⟨w.heap.size, 1, none⟩) (Nat.le_refl _) (.int .i64 (-1)))
          have hne2 : ∀ q, q = w.heap.size → some q ≠ none := fun _ _ => by simp
          have G1 := hide (set_two w8 w.heap.size (.int .i64 0) (.int .i64 (-1)))
          have O9 := hide (O8.out.grown G1.out ⟨under_ne O8.out.row (by omega), hofR.out⟩)
          have R9 := hide (R8.out.kept G1.out (under_ne R8.out (by omega)))
          generalize (w8.setCell ⟨w.heap.size, 0, none⟩ (.int .i64 0)).setCell ⟨w.heap.size, 1, none⟩ (.int .i64 (-1)) = W9 at *
          have e0 := Q3.out.c0
          have e1 := Q3.out.c1
          (try simp only [Exit.inBlock, Exit.then])
          refine bodyPost_ret (v := .tuple #[u10, u14, .agg #[.int .i64 0, .int .i64 (-1)]]) (by simp [results, Tryd.results8, go_sem, e0, e1]) rfl ?_
          exact ⟨_, _, by rw [HE0.out]; rfl, ⟨L, O9.out.weaken (by omega), by rw [HF2.out]⟩, by rw [HF2.out]; exact ownsRow_weaken R9.out (by omega), D3.out⟩
end Go.Proofs.YtgcodajiehfloaaDoor
