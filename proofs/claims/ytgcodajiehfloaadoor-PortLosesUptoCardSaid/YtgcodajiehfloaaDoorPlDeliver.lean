/-
  A message comes to one of many ports: the program's deliver.
-/
import Derived.Test.YtgcodajiehfloaaDoorPlStep
import Derived.Test.YtgcodajiehfloaaDoorPlAll
import Derived.Test.YtgcodajiehfloaaDoorPtRAge
namespace Go.Proofs.YtgcodajiehfloaaDoor
open Go.RowKit
set_option linter.unusedVariables false
set_option linter.unusedSimpArgs false

/-- The ports behind one message. -/
def nextK (ps : List Plv) (ks : List Key) (m : Mgv) : List Key := (stepK ps (ks, []) m).1
theorem nextK_none {ps : List Plv} {ks : List Key} {m : Mgv} (h : took ps ks m = none) : nextK ps ks m = ks := by unfold nextK; rw [stepK_none h]
theorem nextK_some {ps : List Plv} {ks : List Key} {m : Mgv} {y : Key} (h : took ps ks m = some y) : nextK ps ks m = ks.set m.port.toNat y := by unfold nextK; rw [stepK_some h]
def tookB (ps : List Plv) (ks : List Key) (m : Mgv) : Bool := (took ps ks m).isSome
theorem below_grown {w w' : World} (h : Below w.heap.size w w') (g : Option Nat) : w.grownBy w' g := ⟨h.os, h.tape, h.output, h.size, fun k hk _ => h.block k hk⟩
theorem grown_trans {w w1 w2 : World} {g : Option Nat} (h1 : w.grownBy w1 g) (h2 : w1.grownBy w2 g) : w.grownBy w2 g :=
  ⟨h2.os.trans h1.os, h2.tape.trans h1.tape, h2.output.trans h1.output, Nat.le_trans h1.size h2.size, fun k hk hne => by rw [h2.block k (Nat.lt_of_lt_of_le hk h1.size) hne, h1.block k hk hne]⟩

set_option maxRecDepth 100000 in
set_option maxHeartbeats 4000000 in
theorem deliver_any {w : World} {E : Nat → Addr} (he : Errs w E) (a : Option Addr) (len cap : Nat) (ps : List Plv) (G base c : Nat) (l : List Pr) (m : Mgv) (hs : Rcs Plv.cells 4 w a len cap ps) (ho : PrOwn w base (.slice (some ⟨G, 0, none⟩) len c) l) (hn : l.length = len) (hm : len ≤ 1048576) (hD : m.data.size ≤ 9223372036854775807) :
    Calls Tryd.prog 21 #[.slice a len cap, .slice (some ⟨G, 0, none⟩) len c, .agg #[.int .i64 m.port, .string m.data]] w fun e w' => e = .returned (.bool (tookB ps (l.map Pr.key) m)) ∧ ∃ l', PrOwn w' base (.slice (some ⟨G, 0, none⟩) len c) l' ∧ l'.length = len ∧
      l'.map Pr.key = nextK ps (l.map Pr.key) m ∧ w.grownBy w' (some G) ∧ (∀ g, g < w.heap.size → PrOff (some g) (.slice (some ⟨G, 0, none⟩) len c) l → PrOff (some g) (.slice (some ⟨G, 0, none⟩) len c) l') := by
  have HE := hide he
  have HS := hide hs
  have HO := hide ho
  have hl := hs.size
  have HGl : G < w.heap.size := by
    rcases ho.row.2 with ⟨e, _⟩ | ⟨g', cap', cur, e, hg, hh, _⟩
    · simp at e
    · simp only [Value.slice.injEq, Option.some.injEq, Addr.mk.injEq, and_true] at e
      obtain ⟨rfl, _⟩ := e
      exact (Array.getElem?_eq_some_iff.1 hh).1
  clear he hs ho
  have T0 := hide (two_alloc w (.int .i64 m.port) (.string m.data) 53)
  have B0 := hide (new_below' w (.cells #[.int .i64 m.port, .string m.data] 53))
  by_cases hlow : m.port < 0
  · have d1 : decide (m.port < 0) = true := decide_eq_true hlow
    have HT := hide (took_low (ps := ps) (ks := l.map Pr.key) hlow)
    have HB : Hid (tookB ps (l.map Pr.key) m = false) := by unfold Hid tookB; rw [HT.out]; rfl
    go_enter Tryd.func21, Tryd.ntmps21
    go_wp2
    go_ret
    exact ⟨ret_bool (by rw [HB.out]), l, HO.out.below B0.out, hn, (nextK_none HT.out).symm, below_grown B0.out _, fun _ _ h => h⟩
  by_cases hhigh : (len : Int) ≤ m.port
  · have d1 : decide (m.port < 0) = false := decide_eq_false hlow
    have d2 : decide ((len : Int) ≤ m.port) = true := decide_eq_true hhigh
    have HT := hide (took_high (ps := ps) (ks := l.map Pr.key) (m := m) (by rw [hl]; exact hhigh))
    have HB : Hid (tookB ps (l.map Pr.key) m = false) := by unfold Hid tookB; rw [HT.out]; rfl
    go_enter Tryd.func21, Tryd.ntmps21
    go_wp2
    go_ret
    exact ⟨ret_bool (by rw [HB.out]), l, HO.out.below B0.out, hn, (nextK_none HT.out).symm, below_grown B0.out _, fun _ _ h => h⟩
  obtain ⟨j, hj⟩ : ∃ j : Nat, m.port = (j : Int) := ⟨m.port.toNat, by omega⟩
  have hjl : j < len := by omega
  obtain ⟨p, hp⟩ : ∃ p, ps[j]? = some p := ⟨_, List.getElem?_eq_getElem (by rw [hl]; exact hjl)⟩
  obtain ⟨x, hx⟩ : ∃ x, l[j]? = some x := ⟨_, List.getElem?_eq_getElem (by rw [hn]; exact hjl)⟩
  have HX : Hid ((l.map Pr.key)[j]? = some x.key) := by unfold Hid; rw [List.getElem?_map, hx]; rfl
  have HTK := hide (took_at (m := m) hj hp HX.out)
  obtain ⟨b, off, rfl, hr⟩ := (HS.out.below B0.out).at plv4 (by decide) hp
  have hxc := (HO.out.below B0.out).prs
  obtain ⟨ax, cx, ex, hpx⟩ := hxc
  rw [hn] at ex hpx
  simp only [Value.slice.injEq, true_and] at ex
  obtain ⟨rfl, rfl⟩ := ex
  obtain ⟨b', off', eb, hr'⟩ := hpx.rcs.at pr2 (by decide) hx
  simp only [Option.some.injEq, Addr.mk.injEq, and_true] at eb
  obtain ⟨rfl, rfl⟩ := eb
  have hsx : Sts (w.alloc (.cells #[.int .i64 m.port, .string m.data] 53)) x.a x.msgs.length x.cap x.msgs := hpx.shows_ x (List.mem_of_getElem? hx)
  have HSX := hide hsx
  have HLX := hide hx
  have r0 := hr 0 _ rfl
  have r1 := hr 1 _ rfl
  have r2 := hr 2 _ rfl
  have r3 := hr 3 _ rfl
  have s0 := hr' 0 _ rfl
  have s1 := hr' 1 _ rfl
  simp only [Nat.add_zero, Nat.zero_add] at r0 s0 s1
  clear hr hr' hp hx hpx hsx
  have HKX : Hid (x.key = (x.msgs, x.age)) := rfl
  rw [HKX.out] at HTK
  simp only at HTK
  generalize hk : p.k = kk at *
  generalize hss : p.s = ss at *
  generalize hdd : p.d = dd at *
  generalize hrr : p.r = rr at *
  generalize hDD : m.data = DD at *
  generalize hPP : m.port = PP at *
  subst hj
  have d1 : decide ((j : Int) < 0) = false := decide_eq_false hlow
  have d2 : decide ((len : Int) ≤ (j : Int)) = false := decide_eq_false hhigh
  have hq1 : (j : Int) < (len : Int) := by omega
  go_enter Tryd.func21, Tryd.ntmps21
  go_wp2_with fail
  generalize w.alloc (.cells #[.int .i64 (j : Int), .string DD] 53) = W0 at *
  have HH : Hid (∀ wz, Below W0.heap.size W0 wz → wz.cell? ⟨b, off + j * 4, none⟩ = some (.int .i64 kk) ∧ wz.cell? ⟨b, off + j * 4 + 1, none⟩ = some (.int .i64 ss) ∧ wz.cell? ⟨b, off + j * 4 + 2, none⟩ = some (.int .i64 dd) ∧ wz.cell? ⟨b, off + j * 4 + 3, none⟩ = some (.int .i64 rr) ∧ wz.cell? ⟨G, j * 2, none⟩ = some (.slice x.a x.msgs.length x.cap) ∧ wz.cell? ⟨G, j * 2 + 1, none⟩ = some (.int .i64 x.age) ∧ wz.cell? ⟨w.heap.size, 0, none⟩ = some (.int .i64 (j : Int)) ∧ wz.cell? ⟨w.heap.size, 1, none⟩ = some (.string DD)) :=
    fun wz hz => ⟨cell_below r0 hz, cell_below r1 hz, cell_below r2 hz, cell_below r3 hz, cell_below s0 hz, cell_below s1 hz, cell_below T0.out.c0 hz, cell_below T0.out.c1 hz⟩
  clear r0 r1 r2 r3 s0 s1
  go_cut [7, 8] (fun v7 v8 wx => ∃ (g : Nat) (a5 : Option Addr) (c5 : Nat), v7 = .pointer (some ⟨g, 0, none⟩) ∧ W0.heap.size ≤ g ∧ Bare E v8 (movErr true kk ss dd rr x.msgs x.age DD) ∧ Two wx g (.slice a5 (movL true kk ss dd rr x.msgs x.age DD).length c5) (.int .i64 0) ∧ SLk wx W0.heap.size (.slice a5 (movL true kk ss dd rr x.msgs x.age DD).length c5) (movL true kk ss dd rr x.msgs x.age DD) ∧ Below W0.heap.size W0 wx)
  case first =>
    go_region_held3 (fun wz => wz.cell? ⟨b, off + j * 4, none⟩ = some (.int .i64 kk) ∧ wz.cell? ⟨b, off + j * 4 + 1, none⟩ = some (.int .i64 ss) ∧ wz.cell? ⟨b, off + j * 4 + 2, none⟩ = some (.int .i64 dd) ∧ wz.cell? ⟨b, off + j * 4 + 3, none⟩ = some (.int .i64 rr) ∧ wz.cell? ⟨G, j * 2, none⟩ = some (.slice x.a x.msgs.length x.cap) ∧ wz.cell? ⟨G, j * 2 + 1, none⟩ = some (.int .i64 x.age) ∧ wz.cell? ⟨w.heap.size, 0, none⟩ = some (.int .i64 (j : Int)) ∧ wz.cell? ⟨w.heap.size, 1, none⟩ = some (.string DD))
      (first | exact HH.out _ (Below.refl _ _) | exact HH.out _ ((Below.refl _ _).drew) | exact HH.out _ (newd_below _ _) | exact HH.out _ (new_below' _ _) | exact HH.out _ B5.out | exact HH.out _ (chain B5.out (new_below' _ _)) | exact HH.out _ ((B5.out.setCell (p := ⟨W0.heap.size, 0, none⟩) (Nat.le_refl _) _).setCell (p := ⟨W0.heap.size, 1, none⟩) (Nat.le_refl _) _))
      (first
        | (go_at_call 16; refine (put_any (HE.out.below (chain B0.out (newd_below W0 (.cells #[.slice none 0 0, .int .i64 0] 26)))) kk ss dd rr x.age x.a x.msgs.length x.cap x.msgs DD (HSX.out.below (newd_below W0 (.cells #[.slice none 0 0, .int .i64 0] 26))) hD).mono ?_; rintro e w5 ⟨x5, v5, rfl, hv5, o5, b5⟩; obtain ⟨a5, c5, rfl, _⟩ := o5.row; have V5 := hide hv5; have O5 := hide o5; have B5 := hide (chain (newd_below W0 (.cells #[.slice none 0 0, .int .i64 0] 26)) b5); have T5 := hide (((two_alloc W0 (.slice none 0 0) (.int .i64 0) 26).below ((Below.refl _ _).drew)).below b5); have ga := T5.out.c0; have gb := T5.out.c1; have gc := T5.out.f0; have gd := T5.out.f1; have hk5 : Hid True := trivial; clear hv5 o5 b5)
        | (go_at_call 16; refine (put_any (HE.out.below (chain B0.out ((Below.refl _ _).drew))) kk ss dd rr x.age x.a x.msgs.length x.cap x.msgs DD (HSX.out.below ((Below.refl _ _).drew)) hD).mono ?_; rintro e w5 ⟨x5, v5, rfl, hv5, o5, b5⟩; obtain ⟨a5, c5, rfl, _⟩ := o5.row; have V5 := hide hv5; have O5 := hide o5; have B5 := hide (undrew b5); clear hv5 o5 b5))
    all_goals go_wp2
    all_goals go_meet
    all_goals first
      | exact ⟨_, _, _, rfl, Nat.le_refl _, V5.out, (fin_port (u := .int .i64 0) T5.out O5.out B5.out (by simp) (Nat.le_refl _)).1, (fin_port (u := .int .i64 0) T5.out O5.out B5.out (by simp) (Nat.le_refl _)).2.1.weaken (by simp), (fin_port (u := .int .i64 0) T5.out O5.out B5.out (by simp) (Nat.le_refl _)).2.2⟩
      | exact ⟨_, _, _, rfl, B5.out.size, V5.out, two_alloc w5 _ _ _, O5.out.below (new_below' _ _), chain B5.out (new_below' _ _)⟩
  case rest =>
    obtain ⟨g, a5, c5, rfl, hg, hv5, t5, o5, b5⟩ := hcut
    have V5 := hide hv5
    have T5 := hide t5
    have O5 := hide o5
    have B5 := hide b5
    have D5 := hide (chain B0.out b5)
    have hzw : w.heap.size ≤ W0.heap.size := B0.out.size
    clear t5 o5 b5 hv5
    rcases V5.out with ⟨rfl, h0⟩ | ⟨h1, h2, rfl⟩
    · rw [if_pos h0] at HTK
      have HB : Hid (tookB ps (l.map Pr.key) m = true) := by unfold Hid tookB; rw [HTK.out]; rfl
      have HNX := hide (nextK_some HTK.out)
      rw [hPP] at HNX
      obtain ⟨q0, q1, q2, q3, q4, q5, q6, q7⟩ := HH.out wc B5.out
      obtain ⟨a', c', e', st⟩ := O5.out.sts (movL_len _ _ _ _ _ _ _ _) (movL_small _ _ _ _ _ _ HSX.out.small hD)
      simp only [Value.slice.injEq, true_and] at e'
      obtain ⟨rfl, rfl⟩ := e'
      have HQ : Hid ((⟨a5, c5, movL true kk ss dd rr x.msgs x.age DD, 0⟩ : Pr).Shows wc) := st
      have HF := hide (O5.out.off (g := G) (age := 0) (by omega))
      obtain ⟨⟨u0, hu0⟩, ⟨u1, hu1⟩, f0, f1, hput, hgr⟩ := (HO.out.below D5.out).put hn HLX.out HQ.out HF.out
      have HPUT := hide hput
      have HGR := hide (grown_trans (below_grown D5.out (some G)) hgr)
      have HFR : Hid (∀ g, g < w.heap.size → PrOff (some g) (.slice (some ⟨G, 0, none⟩) len c) l → PrOff (some g) (.slice (some ⟨G, 0, none⟩) len c) (l.set j ⟨a5, c5, movL true kk ss dd rr x.msgs x.age DD, 0⟩)) :=
        fun g' hg' h => h.set (O5.out.off (g := g') (age := 0) (by omega))
      have ta := T5.out.c0
      have tb := T5.out.c1
      clear hput hgr st T0 HTK
      generalize hLL : movL true kk ss dd rr x.msgs x.age DD = LL at *
      generalize hNN : LL.length = NN at *
      simp only at HPUT HGR
      go_wp2
      go_ret
      refine ⟨ret_bool (by rw [HB.out]), _, HPUT.out, by rw [List.length_set]; exact hn, ?_, HGR.out, HFR.out⟩
      rw [HNX.out, List.map_set]
      rfl
    · rw [if_neg (by omega)] at HTK
      have HB : Hid (tookB ps (l.map Pr.key) m = false) := by unfold Hid tookB; rw [HTK.out]; rfl
      unfold sent
      go_wp2
      go_ret
      exact ⟨ret_bool (by rw [HB.out]), l, HO.out.below D5.out, hn, (nextK_none HTK.out).symm, below_grown D5.out _, fun _ _ h => h⟩
end Go.Proofs.YtgcodajiehfloaaDoor
