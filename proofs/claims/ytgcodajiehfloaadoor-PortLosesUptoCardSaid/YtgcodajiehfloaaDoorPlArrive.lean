/-
  A frame's begin, for all ports: the program's Arrive.
-/
import Derived.Test.YtgcodajiehfloaaDoorPlDeliver
namespace Go.Proofs.YtgcodajiehfloaaDoor
open Go.RowKit
set_option linter.unusedVariables false
set_option linter.unusedSimpArgs false

def zpr : Pr := ⟨none, 0, [], 0⟩
theorem zpr_shows (w : World) : zpr.Shows w := ⟨rfl, by decide, fun s hs => by simp [zpr] at hs, rfl, Nat.le_refl _, fun _ => ⟨rfl, rfl⟩, fun j v hv => by simp [zpr] at hv⟩
theorem zeroPort {i : TypeInfo} {z : Value} (hi : Tryd.prog.info? 26 = some i) (hz : i.zero = some z) : z.cells = zpr.cells.toArray := by
  have h : (Tryd.prog.info? 26).map (fun i => i.zero.map (·.cells)) = some (some zpr.cells.toArray) := by kernel_rfl
  rw [hi] at h
  simp only [Option.map_some, hz, Option.some.injEq] at h
  exact h
/-- What make lays. -/
theorem prown_made {w : World} {base g n : Nat} {z : Array Value} (hz : z = zpr.cells.toArray) (h : w.ownsRow base 26 2 (.slice (some ⟨g, 0, none⟩) n n) n (madeCells z (n * 2)).toList) : PrOwn w base (.slice (some ⟨g, 0, none⟩) n n) (List.replicate n zpr) := by
  rw [made_flat pr2 (by decide) zpr hz] at h
  refine ⟨by rw [List.length_replicate]; exact h, fun p hp => ?_, fun p hp => ?_⟩
  · rw [(List.mem_replicate.1 hp).2]; exact zpr_shows w
  · rw [(List.mem_replicate.1 hp).2]; intro h; exact absurd rfl h
/-- The first k of them laid. -/
def partL (xs : List Key) (n k : Nat) : List Key := xs.take k ++ List.replicate (n - k) ([], 0)
theorem partL_next {xs : List Key} {n k : Nat} {x : Key} (hn : xs.length = n) (hx : xs[k]? = some x) : (partL xs n k).set k x = partL xs n (k + 1) := by
  have hk : k < xs.length := (List.getElem?_eq_some_iff.1 hx).1
  have hlt : (xs.take k).length = k := by rw [List.length_take]; omega
  unfold partL
  rw [List.set_append_right _ _ (by omega), hlt, Nat.sub_self, List.take_add_one, hx, show n - k = (n - (k + 1)) + 1 by omega, List.replicate_succ]
  simp
theorem partL_full {xs : List Key} {n : Nat} (hn : xs.length = n) : partL xs n n = xs := by simp [partL, ← hn]
theorem stepK_eq (ps : List Plv) (ks : List Key) (R : List Int) (m : Mgv) : stepK ps (ks, R) m = (nextK ps ks m, if tookB ps ks m = true then R else R ++ [m.port]) := by
  unfold nextK tookB
  cases h : took ps ks m with
  | none => rw [stepK_none h, stepK_none h]; simp
  | some y => rw [stepK_some h, stepK_some h]; simp
theorem PrOff.none_ {g n c : Nat} (l : List Pr) : PrOff none (.slice (some ⟨g, 0, none⟩) n c) l := ⟨.inr (by simp [Value.ownBlock]), fun p _ => off_none p⟩
theorem PrOff.on {w w5 : World} {base g n c k : Nat} {r : Value} {e : TypeId} {sz : Nat} {xs : List Value} {l l' : List Pr} (hr : w.ownsRow base e sz r k xs) (ho : PrOff r.ownBlock (.slice (some ⟨g, 0, none⟩) n c) l)
    (h : ∀ g', g' < w.heap.size → PrOff (some g') (.slice (some ⟨g, 0, none⟩) n c) l → PrOff (some g') (.slice (some ⟨g, 0, none⟩) n c) l') : PrOff r.ownBlock (.slice (some ⟨g, 0, none⟩) n c) l' := by
  cases hb : r.ownBlock with
  | none => exact PrOff.none_ _
  | some g' =>
    rw [hb] at ho
    exact h g' (hr.lt g' hb).2 ho
theorem PrOff.ne {g n c : Nat} {o : Option Nat} {l : List Pr} (ho : PrOff o (.slice (some ⟨g, 0, none⟩) n c) l) : o = none ∨ o ≠ some g := by
  rcases ho.row with h | h
  · simp [Value.ownBlock] at h
  · exact .inr (Ne.symm h)
theorem rcs_lt {α : Type} {f : α → List Value} {sz : Nat} (hf : ∀ x, (f x).length = sz) (h0 : 0 < sz) {w : World} {b off len cap : Nat} {l : List α} (h : Rcs f sz w (some ⟨b, off, none⟩) len cap l) {k : Nat} {x : α} (hx : l[k]? = some x) : b < w.heap.size := by
  obtain ⟨b', off', e, hr⟩ := h.at hf h0 hx
  simp only [Option.some.injEq, Addr.mk.injEq, and_true] at e
  obtain ⟨rfl, rfl⟩ := e
  have := hf x
  exact block_lt_of_cell (hr 0 _ (List.getElem?_eq_getElem (by omega)))
def arrK (ps : List Plv) (ks : List Key) (ms : List Mgv) : List Key × List Int := if (allE ps ks).1 = 0 then arrive ps ks ms else ([], [])

set_option maxRecDepth 100000 in
set_option maxHeartbeats 4000000 in
theorem arrive_any {w : World} {E : Nat → Addr} (he : Errs w E) (a : Option Addr) (len cap : Nat) (ps : List Plv) (a' : Option Addr) (len' cap' : Nat) (l : List Pr) (am : Option Addr) (lm cm : Nat) (ms : List Mgv) (hs : Rcs Plv.cells 4 w a len cap ps) (hs' : Prs w a' len' cap' l) (hsm : Rcs Mgv.cells 2 w am lm cm ms)
    (hm : len ≤ 1048576) (hm' : len' ≤ 1048576) (hmm : lm ≤ 1048576) (hD : ∀ m ∈ ms, m.data.size ≤ 9223372036854775807) :
    Calls Tryd.prog 6 #[.slice a len cap, .slice a' len' cap', .slice am lm cm] w fun e w' => ∃ x r v, e = .returned (.tuple #[x, r, v]) ∧ IsErr w' E v (allE ps (l.map Pr.key)).1 (allE ps (l.map Pr.key)).2 ∧ (∃ l', PrOwn w' w.heap.size x l' ∧ l'.map Pr.key = (arrK ps (l.map Pr.key) ms).1) ∧
      w'.ownsRow w.heap.size 65 4 r (arrK ps (l.map Pr.key) ms).2.length ((arrK ps (l.map Pr.key) ms).2.flatMap repc) ∧ Below w.heap.size w w' := by
  have HE := hide he
  have HS := hide hs
  have HS' := hide hs'
  have HM := hide hsm
  have HD := hide hD
  have hl := hs.size
  have hl' := hs'.rcs.size
  have hlm := hsm.size
  have HI := hide infoPort
  have HR := hide infoRep
  clear he hs hs' hsm hD
  go_enter Tryd.func6, Tryd.ntmps6
  go_wp2_with fail
  refine Calls.mono (checkAll_any HE.out a len cap ps a' len' cap' l HS.out HS'.out hm hm') ?_
  rintro e w1 ⟨v, rfl, hv, b1⟩
  have B1 := hide b1
  have V1 := hide hv
  clear b1 hv
  have bad : ∀ T : TypeId, ∀ P : Value, v = .iface T P → ¬ (allE ps (l.map Pr.key)).1 = 0 → Hid (arrK ps (l.map Pr.key) ms = ([], [])) := fun T P _ h => by unfold Hid arrK; rw [if_neg h]
  rcases V1.out with ⟨rfl, h0, h0'⟩ | ⟨h1, h2, e, h3⟩ | ⟨h1, h2, b, o, e, h3, h4⟩
  · go_wp2_with (obtain ⟨i, z, hi, hz, hsz, hby, hzs⟩ := HI.out; refine wpList_make_full w1 rfl (.tmp 23) (.tmp 23) 28 rfl w.heap.size 26 i z 2 Tryd.underlying28 hi hz hsz .i64 .i64 (len' : Int) (len' : Int) len' rfl rfl rfl rfl (by rw [hby]; omega) (by unfold maxLen; omega) B1.out.size ?_; have hzp := zeroPort hi hz; clear hi hz hsz hby hzs; intro w2 ho2 hg2; replace ho2 := prown_made hzp ho2; clear hzp)
    obtain ⟨hle, hbp, hbq⟩ := allE_zero h0
    have hll : len = len' := by rw [List.length_map] at hle; omega
    subst hll
    have HBP := hide hbp
    have HBQ := hide hbq
    have HAR : Hid (arrK ps (l.map Pr.key) ms = arrive ps (l.map Pr.key) ms) := by unfold Hid arrK; rw [if_pos h0]
    have HAL := hide (agedAll_len hle)
    have hG : w1.heap.size < w2.heap.size := (ho2.row.lt w1.heap.size rfl).2
    have hGw : w.heap.size ≤ w1.heap.size := B1.out.size
    have O2 := hide ho2
    have B2 := hide (B1.out.grown hg2 B1.out.size (fun k hk => by simp at hk))
    have HLE := hide hle
    clear ho2 hg2 hbp hbq hle
    go_loopw [27] (fun i wr => ∃ (k : Nat) (L : List Pr), k ≤ len ∧ i = .int .i64 (k : Int) ∧ L.length = len ∧ w1.heap.size < wr.heap.size ∧ Hid (PrOwn wr w.heap.size (.slice (some ⟨w1.heap.size, 0, none⟩) len len) L) ∧ Hid (L.map Pr.key = partL (agedAll ps (l.map Pr.key)) len k) ∧ Hid (Below w.heap.size w wr)) (fun i _ => len - (intOf i).toNat)
    case atStart => exact ⟨0, _, by omega, rfl, by simp, hG, O2.out, by unfold Hid partL; simp [zpr, Pr.key], B2.out⟩
    case round =>
      obtain ⟨k, L, hk, rfl, hL, hGr, hown, hkey, hb⟩ := hrel
      by_cases hlt : k < len
      · obtain ⟨p, hp⟩ : ∃ p, ps[k]? = some p := ⟨_, List.getElem?_eq_getElem (by rw [hl]; exact hlt)⟩
        obtain ⟨x, hx⟩ : ∃ x, l[k]? = some x := ⟨_, List.getElem?_eq_getElem (by rw [hl']; exact hlt)⟩
        obtain ⟨y, hy⟩ : ∃ y, L[k]? = some y := ⟨_, List.getElem?_eq_getElem (by rw [hL]; exact hlt)⟩
        have HX : Hid ((l.map Pr.key)[k]? = some x.key) := by unfold Hid; rw [List.getElem?_map, hx]; rfl
        have hfl := fit_len (good_plan HBP.out hp) (good_port HBQ.out hp HX.out)
        have hage : 0 ≤ x.age ∧ x.age ≤ 255 := hfl.2
        have HAT : Hid ((agedAll ps (l.map Pr.key))[k]? = some (x.msgs, agedV p.k x.msgs.length x.age)) := agedAll_at hp HX.out
        obtain ⟨b, off, rfl, hr⟩ := (HS.out.below hb.out).at plv4 (by decide) hp
        obtain ⟨b', off', rfl, hr'⟩ := (HS'.out.below hb.out).rcs.at pr2 (by decide) hx
        have hsx : Sts wr x.a x.msgs.length x.cap x.msgs := (HS'.out.below hb.out).shows_ x (List.mem_of_getElem? hx)
        have hbl := rcs_lt pr2 (by decide) HS'.out.rcs hx
        have HSX := hide hsx
        have HY := hide hy
        have r0 := hr 0 _ rfl
        have r1 := hr 1 _ rfl
        have r2 := hr 2 _ rfl
        have r3 := hr 3 _ rfl
        have s0 := hr' 0 _ rfl
        have s1 := hr' 1 _ rfl
        simp only [Nat.add_zero] at r0 s0
        clear hr hr' hp hx hy hsx hfl
        generalize p.k = kk at *
        generalize p.s = ss at *
        generalize p.d = dd at *
        generalize p.r = rr at *
        have BP := hide (new_below' wr (.cells #[.int .i64 kk, .int .i64 ss, .int .i64 dd, .int .i64 rr] 23))
        have PL := hide (pls_alloc wr kk ss dd rr)
        have t0 := cell_below s0 BP.out
        have t1 := cell_below s1 BP.out
        have hq1 : (k : Int) < (len : Int) := by omega
        go_wp2_with fail
        generalize wr.alloc (.cells #[.int .i64 kk, .int .i64 ss, .int .i64 dd, .int .i64 rr] 23) = WP at *
        have HH : Hid (∀ wz, Below WP.heap.size WP wz → wz.cell? ⟨wr.heap.size, 0, none⟩ = some (.int .i64 kk) ∧ wz.cell? ⟨wr.heap.size, 1, none⟩ = some (.int .i64 ss) ∧ wz.cell? ⟨wr.heap.size, 2, none⟩ = some (.int .i64 dd) ∧ wz.cell? ⟨wr.heap.size, 3, none⟩ = some (.int .i64 rr) ∧ wz.cell? ⟨b', off' + k * 2, none⟩ = some (.slice x.a x.msgs.length x.cap) ∧ wz.cell? ⟨b', off' + k * 2 + 1, none⟩ = some (.int .i64 x.age)) :=
          fun wz hz => by have q := PL.out.below hz; exact ⟨q.c0, q.c1, q.c2, q.c3, cell_below t0 hz, cell_below t1 hz⟩
        clear r0 r1 r2 r3 s0 s1
        go_region_held3 (fun wz => wz.cell? ⟨wr.heap.size, 0, none⟩ = some (.int .i64 kk) ∧ wz.cell? ⟨wr.heap.size, 1, none⟩ = some (.int .i64 ss) ∧ wz.cell? ⟨wr.heap.size, 2, none⟩ = some (.int .i64 dd) ∧ wz.cell? ⟨wr.heap.size, 3, none⟩ = some (.int .i64 rr) ∧ wz.cell? ⟨b', off' + k * 2, none⟩ = some (.slice x.a x.msgs.length x.cap) ∧ wz.cell? ⟨b', off' + k * 2 + 1, none⟩ = some (.int .i64 x.age))
          (first | exact HH.out _ (Below.refl _ _) | exact HH.out _ ((Below.refl _ _).drew) | exact HH.out _ B5.out | (have q := HH.out _ B5.out; exact ⟨HGR.out.cell q.1 (by simp; omega), HGR.out.cell q.2.1 (by simp; omega), HGR.out.cell q.2.2.1 (by simp; omega), HGR.out.cell q.2.2.2.1 (by simp; omega), HGR.out.cell q.2.2.2.2.1 (by simp; omega), HGR.out.cell q.2.2.2.2.2 (by simp; omega)⟩))
          ((go_at_call 20; refine (aged_any kk ss dd rr x.age x.a x.msgs.length x.cap x.msgs _ (HSX.out.below (chain BP.out ((Below.refl _ _).drew))) hage.1 hage.2).mono ?_; rintro e w5 ⟨v5, rfl, o5, b5⟩; obtain ⟨a5, c5, rfl, st5⟩ := o5.sts HSX.out.most HSX.out.small; have B5 := hide (undrew b5); have HQ : Hid ((⟨a5, c5, x.msgs, agedV kk x.msgs.length x.age⟩ : Pr).Shows w5) := st5; have HF := hide (o5.off (g := w1.heap.size) (age := agedV kk x.msgs.length x.age) (by have := BP.out.size; show _ < WP.heap.size; omega)); obtain ⟨⟨z0, hz0⟩, ⟨z1, hz1⟩, f0, f1, hput, hgr⟩ := (hown.out.below (chain BP.out B5.out)).put hL HY.out HQ.out HF.out; have HPUT := hide hput; have HGR := hide hgr; clear o5 b5 st5 hput hgr))
        rename_i hheld
        clear hheld hz0 hz1 f0 f1 t0 t1
        have HBF := hide ((chain hb.out (chain BP.out B5.out)).grown HGR.out (chain hb.out (chain BP.out B5.out)).size (fun k' hk' => by simp at hk'; omega))
        have hGF : w1.heap.size < ((w5.setCell ⟨w1.heap.size, k * 2, none⟩ (.slice a5 x.msgs.length c5)).setCell ⟨w1.heap.size, k * 2 + 1, none⟩ (.int .i64 (agedV kk x.msgs.length x.age))).heap.size := Nat.lt_of_lt_of_le hGr (Nat.le_trans (chain BP.out B5.out).size HGR.out.size)
        have hKF : (L.set k ⟨a5, c5, x.msgs, agedV kk x.msgs.length x.age⟩).map Pr.key = partL (agedAll ps (l.map Pr.key)) len (k + 1) := by
          rw [List.map_set, hkey.out, ← partL_next (HAL.out.trans hl) HAT.out]
          rfl
        have HKF := hide hKF
        clear hKF
        generalize (w5.setCell ⟨w1.heap.size, k * 2, none⟩ (.slice a5 x.msgs.length c5)).setCell ⟨w1.heap.size, k * 2 + 1, none⟩ (.int .i64 (agedV kk x.msgs.length x.age)) = W6 at *
        go_wp2
        go_roundw
        case rel => exact ⟨k + 1, _, by omega, by go_num, by rw [List.length_set]; exact hL, hGF, HPUT.out, HKF.out, HBF.out⟩
        case measure => simp [intOf]; omega
      · obtain rfl : k = len := by omega
        clear hlt bad
        have H0 := hide h0
        have H0' := hide h0'
        clear h0 h0' V1
        have HK0 : Hid (L.map Pr.key = agedAll ps (l.map Pr.key)) := by
          unfold Hid
          rw [hkey.out, partL_full (HAL.out.trans hl)]
        go_wp2
        go_loopw [13, 44] (fun r i wx => ∃ (j : Nat) (L : List Pr) (R : List Int), j ≤ lm ∧ i = .int .i64 (j : Int) ∧ L.length = k ∧ R.length ≤ j ∧ Hid (PrOwn wx w.heap.size (.slice (some ⟨w1.heap.size, 0, none⟩) k k) L) ∧ Hid ((ms.take j).foldl (stepK ps) (agedAll ps (l.map Pr.key), []) = (L.map Pr.key, R)) ∧ Hid (wx.ownsRow w.heap.size 65 4 r R.length (R.flatMap repc)) ∧ Hid (PrOff r.ownBlock (.slice (some ⟨w1.heap.size, 0, none⟩) k k) L) ∧ Hid (Below w.heap.size w wx)) (fun _ i _ => lm - (intOf i).toNat)
        case atStart => exact ⟨0, L, [], by omega, rfl, hL, by simp, hown.out, by unfold Hid; rw [HK0.out]; rfl, World.ownsRow_nil _ _ _ _, PrOff.none_ _, hb.out⟩
        case round =>
          clear hkey hown hL hb HK0
          obtain ⟨j, L, R, hj, rfl, hL, hR, hown, hfold, hrep, hoff, hb⟩ := hrel
          by_cases hlt : j < lm
          · obtain ⟨m, hmj⟩ : ∃ m, ms[j]? = some m := ⟨_, List.getElem?_eq_getElem (by rw [hlm]; exact hlt)⟩
            obtain ⟨bm, om, rfl, hr⟩ := (HM.out.below hb.out).at mgv2 (by decide) hmj
            have hDm := HD.out m (List.mem_of_getElem? hmj)
            have r0 := hr 0 _ rfl
            have r1 := hr 1 _ rfl
            simp only [Nat.add_zero] at r0
            have HFN : Hid ((ms.take (j + 1)).foldl (stepK ps) (agedAll ps (l.map Pr.key), []) = (nextK ps (L.map Pr.key) m, if tookB ps (L.map Pr.key) m = true then R else R ++ [m.port])) := by
              unfold Hid
              rw [fold_next hmj, hfold.out, stepK_eq]
            have BM := hide (new_below' wr (.cells #[.int .i64 m.port, .string m.data] 53))
            have TM := hide (two_alloc wr (.int .i64 m.port) (.string m.data) 53)
            have HDL := hide (deliver_any (HE.out.below (chain hb.out BM.out)) a k cap ps w1.heap.size w.heap.size k L m (HS.out.below (chain hb.out BM.out)) (hown.out.below BM.out) hL hm hDm)
            clear hr hmj
            go_wp2_with fail
            generalize wr.alloc (.cells #[.int .i64 m.port, .string m.data] 53) = WM at *
            refine Calls.mono HDL.out ?_
            rintro e w5 ⟨rfl, L', ho5, hl5, hk5, hg5, hf5⟩
            have O5 := hide ho5
            have K5 := hide hk5
            have BW := hide (chain hb.out BM.out)
            have D5 := hide (BW.out.grown hg5 BW.out.size (fun k' hk' => by simp at hk'; omega))
            have RM := hide (ownsRow_below hrep.out BM.out)
            have R5 := hide (RM.out.kept hg5 hoff.out.ne)
            have P5 := hide (PrOff.on (w5 := w5) RM.out hoff.out hf5)
            have hGx : w1.heap.size < wr.heap.size := (hown.out.row.lt _ rfl).2
            have TM5 := hide (hg5.cell TM.out.c0 (by simp; omega))
            clear ho5 hk5 hf5 HDL r0 r1
            cases htk : tookB ps (L.map Pr.key) m
            · rw [htk] at HFN
              have t0 := TM5.out
              have hwp : IntKind.u32.wrap m.port = m.port % 4294967296 := IntKind.wrap_u32 m.port
              have BL := hide (new_below' w5 (.cells #[.int .i64 3, .int .i64 (-1), .int .u32 (m.port % 4294967296), .int .u32 0] 65))
              have RL := hide (ownsRow_below R5.out BL.out)
              have OL := hide (O5.out.below BL.out)
              go_wp2_with (at_builtin; refine append_rec rfl (.tmp 53) (.tmp 58) 33 65 rfl Tryd.underlying33 HR.out (by decide) w.heap.size _ R.length (R.flatMap repc) rfl RL.out w5.heap.size 1 (repc m.port) rfl rfl (fun i u hu => by rw [World.cell?_alloc_at _ _ _ _ rfl]; simpa [repc] using hu) (fun u hu => repc_one [m.port] u (by simpa using hu)) (by unfold maxLen; omega) (by omega) (Nat.le_trans D5.out.size BL.out.size) ?_; intro g6 c6 w6 ho6 hg6 hat6 hlt6)
              have O6 := hide (OL.out.grown hg6 P5.out)
              have P6 := hide (PrOff.moved OL.out P5.out hat6)
              have D6 := hide ((chain D5.out BL.out).grown hg6 (chain D5.out BL.out).size (fun k' hk' => (RL.out.lt k' hk').1))
              have R6 := hide ho6
              clear ho6 hg6 hat6
              refine ⟨⟨j + 1, L', R ++ [m.port], by omega, by go_num, hl5, by rw [List.length_append]; simp; omega, O6.out, ?_, ?_, P6.out, D6.out⟩, by simp [intOf]; omega⟩
              · unfold Hid
                rw [HFN.out, K5.out]
                rfl
              · unfold Hid
                rw [List.length_append, List.flatMap_append]
                simpa using R6.out
            · rw [htk] at HFN
              go_wp2
              go_roundw
              case rel => exact ⟨j + 1, L', R, by omega, by go_num, hl5, by omega, O5.out, by unfold Hid; rw [HFN.out, K5.out]; rfl, R5.out, P5.out, D5.out⟩
              case measure => simp [intOf]; omega
          · obtain rfl : j = lm := by omega
            have HT : Hid (ms.take j = ms) := by unfold Hid; rw [← hlm, List.take_length]
            rw [HT.out] at hfold
            have HF2 : Hid (arrK ps (l.map Pr.key) ms = (L.map Pr.key, R)) := by unfold Hid; rw [HAR.out]; exact hfold.out
            clear hlt hfold
            go_wp2
            go_ret3
            exact ⟨_, _, _, rfl, by rw [H0.out, H0'.out]; exact .inl ⟨rfl, rfl, rfl⟩, ⟨L, hown.out, by rw [HF2.out]⟩, by rw [HF2.out]; exact hrep.out, hb.out⟩
  · subst e
    have HA := (bad _ _ rfl (by omega)).out
    have HA2 := hide HA
    clear HA bad
    unfold sent at V1 ⊢
    go_wp2
    go_ret3
    exact ⟨_, _, _, rfl, V1.out, ⟨[], prown_nil _ _, by rw [HA2.out]; rfl⟩, by rw [HA2.out]; exact World.ownsRow_nil _ _ _ _, B1.out⟩
  · subst e
    have HA := (bad _ _ rfl (by omega)).out
    have HA2 := hide HA
    clear HA bad h3 h4
    go_wp2
    go_ret3
    exact ⟨_, _, _, rfl, V1.out, ⟨[], prown_nil _ _, by rw [HA2.out]; rfl⟩, by rw [HA2.out]; exact World.ownsRow_nil _ _ _ _, B1.out⟩
end Go.Proofs.YtgcodajiehfloaaDoor
