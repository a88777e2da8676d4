/-
  Pages made of their plans: the program's Make.
-/
import Derived.Test.YtojfeengjlkknaaDoorPgMake0
import Derived.Test.YtojfeengjlkknaaDoorErrHit
namespace Go.Proofs.YtojfeengjlkknaaDoor
open Go.RowKit FerryCrc
set_option linter.unusedVariables false
set_option linter.unusedSimpArgs false

theorem at_err {w : World} {E : Nat → Addr} {i : Nat} {p : Int} (h1 : 1 ≤ i) (h2 : i ≤ 20) (t : TypeId) : IsErr (w.alloc (.cells #[.int .i64 p, sent (E i)] t)) E (.iface 69 (.pointer (some ⟨w.heap.size, 0, none⟩))) i p :=
  .inr (.inr ⟨h1, h2, w.heap.size, 0, rfl, by rw [World.cell?_alloc_at _ _ _ _ rfl]; rfl, by rw [World.cell?_alloc_at _ _ _ _ rfl]; rfl⟩)

theorem bare_is {E : Nat → Addr} {i : Nat} (j : Nat) (h : i = j) (h1 : 1 ≤ j) (h2 : j ≤ 20) : Bare E (sent (E j)) i := h ▸ bare_sent E j h1 h2
theorem bare_no {E : Nat → Addr} {i : Nat} (h : i = 0) : Bare E .nilIface i := h ▸ bare_nil E
theorem zeroPg {i : TypeInfo} {z : Value} (hi : Tryd.prog.info? 32 = some i) (hz : i.zero = some z) : z.cells = (pk 0).cells.toArray := by
  have h : (Tryd.prog.info? 32).map (fun i => i.zero.map (·.cells)) = some (some (pk 0).cells.toArray) := by kernel_rfl
  rw [hi] at h
  simp only [Option.map_some, hz, Option.some.injEq] at h
  exact h

set_option maxRecDepth 100000 in
theorem pcheck_any {w : World} {E : Nat → Addr} (he : Errs w E) (p : Pnv) (hp : p.Ok) :
    Calls Tryd.prog 33 #[.agg #[.int .i64 p.rights, .string (str p.init)]] w fun e w' => ∃ v, e = .returned v ∧ Bare E v p.bad ∧ Below w.heap.size w w' := by
  have HB := hide p.bad_is
  have hsz : (str p.init).size = p.init.length := str_len p.init
  have hN := hp.len
  have D0 := hide ((Below.refl w.heap.size w).alloc (Nat.le_refl _) (.cells #[.int .i64 p.rights, .string (str p.init)] 29))
  have HE := hide he
  clear he hp
  generalize p.rights = r at *
  generalize str p.init = S at *
  generalize p.init.length = N at *
  generalize p.bad = bd at *
  have v4 := (HE.out.below D0.out).v4
  have v5 := (HE.out.below D0.out).v5
  go_enter Tryd.func33, Tryd.ntmps33
  go_wp2
  all_goals go_ret
  all_goals refine ⟨_, rfl, ?_, D0.out⟩
  all_goals (have hp := HB.out; (try simp only [beq_iff_eq, beq_eq_false_iff_ne, bne_iff_ne, ne_eq, bne_eq_false_iff_eq, decide_eq_true_eq, decide_eq_false_iff_not, Bool.and_eq_true, Bool.or_eq_true, Bool.or_eq_false_iff, Bool.not_eq_true, Bool.not_eq_false, Bool.not_eq_true', Bool.not_eq_false'] at *); first | exact bare_is 4 (by omega) (by decide) (by decide) | exact bare_is 5 (by omega) (by decide) (by decide) | exact bare_no (by omega))

set_option maxRecDepth 100000 in
set_option maxHeartbeats 4000000 in
theorem make_any {w : World} {E : Nat → Addr} (he : Errs w E) (a : Option Addr) (len cap : Nat) (l : List Pnv) (hs : Rcs Pnv.cells 2 w a len cap l) (ok : ∀ p ∈ l, p.Ok) (hm : len ≤ 9223372036854775807) :
    Calls Tryd.prog 5 #[.slice a len cap] w fun e w' => ∃ x v, e = .returned (.tuple #[x, v]) ∧ IsErr w' E v (mkE l).1 (mkE l).2 ∧ POwn w' w.heap.size x (mkL l) ∧ Below w.heap.size w w' := by
  have HE := hide he
  have HS := hide hs
  have hl := hs.size
  have OK := hide ok
  have HI := hide infoPage
  clear he hs ok
  by_cases hb : 32 < len
  · have HA := hide (mkE_big (l := l) (by omega))
    have HL := hide (mkL_bad (l := l) (by rw [HA.out]; decide))
    have v11 := HE.out.v11
    have hd : decide (32 < (len : Int)) = true := decide_eq_true (by omega)
    go_enter Tryd.func5, Tryd.ntmps5
    go_wp2
    go_quiet (fail)
    go_wp2
    go_ret2
    exact ⟨_, _, rfl, by rw [HA.out]; exact .inr (.inl ⟨by decide, by decide, rfl, rfl⟩), by rw [HL.out]; exact pown_nil _ _, drewN_below (Below.refl _ _) nq⟩
  have hd : decide (32 < (len : Int)) = false := decide_eq_false (by omega)
  go_enter Tryd.func5, Tryd.ntmps5
  go_wp2_with (obtain ⟨i, z, hi, hz, hsz, hby, hzs⟩ := HI.out; refine wpList_make_full w rfl (.tmp 13) (.tmp 13) 23 rfl w.heap.size 32 i z 66 Tryd.underlying23 hi hz hsz .i64 .i64 (len : Int) (len : Int) len rfl rfl rfl rfl (by rw [hby]; omega) (by unfold maxLen; omega) (Nat.le_refl _) ?_; have hzp := zeroPg hi hz; clear hi hz hsz hby hzs; intro w1 ho1 hg1; rw [made_pages _ hzp] at ho1; clear hzp)
  have hb1 : Below w.heap.size w w1 := (Below.refl _ _).grown hg1 (Nat.le_refl _) (fun k hk => by simp at hk)
  have hsz1 : w.heap.size < w1.heap.size := by
    rcases ho1.2 with ⟨e, _⟩ | ⟨g', cap', cur, e, hg, hh, _⟩
    · simp at e
    · simp only [Value.slice.injEq, Option.some.injEq, Addr.mk.injEq, and_true] at e
      obtain ⟨rfl, _⟩ := e
      exact (Array.getElem?_eq_some_iff.1 hh).1
  have O1 : Hid (POwn w1 w.heap.size (.slice (some ⟨w.heap.size, 0, none⟩) len len) (madeK l 0)) := by
    unfold Hid POwn
    rw [madeK_len l (Nat.zero_le _), hl]
    simpa [madeK, hl] using ho1
  have D1 := hide hb1
  clear ho1 hg1 hb1
  go_wp2
  go_loopw [17] (fun i wr => ∃ k : Nat, k ≤ len ∧ i = .int .i64 (k : Int) ∧ w.heap.size < wr.heap.size ∧ Hid (∀ j q, j < k → l[j]? = some q → q.bad = 0) ∧ Hid (POwn wr w.heap.size (.slice (some ⟨w.heap.size, 0, none⟩) len len) (madeK l k)) ∧ Hid (Below w.heap.size w wr)) (fun i _ => len - (intOf i).toNat)
  case atStart => exact ⟨0, by omega, rfl, hsz1, fun j q hj => by omega, O1.out, D1.out⟩
  case round =>
    obtain ⟨k, hk, rfl, hwr, hall, hown, hbl⟩ := hrel
    by_cases hlt : k < len
    · obtain ⟨p, hp⟩ : ∃ p, l[k]? = some p := ⟨_, List.getElem?_eq_getElem (by rw [hl]; exact hlt)⟩
      obtain ⟨b, off, rfl, hr⟩ := (HS.out.below hbl.out).at pnv2 (by decide) hp
      have HP := hide hp
      have OKP := hide (OK.out p (List.mem_of_getElem? hp))
      have r0 := hr 0 _ rfl
      have r1 := hr 1 _ rfl
      simp only [Nat.add_zero] at r0
      clear hr hp
      have T1 := hide (two_alloc wr (.int .i64 p.rights) (.string (str p.init)) 29)
      have B1 := hide ((Below.refl wr.heap.size wr).alloc (Nat.le_refl _) (.cells #[.int .i64 p.rights, .string (str p.init)] 29))
      go_wp2_with fail
      generalize wr.alloc (.cells #[.int .i64 p.rights, .string (str p.init)] 29) = W1 at *
      refine Calls.mono (pcheck_any (HE.out.below (chain hbl.out B1.out)) p OKP.out) ?_
      rintro e w2 ⟨v, rfl, hv, b2⟩
      have T2 := hide (T1.out.below b2)
      have B2 := hide (chain B1.out b2)
      have D2 := hide (chain hbl.out B2.out)
      clear b2 T1 B1 r0 r1
      rcases hv with ⟨rfl, h0⟩ | ⟨h1, h2, rfl⟩
      · have O2 := hide (hown.out.below B2.out)
        have okk := madeK_ok OK.out hall.out
        have hmk := madeK_at (l := l) (k := k) (by rw [hl]; exact hlt)
        have hlk : (madeK l k).length = len := by rw [madeK_len l (by rw [hl]; exact hk)]; exact hl
        obtain ⟨hc, hf⟩ := O2.out.cellOf hlk okk hmk (j := 0) (by decide)
        have hst := POwn.stored (q := ⟨p.rights, false, List.replicate 64 0⟩) (u := .int .i64 p.rights) (by rw [hlk]; exact O2.out) okk hmk (show 0 < 66 by decide) (cells_rights (pk 0) p.rights)
        rw [hlk] at hst
        simp only [Nat.add_zero] at hc hf hst
        have hc2 : w2.cell? ⟨w.heap.size, k * 66, none⟩ = some (.int .i64 0) := hc
        have okL : Oks ((madeK l k).set k ⟨p.rights, false, List.replicate 64 0⟩) := by
          intro x hx
          rcases List.mem_or_eq_of_mem_set hx with hx | rfl
          · exact okk x hx
          · exact ⟨OKP.out.lo, OKP.out.hi, by show (List.replicate 64 0).length = 64; simp, by show ∀ c ∈ List.replicate 64 0, c < 256; decide⟩
        have hi64 : p.init.length ≤ 64 := by have := p.bad_is; omega
        have T3 := hide (T2.out.far (b' := w.heap.size) (o := k * 66) (u := .int .i64 p.rights) (by omega))
        have D3 := hide (D2.out.setCell (p := ⟨w.heap.size, k * 66, none⟩) (Nat.le_refl _) (.int .i64 p.rights))
        have hz3 : w.heap.size < (w2.setCell ⟨w.heap.size, k * 66, none⟩ (.int .i64 p.rights)).heap.size := by have := B2.out.size; simp; omega
        have hgetL : ((madeK l k).set k ⟨p.rights, false, List.replicate 64 0⟩)[k]? = some ⟨p.rights, false, List.replicate 64 0⟩ := by
          rw [List.getElem?_set, if_pos rfl, if_pos (by rw [hlk]; exact hlt)]
        have hlL : ((madeK l k).set k ⟨p.rights, false, List.replicate 64 0⟩).length = len := by rw [List.length_set]; exact hlk
        have HU := hide (upd_page okL hgetL p.init hi64)
        have HSET : Hid (((madeK l k).set k ⟨p.rights, false, List.replicate 64 0⟩).set k ⟨p.rights, false, p.init ++ (List.replicate 64 0).drop p.init.length⟩ = madeK l (k + 1)) := by
          unfold Hid
          rw [List.set_set, ← madeK_set HP.out, List.drop_replicate]
          rfl
        have HST := hide hst
        have HOKL := hide okL
        have t0 := T2.out.c0
        clear hst okL okk hmk hgetL hc
        go_wp2_with fail
        generalize w2.setCell ⟨w.heap.size, k * 66, none⟩ (.int .i64 p.rights) = W3 at *
        have t1 := T3.out.c1
        obtain ⟨hcf, hsb⟩ := POwn.bytes (q := k) (B := datB p.init (64 * k)) (D := fun _ => false) hlL HOKL.out (datB_lt OKP.out.small (64 * k)) (by rw [hlL]; exact hlt) p.init.length 0 W3.drew (fun _ => false) (by rw [upd_none]; exact World.ownsRow.drew HST.out) (by omega)
        simp only [Nat.add_zero] at hcf hsb
        rw [HU.out, HSET.out] at hsb
        have hcs : (p.init.take 64).map bv = (List.range p.init.length).map fun i => bv (datB p.init (64 * k) (64 * k + i)) := by
          rw [List.take_of_length_le hi64]
          have h9 := take_drop_bv (D := p.init) (k := 0) (c := p.init.length) (n := 64 * k) (m := 64 * k) (by omega) (by omega)
          rw [List.drop_zero, List.take_length] at h9
          exact h9
        have HSB := hide hsb
        have HCF := hide hcf
        have HCS := hide hcs
        have HB4 := hide (below_setCells (Nat.le_refl w.heap.size) ((List.range p.init.length).map fun i => bv (datB p.init (64 * k) (64 * k + i))) (k * 66 + 2) W3.drew D3.out.drew)
        have hq1 : (k : Int) < (len : Int) := by omega
        clear hsb hcf hcs HST HU HSET hc2 hf t0 T2
        go_region_law (refine step_copy_str rfl (.tmp 41) (.tmp 43) 72 9 rfl 5 Tryd.underlying72 size8' w.heap.size (k * 66 + 2) 64 64 p.init OKP.out.small (by simp [Act.eval, Act.put]) (by simp [Act.eval, Act.put]) ((List.range p.init.length).map fun i => bv (datB p.init (64 * k) (64 * k + i))) HCS.out.symm (fun i hi => (HCF.out i (by simpa using hi)).1) (fun i hi => (HCF.out i (by simpa using hi)).2) ?_)
        have hz4 : w.heap.size < (W3.drew.setCells w.heap.size (k * 66 + 2) ((List.range p.init.length).map fun i => bv (datB p.init (64 * k) (64 * k + i)))).heap.size := Nat.lt_of_lt_of_le hz3 (below_setCells (Nat.le_refl w.heap.size) _ (k * 66 + 2) W3.drew (Below.refl _ _)).size
        generalize W3.drew.setCells w.heap.size (k * 66 + 2) ((List.range p.init.length).map fun i => bv (datB p.init (64 * k) (64 * k + i))) = w4 at *
        (try simp only [Act.put, List.getElem_toArray, List.getElem_cons_succ, List.getElem_cons_zero, List.setIfInBounds_toArray, List.set_cons_succ, List.set_cons_zero])
        go_wp2
        go_roundw
        case rel =>
          refine ⟨k + 1, by omega, by go_num, hz4, fun j q hj hq => ?_, HSB.out, HB4.out⟩
          by_cases e : j = k
          · subst e
            rw [HP.out] at hq
            obtain rfl := Option.some.inj hq
            exact h0
          · exact hall.out j q (by omega) hq
        case measure => simp [intOf]; omega
      · have HA := hide (mkE_at (l := l) (by rw [hl]; omega) HP.out (by omega) hall.out)
        have HL := hide (mkL_bad (l := l) (by rw [HA.out]; show ¬ p.bad = 0; omega))
        generalize hbd : p.bad = bd at *
        unfold sent
        go_wp2
        go_ret2
        exact ⟨_, _, rfl, by rw [HA.out]; exact at_err h1 h2 _, by rw [HL.out]; exact pown_nil _ _, chain D2.out ((Below.refl _ _).alloc (Nat.le_refl _) _)⟩
    · obtain rfl : k = len := by omega
      have HA := hide (mkE_no (l := l) (by rw [hl]; omega) (fun j q hj hq => hall.out j q (by rw [← hl]; exact hj) hq))
      have HL : Hid (mkL l = madeK l k) := by
        unfold Hid
        rw [mkL_no (by rw [HA.out]), ← hl, madeK_full]
      go_wp2
      go_ret2
      refine ⟨_, _, rfl, by rw [HA.out]; exact .inl ⟨rfl, rfl, rfl⟩, ?_, hbl.out⟩
      rw [HL.out]
      exact hown.out
end Go.Proofs.YtojfeengjlkknaaDoor
