/-
  The law's apart: lists that share no block are marked, grown and looked at.
-/
import Derived.Test.YtdckpecalglnoaaDoorTaMake
import Derived.Test.YtdckpecalglnoaaDoorTmFire
import Derived.Deep.Cut
namespace Go.Proofs.YtdckpecalglnoaaDoor
open Go.RowKit
set_option linter.unusedVariables false
set_option linter.unusedSimpArgs false

theorem two_at (w : World) (a b : Value) (t : TypeId) : ∀ j u, [a, b][j]? = some u → (w.alloc (.cells #[a, b] t)).cell? ((⟨w.heap.size, 0, none⟩ : Addr).add j) = some u := fun j u hu => by
  rw [add_lit', Nat.zero_add]
  match j, hu with
  | 0, hu => exact (World.cell?_alloc_at _ _ _ _ rfl).trans hu
  | 1, hu => exact (World.cell?_alloc_at _ _ _ _ rfl).trans hu
  | (j + 2), hu => simp at hu
theorem two_one (a b : Option Addr) (n c n' c' : Nat) : ∀ u ∈ [Value.slice a n c, Value.slice b n' c'], u.oneCell' = true := fun u hu => by
  simp only [List.mem_cons, List.not_mem_nil, or_false] at hu
  rcases hu with rfl | rfl <;> rfl

theorem flat_sl (l : List Sl) : l.flatMap Sl.cell = l.map Sl.v := by
  induction l with
  | nil => rfl
  | cons a t ih => rw [List.flatMap_cons, ih]; rfl
theorem Mk.see {w : World} {col : Nat → Int} {s : Sl} {m : Int} (h : Mk w col s m) {r : Nat} (hr : r < s.n) : ∃ G, s.a = some ⟨G, 0, none⟩ ∧ w.cell? ⟨G, r * 2, none⟩ = some (.int .i64 m) := by
  cases ha : s.a with
  | none => have := (h.null ha).1; omega
  | some ad =>
    obtain ⟨g, off, sp⟩ := ad
    obtain ⟨h1, h2, h3, h4⟩ := h.at0 _ ha
    simp only at h1 h2 h3 h4
    subst h1 h2
    refine ⟨g, rfl, ?_⟩
    rw [h.vis g ha (r * 2) (by omega)]
    unfold mcell
    rw [if_pos (by omega)]

set_option maxRecDepth 100000 in
set_option maxHeartbeats 4000000 in
theorem apart_any {w : World} (B gL K cL : Nat) (LL : List Sl) (MS : Nat → List Tm) (hL : Rcs Sl.cell 1 w (some ⟨gL, 0, none⟩) K cL LL) (hK : K ≤ 5) (hls : Lists w B LL MS) (hap : Apt LL) (hn : ∀ s ∈ LL, s.n ≤ 9) (hgL : ∀ s ∈ LL, s.v.ownBlock ≠ some gL) (hB : B ≤ w.heap.size) (hgl : gL < w.heap.size) :
    Calls Tryd.prog 27 #[.slice (some ⟨gL, 0, none⟩) K cL] w fun e w' => e = .returned (.bool true) ∧ Below B w w' := by
  have HL := hide hL
  have hl := hL.size
  have HLS := hide hls
  have HAP := hide hap
  have HN := hide hn
  have HGL := hide hgL
  have HI := hide infoTimer
  clear hL hls hap hn hgL
  go_enter Tryd.func27, Tryd.ntmps27
  go_wp2
  go_loopw [4] (fun i wr => ∃ (k : Nat) (MS : Nat → List Tm), k ≤ K ∧ i = .int .i64 (k : Int) ∧ w.heap.size ≤ wr.heap.size ∧ Hid (Lists wr B LL MS) ∧ Hid (∀ j s, j < k → LL[j]? = some s → MS j = List.replicate s.n (mkT j)) ∧ Hid (Rcs Sl.cell 1 wr (some ⟨gL, 0, none⟩) K cL LL) ∧ Hid (Below B w wr)) (fun i _ => K - (intOf i).toNat)
  case atStart => exact ⟨0, MS, by omega, rfl, Nat.le_refl _, HLS.out, fun j s hj => by omega, HL.out, Below.refl _ _⟩
  case round =>
    obtain ⟨k, M1, hk, rfl, hsz, hls, hmk, hrow, hb⟩ := hrel
    by_cases hlt : k < K
    ·
      obtain ⟨s, hs⟩ : ∃ s, LL[k]? = some s := ⟨_, List.getElem?_eq_getElem (by rw [hl]; exact hlt)⟩
      have HSK := hide hs
      have hkk : (k : Int) < (K : Int) := by omega
      have hsn := HN.out s (List.mem_of_getElem? hs)
      obtain ⟨W1, hW1⟩ : ∃ W, W = wr := ⟨_, rfl⟩
      subst hW1
      clear hs
      go_wp2
      go_loopw [5] (fun i wx => ∃ (q : Nat) (M2 : Nat → List Tm), q ≤ s.n ∧ i = .int .i64 (q : Int) ∧ w.heap.size ≤ wx.heap.size ∧ Hid (Lists wx B LL M2) ∧ Hid (∀ j s, j < k → LL[j]? = some s → M2 j = List.replicate s.n (mkT j)) ∧ Hid (∀ r, r < q → (M2 k)[r]? = some (mkT k)) ∧ Hid (Rcs Sl.cell 1 wx (some ⟨gL, 0, none⟩) K cL LL) ∧ Hid (Below B w wx)) (fun i _ => s.n - (intOf i).toNat)
      case atStart => exact ⟨0, M1, by omega, rfl, hsz, hls.out, hmk.out, fun r hr => by omega, hrow.out, hb.out⟩
      case round =>
        obtain ⟨q, M2, hq, rfl, hsz2, hls2, hmk2, hmq, hrow2, hb2⟩ := hrel
        obtain ⟨bb, oo, e0, hr⟩ := hrow2.out.at sl1 (by decide) HSK.out
        simp only [Option.some.injEq, Addr.mk.injEq, and_true] at e0
        obtain ⟨rfl, rfl⟩ := e0
        have r0 := hr 0 _ rfl
        simp only [Nat.add_zero, Nat.zero_add, Nat.mul_one] at r0
        unfold Sl.v at r0
        clear hr
        by_cases hlt2 : q < s.n
        · have hown := hls2.out.own k s HSK.out
          have hlen := hls2.out.len k s HSK.out
          obtain ⟨p, hp⟩ : ∃ p, (M2 k)[q]? = some p := ⟨_, List.getElem?_eq_getElem (by omega)⟩
          obtain ⟨G, hG⟩ : ∃ G, s.a = some ⟨G, 0, none⟩ := by
            rcases hown.2 with ⟨e, h0⟩ | ⟨g, _, _, e, _⟩
            · omega
            · unfold Sl.v at e
              simp only [Value.slice.injEq] at e
              exact ⟨g, e.1⟩
          unfold Sl.v at hown
          rw [hG] at hown r0
          obtain ⟨⟨u0, c0⟩, ⟨u1, c1⟩, f0, f1, O2, G2⟩ := TOwn.put2 (q := mkT k) hown hlen hp
          have hob : s.v.ownBlock = some G := by unfold Sl.v; rw [hG]; rfl
          have hgne : gL ≠ G := fun e => HGL.out s (List.mem_of_getElem? HSK.out) (by rw [hob, e])
          have hGB : B ≤ G := (World.ownsRow.lt hown G rfl).1
          have hw := wrap_mark (k := k) (by omega)
          have hqq : (q : Int) < (s.n : Int) := by omega
          have L3 : Hid (Lists ((wr.setCell ⟨G, q * 2, none⟩ (.int .i64 (mkT k).proc)).setCell ⟨G, q * 2 + 1, none⟩ (.int .i64 (mkT k).due)) B LL (fun j => if j = k then (M2 k).set q (mkT k) else M2 j)) := by
            refine ⟨fun j t ht => ?_, fun j t ht => ?_⟩
            · by_cases e : j = k
              · subst e
                rw [HSK.out] at ht
                obtain rfl := Option.some.inj ht
                show TOwn _ B s.v (if j = j then _ else _)
                rw [if_pos rfl]
                unfold Sl.v
                rw [hG]
                exact O2
              · show TOwn _ B t.v (if j = k then _ else _)
                rw [if_neg e]
                refine (hls2.out.own j t ht).kept G2 (.inr fun h => e (HAP.out j k t s G ht HSK.out h hob))
            · show (if j = k then _ else _ : List Tm).length = t.n
              by_cases e : j = k
              · subst e
                rw [HSK.out] at ht
                obtain rfl := Option.some.inj ht
                rw [if_pos rfl, List.length_set]
                exact hlen
              · rw [if_neg e]
                exact hls2.out.len j t ht
          have R3 : Hid (Rcs Sl.cell 1 ((wr.setCell ⟨G, q * 2, none⟩ (.int .i64 (mkT k).proc)).setCell ⟨G, q * 2 + 1, none⟩ (.int .i64 (mkT k).due)) (some ⟨gL, 0, none⟩) K cL LL) := ⟨hrow2.out.size, hrow2.out.row.size, hrow2.out.row.fit, hrow2.out.row.null, fun j v hv => by
            obtain ⟨b, o, e, hc⟩ := hrow2.out.row.cell j v hv
            refine ⟨b, o, e, ?_⟩
            simp only [Option.some.injEq, Addr.mk.injEq, and_true] at e
            rw [World.cell?_setCell_other _ _ _ _ (by simp), World.cell?_setCell_other _ _ _ _ (by simp)]
            exact hc⟩
          have B3 := hide ((hb2.out.setCell (p := ⟨G, q * 2, none⟩) hGB (.int .i64 (mkT k).proc)).setCell (p := ⟨G, q * 2 + 1, none⟩) hGB (.int .i64 (mkT k).due))
          have Z3 : Hid (w.heap.size ≤ ((wr.setCell ⟨G, q * 2, none⟩ (.int .i64 (mkT k).proc)).setCell ⟨G, q * 2 + 1, none⟩ (.int .i64 (mkT k).due)).heap.size) := by
            show w.heap.size ≤ _
            simp [World.setCell]
            exact hsz2
          have HPQ := hide hp
          clear hown O2 G2 hp
          unfold mkT at L3 R3 B3 Z3
          go_wp2
          go_roundw
          case rel =>
            refine ⟨q + 1, _, by omega, by go_num, Z3.out, L3.out, fun j t hj ht => ?_, fun r hr => ?_, R3.out, B3.out⟩
            · show (if j = k then _ else _ : List Tm) = _
              rw [if_neg (by omega)]
              exact hmk2.out j t hj ht
            · show (if k = k then _ else _ : List Tm)[r]? = _
              rw [if_pos rfl]
              by_cases e : r = q
              · subst e
                rw [List.getElem?_set_self (by omega)]
                rfl
              · rw [List.getElem?_set_ne (Ne.symm e)]
                exact hmq.out r (by omega)
          case measure => simp [intOf]; omega
        · obtain rfl : q = s.n := by omega
          have HMK : Hid (∀ j t, j < k + 1 → LL[j]? = some t → M2 j = List.replicate t.n (mkT j)) := fun j t hj ht => by
            by_cases e : j = k
            · subst e
              rw [HSK.out] at ht
              obtain rfl := Option.some.inj ht
              have hlen := hls2.out.len j s HSK.out
              refine List.ext_getElem? fun r => ?_
              by_cases hr : r < s.n
              · rw [hmq.out r hr, List.getElem?_replicate, if_pos hr]
              · rw [List.getElem?_eq_none (by omega), List.getElem?_eq_none (by simp; omega)]
            · exact hmk2.out j t (by omega) ht
          go_wp2
          refine ⟨⟨k + 1, M2, by omega, by go_num, hsz2, hls2.out, HMK.out, hrow2.out, hb2.out⟩, by simp [intOf]; omega⟩
    · obtain rfl : k = K := by omega
      have hPh : Hid (Ph wr B gL k cL LL (col0 LL) (.slice none 0 0) []) := by
        have hl1 := hls.out
        refine ⟨fun g hg => ?_, fun j s hs => ?_, hrow.out, col0_no (fun j s hs => HGL.out s (List.mem_of_getElem? hs)), ?_, fun g hg => ?_, by omega, ?_, ?_, ?_, ?_⟩
        · refine col0_no fun j s hs he => ?_
          have := (World.ownsRow.lt (hl1.own j s hs) g he).2
          omega
        · have ho := hl1.own j s hs
          have hjl : j < LL.length := (List.getElem?_eq_some_iff.1 hs).1
          unfold TOwn at ho
          rw [hmk.out j s (by omega) hs] at ho
          unfold mkT at ho
          rw [mks_rep, List.length_replicate] at ho
          obtain ⟨t, ht, _, hM⟩ := mk_own (col := col0 LL) ho (fun g hg => col0_at HAP.out hs hg)
          obtain rfl := Sl.inj ht
          exact hM
        · omega
        · refine col0_no fun j s hs he => ?_
          have := (World.ownsRow.lt (hl1.own j s hs) g he).1
          omega
        · exact World.ownsRow_nil _ _ _ _
        · intro g hg
          simp [Value.ownBlock] at hg
        · intro j s hs
          simp at hs
        · intro s hs
          simp at hs
      clear hls hmk hrow HLS HL HGL HAP
      go_wp2
      go_loopw [3, 6] (fun gv i wx => ∃ (q : Nat) (col : Nat → Int) (GS : List Sl), q ≤ k ∧ i = .int .i64 (q : Int) ∧ GS.length = 2 * q ∧ Hid (Ph wx B gL k cL LL col gv GS) ∧ Hid (Below B w wx)) (fun _ i _ => k - (intOf i).toNat)
      case atStart => exact ⟨0, col0 LL, [], by omega, rfl, rfl, hPh.out, hb.out⟩
      case round =>
        obtain ⟨q, col, GS, hq, rfl, hgs, HP, HB3⟩ := hrel
        clear hPh hb hsz
        by_cases hlt3 : q < k
        ·
          obtain ⟨s, hs⟩ : ∃ s, LL[q]? = some s := ⟨_, List.getElem?_eq_getElem (by rw [hl]; exact hlt3)⟩
          have HSK := hide hs
          have hsn := HN.out s (List.mem_of_getElem? hs)
          have hqq : (q : Int) < (k : Int) := by omega
          have hw := wrap_mark (k := q) (by omega)
          obtain ⟨bb, oo, e0, hr⟩ := HP.out.row.at sl1 (by decide) HSK.out
          simp only [Option.some.injEq, Addr.mk.injEq, and_true] at e0
          obtain ⟨rfl, rfl⟩ := e0
          have r0 := hr 0 _ rfl
          simp only [Nat.add_zero, Nat.zero_add, Nat.mul_one] at r0
          unfold Sl.v at r0
          clear hr hs
          go_wp2
          go_loopw [7, 8] (fun lv t wy => ∃ (e : Nat) (col2 : Nat → Int) (sl : Sl), e ≤ 12 ∧ t = .int .i64 (e : Int) ∧ lv = .slice sl.a sl.n sl.c ∧ sl.n = s.n + e ∧ Hid (Ph wy B gL k cL LL col2 u3 GS) ∧ Hid (Mk wy col2 sl (-5 - (q : Int))) ∧ Hid (Below B w wy)) (fun _ t _ => 12 - (intOf t).toNat)
          case atStart => exact ⟨0, col, s, by omega, rfl, rfl, rfl, HP.out, HP.out.lists q s HSK.out, HB3.out⟩
          case round =>
            obtain ⟨e, col2, sl, he, rfl, rfl, hn2, HP2, HM2, HB2⟩ := hrel
            by_cases he12 : e < 12
            ·
              have hee : (e : Int) < 12 := by omega
              have HA : Hid (Below wr.heap.size wr (wr.alloc (.cells #[.int .i64 (-5 - (q : Int)), .int .i64 0] 48))) := (Below.refl _ _).alloc (Nat.le_refl _) _
              have HPA := hide (HP2.out.below HA.out)
              have HMA := hide (HM2.out.below HA.out (fun _ _ => rfl))
              have HXC : Hid (∀ j, j < 1 * 2 → (wr.alloc (.cells #[.int .i64 (-5 - (q : Int)), .int .i64 0] 48)).cell? ⟨wr.heap.size, j, none⟩ = some (mcell (-5 - (q : Int)) j)) := fun j hj => by
                obtain rfl | rfl : j = 0 ∨ j = 1 := by omega
                · exact (World.cell?_alloc_at _ _ _ _ rfl).trans rfl
                · exact (World.cell?_alloc_at _ _ _ _ rfl).trans rfl
              clear r0
              go_wp2_with (refine append_mark rfl (.tmp 53) (.tmp 57) rfl col2 HPA.out.zero sl (-5 - (q : Int)) rfl HMA.out wr.heap.size 1 1 rfl HXC.out (by decide) (by omega) ?_; intro sl4 w4 col4 hn4 hM4 hG4; unfold Sl.v; have HM4 := hide hM4; have HG4 := hide hG4; clear hM4 hG4)
              refine ⟨⟨e + 1, col4, sl4, by omega, by first | rfl | simp, by rw [show sl4.n = s.n + e + 1 by omega], by omega, ?_, HM4.out, ?_⟩, by simp [intOf]; omega⟩
              · exact HPA.out.gr HG4.out (mk_ne0 q)
              · exact (HB2.out.alloc HP2.out.hB _).trans (HG4.out.below HPA.out.hB (fun g hg => by rw [HPA.out.low g hg]; exact Ne.symm (mk_ne0 q)))
            · obtain rfl : e = 12 := by omega
              obtain ⟨sa, sn, sc⟩ := sl
              simp only at hn2
              subst hn2
              go_wp2_with (refine make_tms rfl (.const (.int .i64 40)) (.const (.int .i64 40)) rfl 40 40 40 rfl rfl rfl rfl (by decide) ?_; intro w5 hO5 hb5; have HO5 := hide hO5; have HB5 := hide hb5; clear hO5 hb5)
              have HP5 := hide (HP2.out.below HB5.out)
              have HM5 := hide (HM2.out.below HB5.out (fun _ _ => rfl))
              have HG1 : Hid (col2 wr.heap.size = 0 ∧ wr.heap.size ≠ gL ∧ u3.ownBlock ≠ some wr.heap.size ∧ B ≤ wr.heap.size) := ⟨HP2.out.zero _ (Nat.le_refl _), by have := HP2.out.gL_lt; omega, fun e => by have := (World.ownsRow.lt HP2.out.grow _ e).2; omega, HP2.out.hB⟩
              have HC5 : Hid (∀ j, j < 80 → w5.cell? ⟨wr.heap.size, j, none⟩ = some (.int .i64 0) ∧ w5.frozen? ⟨wr.heap.size, j, none⟩ = false) := fun j hj => by
                have h5 := HO5.out
                unfold TOwn at h5
                rw [mks_rep, List.length_replicate] at h5
                refine ⟨?_, World.ownsRow.frozenAt h5 _⟩
                rw [World.ownsRow.cellAt h5 j (by omega), mks_at (by omega)]
                unfold mcell
                split <;> rfl
              have HB6 := hide (HB2.out.trans (HB5.out.mono HP2.out.hB))
              obtain ⟨gm, hgm⟩ : ∃ g, wr.heap.size = g := ⟨_, rfl⟩
              have HL5 : Hid (gm < w5.heap.size) := by have := (World.ownsRow.lt HO5.out wr.heap.size rfl).2; unfold Hid; omega
              rw [hgm] at HG1 HC5 ⊢
              clear hgm HO5 HB5 HP2 HM2 HB2 r0
              go_wp2
              go_loopw [10] (fun t wy => ∃ f : Nat, f ≤ 40 ∧ t = .int .i64 (f : Int) ∧ Hid (Ph wy B gL k cL LL col2 u3 GS) ∧ Hid (Mk wy col2 ⟨sa, s.n + 12, sc⟩ (-5 - (q : Int))) ∧ Hid (Below B w wy) ∧ Hid (∀ j, j < 80 → wy.cell? ⟨gm, j, none⟩ = some (if j < 2 * f then mcell (-5 - (q : Int)) j else .int .i64 0) ∧ wy.frozen? ⟨gm, j, none⟩ = false) ∧ Hid (gm < wy.heap.size)) (fun t _ => 40 - (intOf t).toNat)
              case atStart => exact ⟨0, by omega, rfl, HP5.out, HM5.out, HB6.out, fun j hj => by rw [if_neg (by omega)]; exact HC5.out j hj, HL5.out⟩
              case round =>
                obtain ⟨f, hf, rfl, HP7, HM7, HB7, HC7, HL7⟩ := hrel
                clear HP5 HM5 HB6 HC5 HL5
                by_cases hf40 : f < 40
                ·
                  have hff : (f : Int) < 40 := by omega
                  obtain ⟨c0, f0⟩ := HC7.out (f * 2) (by omega)
                  rw [if_neg (by omega)] at c0
                  have HPS := hide (HP7.out.set (b := gm) (o := f * 2) (u := .int .i64 (-5 - (q : Int))) HG1.out.1 HG1.out.2.1 HG1.out.2.2.1)
                  have HMS := hide (HM7.out.far (b := gm) (o := f * 2) (u := .int .i64 (-5 - (q : Int))) (by rw [HG1.out.1]; exact Ne.symm (mk_ne0 q)))
                  have HBS := hide (HB7.out.setCell (p := ⟨gm, f * 2, none⟩) HG1.out.2.2.2 (.int .i64 (-5 - (q : Int))))
                  have HCS : Hid (∀ j, j < 80 → (wr.setCell ⟨gm, f * 2, none⟩ (.int .i64 (-5 - (q : Int)))).cell? ⟨gm, j, none⟩ = some (if j < 2 * (f + 1) then mcell (-5 - (q : Int)) j else .int .i64 0) ∧ (wr.setCell ⟨gm, f * 2, none⟩ (.int .i64 (-5 - (q : Int)))).frozen? ⟨gm, j, none⟩ = false) := fun j hj => by
                    obtain ⟨c1, f1⟩ := HC7.out j hj
                    refine ⟨?_, by rw [World.frozen?_setCell]; exact f1⟩
                    by_cases e : j = f * 2
                    · subst e
                      rw [if_pos (by omega), World.cell?_setCell_same _ _ _ (by rw [c1])]
                      unfold mcell
                      rw [if_pos (by omega)]
                    · rw [World.cell?_setCell_other _ _ _ _ (by first | (simp; done) | (simp; omega)), c1]
                      congr 1
                      by_cases e2 : j < 2 * f
                      · rw [if_pos e2, if_pos (by omega)]
                      · rw [if_neg e2]
                        by_cases e3 : j < 2 * (f + 1)
                        · rw [if_pos e3]
                          unfold mcell
                          rw [if_neg (by omega)]
                        · rw [if_neg e3]
                  have HLS : Hid (gm < (wr.setCell ⟨gm, f * 2, none⟩ (.int .i64 (-5 - (q : Int)))).heap.size) := by
                    have := HL7.out
                    show gm < _
                    simp [World.setCell]
                    exact this
                  clear HC7
                  go_wp2
                  go_roundw
                  case rel => exact ⟨f + 1, by omega, by go_num, HPS.out, HMS.out, HBS.out, HCS.out, HLS.out⟩
                  case measure => simp [intOf]; omega
                · obtain rfl : f = 40 := by omega
                  obtain ⟨bb, oo, e0, hr⟩ := HP7.out.row.at sl1 (by decide) HSK.out
                  simp only [Option.some.injEq, Addr.mk.injEq, and_true] at e0
                  obtain ⟨rfl, rfl⟩ := e0
                  have r0 := hr 0 _ rfl
                  simp only [Nat.add_zero, Nat.zero_add, Nat.mul_one] at r0
                  unfold Sl.v at r0
                  clear hr
                  have HXC : Hid (∀ j, j < 40 * 2 → wr.cell? ⟨gm, j, none⟩ = some (mcell (-5 - (q : Int)) j)) := fun j hj => by
                    rw [(HC7.out j (by omega)).1, if_pos (by omega)]
                  have HMS := hide (HP7.out.lists q s HSK.out)
                  clear HC7
                  have HIS := hide infoSl
                  go_wp2_with (first
                    | (refine append_mark rfl (.tmp 75) (.tmp 76) rfl col2 HP7.out.zero s (-5 - (q : Int)) rfl HMS.out gm 40 40 rfl HXC.out (by decide) (by omega) ?_
                       intro sB
                       obtain ⟨ba, bn, bc⟩ := sB
                       intro w8 col8 hn8 hM8 hG8
                       simp only at hn8
                       subst hn8
                       unfold Sl.v
                       have HM8 := hide hM8
                       have HG8 := hide hG8
                       clear hM8 hG8
                       have HP8 := hide (HP7.out.gr HG8.out (mk_ne0 q))
                       have HS8 := hide (HG8.out.keep _ _ HM7.out)
                       have HA8 : Hid (Below w8.heap.size w8 (w8.alloc (.cells #[.slice sa (s.n + 12) sc, .slice ba (s.n + 40) bc] 22))) := (Below.refl _ _).alloc (Nat.le_refl _) _
                       have HPA := hide (HP8.out.below HA8.out)
                       have HMA := hide (HM8.out.below HA8.out (fun _ _ => rfl))
                       have HSA := hide (HS8.out.below HA8.out (fun _ _ => rfl)))
                    | (obtain ⟨i1, z1, hi1, hz1, hs1, hy1, hc1⟩ := HIS.out
                       refine append_at _ rfl (.tmp 70) (.tmp 78) 63 rfl B 22 i1 z1 1 24 Tryd.underlying63 hi1 hz1 hs1 hy1 hc1 (by decide) u3 GS.length (GS.flatMap Sl.cell) rfl HPA.out.grow ⟨w8.heap.size, 0, none⟩ 2 2 [.slice sa (s.n + 12) sc, .slice ba (s.n + 40) bc] rfl rfl (two_at _ _ _ _) (two_one _ _ _ _ _ _) (by unfold maxLen; omega) (by omega) HPA.out.hB (by decide) ?_
                       intro g9 c9 w9 ho9 hg9 hat9
                       have HO9 := hide ho9
                       have HG9 := hide hg9
                       have HT9 := hide hat9
                       clear ho9 hg9 hat9 hi1 hz1 hs1 hy1 hc1))
                  refine ⟨⟨q + 1, col8, GS ++ [⟨sa, s.n + 12, sc⟩, ⟨ba, s.n + 40, bc⟩], by omega, by first | rfl | simp, by simp; omega, ?_, ?_⟩, by simp [intOf]; omega⟩
                  · refine HPA.out.more (GN := [⟨sa, s.n + 12, sc⟩, ⟨ba, s.n + 40, bc⟩]) ?_ HG9.out HT9.out (fun j t ht => ?_)
                    · have h9 := HO9.out
                      rw [hgs] at h9
                      rw [List.length_append, List.flatMap_append, hgs]
                      exact h9
                    · match j, ht with
                      | 0, ht =>
                        obtain rfl : (⟨sa, s.n + 12, sc⟩ : Sl) = t := by simpa using ht
                        rw [show (GS.length + 0) / 2 = q by omega]
                        exact ⟨HSA.out, by show s.n + 12 ≤ 100; omega⟩
                      | 1, ht =>
                        obtain rfl : (⟨ba, s.n + 40, bc⟩ : Sl) = t := by simpa using ht
                        rw [show (GS.length + 1) / 2 = q by omega]
                        exact ⟨HMA.out, by show s.n + 40 ≤ 100; omega⟩
                      | (j + 2), ht => simp at ht
                  · exact ((HB7.out.trans (HG8.out.below HP7.out.hB (fun g hg => by rw [HP7.out.low g hg]; exact Ne.symm (mk_ne0 q)))).alloc HP8.out.hB _).grown HG9.out HPA.out.hB (fun g hg => (World.ownsRow.lt HPA.out.grow g hg).1)
        · obtain rfl : k = q := by omega
          have hform : ∃ a c, u3 = .slice a (2 * k) c := by
            rcases HP.out.grow.2 with ⟨e, h0⟩ | ⟨g, cap, cur, e, _⟩
            · exact ⟨none, 0, by rw [e, show 2 * k = 0 by omega]⟩
            · exact ⟨_, _, by rw [e, hgs]⟩
          obtain ⟨ag, cg, rfl⟩ := hform
          obtain ⟨W3, hW3⟩ : ∃ W, W = wr := ⟨_, rfl⟩
          subst hW3
          go_wp2
          go_loopw [11] (fun i wx => ∃ q : Nat, q ≤ 2 * k ∧ i = .int .i64 (q : Int) ∧ wx = W3) (fun i _ => 2 * k - (intOf i).toNat)
          case atStart => exact ⟨0, by omega, rfl, rfl⟩
          case round =>
            obtain ⟨q, hq2, rfl, rfl⟩ := hrel
            by_cases hlt6 : q < 2 * k
            ·
              obtain ⟨s, hs⟩ : ∃ s, GS[q]? = some s := ⟨_, List.getElem?_eq_getElem (by omega)⟩
              have HM := hide (HP.out.marks q s hs)
              have hsn := HP.out.small s (List.mem_of_getElem? hs)
              have hqq : (q : Int) < ((2 * k : Nat) : Int) := by omega
              obtain ⟨gg, hgg⟩ : ∃ g, ag = some ⟨g, 0, none⟩ := by
                rcases HP.out.grow.2 with ⟨e, h0⟩ | ⟨g, cap, cur, e, _⟩
                · omega
                · simp only [Value.slice.injEq] at e
                  exact ⟨g, e.1⟩
              subst hgg
              have r0 : wr.cell? ⟨gg, q, none⟩ = some (.slice s.a s.n s.c) := by
                have h := HP.out.grow
                rw [hgs] at h
                rw [World.ownsRow.cellAt h q (by omega), flat_sl, List.getElem?_map, hs]
                rfl
              have hw := wrap_mark (k := q / 2) (by omega)
              clear hs
              obtain ⟨W4, hW4⟩ : ∃ W, W = wr := ⟨_, rfl⟩
              subst hW4
              go_wp2
              go_loopw [12] (fun i wx => ∃ r : Nat, r ≤ s.n ∧ i = .int .i64 (r : Int) ∧ wx = W4) (fun i _ => s.n - (intOf i).toNat)
              case atStart => exact ⟨0, by omega, rfl, rfl⟩
              case round =>
                obtain ⟨r, hr2, rfl, rfl⟩ := hrel
                by_cases hlt7 : r < s.n
                ·
                  have hrr : (r : Int) < (s.n : Int) := by omega
                  obtain ⟨G, hG, c0⟩ := HM.out.see hlt7
                  rw [hG] at r0
                  go_wp2
                  exact ⟨⟨r + 1, by omega, by first | rfl | simp, trivial⟩, by simp [intOf]; omega⟩
                · obtain rfl : s.n = r := by omega
                  go_wp2
                  exact ⟨⟨q + 1, by omega, by first | rfl | simp, trivial⟩, by simp [intOf]; omega⟩
            · obtain rfl : 2 * k = q := by omega
              obtain ⟨W5, hW5⟩ : ∃ W, W = wr := ⟨_, rfl⟩
              subst hW5
              go_wp2
              go_loopw [13] (fun i wx => ∃ q : Nat, q ≤ k ∧ i = .int .i64 (q : Int) ∧ wx = W5) (fun i _ => k - (intOf i).toNat)
              case atStart => exact ⟨0, by omega, rfl, rfl⟩
              case round =>
                obtain ⟨q, hq8, rfl, rfl⟩ := hrel
                by_cases hlt8 : q < k
                ·
                  obtain ⟨s, hs⟩ : ∃ s, LL[q]? = some s := ⟨_, List.getElem?_eq_getElem (by omega)⟩
                  have HM := hide (HP.out.lists q s hs)
                  have hsn := HN.out s (List.mem_of_getElem? hs)
                  have hqq : (q : Int) < (k : Int) := by omega
                  obtain ⟨bb, oo, e0, hr⟩ := HP.out.row.at sl1 (by decide) hs
                  simp only [Option.some.injEq, Addr.mk.injEq, and_true] at e0
                  obtain ⟨rfl, rfl⟩ := e0
                  have r0 := hr 0 _ rfl
                  simp only [Nat.add_zero, Nat.zero_add, Nat.mul_one] at r0
                  unfold Sl.v at r0
                  clear hr hs
                  have hw := wrap_mark (k := q) (by omega)
                  obtain ⟨W6, hW6⟩ : ∃ W, W = wr := ⟨_, rfl⟩
                  subst hW6
                  go_wp2
                  go_loopw [14] (fun i wx => ∃ r : Nat, r ≤ s.n ∧ i = .int .i64 (r : Int) ∧ wx = W6) (fun i _ => s.n - (intOf i).toNat)
                  case atStart => exact ⟨0, by omega, rfl, rfl⟩
                  case round =>
                    obtain ⟨r, hr2, rfl, rfl⟩ := hrel
                    by_cases hlt9 : r < s.n
                    ·
                      have hrr : (r : Int) < (s.n : Int) := by omega
                      obtain ⟨G, hG, c0⟩ := HM.out.see hlt9
                      rw [hG] at r0
                      go_wp2
                      exact ⟨⟨r + 1, by omega, by first | rfl | simp, trivial⟩, by simp [intOf]; omega⟩
                    · obtain rfl : s.n = r := by omega
                      go_wp2
                      exact ⟨⟨q + 1, by omega, by first | rfl | simp, trivial⟩, by simp [intOf]; omega⟩
                · obtain rfl : k = q := by omega
                  go_wp2
                  go_ret
                  exact ⟨rfl, HB3.out⟩
end Go.Proofs.YtdckpecalglnoaaDoor
