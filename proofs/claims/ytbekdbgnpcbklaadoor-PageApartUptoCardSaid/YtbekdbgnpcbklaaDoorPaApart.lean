/-
  The law's apart: lists that share no block are marked, grown and looked at.
-/
import Derived.Test.YtbekdbgnpcbklaaDoorPaMake
import Derived.Deep.Cut
namespace Go.Proofs.YtbekdbgnpcbklaaDoor
open Go.RowKit FerryCrc
set_option linter.unusedVariables false
set_option linter.unusedSimpArgs false

theorem one_at (w : World) (a : Value) (t : TypeId) : ∀ j u, [a][j]? = some u → (w.alloc (.cells #[a] t)).cell? ((⟨w.heap.size, 0, none⟩ : Addr).add j) = some u := fun j u hu => by
  rw [add_lit', Nat.zero_add]
  match j, hu with
  | 0, hu => exact (World.cell?_alloc_at _ _ _ _ rfl).trans hu
  | (j + 1), hu => simp at hu
theorem one_one (a : Option Addr) (n c : Nat) : ∀ u ∈ [Value.slice a n c], u.oneCell' = true := fun u hu => by
  simp only [List.mem_cons, List.not_mem_nil, or_false] at hu
  rcases hu with rfl
  rfl
theorem flat_sl (l : List Sl) : l.flatMap Sl.cell = l.map Sl.v := by
  induction l with
  | nil => rfl
  | cons a t ih => rw [List.flatMap_cons, ih]; rfl
theorem Mk.see {w : World} {col : Nat → Int} {s : Sl} {m : Int} (h : Mk w col s m) {r : Nat} (hr : r < s.n) : ∃ G, s.a = some ⟨G, 0, none⟩ ∧ w.cell? ⟨G, r * 66, none⟩ = some (.int .i64 m) := by
  cases ha : s.a with
  | none => have := (h.null ha).1; omega
  | some ad =>
    obtain ⟨g, off, sp⟩ := ad
    obtain ⟨h1, h2, h3, h4⟩ := h.at0 _ ha
    simp only at h1 h2 h3 h4
    subst h1 h2
    exact ⟨g, rfl, h.vis g ha r hr⟩
theorem alloc_cells_at (w : World) (cs : List Value) (t : TypeId) : ∀ j u, cs[j]? = some u → (w.alloc (.cells cs.toArray t)).cell? ⟨w.heap.size, j, none⟩ = some u := fun j u hu => by
  rw [World.cell?_alloc_at _ _ _ _ rfl]
  simpa using hu

theorem pgs_unt {U : Nat → Prop} {w w' : World} {a : Option Addr} {n c : Nat} {l : List Pg} (h : Pgs w a n c l) (hb : Unt U w w') (hlt : ∀ ad, a = some ad → U ad.block) : Pgs w' a n c l :=
  ⟨h.size, h.most, h.fit, h.ok, h.null, fun k p hk => by
    obtain ⟨b, off, e, hr⟩ := h.cell k p hk
    refine ⟨b, off, e, fun j v hv => ?_⟩
    rw [World.cell?_of_block (a := ⟨b, off + k * 66 + j, none⟩) (hb.block b (hlt ⟨b, off, none⟩ e))]
    exact hr j v hv⟩
theorem pg_rights (p : Pg) (m : Int) : (⟨m, p.dirty, p.data⟩ : Pg).cells = p.cells.set 0 (.int .i64 m) := rfl
theorem Pg.rights_ok {p : Pg} (h : p.Ok) {m : Int} (h1 : -9223372036854775808 ≤ m) (h2 : m ≤ 9223372036854775807) : (⟨m, p.dirty, p.data⟩ : Pg).Ok := ⟨h1, h2, h.size, h.small⟩
/-- A page's rights are written. -/
theorem POwn.putR {w : World} {base G cap n : Nat} {l : List Pg} (h : POwn w base (.slice (some ⟨G, 0, none⟩) n cap) l) (ok : Oks l) (hn : l.length = n) {k : Nat} {p : Pg} (hk : l[k]? = some p) {m : Int} (h1 : -9223372036854775808 ≤ m) (h2 : m ≤ 9223372036854775807) :
    (∃ u, w.cell? ⟨G, k * 66, none⟩ = some u) ∧ w.frozen? ⟨G, k * 66, none⟩ = false ∧ POwn (w.setCell ⟨G, k * 66, none⟩ (.int .i64 m)) base (.slice (some ⟨G, 0, none⟩) n cap) (l.set k ⟨m, p.dirty, p.data⟩) ∧ Oks (l.set k ⟨m, p.dirty, p.data⟩) ∧ w.grownBy (w.setCell ⟨G, k * 66, none⟩ (.int .i64 m)) (some G) := by
  subst hn
  obtain ⟨c0, f0⟩ := POwn.cellOf h rfl ok hk (j := 0) (by decide)
  rw [Nat.add_zero] at c0 f0
  have hst := POwn.stored h ok hk (j := 0) (by decide) (pg_rights p m)
  rw [Nat.add_zero] at hst
  exact ⟨⟨_, c0⟩, f0, hst, ok.set k (Pg.rights_ok (ok p (List.mem_of_getElem? hk)) h1 h2), (World.ownsRow.stored h (k * 66) _).2⟩

set_option maxRecDepth 100000 in
set_option maxHeartbeats 8000000 in
theorem apart_any {w : World} (U : Nat → Prop) (B gL K cL : Nat) (LL : List Sl) (MS : Nat → List Pg) (aI aW : Option Addr) (len cI cW : Nat) (M : List Pg) (hI : Pgs w aI len cI M) (hW : Pgs w aW len cW M) (hIl : ∀ ad, aI = some ad → U ad.block) (hWl : ∀ ad, aW = some ad → U ad.block)
    (hL : Rcs Sl.cell 1 w (some ⟨gL, 0, none⟩) K cL LL) (hK : K ≤ 5) (hls : Lists w B LL MS) (hap : Apt LL) (hn : ∀ s ∈ LL, s.n ≤ 1400000) (hgL : ∀ s ∈ LL, s.v.ownBlock ≠ some gL) (hgl : gL < w.heap.size) (hU1 : ∀ g, U g → g < w.heap.size) (hU2 : ∀ g, U g → ∀ s ∈ LL, s.v.ownBlock ≠ some g) :
    Calls Tryd.prog 27 #[.slice (some ⟨gL, 0, none⟩) K cL, .slice aI len cI, .slice aW len cW] w fun e w' => e = .returned (.bool true) ∧ Unt U w w' := by
  have HU1 := hide hU1
  have HU2 := hide hU2
  have HI0 := hide hI
  have HW0 := hide hW
  have HIL := hide hIl
  have HWL := hide hWl
  have HL := hide hL
  have hl := hL.size
  have HLS := hide hls
  have HAP := hide hap
  have HN := hide hn
  have HGL := hide hgL
  clear hL hls hap hn hgL hI hW hIl hWl hU1 hU2
  go_enter Tryd.func27, Tryd.ntmps27
  go_wp2
  go_loopw [8] (fun i wr => ∃ (k : Nat) (MS : Nat → List Pg), k ≤ K ∧ i = .int .i64 (k : Int) ∧ w.heap.size ≤ wr.heap.size ∧ Hid (Lists wr B LL MS) ∧ Hid (∀ j s, j < k → LL[j]? = some s → ∀ p ∈ MS j, p.rights = -5 - (j : Int)) ∧ Hid (Rcs Sl.cell 1 wr (some ⟨gL, 0, none⟩) K cL LL) ∧ Hid (Unt U w wr)) (fun i _ => K - (intOf i).toNat)
  case atStart => exact ⟨0, MS, by omega, rfl, Nat.le_refl _, HLS.out, fun j s hj => by omega, HL.out, Unt.refl _ _⟩
  case round =>
    obtain ⟨k, M1, hk, rfl, hsz, hls, hmk, hrow, hb⟩ := hrel
    by_cases hlt : k < K
    ·
      as_aux_lemma =>
        obtain ⟨s, hs⟩ : ∃ s, LL[k]? = some s := ⟨_, List.getElem?_eq_getElem (by rw [hl]; exact hlt)⟩
        have HSK := hide hs
        have hkk : (k : Int) < (K : Int) := by omega
        have hsn := HN.out s (List.mem_of_getElem? hs)
        obtain ⟨W1, hW1⟩ : ∃ W, W = wr := ⟨_, rfl⟩
        subst hW1
        clear hs
        go_wp2
        go_loopw [9] (fun i wx => ∃ (q : Nat) (M2 : Nat → List Pg), q ≤ s.n ∧ i = .int .i64 (q : Int) ∧ w.heap.size ≤ wx.heap.size ∧ Hid (Lists wx B LL M2) ∧ Hid (∀ j s, j < k → LL[j]? = some s → ∀ p ∈ M2 j, p.rights = -5 - (j : Int)) ∧ Hid (∀ r p, r < q → (M2 k)[r]? = some p → p.rights = -5 - (k : Int)) ∧ Hid (Rcs Sl.cell 1 wx (some ⟨gL, 0, none⟩) K cL LL) ∧ Hid (Unt U w wx)) (fun i _ => s.n - (intOf i).toNat)
        case atStart => exact ⟨0, M1, by omega, rfl, hsz, hls.out, hmk.out, fun r p hr => by omega, hrow.out, hb.out⟩
        case round =>
          obtain ⟨q, M2, hq, rfl, hsz2, hls2, hmk2, hmq, hrow2, hb2⟩ := hrel
          obtain ⟨bb, oo, e0, hr⟩ := hrow2.out.at sl1 (by decide) HSK.out
          simp only [Option.some.injEq, Addr.mk.injEq, and_true] at e0
          obtain ⟨rfl, rfl⟩ := e0
          have r0 := hr 0 _ rfl
          simp only [Nat.add_zero, Nat.zero_add, Nat.mul_one] at r0
          unfold Sl.v at r0
          clear hr
          by_cases hlt2 : q < s.n
          · have hown := hls2.out.own k s HSK.out
            have hok := hls2.out.ok k s HSK.out
            have hlen := hls2.out.len k s HSK.out
            obtain ⟨p, hp⟩ : ∃ p, (M2 k)[q]? = some p := ⟨_, List.getElem?_eq_getElem (by omega)⟩
            obtain ⟨G, hG⟩ : ∃ G, s.a = some ⟨G, 0, none⟩ := by
              rcases hown.2 with ⟨e, h0⟩ | ⟨g, _, _, e, _⟩
              · omega
              · unfold Sl.v at e
                simp only [Value.slice.injEq] at e
                exact ⟨g, e.1⟩
            unfold Sl.v at hown
            rw [hG] at hown r0
            obtain ⟨⟨u0, c0⟩, f0, O2, OK2, G2⟩ := POwn.putR hown hok hlen hp (m := -5 - (k : Int)) (by omega) (by omega)
            have hob : s.v.ownBlock = some G := by unfold Sl.v; rw [hG]; rfl
            have hgne : gL ≠ G := fun e => HGL.out s (List.mem_of_getElem? HSK.out) (by rw [hob, e])
            have hGB : ¬ U G := fun h => HU2.out G h s (List.mem_of_getElem? HSK.out) hob
            have hw := wrap_mark (k := k) (by omega)
            have hqq : (q : Int) < (s.n : Int) := by omega
            have L3 : Hid (Lists (wr.setCell ⟨G, q * 66, none⟩ (.int .i64 (-5 - (k : Int)))) B LL (fun j => if j = k then (M2 k).set q ⟨-5 - (k : Int), p.dirty, p.data⟩ else M2 j)) := by
              refine ⟨fun j t ht => ?_, fun j t ht => ?_, fun j t ht => ?_⟩
              · by_cases e : j = k
                · subst e
                  rw [HSK.out] at ht
                  obtain rfl := Option.some.inj ht
                  show POwn _ B s.v (if j = j then _ else _)
                  rw [if_pos rfl]
                  unfold Sl.v
                  rw [hG]
                  exact O2
                · show POwn _ B t.v (if j = k then _ else _)
                  rw [if_neg e]
                  exact World.ownsRow.kept (hls2.out.own j t ht) G2 (.inr fun h => e (HAP.out j k t s G ht HSK.out h hob))
              · show Oks (if j = k then _ else _)
                by_cases e : j = k
                · rw [if_pos e]; exact OK2
                · rw [if_neg e]; exact hls2.out.ok j t ht
              · show (if j = k then _ else _ : List Pg).length = t.n
                by_cases e : j = k
                · subst e
                  rw [HSK.out] at ht
                  obtain rfl := Option.some.inj ht
                  rw [if_pos rfl, List.length_set]
                  exact hlen
                · rw [if_neg e]
                  exact hls2.out.len j t ht
            have R3 : Hid (Rcs Sl.cell 1 (wr.setCell ⟨G, q * 66, none⟩ (.int .i64 (-5 - (k : Int)))) (some ⟨gL, 0, none⟩) K cL LL) := ⟨hrow2.out.size, hrow2.out.row.size, hrow2.out.row.fit, hrow2.out.row.null, fun j v hv => by
              obtain ⟨b, o, e, hc⟩ := hrow2.out.row.cell j v hv
              refine ⟨b, o, e, ?_⟩
              simp only [Option.some.injEq, Addr.mk.injEq, and_true] at e
              rw [World.cell?_setCell_other _ _ _ _ (by first | (simp; done) | (simp; omega))]
              exact hc⟩
            have B3 := hide (hb2.out.trans (Unt.set wr (o := q * 66) (.int .i64 (-5 - (k : Int))) hGB))
            have Z3 : Hid (w.heap.size ≤ (wr.setCell ⟨G, q * 66, none⟩ (.int .i64 (-5 - (k : Int)))).heap.size) := by
              show w.heap.size ≤ _
              simp [World.setCell]
              exact hsz2
            have HPQ := hide hp
            clear hown O2 G2 hp OK2 hok
            go_wp2
            go_roundw
            case rel =>
              refine ⟨q + 1, _, by omega, by go_num, Z3.out, L3.out, fun j t hj ht => ?_, fun r p' hr hp' => ?_, R3.out, B3.out⟩
              · show ∀ p ∈ (if j = k then _ else _ : List Pg), _
                rw [if_neg (by omega)]
                exact hmk2.out j t hj ht
              · have hp2 : ((M2 k).set q ⟨-5 - (k : Int), p.dirty, p.data⟩)[r]? = some p' := by
                  have h5 : (if k = k then (M2 k).set q ⟨-5 - (k : Int), p.dirty, p.data⟩ else M2 k)[r]? = some p' := hp'
                  rw [if_pos rfl] at h5
                  exact h5
                by_cases e : r = q
                · subst e
                  rw [List.getElem?_set_self (by omega)] at hp2
                  obtain rfl := Option.some.inj hp2
                  rfl
                · rw [List.getElem?_set_ne (Ne.symm e)] at hp2
                  exact hmq.out r p' (by omega) hp2
            case measure => simp [intOf]; omega
          · obtain rfl : q = s.n := by omega
            have HMK : Hid (∀ j t, j < k + 1 → LL[j]? = some t → ∀ p ∈ M2 j, p.rights = -5 - (j : Int)) := fun j t hj ht p hp => by
              by_cases e : j = k
              · subst e
                rw [HSK.out] at ht
                obtain rfl := Option.some.inj ht
                have hlen := hls2.out.len j s HSK.out
                obtain ⟨r, hr⟩ := List.getElem?_of_mem hp
                have := (List.getElem?_eq_some_iff.1 hr).1
                exact hmq.out r p (by omega) hr
              · exact hmk2.out j t (by omega) ht p hp
            go_wp2
            refine ⟨⟨k + 1, M2, by omega, by go_num, hsz2, hls2.out, HMK.out, hrow2.out, hb2.out⟩, by simp [intOf]; omega⟩
    · obtain rfl : k = K := by omega
      have hPh : Hid (Ph U wr w.heap.size gL k cL LL (col0 LL) (.slice none 0 0) []) := by
        have hl1 := hls.out
        refine ⟨fun g hg => ?_, fun j s hs => ?_, hrow.out, col0_no (fun j s hs => HGL.out s (List.mem_of_getElem? hs)), ?_, fun g hg => col0_no fun j s hs he => HU2.out g hg s (List.mem_of_getElem? hs) he, HU1.out, hsz, ?_, ?_, ?_, ?_⟩
        · refine col0_no fun j s hs he => ?_
          have := (World.ownsRow.lt (hl1.own j s hs) g he).2
          omega
        · have ho := hl1.own j s hs
          have hjl : j < LL.length := (List.getElem?_eq_some_iff.1 hs).1
          obtain ⟨t, ht, _, hM⟩ := mk_own (col := col0 LL) ho (flat_mkR (hl1.ok j s hs) (hmk.out j s (by omega) hs)) (fun g hg => col0_at HAP.out hs hg)
          obtain rfl := Sl.inj ht
          exact hM
        · omega
        · exact World.ownsRow_nil _ _ _ _
        · intro g hg
          simp [Value.ownBlock] at hg
        · intro j s hs
          simp at hs
        · intro s hs
          simp at hs
      clear hls hmk hrow HLS HL HGL HAP
      go_wp2
      go_loopw [7, 10] (fun gv i wx => ∃ (q : Nat) (col : Nat → Int) (GS : List Sl), q ≤ k ∧ i = .int .i64 (q : Int) ∧ GS.length = 2 * q ∧ Hid (Ph U wx w.heap.size gL k cL LL col gv GS) ∧ Hid (Unt U w wx)) (fun _ i _ => k - (intOf i).toNat)
      case atStart => exact ⟨0, col0 LL, [], by omega, rfl, rfl, hPh.out, hb.out⟩
      case round =>
        obtain ⟨q, col, GS, hq, rfl, hgs, HP, HB3⟩ := hrel
        clear hPh hb hsz
        by_cases hlt3 : q < k
        ·
          obtain ⟨s, hs⟩ : ∃ s, LL[q]? = some s := ⟨_, List.getElem?_eq_getElem (by rw [hl]; exact hlt3)⟩
          have HSK := hide hs
          have hsn := HN.out s (List.mem_of_getElem? hs)
          have hqq : (q : Int) < (k : Int) := by omega
          have hw := wrap_mark (k := q) (by omega)
          obtain ⟨bb, oo, e0, hr⟩ := HP.out.row.at sl1 (by decide) HSK.out
          simp only [Option.some.injEq, Addr.mk.injEq, and_true] at e0
          obtain ⟨rfl, rfl⟩ := e0
          have r0 := hr 0 _ rfl
          simp only [Nat.add_zero, Nat.zero_add, Nat.mul_one] at r0
          unfold Sl.v at r0
          clear hr hs
          go_wp2
          go_loopw [11, 12] (fun lv t wy => ∃ (e : Nat) (col2 : Nat → Int) (sl : Sl), e ≤ 9 ∧ t = .int .i64 (e : Int) ∧ lv = .slice sl.a sl.n sl.c ∧ sl.n = s.n + e ∧ Hid (Ph U wy w.heap.size gL k cL LL col2 u7 GS) ∧ Hid (Mk wy col2 sl (-5 - (q : Int))) ∧ Hid (Unt U w wy)) (fun _ t _ => 9 - (intOf t).toNat)
          case atStart => exact ⟨0, col, s, by omega, rfl, rfl, rfl, HP.out, HP.out.lists q s HSK.out, HB3.out⟩
          case round =>
            obtain ⟨e, col2, sl, he, rfl, rfl, hn2, HP2, HM2, HB2⟩ := hrel
            by_cases he12 : e < 9
            ·
              as_aux_lemma =>
                have hee : (e : Int) < 9 := by omega
                have hpo : (mkp (-5 - (q : Int))).Ok := mkp_ok (by omega) (by omega)
                have HPO := hide hpo
                have HA : Hid (Below wr.heap.size wr (wr.alloc (.cells (mkp (-5 - (q : Int))).cells.toArray 59))) := (Below.refl _ _).alloc (Nat.le_refl _) _
                have HPA := hide (HP2.out.below HA.out)
                have HMA := hide (HM2.out.below HA.out (fun _ _ => rfl))
                have HXC := hide (alloc_cells_at wr (mkp (-5 - (q : Int))).cells 59)
                have HZC : Hid (∀ r : Int, Value.agg (zPage.setIfInBounds 0 (.int .i64 r)) = .agg (mkp r).cells.toArray) := fun r => congrArg Value.agg (mkp_cells r).symm
                have HPI := hide infoPage
                have hzp := zero_page
                have hne := zPage_ne
                clear r0 hpo
                generalize zPage = Z at *
                go_upto_region 16 with fail
                refine wp_region_list ?_
                refine wpList_tail (pre := [{ dst := some 57, op := Go.Op.move (Go.Operand.tmp 11), type := 22, pos := "outright.go:218", after := #[], guard := none }, { dst := some 58, op := Go.Op.move (Go.Operand.tmp 10), type := 3, pos := "outright.go:218", after := #[], guard := none }, { dst := some 59, op := Go.Op.binOp Go.BinOp.sub 3 (Go.Operand.const (Go.Value.int Go.IntKind.i64 (-5))) (Go.Operand.tmp 58) 3, type := 3, pos := "outright.go:218", after := #[{ on := 1, ground := Go.Ground.data }], guard := none }, { dst := some 60, op := Go.Op.build 59 #[(0, Go.Operand.tmp 59)], type := 59, pos := "outright.go:218", after := #[{ on := 2, ground := Go.Ground.data }], guard := none }]) _ ?_
                intro tl htl
                have HTL := hide htl
                clear htl
                simp only [List.cons_append, List.nil_append]
                go_wp2_with fail
                have htl := HTL.out
                clear HTL
                subst htl
                obtain ⟨i, z, hi, hz, hsz, _, _⟩ := HPI.out
                refine wpList_build1 (o := { dst := some 61, op := Go.Op.buildSlice 22 1 #[(0, Go.Operand.tmp 60)], type := 22, pos := "outright.go:218", after := #[{ on := 3, ground := Go.Ground.data }], guard := none }) rfl 22 (.tmp 60) rfl (mkp (-5 - (q : Int))).cells (HZC.out _) 59 i z Tryd.underlying22 hi hz (by rw [HPO.out.cells]; exact hsz) (by rw [HPO.out.cells]; decide) (by rw [HPO.out.cells]; decide) ?_
                clear hi hz hsz
                simp only [Act.put, List.setIfInBounds_toArray, List.set_cons_zero, List.set_cons_succ]
                refine append_mark (o := { dst := some 62, op := Go.Op.call { callee := Go.Callee.builtin Go.Builtin.append, args := #[Go.Operand.tmp 57, Go.Operand.tmp 61], argTypes := #[22, 22] }, type := 22, pos := "outright.go:218", after := #[{ on := 0, ground := Go.Ground.data }, { on := 4, ground := Go.Ground.data }], guard := none }) rfl (.tmp 57) (.tmp 61) rfl col2 HPA.out.zero sl (-5 - (q : Int)) rfl HMA.out wr.heap.size 1 1 (mkp (-5 - (q : Int))).cells rfl (mkp_mkR _) HXC.out (mkp_one _) (by decide) (by omega) ?_
                intro sl4 w4 col4 hn4 hM4 hG4
                unfold Sl.v
                have HM4 := hide hM4
                have HG4 := hide hG4
                clear hM4 hG4
                simp only [Act.put, List.setIfInBounds_toArray, List.set_cons_zero, List.set_cons_succ]
                have HPF := hide (HPA.out.gr HG4.out (mk_ne0 q))
                have HBF := hide ((HB2.out.trans (Unt.alloc wr (.cells (mkp (-5 - (q : Int))).cells.toArray 59) (fun g hg => Nat.lt_of_lt_of_le (HP2.out.ult g hg) HP2.out.hB))).trans (HG4.out.unt (fun g hg => ⟨Nat.lt_of_lt_of_le (HPA.out.ult g hg) HPA.out.hB, by rw [HPA.out.low g hg]; exact Ne.symm (mk_ne0 q)⟩)))
                clear HA HPA HMA HXC HG4 HP2 HM2 HB2
                go_wp2
                refine ⟨⟨e + 1, col4, sl4, by omega, by first | rfl | simp, by rw [show sl4.n = s.n + e + 1 by omega], by omega, HPF.out, HM4.out, HBF.out⟩, by simp [intOf]; omega⟩
            · obtain rfl : e = 9 := by omega
              obtain ⟨sa, sn, sc⟩ := sl
              simp only at hn2
              subst hn2
              have HIS := hide infoSl
              have HA1 : Hid (Below wr.heap.size wr (wr.alloc (.cells #[.slice sa (s.n + 9) sc] 22))) := (Below.refl _ _).alloc (Nat.le_refl _) _
              have HPA1 := hide (HP2.out.below HA1.out)
              have HMA1 := hide (HM2.out.below HA1.out (fun _ _ => rfl))
              go_wp2_with (first
                | (obtain ⟨i1, z1, hi1, hz1, hs1, hy1, hc1⟩ := HIS.out
                   refine append_at _ rfl (.tmp 63) (.tmp 65) 56 rfl w.heap.size 22 i1 z1 1 24 Tryd.underlying56 hi1 hz1 hs1 hy1 hc1 (by decide) u7 GS.length (GS.flatMap Sl.cell) rfl HPA1.out.grow ⟨wr.heap.size, 0, none⟩ 1 1 [.slice sa (s.n + 9) sc] rfl rfl (one_at _ _ _) (one_one _ _ _) (by unfold maxLen; omega) (by omega) HPA1.out.hB (by decide) ?_
                   intro g9 c9 w9 ho9 hg9 hat9
                   have HO9 := hide ho9
                   have HG9 := hide hg9
                   have HT9 := hide hat9
                   clear ho9 hg9 hat9 hi1 hz1 hs1 hy1 hc1)
                | (refine make_pgs rfl (.const (.int .i64 40)) (.const (.int .i64 40)) rfl 40 40 40 rfl rfl rfl rfl (by decide) ?_; intro w5 hO5 hb5; have HO5 := hide hO5; have HB5 := hide hb5; clear hO5 hb5))
              have HPM : Hid (Ph U w9 w.heap.size gL k cL LL col2 (.slice (some ⟨g9, 0, none⟩) (2 * q + 1) c9) (GS ++ [⟨sa, s.n + 9, sc⟩])) := by
                refine HPA1.out.more (GN := [⟨sa, s.n + 9, sc⟩]) ?_ HG9.out HT9.out (fun j t ht => ?_)
                · have h9 := HO9.out
                  rw [hgs] at h9
                  rw [List.length_append, List.flatMap_append, hgs]
                  exact h9
                · match j, ht with
                  | 0, ht =>
                    obtain rfl : (⟨sa, s.n + 9, sc⟩ : Sl) = t := by simpa using ht
                    rw [show (GS.length + 0) / 2 = q by omega]
                    exact ⟨HMA1.out, by show s.n + 9 ≤ 1500000; omega⟩
                  | (j + 1), ht => simp at ht
              have HB9 : Hid (Unt U w w9) := (HB2.out.trans (Unt.alloc wr (.cells #[.slice sa (s.n + 9) sc] 22) (fun g hg => Nat.lt_of_lt_of_le (HP2.out.ult g hg) HP2.out.hB))).trans (Unt.grown HG9.out (fun g hg => ⟨Nat.lt_of_lt_of_le (HPA1.out.ult g hg) HPA1.out.hB, fun e => by have h1 := (World.ownsRow.lt HPA1.out.grow g e).1; have h2 := HPA1.out.ult g hg; omega⟩))
              have HP5 := hide (HPM.out.below HB5.out)
              have HG1 : Hid (col2 w9.heap.size = 0 ∧ w9.heap.size ≠ gL ∧ (Value.slice (some ⟨g9, 0, none⟩) (2 * q + 1) c9).ownBlock ≠ some w9.heap.size ∧ ¬ U w9.heap.size) := ⟨HPM.out.zero _ (Nat.le_refl _), by have := HPM.out.gL_lt; omega, fun e => by have := (World.ownsRow.lt HPM.out.grow _ e).2; omega, fun h => by have h1 := HPM.out.ult _ h; have h2 := HPM.out.hB; omega⟩
              have HB6 := hide (HB9.out.trans (Unt.of HB5.out (fun g hg => Nat.lt_of_lt_of_le (HPM.out.ult g hg) HPM.out.hB)))
              obtain ⟨gm, hgm⟩ : ∃ g, w9.heap.size = g := ⟨_, rfl⟩
              obtain ⟨GV, hGV⟩ : ∃ v, Value.slice (some ⟨g9, 0, none⟩) (2 * q + 1) c9 = v := ⟨_, rfl⟩
              obtain ⟨GN, hGN⟩ : ∃ v, GS ++ [⟨sa, s.n + 9, sc⟩] = v := ⟨_, rfl⟩
              have hgn : GN.length = 2 * q + 1 := by rw [← hGN, List.length_append, hgs]; rfl
              have HL5 : Hid (POwn w5 gm (.slice (some ⟨gm, 0, none⟩) 40 40) (List.replicate 40 (pk 0))) := by rw [← hgm]; exact HO5.out
              have HOK : Hid (Oks (List.replicate 40 (pk 0))) := fun p hp => by rw [List.eq_of_mem_replicate hp]; exact pk_ok 0 (by decide) (by decide)
              rw [hGN] at HP5
              rw [hGV] at HP5 HG1 ⊢
              rw [hgm] at HG1 ⊢
              clear hgm hGV hGN HO5 HB5 HP2 HM2 HB2 r0 HPA1 HMA1 HA1 HO9 HG9 HT9 HPM HB9 HIS hgs
              go_wp2
              go_loopw [14] (fun t wy => ∃ (f : Nat) (N : List Pg), f ≤ 40 ∧ t = .int .i64 (f : Int) ∧ Hid (Ph U wy w.heap.size gL k cL LL col2 GV GN) ∧ Hid (Unt U w wy) ∧ Hid (POwn wy gm (.slice (some ⟨gm, 0, none⟩) 40 40) N) ∧ Hid (Oks N) ∧ N.length = 40 ∧ Hid (∀ r p, r < f → N[r]? = some p → p.rights = -5 - (q : Int))) (fun t _ => 40 - (intOf t).toNat)
              case atStart => exact ⟨0, _, by omega, rfl, HP5.out, HB6.out, HL5.out, HOK.out, by simp, fun r p hr => by omega⟩
              case round =>
                obtain ⟨f, N, hf, rfl, HP7, HB7, HO7, HK7, hN7, HR7⟩ := hrel
                clear HP5 HB6 HL5 HOK
                by_cases hf40 : f < 40
                ·
                  as_aux_lemma =>
                    have hff : (f : Int) < 40 := by omega
                    obtain ⟨p, hp⟩ : ∃ p, N[f]? = some p := ⟨_, List.getElem?_eq_getElem (by omega)⟩
                    obtain ⟨⟨u0, c0⟩, f0, O2, OK2, G2⟩ := POwn.putR HO7.out HK7.out hN7 hp (m := -5 - (q : Int)) (by omega) (by omega)
                    have HO2 := hide O2
                    have HK2 := hide OK2
                    have HPS := hide (HP7.out.set (b := gm) (o := f * 66) (u := .int .i64 (-5 - (q : Int))) HG1.out.1 HG1.out.2.1 HG1.out.2.2.1)
                    have HBS := hide (HB7.out.trans (Unt.set wr (o := f * 66) (.int .i64 (-5 - (q : Int))) HG1.out.2.2.2))
                    have HRS : Hid (∀ r p', r < f + 1 → (N.set f ⟨-5 - (q : Int), p.dirty, p.data⟩)[r]? = some p' → p'.rights = -5 - (q : Int)) := fun r p' hr hp' => by
                      by_cases e : r = f
                      · subst e
                        rw [List.getElem?_set_self (by omega)] at hp'
                        obtain rfl := Option.some.inj hp'
                        rfl
                      · rw [List.getElem?_set_ne (Ne.symm e)] at hp'
                        exact HR7.out r p' (by omega) hp'
                    clear O2 OK2 G2 hp
                    go_wp2
                    go_roundw
                    case rel => exact ⟨f + 1, _, by omega, by go_num, HPS.out, HBS.out, HO2.out, HK2.out, by rw [List.length_set]; exact hN7, HRS.out⟩
                    case measure => simp [intOf]; omega
                · obtain rfl : f = 40 := by omega
                  as_aux_lemma =>
                    obtain ⟨bb, oo, e0, hr⟩ := HP7.out.row.at sl1 (by decide) HSK.out
                    simp only [Option.some.injEq, Addr.mk.injEq, and_true] at e0
                    obtain ⟨rfl, rfl⟩ := e0
                    have r0 := hr 0 _ rfl
                    simp only [Nat.add_zero, Nat.zero_add, Nat.mul_one] at r0
                    unfold Sl.v at r0
                    clear hr
                    have HXR : Hid (MkR (-5 - (q : Int)) 40 (flat N)) := by
                      have h1 := flat_mkR HK7.out (m := -5 - (q : Int)) (fun p hp => by
                        obtain ⟨r, hr⟩ := List.getElem?_of_mem hp
                        have := (List.getElem?_eq_some_iff.1 hr).1
                        exact HR7.out r p (by omega) hr)
                      rw [hN7] at h1
                      exact h1
                    have HXC : Hid (∀ j u, (flat N)[j]? = some u → wr.cell? ⟨gm, j, none⟩ = some u) := fun j u hu => by
                      have hj := (List.getElem?_eq_some_iff.1 hu).1
                      rw [HXR.out.len] at hj
                      have h7 := HO7.out
                      unfold POwn at h7
                      rw [hN7] at h7
                      rw [World.ownsRow.cellAt h7 j hj]
                      exact hu
                    have HXO : Hid (∀ u ∈ flat N, u.oneCell' = true) := fun u hu => by
                      obtain ⟨p, _, hp⟩ := List.mem_flatMap.1 hu
                      exact p.one u hp
                    have HMS := hide (HP7.out.lists q s HSK.out)
                    have HIS := hide infoSl
                    clear HO7 HK7 HR7
                    go_wp2_with (first
                      | (refine append_mark rfl (.tmp 82) (.tmp 83) rfl col2 HP7.out.zero s (-5 - (q : Int)) rfl HMS.out gm 40 40 (flat N) rfl HXR.out HXC.out HXO.out (by decide) (by omega) ?_
                         intro sB
                         obtain ⟨ba, bn, bc⟩ := sB
                         intro w8 col8 hn8 hM8 hG8
                         simp only at hn8
                         subst hn8
                         unfold Sl.v
                         have HM8 := hide hM8
                         have HG8 := hide hG8
                         clear hM8 hG8
                         have HP8 := hide (HP7.out.gr HG8.out (mk_ne0 q))
                         have HA8 : Hid (Below w8.heap.size w8 (w8.alloc (.cells #[.slice ba (s.n + 40) bc] 22))) := (Below.refl _ _).alloc (Nat.le_refl _) _
                         have HPA := hide (HP8.out.below HA8.out)
                         have HMA := hide (HM8.out.below HA8.out (fun _ _ => rfl)))
                      | (obtain ⟨i1, z1, hi1, hz1, hs1, hy1, hc1⟩ := HIS.out
                         refine append_at _ rfl (.tmp 78) (.tmp 85) 56 rfl w.heap.size 22 i1 z1 1 24 Tryd.underlying56 hi1 hz1 hs1 hy1 hc1 (by decide) GV GN.length (GN.flatMap Sl.cell) rfl HPA.out.grow ⟨w8.heap.size, 0, none⟩ 1 1 [.slice ba (s.n + 40) bc] rfl rfl (one_at _ _ _) (one_one _ _ _) (by unfold maxLen; omega) (by omega) HPA.out.hB (by decide) ?_
                         intro g9 c9 w9 ho9 hg9 hat9
                         have HO9 := hide ho9
                         have HG9 := hide hg9
                         have HT9 := hide hat9
                         clear ho9 hg9 hat9 hi1 hz1 hs1 hy1 hc1))
                    refine ⟨⟨q + 1, col8, GN ++ [⟨ba, s.n + 40, bc⟩], by omega, by first | rfl | simp, by rw [List.length_append, hgn]; simp; omega, ?_, ?_⟩, by simp [intOf]; omega⟩
                    · refine HPA.out.more (GN := [⟨ba, s.n + 40, bc⟩]) ?_ HG9.out HT9.out (fun j t ht => ?_)
                      · have h9 := HO9.out
                        rw [hgn] at h9
                        rw [List.length_append, List.flatMap_append, hgn]
                        exact h9
                      · match j, ht with
                        | 0, ht =>
                          obtain rfl : (⟨ba, s.n + 40, bc⟩ : Sl) = t := by simpa using ht
                          rw [show (GN.length + 0) / 2 = q by omega]
                          exact ⟨HMA.out, by show s.n + 40 ≤ 1500000; omega⟩
                        | (j + 1), ht => simp at ht
                    · exact ((HB7.out.trans (HG8.out.unt (fun g hg => ⟨Nat.lt_of_lt_of_le (HP7.out.ult g hg) HP7.out.hB, by rw [HP7.out.low g hg]; exact Ne.symm (mk_ne0 q)⟩))).trans (Unt.alloc w8 (.cells #[.slice ba (s.n + 40) bc] 22) (fun g hg => Nat.lt_of_lt_of_le (HP8.out.ult g hg) HP8.out.hB))).trans (Unt.grown HG9.out (fun g hg => ⟨Nat.lt_of_lt_of_le (HPA.out.ult g hg) HPA.out.hB, fun e => by have h1 := (World.ownsRow.lt HPA.out.grow g e).1; have h2 := HPA.out.ult g hg; omega⟩))
        · obtain rfl : k = q := by omega
          as_aux_lemma =>
            have hform : ∃ a c, u7 = .slice a (2 * k) c := by
              rcases HP.out.grow.2 with ⟨e, h0⟩ | ⟨g, cap, cur, e, _⟩
              · exact ⟨none, 0, by rw [e, show 2 * k = 0 by omega]⟩
              · exact ⟨_, _, by rw [e, hgs]⟩
            obtain ⟨ag, cg, rfl⟩ := hform
            obtain ⟨W3, hW3⟩ : ∃ W, W = wr := ⟨_, rfl⟩
            subst hW3
            go_wp2
            go_loopw [15] (fun i wx => ∃ q : Nat, q ≤ 2 * k ∧ i = .int .i64 (q : Int) ∧ wx = W3) (fun i _ => 2 * k - (intOf i).toNat)
            case atStart => exact ⟨0, by omega, rfl, rfl⟩
            case round =>
              obtain ⟨q, hq2, rfl, rfl⟩ := hrel
              by_cases hlt6 : q < 2 * k
              ·
                obtain ⟨s, hs⟩ : ∃ s, GS[q]? = some s := ⟨_, List.getElem?_eq_getElem (by omega)⟩
                have HM := hide (HP.out.marks q s hs)
                have hsn := HP.out.small s (List.mem_of_getElem? hs)
                have hqq : (q : Int) < ((2 * k : Nat) : Int) := by omega
                obtain ⟨gg, hgg⟩ : ∃ g, ag = some ⟨g, 0, none⟩ := by
                  rcases HP.out.grow.2 with ⟨e, h0⟩ | ⟨g, cap, cur, e, _⟩
                  · omega
                  · simp only [Value.slice.injEq] at e
                    exact ⟨g, e.1⟩
                subst hgg
                have r0 : wr.cell? ⟨gg, q, none⟩ = some (.slice s.a s.n s.c) := by
                  have h := HP.out.grow
                  rw [hgs] at h
                  rw [World.ownsRow.cellAt h q (by omega), flat_sl, List.getElem?_map, hs]
                  rfl
                have hw := wrap_mark (k := q / 2) (by omega)
                clear hs
                obtain ⟨W4, hW4⟩ : ∃ W, W = wr := ⟨_, rfl⟩
                subst hW4
                go_wp2
                go_loopw [16] (fun i wx => ∃ r : Nat, r ≤ s.n ∧ i = .int .i64 (r : Int) ∧ wx = W4) (fun i _ => s.n - (intOf i).toNat)
                case atStart => exact ⟨0, by omega, rfl, rfl⟩
                case round =>
                  obtain ⟨r, hr2, rfl, rfl⟩ := hrel
                  by_cases hlt7 : r < s.n
                  ·
                    have hrr : (r : Int) < (s.n : Int) := by omega
                    obtain ⟨G, hG, c0⟩ := HM.out.see hlt7
                    rw [hG] at r0
                    go_wp2
                    exact ⟨⟨r + 1, by omega, by first | rfl | simp, trivial⟩, by simp [intOf]; omega⟩
                  · obtain rfl : s.n = r := by omega
                    go_wp2
                    exact ⟨⟨q + 1, by omega, by first | rfl | simp, trivial⟩, by simp [intOf]; omega⟩
              · obtain rfl : 2 * k = q := by omega
                obtain ⟨W5, hW5⟩ : ∃ W, W = wr := ⟨_, rfl⟩
                subst hW5
                go_wp2
                go_loopw [17] (fun i wx => ∃ q : Nat, q ≤ k ∧ i = .int .i64 (q : Int) ∧ wx = W5) (fun i _ => k - (intOf i).toNat)
                case atStart => exact ⟨0, by omega, rfl, rfl⟩
                case round =>
                  obtain ⟨q, hq8, rfl, rfl⟩ := hrel
                  by_cases hlt8 : q < k
                  ·
                    obtain ⟨s, hs⟩ : ∃ s, LL[q]? = some s := ⟨_, List.getElem?_eq_getElem (by omega)⟩
                    have HM := hide (HP.out.lists q s hs)
                    have hsn := HN.out s (List.mem_of_getElem? hs)
                    have hqq : (q : Int) < (k : Int) := by omega
                    obtain ⟨bb, oo, e0, hr⟩ := HP.out.row.at sl1 (by decide) hs
                    simp only [Option.some.injEq, Addr.mk.injEq, and_true] at e0
                    obtain ⟨rfl, rfl⟩ := e0
                    have r0 := hr 0 _ rfl
                    simp only [Nat.add_zero, Nat.zero_add, Nat.mul_one] at r0
                    unfold Sl.v at r0
                    clear hr hs
                    have hw := wrap_mark (k := q) (by omega)
                    obtain ⟨W6, hW6⟩ : ∃ W, W = wr := ⟨_, rfl⟩
                    subst hW6
                    go_wp2
                    go_loopw [18] (fun i wx => ∃ r : Nat, r ≤ s.n ∧ i = .int .i64 (r : Int) ∧ wx = W6) (fun i _ => s.n - (intOf i).toNat)
                    case atStart => exact ⟨0, by omega, rfl, rfl⟩
                    case round =>
                      obtain ⟨r, hr2, rfl, rfl⟩ := hrel
                      by_cases hlt9 : r < s.n
                      ·
                        have hrr : (r : Int) < (s.n : Int) := by omega
                        obtain ⟨G, hG, c0⟩ := HM.out.see hlt9
                        rw [hG] at r0
                        go_wp2
                        exact ⟨⟨r + 1, by omega, by first | rfl | simp, trivial⟩, by simp [intOf]; omega⟩
                      · obtain rfl : s.n = r := by omega
                        go_wp2
                        exact ⟨⟨q + 1, by omega, by first | rfl | simp, trivial⟩, by simp [intOf]; omega⟩
                  · obtain rfl : k = q := by omega
                    have hS := refSame_any aI len cI M aW cW wr (pgs_unt HI0.out HB3.out HIL.out) (pgs_unt HW0.out HB3.out HWL.out)
                    go_wp2_with fail
                    refine Calls.mono hS ?_
                    rintro e w9 ⟨rfl, b9⟩
                    have HB10 : Hid (Unt U w w9) := HB3.out.trans (Unt.of b9 (fun g hg => Nat.lt_of_lt_of_le (HP.out.ult g hg) HP.out.hB))
                    clear b9 hS
                    go_wp2
                    go_ret
                    exact ⟨rfl, HB10.out⟩
end Go.Proofs.YtbekdbgnpcbklaaDoor
