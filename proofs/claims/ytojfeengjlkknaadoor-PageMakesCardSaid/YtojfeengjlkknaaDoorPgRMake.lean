/-
  Pages made of their plans: the document's Make.
-/
import Derived.Test.YtojfeengjlkknaaDoorPgMake
namespace Go.Proofs.YtojfeengjlkknaaDoor
open Go.RowKit FerryCrc
set_option linter.unusedVariables false
set_option linter.unusedSimpArgs false

theorem str_idx (bs : List Nat) (hs : ∀ c ∈ bs, c < 256) (k : Nat) (h : k < (str bs).size) (c : Nat) (hc : bs[k]? = some c) : ((str bs)[k]'h).toNat = c := by
  have hk : k < bs.length := by rw [← str_len]; exact h
  have e : (str bs)[k]'h = UInt8.ofNat bs[k] := by
    show (str bs).data[k]'_ = _
    simp [str]
  rw [e]
  have h2 := hs bs[k] (List.getElem_mem hk)
  rw [List.getElem?_eq_getElem hk] at hc
  rw [← Option.some.inj hc]
  simp
  omega


theorem one_range {w : World} {base g c : Nat} {x : Pg} (h : POwn w base (.slice (some ⟨g, 0, none⟩) 1 c) [x]) (ok : x.Ok) : w.rangeAt g 0 x.cells := by
  intro j v hv
  have hj : j < 66 := by
    have := (List.getElem?_eq_some_iff.1 hv).1
    rw [ok.cells] at this
    exact this
  have := (h.cellOf rfl (fun y hy => by rw [List.mem_singleton.1 hy]; exact ok) (q := 0) (p := x) rfl hj).1
  simp only [Nat.zero_mul] at this
  rw [this]
  exact hv
/-- A page of whose bytes the first j are laid. -/
def partK (p : Pnv) (j : Nat) : Pg := ⟨p.rights, false, p.init.take j ++ List.replicate (64 - j) 0⟩
theorem partK_ok {p : Pnv} (h : p.Ok) (hi : p.init.length ≤ 64) {j : Nat} (hj : j ≤ p.init.length) : (partK p j).Ok := by
  refine ⟨h.lo, h.hi, ?_, ?_⟩
  · show (p.init.take j ++ List.replicate (64 - j) 0).length = 64
    simp
    omega
  · show ∀ c ∈ p.init.take j ++ List.replicate (64 - j) 0, c < 256
    intro c hc
    rcases List.mem_append.1 hc with hc | hc
    · exact h.small c (List.mem_of_mem_take hc)
    · rw [(List.mem_replicate.1 hc).2]
      decide
theorem partK_full (p : Pnv) : partK p p.init.length = p.page := by simp [partK, Pnv.page]
theorem partK_next {p : Pnv} {j c : Nat} (hi : p.init.length ≤ 64) (hc : p.init[j]? = some c) : (partK p (j + 1)).cells = (partK p j).cells.set (2 + j) (bv c) := by
  rw [← cells_byte]
  congr 1
  have hj : j < p.init.length := (List.getElem?_eq_some_iff.1 hc).1
  unfold partK
  congr 1
  rw [List.set_append_right _ _ (by rw [List.length_take]; exact Nat.min_le_left _ _), List.take_add_one, hc]
  have e : j - (p.init.take j).length = 0 := by simp; omega
  rw [e, show 64 - j = (64 - (j + 1)) + 1 by omega, List.replicate_succ]
  simp
theorem zeroCells_pk : Tryd.zeroCells32.toList = (pk 0).cells := by kernel_rfl
theorem zero_part (p : Pnv) : Tryd.zeroCells32.toList.set 0 (.int .i64 p.rights) = (partK p 0).cells := by
  rw [zeroCells_pk, ← cells_rights]
  rfl
theorem lay_part (p : Pnv) (h : p.Ok) (hi : p.init.length ≤ 64) (w : World) : ∃ w2, Sem.run Tryd.prog (storeCells ⟨w.heap.size, 0, none⟩ (Tryd.zeroCells32.toList.set 0 (.int .i64 p.rights))) (w.alloc (.cells Tryd.zeroCells32 32)) = .ok () w2 ∧ POwn w2 w.heap.size (.slice (some ⟨w.heap.size, 0, none⟩) 1 1) [partK p 0] ∧ Below w.heap.size w w2 := by
  have hlen : (partK p 0).cells.length = 66 := (partK_ok h hi (Nat.zero_le _)).cells
  have hz : Tryd.zeroCells32.size = 66 := by kernel_rfl
  have hh : (w.alloc (.cells Tryd.zeroCells32 32)).heap[w.heap.size]? = some (.cells Tryd.zeroCells32 32 (0, 0)) := heap_alloc_new _ _
  have hst := run_storeCells_at Tryd.prog w.heap.size 0 32 (partK p 0).cells 0 Tryd.zeroCells32 (w.alloc (.cells Tryd.zeroCells32 32)) hh (by omega) (Pg.one _)
  rw [zero_part]
  simp only [Nat.add_zero] at hst
  refine ⟨_, hst, ?_, ?_⟩
  · refine ⟨by simp [flat, hlen], .inr ⟨w.heap.size, 1, _, rfl, Nat.le_refl _, setRow_heap _ _ _ _ _ (0, 0) hh, Nat.le_refl _, by unfold maxLen; decide, ?_, ?_⟩⟩
    · simp [hlen, hz]
    · simp [flat, hlen]
  · exact below_setRow (Nat.le_refl _) _ ((Below.refl _ _).alloc (Nat.le_refl _) _)

set_option maxRecDepth 100000 in
set_option maxHeartbeats 4000000 in
theorem refMake_any (w : World) (a : Option Addr) (len cap : Nat) (l : List Pnv) (hs : Rcs Pnv.cells 2 w a len cap l) (ok : ∀ p ∈ l, p.Ok) (hm : len ≤ 9223372036854775807) :
    Calls Tryd.prog 6 #[.slice a len cap] w fun e w' => ∃ x, e = .returned (.tuple #[x, .int .i64 ((mkE l).1 : Int), .int .i64 (mkE l).2]) ∧ POwn w' w.heap.size x (mkL l) ∧ Below w.heap.size w w' := by
  have HS := hide hs
  have hl := hs.size
  have OK := hide ok
  have HI := hide infoPage
  clear hs ok
  by_cases hb : 32 < len
  · have HA := hide (mkE_big (l := l) (by omega))
    have HL := hide (mkL_bad (l := l) (by rw [HA.out]; decide))
    have hd : decide (32 < (len : Int)) = true := decide_eq_true (by omega)
    go_enter Tryd.func6, Tryd.ntmps6
    go_wp2
    go_ret3
    exact ⟨_, by rw [HA.out]; rfl, by rw [HL.out]; exact pown_nil _ _, Below.refl _ _⟩
  have hd : decide (32 < (len : Int)) = false := decide_eq_false (by omega)
  go_enter Tryd.func6, Tryd.ntmps6
  go_wp2
  go_loopw [5, 6] (fun o i wr => ∃ k : Nat, k ≤ len ∧ i = .int .i64 (k : Int) ∧ Hid (∀ j q, j < k → l[j]? = some q → q.bad = 0) ∧ Hid (POwn wr w.heap.size o ((l.take k).map Pnv.page)) ∧ Hid (Below w.heap.size w wr)) (fun _ i _ => len - (intOf i).toNat)
  case atStart => exact ⟨0, by omega, rfl, fun j q hj => by omega, World.ownsRow_nil _ _ _ _, Below.refl _ _⟩
  case round =>
    obtain ⟨k, hk, rfl, hall, hown, hbl⟩ := hrel
    by_cases hlt : k < len
    · obtain ⟨p, hp⟩ : ∃ p, l[k]? = some p := ⟨_, List.getElem?_eq_getElem (by rw [hl]; exact hlt)⟩
      obtain ⟨b, off, rfl, hr⟩ := (HS.out.below hbl.out).at pnv2 (by decide) hp
      have HP := hide hp
      have OKP := hide (OK.out p (List.mem_of_getElem? hp))
      have r0 := hr 0 _ rfl
      have r1 := hr 1 _ rfl
      simp only [Nat.add_zero] at r0
      clear hr hp
      have hsz : (str p.init).size = p.init.length := str_len p.init
      have hN := OKP.out.len
      rcases p.bad_is with ⟨h1, h2⟩ | ⟨h1, h2, h3, h4⟩ | ⟨h1, h2, h3, h4⟩
      · have HA := hide (mkE_at (l := l) (by rw [hl]; omega) HP.out (by omega) hall.out)
        have HL := hide (mkL_bad (l := l) (by rw [HA.out]; show ¬ p.bad = 0; omega))
        rw [h2] at HA
        clear h2
        by_cases h0 : p.rights < 0
        · have d1 : decide (p.rights < 0) = true := decide_eq_true h0
          go_wp2
          go_ret3
          exact ⟨_, by rw [HA.out]; rfl, by rw [HL.out]; exact pown_nil _ _, hbl.out⟩
        · have d1 : decide (p.rights < 0) = false := decide_eq_false h0
          have d2 : decide (7 < p.rights) = true := decide_eq_true (by omega)
          clear h1 h0
          go_wp2
          go_ret3
          exact ⟨_, by rw [HA.out]; rfl, by rw [HL.out]; exact pown_nil _ _, hbl.out⟩
      · have HA := hide (mkE_at (l := l) (by rw [hl]; omega) HP.out (by omega) hall.out)
        have HL := hide (mkL_bad (l := l) (by rw [HA.out]; show ¬ p.bad = 0; omega))
        rw [h4] at HA
        have d1 : decide (p.rights < 0) = false := decide_eq_false (by omega)
        have d2 : decide (7 < p.rights) = false := decide_eq_false (by omega)
        have d3 : decide (64 < (p.init.length : Int)) = true := decide_eq_true (by omega)
        clear h1 h2 h4
        go_wp2
        go_ret3
        exact ⟨_, by rw [HA.out]; rfl, by rw [HL.out]; exact pown_nil _ _, hbl.out⟩
      · have d1 : decide (p.rights < 0) = false := decide_eq_false (by omega)
        have d2 : decide (7 < p.rights) = false := decide_eq_false (by omega)
        have d3 : decide (64 < (p.init.length : Int)) = false := decide_eq_false (by omega)
        have H4 := hide h4
        clear h1 h2 h4
        go_wp2_with fail
        obtain ⟨w2, hrun, ho2, hb2⟩ := lay_part p OKP.out h3 wr
        have O2 := hide ho2
        have B2 := hide hb2
        rw [hrun]
        clear hrun ho2 hb2
        simp only [Result.andThen_ok]
        obtain ⟨W, hW⟩ : ∃ W, W = wr := ⟨_, rfl⟩
        subst hW
        have HOW := hide hown.out
        go_wp2
        go_loopw [8] (fun i wx => ∃ j : Nat, j ≤ p.init.length ∧ i = .int .i64 (j : Int) ∧ Hid (POwn wx W.heap.size (.slice (some ⟨W.heap.size, 0, none⟩) 1 1) [partK p j]) ∧ Hid (Below W.heap.size W wx)) (fun i _ => p.init.length - (intOf i).toNat)
        case atStart => exact ⟨0, by omega, rfl, O2.out, B2.out⟩
        case round =>
          obtain ⟨j, hj, rfl, ho, hb2⟩ := hrel
          have s1 := cell_below r1 hb2.out
          have okj := partK_ok OKP.out h3 hj
          have okl : Oks [partK p j] := fun x hx => by rw [List.mem_singleton.1 hx]; exact okj
          by_cases hjl : j < p.init.length
          · obtain ⟨c, hc⟩ : ∃ c, p.init[j]? = some c := ⟨_, List.getElem?_eq_getElem hjl⟩
            have hidx : ∀ h, ((str p.init)[j]'h).toNat = c := fun h => str_idx p.init OKP.out.small j h _ hc
            have hc256 : c < 256 := OKP.out.small c (List.mem_of_getElem? hc)
            obtain ⟨hcell, hfr⟩ := ho.out.cellOf rfl okl (q := 0) (p := partK p j) rfl (j := 2 + j) (by omega)
            have hst := POwn.stored (k := 0) ho.out okl rfl (show 2 + j < 66 by omega) (partK_next h3 hc)
            obtain ⟨uu, hu⟩ : ∃ u, (partK p j).cells[2 + j]? = some u := ⟨_, List.getElem?_eq_getElem (by rw [okj.cells]; omega)⟩
            rw [hu] at hcell
            simp only [Nat.zero_mul, Nat.zero_add] at hcell hfr hst
            have HST := hide hst
            have t1 : (j : Int) < (p.init.length : Int) := by omega
            have t2 : (0 : Int) ≤ (j : Int) := by omega
            have t3 : (j : Int) < 64 := by omega
            have j64 : j < 64 := by omega
            clear hst okl okj hc hu
            clear r0 r1
            go_wp2
            go_roundw
            case rel => exact ⟨j + 1, by omega, by go_num, HST.out, hb2.out.setCell (p := ⟨W.heap.size, 2 + j, none⟩) (Nat.le_refl _) _⟩
            case measure => simp [intOf]; omega
          · have hje : j = p.init.length := by omega
            have HR := hide (one_range ho.out okj)
            have HPG : Hid (partK p j = p.page) := by unfold Hid; rw [hje]; exact partK_full p
            have HOK := hide okj
            have HT : Hid ((l.take (k + 1)).map Pnv.page = (l.take k).map Pnv.page ++ [p.page]) := by unfold Hid; rw [List.take_add_one, HP.out]; simp
            have HTL : Hid (((l.take k).map Pnv.page).length < 1759218604391) := by unfold Hid; rw [List.length_map, List.length_take]; omega
            have HB3 := hide (chain hbl.out hb2.out)
            have HOX := hide (HOW.out.below hb2.out)
            rw [HPG.out] at HR HOK
            clear okl okj r0 r1 ho HOW O2 B2
            go_wp2_with (first
              | (refine wpList_load_mid rfl 32 (.tmp 7) rfl W.heap.size 0 rfl p.page.cells _ HR.out Tryd.underlying32 rfl (by rw [HOK.out.cells]; exact sizePage) ?_)
              | (obtain ⟨i, z, hi, hz, hsz, _, _⟩ := HI.out; refine wpList_build1 rfl 23 (.tmp 68) rfl p.page.cells rfl 32 i z Tryd.underlying23 hi hz (by rw [HOK.out.cells]; exact hsz) (by rw [HOK.out.cells]; decide) (by rw [HOK.out.cells]; decide) ?_; clear hi hz hsz)
              | (at_builtin; refine append_pg rfl (.tmp 67) (.tmp 69) rfl w.heap.size _ ((l.take k).map Pnv.page) rfl (HOX.out.below ((Below.refl _ _).alloc (Nat.le_refl _) _)) wr.heap.size 1 p.page rfl HOK.out (range_alloc _ _ _) HTL.out (by simp; have := HB3.out.size; omega) ?_; intro v' w1 hown1 hgrow1))
            have hb1 : Hid (Below w.heap.size w w1) := (HB3.out.alloc HB3.out.size _).grown hgrow1 (by simp; have := HB3.out.size; omega) (fun j e => (World.ownsRow.lt HOX.out j e).1)
            refine ⟨⟨k + 1, by omega, by go_num, fun j q hj hq => ?_, by rw [HT.out]; exact hown1, hb1⟩, by simp [intOf]; omega⟩
            by_cases e : j = k
            · subst e
              rw [HP.out] at hq
              obtain rfl := Option.some.inj hq
              exact H4.out
            · exact hall.out j q (by omega) hq
    · obtain rfl : k = len := by omega
      have HA := hide (mkE_no (l := l) (by rw [hl]; omega) (fun j q hj hq => hall.out j q (by rw [← hl]; exact hj) hq))
      have HL : Hid (mkL l = (l.take k).map Pnv.page) := by
        unfold Hid
        rw [mkL_no (by rw [HA.out]), ← hl, List.take_length]
      go_wp2
      go_ret3
      exact ⟨_, by rw [HA.out]; rfl, by rw [HL.out]; exact hown.out, hbl.out⟩
end Go.Proofs.YtojfeengjlkknaaDoor
