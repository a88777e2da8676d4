/-
  The walk of XferComes: pieces in any order, any number of times.
-/
import Derived.Test.YtnopclacchoijaaDoorXfStep
import Derived.Deep.CutRange
import Derived.Deep.RegionHeld3
import Derived.Deep.RegionHeld3
namespace Go.Proofs.YtnopclacchoijaaDoor
open Go.RowKit FerryCrc
set_option linter.unusedVariables false
set_option linter.unusedSimpArgs false

theorem wpAnyH_listed {P : Program} {md : Region.Mode} {ops : Array Oper} {Q : Exit → Act → World → Prop} {S : World → Prop} {n : Nat} {l l' : Array Bool} {a : Act} {w : World} (h : l = l') (k : wpAnyH P md ops Q S n l' a w) : wpAnyH P md ops Q S n l a w := h ▸ k
theorem by_key2 {P : Program} {md : Region.Mode} {ops : Array Oper} {Q : Exit → Act → World → Prop} {S : World → Prop} {n : Nat} {l : Array Bool} {a : Act} {w : World} (F : Option Addr → Nat → Nat → Nat → World → Prop) (u : Act → Option Addr → Nat → Nat → Nat → Act) (l3 : Array Bool) (n3 : Nat) (hm : (∀ qa qc g h wz, F qa qc g h wz → wpAnyH P md ops Q S n3 l3 (u a qa qc g h) wz) → wpAnyH P md ops Q S n l a w) (hk : ∀ qa qc g h wz, F qa qc g h wz → wpAnyH P md ops Q S n3 l3 (u a qa qc g h) wz) : wpAnyH P md ops Q S n l a w := hm hk
theorem bel_al {a w : World} (h : Below a.heap.size a w) (o : Obj) : Below a.heap.size a (w.alloc o) := h.alloc h.size o
theorem bel_st {B : Nat} {a w : World} (h : Below B a w) (p : Addr) (hp : B ≤ p.block) (v : Value) : Below B a (w.setCell p v) := h.setCell hp v
def iv (x : Int) : List Value := [.int .i64 x]
theorem iv1 (x : Int) : (iv x).length = 1 := rfl
abbrev Ins (w : World) (a : Option Addr) (len cap : Nat) (l : List Int) : Prop := Rcs iv 1 w a len cap l
/-- How many have not come. -/
def leftC (C : List Bool) : Nat := (C.filter (fun y => !y)).length
theorem left_new (t : Nat) : leftC (List.replicate t false) = t := by
  unfold leftC
  rw [List.filter_replicate]
  simp
theorem left_set_old {C : List Bool} {j : Nat} (h : C[j]? = some true) : C.set j true = C := by
  apply List.ext_getElem?
  intro k
  rw [List.getElem?_set]
  split
  · rename_i e
    subst e
    rw [if_pos (List.getElem?_eq_some_iff.1 h).1, h]
  · rfl
theorem left_set_new : ∀ {C : List Bool} {j : Nat}, C[j]? = some false → leftC (C.set j true) + 1 = leftC C
  | [], j, h => by simp at h
  | y :: l, 0, h => by
    simp only [List.getElem?_cons_zero, Option.some.injEq] at h
    subst h
    rfl
  | y :: l, j + 1, h => by
    have ih := left_set_new (C := l) (j := j) (by simpa using h)
    unfold leftC at *
    cases y with
    | true => simpa [List.filter_cons] using ih
    | false =>
      show (false :: (l.set j true).filter _).length + 1 = (false :: l.filter _).length
      rw [List.length_cons, List.length_cons, ih]
theorem left_zero {C : List Bool} : (leftC C = 0) ↔ C.all id = true := by
  unfold leftC
  rw [List.length_eq_zero_iff, List.filter_eq_nil_iff, List.all_eq_true]
  constructor
  · intro h y hy
    have := h y hy
    cases y <;> simp_all
  · intro h y hy
    have := h y hy
    simp only [id] at this
    rw [this]
    decide
theorem cutE_comes (n : Nat) : cutE 1 1 2 5 2 n = if n = 0 ∨ 4096 < n then 11 else 0 := by
  unfold cutE
  rw [if_pos (by decide)]

set_option maxRecDepth 100000 in
set_option maxHeartbeats 4000000 in
theorem law (a : Option Addr) (n c : Nat) (L : List Nat) (oa : Option Addr) (om oc : Nat) (O : List Int) (w : World) {E : Nat → Addr} (he : Er7 w E) (hs : Bts w a n c L) (ho : Ins w oa om oc O) (hom : om ≤ 4611686018427387904) :
    Calls Tryd.prog 6 #[.slice a n c, .slice oa om oc] w fun e w' => e = .returned (.bool true) ∧ Below w.heap.size w w' := by
  have hl := hs.size
  have hol := ho.size
  have HE := hide he
  have HB := hide hs
  have HO := hide ho
  have HLs := hide hs.small
  have HAW := hide (awake_any he)
  have HST := hide (fun (w' : World) (h : Er7 w' E) (hb : Bts w' a n c L) => start_any 1 1 2 5 2 a n c L h hb)
  rw [cutE_comes] at HST
  clear he hs ho
  go_enter Tryd.func6, Tryd.ntmps6
  go_upto_region 1 with fail
  go_wp2_with fail
  refine Calls.mono HAW.out ?_
  rintro e w1 ⟨rfl, b1⟩
  have HD := hide b1
  clear b1 HAW
  go_upto_region 3 with fail
  go_wp2_with fail
  refine Calls.mono (HST.out w1 (HE.out.below HD.out) (HB.out.below HD.out)) ?_
  rintro e w2 ⟨v, rfl, o2, b2⟩
  obtain ⟨aa, ac, rfl, hf2⟩ := o2.rcs
  clear HST
  by_cases hn : n = 0 ∨ 4096 < n
  · rw [if_pos hn]
    have HC : Hid (¬ cutE 1 1 2 5 2 L.length = 0) := by unfold Hid; rw [hl, cutE_comes, if_pos hn]; decide
    have HV : Hid (startS 1 1 2 5 2 L = zSd) := if_neg HC.out
    rw [HV.out, show erv E 11 = sent (E 11) from rfl]
    unfold sent Sd.cells zSd
    simp only
    generalize (startA 1 1 2 5 2 L).length = an
    replace HD := hide (chain HD.out b2)
    clear o2 b2 hf2
    have D3 := hide (xnew w2 (.cells #[.int .i64 0, .int .i64 0, .int .i64 0, .int .i64 0, .int .i64 0, .string ⟨#[]⟩, .slice aa an ac, .int .i64 0] 48))
    replace HD := hide (chain HD.out D3.out)
    by_cases h0 : n = 0
    · have h2 : ((n : Int) == 0) = true := by simp; omega
      clear hn h0
      go_wp2
      go_ret
      exact ⟨rfl, HD.out⟩
    · have h1 : (4096 : Int) < (n : Int) := by omega
      have h2 : ((n : Int) == 0) = false := by simp; omega
      clear hn
      go_wp2
      go_ret
      exact ⟨rfl, HD.out⟩
  · rw [if_neg hn]
    have HC : Hid (cutE 1 1 2 5 2 L.length = 0) := by unfold Hid; rw [hl, cutE_comes, if_neg hn]
    have hn1 : 1 ≤ n := by omega
    have hn4 : n ≤ 4096 := by omega
    clear hn
    obtain ⟨t, ht⟩ : ∃ t, tot L = t := ⟨_, rfl⟩
    have htb := tot_bounds (L := L) (by omega) (by omega)
    rw [ht, hl] at htb
    obtain ⟨t1, t2, t3, t4⟩ := htb
    have HT := hide ht
    have HSV : Hid (startS 1 1 2 5 2 L = ⟨1, 1, 2, 5, 2, str L, 0⟩ ∧ startA 1 1 2 5 2 L = List.replicate t false) := ⟨if_pos HC.out, by unfold startA; rw [if_pos HC.out, HT.out]⟩
    have HDU := hide (fun (w' : World) (h : Er7 w' E) (a : Option Addr) (c : Nat) (hb : Fls w' a t c (List.replicate t false)) => due_any ⟨1, 1, 2, 5, 2, str L, 0⟩ a t c (List.replicate t false) h (by rw [str_len, hl]; omega) hb)
    have hdu := start_due HLs.out HC.out
    rw [HT.out] at hdu
    rw [hdu.1, hdu.2] at HDU
    rw [HSV.out.1, show erv E 0 = .nilIface from rfl]
    rw [HSV.out.2] at o2 hf2 ⊢
    rw [List.length_replicate] at hf2 ⊢
    unfold Sd.cells
    simp only
    obtain ⟨W3, hW3, B3, D3⟩ := box1 w2 [.int .i64 1, .int .i64 1, .int .i64 2, .int .i64 5, .int .i64 2, .string (str L), .slice aa t ac, .int .i64 0] 48
    obtain ⟨g, hgq⟩ : ∃ g, w2.heap.size = g := ⟨_, rfl⟩
    rw [hgq] at B3
    have HG := hide B3
    have HW3 := hide hW3
    have HGQ := hide hgq
    have HF := hide (hf2.below D3)
    replace HD := hide (chain (chain HD.out b2) D3)
    clear B3 D3 hW3 hgq o2 b2 hf2 HSV hdu ht
    have hq1 : ((n : Int) + 127) / 128 = (t : Int) := by omega
    have hq2 : ((n : Int) + 127).tdiv 128 = (t : Int) := by rw [Int.tdiv_eq_ediv_of_nonneg (by omega)]; exact hq1
    have hq3 : IntKind.i64.wrap ((n : Int) + 127) = (n : Int) + 127 := by rw [IntKind.wrap_i64]; omega
    go_upto_region 6 with fail
    have hW3 := HW3.out
    have hgq := HGQ.out
    simp only [hW3, hgq]
    clear HW3 HGQ hW3 hgq
    have g0 := HG.out.cell 0 rfl
    have g1 := HG.out.cell 1 rfl
    have g2 := HG.out.cell 2 rfl
    have g3 := HG.out.cell 3 rfl
    have g4 := HG.out.cell 4 rfl
    have g5 := HG.out.cell 5 rfl
    have g6 := HG.out.cell 6 rfl
    have g7 := HG.out.cell 7 rfl
    go_wp2_with fail
    refine Calls.mono (HDU.out W3 (HE.out.below HD.out) aa ac HF.out) ?_
    rintro e w4 ⟨v, rfl, o4, b4⟩
    rw [show erv E 0 = .nilIface from rfl]
    obtain ⟨la, lc, rfl, hn4'⟩ := o4.rcs
    rw [cutN_len, HT.out] at hn4' ⊢
    replace HD := hide (chain HD.out b4)
    have HNR := hide hn4'
    clear o4 b4 hn4' g0 g1 g2 g3 g4 g5 g6 g7 HF HDU HG
    obtain ⟨g8, hg8⟩ : ∃ g8, w4.heap.size = g8 := ⟨_, rfl⟩
    obtain ⟨W5, hW5, B5, D5⟩ := box1 w4 [.bool false, .int .i64 0, .int .i64 0, .int .i64 0, .int .i64 0, .int .i64 0, .int .i64 0, .slice none 0 0] 78
    obtain ⟨w6, hrun, o6, b6⟩ := made_recs (f := bvl) (sz := 1) bvl1 (by decide) false Tryd.underlying24 infoFl W5 t (by omega) (by omega)
    have hs5 : W5.heap.size = g8 + 1 := by rw [← hW5, ← hg8]; exact Array.size_push _
    rw [hg8] at B5
    rw [hs5] at o6 hrun
    have HR6 := hide (B5.below b6)
    have HO6 := hide o6
    have HL6 : Hid (Below g8 w4 w6) := by
      have := chain D5 b6
      rw [hg8] at this
      exact this
    have HW5 := hide hW5
    have HRU := hide hrun
    have HG8 := hide hg8
    have HS6 : Hid (g8 + 1 < w6.heap.size) := by
      have := (World.ownsRow.lt o6 (g8 + 1) rfl).2
      exact this
    clear hW5 hrun B5 D5 o6 b6 hs5 hg8
    go_upto_region 10 with fail
    have hW5 := HW5.out
    have hg8 := HG8.out
    have hrun := HRU.out
    simp only [hW5, hg8]
    clear hW5 HW5 HRU
    go_wp2_with fail
    clear hrun
    go_loopw [10, 59] (fun s10 s59 wr => ∃ (k : Nat) (C : List Bool) (on : Bool) (x1 x2 x3 x4 x5 x6 : Int) (pa : Option Addr) (pn pc : Nat) (P : List ByteArray), k ≤ om ∧ s59 = .int .i64 (k : Int) ∧ s10 = .int .i64 (leftC C : Int) ∧ Hid (Bk wr g8 [.bool on, .int .i64 x1, .int .i64 x2, .int .i64 x3, .int .i64 x4, .int .i64 x5, .int .i64 x6, .slice pa pn pc] 78) ∧ Hid (TxOwn wr (g8 + 2) (.slice pa pn pc) P) ∧ Hid (FlOwn wr (g8 + 1) (.slice (some ⟨g8 + 1, 0, none⟩) t t) C) ∧ Hid (Rst 1 1 2 5 2 L on ⟨x1, x2, x3, x4, x5, x6⟩ P C) ∧ Hid (Below g8 w4 wr) ∧ Hid (g8 + 1 < wr.heap.size)) (fun _ i _ => om - (intOf i).toNat)
    case atStart => exact ⟨0, List.replicate t false, false, 0, 0, 0, 0, 0, 0, none, 0, 0, [], Nat.zero_le _, rfl, by rw [left_new], HR6.out, World.ownsRow_nil _ _ _ _, HO6.out, ⟨by rw [List.length_replicate, HT.out], .inl ⟨rfl, rfl, rfl, by rw [List.any_replicate]; simp⟩⟩, HL6.out, HS6.out⟩
    case round =>
      obtain ⟨k, C, on, x1, x2, x3, x4, x5, x6, pa, pn, pc, P, hk, rfl, rfl, HR, HP, HCM, HRS, HB4, HSZ⟩ := hrel
      have hB4 := HB4.out
      rw [← HG8.out] at hB4
      have HDr := hide (chain HD.out hB4)
      have HBr := hide (HB.out.below HDr.out)
      have HEr := hide (HE.out.below HDr.out)
      have HNr := hide (HNR.out.below hB4)
      clear hB4
      by_cases hlt : k < om
      · obtain ⟨x, hx⟩ : ∃ x, O[k]? = some x := ⟨_, List.getElem?_eq_getElem (by omega)⟩
        obtain ⟨ob, oo, rfl, hcx⟩ := (HO.out.below HDr.out).at iv1 (by decide) hx
        have o0 := hcx 0 _ rfl
        rw [Nat.mul_one, Nat.add_zero] at o0
        clear hcx hx
        by_cases hx0 : x < 0
        · go_wp2
          exact ⟨⟨k + 1, C, on, x1, x2, x3, x4, x5, x6, pa, pn, pc, P, by omega, by simp, rfl, HR.out, HP.out, HCM.out, HRS.out, HB4.out, HSZ.out⟩, by simp [intOf]; omega⟩
        · by_cases hxt : (t : Int) ≤ x
          · go_wp2
            exact ⟨⟨k + 1, C, on, x1, x2, x3, x4, x5, x6, pa, pn, pc, P, by omega, by simp, rfl, HR.out, HP.out, HCM.out, HRS.out, HB4.out, HSZ.out⟩, by simp [intOf]; omega⟩
          · obtain ⟨j, rfl⟩ : ∃ j : Nat, x = (j : Int) := ⟨x.toNat, by omega⟩
            have hjt : j < t := by omega
            clear hx0 hxt
            have hj0 : ¬ (j : Int) < 0 := by omega
            have hj1 : ¬ (t : Int) ≤ (j : Int) := by omega
            have hj2 : (j : Int) < (t : Int) := by omega
            obtain ⟨lb, lo, rfl, hcn⟩ := HNr.out.at nt10 (by decide) (cutN_at (by rw [HT.out]; exact hjt))
            have HNC : Hid (wr.cell? ⟨lb, lo + j * 10 + 0, none⟩ = some (.int .i64 1) ∧ wr.cell? ⟨lb, lo + j * 10 + 1, none⟩ = some (.int .i64 1) ∧ wr.cell? ⟨lb, lo + j * 10 + 2, none⟩ = some (.int .i64 1) ∧ wr.cell? ⟨lb, lo + j * 10 + 3, none⟩ = some (.int .i64 2) ∧ wr.cell? ⟨lb, lo + j * 10 + 4, none⟩ = some (.int .i64 5) ∧ wr.cell? ⟨lb, lo + j * 10 + 5, none⟩ = some (.int .i64 2) ∧ wr.cell? ⟨lb, lo + j * 10 + 6, none⟩ = some (.int .i64 (j : Int)) ∧ wr.cell? ⟨lb, lo + j * 10 + 7, none⟩ = some (.int .i64 (t : Int)) ∧ wr.cell? ⟨lb, lo + j * 10 + 8, none⟩ = some (.int .u32 0) ∧ wr.cell? ⟨lb, lo + j * 10 + 9, none⟩ = some (.string (pcs L j))) := by
              unfold ntOf at hcn
              rw [HT.out] at hcn
              exact ⟨hcn 0 _ rfl, hcn 1 _ rfl, hcn 2 _ rfl, hcn 3 _ rfl, hcn 4 _ rfl, hcn 5 _ rfl, hcn 6 _ rfl, hcn 7 _ rfl, hcn 8 _ rfl, hcn 9 _ rfl⟩
            clear hcn
            have HTK : Hid (∀ w' : World, Below wr.heap.size wr w' → Calls Tryd.prog 29 #[.agg #[.bool on, .int .i64 x1, .int .i64 x2, .int .i64 x3, .int .i64 x4, .int .i64 x5, .int .i64 x6, .slice pa pn pc], .agg #[.int .i64 1, .int .i64 1, .int .i64 1, .int .i64 2, .int .i64 5, .int .i64 2, .int .i64 (j : Int), .int .i64 (t : Int), .int .u32 0, .string (pcs L j)]] w' fun e w'' => ∃ qa qc P', e = .returned (.tuple #[.agg #[.bool true, .int .i64 1, .int .i64 2, .int .i64 (t : Int), .int .i64 1, .int .i64 2, .int .i64 5, .slice qa t qc], .agg #[.int .i64 7, .int .i64 1, .int .i64 1, .int .i64 2, .int .i64 5, .int .i64 2, .int .i64 (j : Int), .int .i64 (t : Int), .int .u32 0, .string ⟨#[]⟩], .nilIface]) ∧ TxOwn w'' wr.heap.size (.slice qa t qc) P' ∧ (∀ jj, (Value.slice qa t qc).ownBlock = some jj → w'.heap.size ≤ jj ∧ jj < w''.heap.size) ∧ Rst 1 1 2 5 2 L true ⟨1, 2, (t : Int), 1, 2, 5⟩ P' (C.set j true) ∧ Below wr.heap.size wr w'' ∧ ∀ (b : Nat) (cs : List Value) (ty : TypeId), Bk w' b cs ty → Bk w'' b cs ty) := fun w' hb => (take_step HC.out HRS.out HT.out hjt (HEr.out.below hb) ((own_rcs HP.out).below hb)).mono (by
              rintro e w'' ⟨qa, qc, P', he, h1, h2, h3⟩
              exact ⟨qa, qc, P', he, h1.weaken hb.size, fun jj e => World.ownsRow.lt h1 jj e, h2, hb.trans (h3.mono hb.size), fun b cs ty hk => hk.below h3⟩)
            go_upto_region 16 with fail
            clear o0
            go_cut [13, 14, 15] from 71 to 80 (fun v13 v14 v15 wz => ∃ (g13 g14 : Nat) (qa : Option Addr) (qc : Nat) (P' : List ByteArray), v13 = .pointer (some ⟨g13, 0, none⟩) ∧ v14 = .pointer (some ⟨g14, 0, none⟩) ∧ v15 = .nilIface ∧ Hid (Bk wz g13 [.bool true, .int .i64 1, .int .i64 2, .int .i64 (t : Int), .int .i64 1, .int .i64 2, .int .i64 5, .slice qa t qc] 78) ∧ Hid (Bk wz g14 [.int .i64 7, .int .i64 1, .int .i64 1, .int .i64 2, .int .i64 5, .int .i64 2, .int .i64 (j : Int), .int .i64 (t : Int), .int .u32 0, .string ⟨#[]⟩] 34) ∧ Hid (TxOwn wz wr.heap.size (.slice qa t qc) P') ∧ Hid (Rst 1 1 2 5 2 L true ⟨1, 2, (t : Int), 1, 2, 5⟩ P' (C.set j true)) ∧ Hid (Below wr.heap.size wr wz))
            case first =>
              have X0 : Hid (Below wr.heap.size wr wr.drew) := (Below.refl _ _).drew
              have X1 : Hid (Below wr.heap.size wr (wr.alloc (.cells #[.bool false, .int .i64 0, .int .i64 0, .int .i64 0, .int .i64 0, .int .i64 0, .int .i64 0, .slice none 0 0] 78)).drew) := ((Below.refl _ _).alloc (Nat.le_refl _) _).drew
              have X2 : Hid (Below wr.heap.size wr (wr.alloc (.cells #[.int .i64 0, .int .i64 0, .int .i64 0, .int .i64 0, .int .i64 0, .int .i64 0, .int .i64 0, .int .i64 0, .int .u32 0, .string ⟨#[]⟩] 34)).drew) := ((Below.refl _ _).alloc (Nat.le_refl _) _).drew
              obtain ⟨W3', e3, N3', N3n', D3'⟩ := box2 wr [.bool false, .int .i64 0, .int .i64 0, .int .i64 0, .int .i64 0, .int .i64 0, .int .i64 0, .slice none 0 0] 78 [.int .i64 0, .int .i64 0, .int .i64 0, .int .i64 0, .int .i64 0, .int .i64 0, .int .i64 0, .int .i64 0, .int .u32 0, .string ⟨#[]⟩] 34
              obtain ⟨W4', e4, N4n', N4', D4'⟩ := box2 wr [.int .i64 0, .int .i64 0, .int .i64 0, .int .i64 0, .int .i64 0, .int .i64 0, .int .i64 0, .int .i64 0, .int .u32 0, .string ⟨#[]⟩] 34 [.bool false, .int .i64 0, .int .i64 0, .int .i64 0, .int .i64 0, .int .i64 0, .int .i64 0, .slice none 0 0] 78
              have X3 : Hid (Below wr.heap.size wr ((wr.alloc (.cells #[.bool false, .int .i64 0, .int .i64 0, .int .i64 0, .int .i64 0, .int .i64 0, .int .i64 0, .slice none 0 0] 78)).alloc (.cells #[.int .i64 0, .int .i64 0, .int .i64 0, .int .i64 0, .int .i64 0, .int .i64 0, .int .i64 0, .int .i64 0, .int .u32 0, .string ⟨#[]⟩] 34)).drew) := by rw [e3]; exact D3'.drew
              have X4 : Hid (Below wr.heap.size wr ((wr.alloc (.cells #[.int .i64 0, .int .i64 0, .int .i64 0, .int .i64 0, .int .i64 0, .int .i64 0, .int .i64 0, .int .i64 0, .int .u32 0, .string ⟨#[]⟩] 34)).alloc (.cells #[.bool false, .int .i64 0, .int .i64 0, .int .i64 0, .int .i64 0, .int .i64 0, .int .i64 0, .slice none 0 0] 78)).drew) := by rw [e4]; exact D4'.drew
              have N1 : Hid (Bk (wr.alloc (.cells #[.bool false, .int .i64 0, .int .i64 0, .int .i64 0, .int .i64 0, .int .i64 0, .int .i64 0, .slice none 0 0] 78)).drew wr.heap.size [.bool false, .int .i64 0, .int .i64 0, .int .i64 0, .int .i64 0, .int .i64 0, .int .i64 0, .slice none 0 0] 78) := (Bk.new wr [.bool false, .int .i64 0, .int .i64 0, .int .i64 0, .int .i64 0, .int .i64 0, .int .i64 0, .slice none 0 0] 78).below (Below.refl _ _).drew
              have N2 : Hid (Bk (wr.alloc (.cells #[.int .i64 0, .int .i64 0, .int .i64 0, .int .i64 0, .int .i64 0, .int .i64 0, .int .i64 0, .int .i64 0, .int .u32 0, .string ⟨#[]⟩] 34)).drew wr.heap.size [.int .i64 0, .int .i64 0, .int .i64 0, .int .i64 0, .int .i64 0, .int .i64 0, .int .i64 0, .int .i64 0, .int .u32 0, .string ⟨#[]⟩] 34) := (Bk.new wr [.int .i64 0, .int .i64 0, .int .i64 0, .int .i64 0, .int .i64 0, .int .i64 0, .int .i64 0, .int .i64 0, .int .u32 0, .string ⟨#[]⟩] 34).below (Below.refl _ _).drew
              have N3 : Hid (Bk ((wr.alloc (.cells #[.bool false, .int .i64 0, .int .i64 0, .int .i64 0, .int .i64 0, .int .i64 0, .int .i64 0, .slice none 0 0] 78)).alloc (.cells #[.int .i64 0, .int .i64 0, .int .i64 0, .int .i64 0, .int .i64 0, .int .i64 0, .int .i64 0, .int .i64 0, .int .u32 0, .string ⟨#[]⟩] 34)).drew wr.heap.size [.bool false, .int .i64 0, .int .i64 0, .int .i64 0, .int .i64 0, .int .i64 0, .int .i64 0, .slice none 0 0] 78) := by rw [e3]; exact N3'.below (Below.refl _ _).drew
              have N3n : Hid (Bk ((wr.alloc (.cells #[.bool false, .int .i64 0, .int .i64 0, .int .i64 0, .int .i64 0, .int .i64 0, .int .i64 0, .slice none 0 0] 78)).alloc (.cells #[.int .i64 0, .int .i64 0, .int .i64 0, .int .i64 0, .int .i64 0, .int .i64 0, .int .i64 0, .int .i64 0, .int .u32 0, .string ⟨#[]⟩] 34)).drew (wr.heap.size + 1) [.int .i64 0, .int .i64 0, .int .i64 0, .int .i64 0, .int .i64 0, .int .i64 0, .int .i64 0, .int .i64 0, .int .u32 0, .string ⟨#[]⟩] 34) := by rw [e3]; exact N3n'.below (Below.refl _ _).drew
              have N4 : Hid (Bk ((wr.alloc (.cells #[.int .i64 0, .int .i64 0, .int .i64 0, .int .i64 0, .int .i64 0, .int .i64 0, .int .i64 0, .int .i64 0, .int .u32 0, .string ⟨#[]⟩] 34)).alloc (.cells #[.bool false, .int .i64 0, .int .i64 0, .int .i64 0, .int .i64 0, .int .i64 0, .int .i64 0, .slice none 0 0] 78)).drew (wr.heap.size + 1) [.bool false, .int .i64 0, .int .i64 0, .int .i64 0, .int .i64 0, .int .i64 0, .int .i64 0, .slice none 0 0] 78) := by rw [e4]; exact N4'.below (Below.refl _ _).drew
              have N4n : Hid (Bk ((wr.alloc (.cells #[.int .i64 0, .int .i64 0, .int .i64 0, .int .i64 0, .int .i64 0, .int .i64 0, .int .i64 0, .int .i64 0, .int .u32 0, .string ⟨#[]⟩] 34)).alloc (.cells #[.bool false, .int .i64 0, .int .i64 0, .int .i64 0, .int .i64 0, .int .i64 0, .int .i64 0, .slice none 0 0] 78)).drew wr.heap.size [.int .i64 0, .int .i64 0, .int .i64 0, .int .i64 0, .int .i64 0, .int .i64 0, .int .i64 0, .int .i64 0, .int .u32 0, .string ⟨#[]⟩] 34) := by rw [e4]; exact N4n'.below (Below.refl _ _).drew
              clear e3 e4 N3' N3n' N4' N4n' D3' D4'
              have r0 := HR.out.cell 0 rfl
              have r1 := HR.out.cell 1 rfl
              have r2 := HR.out.cell 2 rfl
              have r3 := HR.out.cell 3 rfl
              have r4 := HR.out.cell 4 rfl
              have r5 := HR.out.cell 5 rfl
              have r6 := HR.out.cell 6 rfl
              have r7 := HR.out.cell 7 rfl
              obtain ⟨m0, m1, m2, m3, m4, m5, m6, m7, m8, m9⟩ := HNC.out
              rw [Nat.add_zero] at m0
              have HSB : Hid (∀ wz : World, Below wr.heap.size wr wz → wz.cell? ⟨g8, 0, none⟩ = some (.bool on) ∧ wz.cell? ⟨g8, 1, none⟩ = some (.int .i64 x1) ∧ wz.cell? ⟨g8, 2, none⟩ = some (.int .i64 x2) ∧ wz.cell? ⟨g8, 3, none⟩ = some (.int .i64 x3) ∧ wz.cell? ⟨g8, 4, none⟩ = some (.int .i64 x4) ∧ wz.cell? ⟨g8, 5, none⟩ = some (.int .i64 x5) ∧ wz.cell? ⟨g8, 6, none⟩ = some (.int .i64 x6) ∧ wz.cell? ⟨g8, 7, none⟩ = some (.slice pa pn pc) ∧ wz.cell? ⟨lb, lo + j * 10, none⟩ = some (.int .i64 1) ∧ wz.cell? ⟨lb, lo + j * 10 + 1, none⟩ = some (.int .i64 1) ∧ wz.cell? ⟨lb, lo + j * 10 + 2, none⟩ = some (.int .i64 1) ∧ wz.cell? ⟨lb, lo + j * 10 + 3, none⟩ = some (.int .i64 2) ∧ wz.cell? ⟨lb, lo + j * 10 + 4, none⟩ = some (.int .i64 5) ∧ wz.cell? ⟨lb, lo + j * 10 + 5, none⟩ = some (.int .i64 2) ∧ wz.cell? ⟨lb, lo + j * 10 + 6, none⟩ = some (.int .i64 (j : Int)) ∧ wz.cell? ⟨lb, lo + j * 10 + 7, none⟩ = some (.int .i64 (t : Int)) ∧ wz.cell? ⟨lb, lo + j * 10 + 8, none⟩ = some (.int .u32 0) ∧ wz.cell? ⟨lb, lo + j * 10 + 9, none⟩ = some (.string (pcs L j))) := fun wz hb => by
                have h0 := HR.out.below hb
                obtain ⟨n0, n1, n2, n3, n4, n5, n6, n7, n8, n9⟩ := HNC.out
                rw [Nat.add_zero] at n0
                exact ⟨h0.cell 0 rfl, h0.cell 1 rfl, h0.cell 2 rfl, h0.cell 3 rfl, h0.cell 4 rfl, h0.cell 5 rfl, h0.cell 6 rfl, h0.cell 7 rfl, cell_below n0 hb, cell_below n1 hb, cell_below n2 hb, cell_below n3 hb, cell_below n4 hb, cell_below n5 hb, cell_below n6 hb, cell_below n7 hb, cell_below n8 hb, cell_below n9 hb⟩
              clear r0 r1 r2 r3 r4 r5 r6 r7 m0 m1 m2 m3 m4 m5 m6 m7 m8 m9
              refine wp_region_held_drew (S := fun wz => wz.cell? ⟨g8, 0, none⟩ = some (.bool on) ∧ wz.cell? ⟨g8, 1, none⟩ = some (.int .i64 x1) ∧ wz.cell? ⟨g8, 2, none⟩ = some (.int .i64 x2) ∧ wz.cell? ⟨g8, 3, none⟩ = some (.int .i64 x3) ∧ wz.cell? ⟨g8, 4, none⟩ = some (.int .i64 x4) ∧ wz.cell? ⟨g8, 5, none⟩ = some (.int .i64 x5) ∧ wz.cell? ⟨g8, 6, none⟩ = some (.int .i64 x6) ∧ wz.cell? ⟨g8, 7, none⟩ = some (.slice pa pn pc) ∧ wz.cell? ⟨lb, lo + j * 10, none⟩ = some (.int .i64 1) ∧ wz.cell? ⟨lb, lo + j * 10 + 1, none⟩ = some (.int .i64 1) ∧ wz.cell? ⟨lb, lo + j * 10 + 2, none⟩ = some (.int .i64 1) ∧ wz.cell? ⟨lb, lo + j * 10 + 3, none⟩ = some (.int .i64 2) ∧ wz.cell? ⟨lb, lo + j * 10 + 4, none⟩ = some (.int .i64 5) ∧ wz.cell? ⟨lb, lo + j * 10 + 5, none⟩ = some (.int .i64 2) ∧ wz.cell? ⟨lb, lo + j * 10 + 6, none⟩ = some (.int .i64 (j : Int)) ∧ wz.cell? ⟨lb, lo + j * 10 + 7, none⟩ = some (.int .i64 (t : Int)) ∧ wz.cell? ⟨lb, lo + j * 10 + 8, none⟩ = some (.int .u32 0) ∧ wz.cell? ⟨lb, lo + j * 10 + 9, none⟩ = some (.string (pcs L j))) (by kernel_rfl) (HSB.out _ X0.out) (fun hHeld => ?_)
              refine wpAnyH_take (i := 0) (oi := { dst := some 72, op := Go.Op.load 78 (Go.Operand.tmp 8), type := 78, pos := "law.go:144", after := #[], guard := none }) (v := ?_) rfl (by kernel_rfl) (by kernel_rfl) (by kernel_rfl) (fun _ _ _ h => h) (Or.inl ⟨by rfl, ?_⟩) (by assumption) ?_
              rotate_left
              · intro w hSw
                obtain ⟨q0, q1, q2, q3, q4, q5, q6, q7, q8, q9, q10, q11, q12, q13, q14, q15, q16, q17⟩ := hSw
                go_simp
                try with_reducible rfl
              simp only [Act.put, List.setIfInBounds_toArray, List.set_cons_zero, List.set_cons_succ]
              refine wpAnyH_take (i := 1) (oi := { dst := some 73, op := Go.Op.move (Go.Operand.tmp 7), type := 38, pos := "law.go:144", after := #[], guard := none }) (v := ?_) rfl (by kernel_rfl) (by kernel_rfl) (by kernel_rfl) (fun _ _ _ h => h) (Or.inl ⟨by rfl, ?_⟩) (by assumption) ?_
              rotate_left
              · intro w hSw
                obtain ⟨q0, q1, q2, q3, q4, q5, q6, q7, q8, q9, q10, q11, q12, q13, q14, q15, q16, q17⟩ := hSw
                go_simp
                try with_reducible rfl
              simp only [Act.put, List.setIfInBounds_toArray, List.set_cons_zero, List.set_cons_succ]
              refine wpAnyH_take (i := 2) (oi := { dst := some 74, op := Go.Op.move (Go.Operand.tmp 12), type := 3, pos := "law.go:144", after := #[], guard := none }) (v := ?_) rfl (by kernel_rfl) (by kernel_rfl) (by kernel_rfl) (fun _ _ _ h => h) (Or.inl ⟨by rfl, ?_⟩) (by assumption) ?_
              rotate_left
              · intro w hSw
                obtain ⟨q0, q1, q2, q3, q4, q5, q6, q7, q8, q9, q10, q11, q12, q13, q14, q15, q16, q17⟩ := hSw
                go_simp
                try with_reducible rfl
              simp only [Act.put, List.setIfInBounds_toArray, List.set_cons_zero, List.set_cons_succ]
              refine wpAnyH_take (i := 3) (oi := { dst := some 75, op := Go.Op.indexAddr 38 (Go.Operand.tmp 73) (Go.Operand.tmp 74), type := 0, pos := "law.go:144", after := #[{ on := 1, ground := Go.Ground.data }, { on := 2, ground := Go.Ground.data }], guard := none }) (v := ?_) rfl (by kernel_rfl) (by kernel_rfl) (by kernel_rfl) (fun _ _ _ h => h) (Or.inl ⟨by rfl, ?_⟩) (by assumption) ?_
              rotate_left
              · intro w hSw
                obtain ⟨q0, q1, q2, q3, q4, q5, q6, q7, q8, q9, q10, q11, q12, q13, q14, q15, q16, q17⟩ := hSw
                go_simp
                try with_reducible rfl
              simp only [Act.put, List.setIfInBounds_toArray, List.set_cons_zero, List.set_cons_succ]
              refine wpAnyH_take (i := 4) (oi := { dst := some 76, op := Go.Op.load 34 (Go.Operand.tmp 75), type := 34, pos := "law.go:144", after := #[{ on := 3, ground := Go.Ground.data }], guard := none }) (v := ?_) rfl (by kernel_rfl) (by kernel_rfl) (by kernel_rfl) (fun _ _ _ h => h) (Or.inl ⟨by rfl, ?_⟩) (by assumption) ?_
              rotate_left
              · intro w hSw
                obtain ⟨q0, q1, q2, q3, q4, q5, q6, q7, q8, q9, q10, q11, q12, q13, q14, q15, q16, q17⟩ := hSw
                go_simp
                try with_reducible rfl
              simp only [Act.put, List.setIfInBounds_toArray, List.set_cons_zero, List.set_cons_succ]
              refine by_key2 (fun qa qc g13 g14 wz => ∃ P', Hid (Bk wz g13 [.bool false, .int .i64 0, .int .i64 0, .int .i64 0, .int .i64 0, .int .i64 0, .int .i64 0, .slice none 0 0] 78) ∧ Hid (Bk wz g14 [.int .i64 0, .int .i64 0, .int .i64 0, .int .i64 0, .int .i64 0, .int .i64 0, .int .i64 0, .int .i64 0, .int .u32 0, .string ⟨#[]⟩] 34) ∧ Hid (g13 ≠ g14 ∧ g14 ≠ g13) ∧ Hid (wr.heap.size ≤ g13 ∧ wr.heap.size ≤ g14) ∧ Hid (TxOwn wz wr.heap.size (.slice qa t qc) P') ∧ Hid ((Value.slice qa t qc).ownBlock ≠ some g13 ∧ (Value.slice qa t qc).ownBlock ≠ some g14) ∧ Hid (Rst 1 1 2 5 2 L true ⟨1, 2, (t : Int), 1, 2, 5⟩ P' (C.set j true)) ∧ Hid (Below wr.heap.size wr wz)) (fun (a : Act) (qa : Option Addr) (qc g13 g14 : Nat) => ((((((a.put (some 77) (.tuple #[.agg #[.bool true, .int .i64 1, .int .i64 2, .int .i64 (t : Int), .int .i64 1, .int .i64 2, .int .i64 5, .slice qa t qc], .agg #[.int .i64 7, .int .i64 1, .int .i64 1, .int .i64 2, .int .i64 5, .int .i64 2, .int .i64 (j : Int), .int .i64 (t : Int), .int .u32 0, .string ⟨#[]⟩], .nilIface])).put (some 71) (.tuple #[.agg #[.bool true, .int .i64 1, .int .i64 2, .int .i64 (t : Int), .int .i64 1, .int .i64 2, .int .i64 5, .slice qa t qc], .agg #[.int .i64 7, .int .i64 1, .int .i64 1, .int .i64 2, .int .i64 5, .int .i64 2, .int .i64 (j : Int), .int .i64 (t : Int), .int .u32 0, .string ⟨#[]⟩], .nilIface])).put (some 78) (.agg #[.bool true, .int .i64 1, .int .i64 2, .int .i64 (t : Int), .int .i64 1, .int .i64 2, .int .i64 5, .slice qa t qc])).put (some 79) (.agg #[.int .i64 7, .int .i64 1, .int .i64 1, .int .i64 2, .int .i64 5, .int .i64 2, .int .i64 (j : Int), .int .i64 (t : Int), .int .u32 0, .string ⟨#[]⟩])).put (some 80) .nilIface).put (some 13) (.pointer (some ⟨g13, 0, none⟩))).put (some 14) (.pointer (some ⟨g14, 0, none⟩))) #[true, true, true, true, true, true, true, true, true, true, true, true, false, false, false] 3 ?_ ?_
              · intro key0
                simp only [Act.put, List.setIfInBounds_toArray, List.set_cons_zero, List.set_cons_succ] at key0
                have KY := hide key0
                clear key0
                refine wpAnyH_ready (rs := [5, 10, 11]) (by kernel_rfl) (by simp) ?_
                refine AllReadyH.cons (o := { dst := some 77, op := Go.Op.call { callee := Go.Callee.value (Go.Operand.func 29), args := #[Go.Operand.tmp 72, Go.Operand.tmp 76], argTypes := #[78, 34] }, type := 79, pos := "law.go:144", after := #[{ on := 0, ground := Go.Ground.data }, { on := 4, ground := Go.Ground.data }], guard := none }) rfl (fun K hK => ?_) ?_
                · go_simp
                  go_at_call 29
                  with_reducible refine Calls.mono (HTK.out _ (by repeat (first | with_reducible exact Below.refl _ _ | with_reducible refine Below.drew ?_ | with_reducible refine bel_al ?_ _))) ?_
                  rintro e w7 ⟨qa, qc, P', rfl, o7, l7, r7, b7, pb7⟩
                  have Q7 := hide o7
                  have L7 := hide l7
                  have R7 := hide r7
                  have Y7 := hide b7
                  have PB := hide pb7
                  clear o7 l7 r7 b7 pb7
                  try dsimp only
                  refine hK.out _ _ (HSB.out _ (by repeat (first | with_reducible exact Below.refl _ _ | with_reducible exact Y7.out | with_reducible refine Below.drew ?_ | with_reducible refine bel_al ?_ _))) (fun hHeld2 => ?_)
                  clear hK K
                  try simp only [Act.put, List.setIfInBounds_toArray, List.set_cons_zero, List.set_cons_succ]
                  refine wpAnyH_take (i := 6) (oi := { dst := some 71, op := Go.Op.move (Go.Operand.tmp 77), type := 79, pos := "law.go:144", after := #[{ on := 5, ground := Go.Ground.data }], guard := none }) (v := ?_) rfl (by kernel_rfl) (by kernel_rfl) (by kernel_rfl) (fun _ _ _ h => h) (Or.inl ⟨by rfl, ?_⟩) (by assumption) ?_
                  rotate_left
                  · intro w hSw
                    obtain ⟨q0, q1, q2, q3, q4, q5, q6, q7, q8, q9, q10, q11, q12, q13, q14, q15, q16, q17⟩ := hSw
                    go_simp
                    try with_reducible rfl
                  simp only [Act.put, List.setIfInBounds_toArray, List.set_cons_zero, List.set_cons_succ]
                  refine wpAnyH_take (i := 7) (oi := { dst := some 78, op := Go.Op.extract (Go.Operand.tmp 71) 0, type := 78, pos := "law.go:144", after := #[{ on := 6, ground := Go.Ground.data }], guard := none }) (v := ?_) rfl (by kernel_rfl) (by kernel_rfl) (by kernel_rfl) (fun _ _ _ h => h) (Or.inl ⟨by rfl, ?_⟩) (by assumption) ?_
                  rotate_left
                  · intro w hSw
                    obtain ⟨q0, q1, q2, q3, q4, q5, q6, q7, q8, q9, q10, q11, q12, q13, q14, q15, q16, q17⟩ := hSw
                    go_simp
                    try with_reducible rfl
                  simp only [Act.put, List.setIfInBounds_toArray, List.set_cons_zero, List.set_cons_succ]
                  refine wpAnyH_take (i := 8) (oi := { dst := some 79, op := Go.Op.extract (Go.Operand.tmp 71) 1, type := 34, pos := "law.go:144", after := #[{ on := 6, ground := Go.Ground.data }, { on := 12, ground := Go.Ground.gcOnly Go.Departure.lateStores }], guard := none }) (v := ?_) rfl (by kernel_rfl) (by kernel_rfl) (by kernel_rfl) (fun _ _ _ h => h) (Or.inl ⟨by rfl, ?_⟩) (by assumption) ?_
                  rotate_left
                  · intro w hSw
                    obtain ⟨q0, q1, q2, q3, q4, q5, q6, q7, q8, q9, q10, q11, q12, q13, q14, q15, q16, q17⟩ := hSw
                    go_simp
                    try with_reducible rfl
                  simp only [Act.put, List.setIfInBounds_toArray, List.set_cons_zero, List.set_cons_succ]
                  refine wpAnyH_take (i := 9) (oi := { dst := some 80, op := Go.Op.extract (Go.Operand.tmp 71) 2, type := 52, pos := "law.go:144", after := #[{ on := 6, ground := Go.Ground.data }, { on := 13, ground := Go.Ground.gcOnly Go.Departure.lateStores }], guard := none }) (v := ?_) rfl (by kernel_rfl) (by kernel_rfl) (by kernel_rfl) (fun _ _ _ h => h) (Or.inl ⟨by rfl, ?_⟩) (by assumption) ?_
                  rotate_left
                  · intro w hSw
                    obtain ⟨q0, q1, q2, q3, q4, q5, q6, q7, q8, q9, q10, q11, q12, q13, q14, q15, q16, q17⟩ := hSw
                    go_simp
                    try with_reducible rfl
                  simp only [Act.put, List.setIfInBounds_toArray, List.set_cons_zero, List.set_cons_succ]
                  refine wpAnyH_ready (rs := [10, 11]) (by kernel_rfl) (by simp) ?_
                  refine AllReadyH.cons (o := { dst := some 13, op := Go.Op.alloc 78, type := 0, pos := "law.go:144", after := #[], guard := none }) rfl (fun K hK => ?_) ?_
                  · go_simp
                    refine hK.out _ _ (HSB.out _ (by repeat (first | with_reducible exact Below.refl _ _ | with_reducible exact Y7.out | with_reducible refine Below.drew ?_ | with_reducible refine bel_al ?_ _))) (fun hHeld2 => ?_)
                    clear hK K
                    try simp only [Act.put, List.setIfInBounds_toArray, List.set_cons_zero, List.set_cons_succ]
                    refine wpAnyH_ready (rs := [11]) (by kernel_rfl) (by simp) ?_
                    refine AllReadyH.cons (o := { dst := some 14, op := Go.Op.alloc 34, type := 0, pos := "law.go:144", after := #[], guard := none }) rfl (fun K hK => ?_) ?_
                    · go_simp
                      refine hK.out _ _ (HSB.out _ (by repeat (first | with_reducible exact Below.refl _ _ | with_reducible exact Y7.out | with_reducible refine Below.drew ?_ | with_reducible refine bel_al ?_ _))) (fun hHeld2 => ?_)
                      clear hK K
                      try simp only [Act.put, List.setIfInBounds_toArray, List.set_cons_zero, List.set_cons_succ]
                      refine wpAnyH_listed (show _ = #[true, true, true, true, true, true, true, true, true, true, true, true, false, false, false] by kernel_rfl) ?_
                      have hb7 := Y7.out.size
                      have hl7 := L7.out
                      obtain ⟨W9, e9, M1, M2, D9⟩ := box2 w7 [.bool false, .int .i64 0, .int .i64 0, .int .i64 0, .int .i64 0, .int .i64 0, .int .i64 0, .slice none 0 0] 78 [.int .i64 0, .int .i64 0, .int .i64 0, .int .i64 0, .int .i64 0, .int .i64 0, .int .i64 0, .int .i64 0, .int .u32 0, .string ⟨#[]⟩] 34
                      obtain ⟨h13, e13⟩ : ∃ h, w7.heap.size = h := ⟨_, rfl⟩
                      obtain ⟨h14, e14⟩ : ∃ h, h13 + 1 = h := ⟨_, rfl⟩
                      have Q9 := Q7.out.below D9
                      have Y9 := Y7.out.trans (D9.mono hb7)
                      simp only [e9, e13, e14]
                      rw [e13] at M1 M2 hb7 hl7
                      rw [e14] at M2
                      refine KY.out qa qc h13 h14 W9 ⟨P', M1, M2, ⟨by omega, by omega⟩, ⟨by omega, by omega⟩, Q9, ⟨fun e => ?_, fun e => ?_⟩, R7.out, Y9⟩
                      · have := hl7 _ e
                        omega
                      · have := hl7 _ e
                        omega
                    exact AllReadyH.nil
                  refine AllReadyH.cons (o := { dst := some 14, op := Go.Op.alloc 34, type := 0, pos := "law.go:144", after := #[], guard := none }) rfl (fun K hK => ?_) ?_
                  · go_simp
                    refine hK.out _ _ (HSB.out _ (by repeat (first | with_reducible exact Below.refl _ _ | with_reducible exact Y7.out | with_reducible refine Below.drew ?_ | with_reducible refine bel_al ?_ _))) (fun hHeld2 => ?_)
                    clear hK K
                    try simp only [Act.put, List.setIfInBounds_toArray, List.set_cons_zero, List.set_cons_succ]
                    refine wpAnyH_ready (rs := [10]) (by kernel_rfl) (by simp) ?_
                    refine AllReadyH.cons (o := { dst := some 13, op := Go.Op.alloc 78, type := 0, pos := "law.go:144", after := #[], guard := none }) rfl (fun K hK => ?_) ?_
                    · go_simp
                      refine hK.out _ _ (HSB.out _ (by repeat (first | with_reducible exact Below.refl _ _ | with_reducible exact Y7.out | with_reducible refine Below.drew ?_ | with_reducible refine bel_al ?_ _))) (fun hHeld2 => ?_)
                      clear hK K
                      try simp only [Act.put, List.setIfInBounds_toArray, List.set_cons_zero, List.set_cons_succ]
                      refine wpAnyH_listed (show _ = #[true, true, true, true, true, true, true, true, true, true, true, true, false, false, false] by kernel_rfl) ?_
                      have hb7 := Y7.out.size
                      have hl7 := L7.out
                      obtain ⟨W9, e9, M1, M2, D9⟩ := box2 w7 [.int .i64 0, .int .i64 0, .int .i64 0, .int .i64 0, .int .i64 0, .int .i64 0, .int .i64 0, .int .i64 0, .int .u32 0, .string ⟨#[]⟩] 34 [.bool false, .int .i64 0, .int .i64 0, .int .i64 0, .int .i64 0, .int .i64 0, .int .i64 0, .slice none 0 0] 78
                      have Q9 := Q7.out.below D9
                      have Y9 := Y7.out.trans (D9.mono hb7)
                      simp only [e9]
                      refine KY.out qa qc (w7.heap.size + 1) w7.heap.size W9 ⟨P', M2, M1, ⟨by omega, by omega⟩, ⟨by omega, by omega⟩, Q9, ⟨fun e => ?_, fun e => ?_⟩, R7.out, Y9⟩
                      · have := hl7 _ e
                        omega
                      · have := hl7 _ e
                        omega
                    exact AllReadyH.nil
                  exact AllReadyH.nil
                refine AllReadyH.cons (o := { dst := some 13, op := Go.Op.alloc 78, type := 0, pos := "law.go:144", after := #[], guard := none }) rfl (fun K hK => ?_) ?_
                · go_simp
                  refine hK.out _ _ (HSB.out _ (by repeat (first | with_reducible exact Below.refl _ _ | with_reducible refine Below.drew ?_ | with_reducible refine bel_al ?_ _))) (fun hHeld2 => ?_)
                  clear hK K
                  try simp only [Act.put, List.setIfInBounds_toArray, List.set_cons_zero, List.set_cons_succ]
                  refine wpAnyH_ready (rs := [5, 11]) (by kernel_rfl) (by simp) ?_
                  refine AllReadyH.cons (o := { dst := some 77, op := Go.Op.call { callee := Go.Callee.value (Go.Operand.func 29), args := #[Go.Operand.tmp 72, Go.Operand.tmp 76], argTypes := #[78, 34] }, type := 79, pos := "law.go:144", after := #[{ on := 0, ground := Go.Ground.data }, { on := 4, ground := Go.Ground.data }], guard := none }) rfl (fun K hK => ?_) ?_
                  · go_simp
                    go_at_call 29
                    with_reducible refine Calls.mono (HTK.out _ (by repeat (first | with_reducible exact Below.refl _ _ | with_reducible refine Below.drew ?_ | with_reducible refine bel_al ?_ _))) ?_
                    rintro e w7 ⟨qa, qc, P', rfl, o7, l7, r7, b7, pb7⟩
                    have Q7 := hide o7
                    have L7 := hide l7
                    have R7 := hide r7
                    have Y7 := hide b7
                    have PB := hide pb7
                    clear o7 l7 r7 b7 pb7
                    try dsimp only
                    refine hK.out _ _ (HSB.out _ (by repeat (first | with_reducible exact Below.refl _ _ | with_reducible exact Y7.out | with_reducible refine Below.drew ?_ | with_reducible refine bel_al ?_ _))) (fun hHeld2 => ?_)
                    clear hK K
                    try simp only [Act.put, List.setIfInBounds_toArray, List.set_cons_zero, List.set_cons_succ]
                    refine wpAnyH_take (i := 6) (oi := { dst := some 71, op := Go.Op.move (Go.Operand.tmp 77), type := 79, pos := "law.go:144", after := #[{ on := 5, ground := Go.Ground.data }], guard := none }) (v := ?_) rfl (by kernel_rfl) (by kernel_rfl) (by kernel_rfl) (fun _ _ _ h => h) (Or.inl ⟨by rfl, ?_⟩) (by assumption) ?_
                    rotate_left
                    · intro w hSw
                      obtain ⟨q0, q1, q2, q3, q4, q5, q6, q7, q8, q9, q10, q11, q12, q13, q14, q15, q16, q17⟩ := hSw
                      go_simp
                      try with_reducible rfl
                    simp only [Act.put, List.setIfInBounds_toArray, List.set_cons_zero, List.set_cons_succ]
                    refine wpAnyH_take (i := 7) (oi := { dst := some 78, op := Go.Op.extract (Go.Operand.tmp 71) 0, type := 78, pos := "law.go:144", after := #[{ on := 6, ground := Go.Ground.data }], guard := none }) (v := ?_) rfl (by kernel_rfl) (by kernel_rfl) (by kernel_rfl) (fun _ _ _ h => h) (Or.inl ⟨by rfl, ?_⟩) (by assumption) ?_
                    rotate_left
                    · intro w hSw
                      obtain ⟨q0, q1, q2, q3, q4, q5, q6, q7, q8, q9, q10, q11, q12, q13, q14, q15, q16, q17⟩ := hSw
                      go_simp
                      try with_reducible rfl
                    simp only [Act.put, List.setIfInBounds_toArray, List.set_cons_zero, List.set_cons_succ]
                    refine wpAnyH_take (i := 8) (oi := { dst := some 79, op := Go.Op.extract (Go.Operand.tmp 71) 1, type := 34, pos := "law.go:144", after := #[{ on := 6, ground := Go.Ground.data }, { on := 12, ground := Go.Ground.gcOnly Go.Departure.lateStores }], guard := none }) (v := ?_) rfl (by kernel_rfl) (by kernel_rfl) (by kernel_rfl) (fun _ _ _ h => h) (Or.inl ⟨by rfl, ?_⟩) (by assumption) ?_
                    rotate_left
                    · intro w hSw
                      obtain ⟨q0, q1, q2, q3, q4, q5, q6, q7, q8, q9, q10, q11, q12, q13, q14, q15, q16, q17⟩ := hSw
                      go_simp
                      try with_reducible rfl
                    simp only [Act.put, List.setIfInBounds_toArray, List.set_cons_zero, List.set_cons_succ]
                    refine wpAnyH_take (i := 9) (oi := { dst := some 80, op := Go.Op.extract (Go.Operand.tmp 71) 2, type := 52, pos := "law.go:144", after := #[{ on := 6, ground := Go.Ground.data }, { on := 13, ground := Go.Ground.gcOnly Go.Departure.lateStores }], guard := none }) (v := ?_) rfl (by kernel_rfl) (by kernel_rfl) (by kernel_rfl) (fun _ _ _ h => h) (Or.inl ⟨by rfl, ?_⟩) (by assumption) ?_
                    rotate_left
                    · intro w hSw
                      obtain ⟨q0, q1, q2, q3, q4, q5, q6, q7, q8, q9, q10, q11, q12, q13, q14, q15, q16, q17⟩ := hSw
                      go_simp
                      try with_reducible rfl
                    simp only [Act.put, List.setIfInBounds_toArray, List.set_cons_zero, List.set_cons_succ]
                    refine wpAnyH_ready (rs := [11]) (by kernel_rfl) (by simp) ?_
                    refine AllReadyH.cons (o := { dst := some 14, op := Go.Op.alloc 34, type := 0, pos := "law.go:144", after := #[], guard := none }) rfl (fun K hK => ?_) ?_
                    · go_simp
                      refine hK.out _ _ (HSB.out _ (by repeat (first | with_reducible exact Below.refl _ _ | with_reducible exact Y7.out | with_reducible refine Below.drew ?_ | with_reducible refine bel_al ?_ _))) (fun hHeld2 => ?_)
                      clear hK K
                      try simp only [Act.put, List.setIfInBounds_toArray, List.set_cons_zero, List.set_cons_succ]
                      refine wpAnyH_listed (show _ = #[true, true, true, true, true, true, true, true, true, true, true, true, false, false, false] by kernel_rfl) ?_
                      have hb7 := Y7.out.size
                      have hl7 := L7.out
                      have hx : (wr.alloc (.cells #[.bool false, .int .i64 0, .int .i64 0, .int .i64 0, .int .i64 0, .int .i64 0, .int .i64 0, .slice none 0 0] 78)).drew.heap.size = wr.heap.size + 1 := Array.size_push _
                      rw [hx] at hl7
                      obtain ⟨W9, e9, M2, D9⟩ := box1 w7 [.int .i64 0, .int .i64 0, .int .i64 0, .int .i64 0, .int .i64 0, .int .i64 0, .int .i64 0, .int .i64 0, .int .u32 0, .string ⟨#[]⟩] 34
                      have M0 := PB.out _ _ _ N1.out
                      have h07 := M0.lt
                      have M1 := M0.below D9
                      have Q9 := Q7.out.below D9
                      have Y9 := Y7.out.trans (D9.mono hb7)
                      simp only [e9]
                      refine KY.out qa qc wr.heap.size w7.heap.size W9 ⟨P', M1, M2, ⟨by omega, by omega⟩, ⟨by omega, by omega⟩, Q9, ⟨fun e => ?_, fun e => ?_⟩, R7.out, Y9⟩
                      · have := hl7 _ e
                        omega
                      · have := hl7 _ e
                        omega
                    exact AllReadyH.nil
                  refine AllReadyH.cons (o := { dst := some 14, op := Go.Op.alloc 34, type := 0, pos := "law.go:144", after := #[], guard := none }) rfl (fun K hK => ?_) ?_
                  · go_simp
                    refine hK.out _ _ (HSB.out _ (by repeat (first | with_reducible exact Below.refl _ _ | with_reducible refine Below.drew ?_ | with_reducible refine bel_al ?_ _))) (fun hHeld2 => ?_)
                    clear hK K
                    try simp only [Act.put, List.setIfInBounds_toArray, List.set_cons_zero, List.set_cons_succ]
                    refine wpAnyH_ready (rs := [5]) (by kernel_rfl) (by simp) ?_
                    refine AllReadyH.cons (o := { dst := some 77, op := Go.Op.call { callee := Go.Callee.value (Go.Operand.func 29), args := #[Go.Operand.tmp 72, Go.Operand.tmp 76], argTypes := #[78, 34] }, type := 79, pos := "law.go:144", after := #[{ on := 0, ground := Go.Ground.data }, { on := 4, ground := Go.Ground.data }], guard := none }) rfl (fun K hK => ?_) ?_
                    · go_simp
                      go_at_call 29
                      with_reducible refine Calls.mono (HTK.out _ (by repeat (first | with_reducible exact Below.refl _ _ | with_reducible refine Below.drew ?_ | with_reducible refine bel_al ?_ _))) ?_
                      rintro e w7 ⟨qa, qc, P', rfl, o7, l7, r7, b7, pb7⟩
                      have Q7 := hide o7
                      have L7 := hide l7
                      have R7 := hide r7
                      have Y7 := hide b7
                      have PB := hide pb7
                      clear o7 l7 r7 b7 pb7
                      try dsimp only
                      refine hK.out _ _ (HSB.out _ (by repeat (first | with_reducible exact Below.refl _ _ | with_reducible exact Y7.out | with_reducible refine Below.drew ?_ | with_reducible refine bel_al ?_ _))) (fun hHeld2 => ?_)
                      clear hK K
                      try simp only [Act.put, List.setIfInBounds_toArray, List.set_cons_zero, List.set_cons_succ]
                      refine wpAnyH_take (i := 6) (oi := { dst := some 71, op := Go.Op.move (Go.Operand.tmp 77), type := 79, pos := "law.go:144", after := #[{ on := 5, ground := Go.Ground.data }], guard := none }) (v := ?_) rfl (by kernel_rfl) (by kernel_rfl) (by kernel_rfl) (fun _ _ _ h => h) (Or.inl ⟨by rfl, ?_⟩) (by assumption) ?_
                      rotate_left
                      · intro w hSw
                        obtain ⟨q0, q1, q2, q3, q4, q5, q6, q7, q8, q9, q10, q11, q12, q13, q14, q15, q16, q17⟩ := hSw
                        go_simp
                        try with_reducible rfl
                      simp only [Act.put, List.setIfInBounds_toArray, List.set_cons_zero, List.set_cons_succ]
                      refine wpAnyH_take (i := 7) (oi := { dst := some 78, op := Go.Op.extract (Go.Operand.tmp 71) 0, type := 78, pos := "law.go:144", after := #[{ on := 6, ground := Go.Ground.data }], guard := none }) (v := ?_) rfl (by kernel_rfl) (by kernel_rfl) (by kernel_rfl) (fun _ _ _ h => h) (Or.inl ⟨by rfl, ?_⟩) (by assumption) ?_
                      rotate_left
                      · intro w hSw
                        obtain ⟨q0, q1, q2, q3, q4, q5, q6, q7, q8, q9, q10, q11, q12, q13, q14, q15, q16, q17⟩ := hSw
                        go_simp
                        try with_reducible rfl
                      simp only [Act.put, List.setIfInBounds_toArray, List.set_cons_zero, List.set_cons_succ]
                      refine wpAnyH_take (i := 8) (oi := { dst := some 79, op := Go.Op.extract (Go.Operand.tmp 71) 1, type := 34, pos := "law.go:144", after := #[{ on := 6, ground := Go.Ground.data }, { on := 12, ground := Go.Ground.gcOnly Go.Departure.lateStores }], guard := none }) (v := ?_) rfl (by kernel_rfl) (by kernel_rfl) (by kernel_rfl) (fun _ _ _ h => h) (Or.inl ⟨by rfl, ?_⟩) (by assumption) ?_
                      rotate_left
                      · intro w hSw
                        obtain ⟨q0, q1, q2, q3, q4, q5, q6, q7, q8, q9, q10, q11, q12, q13, q14, q15, q16, q17⟩ := hSw
                        go_simp
                        try with_reducible rfl
                      simp only [Act.put, List.setIfInBounds_toArray, List.set_cons_zero, List.set_cons_succ]
                      refine wpAnyH_take (i := 9) (oi := { dst := some 80, op := Go.Op.extract (Go.Operand.tmp 71) 2, type := 52, pos := "law.go:144", after := #[{ on := 6, ground := Go.Ground.data }, { on := 13, ground := Go.Ground.gcOnly Go.Departure.lateStores }], guard := none }) (v := ?_) rfl (by kernel_rfl) (by kernel_rfl) (by kernel_rfl) (fun _ _ _ h => h) (Or.inl ⟨by rfl, ?_⟩) (by assumption) ?_
                      rotate_left
                      · intro w hSw
                        obtain ⟨q0, q1, q2, q3, q4, q5, q6, q7, q8, q9, q10, q11, q12, q13, q14, q15, q16, q17⟩ := hSw
                        go_simp
                        try with_reducible rfl
                      simp only [Act.put, List.setIfInBounds_toArray, List.set_cons_zero, List.set_cons_succ]
                      refine wpAnyH_listed (show _ = #[true, true, true, true, true, true, true, true, true, true, true, true, false, false, false] by kernel_rfl) ?_
                      have hb7 := Y7.out.size
                      have hl7 := L7.out
                      have hx : ((wr.alloc (.cells #[.bool false, .int .i64 0, .int .i64 0, .int .i64 0, .int .i64 0, .int .i64 0, .int .i64 0, .slice none 0 0] 78)).alloc (.cells #[.int .i64 0, .int .i64 0, .int .i64 0, .int .i64 0, .int .i64 0, .int .i64 0, .int .i64 0, .int .i64 0, .int .u32 0, .string ⟨#[]⟩] 34)).drew.heap.size = wr.heap.size + 2 := by
                        show ((wr.heap.push _).push _).size = _
                        rw [Array.size_push, Array.size_push]
                      rw [hx] at hl7
                      have M1 := PB.out _ _ _ N3.out
                      have M2 := PB.out _ _ _ N3n.out
                      refine KY.out qa qc wr.heap.size (wr.heap.size + 1) w7 ⟨P', M1, M2, ⟨by omega, by omega⟩, ⟨by omega, by omega⟩, Q7.out, ⟨fun e => ?_, fun e => ?_⟩, R7.out, Y7.out⟩
                      · have := hl7 _ e
                        omega
                      · have := hl7 _ e
                        omega
                    exact AllReadyH.nil
                  exact AllReadyH.nil
                refine AllReadyH.cons (o := { dst := some 14, op := Go.Op.alloc 34, type := 0, pos := "law.go:144", after := #[], guard := none }) rfl (fun K hK => ?_) ?_
                · go_simp
                  refine hK.out _ _ (HSB.out _ (by repeat (first | with_reducible exact Below.refl _ _ | with_reducible refine Below.drew ?_ | with_reducible refine bel_al ?_ _))) (fun hHeld2 => ?_)
                  clear hK K
                  try simp only [Act.put, List.setIfInBounds_toArray, List.set_cons_zero, List.set_cons_succ]
                  refine wpAnyH_ready (rs := [5, 10]) (by kernel_rfl) (by simp) ?_
                  refine AllReadyH.cons (o := { dst := some 77, op := Go.Op.call { callee := Go.Callee.value (Go.Operand.func 29), args := #[Go.Operand.tmp 72, Go.Operand.tmp 76], argTypes := #[78, 34] }, type := 79, pos := "law.go:144", after := #[{ on := 0, ground := Go.Ground.data }, { on := 4, ground := Go.Ground.data }], guard := none }) rfl (fun K hK => ?_) ?_
                  · go_simp
                    go_at_call 29
                    with_reducible refine Calls.mono (HTK.out _ (by repeat (first | with_reducible exact Below.refl _ _ | with_reducible refine Below.drew ?_ | with_reducible refine bel_al ?_ _))) ?_
                    rintro e w7 ⟨qa, qc, P', rfl, o7, l7, r7, b7, pb7⟩
                    have Q7 := hide o7
                    have L7 := hide l7
                    have R7 := hide r7
                    have Y7 := hide b7
                    have PB := hide pb7
                    clear o7 l7 r7 b7 pb7
                    try dsimp only
                    refine hK.out _ _ (HSB.out _ (by repeat (first | with_reducible exact Below.refl _ _ | with_reducible exact Y7.out | with_reducible refine Below.drew ?_ | with_reducible refine bel_al ?_ _))) (fun hHeld2 => ?_)
                    clear hK K
                    try simp only [Act.put, List.setIfInBounds_toArray, List.set_cons_zero, List.set_cons_succ]
                    refine wpAnyH_take (i := 6) (oi := { dst := some 71, op := Go.Op.move (Go.Operand.tmp 77), type := 79, pos := "law.go:144", after := #[{ on := 5, ground := Go.Ground.data }], guard := none }) (v := ?_) rfl (by kernel_rfl) (by kernel_rfl) (by kernel_rfl) (fun _ _ _ h => h) (Or.inl ⟨by rfl, ?_⟩) (by assumption) ?_
                    rotate_left
                    · intro w hSw
                      obtain ⟨q0, q1, q2, q3, q4, q5, q6, q7, q8, q9, q10, q11, q12, q13, q14, q15, q16, q17⟩ := hSw
                      go_simp
                      try with_reducible rfl
                    simp only [Act.put, List.setIfInBounds_toArray, List.set_cons_zero, List.set_cons_succ]
                    refine wpAnyH_take (i := 7) (oi := { dst := some 78, op := Go.Op.extract (Go.Operand.tmp 71) 0, type := 78, pos := "law.go:144", after := #[{ on := 6, ground := Go.Ground.data }], guard := none }) (v := ?_) rfl (by kernel_rfl) (by kernel_rfl) (by kernel_rfl) (fun _ _ _ h => h) (Or.inl ⟨by rfl, ?_⟩) (by assumption) ?_
                    rotate_left
                    · intro w hSw
                      obtain ⟨q0, q1, q2, q3, q4, q5, q6, q7, q8, q9, q10, q11, q12, q13, q14, q15, q16, q17⟩ := hSw
                      go_simp
                      try with_reducible rfl
                    simp only [Act.put, List.setIfInBounds_toArray, List.set_cons_zero, List.set_cons_succ]
                    refine wpAnyH_take (i := 8) (oi := { dst := some 79, op := Go.Op.extract (Go.Operand.tmp 71) 1, type := 34, pos := "law.go:144", after := #[{ on := 6, ground := Go.Ground.data }, { on := 12, ground := Go.Ground.gcOnly Go.Departure.lateStores }], guard := none }) (v := ?_) rfl (by kernel_rfl) (by kernel_rfl) (by kernel_rfl) (fun _ _ _ h => h) (Or.inl ⟨by rfl, ?_⟩) (by assumption) ?_
                    rotate_left
                    · intro w hSw
                      obtain ⟨q0, q1, q2, q3, q4, q5, q6, q7, q8, q9, q10, q11, q12, q13, q14, q15, q16, q17⟩ := hSw
                      go_simp
                      try with_reducible rfl
                    simp only [Act.put, List.setIfInBounds_toArray, List.set_cons_zero, List.set_cons_succ]
                    refine wpAnyH_take (i := 9) (oi := { dst := some 80, op := Go.Op.extract (Go.Operand.tmp 71) 2, type := 52, pos := "law.go:144", after := #[{ on := 6, ground := Go.Ground.data }, { on := 13, ground := Go.Ground.gcOnly Go.Departure.lateStores }], guard := none }) (v := ?_) rfl (by kernel_rfl) (by kernel_rfl) (by kernel_rfl) (fun _ _ _ h => h) (Or.inl ⟨by rfl, ?_⟩) (by assumption) ?_
                    rotate_left
                    · intro w hSw
                      obtain ⟨q0, q1, q2, q3, q4, q5, q6, q7, q8, q9, q10, q11, q12, q13, q14, q15, q16, q17⟩ := hSw
                      go_simp
                      try with_reducible rfl
                    simp only [Act.put, List.setIfInBounds_toArray, List.set_cons_zero, List.set_cons_succ]
                    refine wpAnyH_ready (rs := [10]) (by kernel_rfl) (by simp) ?_
                    refine AllReadyH.cons (o := { dst := some 13, op := Go.Op.alloc 78, type := 0, pos := "law.go:144", after := #[], guard := none }) rfl (fun K hK => ?_) ?_
                    · go_simp
                      refine hK.out _ _ (HSB.out _ (by repeat (first | with_reducible exact Below.refl _ _ | with_reducible exact Y7.out | with_reducible refine Below.drew ?_ | with_reducible refine bel_al ?_ _))) (fun hHeld2 => ?_)
                      clear hK K
                      try simp only [Act.put, List.setIfInBounds_toArray, List.set_cons_zero, List.set_cons_succ]
                      refine wpAnyH_listed (show _ = #[true, true, true, true, true, true, true, true, true, true, true, true, false, false, false] by kernel_rfl) ?_
                      have hb7 := Y7.out.size
                      have hl7 := L7.out
                      have hx : (wr.alloc (.cells #[.int .i64 0, .int .i64 0, .int .i64 0, .int .i64 0, .int .i64 0, .int .i64 0, .int .i64 0, .int .i64 0, .int .u32 0, .string ⟨#[]⟩] 34)).drew.heap.size = wr.heap.size + 1 := Array.size_push _
                      rw [hx] at hl7
                      obtain ⟨W9, e9, M2, D9⟩ := box1 w7 [.bool false, .int .i64 0, .int .i64 0, .int .i64 0, .int .i64 0, .int .i64 0, .int .i64 0, .slice none 0 0] 78
                      have M0 := PB.out _ _ _ N2.out
                      have h07 := M0.lt
                      have M1 := M0.below D9
                      have Q9 := Q7.out.below D9
                      have Y9 := Y7.out.trans (D9.mono hb7)
                      simp only [e9]
                      refine KY.out qa qc w7.heap.size wr.heap.size W9 ⟨P', M2, M1, ⟨by omega, by omega⟩, ⟨by omega, by omega⟩, Q9, ⟨fun e => ?_, fun e => ?_⟩, R7.out, Y9⟩
                      · have := hl7 _ e
                        omega
                      · have := hl7 _ e
                        omega
                    exact AllReadyH.nil
                  refine AllReadyH.cons (o := { dst := some 13, op := Go.Op.alloc 78, type := 0, pos := "law.go:144", after := #[], guard := none }) rfl (fun K hK => ?_) ?_
                  · go_simp
                    refine hK.out _ _ (HSB.out _ (by repeat (first | with_reducible exact Below.refl _ _ | with_reducible refine Below.drew ?_ | with_reducible refine bel_al ?_ _))) (fun hHeld2 => ?_)
                    clear hK K
                    try simp only [Act.put, List.setIfInBounds_toArray, List.set_cons_zero, List.set_cons_succ]
                    refine wpAnyH_ready (rs := [5]) (by kernel_rfl) (by simp) ?_
                    refine AllReadyH.cons (o := { dst := some 77, op := Go.Op.call { callee := Go.Callee.value (Go.Operand.func 29), args := #[Go.Operand.tmp 72, Go.Operand.tmp 76], argTypes := #[78, 34] }, type := 79, pos := "law.go:144", after := #[{ on := 0, ground := Go.Ground.data }, { on := 4, ground := Go.Ground.data }], guard := none }) rfl (fun K hK => ?_) ?_
                    · go_simp
                      go_at_call 29
                      with_reducible refine Calls.mono (HTK.out _ (by repeat (first | with_reducible exact Below.refl _ _ | with_reducible refine Below.drew ?_ | with_reducible refine bel_al ?_ _))) ?_
                      rintro e w7 ⟨qa, qc, P', rfl, o7, l7, r7, b7, pb7⟩
                      have Q7 := hide o7
                      have L7 := hide l7
                      have R7 := hide r7
                      have Y7 := hide b7
                      have PB := hide pb7
                      clear o7 l7 r7 b7 pb7
                      try dsimp only
                      refine hK.out _ _ (HSB.out _ (by repeat (first | with_reducible exact Below.refl _ _ | with_reducible exact Y7.out | with_reducible refine Below.drew ?_ | with_reducible refine bel_al ?_ _))) (fun hHeld2 => ?_)
                      clear hK K
                      try simp only [Act.put, List.setIfInBounds_toArray, List.set_cons_zero, List.set_cons_succ]
                      refine wpAnyH_take (i := 6) (oi := { dst := some 71, op := Go.Op.move (Go.Operand.tmp 77), type := 79, pos := "law.go:144", after := #[{ on := 5, ground := Go.Ground.data }], guard := none }) (v := ?_) rfl (by kernel_rfl) (by kernel_rfl) (by kernel_rfl) (fun _ _ _ h => h) (Or.inl ⟨by rfl, ?_⟩) (by assumption) ?_
                      rotate_left
                      · intro w hSw
                        obtain ⟨q0, q1, q2, q3, q4, q5, q6, q7, q8, q9, q10, q11, q12, q13, q14, q15, q16, q17⟩ := hSw
                        go_simp
                        try with_reducible rfl
                      simp only [Act.put, List.setIfInBounds_toArray, List.set_cons_zero, List.set_cons_succ]
                      refine wpAnyH_take (i := 7) (oi := { dst := some 78, op := Go.Op.extract (Go.Operand.tmp 71) 0, type := 78, pos := "law.go:144", after := #[{ on := 6, ground := Go.Ground.data }], guard := none }) (v := ?_) rfl (by kernel_rfl) (by kernel_rfl) (by kernel_rfl) (fun _ _ _ h => h) (Or.inl ⟨by rfl, ?_⟩) (by assumption) ?_
                      rotate_left
                      · intro w hSw
                        obtain ⟨q0, q1, q2, q3, q4, q5, q6, q7, q8, q9, q10, q11, q12, q13, q14, q15, q16, q17⟩ := hSw
                        go_simp
                        try with_reducible rfl
                      simp only [Act.put, List.setIfInBounds_toArray, List.set_cons_zero, List.set_cons_succ]
                      refine wpAnyH_take (i := 8) (oi := { dst := some 79, op := Go.Op.extract (Go.Operand.tmp 71) 1, type := 34, pos := "law.go:144", after := #[{ on := 6, ground := Go.Ground.data }, { on := 12, ground := Go.Ground.gcOnly Go.Departure.lateStores }], guard := none }) (v := ?_) rfl (by kernel_rfl) (by kernel_rfl) (by kernel_rfl) (fun _ _ _ h => h) (Or.inl ⟨by rfl, ?_⟩) (by assumption) ?_
                      rotate_left
                      · intro w hSw
                        obtain ⟨q0, q1, q2, q3, q4, q5, q6, q7, q8, q9, q10, q11, q12, q13, q14, q15, q16, q17⟩ := hSw
                        go_simp
                        try with_reducible rfl
                      simp only [Act.put, List.setIfInBounds_toArray, List.set_cons_zero, List.set_cons_succ]
                      refine wpAnyH_take (i := 9) (oi := { dst := some 80, op := Go.Op.extract (Go.Operand.tmp 71) 2, type := 52, pos := "law.go:144", after := #[{ on := 6, ground := Go.Ground.data }, { on := 13, ground := Go.Ground.gcOnly Go.Departure.lateStores }], guard := none }) (v := ?_) rfl (by kernel_rfl) (by kernel_rfl) (by kernel_rfl) (fun _ _ _ h => h) (Or.inl ⟨by rfl, ?_⟩) (by assumption) ?_
                      rotate_left
                      · intro w hSw
                        obtain ⟨q0, q1, q2, q3, q4, q5, q6, q7, q8, q9, q10, q11, q12, q13, q14, q15, q16, q17⟩ := hSw
                        go_simp
                        try with_reducible rfl
                      simp only [Act.put, List.setIfInBounds_toArray, List.set_cons_zero, List.set_cons_succ]
                      refine wpAnyH_listed (show _ = #[true, true, true, true, true, true, true, true, true, true, true, true, false, false, false] by kernel_rfl) ?_
                      have hb7 := Y7.out.size
                      have hl7 := L7.out
                      have hx : ((wr.alloc (.cells #[.int .i64 0, .int .i64 0, .int .i64 0, .int .i64 0, .int .i64 0, .int .i64 0, .int .i64 0, .int .i64 0, .int .u32 0, .string ⟨#[]⟩] 34)).alloc (.cells #[.bool false, .int .i64 0, .int .i64 0, .int .i64 0, .int .i64 0, .int .i64 0, .int .i64 0, .slice none 0 0] 78)).drew.heap.size = wr.heap.size + 2 := by
                        show ((wr.heap.push _).push _).size = _
                        rw [Array.size_push, Array.size_push]
                      rw [hx] at hl7
                      have M1 := PB.out _ _ _ N4.out
                      have M2 := PB.out _ _ _ N4n.out
                      refine KY.out qa qc (wr.heap.size + 1) wr.heap.size w7 ⟨P', M1, M2, ⟨by omega, by omega⟩, ⟨by omega, by omega⟩, Q7.out, ⟨fun e => ?_, fun e => ?_⟩, R7.out, Y7.out⟩
                      · have := hl7 _ e
                        omega
                      · have := hl7 _ e
                        omega
                    exact AllReadyH.nil
                  exact AllReadyH.nil
                exact AllReadyH.nil
              · --
                intro qa qc g13 g14 wz hF
                simp only [Act.put, List.setIfInBounds_toArray, List.set_cons_zero, List.set_cons_succ]
                obtain ⟨P', B13, B14, HNE, HGE, HQ, HOW, HRR, HBZ⟩ := hF
                have D12 := hide (below_sets HGE.out.1 [.bool true, .int .i64 1, .int .i64 2, .int .i64 (t : Int), .int .i64 1, .int .i64 2, .int .i64 5, .slice qa t qc] 0 HBZ.out)
                have D13 := hide (below_sets HGE.out.2 [.int .i64 7, .int .i64 1, .int .i64 1, .int .i64 2, .int .i64 5, .int .i64 2, .int .i64 (j : Int), .int .i64 (t : Int), .int .u32 0, .string ⟨#[]⟩] 0 D12.out)
                have S12 := hide (HSB.out (((((((((wz.setCell ⟨g13, 0, none⟩ (.bool true)).setCell ⟨g13, 1, none⟩ (.int .i64 1)).setCell ⟨g13, 2, none⟩ (.int .i64 2)).setCell ⟨g13, 3, none⟩ (.int .i64 (t : Int))).setCell ⟨g13, 4, none⟩ (.int .i64 1)).setCell ⟨g13, 5, none⟩ (.int .i64 2)).setCell ⟨g13, 6, none⟩ (.int .i64 5)).setCell ⟨g13, 7, none⟩ (.slice qa t qc))) D12.out)
                have S13 := hide (HSB.out (((((((((((((((((((wz.setCell ⟨g13, 0, none⟩ (.bool true)).setCell ⟨g13, 1, none⟩ (.int .i64 1)).setCell ⟨g13, 2, none⟩ (.int .i64 2)).setCell ⟨g13, 3, none⟩ (.int .i64 (t : Int))).setCell ⟨g13, 4, none⟩ (.int .i64 1)).setCell ⟨g13, 5, none⟩ (.int .i64 2)).setCell ⟨g13, 6, none⟩ (.int .i64 5)).setCell ⟨g13, 7, none⟩ (.slice qa t qc)).setCell ⟨g14, 0, none⟩ (.int .i64 7)).setCell ⟨g14, 1, none⟩ (.int .i64 1)).setCell ⟨g14, 2, none⟩ (.int .i64 1)).setCell ⟨g14, 3, none⟩ (.int .i64 2)).setCell ⟨g14, 4, none⟩ (.int .i64 5)).setCell ⟨g14, 5, none⟩ (.int .i64 2)).setCell ⟨g14, 6, none⟩ (.int .i64 (j : Int))).setCell ⟨g14, 7, none⟩ (.int .i64 (t : Int))).setCell ⟨g14, 8, none⟩ (.int .u32 0)).setCell ⟨g14, 9, none⟩ (.string ⟨#[]⟩))) D13.out)
                have K13 := hide (Bk.others HNE.out.1 [.int .i64 7, .int .i64 1, .int .i64 1, .int .i64 2, .int .i64 5, .int .i64 2, .int .i64 (j : Int), .int .i64 (t : Int), .int .u32 0, .string ⟨#[]⟩] 0 (B13.out.sets [.bool true, .int .i64 1, .int .i64 2, .int .i64 (t : Int), .int .i64 1, .int .i64 2, .int .i64 5, .slice qa t qc] rfl))
                have K14 := hide ((Bk.others HNE.out.2 [.bool true, .int .i64 1, .int .i64 2, .int .i64 (t : Int), .int .i64 1, .int .i64 2, .int .i64 5, .slice qa t qc] 0 B14.out).sets [.int .i64 7, .int .i64 1, .int .i64 1, .int .i64 2, .int .i64 5, .int .i64 2, .int .i64 (j : Int), .int .i64 (t : Int), .int .u32 0, .string ⟨#[]⟩] rfl)
                have KQ := hide (LOwn.fars HOW.out.2 [.int .i64 7, .int .i64 1, .int .i64 1, .int .i64 2, .int .i64 5, .int .i64 2, .int .i64 (j : Int), .int .i64 (t : Int), .int .u32 0, .string ⟨#[]⟩] 0 (LOwn.fars HOW.out.1 [.bool true, .int .i64 1, .int .i64 2, .int .i64 (t : Int), .int .i64 1, .int .i64 2, .int .i64 5, .slice qa t qc] 0 HQ.out))
                obtain ⟨hne1, hne2⟩ := HNE.out
                have f0 := B13.out.frozen 0
                have f1 := B13.out.frozen 1
                have f2 := B13.out.frozen 2
                have f3 := B13.out.frozen 3
                have f4 := B13.out.frozen 4
                have f5 := B13.out.frozen 5
                have f6 := B13.out.frozen 6
                have f7 := B13.out.frozen 7
                have g0 := B13.out.cell 0 rfl
                have g1 := B13.out.cell 1 rfl
                have g2 := B13.out.cell 2 rfl
                have g3 := B13.out.cell 3 rfl
                have g4 := B13.out.cell 4 rfl
                have g5 := B13.out.cell 5 rfl
                have g6 := B13.out.cell 6 rfl
                have g7 := B13.out.cell 7 rfl
                have fz0 := B14.out.frozen 0
                have fz1 := B14.out.frozen 1
                have fz2 := B14.out.frozen 2
                have fz3 := B14.out.frozen 3
                have fz4 := B14.out.frozen 4
                have fz5 := B14.out.frozen 5
                have fz6 := B14.out.frozen 6
                have fz7 := B14.out.frozen 7
                have fz8 := B14.out.frozen 8
                have fz9 := B14.out.frozen 9
                have gz0 := B14.out.cell 0 rfl
                have gz1 := B14.out.cell 1 rfl
                have gz2 := B14.out.cell 2 rfl
                have gz3 := B14.out.cell 3 rfl
                have gz4 := B14.out.cell 4 rfl
                have gz5 := B14.out.cell 5 rfl
                have gz6 := B14.out.cell 6 rfl
                have gz7 := B14.out.cell 7 rfl
                have gz8 := B14.out.cell 8 rfl
                have gz9 := B14.out.cell 9 rfl
                refine wpAnyH_ready (rs := [12]) (by kernel_rfl) (by simp) ?_
                refine AllReadyH.cons (o := { dst := none, op := Go.Op.store 78 (Go.Operand.tmp 13) (Go.Operand.tmp 78), type := 0, pos := "law.go:144", after := #[{ on := 10, ground := Go.Ground.data }, { on := 7, ground := Go.Ground.data }, { on := 5, ground := Go.Ground.chain }, { on := 0, ground := Go.Ground.phase }, { on := 1, ground := Go.Ground.phase }, { on := 2, ground := Go.Ground.phase }, { on := 3, ground := Go.Ground.phase }, { on := 4, ground := Go.Ground.phase }, { on := 5, ground := Go.Ground.phase }, { on := 6, ground := Go.Ground.phase }, { on := 7, ground := Go.Ground.phase }, { on := 8, ground := Go.Ground.textOnly Go.Departure.lateStores }, { on := 9, ground := Go.Ground.textOnly Go.Departure.lateStores }, { on := 10, ground := Go.Ground.phase }, { on := 11, ground := Go.Ground.phase }], guard := none }) rfl (fun K hK => ?_) AllReadyH.nil
                go_simp
                refine hK.out _ _ S12.out (fun hHeld2 => ?_)
                clear hK K
                refine wpAnyH_ready (rs := [13]) (by kernel_rfl) (by simp) ?_
                refine AllReadyH.cons (o := { dst := none, op := Go.Op.store 34 (Go.Operand.tmp 14) (Go.Operand.tmp 79), type := 0, pos := "law.go:144", after := #[{ on := 11, ground := Go.Ground.data }, { on := 8, ground := Go.Ground.data }, { on := 12, ground := Go.Ground.chain }, { on := 0, ground := Go.Ground.phase }, { on := 1, ground := Go.Ground.phase }, { on := 2, ground := Go.Ground.phase }, { on := 3, ground := Go.Ground.phase }, { on := 4, ground := Go.Ground.phase }, { on := 5, ground := Go.Ground.phase }, { on := 6, ground := Go.Ground.phase }, { on := 7, ground := Go.Ground.phase }, { on := 8, ground := Go.Ground.phase }, { on := 9, ground := Go.Ground.textOnly Go.Departure.lateStores }, { on := 10, ground := Go.Ground.phase }, { on := 11, ground := Go.Ground.phase }, { on := 12, ground := Go.Ground.phase }], guard := none }) rfl (fun K hK => ?_) AllReadyH.nil
                go_simp
                refine hK.out _ _ S13.out (fun hHeld3 => ?_)
                clear hK K hHeld2
                refine wpAnyH_take (i := 14) (oi := { dst := some 15, op := Go.Op.assign (Go.Operand.tmp 80), type := 52, pos := "law.go:144", after := #[{ on := 9, ground := Go.Ground.data }, { on := 13, ground := Go.Ground.chain }, { on := 0, ground := Go.Ground.phase }, { on := 1, ground := Go.Ground.phase }, { on := 2, ground := Go.Ground.phase }, { on := 3, ground := Go.Ground.phase }, { on := 4, ground := Go.Ground.phase }, { on := 5, ground := Go.Ground.phase }, { on := 6, ground := Go.Ground.phase }, { on := 7, ground := Go.Ground.phase }, { on := 8, ground := Go.Ground.phase }, { on := 9, ground := Go.Ground.phase }, { on := 10, ground := Go.Ground.phase }, { on := 11, ground := Go.Ground.phase }, { on := 12, ground := Go.Ground.phase }, { on := 13, ground := Go.Ground.phase }], guard := none }) (v := ?_) rfl (by kernel_rfl) (by kernel_rfl) (by kernel_rfl) (fun _ _ _ h => h) (Or.inl ⟨by rfl, ?_⟩) (by assumption) ?_
                rotate_left
                · intro w hSw
                  obtain ⟨q0, q1, q2, q3, q4, q5, q6, q7, q8, q9, q10, q11, q12, q13, q14, q15, q16, q17⟩ := hSw
                  go_simp
                  try with_reducible rfl
                simp only [Act.put, List.setIfInBounds_toArray, List.set_cons_zero, List.set_cons_succ]
                refine wpAnyH_done (by kernel_rfl) ?_ _
                clear hHeld3 hne1 hne2 f0 g0 f1 g1 f2 g2 f3 g3 f4 g4 f5 g5 f6 g6 f7 g7 fz0 gz0 fz1 gz1 fz2 gz2 fz3 gz3 fz4 gz4 fz5 gz5 fz6 gz6 fz7 gz7 fz8 gz8 fz9 gz9 S12 S13
                go_wp2
                go_meet
                case rel => exact ⟨g13, g14, qa, qc, P', rfl, rfl, rfl, K13.out, K14.out, KQ.out, HRR.out, D13.out⟩
            case rest =>
              obtain ⟨g13, g14, qa, qc, P', rfl, rfl, rfl, K13, K14, KQ, KR, KB⟩ := hcut
              obtain ⟨wz, hwz⟩ : ∃ z, z = wc := ⟨_, rfl⟩
              subst hwz
              have a0 := K14.out.cell 0 rfl
              have a2 := K14.out.cell 2 rfl
              have a3 := K14.out.cell 3 rfl
              have a4 := K14.out.cell 4 rfl
              have a6 := K14.out.cell 6 rfl
              have a7 := K14.out.cell 7 rfl
              obtain ⟨m0, m1, m2, m3, m4, m5, m6, m7, m8, m9⟩ := HNC.out
              have l2 := cell_below m2 KB.out
              have l3 := cell_below m3 KB.out
              have l4 := cell_below m4 KB.out
              clear m0 m1 m2 m3 m4 m5 m6 m7 m8 m9 HTK HNC
              have G8 := hide (HR.out.below KB.out)
              have GC := hide (HCM.out.below KB.out)
              have GB := hide (HB4.out.trans (KB.out.mono (Nat.le_of_lt (Nat.lt_of_succ_lt HSZ.out))))
              have GQ := hide (KQ.out.off (show g8 < wr.heap.size from Nat.lt_of_succ_lt HSZ.out))
              have GQ1 := hide (KQ.out.off (show g8 + 1 < wr.heap.size from HSZ.out))
              have GS : Hid (g8 + 1 < wz.heap.size) := Nat.lt_of_lt_of_le HSZ.out KB.out.size
              have GP := hide (KQ.out.weaken (show g8 + 2 ≤ wr.heap.size from HSZ.out))
              clear HR HCM HP HRS HB4 KB KQ
              go_upto_region 17 with fail
              go_quiet (fail)
              clear a0 a2 a3 a4 a6 a7 l2 l3 l4
              have hdq : Below wz.heap.size wz (wz.drewN nq) := ⟨rfl, rfl, rfl, Nat.le_refl _, fun _ _ => rfl⟩
              replace K13 := hide (K13.out.below hdq)
              replace G8 := hide (G8.out.below hdq)
              replace GC := hide (GC.out.below hdq)
              replace GP := hide (GP.out.below hdq)
              replace GB := hide (GB.out.trans (hdq.mono (Nat.le_of_lt (Nat.lt_of_succ_lt GS.out))))
              replace GS : Hid (g8 + 1 < (wz.drewN nq).heap.size) := GS.out
              clear hdq K14
              generalize wz.drewN nq = wy at *
              have c0 := K13.out.cell 0 rfl
              have c1 := K13.out.cell 1 rfl
              have c2 := K13.out.cell 2 rfl
              have c3 := K13.out.cell 3 rfl
              have c4 := K13.out.cell 4 rfl
              have c5 := K13.out.cell 5 rfl
              have c6 := K13.out.cell 6 rfl
              have c7 := K13.out.cell 7 rfl
              have g0 := G8.out.cell 0 rfl
              have g1 := G8.out.cell 1 rfl
              have g2 := G8.out.cell 2 rfl
              have g3 := G8.out.cell 3 rfl
              have g4 := G8.out.cell 4 rfl
              have g5 := G8.out.cell 5 rfl
              have g6 := G8.out.cell 6 rfl
              have g7 := G8.out.cell 7 rfl
              have f0 := G8.out.frozen 0
              have f1 := G8.out.frozen 1
              have f2 := G8.out.frozen 2
              have f3 := G8.out.frozen 3
              have f4 := G8.out.frozen 4
              have f5 := G8.out.frozen 5
              have f6 := G8.out.frozen 6
              have f7 := G8.out.frozen 7
              have hcn : (Value.slice (some ⟨g8 + 1, 0, none⟩) t t).ownBlock ≠ some g8 := by
                intro h2
                simp [Value.ownBlock] at h2
              have T0 := hide (G8.out.sets [.bool true, .int .i64 1, .int .i64 2, .int .i64 (t : Int), .int .i64 1, .int .i64 2, .int .i64 5, .slice qa t qc] rfl)
              have TP := hide (LOwn.fars GQ.out [.bool true, .int .i64 1, .int .i64 2, .int .i64 (t : Int), .int .i64 1, .int .i64 2, .int .i64 5, .slice qa t qc] 0 GP.out)
              have TC0 := hide (LOwn.fars hcn [.bool true, .int .i64 1, .int .i64 2, .int .i64 (t : Int), .int .i64 1, .int .i64 2, .int .i64 5, .slice qa t qc] 0 GC.out)
              have TB := hide (below_sets (Nat.le_refl g8) [.bool true, .int .i64 1, .int .i64 2, .int .i64 (t : Int), .int .i64 1, .int .i64 2, .int .i64 5, .slice qa t qc] 0 GB.out)
              clear hcn
              go_upto_region 20 with fail
              obtain ⟨W19, hW19⟩ : ∃ W19, ((((((((wy.setCell ⟨g8, 0, none⟩ (.bool true)).setCell ⟨g8, 1, none⟩ (.int .i64 1)).setCell ⟨g8, 2, none⟩ (.int .i64 2)).setCell ⟨g8, 3, none⟩ (.int .i64 (t : Int))).setCell ⟨g8, 4, none⟩ (.int .i64 1)).setCell ⟨g8, 5, none⟩ (.int .i64 2)).setCell ⟨g8, 6, none⟩ (.int .i64 5)).setCell ⟨g8, 7, none⟩ (.slice qa t qc)) = W19 := ⟨_, rfl⟩
              simp only [hW19]
              rw [show wy.setCells g8 0 [.bool true, .int .i64 1, .int .i64 2, .int .i64 (t : Int), .int .i64 1, .int .i64 2, .int .i64 5, .slice qa t qc] = W19 from hW19] at T0 TP TC0 TB
              have TS : Hid (g8 + 1 < W19.heap.size) := (World.ownsRow.lt TC0.out (g8 + 1) rfl).2
              clear hW19 c0 g0 f0 c1 g1 f1 c2 g2 f2 c3 g3 f3 c4 g4 f4 c5 g5 f5 c6 g6 f6 c7 g7 f7 K13 G8 GC GP GB GS GQ
              have hCl := KR.out.1
              rw [List.length_set, HT.out] at hCl
              obtain ⟨y, hy⟩ : ∃ y, C[j]? = some y := ⟨_, List.getElem?_eq_getElem (by omega)⟩
              have y0 := ((own_rcs TC0.out).at bvl1 (by decide) hy)
              obtain ⟨yb, yo, ye, yc⟩ := y0
              simp only [Option.some.injEq, Addr.mk.injEq] at ye
              obtain ⟨rfl, rfl, -⟩ := ye
              have y1 := yc 0 _ rfl
              simp only [Nat.mul_one, Nat.add_zero, Nat.zero_add] at y1
              clear yc
              cases y with
              | true =>
                have HCC := hide (left_set_old hy)
                have TC : Hid (FlOwn W19 (g8 + 1) (.slice (some ⟨g8 + 1, 0, none⟩) t t) (C.set j true)) := by rw [HCC.out]; exact TC0.out
                have HLC : Hid (leftC C = leftC (C.set j true)) := by unfold Hid; rw [HCC.out]
                rw [HLC.out]
                clear TC0 HCC
                have hTB := TB.out
                rw [← HG8.out] at hTB
                have TD := hide (chain HD.out hTB)
                clear hTB
                have g0 := T0.out.cell 0 rfl
                have g1 := T0.out.cell 1 rfl
                have g2 := T0.out.cell 2 rfl
                have g3 := T0.out.cell 3 rfl
                have g4 := T0.out.cell 4 rfl
                have g5 := T0.out.cell 5 rfl
                have g6 := T0.out.cell 6 rfl
                have g7 := T0.out.cell 7 rfl
                go_upto_region 23 with fail
                go_wp2_with fail
                refine Calls.mono (whole_step HLs.out HC.out KR.out (HE.out.below TD.out) (own_rcs TP.out)) ?_
                rintro e w24 ⟨v, n', c', rfl, hb, b24⟩
                have Z0 := hide (T0.out.below b24)
                have ZP := hide (TP.out.below b24)
                have ZC := hide (TC.out.below b24)
                have ZB := hide (TB.out.trans (b24.mono (Nat.le_of_lt (Nat.lt_of_succ_lt TS.out))))
                have ZS : Hid (g8 + 1 < w24.heap.size) := Nat.lt_of_lt_of_le TS.out b24.size
                have s2 := bts_string (HB.out.below (chain TD.out b24))
                clear b24 g0 g1 g2 g3 g4 g5 g6 g7
                cases hall : (C.set j true).all id with
                | true =>
                  have hl0 : (((leftC (C.set j true) : Nat) : Int) == 0) = true := by rw [left_zero.2 hall]; rfl
                  rw [if_pos hall] at hb
                  have s1 := bts_string hb
                  have hLn := hb.size
                  clear hb
                  go_wp2
                  exact ⟨⟨k + 1, C.set j true, true, 1, 2, (t : Int), 1, 2, 5, qa, t, qc, P', by omega, by simp, rfl, Z0.out, ZP.out, ZC.out, KR.out, ZB.out, ZS.out⟩, by simp [intOf]; omega⟩
                | false =>
                  have hl0 : (((leftC (C.set j true) : Nat) : Int) == 0) = false := by
                    have : ¬ leftC (C.set j true) = 0 := fun h => by
                      rw [left_zero.1 h] at hall
                      cases hall
                    simp
                    omega
                  rw [if_neg (by rw [hall]; decide)] at hb
                  obtain rfl : n' = 0 := hb.size.symm
                  clear hb
                  go_wp2
                  exact ⟨⟨k + 1, C.set j true, true, 1, 2, (t : Int), 1, 2, 5, qa, t, qc, P', by omega, by simp, rfl, Z0.out, ZP.out, ZC.out, KR.out, ZB.out, ZS.out⟩, by simp [intOf]; omega⟩
              | false =>
                have HLC := hide (left_set_new hy)
                have hlw : IntKind.i64.wrap (((leftC C : Nat) : Int) - 1) = ((leftC (C.set j true) : Nat) : Int) := by
                  have h1 := HLC.out
                  have h2 : leftC C ≤ C.length := List.length_filter_le _ _
                  rw [IntKind.wrap_i64]
                  omega
                obtain ⟨z1, z2, z3, z4, z5⟩ := TC0.out.put bvl1 hCl hjt true
                obtain ⟨⟨u0, w0⟩, x0⟩ := z1 0 (by decide)
                simp only [Nat.mul_one, Nat.add_zero] at w0 x0
                rw [Nat.mul_one] at z2 z3
                have U0 := hide (T0.out.other ⟨g8 + 1, j, none⟩ (.bool true) (show g8 ≠ g8 + 1 by omega))
                have UP := hide (TP.out.far (p := ⟨g8 + 1, j, none⟩) GQ1.out (.bool true))
                have UC := hide (show FlOwn (W19.setCell ⟨g8 + 1, j, none⟩ (.bool true)) (g8 + 1) (.slice (some ⟨g8 + 1, 0, none⟩) t t) (C.set j true) from z2)
                have UB := hide (TB.out.setCell (p := ⟨g8 + 1, j, none⟩) (Nat.le_succ g8) (.bool true))
                clear z1 z2 z3 z4 z5
                go_upto_region 22 with fail
                obtain ⟨W21, hW21⟩ : ∃ W21, W19.setCell ⟨g8 + 1, j, none⟩ (.bool true) = W21 := ⟨_, rfl⟩
                rw [hW21] at U0 UP UC UB
                simp only [hW21]
                clear hW21 y1 w0 x0 T0 TP TC0 TB TS
                have T0 := U0
                have TP := UP
                have TC := UC
                have TB := UB
                have TS : Hid (g8 + 1 < W21.heap.size) := (World.ownsRow.lt TC.out (g8 + 1) rfl).2
                clear U0 UP UC UB
                have hTB := TB.out
                rw [← HG8.out] at hTB
                have TD := hide (chain HD.out hTB)
                clear hTB
                have g0 := T0.out.cell 0 rfl
                have g1 := T0.out.cell 1 rfl
                have g2 := T0.out.cell 2 rfl
                have g3 := T0.out.cell 3 rfl
                have g4 := T0.out.cell 4 rfl
                have g5 := T0.out.cell 5 rfl
                have g6 := T0.out.cell 6 rfl
                have g7 := T0.out.cell 7 rfl
                go_upto_region 23 with fail
                go_wp2_with fail
                refine Calls.mono (whole_step HLs.out HC.out KR.out (HE.out.below TD.out) (own_rcs TP.out)) ?_
                rintro e w24 ⟨v, n', c', rfl, hb, b24⟩
                have Z0 := hide (T0.out.below b24)
                have ZP := hide (TP.out.below b24)
                have ZC := hide (TC.out.below b24)
                have ZB := hide (TB.out.trans (b24.mono (Nat.le_of_lt (Nat.lt_of_succ_lt TS.out))))
                have ZS : Hid (g8 + 1 < w24.heap.size) := Nat.lt_of_lt_of_le TS.out b24.size
                have s2 := bts_string (HB.out.below (chain TD.out b24))
                clear b24 g0 g1 g2 g3 g4 g5 g6 g7
                cases hall : (C.set j true).all id with
                | true =>
                  have hl0 : (((leftC (C.set j true) : Nat) : Int) == 0) = true := by rw [left_zero.2 hall]; rfl
                  rw [if_pos hall] at hb
                  have s1 := bts_string hb
                  have hLn := hb.size
                  clear hb
                  go_wp2
                  exact ⟨⟨k + 1, C.set j true, true, 1, 2, (t : Int), 1, 2, 5, qa, t, qc, P', by omega, by simp, rfl, Z0.out, ZP.out, ZC.out, KR.out, ZB.out, ZS.out⟩, by simp [intOf]; omega⟩
                | false =>
                  have hl0 : (((leftC (C.set j true) : Nat) : Int) == 0) = false := by
                    have : ¬ leftC (C.set j true) = 0 := fun h => by
                      rw [left_zero.1 h] at hall
                      cases hall
                    simp
                    omega
                  rw [if_neg (by rw [hall]; decide)] at hb
                  obtain rfl : n' = 0 := hb.size.symm
                  clear hb
                  go_wp2
                  exact ⟨⟨k + 1, C.set j true, true, 1, 2, (t : Int), 1, 2, 5, qa, t, qc, P', by omega, by simp, rfl, Z0.out, ZP.out, ZC.out, KR.out, ZB.out, ZS.out⟩, by simp [intOf]; omega⟩
      · obtain rfl : k = om := by omega
        go_wp2
        go_ret
        exact ⟨rfl, HDr.out⟩
end Go.Proofs.YtnopclacchoijaaDoor
