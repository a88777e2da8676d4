/-
  The law's awake: a small image goes through.
-/
import Derived.Test.YtnopclacchoijaaDoorXfRWhole
import Derived.Test.YtnopclacchoijaaDoorXfData
import Derived.Deep.RegionHeld3
namespace Go.Proofs.YtnopclacchoijaaDoor
open Go.RowKit FerryCrc
set_option linter.unusedVariables false
set_option linter.unusedSimpArgs false

theorem own_rcs {α : Type} {f : α → List Value} {sz : Nat} {e : TypeId} {w : World} {base : Nat} {a : Option Addr} {n c : Nat} {l : List α} (h : LOwn f sz e w base (.slice a n c) l) : Rcs f sz w a n c l := by
  obtain ⟨a', c', e1, hr⟩ := h.rcs
  simp only [Value.slice.injEq] at e1
  obtain ⟨rfl, rfl, rfl⟩ := e1
  exact hr
theorem dueN_none : ∀ (N : List Nt), dueN N (List.replicate N.length false) = N
  | [] => rfl
  | x :: l => by
    have ih := dueN_none l
    unfold dueN at *
    rw [List.length_cons, List.replicate_succ, List.zip_cons_cons, List.filter_cons]
    show x :: List.map _ (List.filter _ (l.zip _)) = x :: l
    rw [ih]
/-- All pieces of an image are due at its start. -/
theorem start_due {pt b r m st : Int} {L : List Nat} (hL : ∀ c ∈ L, c < 256) (h : cutE pt b r m st L.length = 0) : pieE ⟨pt, b, r, m, st, str L, 0⟩ (tot L) = 0 ∧ dueL ⟨pt, b, r, m, st, str L, 0⟩ (List.replicate (tot L) false) = cutN pt b r m st L := by
  have hb := bytesOf_str hL
  have h1 : pieE ⟨pt, b, r, m, st, str L, 0⟩ (tot L) = 0 := by
    unfold pieE
    simp only
    rw [str_len, hb, if_pos ⟨h, rfl, by omega⟩]
  refine ⟨h1, ?_⟩
  unfold dueL
  rw [List.length_replicate]
  have h2 : pieL ⟨pt, b, r, m, st, str L, 0⟩ (tot L) = cutN pt b r m st L := by
    unfold pieL
    rw [if_pos h1, hb]
  rw [h2]
  have h3 := dueN_none (cutN pt b r m st L)
  rw [cutN_len] at h3
  exact h3
theorem cutN_at {pt b r m st : Int} {L : List Nat} {i : Nat} (hi : i < tot L) : (cutN pt b r m st L)[i]? = some (ntOf pt b r m st L i) := by
  unfold cutN
  rw [List.getElem?_map, List.getElem?_range hi]
  rfl

set_option maxRecDepth 100000 in
set_option maxHeartbeats 4000000 in
theorem awake_any {w : World} {E : Nat → Addr} (he : Er7 w E) : Calls Tryd.prog 9 #[] w fun e w' => e = .returned (.bool true) ∧ Below w.heap.size w w' := by
  obtain ⟨L, hLd⟩ : ∃ L, List.range 130 = L := ⟨_, rfl⟩
  have hLl : L.length = 130 := by rw [← hLd]; rfl
  have HLs : Hid (∀ c ∈ L, c < 256) := fun c hc => by rw [← hLd, List.mem_range] at hc; omega
  have HT : Hid (tot L = 2) := by unfold Hid tot; rw [hLl]
  have HC : Hid (cutE 2 1 1 2 1 L.length = 0) := by unfold Hid; rw [hLl]; decide
  have HDA : Hid (∀ w' : World, Calls Tryd.prog 36 #[.int .i64 130] w' fun e w'' => ∃ v, e = .returned v ∧ Own w'' w'.heap.size v (List.range 130) ∧ Below w'.heap.size w' w'') := fun w' => data_any 130 (by decide) w'
  rw [hLd] at HDA
  have HST := hide (fun (w' : World) (h : Er7 w' E) (a : Option Addr) (c : Nat) (hb : Bts w' a 130 c L) => start_any 2 1 1 2 1 a 130 c L h hb)
  have HSV : Hid (startS 2 1 1 2 1 L = ⟨2, 1, 1, 2, 1, str L, 0⟩ ∧ startA 2 1 1 2 1 L = List.replicate 2 false ∧ cutE 2 1 1 2 1 130 = 0) := ⟨if_pos HC.out, by unfold startA; rw [if_pos HC.out, HT.out], by decide⟩
  have HDU := hide (fun (w' : World) (h : Er7 w' E) (a : Option Addr) (c : Nat) (hb : Fls w' a 2 c (List.replicate 2 false)) => due_any ⟨2, 1, 1, 2, 1, str L, 0⟩ a 2 c (List.replicate 2 false) h (by rw [str_len, hLl]; decide) hb)
  have hdu := start_due HLs.out HC.out
  rw [HT.out] at hdu
  rw [hdu.1, hdu.2] at HDU
  clear hdu
  have HN : Hid (ntOf 2 1 1 2 1 L 0 = ⟨1, 2, 1, 1, 2, 1, 0, 2, 0, pcs L 0⟩ ∧ ntOf 2 1 1 2 1 L 1 = ⟨1, 2, 1, 1, 2, 1, 1, 2, 0, pcs L 1⟩) := by unfold Hid ntOf; rw [HT.out]; exact ⟨rfl, rfl⟩
  have HNL : Hid ((cutN 2 1 1 2 1 L).length = 2 ∧ (cutN 2 1 1 2 1 L)[0]? = some ⟨1, 2, 1, 1, 2, 1, 0, 2, 0, pcs L 0⟩ ∧ (cutN 2 1 1 2 1 L)[1]? = some ⟨1, 2, 1, 1, 2, 1, 1, 2, 0, pcs L 1⟩) := ⟨by rw [cutN_len]; exact HT.out, by rw [← HN.out.1]; exact cutN_at (by rw [HT.out]; decide), by rw [← HN.out.2]; exact cutN_at (by rw [HT.out]; decide)⟩
  have hR0 : Rst 2 1 1 2 1 L false zSg [] (List.replicate 2 false) := ⟨by rw [HT.out]; rfl, .inl ⟨rfl, rfl, rfl, rfl⟩⟩
  obtain ⟨hk1, hR1, hk3⟩ := hR0.take HC.out (i := 1) (by rw [HT.out]; decide)
  obtain ⟨hj1, hR2, hj3⟩ := hR1.take HC.out (i := 0) (by rw [HT.out]; decide)
  rw [HN.out.2] at hk1 hk3 hR1 hj1 hj3 hR2
  rw [HN.out.1] at hj1 hj3 hR2
  have hs1 : takS false zSg [] ⟨1, 2, 1, 1, 2, 1, 1, 2, 0, pcs L 1⟩ = ⟨2, 1, 2, 1, 1, 2⟩ := by
    rcases hR1.2 with ⟨h, _⟩ | ⟨_, h, _⟩
    · cases h
    · rw [h, HT.out]; rfl
  obtain ⟨P1, hP1⟩ : ∃ P1, takP false zSg [] ⟨1, 2, 1, 1, 2, 1, 1, 2, 0, pcs L 1⟩ = P1 := ⟨_, rfl⟩
  rw [hs1, hP1] at hj1 hj3 hR2
  rw [hs1, hP1] at hR1
  have hs2 : takS true ⟨2, 1, 2, 1, 1, 2⟩ P1 ⟨1, 2, 1, 1, 2, 1, 0, 2, 0, pcs L 0⟩ = ⟨2, 1, 2, 1, 1, 2⟩ := by
    rcases hR2.2 with ⟨h, _⟩ | ⟨_, h, _⟩
    · cases h
    · rw [h, HT.out]; rfl
  obtain ⟨P2, hP2⟩ : ∃ P2, takP true ⟨2, 1, 2, 1, 1, 2⟩ P1 ⟨1, 2, 1, 1, 2, 1, 0, 2, 0, pcs L 0⟩ = P2 := ⟨_, rfl⟩
  rw [hs2, hP2] at hR2
  obtain ⟨hw1, hw2, hw3⟩ := hR2.whole HLs.out HC.out
  have hsz : ∀ i, (pcs L i).size ≤ 9223372036854775807 := fun i => by rw [pcs_size]; omega
  have hlen1 : P1.length = 2 := by
    rcases hR1.2 with ⟨h, _⟩ | ⟨_, _, h, _⟩
    · cases h
    · rw [h, pie_len]; rfl
  have hlen2 : P2.length = 2 := by
    rcases hR2.2 with ⟨h, _⟩ | ⟨_, _, h, _⟩
    · cases h
    · rw [h, pie_len]; rfl
  have hpz : ∀ (C : List Bool) (P : List ByteArray) (on : Bool), Rst 2 1 1 2 1 L on ⟨2, 1, 2, 1, 1, 2⟩ P C → ∀ x ∈ P, x.size ≤ 9223372036854775807 := fun C P on h x hx => by
    rcases h.2 with ⟨_, h, _⟩ | ⟨_, _, h, _⟩
    · cases h
    · rw [h] at hx
      obtain ⟨i, _, rfl⟩ := List.mem_map.1 hx
      split
      · exact hsz i
      · decide
  have HTA := hide (fun (w' : World) (h : Er7 w' E) => take_any false 0 0 0 0 0 0 none 0 0 [] 1 2 1 1 2 1 1 2 0 (pcs L 1) h ⟨rfl, ⟨rfl, Nat.le_refl _, fun _ => ⟨rfl, rfl⟩, fun j v hv => by simp at hv⟩⟩ (fun x hx => by simp at hx) (hsz 1) (by decide) (by decide))
  rw [show (⟨0, 0, 0, 0, 0, 0⟩ : Sg) = zSg from rfl, hk1, hs1, hk3, hP1, HT.out] at HTA
  have HTB := hide (fun (w' : World) (h : Er7 w' E) (a : Option Addr) (c : Nat) (hp : Txs w' a 2 c P1) => take_any true 2 1 2 1 1 2 a 2 c P1 1 2 1 1 2 1 0 2 0 (pcs L 0) h hp (hpz _ _ _ hR1) (hsz 0) (by decide) (by decide))
  rw [hj1, hs2, hj3, hP2, HT.out] at HTB
  have HWH := hide (fun (w' : World) (h : Er7 w' E) (a : Option Addr) (c : Nat) (hp : Txs w' a 2 c P2) => rwhole_any true 2 1 2 1 1 2 a 2 c P2 h hp (hpz _ _ _ hR2))
  rw [hw1, hw2, hw3] at HWH
  have HP := hide (And.intro hlen1 hlen2)
  have hps1 : (pcs L 1).size = 2 := by rw [pcs_size, hLl]; decide
  have HE := hide he
  have HLL := hide hLl
  clear hLd hLl hR0 hk1 hR1 hk3 hj1 hR2 hj3 hs1 hP1 hs2 hP2 hw1 hw2 hw3 hsz hlen1 hlen2 hpz he
  go_enter Tryd.func9, Tryd.ntmps9
  go_upto_region 1 with fail
  go_wp2_with fail
  refine Calls.mono (HDA.out _) ?_
  rintro e w1 ⟨v, rfl, o1, b1⟩
  obtain ⟨da, dc, rfl, hb1⟩ := o1.bts' (by rw [HLL.out]; decide) HLs.out
  rw [HLL.out] at hb1 ⊢
  have HD := hide b1
  have HB := hide hb1
  clear o1 b1 hb1
  go_wp2_with fail
  refine Calls.mono (HST.out w1 (HE.out.below HD.out) da dc HB.out) ?_
  rintro e w2 ⟨v, rfl, o2, b2⟩
  rw [HSV.out.1, HSV.out.2.2, show erv E 0 = .nilIface from rfl]
  rw [HSV.out.2.1] at o2
  obtain ⟨aa, ac, rfl, hf2⟩ := o2.rcs
  rw [List.length_replicate] at hf2 ⊢
  unfold Sd.cells
  simp only
  obtain ⟨W3, hW3, B3, D3⟩ := box1 w2 [.int .i64 2, .int .i64 1, .int .i64 1, .int .i64 2, .int .i64 1, .string (str L), .slice aa 2 ac, .int .i64 0] 48
  obtain ⟨g, hgq⟩ : ∃ g, w2.heap.size = g := ⟨_, rfl⟩
  rw [hgq] at B3
  have HG := hide B3
  have HW3 := hide hW3
  have HGQ := hide hgq
  have HF := hide (hf2.below D3)
  replace HD := hide (chain (chain HD.out b2) D3)
  clear B3 D3 hW3 hgq o2 b2 hf2 HB HST HSV
  go_upto_region 2 with fail
  have hW3 := HW3.out
  have hgq := HGQ.out
  simp only [hW3, hgq]
  clear HW3 HGQ hW3 hgq
  have g0 := HG.out.cell 0 rfl
  have g1 := HG.out.cell 1 rfl
  have g2 := HG.out.cell 2 rfl
  have g3 := HG.out.cell 3 rfl
  have g4 := HG.out.cell 4 rfl
  have g5 := HG.out.cell 5 rfl
  have g6 := HG.out.cell 6 rfl
  have g7 := HG.out.cell 7 rfl
  go_upto_region 4 with fail
  go_wp2_with fail
  refine Calls.mono (HDU.out W3 (HE.out.below HD.out) aa ac HF.out) ?_
  rintro e w4 ⟨v, rfl, o4, b4⟩
  rw [show erv E 0 = .nilIface from rfl]
  obtain ⟨la, lc, rfl, hn4⟩ := o4.rcs
  rw [HNL.out.1] at hn4 ⊢
  replace HD := hide (chain HD.out b4)
  have HNR := hide hn4
  obtain ⟨lb, lo, rfl, hc1⟩ := hn4.at nt10 (by decide) HNL.out.2.2
  obtain ⟨lb', lo', hle, hc0⟩ := hn4.at nt10 (by decide) HNL.out.2.1
  simp only [Option.some.injEq, Addr.mk.injEq] at hle
  obtain ⟨rfl, rfl, -⟩ := hle
  have HL0 : Hid (w4.cell? ⟨lb, lo + 0, none⟩ = some (.int .i64 1) ∧ w4.cell? ⟨lb, lo + 1, none⟩ = some (.int .i64 2) ∧ w4.cell? ⟨lb, lo + 2, none⟩ = some (.int .i64 1) ∧ w4.cell? ⟨lb, lo + 3, none⟩ = some (.int .i64 1) ∧ w4.cell? ⟨lb, lo + 4, none⟩ = some (.int .i64 2) ∧ w4.cell? ⟨lb, lo + 5, none⟩ = some (.int .i64 1) ∧ w4.cell? ⟨lb, lo + 6, none⟩ = some (.int .i64 0) ∧ w4.cell? ⟨lb, lo + 7, none⟩ = some (.int .i64 2) ∧ w4.cell? ⟨lb, lo + 8, none⟩ = some (.int .u32 0) ∧ w4.cell? ⟨lb, lo + 9, none⟩ = some (.string (pcs L 0))) := ⟨hc0 0 _ rfl, hc0 1 _ rfl, hc0 2 _ rfl, hc0 3 _ rfl, hc0 4 _ rfl, hc0 5 _ rfl, hc0 6 _ rfl, hc0 7 _ rfl, hc0 8 _ rfl, hc0 9 _ rfl⟩
  have HL1 : Hid (w4.cell? ⟨lb, lo + 1 * 10 + 0, none⟩ = some (.int .i64 1) ∧ w4.cell? ⟨lb, lo + 1 * 10 + 1, none⟩ = some (.int .i64 2) ∧ w4.cell? ⟨lb, lo + 1 * 10 + 2, none⟩ = some (.int .i64 1) ∧ w4.cell? ⟨lb, lo + 1 * 10 + 3, none⟩ = some (.int .i64 1) ∧ w4.cell? ⟨lb, lo + 1 * 10 + 4, none⟩ = some (.int .i64 2) ∧ w4.cell? ⟨lb, lo + 1 * 10 + 5, none⟩ = some (.int .i64 1) ∧ w4.cell? ⟨lb, lo + 1 * 10 + 6, none⟩ = some (.int .i64 1) ∧ w4.cell? ⟨lb, lo + 1 * 10 + 7, none⟩ = some (.int .i64 2) ∧ w4.cell? ⟨lb, lo + 1 * 10 + 8, none⟩ = some (.int .u32 0) ∧ w4.cell? ⟨lb, lo + 1 * 10 + 9, none⟩ = some (.string (pcs L 1))) := ⟨hc1 0 _ rfl, hc1 1 _ rfl, hc1 2 _ rfl, hc1 3 _ rfl, hc1 4 _ rfl, hc1 5 _ rfl, hc1 6 _ rfl, hc1 7 _ rfl, hc1 8 _ rfl, hc1 9 _ rfl⟩
  clear o4 b4 hn4 hc1 hc0 g0 g1 g2 g3 g4 g5 g6 g7 HF HDU HNL
  obtain ⟨k0, k1, k2, k3, k4, k5, k6, k7, k8, k9⟩ := HL1.out
  go_upto_region 7 with fail
  go_wp2_with fail
  refine Calls.mono (HTA.out w4 (HE.out.below HD.out)) ?_
  rintro e w5 ⟨v, rfl, o5, b5⟩
  rw [show erv E 0 = .nilIface from rfl]
  simp only [decide_true]
  obtain ⟨pa, pc, rfl, hp5⟩ := o5.rcs
  rw [HP.out.1] at hp5 ⊢
  unfold Sg.cells Nt.cells
  simp only
  obtain ⟨W6, hW6, B6, B7, D6⟩ := box2 w5 [.bool true, .int .i64 2, .int .i64 1, .int .i64 2, .int .i64 1, .int .i64 1, .int .i64 2, .slice pa 2 pc] 78 [.int .i64 7, .int .i64 2, .int .i64 1, .int .i64 1, .int .i64 2, .int .i64 1, .int .i64 1, .int .i64 2, .int .u32 0, .string ⟨#[]⟩] 34
  obtain ⟨h, hgh⟩ : ∃ h, w5.heap.size = h := ⟨_, rfl⟩
  have HHQ : Hid (h + 1 = h + 1) := rfl
  rw [hgh] at B6 B7
  have HR := hide B6
  have HA := hide B7
  have HW6 := hide hW6
  have HGH := hide hgh
  have HPP := hide (hp5.below D6)
  have HWD : Hid (w.heap.size ≤ h) := by
    rw [← hgh]
    exact (chain HD.out b5).size
  have hb46 := b5.trans (D6.mono b5.size)
  replace HD := hide (chain (chain HD.out b5) D6)
  have HL0' : Hid (W6.cell? ⟨lb, lo + 0, none⟩ = some (.int .i64 1) ∧ W6.cell? ⟨lb, lo + 1, none⟩ = some (.int .i64 2) ∧ W6.cell? ⟨lb, lo + 2, none⟩ = some (.int .i64 1) ∧ W6.cell? ⟨lb, lo + 3, none⟩ = some (.int .i64 1) ∧ W6.cell? ⟨lb, lo + 4, none⟩ = some (.int .i64 2) ∧ W6.cell? ⟨lb, lo + 5, none⟩ = some (.int .i64 1) ∧ W6.cell? ⟨lb, lo + 6, none⟩ = some (.int .i64 0) ∧ W6.cell? ⟨lb, lo + 7, none⟩ = some (.int .i64 2) ∧ W6.cell? ⟨lb, lo + 8, none⟩ = some (.int .u32 0) ∧ W6.cell? ⟨lb, lo + 9, none⟩ = some (.string (pcs L 0))) := by
    obtain ⟨m0, m1, m2, m3, m4, m5, m6, m7, m8, m9⟩ := HL0.out
    exact ⟨cell_below m0 hb46, cell_below m1 hb46, cell_below m2 hb46, cell_below m3 hb46, cell_below m4 hb46, cell_below m5 hb46, cell_below m6 hb46, cell_below m7 hb46, cell_below m8 hb46, cell_below m9 hb46⟩
  clear B6 B7 D6 hW6 hgh o5 b5 hp5 hb46 k0 k1 k2 k3 k4 k5 k6 k7 k8 k9 HL1 HL0 HTA HNR
  go_upto_region 8 with fail
  have hW6 := HW6.out
  have hgh := HGH.out
  simp only [hW6, hgh]
  clear HW6 HGH hW6 hgh
  have a0 := HA.out.cell 0 rfl
  have a6 := HA.out.cell 6 rfl
  go_upto_region 10 with fail
  clear a0 a6
  go_cut [2] from 70 to 78 (fun v wz => v = .nilIface ∧ ∃ qa qc, Hid (Bk wz h [.bool true, .int .i64 2, .int .i64 1, .int .i64 2, .int .i64 1, .int .i64 1, .int .i64 2, .slice qa 2 qc] 78) ∧ Hid (Txs wz qa 2 qc P2) ∧ Hid (Below w.heap.size w wz))
  case first =>
    have HRd := hide (HR.out.below (Below.refl _ W6).drew)
    have HPd := hide (HPP.out.below (Below.refl _ W6).drew)
    have HDd := hide HD.out.drew
    have HEd := hide (HE.out.below HDd.out)
    have HL0d : Hid (W6.drew.cell? ⟨lb, lo + 0, none⟩ = some (.int .i64 1) ∧ W6.drew.cell? ⟨lb, lo + 1, none⟩ = some (.int .i64 2) ∧ W6.drew.cell? ⟨lb, lo + 2, none⟩ = some (.int .i64 1) ∧ W6.drew.cell? ⟨lb, lo + 3, none⟩ = some (.int .i64 1) ∧ W6.drew.cell? ⟨lb, lo + 4, none⟩ = some (.int .i64 2) ∧ W6.drew.cell? ⟨lb, lo + 5, none⟩ = some (.int .i64 1) ∧ W6.drew.cell? ⟨lb, lo + 6, none⟩ = some (.int .i64 0) ∧ W6.drew.cell? ⟨lb, lo + 7, none⟩ = some (.int .i64 2) ∧ W6.drew.cell? ⟨lb, lo + 8, none⟩ = some (.int .u32 0) ∧ W6.drew.cell? ⟨lb, lo + 9, none⟩ = some (.string (pcs L 0))) := HL0'.out
    have r0 := HR.out.cell 0 rfl
    have r1 := HR.out.cell 1 rfl
    have r2 := HR.out.cell 2 rfl
    have r3 := HR.out.cell 3 rfl
    have r4 := HR.out.cell 4 rfl
    have r5 := HR.out.cell 5 rfl
    have r6 := HR.out.cell 6 rfl
    have r7 := HR.out.cell 7 rfl
    obtain ⟨m0, m1, m2, m3, m4, m5, m6, m7, m8, m9⟩ := HL0'.out
    rw [Nat.add_zero] at m0
    go_region_with (first | (go_at_call 29; refine Calls.mono (HTB.out _ HEd.out pa pc HPd.out) ?_; rintro e w7 ⟨v, rfl, o7, b7⟩; rw [show erv E 0 = .nilIface from rfl]; simp only [decide_true]; obtain ⟨qa, qc, rfl, hq7⟩ := o7.rcs; rw [HP.out.2] at o7 ⊢; unfold Sg.cells Nt.cells; simp only; have HQ7 := hide o7; have HR7 := hide (HRd.out.below b7); have HD7 := hide (chain HDd.out b7); clear o7 b7 hq7; have y0 := HR7.out.cell 0 rfl; have z0 := HR7.out.frozen 0; have y1 := HR7.out.cell 1 rfl; have z1 := HR7.out.frozen 1; have y2 := HR7.out.cell 2 rfl; have z2 := HR7.out.frozen 2; have y3 := HR7.out.cell 3 rfl; have z3 := HR7.out.frozen 3; have y4 := HR7.out.cell 4 rfl; have z4 := HR7.out.frozen 4; have y5 := HR7.out.cell 5 rfl; have z5 := HR7.out.frozen 5; have y6 := HR7.out.cell 6 rfl; have z6 := HR7.out.frozen 6; have y7 := HR7.out.cell 7 rfl; have z7 := HR7.out.frozen 7) | fail)
    all_goals
      have Q1 := hide (HR7.out.sets [.bool true, .int .i64 2, .int .i64 1, .int .i64 2, .int .i64 1, .int .i64 1, .int .i64 2, .slice qa 2 qc] rfl)
      have Q2 := hide (own_rcs (LOwn.fars (HQ7.out.off (show h < W6.drew.heap.size from HR.out.lt)) [.bool true, .int .i64 2, .int .i64 1, .int .i64 2, .int .i64 1, .int .i64 1, .int .i64 2, .slice qa 2 qc] 0 HQ7.out))
      have Q3 := hide (below_sets HWD.out [.bool true, .int .i64 2, .int .i64 1, .int .i64 2, .int .i64 1, .int .i64 1, .int .i64 2, .slice qa 2 qc] 0 HD7.out)
      clear y0 z0 y1 z1 y2 z2 y3 z3 y4 z4 y5 z5 y6 z6 y7 z7 r0 r1 r2 r3 r4 r5 r6 r7 m0 m1 m2 m3 m4 m5 m6 m7 m8 m9
      go_wp2
      go_meet
      case rel => exact ⟨rfl, qa, qc, Q1.out, Q2.out, Q3.out⟩
  case rest =>
    obtain ⟨rfl, qa, qc, HR9, HP9, HD9⟩ := hcut
    have r0 := HR9.out.cell 0 rfl
    have r1 := HR9.out.cell 1 rfl
    have r2 := HR9.out.cell 2 rfl
    have r3 := HR9.out.cell 3 rfl
    have r4 := HR9.out.cell 4 rfl
    have r5 := HR9.out.cell 5 rfl
    have r6 := HR9.out.cell 6 rfl
    have r7 := HR9.out.cell 7 rfl
    go_upto_region 13 with fail
    go_wp2_with fail
    refine Calls.mono (HWH.out _ (HE.out.below HD9.out) qa qc HP9.out) ?_
    rintro e w10 ⟨v, n', c', rfl, hb, b10⟩
    rw [show erv E 0 = .nilIface from rfl, show (((List.replicate 2 false).set 1 true).set 0 true).all id = true from rfl]
    rw [if_pos (show (((List.replicate 2 false).set 1 true).set 0 true).all id = true from rfl)] at hb
    have HB := hide hb
    have HD10 := hide (chain HD9.out b10)
    clear hb b10 r0 r1 r2 r3 r4 r5 r6 r7 HR9 HP9 HD9 HWH HTB
    go_upto_region 14 with fail
    have S1 := hide (bts_string (HB.out.below (Below.refl _ w10).drew))
    have HB' := hide (HB.out.below (Below.refl _ w10).drew)
    have HD' := hide HD10.out.drew
    refine wp_region_held_drew (S := fun wz => (convert 66 9 (.slice v n' c')).run Tryd.prog wz = .ok (.string (str L)) wz) (by kernel_rfl) S1.out (fun hHeld => ?_)
    refine wpAnyH_take (i := 0) (oi := { dst := some 87, op := Go.Op.move (Go.Operand.tmp 2), type := 52, pos := "law.go:68", after := #[], guard := none }) (v := ?_) rfl (by kernel_rfl) (by kernel_rfl) (by kernel_rfl) (fun _ _ _ h => h) (Or.inl ⟨by rfl, ?_⟩) (by assumption) ?_
    rotate_left
    · intro w hSw
      try dsimp only at hSw
      go_simp
      try with_reducible rfl
    simp only [Act.put, List.setIfInBounds_toArray, List.set_cons_zero, List.set_cons_succ]
    refine wpAnyH_take (i := 1) (oi := { dst := some 88, op := Go.Op.binOp Go.BinOp.eql 52 (Go.Operand.tmp 87) (Go.Operand.const Go.Value.nilIface) 52, type := 4, pos := "law.go:68", after := #[{ on := 0, ground := Go.Ground.data }], guard := none }) (v := ?_) rfl (by kernel_rfl) (by kernel_rfl) (by kernel_rfl) (fun _ _ _ h => h) (Or.inl ⟨by rfl, ?_⟩) (by assumption) ?_
    rotate_left
    · intro w hSw
      try dsimp only at hSw
      go_simp
      try with_reducible rfl
    simp only [Act.put, List.setIfInBounds_toArray, List.set_cons_zero, List.set_cons_succ]
    refine wpAnyH_take (i := 2) (oi := { dst := some 89, op := Go.Op.move (Go.Operand.tmp 88), type := 4, pos := "law.go:68", after := #[{ on := 1, ground := Go.Ground.data }], guard := none }) (v := ?_) rfl (by kernel_rfl) (by kernel_rfl) (by kernel_rfl) (fun _ _ _ h => h) (Or.inl ⟨by rfl, ?_⟩) (by assumption) ?_
    rotate_left
    · intro w hSw
      try dsimp only at hSw
      go_simp
      try with_reducible rfl
    simp only [Act.put, List.setIfInBounds_toArray, List.set_cons_zero, List.set_cons_succ]
    refine wpAnyH_take (i := 3) (oi := { dst := some 90, op := Go.Op.move (Go.Operand.tmp 7), type := 4, pos := "law.go:68", after := #[{ on := 2, ground := Go.Ground.guard }], guard := some (2, true) }) (v := ?_) rfl (by kernel_rfl) (by kernel_rfl) (by kernel_rfl) (fun _ _ _ h => h) (Or.inl ⟨by rfl, ?_⟩) (by assumption) ?_
    rotate_left
    · intro w hSw
      try dsimp only at hSw
      go_simp
      try with_reducible rfl
    simp only [Act.put, List.setIfInBounds_toArray, List.set_cons_zero, List.set_cons_succ]
    refine wpAnyH_take (i := 4) (oi := { dst := some 91, op := Go.Op.pick (Go.Operand.tmp 89) (Go.Operand.tmp 90) (Go.Operand.const (Go.Value.bool false)), type := 4, pos := "law.go:68", after := #[{ on := 2, ground := Go.Ground.data }, { on := 3, ground := Go.Ground.data }], guard := none }) (v := ?_) rfl (by kernel_rfl) (by kernel_rfl) (by kernel_rfl) (fun _ _ _ h => h) (Or.inl ⟨by rfl, ?_⟩) (by assumption) ?_
    rotate_left
    · intro w hSw
      try dsimp only at hSw
      go_simp
      try with_reducible rfl
    simp only [Act.put, List.setIfInBounds_toArray, List.set_cons_zero, List.set_cons_succ]
    refine wpAnyH_take (i := 5) (oi := { dst := some 92, op := Go.Op.move (Go.Operand.tmp 91), type := 4, pos := "law.go:68", after := #[{ on := 4, ground := Go.Ground.data }, { on := 2, ground := Go.Ground.chain }], guard := none }) (v := ?_) rfl (by kernel_rfl) (by kernel_rfl) (by kernel_rfl) (fun _ _ _ h => h) (Or.inl ⟨by rfl, ?_⟩) (by assumption) ?_
    rotate_left
    · intro w hSw
      try dsimp only at hSw
      go_simp
      try with_reducible rfl
    simp only [Act.put, List.setIfInBounds_toArray, List.set_cons_zero, List.set_cons_succ]
    refine wpAnyH_take (i := 6) (oi := { dst := some 93, op := Go.Op.move (Go.Operand.tmp 6), type := 66, pos := "law.go:68", after := #[{ on := 5, ground := Go.Ground.guard }], guard := some (5, true) }) (v := ?_) rfl (by kernel_rfl) (by kernel_rfl) (by kernel_rfl) (fun _ _ _ h => h) (Or.inl ⟨by rfl, ?_⟩) (by assumption) ?_
    rotate_left
    · intro w hSw
      try dsimp only at hSw
      go_simp
      try with_reducible rfl
    simp only [Act.put, List.setIfInBounds_toArray, List.set_cons_zero, List.set_cons_succ]
    refine wpAnyH_take (i := 7) (oi := { dst := some 94, op := Go.Op.convert 66 9 (Go.Operand.tmp 93), type := 9, pos := "law.go:68", after := #[{ on := 6, ground := Go.Ground.data }, { on := 5, ground := Go.Ground.guard }], guard := some (5, true) }) (v := ?_) rfl (by kernel_rfl) (by kernel_rfl) (by kernel_rfl) (fun _ _ _ h => h) (Or.inl ⟨by rfl, ?_⟩) (by assumption) ?_
    rotate_left
    · intro w hSw
      try dsimp only at hSw
      go_simp
      try with_reducible rfl
    simp only [Act.put, List.setIfInBounds_toArray, List.set_cons_zero, List.set_cons_succ]
    refine wpAnyH_ready (rs := [8]) (by kernel_rfl) (by simp) ?_
    refine AllReadyH.cons (o := { dst := some 95, op := Go.Op.call { callee := Go.Callee.value (Go.Operand.func 36), args := #[Go.Operand.const (Go.Value.int Go.IntKind.i64 130)], argTypes := #[3] }, type := 66, pos := "law.go:68", after := #[{ on := 5, ground := Go.Ground.chain }, { on := 5, ground := Go.Ground.guard }], guard := some (5, true) }) rfl (fun K hK => ?_) AllReadyH.nil
    go_simp
    go_at_call 36
    refine Calls.mono (HDA.out _) ?_
    rintro e w11 ⟨v', rfl, o11, b11⟩
    obtain ⟨da', dc', rfl, hb11⟩ := o11.bts' (by rw [HLL.out]; decide) HLs.out
    rw [HLL.out] at hb11 ⊢
    have S2 := hide (bts_string (HB'.out.below b11))
    have s3 := bts_string hb11
    have HD11 := hide (chain HD'.out b11)
    clear o11 b11 hb11
    try go_wp2_with fail
    refine hK.out _ _ S2.out (fun hHeld2 => ?_)
    clear hK K hHeld
    try simp only [Act.put, List.setIfInBounds_toArray, List.set_cons_zero, List.set_cons_succ]
    refine wpAnyH_ready (rs := [9]) (by kernel_rfl) (by simp) ?_
    refine AllReadyH.cons (o := { dst := some 96, op := Go.Op.convert 66 9 (Go.Operand.tmp 95), type := 9, pos := "law.go:68", after := #[{ on := 8, ground := Go.Ground.data }, { on := 5, ground := Go.Ground.guard }], guard := some (5, true) }) rfl (fun K hK => ?_) AllReadyH.nil
    go_simp
    refine hK.out _ _ S2.out (fun hHeld3 => ?_)
    clear hK K hHeld2
    try simp only [Act.put, List.setIfInBounds_toArray, List.set_cons_zero, List.set_cons_succ]
    refine wpAnyH_take (i := 10) (oi := { dst := some 97, op := Go.Op.binOp Go.BinOp.eql 9 (Go.Operand.tmp 94) (Go.Operand.tmp 96) 9, type := 4, pos := "law.go:68", after := #[{ on := 7, ground := Go.Ground.data }, { on := 9, ground := Go.Ground.data }, { on := 5, ground := Go.Ground.guard }], guard := some (5, true) }) (v := ?_) rfl (by kernel_rfl) (by kernel_rfl) (by kernel_rfl) (fun _ _ _ h => h) (Or.inl ⟨by rfl, ?_⟩) (by assumption) ?_
    rotate_left
    · intro w hSw
      try dsimp only at hSw
      go_simp
      try with_reducible rfl
    simp only [Act.put, List.setIfInBounds_toArray, List.set_cons_zero, List.set_cons_succ]
    refine wpAnyH_take (i := 11) (oi := { dst := some 98, op := Go.Op.pick (Go.Operand.tmp 92) (Go.Operand.tmp 97) (Go.Operand.const (Go.Value.bool false)), type := 4, pos := "law.go:68", after := #[{ on := 5, ground := Go.Ground.data }, { on := 10, ground := Go.Ground.data }], guard := none }) (v := ?_) rfl (by kernel_rfl) (by kernel_rfl) (by kernel_rfl) (fun _ _ _ h => h) (Or.inl ⟨by rfl, ?_⟩) (by assumption) ?_
    rotate_left
    · intro w hSw
      try dsimp only at hSw
      go_simp
      try with_reducible rfl
    simp only [Act.put, List.setIfInBounds_toArray, List.set_cons_zero, List.set_cons_succ]
    refine wpAnyH_take (i := 12) (oi := { dst := some 0, op := Go.Op.assign (Go.Operand.tmp 98), type := 4, pos := "law.go:68", after := #[{ on := 11, ground := Go.Ground.data }, { on := 8, ground := Go.Ground.chain }, { on := 0, ground := Go.Ground.phase }, { on := 1, ground := Go.Ground.phase }, { on := 2, ground := Go.Ground.phase }, { on := 3, ground := Go.Ground.phase }, { on := 4, ground := Go.Ground.phase }, { on := 5, ground := Go.Ground.phase }, { on := 6, ground := Go.Ground.phase }, { on := 7, ground := Go.Ground.phase }, { on := 8, ground := Go.Ground.phase }, { on := 9, ground := Go.Ground.phase }, { on := 10, ground := Go.Ground.phase }, { on := 11, ground := Go.Ground.phase }], guard := none }) (v := ?_) rfl (by kernel_rfl) (by kernel_rfl) (by kernel_rfl) (fun _ _ _ h => h) (Or.inl ⟨by rfl, ?_⟩) (by assumption) ?_
    rotate_left
    · intro w hSw
      try dsimp only at hSw
      go_simp
      try with_reducible rfl
    simp only [Act.put, List.setIfInBounds_toArray, List.set_cons_zero, List.set_cons_succ]
    refine wpAnyH_done (by kernel_rfl) ?_ _
    go_wp2
    go_ret
    exact ⟨rfl, HD11.out⟩
end Go.Proofs.YtnopclacchoijaaDoor
