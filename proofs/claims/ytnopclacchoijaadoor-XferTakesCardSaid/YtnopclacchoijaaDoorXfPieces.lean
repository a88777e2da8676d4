/-
  The program's pieces and Due.
-/
import Derived.Test.YtnopclacchoijaaDoorXfSend
namespace Go.Proofs.YtnopclacchoijaaDoor
open Go.RowKit FerryCrc
set_option linter.unusedVariables false
set_option linter.unusedSimpArgs false

/-- The bytes of a text, laid anew. -/
theorem conv_lay (w : World) (S : ByteArray) (n : Nat) (hn : S.size = n) (hm : n ≤ 140737488351232) : ∃ c w', (convert 9 66 (.string S)).run Tryd.prog w = .ok (.slice (some ⟨w.heap.size, 0, none⟩) n c) w' ∧ Bts w' (some ⟨w.heap.size, 0, none⟩) n c (bytesOf S) ∧ Below w.heap.size w w' := by
  subst hn
  refine ⟨_, _, run_bytes_of_string (P := Tryd.prog) w 9 66 5 S Tryd.underlying9 Tryd.underlying66 Tryd.underlying5, ?_, ?_⟩
  · refine Bts.below (w := w.alloc _) ?_ ((Below.refl _ _).drew)
    refine ⟨bytesOf_len S, by omega, grownCap_ge _ _ _ _, bytesOf_lt S, fun e => by simp at e, fun k hk => ⟨_, _, rfl, (S.data[k]'hk).toNat, ?_, ?_⟩⟩
    · unfold bytesOf
      rw [List.getElem?_map, Array.getElem?_toList, Array.getElem?_eq_getElem hk]
      rfl
    · rw [Nat.zero_add, cell_of_row _ _ k _ _ _ (heap_alloc_new _ _)]
      exact bytesRow_at S _ k hk
  · exact ((Below.refl _ _).alloc (Nat.le_refl _) _).drew
def pieE (s : Sd) (fn : Nat) : Nat := if cutE s.part s.boot s.peer s.num s.stage s.image.size = 0 ∧ fn = tot (bytesOf s.image) ∧ 0 ≤ s.rounds then 0 else 9
def pieL (s : Sd) (fn : Nat) : List Nt := if pieE s fn = 0 then cutN s.part s.boot s.peer s.num s.stage (bytesOf s.image) else []

set_option maxRecDepth 100000 in
set_option maxHeartbeats 2000000 in
theorem pieces_any (s : Sd) (fa : Option Addr) (fn fc : Nat) {w : World} {E : Nat → Addr} (he : Er7 w E) (him : s.image.size ≤ 140737488351232) :
    Calls Tryd.prog 40 #[.agg (s.cells (.slice fa fn fc)).toArray] w fun e w' => ∃ v, e = .returned (.tuple #[v, erv E (pieE s fn)]) ∧ NOwn w' w.heap.size v (pieL s fn) ∧ Below w.heap.size w w' := by
  obtain ⟨pt, b, r, m, st, im, rd⟩ := s
  obtain ⟨R, hR⟩ : ∃ R, pieE ⟨pt, b, r, m, st, im, rd⟩ fn = R := ⟨_, rfl⟩
  obtain ⟨V, hV⟩ : ∃ V, pieL ⟨pt, b, r, m, st, im, rd⟩ fn = V := ⟨_, rfl⟩
  rw [hR, hV]
  have HV : Hid (V = if R = 0 then cutN pt b r m st (bytesOf im) else []) := by rw [← hV, ← hR]; rfl
  have HR : Hid (R = if cutE pt b r m st im.size = 0 ∧ fn = tot (bytesOf im) ∧ 0 ≤ rd then 0 else 9) := by rw [← hR]; rfl
  clear hR hV
  unfold Sd.cells
  simp only
  replace him : im.size ≤ 140737488351232 := him
  obtain ⟨W, hW⟩ : ∃ W, w.alloc (.cells #[.int .i64 pt, .int .i64 b, .int .i64 r, .int .i64 m, .int .i64 st, .string im, .slice fa fn fc, .int .i64 rd] 48) = W := ⟨_, rfl⟩
  have D0 := (Below.refl w.heap.size w).alloc (Nat.le_refl _) (.cells #[.int .i64 pt, .int .i64 b, .int .i64 r, .int .i64 m, .int .i64 st, .string im, .slice fa fn fc, .int .i64 rd] 48)
  have B0 := Bk.new w [.int .i64 pt, .int .i64 b, .int .i64 r, .int .i64 m, .int .i64 st, .string im, .slice fa fn fc, .int .i64 rd] 48
  rw [show ([.int .i64 pt, .int .i64 b, .int .i64 r, .int .i64 m, .int .i64 st, .string im, .slice fa fn fc, .int .i64 rd] : List Value).toArray = #[.int .i64 pt, .int .i64 b, .int .i64 r, .int .i64 m, .int .i64 st, .string im, .slice fa fn fc, .int .i64 rd] from rfl] at B0
  rw [hW] at D0 B0
  obtain ⟨n, hn⟩ : ∃ n, im.size = n := ⟨_, rfl⟩
  obtain ⟨c1, w1, hrun, hs1, b1⟩ := conv_lay W im n hn (hn ▸ him)
  have HB0 := hide (B0.below b1)
  have HD := hide (chain D0 b1)
  have HE := hide (he.below HD.out)
  have HS := hide hs1
  have g0 := B0.cell 0 rfl
  have g1 := B0.cell 1 rfl
  have g2 := B0.cell 2 rfl
  have g3 := B0.cell 3 rfl
  have g4 := B0.cell 4 rfl
  have g5 := B0.cell 5 rfl
  have HC1 := hide cut_any
  have HWD := hide hW
  have HRU := hide hrun
  have HNN := hide hn
  have HGG := hide (And.intro g0 (And.intro g1 (And.intro g2 (And.intro g3 (And.intro g4 g5)))))
  clear hs1 b1 D0 B0 hW he him hrun hn g0 g1 g2 g3 g4 g5
  go_enter Tryd.func40, Tryd.ntmps40
  go_upto_region 1 with fail
  have hW := HWD.out
  clear HWD
  simp only [hW]
  clear hW
  have hrun := HRU.out
  clear HRU
  obtain ⟨g0, g1, g2, g3, g4, g5⟩ := HGG.out
  clear HGG
  go_wp2_with fail
  refine Calls.mono (HC1.out pt b r m st _ n c1 _ HE.out HS.out) ?_
  rintro e w2 ⟨v, rfl, o2, b2⟩
  have HO := hide o2
  replace HB0 := hide (HB0.out.below b2)
  have HD2 := hide (chain HD.out b2)
  replace HE := hide (HE.out.below b2)
  clear hrun g0 g1 g2 g3 g4 g5 b2 o2
  have e9 := HE.out.v9
  unfold sent at e9
  have g6 := HB0.out.cell 6 rfl
  have g7 := HB0.out.cell 7 rfl
  have hbl := bytesOf_len im
  rw [HNN.out] at hbl
  obtain ⟨av, cv, rfl, -⟩ := HO.out.rcs
  obtain ⟨t, ht⟩ : ∃ t, (cutL pt b r m st (bytesOf im)).length = t := ⟨_, rfl⟩
  rw [ht]
  by_cases hk : cutE pt b r m st n = 0
  · have HT : Hid (tot (bytesOf im) = t) := by rw [← ht]; exact (cutL_len (by rw [hbl]; exact hk)).symm
    rw [hk]
    rw [show erv E 0 = .nilIface from rfl]
    by_cases hf : fn = t
    · subst hf
      by_cases hrd : rd < 0
      · have HC : Hid (R = 9) := by rw [HR.out]; exact if_neg (fun h => by omega)
        go_wp2_with fail
        go_quiet (fail)
        go_wp2
        go_ret2
        exact ⟨_, by rw [HC.out]; rfl, by rw [HV.out, HC.out]; exact World.ownsRow_nil _ _ _ _, ⟨HD2.out.os, HD2.out.tape, HD2.out.output, HD2.out.size, HD2.out.block⟩⟩
      · have HC : Hid (R = 0) := by rw [HR.out]; exact if_pos ⟨by rw [HNN.out]; exact hk, HT.out.symm, by omega⟩
        go_wp2
        go_ret2
        refine ⟨_, by rw [HC.out]; rfl, ?_, HD2.out⟩
        have h1 := HO.out
        rw [HV.out, HC.out]
        unfold cutL at h1 ht
        rw [hbl, if_pos hk] at h1 ht
        rw [ht] at h1
        exact h1.weaken HD.out.size
    · have hq : ((fn : Int) == (t : Int)) = false := by simp; omega
      have HC : Hid (R = 9) := by rw [HR.out]; exact if_neg (fun h => hf (by rw [← HT.out]; exact h.2.1))
      clear ht
      go_wp2_with fail
      go_quiet (fail)
      go_wp2
      go_ret2
      exact ⟨_, by rw [HC.out]; rfl, by rw [HV.out, HC.out]; exact World.ownsRow_nil _ _ _ _, ⟨HD2.out.os, HD2.out.tape, HD2.out.output, HD2.out.size, HD2.out.block⟩⟩
  · have HN : Hid (erv E (cutE pt b r m st n) = sent (E (cutE pt b r m st n))) := if_neg hk
    have HC : Hid (R = 9) := by rw [HR.out]; exact if_neg (fun h => hk (by rw [← HNN.out]; exact h.1))
    rw [HN.out]
    unfold sent
    generalize E (cutE pt b r m st n) = ek
    clear ht hk
    go_wp2_with fail
    go_quiet (fail)
    go_wp2
    go_ret2
    exact ⟨_, by rw [HC.out]; rfl, by rw [HV.out, HC.out]; exact World.ownsRow_nil _ _ _ _, ⟨HD2.out.os, HD2.out.tape, HD2.out.output, HD2.out.size, HD2.out.block⟩⟩
end Go.Proofs.YtnopclacchoijaaDoor
