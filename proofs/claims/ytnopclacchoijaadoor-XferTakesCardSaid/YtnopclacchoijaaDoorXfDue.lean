/-
  The program's Due.
-/
import Derived.Test.YtnopclacchoijaaDoorXfPieces
namespace Go.Proofs.YtnopclacchoijaaDoor
open Go.RowKit FerryCrc
set_option linter.unusedVariables false
set_option linter.unusedSimpArgs false

theorem fl_snoc {α : Type} (f : α → List Value) (l : List α) (x : α) : (l ++ [x]).flatMap f = l.flatMap f ++ f x := by simp
/-- append of one record that lies in a block of its own, to a list of the call's own. -/
theorem append_l {α : Type} {f : α → List Value} {sz byt : Nat} (hf : ∀ x, (f x).length = sz) (h0 : 0 < sz) (z : α) {t e : TypeId} (ht : Tryd.prog.underlying t = some (.slice e)) (hinfo : (Tryd.prog.info? e).map (fun i => (i.size, i.bytes, i.zero.map (·.cells))) = some (sz, byt, some (f z).toArray))
    {w : World} {ops : Array Oper} {rest : List Oper} {o : Oper} {act : Act} {Q : Exit → Act → World → Prop} (hgd : o.guard = none) (s y : Operand)
    (ho : o.op = .call { callee := .builtin .append, args := #[s, y], argTypes := #[t, t] })
    (base : Nat) (v : Value) (xs : List α) (hs : act.eval s = v) (hown : LOwn f sz e w base v xs)
    (g c : Nat) (x : α) (hx : act.eval y = .slice (some ⟨g, 0, none⟩) 1 c) (one : ∀ u ∈ f x, u.oneCell' = true) (hc : ∀ j u, (f x)[j]? = some u → w.cell? ⟨g, j, none⟩ = some u)
    (h63 : xs.length < 4294967296) (hby : (xs.length + 1) * byt ≤ 140737488355328) (hbase : base ≤ w.heap.size)
    (h : ∀ v' w', LOwn f sz e w' base v' (xs ++ [x]) → w.grownBy w' v.ownBlock → wpList Tryd.prog ops Q rest (act.put o.dst v') w') : wpList Tryd.prog ops Q (o :: rest) act w := by
  obtain ⟨i, zz, hi, hz, hsz, hb, hzc⟩ := info_open hinfo
  refine wpList_append_own w hgd s y t ho base e i zz sz byt ht hi hz hsz hb (by rw [hzc]; simp [hf]) h0 v xs.length (xs.flatMap f) hs hown ⟨g, 0, none⟩ 1 c (f x) hx (by rw [hf]; simp) ?_ one (by unfold maxLen; omega) hby hbase ?_
  · intro j u hu
    rw [add_none, Nat.zero_add]
    exact hc j u hu
  · intro v' w' h1 h2 h3
    refine h v' w' ?_ h2
    unfold LOwn
    rw [List.length_append, fl_snoc]
    exact h1
theorem nt_one (x : Nt) : ∀ u ∈ x.cells, u.oneCell' = true := by
  intro u hu
  simp only [Nt.cells, List.mem_cons, List.not_mem_nil, or_false] at hu
  rcases hu with rfl | rfl | rfl | rfl | rfl | rfl | rfl | rfl | rfl | rfl <;> rfl
/-- The notes whose mark is not set. -/
def dueN (N : List Nt) (F : List Bool) : List Nt := ((N.zip F).filter (fun p => !p.2)).map (·.1)
theorem dueN_len (N : List Nt) (F : List Bool) : (dueN N F).length ≤ N.length := by
  unfold dueN
  rw [List.length_map]
  refine Nat.le_trans (List.length_filter_le _ _) ?_
  rw [List.length_zip]
  exact Nat.min_le_left _ _
theorem dueN_step {N : List Nt} {F : List Bool} {k : Nat} {x : Nt} {y : Bool} (hx : N[k]? = some x) (hy : F[k]? = some y) : dueN (N.take (k + 1)) (F.take (k + 1)) = dueN (N.take k) (F.take k) ++ (if y then [] else [x]) := by
  have h1 := (List.getElem?_eq_some_iff.1 hx).1
  have h2 := (List.getElem?_eq_some_iff.1 hy).1
  unfold dueN
  rw [List.take_add_one, List.take_add_one, hx, hy]
  rw [show (some x).toList = [x] from rfl, show (some y).toList = [y] from rfl]
  rw [List.zip_append (by rw [List.length_take, List.length_take]; omega), List.filter_append, List.map_append]
  cases y <;> rfl
def dueL (s : Sd) (F : List Bool) : List Nt := dueN (pieL s F.length) F

set_option maxRecDepth 100000 in
set_option maxHeartbeats 4000000 in
theorem due_any (s : Sd) (fa : Option Addr) (fn fc : Nat) (F : List Bool) {w : World} {E : Nat → Addr} (he : Er7 w E) (him : s.image.size ≤ 140737488351232) (hF : Fls w fa fn fc F) :
    Calls Tryd.prog 17 #[.agg (s.cells (.slice fa fn fc)).toArray] w fun e w' => ∃ v, e = .returned (.tuple #[v, erv E (pieE s fn)]) ∧ NOwn w' w.heap.size v (dueL s F) ∧ Below w.heap.size w w' := by
  have hFs := hF.size
  obtain ⟨R, hR⟩ : ∃ R, pieE s fn = R := ⟨_, rfl⟩
  obtain ⟨N, hN⟩ : ∃ N, pieL s fn = N := ⟨_, rfl⟩
  have HP := hide (fun (w' : World) (h : Er7 w' E) => pieces_any s fa fn fc h him)
  have HV : Hid (dueL s F = dueN N F) := by unfold Hid dueL; rw [hFs, hN]
  have HNL : Hid (R = 0 → N.length = fn ∧ fn ≤ 32) := fun h0 => by
    rw [← hR] at h0
    have h1 : cutE s.part s.boot s.peer s.num s.stage s.image.size = 0 ∧ fn = tot (bytesOf s.image) ∧ 0 ≤ s.rounds := by
      unfold pieE at h0
      split at h0
      · assumption
      · cases h0
    rw [← hN]
    unfold pieL
    rw [if_pos h0, cutN_len]
    have h2 := (cutE_ok h1.1).2
    refine ⟨h1.2.1.symm, ?_⟩
    rw [h1.2.1]
    unfold tot
    rw [bytesOf_len]
    omega
  have HN0 : Hid (R ≠ 0 → N = []) := fun h0 => by rw [← hN]; unfold pieL; rw [if_neg (by rw [hR]; exact h0)]
  rw [hR, hN] at HP
  rw [hR]
  clear hR hN
  obtain ⟨pt, b, r, m, st, im, rd⟩ := s
  unfold Sd.cells at *
  simp only at *
  obtain ⟨W, hW⟩ : ∃ W, w.alloc (.cells #[.int .i64 pt, .int .i64 b, .int .i64 r, .int .i64 m, .int .i64 st, .string im, .slice fa fn fc, .int .i64 rd] 48) = W := ⟨_, rfl⟩
  have D0 := (Below.refl w.heap.size w).alloc (Nat.le_refl _) (.cells #[.int .i64 pt, .int .i64 b, .int .i64 r, .int .i64 m, .int .i64 st, .string im, .slice fa fn fc, .int .i64 rd] 48)
  have B0 := Bk.new w [.int .i64 pt, .int .i64 b, .int .i64 r, .int .i64 m, .int .i64 st, .string im, .slice fa fn fc, .int .i64 rd] 48
  rw [show ([.int .i64 pt, .int .i64 b, .int .i64 r, .int .i64 m, .int .i64 st, .string im, .slice fa fn fc, .int .i64 rd] : List Value).toArray = #[.int .i64 pt, .int .i64 b, .int .i64 r, .int .i64 m, .int .i64 st, .string im, .slice fa fn fc, .int .i64 rd] from rfl] at B0
  rw [hW] at D0 B0
  have HB0 := hide B0
  have HD := hide D0
  have HF := hide (hF.below D0)
  have HWD := hide hW
  have HC1 := hide (HP.out W (he.below D0))
  clear hW D0 B0 hF he HP
  go_enter Tryd.func17, Tryd.ntmps17
  go_upto_region 1 with fail
  have hW := HWD.out
  clear HWD
  simp only [hW]
  clear hW
  have g0 := HB0.out.cell 0 rfl
  have g1 := HB0.out.cell 1 rfl
  have g2 := HB0.out.cell 2 rfl
  have g3 := HB0.out.cell 3 rfl
  have g4 := HB0.out.cell 4 rfl
  have g5 := HB0.out.cell 5 rfl
  have g6 := HB0.out.cell 6 rfl
  have g7 := HB0.out.cell 7 rfl
  go_wp2_with fail
  clear g0 g1 g2 g3 g4 g5 g6 g7
  refine Calls.mono HC1.out ?_
  rintro e w2 ⟨v, rfl, o2, b2⟩
  replace HB0 := hide (HB0.out.below b2)
  have HWS := hide HD.out.size
  replace HD := hide (chain HD.out b2)
  replace HF := hide (HF.out.below b2)
  obtain ⟨na, nc, rfl, hrc⟩ := o2.rcs
  have HNR := hide hrc
  clear b2 o2 hrc HC1
  by_cases hR : R = 0
  · obtain ⟨hnl, h32⟩ := HNL.out hR
    rw [hR, hnl]
    rw [hnl] at HNR
    rw [show erv E 0 = .nilIface from rfl]
    go_wp2_with fail
    go_loopw [6, 19] (fun o i wr => ∃ k : Nat, k ≤ fn ∧ i = .int .i64 (k : Int) ∧ Hid (NOwn wr w2.heap.size o (dueN (N.take k) (F.take k))) ∧ Hid (Below w2.heap.size w2 wr)) (fun _ i _ => fn - (intOf i).toNat)
    case atStart => exact ⟨0, Nat.zero_le _, rfl, World.ownsRow_nil _ _ _ _, Below.refl _ _⟩
    case round =>
      obtain ⟨k, hk, rfl, HO, HB⟩ := hrel
      by_cases hlt : k < fn
      · obtain ⟨x, hx⟩ : ∃ x, N[k]? = some x := ⟨_, List.getElem?_eq_getElem (by omega)⟩
        obtain ⟨y, hy⟩ : ∃ y, F[k]? = some y := ⟨_, List.getElem?_eq_getElem (by omega)⟩
        have HST := hide (dueN_step hx hy)
        obtain ⟨b1, o1, rfl, hc1⟩ := (HNR.out.below HB.out).at nt10 (by decide) hx
        obtain ⟨b2, o2, rfl, hc2⟩ := (HF.out.below HB.out).at bvl1 (by decide) hy
        have n0 := hc1 0 _ rfl
        have n1 := hc1 1 _ rfl
        have n2 := hc1 2 _ rfl
        have n3 := hc1 3 _ rfl
        have n4 := hc1 4 _ rfl
        have n5 := hc1 5 _ rfl
        have n6 := hc1 6 _ rfl
        have n7 := hc1 7 _ rfl
        have n8 := hc1 8 _ rfl
        have n9 := hc1 9 _ rfl
        rw [Nat.add_zero] at n0
        have y0 := hc2 0 _ rfl
        rw [Nat.mul_one, Nat.add_zero] at y0
        have B2 := hide (Bk.new wr [.int .i64 x.kind, .int .i64 x.part, .int .i64 x.boot, .int .i64 x.peer, .int .i64 x.num, .int .i64 x.stage, .int .i64 x.index, .int .i64 x.total, .int .u32 x.sum, .string x.data] 34)
        have D2 := hide ((Below.refl wr.heap.size wr).alloc (Nat.le_refl _) (.cells #[.int .i64 x.kind, .int .i64 x.part, .int .i64 x.boot, .int .i64 x.peer, .int .i64 x.num, .int .i64 x.stage, .int .i64 x.index, .int .i64 x.total, .int .u32 x.sum, .string x.data] 34))
        rw [show ([.int .i64 x.kind, .int .i64 x.part, .int .i64 x.boot, .int .i64 x.peer, .int .i64 x.num, .int .i64 x.stage, .int .i64 x.index, .int .i64 x.total, .int .u32 x.sum, .string x.data] : List Value).toArray = #[.int .i64 x.kind, .int .i64 x.part, .int .i64 x.boot, .int .i64 x.peer, .int .i64 x.num, .int .i64 x.stage, .int .i64 x.index, .int .i64 x.total, .int .u32 x.sum, .string x.data] from rfl] at B2
        have HY := hide y0
        have HX := hide hx
        have HG6 := hide (HB0.out.below HB.out)
        clear hc1 hc2 y0 hx hy
        have h40 : (k : Int) < (fn : Int) := by omega
        go_upto_region 8 with fail
        generalize wr.alloc (.cells #[.int .i64 x.kind, .int .i64 x.part, .int .i64 x.boot, .int .i64 x.peer, .int .i64 x.num, .int .i64 x.stage, .int .i64 x.index, .int .i64 x.total, .int .u32 x.sum, .string x.data] 34) = W7 at *
        clear n0 n1 n2 n3 n4 n5 n6 n7 n8 n9
        have g6 := (HG6.out.below D2.out).cell 6 rfl
        have y0 := cell_below HY.out D2.out
        cases y with
        | true =>
          have HO2 := hide (HO.out.below D2.out)
          have HB2 := hide (chain HB.out D2.out)
          go_wp2
          refine ⟨⟨k + 1, by omega, by simp, ?_, HB2.out⟩, by simp [intOf]; omega⟩
          have h5 := HO2.out
          rw [HST.out, if_pos rfl, List.append_nil]
          exact h5
        | false =>
          have w0 := B2.out.cell 0 rfl
          have w1 := B2.out.cell 1 rfl
          have w2' := B2.out.cell 2 rfl
          have w3 := B2.out.cell 3 rfl
          have w4 := B2.out.cell 4 rfl
          have w5 := B2.out.cell 5 rfl
          have w6 := B2.out.cell 6 rfl
          have w7 := B2.out.cell 7 rfl
          have w8 := B2.out.cell 8 rfl
          have w9 := B2.out.cell 9 rfl
          have DA : Hid (Below W7.heap.size W7 (W7.alloc (.cells #[.int .i64 x.kind, .int .i64 x.part, .int .i64 x.boot, .int .i64 x.peer, .int .i64 x.num, .int .i64 x.stage, .int .i64 x.index, .int .i64 x.total, .int .u32 x.sum, .string x.data] 34))) := (Below.refl _ _).alloc (Nat.le_refl _) _
          have HOa := hide ((HO.out.below D2.out).below DA.out)
          have hl1 : (dueN (N.take k) (F.take k)).length ≤ 32 := by
            have h1 := dueN_len (N.take k) (F.take k)
            rw [List.length_take] at h1
            omega
          have hl2 : (dueN (N.take k) (F.take k)).length < 4294967296 := by omega
          have hl3 : ((dueN (N.take k) (F.take k)).length + 1) * 88 ≤ 140737488355328 := by omega
          have hba : w2.heap.size ≤ (W7.alloc (.cells #[.int .i64 x.kind, .int .i64 x.part, .int .i64 x.boot, .int .i64 x.peer, .int .i64 x.num, .int .i64 x.stage, .int .i64 x.index, .int .i64 x.total, .int .u32 x.sum, .string x.data] 34)).heap.size := (chain (chain HB.out D2.out) DA.out).size
          have HH := hide (And.intro hl2 (And.intro hl3 hba))
          have HOB : Hid (∀ j, u6.ownBlock = some j → w2.heap.size ≤ j) := fun j e => (World.ownsRow.lt HO.out j e).1
          clear hl1 hl2 hl3 hba
          go_wp2_with (at_builtin; refine append_l (f := Nt.cells) (sz := 10) nt10 (by decide) zNt Tryd.underlying38 infoNote rfl (.tmp 30) (.tmp 32) rfl w2.heap.size _ (dueN (N.take k) (F.take k)) rfl HOa.out W7.heap.size 1 x rfl (nt_one x) (fun j u hu => by rw [World.cell?_alloc_at _ _ _ _ rfl]; simpa [Nt.cells] using hu) HH.out.1 HH.out.2.1 HH.out.2.2 ?_; intro v' w3 q1 q2; have HQ1 := hide q1; have HQ2 := hide q2; clear q1 q2)
          refine ⟨⟨k + 1, by omega, by simp, ?_, ?_⟩, by simp [intOf]; omega⟩
          · have h5 := HQ1.out
            rw [HST.out]
            exact h5
          · exact (chain (chain HB.out D2.out) DA.out).grown HQ2.out (by have := (chain (chain HB.out D2.out) DA.out).size; exact this) HOB.out
      · obtain rfl : fn = k := by omega
        go_wp2
        go_ret2
        refine ⟨_, by rw [hR]; rfl, ?_, ⟨(chain HD.out HB.out).os, (chain HD.out HB.out).tape, (chain HD.out HB.out).output, (chain HD.out HB.out).size, (chain HD.out HB.out).block⟩⟩
        have h5 := HO.out
        rw [List.take_of_length_le (by omega), List.take_of_length_le (by omega)] at h5
        rw [HV.out]
        exact h5.weaken HD.out.size
  · have HN := HN0.out hR
    rw [show erv E R = sent (E R) from if_neg hR]
    unfold sent
    go_wp2
    go_ret2
    refine ⟨_, by unfold erv; rw [if_neg hR]; rfl, ?_, HD.out⟩
    rw [HV.out, HN]
    exact World.ownsRow_nil _ _ _ _
end Go.Proofs.YtnopclacchoijaaDoor
