/-
  The document's Cut.
-/
import Derived.Test.YtdbciciljeainaaDoorXfKit
import Derived.Deep.Cut
import Derived.Deep.CutRange
namespace Go.Proofs.YtdbciciljeainaaDoor
open Go.RowKit FerryCrc
set_option linter.unusedVariables false
set_option linter.unusedSimpArgs false

def okPt (p : Int) : Bool := decide (0 ≤ p) && decide (p < 8)
def okNs (b r m : Int) : Bool := okNum b && okNum r && okNum m
theorem okNm_parts (p b r m : Int) : okNm p b r m = (okPt p && okNs b r m) := by
  unfold okNm okPt okNs
  simp only [Bool.and_assoc]
set_option maxRecDepth 100000 in
theorem rpart_any (x : Int) (w : World) : Calls Tryd.prog 46 #[.int .i64 x] w fun e w' => e = .returned (.bool (okPt x)) ∧ w' = w := by
  go_enter Tryd.func46, Tryd.ntmps46
  go_wp2
  all_goals go_ret
  all_goals refine ⟨ret_b ?_, rfl⟩
  all_goals (unfold okPt; simp_all <;> (intros; omega))
set_option maxRecDepth 100000 in
set_option maxHeartbeats 1000000 in
theorem rnumbers_any (b r m : Int) (w : World) : Calls Tryd.prog 47 #[.agg #[.int .i64 b, .int .i64 r, .int .i64 m]] w fun e w' => e = .returned (.bool (okNs b r m)) ∧ Below w.heap.size w w' := by
  obtain ⟨W, hW, B0, D0⟩ := box1 w [.int .i64 b, .int .i64 r, .int .i64 m] 23
  have HWD := hide hW
  have HD := hide D0
  have g0 := B0.cell 0 rfl
  have g1 := B0.cell 1 rfl
  have g2 := B0.cell 2 rfl
  obtain ⟨R, hR⟩ : ∃ R, okNs b r m = R := ⟨_, rfl⟩
  rw [hR]
  have HR := hide hR
  clear hW D0 B0 hR
  go_enter Tryd.func47, Tryd.ntmps47
  go_upto_region 1 with fail
  have hW := HWD.out
  simp only [hW]
  clear hW HWD
  by_cases a1 : 1 ≤ b
  · by_cases a2 : b ≤ 2147483647
    · by_cases a3 : 1 ≤ r
      · by_cases a4 : r ≤ 2147483647
        · by_cases a5 : 1 ≤ m
          · by_cases a6 : m ≤ 2147483647
            · go_wp2
              go_ret
              exact ⟨ret_b (by rw [← HR.out]; simp [okNs, okNum, a1, a2, a3, a4, a5, a6]), HD.out⟩
            · go_wp2
              go_ret
              exact ⟨ret_b (by rw [← HR.out]; simp [okNs, okNum] <;> (intros; omega)), HD.out⟩
          · go_wp2
            go_ret
            exact ⟨ret_b (by rw [← HR.out]; simp [okNs, okNum] <;> (intros; omega)), HD.out⟩
        · go_wp2
          go_ret
          exact ⟨ret_b (by rw [← HR.out]; simp [okNs, okNum] <;> (intros; omega)), HD.out⟩
      · go_wp2
        go_ret
        exact ⟨ret_b (by rw [← HR.out]; simp [okNs, okNum] <;> (intros; omega)), HD.out⟩
    · go_wp2
      go_ret
      exact ⟨ret_b (by rw [← HR.out]; simp [okNs, okNum] <;> (intros; omega)), HD.out⟩
  · go_wp2
    go_ret
    exact ⟨ret_b (by rw [← HR.out]; simp [okNs, okNum] <;> (intros; omega)), HD.out⟩
theorem nt_one' (x : Nt) : ∀ u ∈ x.cells, u.oneCell' = true := by
  intro u hu
  simp only [Nt.cells, List.mem_cons, List.not_mem_nil, or_false] at hu
  rcases hu with rfl | rfl | rfl | rfl | rfl | rfl | rfl | rfl | rfl | rfl <;> rfl
/-- append of one record that lies in a block of its own, as one step of a statement whose order Go leaves open. -/
theorem step_l {α : Type} {f : α → List Value} {sz byt : Nat} (hf : ∀ x, (f x).length = sz) (h0 : 0 < sz) (z : α) {t e : TypeId} (ht : Tryd.prog.underlying t = some (.slice e)) (hinfo : (Tryd.prog.info? e).map (fun i => (i.size, i.bytes, i.zero.map (·.cells))) = some (sz, byt, some (f z).toArray))
    {w : World} {ops : Array Oper} {o : Oper} {act : Act} {K : Act → World → Prop} {Q : Exit → Act → World → Prop} {EE : Prop} (hgd : o.guard = none) (s y : Operand)
    (ho : o.op = .call { callee := .builtin .append, args := #[s, y], argTypes := #[t, t] })
    (base : Nat) (v : Value) (xs : List α) (hs : act.eval s = v) (hown : LOwn f sz e w base v xs)
    (g c : Nat) (x : α) (hx : act.eval y = .slice (some ⟨g, 0, none⟩) 1 c) (one : ∀ u ∈ f x, u.oneCell' = true) (hc : ∀ j u, (f x)[j]? = some u → w.cell? ⟨g, j, none⟩ = some u)
    (h63 : xs.length < 4294967296) (hby : (xs.length + 1) * byt ≤ 140737488355328) (hbase : base ≤ w.heap.size)
    (h : ∀ v' w', LOwn f sz e w' base v' (xs ++ [x]) → Below base w w' → K (act.put o.dst v') w') : if Region.wanted o (yielded ops act.tmps) = true then Oper.wp Tryd.prog o act w K Q else EE := by
  obtain ⟨i, zz, hi, hz, hsz, hb, hzc⟩ := info_open hinfo
  have hw : Region.wanted o (yielded ops act.tmps) = true := by simp [Region.wanted, hgd]
  rw [if_pos hw]
  obtain ⟨v', w', hrun, k1, k2, -⟩ := run_append_own (P := Tryd.prog) w base t o.type e i zz sz byt ht hi hz hsz hb (by rw [hzc]; simp [hf]) h0 v xs.length (xs.flatMap f) hown ⟨g, 0, none⟩ 1 c (f x) (by rw [hf]; simp) (fun j u hu => by rw [add_none, Nat.zero_add]; exact hc j u hu) one (by unfold maxLen; omega) hby hbase
  unfold Oper.wp execOp
  simp only [ho, resolve, invoke, builtin, Sem.run_bind, Sem.run_pure, Result.andThen_ok, List.map_toArray, List.map_cons, List.map_nil, hs, hx, hrun]
  refine h v' w' ?_ ((Below.refl _ _).grown k2 hbase (fun j e => (World.ownsRow.lt hown j e).1))
  unfold LOwn
  rw [List.length_append, show (xs ++ [x]).flatMap f = xs.flatMap f ++ f x by simp]
  exact k1

set_option maxRecDepth 100000 in
set_option maxHeartbeats 4000000 in
theorem rcut_any (pt b r m st : Int) (a : Option Addr) (n c : Nat) (L : List Nat) {w : World} (hs : Bts w a n c L) :
    Calls Tryd.prog 15 #[.int .i64 pt, .agg #[.int .i64 b, .int .i64 r, .int .i64 m], .int .i64 st, .slice a n c] w fun e w' => ∃ v, e = .returned (.tuple #[v, .int .i64 (cutE pt b r m st n : Int)]) ∧ NOwn w' w.heap.size v (cutL pt b r m st L) ∧ Below w.heap.size w w' := by
  obtain ⟨W0, hW, B0, D0⟩ := box1 w [.int .i64 b, .int .i64 r, .int .i64 m] 23
  have HB0 := hide B0
  have HD := hide D0
  have HWD := hide hW
  have HS := hide (hs.below D0)
  have hl := hs.size
  have H1 := hide rpart_any
  have H2 := hide (fun w' => rnumbers_any b r m w')
  obtain ⟨R, hR⟩ : ∃ R, cutE pt b r m st n = R := ⟨_, rfl⟩
  rw [hR]
  obtain ⟨V, hV⟩ : ∃ V, cutL pt b r m st L = V := ⟨_, rfl⟩
  rw [hV]
  have HV : Hid (V = if R = 0 then cutN pt b r m st L else []) := by rw [← hV, ← hR, ← hl]; rfl
  have HR : Hid (R = if okPt pt && okNs b r m && okSt st then (if n = 0 ∨ 4096 < n then 11 else 0) else 12) := by rw [← hR]; unfold cutE; rw [okNm_parts]; rfl
  clear hR hs hV B0 D0 hW
  go_enter Tryd.func15, Tryd.ntmps15
  go_upto_region 1 with fail
  have hW := HWD.out
  simp only [hW]
  clear hW HWD
  have g0 := HB0.out.cell 0 rfl
  have g1 := HB0.out.cell 1 rfl
  have g2 := HB0.out.cell 2 rfl
  by_cases hok : okPt pt = true ∧ okNs b r m = true ∧ okSt st = true
  · obtain ⟨h1, h2, h4⟩ := hok
    have h3 := okSt_iff.1 h4
    have HC0 : Hid (R = if n = 0 ∨ 4096 < n then 11 else 0) := by rw [HR.out, h1, h2, h4]; rfl
    clear HR h4
    go_cut [28] from 13 to 28 (fun v wz => v = .bool false ∧ Hid (Below W0.heap.size W0 wz))
    case first =>
      rcases h3 with rfl | rfl
      all_goals
        go_wp2_with (first | (go_at_call 46; refine Calls.mono (H1.out _ _) ?_; rintro e w' ⟨rfl, rfl⟩; rw [h1]) | (go_at_call 47; refine Calls.mono (H2.out _) ?_; rintro e w5 ⟨rfl, b5⟩; rw [h2]; have BB := hide b5; clear b5))
        go_meet
        case rel => exact ⟨rfl, BB.out⟩
    case rest =>
      obtain ⟨rfl, HBB⟩ := hcut
      obtain ⟨w1, hw1⟩ : ∃ z, z = wc := ⟨_, rfl⟩
      subst hw1
      replace HB0 := hide (HB0.out.below HBB.out)
      replace HD := hide (chain HD.out HBB.out)
      replace HS := hide (HS.out.below HBB.out)
      clear HBB g0 g1 g2 h1 h2 h3 H1 H2
      by_cases hn0 : n = 0 ∨ 4096 < n
      · have HC : Hid (R = 11) := by rw [HC0.out]; exact if_pos hn0
        clear HC0
        by_cases h0 : n = 0
        · have h2 : ((n : Int) == 0) = true := by simp; omega
          clear hn0 h0
          go_wp2
          go_ret2
          exact ⟨_, by rw [HC.out]; rfl, by rw [HV.out, HC.out]; exact World.ownsRow_nil _ _ _ _, HD.out⟩
        · have h1 : (4096 : Int) < (n : Int) := by omega
          have h2 : ((n : Int) == 0) = false := by simp; omega
          clear hn0
          go_wp2
          go_ret2
          exact ⟨_, by rw [HC.out]; rfl, by rw [HV.out, HC.out]; exact World.ownsRow_nil _ _ _ _, HD.out⟩
      · have HC : Hid (R = 0) := by rw [HC0.out]; exact if_neg hn0
        have HV2 : Hid (V = cutN pt b r m st L) := by rw [HV.out, HC.out]; rfl
        clear HC0 HV
        have h1 : ¬ (4096 : Int) < (n : Int) := by omega
        have h3 : ((n : Int) == 0) = false := by simp; omega
        have hn1 : 1 ≤ n := by omega
        have hn4 : n ≤ 4096 := by omega
        clear hn0
        obtain ⟨t, ht'⟩ : ∃ t, tot L = t := ⟨_, rfl⟩
        have htv : (n + 127) / 128 = t := by rw [← ht', ← hl]; rfl
        have ht32 : t ≤ 32 := by omega
        have HLV : Hid (n ≤ t * 128 ∧ t * 128 < n + 128) := by unfold Hid; omega
        have HTT := hide ht'
        clear htv ht'
        go_wp2_with fail
        clear h1 h3
        go_loopw [10] (fun i wr => ∃ k : Nat, k ≤ t ∧ i = .int .i64 (k : Int) ∧ wr = w1) (fun i _ => t - (intOf i).toNat)
        case atStart => exact ⟨0, Nat.zero_le _, rfl, rfl⟩
        case round =>
          obtain ⟨k, hk, rfl, rfl⟩ := hrel
          obtain ⟨q1, q2⟩ := HLV.out
          by_cases hlt : k < t
          · have h5 : (k : Int) * 128 < (n : Int) := by omega
            clear q1 q2
            go_wp2
            exact ⟨⟨k + 1, by omega, by simp, by first | rfl | trivial⟩, by simp [intOf]; omega⟩
          · obtain rfl : k = t := by omega
            have h5 : ¬ (k : Int) * 128 < (n : Int) := by omega
            clear q1 q2 hlt
            go_wp2_with fail
            generalize wr = W1 at *
            go_loopw [11, 12] (fun o i wz => ∃ j : Nat, j ≤ k ∧ i = .int .i64 (j : Int) ∧ Hid (NOwn wz W1.heap.size o ((List.range j).map (ntOf pt b r m st L))) ∧ Hid (Below W1.heap.size W1 wz)) (fun _ i _ => k - (intOf i).toNat)
            case atStart => exact ⟨0, Nat.zero_le _, rfl, World.ownsRow_nil _ _ _ _, Below.refl _ _⟩
            case round =>
              obtain ⟨j, hj, rfl, HO, HB⟩ := hrel
              by_cases hlt : j < k
              · have g0 := (HB0.out.below HB.out).cell 0 rfl
                have g1 := (HB0.out.below HB.out).cell 1 rfl
                have g2 := (HB0.out.below HB.out).cell 2 rfl
                have HS2 := hide (HS.out.below HB.out)
                obtain ⟨b0, off0, ha, -⟩ := HS2.out.cell 0 hn1
                subst ha
                have hcc := HS2.out.fit
                obtain ⟨q1, q2⟩ := HLV.out
                obtain ⟨h, hh⟩ : ∃ h : Nat, (if (j : Int) * 128 + 128 < (n : Int) then (j : Int) * 128 + 128 else (n : Int)) = (h : Int) := ⟨if j * 128 + 128 < n then j * 128 + 128 else n, by split <;> split <;> omega⟩
                have hh2 : (if (n : Int) < (j : Int) * 128 + 128 then (n : Int) else (j : Int) * 128 + 128) = (h : Int) := by rw [← hh]; split <;> split <;> omega
                have hkn : j * 128 < n := by omega
                have hw1 : IntKind.i64.wrap ((j : Int) * 128) = (j : Int) * 128 := by rw [IntKind.wrap_i64]; omega
                have hw2 : IntKind.i64.wrap ((j : Int) * 128 + 128) = (j : Int) * 128 + 128 := by rw [IntKind.wrap_i64]; omega
                have hw3 : ((j : Int) * 128).toNat = j * 128 := by omega
                have hw4 : max (h : Int) 0 = (h : Int) := by omega
                have hw5 : (0 : Int) ≤ (j : Int) * 128 := by omega
                have hne : ¬ c = j * 128 := by omega
                have hk1 : (j : Int) * 128 ≤ (h : Int) := by rw [← hh]; split <;> omega
                have hk2 : (h : Int) ≤ (n : Int) := by rw [← hh]; split <;> omega
                have hk3 : (h : Int) ≤ (c : Int) := by omega
                have hk4 : ¬ (j : Int) * 128 < 0 := by omega
                have hcv : (convert 47 9 (.slice (some ⟨b0, off0 + j * 128, none⟩) (h - j * 128) (c - j * 128))).run Tryd.prog wr.drew = .ok (.string (pcs L j)) wr.drew := by
                  have := bts_string (((HS2.out.below (Below.refl _ _).drew).drop (j * 128) (by omega)).take (h - j * 128) (by omega))
                  rw [this]
                  have e1 : ((L.drop (j * 128)).take (h - j * 128)) = (L.drop (j * 128)).take 128 := by
                    by_cases hx : j * 128 + 128 < n
                    · have : h = j * 128 + 128 := by rw [if_pos (by omega)] at hh; omega
                      rw [show h - j * 128 = 128 by omega]
                    · have : h = n := by rw [if_neg (by omega)] at hh; omega
                      rw [List.take_of_length_le (by rw [List.length_drop]; omega), List.take_of_length_le (by rw [List.length_drop]; omega)]
                  rw [e1]
                  rfl
                have BA := hide (xnew wr (.cells #[.int .i64 1, .int .i64 pt, .int .i64 b, .int .i64 r, .int .i64 m, .int .i64 st, .int .i64 (j : Int), .int .i64 (k : Int), .int .u32 0, .string (pcs L j)] 26))
                have BD := hide BA.out.drew
                have HNT : Hid (ntOf pt b r m st L j = ⟨1, pt, b, r, m, st, (j : Int), (k : Int), 0, pcs L j⟩) := by unfold Hid ntOf; rw [HTT.out]
                have HOa := hide (HO.out.below BD.out)
                have HLL : Hid (((List.range j).map (ntOf pt b r m st L)).length = j) := by unfold Hid; simp
                have HBS : Hid (W1.heap.size ≤ ((wr.alloc (.cells #[.int .i64 1, .int .i64 pt, .int .i64 b, .int .i64 r, .int .i64 m, .int .i64 st, .int .i64 (j : Int), .int .i64 (k : Int), .int .u32 0, .string (pcs L j)] 26)).drew).heap.size) := (chain HB.out BD.out).size
                clear q1 q2
                go_upto_region 12 with fail
                go_region_law (refine step_l (f := Nt.cells) (sz := 10) nt10 (by decide) zNt Tryd.underlying44 infoNote rfl (.tmp 49) (.tmp 67) rfl W1.heap.size _ ((List.range j).map (ntOf pt b r m st L)) (by simp [Act.eval]) HOa.out wr.heap.size 1 (ntOf pt b r m st L j) (by simp [Act.eval]) (nt_one' _) (fun i u hu => by rw [HNT.out] at hu; show World.cell? (wr.alloc _) _ = _; rw [World.cell?_alloc_at _ _ _ _ rfl]; simpa [Nt.cells] using hu) (by rw [HLL.out]; omega) (by rw [HLL.out]; omega) HBS.out ?_; intro v' w3 q3 q4; have HQ1 := hide q3; have HQ2 := hide q4; clear q3 q4)
                all_goals
                  go_wp2
                  refine ⟨⟨j + 1, by omega, by simp, ?_, ?_⟩, by simp [intOf]; omega⟩
                  · have h5' := HQ1.out
                    rw [show (List.range (j + 1)).map (ntOf pt b r m st L) = (List.range j).map (ntOf pt b r m st L) ++ [ntOf pt b r m st L j] by rw [List.range_succ, List.map_append]; rfl]
                    exact h5'
                  · exact (chain HB.out BD.out).trans HQ2.out
              · obtain rfl : j = k := by omega
                go_wp2
                go_ret2
                refine ⟨_, by rw [HC.out]; rfl, ?_, chain HD.out HB.out⟩
                rw [HV2.out]
                unfold cutN
                rw [HTT.out]
                exact HO.out.weaken HD.out.size
  · --
    by_cases h1 : okPt pt = true
    · by_cases h2 : okNs b r m = true
      · have h3 : ¬ (st = 1 ∨ st = 2) := fun h => hok ⟨h1, h2, okSt_iff.2 h⟩
        have e1 : (st == 1) = false := by simp; omega
        have e2 : (st == 2) = false := by simp; omega
        have e3 : (st != 1) = true := by simp; omega
        have e4 : (st != 2) = true := by simp; omega
        have hos : okSt st = false := by
          cases h : okSt st with
          | false => rfl
          | true => exact absurd (okSt_iff.1 h) h3
        have HC : Hid (R = 12) := by rw [HR.out, h1, h2, hos]; rfl
        clear h3 hok
        go_wp2_with (first | (go_at_call 46; refine Calls.mono (H1.out _ _) ?_; rintro e w' ⟨rfl, rfl⟩; rw [h1]) | (go_at_call 47; refine Calls.mono (H2.out _) ?_; rintro e w5 ⟨rfl, b5⟩; rw [h2]; have HD5 := hide (chain HD.out b5); clear b5))
        go_ret2
        exact ⟨_, by rw [HC.out]; rfl, by rw [HV.out, HC.out]; exact World.ownsRow_nil _ _ _ _, HD5.out⟩
      · have h2' : okNs b r m = false := by simpa using h2
        have HC : Hid (R = 12) := by rw [HR.out, h1, h2']; rfl
        clear hok h2
        go_wp2_with (first | (go_at_call 46; refine Calls.mono (H1.out _ _) ?_; rintro e w' ⟨rfl, rfl⟩; rw [h1]) | (go_at_call 47; refine Calls.mono (H2.out _) ?_; rintro e w5 ⟨rfl, b5⟩; rw [h2']; have HD5 := hide (chain HD.out b5); clear b5))
        go_ret2
        exact ⟨_, by rw [HC.out]; rfl, by rw [HV.out, HC.out]; exact World.ownsRow_nil _ _ _ _, HD5.out⟩
    · have h1' : okPt pt = false := by simpa using h1
      have HC : Hid (R = 12) := by rw [HR.out, h1']; rfl
      clear hok h1
      go_wp2_with (go_at_call 46; refine Calls.mono (H1.out _ _) ?_; rintro e w' ⟨rfl, rfl⟩; rw [h1'])
      go_ret2
      exact ⟨_, by rw [HC.out]; rfl, by rw [HV.out, HC.out]; exact World.ownsRow_nil _ _ _ _, HD.out⟩
end Go.Proofs.YtdbciciljeainaaDoor
