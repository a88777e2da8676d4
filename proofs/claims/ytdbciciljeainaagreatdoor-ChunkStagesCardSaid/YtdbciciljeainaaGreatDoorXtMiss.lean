/-
  The document's Missing and Whole of a stage.
-/
import Derived.Test.YtdbciciljeainaaGreatDoorXtGood
import Derived.Test.YtdbciciljeainaaGreatDoorCkMiss
namespace Go.Proofs.YtdbciciljeainaaGreatDoor
open Go.RowKit FerryCrc
set_option linter.unusedVariables false
set_option linter.unusedSimpArgs false

/-- How many pieces are missing. -/
def nE (P : List ByteArray) : Nat := (P.filter (fun x => decide (x.size = 0))).length
theorem nE_le (P : List ByteArray) : nE P ≤ P.length := List.length_filter_le _ _
theorem nE_zero : ∀ P : List ByteArray, decide (nE P = 0) = !anyE P
  | [] => rfl
  | x :: P => by
    have ih := nE_zero P
    unfold nE anyE at *
    by_cases h : x.size = 0
    · simp only [List.filter_cons, List.any_cons, decide_eq_true h, if_true, List.length_cons, Bool.true_or]
      exact decide_eq_false (by omega)
    · simp only [List.filter_cons, List.any_cons, decide_eq_false h, Bool.false_or]
      exact ih
theorem nE_all : ∀ P : List ByteArray, decide (nE P < P.length) = anyF P
  | [] => rfl
  | x :: P => by
    have ih := nE_all P
    have hl := nE_le P
    unfold nE anyF at *
    by_cases h : x.size = 0
    · simp only [List.filter_cons, List.any_cons, decide_eq_true h, if_true, List.length_cons, Bool.not_true, Bool.false_or]
      rw [← ih]
      simp
    · simp only [List.filter_cons, List.any_cons, decide_eq_false h, List.length_cons, Bool.not_false, Bool.true_or]
      rw [decide_eq_true_iff]
      simp only [Bool.false_eq_true, if_false]
      omega
theorem nE_step {P : List ByteArray} {k : Nat} {x : ByteArray} (hx : P[k]? = some x) : nE (P.take (k + 1)) = nE (P.take k) + (if x.size = 0 then 1 else 0) := by
  unfold nE
  rw [List.take_add_one, hx, List.filter_append, List.length_append]
  congr 1
  show (List.filter (fun x => decide (x.size = 0)) [x]).length = _
  by_cases h : x.size = 0
  · rw [if_pos h]
    simp only [List.filter_cons, decide_eq_true h, if_true]
    rfl
  · rw [if_neg h]
    simp only [List.filter_cons, decide_eq_false h]
    rfl
theorem nE_mis : ∀ (P : List ByteArray) (i : Nat), (misN i P).length = nE P
  | [], _ => rfl
  | x :: P, i => by
    have ih := nE_mis P (i + 1)
    show (if x.size = 0 then (i : Int) :: misN (i + 1) P else misN (i + 1) P).length = (List.filter (fun x => decide (x.size = 0)) (x :: P)).length
    by_cases h : x.size = 0
    · rw [if_pos h, List.filter_cons, if_pos (decide_eq_true h), List.length_cons, List.length_cons, ih]
      rfl
    · rw [if_neg h, List.filter_cons, if_neg (by simpa using h), ih]
      rfl
set_option maxRecDepth 100000 in
set_option maxHeartbeats 4000000 in
theorem rmissL_any (s : Sg) (a : Option Addr) (n c : Nat) (P : List ByteArray) {w : World} (hP : Txs w a n c P) :
    Calls Tryz.prog 14 #[.agg (s.cells (.slice a n c)).toArray] w fun e w' => ∃ v, e = .returned (.tuple #[v, .int .i64 (whE s P : Int)]) ∧ InOwn w' w.heap.size v (misL s P) ∧ Below w.heap.size w w' := by
  have HC1 := hide (fun (w' : World) (h : Txs w' a n c P) => rgoodS_any s a n c P h)
  have hn := hP.size
  have HG : Hid (goodB s P = true → (n : Int) = s.total ∧ n ≤ 32) := fun h => by
    obtain ⟨-, -, h1, h2, h3, -⟩ := goodB_open h
    rw [hn] at h3
    exact ⟨h3, by omega⟩
  have HWE : Hid (whE s P = if goodB s P = true then 0 else 9) := rfl
  have HML : Hid (misL s P = if goodB s P = true then misN 0 P else []) := rfl
  obtain ⟨G, hG⟩ : ∃ G, goodB s P = G := ⟨_, rfl⟩
  obtain ⟨WE, hWE⟩ : ∃ G, whE s P = G := ⟨_, rfl⟩
  obtain ⟨ML, hML⟩ : ∃ G, misL s P = G := ⟨_, rfl⟩
  rw [hG] at HC1 HG HWE HML
  rw [hWE] at HWE ⊢
  rw [hML] at HML ⊢
  clear hG hWE hML
  obtain ⟨pt, st, tt, b, r, m⟩ := s
  unfold Sg.cells at *
  simp only at *
  obtain ⟨W, hW, B0, D0⟩ := box1 w [.int .i64 pt, .int .i64 st, .int .i64 tt, .int .i64 b, .int .i64 r, .int .i64 m, .slice a n c] 26
  have HB0 := hide B0
  have HD := hide D0
  have HP := hide (hP.below D0)
  have HWD := hide hW
  clear hP B0 D0 hW
  go_enter Tryz.func14, Tryz.ntmps14
  go_upto_region 1 with fail
  have hW := HWD.out
  clear HWD
  simp only [hW]
  clear hW
  have g0 := HB0.out.cell 0 rfl
  have g1 := HB0.out.cell 1 rfl
  have g2 := HB0.out.cell 2 rfl
  have g3 := HB0.out.cell 3 rfl
  have g4 := HB0.out.cell 4 rfl
  have g5 := HB0.out.cell 5 rfl
  have g6 := HB0.out.cell 6 rfl
  go_wp2_with fail
  refine Calls.mono (HC1.out W HP.out) ?_
  rintro e w1 ⟨rfl, b1⟩
  replace HB0 := hide (HB0.out.below b1)
  replace HD := hide (chain HD.out b1)
  replace HP := hide (HP.out.below b1)
  clear b1 HC1 g0 g1 g2 g3 g4 g5 g6
  cases G with
  | false =>
    have HF : Hid (WE = 9) := HWE.out
    have HF2 : Hid (ML = []) := HML.out
    go_wp2
    go_ret2
    exact ⟨.slice none 0 0, by rw [HF.out]; rfl, by rw [HF2.out]; exact World.ownsRow_nil _ _ _ _, HD.out⟩
  | true =>
    obtain ⟨h4, h32⟩ := HG.out rfl
    subst h4
    have HF : Hid (WE = 0) := HWE.out
    have HF2 : Hid (ML = misN 0 P) := HML.out
    clear HG HWE HML
    go_wp2_with fail
    go_loopw [4, 5] (fun o i wr => ∃ k : Nat, k ≤ n ∧ i = .int .i64 (k : Int) ∧ Hid (InOwn wr w1.heap.size o (misN 0 (P.take k))) ∧ Hid (Below w1.heap.size w1 wr)) (fun _ i _ => n - (intOf i).toNat)
    case atStart => exact ⟨0, Nat.zero_le _, rfl, World.ownsRow_nil _ _ _ _, Below.refl _ _⟩
    case round =>
      obtain ⟨k, hk, rfl, HL, HB⟩ := hrel
      have g2 := (HB0.out.below HB.out).cell 2 rfl
      have g6 := (HB0.out.below HB.out).cell 6 rfl
      by_cases hlt : k < n
      · obtain ⟨x, hx⟩ : ∃ x, P[k]? = some x := ⟨_, List.getElem?_eq_getElem (by omega)⟩
        have HST := hide (misN_step hx)
        obtain ⟨b1, o1, rfl, hc1⟩ := (HP.out.below HB.out).at tv1 (by decide) hx
        have n0 := hc1 0 _ rfl
        rw [Nat.mul_one, Nat.add_zero] at n0
        have hk1 : (k : Int) < (n : Int) := by omega
        clear hc1 hx
        by_cases h0 : x.size = 0
        · have hxe : x = ⟨#[]⟩ := empty_of h0
          have hdn : x.toList = [] := by rw [ByteArray.toList_eq, hxe]
          have hdt : x.toList.isEmpty = true := by rw [hdn]; rfl
          obtain ⟨L, hL⟩ : ∃ L, misN 0 (P.take k) = L := ⟨_, rfl⟩
          have hl1 : L.length ≤ 32 := by
            have h1 := misN_le (P.take k) 0
            rw [List.length_take, hL] at h1
            omega
          rw [hL] at HL HST
          rw [if_pos h0] at HST
          have DA : Hid (Below wr.heap.size wr (wr.alloc (.cells #[.int .i64 (k : Int)] 3))) := (Below.refl _ _).alloc (Nat.le_refl _) _
          have HOa := hide (HL.out.below DA.out)
          have HBa := hide (chain HB.out DA.out)
          have HH : Hid (L.length < 4294967296 ∧ (L.length + 1) * 8 ≤ 140737488355328) := ⟨by omega, by omega⟩
          have HOB : Hid (∀ j, u4.ownBlock = some j → w1.heap.size ≤ j) := fun j e => (World.ownsRow.lt HL.out j e).1
          clear hl1 hL h0 hxe HL
          go_wp2_with (at_builtin; refine append_l (f := iv) (sz := 1) iv1 (by decide) 0 Tryz.underlying47 infoIv rfl (.tmp 21) (.tmp 23) rfl w1.heap.size _ L rfl HOa.out wr.heap.size 1 (k : Int) rfl (iv_one _) (fun j u hu => by rw [World.cell?_alloc_at _ _ _ _ rfl]; simpa [iv] using hu) HH.out.1 HH.out.2 HBa.out.size ?_; intro v' w3 q1 q2; have HQ1 := hide q1; have HQ2 := hide q2; clear q1 q2)
          refine ⟨⟨k + 1, by omega, by simp, ?_, ?_⟩, by simp [intOf]; omega⟩
          · rw [HST.out]
            exact HQ1.out
          · exact HBa.out.grown HQ2.out HBa.out.size HOB.out
        · have hdt := list_ne h0
          have hdn := toList_ne h0
          rw [if_neg h0, List.append_nil] at HST
          clear h0
          go_wp2
          exact ⟨⟨k + 1, by omega, by simp, by rw [HST.out]; exact HL.out, HB.out⟩, by simp [intOf]; omega⟩
      · obtain rfl : n = k := by omega
        have hnk : ¬ (n : Int) < (n : Int) := by omega
        have HQ : Hid (InOwn wr w1.heap.size u4 ML) := by rw [HF2.out, ← List.take_of_length_le (show P.length ≤ n by omega)]; exact HL.out
        have HSZ : Hid (w.heap.size ≤ w1.heap.size) := HD.out.size
        replace HD := hide (chain HD.out HB.out)
        go_wp2
        go_ret2
        exact ⟨_, by rw [HF.out]; rfl, HQ.out.weaken HSZ.out, HD.out⟩
theorem rmiss_any (s : Sg) (a : Option Addr) (n c : Nat) (P : List ByteArray) {w : World} (hP : Txs w a n c P) :
    Calls Tryz.prog 14 #[.agg (s.cells (.slice a n c)).toArray] w fun e w' => ∃ va vc, e = .returned (.tuple #[.slice va (if goodB s P = true then nE P else 0) vc, .int .i64 (whE s P : Int)]) ∧ Below w.heap.size w w' := by
  refine (rmissL_any s a n c P hP).mono ?_
  rintro e w' ⟨v, rfl, o, b⟩
  obtain ⟨va, vc, rfl, -⟩ := o.rcs
  refine ⟨va, vc, ?_, b⟩
  have : (misL s P).length = if goodB s P = true then nE P else 0 := by
    unfold misL
    split
    · exact nE_mis P 0
    · rfl
  rw [this]
theorem flat_take {P : List ByteArray} {k : Nat} {x : ByteArray} (hx : P[k]? = some x) : str (flat (P.take k)) ++ x = str (flat (P.take (k + 1))) := by
  rw [List.take_add_one, hx]
  unfold flat
  rw [List.map_append, List.flatten_append, ← str_app]
  simp [str_bytesOf]
set_option maxRecDepth 100000 in
set_option maxHeartbeats 4000000 in
theorem rwholeS_any (s : Sg) (a : Option Addr) (n c : Nat) (P : List ByteArray) {w : World} (hP : Txs w a n c P) :
    Calls Tryz.prog 18 #[.agg (s.cells (.slice a n c)).toArray] w fun e w' => e = .returned (.tuple #[.string (str (whB s P)), .bool (whF s P), .int .i64 (whE s P : Int)]) ∧ Below w.heap.size w w' := by
  have HC1 := hide (fun (w' : World) (h : Txs w' a n c P) => rmiss_any s a n c P h)
  have hn := hP.size
  have HG : Hid (goodB s P = true → (n : Int) = s.total ∧ n ≤ 32 ∧ (∀ k, k ≤ n → (flat (P.take k)).length ≤ 4096) ∧ (∀ x ∈ P, x.size ≤ 128)) := fun h => by
    obtain ⟨-, -, h1, h2, h3, h4⟩ := goodB_open h
    rw [hn] at h3
    have hs := pOk_small h4
    refine ⟨h3, by omega, fun k hk => ?_, hs⟩
    have := flat_len (P.take k) (fun x hx => hs x (List.mem_of_mem_take hx))
    rw [List.length_take] at this
    have h5 : min k P.length ≤ 32 := by omega
    omega
  have HWE : Hid (whE s P = if goodB s P = true then 0 else 9) := rfl
  have HWF : Hid (whF s P = (goodB s P && decide (nE P = 0))) := by unfold Hid whF; rw [nE_zero]
  have HWB : Hid (whB s P = if whF s P = true then flat P else []) := rfl
  obtain ⟨G, hG⟩ : ∃ G, goodB s P = G := ⟨_, rfl⟩
  obtain ⟨WE, hWE⟩ : ∃ G, whE s P = G := ⟨_, rfl⟩
  obtain ⟨WF, hWF⟩ : ∃ G, whF s P = G := ⟨_, rfl⟩
  obtain ⟨WB, hWB⟩ : ∃ G, whB s P = G := ⟨_, rfl⟩
  obtain ⟨E0, hE0⟩ : ∃ G, nE P = G := ⟨_, rfl⟩
  rw [hG] at HC1 HG HWE HWF
  rw [hWE] at HC1 HWE ⊢
  rw [hWF] at HWF HWB ⊢
  rw [hWB] at HWB ⊢
  rw [hE0] at HC1 HWF
  clear hG hWE hWF hWB hE0
  obtain ⟨pt, st, tt, b, r, m⟩ := s
  unfold Sg.cells at *
  simp only at *
  obtain ⟨W, hW, B0, D0⟩ := box1 w [.int .i64 pt, .int .i64 st, .int .i64 tt, .int .i64 b, .int .i64 r, .int .i64 m, .slice a n c] 26
  have HB0 := hide B0
  have HD := hide D0
  have HP := hide (hP.below D0)
  have HWD := hide hW
  clear hP B0 D0 hW
  go_enter Tryz.func18, Tryz.ntmps18
  go_upto_region 1 with fail
  have hW := HWD.out
  clear HWD
  simp only [hW]
  clear hW
  have g0 := HB0.out.cell 0 rfl
  have g1 := HB0.out.cell 1 rfl
  have g2 := HB0.out.cell 2 rfl
  have g3 := HB0.out.cell 3 rfl
  have g4 := HB0.out.cell 4 rfl
  have g5 := HB0.out.cell 5 rfl
  have g6 := HB0.out.cell 6 rfl
  go_wp2_with fail
  refine Calls.mono (HC1.out W HP.out) ?_
  rintro e w1 ⟨va, vc, rfl, b1⟩
  replace HB0 := hide (HB0.out.below b1)
  replace HD := hide (chain HD.out b1)
  replace HP := hide (HP.out.below b1)
  clear b1 HC1 g0 g1 g2 g3 g4 g5 g6
  cases G with
  | false =>
    have HF : Hid (WE = 9 ∧ WF = false) := ⟨HWE.out, HWF.out⟩
    have HF2 : Hid (WB = []) := by unfold Hid; rw [HWB.out, HF.out.2]; rfl
    obtain ⟨rfl, rfl⟩ := HF.out
    clear HG HWE HWF HWB
    rw [show (if false = true then E0 else 0) = 0 from rfl]
    go_wp2
    refine bodyPost_ret (v := .tuple #[.string ⟨#[]⟩, .bool false, .int .i64 9]) (by simp [results, Tryz.results18, go_sem]) rfl ?_
    exact ⟨by rw [HF2.out]; rfl, HD.out⟩
  | true =>
    obtain ⟨h4, h32, hfl, hs⟩ := HG.out rfl
    subst h4
    rw [show (if true = true then E0 else 0) = E0 from rfl]
    by_cases he0 : E0 = 0
    · have HF : Hid (WE = 0 ∧ WF = true) := ⟨HWE.out, by rw [HWF.out, decide_eq_true he0]; rfl⟩
      have HF2 : Hid (WB = flat P) := by unfold Hid; rw [HWB.out, HF.out.2]; rfl
      obtain ⟨rfl, rfl⟩ := HF.out
      subst he0
      have HFL := hide hfl
      have HSZ := hide hs
      clear HG HWE HWF HWB HF hfl hs
      go_wp2_with fail
      go_loopw [7, 8] (fun o i wr => ∃ k : Nat, k ≤ n ∧ i = .int .i64 (k : Int) ∧ o = .string (str (flat (P.take k))) ∧ wr = w1) (fun _ i _ => n - (intOf i).toNat)
      case atStart => exact ⟨0, Nat.zero_le _, rfl, rfl, rfl⟩
      case round =>
        obtain ⟨k, hk, rfl, rfl, rfl⟩ := hrel
        have g2 := HB0.out.cell 2 rfl
        have g6 := HB0.out.cell 6 rfl
        by_cases hlt : k < n
        · obtain ⟨x, hx⟩ : ∃ x, P[k]? = some x := ⟨_, List.getElem?_eq_getElem (by omega)⟩
          have HST := hide (flat_take hx)
          have hx1 : x.size ≤ 128 := HSZ.out x (List.mem_of_getElem? hx)
          have hy1 : (str (flat (P.take k))).size ≤ 4096 := by rw [str_len]; exact HFL.out k hk
          obtain ⟨b1, o1, rfl, hc1⟩ := HP.out.at tv1 (by decide) hx
          have n0 := hc1 0 _ rfl
          rw [Nat.mul_one, Nat.add_zero] at n0
          have hk1 : (k : Int) < (n : Int) := by omega
          obtain ⟨y, hy⟩ : ∃ y, str (flat (P.take k)) = y := ⟨_, rfl⟩
          rw [hy] at HST hy1 ⊢
          clear hc1 hx hy
          have hb : y.size + x.size ≤ 9223372036854775807 := by omega
          go_wp2
          exact ⟨⟨k + 1, by omega, by simp, by rw [← HST.out], by first | rfl | trivial⟩, by simp [intOf]; omega⟩
        · obtain rfl : k = n := by omega
          have hnk : ¬ (k : Int) < (k : Int) := by omega
          have HTK : Hid (P.take k = P) := List.take_of_length_le (by omega)
          rw [HTK.out]
          obtain ⟨y, hy⟩ : ∃ y, str (flat P) = y := ⟨_, rfl⟩
          rw [hy]
          have HY := hide hy
          clear hy
          go_wp2
          refine bodyPost_ret (v := .tuple #[.string y, .bool true, .int .i64 0]) (by simp [results, Tryz.results18, go_sem]) rfl ?_
          exact ⟨by rw [HF2.out, HY.out], HD.out⟩
    · have HF : Hid (WE = 0 ∧ WF = false) := ⟨HWE.out, by rw [HWF.out, decide_eq_false he0]; rfl⟩
      have HF2 : Hid (WB = []) := by unfold Hid; rw [HWB.out, HF.out.2]; rfl
      obtain ⟨rfl, rfl⟩ := HF.out
      have e1 : (0 : Int) < (E0 : Int) := by omega
      clear HG HWE HWF HWB hfl hs he0
      go_wp2
      refine bodyPost_ret (v := .tuple #[.string ⟨#[]⟩, .bool false, .int .i64 0]) (by simp [results, Tryz.results18, go_sem]) rfl ?_
      exact ⟨by rw [HF2.out]; rfl, HD.out⟩
end Go.Proofs.YtdbciciljeainaaGreatDoor
