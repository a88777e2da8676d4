/-
  The program's Whole of a Stage.
-/
import Derived.Test.YtdbciciljeainaaGreatDoorXfClone
import Derived.Test.YtdbciciljeainaaGreatDoorJoinL
namespace Go.Proofs.YtdbciciljeainaaGreatDoor
open Go.RowKit FerryCrc
set_option linter.unusedVariables false
set_option linter.unusedSimpArgs false

/-- The bytes of all the texts, one behind the other. -/
def flat (P : List ByteArray) : List Nat := (P.map bytesOf).flatten
def whE (s : Sg) (P : List ByteArray) : Nat := if goodB s P = true then 0 else 9
def whF (s : Sg) (P : List ByteArray) : Bool := goodB s P && !anyE P
def whB (s : Sg) (P : List ByteArray) : List Nat := if whF s P = true then flat P else []
theorem join_flat : ∀ P : List ByteArray, Lib.join (P.map (·.data.toList)) [] = (P.map (·.data.toList)).flatten
  | [] => rfl
  | x :: l => by
    rw [List.map_cons, Lib.join_cons, List.flatten_cons]
    unfold Lib.joinTail
    simp [Function.comp_def]
theorem bytes_join (P : List ByteArray) : bytesOf ⟨(Lib.join (P.map (·.data.toList)) []).toArray⟩ = flat P := by
  rw [join_flat]
  unfold flat bytesOf
  simp only
  induction P with
  | nil => rfl
  | cons x l ih =>
    rw [List.map_cons, List.flatten_cons, List.map_append, List.map_cons, List.flatten_cons, ih]
theorem pOk_small {t : Int} : ∀ {P : List ByteArray} {i : Nat}, pOk t i P = true → ∀ x ∈ P, x.size ≤ 128
  | [], _, _, x, h => by simp at h
  | y :: l, i, h, x, hx => by
    unfold pOk at h
    simp only [Bool.and_eq_true, Bool.or_eq_true, decide_eq_true_eq] at h
    rcases List.mem_cons.1 hx with rfl | hx
    · rcases h.1 with h0 | h0
      · omega
      · unfold pieceOk at h0
        split at h0
        · simp only [Bool.and_eq_true, decide_eq_true_eq] at h0
          exact h0.2
        · simp only [beq_iff_eq] at h0
          omega
    · exact pOk_small h.2 x hx
theorem flat_len : ∀ (P : List ByteArray), (∀ x ∈ P, x.size ≤ 128) → (flat P).length ≤ P.length * 128
  | [], _ => by simp [flat]
  | x :: l, h => by
    have h1 := flat_len l (fun y hy => h y (List.mem_cons_of_mem _ hy))
    have h2 := h x (List.mem_cons_self ..)
    have h3 := bytesOf_len x
    unfold flat at *
    rw [List.map_cons, List.flatten_cons, List.length_append, List.length_cons, Nat.add_mul]
    omega

set_option maxRecDepth 100000 in
set_option maxHeartbeats 2000000 in
theorem whole_any (pt st tt b r m : Int) (a : Option Addr) (n c : Nat) (P : List ByteArray) {w : World} {E : Nat → Addr} (he : Er7x w E) (hP : Txs w a n c P) (hz : ∀ x ∈ P, x.size ≤ 9223372036854775807) :
    Calls Tryz.prog 19 #[.agg #[.int .i64 pt, .int .i64 st, .int .i64 tt, .int .i64 b, .int .i64 r, .int .i64 m, .slice a n c]] w fun e w' => ∃ v n' c', e = .returned (.tuple #[.slice v n' c', .bool (whF ⟨pt, st, tt, b, r, m⟩ P), erv E (whE ⟨pt, st, tt, b, r, m⟩ P)]) ∧ Bts w' v n' c' (whB ⟨pt, st, tt, b, r, m⟩ P) ∧ Below w.heap.size w w' := by
  obtain ⟨S, hS⟩ : ∃ S : Sg, S = ⟨pt, st, tt, b, r, m⟩ := ⟨_, rfl⟩
  have HC1 := hide (fun (w' : World) (h : Txs w' a n c P) => good_any S a n c P h hz)
  rw [← hS]
  have hcs : (S.cells (.slice a n c)).toArray = #[.int .i64 pt, .int .i64 st, .int .i64 tt, .int .i64 b, .int .i64 r, .int .i64 m, .slice a n c] := by rw [hS]; rfl
  rw [hcs] at HC1
  obtain ⟨W, hW, B0, D0⟩ := box1 w [.int .i64 pt, .int .i64 st, .int .i64 tt, .int .i64 b, .int .i64 r, .int .i64 m, .slice a n c] 34
  have HB0 := hide B0
  have HD := hide D0
  have HWD := hide hW
  have HE := hide (he.below D0)
  have HS := hide hS
  have HP := hide (hP.below D0)
  have hPn := hP.size
  clear B0 D0 hW hS he hP hz hcs
  go_enter Tryz.func19, Tryz.ntmps19
  go_upto_region 1 with fail
  have hW := HWD.out
  clear HWD
  simp only [hW]
  clear hW
  have g0 := HB0.out.cell 0 rfl
  have g1 := HB0.out.cell 1 rfl
  have g2 := HB0.out.cell 2 rfl
  have g3 := HB0.out.cell 3 rfl
  have g4 := HB0.out.cell 4 rfl
  have g5 := HB0.out.cell 5 rfl
  have g6 := HB0.out.cell 6 rfl
  go_wp2_with fail
  refine Calls.mono (HC1.out W HP.out) ?_
  rintro e w1 ⟨rfl, b1⟩
  replace HB0 := hide (HB0.out.below b1)
  replace HD := hide (chain HD.out b1)
  replace HE := hide (HE.out.below b1)
  replace HP := hide (HP.out.below b1)
  clear b1 HC1 g0 g1 g2 g3 g4 g5 g6
  cases hg : goodB S P with
  | false =>
    have HF : Hid (whE S P = 9 ∧ whF S P = false ∧ whB S P = []) := by
      have h9 : whF S P = false := by unfold whF; rw [hg]; rfl
      refine ⟨?_, h9, ?_⟩
      · unfold whE; rw [hg]; rfl
      · unfold whB; rw [h9]; rfl
    have e9 := HE.out.v9
    unfold sent at e9
    go_upto_region 2 with fail
    go_quiet (fail)
    go_wp2
    refine bodyPost_ret (v := .tuple #[.slice none 0 0, .bool false, sent (E 9)]) (by simp [results, Tryz.results19, go_sem, sent]) rfl ?_
    exact ⟨none, 0, 0, by rw [HF.out.1, HF.out.2.1]; rfl, by rw [HF.out.2.2]; exact ⟨rfl, by decide, Nat.le_refl _, fun _ h => by simp at h, fun _ => ⟨rfl, rfl⟩, fun k hk => absurd hk (Nat.not_lt_zero k)⟩, ⟨HD.out.os, HD.out.tape, HD.out.output, HD.out.size, HD.out.block⟩⟩
  | true =>
    obtain ⟨-, -, t1, h32, hpl, hpk⟩ := goodB_open hg
    have HSM := hide (pOk_small hpk)
    rw [HS.out] at t1 h32 hpl
    simp only at t1 h32 hpl
    have hn32 : n ≤ 32 := by omega
    have hn1 : 1 ≤ n := by omega
    have HCT := hide (fun (w' : World) (h : Txs w' a n c P) => contains_tx a n c P h (by omega))
    have HE0 : Hid (whE S P = 0) := by unfold Hid whE; rw [hg]; rfl
    have HF0 : Hid (whF S P = !anyE P) := by unfold Hid whF; rw [hg]; rfl
    clear t1 h32 hpl hpk hg
    have g6 := HB0.out.cell 6 rfl
    go_upto_region 3 with fail
    go_wp2_with fail
    refine Calls.mono (HCT.out _ HP.out) ?_
    rintro e w2 ⟨rfl, rfl⟩
    clear HCT
    cases ha : anyE P with
    | true =>
      have HF : Hid (whF S P = false ∧ whB S P = []) := by
        have h9 : whF S P = false := by rw [HF0.out, ha]; rfl
        exact ⟨h9, by unfold whB; rw [h9]; rfl⟩
      go_wp2
      refine bodyPost_ret (v := .tuple #[.slice none 0 0, .bool false, .nilIface]) (by simp [results, Tryz.results19, go_sem]) rfl ?_
      exact ⟨none, 0, 0, by rw [HE0.out, HF.out.1]; rfl, by rw [HF.out.2]; exact ⟨rfl, by decide, Nat.le_refl _, fun _ h => by simp at h, fun _ => ⟨rfl, rfl⟩, fun k hk => absurd hk (Nat.not_lt_zero k)⟩, HD.out⟩
    | false =>
      have HF : Hid (whF S P = true ∧ whB S P = flat P) := by
        have h9 : whF S P = true := by rw [HF0.out, ha]; rfl
        exact ⟨h9, by unfold whB; rw [h9]; rfl⟩
      obtain ⟨x0, hx0⟩ : ∃ x, P[0]? = some x := ⟨_, List.getElem?_eq_getElem (by omega)⟩
      obtain ⟨b1, o1, rfl, hc1⟩ := HP.out.at tv1 (by decide) hx0
      have hbl := block_lt_of_cell (hc1 0 _ rfl)
      have hcl : ∀ (j : Nat) x, P[j]? = some x → w2.cell? ⟨b1, o1 + j, none⟩ = some (.string x) := fun j x hx => by
        obtain ⟨b2, o2, e2, hc2⟩ := HP.out.at tv1 (by decide) hx
        have h3 := hc2 0 _ rfl
        rw [Nat.mul_one, Nat.add_zero] at h3
        simp only [Option.some.injEq, Addr.mk.injEq] at e2
        rw [e2.1, e2.2.1]
        exact h3
      have hfl := flat_len P HSM.out
      have hfs : (⟨(Lib.join (P.map (·.data.toList)) []).toArray⟩ : ByteArray).size = (flat P).length := by rw [← bytes_join, bytesOf_len]
      have hjl : (Lib.join (P.map (·.data.toList)) (⟨#[]⟩ : ByteArray).data.toList).length ≤ 140737488355328 := by
        have h5 : (Lib.join (P.map (·.data.toList)) []).length = (flat P).length := by rw [← hfs]; rfl
        show (Lib.join (P.map (·.data.toList)) []).length ≤ _
        omega
      have HJ := hide (Any.strings_Join joinLays joinExtra b1 o1 c P ⟨#[]⟩ w2 hcl hbl (by omega) (by rw [hPn]; exact HP.out.row.fit) hjl)
      rw [hPn] at HJ
      obtain ⟨T, hT⟩ : ∃ T : ByteArray, (⟨(Lib.join (P.map (·.data.toList)) (⟨#[]⟩ : ByteArray).data.toList).toArray⟩ : ByteArray) = T := ⟨_, rfl⟩
      rw [hT] at HJ
      have HTB : Hid (bytesOf T = flat P) := by unfold Hid; rw [← hT]; exact bytes_join P
      have hTs : T.size ≤ 140737488351232 := by
        rw [← hT]
        show (⟨(Lib.join (P.map (·.data.toList)) []).toArray⟩ : ByteArray).size ≤ _
        rw [hfs]
        omega
      clear hT hjl hfs hfl hcl hbl hc1 hx0
      go_upto_region 5 with fail
      go_wp2_with fail
      refine Calls.mono HJ.out ?_
      rintro e w3 ⟨rfl, b3⟩
      obtain ⟨cc, w4, hrun, hs4, b4⟩ := conv_lay w3 T T.size rfl hTs
      have HS4 := hide hs4
      have HD4 := hide (chain (chain HD.out b3) b4)
      clear hs4 b3 b4
      generalize T.size = ts at *
      go_wp2
      refine bodyPost_ret (v := .tuple #[.slice (some ⟨w3.heap.size, 0, none⟩) ts cc, .bool true, .nilIface]) (by simp [results, Tryz.results19, go_sem]) rfl ?_
      exact ⟨_, _, _, by rw [HE0.out, HF.out.1]; rfl, by rw [HF.out.2, ← HTB.out]; exact HS4.out, HD4.out⟩
end Go.Proofs.YtdbciciljeainaaGreatDoor
