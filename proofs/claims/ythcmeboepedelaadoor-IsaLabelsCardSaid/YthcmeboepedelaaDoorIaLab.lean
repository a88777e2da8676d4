/-
  Assemble of the law's texts: their words.
-/
import Derived.Test.YthcmeboepedelaaDoorIaFull
import Derived.Test.YthcmeboepedelaaDoorIaWMath
namespace Go.Proofs.YthcmeboepedelaaDoor
open Go.RowKit FerryCrc
set_option linter.unusedVariables false
set_option linter.unusedSimpArgs false
set_option maxRecDepth 100000 in
theorem lab_any {xop : Int} {wd : ByteArray} {two la : Bool} {op rb : Int} (h : BrW xop wd two la op rb) {fr to_ n : Nat} (h1 : to_ ≤ n) (h2 : n ≤ 512) (h3 : fr < n) (w : World) (ht : Iat w) (hv : Isv w) (hs : (joinK (bwOf wd two) (ksAt fr to_ n (n + 1))).size ≤ 140737488351232) :
    Calls Tryd.prog 21 #[.string (joinK (bwOf wd two) (ksAt fr to_ n (n + 1)))] w fun e w' => ∃ (u : Value) (L : List Int) (k : Nat), e = .returned (.tuple #[u, .nilIface]) ∧ LOwn wdC 1 28 w' w.heap.size u L ∧ L.length = n ∧ L[fr]? = some (k : Int) ∧ k < 4294967296 ∧ okI (cand k) = true ∧ dec k = ⟨op, 3, rb, 0, immL op fr to_⟩ ∧ Below w.heap.size w w' := by
  rw [ks_all h1] at hs ⊢
  have f1 : Free (pre1 fr to_) := kAt_free _ _
  have f2 : Free (pre2 fr to_ n) := kAt_free _ _
  have hop : op ≠ 0 := by
    rintro rfl
    rcases h.form with ⟨e, -⟩ | ⟨e, -⟩
    · exact absurd e (by decide +kernel)
    · exact absurd e (by decide +kernel)
  have eI : asmI [] 1 ((pre1 fr to_ ++ Kd.here :: pre2 fr to_ n).map (dK (bdOf wd two)) ++ [d0]) = itemsL (biOf op rb) fr to_ n := full_I h.br f1 f2
  have eM := full_M h.br f1 f2
  have hI1 : -32768 ≤ immL op fr to_ ∧ immL op fr to_ ≤ 32767 := by
    unfold immL
    split <;> omega
  have hok := ok_br h.form hI1.1 hI1.2
  have hr := encv_range hok
  obtain ⟨k, hk⟩ := Int.eq_ofNat_of_zero_le hr.1
  have hc := cand_enc hok hk
  have hw := word_at (op := op) (rb := rb) h1 h3
  rw [if_pos hok, hk] at hw
  refine Calls.mono (assemble_any _ _ w ht hv hs (lins_all h.br _) (full_ok h.br f1 f2 (by rw [pre1_len, pre2_len]; omega)) ?_) ?_
  · rw [eI, eM]
    exact items_res hop h1 h2
  · rintro e w' ⟨u, rfl, hu, hb⟩
    rw [eI, eM] at hu
    exact ⟨u, _, k, rfl, hu, by rw [resW_len, items_len h1], hw, by omega, by rw [hc]; exact hok, by unfold dec; rw [hc, if_pos hok], hb⟩
end Go.Proofs.YthcmeboepedelaaDoor
