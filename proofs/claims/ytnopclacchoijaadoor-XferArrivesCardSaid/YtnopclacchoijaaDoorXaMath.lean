/-
  What is acknowledged, what has come, what befalls a round's notes; the law's own times and fate.
-/
import Derived.Test.YtnopclacchoijaaDoorXferComesWalk
import Derived.Test.YtnopclacchoijaaDoorXfRound2
import Derived.Test.YtnopclacchoijaaDoorXfAck
namespace Go.Proofs.YtnopclacchoijaaDoor
open Go.RowKit FerryCrc
set_option linter.unusedVariables false
set_option linter.unusedSimpArgs false

/-- What is true here is true there. -/
def Tle (F G : List Bool) : Prop := ∀ i : Nat, F[i]? = some true → G[i]? = some true
theorem Tle.refl (F : List Bool) : Tle F F := fun _ h => h
theorem Tle.trans {F G C : List Bool} (h : Tle F G) (g : Tle G C) : Tle F C := fun i x => g i (h i x)
theorem tle_set (G : List Bool) (j : Nat) : Tle G (G.set j true) := by
  intro i h
  rw [List.getElem?_set]
  split
  · rename_i e
    subst e
    rw [if_pos (List.getElem?_eq_some_iff.1 h).1]
  · exact h
theorem Tle.put {G C : List Bool} (h : Tle G C) {j : Nat} (hj : C[j]? = some true) : Tle (G.set j true) C := by
  intro i hi
  rw [List.getElem?_set] at hi
  split at hi
  · rename_i e
    subst e
    exact hj
  · exact h i hi
theorem tle_new (n : Nat) (C : List Bool) : Tle (List.replicate n false) C := by
  intro i h
  rw [List.getElem?_replicate] at h
  split at h <;> simp at h
/-- The numbers of the pieces that are due. -/
def duI (F : List Bool) : List Nat := (List.range F.length).filter (fun i => !((F[i]?).getD true))
theorem duI_at {F : List Bool} {j : Nat} (hm : j ∈ duI F) : j < F.length ∧ F[j]? = some false := by
  unfold duI at hm
  rw [List.mem_filter, List.mem_range] at hm
  obtain ⟨h1, h2⟩ := hm
  refine ⟨h1, ?_⟩
  rw [List.getElem?_eq_getElem h1] at h2 ⊢
  cases hv : F[j] with
  | true => rw [hv] at h2; simp at h2
  | false => rfl
theorem duI_mem {F : List Bool} {j : Nat} (h : F[j]? = some false) : j ∈ duI F := by
  unfold duI
  rw [List.mem_filter, List.mem_range]
  exact ⟨(List.getElem?_eq_some_iff.1 h).1, by rw [h]; rfl⟩
theorem duI_len (F : List Bool) : (duI F).length ≤ F.length := by
  unfold duI
  refine Nat.le_trans (List.length_filter_le _ _) ?_
  rw [List.length_range]
  exact Nat.le_refl _
theorem due_idx (f : Nat → Nt) (F : List Bool) : dueN ((List.range F.length).map f) F = (duI F).map f := by
  have h : ((List.range F.length).map f).zip F = (List.range F.length).map (fun i => (f i, (F[i]?).getD true)) := by
    apply List.ext_getElem?
    intro k
    rw [List.zip_eq_zipWith, List.getElem?_zipWith, List.getElem?_map, List.getElem?_map]
    by_cases hk : k < F.length
    · rw [List.getElem?_range hk, List.getElem?_eq_getElem hk]
      simp [hk]
    · rw [List.getElem?_eq_none (l := List.range F.length) (by simp; omega)]
      rfl
  unfold dueN duI
  rw [h, List.filter_map, List.map_map]
  rfl
theorem sent_due {pt b r m st : Int} {L : List Nat} (hL : ∀ c ∈ L, c < 256) (h : cutE pt b r m st L.length = 0) (k : Nat) {F : List Bool} (hF : F.length = tot L) :
    pieE ⟨pt, b, r, m, st, str L, (k : Int)⟩ (tot L) = 0 ∧ dueL ⟨pt, b, r, m, st, str L, (k : Int)⟩ F = (duI F).map (ntOf pt b r m st L) := by
  have hb := bytesOf_str hL
  have h1 : pieE ⟨pt, b, r, m, st, str L, (k : Int)⟩ (tot L) = 0 := by
    unfold pieE
    simp only
    rw [str_len, hb, if_pos ⟨h, rfl, by omega⟩]
  refine ⟨h1, ?_⟩
  unfold dueL pieL
  rw [hF, if_pos h1]
  simp only
  rw [hb]
  unfold cutN
  rw [← hF]
  exact due_idx _ _
theorem ack_chk {pt b r m st : Int} {L : List Nat} (h : cutE pt b r m st L.length = 0) {i : Nat} (hi : i < tot L) : chk ⟨7, pt, b, r, m, st, (i : Int), (tot L : Int), 0, ⟨#[]⟩⟩ = 0 := by
  obtain ⟨h1, h2, h3, h4⟩ := cutE_open h
  obtain ⟨t1, t2, t3, t4⟩ := tot_bounds h3 h4
  unfold chk
  rw [if_neg (by simp), if_pos]
  unfold nmN stagedN countedN filledN
  simp only [Bool.and_eq_true, h1, h2, true_and]
  rw [if_pos (by decide), if_pos (by decide), if_neg (by decide)]
  simp only [Bool.and_eq_true, h1, h2, true_and, decide_eq_true_eq, okTot_iff]
  refine ⟨⟨⟨by omega, by omega⟩, by omega⟩, rfl, rfl⟩
/-- An acknowledgement of a piece is heard. -/
theorem ack_step {pt b r m st : Int} {L : List Nat} (hL : ∀ c ∈ L, c < 256) (hc : cutE pt b r m st L.length = 0) {t j k : Nat} (ht : tot L = t) (hj : j < t) {F : List Bool} (hFt : F.length = t)
    {w : World} {E : Nat → Addr} (he : Er7 w E) {fa : Option Addr} {fc : Nat} (hF : Fls w fa t fc F) :
    Calls Tryd.prog 23 #[.agg #[.int .i64 pt, .int .i64 b, .int .i64 r, .int .i64 m, .int .i64 st, .string (str L), .slice fa t fc, .int .i64 (k : Int)], .agg #[.int .i64 7, .int .i64 pt, .int .i64 b, .int .i64 r, .int .i64 m, .int .i64 st, .int .i64 (j : Int), .int .i64 (t : Int), .int .u32 0, .string ⟨#[]⟩]] w fun e w' => ∃ qa qc y, e = .returned (.tuple #[.agg #[.int .i64 pt, .int .i64 b, .int .i64 r, .int .i64 m, .int .i64 st, .string (str L), .slice qa t qc, .int .i64 (k : Int)], .bool y, .nilIface]) ∧ FlOwn w' w.heap.size (.slice qa t qc) (F.set j true) ∧ Below w.heap.size w w' := by
  subst ht
  obtain ⟨h1, h2, h3, h4⟩ := cutE_open hc
  obtain ⟨t1, t2, t3, t4⟩ := tot_bounds h3 h4
  have hp := (sent_due hL hc k hFt).1
  have hk := ack_any pt b r m st (str L) (k : Int) fa (tot L) fc F 7 pt b r m st (j : Int) (tot L : Int) 0 ⟨#[]⟩ he (by rw [str_len]; omega) hF (by decide) (by omega) (by omega)
  have hE : ackE ⟨pt, b, r, m, st, str L, (k : Int)⟩ (tot L) ⟨7, pt, b, r, m, st, (j : Int), (tot L : Int), 0, ⟨#[]⟩⟩ = 0 := by
    unfold ackE
    rw [if_pos hp, if_pos (ack_chk hc hj), if_pos rfl, if_pos]
    simp [sameSd]
  have hS : ackS ⟨pt, b, r, m, st, str L, (k : Int)⟩ (tot L) ⟨7, pt, b, r, m, st, (j : Int), (tot L : Int), 0, ⟨#[]⟩⟩ = ⟨pt, b, r, m, st, str L, (k : Int)⟩ := if_pos hE
  have hA : ackA ⟨pt, b, r, m, st, str L, (k : Int)⟩ F ⟨7, pt, b, r, m, st, (j : Int), (tot L : Int), 0, ⟨#[]⟩⟩ = F.set j true := by
    unfold ackA
    rw [hFt, if_pos hE]
    rfl
  rw [hE, hS, hA] at hk
  refine hk.mono ?_
  rintro e w' ⟨v, rfl, o1, b1⟩
  obtain ⟨qa, qc, rfl, -⟩ := o1.rcs
  rw [List.length_set, hFt] at o1 ⊢
  exact ⟨qa, qc, _, rfl, o1, b1⟩
theorem anyN_no {F : List Bool} (h : ∀ i, i < F.length → F[i]? = some true) : anyN F = false := by
  unfold anyN
  rw [List.any_eq_false]
  intro y hy
  obtain ⟨i, hi⟩ := List.mem_iff_getElem?.1 hy
  have := h i (List.getElem?_eq_some_iff.1 hi).1
  rw [hi] at this
  simp only [Option.some.injEq] at this
  rw [this]
  decide
theorem all_of {F C : List Bool} (h : anyN F = false) (hl : C.length = F.length) (hT : Tle F C) : C.all id = true := by
  rw [List.all_eq_true]
  intro y hy
  obtain ⟨i, hi⟩ := List.mem_iff_getElem?.1 hy
  have hil : i < F.length := by
    have := (List.getElem?_eq_some_iff.1 hi).1
    omega
  unfold anyN at h
  rw [List.any_eq_false] at h
  have h1 := h _ (List.getElem_mem hil)
  have h2 := hT i (by
    rw [List.getElem?_eq_getElem hil]
    cases hv : F[i] with
    | true => rfl
    | false => rw [hv] at h1; simp at h1)
  rw [hi] at h2
  simp only [Option.some.injEq] at h2
  rw [h2]
  rfl
/-- All is acknowledged, where each that was due is. -/
theorem all_acked {F G : List Bool} (hl : G.length = F.length) (hT : Tle F G) (hd : ∀ x ∈ duI F, G[x]? = some true) : anyN G = false := by
  refine anyN_no fun i hi => ?_
  have hil : i < F.length := by omega
  cases hv : F[i] with
  | true => exact hT i (by rw [List.getElem?_eq_getElem hil, hv])
  | false => exact hd i (duI_mem (by rw [List.getElem?_eq_getElem hil, hv]))
/-- How often a note of that fate comes. -/
def tms (f : Int) : Nat := if f = 1 then 0 else if f = 2 then 2 else 1
def fat (l : List Int) (i : Nat) : Int := (l[i % l.length]?).getD 0
theorem tms_le (f : Int) : tms f ≤ 2 := by unfold tms; split <;> (try split) <;> omega
theorem tms_pos {f : Int} (h : f ≠ 1) : 1 ≤ tms f := by unfold tms; rw [if_neg h]; split <;> omega
set_option maxRecDepth 100000 in
theorem times_any (f : Int) (w : World) : Calls Tryd.prog 34 #[.int .i64 f] w fun e w' => e = .returned (.int .i64 (tms f : Int)) ∧ w' = w := by
  by_cases h1 : f = 1
  · subst h1
    go_enter Tryd.func34, Tryd.ntmps34
    go_wp2
    go_ret
    exact ⟨rfl, rfl⟩
  · by_cases h2 : f = 2
    · subst h2
      go_enter Tryd.func34, Tryd.ntmps34
      go_wp2
      go_ret
      exact ⟨rfl, rfl⟩
    · have e1 : (f == 1) = false := by simpa using h1
      have e2 : (f == 2) = false := by simpa using h2
      have HT : Hid (tms f = 1) := by unfold Hid tms; rw [if_neg h1, if_neg h2]
      clear h1 h2
      go_enter Tryd.func34, Tryd.ntmps34
      go_wp2
      go_ret
      exact ⟨by rw [HT.out]; rfl, rfl⟩
set_option maxRecDepth 100000 in
theorem fate_any {w : World} (a : Option Addr) (n c : Nat) (l : List Int) (i : Nat) (hs : Ins w a n c l) (hi : i < 9223372036854775807) : Calls Tryd.prog 35 #[.slice a n c, .int .i64 (i : Int)] w fun e w' => e = .returned (.int .i64 (fat l i)) ∧ w' = w := by
  have hl := hs.size
  by_cases h0 : n = 0
  · subst h0
    have HF : Hid (fat l i = 0) := by
      unfold Hid fat
      rw [List.length_eq_zero_iff.1 hl]
      rfl
    clear hs hl
    go_enter Tryd.func35, Tryd.ntmps35
    go_wp2
    go_ret
    exact ⟨by rw [HF.out]; rfl, rfl⟩
  · obtain ⟨q, hq⟩ : ∃ q, i % n = q := ⟨_, rfl⟩
    have hqn : q < n := by rw [← hq]; exact Nat.mod_lt _ (by omega)
    obtain ⟨x, hx⟩ : ∃ x, l[q]? = some x := ⟨_, List.getElem?_eq_getElem (by omega)⟩
    have HF : Hid (fat l i = x) := by
      unfold Hid fat
      rw [hl, hq, hx]
      rfl
    obtain ⟨ob, oo, rfl, hcx⟩ := hs.at iv1 (by decide) hx
    have o0 := hcx 0 _ rfl
    rw [Nat.mul_one, Nat.add_zero] at o0
    have e1 : ((n : Int) == 0) = false := by simp; omega
    have e2 : (i : Int).tmod (n : Int) = (q : Int) := by rw [Int.tmod_eq_emod_of_nonneg (by omega), ← Int.natCast_emod, hq]
    have e3 : ¬ (q : Int) < 0 := by omega
    have e4 : (q : Int) < (n : Int) := by omega
    have e5 : ¬ n = 0 := h0
    clear hcx hx hs hl hq h0
    go_enter Tryd.func35, Tryd.ntmps35
    go_wp2
    go_ret
    exact ⟨by rw [HF.out]; rfl, rfl⟩
end Go.Proofs.YtnopclacchoijaaDoor
