/-
  Take and Whole of what has come of an image.
-/
import Derived.Test.YtnopclacchoijaaDoorXfAwake
namespace Go.Proofs.YtnopclacchoijaaDoor
open Go.RowKit FerryCrc
set_option linter.unusedVariables false
set_option linter.unusedSimpArgs false

theorem Rst.sizes {pt b r m st : Int} {L : List Nat} {on : Bool} {S : Sg} {P : List ByteArray} {C : List Bool} (hr : Rst pt b r m st L on S P C) : ∀ x ∈ P, x.size ≤ 9223372036854775807 := by
  intro x hx
  rcases hr.2 with ⟨_, _, rfl, _⟩ | ⟨_, _, rfl, _⟩
  · simp at hx
  · obtain ⟨i, _, rfl⟩ := List.mem_map.1 hx
    split
    · rw [pcs_size]; omega
    · decide
theorem take_step {pt b r m st : Int} {L : List Nat} (hc : cutE pt b r m st L.length = 0) {on : Bool} {x1 x2 x3 x4 x5 x6 : Int} {P : List ByteArray} {C : List Bool} (hr : Rst pt b r m st L on ⟨x1, x2, x3, x4, x5, x6⟩ P C) {t j : Nat} (ht : tot L = t) (hj : j < t)
    {w : World} {E : Nat → Addr} (he : Er7 w E) {pa : Option Addr} {pn pc : Nat} (hP : Txs w pa pn pc P) :
    Calls Tryd.prog 29 #[.agg #[.bool on, .int .i64 x1, .int .i64 x2, .int .i64 x3, .int .i64 x4, .int .i64 x5, .int .i64 x6, .slice pa pn pc], .agg #[.int .i64 1, .int .i64 pt, .int .i64 b, .int .i64 r, .int .i64 m, .int .i64 st, .int .i64 (j : Int), .int .i64 (t : Int), .int .u32 0, .string (pcs L j)]] w fun e w' => ∃ qa qc P', e = .returned (.tuple #[.agg #[.bool true, .int .i64 pt, .int .i64 st, .int .i64 (t : Int), .int .i64 b, .int .i64 r, .int .i64 m, .slice qa t qc], .agg #[.int .i64 7, .int .i64 pt, .int .i64 b, .int .i64 r, .int .i64 m, .int .i64 st, .int .i64 (j : Int), .int .i64 (t : Int), .int .u32 0, .string ⟨#[]⟩], .nilIface]) ∧ TxOwn w' w.heap.size (.slice qa t qc) P' ∧ Rst pt b r m st L true ⟨pt, st, (t : Int), b, r, m⟩ P' (C.set j true) ∧ Below w.heap.size w w' := by
  subst ht
  obtain ⟨t1, t2, -⟩ := tot_bounds (cutE_open hc).2.2.1 (cutE_open hc).2.2.2
  obtain ⟨h1, h2, h3⟩ := hr.take hc hj
  have hS : takS on ⟨x1, x2, x3, x4, x5, x6⟩ P (ntOf pt b r m st L j) = ⟨pt, st, (tot L : Int), b, r, m⟩ := by
    rcases h2.2 with ⟨h, _⟩ | ⟨_, h, _⟩
    · cases h
    · exact h
  have hlen : (takP on ⟨x1, x2, x3, x4, x5, x6⟩ P (ntOf pt b r m st L j)).length = tot L := by
    rcases h2.2 with ⟨h, _⟩ | ⟨_, _, h, _⟩
    · cases h
    · rw [h, pie_len]; exact h2.1
  have hk := take_any on x1 x2 x3 x4 x5 x6 pa pn pc P 1 pt b r m st (j : Int) (tot L : Int) 0 (pcs L j) he hP hr.sizes (by rw [pcs_size]; omega) (by omega) (by omega)
  rw [show (⟨1, pt, b, r, m, st, (j : Int), (tot L : Int), 0, pcs L j⟩ : Nt) = ntOf pt b r m st L j from rfl, h1, hS, h3] at hk
  refine hk.mono ?_
  rintro e w' ⟨v, rfl, o1, b1⟩
  obtain ⟨qa, qc, rfl, -⟩ := o1.rcs
  rw [hlen] at o1 ⊢
  rw [hS] at h2
  exact ⟨qa, qc, _, rfl, o1, h2, b1⟩
theorem whole_step {pt b r m st : Int} {L : List Nat} (hL : ∀ c ∈ L, c < 256) (hc : cutE pt b r m st L.length = 0) {on : Bool} {x1 x2 x3 x4 x5 x6 : Int} {P : List ByteArray} {C : List Bool} (hr : Rst pt b r m st L on ⟨x1, x2, x3, x4, x5, x6⟩ P C)
    {w : World} {E : Nat → Addr} (he : Er7 w E) {pa : Option Addr} {pn pc : Nat} (hP : Txs w pa pn pc P) :
    Calls Tryd.prog 33 #[.agg #[.bool on, .int .i64 x1, .int .i64 x2, .int .i64 x3, .int .i64 x4, .int .i64 x5, .int .i64 x6, .slice pa pn pc]] w fun e w' => ∃ v n' c', e = .returned (.tuple #[.slice v n' c', .bool (C.all id), .nilIface]) ∧ Bts w' v n' c' (if C.all id = true then L else []) ∧ Below w.heap.size w w' := by
  obtain ⟨h1, h2, h3⟩ := hr.whole hL hc
  have hk := rwhole_any on x1 x2 x3 x4 x5 x6 pa pn pc P he hP hr.sizes
  rw [h1, h2, h3] at hk
  exact hk
end Go.Proofs.YtnopclacchoijaaDoor
