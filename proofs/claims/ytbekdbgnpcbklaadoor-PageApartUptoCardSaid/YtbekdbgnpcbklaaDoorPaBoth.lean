/-
  What the program's and the document's calls on pages answer, both in one: for any size.
-/
import Derived.Test.YtbekdbgnpcbklaaDoorPgRefOut
import Derived.Test.YtbekdbgnpcbklaaDoorPgRefIn
import Derived.Test.YtbekdbgnpcbklaaDoorPgPokes
import Derived.Test.YtbekdbgnpcbklaaDoorPgSame
import Derived.Test.YtbekdbgnpcbklaaDoorPgMark
import Derived.Test.YtbekdbgnpcbklaaDoorPgEq
import Derived.Test.YtbekdbgnpcbklaaDoorPgKnown
import Derived.Test.YtbekdbgnpcbklaaDoorPaSl
namespace Go.Proofs.YtbekdbgnpcbklaaDoor
open Go.RowKit FerryCrc
set_option linter.unusedVariables false
set_option linter.unusedSimpArgs false

theorem least_of {P : Nat → Prop} (h : ∃ n, P n) : ∃ n, P n ∧ ∀ k, k < n → ¬ P k := by
  obtain ⟨n, hn⟩ := h
  induction n using Nat.strongRecOn with
  | ind n ih =>
    by_cases hk : ∃ k, k < n ∧ P k
    · obtain ⟨k, h1, h2⟩ := hk
      exact ih k h1 h2
    · exact ⟨n, hn, fun k h1 h2 => hk ⟨k, h1, h2⟩⟩
theorem stv_len (l : List Pg) (n s v : Nat) : (stv l n s v).length ≤ l.length := by
  unfold stv
  split
  · rw [stored_len]; exact Nat.le_refl _
  · simp
theorem stv_ok {l : List Pg} (h : Oks l) (n s v : Nat) : Oks (stv l n s v) := by
  unfold stv
  split
  · exact stored_ok h n s v
  · intro p hp; simp at hp
theorem oks_nil : Oks [] := fun p hp => by simp at hp
theorem store_both (E : Nat → Addr) (l : List Pg) {len : Nat} (hl : l.length = len) (ad vv : Nat) (sz : Int) (ok : Oks l) (hm : l.length ≤ 1048576) (okad : ad < 4294967296) (okv : vv < 4294967296) :
    ∃ (L : List Pg) (f : Int) (k : Nat) (v : Value), Oks L ∧ L.length ≤ 1048576 ∧ Bare E v k ∧
      (∀ w a cap, Pgs w a len cap l → Calls Tryd.prog 6 #[.slice a len cap, .int .u32 (ad : Int), .int .i64 sz, .int .u32 (vv : Int)] w fun e w' => ∃ x, e = .returned (.tuple #[x, .int .i64 f, .int .i64 (k : Int)]) ∧ POwn w' w.heap.size x L ∧ Below w.heap.size w w') ∧
      (∀ w a cap, Errs w E → Pgs w a len cap l → Calls Tryd.prog 9 #[.slice a len cap, .int .u32 (ad : Int), .int .i64 sz, .int .u32 (vv : Int)] w fun e w' => ∃ x, e = .returned (.tuple #[x, .int .i64 f, v]) ∧ POwn w' w.heap.size x L ∧ Below w.heap.size w w') := by
  subst hl
  by_cases hz : sz = 1 ∨ sz = 2 ∨ sz = 4
  · obtain ⟨s, rfl, hzs⟩ := sized_int hz
    refine ⟨stv l ad s vv, ((nfault l ad s 1 : Nat) : Int), 0, .nilIface, stv_ok ok _ _ _, Nat.le_trans (stv_len _ _ _ _) hm, bare_nil E, fun w a cap h => ?_, fun w a cap he h => store_any a _ cap l ad s vv w h okad hzs okv⟩
    exact refStore_any a _ cap l ad s vv w h okad hzs okv
  · have hz1 : ¬ sz = 1 := fun e => hz (.inl e)
    have hz2 : ¬ sz = 2 := fun e => hz (.inr (.inl e))
    have hz4 : ¬ sz = 4 := fun e => hz (.inr (.inr e))
    refine ⟨[], 0, 12, sent (E 12), oks_nil, by simp, bare_sent E 12 (by decide) (by decide), fun w a cap h => ?_, fun w a cap he h => ?_⟩
    · refine (refStore_bad a l.length cap ad sz vv w hz1 hz2 hz4).mono ?_
      rintro e w' ⟨rfl, rfl⟩
      exact ⟨_, rfl, pown_nil _ _, Below.refl _ _⟩
    · refine (store_bad he.v12 a l.length cap ad sz vv hz1 hz2 hz4).mono ?_
      rintro e w' ⟨rfl, b⟩
      exact ⟨_, rfl, pown_nil _ _, b⟩
theorem in_both (l : List Pg) {len : Nat} (hl : l.length = len) (ad : Nat) (D : List Nat) (ok : Oks l) (hm : l.length ≤ 1048576) (okad : ad < 4294967296) (hD : ∀ c ∈ D, c < 256) (hDl : D.length ≤ 9223372036854775807) :
    ∃ (L : List Pg) (f : Int), Oks L ∧ L.length ≤ 1048576 ∧
      (∀ w a cap, Pgs w a len cap l → Calls Tryd.prog 7 #[.slice a len cap, .int .u32 (ad : Int), .string (str D)] w fun e w' => ∃ x, e = .returned (.tuple #[x, .int .i64 f]) ∧ POwn w' w.heap.size x L ∧ Below w.heap.size w w') ∧
      (∀ w a cap, Pgs w a len cap l → Calls Tryd.prog 10 #[.slice a len cap, .int .u32 (ad : Int), .string (str D)] w fun e w' => ∃ x, e = .returned (.tuple #[x, .int .i64 f]) ∧ POwn w' w.heap.size x L ∧ Below w.heap.size w w') := by
  subst hl
  obtain ⟨f, hf⟩ : ∃ f, RF (fun a => bfault l a 1) ad D.length f := by
    by_cases h : ∀ i, i < D.length → bfault l (ad + i) 1 = 0
    · exact ⟨0, .inl ⟨rfl, h⟩⟩
    · obtain ⟨i, hi⟩ := Classical.not_forall.1 h
      obtain ⟨hi1, hi2⟩ := Classical.not_imp.1 hi
      obtain ⟨j, ⟨hj1, hj2⟩, hj3⟩ := least_of (P := fun i => i < D.length ∧ bfault l (ad + i) 1 ≠ 0) ⟨i, hi1, hi2⟩
      exact ⟨bfault l (ad + j) 1, .inr ⟨j, hj1, fun k hk => Classical.byContradiction fun hn => hj3 k hk ⟨by omega, hn⟩, rfl, hj2⟩⟩
  have hfe : (fun a => bflt l a 1) = (fun a => bfault l a 1) := funext fun a => bflt_short (by omega) a 1
  refine ⟨if f = 0 then put_in l ad D else [], (f : Int), ?_, ?_, fun w a cap h => ?_, fun w a cap h => ?_⟩
  · split
    · exact put_in_ok ok ad hD
    · exact oks_nil
  · split
    · rw [put_in_len]; exact hm
    · simp
  · refine (refIn_any a _ cap l ad D w h okad hD hDl (by omega)).mono ?_
    rintro e w' ⟨f', x, rfl, hr, _, ho, b⟩
    obtain rfl := hr.uniq hf
    exact ⟨x, rfl, ho, b⟩
  · refine (in_any a _ cap l ad D w h okad hD hDl).mono ?_
    rintro e w' ⟨f', x, rfl, hr, _, ho, b⟩
    rw [hfe] at hr
    obtain rfl := hr.uniq hf
    exact ⟨x, rfl, ho, b⟩
theorem out_both (E : Nat → Addr) (l : List Pg) {len : Nat} (hl : l.length = len) (ad : Nat) (sz : Int) (hm : l.length ≤ 1048576) (okad : ad < 4294967296) (hs1 : -9223372036854775808 ≤ sz) (hs2 : sz ≤ 9223372036854775807) :
    ∃ (S : ByteArray) (f : Int) (k : Nat) (v : Value), Bare E v k ∧
      (∀ w a cap, Pgs w a len cap l → Calls Tryd.prog 8 #[.slice a len cap, .int .u32 (ad : Int), .int .i64 sz] w fun e w' => e = .returned (.tuple #[.string S, .int .i64 f, .int .i64 (k : Int)]) ∧ Below w.heap.size w w') ∧
      (∀ w a cap, Errs w E → Pgs w a len cap l → Calls Tryd.prog 11 #[.slice a len cap, .int .u32 (ad : Int), .int .i64 sz] w fun e w' => e = .returned (.tuple #[.string S, .int .i64 f, v]) ∧ Below w.heap.size w w') := by
  subst hl
  by_cases hz : 0 ≤ sz
  · obtain ⟨s, rfl⟩ := Int.eq_ofNat_of_zero_le hz
    obtain ⟨f, hf⟩ : ∃ f, RF (fun a => bfault l a 0) ad s f := by
      by_cases h : ∀ i, i < s → bfault l (ad + i) 0 = 0
      · exact ⟨0, .inl ⟨rfl, h⟩⟩
      · obtain ⟨i, hi⟩ := Classical.not_forall.1 h
        obtain ⟨hi1, hi2⟩ := Classical.not_imp.1 hi
        obtain ⟨j, ⟨hj1, hj2⟩, hj3⟩ := least_of (P := fun i => i < s ∧ bfault l (ad + i) 0 ≠ 0) ⟨i, hi1, hi2⟩
        exact ⟨bfault l (ad + j) 0, .inr ⟨j, hj1, fun k hk => Classical.byContradiction fun hn => hj3 k hk ⟨by omega, hn⟩, rfl, hj2⟩⟩
    have hfe : (fun a => bflt l a 0) = (fun a => bfault l a 0) := funext fun a => bflt_short (by omega) a 0
    refine ⟨str (if f = 0 then rdB l ad s else []), (f : Int), 0, .nilIface, bare_nil E, fun w a cap h => ?_, fun w a cap he h => ?_⟩
    · refine (refOut_any a _ cap l ad s w h okad (by omega) (by omega)).mono ?_
      rintro e w' ⟨f', rfl, hr, _, b⟩
      obtain rfl := hr.uniq hf
      exact ⟨rfl, b⟩
    · refine (out_any a _ cap l ad s w h okad (by omega)).mono ?_
      rintro e w' ⟨f', rfl, hr, _, b⟩
      rw [hfe] at hr
      obtain rfl := hr.uniq hf
      exact ⟨rfl, b⟩
  · refine ⟨str [], 0, 12, sent (E 12), bare_sent E 12 (by decide) (by decide), fun w a cap h => ?_, fun w a cap he h => out_bad he.v12 a l.length cap ad sz (by omega)⟩
    refine (refOut_bad a l.length cap ad sz w (by omega)).mono ?_
    rintro e w' ⟨rfl, rfl⟩
    exact ⟨rfl, Below.refl _ _⟩
theorem load_both (E : Nat → Addr) (l : List Pg) {len : Nat} (hl : l.length = len) (ad : Nat) (sz : Int) (okad : ad < 4294967296) :
    ∃ (x f : Int) (k : Nat) (v : Value), Bare E v k ∧
      (∀ w a cap, Pgs w a len cap l → Calls Tryd.prog 12 #[.slice a len cap, .int .u32 (ad : Int), .int .i64 sz] w fun e w' => e = .returned (.tuple #[.int .u32 x, .int .i64 f, .int .i64 (k : Int)]) ∧ Below w.heap.size w w') ∧
      (∀ w a cap, Errs w E → Pgs w a len cap l → Calls Tryd.prog 13 #[.slice a len cap, .int .u32 (ad : Int), .int .i64 sz] w fun e w' => e = .returned (.tuple #[.int .u32 x, .int .i64 f, v]) ∧ Below w.heap.size w w') := by
  subst hl
  by_cases hz : sz = 1 ∨ sz = 2 ∨ sz = 4
  · obtain ⟨s, rfl, hzs⟩ := sized_int hz
    refine ⟨((ldv l ad s 0 : Nat) : Int), ((nfault l ad s 0 : Nat) : Int), 0, .nilIface, bare_nil E, fun w a cap h => ?_, fun w a cap he h => ?_⟩
    rotate_left
    · refine (load_any a _ cap l ad s w h okad hzs).mono ?_
      rintro e w' ⟨rfl, rfl⟩
      exact ⟨rfl, Below.refl _ _⟩
    · refine (refLoad_any a _ cap l ad s w h okad hzs).mono ?_
      rintro e w' ⟨rfl, rfl⟩
      exact ⟨rfl, Below.refl _ _⟩
  · have hz1 : ¬ sz = 1 := fun e => hz (.inl e)
    have hz2 : ¬ sz = 2 := fun e => hz (.inr (.inl e))
    have hz4 : ¬ sz = 4 := fun e => hz (.inr (.inr e))
    refine ⟨0, 0, 12, sent (E 12), bare_sent E 12 (by decide) (by decide), fun w a cap h => ?_, fun w a cap he h => load_bad he.v12 a l.length cap ad sz hz1 hz2 hz4⟩
    refine (refLoad_bad a l.length cap ad sz w hz1 hz2 hz4).mono ?_
    rintro e w' ⟨rfl, rfl⟩
    exact ⟨rfl, Below.refl _ _⟩
theorem fetch_both (l : List Pg) {len : Nat} (hl : l.length = len) (ad : Nat) (okad : ad < 4294967296) :
    ∃ (x f : Int),
      (∀ w a cap, Pgs w a len cap l → Calls Tryd.prog 14 #[.slice a len cap, .int .u32 (ad : Int)] w fun e w' => e = .returned (.tuple #[.int .u32 x, .int .i64 f]) ∧ Below w.heap.size w w') ∧
      (∀ w a cap, Pgs w a len cap l → Calls Tryd.prog 15 #[.slice a len cap, .int .u32 (ad : Int)] w fun e w' => e = .returned (.tuple #[.int .u32 x, .int .i64 f]) ∧ Below w.heap.size w w') := by
  subst hl
  refine ⟨((ldv l ad 4 2 : Nat) : Int), ((nfault l ad 4 2 : Nat) : Int), fun w a cap h => ?_, fun w a cap h => ?_⟩
  rotate_left
  · refine (fetch_any a _ cap l ad w h okad).mono ?_
    rintro e w' ⟨rfl, rfl⟩
    exact ⟨rfl, Below.refl _ _⟩
  · refine (refFetch_any a _ cap l ad w h okad).mono ?_
    rintro e w' ⟨rfl, rfl⟩
    exact ⟨rfl, Below.refl _ _⟩
end Go.Proofs.YtbekdbgnpcbklaaDoor
