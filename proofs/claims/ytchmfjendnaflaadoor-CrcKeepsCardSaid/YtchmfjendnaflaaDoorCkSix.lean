/-
  Both sides' Open, Turn, Patch and Burst: the same bytes and numbers, each answer memory of its own.
-/
import Derived.Test.YtchmfjendnaflaaDoorCkLike
import Derived.Test.YtchmfjendnaflaaDoorBurstBoth
import Derived.Test.YtchmfjendnaflaaDoorRefSeal
import Derived.Test.YtchmfjendnaflaaDoorRefPatch
namespace Go.Proofs.YtchmfjendnaflaaDoor
open Go.RowKit FerryCrc
set_option linter.unusedVariables false
set_option linter.unusedSimpArgs false

/-- The six errors that crc's calls name. -/
structure K6 (w : World) (E : Nat → Addr) : Prop where
  v1 : w.cell? ⟨0, 0, none⟩ = some (sent (E 1))
  v4 : w.cell? ⟨5, 0, none⟩ = some (sent (E 4))
  v5 : w.cell? ⟨3, 0, none⟩ = some (sent (E 5))
  v6 : w.cell? ⟨1, 0, none⟩ = some (sent (E 6))
  v12 : w.cell? ⟨2, 0, none⟩ = some (sent (E 12))
  v17 : w.cell? ⟨4, 0, none⟩ = some (sent (E 17))
theorem K6.below {w w' : World} {E : Nat → Addr} (h : K6 w E) (hb : Below w.heap.size w w') : K6 w' E :=
  ⟨cell_below h.v1 hb, cell_below h.v4 hb, cell_below h.v5 hb, cell_below h.v6 hb, cell_below h.v12 hb, cell_below h.v17 hb⟩
theorem own_nil0 (w : World) (base : Nat) : Own w base (.slice none 0 0) [] := ⟨rfl, .inl ⟨rfl, rfl⟩⟩
/-- What a call answers that hands back bytes and something else. -/
def Two2 (w : World) (o : List Nat) (e : Ending) (w' : World) : Prop := ∃ v x, e = .returned (.tuple #[v, x]) ∧ Own w' w.heap.size v o ∧ Below w.heap.size w w'

theorem open_pair {l : List Nat} {n : Nat} (hl : l.length = n) (hs : ∀ c ∈ l, c < 256) : ∃ o : List Nat, o.length ≤ n ∧ (∀ c ∈ o, c < 256) ∧
    (∀ (E : Nat → Addr) (w : World) (a : Option Addr) (c : Nat), K6 w E → Bts w a n c l → Calls Tryd.prog 20 #[.slice a n c] w fun e w' => Two2 w o e w') ∧
    (∀ (w : World) (a : Option Addr) (c : Nat), Bts w a n c l → Calls Tryd.prog 19 #[.slice a n c] w fun e w' => Two2 w o e w') := by
  by_cases h4 : n < 4
  · refine ⟨[], Nat.zero_le _, fun c hc => by simp at hc, fun E w a c he hb => (open_short a n c (E 1) w he.v1 h4).mono ?_, fun w a c hb => (refOpen_short a n c w h4).mono ?_⟩
    · rintro e w' ⟨rfl, hb'⟩
      exact ⟨_, _, rfl, own_nil0 _ _, hb'⟩
    · rintro e w' ⟨rfl, rfl⟩
      exact ⟨_, _, rfl, own_nil0 _ _, Below.refl _ _⟩
  · have h4' : 4 ≤ n := by omega
    by_cases hg : Good l
    · refine ⟨l.take (n - 4), by rw [List.length_take]; omega, fun c hc => hs c (List.mem_of_mem_take hc), fun E w a c he hb => (open_any a n c l (E 6) w he.v6 hb h4').mono ?_, fun w a c hb => (refOpen_any a n c l w hb h4').mono ?_⟩
      · rintro e w' ⟨hb', ⟨_, g, rfl, ho⟩ | ⟨h, _⟩⟩
        · exact ⟨_, _, rfl, ho, hb'⟩
        · exact absurd hg h
      · rintro e w' ⟨hb', ⟨_, g, c', rfl, ho⟩ | ⟨h, _⟩⟩
        · exact ⟨_, _, rfl, ho, hb'⟩
        · exact absurd hg h
    · refine ⟨[], Nat.zero_le _, fun c hc => by simp at hc, fun E w a c he hb => (open_any a n c l (E 6) w he.v6 hb h4').mono ?_, fun w a c hb => (refOpen_any a n c l w hb h4').mono ?_⟩
      · rintro e w' ⟨hb', ⟨h, _⟩ | ⟨_, rfl⟩⟩
        · exact absurd h hg
        · exact ⟨_, _, rfl, own_nil0 _ _, hb'⟩
      · rintro e w' ⟨hb', ⟨h, _⟩ | ⟨_, rfl⟩⟩
        · exact absurd h hg
        · exact ⟨_, _, rfl, own_nil0 _ _, hb'⟩

theorem turn_pair {l : List Nat} {n : Nat} (hl : l.length = n) (hs : ∀ c ∈ l, c < 256) (hn : n ≤ 140737488354000) (pos : Int) (mask : Nat) (hm : mask < 4294967296) : ∃ o : List Nat, o.length ≤ n ∧ (∀ c ∈ o, c < 256) ∧
    (∀ (E : Nat → Addr) (w : World) (a : Option Addr) (c : Nat), K6 w E → Bts w a n c l → Calls Tryd.prog 22 #[.slice a n c, .int .i64 pos, .int .u32 (mask : Int)] w fun e w' => Two2 w o e w') ∧
    (∀ (w : World) (a : Option Addr) (c : Nat), Bts w a n c l → Calls Tryd.prog 23 #[.slice a n c, .int .i64 pos, .int .u32 (mask : Int)] w fun e w' => Two2 w o e w') := by
  by_cases hbad : mask = 0 ∨ pos < 0 ∨ 8 * (n : Int) - (lenOf mask : Int) < pos
  · refine ⟨[], Nat.zero_le _, fun c hc => by simp at hc, fun E w a c he hb => (turn_bad a n c pos mask (E 12) w he.v12 (by omega) hm hbad).mono ?_, fun w a c hb => ?_⟩
    · rintro e w' ⟨rfl, hb'⟩
      exact ⟨_, _, rfl, own_nil0 _ _, hb'⟩
    · by_cases hb2 : mask = 0 ∨ pos < 0 ∨ 8 * (n : Int) < pos
      · refine (refTurn_low a n c l pos mask w hb (by omega)).mono ?_
        rintro e w' ⟨rfl, rfl⟩
        exact ⟨_, _, rfl, own_nil0 _ _, Below.refl _ _⟩
      · obtain ⟨p, rfl⟩ : ∃ p : Nat, pos = (p : Int) := ⟨pos.toNat, by omega⟩
        have h0 : mask ≠ 0 := by omega
        refine (refTurn_any a n c l p mask w hb h0 hm (by omega)).mono ?_
        rintro e w' ⟨hb', ⟨hf, _⟩ | ⟨_, rfl⟩⟩
        · rw [fits_iff h0 hm] at hf
          omega
        · exact ⟨_, _, rfl, own_nil0 _ _, hb'⟩
  · obtain ⟨p, rfl⟩ : ∃ p : Nat, pos = (p : Int) := ⟨pos.toNat, by omega⟩
    have h0 : mask ≠ 0 := by omega
    have hfit : p + lenOf mask ≤ 8 * n := by omega
    have hlen : (turnTo l p mask 32).length = n := by rw [turnTo_length, hl]
    refine ⟨turnTo l p mask 32, by omega, turnTo_small _ _ _ hs, fun E w a c he hb => (turn_any a n c l p mask w hb h0 hm hfit).mono ?_, fun w a c hb => (refTurn_any a n c l p mask w hb h0 hm (by omega)).mono ?_⟩
    · rintro e w' ⟨g, rfl, ho, hb'⟩
      exact ⟨_, _, rfl, ho, hb'⟩
    · rintro e w' ⟨hb', ⟨_, g, c', rfl, ho⟩ | ⟨hf, _⟩⟩
      · exact ⟨_, _, rfl, ho, hb'⟩
      · exact absurd ((fits_iff h0 hm).2 hfit) hf

theorem patch_pair {l : List Nat} {n : Nat} (hl : l.length = n) (hs : ∀ c ∈ l, c < 256) (hn : n ≤ 140737488354000) (pos : Int) (mask : Nat) (hm : mask < 4294967296) : ∃ o : List Nat, o.length ≤ n ∧ (∀ c ∈ o, c < 256) ∧
    (∀ (E : Nat → Addr) (w : World) (a : Option Addr) (c : Nat), K6 w E → Bts w a n c l → Calls Tryd.prog 26 #[.slice a n c, .int .i64 pos, .int .u32 (mask : Int)] w fun e w' => Two2 w o e w') ∧
    (∀ (w : World) (a : Option Addr) (c : Nat), Bts w a n c l → Calls Tryd.prog 27 #[.slice a n c, .int .i64 pos, .int .u32 (mask : Int)] w fun e w' => Two2 w o e w') := by
  by_cases hbad : pos < 0 ∨ (n : Int) - 4 < pos
  · refine ⟨[], Nat.zero_le _, fun c hc => by simp at hc, fun E w a c he hb => (patch_bad a n c pos mask (E 12) w he.v12 (by omega) hbad).mono ?_, fun w a c hb => (refPatch_bad a n c pos mask w (by omega) hbad).mono ?_⟩
    · rintro e w' ⟨rfl, hb'⟩
      exact ⟨_, _, rfl, own_nil0 _ _, hb'⟩
    · rintro e w' ⟨rfl, rfl⟩
      exact ⟨_, _, rfl, own_nil0 _ _, Below.refl _ _⟩
  · obtain ⟨p, rfl⟩ : ∃ p : Nat, pos = (p : Int) := ⟨pos.toNat, by omega⟩
    have hp : p + 4 ≤ n := by omega
    refine ⟨patchOf l p mask, by rw [patchOf_length (by omega), hl]; exact Nat.le_refl _, patchOf_small hs, fun E w a c he hb => (patch_any a n c l p mask w hb hp hm).mono ?_, fun w a c hb => (refPatch_any a n c l p mask w hb hp hm).mono ?_⟩
    · rintro e w' ⟨g, rfl, ho, hb'⟩
      exact ⟨_, _, rfl, ho, hb'⟩
    · rintro e w' ⟨g, c', rfl, ho, hb'⟩
      exact ⟨_, _, rfl, ho, hb'⟩

/-- What Burst answers. -/
def Bst (w : World) (P M : Nat) (e : Ending) (w' : World) : Prop := ∃ x, e = .returned (.tuple #[.int .i64 (P : Int), .int .u32 (M : Int), x]) ∧ Below w.heap.size w w'
theorem burst_pair {l r : List Nat} {n m : Nat} (hl : l.length = n) (hs : ∀ c ∈ l, c < 256) (hr : r.length = m) (hs2 : ∀ c ∈ r, c < 256) : ∃ P M : Nat, M < 4294967296 ∧
    (∀ (E : Nat → Addr) (w : World) (a b : Option Addr) (ca cb : Nat), K6 w E → Bts w a n ca l → Bts w b m cb r → Calls Tryd.prog 25 #[.slice a n ca, .slice b m cb] w fun e w' => Bst w P M e w') ∧
    (∀ (w : World) (a b : Option Addr) (ca cb : Nat), Bts w a n ca l → Bts w b m cb r → Calls Tryd.prog 24 #[.slice a n ca, .slice b m cb] w fun e w' => Bst w P M e w') := by
  by_cases hn : n = m
  · subst hn
    by_cases hlr : l = r
    · subst hlr
      refine ⟨0, 0, by decide, fun E w a b ca cb he ha hb => (burst_none a b n ca cb l (E 17) w he.v17 ha hb).mono ?_, fun w a b ca cb ha hb => (refBurst_any a b n ca cb l l w ha hb).mono ?_⟩
      · rintro e w' ⟨rfl, hb'⟩
        exact ⟨_, rfl, hb'⟩
      · rintro e w' ⟨rfl, ⟨_, rfl⟩ | ⟨p, hp, _⟩⟩
        · exact ⟨_, rfl, Below.refl _ _⟩
        · rw [Nat.xor_self] at hp
          simp at hp
    · obtain ⟨f, t, mk⟩ := marks_of hl hr hlr
      have lo := mk.low hl hr hs hs2
      generalize 8 * f + low8 (dif l r f) = q at lo
      have hne : num l ^^^ num r ≠ 0 := by
        intro e
        rw [e] at lo
        simp at lo
      by_cases hbig : 32 < lenOf (num l ^^^ num r) - q
      · refine ⟨0, 0, by decide, fun E w a b ca cb he ha hb => (burst_any (E 4) w he.v4 ha hb hlr).mono ?_, fun w a b ca cb ha hb => (refBurst_any a b n ca cb l r w ha hb).mono ?_⟩
        · rintro e w' ⟨hw, p, h1, h2, ⟨_, rfl⟩ | ⟨h3, _⟩⟩
          · exact ⟨_, rfl, hw⟩
          · rw [low_uniq h1 h2 lo.1 lo.2] at h3
            omega
        · rintro e w' ⟨rfl, ⟨h0, _⟩ | ⟨p, h1, h2, ⟨_, rfl⟩ | ⟨h3, _⟩⟩⟩
          · exact absurd h0 hne
          · exact ⟨_, rfl, Below.refl _ _⟩
          · rw [low_uniq h1 h2 lo.1 lo.2] at h3
            omega
      · refine ⟨q, (num l ^^^ num r) / 2 ^ q % 4294967296, Nat.mod_lt _ (by decide), fun E w a b ca cb he ha hb => (burst_any (E 4) w he.v4 ha hb hlr).mono ?_, fun w a b ca cb ha hb => (refBurst_any a b n ca cb l r w ha hb).mono ?_⟩
        · rintro e w' ⟨hw, p, h1, h2, ⟨h3, _⟩ | ⟨_, rfl⟩⟩
          · rw [low_uniq h1 h2 lo.1 lo.2] at h3
            omega
          · rw [low_uniq h1 h2 lo.1 lo.2]
            exact ⟨_, rfl, hw⟩
        · rintro e w' ⟨rfl, ⟨h0, _⟩ | ⟨p, h1, h2, ⟨h3, _⟩ | ⟨_, rfl⟩⟩⟩
          · exact absurd h0 hne
          · rw [low_uniq h1 h2 lo.1 lo.2] at h3
            omega
          · rw [low_uniq h1 h2 lo.1 lo.2]
            exact ⟨_, rfl, Below.refl _ _⟩
  · refine ⟨0, 0, by decide, fun E w a b ca cb he ha hb => (burst_len a b n m ca cb (E 5) w he.v5 hn).mono ?_, fun w a b ca cb ha hb => (refBurst_len a b n m ca cb w hn).mono ?_⟩
    · rintro e w' ⟨rfl, hb'⟩
      exact ⟨_, rfl, hb'⟩
    · rintro e w' ⟨rfl, rfl⟩
      exact ⟨_, rfl, Below.refl _ _⟩
/-- All that the calls say of two lists, whichever side is asked. -/
structure Six (l r : List Nat) (n m : Nat) (pos : Int) (mask : Nat) (o t p : List Nat) (P M : Nat) : Prop where
  len : l.length = n
  small : ∀ c ∈ l, c < 256
  osz : o.length ≤ n ∧ ∀ c ∈ o, c < 256
  tsz : t.length ≤ n ∧ ∀ c ∈ t, c < 256
  psz : p.length ≤ n ∧ ∀ c ∈ p, c < 256
  popen : ∀ (E : Nat → Addr) (w : World) (a : Option Addr) (c : Nat), K6 w E → Bts w a n c l → Calls Tryd.prog 20 #[.slice a n c] w fun e w' => Two2 w o e w'
  ropen : ∀ (w : World) (a : Option Addr) (c : Nat), Bts w a n c l → Calls Tryd.prog 19 #[.slice a n c] w fun e w' => Two2 w o e w'
  pturn : ∀ (E : Nat → Addr) (w : World) (a : Option Addr) (c : Nat), K6 w E → Bts w a n c l → Calls Tryd.prog 22 #[.slice a n c, .int .i64 pos, .int .u32 (mask : Int)] w fun e w' => Two2 w t e w'
  rturn : ∀ (w : World) (a : Option Addr) (c : Nat), Bts w a n c l → Calls Tryd.prog 23 #[.slice a n c, .int .i64 pos, .int .u32 (mask : Int)] w fun e w' => Two2 w t e w'
  ppatch : ∀ (E : Nat → Addr) (w : World) (a : Option Addr) (c : Nat), K6 w E → Bts w a n c l → Calls Tryd.prog 26 #[.slice a n c, .int .i64 pos, .int .u32 (mask : Int)] w fun e w' => Two2 w p e w'
  rpatch : ∀ (w : World) (a : Option Addr) (c : Nat), Bts w a n c l → Calls Tryd.prog 27 #[.slice a n c, .int .i64 pos, .int .u32 (mask : Int)] w fun e w' => Two2 w p e w'
  pburst : ∀ (E : Nat → Addr) (w : World) (a b : Option Addr) (ca cb : Nat), K6 w E → Bts w a n ca l → Bts w b m cb r → Calls Tryd.prog 25 #[.slice a n ca, .slice b m cb] w fun e w' => Bst w P M e w'
  rburst : ∀ (w : World) (a b : Option Addr) (ca cb : Nat), Bts w a n ca l → Bts w b m cb r → Calls Tryd.prog 24 #[.slice a n ca, .slice b m cb] w fun e w' => Bst w P M e w'
theorem six_ex {l r : List Nat} {n m : Nat} (hl : l.length = n) (hs : ∀ c ∈ l, c < 256) (hr : r.length = m) (hs2 : ∀ c ∈ r, c < 256) (hn : n ≤ 140737488354000) (pos : Int) (mask : Nat) (hm : mask < 4294967296) : ∃ o t p P M, Six l r n m pos mask o t p P M := by
  obtain ⟨o, o1, o2, o3, o4⟩ := open_pair hl hs
  obtain ⟨t, t1, t2, t3, t4⟩ := turn_pair hl hs hn pos mask hm
  obtain ⟨p, p1, p2, p3, p4⟩ := patch_pair hl hs hn pos mask hm
  obtain ⟨P, M, _, b1, b2⟩ := burst_pair hl hs hr hs2
  exact ⟨o, t, p, P, M, hl, hs, ⟨o1, o2⟩, ⟨t1, t2⟩, ⟨p1, p2⟩, o3, o4, t3, t4, p3, p4, b1, b2⟩
end Go.Proofs.YtchmfjendnaflaaDoor
