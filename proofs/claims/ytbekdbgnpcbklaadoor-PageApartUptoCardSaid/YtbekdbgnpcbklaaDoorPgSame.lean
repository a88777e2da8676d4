/-
  Rows of numbers compared by the law's own ints; Differ of lists of unlike length; one page laid by a literal.
-/
import Derived.Test.YtbekdbgnpcbklaaDoorPgAlike
import Derived.Test.YtbekdbgnpcbklaaDoorPlainP
import Derived.Deep.QuietTactic
namespace Go.Proofs.YtbekdbgnpcbklaaDoor
open Go.RowKit FerryCrc
set_option linter.unusedVariables false

/-- The numbers that a slice shows in a world. -/
structure Ivs (w : World) (a : Option Addr) (len : Nat) (l : List Nat) : Prop where
  size : l.length = len
  most : len ≤ 1759218604391
  cell : ∀ k c : Nat, l[k]? = some c → ∃ b off, a = some ⟨b, off, none⟩ ∧ w.cell? ⟨b, off + k, none⟩ = some (.int .i64 (c : Int))
theorem Ivs.below {w w' : World} {a : Option Addr} {len : Nat} {l : List Nat} (h : Ivs w a len l) (hb : Below w.heap.size w w') : Ivs w' a len l :=
  ⟨h.size, h.most, fun k c hk => by
    obtain ⟨b, off, e, hc⟩ := h.cell k c hk
    refine ⟨b, off, e, ?_⟩
    rw [hb.cell (p := ⟨b, off + k, none⟩) (block_lt_of_cell hc)]
    exact hc⟩
theorem IOwn.ivs {w : World} {base : Nat} {v : Value} {l : List Nat} (h : IOwn w base v l) (hm : l.length ≤ 1759218604391) :
    ∃ a c, v = .slice a l.length c ∧ Ivs w a l.length l := by
  rcases h.2 with ⟨e, hn⟩ | ⟨g, cap, cur, e, hg, hh, hnc, hcm, hcs, htake⟩
  · have hl : l = [] := List.length_eq_zero_iff.1 hn
    subst hl
    exact ⟨none, 0, e, rfl, by decide, fun k c hk => by simp at hk⟩
  · subst e
    refine ⟨_, cap, rfl, rfl, hm, fun k c hk => ⟨g, 0, rfl, ?_⟩⟩
    have hkl : k < l.length := (List.getElem?_eq_some_iff.1 hk).1
    have := World.ownsRow.cellAt h k (by omega)
    rw [Nat.zero_add, this]
    simp [hk, iv]

set_option maxRecDepth 100000 in
theorem ints_row (a a' : Option Addr) (len c c' : Nat) (l : List Nat) (w : World) (hs : Ivs w a len l) (hs' : Ivs w a' len l) :
    Calls Tryd.prog 19 #[.slice a len c, .slice a' len c'] w fun e w' => e = .returned (.bool true) ∧ Below w.heap.size w w' := by
  have hm := hs.most
  have HS := hide hs
  have HS' := hide hs'
  clear hs hs'
  go_enter Tryd.func19, Tryd.ntmps19
  go_wp2
  go_loopw [5] (fun i wr => ∃ k : Nat, k ≤ len ∧ i = .int .i64 k ∧ Hid (Below w.heap.size w wr)) (fun i _ => len - (intOf i).toNat)
  case atStart => exact ⟨0, by omega, rfl, Below.refl _ _⟩
  case round =>
    obtain ⟨k, hk, rfl, hb⟩ := hrel
    by_cases hlt : k < len
    · obtain ⟨x, hx⟩ : ∃ x, l[k]? = some x := ⟨_, List.getElem?_eq_getElem (by rw [HS.out.size]; exact hlt)⟩
      obtain ⟨b, off, rfl, h1⟩ := (HS.out.below hb.out).cell k x hx
      obtain ⟨b', off', rfl, h2⟩ := (HS'.out.below hb.out).cell k x hx
      clear hx
      go_wp2_with fail
      go_quiet (fail)
      go_wp2
      go_roundw
      case rel => exact ⟨k + 1, by omega, by go_num, drewN_below hb.out nq⟩
      case measure => simp [intOf]; omega
    · obtain rfl : k = len := by omega
      go_wp2
      go_ret
      exact ⟨rfl, hb.out⟩
theorem ints_same {w : World} {base base' : Nat} {v v' : Value} {l : List Nat} (h : IOwn w base v l) (h' : IOwn w base' v' l) (hm : l.length ≤ 1759218604391) :
    Calls Tryd.prog 19 #[v, v'] w fun e w' => e = .returned (.bool true) ∧ Below w.heap.size w w' := by
  obtain ⟨a, c, rfl, i1⟩ := h.ivs hm
  obtain ⟨a', c', rfl, i2⟩ := h'.ivs hm
  exact ints_row a a' _ c c' l w i1 i2

theorem own_nil (w : World) (base : Nat) : IOwn w base (.slice none 0 0) [] := World.ownsRow_nil _ _ _ _
theorem refDiffer_unlike (a : Option Addr) (len cap : Nat) (a' : Option Addr) (len' cap' : Nat) (w : World) (hm : len ≤ 1759218604391) (hm' : len' ≤ 1759218604391) (h : ¬ len = len') :
    Calls Tryd.prog 17 #[.slice a len cap, .slice a' len' cap'] w fun e w' => e = .returned (.tuple #[.slice none 0 0, .int .i64 5]) ∧ w = w' := by
  have hd1 : ((len : Int) == (len' : Int)) = false := by simp; omega
  go_enter Tryd.func17, Tryd.ntmps17
  go_wp2
  go_ret2
  exact ⟨rfl, rfl⟩
theorem differ_unlike {w : World} {E : Nat → Addr} (he : Errs w E) (a : Option Addr) (len cap : Nat) (a' : Option Addr) (len' cap' : Nat) (hm : len ≤ 1759218604391) (hm' : len' ≤ 1759218604391) (h : ¬ len = len') :
    Calls Tryd.prog 16 #[.slice a len cap, .slice a' len' cap'] w fun e w' => e = .returned (.tuple #[.slice none 0 0, sent (E 5)]) ∧ Below w.heap.size w w' := by
  have hd1 : ((len : Int) == (len' : Int)) = false := by simp; omega
  have h5 := he.v5
  clear he
  go_enter Tryd.func16, Tryd.ntmps16
  go_wp2
  go_quiet (fail)
  go_wp2
  go_ret2
  exact ⟨rfl, drewN_below (Below.refl _ _) nq⟩
/-- Both sides' Differ: the same numbers, the same error. -/
theorem differ_both (E : Nat → Addr) (l m : List Pg) (hl : l.length ≤ 1759218604391) :
    ∃ (L : List Nat) (i : Nat) (v : Value), L.length ≤ 1759218604391 ∧ Bare E v i ∧
      (∀ w a cap a' cap', Pgs w a l.length cap l → Pgs w a' m.length cap' m → Calls Tryd.prog 17 #[.slice a l.length cap, .slice a' m.length cap'] w fun e w' => ∃ x, e = .returned (.tuple #[x, .int .i64 (i : Int)]) ∧ IOwn w' w.heap.size x L ∧ Below w.heap.size w w') ∧
      (∀ w a cap a' cap', Errs w E → Pgs w a l.length cap l → Pgs w a' m.length cap' m → Calls Tryd.prog 16 #[.slice a l.length cap, .slice a' m.length cap'] w fun e w' => ∃ x, e = .returned (.tuple #[x, v]) ∧ IOwn w' w.heap.size x L ∧ Below w.heap.size w w') := by
  by_cases h : l.length = m.length
  · refine ⟨dif l m l.length, 0, .nilIface, by have := dif_len l m l.length; omega, bare_nil E, ?_, ?_⟩
    · intro w a cap a' cap' h1 h2
      rw [← h] at h2 ⊢
      exact refDiffer_any a _ cap l a' cap' m w h1 h2
    · intro w a cap a' cap' he h1 h2
      rw [← h] at h2 ⊢
      exact differ_any a _ cap l a' cap' m w h1 h2
  · refine ⟨[], 5, sent (E 5), by simp, bare_sent E 5 (by decide) (by decide), ?_, ?_⟩
    · intro w a cap a' cap' h1 h2
      refine (refDiffer_unlike a _ cap a' _ cap' w h1.most h2.most h).mono ?_
      rintro e w' ⟨rfl, rfl⟩
      exact ⟨_, rfl, own_nil _ _, Below.refl _ _⟩
    · intro w a cap a' cap' he h1 h2
      refine (differ_unlike he a _ cap a' _ cap' h1.most h2.most h).mono ?_
      rintro e w' ⟨rfl, hb⟩
      exact ⟨_, rfl, own_nil _ _, hb⟩
end Go.Proofs.YtbekdbgnpcbklaaDoor
