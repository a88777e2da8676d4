/-
  The document's cursor: what it holds, and what its reading calls do.
-/
import Derived.Test.YtohoncgkekiihaaDoorCuText
namespace Go.Proofs.YtohoncgkekiihaaDoor
open Go.RowKit FerryCrc
set_option linter.unusedVariables false
set_option linter.unusedSimpArgs false

/-- The document's cursor: its bytes, its place and its bound. -/
structure Doc (w : World) (c g len cap p bd : Nat) (L : List Nat) : Prop where
  c0 : w.cell? ⟨c, 0, none⟩ = some (.slice (some ⟨g, 0, none⟩) len cap)
  c1 : w.cell? ⟨c, 1, none⟩ = some (.int .i64 (p : Int))
  c2 : w.cell? ⟨c, 2, none⟩ = some (.int .i64 (bd : Int))
  f1 : w.frozen? ⟨c, 1, none⟩ = false
  bts : Bts w (some ⟨g, 0, none⟩) len cap L
  ne : g ≠ c ∧ g < w.heap.size
  le : p ≤ bd
  most : bd ≤ len
theorem Doc.lt {w : World} {c g len cap p bd : Nat} {L : List Nat} (h : Doc w c g len cap p bd L) : c < w.heap.size := block_lt_of_cell h.c0
theorem Doc.frm {S : Nat → Prop} {w w' : World} {c g len cap p bd : Nat} {L : List Nat} (h : Doc w c g len cap p bd L) (hf : Frm S w w') (h1 : ¬ S c) (h2 : ¬ S g) : Doc w' c g len cap p bd L :=
  ⟨hf.cell h.c0 h1, hf.cell h.c1 h1, hf.cell h.c2 h1, by rw [hf.frozen h.c1 h1]; exact h.f1, h.bts.frm hf (fun b off e => by simp only [Option.some.injEq, Addr.mk.injEq, and_true] at e; rw [← e.1]; exact h2), ⟨h.ne.1, Nat.lt_of_lt_of_le h.ne.2 hf.size⟩, h.le, h.most⟩
theorem Doc.below {w w' : World} {c g len cap p bd : Nat} {L : List Nat} (h : Doc w c g len cap p bd L) (hb : Below w.heap.size w w') : Doc w' c g len cap p bd L :=
  h.frm (S := fun _ => False) (Frm.ofBelow hb) (fun h => h) (fun h => h)
theorem Doc.move {w : World} {c g len cap p bd q : Nat} {L : List Nat} (h : Doc w c g len cap p bd L) (hq : q ≤ bd) : Doc (w.setCell ⟨c, 1, none⟩ (.int .i64 (q : Int))) c g len cap q bd L := by
  have hb := h.bts.frm (frm_setCell w ⟨c, 1, none⟩ (.int .i64 (q : Int))) (fun b off e => by simp only [Option.some.injEq, Addr.mk.injEq, and_true] at e; rw [← e.1]; exact h.ne.1)
  exact ⟨by rw [World.cell?_setCell_other _ _ _ _ (by simp)]; exact h.c0, World.cell?_setCell_same _ _ _ h.c1, by rw [World.cell?_setCell_other _ _ _ _ (by simp)]; exact h.c2, by rw [World.frozen?_setCell]; exact h.f1, hb, ⟨h.ne.1, Nat.lt_of_lt_of_le h.ne.2 (frm_setCell w ⟨c, 1, none⟩ (.int .i64 (q : Int))).size⟩, hq, h.most⟩
/-- The document's error, as a value. -/
def rerr (k q : Int) : Value := .agg #[.int .i64 k, .int .i64 q]

set_option maxRecDepth 100000 in
theorem rleft_any (c g len cap p bd : Nat) (L : List Nat) (w : World) (h : Doc w c g len cap p bd L) :
    Calls Tryd.prog 27 #[.pointer (some ⟨c, 0, none⟩)] w fun e w' => e = .returned (.int .i64 ((bd - p : Nat) : Int)) ∧ Below w.heap.size w w' := by
  have c1 := h.c1
  have c2 := h.c2
  have h1 := h.le
  have h2 := h.most
  have h3 := h.bts.most
  have hwr : IntKind.i64.wrap ((bd : Int) - (p : Int)) = ((bd - p : Nat) : Int) := by rw [IntKind.wrap_i64]; omega
  have HW := hide hwr
  clear h
  go_enter Tryd.func27, Tryd.ntmps27
  go_wp2
  go_quiet (fail)
  go_wp2
  go_ret
  exact ⟨rfl, ⟨rfl, rfl, rfl, Nat.le_refl _, fun _ _ => rfl⟩⟩

theorem cut_take (L : List Nat) (p n j : Nat) (hj : j ≤ n) : (cut L p n).take j = cut L p j := by
  unfold cut
  rw [List.take_take, Nat.min_eq_left hj]
theorem cut_snoc {L : List Nat} {p j x : Nat} (h : L[p + j]? = some x) : cut L p (j + 1) = cut L p j ++ [x] := by
  unfold cut
  rw [List.take_add_one, List.getElem?_drop, h]
  rfl

set_option maxRecDepth 100000 in
set_option maxHeartbeats 1000000 in
theorem rvalue_any (c g len cap p bd : Nat) (L : List Nat) (at' n : Nat) (w : World) (h : Doc w c g len cap p bd L) (h4 : n ≤ 4) (hn : at' + n ≤ len) :
    Calls Tryd.prog 86 #[.pointer (some ⟨c, 0, none⟩), .int .i64 (at' : Int), .int .i64 (n : Int)] w fun e w' => e = .returned (.int .i64 ((nbe (cut L at' n) : Nat) : Int)) ∧ w = w' := by
  have c0 := h.c0
  have hm := h.bts.most
  have HD := hide h.bts
  clear h
  obtain ⟨hi, hhi⟩ : ∃ hi, at' + n = hi := ⟨_, rfl⟩
  have e3 : (at' : Int) + (n : Int) = (hi : Int) := by omega
  have hwh : IntKind.i64.wrap (hi : Int) = (hi : Int) := by rw [IntKind.wrap_i64]; omega
  have h6 : hi ≤ len := by omega
  have HI := hide hhi
  clear hhi hn
  go_enter Tryd.func86, Tryd.ntmps86
  go_wp2
  go_loopw [7, 8] (fun v i wr => ∃ j k : Nat, Hid (at' + k = j ∧ k ≤ n) ∧ i = .int .i64 (j : Int) ∧ v = .int .i64 ((nbe (cut L at' k) : Nat) : Int) ∧ wr = w) (fun _ i _ => hi - (intOf i).toNat)
  case atStart => exact ⟨at', 0, ⟨by omega, by omega⟩, rfl, rfl, rfl⟩
  case round =>
    obtain ⟨j, k, HJ, rfl, rfl, rfl⟩ := hrel
    by_cases hlt : j < hi
    · have hlt2 : (j : Int) < (hi : Int) := by omega
      obtain ⟨b', off', hbo, c', hl, hc⟩ := HD.out.cell j (by omega)
      simp only [Option.some.injEq, Addr.mk.injEq, and_true] at hbo
      obtain ⟨rfl, rfl⟩ := hbo
      rw [Nat.zero_add] at hc
      have HC := hide (HD.out.small c' (List.mem_of_getElem? hl))
      have HT : Hid (nbe (cut L at' (k + 1)) = nbe (cut L at' k) * 256 + c') := by
        unfold Hid
        rw [cut_snoc (x := c') (by rw [HJ.out.1]; exact hl)]
        exact nbe_snoc _ _
      have HV : Hid (nbe (cut L at' k) < 16777216) := by
        have h := cut_lt HD.out.small at' k
        have h2 : 256 ^ k ≤ 256 ^ 3 := Nat.pow_le_pow_right (by decide) (by have := HJ.out; have := HI.out; omega)
        exact Nat.lt_of_lt_of_le h h2
      generalize nbe (cut L at' k) = v at *
      clear hl
      have hwr : IntKind.i64.wrap ((v : Int) * 256) = (v : Int) * 256 := by have := HV.out; rw [IntKind.wrap_i64]; omega
      have hc32 : IntKind.i64.wrap (c' : Int) = (c' : Int) := by have := HC.out; rw [IntKind.wrap_i64]; omega
      have hws : IntKind.i64.wrap ((v : Int) * 256 + (c' : Int)) = (v : Int) * 256 + (c' : Int) := by have := HC.out; have := HV.out; rw [IntKind.wrap_i64]; omega
      have i1 : (0 : Int) ≤ (j : Int) := by omega
      have i2 : (j : Int) < (len : Int) := by omega
      have hj1 : IntKind.i64.wrap ((j : Int) + 1) = ((j + 1 : Nat) : Int) := by rw [IntKind.wrap_i64]; omega
      go_wp2
      exact ⟨⟨j + 1, k + 1, ⟨by have := HJ.out; omega, by have := HJ.out; have := HI.out; omega⟩, by first | rfl | simp, by rw [HT.out]; simp, trivial⟩, by simp [intOf]; omega⟩
    · obtain rfl : j = hi := by have := HJ.out; have := HI.out; omega
      obtain rfl : k = n := by have := HJ.out; have := HI.out; omega
      go_wp2
      go_ret
      exact ⟨rfl, rfl⟩

set_option maxRecDepth 100000 in
theorem rmost_any (n : Int) (w : World) :
    Calls Tryd.prog 90 #[.int .i64 n] w fun e w' => e = .returned (.int .i64 (if n = 1 then 255 else if n = 2 then 65535 else if n = 4 then 4294967295 else -1)) ∧ w = w' := by
  by_cases h1 : n = 1
  · subst h1
    go_enter Tryd.func90, Tryd.ntmps90
    go_wp2
    go_ret
    exact ⟨rfl, rfl⟩
  · rw [if_neg h1]
    have d1 : (n == 1) = false := by simp; exact h1
    by_cases h2 : n = 2
    · subst h2
      clear d1 h1
      go_enter Tryd.func90, Tryd.ntmps90
      go_wp2
      go_ret
      exact ⟨rfl, rfl⟩
    · rw [if_neg h2]
      have d2 : (n == 2) = false := by simp; exact h2
      by_cases h4 : n = 4
      · subst h4
        clear d1 h1 d2 h2
        go_enter Tryd.func90, Tryd.ntmps90
        go_wp2
        go_ret
        exact ⟨rfl, rfl⟩
      · rw [if_neg h4]
        have d4 : (n == 4) = false := by simp; exact h4
        clear h1 h2 h4
        go_enter Tryd.func90, Tryd.ntmps90
        go_wp2
        go_ret
        exact ⟨rfl, rfl⟩
end Go.Proofs.YtohoncgkekiihaaDoor
