/-
  The assembler's small readers: gaps, digits, words, registers, names.
-/
import Derived.Test.YthcmeboepedelaaDoorIaBase
import Derived.Test.YthcmeboepedelaaDoorIsProg
namespace Go.Proofs.YthcmeboepedelaaDoor
open Go.RowKit FerryCrc
set_option linter.unusedVariables false
set_option linter.unusedSimpArgs false
theorem cellB {w w' : World} {p : Addr} {v : Value} (h : w.cell? p = some v) (hb : Below w.heap.size w w') : w'.cell? p = some v := (Frm.ofBelow (S := fun _ => False) hb).cell h id
def nameL : List ByteArray := [⟨#[]⟩, ⟨#[97, 100, 100]⟩, ⟨#[115, 117, 98]⟩, ⟨#[97, 110, 100]⟩, ⟨#[111, 114]⟩, ⟨#[120, 111, 114]⟩, ⟨#[115, 104, 108]⟩, ⟨#[115, 104, 114]⟩, ⟨#[115, 97, 114]⟩, ⟨#[109, 117, 108]⟩, ⟨#[100, 105, 118, 117]⟩, ⟨#[100, 105, 118, 115]⟩, ⟨#[114, 101, 109, 117]⟩, ⟨#[114, 101, 109, 115]⟩, ⟨#[115, 108, 116, 117]⟩, ⟨#[115, 108, 116, 115]⟩, ⟨#[97, 100, 100, 105]⟩, ⟨#[97, 110, 100, 105]⟩, ⟨#[111, 114, 105]⟩, ⟨#[120, 111, 114, 105]⟩, ⟨#[108, 117, 105]⟩, ⟨#[]⟩, ⟨#[]⟩, ⟨#[]⟩, ⟨#[]⟩, ⟨#[]⟩, ⟨#[]⟩, ⟨#[]⟩, ⟨#[]⟩, ⟨#[]⟩, ⟨#[]⟩, ⟨#[]⟩, ⟨#[108, 119]⟩, ⟨#[108, 104]⟩, ⟨#[108, 98]⟩, ⟨#[115, 119]⟩, ⟨#[115, 104]⟩, ⟨#[115, 98]⟩, ⟨#[]⟩, ⟨#[]⟩, ⟨#[]⟩, ⟨#[]⟩, ⟨#[]⟩, ⟨#[]⟩, ⟨#[]⟩, ⟨#[]⟩, ⟨#[]⟩, ⟨#[]⟩, ⟨#[98, 101, 113]⟩, ⟨#[98, 110, 101]⟩, ⟨#[98, 108, 116, 117]⟩, ⟨#[98, 108, 116, 115]⟩, ⟨#[98, 103, 101, 117]⟩, ⟨#[98, 103, 101, 115]⟩, ⟨#[106, 97, 108]⟩, ⟨#[106, 114]⟩, ⟨#[]⟩, ⟨#[]⟩, ⟨#[]⟩, ⟨#[]⟩, ⟨#[]⟩, ⟨#[]⟩, ⟨#[]⟩, ⟨#[]⟩, ⟨#[115, 121, 115]⟩]
def regL : List ByteArray := [⟨#[114, 48]⟩, ⟨#[114, 49]⟩, ⟨#[114, 50]⟩, ⟨#[114, 51]⟩, ⟨#[114, 52]⟩, ⟨#[114, 53]⟩, ⟨#[114, 54]⟩, ⟨#[114, 55]⟩, ⟨#[114, 56]⟩, ⟨#[114, 57]⟩, ⟨#[114, 49, 48]⟩, ⟨#[114, 49, 49]⟩, ⟨#[114, 49, 50]⟩, ⟨#[114, 49, 51]⟩, ⟨#[114, 49, 52]⟩, ⟨#[114, 49, 53]⟩]
def opsL : List ByteArray := [⟨#[]⟩, ⟨#[97, 98, 99]⟩, ⟨#[97, 98, 105]⟩, ⟨#[97, 98, 105]⟩, ⟨#[97, 105]⟩, ⟨#[97, 105]⟩, ⟨#[98, 105]⟩, ⟨#[105]⟩]
def nameT (i : Nat) : ByteArray := nameL.getD i ⟨#[]⟩
def regT (i : Nat) : ByteArray := regL.getD i ⟨#[]⟩
def opsT (i : Nat) : ByteArray := opsL.getD i ⟨#[]⟩
/-- The tables that the package's variables hold. -/
structure Iat (w : World) : Prop where
  names : ∀ i : Nat, i < 65 → w.cell? ⟨0, i, none⟩ = some (.string (nameT i))
  regs : ∀ i : Nat, i < 16 → w.cell? ⟨7, i, none⟩ = some (.string (regT i))
  ops : ∀ i : Nat, i < 8 → w.cell? ⟨4, i, none⟩ = some (.string (opsT i))
theorem Iat.below {w w' : World} (h : Iat w) (hb : Below w.heap.size w w') : Iat w' := ⟨fun i hi => cellB (h.names i hi) hb, fun i hi => cellB (h.regs i hi) hb, fun i hi => cellB (h.ops i hi) hb⟩
/-- The register of that name. -/
def regN (s : ByteArray) : Nat := regL.findIdx (fun x => decide (x = s))
/-- The instruction of that word. -/
def numN (s : ByteArray) : Nat := if s = ⟨#[]⟩ then 0 else if nameL.findIdx (fun x => decide (x = s)) < 65 then nameL.findIdx (fun x => decide (x = s)) else 0
theorem fi_lt {l : List ByteArray} {s : ByteArray} {i : Nat} (h : i < l.findIdx (fun x => decide (x = s))) : l.getD i ⟨#[]⟩ ≠ s := by
  have h2 : i < l.length := Nat.lt_of_lt_of_le h List.findIdx_le_length
  have := List.not_of_lt_findIdx h
  rw [List.getD_eq_getElem?_getD, List.getElem?_eq_getElem h2]
  simpa using this
theorem fi_at {l : List ByteArray} {s : ByteArray} (h : l.findIdx (fun x => decide (x = s)) < l.length) : l.getD (l.findIdx (fun x => decide (x = s))) ⟨#[]⟩ = s := by
  have := List.findIdx_getElem (p := fun x => decide (x = s)) (w := h)
  rw [List.getD_eq_getElem?_getD, List.getElem?_eq_getElem h]
  simpa using this
set_option maxRecDepth 100000 in
theorem isGap_any (c : Nat) (hc : c < 256) (w : World) : Calls Tryd.prog 63 #[.int .u8 (c : Int)] w fun e w' => e = .returned (.bool (gapB c)) ∧ w = w' := by
  have HG : Hid (gapB c = (decide (c = 32) || (decide (c = 9) || (decide (c = 13) || decide (c = 44))))) := by
    unfold Hid gapB
    rfl
  go_enter Tryd.func63, Tryd.ntmps63
  by_cases h1 : c = 32
  · subst h1
    go_wp2
    go_ret
    exact ⟨rfl, rfl⟩
  have e1 : ((c : Int) == 32) = false := by simp; omega
  by_cases h2 : c = 9
  · subst h2
    go_wp2
    go_ret
    exact ⟨rfl, rfl⟩
  have e2 : ((c : Int) == 9) = false := by simp; omega
  by_cases h3 : c = 13
  · subst h3
    go_wp2
    go_ret
    exact ⟨rfl, rfl⟩
  have e3 : ((c : Int) == 13) = false := by simp; omega
  by_cases h4 : c = 44
  · subst h4
    go_wp2
    go_ret
    exact ⟨rfl, rfl⟩
  have e4 : ((c : Int) == 44) = false := by simp; omega
  have HF : Hid (gapB c = false) := by unfold Hid; rw [HG.out]; simp [h1, h2, h3, h4]
  clear h1 h2 h3 h4
  go_wp2
  go_ret
  exact ⟨by rw [HF.out]; rfl, rfl⟩
set_option maxRecDepth 100000 in
theorem isDigit_any (c : Nat) (hc : c < 256) (w : World) : Calls Tryd.prog 66 #[.int .u8 (c : Int)] w fun e w' => e = .returned (.bool (digB c)) ∧ w = w' := by
  go_enter Tryd.func66, Tryd.ntmps66
  by_cases h1 : (48 : Int) ≤ (c : Int)
  · by_cases h2 : (c : Int) ≤ 57
    · have d : digB c = true := by simp [digB]; omega
      go_wp2
      go_ret
      first | exact ⟨rfl, rfl⟩ | exact ⟨by rw [d]; rfl, rfl⟩
    · have d : digB c = false := by simp [digB]; omega
      go_wp2
      go_ret
      first | exact ⟨rfl, rfl⟩ | exact ⟨by rw [d]; rfl, rfl⟩
  · have d : digB c = false := by simp [digB]; omega
    go_wp2
    go_ret
    first | exact ⟨rfl, rfl⟩ | exact ⟨by rw [d]; rfl, rfl⟩
set_option maxRecDepth 100000 in
set_option maxHeartbeats 4000000 in
theorem nextWord_any (s : ByteArray) (hm : s.size ≤ 140737488351232) (w : World) : Calls Tryd.prog 43 #[.string s] w fun e w' => e = .returned (.tuple #[.string (nw1 s), .string (nw2 s)]) ∧ Below w.heap.size w w' := by
  have HI := hide (str_index s)
  have hsz : (s.size : Int) ≤ 140737488351232 := by omega
  go_enter Tryd.func43, Tryd.ntmps43
  go_upto_region 2 with fail
  go_loopw [4] (fun a wr => ∃ i : Nat, i ≤ nwS s ∧ a = .int .i64 (i : Int) ∧ w = wr) (fun a _ => s.size - (intOf a).toNat)
  case atStart => exact ⟨0, Nat.zero_le _, rfl, rfl⟩
  case round =>
  obtain ⟨i, hi, rfl, rfl⟩ := hrel
  have hle := nwS_le s
  by_cases hlt : i < s.size
  · obtain ⟨x, hx⟩ := bytes_get s hlt
    have hx256 := bytes_small hx
    have HX := hide hx
    have ix : ∀ w, (Instr.index 9 (.string s) (.int .i64 (i : Int))).run Tryd.prog w = .ok (.int .u8 (x : Int)) w := HI.out i x hx
    have c1 : (i : Int) < (s.size : Int) := by omega
    clear hx
    by_cases hs : i = nwS s
    · subst hs
      have hg : gapB x = false := nwS_at HX.out
      go_wp2_with (go_at_call 63; refine Calls.mono (isGap_any x hx256 _) ?_; rintro e w' ⟨rfl, rfl⟩; rw [hg])
      go_upto_region 5 with fail
      go_loopw [5] (fun a wr => ∃ j : Nat, nwS s ≤ j ∧ j ≤ nwE s ∧ a = .int .i64 (j : Int) ∧ w = wr) (fun a _ => s.size - (intOf a).toNat)
      case atStart => exact ⟨nwS s, Nat.le_refl _, by unfold nwE; omega, rfl, rfl⟩
      case round =>
      obtain ⟨j, hj0, hj, rfl, rfl⟩ := hrel
      have hle2 := nwE_le s
      by_cases hlt2 : j < s.size
      · obtain ⟨y, hy⟩ := bytes_get s hlt2
        have hy256 := bytes_small hy
        have HY := hide hy
        have iy : ∀ w, (Instr.index 9 (.string s) (.int .i64 (j : Int))).run Tryd.prog w = .ok (.int .u8 (y : Int)) w := HI.out j y hy
        have c2 : (j : Int) < (s.size : Int) := by omega
        clear hy
        by_cases hs2 : j = nwE s
        · subst hs2
          have hg2 : gapB y = true := nwE_at HY.out
          go_wp2_with (go_at_call 63; refine Calls.mono (isGap_any y hy256 _) ?_; rintro e w' ⟨rfl, rfl⟩; rw [hg2])
          go_upto_region 7 with fail
          go_region
          go_wp2
          go_ret2
          exact ⟨rfl, (Below.refl _ _).drew⟩
        · have hg2 : gapB y = false := nwE_word hj0 (by omega) HY.out
          go_wp2_with (go_at_call 63; refine Calls.mono (isGap_any y hy256 _) ?_; rintro e w' ⟨rfl, rfl⟩; rw [hg2])
          exact ⟨⟨j + 1, by omega, by omega, by simp, trivial⟩, by simp [intOf]; omega⟩
      · obtain rfl : j = nwE s := by omega
        have c2 : ¬ ((nwE s : Nat) : Int) < (s.size : Int) := by omega
        go_upto_region 7 with fail
        go_region
        go_wp2
        go_ret2
        exact ⟨rfl, (Below.refl _ _).drew⟩
    · have hg : gapB x = true := nwS_gap (by omega) HX.out
      go_wp2_with (go_at_call 63; refine Calls.mono (isGap_any x hx256 _) ?_; rintro e w' ⟨rfl, rfl⟩; rw [hg])
      exact ⟨⟨i + 1, by omega, by simp, trivial⟩, by simp [intOf]; omega⟩
  · obtain rfl : i = nwS s := by omega
    have c1 : ¬ ((nwS s : Nat) : Int) < (s.size : Int) := by omega
    go_upto_region 5 with fail
    go_loopw [5] (fun a wr => ∃ j : Nat, nwS s ≤ j ∧ j ≤ nwE s ∧ a = .int .i64 (j : Int) ∧ w = wr) (fun a _ => s.size - (intOf a).toNat)
    case atStart => exact ⟨nwS s, Nat.le_refl _, by unfold nwE; omega, rfl, rfl⟩
    case round =>
    obtain ⟨j, hj0, hj, rfl, rfl⟩ := hrel
    have hle2 := nwE_le s
    by_cases hlt2 : j < s.size
    · obtain ⟨y, hy⟩ := bytes_get s hlt2
      have hy256 := bytes_small hy
      have HY := hide hy
      have iy : ∀ w, (Instr.index 9 (.string s) (.int .i64 (j : Int))).run Tryd.prog w = .ok (.int .u8 (y : Int)) w := HI.out j y hy
      have c2 : (j : Int) < (s.size : Int) := by omega
      clear hy
      by_cases hs2 : j = nwE s
      · subst hs2
        have hg2 : gapB y = true := nwE_at HY.out
        go_wp2_with (go_at_call 63; refine Calls.mono (isGap_any y hy256 _) ?_; rintro e w' ⟨rfl, rfl⟩; rw [hg2])
        go_upto_region 7 with fail
        go_region
        go_wp2
        go_ret2
        exact ⟨rfl, (Below.refl _ _).drew⟩
      · have hg2 : gapB y = false := nwE_word hj0 (by omega) HY.out
        go_wp2_with (go_at_call 63; refine Calls.mono (isGap_any y hy256 _) ?_; rintro e w' ⟨rfl, rfl⟩; rw [hg2])
        exact ⟨⟨j + 1, by omega, by omega, by simp, trivial⟩, by simp [intOf]; omega⟩
    · obtain rfl : j = nwE s := by omega
      have c2 : ¬ ((nwE s : Nat) : Int) < (s.size : Int) := by omega
      go_upto_region 7 with fail
      go_region
      go_wp2
      go_ret2
      exact ⟨rfl, (Below.refl _ _).drew⟩
set_option maxRecDepth 100000 in
set_option maxHeartbeats 4000000 in
theorem register_any (s : ByteArray) (w : World) (ht : Iat w) : Calls Tryd.prog 60 #[.string s] w fun e w' => e = .returned (.tuple #[.int .i64 (if regN s < 16 then (regN s : Int) else 0), .bool (decide (regN s < 16))]) ∧ w = w' := by
  have HT := hide ht
  clear ht
  have HL : Hid (regL.length = 16) := by unfold Hid; decide
  have hle : regN s ≤ 16 := by rw [← HL.out]; exact List.findIdx_le_length
  obtain ⟨r, hr⟩ : ∃ r, regN s = r := ⟨_, rfl⟩
  have HR := hide hr
  rw [hr] at hle ⊢
  clear hr
  go_enter Tryd.func60, Tryd.ntmps60
  go_upto_region 2 with fail
  go_loopw [5] (fun a wr => ∃ i : Nat, i ≤ r ∧ a = .int .i64 (i : Int) ∧ w = wr) (fun a _ => 17 - (intOf a).toNat)
  case atStart => exact ⟨0, Nat.zero_le _, rfl, rfl⟩
  case round =>
  obtain ⟨i, hi, rfl, rfl⟩ := hrel
  by_cases h16 : i < 16
  · have c1 : (i : Int) < 16 := by omega
    have c2 : ¬ (i : Int) < 0 := by omega
    have y := HT.out.regs i h16
    by_cases he : i = r
    · subst he
      have hq : regT i = s := by have := fi_at (l := regL) (s := s) (by show regN s < _; rw [HR.out, HL.out]; exact h16); rw [show List.findIdx _ regL = regN s from rfl, HR.out] at this; exact this
      have y2 : w.cell? ⟨7, i, none⟩ = some (.string s) := by rw [← hq]; exact y
      clear y hq
      go_wp2
      go_ret2
      exact ⟨by simp [h16], rfl⟩
    · have hq : (s.toList == (regT i).toList) = false := str_neb fun e => fi_lt (l := regL) (s := s) (i := i) (by show i < regN s; rw [HR.out]; omega) e.symm
      go_wp2
      exact ⟨⟨i + 1, by omega, by simp, trivial⟩, by simp [intOf]; omega⟩
  · have c1 : ¬ (i : Int) < 16 := by omega
    obtain rfl : i = r := by omega
    go_wp2
    go_ret2
    exact ⟨by simp [h16], rfl⟩
theorem numN_eq {s : ByteArray} {k : Nat} (h0 : s ≠ ⟨#[]⟩) (h : nameL.findIdx (fun x => decide (x = s)) = k) : numN s = if k < 65 then k else 0 := by
  unfold numN
  rw [if_neg h0, h]
set_option maxRecDepth 100000 in
set_option maxHeartbeats 4000000 in
theorem Number_any (s : ByteArray) (w : World) (ht : Iat w) : Calls Tryd.prog 13 #[.string s] w fun e w' => e = .returned (.int .i64 (numN s : Int)) ∧ w = w' := by
  have HT := hide ht
  clear ht
  have HL : Hid (nameL.length = 65) := by unfold Hid; decide
  by_cases h0 : s = ⟨#[]⟩
  · subst h0
    go_enter Tryd.func13, Tryd.ntmps13
    go_upto_region 2 with fail
    go_loopw [4] (fun a wr => ∃ i : Nat, i ≤ 65 ∧ a = .int .i64 (i : Int) ∧ w = wr) (fun a _ => 66 - (intOf a).toNat)
    case atStart => exact ⟨0, Nat.zero_le _, rfl, rfl⟩
    case round =>
    obtain ⟨i, hi, rfl, rfl⟩ := hrel
    by_cases h65 : i < 65
    · have c1 : (i : Int) < 65 := by omega
      go_wp2
      exact ⟨⟨i + 1, by omega, by simp, trivial⟩, by simp [intOf]; omega⟩
    · have c1 : ¬ (i : Int) < 65 := by omega
      go_wp2
      go_ret
      exact ⟨rfl, rfl⟩
  · obtain ⟨r, hr⟩ : ∃ r, nameL.findIdx (fun x => decide (x = s)) = r := ⟨_, rfl⟩
    have hle : r ≤ 65 := by rw [← HL.out, ← hr]; exact List.findIdx_le_length
    rw [numN_eq h0 hr]
    have HR := hide hr
    have hs0 : ¬ s.toList = [] := str_nil h0
    have hs1 : s.toList.isEmpty = false := by rw [Bool.eq_false_iff, ne_eq, List.isEmpty_iff]; exact hs0
    clear hr
    go_enter Tryd.func13, Tryd.ntmps13
    go_upto_region 2 with fail
    go_loopw [4] (fun a wr => ∃ i : Nat, i ≤ r ∧ a = .int .i64 (i : Int) ∧ w = wr) (fun a _ => 66 - (intOf a).toNat)
    case atStart => exact ⟨0, Nat.zero_le _, rfl, rfl⟩
    case round =>
    obtain ⟨i, hi, rfl, rfl⟩ := hrel
    by_cases h65 : i < 65
    · have c1 : (i : Int) < 65 := by omega
      have c2 : ¬ (i : Int) < 0 := by omega
      have y := HT.out.names i h65
      by_cases he : i = r
      · subst he
        have hq : nameT i = s := by have := fi_at (l := nameL) (s := s) (by rw [HR.out, HL.out]; exact h65); rw [HR.out] at this; exact this
        have y2 : w.cell? ⟨0, i, none⟩ = some (.string s) := by rw [← hq]; exact y
        clear y hq
        go_wp2
        go_ret
        exact ⟨by simp [h65], rfl⟩
      · have hq : ((nameT i).toList == s.toList) = false := str_neb fun e => fi_lt (l := nameL) (s := s) (i := i) (by rw [HR.out]; omega) e
        go_wp2
        exact ⟨⟨i + 1, by omega, by simp, trivial⟩, by simp [intOf]; omega⟩
    · have c1 : ¬ (i : Int) < 65 := by omega
      obtain rfl : i = r := by omega
      go_wp2
      go_ret
      exact ⟨by simp [h65], rfl⟩
def nameI (op : Int) : ByteArray := if 0 ≤ op ∧ op < 65 then nameT op.toNat else ⟨#[]⟩
set_option maxRecDepth 100000 in
theorem Name_any (op : Int) (w : World) (ht : Iat w) : Calls Tryd.prog 11 #[.int .i64 op] w fun e w' => e = .returned (.string (nameI op)) ∧ w = w' := by
  have HT := hide ht
  clear ht
  unfold nameI
  go_enter Tryd.func11, Tryd.ntmps11
  by_cases h1 : op < 0
  · rw [if_neg (by omega)]
    go_wp2
    go_ret
    exact ⟨rfl, rfl⟩
  · by_cases h2 : op < 65
    · rw [if_pos (by omega)]
      obtain ⟨k, rfl⟩ := Int.eq_ofNat_of_zero_le (by omega : 0 ≤ op)
      have y := HT.out.names k (by omega)
      rw [show ((k : Int)).toNat = k from rfl]
      generalize nameT k = z at *
      have h3 : ¬ (65 : Int) ≤ (k : Int) := by omega
      go_wp2
      go_ret
      exact ⟨rfl, rfl⟩
    · rw [if_neg (by omega)]
      have h3 : (65 : Int) ≤ op := by omega
      go_wp2
      go_ret
      exact ⟨rfl, rfl⟩
end Go.Proofs.YthcmeboepedelaaDoor
