/-
  HasSuffix and TrimSuffix of one byte; isName.
-/
import Derived.Test.YthcmeboepedelaaDoorIaStr
import Derived.Test.YthcmeboepedelaaDoorIaRead
namespace Go.Proofs.YthcmeboepedelaaDoor
open Go.RowKit FerryCrc
set_option linter.unusedVariables false
set_option linter.unusedSimpArgs false
def sfxB (s : ByteArray) (d : UInt8) : Bool := decide (1 ≤ s.size) && ((s.extract (s.size - 1) s.size).toList == [d])
def trimD (s : ByteArray) (d : UInt8) : ByteArray := if sfxB s d then s.extract 0 (s.size - 1) else s
set_option maxRecDepth 100000 in
set_option maxHeartbeats 4000000 in
theorem lsfx_any (s : ByteArray) (d : UInt8) (hm : s.size ≤ 140737488351232) (w : World) : Calls Tryd.prog 64 #[.string s, .string ⟨#[d]⟩] w fun e w' => e = .returned (.bool (sfxB s d)) ∧ w = w' := by
  have hsz : (⟨#[d]⟩ : ByteArray).size = 1 := rfl
  unfold sfxB
  go_enter Tryd.func64, Tryd.ntmps64
  by_cases h : 1 ≤ s.size
  · obtain ⟨n, hn⟩ : ∃ n, s.size = n + 1 := ⟨s.size - 1, by omega⟩
    have c1 : (1 : Int) ≤ (s.size : Int) := by omega
    have c2 : (s.size : Int) - 1 = (n : Int) := by omega
    have c3 : (n : Int) ≤ (s.size : Int) := by omega
    have c4 : (0 : Int) ≤ (n : Int) := by omega
    have c5 : IntKind.i64.wrap (n : Int) = (n : Int) := by rw [IntKind.wrap_i64]; omega
    rw [show s.size - 1 = n by omega]
    clear hn
    go_wp2
    go_ret
    exact ⟨by simp [h], rfl⟩
  · have c1 : ¬ (1 : Int) ≤ (s.size : Int) := by omega
    go_wp2
    go_ret
    exact ⟨by simp [h], rfl⟩
set_option maxRecDepth 100000 in
theorem sfx_any (s : ByteArray) (d : UInt8) (hm : s.size ≤ 140737488351232) (w : World) : Calls Tryd.prog 44 #[.string s, .string ⟨#[d]⟩] w fun e w' => e = .returned (.bool (sfxB s d)) ∧ w = w' := by
  have HI := hide (lsfx_any s d hm)
  go_enter Tryd.func44, Tryd.ntmps44
  go_wp2_with fail
  refine Calls.mono (HI.out w) ?_
  rintro e w' ⟨rfl, rfl⟩
  go_wp2
  go_ret
  exact ⟨rfl, rfl⟩
set_option maxRecDepth 100000 in
theorem ltrim_any (s : ByteArray) (d : UInt8) (hm : s.size ≤ 140737488351232) (w : World) : Calls Tryd.prog 65 #[.string s, .string ⟨#[d]⟩] w fun e w' => e = .returned (.string (trimD s d)) ∧ w = w' := by
  have hsz : (⟨#[d]⟩ : ByteArray).size = 1 := rfl
  have HI := hide (lsfx_any s d hm)
  unfold trimD
  cases hb : sfxB s d with
  | true =>
    rw [hb] at HI
    have h : 1 ≤ s.size := by
      unfold sfxB at hb
      simp only [Bool.and_eq_true, decide_eq_true_eq] at hb
      exact hb.1
    clear hb
    obtain ⟨n, hn⟩ : ∃ n, s.size = n + 1 := ⟨s.size - 1, by omega⟩
    have c2 : (s.size : Int) - 1 = (n : Int) := by omega
    have c3 : (n : Int) ≤ (s.size : Int) := by omega
    have c4 : (0 : Int) ≤ (n : Int) := by omega
    rw [show s.size - 1 = n by omega]
    clear hn
    go_enter Tryd.func65, Tryd.ntmps65
    go_wp2_with fail
    refine Calls.mono (HI.out w) ?_
    rintro e w' ⟨rfl, rfl⟩
    go_wp2
    go_ret
    exact ⟨by simp, rfl⟩
  | false =>
    rw [hb] at HI
    clear hb
    go_enter Tryd.func65, Tryd.ntmps65
    go_wp2_with fail
    refine Calls.mono (HI.out w) ?_
    rintro e w' ⟨rfl, rfl⟩
    go_wp2
    go_ret
    exact ⟨by simp, rfl⟩
set_option maxRecDepth 100000 in
theorem trim_any (s : ByteArray) (d : UInt8) (hm : s.size ≤ 140737488351232) (w : World) : Calls Tryd.prog 45 #[.string s, .string ⟨#[d]⟩] w fun e w' => e = .returned (.string (trimD s d)) ∧ w = w' := by
  have HI := hide (ltrim_any s d hm)
  go_enter Tryd.func45, Tryd.ntmps45
  go_wp2_with fail
  refine Calls.mono (HI.out w) ?_
  rintro e w' ⟨rfl, rfl⟩
  go_wp2
  go_ret
  exact ⟨rfl, rfl⟩
/-- A letter of a label's name. -/
def okC (c : Nat) : Bool := c == 95 || (digB c || (decide (97 ≤ c) && decide (c ≤ 122)))
structure IsNm (s : ByteArray) : Prop where
  big : 1 ≤ s.size
  short : s.size ≤ 15
  first : ∀ x, (bytesOf s)[0]? = some x → digB x = false
  all : ∀ (i : Nat) x, (bytesOf s)[i]? = some x → okC x = true
  free : ¬ regN s < 16
set_option maxRecDepth 100000 in
set_option maxHeartbeats 4000000 in
theorem isName_any (s : ByteArray) (hn : IsNm s) (w : World) (ht : Iat w) : Calls Tryd.prog 46 #[.string s] w fun e w' => e = .returned (.bool true) ∧ w = w' := by
  have HT := hide ht
  have HN := hide hn
  have HI := hide (str_index s)
  have hs0 : ¬ s.toList = [] := str_nil (fun e => by have := HN.out.big; rw [e] at this; exact absurd this (by decide))
  have hs1 : s.toList.isEmpty = false := by rw [Bool.eq_false_iff, ne_eq, List.isEmpty_iff]; exact hs0
  have c0 : ¬ (15 : Int) < (s.size : Int) := by have := HN.out.short; omega
  obtain ⟨x, hx⟩ := bytes_get s (i := 0) (by have := HN.out.big; omega)
  have hx256 := bytes_small hx
  have hd := HN.out.first x hx
  have ix : ∀ w, (Instr.index 9 (.string s) (.int .i64 0)).run Tryd.prog w = .ok (.int .u8 (x : Int)) w := HI.out 0 x hx
  clear hx hn ht
  go_enter Tryd.func46, Tryd.ntmps46
  go_upto_region 4 with (go_at_call 66; refine Calls.mono (isDigit_any x hx256 _) ?_; rintro e w' ⟨rfl, rfl⟩; rw [hd])
  clear ix hd hx256
  go_loopw [21] (fun a wr => ∃ i : Nat, i ≤ s.size ∧ a = .int .i64 (i : Int) ∧ w = wr) (fun a _ => s.size - (intOf a).toNat)
  case atStart => exact ⟨0, Nat.zero_le _, rfl, rfl⟩
  case round =>
  obtain ⟨i, hi, rfl, rfl⟩ := hrel
  by_cases hlt : i < s.size
  · obtain ⟨y, hy⟩ := bytes_get s hlt
    have hy256 := bytes_small hy
    have ok := HN.out.all i y hy
    have iy : ∀ w, (Instr.index 9 (.string s) (.int .i64 (i : Int))).run Tryd.prog w = .ok (.int .u8 (y : Int)) w := HI.out i y hy
    have c1 : (i : Int) < (s.size : Int) := by omega
    clear hy
    by_cases h1 : y = 95
    · subst h1
      go_wp2
      exact ⟨⟨i + 1, by omega, by simp, trivial⟩, by simp [intOf]; omega⟩
    · have e1 : ((y : Int) == 95) = false := by simp; omega
      cases hdg : digB y with
      | true =>
        clear ok
        go_wp2_with (go_at_call 66; refine Calls.mono (isDigit_any y hy256 _) ?_; rintro e w' ⟨rfl, rfl⟩; rw [hdg])
        exact ⟨⟨i + 1, by omega, by simp, trivial⟩, by simp [intOf]; omega⟩
      | false =>
        have h2 : 97 ≤ y ∧ y ≤ 122 := by
          unfold okC at ok
          rw [hdg] at ok
          simp [h1] at ok
          exact ok
        have e2 : ¬ (y : Int) < 97 := by omega
        have e3 : ¬ (122 : Int) < (y : Int) := by omega
        clear ok
        go_wp2_with (go_at_call 66; refine Calls.mono (isDigit_any y hy256 _) ?_; rintro e w' ⟨rfl, rfl⟩; rw [hdg])
        exact ⟨⟨i + 1, by omega, by simp, trivial⟩, by simp [intOf]; omega⟩
  · obtain rfl : s.size = i := by omega
    have c1 : ¬ ((s.size : Nat) : Int) < (s.size : Int) := by omega
    have HR := hide (register_any s w HT.out)
    rw [if_neg HN.out.free, decide_eq_false HN.out.free] at HR
    go_wp2_with fail
    refine Calls.mono HR.out ?_
    rintro e w' ⟨rfl, rfl⟩
    go_wp2
    go_ret
    exact ⟨rfl, rfl⟩
end Go.Proofs.YthcmeboepedelaaDoor
