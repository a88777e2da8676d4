/-
  strings.Cut at one byte; HasSuffix and TrimSuffix of one byte.
-/
import Derived.Test.YthcmeboepedelaaDoorIaBase
import Derived.Lib.Bytealg
namespace Go.Proofs.YthcmeboepedelaaDoor
open Go.RowKit FerryCrc
set_option linter.unusedVariables false
set_option linter.unusedSimpArgs false
def ixB (s : ByteArray) (d : UInt8) : Int := Lib.indexByte s.data.toList d
theorem ixb_room : ∀ {l : List UInt8} {c : UInt8}, Lib.indexByte l c = -1 ∨ (0 ≤ Lib.indexByte l c ∧ Lib.indexByte l c < l.length)
  | [], c => .inl rfl
  | b :: l, c => by
    unfold Lib.indexByte
    rcases ixb_room (l := l) (c := c) with h | h
    · split
      · exact .inr ⟨by omega, by simp <;> omega⟩
      · rw [h]; exact .inl rfl
    · split
      · exact .inr ⟨by omega, by simp <;> omega⟩
      · split
        · exact .inl rfl
        · exact .inr ⟨by omega, by simp <;> omega⟩
theorem ixB_room (s : ByteArray) (d : UInt8) : ixB s d = -1 ∨ ∃ i : Nat, ixB s d = (i : Int) ∧ i < s.size := by
  rcases ixb_room (l := s.data.toList) (c := d) with h | ⟨h1, h2⟩
  · exact .inl h
  · refine .inr ⟨(ixB s d).toNat, by unfold ixB; omega, ?_⟩
    have : s.data.toList.length = s.size := by rw [Array.length_toList]; rfl
    unfold ixB
    omega
set_option maxRecDepth 100000 in
theorem indexByte_any (s : ByteArray) (d : UInt8) (w : World) : Calls Tryd.prog 81 #[.string s, .int .u8 (d.toNat : Int)] w fun e w' => e = .returned (.int .i64 (ixB s d)) ∧ w = w' := by
  have hd : ((d.toNat : Int)).toNat.toUInt8 = d := by simp
  go_enter Tryd.func81, Tryd.ntmps81
  go_wp2
  rw [run_callFunc_extern Tryd.func95 (by kernel_rfl) (by kernel_rfl) (by kernel_rfl) (e := Extern.BytealgIndexByte.indexByte) (by kernel_rfl), Lib.run_indexByteString]
  simp only [Result.andThen, hd]
  rw [Oper.upon_value]
  go_wp2
  go_ret
  exact ⟨rfl, rfl⟩
set_option maxRecDepth 100000 in
set_option maxHeartbeats 4000000 in
theorem index1_any (s : ByteArray) (d : UInt8) (w : World) : Calls Tryd.prog 62 #[.string s, .string ⟨#[d]⟩] w fun e w' => e = .returned (.int .i64 (ixB s d)) ∧ w = w' := by
  have hix : ∀ w, (Instr.index 9 (.string ⟨#[d]⟩) (.int .i64 0)).run Tryd.prog w = .ok (.int .u8 (d.toNat : Int)) w := fun w => by
    go_simp
    rfl
  have hsz : (⟨#[d]⟩ : ByteArray).size = 1 := rfl
  go_enter Tryd.func62, Tryd.ntmps62
  by_cases he : (⟨#[d]⟩ : ByteArray) = s
  · subst he
    have h0 : ixB ⟨#[d]⟩ d = 0 := by unfold ixB Lib.indexByte; simp
    go_wp2
    go_ret
    exact ⟨by rw [h0]; rfl, rfl⟩
  · have hne : ([d] == s.toList) = false := by have := str_neb he; rw [ByteArray.toList_eq (bs := ⟨#[d]⟩)] at this; exact this
    go_wp2_with (go_at_call 81; refine Calls.mono (indexByte_any s d _) ?_; rintro e w' ⟨rfl, rfl⟩)
    go_ret
    exact ⟨rfl, rfl⟩
/-- What stands ahead of the byte, what behind it, whether it is there. -/
def cut1 (s : ByteArray) (d : UInt8) : ByteArray := if ixB s d < 0 then s else s.extract 0 (ixB s d).toNat
def cut2 (s : ByteArray) (d : UInt8) : ByteArray := if ixB s d < 0 then ⟨#[]⟩ else s.extract ((ixB s d).toNat + 1) s.size
def cutB (s : ByteArray) (d : UInt8) : Bool := decide (0 ≤ ixB s d)
set_option maxRecDepth 100000 in
set_option maxHeartbeats 4000000 in
theorem lcut_any (s : ByteArray) (d : UInt8) (hm : s.size ≤ 140737488351232) (w : World) : Calls Tryd.prog 42 #[.string s, .string ⟨#[d]⟩] w fun e w' => e = .returned (.tuple #[.string (cut1 s d), .string (cut2 s d), .bool (cutB s d)]) ∧ Below w.heap.size w w' := by
  have hsz : (⟨#[d]⟩ : ByteArray).size = 1 := rfl
  have HI := hide (index1_any s d)
  unfold cut1 cut2 cutB
  rcases ixB_room s d with h | ⟨i, h, hi⟩
  · rw [h] at HI ⊢
    go_enter Tryd.func42, Tryd.ntmps42
    go_wp2_with fail
    refine Calls.mono (HI.out w) ?_
    rintro e w' ⟨rfl, rfl⟩
    go_wp2
    go_ret3
    exact ⟨rfl, Below.refl _ _⟩
  · rw [h] at HI ⊢
    have c1 : (0 : Int) ≤ (i : Int) := by omega
    have c2 : (i : Int) ≤ (s.size : Int) := by omega
    have c3 : (i : Int) + 1 ≤ (s.size : Int) := by omega
    have c4 : ¬ (i : Int) < 0 := by omega
    go_enter Tryd.func42, Tryd.ntmps42
    go_wp2_with fail
    refine Calls.mono (HI.out w) ?_
    rintro e w' ⟨rfl, rfl⟩
    go_upto_region 3 with fail
    go_region
    go_wp2
    go_ret3
    refine ⟨?_, (Below.refl _ _).drew⟩
    simp
set_option maxRecDepth 100000 in
theorem cut_any (s : ByteArray) (d : UInt8) (hm : s.size ≤ 140737488351232) (w : World) : Calls Tryd.prog 30 #[.string s, .string ⟨#[d]⟩] w fun e w' => e = .returned (.tuple #[.string (cut1 s d), .string (cut2 s d), .bool (cutB s d)]) ∧ Below w.heap.size w w' := by
  have HI := hide (lcut_any s d hm)
  go_enter Tryd.func30, Tryd.ntmps30
  go_wp2_with fail
  refine Calls.mono (HI.out w) ?_
  rintro e w' ⟨rfl, b⟩
  go_wp2
  go_ret3
  exact ⟨rfl, b⟩
end Go.Proofs.YthcmeboepedelaaDoor
