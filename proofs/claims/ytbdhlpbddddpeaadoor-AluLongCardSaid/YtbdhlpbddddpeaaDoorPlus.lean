/-
  Contracts of the law's own same (of equal words) and plus.
-/
import Derived.Test.YtbdhlpbddddpeaaDoorWds
import Derived.Deep.QuietTactic
import Derived.BigQuiet
namespace Go.Proofs.YtbdhlpbddddpeaaDoor
open Go.RowKit FerryAlu
set_option linter.unusedVariables false

set_option maxRecDepth 100000 in
theorem same_yes (a1 a2 : Option Addr) (n c1 c2 : Nat) (A : Nat → Nat) (w : World) (h1 : Wf w a1 n A) (h2 : Wf w a2 n A) :
    Calls Tryd.prog 23 #[.slice a1 n c1, .slice a2 n c2] w fun e w' => e = .returned (.bool true) ∧ Below w.heap.size w w' := by
  have hm := h1.most
  have H1 := hide h1
  have H2 := hide h2
  clear h1 h2
  go_enter Tryd.func23, Tryd.ntmps23
  go_wp2
  go_loopw [5] (fun i wr => ∃ k : Nat, k ≤ n ∧ i = .int .i64 (k : Int) ∧ Below w.heap.size w wr) (fun i _ => n - (intOf i).toNat)
  case atStart => exact ⟨0, by omega, rfl, Below.refl _ _⟩
  case round =>
    obtain ⟨k, hk, rfl, hB⟩ := hrel
    have HB := hide hB
    clear hB
    by_cases hlt : k < n
    · obtain ⟨b1, o1, rfl, x1⟩ := (H1.out.below HB.out).cell k hlt
      obtain ⟨b2, o2, rfl, x2⟩ := (H2.out.below HB.out).cell k hlt
      have k1 : (k : Int) < (n : Int) := by omega
      have k2 : (0 : Int) ≤ (k : Int) := by omega
      generalize A k = v at *
      go_wp2_with fail
      go_quiet (fail)
      go_wp2
      go_roundw
      case rel => exact ⟨k + 1, by omega, by go_num, below_drewN HB.out _⟩
      case measure => simp [intOf]; omega
    · obtain rfl : k = n := by omega
      go_wp2
      go_ret
      exact ⟨rfl, HB.out⟩

theorem OwnW.alloc {w : World} {base : Nat} {v : Value} {L : List Nat} (h : OwnW w base v L) (o : Obj) : OwnW (w.alloc o) base v L := World.ownsRow.alloc h o
theorem belowW_own {w0 wz w5 : World} {v : Value} {L : List Nat} (h : Below w0.heap.size w0 wz) (ho : OwnW wz w0.heap.size v L) (hg : wz.grownBy w5 v.ownBlock) : Below w0.heap.size w0 w5 :=
  h.grown hg h.size (fun k e => (World.ownsRow.lt ho k e).1)
theorem one_wds (w : World) (x : Nat) (hx : x < 4294967296) : Wds (w.alloc (.cells #[.int .u32 (x : Int)] 22)) (some ⟨w.heap.size, 0, none⟩) 1 1 [x] :=
  ⟨rfl, by decide, by decide, by simp; exact hx, fun e => by simp at e, fun k hk => ⟨w.heap.size, 0, rfl, x, by simp [show k = 0 by omega], by rw [World.cell?_alloc_at _ _ _ _ rfl]; simp [show k = 0 by omega]⟩⟩

set_option maxRecDepth 100000 in
set_option maxHeartbeats 600000 in
theorem plus_any (m : Bool) (a1 a2 : Option Addr) (n c1 c2 : Nat) (A B S : Nat → Nat) (cr : Nat → Bool) (w : World) (h1 : Wf w a1 n A) (h2 : Wf w a2 n B) (h0 : cr 0 = false) (hS : ∀ k, k < n → S k < 4294967296)
    (hstep : ∀ k, k < n → ∀ w : World, if m then Calls Tryd.prog 36 #[.int .u32 (A k : Int), .int .u32 (B k : Int), .bool (cr k)] w fun e w' => e = .returned (.tuple #[.int .u32 (S k : Int), .bool (cr (k + 1))]) ∧ w = w'
      else Calls Tryd.prog 25 #[.int .u32 (A k : Int), .int .u32 (B k : Int), .bool (cr k)] w fun e w' => e = .returned (.tuple #[.int .u32 (S k : Int), .bool (cr (k + 1))]) ∧ w = w') :
    Calls Tryd.prog 22 #[.slice a1 n c1, .slice a2 n c2, .bool m] w fun e w' => ∃ v, e = .returned (.tuple #[v, .bool (cr n)]) ∧ OwnW w' w.heap.size v (upto S n) ∧ Below w.heap.size w w' := by
  have hm := h1.most
  have H1 := hide h1
  have H2 := hide h2
  have HS := hide hstep
  have H0 := hide h0
  have HSm := hide hS
  clear h1 h2 hstep h0 hS
  go_enter Tryd.func22, Tryd.ntmps22
  go_wp2
  go_loopw [8, 9, 10] (fun s c i wr => ∃ k : Nat, k ≤ n ∧ c = .bool (cr k) ∧ i = .int .i64 (k : Int) ∧ OwnW wr w.heap.size s (upto S k) ∧ Below w.heap.size w wr) (fun _ _ i _ => n - (intOf i).toNat)
  case atStart =>
    exact ⟨0, by omega, by rw [H0.out], rfl, ⟨rfl, .inl ⟨rfl, rfl⟩⟩, Below.refl _ _⟩
  case round =>
    obtain ⟨k, hk, rfl, rfl, hO, hB⟩ := hrel
    have HB := hide hB
    have HO := hide hO
    clear hB hO
    by_cases hlt : k < n
    · obtain ⟨b1, o1, rfl, x1⟩ := (H1.out.below HB.out).cell k hlt
      obtain ⟨b2, o2, rfl, x2⟩ := (H2.out.below HB.out).cell k hlt
      have k1 : (k : Int) < (n : Int) := by omega
      have k2 : (0 : Int) ≤ (k : Int) := by omega
      have st := HS.out k hlt
      cases m
      · simp only [Bool.false_eq_true, if_false] at st
        have ST := hide st
        clear st
        go_wp2_with fail
        go_quiet (first | (go_at_call 25; exact Calls.quiet_of_same ((ST.out _).mono fun _ _ h => ⟨h.1, h.2.symm⟩)))
        have HO1 : Hid (OwnW (wr.drewN nq) w.heap.size u8 (upto S k)) := HO.out
        have HB1 : Hid (Below w.heap.size w (wr.drewN nq)) := below_drewN HB.out _
        clear x1 x2 HO HB
        generalize wr.drewN nq = W1 at *
        have HOa := hide (HO1.out.alloc (.cells #[.int .u32 (S k : Int)] 22))
        have HOne := hide (one_wds W1 (S k) (HSm.out k hlt))
        have HBa : Hid (Below w.heap.size w (W1.alloc (.cells #[.int .u32 (S k : Int)] 22))) := HB1.out.alloc HB1.out.size _
        go_wp2_with (at_builtin; refine append_wds rfl (.tmp 51) (.tmp 53) rfl w.heap.size _ (upto S k) rfl HOa.out (some ⟨W1.heap.size, 0, none⟩) 1 1 [S k] rfl HOne.out (by rw [upto_length]; omega) (by have := HB1.out.size; simp; omega) ?_; intro v2 w2 hown2 hgrow2 hnil2)
        go_roundw
        case rel =>
          refine ⟨k + 1, by omega, rfl, by go_num, ?_, belowW_own HBa.out HOa.out hgrow2⟩
          rw [upto_next]
          exact hown2
        case measure => simp [intOf]; omega
      · simp only [if_true] at st
        have ST := hide st
        clear st
        go_wp2_with fail
        go_quiet (first | (go_at_call 36; exact Calls.quiet_of_same ((ST.out _).mono fun _ _ h => ⟨h.1, h.2.symm⟩)))
        have HO1 : Hid (OwnW (wr.drewN nq) w.heap.size u8 (upto S k)) := HO.out
        have HB1 : Hid (Below w.heap.size w (wr.drewN nq)) := below_drewN HB.out _
        clear x1 x2 HO HB
        generalize wr.drewN nq = W1 at *
        have HOa := hide (HO1.out.alloc (.cells #[.int .u32 (S k : Int)] 22))
        have HOne := hide (one_wds W1 (S k) (HSm.out k hlt))
        have HBa : Hid (Below w.heap.size w (W1.alloc (.cells #[.int .u32 (S k : Int)] 22))) := HB1.out.alloc HB1.out.size _
        go_wp2_with (at_builtin; refine append_wds rfl (.tmp 51) (.tmp 53) rfl w.heap.size _ (upto S k) rfl HOa.out (some ⟨W1.heap.size, 0, none⟩) 1 1 [S k] rfl HOne.out (by rw [upto_length]; omega) (by have := HB1.out.size; simp; omega) ?_; intro v2 w2 hown2 hgrow2 hnil2)
        go_roundw
        case rel =>
          refine ⟨k + 1, by omega, rfl, by go_num, ?_, belowW_own HBa.out HOa.out hgrow2⟩
          rw [upto_next]
          exact hown2
        case measure => simp [intOf]; omega
    · obtain rfl : k = n := by omega
      go_wp2
      go_ret2
      exact ⟨_, rfl, HO.out, HB.out⟩
end Go.Proofs.YtbdhlpbddddpeaaDoor
