/-
  Package wire's digits: Hex.
-/
import Derived.Test.YtohoncgkekiihaaDoorWrCopy
import Derived.OwnWalk
namespace FerryCrc
/-- The digit of a number below 16. -/
def hexd (n : Nat) : Nat := if n < 10 then 48 + n else 87 + n
def hexOf (l : List Nat) : List Nat := l.flatMap fun c => [hexd (c / 16), hexd (c % 16)]
theorem hexd_lt {n : Nat} (h : n < 16) : hexd n < 256 := by unfold hexd; split <;> omega
theorem hexOf_len (l : List Nat) : (hexOf l).length = 2 * l.length := by
  induction l with
  | nil => rfl
  | cons c l ih =>
    show (hexOf l).length + 1 + 1 = 2 * (l.length + 1)
    omega
theorem hexOf_small {l : List Nat} (h : ∀ c ∈ l, c < 256) : ∀ c ∈ hexOf l, c < 256 := by
  intro c hc
  obtain ⟨x, hx, hc⟩ := List.mem_flatMap.1 hc
  have := h x hx
  simp only [List.mem_cons, List.not_mem_nil, or_false] at hc
  rcases hc with rfl | rfl
  · exact hexd_lt (by omega)
  · exact hexd_lt (by omega)
theorem hexOf_take {l : List Nat} {k c : Nat} (h : l[k]? = some c) : hexOf (l.take (k + 1)) = hexOf (l.take k) ++ [hexd (c / 16), hexd (c % 16)] := by
  unfold hexOf
  rw [List.take_add_one, h, List.flatMap_append]
  rfl
end FerryCrc
namespace Go.Proofs.YtohoncgkekiihaaDoor
open Go.RowKit FerryCrc
set_option linter.unusedVariables false
set_option linter.unusedSimpArgs false

theorem and15 {c : Nat} (h : c < 256) : bits .and .u8 (c : Int) 15 = ((c % 16 : Nat) : Int) := by
  have := u8_and_nat c 15 h (by decide)
  rw [show (15 : Nat) = 2 ^ 4 - 1 by decide, Nat.and_two_pow_sub_one_eq_mod] at this
  exact this

theorem digit_any (n : Nat) (w : World) (h : n < 16) :
    Calls Tryd.prog 55 #[.int .u8 (n : Int)] w fun e w' => e = .returned (.int .u8 ((hexd n : Nat) : Int)) ∧ w = w' := by
  by_cases h10 : n < 10
  · have d1 : (n : Int) < 10 := by omega
    have hv : Hid (hexd n = 48 + n) := by unfold Hid hexd; rw [if_pos h10]
    go_enter Tryd.func55, Tryd.ntmps55
    go_wp2
    go_ret
    exact ⟨ret_int (by rw [hv.out]; omega), rfl⟩
  · have d1 : ¬ (n : Int) < 10 := by omega
    have hv : Hid (hexd n = 87 + n) := by unfold Hid hexd; rw [if_neg h10]
    go_enter Tryd.func55, Tryd.ntmps55
    go_wp2
    go_ret
    exact ⟨ret_int (by rw [hv.out]; omega), rfl⟩

/-- make of no bytes with room for n. -/
theorem make_cap {w : World} {ops : Array Oper} {rest : List Oper} {o : Oper} {act : Act} {Q : Exit → Act → World → Prop} (hgd : o.guard = none) (l c : Operand)
    (ho : o.op = Op.makeSlice 23 l c) (C : Int) (n : Nat) (hl : act.eval l = .int .i64 0) (hc : act.eval c = .int .i64 C) (hC : C = (n : Int)) (hn : n ≤ 140737488355328)
    (h : ∀ w', Own w' w.heap.size (.slice (some ⟨w.heap.size, 0, none⟩) 0 n) [] → Below w.heap.size w w' → wpList Tryd.prog ops Q rest (act.put o.dst (.slice (some ⟨w.heap.size, 0, none⟩) 0 n)) w') : wpList Tryd.prog ops Q (o :: rest) act w := by
  obtain ⟨i0, hi, hz0, hz1, hz2⟩ := info_parts info8
  refine wpList_make_own w hgd l c 23 ho w.heap.size 5 i0 (.int .u8 0) 1 Tryd.underlying23 hi hz0 hz1 .i64 .i64 C n hl hc hC (by rw [hz2]; omega) (by unfold maxLen; omega) (Nat.le_refl _) ?_
  intro w' h1 h2
  exact h w' h1 ((Below.refl _ _).grown h2 (Nat.le_refl _) (by intro k e; cases e))

/-- Two bytes in a block of their own. -/
theorem two_bytes (w : World) (c d : Nat) (hc : c < 256) (hd : d < 256) (t : TypeId) : Bts (w.alloc (.cells #[.int .u8 (c : Int), .int .u8 (d : Int)] t)) (some ⟨w.heap.size, 0, none⟩) 2 2 [c, d] := by
  refine ⟨rfl, by decide, by decide, fun x hx => ?_, fun e => by simp at e, fun k hk => ?_⟩
  · simp only [List.mem_cons, List.not_mem_nil, or_false] at hx
    rcases hx with rfl | rfl
    · exact hc
    · exact hd
  · rcases (by omega : k = 0 ∨ k = 1) with rfl | rfl
    · exact ⟨_, _, rfl, c, rfl, (World.cell?_alloc_at _ _ _ _ rfl).trans rfl⟩
    · exact ⟨_, _, rfl, d, rfl, (World.cell?_alloc_at _ _ _ _ rfl).trans rfl⟩

set_option maxRecDepth 100000 in
set_option maxHeartbeats 400000 in
theorem hex_any (a : Option Addr) (len cap : Nat) (l : List Nat) (w : World) (hs : Bts w a len cap l) (hm : 2 * len ≤ 140737488355328) :
    Calls Tryd.prog 22 #[.slice a len cap] w fun e w' => e = .returned (.string (str (hexOf l))) ∧ Below w.heap.size w w' := by
  have HS := hide hs
  have HZ := hide hs.size
  have hw2 : IntKind.i64.wrap (2 * (len : Int)) = ((2 * len : Nat) : Int) := by rw [IntKind.wrap_i64]; omega
  clear hs
  go_enter Tryd.func22, Tryd.ntmps22
  go_wp2_with (at_make; refine make_cap rfl (.const (.int .i64 0)) (.tmp 8) rfl _ (2 * len) rfl rfl (by first | rfl | omega | simp) hm ?_; intro w1 ho hb; have HO := hide ho; have HB := hide hb; clear ho hb)
  go_loopw [3, 12] (fun v i wr => ∃ k : Nat, k ≤ len ∧ i = .int .i64 (k : Int) ∧ Hid (Own wr w.heap.size v (hexOf (l.take k))) ∧ Hid (Below w.heap.size w wr)) (fun _ i _ => len - (intOf i).toNat)
  case atStart => exact ⟨0, by omega, rfl, HO, HB⟩
  case round =>
    obtain ⟨k, hk, rfl, HOR, HBR⟩ := hrel
    by_cases hlt : k < len
    · obtain ⟨b, off, rfl, c, hl, hc⟩ := (HS.out.below HBR.out).cell k hlt
      have hc8 : c < 256 := HS.out.small c (List.mem_of_getElem? hl)
      have HT := hide (hexOf_take hl)
      have ha := and15 hc8
      have hd : (c : Int) / 16 = ((c / 16 : Nat) : Int) := by omega
      obtain ⟨x, hx⟩ : ∃ x, c / 16 = x := ⟨_, rfl⟩
      obtain ⟨y, hy⟩ : ∃ y, c % 16 = y := ⟨_, rfl⟩
      rw [hx, hy] at HT
      rw [hy] at ha
      rw [hx] at hd
      have hx6 : x < 16 := by omega
      have hy6 : y < 16 := by omega
      have HX := hide (hexd_lt hx6)
      have HY := hide (hexd_lt hy6)
      have HLN : Hid ((hexOf (l.take k)).length + 2 ≤ 140737488355328) := by
        unfold Hid
        rw [hexOf_len, List.length_take, HZ.out]
        have : min k len ≤ k := Nat.min_le_left _ _
        omega
      clear hl hx hy
      go_wp2_with fail
      refine Calls.mono (digit_any x _ hx6) ?_
      rintro e w2 ⟨rfl, rfl⟩
      go_wp2_with fail
      refine Calls.mono (digit_any y _ hy6) ?_
      rintro e w2 ⟨rfl, rfl⟩
      generalize hexd x = hx1 at *
      generalize hexd y = hy1 at *
      have HA : Hid (Below wr.heap.size wr (wr.alloc (.cells #[.int .u8 (hx1 : Int), .int .u8 (hy1 : Int)] 5))) := (Below.refl _ _).alloc (Nat.le_refl _) _
      have HBB := hide (two_bytes wr hx1 hy1 HX.out HY.out 5)
      have HOA : Hid (Own (wr.alloc (.cells #[.int .u8 (hx1 : Int), .int .u8 (hy1 : Int)] 5)) w.heap.size u3 (hexOf (l.take k))) := HOR.out.frm (S := fun _ => False) (Frm.ofBelow HA.out) (fun _ _ h => h)
      go_wp2_with (refine append_lie rfl (.tmp 16) (.tmp 23) rfl w.heap.size u3 (hexOf (l.take k)) rfl HOA.out _ 2 2 [hx1, hy1] rfl HBB.out HLN.out (chain HBR.out HA.out).size ?_; intro v' w3 ho hf hn; have HO3 := hide ho; have HF3 := hide hf; clear ho hf hn)
      have HB3 : Hid (Below w.heap.size w w3) := (chain HBR.out HA.out).trans (HF3.out.below (chain HBR.out HA.out).size (fun j e => (World.ownsRow.lt HOA.out j e).1))
      refine ⟨⟨k + 1, by omega, by first | rfl | simp, ?_, HB3⟩, by simp [intOf]; omega⟩
      unfold Hid
      rw [HT.out]
      exact HO3.out
    · obtain rfl : k = len := by omega
      have HT : Hid (l.take k = l) := by unfold Hid; exact List.take_of_length_le (by rw [HZ.out]; exact Nat.le_refl _)
      have hex : ∃ a1 n1 c1, u3 = .slice a1 n1 c1 ∧ Bts wr a1 n1 c1 (hexOf l) := by
        have h1 := HOR.out
        rw [HT.out] at h1
        obtain ⟨a1, c1, e1, h2⟩ := h1.shown (by rw [hexOf_len, HZ.out]; omega) (hexOf_small HS.out.small)
        exact ⟨a1, _, c1, e1, h2⟩
      obtain ⟨a1, n1, c1, rfl, hb1⟩ := hex
      have s1 := bts_string hb1
      obtain ⟨S, hS⟩ : ∃ S, str (hexOf l) = S := ⟨_, rfl⟩
      rw [hS] at s1
      have HSS := hide hS
      clear hS hb1
      go_wp2
      go_ret
      exact ⟨by rw [HSS.out]; rfl, HBR.out⟩
end Go.Proofs.YtohoncgkekiihaaDoor
