/-
  The law's data: so many bytes.
-/
import Derived.Test.YtnopclacchoijaaDoorXfBase
namespace Go.Proofs.YtnopclacchoijaaDoor
open Go.RowKit FerryCrc
set_option linter.unusedVariables false
set_option linter.unusedSimpArgs false

theorem Own.bts' {w : World} {base : Nat} {v : Value} {l : List Nat} (h : Own w base v l) (hm : l.length ≤ 140737488355328) (hs : ∀ c ∈ l, c < 256) : ∃ a c, v = .slice a l.length c ∧ Bts w a l.length c l := by
  rcases h.2 with ⟨rfl, h0⟩ | ⟨g, cap, cur, rfl, _⟩
  · obtain rfl : l = [] := List.length_eq_zero_iff.1 h0
    exact ⟨none, 0, rfl, ⟨rfl, by decide, Nat.le_refl _, fun _ h => by simp at h, fun _ => ⟨rfl, rfl⟩, fun k hk => absurd hk (Nat.not_lt_zero k)⟩⟩
  · exact ⟨_, cap, rfl, Own.bts h rfl hm hs⟩
theorem one_bts (w : World) (k : Nat) (hk : k < 256) : Bts (w.alloc (.cells #[.int .u8 (k : Int)] 5)) (some ⟨w.heap.size, 0, none⟩) 1 1 [k] :=
  ⟨rfl, by decide, Nat.le_refl _, fun c hc => by simp at hc; omega, fun e => by simp at e, fun j hj => ⟨_, _, rfl, k, by
    obtain rfl : j = 0 := by omega
    rfl, by
    obtain rfl : j = 0 := by omega
    rw [World.cell?_alloc_at _ _ _ _ rfl]; rfl⟩⟩
set_option maxRecDepth 100000 in
set_option maxHeartbeats 1000000 in
theorem data_any (n : Nat) (hn : n ≤ 256) (w : World) : Calls Tryd.prog 36 #[.int .i64 (n : Int)] w fun e w' => ∃ v, e = .returned v ∧ Own w' w.heap.size v (List.range n) ∧ Below w.heap.size w w' := by
  go_enter Tryd.func36, Tryd.ntmps36
  go_wp2_with fail
  go_loopw [3, 4] (fun o i wr => ∃ k : Nat, k ≤ n ∧ i = .int .i64 (k : Int) ∧ Hid (Own wr w.heap.size o (List.range k)) ∧ Hid (Below w.heap.size w wr)) (fun _ i _ => n - (intOf i).toNat)
  case atStart => exact ⟨0, Nat.zero_le _, rfl, World.ownsRow_nil _ _ _ _, Below.refl _ _⟩
  case round =>
    obtain ⟨k, hk, rfl, HO, HB⟩ := hrel
    by_cases hlt : k < n
    · have hk2 : k < 256 := by omega
      have hwr : IntKind.u8.wrap (k : Int) = (k : Int) := by
        rw [IntKind.wrap_u8]
        omega
      have BA := hide ((Below.refl wr.heap.size wr).alloc (Nat.le_refl _) (.cells #[.int .u8 (k : Int)] 5))
      have HOa := hide (ownsRow_below HO.out BA.out)
      have HBT := hide (one_bts wr k hk2)
      have HH : Hid ((List.range k).length + 1 ≤ 140737488355328 ∧ w.heap.size ≤ (wr.alloc (.cells #[.int .u8 (k : Int)] 5)).heap.size) := ⟨by rw [List.length_range]; omega, (chain HB.out BA.out).size⟩
      have HOB : Hid (∀ j, u3.ownBlock = some j → w.heap.size ≤ j) := fun j e => (World.ownsRow.lt HO.out j e).1
      go_wp2_with (at_builtin; refine append_bts rfl (.tmp 10) (.tmp 13) rfl w.heap.size _ (List.range k) rfl HOa.out (some ⟨wr.heap.size, 0, none⟩) 1 1 [k] rfl HBT.out HH.out.1 HH.out.2 ?_; intro v' w3 q1 q2 q3; have HQ1 := hide q1; have HQ2 := hide q2; clear q1 q2 q3)
      refine ⟨⟨k + 1, by omega, by simp, ?_, ?_⟩, by simp [intOf]; omega⟩
      · have h5 := HQ1.out
        rw [← List.range_succ] at h5
        exact h5
      · exact (chain HB.out BA.out).grown HQ2.out HH.out.2 HOB.out
    · obtain rfl : k = n := by omega
      go_wp2
      go_ret
      exact ⟨_, rfl, HO.out, HB.out⟩
end Go.Proofs.YtnopclacchoijaaDoor
