/-
  Walk of the law WireWrites.
-/
import Derived.Test.YtkkogkdalcigkaaDoorWwPuts
import Derived.Test.YtkkogkdalcigkaaDoorWireStaysWalk
namespace Go.Proofs.YtkkogkdalcigkaaDoor
open Go.RowKit FerryCrc
set_option linter.unusedVariables false
set_option linter.unusedSimpArgs false

/-- Two pairs of writers apart from one another. -/
def Ap (b1 : Nat) (v1 : Value) (d1 : Nat) (u1 : Value) (b2 : Nat) (v2 : Value) (d2 : Nat) (u2 : Value) : Prop := ∀ j, AS b1 v1 d1 u1 j → ¬ AS b2 v2 d2 u2 j
theorem Ap.swap {b1 d1 b2 d2 : Nat} {v1 u1 v2 u2 : Value} (h : Ap b1 v1 d1 u1 b2 v2 d2 u2) : Ap b2 v2 d2 u2 b1 v1 d1 u1 := fun j h1 h2 => h j h2 h1
theorem as_new {w : World} {b d : Nat} {v u v' u' : Value} (n1 : NewB w v v') (n2 : NewB w u u') (j : Nat) (hj : AS b v' d u' j) : AS b v d u j ∨ w.heap.size ≤ j := by
  rcases hj with (e | e) | (e | e)
  · exact .inl (.inl (.inl e))
  · exact (n1 j e).imp (fun e => .inl (.inr e)) id
  · exact .inl (.inr (.inl e))
  · exact (n2 j e).imp (fun e => .inr (.inr e)) id
theorem Ap.step {E : Nat → Addr} {w : World} {b1 d1 b2 d2 : Nat} {v1 u1 v2 u2 v1' u1' : Value} {k2 : Nat} {L2 : List Nat} (h : Ap b1 v1 d1 u1 b2 v2 d2 u2) (h2 : Pw E w b2 d2 v2 u2 k2 L2) (n1 : NewB w v1 v1') (n2 : NewB w u1 u1') : Ap b1 v1' d1 u1' b2 v2 d2 u2 := fun j hj hk => by
  rcases as_new n1 n2 j hj with e | e
  · exact h j e hk
  · have := h2.lt j hk
    omega
theorem as_low {E : Nat → Addr} {w : World} {b d B : Nat} {v u : Value} {k : Nat} {L : List Nat} (h : Pw E w b d v u k L) (hb : B ≤ b) (hd : B ≤ d) (j : Nat) (hj : AS b v d u j) : B ≤ j := by
  rcases hj with (e | e) | (e | e)
  · omega
  · have := (h.wr.blk j e).1; omega
  · omega
  · have := (h.dw.blk j e).1; omega
end Go.Proofs.YtkkogkdalcigkaaDoor
namespace Go.Proofs.YtkkogkdalcigkaaDoor.wireWrites
open Go.RowKit FerryCrc
set_option linter.unusedVariables false
set_option linter.unusedSimpArgs false

set_option maxRecDepth 100000 in
set_option maxHeartbeats 4000000 in
theorem law {E : Nat → Addr} (a : Option Addr) (len cap : Nat) (l : List Op7) (w : World) (he : Errs w E) (hs : Rcs Op7.cells 7 w a len cap l) (hok : ∀ o ∈ l, o.s.size ≤ 1048576) (hm : len ≤ 1048576) :
    Calls Tryd.prog 7 #[.slice a len cap] w fun e w' => e = .returned (.bool true) ∧ Below w.heap.size w w' := by
  have HE := hide he
  have HS := hide hs
  have HOK := hide hok
  have HZ := hide hs.size
  clear he hs hok
  go_enter Tryd.func7, Tryd.ntmps7
  go_wp2_with fail
  refine Calls.mono (fixed_any w HE.out) ?_
  rintro e w1 ⟨rfl, hb1⟩
  have HB1 := hide hb1
  clear hb1
  go_wp2_with fail
  refine Calls.mono (newWriter_any w1) ?_
  rintro e w2 ⟨rfl, hw2, hb2⟩
  have HW2 := hide hw2
  have HB2 := hide hb2
  clear hw2 hb2
  go_wp2_with fail
  refine Calls.mono (newWriter_any w2) ?_
  rintro e w3 ⟨rfl, hw3, hb3⟩
  have HW3 := hide hw3
  have HB3 := hide hb3
  clear hw3 hb3
  go_wp2_with fail
  refine Calls.mono (dnew_any w3) ?_
  rintro e w4 ⟨D1, hD1, rfl, hd4, hb4⟩
  have HD4 := hide hd4
  have HB4 := hide hb4
  have HD1 := hide hD1
  clear hd4 hb4 hD1
  go_wp2_with fail
  refine Calls.mono (dnew_any w4) ?_
  rintro e w5 ⟨D2, hD2, rfl, hd5, hb5⟩
  obtain ⟨b1, hb1⟩ : ∃ b1, w1.heap.size = b1 := ⟨_, rfl⟩
  obtain ⟨b2, hb2⟩ : ∃ b2, w2.heap.size = b2 := ⟨_, rfl⟩
  have o1 : b1 < b2 := by rw [← hb1, ← hb2]; exact HW2.out.lt
  have o2 : b2 < w3.heap.size := by rw [← hb2]; exact HW3.out.lt
  have o3 := HD4.out.lt
  have o4 := HD1.out
  have o5 := HB4.out.size
  have o0 := HB1.out.size
  have HP1 : Hid (Pw E w5 b1 D1 (.slice none 0 0) (.slice none 0 0) 0 []) := ⟨by rw [← hb1]; exact HW2.out.below (chain HB3.out (chain HB4.out hb5)), HD4.out.below hb5, by omega, fun e => by simp [Value.ownBlock] at e, fun e => by simp [Value.ownBlock] at e, fun j e => by simp [Value.ownBlock] at e, by decide⟩
  have HP2 : Hid (Pw E w5 b2 D2 (.slice none 0 0) (.slice none 0 0) 0 []) := ⟨by rw [← hb2]; exact HW3.out.below (chain HB4.out hb5), hd5, by omega, fun e => by simp [Value.ownBlock] at e, fun e => by simp [Value.ownBlock] at e, fun j e => by simp [Value.ownBlock] at e, by decide⟩
  have HAP : Hid (Ap b1 (.slice none 0 0) D1 (.slice none 0 0) b2 (.slice none 0 0) D2 (.slice none 0 0)) := fun j h1 h2 => by
    have e1 : j = b1 ∨ j = D1 := by
      rcases h1 with (e | e) | (e | e)
      · exact .inl e
      · simp [Value.ownBlock] at e
      · exact .inr e
      · simp [Value.ownBlock] at e
    have e2 : j = b2 ∨ j = D2 := by
      rcases h2 with (e | e) | (e | e)
      · exact .inl e
      · simp [Value.ownBlock] at e
      · exact .inr e
      · simp [Value.ownBlock] at e
    omega
  have HLOW : Hid (w.heap.size ≤ b1 ∧ w.heap.size ≤ b2 ∧ w.heap.size ≤ D1 ∧ w.heap.size ≤ D2) := ⟨by omega, by omega, by omega, by omega⟩
  have HB5 := hide (chain HB1.out (chain HB2.out (chain HB3.out (chain HB4.out hb5))))
  clear hd5 hb5 hD2 HW2 HW3 HD4 HB4 HB3 HB2
  rw [hb1, hb2]
  clear hb1 hb2 o1 o2 o3 o4 o5 o0 HD1
  go_wp2_with fail
  go_loopw [7] (fun i wr => ∃ (t : Nat) (v1 u1 : Value) (k1 : Nat) (L1 : List Nat) (v2 u2 : Value) (k2 : Nat) (L2 : List Nat), t ≤ len ∧ i = .int .i64 (t : Int) ∧ Hid (Pw E wr b1 D1 v1 u1 k1 L1) ∧ Hid (Pw E wr b2 D2 v2 u2 k2 L2) ∧ Hid (Ap b1 v1 D1 u1 b2 v2 D2 u2) ∧ Hid (L1.length ≤ t * 1048580 ∧ L2.length ≤ t * 1048580) ∧ Hid (Below w.heap.size w wr)) (fun i _ => len - (intOf i).toNat)
  case atStart => exact ⟨0, _, _, 0, [], _, _, 0, [], by omega, rfl, HP1, HP2, HAP, ⟨by simp, by simp⟩, HB5⟩
  case round =>
    obtain ⟨t, v1, u1, k1, L1, v2, u2, k2, L2, ht, rfl, HQ1, HQ2, HA, HL, HB⟩ := hrel
    by_cases hlt : t < len
    · obtain ⟨o, ho⟩ : ∃ o, l[t]? = some o := ⟨_, List.getElem?_eq_getElem (by rw [HZ.out]; exact hlt)⟩
      obtain ⟨b, off, rfl, hcell⟩ := HS.out.at Op7.len (by decide) ho
      have HO := hide (HOK.out o (List.mem_of_getElem? ho))
      have f0 : wr.cell? ⟨b, off + t * 7, none⟩ = some (.int .i64 o.kind) := cell_below (hcell 0 _ rfl) HB.out
      have f1 : wr.cell? ⟨b, off + t * 7 + 1, none⟩ = some (.bool o.sec) := cell_below (hcell 1 _ rfl) HB.out
      have f2 : wr.cell? ⟨b, off + t * 7 + 2, none⟩ = some (.int .i64 o.cur) := cell_below (hcell 2 _ rfl) HB.out
      have f3 : wr.cell? ⟨b, off + t * 7 + 3, none⟩ = some (.int .i64 o.n) := cell_below (hcell 3 _ rfl) HB.out
      have f4 : wr.cell? ⟨b, off + t * 7 + 4, none⟩ = some (.int .i64 o.lo) := cell_below (hcell 4 _ rfl) HB.out
      have f5 : wr.cell? ⟨b, off + t * 7 + 5, none⟩ = some (.int .i64 o.hi) := cell_below (hcell 5 _ rfl) HB.out
      have f6 : wr.cell? ⟨b, off + t * 7 + 6, none⟩ = some (.string o.s) := cell_below (hcell 6 _ rfl) HB.out
      clear hcell ho
      obtain ⟨kind, sec, cur, n, lo, hi, S⟩ := o
      simp only at f0 f1 f2 f3 f4 f5 f6
      have hbound : t * 1048580 ≤ 1048576 * 1048580 := Nat.mul_le_mul_right _ (by omega)
      cases sec
      · have HC := hide (puts_any w b1 D1 v1 u1 k1 L1 kind false cur n lo hi S wr HQ1.out HE.out HB.out HLOW.out.1 HLOW.out.2.2.1 (by have := HL.out.1; have : S.size ≤ 1048576 := HO.out; omega))
        go_wp2_with fail
        refine Calls.mono HC.out ?_
        rintro e w6 ⟨rfl, v1', u1', k1', L1', q1, q2, q3, q4, q5⟩
        have HQ1' := hide q1
        have HQ2' := hide (HQ2.out.frm q3 (fun j hj e => HA.out j e hj))
        have HA' := hide (HA.out.step HQ2.out q4 q5)
        have HL' : Hid (L1'.length ≤ (t + 1) * 1048580 ∧ L2.length ≤ (t + 1) * 1048580) := by
          have h1 := HL.out
          have h2 : S.size ≤ 1048576 := HO.out
          rw [Nat.add_mul]
          exact ⟨by omega, by omega⟩
        have HB' := hide (HB.out.trans (q3.below HB.out.size (as_low HQ1.out HLOW.out.1 HLOW.out.2.2.1)))
        clear q1 q2 q3 q4 q5 f0 f1 f2 f3 f4 f5 f6 HQ1 HQ2 HA HL HB
        go_wp2
        exact ⟨⟨t + 1, v1', u1', k1', L1', v2, u2, k2, L2, by omega, by first | rfl | simp, HQ1', HQ2', HA', HL', HB'⟩, by simp [intOf]; omega⟩
      · have HC := hide (puts_any w b2 D2 v2 u2 k2 L2 kind true cur n lo hi S wr HQ2.out HE.out HB.out HLOW.out.2.1 HLOW.out.2.2.2 (by have := HL.out.2; have : S.size ≤ 1048576 := HO.out; omega))
        go_wp2_with fail
        refine Calls.mono HC.out ?_
        rintro e w6 ⟨rfl, v2', u2', k2', L2', q1, q2, q3, q4, q5⟩
        have HQ2' := hide q1
        have HQ1' := hide (HQ1.out.frm q3 (fun j hj e => HA.out j hj e))
        have HA' := hide (HA.out.swap.step HQ1.out q4 q5).swap
        have HL' : Hid (L1.length ≤ (t + 1) * 1048580 ∧ L2'.length ≤ (t + 1) * 1048580) := by
          have h1 := HL.out
          have h2 : S.size ≤ 1048576 := HO.out
          rw [Nat.add_mul]
          exact ⟨by omega, by omega⟩
        have HB' := hide (HB.out.trans (q3.below HB.out.size (as_low HQ2.out HLOW.out.2.1 HLOW.out.2.2.2)))
        clear q1 q2 q3 q4 q5 f0 f1 f2 f3 f4 f5 f6 HQ1 HQ2 HA HL HB
        go_wp2
        exact ⟨⟨t + 1, v1, u1, k1, L1, v2', u2', k2', L2', by omega, by first | rfl | simp, HQ1', HQ2', HA', HL', HB'⟩, by simp [intOf]; omega⟩
    · obtain rfl : t = len := by omega
      have hbound : t * 1048580 ≤ 1048576 * 1048580 := Nat.mul_le_mul_right _ (by omega)
      have HC1 := hide (done_any b1 D1 v1 u1 k1 L1 wr HQ1.out.wr HQ1.out.dw (HE.out.below HB.out) HQ1.out.k20 (by have := HL.out.1; omega))
      go_wp2_with fail
      refine Calls.mono HC1.out ?_
      rintro e w6 ⟨rfl, hb6⟩
      have HB6 := hide (chain HB.out hb6)
      have HQ2' := hide (HQ2.out.below hb6)
      clear hb6
      go_wp2_with fail
      refine Calls.mono (done_any b2 D2 v2 u2 k2 L2 w6 HQ2'.out.wr HQ2'.out.dw (HE.out.below HB6.out) HQ2.out.k20 (by have := HL.out.2; omega)) ?_
      rintro e w7 ⟨rfl, hb7⟩
      have HB7 := hide (chain HB6.out hb7)
      clear hb7
      go_wp2
      go_ret
      exact ⟨rfl, HB7.out⟩
end Go.Proofs.YtkkogkdalcigkaaDoor.wireWrites
