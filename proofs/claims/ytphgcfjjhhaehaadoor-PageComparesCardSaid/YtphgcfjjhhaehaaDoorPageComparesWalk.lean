/-
  Walk of the law PageCompares.
-/
import Derived.Test.YtphgcfjjhhaehaaDoorPgSame
namespace Go.Proofs.YtphgcfjjhhaehaaDoor.pageCompares
open Go.RowKit FerryCrc
set_option linter.unusedVariables false

def one (d : Bool) : Pg := ⟨1, d, List.replicate 64 0⟩
theorem one_ok (d : Bool) : (one d).Ok := ⟨by show _ ≤ (1 : Int); decide, by show (1 : Int) ≤ _; decide, by show (List.replicate 64 0).length = 64; decide, by show ∀ c ∈ List.replicate 64 0, c < 256; decide⟩
theorem zero1 : (Tryd.zeroCells41.setIfInBounds 0 (.int .i64 1)).setIfInBounds 1 (.bool true) = (one true).cells.toArray := by kernel_rfl
theorem zero0 : Tryd.zeroCells41.setIfInBounds 0 (.int .i64 1) = (one false).cells.toArray := by kernel_rfl
theorem pgs_one (w : World) (p : Pg) (hp : p.Ok) : Pgs (w.alloc (.cells p.cells.toArray 41)) (some ⟨w.heap.size, 0, none⟩) 1 1 [p] :=
  ⟨rfl, by decide, by decide, fun q hq => by rw [List.mem_singleton.1 hq]; exact hp, fun e => by simp at e, fun k q hk => by
    obtain ⟨hk1, hk2⟩ := List.getElem?_eq_some_iff.1 hk
    simp at hk1
    subst hk1
    simp at hk2
    subst hk2
    exact ⟨_, _, rfl, range_alloc w _ _⟩⟩

set_option maxRecDepth 100000 in
set_option maxHeartbeats 1000000 in
theorem law {E : Nat → Addr} (a : Option Addr) (len cap : Nat) (l : List Pg) (a' : Option Addr) (len' cap' : Nat) (m : List Pg) (w : World) (he : Errs w E) (hs : Pgs w a len cap l) (hs' : Pgs w a' len' cap' m) :
    Calls Tryd.prog 5 #[.slice a len cap, .slice a' len' cap'] w fun e w' => e = .returned (.bool true) ∧ Below w.heap.size w w' := by
  obtain rfl := hs.size
  obtain rfl := hs'.size
  have HE := hide he
  have HS := hide hs
  have HS' := hide hs'
  clear he hs hs'
  go_enter Tryd.func5, Tryd.ntmps5
  obtain ⟨i, z, hi, hz, hsz, _, _⟩ := infoPage
  have z1 := zero1
  have z0 := zero0
  go_wp2_with (first
    | (refine wpList_build1 rfl 22 (.tmp 10) rfl (one true).cells (congrArg Value.agg z1) 41 i z Tryd.underlying22 hi hz (by rw [(one_ok true).cells]; exact hsz) (by rw [(one_ok true).cells]; decide) (by rw [(one_ok true).cells]; decide) ?_)
    | (refine wpList_build1 rfl 22 (.tmp 12) rfl (one false).cells (congrArg Value.agg z0) 41 i z Tryd.underlying22 hi hz (by rw [(one_ok false).cells]; exact hsz) (by rw [(one_ok false).cells]; decide) (by rw [(one_ok false).cells]; decide) ?_))
  clear hi hz hsz z1 z0
  have hone2 := pgs_one (w.alloc (.cells (one true).cells.toArray 41)) (one false) (one_ok false)
  have hone1 := (pgs_one w (one true) (one_ok true)).below ((Below.refl _ (w.alloc (.cells (one true).cells.toArray 41))).alloc (Nat.le_refl _) (.cells (one false).cells.toArray 41))
  rw [show (w.alloc (.cells (one true).cells.toArray 41)).heap.size = w.heap.size + 1 by simp] at hone2
  have D0 : Hid (Below w.heap.size w ((w.alloc (.cells (one true).cells.toArray 41)).alloc (.cells (one false).cells.toArray 41))) := ((Below.refl _ _).alloc (Nat.le_refl _) _).alloc (by simp) _
  have A0 := hide (alike_any _ _ _ _ _ _ _ _ _ hone1 hone2)
  clear hone1 hone2
  generalize (w.alloc (.cells (one true).cells.toArray 41)).alloc (.cells (one false).cells.toArray 41) = w0 at *
  refine Calls.mono A0.out ?_
  rintro e w1 ⟨r, rfl, hr, b1⟩
  obtain rfl : r = true := hr.2 rfl
  have D1 := hide (chain D0.out b1)
  clear A0 D0 hr b1
  generalize Value.agg (one false).cells.toArray = ag1 at *
  generalize Value.agg ((one false).cells.set 1 (Value.bool true)).toArray = ag2 at *
  obtain ⟨L, ci, cv, hL, hB, rD, pD⟩ := differ_both E l m HS.out.most
  have HL := hide hL
  have HB := hide hB
  have RD := hide rD
  have PD := hide pD
  clear hL hB rD pD
  go_wp2_with fail
  refine Calls.mono (RD.out w1 a cap a' cap' (HS.out.below D1.out) (HS'.out.below D1.out)) ?_
  rintro e w2 ⟨x, rfl, ho, b⟩
  have O2 := hide ho
  have D2 := hide (chain D1.out b)
  clear ho b
  go_wp2_with fail
  refine Calls.mono (refAlike_any a _ cap l a' _ cap' m w2 (HS.out.below D2.out) (HS'.out.below D2.out)) ?_
  rintro e w3 ⟨r, rfl, hr, b⟩
  have R := hide hr
  have O3 := hide (O2.out.below b)
  have D3 := hide (chain D2.out b)
  clear hr b O2
  go_wp2_with fail
  refine Calls.mono (refCopy_any a _ cap l w3 (HS.out.below D3.out)) ?_
  rintro e w4 ⟨v4, rfl, ho, b⟩
  have O4 := hide (O3.out.below b)
  have P4 := hide ho
  have D4 := hide (chain D3.out b)
  clear ho b O3
  go_wp2_with fail
  refine Calls.mono (refCopy_any a' _ cap' m w4 (HS'.out.below D4.out)) ?_
  rintro e w5 ⟨v5, rfl, ho, b⟩
  have O5 := hide (O4.out.below b)
  obtain ⟨a4, c4, rfl, g4, _⟩ := (P4.out.below b).pgs HS.out.ok HS.out.most
  obtain ⟨a5, c5, rfl, g5, _⟩ := ho.pgs HS'.out.ok HS'.out.most
  have G4 := hide g4
  have G5 := hide g5
  have D5 := hide (chain D4.out b)
  clear ho b O4 P4 g4 g5
  go_wp2_with fail
  refine Calls.mono (PD.out w5 a4 c4 a5 c5 (HE.out.below D5.out) G4.out G5.out) ?_
  rintro e w6 ⟨y, rfl, ho, b⟩
  have O6 := hide (O5.out.below b)
  have Y6 := hide ho
  have D6 := hide (chain D5.out b)
  clear ho b O5 G4 G5
  go_wp2_with fail
  refine Calls.mono (refCopy_any a _ cap l w6 (HS.out.below D6.out)) ?_
  rintro e w7 ⟨v7, rfl, ho, b⟩
  have O7 := hide (O6.out.below b)
  have Y7 := hide (Y6.out.below b)
  have P7 := hide ho
  have D7 := hide (chain D6.out b)
  clear ho b O6 Y6
  go_wp2_with fail
  refine Calls.mono (refCopy_any a' _ cap' m w7 (HS'.out.below D7.out)) ?_
  rintro e w8 ⟨v8, rfl, ho, b⟩
  have O8 := hide (O7.out.below b)
  have Y8 := hide (Y7.out.below b)
  obtain ⟨a7, c7, rfl, g7, _⟩ := (P7.out.below b).pgs HS.out.ok HS.out.most
  obtain ⟨a8, c8, rfl, g8, _⟩ := ho.pgs HS'.out.ok HS'.out.most
  have G7 := hide g7
  have G8 := hide g8
  have D8 := hide (chain D7.out b)
  clear ho b O7 Y7 P7 g7 g8
  go_wp2_with fail
  refine Calls.mono (alike_any a7 _ c7 l a8 _ c8 m w8 G7.out G8.out) ?_
  rintro e w9 ⟨r', rfl, hr, b⟩
  obtain rfl : r' = r := by
    have h1 := R.out
    rw [← hr] at h1
    cases r <;> cases r' <;> simp_all
  have O9 := hide (O8.out.below b)
  have Y9 := hide (Y8.out.below b)
  have D9 := hide (chain D8.out b)
  clear hr b O8 Y8 G7 G8 R
  go_wp2_with fail
  refine Calls.mono (ints_same Y9.out O9.out HL.out) ?_
  rintro e w10 ⟨rfl, b⟩
  have D10 := hide (chain D9.out b)
  clear b O9 Y9
  go_wp2_with fail
  refine Calls.mono (lcode_any (HE.out.below D10.out) cv ci HB.out) ?_
  rintro e w11 ⟨rfl, b⟩
  have D11 := hide (chain D10.out b)
  clear b
  go_wp2
  go_ret
  exact ⟨rfl, D11.out⟩
end Go.Proofs.YtphgcfjjhhaehaaDoor.pageCompares
