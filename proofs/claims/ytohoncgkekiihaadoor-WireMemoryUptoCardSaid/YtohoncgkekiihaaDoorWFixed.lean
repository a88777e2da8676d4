/-
  The law's fixed answers.
-/
import Derived.Test.YtohoncgkekiihaaDoorCuMore
import Derived.Test.YtohoncgkekiihaaDoorWHex
import Derived.Test.YtohoncgkekiihaaDoorErrHitW
import Derived.Lib.SlBytesConst
namespace Go.Proofs.YtohoncgkekiihaaDoor
open Go.RowKit FerryCrc
set_option linter.unusedVariables false
set_option linter.unusedSimpArgs false

set_option maxRecDepth 100000 in
theorem wu16_any (b : Nat) (v : Value) (L : List Nat) (n : Nat) (w : World) (hw : Wr w b v .nilIface L) (hn : n < 65536) (hl : L.length + 2 ≤ 140737488355328) :
    Calls Tryd.prog 37 #[.pointer (some ⟨b, 0, none⟩), .int .i64 (n : Int)] w fun e w' => e = .returned (.tuple #[]) ∧ ∃ v', Wr w' b v' .nilIface (L ++ be n 2) ∧ Frm (WS b v) w w' ∧ NewB w v v' := by
  have HC := hide (wnumber_any b v L n 2 w hw (by decide) (by omega) hl)
  clear hw
  go_enter Tryd.func37, Tryd.ntmps37
  go_wp2_with fail
  refine Calls.mono HC.out ?_
  rintro e w1 ⟨rfl, h⟩
  have H := hide h
  clear h
  go_wp2
  go_end0
  exact ⟨rfl, H.out⟩

set_option maxRecDepth 100000 in
theorem crec_ok (c g len p bd t n : Nat) (L : List Nat) (w : World) (h : Cur w c g len p bd L) (hr : Rec L p bd t n) :
    Calls Tryd.prog 41 #[.pointer (some ⟨c, 0, none⟩), .int .i64 (t : Int)] w fun e w' => ∃ k, w.heap.size ≤ k ∧ e = .returned (.tuple #[.pointer (some ⟨k, 0, none⟩), .nilIface]) ∧ Cur w' c g len (p + 3 + n) bd L ∧ Cur w' k g len (p + 3) (p + 3 + n) L ∧ Frm (fun k => k = c) w w' := by
  obtain ⟨h1, h2, h3, rfl, h5⟩ := hr
  have HC := hide (tag_ok c g len p bd L t w h h1 h2 h3)
  have HD := hide (fun w2 (k : Cur w2 c g len p bd L) => body_ok c g len p bd L w2 k (by omega) h5)
  have H := hide h
  clear h h1 h2 h3 h5
  generalize nbe (cut L (p + 1) 2) = n at *
  go_enter Tryd.func41, Tryd.ntmps41
  go_wp2_with fail
  refine Calls.mono HC.out ?_
  rintro e w1 ⟨rfl, hb⟩
  have HB := hide hb
  clear hb
  go_wp2_with fail
  refine Calls.mono (HD.out w1 (H.out.below HB.out)) ?_
  rintro e w2 ⟨rfl, q1, q2, q3⟩
  have H1 := hide q1
  have H2 := hide q2
  have H3 := hide q3
  clear q1 q2 q3
  go_wp2
  go_ret2
  exact ⟨w1.heap.size, HB.out.size, rfl, H1.out, H2.out, (Frm.ofBelow HB.out).trans H3.out (fun j _ t => t)⟩

/-- The bytes of a constant, in a block that is marked. -/
theorem marked_bts (w : World) (l : List Nat) (cs : Array Value) (fr : Nat × Nat) (t : TypeId) (n : Nat) (hc : cs = (l.map bv).toArray) (hn : l.length = n) (hm : n ≤ 140737488355328) (hs : ∀ c ∈ l, c < 256) : Bts (w.alloc (.cells cs t fr)) (some ⟨w.heap.size, 0, none⟩) n n l := by
  subst hc hn
  refine ⟨rfl, hm, Nat.le_refl _, hs, fun e => by simp at e, fun k hk => ⟨_, _, rfl, l[k], by simp [hk], ?_⟩⟩
  rw [Nat.zero_add, cell_of_row _ _ k _ _ _ (heap_alloc_new _ _)]
  simp [hk, bv]
theorem conv1 (w : World) : (convert 23 23 (.slice (some ⟨w.heap.size, 0, none⟩) 1 1)).run Tryd.prog (w.alloc (.cells #[.int .u8 65] 5)) = .ok (.slice (some ⟨w.heap.size, 0, none⟩) 1 1) (w.alloc (.cells #[.int .u8 65] 5 (1, 2))) :=
  Lib.run_convert_bytes_const w 23 5 #[.int .u8 65] 1 1 Tryd.underlying23 Tryd.underlying5
theorem conv4 (w : World) : (convert 23 23 (.slice (some ⟨w.heap.size, 0, none⟩) 4 4)).run Tryd.prog (w.alloc (.cells #[.int .u8 5, .int .u8 0, .int .u8 1, .int .u8 65] 5)) = .ok (.slice (some ⟨w.heap.size, 0, none⟩) 4 4) (w.alloc (.cells #[.int .u8 5, .int .u8 0, .int .u8 1, .int .u8 65] 5 (4, 5))) :=
  Lib.run_convert_bytes_const w 23 5 #[.int .u8 5, .int .u8 0, .int .u8 1, .int .u8 65] 4 4 Tryd.underlying23 Tryd.underlying5

theorem at_isErr {w : World} {base : Nat} {E : Nat → Addr} {v : Value} {i : Nat} {p : Int} (h : AtErr w base v (E i) p) (h1 : 1 ≤ i) (h2 : i ≤ 20) : IsErr w E v i p := by
  obtain ⟨b, _, rfl, hc, hs⟩ := h
  exact .inr (.inr ⟨h1, h2, b, 0, rfl, hc, hs⟩)

set_option maxRecDepth 100000 in
set_option maxHeartbeats 1000000 in
theorem fixed_any {E : Nat → Addr} (w : World) (he : Errs w E) :
    Calls Tryd.prog 9 #[] w fun e w' => e = .returned (.bool true) ∧ Below w.heap.size w w' := by
  have HE := hide he
  clear he
  go_enter Tryd.func9, Tryd.ntmps9
  go_wp2_with fail
  refine Calls.mono (newWriter_any w) ?_
  rintro e w1 ⟨rfl, hw, hb⟩
  have HW := hide hw
  have HB := hide hb
  clear hw hb
  go_wp2_with fail
  refine Calls.mono (wu16_any w.heap.size _ [] 258 w1 HW.out (by decide) (by decide)) ?_
  rintro e w2 ⟨rfl, v2, q1, q2, q3⟩
  have HW2 := hide q1
  have HB2 : Hid (Below w.heap.size w w2) := HB.out.trans (q2.below HB.out.size (fun j e => by
    rcases e with e | e
    · omega
    · simp [Value.ownBlock] at e))
  clear q1 q2 q3 HW HB
  have hcv := conv1 w2
  go_wp2_with fail
  have HA2 : Hid (Below w2.heap.size w2 (w2.alloc (.cells #[.int .u8 65] 5 (1, 2)))) := (Below.refl _ _).alloc (Nat.le_refl _) _
  have HX2 := hide (marked_bts w2 [65] #[.int .u8 65] (1, 2) 5 1 rfl rfl (by decide) (by decide))
  have HFA : Hid (Far (some ⟨w2.heap.size, 0, none⟩) 1 w.heap.size v2) := fun _ b' off' ha => by
    simp only [Option.some.injEq, Addr.mk.injEq, and_true] at ha
    obtain ⟨rfl, rfl⟩ := ha
    refine ⟨by have := HW2.out.lt; omega, fun e => by have := (HW2.out.blk _ e).2; omega⟩
  refine Calls.mono (record_any w.heap.size v2 _ 5 _ 1 1 [65] _ (HW2.out.below HA2.out) HX2.out HFA.out (by decide) (by decide) (by decide) (by decide)) ?_
  rintro e w3 ⟨rfl, v3, q1, q2, q3⟩
  have HW3 : Hid (Wr w3 w.heap.size v3 .nilIface [1, 2, 5, 0, 1, 65]) := q1
  have HB3 : Hid (Below w.heap.size w w3) := (chain HB2.out HA2.out).trans (q2.below (chain HB2.out HA2.out).size (fun j e => by
    rcases e with e | e
    · omega
    · have := (HW2.out.blk j e).1
      omega))
  clear q1 q2 q3 HX2 HFA HA2 HB2 HW2 hcv
  have HD : Hid (Calls Tryd.prog 39 #[.pointer (some ⟨w.heap.size, 0, none⟩)] w3 fun e w' => e = .returned (.tuple #[.slice (some ⟨w3.heap.size, 0, none⟩) 6 6, .nilIface]) ∧ Own w' w3.heap.size (.slice (some ⟨w3.heap.size, 0, none⟩) 6 6) [1, 2, 5, 0, 1, 65] ∧ Below w3.heap.size w3 w') := done_ok w.heap.size v3 [1, 2, 5, 0, 1, 65] w3 HW3.out (by decide)
  go_wp2_with fail
  refine Calls.mono HD.out ?_
  rintro e w4 ⟨rfl, ho, hb⟩
  have HX4 := hide (ho.bts rfl (by decide) (by decide))
  have HB4 := hide (chain HB3.out hb)
  clear ho hb HD HW3 HB3
  have hcv := conv4 w4
  go_wp2_with fail
  have HA4 : Hid (Below w4.heap.size w4 (w4.alloc (.cells #[.int .u8 5, .int .u8 0, .int .u8 1, .int .u8 65] 5 (4, 5)))) := (Below.refl _ _).alloc (Nat.le_refl _) _
  refine Calls.mono (copen_any _ 4 4 [5, 0, 1, 65] _ (marked_bts w4 [5, 0, 1, 65] #[.int .u8 5, .int .u8 0, .int .u8 1, .int .u8 65] (4, 5) 5 4 rfl rfl (by decide) (by decide))) ?_
  rintro e w5 ⟨C, hC, rfl, hk, hb⟩
  have HC5 : Hid (w.heap.size < C) := by
    have h1 := (chain HB4.out HA4.out).size
    unfold Hid
    omega
  have HK5 := hide hk
  have HB5 := hide (chain (chain HB4.out HA4.out) hb)
  have s1 := bts_string ((HX4.out.below HA4.out).below hb)
  have hS : str [1, 2, 5, 0, 1, 65] = ⟨#[1, 2, 5, 0, 1, 65]⟩ := rfl
  rw [hS] at s1
  generalize (w4.alloc (.cells #[.int .u8 5, .int .u8 0, .int .u8 1, .int .u8 65] 5 (4, 5))).heap.size = G at *
  clear hC hk hb hS hcv HX4 HA4 HB4
  go_wp2_with fail
  refine Calls.mono (crec_ok C G 4 0 4 5 1 [5, 0, 1, 65] w5 HK5.out ⟨by decide, rfl, by decide, by decide, by decide⟩) ?_
  rintro e w6 ⟨k, hk, rfl, q1, q2, q3⟩
  have HK6 : Hid (Cur w6 C G 4 4 4 [5, 0, 1, 65]) := q1
  have HN6 : Hid (Cur w6 k G 4 3 4 [5, 0, 1, 65]) := q2
  have HB6 := hide (HB5.out.trans (q3.below HB5.out.size (fun j e => by have := HC5.out; omega)))
  clear hk q1 q2 q3 s1 HB5 HK5
  go_wp2_with fail
  refine Calls.mono (at_any k G 4 3 4 _ w6 HN6.out) ?_
  rintro e w7 ⟨rfl, rfl⟩
  go_wp2_with fail
  refine Calls.mono (left_any k G 4 3 4 _ w6 HN6.out) ?_
  rintro e w7 ⟨rfl, hb⟩
  have HK7 := hide (HK6.out.below hb)
  have HB7 := hide (chain HB6.out hb)
  clear hb HK6 HN6 HB6
  go_wp2_with fail
  refine Calls.mono (cU8_any C G 4 4 4 _ w7 HK7.out (HE.out.below HB7.out).three) ?_
  rintro e w8 (⟨_, ev, rfl, ha, hb⟩ | ⟨hs, _⟩)
  case inr => exact absurd hs (by decide)
  have HA8 := hide ha
  have HB8 := hide (chain HB7.out hb)
  have HI8 := hide (at_isErr ha (by decide) (by decide))
  clear ha hb
  go_wp2_with fail
  refine Calls.mono (code_any (HE.out.below HB8.out) ev 1 _ HI8.out) ?_
  rintro e w9 ⟨rfl, rfl⟩
  go_wp2_with fail
  refine Calls.mono (place_any (HE.out.below HB8.out) ev 1 _ HI8.out) ?_
  rintro e w9 ⟨rfl, hb⟩
  have HB9 := hide (chain HB8.out hb)
  clear hb
  go_wp2_with fail
  have HA9 : Hid (Below w9.heap.size w9 (w9.alloc (.cells #[.int .u8 15, .int .u8 160] 5))) := (Below.refl _ _).alloc (Nat.le_refl _) _
  refine Calls.mono (hex_any _ 2 2 [15, 160] _ (two_bytes w9 15 160 (by decide) (by decide) 5) (by decide)) ?_
  rintro e w10 ⟨rfl, hb⟩
  have HB10 := hide (chain (chain HB9.out HA9.out) hb)
  have hS2 : str (hexOf [15, 160]) = ⟨#[48, 102, 97, 48]⟩ := rfl
  clear hb
  go_wp2
  go_ret
  exact ⟨rfl, HB10.out⟩
end Go.Proofs.YtohoncgkekiihaaDoor
