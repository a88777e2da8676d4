/-
  Walk of the program's Patch, and its mathematics: patched bytes have the sum that was wanted.
-/
import Derived.Test.YtchmfjendnaflaaDoorCrc
import Derived.Test.YtchmfjendnaflaaDoorLow
import Derived.Test.YtchmfjendnaflaaDoorBack
import Derived.Test.YtchmfjendnaflaaDoorErrIs
import Derived.BigRegion
namespace FerryCrc
def patchZ (l : List Nat) (p want : Nat) : Nat := mvs 4294967295 (l.take p) ^^^ mvb (mvb (want ^^^ 4294967295) (l.drop (p + 4))) [0, 0, 0, 0]
def patchOf (l : List Nat) (p want : Nat) : List Nat := l.take p ++ (le4 (patchZ l p want) ++ l.drop (p + 4))
theorem lowTo_mid {l : List Nat} {p z : Nat} (h : p + 4 ≤ l.length) : lowTo l p z 4 = l.take p ++ (le4 z ++ l.drop (p + 4)) := by
  have hd : (l.drop p).length = l.length - p := List.length_drop
  match e : l.drop p, (show 4 ≤ (l.drop p).length by omega) with
  | x0 :: x1 :: x2 :: x3 :: rest, _ =>
    have hr : l.drop (p + 4) = rest := by
      rw [← List.drop_drop, e]
      rfl
    have hl : l = l.take p ++ ([x0, x1, x2, x3] ++ rest) := by
      have := List.take_append_drop p l
      rw [e] at this
      exact this.symm
    have ht : (l.take p).length = p := by rw [List.length_take]; omega
    have := lowTo_four (l.take p) rest x0 x1 x2 x3 z
    rw [ht, ← hl] at this
    rw [this, hr]
end FerryCrc
namespace Go.Proofs.YtchmfjendnaflaaDoor
open Go.RowKit FerryCrc

theorem moveOn_ones (a : Option Addr) (len cap : Nat) (l : List Nat) (w : World) (hs : Bts w a len cap l) :
    Calls Tryd.prog 47 #[.int .u32 4294967295, .slice a len cap] w fun e w' => e = .returned (.int .u32 (mvs 4294967295 l : Nat)) ∧ Below w.heap.size w w' := moveOn_any 4294967295 a len cap l w (by decide) hs

set_option maxRecDepth 100000 in
theorem patch_bad (a : Option Addr) (len cap : Nat) (pos : Int) (want : Nat) (a12 : Addr) (w : World) (h12 : w.cell? ⟨2, 0, none⟩ = some (sent a12)) (hm : len ≤ 140737488355328) (hbad : pos < 0 ∨ (len : Int) - 4 < pos) :
    Calls Tryd.prog 26 #[.slice a len cap, .int .i64 pos, .int .u32 (want : Int)] w fun e w' => e = .returned (.tuple #[.slice none 0 0, sent a12]) ∧ Below w.heap.size w w' := by
  by_cases h0 : pos < 0
  · go_enter Tryd.func26, Tryd.ntmps26
    go_wp2
    go_region
    all_goals go_wp2
    all_goals (go_ret2; exact ⟨rfl, (Below.refl _ _).drew⟩)
  · have h1 : (len : Int) - 4 < pos := by omega
    have hd0 : decide (pos < 0) = false := by simp; omega
    clear hbad
    go_enter Tryd.func26, Tryd.ntmps26
    go_wp2
    go_region
    all_goals go_wp2
    all_goals (go_ret2; exact ⟨rfl, (Below.refl _ _).drew⟩)

theorem Own.weak2 {w : World} {base base' : Nat} {v : Value} {L : List Nat} (h : Own w base v L) (hb : base' ≤ base) : Own w base' v L := by
  refine ⟨h.1, ?_⟩
  rcases h.2 with e | ⟨g, cap, cur, e, hg, r⟩
  · exact .inl e
  · exact .inr ⟨g, cap, cur, e, Nat.le_trans hb hg, r⟩

set_option maxRecDepth 100000 in
set_option maxHeartbeats 1000000 in
theorem patch_mid (b off len cap : Nat) (l : List Nat) (p want : Nat) (w : World) (hs : Bts w (some ⟨b, off, none⟩) len cap l) (hp : p + 4 ≤ len) (hw : want < 4294967296) (hcap : p + 4 < cap) :
    Calls Tryd.prog 26 #[.slice (some ⟨b, off, none⟩) len cap, .int .i64 (p : Int), .int .u32 (want : Int)] w fun e w' => ∃ g, e = .returned (.tuple #[.slice (some ⟨g, 0, none⟩) len len, .nilIface]) ∧ Own w' w.heap.size (.slice (some ⟨g, 0, none⟩) len len) (patchOf l p want) ∧ Below w.heap.size w w' := by
  have hm := hs.most
  have hfit := hs.fit
  have HS := hide hs
  have HL := hide hs.size
  have HD := hide (hs.drop (p + 4) hp)
  have hd1 : decide ((p : Int) < 0) = false := by simp
  have hd2 : decide ((len : Int) - 4 < (p : Int)) = false := by simp; omega
  have hA := hs.take p (by omega)
  have H1 := hide (moveOn_ones _ p cap _ w hA)
  have hh1 : mvs 4294967295 (l.take p) < 4294967296 := mvs_lt (by decide) hA.small
  have HQ : Hid (patchOf l p want = l.take p ++ (le4 (mvs 4294967295 (l.take p) ^^^ mvb (mvb (want ^^^ 4294967295) (l.drop (p + 4))) [0, 0, 0, 0]) ++ l.drop (p + 4))) := rfl
  clear hs hA
  generalize mvs 4294967295 (l.take p) = h1 at *
  go_enter Tryd.func26, Tryd.ntmps26
  go_wp2_with fail
  refine H1.out.mono ?_
  rintro e w1 ⟨rfl, hb1⟩
  have HB1 := hide hb1
  clear hb1
  have H2 := hide (moveBack_any (want ^^^ 4294967295) _ _ _ (l.drop (p + 4)) w1 (not_lt hw) (HD.out.below HB1.out))
  have hn1 : mvb (want ^^^ 4294967295) (l.drop (p + 4)) < 4294967296 := mvb_lt (not_lt hw) HD.out.small
  have HW := hide (not_xor hw)
  generalize mvb (want ^^^ 4294967295) (l.drop (p + 4)) = n1 at *
  go_wp2_with fail
  rw [HW.out]
  refine H2.out.mono ?_
  rintro e w' ⟨rfl, rfl⟩
  go_wp2_with (at_make; refine make_bts rfl (.const (.int .i64 4)) (.const (.int .i64 4)) rfl _ _ 4 rfl rfl rfl rfl (by decide) ?_; intro w2 hown2 hb2)
  have HB2 := hide (chain HB1.out hb2)
  have H3 := hide (moveBack_any n1 _ 4 4 [0, 0, 0, 0] w2 hn1 (hown2.bts rfl (by decide) (by decide)))
  have hn2 : mvb n1 [0, 0, 0, 0] < 4294967296 := mvb_lt hn1 (by decide)
  clear hb2 hown2
  generalize mvb n1 [0, 0, 0, 0] = n2 at *
  refine H3.out.mono ?_
  rintro e w' ⟨rfl, rfl⟩
  go_wp2_with fail
  refine (fresh_any _ len cap l w2 (HS.out.below HB2.out)).mono ?_
  rintro e w3 ⟨g, rfl, hown3, hb3⟩
  have HB3 := hide (chain HB2.out hb3)
  have HX := hide (u32_xor_nat h1 n2 hh1 hn2)
  have hz : h1 ^^^ n2 < 4294967296 := xor_lt32 hh1 hn2
  generalize h1 ^^^ n2 = z at *
  have hown4 : Own w3 w.heap.size (.slice (some ⟨g, 0, none⟩) len len) l := Own.weak2 hown3 HB2.out.size
  have H4 := hide (putLow_any w.heap.size g len len p (len - p) z l w3 hown4 HL.out (by omega))
  clear hb3 hown3
  go_wp2_with fail
  rw [HX.out]
  refine H4.out.mono ?_
  rintro e w4 ⟨rfl, hown5, hb5⟩
  go_wp2
  go_ret2
  exact ⟨g, rfl, by rw [HQ.out, ← lowTo_mid (by rw [HL.out]; exact hp)]; exact hown5, HB3.out.trans hb5⟩

set_option maxRecDepth 100000 in
set_option maxHeartbeats 1000000 in
theorem patch_end (b off len cap : Nat) (l : List Nat) (p want : Nat) (w : World) (hs : Bts w (some ⟨b, off, none⟩) len cap l) (hp : p + 4 ≤ len) (hw : want < 4294967296) (hcap : cap ≤ p + 4) :
    Calls Tryd.prog 26 #[.slice (some ⟨b, off, none⟩) len cap, .int .i64 (p : Int), .int .u32 (want : Int)] w fun e w' => ∃ g, e = .returned (.tuple #[.slice (some ⟨g, 0, none⟩) len len, .nilIface]) ∧ Own w' w.heap.size (.slice (some ⟨g, 0, none⟩) len len) (patchOf l p want) ∧ Below w.heap.size w w' := by
  have hm := hs.most
  have hfit := hs.fit
  have HS := hide hs
  have HL := hide hs.size
  have HD : Hid (Bts w (some ⟨b, off, none⟩) (len - (p + 4)) 0 (l.drop (p + 4))) := by
    unfold Hid
    rw [List.drop_of_length_le (by rw [hs.size]; omega), show len - (p + 4) = 0 by omega]
    exact ⟨rfl, by decide, by decide, by simp, fun e => by simp at e, fun k hk => by omega⟩
  have hd1 : decide ((p : Int) < 0) = false := by simp
  have hd2 : decide ((len : Int) - 4 < (p : Int)) = false := by simp; omega
  have hA := hs.take p (by omega)
  have H1 := hide (moveOn_ones _ p cap _ w hA)
  have hh1 : mvs 4294967295 (l.take p) < 4294967296 := mvs_lt (by decide) hA.small
  have HQ : Hid (patchOf l p want = l.take p ++ (le4 (mvs 4294967295 (l.take p) ^^^ mvb (mvb (want ^^^ 4294967295) (l.drop (p + 4))) [0, 0, 0, 0]) ++ l.drop (p + 4))) := rfl
  clear hs hA
  generalize mvs 4294967295 (l.take p) = h1 at *
  go_enter Tryd.func26, Tryd.ntmps26
  go_wp2_with fail
  refine H1.out.mono ?_
  rintro e w1 ⟨rfl, hb1⟩
  have HB1 := hide hb1
  clear hb1
  have H2 := hide (moveBack_any (want ^^^ 4294967295) _ _ _ (l.drop (p + 4)) w1 (not_lt hw) (HD.out.below HB1.out))
  have hn1 : mvb (want ^^^ 4294967295) (l.drop (p + 4)) < 4294967296 := mvb_lt (not_lt hw) HD.out.small
  have HW := hide (not_xor hw)
  generalize mvb (want ^^^ 4294967295) (l.drop (p + 4)) = n1 at *
  go_wp2_with fail
  rw [HW.out]
  refine H2.out.mono ?_
  rintro e w' ⟨rfl, rfl⟩
  go_wp2_with (at_make; refine make_bts rfl (.const (.int .i64 4)) (.const (.int .i64 4)) rfl _ _ 4 rfl rfl rfl rfl (by decide) ?_; intro w2 hown2 hb2)
  have HB2 := hide (chain HB1.out hb2)
  have H3 := hide (moveBack_any n1 _ 4 4 [0, 0, 0, 0] w2 hn1 (hown2.bts rfl (by decide) (by decide)))
  have hn2 : mvb n1 [0, 0, 0, 0] < 4294967296 := mvb_lt hn1 (by decide)
  clear hb2 hown2
  generalize mvb n1 [0, 0, 0, 0] = n2 at *
  refine H3.out.mono ?_
  rintro e w' ⟨rfl, rfl⟩
  go_wp2_with fail
  refine (fresh_any _ len cap l w2 (HS.out.below HB2.out)).mono ?_
  rintro e w3 ⟨g, rfl, hown3, hb3⟩
  have HB3 := hide (chain HB2.out hb3)
  have HX := hide (u32_xor_nat h1 n2 hh1 hn2)
  have hz : h1 ^^^ n2 < 4294967296 := xor_lt32 hh1 hn2
  generalize h1 ^^^ n2 = z at *
  have hown4 : Own w3 w.heap.size (.slice (some ⟨g, 0, none⟩) len len) l := Own.weak2 hown3 HB2.out.size
  have H4 := hide (putLow_any w.heap.size g len len p (len - p) z l w3 hown4 HL.out (by omega))
  clear hb3 hown3
  go_wp2_with fail
  rw [HX.out]
  refine H4.out.mono ?_
  rintro e w4 ⟨rfl, hown5, hb5⟩
  go_wp2
  go_ret2
  exact ⟨g, rfl, by rw [HQ.out, ← lowTo_mid (by rw [HL.out]; exact hp)]; exact hown5, HB3.out.trans hb5⟩

theorem patch_any (a : Option Addr) (len cap : Nat) (l : List Nat) (p want : Nat) (w : World) (hs : Bts w a len cap l) (hp : p + 4 ≤ len) (hw : want < 4294967296) :
    Calls Tryd.prog 26 #[.slice a len cap, .int .i64 (p : Int), .int .u32 (want : Int)] w fun e w' => ∃ g, e = .returned (.tuple #[.slice (some ⟨g, 0, none⟩) len len, .nilIface]) ∧ Own w' w.heap.size (.slice (some ⟨g, 0, none⟩) len len) (patchOf l p want) ∧ Below w.heap.size w w' := by
  have hfit := hs.fit
  obtain ⟨b, off, rfl, _⟩ := hs.cell 0 (by omega)
  by_cases hc : p + 4 < cap
  · exact patch_mid b off len cap l p want w hs hp hw hc
  · exact patch_end b off len cap l p want w hs hp hw (by omega)
end Go.Proofs.YtchmfjendnaflaaDoor
