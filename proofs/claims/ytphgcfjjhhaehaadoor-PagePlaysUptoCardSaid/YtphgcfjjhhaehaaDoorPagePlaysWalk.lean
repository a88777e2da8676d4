/-
  Walk of the law PagePlays.
-/
import Derived.Test.YtphgcfjjhhaehaaDoorPgPlays
import Derived.Test.YtphgcfjjhhaehaaDoorPgKnown
import Derived.Test.YtphgcfjjhhaehaaDoorPosOpen
namespace Go.Proofs.YtphgcfjjhhaehaaDoor.pagePlays
open Go.RowKit FerryCrc
set_option linter.unusedVariables false

set_option maxRecDepth 100000 in
set_option maxHeartbeats 4000000 in
theorem law {E : Nat → Addr} (a : Option Addr) (len cap : Nat) (l : List Pg) (a' : Option Addr) (len' cap' : Nat) (C : Nat → Po) (w : World) (he : Errs w E) (hs : Pgs w a len cap l) (hc : Pos w a' len' C) (hn : len ≤ 67108864) :
    Calls Tryd.prog 3 #[.slice a len cap, .slice a' len' cap'] w fun e w' => e = .returned (.bool true) ∧ Below w.heap.size w w' := by
  obtain rfl := hs.size
  have hm := hs.most
  have hm' := hc.most
  have OK0 := hide hs.ok
  have HE := hide he
  have HS := hide hs
  have HC := hide hc
  clear he hs hc
  go_enter Tryd.func3, Tryd.ntmps3
  go_wp2_with fail
  refine Calls.mono (known_any w) ?_
  rintro e w1 ⟨rfl, b1⟩
  have D1 := hide b1
  clear b1
  go_wp2_with fail
  refine Calls.mono (refCopy_any a _ cap l w1 (HS.out.below D1.out)) ?_
  rintro e w2 ⟨v2, rfl, ho, b⟩
  have O2 := hide ho
  have D2 := hide b
  clear ho b
  go_wp2_with fail
  go_loopw [0, 5] (fun x i wr => ∃ (k : Nat) (L : List Pg), k ≤ len' ∧ i = .int .i64 (k : Int) ∧ L.length = l.length ∧ Hid (POwn wr w1.heap.size x L) ∧ Hid (Oks L) ∧ Hid (Below w1.heap.size w1 wr)) (fun _ i _ => len' - (intOf i).toNat)
  case atStart => exact ⟨0, l, by omega, rfl, rfl, O2.out, OK0.out, D2.out⟩
  case round =>
    obtain ⟨k, L, hk, rfl, hLl, hown, hok, hbl⟩ := hrel
    have DR := hide (chain D1.out hbl.out)
    by_cases hlt : k < len'
    · obtain ⟨b, off, rfl, ok, hr⟩ := (HC.out.below DR.out).cell k hlt
      have HO := hide ok
      have r0 := hr 0 _ rfl
      have r1 := hr 1 _ rfl
      have r2 := hr 2 _ rfl
      have r3 := hr 3 _ rfl
      have r4 := hr 4 _ rfl
      simp only [Nat.add_zero] at r0
      have hq1 : (k : Int) < (len' : Int) := by omega
      clear hr ok
      have okad := HO.out.addr
      have okv := HO.out.v
      have okd := HO.out.data
      have oks1 := HO.out.s1
      have oks2 := HO.out.s2
      have okd' : (bytesOf (C k).data).length ≤ 9223372036854775807 := by rw [bytesOf_len]; exact okd
      have hD := hide (bytesOf_lt (C k).data)
      have hse := str_bytesOf (C k).data
      generalize hg1 : (C k).kind = kd at *
      generalize hg2 : (C k).size = sz at *
      generalize hg3 : (C k).addr = ad at *
      generalize hg4 : (C k).v = vv at *
      generalize hg5 : (C k).data = dt at *
      generalize hg6 : bytesOf dt = D at *
      subst hse
      clear hg1 hg2 hg3 hg4 hg5 hg6 okd
      obtain ⟨aL, cL, rfl, hpgL, _⟩ := hown.out.pgs hok.out (by rw [hLl]; exact hm)
      rw [hLl] at hpgL hown ⊢
      have HLL := hide hLl
      clear hLl hpgL
      have HP := hide (plays_any w1.heap.size aL l.length cL L kd sz ad vv D wr (HE.out.below DR.out) hown.out hok.out HLL.out hn hbl.out.size okad okv okd' hD.out oks1 oks2)
      go_wp2_with fail
      refine Calls.mono HP.out ?_
      rintro e w6 ⟨x6, L6, rfl, ho6, ok6, hl6, b6⟩
      have O6 := hide ho6
      have OK6 := hide ok6
      have BW := hide (chain hbl.out b6)
      clear ho6 ok6 b6 HP r0 r1 r2 r3 r4
      go_wp2
      go_roundw
      case rel => exact ⟨k + 1, _, by omega, by go_num, hl6, O6.out, OK6.out, BW.out⟩
      case measure => simp [intOf]; omega
    · have hq1 : ¬ (k : Int) < (len' : Int) := by omega
      clear hlt
      go_wp2
      go_ret
      exact ⟨rfl, DR.out⟩
end Go.Proofs.YtphgcfjjhhaehaaDoor.pagePlays
