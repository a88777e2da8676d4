/-
  CoreRuns: the law walked.
-/
import Derived.Test.YtegkodgondlcmaaGreatDoorCmKeep
import Derived.Test.YtegkodgondlcmaaGreatDoorCmDTop
import Derived.Test.YtegkodgondlcmaaGreatDoorCmDPath
import Derived.Test.YtegkodgondlcmaaGreatDoorPgEq
import Derived.Test.YtegkodgondlcmaaGreatDoorCmAwake
import Derived.Test.YtegkodgondlcmaaGreatDoorErrCode
import Derived.Deep.Cut
namespace Go.Proofs.YtegkodgondlcmaaGreatDoor.coreRuns
open Go.RowKit FerryCrc FerryAlu
set_option linter.unusedVariables false
set_option linter.unusedSimpArgs false

def bare (m : Mc) : Mc := { m with pages := [] }
theorem bare_ok {m : Mc} (ok : m.Ok) : (bare m).Ok := ⟨fun p hp => absurd hp (by simp [bare]), by simp [bare], ok.size, ok.small, ok.pc⟩
theorem bare_pgs (m : Mc) (W : World) : Pgs W none 0 0 (bare m).pages := ⟨rfl, by omega, Nat.le_refl _, fun p hp => absurd hp (by simp [bare]), fun _ => ⟨rfl, rfl⟩, fun k p h => by simp [bare] at h⟩
theorem rpath_nil (m : Mc) (n : Int) (ok : m.Ok) (hn0 : -9223372036854775808 ≤ n) (W : World) :
    Calls Tryz.prog 5 #[.slice none 0 0, .agg m.proc.toArray, .int .i64 n] W fun e w' => ∃ a k c en, e = .returned (.tuple #[.slice a k c, .int .i64 en]) ∧ ((n ≤ 10000 ∧ en = 0) ∨ (10000 < n ∧ en = 12)) ∧ Below W.heap.size W w' := by
  by_cases hn : n ≤ 10000
  · refine Calls.mono (rpath_any none 0 0 (bare m) n W (bare_pgs m W) (bare_ok ok) hn hn0) ?_
    rintro e w' ⟨v, rfl, hu, b⟩
    obtain ⟨x, c, rfl⟩ := hu.sl
    exact ⟨x, _, c, 0, rfl, .inl ⟨hn, rfl⟩, b⟩
  · refine Calls.mono (rpath_far m n W (by omega)) ?_
    rintro e w' ⟨rfl, b⟩
    exact ⟨none, 0, 0, 12, rfl, .inr ⟨by omega, rfl⟩, b⟩
theorem path_nil (m : Mc) (n : Int) (ok : m.Ok) (hn0 : -9223372036854775808 ≤ n) (W : World) (A : Addr) (hv : Cov W A) (V : Value) (hV : W.cell? ⟨0, 0, none⟩ = some V) :
    Calls Tryz.prog 6 #[.slice none 0 0, .agg m.proc.toArray, .int .i64 n] W fun e w' => ∃ a k c er, e = .returned (.tuple #[.slice a k c, er]) ∧ ((n ≤ 10000 ∧ er = .nilIface) ∨ (10000 < n ∧ er = V ∧ k = 0)) ∧ Below W.heap.size W w' := by
  by_cases hn : n ≤ 10000
  · refine Calls.mono (path_any none 0 0 (bare m) n W (bare_pgs m W) (bare_ok ok) A hv hn hn0) ?_
    rintro e w' ⟨v, rfl, hu, b⟩
    obtain ⟨x, c, rfl⟩ := hu.sl
    exact ⟨x, _, c, _, rfl, .inl ⟨hn, rfl⟩, b⟩
  · refine Calls.mono (path_far m n W (by omega) V hV) ?_
    rintro e w' ⟨rfl, b⟩
    exact ⟨none, 0, 0, V, rfl, .inr ⟨by omega, rfl, rfl⟩, b⟩
theorem path_most (m : Mc) (N : Nat) : (m.path N).length ≤ N := by
  have h : (m.path N).length = (m.run N).steps := pcs_len _ _
  have h2 : (m.run N).steps ≤ 0 + N := Rn.go_le N ⟨m.from0, 0, 0, 0⟩
  omega

set_option maxRecDepth 100000 in
set_option maxHeartbeats 8000000 in
theorem law (a : Option Addr) (len cap : Nat) (m : Mc) (n : Int) (w : World) (E : Nat → Addr) (hv : Cov w (E 20)) (he : Errs w E) (hs : Pgs w a len cap m.pages) (ok : m.Ok) (hn0 : -9223372036854775808 ≤ n) :
    Calls Tryz.prog 3 #[.slice a len cap, .agg m.proc.toArray, .int .i64 n] w fun e w' => e = .returned (.bool true) ∧ Below w.heap.size w w' := by
  have hm := hs.most
  have HLEN := hide hs.size
  have HS := hide hs
  have HV := hide hv
  have HE := hide he
  have OK := hide ok
  have HPL : Hid (m.proc.length = 21) := proc_len ok
  obtain ⟨z4, hb0, hsz⟩ := one_alloc w m.proc.toArray 26
  have Z4 : Hid (Bl (w.alloc (.cells m.proc.toArray 26)) w.heap.size m.proc) := z4
  have HB0 := hide hb0
  have HSZ := hide hsz
  have hu26 := Tryz.underlying26
  have hi26 : (Tryz.prog.info? 26).map (·.size) = some m.proc.length := by rw [HPL.out]; exact infoProc
  have HU := hide hu26
  have HI := hide hi26
  clear hs hv he ok z4 hb0 hsz hu26 hi26
  obtain ⟨nb, hnb⟩ : ∃ nb, (if 3000 < n then 3000 else n) = nb := ⟨_, rfl⟩
  have BA := hide (bounded_any n)
  rw [hnb] at BA
  have HNB : Hid (nb ≤ 3000 ∧ -9223372036854775808 ≤ nb) := by rw [← hnb]; constructor <;> (split <;> omega)
  clear hnb
  have HR0 : Hid (∀ W, Calls Tryz.prog 5 #[.slice none 0 0, .agg m.proc.toArray, .int .i64 n] W fun e w' => ∃ a k c en, e = .returned (.tuple #[.slice a k c, .int .i64 en]) ∧ ((n ≤ 10000 ∧ en = 0) ∨ (10000 < n ∧ en = 12)) ∧ Below W.heap.size W w') := fun W => rpath_nil m n OK.out hn0 W
  have HC0 : Hid (∀ W, Below w.heap.size w W → Calls Tryz.prog 6 #[.slice none 0 0, .agg m.proc.toArray, .int .i64 n] W fun e w' => ∃ a k c er, e = .returned (.tuple #[.slice a k c, er]) ∧ ((n ≤ 10000 ∧ er = .nilIface) ∨ (10000 < n ∧ er = sent (E 12) ∧ k = 0)) ∧ Below W.heap.size W w') := fun W hW => path_nil m n OK.out hn0 W (E 20) (HV.out.below hW) _ (HE.out.below hW).v12
  clear hn0
  go_enter Tryz.func3, Tryz.ntmps3
  go_upto_region 1 with fail
  generalize w.alloc (.cells m.proc.toArray 26) = W0 at *
  go_wp2_with fail
  refine Calls.mono (awake_any W0 (E 20) (HV.out.below HB0.out)) ?_
  rintro e w1 ⟨rfl, b1⟩
  have Z41 := hide (Z4.out.below (by rw [HSZ.out]; omega) b1)
  have D1 := hide (chain HB0.out b1)
  have L41 : Hid (w.heap.size < w1.heap.size) := by have h1 := HSZ.out; have h2 := b1.size; unfold Hid; omega
  clear b1 Z4 HB0
  have r4 : w1.rangeAt w.heap.size 0 m.proc := bl_range Z41.out
  go_wp2_with (first | (refine wpList_load_mid (op := { dst := some 22, op := Go.Op.load 26 (Go.Operand.tmp 4), type := 26, pos := "law.go:67", after := #[], guard := none }) rfl 26 (.tmp 4) rfl w.heap.size 0 rfl m.proc _ r4 HU.out rfl HI.out ?_) | fail)
  refine Calls.mono (HR0.out w1) ?_
  rintro e w2 ⟨xa, xk, xc, en, rfl, hen, b2⟩
  have HEN := hide hen
  have Z42 := hide (Z41.out.below L41.out b2)
  have D2 := hide (chain D1.out b2)
  have L42 : Hid (w.heap.size < w2.heap.size) := by have h1 := L41.out; have h2 := b2.size; unfold Hid; omega
  have r4b : w2.rangeAt w.heap.size 0 m.proc := bl_range Z42.out
  clear hen b2 HR0 Z41 D1 L41 r4
  go_wp2_with (first | (refine wpList_load_mid (op := { dst := some 28, op := Go.Op.load 26 (Go.Operand.tmp 4), type := 26, pos := "law.go:68", after := #[], guard := none }) rfl 26 (.tmp 4) rfl w.heap.size 0 rfl m.proc _ r4b HU.out rfl HI.out ?_) | fail)
  refine Calls.mono (HC0.out w2 D2.out) ?_
  rintro e w3 ⟨ya, yk, yc, er, rfl, her, b3⟩
  have HER := hide her
  have Z43 := hide (Z42.out.below L42.out b3)
  have D3 := hide (chain D2.out b3)
  have L43 : Hid (w.heap.size < w3.heap.size) := by have h1 := L42.out; have h2 := b3.size; unfold Hid; omega
  clear her b3 HC0 Z42 D2 L42 r4b
  go_upto_region 5 with fail
  go_cut [50] from 33 (fun v wx => v = .bool false ∧ Below w3.heap.size w3 wx)
  case first =>
    rcases HEN.out with ⟨h1, rfl⟩ | ⟨h1, rfl⟩
    · clear HEN HER h1
      go_wp2
      go_meet
      case rel => exact ⟨rfl, Below.refl _ _⟩
    · rcases HER.out with ⟨h2, _⟩ | ⟨_, rfl, rfl⟩
      · exfalso
        omega
      · have HCO := hide (code_any (HE.out.below D3.out) (sent (E 12)) 12 _ ((bare_sent E 12 (by decide) (by decide)).err (w := w3)))
        have HPO := hide (place_bare (HE.out.below D3.out) (sent (E 12)) 12 (bare_sent E 12 (by decide) (by decide)))
        clear HEN HER h1
        go_wp2_with fail
        refine Calls.mono HCO.out ?_
        rintro e w' ⟨rfl, rfl⟩
        go_wp2_with fail
        refine Calls.mono HPO.out ?_
        rintro e w' ⟨rfl, hbp⟩
        go_wp2
        go_meet
        case rel => exact ⟨rfl, hbp⟩
  case rest =>
    obtain ⟨rfl, hwc⟩ := hcut
    have Z4c := hide (Z43.out.below L43.out hwc)
    have D4 := hide (chain D3.out hwc)
    have L4c : Hid (w.heap.size < wc.heap.size) := by have h1 := L43.out; have h2 := hwc.size; unfold Hid; omega
    clear hwc Z43 D3 L43 HEN HER HE
    obtain ⟨N, hN⟩ : ∃ N, nb.toNat = N := ⟨_, rfl⟩
    have HR1 : Hid (∀ (W : World), Below w.heap.size w W → Calls Tryz.prog 10 #[.slice a len cap, .agg m.proc.toArray, .int .i64 nb] W fun e w' => ∃ v, e = .returned (.tuple #[v, .agg (m.run N).m.proc.toArray, .agg (stopL (m.run N)).toArray]) ∧ POwn w' W.heap.size v (m.run N).m.pages ∧ (m.run N).m.Ok ∧ Below W.heap.size W w') := fun W hW => by
      have := rRun_any a len cap m nb W (HS.out.below hW) OK.out (by have := HNB.out.1; omega) HNB.out.2
      rw [hN] at this
      exact this
    have HR2 : Hid (∀ (W : World), Below w.heap.size w W → Calls Tryz.prog 11 #[.slice a len cap, .agg m.proc.toArray, .int .i64 nb] W fun e w' => ∃ v, e = .returned (.tuple #[v, .agg (m.run N).m.proc.toArray, .agg (stopL (m.run N)).toArray]) ∧ POwn w' W.heap.size v (m.run N).m.pages ∧ (m.run N).m.Ok ∧ Below W.heap.size W w') := fun W hW => by
      have := run_any a len cap m nb W (HS.out.below hW) OK.out (E 20) (HV.out.below hW) (by have := HNB.out.1; omega) HNB.out.2
      rw [hN] at this
      exact this
    have HP1 : Hid (∀ (W : World), Below w.heap.size w W → Calls Tryz.prog 5 #[.slice a len cap, .agg m.proc.toArray, .int .i64 nb] W fun e w' => ∃ v, e = .returned (.tuple #[v, .int .i64 0]) ∧ UOwn w' W.heap.size v (m.path N) ∧ Below W.heap.size W w') := fun W hW => by
      have := rpath_any a len cap m nb W (HS.out.below hW) OK.out (by have := HNB.out.1; omega) HNB.out.2
      rw [hN] at this
      exact this
    have HP2 : Hid (∀ (W : World), Below w.heap.size w W → Calls Tryz.prog 6 #[.slice a len cap, .agg m.proc.toArray, .int .i64 nb] W fun e w' => ∃ v, e = .returned (.tuple #[v, .nilIface]) ∧ UOwn w' W.heap.size v (m.path N) ∧ Below W.heap.size W w') := fun W hW => by
      have := path_any a len cap m nb W (HS.out.below hW) OK.out (E 20) (HV.out.below hW) (by have := HNB.out.1; omega) HNB.out.2
      rw [hN] at this
      exact this
    have HPM : Hid ((m.path N).length ≤ 1000000) := by
      have h1 := path_most m N
      have h2 := HNB.out.1
      unfold Hid
      omega
    have HSS : Hid (stl (stopL (m.run N))) := stl_stop _
    have HS1 : Hid (stopL (m.run N) = [.int .i64 ((m.run N).kind : Int), .int .i64 ((m.run N).steps : Int), .int .i64 (m.run N).code]) := rfl
    clear hN
    generalize (m.path N) = PT at *
    generalize (m.run N) = R at *
    generalize hS1 : stopL R = S1 at *
    clear hS1
    go_wp2_with fail
    refine Calls.mono (BA.out _) ?_
    rintro e w' ⟨rfl, rfl⟩
    clear BA
    have r4 : wc.rangeAt w.heap.size 0 m.proc := bl_range Z4c.out
    go_wp2_with (first | (refine wpList_load_mid (op := { dst := some 55, op := Go.Op.load 26 (Go.Operand.tmp 4), type := 26, pos := "law.go:73", after := #[], guard := none }) rfl 26 (.tmp 4) rfl w.heap.size 0 rfl m.proc _ r4 HU.out rfl HI.out ?_) | fail)
    refine Calls.mono (HR1.out wc D4.out) ?_
    rintro e w4 ⟨v1, rfl, hoA, ok1, bA⟩
    have OK1 := hide ok1
    clear ok1 HR1
    obtain ⟨t1A, t2A, ⟨j1A, j2A, j3A, j4A⟩, k1A, k2A, k3A, k4A⟩ := keepR w4 R.m S1 OK1.out HSS.out
    have T1A := hide t1A
    have T2A := hide t2A
    have J1A := hide j1A
    have J2A := hide j2A
    have J3A := hide j3A
    have J4A := hide j4A
    have K1A := hide k1A
    have K2A := hide k2A
    have K3A := hide k3A
    have K4A := hide k4A
    have HOA := hide (hoA.below k3A)
    have D5 := hide (chain D4.out (chain bA k3A))
    have HBBA := hide (chain bA k3A)
    clear t1A t2A j1A j2A j3A j4A k1A k2A k3A k4A hoA
    go_upto_region 9 with (first | (refine wpList_store_mid (op := { dst := none, op := Go.Op.store 26 (Go.Operand.tmp 12) (Go.Operand.tmp 59), type := 0, pos := "law.go:73", after := #[{ on := 8, ground := Go.Ground.data }, { on := 6, ground := Go.Ground.data }, { on := 10, ground := Go.Ground.chain }, { on := 0, ground := Go.Ground.phase }, { on := 1, ground := Go.Ground.phase }, { on := 2, ground := Go.Ground.phase }, { on := 3, ground := Go.Ground.phase }, { on := 4, ground := Go.Ground.phase }, { on := 5, ground := Go.Ground.phase }, { on := 6, ground := Go.Ground.phase }, { on := 7, ground := Go.Ground.textOnly Go.Departure.lateStores }, { on := 8, ground := Go.Ground.phase }, { on := 9, ground := Go.Ground.phase }, { on := 10, ground := Go.Ground.phase }], guard := none }) rfl 26 (.tmp 12) (.tmp 59) rfl w4.heap.size 0 R.m.proc.toArray rfl rfl T1A.out J1A.out J3A.out ?_) | (refine wpList_store_mid (op := { dst := none, op := Go.Op.store 38 (Go.Operand.tmp 13) (Go.Operand.tmp 60), type := 0, pos := "law.go:73", after := #[{ on := 9, ground := Go.Ground.data }, { on := 7, ground := Go.Ground.data }, { on := 11, ground := Go.Ground.chain }, { on := 0, ground := Go.Ground.phase }, { on := 1, ground := Go.Ground.phase }, { on := 2, ground := Go.Ground.phase }, { on := 3, ground := Go.Ground.phase }, { on := 4, ground := Go.Ground.phase }, { on := 5, ground := Go.Ground.phase }, { on := 6, ground := Go.Ground.phase }, { on := 7, ground := Go.Ground.phase }, { on := 8, ground := Go.Ground.phase }, { on := 9, ground := Go.Ground.phase }, { on := 10, ground := Go.Ground.phase }, { on := 11, ground := Go.Ground.phase }], guard := none }) rfl 38 (.tmp 13) (.tmp 60) rfl (w4.heap.size + 1) 0 S1.toArray rfl rfl T2A.out J2A.out J4A.out ?_) | fail)
    simp only [Act.put]
    generalize (((w4.alloc (.cells #[.int .u32 0, .int .u32 0, .int .u32 0, .int .u32 0, .int .u32 0, .int .u32 0, .int .u32 0, .int .u32 0, .int .u32 0, .int .u32 0, .int .u32 0, .int .u32 0, .int .u32 0, .int .u32 0, .int .u32 0, .int .u32 0, .int .u32 0, .int .i64 0, .int .i64 0, .int .i64 0, .int .i64 0] 26)).alloc (.cells #[.int .i64 0, .int .i64 0, .int .i64 0] 38)).setCells w4.heap.size 0 R.m.proc).setCells (w4.heap.size + 1) 0 S1 = W5 at *
    have Z45 := hide (Z4c.out.below L4c.out HBBA.out)
    have L45 : Hid (w.heap.size < W5.heap.size) := by have h1 := L4c.out; have h2 := HBBA.out.size; unfold Hid; omega
    have r4b : W5.rangeAt w.heap.size 0 m.proc := bl_range Z45.out
    clear r4 Z4c L4c D4
    go_wp2_with (first | (refine wpList_load_mid (op := { dst := some 63, op := Go.Op.load 26 (Go.Operand.tmp 4), type := 26, pos := "law.go:74", after := #[], guard := none }) rfl 26 (.tmp 4) rfl w.heap.size 0 rfl m.proc _ r4b HU.out rfl HI.out ?_) | fail)
    refine Calls.mono (HP1.out W5 D5.out) ?_
    rintro e w6 ⟨u1, rfl, hu1, b6⟩
    have HU1 := hide hu1
    obtain ⟨ua, uc, rfl⟩ := hu1.sl
    have Z46 := hide (Z45.out.below L45.out b6)
    have L46 : Hid (w.heap.size < w6.heap.size) := by have h1 := L45.out; have h2 := b6.size; unfold Hid; omega
    have D6 := hide (chain D5.out b6)
    have B56 := hide b6
    have r4c : w6.rangeAt w.heap.size 0 m.proc := bl_range Z46.out
    clear hu1 b6 HP1 r4b Z45 L45 D5
    go_wp2_with (first | (refine wpList_load_mid (op := { dst := some 70, op := Go.Op.load 26 (Go.Operand.tmp 4), type := 26, pos := "law.go:75", after := #[], guard := none }) rfl 26 (.tmp 4) rfl w.heap.size 0 rfl m.proc _ r4c HU.out rfl HI.out ?_) | fail)
    refine Calls.mono (HR2.out w6 D6.out) ?_
    rintro e w7 ⟨v2, rfl, hoB, _, bB⟩
    clear HR2
    obtain ⟨t1B, t2B, ⟨j1B, j2B, j3B, j4B⟩, k1B, k2B, k3B, k4B⟩ := keepR w7 R.m S1 OK1.out HSS.out
    have T1B := hide t1B
    have T2B := hide t2B
    have J1B := hide j1B
    have J2B := hide j2B
    have J3B := hide j3B
    have J4B := hide j4B
    have K1B := hide k1B
    have K2B := hide k2B
    have K3B := hide k3B
    have K4B := hide k4B
    have HOB := hide (hoB.below k3B)
    have D7 := hide (chain D6.out (chain bB k3B))
    have HBBB := hide (chain bB k3B)
    clear t1B t2B j1B j2B j3B j4B k1B k2B k3B k4B hoB
    go_upto_region 11 with (first | (refine wpList_store_mid (op := { dst := none, op := Go.Op.store 26 (Go.Operand.tmp 17) (Go.Operand.tmp 74), type := 0, pos := "law.go:75", after := #[{ on := 8, ground := Go.Ground.data }, { on := 6, ground := Go.Ground.data }, { on := 10, ground := Go.Ground.chain }, { on := 0, ground := Go.Ground.phase }, { on := 1, ground := Go.Ground.phase }, { on := 2, ground := Go.Ground.phase }, { on := 3, ground := Go.Ground.phase }, { on := 4, ground := Go.Ground.phase }, { on := 5, ground := Go.Ground.phase }, { on := 6, ground := Go.Ground.phase }, { on := 7, ground := Go.Ground.textOnly Go.Departure.lateStores }, { on := 8, ground := Go.Ground.phase }, { on := 9, ground := Go.Ground.phase }, { on := 10, ground := Go.Ground.phase }], guard := none }) rfl 26 (.tmp 17) (.tmp 74) rfl w7.heap.size 0 R.m.proc.toArray rfl rfl T1B.out J1B.out J3B.out ?_) | (refine wpList_store_mid (op := { dst := none, op := Go.Op.store 38 (Go.Operand.tmp 18) (Go.Operand.tmp 75), type := 0, pos := "law.go:75", after := #[{ on := 9, ground := Go.Ground.data }, { on := 7, ground := Go.Ground.data }, { on := 11, ground := Go.Ground.chain }, { on := 0, ground := Go.Ground.phase }, { on := 1, ground := Go.Ground.phase }, { on := 2, ground := Go.Ground.phase }, { on := 3, ground := Go.Ground.phase }, { on := 4, ground := Go.Ground.phase }, { on := 5, ground := Go.Ground.phase }, { on := 6, ground := Go.Ground.phase }, { on := 7, ground := Go.Ground.phase }, { on := 8, ground := Go.Ground.phase }, { on := 9, ground := Go.Ground.phase }, { on := 10, ground := Go.Ground.phase }, { on := 11, ground := Go.Ground.phase }], guard := none }) rfl 38 (.tmp 18) (.tmp 75) rfl (w7.heap.size + 1) 0 S1.toArray rfl rfl T2B.out J2B.out J4B.out ?_) | fail)
    simp only [Act.put]
    generalize (((w7.alloc (.cells #[.int .u32 0, .int .u32 0, .int .u32 0, .int .u32 0, .int .u32 0, .int .u32 0, .int .u32 0, .int .u32 0, .int .u32 0, .int .u32 0, .int .u32 0, .int .u32 0, .int .u32 0, .int .u32 0, .int .u32 0, .int .u32 0, .int .u32 0, .int .i64 0, .int .i64 0, .int .i64 0, .int .i64 0] 26)).alloc (.cells #[.int .i64 0, .int .i64 0, .int .i64 0] 38)).setCells w7.heap.size 0 R.m.proc).setCells (w7.heap.size + 1) 0 S1 = W8 at *
    have Z48 := hide (Z46.out.below L46.out HBBB.out)
    have L48 : Hid (w.heap.size < W8.heap.size) := by have h1 := L46.out; have h2 := HBBB.out.size; unfold Hid; omega
    have hzA : w4.heap.size + 2 = W5.heap.size := K4A.out.symm
    have hA1 := K1A.out.below (by omega) (chain B56.out HBBB.out)
    have hA2 := K2A.out.below (by omega) (chain B56.out HBBB.out)
    have hOA := HOA.out.below (chain B56.out HBBB.out)
    have HU8 := hide (HU1.out.below HBBB.out)
    have HSAME := hide (same_own HOB.out hOA OK1.out.ok OK1.out.most)
    have HU32 := hide Tryz.underlying38
    have HI32 : Hid ((Tryz.prog.info? 38).map (·.size) = some S1.length) := by unfold Hid; rw [HSS.out.1]; exact infoStop
    have HI1 : Hid ((Tryz.prog.info? 26).map (·.size) = some R.m.proc.length) := by unfold Hid; rw [proc_len OK1.out]; exact infoProc
    have HQ := hide (And.intro (bl_range hA1) (And.intro (bl_range K1B.out) (And.intro (bl_range K2B.out) (bl_range hA2))))
    clear hA1 hA2 hOA r4c hzA Z46 L46 D6 HU1
    refine wp_region_list ?_
    refine wpList_load_g (op := { dst := some 76, op := Go.Op.load 38 (Go.Operand.tmp 18), type := 38, pos := "law.go:76", after := #[], guard := none }) (by rfl) 38 (.tmp 18) rfl (w7.heap.size + 1) (0) rfl S1 _ HQ.out.2.2.1 HU32.out rfl HI32.out ?_
    simp only [Act.put, List.setIfInBounds_toArray, List.set_cons_zero, List.set_cons_succ]
    refine wpList_load_g (op := { dst := some 77, op := Go.Op.load 38 (Go.Operand.tmp 13), type := 38, pos := "law.go:76", after := #[], guard := none }) (by rfl) 38 (.tmp 13) rfl (w4.heap.size + 1) (0) rfl S1 _ HQ.out.2.2.2 HU32.out rfl HI32.out ?_
    simp only [Act.put, List.setIfInBounds_toArray, List.set_cons_zero, List.set_cons_succ]
    refine wpList_run_g (op := { dst := some 78, op := Go.Op.binOp Go.BinOp.neq 38 (Go.Operand.tmp 76) (Go.Operand.tmp 77) 38, type := 4, pos := "law.go:76", after := #[{ on := 0, ground := Go.Ground.data }, { on := 1, ground := Go.Ground.data }], guard := none }) (by rfl) (.bool false) (neq_stop HS1.out _ (.tmp 76) (.tmp 77) rfl rfl _ _ rfl _) ?_
    simp only [Act.put, List.setIfInBounds_toArray, List.set_cons_zero, List.set_cons_succ]
    refine wpList_tail (pre := [{ dst := some 79, op := Go.Op.move (Go.Operand.tmp 78), type := 4, pos := "law.go:76", after := #[{ on := 2, ground := Go.Ground.data }], guard := none }]) _ ?_
    intro tl htl
    have HTL := hide htl
    clear htl
    simp only [List.cons_append, List.nil_append]
    go_wp2_with fail
    have htl := HTL.out
    clear HTL
    subst htl
    refine wpList_load_g (op := { dst := some 80, op := Go.Op.load 26 (Go.Operand.tmp 17), type := 26, pos := "law.go:76", after := #[{ on := 3, ground := Go.Ground.guard }], guard := some (3, false) }) (by rfl) 26 (.tmp 17) rfl w7.heap.size (0) rfl R.m.proc _ HQ.out.2.1 HU.out rfl HI1.out ?_
    simp only [Act.put, List.setIfInBounds_toArray, List.set_cons_zero, List.set_cons_succ]
    refine wpList_load_g (op := { dst := some 81, op := Go.Op.load 26 (Go.Operand.tmp 12), type := 26, pos := "law.go:76", after := #[{ on := 3, ground := Go.Ground.guard }], guard := some (3, false) }) (by rfl) 26 (.tmp 12) rfl w4.heap.size (0) rfl R.m.proc _ HQ.out.1 HU.out rfl HI1.out ?_
    simp only [Act.put, List.setIfInBounds_toArray, List.set_cons_zero, List.set_cons_succ]
    refine wpList_run_g (op := { dst := some 82, op := Go.Op.binOp Go.BinOp.neq 26 (Go.Operand.tmp 80) (Go.Operand.tmp 81) 26, type := 4, pos := "law.go:76", after := #[{ on := 4, ground := Go.Ground.data }, { on := 5, ground := Go.Ground.data }, { on := 3, ground := Go.Ground.guard }], guard := some (3, false) }) (by rfl) (.bool false) (neq_proc OK1.out _ (.tmp 80) (.tmp 81) rfl rfl _ _ rfl _) ?_
    simp only [Act.put, List.setIfInBounds_toArray, List.set_cons_zero, List.set_cons_succ]
    go_wp2_with fail
    refine Calls.mono HSAME.out ?_
    rintro e w9 ⟨rfl, b9⟩
    have Z49 := hide (Z48.out.below L48.out b9)
    have D9 := hide (chain D7.out b9)
    have HU9 := hide (HU8.out.below b9)
    have r4d : w9.rangeAt w.heap.size 0 m.proc := bl_range Z49.out
    clear b9 HSAME HU8 Z48 L48 D7 HQ
    go_wp2_with (first | (refine wpList_load_mid (op := { dst := some 92, op := Go.Op.load 26 (Go.Operand.tmp 4), type := 26, pos := "law.go:79", after := #[], guard := none }) rfl 26 (.tmp 4) rfl w.heap.size 0 rfl m.proc _ r4d HU.out rfl HI.out ?_) | fail)
    refine Calls.mono (HP2.out w9 D9.out) ?_
    rintro e w10 ⟨u2, rfl, hu2, b10⟩
    have D10 := hide (chain D9.out b10)
    obtain ⟨pa, pc, e1, hv1⟩ := (HU9.out.below b10).view
    obtain ⟨qa, qc, e2, hv2⟩ := hu2.view
    have HEQ := hide (requal_any qa pa qc pc PT w10 hv2 hv1 HPM.out)
    clear hu2 b10 HP2 r4d Z49 D9 HU9 hv1 hv2
    rw [Value.slice.injEq] at e1
    obtain ⟨rfl, _, rfl⟩ := e1
    subst e2
    go_wp2_with fail
    refine Calls.mono HEQ.out ?_
    rintro e w11 ⟨rfl, b11⟩
    have D11 := hide (chain D10.out b11)
    clear b11
    go_wp2
    go_ret
    exact ⟨rfl, D11.out⟩
end Go.Proofs.YtegkodgondlcmaaGreatDoor.coreRuns
