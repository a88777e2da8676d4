/-
  One call on a memory: the law's own pokes.
-/
import Derived.Test.YtphgcfjjhhaehaaDoorPgRefIn
import Derived.Test.YtphgcfjjhhaehaaDoorPosOpen
import Derived.Deep.RegionHeld3
namespace Go.Proofs.YtphgcfjjhhaehaaDoor
open Go.RowKit FerryCrc
set_option linter.unusedVariables false

theorem sized_int {s : Int} (h : s = 1 ∨ s = 2 ∨ s = 4) : ∃ k : Nat, s = (k : Int) ∧ Sized k := by
  rcases h with rfl | rfl | rfl
  · exact ⟨1, rfl, .inl rfl⟩
  · exact ⟨2, rfl, .inr (.inl rfl)⟩
  · exact ⟨4, rfl, .inr (.inr rfl)⟩
theorem undrew {w w' : World} (h : Below w.drew.heap.size w.drew w') : Below w.heap.size w w' := (Below.refl _ _).drew.trans h
set_option maxRecDepth 100000 in
set_option maxHeartbeats 8000000 in
theorem pokes_any {E : Nat → Addr} (base : Nat) (aM : Option Addr) (len cM : Nat) (l : List Pg) (kd sz : Int) (ad vv : Nat) (D : List Nat) (w : World) (he : Errs w E) (ho : POwn w base (.slice aM len cM) l) (ok : Oks l) (hl : l.length = len) (hm : len ≤ 67108864) (hbase : base ≤ w.heap.size) (okad : ad < 4294967296) (okv : vv < 4294967296) (okd : D.length ≤ 9223372036854775807) (hD : ∀ c ∈ D, c < 256) :
    Calls Tryd.prog 37 #[.slice aM len cM, .agg #[.int .i64 kd, .int .i64 sz, .int .u32 (ad : Int), .int .u32 (vv : Int), .string (str D)]] w fun e w' => ∃ (x : Value) (l' : List Pg), e = .returned (.tuple #[x, .bool true]) ∧ POwn w' base x l' ∧ Oks l' ∧ l'.length = len ∧ Below w.heap.size w w' := by
  have HE := hide he
  have HO := hide ho
  have OKL := hide ok
  have HD := hide hD
  have HX : Hid (l.length = len) := hl
  obtain ⟨_, _, e0, hpg, _⟩ := ho.pgs ok (by omega)
  rw [hl] at e0 hpg
  simp only [Value.slice.injEq, true_and] at e0
  obtain ⟨rfl, rfl⟩ := e0
  have HP := hide hpg
  clear he ho ok hD hpg hl
  go_enter Tryd.func37, Tryd.ntmps37
  have D0 := hide ((Below.refl w.heap.size w).alloc (Nat.le_refl _) (.cells #[.int .i64 kd, .int .i64 sz, .int .u32 (ad : Int), .int .u32 (vv : Int), .string (str D)] 30))
  have f0 : (w.alloc (.cells #[.int .i64 kd, .int .i64 sz, .int .u32 (ad : Int), .int .u32 (vv : Int), .string (str D)] 30)).cell? ⟨w.heap.size, 0, none⟩ = some (.int .i64 kd) := by rw [World.cell?_alloc_at _ _ _ _ rfl]; rfl
  have f1 : (w.alloc (.cells #[.int .i64 kd, .int .i64 sz, .int .u32 (ad : Int), .int .u32 (vv : Int), .string (str D)] 30)).cell? ⟨w.heap.size, 1, none⟩ = some (.int .i64 sz) := by rw [World.cell?_alloc_at _ _ _ _ rfl]; rfl
  have f2 : (w.alloc (.cells #[.int .i64 kd, .int .i64 sz, .int .u32 (ad : Int), .int .u32 (vv : Int), .string (str D)] 30)).cell? ⟨w.heap.size, 2, none⟩ = some (.int .u32 (ad : Int)) := by rw [World.cell?_alloc_at _ _ _ _ rfl]; rfl
  have f3 : (w.alloc (.cells #[.int .i64 kd, .int .i64 sz, .int .u32 (ad : Int), .int .u32 (vv : Int), .string (str D)] 30)).cell? ⟨w.heap.size, 3, none⟩ = some (.int .u32 (vv : Int)) := by rw [World.cell?_alloc_at _ _ _ _ rfl]; rfl
  have f4 : (w.alloc (.cells #[.int .i64 kd, .int .i64 sz, .int .u32 (ad : Int), .int .u32 (vv : Int), .string (str D)] 30)).cell? ⟨w.heap.size, 4, none⟩ = some (.string (str D)) := by rw [World.cell?_alloc_at _ _ _ _ rfl]; rfl
  have frg : (w.alloc (.cells #[.int .i64 kd, .int .i64 sz, .int .u32 (ad : Int), .int .u32 (vv : Int), .string (str D)] 30)).rangeAt w.heap.size 0 [.int .i64 kd, .int .i64 sz, .int .u32 (ad : Int), .int .u32 (vv : Int), .string (str D)] := range_alloc w _ _
  go_wp2_with fail
  generalize w.alloc (.cells #[.int .i64 kd, .int .i64 sz, .int .u32 (ad : Int), .int .u32 (vv : Int), .string (str D)] 30) = w0 at *
  have HP0 := hide (HP.out.below D0.out)
  have HO0 := hide (HO.out.below D0.out)
  have E0 := hide (HE.out.below D0.out)
  have F0 : Hid (w0.cell? ⟨w.heap.size, 1, none⟩ = some (.int .i64 sz) ∧ w0.cell? ⟨w.heap.size, 2, none⟩ = some (.int .u32 (ad : Int)) ∧ w0.cell? ⟨w.heap.size, 3, none⟩ = some (.int .u32 (vv : Int))) := ⟨f1, f2, f3⟩
  clear f0 f1 f2 f3 f4 frg HP
  by_cases hz : sz = 1 ∨ sz = 2 ∨ sz = 4
  · obtain ⟨s, rfl, hzs⟩ := sized_int hz
    refine Calls.mono (refStore_any aM len cM l ad s vv w0 HP0.out okad hzs okv) ?_
    rintro e w1 ⟨x1, rfl, ho1, b1⟩
    have X1 := hide ho1
    have B1 := hide b1
    have HP1 := hide (HP0.out.below b1)
    have HO1 := hide (HO0.out.below b1)
    have D1 := hide (chain D0.out b1)
    have f1 := cell_below F0.out.1 b1
    have f2 := cell_below F0.out.2.1 b1
    have f3 := cell_below F0.out.2.2 b1
    have SZ1 : Hid (base ≤ w0.heap.size) := Nat.le_trans hbase D0.out.size
    clear ho1 b1
    by_cases hf0 : nfault l ad s 1 = 0
    · have e1 : stv l ad s vv = stored l ad s vv := by unfold stv; rw [if_pos hf0]
      have e2 : pkv l ad s vv = stored l ad s vv := by unfold pkv; rw [if_pos hf0]
      have OKS := hide (stored_ok OKL.out ad s vv)
      have HSL : Hid ((stored l ad s vv).length = len) := by unfold Hid; rw [stored_len]; exact HX.out
      rw [hf0]
      rw [e1] at X1
      have E2 := hide e2
      have HF := hide hf0
      clear e1 e2 hf0
      go_wp2_with fail
      refine Calls.mono (refCopy_any aM len cM l w1 HP1.out) ?_
      rintro e w2 ⟨v2, rfl, ho2, b2⟩
      have P2 := hide ho2
      have B2 := hide b2
      have g1 := cell_below f1 b2
      have g2 := cell_below f2 b2
      have g3 := cell_below f3 b2
      clear ho2 b2 f1 f2 f3
      go_wp2_with fail
      refine Calls.mono (poke_own ad s vv w2 P2.out OKL.out (by rw [HX.out]; omega) okad hzs okv) ?_
      rintro e w3 ⟨rfl, ho3, b3⟩
      rw [E2.out] at ho3
      rw [HF.out]
      have P3 := hide ho3
      have B13 : Hid (Below w1.heap.size w1 w3) := B2.out.trans b3
      have X3 := hide (X1.out.below B13.out)
      have D3 := hide (chain D1.out B13.out)
      clear ho3 b3 g1 g2 g3
      go_wp2_with fail
      refine Calls.mono (same_own P3.out X3.out OKS.out (by rw [HSL.out]; omega)) ?_
      rintro e w4 ⟨rfl, b4⟩
      have X4 := hide (X3.out.below b4)
      have D4 := hide (chain D3.out b4)
      clear b4
      go_wp2_with fail
      refine Calls.mono (lcode_any (HE.out.below D4.out) .nilIface 0 (bare_nil E)) ?_
      rintro e w5 ⟨rfl, b5⟩
      have X5 := hide (X4.out.below b5)
      have D5 := hide (chain D4.out b5)
      clear b5
      go_wp2
      go_ret2
      exact ⟨_, _, rfl, X5.out.weaken SZ1.out, OKS.out, HSL.out, D5.out⟩
    · have hd : ((nfault l ad s 1 : Nat) : Int) ≠ 0 := by omega
      have hd1 : (((nfault l ad s 1 : Nat) : Int) != 0) = true := by simpa using hd
      have e2 : pkv l ad s vv = l := by unfold pkv; rw [if_neg hf0]
      have E2 := hide e2
      clear e2 hd hf0 X1
      have HPK := hide (fun (w2 : World) (x2 : Value) (h : POwn w2 w1.heap.size x2 l) => poke_own ad s vv w2 h OKL.out (by rw [HX.out]; omega) okad hzs okv)
      rw [E2.out] at HPK
      generalize nfault l ad s 1 = ff at *
      go_wp2_with fail
      refine Calls.mono (refCopy_any aM len cM l w1 HP1.out) ?_
      rintro e w2 ⟨v2, rfl, ho2, b2⟩
      have P2 := hide ho2
      have B2 := hide b2
      have g1 := cell_below f1 b2
      have g2 := cell_below f2 b2
      have g3 := cell_below f3 b2
      clear ho2 b2 f1 f2 f3
      go_wp2_with fail
      refine Calls.mono (HPK.out w2 v2 P2.out) ?_
      rintro e w3 ⟨rfl, ho3, b3⟩
      have P3 := hide ho3
      have B13 : Hid (Below w1.heap.size w1 w3) := B2.out.trans b3
      have O3 := hide (HO1.out.below B13.out)
      have D3 := hide (chain D1.out B13.out)
      clear ho3 b3 g1 g2 g3
      go_wp2_with fail
      refine Calls.mono (same_own P3.out O3.out OKL.out (by rw [HX.out]; omega)) ?_
      rintro e w4 ⟨rfl, b4⟩
      have O4 := hide (O3.out.below b4)
      have D4 := hide (chain D3.out b4)
      clear b4
      go_wp2_with fail
      refine Calls.mono (lcode_any (HE.out.below D4.out) .nilIface 0 (bare_nil E)) ?_
      rintro e w5 ⟨rfl, b5⟩
      have O5 := hide (O4.out.below b5)
      have D5 := hide (chain D4.out b5)
      clear b5
      go_wp2
      go_ret2
      exact ⟨_, _, rfl, O5.out, OKL.out, HX.out, D5.out⟩
  · have hz1 : ¬ sz = 1 := fun e => hz (.inl e)
    have hz2 : ¬ sz = 2 := fun e => hz (.inr (.inl e))
    have hz4 : ¬ sz = 4 := fun e => hz (.inr (.inr e))
    have HPK := hide (fun (w2 : World) (a2 : Option Addr) (c2 : Nat) (h : Errs w2 E) => poke_bad h.v12 a2 len c2 ad sz vv hz1 hz2 hz4)
    refine Calls.mono (refStore_bad aM len cM ad sz vv w0 hz1 hz2 hz4) ?_
    rintro e w1 ⟨rfl, rfl⟩
    have f1 := F0.out.1
    have f2 := F0.out.2.1
    have f3 := F0.out.2.2
    clear hz hz1 hz2 hz4
    go_wp2_with fail
    refine Calls.mono (refCopy_any aM len cM l w0 HP0.out) ?_
    rintro e w2 ⟨v2, rfl, ho2, b2⟩
    obtain ⟨a2, c2, rfl, hpg2, _⟩ := ho2.pgs OKL.out (by rw [HX.out]; omega)
    rw [HX.out] at hpg2 ⊢
    have G2 := hide hpg2
    have HP2 := hide (HP0.out.below b2)
    have O2 := hide (HO0.out.below b2)
    have g1 := cell_below f1 b2
    have g2 := cell_below f2 b2
    have g3 := cell_below f3 b2
    have D2 := hide (chain D0.out b2)
    clear ho2 b2 f1 f2 f3 hpg2
    go_wp2_with fail
    refine Calls.mono (HPK.out w2 a2 c2 (HE.out.below D2.out)) ?_
    rintro e w3 ⟨rfl, b3⟩
    have G3 := hide (G2.out.below b3)
    have HP3 := hide (HP2.out.below b3)
    have O3 := hide (O2.out.below b3)
    have D3 := hide (chain D2.out b3)
    clear b3 g1 g2 g3
    unfold sent
    go_wp2_with fail
    refine Calls.mono (refSame_any a2 len c2 l aM cM w3 G3.out HP3.out) ?_
    rintro e w4 ⟨rfl, b4⟩
    have O4 := hide (O3.out.below b4)
    have D4 := hide (chain D3.out b4)
    clear b4
    go_wp2_with fail
    refine Calls.mono (lcode_any (HE.out.below D4.out) (sent (E 12)) 12 (bare_sent E 12 (by decide) (by decide))) ?_
    rintro e w5 ⟨rfl, b5⟩
    have O5 := hide (O4.out.below b5)
    have D5 := hide (chain D4.out b5)
    clear b5
    go_wp2
    go_ret2
    exact ⟨_, _, rfl, O5.out, OKL.out, HX.out, D5.out⟩
end Go.Proofs.YtphgcfjjhhaehaaDoor
