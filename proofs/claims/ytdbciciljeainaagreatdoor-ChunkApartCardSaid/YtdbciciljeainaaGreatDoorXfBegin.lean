/-
  The program's Begin.
-/
import Derived.Test.YtdbciciljeainaaGreatDoorXfDue
import Derived.Deep.Cut
namespace Go.Proofs.YtdbciciljeainaaGreatDoor
open Go.RowKit FerryCrc
set_option linter.unusedVariables false
set_option linter.unusedSimpArgs false

/-- A Stage; v is its list of pieces. -/
structure Sg where
  (part stage total boot peer num : Int)
def Sg.cells (s : Sg) (v : Value) : List Value := [.int .i64 s.part, .int .i64 s.stage, .int .i64 s.total, .int .i64 s.boot, .int .i64 s.peer, .int .i64 s.num, v]
def zSg : Sg := ⟨0, 0, 0, 0, 0, 0⟩
def begE (n : Nt) : Nat := if chk n = 0 then (if n.kind = 1 then 0 else 7) else chk n
def begS (n : Nt) : Sg := if begE n = 0 then ⟨n.part, n.stage, n.total, n.boot, n.peer, n.num⟩ else zSg
def begP (n : Nt) : List ByteArray := if begE n = 0 then (List.replicate n.total.toNat ⟨#[]⟩).set n.index.toNat n.data else []
theorem chk_chunk {n : Nt} (h : chk n = 0) (hk : n.kind = 1) : okNm n.part n.boot n.peer n.num = true ∧ okSt n.stage = true ∧ 1 ≤ n.total ∧ n.total ≤ 32 ∧ 0 ≤ n.index ∧ n.index < n.total ∧ n.sum = 0 ∧ pieceOk n.data n.index n.total = true := by
  unfold chk at h
  split at h
  · cases h
  · split at h
    · rename_i h1 h2
      simp only [Bool.and_eq_true] at h2
      obtain ⟨⟨⟨a1, a2⟩, a3⟩, a4⟩ := h2
      unfold nmN at a1
      unfold stagedN at a2
      rw [if_pos (.inl hk)] at a2
      unfold countedN at a3
      rw [if_pos (.inl hk)] at a3
      unfold filledN at a4
      rw [if_pos hk] at a4
      simp only [Bool.and_eq_true, decide_eq_true_eq, okTot_iff, beq_iff_eq] at a3 a4
      exact ⟨a1, a2, a3.1.1.1, a3.1.1.2, a3.1.2, a3.2, a4.1, a4.2⟩
    · cases h

set_option maxRecDepth 100000 in
set_option maxHeartbeats 4000000 in
theorem begin_any (k pt b r m st ix tt sm : Int) (d : ByteArray) {w : World} {E : Nat → Addr} (he : Er7 w E) (hd : d.size ≤ 9223372036854775807) (h1 : -9223372036854775808 ≤ tt) (h2 : tt ≤ 9223372036854775807) :
    Calls Tryz.prog 10 #[.agg #[.int .i64 k, .int .i64 pt, .int .i64 b, .int .i64 r, .int .i64 m, .int .i64 st, .int .i64 ix, .int .i64 tt, .int .u32 sm, .string d]] w fun e w' => ∃ v, e = .returned (.tuple #[.agg ((begS ⟨k, pt, b, r, m, st, ix, tt, sm, d⟩).cells v).toArray, erv E (begE ⟨k, pt, b, r, m, st, ix, tt, sm, d⟩)]) ∧ TxOwn w' w.heap.size v (begP ⟨k, pt, b, r, m, st, ix, tt, sm, d⟩) ∧ Below w.heap.size w w' := by
  obtain ⟨N, hN⟩ : ∃ N : Nt, N = ⟨k, pt, b, r, m, st, ix, tt, sm, d⟩ := ⟨_, rfl⟩
  rw [← hN]
  have HC1 := hide (fun (w' : World) (h : Er7 w' E) => check_any k pt b r m st ix tt sm d h hd h1 h2)
  rw [← hN] at HC1
  obtain ⟨W, hW⟩ : ∃ W, (w.alloc (.cells #[.int .i64 k, .int .i64 pt, .int .i64 b, .int .i64 r, .int .i64 m, .int .i64 st, .int .i64 ix, .int .i64 tt, .int .u32 sm, .string d] 33)).alloc (.cells #[.int .i64 0, .int .i64 0, .int .i64 0, .int .i64 0, .int .i64 0, .int .i64 0, .slice none 0 0] 34) = W := ⟨_, rfl⟩
  have hsz : (w.alloc (.cells #[.int .i64 k, .int .i64 pt, .int .i64 b, .int .i64 r, .int .i64 m, .int .i64 st, .int .i64 ix, .int .i64 tt, .int .u32 sm, .string d] 33)).heap.size = w.heap.size + 1 := Array.size_push _
  have D0 := (Below.refl w.heap.size w).alloc (Nat.le_refl _) (.cells #[.int .i64 k, .int .i64 pt, .int .i64 b, .int .i64 r, .int .i64 m, .int .i64 st, .int .i64 ix, .int .i64 tt, .int .u32 sm, .string d] 33)
  have D1 := (Below.refl _ (w.alloc (.cells #[.int .i64 k, .int .i64 pt, .int .i64 b, .int .i64 r, .int .i64 m, .int .i64 st, .int .i64 ix, .int .i64 tt, .int .u32 sm, .string d] 33))).alloc (Nat.le_refl _) (.cells #[.int .i64 0, .int .i64 0, .int .i64 0, .int .i64 0, .int .i64 0, .int .i64 0, .slice none 0 0] 34)
  have B0 := Bk.new w [.int .i64 k, .int .i64 pt, .int .i64 b, .int .i64 r, .int .i64 m, .int .i64 st, .int .i64 ix, .int .i64 tt, .int .u32 sm, .string d] 33
  rw [show ([.int .i64 k, .int .i64 pt, .int .i64 b, .int .i64 r, .int .i64 m, .int .i64 st, .int .i64 ix, .int .i64 tt, .int .u32 sm, .string d] : List Value).toArray = #[.int .i64 k, .int .i64 pt, .int .i64 b, .int .i64 r, .int .i64 m, .int .i64 st, .int .i64 ix, .int .i64 tt, .int .u32 sm, .string d] from rfl] at B0
  have B0 := B0.below D1
  have B1 := Bk.new (w.alloc (.cells #[.int .i64 k, .int .i64 pt, .int .i64 b, .int .i64 r, .int .i64 m, .int .i64 st, .int .i64 ix, .int .i64 tt, .int .u32 sm, .string d] 33)) [.int .i64 0, .int .i64 0, .int .i64 0, .int .i64 0, .int .i64 0, .int .i64 0, .slice none 0 0] 34
  rw [show ([.int .i64 0, .int .i64 0, .int .i64 0, .int .i64 0, .int .i64 0, .int .i64 0, .slice none 0 0] : List Value).toArray = #[.int .i64 0, .int .i64 0, .int .i64 0, .int .i64 0, .int .i64 0, .int .i64 0, .slice none 0 0] from rfl] at B1
  have D2 := chain D0 D1
  rw [hW] at B0 B1 D2
  rw [hsz] at B1
  have HB0 := hide B0
  have HB1 := hide B1
  have HD := hide D2
  have HWD := hide hW
  have HE := hide (he.below D2)
  have HE0 := hide he
  have HN := hide hN
  clear B0 B1 D0 D1 D2 hsz hW hN he h1 h2 hd
  go_enter Tryz.func10, Tryz.ntmps10
  go_upto_region 1 with fail
  have hW := HWD.out
  clear HWD
  simp only [hW]
  clear hW
  have g0 := HB0.out.cell 0 rfl
  have g1 := HB0.out.cell 1 rfl
  have g2 := HB0.out.cell 2 rfl
  have g3 := HB0.out.cell 3 rfl
  have g4 := HB0.out.cell 4 rfl
  have g5 := HB0.out.cell 5 rfl
  have g6 := HB0.out.cell 6 rfl
  have g7 := HB0.out.cell 7 rfl
  have g8 := HB0.out.cell 8 rfl
  have g9 := HB0.out.cell 9 rfl
  go_wp2_with fail
  clear g0 g1 g2 g3 g4 g5 g6 g7 g8 g9
  refine Calls.mono (HC1.out W HE.out) ?_
  rintro e w1 ⟨rfl, b1⟩
  replace HB0 := hide (HB0.out.below b1)
  replace HB1 := hide (HB1.out.below b1)
  replace HD := hide (chain HD.out b1)
  replace HE := hide (HE.out.below b1)
  clear b1 HC1
  obtain ⟨p, hp⟩ : ∃ p, w.heap.size + 1 = p := ⟨_, rfl⟩
  have HP : Hid (w.heap.size < p) := by unfold Hid; omega
  rw [hp] at HB1 ⊢
  clear hp B0
  have f0 := HB1.out.frozen 0
  have f1 := HB1.out.frozen 1
  have f2 := HB1.out.frozen 2
  have f3 := HB1.out.frozen 3
  have f4 := HB1.out.frozen 4
  have f5 := HB1.out.frozen 5
  have f6 := HB1.out.frozen 6
  have g0 := HB1.out.cell 0 rfl
  have g1 := HB1.out.cell 1 rfl
  have g2 := HB1.out.cell 2 rfl
  have g3 := HB1.out.cell 3 rfl
  have g4 := HB1.out.cell 4 rfl
  have g5 := HB1.out.cell 5 rfl
  have g6 := HB1.out.cell 6 rfl
  by_cases hc : chk N = 0
  · rw [hc, show erv E 0 = .nilIface from rfl]
    have n0 := HB0.out.cell 0 rfl
    by_cases hk : k = 1
    · subst hk
      have HBE : Hid (begE N = 0) := by
        unfold Hid begE
        rw [if_pos hc, if_pos (by rw [HN.out])]
      clear f0 f1 f2 f3 f4 f5 f6 g0 g1 g2 g3 g4 g5 g6
      have HX := hide (chk_chunk hc (by rw [HN.out]))
      rw [HN.out] at HX
      obtain ⟨-, -, t1, t2, i1, i2, -, -⟩ := HX.out
      clear HX
      simp only at t1 t2 i1 i2
      obtain ⟨t, rfl⟩ : ∃ t : Nat, tt = (t : Int) := ⟨tt.toNat, by omega⟩
      obtain ⟨i, rfl⟩ : ∃ i : Nat, ix = (i : Int) := ⟨ix.toNat, by omega⟩
      have HS : Hid (begS N = ⟨pt, st, (t : Int), b, r, m⟩ ∧ begP N = (List.replicate t ⟨#[]⟩).set i d) := by
        unfold Hid begS begP
        rw [if_pos HBE.out, if_pos HBE.out, HN.out]
        exact ⟨rfl, rfl⟩
      clear hc
      have hth : t * 16 ≤ 140737488355328 := by omega
      have hth2 : t ≤ 140737488355328 := by omega
      obtain ⟨wA, hrA, oA, bA⟩ := made_recs (f := tv) (sz := 1) tv1 (by decide) (⟨#[]⟩ : ByteArray) Tryz.underlying24 infoTx w1.drew t hth hth2
      obtain ⟨wB, hrB, oB, bB⟩ := made_recs (f := tv) (sz := 1) tv1 (by decide) (⟨#[]⟩ : ByteArray) Tryz.underlying24 infoTx ((w1.alloc (.cells #[.int .i64 0, .int .i64 0, .int .i64 0, .int .i64 0, .int .i64 0, .int .i64 0, .slice none 0 0] 34)).drew) t hth hth2
      have hX : ((w1.alloc (.cells #[.int .i64 0, .int .i64 0, .int .i64 0, .int .i64 0, .int .i64 0, .int .i64 0, .slice none 0 0] 34)).drew).heap.size = w1.heap.size + 1 := Array.size_push _
      have BX := Bk.new w1 [.int .i64 0, .int .i64 0, .int .i64 0, .int .i64 0, .int .i64 0, .int .i64 0, .slice none 0 0] 34
      have DX := ((Below.refl w1.heap.size w1).alloc (Nat.le_refl _) (.cells #[.int .i64 0, .int .i64 0, .int .i64 0, .int .i64 0, .int .i64 0, .int .i64 0, .slice none 0 0] 34)).drew
      have BB := (BX.below (Below.refl _ _).drew).below bB
      have CA := chain (Below.refl w1.heap.size w1).drew bA
      have CB := chain DX bB
      rw [hX] at hrB oB
      have n1 := HB0.out.cell 1 rfl
      have n2 := HB0.out.cell 2 rfl
      have n3 := HB0.out.cell 3 rfl
      have n4 := HB0.out.cell 4 rfl
      have n5 := HB0.out.cell 5 rfl
      have n6 := HB0.out.cell 6 rfl
      have n7 := HB0.out.cell 7 rfl
      have n8 := HB0.out.cell 8 rfl
      have n9 := HB0.out.cell 9 rfl
      have a1 := (HB0.out.below CA).cell 1 rfl
      have a2 := (HB0.out.below CA).cell 2 rfl
      have a3 := (HB0.out.below CA).cell 3 rfl
      have a4 := (HB0.out.below CA).cell 4 rfl
      have a5 := (HB0.out.below CA).cell 5 rfl
      have a6 := (HB0.out.below CA).cell 6 rfl
      have a7 := (HB0.out.below CA).cell 7 rfl
      have a8 := (HB0.out.below CA).cell 8 rfl
      have a9 := (HB0.out.below CA).cell 9 rfl
      have x1 := (HB0.out.below DX).cell 1 rfl
      have x2 := (HB0.out.below DX).cell 2 rfl
      have x3 := (HB0.out.below DX).cell 3 rfl
      have x4 := (HB0.out.below DX).cell 4 rfl
      have x5 := (HB0.out.below DX).cell 5 rfl
      have x6 := (HB0.out.below DX).cell 6 rfl
      have x7 := (HB0.out.below DX).cell 7 rfl
      have x8 := (HB0.out.below DX).cell 8 rfl
      have x9 := (HB0.out.below DX).cell 9 rfl
      have y1 := (HB0.out.below CB).cell 1 rfl
      have y2 := (HB0.out.below CB).cell 2 rfl
      have y3 := (HB0.out.below CB).cell 3 rfl
      have y4 := (HB0.out.below CB).cell 4 rfl
      have y5 := (HB0.out.below CB).cell 5 rfl
      have y6 := (HB0.out.below CB).cell 6 rfl
      have y7 := (HB0.out.below CB).cell 7 rfl
      have y8 := (HB0.out.below CB).cell 8 rfl
      have y9 := (HB0.out.below CB).cell 9 rfl
      have f0 := BB.frozen 0
      have f1 := BB.frozen 1
      have f2 := BB.frozen 2
      have f3 := BB.frozen 3
      have f4 := BB.frozen 4
      have f5 := BB.frozen 5
      have f6 := BB.frozen 6
      have g0 := BB.cell 0 rfl
      have g1 := BB.cell 1 rfl
      have g2 := BB.cell 2 rfl
      have g3 := BB.cell 3 rfl
      have g4 := BB.cell 4 rfl
      have g5 := BB.cell 5 rfl
      have g6 := BB.cell 6 rfl
      have DA2 := chain CA ((Below.refl wA.heap.size wA).alloc (Nat.le_refl _) (.cells #[.int .i64 0, .int .i64 0, .int .i64 0, .int .i64 0, .int .i64 0, .int .i64 0, .slice none 0 0] 34))
      have z1 := (HB0.out.below DA2).cell 1 rfl
      have z2 := (HB0.out.below DA2).cell 2 rfl
      have z3 := (HB0.out.below DA2).cell 3 rfl
      have z4 := (HB0.out.below DA2).cell 4 rfl
      have z5 := (HB0.out.below DA2).cell 5 rfl
      have z6 := (HB0.out.below DA2).cell 6 rfl
      have z7 := (HB0.out.below DA2).cell 7 rfl
      have z8 := (HB0.out.below DA2).cell 8 rfl
      have z9 := (HB0.out.below DA2).cell 9 rfl
      clear DA2
      have HBB := hide BB
      have HCA := hide CA
      have HCB := hide CB
      have HOA := hide oA
      have HOB := hide oB
      have HHX := hide hX
      have hAs := CA.size
      have hBs := CB.size
      have hAl : w1.heap.size < wA.heap.size := (World.ownsRow.lt oA _ rfl).2
      clear bA bB oA oB BX DX BB CA CB hX hth hth2
      go_upto_region 6 with fail
      go_cut [5] from 17 (fun s5 wz => ∃ g5 gs : Nat, s5 = .pointer (some ⟨g5, 0, none⟩) ∧ Hid (Bk wz g5 [.int .i64 pt, .int .i64 st, .int .i64 (t : Int), .int .i64 b, .int .i64 r, .int .i64 m, .slice (some ⟨gs, 0, none⟩) t t] 34) ∧ Hid (TxOwn wz w1.heap.size (.slice (some ⟨gs, 0, none⟩) t t) (List.replicate t ⟨#[]⟩)) ∧ Hid (g5 ≠ gs ∧ w1.heap.size ≤ g5) ∧ Hid (Below w1.heap.size w1 wz))
      case first =>
        go_region
        · have Q1 := hide (Bk.new wA [.int .i64 pt, .int .i64 st, .int .i64 (t : Int), .int .i64 b, .int .i64 r, .int .i64 m, .slice (some ⟨w1.heap.size, 0, none⟩) t t] 34)
          have D9 : Hid (Below wA.heap.size wA (wA.alloc (.cells #[.int .i64 pt, .int .i64 st, .int .i64 (t : Int), .int .i64 b, .int .i64 r, .int .i64 m, .slice (some ⟨w1.heap.size, 0, none⟩) t t] 34))) := (Below.refl _ _).alloc (Nat.le_refl _) _
          have Q2 := hide (HOA.out.below D9.out)
          have Q3 := hide (chain HCA.out D9.out)
          clear D9
          clear n1 n2 n3 n4 n5 n6 n7 n8 n9 a1 a2 a3 a4 a5 a6 a7 a8 a9 x1 x2 x3 x4 x5 x6 x7 x8 x9 y1 y2 y3 y4 y5 y6 y7 y8 y9 z1 z2 z3 z4 z5 z6 z7 z8 z9 f0 f1 f2 f3 f4 f5 f6 g0 g1 g2 g3 g4 g5 g6 hrA hrB
          go_wp2
          go_meet
          case rel => exact ⟨wA.heap.size, w1.heap.size, rfl, Q1.out, Q2.out, ⟨by omega, by omega⟩, Q3.out⟩
        · have hne : (Value.slice (some ⟨w1.heap.size + 1, 0, none⟩) t t).ownBlock ≠ some w1.heap.size := by
            intro h2
            simp [Value.ownBlock] at h2
          have hge : w1.heap.size ≤ w1.heap.size := Nat.le_refl _
          have Q1 := hide ((((((((HBB.out.set 0 (.int .i64 pt)).set 1 (.int .i64 st)).set 2 (.int .i64 (t : Int))).set 3 (.int .i64 b)).set 4 (.int .i64 r)).set 5 (.int .i64 m)).set 6 (.slice (some ⟨w1.heap.size + 1, 0, none⟩) t t)))
          have Q2 := hide (((((((((HOB.out.far (p := ⟨w1.heap.size, 0, none⟩) hne (.int .i64 pt)).far (p := ⟨w1.heap.size, 1, none⟩) hne (.int .i64 st)).far (p := ⟨w1.heap.size, 2, none⟩) hne (.int .i64 (t : Int))).far (p := ⟨w1.heap.size, 3, none⟩) hne (.int .i64 b)).far (p := ⟨w1.heap.size, 4, none⟩) hne (.int .i64 r)).far (p := ⟨w1.heap.size, 5, none⟩) hne (.int .i64 m)).far (p := ⟨w1.heap.size, 6, none⟩) hne (.slice (some ⟨w1.heap.size + 1, 0, none⟩) t t))).weaken (Nat.le_succ w1.heap.size))
          have Q3 := hide ((((((((HCB.out.setCell (p := ⟨w1.heap.size, 0, none⟩) hge (.int .i64 pt)).setCell (p := ⟨w1.heap.size, 1, none⟩) hge (.int .i64 st)).setCell (p := ⟨w1.heap.size, 2, none⟩) hge (.int .i64 (t : Int))).setCell (p := ⟨w1.heap.size, 3, none⟩) hge (.int .i64 b)).setCell (p := ⟨w1.heap.size, 4, none⟩) hge (.int .i64 r)).setCell (p := ⟨w1.heap.size, 5, none⟩) hge (.int .i64 m)).setCell (p := ⟨w1.heap.size, 6, none⟩) hge (.slice (some ⟨w1.heap.size + 1, 0, none⟩) t t)))
          clear hne hge
          clear n1 n2 n3 n4 n5 n6 n7 n8 n9 a1 a2 a3 a4 a5 a6 a7 a8 a9 x1 x2 x3 x4 x5 x6 x7 x8 x9 y1 y2 y3 y4 y5 y6 y7 y8 y9 z1 z2 z3 z4 z5 z6 z7 z8 z9 f0 f1 f2 f3 f4 f5 f6 g0 g1 g2 g3 g4 g5 g6 hrA hrB
          go_wp2
          go_meet
          case rel => exact ⟨w1.heap.size, w1.heap.size + 1, rfl, Q1.out, Q2.out, ⟨by omega, Nat.le_refl _⟩, Q3.out⟩
      case rest =>
        obtain ⟨q5, gs, rfl, K1, K2, K3, K4⟩ := hcut
        clear n1 n2 n3 n4 n5 n6 n7 n8 n9 a1 a2 a3 a4 a5 a6 a7 a8 a9 x1 x2 x3 x4 x5 x6 x7 x8 x9 y1 y2 y3 y4 y5 y6 y7 y8 y9 z1 z2 z3 z4 z5 z6 z7 z8 z9 f0 f1 f2 f3 f4 f5 f6 g0 g1 g2 g3 g4 g5 g6 hrA hrB
        obtain ⟨wz, hwz⟩ : ∃ z, z = wc := ⟨_, rfl⟩
        subst hwz
        have KN := hide (HB0.out.below K4.out)
        have KP := hide (HB1.out.below K4.out)
        have h6 := K1.out.cell 6 rfl
        have n6 := KN.out.cell 6 rfl
        have n9 := KN.out.cell 9 rfl
        have hit : i < t := by omega
        obtain ⟨z1, z2, z3, z4, z5⟩ := K2.out.put tv1 (List.length_replicate) hit d
        obtain ⟨⟨u0, y0⟩, x0⟩ := z1 0 (by decide)
        have hm1 : i * 1 = i := Nat.mul_one i
        rw [hm1] at y0 x0 z2 z3
        rw [Nat.add_zero] at y0 x0
        replace z2 : TxOwn (wz.setCell ⟨gs, i, none⟩ (.string d)) w1.heap.size (.slice (some ⟨gs, 0, none⟩) t t) ((List.replicate t ⟨#[]⟩).set i d) := z2
        replace z3 : wz.grownBy (wz.setCell ⟨gs, i, none⟩ (.string d)) (some gs) := z3
        have hpg : p ≠ gs := by
          have h1 := HB1.out.lt
          omega
        have Z2 := hide z2
        have Z3 := hide (K4.out.grown z3 K4.out.size (fun j e => by cases e; exact z4))
        have B5 := hide (K1.out.other ⟨gs, i, none⟩ (.string d) K3.out.1)
        have BP := hide (KP.out.other ⟨gs, i, none⟩ (.string d) hpg)
        have HPG := hide hpg
        clear z1 z2 z3 z4 z5 hpg hm1 KN KP K1 K2 HBB HCA HCB HOA HOB HHX hAs hBs hAl
        go_upto_region 8 with fail
        obtain ⟨W8, hW8⟩ : ∃ W8, wz.setCell ⟨gs, i, none⟩ (.string d) = W8 := ⟨_, rfl⟩
        rw [hW8] at Z2 Z3 B5 BP
        simp only [hW8]
        clear h6 n6 n9 y0 x0 hW8
        have c0 := B5.out.cell 0 rfl
        have c1 := B5.out.cell 1 rfl
        have c2 := B5.out.cell 2 rfl
        have c3 := B5.out.cell 3 rfl
        have c4 := B5.out.cell 4 rfl
        have c5 := B5.out.cell 5 rfl
        have c6 := B5.out.cell 6 rfl
        have g0 := BP.out.cell 0 rfl
        have g1 := BP.out.cell 1 rfl
        have g2 := BP.out.cell 2 rfl
        have g3 := BP.out.cell 3 rfl
        have g4 := BP.out.cell 4 rfl
        have g5 := BP.out.cell 5 rfl
        have g6 := BP.out.cell 6 rfl
        have f0 := BP.out.frozen 0
        have f1 := BP.out.frozen 1
        have f2 := BP.out.frozen 2
        have f3 := BP.out.frozen 3
        have f4 := BP.out.frozen 4
        have f5 := BP.out.frozen 5
        have f6 := BP.out.frozen 6
        have hge : w.heap.size ≤ p := Nat.le_of_lt HP.out
        have hne : (Value.slice (some ⟨gs, 0, none⟩) t t).ownBlock ≠ some p := by
          intro h2
          exact HPG.out (by simpa [Value.ownBlock] using h2.symm)
        have Q1 := hide ((((((((BP.out.set 0 (.int .i64 pt)).set 1 (.int .i64 st)).set 2 (.int .i64 (t : Int))).set 3 (.int .i64 b)).set 4 (.int .i64 r)).set 5 (.int .i64 m)).set 6 (.slice (some ⟨gs, 0, none⟩) t t)))
        have Q2 := hide ((((((((Z2.out.far (p := ⟨p, 0, none⟩) hne (.int .i64 pt)).far (p := ⟨p, 1, none⟩) hne (.int .i64 st)).far (p := ⟨p, 2, none⟩) hne (.int .i64 (t : Int))).far (p := ⟨p, 3, none⟩) hne (.int .i64 b)).far (p := ⟨p, 4, none⟩) hne (.int .i64 r)).far (p := ⟨p, 5, none⟩) hne (.int .i64 m)).far (p := ⟨p, 6, none⟩) hne (.slice (some ⟨gs, 0, none⟩) t t)))
        have Q3 := hide (((((((((chain HD.out Z3.out).setCell (p := ⟨p, 0, none⟩) hge (.int .i64 pt)).setCell (p := ⟨p, 1, none⟩) hge (.int .i64 st)).setCell (p := ⟨p, 2, none⟩) hge (.int .i64 (t : Int))).setCell (p := ⟨p, 3, none⟩) hge (.int .i64 b)).setCell (p := ⟨p, 4, none⟩) hge (.int .i64 r)).setCell (p := ⟨p, 5, none⟩) hge (.int .i64 m)).setCell (p := ⟨p, 6, none⟩) hge (.slice (some ⟨gs, 0, none⟩) t t)))
        clear hge hne
        go_wp2
        generalize (((((((W8.setCell ⟨p, 0, none⟩ (.int .i64 pt)).setCell ⟨p, 1, none⟩ (.int .i64 st)).setCell ⟨p, 2, none⟩ (.int .i64 (t : Int))).setCell ⟨p, 3, none⟩ (.int .i64 b)).setCell ⟨p, 4, none⟩ (.int .i64 r)).setCell ⟨p, 5, none⟩ (.int .i64 m)).setCell ⟨p, 6, none⟩ (.slice (some ⟨gs, 0, none⟩) t t)) = W9 at *
        have e0 := Q1.out.cell 0 rfl
        have e1 := Q1.out.cell 1 rfl
        have e2 := Q1.out.cell 2 rfl
        have e3 := Q1.out.cell 3 rfl
        have e4 := Q1.out.cell 4 rfl
        have e5 := Q1.out.cell 5 rfl
        have e6 := Q1.out.cell 6 rfl
        refine bodyPost_ret (v := .tuple #[.agg #[.int .i64 pt, .int .i64 st, .int .i64 (t : Int), .int .i64 b, .int .i64 r, .int .i64 m, .slice (some ⟨gs, 0, none⟩) t t], .nilIface]) (by simp [results, Tryz.results10, go_sem, e0, e1, e2, e3, e4, e5, e6]) rfl ?_
        exact ⟨.slice (some ⟨gs, 0, none⟩) t t, by rw [HS.out.1, HBE.out]; rfl, by rw [HS.out.2]; exact Q2.out.weaken HD.out.size, Q3.out⟩
    · have HBE : Hid (begE N = 7) := by
        unfold Hid begE
        rw [if_pos hc, if_neg (by rw [HN.out]; exact hk)]
      have HS : Hid (begS N = zSg ∧ begP N = []) := by
        unfold Hid begS begP
        rw [if_neg (by rw [HBE.out]; decide), if_neg (by rw [HBE.out]; decide)]
        exact ⟨rfl, rfl⟩
      have v7 := HE.out.v7
      unfold sent at v7
      have hkb : (k != 1) = true := by simpa using hk
      have hge : w.heap.size ≤ p := Nat.le_of_lt HP.out
      have B2 := hide ((((((((HB1.out.set 0 (.int .i64 0)).set 1 (.int .i64 0)).set 2 (.int .i64 0)).set 3 (.int .i64 0)).set 4 (.int .i64 0)).set 5 (.int .i64 0)).set 6 (.slice none 0 0)))
      have D2 := hide ((((((((HD.out.setCell (p := ⟨p, 0, none⟩) hge (.int .i64 0)).setCell (p := ⟨p, 1, none⟩) hge (.int .i64 0)).setCell (p := ⟨p, 2, none⟩) hge (.int .i64 0)).setCell (p := ⟨p, 3, none⟩) hge (.int .i64 0)).setCell (p := ⟨p, 4, none⟩) hge (.int .i64 0)).setCell (p := ⟨p, 5, none⟩) hge (.int .i64 0)).setCell (p := ⟨p, 6, none⟩) hge (.slice none 0 0)))
      clear hge
      clear hc
      have v7s := (HE0.out.below D2.out).v7
      have v7d := (HE0.out.below D2.out.drew).v7
      unfold sent at v7s v7d
      have hp1 : 3 ≠ p := by
        have h1 := block_lt_of_cell HE0.out.v7
        have h2 := HP.out
        simp only at h1
        omega
      have hp2 : p ≠ 3 := Ne.symm hp1
      go_upto_region 5 with fail
      go_region
      go_wp2
      generalize (((((((w1.setCell ⟨p, 0, none⟩ (.int .i64 0)).setCell ⟨p, 1, none⟩ (.int .i64 0)).setCell ⟨p, 2, none⟩ (.int .i64 0)).setCell ⟨p, 3, none⟩ (.int .i64 0)).setCell ⟨p, 4, none⟩ (.int .i64 0)).setCell ⟨p, 5, none⟩ (.int .i64 0)).setCell ⟨p, 6, none⟩ (.slice none 0 0)) = W9 at *
      have B2 := hide (B2.out.below (Below.refl _ _).drew)
      have D2 := hide D2.out.drew
      have e0 := B2.out.cell 0 rfl
      have e1 := B2.out.cell 1 rfl
      have e2 := B2.out.cell 2 rfl
      have e3 := B2.out.cell 3 rfl
      have e4 := B2.out.cell 4 rfl
      have e5 := B2.out.cell 5 rfl
      have e6 := B2.out.cell 6 rfl
      refine bodyPost_ret (v := .tuple #[.agg #[.int .i64 0, .int .i64 0, .int .i64 0, .int .i64 0, .int .i64 0, .int .i64 0, .slice none 0 0], sent (E 7)]) (by simp [results, Tryz.results10, go_sem, e0, e1, e2, e3, e4, e5, e6, sent]) rfl ?_
      exact ⟨.slice none 0 0, by rw [HS.out.1, HBE.out]; rfl, by rw [HS.out.2]; exact World.ownsRow_nil _ _ _ _, D2.out⟩
  · have HBE : Hid (begE N = chk N) := by unfold Hid begE; rw [if_neg hc]
    have HS : Hid (begS N = zSg ∧ begP N = []) := by
      unfold Hid begS begP
      rw [if_neg (by rw [HBE.out]; exact hc), if_neg (by rw [HBE.out]; exact hc)]
      exact ⟨rfl, rfl⟩
    rw [show erv E (chk N) = sent (E (chk N)) from if_neg hc]
    unfold sent
    have hge : w.heap.size ≤ p := Nat.le_of_lt HP.out
    have B2 := hide ((((((((HB1.out.set 0 (.int .i64 0)).set 1 (.int .i64 0)).set 2 (.int .i64 0)).set 3 (.int .i64 0)).set 4 (.int .i64 0)).set 5 (.int .i64 0)).set 6 (.slice none 0 0)))
    have D2 := hide ((((((((HD.out.setCell (p := ⟨p, 0, none⟩) hge (.int .i64 0)).setCell (p := ⟨p, 1, none⟩) hge (.int .i64 0)).setCell (p := ⟨p, 2, none⟩) hge (.int .i64 0)).setCell (p := ⟨p, 3, none⟩) hge (.int .i64 0)).setCell (p := ⟨p, 4, none⟩) hge (.int .i64 0)).setCell (p := ⟨p, 5, none⟩) hge (.int .i64 0)).setCell (p := ⟨p, 6, none⟩) hge (.slice none 0 0)))
    clear hge
    go_wp2
    generalize (((((((w1.setCell ⟨p, 0, none⟩ (.int .i64 0)).setCell ⟨p, 1, none⟩ (.int .i64 0)).setCell ⟨p, 2, none⟩ (.int .i64 0)).setCell ⟨p, 3, none⟩ (.int .i64 0)).setCell ⟨p, 4, none⟩ (.int .i64 0)).setCell ⟨p, 5, none⟩ (.int .i64 0)).setCell ⟨p, 6, none⟩ (.slice none 0 0)) = W9 at *
    have e0 := B2.out.cell 0 rfl
    have e1 := B2.out.cell 1 rfl
    have e2 := B2.out.cell 2 rfl
    have e3 := B2.out.cell 3 rfl
    have e4 := B2.out.cell 4 rfl
    have e5 := B2.out.cell 5 rfl
    have e6 := B2.out.cell 6 rfl
    refine bodyPost_ret (v := .tuple #[.agg #[.int .i64 0, .int .i64 0, .int .i64 0, .int .i64 0, .int .i64 0, .int .i64 0, .slice none 0 0], sent (E (chk N))]) (by simp [results, Tryz.results10, go_sem, e0, e1, e2, e3, e4, e5, e6, sent]) rfl ?_
    exact ⟨.slice none 0 0, by rw [HS.out.1, HBE.out]; unfold erv; rw [if_neg hc]; rfl, by rw [HS.out.2]; exact World.ownsRow_nil _ _ _ _, D2.out⟩
end Go.Proofs.YtdbciciljeainaaGreatDoor
