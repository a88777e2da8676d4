/-
  The program's Add.
-/
import Derived.Test.YtdbciciljeainaaGreatDoorXfClone
import Derived.Deep.CutRange
namespace Go.Proofs.YtdbciciljeainaaGreatDoor
open Go.RowKit FerryCrc
set_option linter.unusedVariables false
set_option linter.unusedSimpArgs false

def sameSg (s : Sg) (n : Nt) : Bool := n.part == s.part && (n.boot == s.boot && n.peer == s.peer && n.num == s.num) && n.stage == s.stage && n.total == s.total
def wasP (P : List ByteArray) (n : Nt) : ByteArray := (P[n.index.toNat]?).getD ⟨#[]⟩
def addE (s : Sg) (P : List ByteArray) (n : Nt) : Nat := if goodB s P = true then (if begE n = 0 then (if sameSg s n = true then (if (wasP P n).size = 0 ∨ wasP P n = n.data then 0 else 14) else 10) else begE n) else 9
def addS (s : Sg) (P : List ByteArray) (n : Nt) : Sg := if addE s P n = 0 then s else zSg
def addP (s : Sg) (P : List ByteArray) (n : Nt) : List ByteArray := if addE s P n = 0 then P.set n.index.toNat n.data else []
def addF (s : Sg) (P : List ByteArray) (n : Nt) : Bool := decide (addE s P n = 0) && decide ((wasP P n).size = 0)
theorem str_ne {x y : ByteArray} (h : ¬ x = y) : ¬ x.toList = y.toList := by
  rw [ByteArray.toList_eq, ByteArray.toList_eq]
  intro e
  apply h
  apply ByteArray.ext
  exact Array.ext' e
theorem LOwn.form {α : Type} {f : α → List Value} {sz : Nat} {e : TypeId} {w : World} {base : Nat} {v : Value} {l : List α} (h : LOwn f sz e w base v l) (hl : 0 < l.length) : ∃ g c, v = .slice (some ⟨g, 0, none⟩) l.length c ∧ base ≤ g := by
  rcases h.2 with ⟨_, h0⟩ | ⟨g, cap, cur, e1, hg, _⟩
  · omega
  · exact ⟨g, cap, e1, hg⟩
theorem xid_neq {b r m b2 r2 m2 : Int} (h : ¬ (b2 = b ∧ r2 = r ∧ m2 = m)) (w : World) : (binOp .neq 23 (.agg #[.int .i64 b2, .int .i64 r2, .int .i64 m2]) (.agg #[.int .i64 b, .int .i64 r, .int .i64 m])).run Tryz.prog w = .ok (.bool true) w := by
  go_simp
  exact fun h1 h2 h3 => h ⟨h1, h2, h3⟩
theorem begE_open {n : Nt} (h : begE n = 0) : chk n = 0 ∧ n.kind = 1 := by
  unfold begE at h
  split at h
  · split at h
    · exact ⟨by assumption, by assumption⟩
    · cases h
  · rename_i h1
    exact absurd h h1

set_option maxRecDepth 100000 in
set_option maxHeartbeats 4000000 in
theorem add_any (pt st tt b r m : Int) (a : Option Addr) (n c : Nat) (P : List ByteArray) (k pt2 b2 r2 m2 st2 ix tt2 sm : Int) (d : ByteArray) {w : World} {E : Nat → Addr} (he : Er7x w E) (hP : Txs w a n c P) (hz : ∀ x ∈ P, x.size ≤ 9223372036854775807)
    (hd : d.size ≤ 9223372036854775807) (h1 : -9223372036854775808 ≤ tt2) (h2 : tt2 ≤ 9223372036854775807) :
    Calls Tryz.prog 7 #[.agg #[.int .i64 pt, .int .i64 st, .int .i64 tt, .int .i64 b, .int .i64 r, .int .i64 m, .slice a n c], .agg #[.int .i64 k, .int .i64 pt2, .int .i64 b2, .int .i64 r2, .int .i64 m2, .int .i64 st2, .int .i64 ix, .int .i64 tt2, .int .u32 sm, .string d]] w fun e w' => ∃ v, e = .returned (.tuple #[.agg ((addS ⟨pt, st, tt, b, r, m⟩ P ⟨k, pt2, b2, r2, m2, st2, ix, tt2, sm, d⟩).cells v).toArray, .bool (addF ⟨pt, st, tt, b, r, m⟩ P ⟨k, pt2, b2, r2, m2, st2, ix, tt2, sm, d⟩), erv E (addE ⟨pt, st, tt, b, r, m⟩ P ⟨k, pt2, b2, r2, m2, st2, ix, tt2, sm, d⟩)]) ∧ TxOwn w' w.heap.size v (addP ⟨pt, st, tt, b, r, m⟩ P ⟨k, pt2, b2, r2, m2, st2, ix, tt2, sm, d⟩) ∧ Below w.heap.size w w' := by
  obtain ⟨N, hN⟩ : ∃ N : Nt, N = ⟨k, pt2, b2, r2, m2, st2, ix, tt2, sm, d⟩ := ⟨_, rfl⟩
  obtain ⟨S, hS⟩ : ∃ S : Sg, S = ⟨pt, st, tt, b, r, m⟩ := ⟨_, rfl⟩
  have HC1 := hide (fun (w' : World) (h : Txs w' a n c P) => good_any S a n c P h hz)
  have HC2 := hide (fun (w' : World) (h : Er7x w' E) => begin_any k pt2 b2 r2 m2 st2 ix tt2 sm d h.e7 hd h1 h2)
  rw [← hN] at HC2 ⊢
  rw [← hS]
  have hcs : (S.cells (.slice a n c)).toArray = #[.int .i64 pt, .int .i64 st, .int .i64 tt, .int .i64 b, .int .i64 r, .int .i64 m, .slice a n c] := by rw [hS]; rfl
  rw [hcs] at HC1
  obtain ⟨W, hW, B0, B1, B2, D0⟩ := box3 w [.int .i64 pt, .int .i64 st, .int .i64 tt, .int .i64 b, .int .i64 r, .int .i64 m, .slice a n c] 34 [.int .i64 k, .int .i64 pt2, .int .i64 b2, .int .i64 r2, .int .i64 m2, .int .i64 st2, .int .i64 ix, .int .i64 tt2, .int .u32 sm, .string d] 33 [.int .i64 0, .int .i64 0, .int .i64 0, .int .i64 0, .int .i64 0, .int .i64 0, .slice none 0 0] 34
  obtain ⟨p, hp⟩ : ∃ p, w.heap.size + 1 = p := ⟨_, rfl⟩
  obtain ⟨q, hq⟩ : ∃ q, w.heap.size + 2 = q := ⟨_, rfl⟩
  have HNE : Hid (w.heap.size ≠ p ∧ w.heap.size ≠ q ∧ p ≠ q ∧ w.heap.size ≤ p) := by unfold Hid; omega
  have HQ0 : Hid (w.heap.size < q) := by unfold Hid; omega
  rw [hp] at B1
  rw [hq] at B2
  have HB0 := hide B0
  have HB1 := hide B1
  have HB2 := hide B2
  have HD := hide D0
  have HWD := hide hW
  have HE := hide (he.below D0)
  have HE0 := hide he
  have HN := hide hN
  have HS := hide hS
  have HP := hide (hP.below D0)
  have HZ := hide hz
  have hPn := hP.size
  have HPQ : Hid (w.heap.size + 1 = p ∧ p + 1 = q) := by unfold Hid; omega
  clear B0 B1 B2 D0 hW hN hS he h1 h2 hd hP hz hcs hp hq
  go_enter Tryz.func7, Tryz.ntmps7
  go_upto_region 1 with fail
  have hW := HWD.out
  obtain ⟨hp, hq⟩ := HPQ.out
  clear HWD HPQ
  simp only [hW, hp, hq]
  clear hW hp hq
  have g0 := HB0.out.cell 0 rfl
  have g1 := HB0.out.cell 1 rfl
  have g2 := HB0.out.cell 2 rfl
  have g3 := HB0.out.cell 3 rfl
  have g4 := HB0.out.cell 4 rfl
  have g5 := HB0.out.cell 5 rfl
  have g6 := HB0.out.cell 6 rfl
  go_wp2_with fail
  refine Calls.mono (HC1.out W HP.out) ?_
  rintro e w1 ⟨rfl, b1⟩
  replace HB0 := hide (HB0.out.below b1)
  replace HB1 := hide (HB1.out.below b1)
  replace HB2 := hide (HB2.out.below b1)
  replace HD := hide (chain HD.out b1)
  replace HE := hide (HE.out.below b1)
  replace HP := hide (HP.out.below b1)
  clear b1 HC1 g0 g1 g2 g3 g4 g5 g6
  cases hg : goodB S P with
  | false =>
    have HF : Hid (addS S P N = zSg ∧ addP S P N = [] ∧ addF S P N = false ∧ addE S P N = 9) := by
      have h9 : addE S P N = 9 := by
        unfold addE
        rw [if_neg (by rw [hg]; decide)]
      refine ⟨?_, ?_, ?_, h9⟩
      · unfold addS; rw [h9]; exact if_neg (by decide)
      · unfold addP; rw [h9]; exact if_neg (by decide)
      · unfold addF; rw [h9, decide_eq_false (by decide)]; rfl
    have hge : w.heap.size ≤ q := Nat.le_of_lt HQ0.out
    have B2 := hide (HB2.out.sets [.int .i64 0, .int .i64 0, .int .i64 0, .int .i64 0, .int .i64 0, .int .i64 0, .slice none 0 0] rfl)
    have D2 := hide (below_sets hge [.int .i64 0, .int .i64 0, .int .i64 0, .int .i64 0, .int .i64 0, .int .i64 0, .slice none 0 0] 0 HD.out)
    clear hge
    have ve := HE.out.v9
    have ves := (HE0.out.below D2.out).v9
    have ved := (HE0.out.below D2.out.drew).v9
    unfold sent at ve ves ved
    have hp1 : 0 ≠ q := by
      have h1 := block_lt_of_cell HE0.out.v9
      have h2 := HQ0.out
      simp only at h1
      omega
    have hp2 : q ≠ 0 := Ne.symm hp1
    have f0 := HB2.out.frozen 0
    have f1 := HB2.out.frozen 1
    have f2 := HB2.out.frozen 2
    have f3 := HB2.out.frozen 3
    have f4 := HB2.out.frozen 4
    have f5 := HB2.out.frozen 5
    have f6 := HB2.out.frozen 6
    have g0 := HB2.out.cell 0 rfl
    have g1 := HB2.out.cell 1 rfl
    have g2 := HB2.out.cell 2 rfl
    have g3 := HB2.out.cell 3 rfl
    have g4 := HB2.out.cell 4 rfl
    have g5 := HB2.out.cell 5 rfl
    have g6 := HB2.out.cell 6 rfl
    go_upto_region 2 with fail
    go_region
    go_wp2
    obtain ⟨W9, hW9⟩ : ∃ W9, (((((((w1.setCell ⟨q, 0, none⟩ (.int .i64 0)).setCell ⟨q, 1, none⟩ (.int .i64 0)).setCell ⟨q, 2, none⟩ (.int .i64 0)).setCell ⟨q, 3, none⟩ (.int .i64 0)).setCell ⟨q, 4, none⟩ (.int .i64 0)).setCell ⟨q, 5, none⟩ (.int .i64 0)).setCell ⟨q, 6, none⟩ (.slice none 0 0)) = W9 := ⟨_, rfl⟩
    simp only [hW9]
    rw [show (w1).setCells q 0 [.int .i64 0, .int .i64 0, .int .i64 0, .int .i64 0, .int .i64 0, .int .i64 0, .slice none 0 0] = W9 from hW9] at B2 D2
    clear hW9
    replace B2 := hide (B2.out.below (Below.refl _ _).drew)
    replace D2 := hide D2.out.drew
    have e0 := B2.out.cell 0 rfl
    have e1 := B2.out.cell 1 rfl
    have e2 := B2.out.cell 2 rfl
    have e3 := B2.out.cell 3 rfl
    have e4 := B2.out.cell 4 rfl
    have e5 := B2.out.cell 5 rfl
    have e6 := B2.out.cell 6 rfl
    refine bodyPost_ret (v := .tuple #[.agg #[.int .i64 0, .int .i64 0, .int .i64 0, .int .i64 0, .int .i64 0, .int .i64 0, .slice none 0 0], .bool false, sent (E 9)]) (by simp [results, Tryz.results7, go_sem, e0, e1, e2, e3, e4, e5, e6, sent]) rfl ?_
    exact ⟨.slice none 0 0, by rw [HF.out.1, HF.out.2.2.1, HF.out.2.2.2]; rfl, by rw [HF.out.2.1]; exact World.ownsRow_nil _ _ _ _, D2.out⟩
  | true =>
    have g0 := HB1.out.cell 0 rfl
    have g1 := HB1.out.cell 1 rfl
    have g2 := HB1.out.cell 2 rfl
    have g3 := HB1.out.cell 3 rfl
    have g4 := HB1.out.cell 4 rfl
    have g5 := HB1.out.cell 5 rfl
    have g6 := HB1.out.cell 6 rfl
    have g7 := HB1.out.cell 7 rfl
    have g8 := HB1.out.cell 8 rfl
    have g9 := HB1.out.cell 9 rfl
    go_upto_region 3 with fail
    go_wp2_with fail
    refine Calls.mono (HC2.out w1 HE.out) ?_
    rintro e w2 ⟨v, rfl, o2, b1⟩
    replace HB0 := hide (HB0.out.below b1)
    replace HB1 := hide (HB1.out.below b1)
    replace HB2 := hide (HB2.out.below b1)
    replace HD := hide (chain HD.out b1)
    replace HE := hide (HE.out.below b1)
    replace HP := hide (HP.out.below b1)
    obtain ⟨va, vc, rfl, -⟩ := o2.rcs
    obtain ⟨vn, hvn⟩ : ∃ vn, (begP N).length = vn := ⟨_, rfl⟩
    rw [hvn]
    clear hvn o2 b1 HC2 g0 g1 g2 g3 g4 g5 g6 g7 g8 g9
    by_cases hb : begE N = 0
    · have HBS : Hid (begS N = ⟨pt2, st2, tt2, b2, r2, m2⟩) := by unfold Hid begS; rw [if_pos hb, HN.out]
      rw [HBS.out, hb, show erv E 0 = .nilIface from rfl]
      unfold Sg.cells
      simp only
      obtain ⟨hck, hk1⟩ := begE_open hb
      obtain ⟨-, -, t1, t2, i1, i2, -, -⟩ := chk_chunk hck hk1
      rw [HN.out] at t1 t2 i1 i2
      simp only at t1 t2 i1 i2
      obtain ⟨i, rfl⟩ : ∃ i : Nat, ix = (i : Int) := ⟨ix.toNat, by omega⟩
      clear hck hk1
      obtain ⟨W3, hW3, B3, D3⟩ := box1 w2 [.int .i64 pt2, .int .i64 st2, .int .i64 tt2, .int .i64 b2, .int .i64 r2, .int .i64 m2, .slice va vn vc] 34
      obtain ⟨g, hgq⟩ : ∃ g, w2.heap.size = g := ⟨_, rfl⟩
      rw [hgq] at B3
      have HB3 := hide B3
      have HW3 := hide hW3
      have HGQ := hide hgq
      replace HB0 := hide (HB0.out.below D3)
      replace HB1 := hide (HB1.out.below D3)
      replace HB2 := hide (HB2.out.below D3)
      replace HD := hide (chain HD.out D3)
      replace HE := hide (HE.out.below D3)
      replace HP := hide (HP.out.below D3)
      clear B3 D3 hW3 hgq
      go_upto_region 6 with fail
      have hW3 := HW3.out
      have hgq := HGQ.out
      simp only [hW3, hgq]
      clear HW3 HGQ hW3 hgq
      have f0 := HB3.out.cell 0 rfl
      have f1 := HB3.out.cell 1 rfl
      have f2 := HB3.out.cell 2 rfl
      have f3 := HB3.out.cell 3 rfl
      have f4 := HB3.out.cell 4 rfl
      have f5 := HB3.out.cell 5 rfl
      have g0 := HB0.out.cell 0 rfl
      have g1 := HB0.out.cell 1 rfl
      have g2 := HB0.out.cell 2 rfl
      have g3 := HB0.out.cell 3 rfl
      have g4 := HB0.out.cell 4 rfl
      have g5 := HB0.out.cell 5 rfl
      have g6 := HB0.out.cell 6 rfl
      by_cases hs : sameSg S N = true
      · have HSM : Hid (pt2 = pt ∧ b2 = b ∧ r2 = r ∧ m2 = m ∧ st2 = st ∧ tt2 = tt) := by
          have h5 := hs
          rw [HS.out, HN.out] at h5
          unfold sameSg at h5
          simp only [Bool.and_eq_true, beq_iff_eq] at h5
          exact ⟨h5.1.1.1, h5.1.1.2.1.1, h5.1.1.2.1.2, h5.1.1.2.2, h5.1.2, h5.2⟩
        obtain ⟨rfl, rfl, rfl, rfl, rfl, rfl⟩ := HSM.out
        obtain ⟨-, -, -, h32, hpl, -⟩ := goodB_open hg
        rw [HS.out] at h32 hpl
        simp only at h32 hpl
        have hin : i < n := by omega
        have hn32 : n ≤ 32 := by omega
        obtain ⟨x, hx⟩ : ∃ x, P[i]? = some x := ⟨_, List.getElem?_eq_getElem (by omega)⟩
        have HW : Hid (wasP P N = x) := by
          unfold Hid wasP
          rw [HN.out]
          simp only [Int.toNat_natCast]
          rw [hx]
          rfl
        obtain ⟨b1, o1, rfl, hc1⟩ := HP.out.at tv1 (by decide) hx
        have n0 := hc1 0 _ rfl
        rw [Nat.mul_one, Nat.add_zero] at n0
        have q6 := HB1.out.cell 6 rfl
        have q9 := HB1.out.cell 9 rfl
        have HSS := hide hs
        have HGG := hide hg
        have HBB := hide hb
        clear hc1 hx hs hg hb h32 hpl t1 t2 i1 i2
        by_cases h0 : x.size = 0 ∨ x = d
        · have HF : Hid (addS S P N = S ∧ addP S P N = P.set i d ∧ addF S P N = decide (x.size = 0) ∧ addE S P N = 0) := by
            have h9 : addE S P N = 0 := by
              unfold addE
              rw [if_pos HGG.out, if_pos HBB.out, if_pos HSS.out, HW.out, if_pos (by rw [HN.out]; exact h0)]
            refine ⟨?_, ?_, ?_, h9⟩
            · unfold addS; rw [h9]; exact if_pos rfl
            · unfold addP; rw [h9, if_pos rfl, HN.out]; rfl
            · unfold addF; rw [h9, HW.out]; rfl
          have HCL := hide (fun (w' : World) (h : Txs w' (some ⟨b1, o1, none⟩) n c P) => clone_tx (some ⟨b1, o1, none⟩) n c P h (by omega))
          go_upto_region 9 with fail
          clear f0 f1 f2 f3 f4 f5 g0 g1 g2 g3 g4 g5 g6 n0 q6
          go_cut [65] from 58 to 65 (fun v wz => v = .bool false ∧ wz = W3)
          case first =>
            by_cases hx0 : x.size = 0
            · have hxe := empty_of hx0
              subst hxe
              clear h0 hx0
              go_wp2
              go_meet
              case rel => exact ⟨rfl, rfl⟩
            · have hdt := list_ne hx0
              obtain rfl : x = d := by
                rcases h0 with h | h
                · exact absurd h hx0
                · exact h
              clear h0 hx0
              go_wp2
              go_meet
              case rel => exact ⟨rfl, rfl⟩
          case rest =>
            obtain ⟨rfl, rfl⟩ := hcut
            have g6 := HB0.out.cell 6 rfl
            go_upto_region 11 with fail
            go_wp2_with fail
            refine Calls.mono (HCL.out _ HP.out) ?_
            rintro e w4 ⟨v, rfl, o4, b4⟩
            obtain ⟨gv, cv, rfl, hgv⟩ := o4.form (by rw [hPn]; omega)
            rw [hPn] at o4 ⊢
            have hlt0 := HB0.out.lt
            have hlt1 := HB1.out.lt
            have hlt2 := HB2.out.lt
            have HGV : Hid (w.heap.size ≠ gv ∧ p ≠ gv ∧ q ≠ gv ∧ w.heap.size ≤ gv) := ⟨by omega, by omega, by omega, by omega⟩
            replace HB0 := hide (HB0.out.below b4)
            replace HB1 := hide (HB1.out.below b4)
            replace HB2 := hide (HB2.out.below b4)
            have HWZ := hide HD.out.size
            replace HD := hide (chain HD.out b4)
            have HO := hide o4
            clear o4 b4 g6 q9 hgv hlt0 hlt1 hlt2 HCL HP
            have c6 := HB0.out.cell 6 rfl
            have z6 := HB0.out.frozen 6
            have hne0 : (Value.slice (some ⟨gv, 0, none⟩) n cv).ownBlock ≠ some w.heap.size := by
              intro h2
              exact HGV.out.1 (by simpa [Value.ownBlock] using h2.symm)
            have KO := hide (HO.out.far (p := ⟨w.heap.size, 6, none⟩) hne0 (.slice (some ⟨gv, 0, none⟩) n cv))
            have K0 := hide (HB0.out.set 6 (.slice (some ⟨gv, 0, none⟩) n cv))
            have K1 := hide (HB1.out.other ⟨w.heap.size, 6, none⟩ (.slice (some ⟨gv, 0, none⟩) n cv) (Ne.symm HNE.out.1))
            have K2 := hide (HB2.out.other ⟨w.heap.size, 6, none⟩ (.slice (some ⟨gv, 0, none⟩) n cv) (Ne.symm HNE.out.2.1))
            have KD := hide (HD.out.setCell (p := ⟨w.heap.size, 6, none⟩) (Nat.le_refl _) (.slice (some ⟨gv, 0, none⟩) n cv))
            clear hne0
            go_upto_region 12 with fail
            obtain ⟨W5, hW5⟩ : ∃ W5, w4.setCell ⟨w.heap.size, 6, none⟩ (.slice (some ⟨gv, 0, none⟩) n cv) = W5 := ⟨_, rfl⟩
            rw [hW5] at KO K0 K1 K2 KD
            simp only [hW5]
            replace K0 : Hid (Bk W5 w.heap.size [.int .i64 pt2, .int .i64 st2, .int .i64 tt2, .int .i64 b2, .int .i64 r2, .int .i64 m2, .slice (some ⟨gv, 0, none⟩) n cv] 34) := K0
            clear hW5 c6 z6 HB0 HB1 HB2 HD HO
            have h6 := K0.out.cell 6 rfl
            have n6 := K1.out.cell 6 rfl
            have n9 := K1.out.cell 9 rfl
            obtain ⟨z1, z2, z3, z4, z5⟩ := KO.out.put tv1 hPn hin d
            obtain ⟨⟨u0, y0⟩, x0⟩ := z1 0 (by decide)
            have hm1 : i * 1 = i := Nat.mul_one i
            rw [hm1] at y0 x0 z2 z3
            rw [Nat.add_zero] at y0 x0
            have M2 := hide (show TxOwn (W5.setCell ⟨gv, i, none⟩ (.string d)) _ (.slice (some ⟨gv, 0, none⟩) n cv) (P.set i d) from z2)
            have M0 := hide (K0.out.other ⟨gv, i, none⟩ (.string d) HGV.out.1)
            have MQ := hide (K2.out.other ⟨gv, i, none⟩ (.string d) HGV.out.2.2.1)
            have MD := hide (KD.out.setCell (p := ⟨gv, i, none⟩) HGV.out.2.2.2 (.string d))
            clear z1 z2 z3 z4 z5 hm1 KO K0 K1 K2 KD
            go_upto_region 13 with fail
            obtain ⟨W6, hW6⟩ : ∃ W6, W5.setCell ⟨gv, i, none⟩ (.string d) = W6 := ⟨_, rfl⟩
            rw [hW6] at M2 M0 MQ MD
            simp only [hW6]
            clear hW6 h6 n6 n9 y0 x0
            have c0 := M0.out.cell 0 rfl
            have c1 := M0.out.cell 1 rfl
            have c2 := M0.out.cell 2 rfl
            have c3 := M0.out.cell 3 rfl
            have c4 := M0.out.cell 4 rfl
            have c5 := M0.out.cell 5 rfl
            have c6 := M0.out.cell 6 rfl
            have g0 := MQ.out.cell 0 rfl
            have g1 := MQ.out.cell 1 rfl
            have g2 := MQ.out.cell 2 rfl
            have g3 := MQ.out.cell 3 rfl
            have g4 := MQ.out.cell 4 rfl
            have g5 := MQ.out.cell 5 rfl
            have g6 := MQ.out.cell 6 rfl
            have f0 := MQ.out.frozen 0
            have f1 := MQ.out.frozen 1
            have f2 := MQ.out.frozen 2
            have f3 := MQ.out.frozen 3
            have f4 := MQ.out.frozen 4
            have f5 := MQ.out.frozen 5
            have f6 := MQ.out.frozen 6
            have hge : w.heap.size ≤ q := Nat.le_of_lt HQ0.out
            have hneq : (Value.slice (some ⟨gv, 0, none⟩) n cv).ownBlock ≠ some q := by
              intro h2
              exact HGV.out.2.2.1 (by simpa [Value.ownBlock] using h2.symm)
            have Q1 := hide (MQ.out.sets [.int .i64 pt2, .int .i64 st2, .int .i64 tt2, .int .i64 b2, .int .i64 r2, .int .i64 m2, .slice (some ⟨gv, 0, none⟩) n cv] rfl)
            have Q2 := hide (M2.out.fars hneq [.int .i64 pt2, .int .i64 st2, .int .i64 tt2, .int .i64 b2, .int .i64 r2, .int .i64 m2, .slice (some ⟨gv, 0, none⟩) n cv] 0)
            have Q3 := hide (below_sets hge [.int .i64 pt2, .int .i64 st2, .int .i64 tt2, .int .i64 b2, .int .i64 r2, .int .i64 m2, .slice (some ⟨gv, 0, none⟩) n cv] 0 MD.out)
            clear hge hneq
            have hse : x.toList.isEmpty = decide (x.size = 0) := by
              by_cases hx0 : x.size = 0
              · rw [decide_eq_true hx0, empty_of hx0, ByteArray.toList_eq]; rfl
              · rw [decide_eq_false hx0]; exact list_ne hx0
            obtain ⟨y, hy⟩ : ∃ y, decide (x.size = 0) = y := ⟨_, rfl⟩
            rw [hy] at hse HF
            clear hy
            go_wp2
            obtain ⟨W9, hW9⟩ : ∃ W9, (((((((W6.setCell ⟨q, 0, none⟩ (.int .i64 pt2)).setCell ⟨q, 1, none⟩ (.int .i64 st2)).setCell ⟨q, 2, none⟩ (.int .i64 tt2)).setCell ⟨q, 3, none⟩ (.int .i64 b2)).setCell ⟨q, 4, none⟩ (.int .i64 r2)).setCell ⟨q, 5, none⟩ (.int .i64 m2)).setCell ⟨q, 6, none⟩ (.slice (some ⟨gv, 0, none⟩) n cv)) = W9 := ⟨_, rfl⟩
            simp only [hW9]
            rw [show W6.setCells q 0 [.int .i64 pt2, .int .i64 st2, .int .i64 tt2, .int .i64 b2, .int .i64 r2, .int .i64 m2, .slice (some ⟨gv, 0, none⟩) n cv] = W9 from hW9] at Q1 Q2 Q3
            clear hW9
            have e0 := Q1.out.cell 0 rfl
            have e1 := Q1.out.cell 1 rfl
            have e2 := Q1.out.cell 2 rfl
            have e3 := Q1.out.cell 3 rfl
            have e4 := Q1.out.cell 4 rfl
            have e5 := Q1.out.cell 5 rfl
            have e6 := Q1.out.cell 6 rfl
            refine bodyPost_ret (v := .tuple #[.agg #[.int .i64 pt2, .int .i64 st2, .int .i64 tt2, .int .i64 b2, .int .i64 r2, .int .i64 m2, .slice (some ⟨gv, 0, none⟩) n cv], .bool y, .nilIface]) (by simp [results, Tryz.results7, go_sem, e0, e1, e2, e3, e4, e5, e6]) rfl ?_
            exact ⟨.slice (some ⟨gv, 0, none⟩) n cv, by rw [HF.out.1, HF.out.2.2.1, HF.out.2.2.2, HS.out]; rfl, by rw [HF.out.2.1]; exact Q2.out.weaken HWZ.out, Q3.out⟩
        · --
          have HF : Hid (addS S P N = zSg ∧ addP S P N = [] ∧ addF S P N = false ∧ addE S P N = 14) := by
            have h9 : addE S P N = 14 := by
              unfold addE
              rw [if_pos HGG.out, if_pos HBB.out, if_pos HSS.out, HW.out, if_neg (by rw [HN.out]; exact h0)]
            refine ⟨?_, ?_, ?_, h9⟩
            · unfold addS; rw [h9]; exact if_neg (by decide)
            · unfold addP; rw [h9]; exact if_neg (by decide)
            · unfold addF; rw [h9, decide_eq_false (by decide)]; rfl
          have hx0 : ¬ x.size = 0 := fun h => h0 (.inl h)
          have hxd : ¬ x.toList = d.toList := str_ne (fun h => h0 (.inr h))
          have hdt := list_ne hx0
          clear h0 hx0
          go_upto_region 9 with fail
          clear f0 f1 f2 f3 f4 f5 g0 g1 g2 g3 g4 g5 g6 n0 q6
          go_cut [65] from 58 to 65 (fun v wz => v = .bool true ∧ wz = W3)
          case first =>
            go_wp2
            go_meet
            case rel => exact ⟨by rw [show (x.toList == d.toList) = false by simpa using hxd]; rfl, rfl⟩
          case rest =>
            obtain ⟨rfl, rfl⟩ := hcut
            clear hxd hdt q9
            go_upto_region 10 with fail
            have hge : w.heap.size ≤ q := Nat.le_of_lt HQ0.out
            have B2 := hide (HB2.out.sets [.int .i64 0, .int .i64 0, .int .i64 0, .int .i64 0, .int .i64 0, .int .i64 0, .slice none 0 0] rfl)
            have D2 := hide (below_sets hge [.int .i64 0, .int .i64 0, .int .i64 0, .int .i64 0, .int .i64 0, .int .i64 0, .slice none 0 0] 0 HD.out)
            clear hge
            have ve := HE.out.v14
            have ves := (HE0.out.below D2.out).v14
            have ved := (HE0.out.below D2.out.drew).v14
            unfold sent at ve ves ved
            have hp1 : 2 ≠ q := by
              have h1 := block_lt_of_cell HE0.out.v14
              have h2 := HQ0.out
              simp only at h1
              omega
            have hp2 : q ≠ 2 := Ne.symm hp1
            have f0 := HB2.out.frozen 0
            have f1 := HB2.out.frozen 1
            have f2 := HB2.out.frozen 2
            have f3 := HB2.out.frozen 3
            have f4 := HB2.out.frozen 4
            have f5 := HB2.out.frozen 5
            have f6 := HB2.out.frozen 6
            have g0 := HB2.out.cell 0 rfl
            have g1 := HB2.out.cell 1 rfl
            have g2 := HB2.out.cell 2 rfl
            have g3 := HB2.out.cell 3 rfl
            have g4 := HB2.out.cell 4 rfl
            have g5 := HB2.out.cell 5 rfl
            have g6 := HB2.out.cell 6 rfl
            go_region
            go_wp2
            obtain ⟨W9, hW9⟩ : ∃ W9, (((((((wc.setCell ⟨q, 0, none⟩ (.int .i64 0)).setCell ⟨q, 1, none⟩ (.int .i64 0)).setCell ⟨q, 2, none⟩ (.int .i64 0)).setCell ⟨q, 3, none⟩ (.int .i64 0)).setCell ⟨q, 4, none⟩ (.int .i64 0)).setCell ⟨q, 5, none⟩ (.int .i64 0)).setCell ⟨q, 6, none⟩ (.slice none 0 0)) = W9 := ⟨_, rfl⟩
            simp only [hW9]
            rw [show (wc).setCells q 0 [.int .i64 0, .int .i64 0, .int .i64 0, .int .i64 0, .int .i64 0, .int .i64 0, .slice none 0 0] = W9 from hW9] at B2 D2
            clear hW9
            replace B2 := hide (B2.out.below (Below.refl _ _).drew)
            replace D2 := hide D2.out.drew
            have e0 := B2.out.cell 0 rfl
            have e1 := B2.out.cell 1 rfl
            have e2 := B2.out.cell 2 rfl
            have e3 := B2.out.cell 3 rfl
            have e4 := B2.out.cell 4 rfl
            have e5 := B2.out.cell 5 rfl
            have e6 := B2.out.cell 6 rfl
            refine bodyPost_ret (v := .tuple #[.agg #[.int .i64 0, .int .i64 0, .int .i64 0, .int .i64 0, .int .i64 0, .int .i64 0, .slice none 0 0], .bool false, sent (E 14)]) (by simp [results, Tryz.results7, go_sem, e0, e1, e2, e3, e4, e5, e6, sent]) rfl ?_
            exact ⟨.slice none 0 0, by rw [HF.out.1, HF.out.2.2.1, HF.out.2.2.2]; rfl, by rw [HF.out.2.1]; exact World.ownsRow_nil _ _ _ _, D2.out⟩
      · --
        have HF : Hid (addS S P N = zSg ∧ addP S P N = [] ∧ addF S P N = false ∧ addE S P N = 10) := by
          have h9 : addE S P N = 10 := by
            unfold addE
            rw [if_pos hg, if_pos hb, if_neg hs]
          refine ⟨?_, ?_, ?_, h9⟩
          · unfold addS; rw [h9]; exact if_neg (by decide)
          · unfold addP; rw [h9]; exact if_neg (by decide)
          · unfold addF; rw [h9, decide_eq_false (by decide)]; rfl
        have hnn : ¬ (pt2 = pt ∧ (b2 = b ∧ r2 = r ∧ m2 = m) ∧ st2 = st ∧ tt2 = tt) := fun h5 => hs (by
          rw [HS.out, HN.out]
          unfold sameSg
          simp only [Bool.and_eq_true, beq_iff_eq]
          exact ⟨⟨⟨h5.1, ⟨h5.2.1.1, h5.2.1.2.1⟩, h5.2.1.2.2⟩, h5.2.2.1⟩, h5.2.2.2⟩)
        go_cut [49] from 24 to 49 (fun v wz => v = .bool true ∧ wz = W3)
        case first =>
          by_cases c1 : pt2 = pt
          · subst c1
            by_cases c2 : b2 = b ∧ r2 = r ∧ m2 = m
            · obtain ⟨rfl, rfl, rfl⟩ := c2
              by_cases c3 : st2 = st
              · subst c3
                have c4 : (tt2 == tt) = false := by
                  simpa using fun h => hnn ⟨rfl, ⟨rfl, rfl, rfl⟩, rfl, h⟩
                have c5 : (tt2 != tt) = true := by unfold bne; rw [c4]; rfl
                clear hnn
                go_wp2
                go_meet
                case rel => exact ⟨by first | rfl | rw [c5], rfl⟩
              · have c4 : (st2 == st) = false := by simpa using c3
                have c5 : (st2 != st) = true := by unfold bne; rw [c4]; rfl
                clear hnn c3
                go_wp2
                go_meet
                case rel => exact ⟨rfl, rfl⟩
            · have c4 := xid_neq c2
              clear hnn c2
              go_wp2
              go_meet
              case rel => exact ⟨rfl, rfl⟩
          · have c4 : (pt2 == pt) = false := by simpa using c1
            have c5 : (pt2 != pt) = true := by unfold bne; rw [c4]; rfl
            clear hnn c1
            go_wp2
            go_meet
            case rel => exact ⟨rfl, rfl⟩
        case rest =>
          obtain ⟨rfl, rfl⟩ := hcut
          clear f0 f1 f2 f3 f4 f5 g0 g1 g2 g3 g4 g5 g6 hnn
          go_upto_region 7 with fail
          have hge : w.heap.size ≤ q := Nat.le_of_lt HQ0.out
          have B2 := hide (HB2.out.sets [.int .i64 0, .int .i64 0, .int .i64 0, .int .i64 0, .int .i64 0, .int .i64 0, .slice none 0 0] rfl)
          have D2 := hide (below_sets hge [.int .i64 0, .int .i64 0, .int .i64 0, .int .i64 0, .int .i64 0, .int .i64 0, .slice none 0 0] 0 HD.out)
          clear hge
          have ve := HE.out.v10
          have ves := (HE0.out.below D2.out).v10
          have ved := (HE0.out.below D2.out.drew).v10
          unfold sent at ve ves ved
          have hp1 : 1 ≠ q := by
            have h1 := block_lt_of_cell HE0.out.v10
            have h2 := HQ0.out
            simp only at h1
            omega
          have hp2 : q ≠ 1 := Ne.symm hp1
          have f0 := HB2.out.frozen 0
          have f1 := HB2.out.frozen 1
          have f2 := HB2.out.frozen 2
          have f3 := HB2.out.frozen 3
          have f4 := HB2.out.frozen 4
          have f5 := HB2.out.frozen 5
          have f6 := HB2.out.frozen 6
          have g0 := HB2.out.cell 0 rfl
          have g1 := HB2.out.cell 1 rfl
          have g2 := HB2.out.cell 2 rfl
          have g3 := HB2.out.cell 3 rfl
          have g4 := HB2.out.cell 4 rfl
          have g5 := HB2.out.cell 5 rfl
          have g6 := HB2.out.cell 6 rfl
          go_region
          go_wp2
          obtain ⟨W9, hW9⟩ : ∃ W9, (((((((wc.setCell ⟨q, 0, none⟩ (.int .i64 0)).setCell ⟨q, 1, none⟩ (.int .i64 0)).setCell ⟨q, 2, none⟩ (.int .i64 0)).setCell ⟨q, 3, none⟩ (.int .i64 0)).setCell ⟨q, 4, none⟩ (.int .i64 0)).setCell ⟨q, 5, none⟩ (.int .i64 0)).setCell ⟨q, 6, none⟩ (.slice none 0 0)) = W9 := ⟨_, rfl⟩
          simp only [hW9]
          rw [show (wc).setCells q 0 [.int .i64 0, .int .i64 0, .int .i64 0, .int .i64 0, .int .i64 0, .int .i64 0, .slice none 0 0] = W9 from hW9] at B2 D2
          clear hW9
          replace B2 := hide (B2.out.below (Below.refl _ _).drew)
          replace D2 := hide D2.out.drew
          have e0 := B2.out.cell 0 rfl
          have e1 := B2.out.cell 1 rfl
          have e2 := B2.out.cell 2 rfl
          have e3 := B2.out.cell 3 rfl
          have e4 := B2.out.cell 4 rfl
          have e5 := B2.out.cell 5 rfl
          have e6 := B2.out.cell 6 rfl
          refine bodyPost_ret (v := .tuple #[.agg #[.int .i64 0, .int .i64 0, .int .i64 0, .int .i64 0, .int .i64 0, .int .i64 0, .slice none 0 0], .bool false, sent (E 10)]) (by simp [results, Tryz.results7, go_sem, e0, e1, e2, e3, e4, e5, e6, sent]) rfl ?_
          exact ⟨.slice none 0 0, by rw [HF.out.1, HF.out.2.2.1, HF.out.2.2.2]; rfl, by rw [HF.out.2.1]; exact World.ownsRow_nil _ _ _ _, D2.out⟩
    · --
      have HF : Hid (addS S P N = zSg ∧ addP S P N = [] ∧ addF S P N = false ∧ addE S P N = begE N) := by
        have h9 : addE S P N = begE N := by
          unfold addE
          rw [if_pos hg, if_neg hb]
        refine ⟨?_, ?_, ?_, h9⟩
        · unfold addS; rw [h9]; exact if_neg hb
        · unfold addP; rw [h9]; exact if_neg hb
        · unfold addF; rw [h9, decide_eq_false hb]; rfl
      have HBS : Hid (begS N = zSg) := by unfold Hid begS; rw [if_neg hb]
      rw [HBS.out, show erv E (begE N) = sent (E (begE N)) from if_neg hb]
      unfold Sg.cells zSg sent
      simp only
      obtain ⟨W3, hW3, B3, D3⟩ := box1 w2 [.int .i64 0, .int .i64 0, .int .i64 0, .int .i64 0, .int .i64 0, .int .i64 0, .slice va vn vc] 34
      have HW3 := hide hW3
      replace HB2 := hide (HB2.out.below D3)
      replace HD := hide (chain HD.out D3)
      clear B3 D3 hW3
      go_upto_region 5 with fail
      have hW3 := HW3.out
      simp only [hW3]
      clear HW3 hW3
      have hge : w.heap.size ≤ q := Nat.le_of_lt HQ0.out
      have B2 := hide (HB2.out.sets [.int .i64 0, .int .i64 0, .int .i64 0, .int .i64 0, .int .i64 0, .int .i64 0, .slice none 0 0] rfl)
      have D2 := hide (below_sets hge [.int .i64 0, .int .i64 0, .int .i64 0, .int .i64 0, .int .i64 0, .int .i64 0, .slice none 0 0] 0 HD.out)
      clear hge
      have f0 := HB2.out.frozen 0
      have f1 := HB2.out.frozen 1
      have f2 := HB2.out.frozen 2
      have f3 := HB2.out.frozen 3
      have f4 := HB2.out.frozen 4
      have f5 := HB2.out.frozen 5
      have f6 := HB2.out.frozen 6
      have g0 := HB2.out.cell 0 rfl
      have g1 := HB2.out.cell 1 rfl
      have g2 := HB2.out.cell 2 rfl
      have g3 := HB2.out.cell 3 rfl
      have g4 := HB2.out.cell 4 rfl
      have g5 := HB2.out.cell 5 rfl
      have g6 := HB2.out.cell 6 rfl
      go_wp2
      obtain ⟨W9, hW9⟩ : ∃ W9, (((((((W3.setCell ⟨q, 0, none⟩ (.int .i64 0)).setCell ⟨q, 1, none⟩ (.int .i64 0)).setCell ⟨q, 2, none⟩ (.int .i64 0)).setCell ⟨q, 3, none⟩ (.int .i64 0)).setCell ⟨q, 4, none⟩ (.int .i64 0)).setCell ⟨q, 5, none⟩ (.int .i64 0)).setCell ⟨q, 6, none⟩ (.slice none 0 0)) = W9 := ⟨_, rfl⟩
      simp only [hW9]
      rw [show (W3).setCells q 0 [.int .i64 0, .int .i64 0, .int .i64 0, .int .i64 0, .int .i64 0, .int .i64 0, .slice none 0 0] = W9 from hW9] at B2 D2
      clear hW9
      have e0 := B2.out.cell 0 rfl
      have e1 := B2.out.cell 1 rfl
      have e2 := B2.out.cell 2 rfl
      have e3 := B2.out.cell 3 rfl
      have e4 := B2.out.cell 4 rfl
      have e5 := B2.out.cell 5 rfl
      have e6 := B2.out.cell 6 rfl
      refine bodyPost_ret (v := .tuple #[.agg #[.int .i64 0, .int .i64 0, .int .i64 0, .int .i64 0, .int .i64 0, .int .i64 0, .slice none 0 0], .bool false, sent (E (begE N))]) (by simp [results, Tryz.results7, go_sem, e0, e1, e2, e3, e4, e5, e6, sent]) rfl ?_
      exact ⟨.slice none 0 0, by rw [HF.out.1, HF.out.2.2.1, HF.out.2.2.2]; unfold erv; rw [if_neg hb]; rfl, by rw [HF.out.2.1]; exact World.ownsRow_nil _ _ _ _, D2.out⟩
end Go.Proofs.YtdbciciljeainaaGreatDoor
