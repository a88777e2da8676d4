/-
  Walks of the document's Shift and Join.
-/
import Derived.Test.YtchmfjendnaflaaDoorRefShift
import Derived.Deep.RegionHeld3
import Derived.Test.YtchmfjendnaflaaDoorErrCode
namespace Go.Proofs.YtchmfjendnaflaaDoor
open Go.RowKit FerryCrc

theorem refShift_bad (r : Nat) (n : Int) (w : World) (h : n < 0) :
    Calls Tryd.prog 29 #[.int .u32 (r : Int), .int .i64 n] w fun e w' => e = .returned (.tuple #[.int .u32 0, .int .i64 12]) ∧ w = w' := by
  go_enter Tryd.func29, Tryd.ntmps29
  go_wp2
  go_ret2
  exact ⟨rfl, rfl⟩

theorem move_zero (r : Nat) (w : World) (h : r < 4294967296) :
    Calls Tryd.prog 49 #[.int .u32 (r : Int), .int .u8 0] w fun e w' => e = .returned (.int .u32 (bitsN 8 r : Nat)) ∧ w = w' := by
  have := move_any r 0 w h (by decide)
  unfold mv at this
  rw [Nat.xor_zero] at this
  exact this

/-- The row of a block of 32 cells. -/
def rowOf (w : World) (g : Nat) : Array Value := match w.heap[g]? with | some (.cells cs _ _) => cs | _ => #[]
def rowOk (w : World) (g : Nat) : Bool := match w.heap[g]? with | some (.cells cs t fr) => cs.size == 32 && fr == (0, 0) && t == 70 | _ => false
theorem rowOk_of {w : World} {g : Nat} {C : Array Value} (h : w.heap[g]? = some (.cells C 70 (0, 0))) (hs : C.size = 32) : rowOk w g = true ∧ rowOf w g = C := by
  unfold rowOk rowOf
  rw [h]
  simp [hs]
theorem load52 (w : World) (g : Nat) (h : rowOk w g = true) : (Instr.loadAt 70 (.pointer (some ⟨g, 0, none⟩))).run Tryd.prog w = .ok (.agg (rowOf w g)) w := by
  unfold rowOk at h
  split at h
  · rename_i cs t fr e
    simp at h
    have hr : rowOf w g = cs := by unfold rowOf; rw [e]
    rw [hr]
    obtain ⟨⟨h1, h2⟩, h3⟩ := h
    subst h2 h3
    simp only [Instr.loadAt, Instr.sureAddr, Sem.run_bind, Sem.run_pure, Result.andThen]
    exact run_loadVar_row w g 70 70 cs (0, 0) _ e Tryd.underlying70 rfl (by rw [h1]; exact info52)
  · simp at h

theorem load_row52 {w : World} {g : Nat} {C : Array Value} (h : w.heap[g]? = some (.cells C 70 (0, 0))) (hs : C.size = 32) : (Instr.loadAt 70 (.pointer (some ⟨g, 0, none⟩))).run Tryd.prog w = .ok (.agg C) w := by
  have := load52 w g (rowOk_of h hs).1
  rw [(rowOk_of h hs).2] at this
  exact this

theorem cell_set_other {w : World} {a : Addr} {v : Value} {b o : Nat} (h : b ≠ a.block) : (w.setCell a v).cell? ⟨b, o, none⟩ = w.cell? ⟨b, o, none⟩ := World.cell?_of_block (a := ⟨b, o, none⟩) (heap_setCell_other w a b v h)
theorem undrew {w w' : World} (h : Below w.drew.heap.size w.drew w') : Below w.heap.size w w' := (Below.refl _ _).drew.trans h
theorem step_odd' {s m q t : Nat} (h : bitsN (s * m) q = t) (ho : m % 2 = 1) : bitsN (2 * s * (m / 2)) (bitsN s q) = t := by
  rw [← bitsN_add, ← h]
  congr 1
  have e : m = 1 + 2 * (m / 2) := by omega
  conv => rhs; rw [e]
  rw [Nat.mul_add, Nat.mul_one, ← Nat.mul_assoc, Nat.mul_comm s 2]
theorem step_even' {s m q t : Nat} (h : bitsN (s * m) q = t) (ho : m % 2 = 0) : bitsN (2 * s * (m / 2)) q = t := by
  rw [← h]
  congr 1
  have e : m = 2 * (m / 2) := by omega
  conv => rhs; rw [e]
  rw [← Nat.mul_assoc, Nat.mul_comm s 2]
theorem heap_at {w w' : World} {B k : Nat} {o : Obj} (h : w.heap[k]? = some o) (hb : Below B w w') (hk : k < B) : w'.heap[k]? = some o := by
  rw [hb.block k hk]
  exact h

set_option maxRecDepth 100000 in
set_option maxHeartbeats 1000000 in
theorem refShift_any (r n : Nat) (w : World) (hr : r < 4294967296) (hn : n < 9223372036854775808) :
    Calls Tryd.prog 29 #[.int .u32 (r : Int), .int .i64 (n : Int)] w fun e w' => e = .returned (.tuple #[.int .u32 (bitsN (8 * n) r : Nat), .int .i64 0]) ∧ Below w.heap.size w w' := by
  have hz := zero52 (fun i => bitsN 8 (2 ^ i))
  go_enter Tryd.func29, Tryd.ntmps29
  go_wp2
  go_loopw [7] (fun i wr => ∃ k : Nat, k ≤ 32 ∧ i = .int .i64 k ∧ wr = w.alloc (.cells (Ta (fun i => bitsN 8 (2 ^ i)) k) 70)) (fun i _ => 32 - (intOf i).toNat)
  case atStart => exact ⟨0, by omega, rfl, rfl⟩
  case round =>
    obtain ⟨k, hk, rfl, rfl⟩ := hrel
    clear hz
    have hs := Ta_size (fun i => bitsN 8 (2 ^ i)) k
    by_cases hlt : k < 32
    · have HT : Hid (Ta (fun i => bitsN 8 (2 ^ i)) (k + 1) = (Ta (fun i => bitsN 8 (2 ^ i)) k).setIfInBounds k (.int .u32 (bitsN 8 (2 ^ k) : Nat))) := rfl
      have hp := pow32 hlt
      generalize Ta (fun i => bitsN 8 (2 ^ i)) k = T at *
      obtain ⟨q, hq, hqe⟩ : ∃ q : Nat, (2 : Int) ^ k = (q : Int) ∧ 2 ^ k = q := ⟨2 ^ k, by simp, rfl⟩
      rw [hqe] at hp HT
      have HM := hide (fun wx => move_zero q wx hp)
      clear hqe
      go_wp2_with (go_at_call 49; refine (HM.out _).mono ?_; rintro e w' ⟨rfl, rfl⟩)
      go_roundw
      case rel => exact ⟨k + 1, by omega, by go_num, by rw [HT.out]⟩
      case measure => simp [intOf]; omega
    · have hk32 : k = 32 := by omega
      subst hk32
      have hb0 := (Below.refl w.heap.size w).alloc (Nat.le_refl _) (.cells (Col 8) 70)
      have hg0 : (w.alloc (.cells (Col 8) 70)).heap[w.heap.size]? = some (.cells (Col 8) 70 (0, 0)) := heap_alloc_new w _
      go_wp2
      go_loopw [0, 1] (fun x y wr => ∃ m s q : Nat, m < 9223372036854775808 ∧ q < 4294967296 ∧ x = .int .u32 (q : Nat) ∧ y = .int .i64 (m : Nat) ∧ Below w.heap.size w wr ∧ w.heap.size < wr.heap.size ∧ wr.heap[w.heap.size]? = some (.cells (Col s) 70 (0, 0)) ∧ bitsN (s * m) q = bitsN (8 * n) r) (fun _ y _ => (intOf y).toNat)
      case atStart => exact ⟨n, 8, r, hn, hr, rfl, rfl, hb0, by simp, hg0, rfl⟩
      case round =>
        obtain ⟨m, s, q, hm, hq, rfl, rfl, hbw, hlw, hgw, heq⟩ := hrel
        have HQ := hide heq
        have HBW := hide hbw
        have HGW := hide hgw
        clear heq hb0 hg0 hbw hgw hs hk
        by_cases h0 : m = 0
        · subst h0
          go_wp2
          go_ret2
          exact ⟨by rw [← HQ.out]; rfl, HBW.out⟩
        · have hmp1 : decide (0 < m) = true := by simp; omega
          have hmp2 : decide ((0 : Int) < (m : Int)) = true := by simp; omega
          have hcs := Col_size s
          have HCA := hide (Col_at s)
          have hz2 := zero52 (fun i => bitsN (2 * s) (2 ^ i))
          have HT1 := hide (fun reg wx (h : reg < 4294967296) => refTimes_any s reg wx h)
          have HT2 : Hid (∀ k, Ta (fun i => bitsN (2 * s) (2 ^ i)) (k + 1) = (Ta (fun i => bitsN (2 * s) (2 ^ i)) k).setIfInBounds k (.int .u32 (bitsN (2 * s) (2 ^ k) : Nat))) := fun k => rfl
          have HT3 := hide (Ta_size (fun i => bitsN (2 * s) (2 ^ i)))
          have HT4 : Hid (Ta (fun i => bitsN (2 * s) (2 ^ i)) 32 = Col (2 * s)) := rfl
          have HT5 := hide (Ta_one (fun i => bitsN (2 * s) (2 ^ i)) 32)
          generalize Ta (fun i => bitsN (2 * s) (2 ^ i)) = TT at *
          generalize Col s = C at *
          obtain ⟨cl⟩ := C
          by_cases hodd : m % 2 = 1
          · have hro : ((m : Int) % 2 == 1) = true := by simp; omega
            go_wp2_with (first | (refine wpList_load_row rfl 70 (.tmp 6) rfl w.heap.size rfl 70 ⟨cl⟩ (0, 0) _ HGW.out Tryd.underlying70 rfl (by rw [hcs]; exact info52) ?_) | (go_at_call 52; refine (HT1.out q _ hq).mono ?_; rintro e w2 ⟨rfl, hbt⟩))
            have HB2 := hide (chain HBW.out hbt)
            have hl2 : w.heap.size < w2.heap.size := Nat.lt_of_lt_of_le hlw hbt.size
            have HG2 := hide (heap_at HGW.out hbt hlw)
            have HQ2 := hide (step_odd' HQ.out hodd)
            have hq2 : bitsN s q < 4294967296 := bitsN_lt hq
            clear hbt hlw HBW HGW HQ hro hq hodd
            generalize bitsN s q = q2 at *
            go_loopw [9] (fun i wx => ∃ k : Nat, k ≤ 32 ∧ i = .int .i64 k ∧ Below w2.heap.size w2 wx ∧ w2.heap.size < wx.heap.size ∧ wx.heap[w2.heap.size]? = some (.cells (TT k) 70 (0, 0))) (fun i _ => 32 - (intOf i).toNat)
            case atStart => exact ⟨0, by omega, rfl, (Below.refl _ _).alloc (Nat.le_refl _) _, by simp, heap_alloc_new _ _⟩
            case round =>
              obtain ⟨k, hk, rfl, hbx, hlx, hgx⟩ := hrel
              have HBX := hide hbx
              have HGX := hide hgx
              have HGB := hide (heap_at HG2.out hbx hl2)
              clear hbx hgx hz2
              by_cases hlt : k < 32
              · have hck := HCA.out k hlt
                have hy : bitsN s (2 ^ k) < 4294967296 := bitsN_lt (pow32 hlt)
                have HD : Hid (bitsN s (bitsN s (2 ^ k)) = bitsN (2 * s) (2 ^ k)) := by unfold Hid; rw [← bitsN_add]; congr 1; omega
                have hcell : wr.cell? ⟨w.heap.size, k, none⟩ = some (.int .u32 (bitsN s (2 ^ k) : Nat)) := by rw [cell_of_row wr w.heap.size k ⟨cl⟩ _ _ HGB.out]; exact hck
                have hrg : ∀ wz : World, wz.heap[w.heap.size]? = some (.cells ⟨cl⟩ 70 (0, 0)) → wz.rangeAt w.heap.size 0 cl := fun wz h j v hv => by
                  rw [cell_of_row wz w.heap.size (0 + j) ⟨cl⟩ _ _ h, Nat.zero_add]
                  simpa using hv
                have hrg0 := hrg wr HGB.out
                have hu52 := Tryd.underlying70
                have hi52 : (Tryd.prog.info? 70).map (·.size) = some cl.length := by rw [info52]; exact congrArg some hcs.symm
                clear hck
                generalize bitsN s (2 ^ k) = y at *
                have HTY := hide (HT1.out y)
                go_wp2
                obtain ⟨x0, hx0⟩ : ∃ x0, (TT k)[k]? = some x0 := ⟨_, Array.getElem?_eq_getElem (by rw [HT3.out]; exact hlt)⟩
                have HX0 := hide hx0
                clear hx0
                have HRG := hide hrg
                have hne2 : w.heap.size ≠ w2.heap.size := by omega
                clear hrg
                go_region_held3 (fun wz => wz.cell? ⟨w.heap.size, k, none⟩ = some (.int .u32 (y : Nat)) ∧ wz.rangeAt w.heap.size 0 cl) (first | exact ⟨hcell, hrg0⟩ | exact ⟨hc6, hr6⟩ | exact ⟨(cell_set_other hne2).trans hc6, fun j v hv => (cell_set_other hne2).trans (hr6 j v hv)⟩) (first | (go_at_call 52; refine (HTY.out _ hy).mono ?_; rintro e w5 ⟨rfl, hb5d⟩; have hb5 := undrew hb5d; have hg5 := heap_at HGX.out hb5 hlx; have hf5 := frozen_of_row w5 w2.heap.size k _ _ hg5; have hc5 := (cell_of_row w5 w2.heap.size k _ _ _ hg5).trans HX0.out; have hr6 := HRG.out w5 (heap_at HGB.out hb5 (by omega)); have hc6 := cell_below hcell hb5))
                all_goals go_wp2
                all_goals go_roundw
                case rel =>
                  have r1 := (HBX.out.trans (hb5.mono (Nat.le_of_lt hlx))).setCell (p := ⟨w2.heap.size, k, none⟩) (Nat.le_refl _) (.int .u32 (bitsN s y : Nat))
                  have r2 : w2.heap.size < (w5.setCell ⟨w2.heap.size, k, none⟩ (.int .u32 (bitsN s y : Nat))).heap.size := by simp; exact Nat.lt_of_lt_of_le hlx hb5.size
                  have r3 := heap_setCell_same w5 w2.heap.size k _ _ (.int .u32 (bitsN s y : Nat)) hg5
                  have r4 : (TT k).setIfInBounds k (.int .u32 (bitsN s y : Nat)) = TT (k + 1) := by rw [HT2.out, ← HD.out]
                  rw [r4] at r3
                  first | exact ⟨k + 1, by omega, by go_num, r1, r2, r3⟩ | ((repeat apply Exists.intro); exact ⟨⟨k + 1, by omega, by go_num, r1, r2, r3⟩, rfl⟩)
                case measure => simp [intOf]; omega
              · have hk32 : k = 32 := by omega
                subst hk32
                have h3 := HT3.out 32
                have hc3 : cl.toArray.size = 32 := hcs
                rw [HT4.out] at HGX h3 HT5
                generalize hC2 : Col (2 * s) = C2 at *
                have HC2 := hide hC2
                clear hC2
                go_wp2_with (first | (refine wpList_load_row rfl 70 (.tmp 8) rfl w2.heap.size rfl 70 C2 (0, 0) _ HGX.out Tryd.underlying70 rfl (by rw [h3]; exact info52) ?_) | (refine wpList_store_row rfl 70 (.tmp 6) (.tmp 40) rfl w.heap.size C2 rfl rfl 70 ⟨cl⟩ HGB.out (by rw [h3]; exact info52) (by rw [h3]; exact hcs) HT5.out ?_))
                go_roundw
                case rel =>
                  have hrow := setRow_heap wr w.heap.size ⟨cl⟩ C2 70 (0, 0) HGB.out
                  have hbel := below_setRow (Nat.le_refl _) C2 (chain HB2.out HBX.out)
                  have hsz2 : w.heap.size < (wr.setRow w.heap.size C2).heap.size := by simp; omega
                  rw [← HC2.out] at hrow hbel hsz2 ⊢
                  (repeat apply Exists.intro)
                  exact ⟨⟨m / 2, 2 * s, q2, by omega, hq2, rfl, by rw [half], hbel, hsz2, hrow, HQ2.out⟩, rfl⟩
                case measure => simp [intOf]; omega
          · have hro : ((m : Int) % 2 == 1) = false := by simp; omega
            have HQ2 := hide (step_even' HQ.out (by omega))
            obtain ⟨w2, hw2⟩ : ∃ w2, w2 = wr := ⟨_, rfl⟩
            subst hw2
            obtain ⟨q2, hqe⟩ : ∃ q2, q2 = q := ⟨_, rfl⟩
            subst hqe
            have HB2 := hide HBW.out
            have hl2 := hlw
            have HG2 := hide HGW.out
            have hq2 := hq
            clear hlw HBW HGW HQ hq hodd
            go_wp2
            go_loopw [9] (fun i wx => ∃ k : Nat, k ≤ 32 ∧ i = .int .i64 k ∧ Below w2.heap.size w2 wx ∧ w2.heap.size < wx.heap.size ∧ wx.heap[w2.heap.size]? = some (.cells (TT k) 70 (0, 0))) (fun i _ => 32 - (intOf i).toNat)
            case atStart => exact ⟨0, by omega, rfl, (Below.refl _ _).alloc (Nat.le_refl _) _, by simp, heap_alloc_new _ _⟩
            case round =>
              obtain ⟨k, hk, rfl, hbx, hlx, hgx⟩ := hrel
              have HBX := hide hbx
              have HGX := hide hgx
              have HGB := hide (heap_at HG2.out hbx hl2)
              clear hbx hgx hz2
              by_cases hlt : k < 32
              · have hck := HCA.out k hlt
                have hy : bitsN s (2 ^ k) < 4294967296 := bitsN_lt (pow32 hlt)
                have HD : Hid (bitsN s (bitsN s (2 ^ k)) = bitsN (2 * s) (2 ^ k)) := by unfold Hid; rw [← bitsN_add]; congr 1; omega
                have hcell : wr.cell? ⟨w.heap.size, k, none⟩ = some (.int .u32 (bitsN s (2 ^ k) : Nat)) := by rw [cell_of_row wr w.heap.size k ⟨cl⟩ _ _ HGB.out]; exact hck
                have hrg : ∀ wz : World, wz.heap[w.heap.size]? = some (.cells ⟨cl⟩ 70 (0, 0)) → wz.rangeAt w.heap.size 0 cl := fun wz h j v hv => by
                  rw [cell_of_row wz w.heap.size (0 + j) ⟨cl⟩ _ _ h, Nat.zero_add]
                  simpa using hv
                have hrg0 := hrg wr HGB.out
                have hu52 := Tryd.underlying70
                have hi52 : (Tryd.prog.info? 70).map (·.size) = some cl.length := by rw [info52]; exact congrArg some hcs.symm
                clear hck
                generalize bitsN s (2 ^ k) = y at *
                have HTY := hide (HT1.out y)
                go_wp2
                obtain ⟨x0, hx0⟩ : ∃ x0, (TT k)[k]? = some x0 := ⟨_, Array.getElem?_eq_getElem (by rw [HT3.out]; exact hlt)⟩
                have HX0 := hide hx0
                clear hx0
                have HRG := hide hrg
                have hne2 : w.heap.size ≠ w2.heap.size := by omega
                clear hrg
                go_region_held3 (fun wz => wz.cell? ⟨w.heap.size, k, none⟩ = some (.int .u32 (y : Nat)) ∧ wz.rangeAt w.heap.size 0 cl) (first | exact ⟨hcell, hrg0⟩ | exact ⟨hc6, hr6⟩ | exact ⟨(cell_set_other hne2).trans hc6, fun j v hv => (cell_set_other hne2).trans (hr6 j v hv)⟩) (first | (go_at_call 52; refine (HTY.out _ hy).mono ?_; rintro e w5 ⟨rfl, hb5d⟩; have hb5 := undrew hb5d; have hg5 := heap_at HGX.out hb5 hlx; have hf5 := frozen_of_row w5 w2.heap.size k _ _ hg5; have hc5 := (cell_of_row w5 w2.heap.size k _ _ _ hg5).trans HX0.out; have hr6 := HRG.out w5 (heap_at HGB.out hb5 (by omega)); have hc6 := cell_below hcell hb5))
                all_goals go_wp2
                all_goals go_roundw
                case rel =>
                  have r1 := (HBX.out.trans (hb5.mono (Nat.le_of_lt hlx))).setCell (p := ⟨w2.heap.size, k, none⟩) (Nat.le_refl _) (.int .u32 (bitsN s y : Nat))
                  have r2 : w2.heap.size < (w5.setCell ⟨w2.heap.size, k, none⟩ (.int .u32 (bitsN s y : Nat))).heap.size := by simp; exact Nat.lt_of_lt_of_le hlx hb5.size
                  have r3 := heap_setCell_same w5 w2.heap.size k _ _ (.int .u32 (bitsN s y : Nat)) hg5
                  have r4 : (TT k).setIfInBounds k (.int .u32 (bitsN s y : Nat)) = TT (k + 1) := by rw [HT2.out, ← HD.out]
                  rw [r4] at r3
                  first | exact ⟨k + 1, by omega, by go_num, r1, r2, r3⟩ | ((repeat apply Exists.intro); exact ⟨⟨k + 1, by omega, by go_num, r1, r2, r3⟩, rfl⟩)
                case measure => simp [intOf]; omega
              · have hk32 : k = 32 := by omega
                subst hk32
                have h3 := HT3.out 32
                have hc3 : cl.toArray.size = 32 := hcs
                rw [HT4.out] at HGX h3 HT5
                generalize hC2 : Col (2 * s) = C2 at *
                have HC2 := hide hC2
                clear hC2
                go_wp2_with (first | (refine wpList_load_row rfl 70 (.tmp 8) rfl w2.heap.size rfl 70 C2 (0, 0) _ HGX.out Tryd.underlying70 rfl (by rw [h3]; exact info52) ?_) | (refine wpList_store_row rfl 70 (.tmp 6) (.tmp 40) rfl w.heap.size C2 rfl rfl 70 ⟨cl⟩ HGB.out (by rw [h3]; exact info52) (by rw [h3]; exact hcs) HT5.out ?_))
                go_roundw
                case rel =>
                  have hrow := setRow_heap wr w.heap.size ⟨cl⟩ C2 70 (0, 0) HGB.out
                  have hbel := below_setRow (Nat.le_refl _) C2 (chain HB2.out HBX.out)
                  have hsz2 : w.heap.size < (wr.setRow w.heap.size C2).heap.size := by simp; omega
                  rw [← HC2.out] at hrow hbel hsz2 ⊢
                  (repeat apply Exists.intro)
                  exact ⟨⟨m / 2, 2 * s, q2, by omega, hq2, rfl, by rw [half], hbel, hsz2, hrow, HQ2.out⟩, rfl⟩
                case measure => simp [intOf]; omega

theorem refJoin_bad (r q : Nat) (n : Int) (w : World) (h : n < 0) :
    Calls Tryd.prog 31 #[.int .u32 (r : Int), .int .u32 (q : Int), .int .i64 n] w fun e w' => e = .returned (.tuple #[.int .u32 0, .int .i64 12]) ∧ w = w' := by
  go_enter Tryd.func31, Tryd.ntmps31
  go_wp2_with (go_at_call 29; refine (refShift_bad r n w h).mono ?_; rintro e w' ⟨rfl, rfl⟩)
  go_ret2
  exact ⟨rfl, rfl⟩
theorem refJoin_any (r q n : Nat) (w : World) (hr : r < 4294967296) (hq : q < 4294967296) (hn : n < 9223372036854775808) :
    Calls Tryd.prog 31 #[.int .u32 (r : Int), .int .u32 (q : Int), .int .i64 (n : Int)] w fun e w' => e = .returned (.tuple #[.int .u32 (bitsN (8 * n) r ^^^ q : Nat), .int .i64 0]) ∧ Below w.heap.size w w' := by
  have HC := hide (refShift_any r n w hr hn)
  have HX := hide (u32_xor_nat (bitsN (8 * n) r) q (bitsN_lt hr) hq)
  generalize bitsN (8 * n) r ^^^ q = z at *
  generalize bitsN (8 * n) r = x at *
  go_enter Tryd.func31, Tryd.ntmps31
  go_wp2_with (go_at_call 29; refine HC.out.mono ?_; rintro e w' ⟨rfl, hb⟩)
  go_ret2
  exact ⟨by rw [HX.out]; rfl, hb⟩
end Go.Proofs.YtchmfjendnaflaaDoor
