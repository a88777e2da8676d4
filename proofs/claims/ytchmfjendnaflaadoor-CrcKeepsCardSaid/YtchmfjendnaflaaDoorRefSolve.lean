/-
  Walk of the document's solve.
-/
import Derived.Test.YtchmfjendnaflaaDoorSolve
import Derived.Test.YtchmfjendnaflaaDoorRefShift2
namespace Go.Proofs.YtchmfjendnaflaaDoor
open Go.RowKit FerryCrc
set_option linter.unusedVariables false

/-- A row of 32 numbers that memory holds. -/
def Rn (w : World) (g : Nat) (f : Nat → Nat) : Prop := w.heap[g]? = some (.cells (Ta f 32) 70 (0, 0))
theorem Rn.cell {w : World} {g : Nat} {f : Nat → Nat} (h : Rn w g f) (i : Nat) (hi : i < 32) : w.cell? ⟨g, i, none⟩ = some (.int .u32 (f i : Int)) := by
  unfold Rn at h
  simp [World.cell?, h, Ta_at f 32 (Nat.le_refl _) i hi]
theorem Rn.frozen {w : World} {g : Nat} {f : Nat → Nat} (h : Rn w g f) (i : Nat) : w.frozen? ⟨g, i, none⟩ = false := frozen_of_row w g i _ _ h
theorem Ta_congr {f g : Nat → Nat} (k : Nat) (h : ∀ i, i < k → f i = g i) : Ta f k = Ta g k := by
  induction k with
  | zero => rfl
  | succ k ih => rw [Ta, Ta, ih (fun i hi => h i (by omega)), h k (by omega)]
theorem Rn.congr {w : World} {g : Nat} {f f' : Nat → Nat} (h : Rn w g f) (e : ∀ i, i < 32 → f i = f' i) : Rn w g f' := by
  unfold Rn at *
  rw [← Ta_congr 32 e]
  exact h
theorem Ta_set (f : Nat → Nat) (k v : Nat) (hk : k < 32) : (Ta f 32).setIfInBounds k (.int .u32 (v : Int)) = Ta (fun i => if i = k then v else f i) 32 := by
  apply Array.ext
  · simp [Ta_size]
  · intro i h1 h2
    simp [Ta_size] at h1
    have e := Ta_at (fun i => if i = k then v else f i) 32 (Nat.le_refl _) i h1
    rw [Array.getElem?_eq_getElem h2] at e
    rw [Option.some.inj e, Array.getElem_setIfInBounds (by rw [Ta_size]; exact h1)]
    by_cases q : k = i
    · simp [q]
    · rw [if_neg q, if_neg (Ne.symm q)]
      have e2 := Ta_at f 32 (Nat.le_refl _) i h1
      rw [Array.getElem?_eq_getElem (by rw [Ta_size]; exact h1)] at e2
      exact Option.some.inj e2
theorem Rn.set {w : World} {g : Nat} {f : Nat → Nat} (h : Rn w g f) (k v : Nat) (hk : k < 32) : Rn (w.setCell ⟨g, k, none⟩ (.int .u32 (v : Int))) g (fun i => if i = k then v else f i) := by
  unfold Rn at *
  rw [heap_setCell_same w g k _ _ _ h, Ta_set f k v hk]
theorem Rn.other {w : World} {g : Nat} {f : Nat → Nat} (h : Rn w g f) (a : Addr) (v : Value) (hg : g ≠ a.block) : Rn (w.setCell a v) g f := by
  unfold Rn at *
  rw [heap_setCell_other w a g v hg]
  exact h

theorem swapped {w : World} {B p k : Nat} {C V : Nat → Nat} (hC : Rn w B C) (hV : Rn w (B + 1) V) (hp : p < 32) (hk : k < 32) :
    (((w.setCell ⟨B, p, none⟩ (.int .u32 (C k : Int))).setCell ⟨B + 1, p, none⟩ (.int .u32 (V k : Int)))).cell? ⟨B, k, none⟩ = some (.int .u32 (C k : Int)) ∧
    ((((w.setCell ⟨B, p, none⟩ (.int .u32 (C k : Int))).setCell ⟨B + 1, p, none⟩ (.int .u32 (V k : Int)))).setCell ⟨B, k, none⟩ (.int .u32 (C p : Int))).cell? ⟨B + 1, k, none⟩ = some (.int .u32 (V k : Int)) ∧
    Rn (((((w.setCell ⟨B, p, none⟩ (.int .u32 (C k : Int))).setCell ⟨B + 1, p, none⟩ (.int .u32 (V k : Int)))).setCell ⟨B, k, none⟩ (.int .u32 (C p : Int))).setCell ⟨B + 1, k, none⟩ (.int .u32 (V p : Int))) B (swp C p k) ∧
    Rn (((((w.setCell ⟨B, p, none⟩ (.int .u32 (C k : Int))).setCell ⟨B + 1, p, none⟩ (.int .u32 (V k : Int)))).setCell ⟨B, k, none⟩ (.int .u32 (C p : Int))).setCell ⟨B + 1, k, none⟩ (.int .u32 (V p : Int))) (B + 1) (swp V p k) := by
  have a1 := hC.set p (C k) hp
  have b1 := hV.other ⟨B, p, none⟩ (.int .u32 (C k : Int)) (show B + 1 ≠ B by omega)
  have a2 := a1.other ⟨B + 1, p, none⟩ (.int .u32 (V k : Int)) (show B ≠ B + 1 by omega)
  have b2 := b1.set p (V k) hp
  have a3 := a2.set k (C p) hk
  have b3 := b2.other ⟨B, k, none⟩ (.int .u32 (C p : Int)) (show B + 1 ≠ B by omega)
  have a4 := a3.other ⟨B + 1, k, none⟩ (.int .u32 (V p : Int)) (show B ≠ B + 1 by omega)
  have b4 := b3.set k (V p) hk
  refine ⟨?_, ?_, a4, b4⟩
  · rw [a2.cell k hk]
    simp
  · rw [b3.cell k hk]
    simp
theorem struck {w : World} {B m a d : Nat} {f g : Nat → Nat} (hA : Rn w B f) (hD : Rn w (B + 1) g) (hm : m < 32) :
    Rn ((w.setCell ⟨B, m, none⟩ (.int .u32 (a : Int))).setCell ⟨B + 1, m, none⟩ (.int .u32 (d : Int))) B (fun i => if i = m then a else f i) ∧
    Rn ((w.setCell ⟨B, m, none⟩ (.int .u32 (a : Int))).setCell ⟨B + 1, m, none⟩ (.int .u32 (d : Int))) (B + 1) (fun i => if i = m then d else g i) :=
  ⟨(hA.set m a hm).other ⟨B + 1, m, none⟩ _ (show B ≠ B + 1 by omega), (hD.other ⟨B, m, none⟩ _ (show B + 1 ≠ B by omega)).set m d hm⟩
theorem stpC_first (C : Nat → Nat) (p k i : Nat) : swp C p k i = stpC C p k (k + 1) i := by
  unfold stpC
  rw [if_neg (by omega)]
theorem stpV_first (C V : Nat → Nat) (p k i : Nat) : swp V p k i = stpV C V p k (k + 1) i := by
  unfold stpV
  rw [if_neg (by omega)]
theorem stpC_here (C : Nat → Nat) (p k m : Nat) : stpC C p k m m = swp C p k m := by
  unfold stpC
  rw [if_neg (by omega)]
theorem stpV_here (C V : Nat → Nat) (p k m : Nat) : stpV C V p k m m = swp V p k m := by
  unfold stpV
  rw [if_neg (by omega)]
theorem stp_cond {P : Prop} {k m i : Nat} (h : i ≠ m) : (k < i ∧ i < m + 1 ∧ P) ↔ (k < i ∧ i < m ∧ P) := by
  constructor
  · rintro ⟨a, b, c⟩
    exact ⟨a, by omega, c⟩
  · rintro ⟨a, b, c⟩
    exact ⟨a, by omega, c⟩
theorem stpC_no {C : Nat → Nat} {p k m : Nat} (h : (swp C p k m).testBit k = false) (i : Nat) : stpC C p k m i = stpC C p k (m + 1) i := by
  by_cases e : i = m
  · subst e
    unfold stpC
    rw [if_neg (by omega), if_neg (by rw [h]; simp)]
  · unfold stpC
    simp only [stp_cond e]
theorem stpV_no {C V : Nat → Nat} {p k m : Nat} (h : (swp C p k m).testBit k = false) (i : Nat) : stpV C V p k m i = stpV C V p k (m + 1) i := by
  by_cases e : i = m
  · subst e
    unfold stpV
    rw [if_neg (by omega), if_neg (by rw [h]; simp)]
  · unfold stpV
    simp only [stp_cond e]
theorem stpC_yes {C : Nat → Nat} {p k m : Nat} (hk : k < m) (h : (swp C p k m).testBit k = true) (i : Nat) : (if i = m then swp C p k m ^^^ C p else stpC C p k m i) = stpC C p k (m + 1) i := by
  by_cases e : i = m
  · subst e
    rw [if_pos rfl]
    unfold stpC
    rw [if_pos ⟨hk, by omega, h⟩]
  · rw [if_neg e]
    unfold stpC
    simp only [stp_cond e]
theorem stpV_yes {C V : Nat → Nat} {p k m : Nat} (hk : k < m) (h : (swp C p k m).testBit k = true) (i : Nat) : (if i = m then swp V p k m ^^^ V p else stpV C V p k m i) = stpV C V p k (m + 1) i := by
  by_cases e : i = m
  · subst e
    rw [if_pos rfl]
    unfold stpV
    rw [if_pos ⟨hk, by omega, h⟩]
  · rw [if_neg e]
    unfold stpV
    simp only [stp_cond e]
theorem swp_lt {C : Nat → Nat} {p k : Nat} (h : ∀ i, i < 32 → C i < 4294967296) (hp : p < 32) (hk : k < 32) (i : Nat) (hi : i < 32) : swp C p k i < 4294967296 := by
  unfold swp
  split
  · exact h p hp
  · split
    · exact h k hk
    · exact h i hi

set_option maxRecDepth 100000 in
set_option maxHeartbeats 1000000 in
theorem solve_any {L : Nat → Nat} (hL : ∀ a b, L (a ^^^ b) = L a ^^^ L b) (hs : ∀ x, x < 4294967296 → L x < 4294967296) (hon : ∀ v, v < 4294967296 → ∃ x, x < 4294967296 ∧ L x = v) (goal : Nat) (hg : goal < 4294967296) (w : World) :
    Calls Tryd.prog 50 #[.agg (Ta (fun i => L (2 ^ i)) 32), .int .u32 (goal : Int)] w fun e w' => ∃ x : Nat, x < 4294967296 ∧ L x = goal ∧ e = .returned (.int .u32 (x : Int)) ∧ Below w.heap.size w w' := by
  have hz := zero52 (fun i => 2 ^ i)
  have H0 := hide (begin_inv hL hs hon hg)
  have HL := hide hL
  have HC := hide (Ta_at (fun i => L (2 ^ i)) 32 (Nat.le_refl _))
  have HS1 := hide (Ta_size (fun i => L (2 ^ i)) 32)
  clear hL hs hon HC HS1
  have HR0 : Hid (∀ V, Rn ((w.alloc (.cells (Ta (fun i => L (2 ^ i)) 32) 70)).alloc (.cells (Ta V 32) 70)) w.heap.size (fun i => L (2 ^ i)) ∧ Rn ((w.alloc (.cells (Ta (fun i => L (2 ^ i)) 32) 70)).alloc (.cells (Ta V 32) 70)) (w.heap.size + 1) V) :=
    fun V => ⟨heap_alloc2_old w _ _, heap_alloc2_new w _ _⟩
  have hs1 := Ta_size (fun i => L (2 ^ i)) 32
  generalize Ta (fun i => L (2 ^ i)) 32 = TC at *
  generalize (fun i => L (2 ^ i)) = C0 at *
  go_enter Tryd.func50, Tryd.ntmps50
  go_wp2
  go_loopw [6] (fun i wr => ∃ k : Nat, k ≤ 32 ∧ i = .int .i64 k ∧ wr = (w.alloc (.cells TC 70)).alloc (.cells (Ta (fun i => 2 ^ i) k) 70)) (fun i _ => 32 - (intOf i).toNat)
  case atStart => exact ⟨0, by omega, rfl, rfl⟩
  case round =>
    obtain ⟨k, hk, rfl, rfl⟩ := hrel
    clear hz
    have hs := Ta_size (fun i => 2 ^ i) k
    by_cases hlt : k < 32
    · have HT : Hid (Ta (fun i => 2 ^ i) (k + 1) = (Ta (fun i => 2 ^ i) k).setIfInBounds k (.int .u32 (2 ^ k : Nat))) := rfl
      have hp := pow32 hlt
      generalize Ta (fun i => 2 ^ i) k = T at *
      obtain ⟨q, hq, hqe⟩ : ∃ q : Nat, (2 : Int) ^ k = (q : Int) ∧ 2 ^ k = q := ⟨2 ^ k, by simp, rfl⟩
      rw [hqe] at hp HT
      clear hqe
      go_wp2
      go_roundw
      case rel => exact ⟨k + 1, by omega, by go_num, by rw [HT.out]⟩
      case measure => simp [intOf]; omega
    · obtain rfl : k = 32 := by omega
      have HR1 := hide (HR0.out (fun i => 2 ^ i))
      have HB : Hid (Below w.heap.size w ((w.alloc (.cells TC 70)).alloc (.cells (Ta (fun i => 2 ^ i) 32) 70))) := ((Below.refl _ _).alloc (Nat.le_refl _) _).alloc (by simp) _
      clear HR0 hs hs1 hlt hk
      generalize (w.alloc (.cells TC 70)).alloc (.cells (Ta (fun i => 2 ^ i) 32) 70) = W at *
      generalize (fun i => 2 ^ i) = V0 at *
      go_wp2
      go_loopw [1, 7, 8] (fun x y z wr => ∃ (k wn an : Nat) (C V : Nat → Nat), k ≤ 32 ∧ x = .int .u32 (wn : Int) ∧ y = .int .u32 (an : Int) ∧ z = .int .i64 (k : Int) ∧ Hid (FerryCrc.Inv L goal k C V wn an) ∧ Hid (Rn wr w.heap.size C) ∧ Hid (Rn wr (w.heap.size + 1) V) ∧ Hid (Below w.heap.size w wr)) (fun _ _ z _ => 32 - (intOf z).toNat)
      case atStart => exact ⟨0, goal, 0, C0, V0, by omega, rfl, rfl, rfl, H0, HR1.out.1, HR1.out.2, HB⟩
      case round =>
        obtain ⟨k, wn, an, C, V, hk, rfl, rfl, rfl, HI, HC, HV, HW⟩ := hrel
        clear H0 HR1 HB
        by_cases hlt : k < 32
        · obtain ⟨q0, hq0, hq1, hq2⟩ := pivot HI.out hlt
          go_wp2
          go_loop [9] (fun x => ∃ p : Nat, x = .int .i64 (p : Int) ∧ k ≤ p ∧ ∃ q, p ≤ q ∧ q < 32 ∧ (C q).testBit k = true) (fun x => 32 - (intOf x).toNat)
          case atStart => exact ⟨k, rfl, Nat.le_refl _, q0, hq0, hq1, hq2⟩
          case round =>
            obtain ⟨p, rfl, hkp, q, hpq, hq32, hqb⟩ := hrel
            clear hq0 hq1 hq2
            have hp32 : p < 32 := by omega
            have hcp := HC.out.cell p hp32
            have hcl := HI.out.cl p hp32
            cases hbit : (C p).testBit k
            · have hbt := and_bit hcl hbit
              have hne : p ≠ q := fun e => by subst e; rw [hbit] at hqb; cases hqb
              go_wp2
              go_round
              case rel => exact ⟨p + 1, by go_num, by omega, q, by omega, hq32, hqb⟩
              case measure => simp [intOf]; omega
            · have hbt := and_bit hcl hbit
              clear hpq hq32 hqb
              have hcv := HV.out.cell p hp32
              have hck := HC.out.cell k hlt
              have hvk := HV.out.cell k hlt
              have fC := HC.out.frozen
              have fV := HV.out.frozen
              have hpe : ((p : Int) == 32) = false := by simp; omega
              obtain ⟨c3, c4, R1, R2⟩ := swapped HC.out HV.out hp32 hlt
              have HR1 := hide R1
              have HR2 := hide R2
              have HB1 := hide ((((HW.out.setCell (p := ⟨w.heap.size, p, none⟩) (Nat.le_refl _) (.int .u32 (C k : Int))).setCell (p := ⟨w.heap.size + 1, p, none⟩) (by simp) (.int .u32 (V k : Int))).setCell (p := ⟨w.heap.size, k, none⟩) (Nat.le_refl _) (.int .u32 (C p : Int))).setCell (p := ⟨w.heap.size + 1, k, none⟩) (by simp) (.int .u32 (V p : Int)))
              clear R1 R2
              go_wp2
              clear c3 c4 hcv hck hvk fC fV hcp hbt
              have hst := elim_step HL.out HI.out hkp hp32 hbit
              have HST := hide hst
              have HCL := hide (swp_lt HI.out.cl hp32 hlt)
              have HVL := hide (swp_lt HI.out.vl hp32 hlt)
              have hvl := HI.out.vl p hp32
              have hwl := HI.out.wl
              have hal := HI.out.al
              clear hst hbit
              have HR1' := hide (HR1.out.congr (fun i _ => stpC_first C p k i))
              have HR2' := hide (HR2.out.congr (fun i _ => stpV_first C V p k i))
              clear HR1 HR2
              generalize (((wr.setCell ⟨w.heap.size, p, none⟩ (.int .u32 (C k : Int))).setCell ⟨w.heap.size + 1, p, none⟩ (.int .u32 (V k : Int))).setCell ⟨w.heap.size, k, none⟩ (.int .u32 (C p : Int))).setCell ⟨w.heap.size + 1, k, none⟩ (.int .u32 (V p : Int)) = X at *
              go_loopw [12] (fun x wx => ∃ m : Nat, k < m ∧ m ≤ 32 ∧ x = .int .i64 (m : Int) ∧ Hid (Rn wx w.heap.size (stpC C p k m)) ∧ Hid (Rn wx (w.heap.size + 1) (stpV C V p k m)) ∧ Hid (Below w.heap.size w wx)) (fun x _ => 32 - (intOf x).toNat)
              case atStart => exact ⟨k + 1, by omega, by omega, by go_num, HR1', HR2', HB1⟩
              case round =>
                obtain ⟨m, hkm, hm32, rfl, HA, HD, HE⟩ := hrel
                clear HR1' HR2' HB1
                by_cases hm : m < 32
                · have hca := HA.out.cell m hm
                  have hcd := HD.out.cell m hm
                  rw [stpC_here] at hca
                  rw [stpV_here] at hcd
                  have fa := HA.out.frozen
                  have fd := HD.out.frozen
                  have hla := HCL.out m hm
                  have hld := HVL.out m hm
                  cases hb2 : (swp C p k m).testBit k
                  · have hbt := and_bit hla hb2
                    have HA' := hide (HA.out.congr (fun i _ => stpC_no hb2 i))
                    have HD' := hide (HD.out.congr (fun i _ => stpV_no (V := V) hb2 i))
                    go_wp2
                    go_roundw
                    case rel => exact ⟨m + 1, by omega, by omega, by go_num, HA', HD', HE⟩
                    case measure => simp [intOf]; omega
                  · have hbt := and_bit hla hb2
                    have HY1 := hide (stpC_yes (C := C) (p := p) hkm hb2)
                    have HY2 := hide (stpV_yes (C := C) (V := V) (p := p) hkm hb2)
                    have HSK := hide (struck (a := swp C p k m ^^^ C p) (d := swp V p k m ^^^ V p) HA.out HD.out hm)
                    go_wp2
                    go_roundw
                    case rel =>
                      rw [u32_xor_nat _ _ hla hcl, u32_xor_nat _ _ hld hvl]
                      exact ⟨m + 1, by omega, by omega, by go_num, HSK.out.1.congr (fun i _ => HY1.out i), HSK.out.2.congr (fun i _ => HY2.out i), (HE.out.setCell (p := ⟨w.heap.size, m, none⟩) (Nat.le_refl _) _).setCell (p := ⟨w.heap.size + 1, m, none⟩) (by simp) _⟩
                    case measure => simp [intOf]; omega
                · obtain rfl : m = 32 := by omega
                  cases hb3 : wn.testBit k
                  · have hbt := and_bit hwl hb3
                    rw [hb3] at HST
                    go_wp2
                    refine ⟨?_, ?measure⟩
                    · (repeat apply Exists.intro)
                      refine ⟨?rel, rfl⟩
                      case rel => exact ⟨k + 1, wn, an, stpC C p k 32, stpV C V p k 32, by omega, rfl, rfl, by go_num, HST, HA, HD, HE⟩
                    case measure => simp [intOf]; omega
                  · have hbt := and_bit hwl hb3
                    rw [hb3] at HST
                    go_wp2
                    refine ⟨?_, ?measure⟩
                    · (repeat apply Exists.intro)
                      refine ⟨?rel, rfl⟩
                      case rel => exact ⟨k + 1, wn ^^^ C p, an ^^^ V p, stpC C p k 32, stpV C V p k 32, by omega, by rw [u32_xor_nat _ _ hwl hcl], by rw [u32_xor_nat _ _ hal hvl], by go_num, HST, HA, HD, HE⟩
                    case measure => simp [intOf]; omega
        · obtain rfl : k = 32 := by omega
          have hd : L an = goal := elim_done HI.out
          go_wp2
          go_ret
          exact ⟨an, HI.out.al, hd, rfl, HW.out⟩
end Go.Proofs.YtchmfjendnaflaaDoor
