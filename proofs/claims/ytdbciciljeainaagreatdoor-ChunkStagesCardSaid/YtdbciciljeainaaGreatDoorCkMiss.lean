/-
  The program's Missing of a stage.
-/
import Derived.Test.YtdbciciljeainaaGreatDoorXfGood
import Derived.Test.YtdbciciljeainaaGreatDoorXfWhole
namespace Go.Proofs.YtdbciciljeainaaGreatDoor
open Go.RowKit FerryCrc
set_option linter.unusedVariables false
set_option linter.unusedSimpArgs false

def iv (x : Int) : List Value := [.int .i64 x]
theorem iv1 (x : Int) : (iv x).length = 1 := rfl
abbrev Ins (w : World) (a : Option Addr) (len cap : Nat) (l : List Int) : Prop := Rcs iv 1 w a len cap l
abbrev InOwn (w : World) (base : Nat) (v : Value) (l : List Int) : Prop := LOwn iv 1 3 w base v l
theorem infoIv : (Tryz.prog.info? 3).map (fun i => (i.size, i.bytes, i.zero.map (·.cells))) = some (1, 8, some (iv 0).toArray) := by kernel_rfl
theorem iv_one (x : Int) : ∀ u ∈ iv x, u.oneCell' = true := by
  intro u hu
  simp only [iv, List.mem_cons, List.not_mem_nil, or_false] at hu
  subst hu
  rfl
/-- The numbers of the pieces that haven't come, from the i-th on. -/
def misN : Nat → List ByteArray → List Int
  | _, [] => []
  | i, x :: l => if x.size = 0 then (i : Int) :: misN (i + 1) l else misN (i + 1) l
theorem misN_app : ∀ (A B : List ByteArray) (i : Nat), misN i (A ++ B) = misN i A ++ misN (i + A.length) B
  | [], B, i => rfl
  | x :: A, B, i => by
    have ih := misN_app A B (i + 1)
    rw [show i + 1 + A.length = i + (A.length + 1) by omega] at ih
    show (if x.size = 0 then (i : Int) :: misN (i + 1) (A ++ B) else misN (i + 1) (A ++ B)) = (if x.size = 0 then (i : Int) :: misN (i + 1) A else misN (i + 1) A) ++ misN (i + (A.length + 1)) B
    rw [ih]
    split <;> rfl
theorem misN_step {P : List ByteArray} {k : Nat} {x : ByteArray} (hx : P[k]? = some x) : misN 0 (P.take (k + 1)) = misN 0 (P.take k) ++ (if x.size = 0 then [(k : Int)] else []) := by
  have hk : k < P.length := (List.getElem?_eq_some_iff.1 hx).1
  rw [List.take_add_one, hx, misN_app, Nat.zero_add, List.length_take, Nat.min_eq_left (Nat.le_of_lt hk)]
  rfl
theorem misN_le : ∀ (P : List ByteArray) (i : Nat), (misN i P).length ≤ P.length
  | [], _ => Nat.le_refl _
  | x :: P, i => by
    have ih := misN_le P (i + 1)
    unfold misN
    split
    · simp only [List.length_cons]; omega
    · simp only [List.length_cons]; omega
def misL (s : Sg) (P : List ByteArray) : List Int := if goodB s P = true then misN 0 P else []
set_option maxRecDepth 100000 in
set_option maxHeartbeats 4000000 in
theorem miss_any (pt st tt b r m : Int) (a : Option Addr) (n c : Nat) (P : List ByteArray) {w : World} {E : Nat → Addr} (he : Er7x w E) (hP : Txs w a n c P) (hz : ∀ x ∈ P, x.size ≤ 9223372036854775807) :
    Calls Tryz.prog 15 #[.agg #[.int .i64 pt, .int .i64 st, .int .i64 tt, .int .i64 b, .int .i64 r, .int .i64 m, .slice a n c]] w fun e w' => ∃ v, e = .returned (.tuple #[v, erv E (whE ⟨pt, st, tt, b, r, m⟩ P)]) ∧ InOwn w' w.heap.size v (misL ⟨pt, st, tt, b, r, m⟩ P) ∧ Below w.heap.size w w' := by
  obtain ⟨s, hs⟩ : ∃ s : Sg, s = ⟨pt, st, tt, b, r, m⟩ := ⟨_, rfl⟩
  have HC1 := hide (fun (w' : World) (h : Txs w' a n c P) => good_any ⟨pt, st, tt, b, r, m⟩ a n c P h hz)
  rw [← hs] at HC1 ⊢
  have hn := hP.size
  have HG : Hid (goodB s P = true → n ≤ 32) := fun h => by
    obtain ⟨-, -, h1, h2, h3, -⟩ := goodB_open h
    rw [hn] at h3
    omega
  have HWE : Hid (whE s P = if goodB s P = true then 0 else 9) := rfl
  have HML : Hid (misL s P = if goodB s P = true then misN 0 P else []) := rfl
  obtain ⟨G, hG⟩ : ∃ G, goodB s P = G := ⟨_, rfl⟩
  obtain ⟨WE, hWE⟩ : ∃ G, whE s P = G := ⟨_, rfl⟩
  obtain ⟨ML, hML⟩ : ∃ G, misL s P = G := ⟨_, rfl⟩
  rw [hG] at HC1 HG HWE HML
  rw [hWE] at HWE ⊢
  rw [hML] at HML ⊢
  subst hs
  clear hG hWE hML hz
  replace HC1 : Hid (∀ w' : World, Txs w' a n c P → Calls Tryz.prog 16 #[.agg #[.int .i64 pt, .int .i64 st, .int .i64 tt, .int .i64 b, .int .i64 r, .int .i64 m, .slice a n c]] w' fun e w'' => e = .returned (.bool G) ∧ Below w'.heap.size w' w'') := HC1
  obtain ⟨W, hW, B0, D0⟩ := box1 w [.int .i64 pt, .int .i64 st, .int .i64 tt, .int .i64 b, .int .i64 r, .int .i64 m, .slice a n c] 34
  have HB0 := hide B0
  have HD := hide D0
  have HP := hide (hP.below D0)
  have HE := hide (he.below D0)
  have HWD := hide hW
  clear hP B0 D0 hW he
  go_enter Tryz.func15, Tryz.ntmps15
  go_upto_region 1 with fail
  have hW := HWD.out
  clear HWD
  simp only [hW]
  clear hW
  have g0 := HB0.out.cell 0 rfl
  have g1 := HB0.out.cell 1 rfl
  have g2 := HB0.out.cell 2 rfl
  have g3 := HB0.out.cell 3 rfl
  have g4 := HB0.out.cell 4 rfl
  have g5 := HB0.out.cell 5 rfl
  have g6 := HB0.out.cell 6 rfl
  go_wp2_with fail
  refine Calls.mono (HC1.out W HP.out) ?_
  rintro e w1 ⟨rfl, b1⟩
  replace HB0 := hide (HB0.out.below b1)
  replace HD := hide (chain HD.out b1)
  replace HP := hide (HP.out.below b1)
  replace HE := hide (HE.out.below b1)
  clear b1 HC1 g0 g1 g2 g3 g4 g5 g6
  cases G with
  | false =>
    have HF : Hid (WE = 9) := HWE.out
    have HF2 : Hid (ML = []) := HML.out
    have tv := HE.out.v9
    unfold sent at tv
    go_upto_region 2 with fail
    go_region
    go_wp2
    go_ret2
    exact ⟨.slice none 0 0, by rw [HF.out]; rfl, by rw [HF2.out]; exact World.ownsRow_nil _ _ _ _, HD.out.drew⟩
  | true =>
    have h32 := HG.out rfl
    have HF : Hid (WE = 0) := HWE.out
    have HF2 : Hid (ML = misN 0 P) := HML.out
    clear HG HWE HML HE
    have g6 := HB0.out.cell 6 rfl
    go_wp2_with fail
    clear g6
    go_loopw [4, 14] (fun o i wr => ∃ k : Nat, k ≤ n ∧ i = .int .i64 (k : Int) ∧ Hid (InOwn wr w1.heap.size o (misN 0 (P.take k))) ∧ Hid (Below w1.heap.size w1 wr)) (fun _ i _ => n - (intOf i).toNat)
    case atStart => exact ⟨0, Nat.zero_le _, rfl, World.ownsRow_nil _ _ _ _, Below.refl _ _⟩
    case round =>
      obtain ⟨k, hk, rfl, HL, HB⟩ := hrel
      by_cases hlt : k < n
      · obtain ⟨x, hx⟩ : ∃ x, P[k]? = some x := ⟨_, List.getElem?_eq_getElem (by omega)⟩
        have HST := hide (misN_step hx)
        obtain ⟨b1, o1, rfl, hc1⟩ := (HP.out.below HB.out).at tv1 (by decide) hx
        have n0 := hc1 0 _ rfl
        rw [Nat.mul_one, Nat.add_zero] at n0
        have hk1 : (k : Int) < (n : Int) := by omega
        clear hc1 hx
        by_cases h0 : x.size = 0
        · have hxe : x = ⟨#[]⟩ := empty_of h0
          have hdn : x.toList = [] := by rw [ByteArray.toList_eq, hxe]
          have hdt : x.toList.isEmpty = true := by rw [hdn]; rfl
          obtain ⟨L, hL⟩ : ∃ L, misN 0 (P.take k) = L := ⟨_, rfl⟩
          have hl1 : L.length ≤ 32 := by
            have h1 := misN_le (P.take k) 0
            rw [List.length_take, hL] at h1
            omega
          rw [hL] at HL HST
          rw [if_pos h0] at HST
          have DA : Hid (Below wr.heap.size wr (wr.alloc (.cells #[.int .i64 (k : Int)] 3))) := (Below.refl _ _).alloc (Nat.le_refl _) _
          have HOa := hide (HL.out.below DA.out)
          have HBa := hide (chain HB.out DA.out)
          have HH : Hid (L.length < 4294967296 ∧ (L.length + 1) * 8 ≤ 140737488355328) := ⟨by omega, by omega⟩
          have HOB : Hid (∀ j, u4.ownBlock = some j → w1.heap.size ≤ j) := fun j e => (World.ownsRow.lt HL.out j e).1
          clear hl1 hL h0 hxe HL
          go_wp2_with (at_builtin; refine append_l (f := iv) (sz := 1) iv1 (by decide) 0 Tryz.underlying47 infoIv rfl (.tmp 21) (.tmp 23) rfl w1.heap.size _ L rfl HOa.out wr.heap.size 1 (k : Int) rfl (iv_one _) (fun j u hu => by rw [World.cell?_alloc_at _ _ _ _ rfl]; simpa [iv] using hu) HH.out.1 HH.out.2 HBa.out.size ?_; intro v' w3 q1 q2; have HQ1 := hide q1; have HQ2 := hide q2; clear q1 q2)
          refine ⟨⟨k + 1, by omega, by simp, ?_, ?_⟩, by simp [intOf]; omega⟩
          · rw [HST.out]
            exact HQ1.out
          · exact HBa.out.grown HQ2.out HBa.out.size HOB.out
        · have hdt := list_ne h0
          rw [if_neg h0, List.append_nil] at HST
          clear h0
          go_wp2
          exact ⟨⟨k + 1, by omega, by simp, by rw [HST.out]; exact HL.out, HB.out⟩, by simp [intOf]; omega⟩
      · obtain rfl : n = k := by omega
        have hnk : ¬ (n : Int) < (n : Int) := by omega
        have HQ : Hid (InOwn wr w1.heap.size u4 ML) := by rw [HF2.out, ← List.take_of_length_le (show P.length ≤ n by omega)]; exact HL.out
        have HSZ : Hid (w.heap.size ≤ w1.heap.size) := HD.out.size
        replace HD := hide (chain HD.out HB.out)
        go_wp2
        go_ret2
        exact ⟨_, by rw [HF.out]; rfl, HQ.out.weaken HSZ.out, HD.out⟩
end Go.Proofs.YtdbciciljeainaaGreatDoor
