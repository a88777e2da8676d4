/-
  Walk of the law WireMemory.
-/
import Derived.Test.YtohoncgkekiihaaDoorWmAll
import Derived.Deep.CutBlock
import Derived.Deep.RegionHeld3
namespace Go.Proofs.YtohoncgkekiihaaDoor.wireMemory
open Go.RowKit FerryCrc
set_option linter.unusedVariables false
set_option linter.unusedSimpArgs false

set_option maxRecDepth 100000 in
set_option maxHeartbeats 4000000 in
theorem law {E : Nat → Addr} (a : Option Addr) (len cap : Nat) (rs : List JW) (ab : Option Addr) (nb cb : Nat) (B : List Nat) (at_ : Option Addr) (nt ct : Nat) (ts : List Int) (S : ByteArray) (w : World) (he : Errs w E) (hs : Rcs JW.cells 2 w a len cap rs) (hok : ∀ r ∈ rs, Bts w r.a r.n r.c r.l) (hb : Bts w ab nb cb B)
    (ht : Rcs (fun t : Int => [.int .i64 t]) 1 w at_ nt ct ts) (hroom : jroom rs ≤ 4398046510000) (hm : len ≤ 439804651000) (hnb : nb ≤ 439804651000) (hnt : nt ≤ 439804651000) :
    Calls Tryd.prog 3 #[.agg #[.slice a len cap, .slice ab nb cb, .slice at_ nt ct, .string S]] w fun e w' => e = .returned (.bool true) ∧ Below w.heap.size w w' := by
  have hsmall : ∀ r ∈ rs, r.l.length ≤ 140737488355328 ∧ ∀ c ∈ r.l, c < 256 := fun r hr => ⟨by have := (hok r hr).most; have := (hok r hr).size; omega, (hok r hr).small⟩
  have HE := hide he
  have HS := hide hs
  have HOK := hide hok
  have HSM := hide hsmall
  have HBT := hide hb
  have HTG := hide ht
  have HRM := hide hroom
  clear he hs hok hb hsmall hroom ht
  have HJL : Hid ((jfold rs).2.length ≤ 4398046510000) := by unfold Hid; have := jfold_len rs; have := HRM.out; omega
  have HJS : Hid (∀ c ∈ (jfold rs).2, c < 256) := jfold_small rs (fun r hr => (HSM.out r hr).2)
  have HDJ : Hid (∀ wx : World, Below w.heap.size w wx → Calls Tryd.prog 11 #[.slice a len cap] wx fun e w' => DDone wx (jfold rs).1 (jfold rs).2 e w') := fun wx hbx => djoin_all a len cap rs wx (HS.out.below hbx) (fun r hr => (HOK.out r hr).below hbx) (by have := HRM.out; omega) (by omega)
  have HPJ : Hid (∀ (a2 : Option Addr) (c2 : Nat) (rs' : List JW) (wx : World), rs'.map JW.key = rs.map JW.key → Below w.heap.size w wx → Rcs JW.cells 2 wx a2 len c2 rs' → (∀ r ∈ rs', Bts wx r.a r.n r.c r.l) → Calls Tryd.prog 16 #[.slice a2 len c2] wx fun e w' => PDone wx E (jfold rs).1 (jfold rs).2 e w') := fun a2 c2 rs' wx hk hbx hr hbs => by
    have := join_all a2 len c2 rs' wx hr hbs (HE.out.below hbx) (by rw [jroom_key hk]; have := HRM.out; omega) (by omega)
    rw [jfold_key hk] at this
    exact this
  generalize jfold rs = J at *
  obtain ⟨jk, jl⟩ := J
  obtain ⟨M, hM⟩ : ∃ M, (if jk = 0 then jl else []) = M := ⟨_, rfl⟩
  have HML : Hid (M.length ≤ 4398046510000 ∧ ∀ c ∈ M, c < 256) := by
    unfold Hid
    rw [← hM]
    split
    · exact ⟨HJL.out, HJS.out⟩
    · exact ⟨by decide, fun c hc => by simp at hc⟩
  have HML2 : Hid (M.length ≤ 140737488355328) := by unfold Hid; have := HML.out.1; omega
  obtain ⟨jq, hjq⟩ : ∃ jq, dq jk jl = jq := ⟨_, rfl⟩
  unfold DDone at HDJ
  unfold PDone at HPJ
  simp only [hM] at HDJ HPJ
  rw [show (if jk = 0 then (-1 : Int) else (jl.length : Int)) = dq jk jl from rfl, hjq] at HPJ
  simp only [hjq] at HDJ
  clear hM hjq HJL HJS
  have HA : Hid (Below w.heap.size w (w.alloc (.cells #[.slice a len cap, .slice ab nb cb, .slice at_ nt ct, .string S] 26))) := (Below.refl _ _).alloc (Nat.le_refl _) _
  have z0 : (w.alloc (.cells #[.slice a len cap, .slice ab nb cb, .slice at_ nt ct, .string S] 26)).cell? ⟨w.heap.size, 0, none⟩ = some (.slice a len cap) := (World.cell?_alloc_at _ _ _ _ rfl).trans rfl
  have z1 : (w.alloc (.cells #[.slice a len cap, .slice ab nb cb, .slice at_ nt ct, .string S] 26)).cell? ⟨w.heap.size, 1, none⟩ = some (.slice ab nb cb) := (World.cell?_alloc_at _ _ _ _ rfl).trans rfl
  have z2 : (w.alloc (.cells #[.slice a len cap, .slice ab nb cb, .slice at_ nt ct, .string S] 26)).cell? ⟨w.heap.size, 2, none⟩ = some (.slice at_ nt ct) := (World.cell?_alloc_at _ _ _ _ rfl).trans rfl
  go_enter Tryd.func3, Tryd.ntmps3
  go_wp2_with fail
  generalize (w.alloc (.cells #[.slice a len cap, .slice ab nb cb, .slice at_ nt ct, .string S] 26)) = W0 at *
  refine Calls.mono (fixed_any W0 (HE.out.below HA.out)) ?_
  rintro e w1 ⟨rfl, hb1⟩
  have HB1 := hide (chain HA.out hb1)
  have Z0 := hide (cell_below z0 hb1)
  have Z1 := hide (cell_below z1 hb1)
  have Z2 := hide (cell_below z2 hb1)
  clear hb1 HA z0 z1 z2
  go_upto_region 3 with fail
  have y1 := Z1.out
  go_cut [3] from 29 (fun v wx => ∃ (g c : Nat), v = .slice (some ⟨g, 0, none⟩) (nb + 2) c ∧ Hid (Own wx w1.heap.size (.slice (some ⟨g, 0, none⟩) (nb + 2) c) (B ++ [201, 202])) ∧ Hid (nb + 2 ≤ c) ∧ Hid (Below w1.heap.size w1 wx))
  case first =>
    as_aux_lemma =>
      have HBT1 := hide (HBT.out.below HB1.out)
      have HW2 : Hid (IntKind.i64.wrap ((nb : Int) + 2) = ((nb + 2 : Nat) : Int)) := by unfold Hid; rw [IntKind.wrap_i64]; omega
      have hw2 : IntKind.i64.wrap ((nb : Int) + 2) = (nb : Int) + 2 := by rw [IntKind.wrap_i64]; omega
      have HD0 : Hid (Below w1.heap.size w1 w1.drew) := (Below.refl _ _).drew
      have HAb : Hid (Below w1.heap.size w1 ((w1.alloc (.cells #[.int .u8 201, .int .u8 202] 5)).drew)) := ((Below.refl _ _).alloc (Nat.le_refl _) _).drew
      have HXb : Hid (Bts ((w1.alloc (.cells #[.int .u8 201, .int .u8 202] 5)).drew) (some ⟨w1.heap.size, 0, none⟩) 2 2 [201, 202]) := (two_bytes w1 201 202 (by decide) (by decide) 5).drew
      obtain ⟨w6, hr6, ho6, hb6⟩ := made w1.drew (nb + 2) ((nb : Int) + 2) (by omega) (by omega)
      obtain ⟨w5, hr5, ho5, hb5⟩ := made ((w1.alloc (.cells #[.int .u8 201, .int .u8 202] 5)).drew) (nb + 2) ((nb : Int) + 2) (by omega) (by omega)
      have HB6 : Hid (Below w1.heap.size w1 w6) := chain HD0.out hb6
      have HB5 : Hid (Below w1.heap.size w1 w5) := chain HAb.out hb5
      have HX5 := hide (HXb.out.below hb5)
      have HO6 := hide ho6
      have HO5 := hide ho5
      clear ho6 ho5 hb6 hb5
      have HA6 : Hid (Below w6.heap.size w6 (w6.alloc (.cells #[.int .u8 201, .int .u8 202] 5))) := (Below.refl _ _).alloc (Nat.le_refl _) _
      have HX6 : Hid (Bts (w6.alloc (.cells #[.int .u8 201, .int .u8 202] 5)) (some ⟨w6.heap.size, 0, none⟩) 2 2 [201, 202]) := two_bytes w6 201 202 (by decide) (by decide) 5
      have HO6a := hide (HO6.out.below HA6.out)
      have HB6a := hide (chain HB6.out HA6.out)
      have hsz1 : (w1.alloc (.cells #[.int .u8 201, .int .u8 202] 5)).drew.heap.size = w1.heap.size + 1 := by simp
      rw [hsz1] at HO5 hr5
      have HLN : Hid ((B ++ [201, 202]).length = nb + 2) := by unfold Hid; rw [List.length_append, HBT.out.size]; rfl
      have HZN : Hid (([] : List Nat).length + nb ≤ 140737488355328) := by unfold Hid; simp; omega
      have HBL : Hid (B.length + 2 ≤ 140737488355328) := by unfold Hid; rw [HBT.out.size]; omega
      have HL6 : Hid (∀ k, (Value.slice (some ⟨w1.heap.size, 0, none⟩) 0 (nb + 2)).ownBlock = some k → k < w6.heap.size) := fun k e => (World.ownsRow.lt HO6.out k e).2
      clear hsz1
      go_region_held3 (fun wz => wz.cell? ⟨w.heap.size, 1, none⟩ = some (.slice ab nb cb))
        (first | exact cell_below y1 HB9.out | exact cell_below y1 HB7a.out | exact cell_below y1 HB7.out | exact cell_below y1 HB6.out | exact cell_below y1 HB6a.out | exact cell_below y1 HB5.out | exact y1 | exact cell_below y1 HAb.out)
        (first
          | (refine step_app rfl (.tmp 35) (.tmp 37) rfl w1.heap.size (.slice (some ⟨w1.heap.size, 0, none⟩) 0 (nb + 2)) [] (by simp [Act.eval]) HO6.out ab nb cb B (by simp [Act.eval]) (HBT1.out.below HB6.out) HZN.out HB6.out.size ?_; intro v7 w7 ho hf hq; rw [List.nil_append] at ho; have HO7 := hide ho; have HB7 := hide (HB6.out.trans (hf.below HB6.out.size (fun j e => (World.ownsRow.lt HO6.out j e).1))); have HA7 : Hid (Below w7.heap.size w7 (w7.alloc (.cells #[.int .u8 201, .int .u8 202] 5))) := (Below.refl _ _).alloc (Nat.le_refl _) _; have HX7 : Hid (Bts (w7.alloc (.cells #[.int .u8 201, .int .u8 202] 5)) (some ⟨w7.heap.size, 0, none⟩) 2 2 [201, 202]) := two_bytes w7 201 202 (by decide) (by decide) 5; have HO7a := hide (HO7.out.below HA7.out); have HB7a := hide (chain HB7.out HA7.out); clear ho hf hq)
          | (refine step_app rfl (.tmp 35) (.tmp 37) rfl w1.heap.size (.slice (some ⟨w1.heap.size, 0, none⟩) 0 (nb + 2)) [] (by simp [Act.eval]) HO6a.out ab nb cb B (by simp [Act.eval]) (HBT1.out.below HB6a.out) HZN.out HB6a.out.size ?_; intro v7 w7 ho hf hq; rw [List.nil_append] at ho; have HO7 := hide ho; have HB7 := hide (HB6a.out.trans (hf.below HB6a.out.size (fun j e => (World.ownsRow.lt HO6a.out j e).1))); have HX7 : Hid (Bts w7 (some ⟨w6.heap.size, 0, none⟩) 2 2 [201, 202]) := HX6.out.frm hf (fun b off e he => nope1 e (HL6.out b he)); clear ho hf hq)
          | (refine step_app rfl (.tmp 35) (.tmp 37) rfl (w1.heap.size + 1) (.slice (some ⟨w1.heap.size + 1, 0, none⟩) 0 (nb + 2)) [] (by simp [Act.eval]) HO5.out ab nb cb B (by simp [Act.eval]) (HBT1.out.below HB5.out) HZN.out (own_base HO5.out) ?_; intro v7 w7 ho hf hq; rw [List.nil_append] at ho; have HO7 : Hid (Own w7 w1.heap.size v7 B) := ho.wk (Nat.le_succ _); have HB7 := hide (HB5.out.trans (hf.below HB5.out.size (fun j e => Nat.le_of_succ_le (World.ownsRow.lt HO5.out j e).1))); have HX7 : Hid (Bts w7 (some ⟨w1.heap.size, 0, none⟩) 2 2 [201, 202]) := HX5.out.frm hf (fun b off e he => nope2 e (World.ownsRow.lt HO5.out b he).1); clear ho hf hq)
          | (refine step_app rfl (.tmp 38) (.tmp 39) rfl w1.heap.size v7 B (by simp [Act.eval]) HO7a.out (some ⟨w7.heap.size, 0, none⟩) 2 2 [201, 202] (by simp [Act.eval]) HX7.out HBL.out HB7a.out.size ?_; intro v9 w9 ho hf hq; have HO9 := hide ho; have HB9 := hide (HB7a.out.trans (hf.below HB7a.out.size (fun j e => (World.ownsRow.lt HO7a.out j e).1))); obtain ⟨g9, c9, rfl, _, hc9⟩ := own_some HO9.out (HLN.out) (Nat.succ_pos _); have HC9 := hide hc9; clear ho hf hq hc9)
          | (refine step_app rfl (.tmp 38) (.tmp 39) rfl w1.heap.size v7 B (by simp [Act.eval]) HO7.out (some ⟨w6.heap.size, 0, none⟩) 2 2 [201, 202] (by simp [Act.eval]) HX7.out HBL.out HB7.out.size ?_; intro v9 w9 ho hf hq; have HO9 := hide ho; have HB9 := hide (HB7.out.trans (hf.below HB7.out.size (fun j e => (World.ownsRow.lt HO7.out j e).1))); obtain ⟨g9, c9, rfl, _, hc9⟩ := own_some HO9.out (HLN.out) (Nat.succ_pos _); have HC9 := hide hc9; clear ho hf hq hc9)
          | (refine step_app rfl (.tmp 38) (.tmp 39) rfl w1.heap.size v7 B (by simp [Act.eval]) HO7.out (some ⟨w1.heap.size, 0, none⟩) 2 2 [201, 202] (by simp [Act.eval]) HX7.out HBL.out HB7.out.size ?_; intro v9 w9 ho hf hq; have HO9 := hide ho; have HB9 := hide (HB7.out.trans (hf.below HB7.out.size (fun j e => (World.ownsRow.lt HO7.out j e).1))); obtain ⟨g9, c9, rfl, _, hc9⟩ := own_some HO9.out (HLN.out) (Nat.succ_pos _); have HC9 := hide hc9; clear ho hf hq hc9))
      all_goals go_wp2
      all_goals go_meet
      all_goals exact ⟨g9, c9, rfl, HO9, HC9, HB9⟩
  case rest =>
    obtain ⟨g, c, rfl, HRO, HC, HB2⟩ := hcut
    clear y1
    obtain ⟨W2, hW2⟩ : ∃ W2, W2 = wc := ⟨_, rfl⟩
    subst hW2
    have y1 := cell_below Z1.out HB2.out
    have hcb0 : nb ≤ c := by have := HC.out; omega
    have hcb1 : (nb : Int) ≤ (c : Int) := by omega
    go_upto_region 5 with fail
    have y2 := cell_below Z2.out HB2.out
    go_cut [5] from 29 (fun v wx => ∃ (gt ctt : Nat), v = .slice (some ⟨gt, 0, none⟩) (nt + 1) ctt ∧ Hid (IvOwn wx W2.heap.size (.slice (some ⟨gt, 0, none⟩) (nt + 1) ctt) (ts ++ [-77])) ∧ Hid (nt + 1 ≤ ctt) ∧ Hid (Below W2.heap.size W2 wx))
    case first =>
      as_aux_lemma =>
        have HT1 := hide (HTG.out.below (chain HB1.out HB2.out))
        have hw2 : IntKind.i64.wrap ((nt : Int) + 1) = (nt : Int) + 1 := by rw [IntKind.wrap_i64]; omega
        have HD0 : Hid (Below W2.heap.size W2 W2.drew) := (Below.refl _ _).drew
        have HAb : Hid (Below W2.heap.size W2 ((W2.alloc (.cells #[.int .i64 (-77)] 3)).drew)) := ((Below.refl _ _).alloc (Nat.le_refl _) _).drew
        have HXb : Hid (Rcs (fun t : Int => [.int .i64 t]) 1 ((W2.alloc (.cells #[.int .i64 (-77)] 3)).drew) (some ⟨W2.heap.size, 0, none⟩) 1 1 [-77]) := (one_iv W2 (-77)).below (Below.refl _ _).drew
        obtain ⟨w6, hr6, ho6, hb6⟩ := madeI W2.drew (nt + 1) ((nt : Int) + 1) (by omega) (by omega)
        obtain ⟨w5, hr5, ho5, hb5⟩ := madeI ((W2.alloc (.cells #[.int .i64 (-77)] 3)).drew) (nt + 1) ((nt : Int) + 1) (by omega) (by omega)
        have HB6 : Hid (Below W2.heap.size W2 w6) := chain HD0.out hb6
        have HB5 : Hid (Below W2.heap.size W2 w5) := chain HAb.out hb5
        have HX5 := hide (HXb.out.below hb5)
        have HO6 := hide ho6
        have HO5 := hide ho5
        clear ho6 ho5 hb6 hb5
        have HA6 : Hid (Below w6.heap.size w6 (w6.alloc (.cells #[.int .i64 (-77)] 3))) := (Below.refl _ _).alloc (Nat.le_refl _) _
        have HX6 := hide (one_iv w6 (-77))
        have HO6a := hide (iv_below HO6.out HA6.out)
        have HB6a := hide (chain HB6.out HA6.out)
        have hsz1 : (W2.alloc (.cells #[.int .i64 (-77)] 3)).drew.heap.size = W2.heap.size + 1 := by simp
        rw [hsz1] at HO5 hr5
        have HLN : Hid ((ts ++ [-77]).length = nt + 1) := by unfold Hid; rw [List.length_append, HTG.out.size]; rfl
        have HZN : Hid (([] : List Int).length + nt ≤ 4398046511104) := by unfold Hid; simp; omega
        have HBL : Hid (ts.length + 1 ≤ 4398046511104) := by unfold Hid; rw [HTG.out.size]; omega
        have HL6 : Hid (∀ k, (Value.slice (some ⟨W2.heap.size, 0, none⟩) 0 (nt + 1)).ownBlock = some k → k < w6.heap.size) := fun k e => (World.ownsRow.lt HO6.out k e).2
        clear hsz1
        go_region_held3 (fun wz => wz.cell? ⟨w.heap.size, 2, none⟩ = some (.slice at_ nt ct))
          (first | exact cell_below y2 HB9.out | exact cell_below y2 HB7a.out | exact cell_below y2 HB7.out | exact cell_below y2 HB6.out | exact cell_below y2 HB6a.out | exact cell_below y2 HB5.out | exact y2 | exact cell_below y2 HAb.out)
          (first
            | (refine step_iva rfl (.tmp 50) (.tmp 52) rfl W2.heap.size (.slice (some ⟨W2.heap.size, 0, none⟩) 0 (nt + 1)) [] (by simp [Act.eval]) HO6.out at_ nt ct ts (by simp [Act.eval]) (HT1.out.below HB6.out) HZN.out HB6.out.size ?_; intro v7 w7 ho hf; rw [List.nil_append] at ho; have HO7 := hide ho; have HB7 := hide (HB6.out.trans (hf.below HB6.out.size (fun j e => (World.ownsRow.lt HO6.out j e).1))); have HA7 : Hid (Below w7.heap.size w7 (w7.alloc (.cells #[.int .i64 (-77)] 3))) := (Below.refl _ _).alloc (Nat.le_refl _) _; have HX7 := hide (one_iv w7 (-77)); have HO7a := hide (iv_below HO7.out HA7.out); have HB7a := hide (chain HB7.out HA7.out); clear ho hf)
            | (refine step_iva rfl (.tmp 50) (.tmp 52) rfl W2.heap.size (.slice (some ⟨W2.heap.size, 0, none⟩) 0 (nt + 1)) [] (by simp [Act.eval]) HO6a.out at_ nt ct ts (by simp [Act.eval]) (HT1.out.below HB6a.out) HZN.out HB6a.out.size ?_; intro v7 w7 ho hf; rw [List.nil_append] at ho; have HO7 := hide ho; have HB7 := hide (HB6a.out.trans (hf.below HB6a.out.size (fun j e => (World.ownsRow.lt HO6a.out j e).1))); have HX7 : Hid (Rcs (fun t : Int => [.int .i64 t]) 1 w7 (some ⟨w6.heap.size, 0, none⟩) 1 1 [-77]) := HX6.out.frm hf (fun b off e he => nope1 e (HL6.out b he)); clear ho hf)
            | (refine step_iva rfl (.tmp 50) (.tmp 52) rfl (W2.heap.size + 1) (.slice (some ⟨W2.heap.size + 1, 0, none⟩) 0 (nt + 1)) [] (by simp [Act.eval]) HO5.out at_ nt ct ts (by simp [Act.eval]) (HT1.out.below HB5.out) HZN.out (iv_base HO5.out) ?_; intro v7 w7 ho hf; rw [List.nil_append] at ho; have HO7 : Hid (IvOwn w7 W2.heap.size v7 ts) := iv_wk ho (Nat.le_succ _); have HB7 := hide (HB5.out.trans (hf.below HB5.out.size (fun j e => Nat.le_of_succ_le (World.ownsRow.lt HO5.out j e).1))); have HX7 : Hid (Rcs (fun t : Int => [.int .i64 t]) 1 w7 (some ⟨W2.heap.size, 0, none⟩) 1 1 [-77]) := HX5.out.frm hf (fun b off e he => nope2 e (World.ownsRow.lt HO5.out b he).1); clear ho hf)
            | (refine step_iva rfl (.tmp 53) (.tmp 54) rfl W2.heap.size v7 ts (by simp [Act.eval]) HO7a.out (some ⟨w7.heap.size, 0, none⟩) 1 1 [-77] (by simp [Act.eval]) HX7.out HBL.out HB7a.out.size ?_; intro v9 w9 ho hf; have HO9 := hide ho; have HB9 := hide (HB7a.out.trans (hf.below HB7a.out.size (fun j e => (World.ownsRow.lt HO7a.out j e).1))); obtain ⟨g9, c9, rfl, _, hc9⟩ := iv_some HO9.out (HLN.out) (Nat.succ_pos _); have HC9 := hide hc9; clear ho hf hc9)
            | (refine step_iva rfl (.tmp 53) (.tmp 54) rfl W2.heap.size v7 ts (by simp [Act.eval]) HO7.out (some ⟨w6.heap.size, 0, none⟩) 1 1 [-77] (by simp [Act.eval]) HX7.out HBL.out HB7.out.size ?_; intro v9 w9 ho hf; have HO9 := hide ho; have HB9 := hide (HB7.out.trans (hf.below HB7.out.size (fun j e => (World.ownsRow.lt HO7.out j e).1))); obtain ⟨g9, c9, rfl, _, hc9⟩ := iv_some HO9.out (HLN.out) (Nat.succ_pos _); have HC9 := hide hc9; clear ho hf hc9)
            | (refine step_iva rfl (.tmp 53) (.tmp 54) rfl W2.heap.size v7 ts (by simp [Act.eval]) HO7.out (some ⟨W2.heap.size, 0, none⟩) 1 1 [-77] (by simp [Act.eval]) HX7.out HBL.out HB7.out.size ?_; intro v9 w9 ho hf; have HO9 := hide ho; have HB9 := hide (HB7.out.trans (hf.below HB7.out.size (fun j e => (World.ownsRow.lt HO7.out j e).1))); obtain ⟨g9, c9, rfl, _, hc9⟩ := iv_some HO9.out (HLN.out) (Nat.succ_pos _); have HC9 := hide hc9; clear ho hf hc9))
        all_goals go_wp2
        all_goals go_meet
        all_goals exact ⟨g9, c9, rfl, HO9, HC9, HB9⟩
    case rest =>
      obtain ⟨gt, ctt, rfl, HTO, HCT, HB23⟩ := hcut
      clear y1 y2 hcb0 hcb1
      obtain ⟨W3, hW3⟩ : ∃ W3, W3 = wc := ⟨_, rfl⟩
      subst hW3
      have HB3 := hide (chain HB2.out HB23.out)
      have HRO3 := hide (HRO.out.below HB23.out)
      have HGR : Hid (w1.heap.size ≤ g ∧ g < W2.heap.size) := World.ownsRow.lt HRO.out g rfl
      have y2 := cell_below Z2.out HB3.out
      have y0 := cell_below Z0.out HB3.out
      have hct0 : nt ≤ ctt := by have := HCT.out; omega
      have hct1 : (nt : Int) ≤ (ctt : Int) := by omega
      clear HRO HB23
      go_wp2_with fail
      clear y2 y0 hct0 hct1
      refine Calls.mono (recs_any a len cap rs W3 (HS.out.below (chain HB1.out HB3.out)) (fun r hr => (HOK.out r hr).below (chain HB1.out HB3.out)) (by omega)) ?_
      rintro e w4 ⟨hb4, rs', v4, hkey, rfl, hown⟩
      have hsm' : ∀ r ∈ rs', r.l.length ≤ 140737488355328 ∧ ∀ c ∈ r.l, c < 256 := fun r hr => by
        have h1 : r.key ∈ rs.map JW.key := by rw [← hkey]; exact List.mem_map.2 ⟨r, hr, rfl⟩
        obtain ⟨q, hq, e⟩ := List.mem_map.1 h1
        have e2 : q.l = r.l := congrArg Prod.snd e
        rw [← e2]
        exact HSM.out q hq
      obtain ⟨a4, c4, rfl, hr4, hb4s⟩ := hown.shows hsm'
      have hl4 : rs'.length = len := by
        have h1 := congrArg List.length hkey
        rw [List.length_map, List.length_map, HS.out.size] at h1
        exact h1
      rw [hl4] at hr4 ⊢
      have HB4 := hide (chain HB3.out hb4)
      have HRO4 := hide (HRO3.out.below hb4)
      have HTO4 := hide (iv_below HTO.out hb4)
      have HR4 := hide hr4
      have HK4 := hide hb4s
      have HKEY := hide hkey
      have y0 := cell_below Z0.out HB4.out
      clear hb4 hown hr4 hb4s hsm' hkey hl4 HB3 HRO3 HTO
      go_wp2_with fail
      clear y0
      refine Calls.mono (HDJ.out w4 (chain HB1.out HB4.out)) ?_
      rintro e w5 ⟨v5, rfl, ho5, hb5⟩
      obtain ⟨a5, c5, rfl, hx5⟩ := ho5.shown HML2.out HML.out.2
      have HT5 := hide (two_alloc w5 (.int .i64 (jk : Int)) (.int .i64 jq) 31)
      have HA5 : Hid (Below w5.heap.size w5 (w5.alloc (.cells #[.int .i64 (jk : Int), .int .i64 jq] 31))) := (Below.refl _ _).alloc (Nat.le_refl _) _
      have H45 := hide (chain hb5 HA5.out)
      have HX5 := hide (hx5.below HA5.out)
      have y1 := cell_below Z1.out (chain HB4.out H45.out)
      obtain ⟨g5, hg5⟩ : ∃ g5, w5.heap.size = g5 := ⟨_, rfl⟩
      rw [hg5] at HT5
      clear hx5 hb5 ho5 HA5 HDJ
      obtain ⟨mM, hmM⟩ : ∃ mM, M.length = mM := ⟨_, rfl⟩
      have HMM := hide hmM
      rw [hmM] at HX5 ⊢
      clear hmM
      unfold rerr
      go_wp2_with fail
      clear hg5 y1
      generalize w5.alloc (.cells #[.int .i64 (jk : Int), .int .i64 jq] 31) = W5 at *
      have HB5 := hide (chain HB4.out H45.out)
      refine Calls.mono (dsplit_any ab nb cb B W5 (HBT.out.below (chain HB1.out HB5.out)) (by omega)) ?_
      rintro e w6 ⟨hb6, hD⟩
      obtain ⟨a7, n7, c7, k7, q7, rfl, hn7, hD7⟩ := split_both HBT.out.size HBT.out.small hD
      have HT7 := hide (two_alloc w6 (.int .i64 (k7 : Int)) (.int .i64 q7) 31)
      have HA7 : Hid (Below w6.heap.size w6 (w6.alloc (.cells #[.int .i64 (k7 : Int), .int .i64 q7] 31))) := (Below.refl _ _).alloc (Nat.le_refl _) _
      have H57 := hide (chain hb6 HA7.out)
      have HD7 := hide (hD7.frm (S := fun _ => False) (Frm.ofBelow HA7.out) (fun _ _ h => h))
      have HB7 := hide (chain HB5.out H57.out)
      have y1 := cell_below Z1.out HB7.out
      have y2 := cell_below Z2.out HB7.out
      obtain ⟨g7, hg7⟩ : ∃ g7, w6.heap.size = g7 := ⟨_, rfl⟩
      rw [hg7] at HT7
      have HG7 : Hid (g < g7) := by unfold Hid; have h1 := (World.ownsRow.lt HRO4.out g rfl).2; have h2 := H45.out.size; have h3 := hb6.size; omega
      clear hb6 hD hD7 HA7
      unfold rerr
      go_wp2_with fail
      clear hg7 y1 y2
      generalize w6.alloc (.cells #[.int .i64 (k7 : Int), .int .i64 q7] 31) = W7 at *
      refine Calls.mono (dexpect_any E ab nb cb B at_ nt ct ts W7 (HBT.out.below (chain HB1.out HB7.out)) (HTG.out.below (chain HB1.out HB7.out)) (by omega) (by omega)) ?_
      rintro e w8 ⟨hb8, rsE, v8, rfl, hbs, hown8⟩
      have HPE : Hid (∀ (a1 : Option Addr) (c1 : Nat) (a2 : Option Addr) (c2 : Nat) (wx : World), Below w.heap.size w wx → Bts wx a1 nb c1 B → Rcs (fun t : Int => [.int .i64 t]) 1 wx a2 nt c2 ts → Calls Tryd.prog 20 #[.slice a1 nb c1, .slice a2 nt c2] wx fun e w' => Below wx.heap.size wx w' ∧ ∃ rs v ev, e = .returned (.tuple #[v, ev]) ∧ IsErr w' E ev (expE B nb 0 ts).1 (expE B nb 0 ts).2.1 ∧ rs.map RV.l = (expE B nb 0 ts).2.2 ∧ BvOwn w' wx.heap.size v rs) := fun a1 c1 a2 c2 wx hbx h1 h2 => pexpect_any a1 nb c1 B a2 nt c2 ts wx h1 h2 (HE.out.below hbx) (by omega) (by omega)
      have HBS : Hid (∀ l ∈ (expE B nb 0 ts).2.2, l.length ≤ 439804651000 ∧ ∀ c ∈ l, c < 256) := fun l hl => by
        obtain ⟨h1, h2⟩ := exp_small B nb ts 0 l hl
        have := HBT.out.size
        exact ⟨by omega, fun c hc => HBT.out.small c (h2 c hc)⟩
      have HBN : Hid ((expE B nb 0 ts).2.2.length ≤ nt) := by unfold Hid; have := exp_len B nb ts 0; rw [HTG.out.size] at this; exact this
      generalize expE B nb 0 ts = X at *
      obtain ⟨k13, q13, bs⟩ := X
      have hsz8 : ∀ r ∈ rsE, r.l.length ≤ 140737488355328 ∧ ∀ c ∈ r.l, c < 256 := fun r hr => by
        have := HBS.out r.l (by show r.l ∈ bs; have h : rsE.map JW.l = bs := hbs; rw [← h]; exact List.mem_map.2 ⟨r, hr, rfl⟩)
        exact ⟨by omega, this.2⟩
      obtain ⟨a8, c8, rfl, _, _⟩ := hown8.shows hsz8
      obtain ⟨n13, hn13⟩ : ∃ n13, rsE.length = n13 := ⟨_, rfl⟩
      have HL13 : Hid (bs.length = n13) := by
        have h1 : rsE.map JW.l = bs := hbs
        unfold Hid
        rw [← h1, List.length_map, hn13]
      have hn13b : n13 ≤ 439804651000 := by
        have h2 : bs.length ≤ nt := HBN.out
        rw [HL13.out] at h2
        omega
      rw [hn13]
      have HT9 := hide (two_alloc w8 (.int .i64 (k13 : Int)) (.int .i64 q13) 31)
      have HA9 : Hid (Below w8.heap.size w8 (w8.alloc (.cells #[.int .i64 (k13 : Int), .int .i64 q13] 31))) := (Below.refl _ _).alloc (Nat.le_refl _) _
      have H79 := hide (chain hb8 HA9.out)
      have HB9 := hide (chain HB7.out H79.out)
      have y1 := cell_below Z1.out HB9.out
      obtain ⟨g9, hg9⟩ : ∃ g9, w8.heap.size = g9 := ⟨_, rfl⟩
      rw [hg9] at HT9
      clear hb8 hbs hown8 hn13 hsz8 HA9 HBN
      unfold rerr
      go_wp2_with fail
      clear hg9 y1
      generalize w8.alloc (.cells #[.int .i64 (k13 : Int), .int .i64 q13] 31) = W9 at *
      refine Calls.mono (dhex_any ab nb cb B W9 (HBT.out.below (chain HB1.out HB9.out)) (by omega)) ?_
      rintro e w10 ⟨rfl, hb10⟩
      have hX1 : (str (hexOf B)).size = 2 * nb := by rw [str_size, hexOf_len, HBT.out.size]
      have hX2 : bytesOf (str (hexOf B)) = hexOf B := bytesOf_str (hexOf_small HBT.out.small)
      have HUD := hide (dunhex_any (str (hexOf B)) (2 * nb) w10 hX1 (by omega))
      have HUP : Hid (∀ wx : World, Below w.heap.size w wx → Calls Tryd.prog 21 #[.string (str (hexOf B))] wx fun e w' => Unh wx E (hexOf B) (2 * nb) e w') := fun wx hbx => by
        have := unhex_any (str (hexOf B)) (2 * nb) wx hX1 (by omega) (HE.out.below hbx)
        rw [hX2] at this
        exact this
      have HHX : Hid (∀ (a1 : Option Addr) (c1 : Nat) (wx : World), Bts wx a1 nb c1 B → Calls Tryd.prog 22 #[.slice a1 nb c1] wx fun e w' => e = .returned (.string (str (hexOf B))) ∧ Below wx.heap.size wx w') := fun a1 c1 wx h1 => hex_any a1 nb c1 B wx h1 (by omega)
      rw [hX2] at HUD
      clear hX1 hX2
      generalize str (hexOf B) = HX at *
      go_wp2_with fail
      refine Calls.mono HUD.out ?_
      rintro e w11 ⟨v11, k11, q11, rfl, hb11, hcs⟩
      have HDIG : Hid (∀ (j c : Nat), (hexOf B)[j]? = some c → hexv c < 16) := fun j c hj => hex_digits B HBT.out.small c (List.mem_of_getElem? hj)
      have hok : Own w11 w10.heap.size v11 B := by
        rcases hcs with ⟨i, c, h1, h2, _⟩ | ⟨_, h2, _⟩ | ⟨_, _, _, _, h4⟩
        · exact absurd (HDIG.out i c h1) h2
        · omega
        · rw [unhex_hex B HBT.out.small] at h4
          exact h4
      obtain ⟨a11, c11, rfl, hx11⟩ := hok.shown (by have := HBT.out.size; omega) HBT.out.small
      rw [HBT.out.size] at hx11 ⊢
      have HA11 : Hid (Below w11.heap.size w11 (w11.alloc (.cells #[.int .i64 (k11 : Int), .int .i64 q11] 31))) := (Below.refl _ _).alloc (Nat.le_refl _) _
      have H911 := hide (chain hb10 (chain hb11 HA11.out))
      have HXU := hide (hx11.below HA11.out)
      clear hb10 hb11 hcs hok hx11 HA11 HUD
      unfold rerr
      go_wp2_with fail
      generalize w11.alloc (.cells #[.int .i64 (k11 : Int), .int .i64 q11] 31) = WL at *
      generalize w11.heap.size = g11 at *
      have H7L := hide (chain H79.out H911.out)
      have H5L := hide (chain H57.out H7L.out)
      have H4L := hide (chain H45.out H5L.out)
      have HB1L := hide (chain HB4.out H4L.out)
      have HBL := hide (chain HB1.out HB1L.out)
      have HROL := hide (HRO4.out.below H4L.out)
      have HTOL := hide (iv_below HTO4.out H4L.out)
      have HR4L := hide (HR4.out.below H4L.out)
      have HK4L : Hid (∀ r ∈ rs', Bts WL r.a r.n r.c r.l) := fun r hr => (HK4.out r hr).below H4L.out
      have HXJ := hide (HX5.out.below H5L.out)
      have HT5L := hide (HT5.out.below H5L.out)
      have HD7L := hide (HD7.out.frm (S := fun _ => False) (Frm.ofBelow H7L.out) (fun _ _ h => h))
      have HT7L := hide (HT7.out.below H7L.out)
      have HT9L := hide (HT9.out.below H911.out)
      have HGL : Hid (g < WL.heap.size) := by unfold Hid; have h1 := HGR.out.2; have h2 := (World.ownsRow.lt HROL.out g rfl).2; exact h2
      clear H7L H5L H4L H45 H57 H79 H911 HB4 HB5 HB7 HB9 HRO4 HTO4 HR4 HK4 HX5 HT5 HD7 HT7 HT9
      have HBB : Hid (Bts WL (some ⟨g, 0, none⟩) nb c B) := by
        have h1 : (B ++ [201, 202]).length = nb + 2 := by rw [List.length_append, HBT.out.size]; rfl
        have h2 := (HROL.out.bts h1 (by omega) (fun x hx => by
          rcases List.mem_append.1 hx with h | h
          · exact HBT.out.small x h
          · simp only [List.mem_cons, List.not_mem_nil, or_false] at h
            omega)).take nb (by omega)
        rw [List.take_append_of_le_length (by rw [HBT.out.size]; exact Nat.le_refl _), List.take_of_length_le (by rw [HBT.out.size]; exact Nat.le_refl _)] at h2
        exact h2
      have HTB : Hid (Rcs (fun t : Int => [.int .i64 t]) 1 WL (some ⟨gt, 0, none⟩) nt ctt ts) := iv_take HTOL.out HTG.out.size
      go_loopw [16, 17] (fun v i wr => ∃ (k : Nat) (gs : List JW), k ≤ 2 ∧ i = .int .i64 (k : Int) ∧ Hid (DbOwn wr WL.heap.size v gs) ∧ Hid (Pw gs) ∧ Hid (∀ r ∈ gs, r.l.length ≤ 4398046511000) ∧ Hid (gs.length ≤ k * 900000000000) ∧ Hid (Below WL.heap.size WL wr)) (fun _ i _ => 2 - (intOf i).toNat)
      case atStart => exact ⟨0, [], by omega, rfl, db_nil _ _, pw_nil, (fun r hr => by simp at hr), (by show 0 ≤ _; omega), Below.refl _ _⟩
      case round =>
        obtain ⟨k, gs, hk, rfl, HDB, HPW, HSZ, HLEN, HBR⟩ := hrel
        by_cases hk2 : k < 2
        · --
          as_aux_lemma =>
            have hk3 : (k : Int) < 2 := by omega
            obtain ⟨Wr, hWr⟩ : ∃ x, x = wr := ⟨_, rfl⟩
            subst hWr
            obtain ⟨V16, hV16⟩ : ∃ x, x = u16 := ⟨_, rfl⟩
            subst hV16
            have HBwr := hide (chain HBL.out HBR.out)
            have HGs : Hid (∀ r ∈ gs, ∀ b, r.v.ownBlock = some b → b < Wr.heap.size) := fun r hr b hb => (World.ownsRow.lt (HDB.out.own r hr) b hb).2
            have HV16 : Hid (∀ b, V16.ownBlock = some b → WL.heap.size ≤ b ∧ b < Wr.heap.size) := fun b hb => World.ownsRow.lt HDB.out.row b hb
            go_wp2_with fail
            refine Calls.mono (HPJ.out a4 c4 rs' Wr HKEY.out HBwr.out (HR4L.out.below HBR.out) (fun r hr => (HK4L.out r hr).below HBR.out)) ?_
            rintro e w5 ⟨v5, ev5, rfl, hi5, ho5, hb5⟩
            obtain ⟨a18, c18, rfl, hx5⟩ := ho5.shown HML2.out HML.out.2
            rw [HMM.out] at hx5 ho5 ⊢
            have HO5 := hide ho5
            have HY5 := hide hx5
            have HI5 := hide hi5
            have H5 := hide hb5
            have HB5 := hide (chain HBR.out hb5)
            have HT5 := hide (HT5L.out.below HB5.out)
            have t0 := HT5.out.c0
            have t1 := HT5.out.c1
            clear hi5 ho5 hb5 hx5
            go_wp2_with fail
            clear t0 t1
            refine Calls.mono (same_yes ev5 jk jq w5 (HE.out.below (chain HBL.out HB5.out)) HI5.out) ?_
            rintro e w6 ⟨rfl, hb6⟩
            have H6 := hide (chain H5.out hb6)
            have HB6 := hide (chain HB5.out hb6)
            have s1 := bts_string (HXJ.out.below HB6.out)
            have s2 := bts_string (HY5.out.below hb6)
            have y0 := cell_below (cell_below Z0.out HB1L.out) HB6.out
            have HO6 := hide (HO5.out.below hb6)
            have HS6 : Hid (w5.heap.size ≤ w6.heap.size) := hb6.size
            clear hb6 HI5 HY5 HT5
            generalize str M = ZM at *
            go_wp2_with fail
            clear s1 s2 y0
            refine Calls.mono (sameRecs_ok a4 len c4 rs' a cap rs w6 (HR4L.out.below HB6.out) (fun r hr => (HK4L.out r hr).below HB6.out) (HS.out.below (chain HBL.out HB6.out)) (fun r hr => (HOK.out r hr).below (chain HBL.out HB6.out)) HKEY.out (by omega)) ?_
            rintro e w7 ⟨rfl, hb7⟩
            have H7 := hide (chain H6.out hb7)
            have HB7 := hide (chain HB6.out hb7)
            have HO7 := hide (HO6.out.below hb7)
            have HS7 : Hid (w5.heap.size ≤ w7.heap.size) := Nat.le_trans HS6.out hb7.size
            clear hb7 HO6
            go_wp2_with fail
            refine Calls.mono (split_any (some ⟨g, 0, none⟩) nb c B w7 (HBB.out.below HB7.out) (HE.out.below (chain HBL.out HB7.out)).three (by omega)) ?_
            rintro e w8 ⟨hb8, hP⟩
            obtain ⟨aP, cP, ev8, rsD, rv, rfl, hi8, hR1, hK1, hR2, hK2, hkk, hrv, hrl⟩ := split_three HBT.out.size HBT.out.small HD7L.out hP (chain HB7.out hb8)
            have H8 := hide hb8
            have HB8 := hide (chain HB7.out hb8)
            have HRV := hide hrv
            have HRL := hide hrl
            have HRN : Hid (rv.length = n7) := by
              have h1 := hR1.size
              rw [List.length_map] at h1
              exact h1
            have HRS : Hid (∀ r ∈ rv, r.l.length ≤ 140737488355328 ∧ ∀ c ∈ r.l, c < 256) := fun r hr => ⟨by have := hrl r hr; omega, (hK1 r.jw (List.mem_map.2 ⟨r, hr, rfl⟩)).small⟩
            have HI8 := hide hi8
            have HSR := hide (fun wx hbx => sameRecs_ok aP n7 cP (rv.map RV.jw) a7 c7 rsD wx (hR1.below hbx) (fun r hr => (hK1 r hr).below hbx) (hR2.below hbx) (fun r hr => (hK2 r hr).below hbx) hkk (by omega))
            have HT8 := hide (HT7L.out.below HB8.out)
            have t0 := HT8.out.c0
            have t1 := HT8.out.c1
            clear hb8 hP hi8 hR1 hK1 hR2 hK2 hkk hrv hrl
            go_wp2_with fail
            clear t0 t1
            refine Calls.mono (same_yes ev8 k7 q7 w8 (HE.out.below (chain HBL.out HB8.out)) HI8.out) ?_
            rintro e w9 ⟨rfl, hb9⟩
            have HSR2 := hide (HSR.out w9 hb9)
            have H9 := hide hb9
            have HB9 := hide (chain HB8.out hb9)
            clear hb9 HSR HI8 HT8
            go_wp2_with fail
            refine Calls.mono HSR2.out ?_
            rintro e w10 ⟨rfl, hb10⟩
            have H10 := hide (chain H9.out hb10)
            have HB10 := hide (chain HB9.out hb10)
            clear hb10 HSR2 H9
            go_wp2_with fail
            refine Calls.mono (HPE.out (some ⟨g, 0, none⟩) c (some ⟨gt, 0, none⟩) ctt w10 (chain HBL.out HB10.out) (HBB.out.below HB10.out) (HTB.out.below HB10.out)) ?_
            rintro e w11 ⟨hb11, rs11, v11, ev11, rfl, hi11, hl11, ho11⟩
            have HBVS : Hid (∀ r ∈ rs11, r.l.length ≤ 439804651000 ∧ ∀ c ∈ r.l, c < 256) := fun r hr => HBS.out r.l (by show r.l ∈ bs; have h : rs11.map RV.l = bs := hl11; rw [← h]; exact List.mem_map.2 ⟨r, hr, rfl⟩)
            have hll : rs11.length = n13 := by
              have h1 : rs11.map RV.l = bs := hl11
              have h2 := congrArg List.length h1
              rw [List.length_map, HL13.out] at h2
              exact h2
            obtain ⟨a21, c21, rfl, _, _⟩ := ho11.shows (fun r hr => ⟨by have := (HBVS.out r hr).1; omega, (HBVS.out r hr).2⟩)
            rw [hll] at ho11 ⊢
            have HLL := hide hll
            have HBV := hide ho11
            have HI11 := hide hi11
            have H11 := hide hb11
            have HB11 := hide (chain HB10.out hb11)
            have HT11 := hide (HT9L.out.below HB11.out)
            have t0 := HT11.out.c0
            have t1 := HT11.out.c1
            clear hb11 hi11 hl11 ho11 hll
            go_wp2_with fail
            clear t0 t1
            refine Calls.mono (same_yes ev11 k13 q13 w11 (HE.out.below (chain HBL.out HB11.out)) HI11.out) ?_
            rintro e w12 ⟨rfl, hb12⟩
            have H12 := hide hb12
            have HB12 := hide (chain HB11.out hb12)
            clear hb12 HI11 HT11
            go_wp2_with fail
            refine Calls.mono (HHX.out (some ⟨g, 0, none⟩) c w12 (HBB.out.below HB12.out)) ?_
            rintro e w13 ⟨rfl, hb13⟩
            have H13 := hide (chain H12.out hb13)
            have HB13 := hide (chain HB12.out hb13)
            clear hb13 H12
            go_wp2_with fail
            refine Calls.mono (HUP.out w13 (chain HBL.out HB13.out)) ?_
            rintro e w14 ⟨v22, ev14, rfl, hb14, hcs⟩
            have hok14 : ev14 = .nilIface ∧ Own w14 w13.heap.size v22 B := by
              rcases hcs with ⟨i, c, h1, h2, _⟩ | ⟨_, h2, _⟩ | ⟨_, _, h3, h4⟩
              · exact absurd (HDIG.out i c h1) h2
              · omega
              · rw [unhex_hex B HBT.out.small] at h4
                exact ⟨h3, h4⟩
            obtain ⟨rfl, ho14⟩ := hok14
            obtain ⟨a22, c22, rfl, hx14⟩ := ho14.shown (by have := HBT.out.size; omega) HBT.out.small
            rw [HBT.out.size] at hx14 ho14 ⊢
            have H14 := hide hb14
            have HB14 := hide (chain HB13.out hb14)
            have s1 := bts_string (HXU.out.below HB14.out)
            have s2 := bts_string hx14
            have HA14 : Hid (Below w14.heap.size w14 (w14.alloc (.cells #[.slice a18 mM c18, .slice a22 nb c22] 23))) := (Below.refl _ _).alloc (Nat.le_refl _) _
            have HSS : Hid (Wr.heap.size ≤ w5.heap.size ∧ w5.heap.size ≤ w7.heap.size ∧ w7.heap.size ≤ w8.heap.size ∧ w8.heap.size ≤ w10.heap.size ∧ w10.heap.size ≤ w11.heap.size ∧ w11.heap.size ≤ w13.heap.size ∧ w13.heap.size ≤ w14.heap.size ∧ WL.heap.size ≤ Wr.heap.size) := ⟨H5.out.size, HS7.out, H8.out.size, H10.out.size, H11.out.size, H13.out.size, hb14.size, HBR.out.size⟩
            have HJb : Hid (∀ b, (JW.v ⟨0, a18, mM, c18, M⟩).ownBlock = some b → Wr.heap.size ≤ b ∧ b < w5.heap.size) := fun b hb => World.ownsRow.lt HO5.out b hb
            have HUb : Hid (∀ b, (JW.v ⟨0, a22, nb, c22, B⟩).ownBlock = some b → w13.heap.size ≤ b ∧ b < w14.heap.size) := fun b hb => World.ownsRow.lt ho14 b hb
            have HRVb : Hid (∀ r ∈ rv, w7.heap.size ≤ r.g ∧ r.g < w8.heap.size) := fun r hr => World.ownsRow.lt (HRV.out.own r hr) r.g rfl
            have HRVr : Hid (∀ b, (Value.slice aP n7 cP).ownBlock = some b → w7.heap.size ≤ b ∧ b < w8.heap.size) := fun b hb => World.ownsRow.lt HRV.out.row b hb
            have HBVb : Hid (∀ r ∈ rs11, w10.heap.size ≤ r.g ∧ r.g < w11.heap.size) := fun r hr => World.ownsRow.lt (HBV.out.own r hr) r.g rfl
            have HBVr : Hid (∀ b, (Value.slice a21 n13 c21).ownBlock = some b → w10.heap.size ≤ b ∧ b < w11.heap.size) := fun b hb => World.ownsRow.lt HBV.out.row b hb
            have HRV14 := hide (HRV.out.below (chain H10.out (chain H11.out (chain H13.out (chain hb14 HA14.out)))))
            have HBV14 := hide (HBV.out.below (chain H13.out (chain hb14 HA14.out)))
            have HDB14 := hide (HDB.out.below (chain H7.out (chain H8.out (chain H10.out (chain H11.out (chain H13.out (chain hb14 HA14.out)))))))
            have HJ14 : Hid (Own (w14.alloc (.cells #[.slice a18 mM c18, .slice a22 nb c22] 23)) WL.heap.size (JW.v ⟨0, a18, mM, c18, M⟩) M) := (HO7.out.below (chain H8.out (chain H10.out (chain H11.out (chain H13.out (chain hb14 HA14.out)))))).wk HBR.out.size
            have HU14 : Hid (Own (w14.alloc (.cells #[.slice a18 mM c18, .slice a22 nb c22] 23)) WL.heap.size (JW.v ⟨0, a22, nb, c22, B⟩) B) := (ho14.below HA14.out).wk HB13.out.size
            have HNW : Hid (∀ r ∈ [(⟨0, a18, mM, c18, M⟩ : JW), ⟨0, a22, nb, c22, B⟩], Own (w14.alloc (.cells #[.slice a18 mM c18, .slice a22 nb c22] 23)) WL.heap.size r.v r.l) := fun r hr => by
              simp only [List.mem_cons, List.not_mem_nil, or_false] at hr
              rcases hr with rfl | rfl
              · exact HJ14.out
              · exact HU14.out
            have HNN : Hid (∀ r ∈ [(⟨0, a18, mM, c18, M⟩ : JW), ⟨0, a22, nb, c22, B⟩], ∀ k, r.v.ownBlock = some k → V16.ownBlock ≠ some k) := fun r hr k hk e => by
              simp only [List.mem_cons, List.not_mem_nil, or_false] at hr
              have h1 := (HV16.out k e).2
              have h2 := HSS.out
              rcases hr with rfl | rfl
              · have := (HJb.out k hk).1; omega
              · have := (HUb.out k hk).1; omega
            have HGL2 : Hid (gs.length + 2 ≤ 4398046511104) := by unfold Hid; have := HLEN.out; omega
            have HTL := hide (two_lists w14 ⟨0, a18, mM, c18, M⟩ ⟨0, a22, nb, c22, B⟩ 23)
            have HWS : Hid (WL.heap.size ≤ (w14.alloc (.cells #[.slice a18 mM c18, .slice a22 nb c22] 23)).heap.size) := Nat.le_trans HB14.out.size HA14.out.size
            clear hb14 hcs ho14 hx14 H5 H6 H7 H8 H10 H11 H13 HB5 HB6 HB7 HB8 HB9 HB10 HB11 HB12 HB13 HRV HBV HDB HO5 HO7
            generalize str B = ZB at *
            go_wp2_with (refine append_dbs rfl (.tmp 165) (.tmp 168) rfl WL.heap.size V16 gs rfl HDB14.out (some ⟨w14.heap.size, 0, none⟩) 2 2 [⟨0, a18, mM, c18, M⟩, ⟨0, a22, nb, c22, B⟩] rfl HTL.out HNW.out HNN.out HGL2.out HWS.out ?_; intro v15 w15 ho hf hq; have HO15 := hide ho; have HF15 := hide hf; have HQ15 := hide hq; clear ho hf hq)
            clear s1 s2
            have HRV15 := hide (HRV14.out.frm2 HF15.out (fun b hb e => by have := (HV16.out b e).2; have := (HRVr.out b hb).1; have := HSS.out; omega) (fun r hr e => by have := (HV16.out _ e).2; have := (HRVb.out r hr).1; have := HSS.out; omega))
            have HBV15 := hide (HBV14.out.frm2 HF15.out (fun b hb e => by have := (HV16.out b e).2; have := (HBVr.out b hb).1; have := HSS.out; omega) (fun r hr e => by have := (HV16.out _ e).2; have := (HBVb.out r hr).1; have := HSS.out; omega))
            have HVB15 : Hid (∀ b, v15.ownBlock = some b → b < Wr.heap.size ∨ w14.heap.size ≤ b) := fun b hb => by
              rcases HQ15.out b hb with e | e
              · exact .inl (HV16.out b e).2
              · exact .inr (Nat.le_trans HA14.out.size e)
            have HB15 := hide ((chain HB14.out HA14.out).trans (HF15.out.below HWS.out (fun b e => (HV16.out b e).1)))
            have HS15 : Hid (w14.heap.size ≤ w15.heap.size) := Nat.le_trans HA14.out.size HF15.out.size
            clear HRV14 HBV14 HDB14 HJ14 HU14 HNW HNN HGL2 HTL HWS HF15 HQ15 HA14
            go_loopw [16, 23] (fun v i wx => ∃ j : Nat, j ≤ n7 ∧ i = .int .i64 (j : Int) ∧ Hid (DbOwn wx WL.heap.size v ((gs ++ [(⟨0, a18, mM, c18, M⟩ : JW), ⟨0, a22, nb, c22, B⟩]) ++ (rv.take j).map RV.jw)) ∧ Hid (RvOwn wx w7.heap.size (.slice aP n7 cP) rv) ∧ Hid (BvOwn wx w10.heap.size (.slice a21 n13 c21) rs11) ∧ Hid (∀ b, v.ownBlock = some b → b < Wr.heap.size ∨ w14.heap.size ≤ b) ∧ Hid (Below WL.heap.size WL wx) ∧ Hid (w14.heap.size ≤ wx.heap.size)) (fun _ i _ => n7 - (intOf i).toNat)
            case atStart => exact ⟨0, by omega, rfl, by rw [List.take_zero, List.map_nil, List.append_nil]; exact HO15, HRV15, HBV15, HVB15, HB15, HS15⟩
            case round =>
              obtain ⟨j, hj, rfl, HD, HR, HV, HVB, HBX, HSX⟩ := hrel
              have HVL : Hid (∀ b, u16.ownBlock = some b → WL.heap.size ≤ b) := fun b hb => (World.ownsRow.lt HD.out.row b hb).1
              by_cases hjn : j < n7
              · obtain ⟨r, hr⟩ : ∃ r, rv[j]? = some r := ⟨_, List.getElem?_eq_getElem (by rw [HRN.out]; exact hjn)⟩
                have hrm := List.mem_of_getElem? hr
                obtain ⟨aq, cq, eq, hrows, _⟩ := HR.out.shows HRS.out
                rw [HRN.out] at eq hrows
                simp only [Value.slice.injEq, true_and] at eq
                obtain ⟨rfl, rfl⟩ := eq
                obtain ⟨b, off, rfl, hcell⟩ := hrows.at JW.len (by decide) (show (rv.map RV.jw)[j]? = some r.jw by rw [List.getElem?_map, hr]; rfl)
                have k1 : wr.cell? ⟨b, off + j * 2 + 1, none⟩ = some (.slice (some ⟨r.g, 0, none⟩) r.l.length r.l.length) := hcell 1 _ rfl
                have HAX : Hid (Below wr.heap.size wr (wr.alloc (.cells #[.slice (some ⟨r.g, 0, none⟩) r.l.length r.l.length] 23))) := (Below.refl _ _).alloc (Nat.le_refl _) _
                have HX0 : Hid ((wr.alloc (.cells #[.slice (some ⟨r.g, 0, none⟩) r.l.length r.l.length] 23)).cell? ⟨wr.heap.size, 0, none⟩ = some (JW.v r.jw)) := (World.cell?_alloc_at _ _ _ _ rfl).trans rfl
                have HDX := hide (HD.out.below HAX.out)
                have HRX := hide (HR.out.below HAX.out)
                have HVX := hide (HV.out.below HAX.out)
                have HOX : Hid (Own (wr.alloc (.cells #[.slice (some ⟨r.g, 0, none⟩) r.l.length r.l.length] 23)) WL.heap.size (JW.v r.jw) r.jw.l) := (HRX.out.own r hrm).wk (by have := HSS.out; omega)
                have HNX : Hid (∀ k, (JW.v r.jw).ownBlock = some k → u16.ownBlock ≠ some k) := fun k hk e => by
                  have hk : some r.g = some k := hk
                  simp only [Option.some.injEq] at hk
                  have h1 := HRVb.out r hrm
                  have h2 := HSS.out
                  rcases HVB.out k e with h | h <;> omega
                have HLX : Hid (((gs ++ [(⟨0, a18, mM, c18, M⟩ : JW), ⟨0, a22, nb, c22, B⟩]) ++ (rv.take j).map RV.jw).length + 1 ≤ 4398046511104) := by
                  unfold Hid
                  rw [List.length_append, List.length_append, List.length_map, List.length_take]
                  have := HLEN.out
                  show gs.length + 2 + _ + 1 ≤ _
                  omega
                have HTK : Hid ((rv.take (j + 1)).map RV.jw = (rv.take j).map RV.jw ++ [r.jw]) := by unfold Hid; rw [List.take_add_one, hr, List.map_append]; rfl
                have HWX : Hid (WL.heap.size ≤ (wr.alloc (.cells #[.slice (some ⟨r.g, 0, none⟩) r.l.length r.l.length] 23)).heap.size) := Nat.le_trans HBX.out.size HAX.out.size
                clear hcell hr hrows
                generalize hwq : (gs ++ [(⟨0, a18, mM, c18, M⟩ : JW), ⟨0, a22, nb, c22, B⟩]) = GS at *
                go_wp2_with (refine append_db rfl (.tmp 176) (.tmp 182) rfl WL.heap.size u16 _ rfl HDX.out wr.heap.size r.jw rfl HX0.out HOX.out HNX.out HLX.out HWX.out ?_; intro v6 w6 ho hf hq; have HO6 := hide ho; have HF6 := hide hf; have HQ6 := hide hq; clear ho hf hq)
                refine ⟨⟨j + 1, by omega, by first | rfl | simp, ?_, ?_, ?_, ?_, ?_, ?_⟩, by simp [intOf]; omega⟩
                · unfold Hid; rw [HTK.out, ← List.append_assoc]; exact HO6.out
                · exact HRX.out.frm2 HF6.out (fun b hb e => by have h1 := HRVr.out b hb; have h2 := HSS.out; rcases HVB.out b e with h | h <;> omega) (fun r hr e => by have h1 := HRVb.out r hr; have h2 := HSS.out; rcases HVB.out _ e with h | h <;> omega)
                · exact HVX.out.frm2 HF6.out (fun b hb e => by have h1 := HBVr.out b hb; have h2 := HSS.out; rcases HVB.out b e with h | h <;> omega) (fun r hr e => by have h1 := HBVb.out r hr; have h2 := HSS.out; rcases HVB.out _ e with h | h <;> omega)
                · intro b hb
                  rcases HQ6.out b hb with e | e
                  · exact HVB.out b e
                  · exact .inr (by have h1 := HAX.out.size; have h2 := HSX.out; omega)
                · exact (chain HBX.out HAX.out).trans (HF6.out.below HWX.out (fun b e => HVL.out b e))
                · exact Nat.le_trans HSX.out (Nat.le_trans HAX.out.size HF6.out.size)
              · obtain rfl : n7 = j := by omega
                have e1 : rv.take n7 = rv := by rw [← HRN.out]; exact List.take_length
                rw [e1] at HD
                obtain ⟨aq, cq, eq, hrows, _⟩ := HV.out.shows (fun r hr => ⟨by have := (HBVS.out r hr).1; omega, (HBVS.out r hr).2⟩)
                rw [HLL.out] at eq hrows
                simp only [Value.slice.injEq, true_and] at eq
                obtain ⟨rfl, rfl⟩ := eq
                have HRW := hide (bv_rows hrows)
                have HOW : Hid (∀ r ∈ rs11.map RV.jw, Own wr WL.heap.size r.v r.l) := rv_own (fun r hr => (HV.out.own r hr).wk (by have := HSS.out; omega))
                have HNW : Hid (∀ r ∈ rs11.map RV.jw, ∀ k, r.v.ownBlock = some k → u16.ownBlock ≠ some k) := fun r hr k hk e => by
                  obtain ⟨q, hq, rfl⟩ := List.mem_map.1 hr
                  have hk : some q.g = some k := hk
                  simp only [Option.some.injEq] at hk
                  have h1 := HBVb.out q hq
                  have h2 := HSS.out
                  rcases HVB.out k e with h | h <;> omega
                have HLW : Hid (((gs ++ [(⟨0, a18, mM, c18, M⟩ : JW), ⟨0, a22, nb, c22, B⟩]) ++ rv.map RV.jw).length + n13 ≤ 4398046511104) := by
                  unfold Hid
                  rw [List.length_append, List.length_append, List.length_map, HRN.out]
                  have := HLEN.out
                  show gs.length + 2 + _ + _ ≤ _
                  omega
                have HPN : Hid (Pw (((gs ++ [(⟨0, a18, mM, c18, M⟩ : JW), ⟨0, a22, nb, c22, B⟩]) ++ rv.map RV.jw) ++ rs11.map RV.jw)) := by
                  have h2 := HSS.out
                  refine pw_app (pw_app (pw_app HPW.out ?_ ?_) (pw_nd HR.out.nd) ?_) (pw_nd HV.out.nd) ?_
                  · refine pw_app (a := [_]) (b := [_]) (pw_one _) (pw_one _) (fun x hx y hy k h1 h3 => ?_)
                    rw [List.mem_singleton.1 hx] at h1
                    rw [List.mem_singleton.1 hy] at h3
                    have := HJb.out k h1; have := HUb.out k h3; omega
                  · intro x hx y hy k h1 h3
                    have h4 := HGs.out x hx k h1
                    simp only [List.mem_cons, List.not_mem_nil, or_false] at hy
                    rcases hy with rfl | rfl
                    · have := HJb.out k h3; omega
                    · have := HUb.out k h3; omega
                  · intro x hx y hy k h1 h3
                    obtain ⟨q, hq, rfl⟩ := List.mem_map.1 hy
                    have h3 : some q.g = some k := h3
                    simp only [Option.some.injEq] at h3
                    have h5 := HRVb.out q hq
                    rcases List.mem_append.1 hx with hx | hx
                    · have h4 := HGs.out x hx k h1; omega
                    · simp only [List.mem_cons, List.not_mem_nil, or_false] at hx
                      rcases hx with rfl | rfl
                      · have := HJb.out k h1; omega
                      · have := HUb.out k h1; omega
                  · intro x hx y hy k h1 h3
                    obtain ⟨q, hq, rfl⟩ := List.mem_map.1 hy
                    have h3 : some q.g = some k := h3
                    simp only [Option.some.injEq] at h3
                    have h5 := HBVb.out q hq
                    rcases List.mem_append.1 hx with hx | hx
                    · rcases List.mem_append.1 hx with hx | hx
                      · have h4 := HGs.out x hx k h1; omega
                      · simp only [List.mem_cons, List.not_mem_nil, or_false] at hx
                        rcases hx with rfl | rfl
                        · have := HJb.out k h1; omega
                        · have := HUb.out k h1; omega
                    · obtain ⟨q2, hq2, rfl⟩ := List.mem_map.1 hx
                      have h1 : some q2.g = some k := h1
                      simp only [Option.some.injEq] at h1
                      have h6 := HRVb.out q2 hq2
                      omega
                have HSN : Hid (∀ r ∈ ((gs ++ [(⟨0, a18, mM, c18, M⟩ : JW), ⟨0, a22, nb, c22, B⟩]) ++ rv.map RV.jw) ++ rs11.map RV.jw, r.l.length ≤ 4398046511000) := fun x hx => by
                  rcases List.mem_append.1 hx with hx | hx
                  · rcases List.mem_append.1 hx with hx | hx
                    · rcases List.mem_append.1 hx with hx | hx
                      · exact HSZ.out x hx
                      · simp only [List.mem_cons, List.not_mem_nil, or_false] at hx
                        rcases hx with rfl | rfl
                        · show M.length ≤ _; have := HML.out.1; omega
                        · show B.length ≤ _; have := HBT.out.size; omega
                    · obtain ⟨q2, hq2, rfl⟩ := List.mem_map.1 hx
                      show q2.l.length ≤ _
                      have := HRL.out q2 hq2; omega
                  · obtain ⟨q2, hq2, rfl⟩ := List.mem_map.1 hx
                    show q2.l.length ≤ _
                    have := (HBVS.out q2 hq2).1; omega
                have HNL : Hid ((((gs ++ [(⟨0, a18, mM, c18, M⟩ : JW), ⟨0, a22, nb, c22, B⟩]) ++ rv.map RV.jw) ++ rs11.map RV.jw).length ≤ (k + 1) * 900000000000) := by
                  unfold Hid
                  rw [List.length_append, List.length_append, List.length_append, List.length_map, List.length_map, HRN.out, HLL.out]
                  have := HLEN.out
                  show gs.length + 2 + _ + _ ≤ _
                  omega
                clear hrows e1
                generalize (gs ++ [(⟨0, a18, mM, c18, M⟩ : JW), ⟨0, a22, nb, c22, B⟩]) ++ rv.map RV.jw = GS at *
                go_wp2_with (refine append_dbs rfl (.tmp 184) (.tmp 185) rfl WL.heap.size u16 GS rfl HD.out a21 n13 c21 (rs11.map RV.jw) rfl HRW.out HOW.out HNW.out HLW.out HBX.out.size ?_; intro v6 w6 ho hf hq; have HO6 := hide ho; have HF6 := hide hf; clear ho hf hq)
                exact ⟨⟨k + 1, GS ++ rs11.map RV.jw, by omega, by first | rfl | simp, HO6, HPN, HSN, HNL, HBX.out.trans (HF6.out.below HBX.out.size (fun b e => HVL.out b e))⟩, by simp [intOf]; omega⟩
        · --
          as_aux_lemma =>
            obtain rfl : 2 = k := by omega
            obtain ⟨a16, c16, e16, _⟩ := RLk.row (.inl HDB.out.row)
            subst e16
            have HLB : Hid (gs.length ≤ 4398046511000) := by unfold Hid; have := HLEN.out; omega
            obtain ⟨n16, hn16⟩ : ∃ n16, gs.length = n16 := ⟨_, rfl⟩
            rw [hn16] at HDB HLB ⊢
            have HN16 := hide hn16
            clear hn16 hk2 hk
            go_wp2_with fail
            refine Calls.mono (apart_any a16 n16 c16 WL.heap.size gs wr HDB.out HN16.out HPW.out HSZ.out HLB.out HBR.out.size) ?_
            rintro e w20 ⟨rfl, hb20⟩
            have HB20 := hide (HBR.out.trans hb20)
            have s1 := bts_string (HBB.out.below HB20.out)
            have s2 := bts_string (HBT.out.below (chain HBL.out HB20.out))
            have y1 := cell_below (cell_below Z1.out HB1L.out) HB20.out
            have y2 := cell_below (cell_below Z2.out HB1L.out) HB20.out
            have hl2 : (B ++ [201, 202]).length = nb + 2 := by rw [List.length_append, HBT.out.size]; rfl
            have m1 : w20.cell? ⟨g, nb, none⟩ = some (.int .u8 201) := cell_below (HROL.out.cellAt hl2 nb 201 (by rw [List.getElem?_append_right (by rw [HBT.out.size]; exact Nat.le_refl _), HBT.out.size, Nat.sub_self]; rfl)) HB20.out
            have m2 : w20.cell? ⟨g, nb + 1, none⟩ = some (.int .u8 202) := cell_below (HROL.out.cellAt hl2 (nb + 1) 202 (by rw [List.getElem?_append_right (by rw [HBT.out.size]; omega), HBT.out.size, show nb + 1 - nb = 1 by omega]; rfl)) HB20.out
            have m3 : w20.cell? ⟨gt, nt, none⟩ = some (.int .i64 (-77)) := cell_below (iv_last HTOL.out HTG.out.size) HB20.out
            have d1 : (nb : Int) < (nb : Int) + 2 := by omega
            have d2 : (nb : Int) + 1 < (nb : Int) + 2 := by omega
            have d3 : (nt : Int) < (nt : Int) + 1 := by omega
            have d4 : IntKind.i64.wrap ((nb : Int) + 1) = (nb : Int) + 1 := by rw [IntKind.wrap_i64]; omega
            have d5 : (0 : Int) ≤ (nb : Int) + 1 := by omega
            have d6 : ((nb : Int) + 1).toNat = nb + 1 := by omega
            have HWS : Hid (WL.heap.size ≤ w20.heap.size) := HB20.out.size
            clear hb20 hl2
            generalize str B = ZB at *
            go_wp2_with fail
            clear s1 s2 y1 m1 m2 m3 d1 d2 d3 d4 d5 d6 y2
            have HY2 := hide (cell_below (cell_below Z2.out HB1L.out) HB20.out)
            go_loopw [24] (fun i wx => ∃ j : Nat, j ≤ nt ∧ i = .int .i64 (j : Int) ∧ Hid (Below w20.heap.size w20 wx)) (fun i _ => nt - (intOf i).toNat)
            case atStart => exact ⟨0, by omega, rfl, Below.refl _ _⟩
            case round =>
              obtain ⟨j, hj, rfl, HBJ⟩ := hrel
              by_cases hjn : j < nt
              · obtain ⟨t, ht⟩ : ∃ t, ts[j]? = some t := ⟨_, List.getElem?_eq_getElem (by rw [HTG.out.size]; exact hjn)⟩
                obtain ⟨b1, off1, e1, hc1⟩ := Rcs.at (f := fun t : Int => [Value.int .i64 t]) (sz := 1) (fun _ => rfl) (by decide) (HTB.out.below (chain HB20.out HBJ.out)) ht
                obtain ⟨b2, off2, rfl, hc2⟩ := Rcs.at (f := fun t : Int => [Value.int .i64 t]) (sz := 1) (fun _ => rfl) (by decide) (HTG.out.below (chain HBL.out (chain HB20.out HBJ.out))) ht
                simp only [Option.some.injEq, Addr.mk.injEq, and_true] at e1
                obtain ⟨rfl, rfl⟩ := e1
                have k1 : wr.cell? ⟨gt, j, none⟩ = some (.int .i64 t) := by
                  have := hc1 0 _ rfl
                  rw [show 0 + j * 1 + 0 = j by omega] at this
                  exact this
                have k2 : wr.cell? ⟨b2, off2 + j, none⟩ = some (.int .i64 t) := by
                  have := hc2 0 _ rfl
                  rw [show off2 + j * 1 + 0 = off2 + j by omega] at this
                  exact this
                have k3 := cell_below HY2.out HBJ.out
                clear hc1 hc2 ht
                go_wp2_with fail
                go_region_held3 (fun wz => wz.cell? ⟨gt, j, none⟩ = some (.int .i64 t) ∧ wz.cell? ⟨b2, off2 + j, none⟩ = some (.int .i64 t) ∧ wz.cell? ⟨w.heap.size, 2, none⟩ = some (.slice (some ⟨b2, off2, none⟩) nt ct)) (exact ⟨k1, k2, k3⟩) (first | fail)
                go_wp2
                exact ⟨⟨j + 1, by omega, by first | rfl | simp, HBJ.out.drew⟩, by simp [intOf]; omega⟩
              · obtain rfl : nt = j := by omega
                obtain ⟨w21, hw21⟩ : ∃ x, x = wr := ⟨_, rfl⟩
                subst hw21
                have HB21 := hide (chain HB20.out HBJ.out)
                have HRO21 := hide (HROL.out.below HB21.out)
                have HLB0 : Hid ((B ++ [201, 202]).length = nb + 2 ∧ ∀ x ∈ B ++ [201, 202], x < 256) := by
                  refine ⟨by rw [List.length_append, HBT.out.size]; rfl, fun x hx => ?_⟩
                  rcases List.mem_append.1 hx with h | h
                  · exact HBT.out.small x h
                  · simp only [List.mem_cons, List.not_mem_nil, or_false] at h
                    omega
                clear hj hjn
                go_wp2_with fail
                go_loopw [25] (fun i wx => ∃ (q : Nat) (L : List Nat), q ≤ nb ∧ i = .int .i64 (q : Int) ∧ Hid (Own wx w1.heap.size (.slice (some ⟨g, 0, none⟩) (nb + 2) c) L) ∧ Hid (L.length = nb + 2 ∧ ∀ x ∈ L, x < 256) ∧ Hid (Frm (fun k => k = g) w21 wx)) (fun i _ => nb - (intOf i).toNat)
                case atStart => exact ⟨0, _, by omega, rfl, HRO21, HLB0, Frm.refl _ _⟩
                case round =>
                  obtain ⟨q, L, hq, rfl, HOL, HLL, HFL⟩ := hrel
                  by_cases hqn : q < nb
                  · obtain ⟨y, hy⟩ : ∃ y, L[q]? = some y := ⟨_, List.getElem?_eq_getElem (by rw [HLL.out.1]; omega)⟩
                    have k1 := HOL.out.cellAt HLL.out.1 q y hy
                    have f1 := HOL.out.frozenAt HLL.out.1 q
                    obtain ⟨x, hx⟩ : ∃ x, q % 3 = x := ⟨_, rfl⟩
                    have e1 : (q : Int).tmod 3 = (x : Int) := by rw [Int.tmod_eq_emod_of_nonneg (by omega)]; omega
                    have e2 : IntKind.u8.wrap (x : Int) = (x : Int) := by rw [IntKind.wrap_u8]; omega
                    have HX8 : Hid (x < 256) := by unfold Hid; omega
                    have HOP := hide (HOL.out.stored HLL.out.1 q x)
                    clear hy hx
                    go_wp2
                    refine ⟨⟨q + 1, _, by omega, by first | rfl | simp, HOP, ?_, ?_⟩, by simp [intOf]; omega⟩
                    · refine ⟨by rw [List.length_set]; exact HLL.out.1, fun z hz => ?_⟩
                      rcases List.mem_or_eq_of_mem_set hz with h | rfl
                      · exact HLL.out.2 z h
                      · exact HX8.out
                    · exact HFL.out.trans (frm_setCell _ ⟨g, q, none⟩ _) (fun _ _ t => t)
                  · obtain rfl : nb = q := by omega
                    obtain ⟨w22, hw22⟩ : ∃ x, x = wr := ⟨_, rfl⟩
                    subst hw22
                    have HB2 := hide ((HOL.out.bts HLL.out.1 (by omega) HLL.out.2).take nb (by omega))
                    have HL2 : Hid ((L.take nb).length = nb) := by unfold Hid; rw [List.length_take, HLL.out.1]; omega
                    have HM2 : Hid (∀ x ∈ L.take nb, x < 256) := fun x hx => HLL.out.2 x (List.mem_of_mem_take hx)
                    have HGW : Hid (w1.heap.size ≤ g) := HGR.out.1
                    have HBW : Hid (Below w.heap.size w w22) := (chain HBL.out HB21.out).trans (HFL.out.below (chain HBL.out HB21.out).size (fun k (e : k = g) => by have h1 := HGW.out; have h2 := HB1.out.size; omega))
                    have HTW : Hid (Two w22 g7 (.int .i64 (k7 : Int)) (.int .i64 q7)) := (HT7L.out.below HB21.out).frm HFL.out (fun (e : g7 = g) => by have := HG7.out; omega)
                    clear hq hqn HOL HLL
                    generalize L.take nb = B2 at *
                    have hs2 : (str B2).size = nb := by rw [str_size, HL2.out]
                    have hb2 : bytesOf (str B2) = B2 := bytesOf_str HM2.out
                    have s1 := bts_string HB2.out
                    obtain ⟨c23, w23, hr23, hx23, hb23⟩ := conv_lay w22 (str B2) nb hs2 (by omega)
                    rw [hb2] at hx23
                    have HCL : Hid (∀ wx : World, ∃ c' w', (convert 9 23 (.string (str B2))).run Tryd.prog wx = .ok (.slice (some ⟨wx.heap.size, 0, none⟩) nb c') w' ∧ Bts w' (some ⟨wx.heap.size, 0, none⟩) nb c' B2 ∧ Below wx.heap.size wx w') := fun wx => by
                      obtain ⟨c', w', h1, h2, h3⟩ := conv_lay wx (str B2) nb hs2 (by omega)
                      rw [hb2] at h2
                      exact ⟨c', w', h1, h2, h3⟩
                    have HSTR : Hid (∀ wx : World, Bts wx (some ⟨g, 0, none⟩) nb c B2 → (convert 23 9 (.slice (some ⟨g, 0, none⟩) nb c)).run Tryd.prog wx = .ok (.string (str B2)) wx) := fun wx h => bts_string h
                    have H23 := hide hb23
                    have HX23 := hide hx23
                    clear hs2 hb2 hb23 hx23
                    generalize str B2 = Z2 at *
                    go_wp2_with fail
                    clear s1 hr23
                    refine Calls.mono (dsplit_any (some ⟨w22.heap.size, 0, none⟩) nb c23 B2 w23 HX23.out (by omega)) ?_
                    rintro e w24 ⟨hb24, hD⟩
                    obtain ⟨a24, n24, c24, k24, q24, rfl, hn24, hD24⟩ := split_both HL2.out HM2.out hD
                    have H24 := hide (chain H23.out hb24)
                    have HT24 := hide (HTW.out.below H24.out)
                    have HG23 : Hid (g7 < w23.heap.size) := by unfold Hid; have h0 : g7 < w22.heap.size := block_lt_of_cell HTW.out.c0; have := H23.out.size; omega
                    have HF25 := hide ((frm_setCell w24 ⟨g7, 0, none⟩ (.int .i64 (k24 : Int))).trans (frm_setCell _ ⟨g7, 1, none⟩ (.int .i64 q24)) (fun j _ t => t))
                    have HD25 := hide (hD24.frm HF25.out (fun k hk (e : k = g7) => by have := HG23.out; omega))
                    have HT25 := hide (HT24.out.set (.int .i64 (k24 : Int)) (.int .i64 q24))
                    have HBX25 : Hid (Bts ((w24.setCell ⟨g7, 0, none⟩ (.int .i64 (k24 : Int))).setCell ⟨g7, 1, none⟩ (.int .i64 q24)) (some ⟨g, 0, none⟩) nb c B2) := (HB2.out.below H24.out).frm HF25.out (fun b off e (e2 : b = g7) => by
                      simp only [Option.some.injEq, Addr.mk.injEq, and_true] at e
                      have := HG7.out
                      omega)
                    have HBW25 := hide (bel_two (u := .int .i64 (k24 : Int)) (v := .int .i64 q24) (chain HBW.out H24.out) (show w.heap.size ≤ g7 by have h1 := HG7.out; have h2 := HGW.out; have h3 := HB1.out.size; omega))
                    have t0 := HT24.out.c0
                    have t1 := HT24.out.c1
                    have f0 := HT24.out.f0
                    have f1 := HT24.out.f1
                    clear hb24 hD hD24
                    unfold rerr
                    go_upto_region 47 with fail
                    clear t0 t1 f0 f1 HT24 HF25 HTW HB2
                    generalize ((w24.setCell ⟨g7, 0, none⟩ (.int .i64 (k24 : Int))).setCell ⟨g7, 1, none⟩ (.int .i64 q24)) = W25 at *
                    go_wp2_with fail
                    refine Calls.mono (split_any (some ⟨g, 0, none⟩) nb c B2 W25 HBX25.out (HE.out.below HBW25.out).three (by omega)) ?_
                    rintro e w26 ⟨hb26, hP⟩
                    obtain ⟨aP, cP, ev26, rsD, rsP, rfl, hi26, hR1, hK1, hR2, hK2, hkk⟩ := split_two HL2.out HM2.out HD25.out hP hb26
                    have H26 := hide hb26
                    have HSR := hide (fun wx hbx => sameRecs_ok aP n24 cP rsP a24 c24 rsD wx (hR1.below hbx) (fun r hr => (hK1 r hr).below hbx) (hR2.below hbx) (fun r hr => (hK2 r hr).below hbx) hkk (by omega))
                    have HI26 := hide hi26
                    have HT26 := hide (HT25.out.below hb26)
                    have t0 := HT26.out.c0
                    have t1 := HT26.out.c1
                    clear hP hi26 hR1 hK1 hR2 hK2 hkk hb26
                    go_wp2_with fail
                    clear t0 t1
                    refine Calls.mono (same_yes ev26 k24 q24 w26 (HE.out.below (chain HBW25.out H26.out)) HI26.out) ?_
                    rintro e w27 ⟨rfl, hb27⟩
                    have HSR2 := hide (HSR.out w27 hb27)
                    have H27 := hide (chain H26.out hb27)
                    clear hb27 HSR HI26
                    go_wp2_with fail
                    refine Calls.mono HSR2.out ?_
                    rintro e w28 ⟨rfl, hb28⟩
                    have H28 := hide (chain H27.out hb28)
                    clear hb28 HSR2
                    go_wp2_with fail
                    refine Calls.mono (hex_any (some ⟨g, 0, none⟩) nb c B2 w28 (HBX25.out.below H28.out) (by omega)) ?_
                    rintro e w29 ⟨rfl, hb29⟩
                    have H29 := hide (chain H28.out hb29)
                    obtain ⟨c30, w30, hr30, hx30, hb30⟩ := HCL.out w29
                    have H30 := hide (chain H29.out hb30)
                    have HDX := hide (dhex_any (some ⟨w29.heap.size, 0, none⟩) nb c30 B2 w30 hx30 (by omega))
                    clear hb29 hx30 hb30
                    generalize str (hexOf B2) = ZX at *
                    go_wp2_with fail
                    clear hr30
                    refine Calls.mono HDX.out ?_
                    rintro e w31 ⟨rfl, hb31⟩
                    have H31 := hide (chain H30.out hb31)
                    have s1 := HSTR.out w31 (HBX25.out.below H31.out)
                    clear hb31
                    go_wp2
                    go_ret
                    exact ⟨rfl, chain HBW25.out H31.out⟩
end Go.Proofs.YtohoncgkekiihaaDoor.wireMemory
