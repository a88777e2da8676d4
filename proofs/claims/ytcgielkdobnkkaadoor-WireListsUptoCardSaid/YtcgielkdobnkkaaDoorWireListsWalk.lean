/-
  Walk of the law WireLists.
-/
import Derived.Test.YtcgielkdobnkkaaDoorDlBoth
import Derived.Deep.CutBlock
import Derived.Deep.RegionHeld3
namespace Go.Proofs.YtcgielkdobnkkaaDoor.wireLists
open Go.RowKit FerryCrc
set_option linter.unusedVariables false
set_option linter.unusedSimpArgs false

set_option maxRecDepth 100000 in
set_option maxHeartbeats 4000000 in
theorem law {E : Nat → Addr} (a : Option Addr) (len cap : Nat) (rs : List JW) (ab : Option Addr) (nb cb : Nat) (B : List Nat) (at_ : Option Addr) (nt ct : Nat) (ts : List Int) (S : ByteArray) (w : World) (he : Errs w E) (hs : Rcs JW.cells 2 w a len cap rs) (hok : ∀ r ∈ rs, Bts w r.a r.n r.c r.l) (hb : Bts w ab nb cb B)
    (ht : Rcs (fun t : Int => [.int .i64 t]) 1 w at_ nt ct ts) (hroom : jroom rs ≤ 4398046510000) (hm : len ≤ 4398046511000) (hnb : nb ≤ 4398046510000) (hnt : nt ≤ 4398046510000) (hS : S.size ≤ 4398046510000) :
    Calls Tryd.prog 5 #[.agg #[.slice a len cap, .slice ab nb cb, .slice at_ nt ct, .string S]] w fun e w' => e = .returned (.bool true) ∧ Below w.heap.size w w' := by
  have hsmall : ∀ r ∈ rs, r.l.length ≤ 140737488355328 ∧ ∀ c ∈ r.l, c < 256 := fun r hr => ⟨by have := (hok r hr).most; have := (hok r hr).size; omega, (hok r hr).small⟩
  have HE := hide he
  have HS := hide hs
  have HOK := hide hok
  have HSM := hide hsmall
  have HBT := hide hb
  have HTG := hide ht
  have HRM := hide hroom
  clear he hs hok hb hsmall hroom ht
  have HA : Hid (Below w.heap.size w (w.alloc (.cells #[.slice a len cap, .slice ab nb cb, .slice at_ nt ct, .string S] 55))) := (Below.refl _ _).alloc (Nat.le_refl _) _
  have z0 : (w.alloc (.cells #[.slice a len cap, .slice ab nb cb, .slice at_ nt ct, .string S] 55)).cell? ⟨w.heap.size, 0, none⟩ = some (.slice a len cap) := (World.cell?_alloc_at _ _ _ _ rfl).trans rfl
  have z1 : (w.alloc (.cells #[.slice a len cap, .slice ab nb cb, .slice at_ nt ct, .string S] 55)).cell? ⟨w.heap.size, 1, none⟩ = some (.slice ab nb cb) := (World.cell?_alloc_at _ _ _ _ rfl).trans rfl
  have z2 : (w.alloc (.cells #[.slice a len cap, .slice ab nb cb, .slice at_ nt ct, .string S] 55)).cell? ⟨w.heap.size, 2, none⟩ = some (.slice at_ nt ct) := (World.cell?_alloc_at _ _ _ _ rfl).trans rfl
  have z3 : (w.alloc (.cells #[.slice a len cap, .slice ab nb cb, .slice at_ nt ct, .string S] 55)).cell? ⟨w.heap.size, 3, none⟩ = some (.string S) := (World.cell?_alloc_at _ _ _ _ rfl).trans rfl
  go_enter Tryd.func5, Tryd.ntmps5
  go_wp2_with fail
  generalize (w.alloc (.cells #[.slice a len cap, .slice ab nb cb, .slice at_ nt ct, .string S] 55)) = W0 at *
  refine Calls.mono (fixed_any W0 (HE.out.below HA.out)) ?_
  rintro e w1 ⟨rfl, hb1⟩
  have HB1 := hide (chain HA.out hb1)
  have y0 := cell_below z0 hb1
  have Z0 := hide y0
  have Z1 := hide (cell_below z1 hb1)
  have Z2 := hide (cell_below z2 hb1)
  have Z3 := hide (cell_below z3 hb1)
  clear hb1 HA z0 z1 z2 z3
  have HJL : Hid ((jfold rs).2.length ≤ 4398046510000) := by unfold Hid; have := jfold_len rs; have := HRM.out; omega
  have HJS : Hid (∀ c ∈ (jfold rs).2, c < 256) := jfold_small rs (fun r hr => (HSM.out r hr).2)
  have HDJ := hide (djoin_all a len cap rs w1 (HS.out.below HB1.out) (fun r hr => (HOK.out r hr).below HB1.out) (by have := HRM.out; omega) (by omega))
  have HPJ : Hid (∀ (a2 : Option Addr) (c2 : Nat) (rs' : List JW) (wx : World), rs'.map JW.key = rs.map JW.key → Below w.heap.size w wx → Rcs JW.cells 2 wx a2 len c2 rs' → (∀ r ∈ rs', Bts wx r.a r.n r.c r.l) → Calls Tryd.prog 22 #[.slice a2 len c2] wx fun e w' => PDone wx E (jfold rs).1 (jfold rs).2 e w') := fun a2 c2 rs' wx hk hbx hr hbs => by
    have := join_all a2 len c2 rs' wx hr hbs (HE.out.below hbx) (by rw [jroom_key hk]; have := HRM.out; omega) (by omega)
    rw [jfold_key hk] at this
    exact this
  generalize jfold rs = J at *
  obtain ⟨jk, jl⟩ := J
  obtain ⟨M, hM⟩ : ∃ M, (if jk = 0 then jl else []) = M := ⟨_, rfl⟩
  have HML : Hid (M.length ≤ 140737488355328 ∧ ∀ c ∈ M, c < 256) := by
    unfold Hid
    rw [← hM]
    split
    · exact ⟨by have := HJL.out; show jl.length ≤ _; have h : jl.length ≤ 4398046510000 := HJL.out; omega, HJS.out⟩
    · exact ⟨by decide, fun c hc => by simp at hc⟩
  obtain ⟨jq, hjq⟩ : ∃ jq, dq jk jl = jq := ⟨_, rfl⟩
  unfold DDone at HDJ
  unfold PDone at HPJ
  simp only [hM] at HDJ HPJ
  rw [show (if jk = 0 then (-1 : Int) else (jl.length : Int)) = dq jk jl from rfl, hjq] at HPJ
  rw [hjq] at HDJ
  clear hM hjq HJL HJS
  go_wp2_with fail
  refine Calls.mono HDJ.out ?_
  rintro e w2 ⟨v2, rfl, ho2, hb2⟩
  obtain ⟨a2, c2, rfl, hx2⟩ := ho2.shown HML.out.1 HML.out.2
  have HX2 := hide hx2
  have HB2 := hide hb2
  have HT2 := hide (two_alloc w2 (.int .i64 (jk : Int)) (.int .i64 jq) 50)
  have HA2 : Hid (Below w2.heap.size w2 (w2.alloc (.cells #[.int .i64 (jk : Int), .int .i64 jq] 50))) := (Below.refl _ _).alloc (Nat.le_refl _) _
  have y3 := cell_below Z0.out (chain HB2.out HA2.out)
  obtain ⟨g4, hg4⟩ : ∃ g4, w2.heap.size = g4 := ⟨_, rfl⟩
  have HG4 : Hid (w1.heap.size ≤ g4) := by unfold Hid; have := HB2.out.size; omega
  rw [hg4] at HT2
  clear hx2 hb2 ho2 HDJ y0
  unfold rerr
  go_wp2_with fail
  have HB3 := hide (chain HB2.out HA2.out)
  have HX3 := hide (HX2.out.below HA2.out)
  clear hg4 HA2 HX2 HB2
  generalize w2.alloc (.cells #[.int .i64 (jk : Int), .int .i64 jq] 50) = W3 at *
  refine Calls.mono (recs_any a len cap rs W3 (HS.out.below (chain HB1.out HB3.out)) (fun r hr => (HOK.out r hr).below (chain HB1.out HB3.out)) hm) ?_
  rintro e w4 ⟨hb4, rs', v4, hkey, rfl, hown⟩
  have hsm' : ∀ r ∈ rs', r.l.length ≤ 140737488355328 ∧ ∀ c ∈ r.l, c < 256 := fun r hr => by
    have h1 : r.key ∈ rs.map JW.key := by rw [← hkey]; exact List.mem_map.2 ⟨r, hr, rfl⟩
    obtain ⟨q, hq, e⟩ := List.mem_map.1 h1
    have e2 : q.l = r.l := congrArg Prod.snd e
    rw [← e2]
    exact HSM.out q hq
  obtain ⟨a4, c4, rfl, hr4, hb4s⟩ := hown.shows hsm'
  have hl4 : rs'.length = len := by
    have h1 := congrArg List.length hkey
    rw [List.length_map, List.length_map, HS.out.size] at h1
    exact h1
  rw [hl4] at hr4 ⊢
  have HB4 := hide (chain HB3.out hb4)
  have HT4 := hide (HT2.out.below hb4)
  have HX4 := hide (HX3.out.below hb4)
  have HJJ := hide (HPJ.out a4 c4 rs' w4 hkey (chain HB1.out HB4.out) hr4 hb4s)
  clear hb4 hown hr4 hb4s hsm' hkey hl4 HPJ HB3 HT2 HX3 y3
  go_wp2_with fail
  refine Calls.mono HJJ.out ?_
  rintro e w5 ⟨v5, ev5, rfl, hi5, ho5, hb5⟩
  obtain ⟨a5, c5, rfl, hx5⟩ := ho5.shown HML.out.1 HML.out.2
  have HB5 := hide (chain HB4.out hb5)
  have HT5 := hide (HT4.out.below hb5)
  have HX5 := hide (HX4.out.below hb5)
  have HY5 := hide hx5
  have HI5 := hide hi5
  have t0 := HT5.out.c0
  have t1 := HT5.out.c1
  clear hi5 ho5 hb5 hx5 HB4 HT4 HX4 HJJ
  go_wp2_with fail
  refine Calls.mono (same_yes ev5 jk jq w5 (HE.out.below (chain HB1.out HB5.out)) HI5.out) ?_
  rintro e w6 ⟨rfl, hb6⟩
  have HB6 := hide (chain HB5.out hb6)
  have HT6 := hide (HT5.out.below hb6)
  have s1 := bts_string (HX5.out.below hb6)
  have s2 := bts_string (HY5.out.below hb6)
  have y1 := cell_below Z1.out HB6.out
  clear hb6 t0 t1 HB5 HT5 HX5 HY5 HI5
  generalize str M = ZM at *
  go_wp2_with fail
  clear s1 s2
  refine Calls.mono (dsplit_any ab nb cb B w6 (HBT.out.below (chain HB1.out HB6.out)) (by omega)) ?_
  rintro e w7 ⟨hb7, hD⟩
  obtain ⟨a7, n7, c7, k7, q7, rfl, hn7, hD7⟩ := split_both HBT.out.size HBT.out.small hD
  have HB7 := hide (chain HB6.out hb7)
  have HT7 := hide (HT6.out.below hb7)
  have HG6 : Hid (g4 < w6.heap.size) := block_lt_of_cell HT6.out.c0
  have HF7 := hide ((frm_setCell w7 ⟨g4, 0, none⟩ (.int .i64 (k7 : Int))).trans (frm_setCell _ ⟨g4, 1, none⟩ (.int .i64 q7)) (fun j _ t => t))
  have HD8 := hide (hD7.frm HF7.out (fun k hk (e : k = g4) => by have := HG6.out; omega))
  have HT8 := hide (HT7.out.set (.int .i64 (k7 : Int)) (.int .i64 q7))
  have HB8 := hide (bel_two (u := .int .i64 (k7 : Int)) (v := .int .i64 q7) HB7.out HG4.out)
  have t0 := HT7.out.c0
  have t1 := HT7.out.c1
  have f0 := HT7.out.f0
  have f1 := HT7.out.f1
  clear hb7 hD hD7 HB6 HT6 y1
  unfold rerr
  go_upto_region 8 with fail
  clear t0 t1 f0 f1 HT7 HF7 HB7
  generalize ((w7.setCell ⟨g4, 0, none⟩ (.int .i64 (k7 : Int))).setCell ⟨g4, 1, none⟩ (.int .i64 q7)) = W8 at *
  have y8 := cell_below Z1.out HB8.out
  have HA8 : Hid (Below W8.heap.size W8 (W8.alloc (.cells #[] 5))) := (Below.refl _ _).alloc (Nat.le_refl _) _
  have ya := cell_below y8 HA8.out
  have HBT8 := hide (HBT.out.below (chain HB1.out HB8.out))
  go_wp2_with (refine append_copy rfl (.tmp 47) (.tmp 49) rfl rfl ab nb cb B rfl HBT8.out ?_; intro a9 c9 w9 ho hx hb; have HX9 := hide hx; have HB9 := hide hb; clear ho hx hb)
  refine Calls.mono (split_any a9 nb c9 B w9 HX9.out (HE.out.below (chain HB1.out (chain HB8.out HB9.out))).three (by omega)) ?_
  rintro e w10 ⟨hb10, hP⟩
  obtain ⟨aP, cP, ev10, rsD, rsP, rfl, hi10, hR1, hK1, hR2, hK2, hkk⟩ := split_two HBT.out.size HBT.out.small HD8.out hP (chain HB9.out hb10)
  have HB10 := hide (chain HB8.out (chain HB9.out hb10))
  have HT10 := hide (HT8.out.below (chain HB9.out hb10))
  have HSR := hide (fun wx hbx => sameRecs_ok aP n7 cP rsP a7 c7 rsD wx (hR1.below hbx) (fun r hr => (hK1 r hr).below hbx) (hR2.below hbx) (fun r hr => (hK2 r hr).below hbx) hkk (by omega))
  have HI10 := hide hi10
  have t0 := HT10.out.c0
  have t1 := HT10.out.c1
  clear hP hi10 hR1 hK1 hR2 hK2 hkk hb10 HD8 HX9 HB9 HB8 HT8 HBT8 y8 ya HA8
  go_wp2_with fail
  refine Calls.mono (same_yes ev10 k7 q7 w10 (HE.out.below (chain HB1.out HB10.out)) HI10.out) ?_
  rintro e w11 ⟨rfl, hb11⟩
  have HB11 := hide (chain HB10.out hb11)
  have HT11 := hide (HT10.out.below hb11)
  have HSR2 := hide (HSR.out w11 hb11)
  clear hb11 HB10 HT10 t0 t1 HSR
  go_wp2_with fail
  refine Calls.mono HSR2.out ?_
  rintro e w12 ⟨rfl, hb12⟩
  have HB12 := hide (chain HB11.out hb12)
  have HT12 := hide (HT11.out.below hb12)
  have y1 := cell_below Z1.out HB12.out
  have y2 := cell_below Z2.out HB12.out
  clear hb12 HB11 HT11 HSR2
  go_wp2_with fail
  refine Calls.mono (dexpect_any E ab nb cb B at_ nt ct ts w12 (HBT.out.below (chain HB1.out HB12.out)) (HTG.out.below (chain HB1.out HB12.out)) (by omega) (by omega)) ?_
  rintro e w13 ⟨hb13, rsE, v13, rfl, hbs, hown13⟩
  have HPE : Hid (∀ (a1 : Option Addr) (c1 : Nat) (a2 : Option Addr) (c2 : Nat) (wx : World), Below w.heap.size w wx → Bts wx a1 nb c1 B → Rcs (fun t : Int => [.int .i64 t]) 1 wx a2 nt c2 ts → Calls Tryd.prog 28 #[.slice a1 nb c1, .slice a2 nt c2] wx fun e w' => Below wx.heap.size wx w' ∧ ∃ rs v ev, e = .returned (.tuple #[v, ev]) ∧ IsErr w' E ev (expE B nb 0 ts).1 (expE B nb 0 ts).2.1 ∧ rs.map RV.l = (expE B nb 0 ts).2.2 ∧ BvOwn w' wx.heap.size v rs) := fun a1 c1 a2 c2 wx hbx h1 h2 => pexpect_any a1 nb c1 B a2 nt c2 ts wx h1 h2 (HE.out.below hbx) (by omega) (by omega)
  have HBS : Hid (∀ l ∈ (expE B nb 0 ts).2.2, l.length ≤ 140737488355328 ∧ ∀ c ∈ l, c < 256) := fun l hl => by
    obtain ⟨h1, h2⟩ := exp_small B nb ts 0 l hl
    have := HBT.out.size
    exact ⟨by omega, fun c hc => HBT.out.small c (h2 c hc)⟩
  have HBN : Hid ((expE B nb 0 ts).2.2.length ≤ nt) := by unfold Hid; have := exp_len B nb ts 0; rw [HTG.out.size] at this; exact this
  generalize expE B nb 0 ts = X at *
  obtain ⟨k13, q13, bs⟩ := X
  have hsz13 : ∀ r ∈ rsE, r.l.length ≤ 140737488355328 ∧ ∀ c ∈ r.l, c < 256 := fun r hr => HBS.out r.l (by show r.l ∈ bs; have h : rsE.map JW.l = bs := hbs; rw [← h]; exact List.mem_map.2 ⟨r, hr, rfl⟩)
  obtain ⟨a13, c13, rfl, _, _⟩ := hown13.shows hsz13
  obtain ⟨n13, hn13⟩ : ∃ n13, rsE.length = n13 := ⟨_, rfl⟩
  have hn13b : n13 ≤ 4398046510000 := by
    have h1 : rsE.map JW.l = bs := hbs
    have h2 : bs.length ≤ nt := HBN.out
    rw [← h1, List.length_map, hn13] at h2
    omega
  have HT13 := hide (HT12.out.below hb13)
  have HG12 : Hid (g4 < w12.heap.size) := block_lt_of_cell HT12.out.c0
  have HF13 := hide ((frm_setCell w13 ⟨g4, 0, none⟩ (.int .i64 (k13 : Int))).trans (frm_setCell _ ⟨g4, 1, none⟩ (.int .i64 q13)) (fun j _ t => t))
  have hown14 := hown13.frm HF13.out (fun k hk (e : k = g4) => by have := HG12.out; omega)
  obtain ⟨a14, c14, e14, hR14, hK14⟩ := hown14.shows hsz13
  simp only [Value.slice.injEq] at e14
  obtain ⟨rfl, _, rfl⟩ := e14
  have HT14 := hide (HT13.out.set (.int .i64 (k13 : Int)) (.int .i64 q13))
  have HB13 := hide (chain HB12.out hb13)
  have HB14 := hide (bel_two (u := .int .i64 (k13 : Int)) (v := .int .i64 q13) HB13.out HG4.out)
  have t0 := HT13.out.c0
  have t1 := HT13.out.c1
  have f0 := HT13.out.f0
  have f1 := HT13.out.f1
  rw [hn13] at hR14 ⊢
  have HR14 := hide hR14
  have HK14 := hide hK14
  have HL13 := hide hbs
  have HN13 := hide hn13
  clear hb13 hbs hown13 hown14 hR14 hK14 hn13 y1 y2 HB12 HT12
  unfold rerr
  go_upto_region 12 with fail
  clear t0 t1 f0 f1 HT13 HF13 HB13
  generalize ((w13.setCell ⟨g4, 0, none⟩ (.int .i64 (k13 : Int))).setCell ⟨g4, 1, none⟩ (.int .i64 q13)) = W14 at *
  have y1 := cell_below Z1.out HB14.out
  have y2 := cell_below Z2.out HB14.out
  have Y1 := hide y1
  have Y2 := hide y2
  go_cut [6, 10] from 14 (fun v6 v10 wx => ∃ (rsP : List RV) (aP : Option Addr) (cP : Nat), v10 = .slice aP n13 cP ∧ Hid (IsErr wx E v6 k13 q13) ∧ Hid (rsP.map RV.l = bs) ∧ Hid (Rcs (fun r : RV => [r.v]) 1 wx aP n13 cP rsP) ∧ Hid (∀ r ∈ rsP, Bts wx (some ⟨r.g, 0, none⟩) r.l.length r.l.length r.l) ∧ Hid (Below W14.heap.size W14 wx))
  case first =>
    as_aux_lemma =>
      have HBT14 := hide (HBT.out.below (chain HB1.out HB14.out))
      have HTG14 := hide (HTG.out.below (chain HB1.out HB14.out))
      have hzn : ([] : List Nat).length + nb ≤ 140737488355328 := by simp; omega
      have HZN := hide hzn
      have HBL : Hid (B.length ≤ 140737488355328) := by unfold Hid; rw [HBT.out.size]; omega
      have HSH : Hid (∀ (wx : World) (bx : Nat) (v : Value), Own wx bx v B → ∃ a3 c3, v = .slice a3 nb c3 ∧ Bts wx a3 nb c3 B) := fun wx bx v ho => by
        obtain ⟨a3, c3, e, hx⟩ := ho.shown (by rw [HBT.out.size]; omega) HBT.out.small
        rw [HBT.out.size] at e hx
        exact ⟨a3, c3, e, hx⟩
      have HAa : Hid (Below W14.heap.size W14 ((W14.alloc (.cells #[] 5)).drew)) := ((Below.refl _ _).alloc (Nat.le_refl _) _).drew
      have HOa : Hid (Own ((W14.alloc (.cells #[] 5)).drew) W14.heap.size (.slice (some ⟨W14.heap.size, 0, none⟩) 0 0) []) := (own_empty W14).frm (S := fun _ => False) (Frm.refl _ _).drew (fun _ _ h => h)
      have HAb : Hid (Below W14.heap.size W14 (((W14.alloc (.cells #[] 5)).alloc (.cells #[] 3)).drew)) := (((Below.refl _ _).alloc (Nat.le_refl _) _).alloc (by simp) _).drew
      have HOb : Hid (Own (((W14.alloc (.cells #[] 5)).alloc (.cells #[] 3)).drew) W14.heap.size (.slice (some ⟨W14.heap.size, 0, none⟩) 0 0) []) := (own_empty W14).frm (S := fun _ => False) (Frm.ofBelow ((Below.refl _ _).alloc (Nat.le_refl _) _)).drew (fun _ _ h => h)
      have HIb : Hid (IvOwn (((W14.alloc (.cells #[] 5)).alloc (.cells #[] 3)).drew) W14.heap.size (.slice (some ⟨W14.heap.size + 1, 0, none⟩) 0 0) []) := by
        have h1 := own_emptyI (W14.alloc (.cells #[] 5))
        rw [show (W14.alloc (.cells #[] 5)).heap.size = W14.heap.size + 1 by simp] at h1
        exact iv_frm (S := fun _ => False) (ownsRow_weaken h1 (by omega)) (Frm.refl _ _).drew (fun _ _ h => h)
      have HAc : Hid (Below W14.heap.size W14 (((W14.alloc (.cells #[] 3)).alloc (.cells #[] 5)).drew)) := (((Below.refl _ _).alloc (Nat.le_refl _) _).alloc (by simp) _).drew
      have HIc : Hid (IvOwn (((W14.alloc (.cells #[] 3)).alloc (.cells #[] 5)).drew) W14.heap.size (.slice (some ⟨W14.heap.size, 0, none⟩) 0 0) []) := iv_frm (S := fun _ => False) (own_emptyI W14) (Frm.ofBelow ((Below.refl _ _).alloc (Nat.le_refl _) _)).drew (fun _ _ h => h)
      have HOc : Hid (Own (((W14.alloc (.cells #[] 3)).alloc (.cells #[] 5)).drew) W14.heap.size (.slice (some ⟨W14.heap.size + 1, 0, none⟩) 0 0) []) := by
        have h1 := own_empty (W14.alloc (.cells #[] 3))
        rw [show (W14.alloc (.cells #[] 3)).heap.size = W14.heap.size + 1 by simp] at h1
        exact (h1.wk (by omega)).frm (S := fun _ => False) (Frm.refl _ _).drew (fun _ _ h => h)
      have HSb : Hid ((((W14.alloc (.cells #[] 5)).alloc (.cells #[] 3)).drew).heap.size = W14.heap.size + 2) := by unfold Hid; simp [World.drew]
      have HSc : Hid ((((W14.alloc (.cells #[] 3)).alloc (.cells #[] 5)).drew).heap.size = W14.heap.size + 2) := by unfold Hid; simp [World.drew]
      have HAd : Hid (Below W14.heap.size W14 ((W14.alloc (.cells #[] 3)).drew)) := ((Below.refl _ _).alloc (Nat.le_refl _) _).drew
      clear hzn
      go_region_held3 (fun wz => wz.cell? ⟨w.heap.size, 1, none⟩ = some (.slice ab nb cb) ∧ wz.cell? ⟨w.heap.size, 2, none⟩ = some (.slice at_ nt ct)) (first | exact ⟨cell_below y1 HB8.out, cell_below y2 HB8.out⟩ | exact ⟨cell_below y1 HB7.out, cell_below y2 HB7.out⟩ | exact ⟨cell_below y1 HB3a.out, cell_below y2 HB3a.out⟩ | exact ⟨cell_below y1 HB3.out, cell_below y2 HB3.out⟩ | exact ⟨y1, y2⟩ | exact ⟨cell_below y1 HAa.out, cell_below y2 HAa.out⟩ | exact ⟨cell_below y1 HAb.out, cell_below y2 HAb.out⟩ | exact ⟨cell_below y1 HAc.out, cell_below y2 HAc.out⟩ | exact ⟨cell_below y1 HAd.out, cell_below y2 HAd.out⟩)
        (first
          | (refine step_app rfl (.tmp 73) (.tmp 75) rfl W14.heap.size (.slice (some ⟨W14.heap.size, 0, none⟩) 0 0) [] (by simp [Act.eval]) HOa.out ab nb cb B (by simp [Act.eval]) (HBT14.out.below HAa.out) HZN.out HAa.out.size ?_; intro v3 w3 ho hf hq; rw [List.nil_append] at ho; obtain ⟨a3, c3, rfl, hx3⟩ := HSH.out _ _ _ ho; have HX3 := hide hx3; have HO3 := hide ho; have HB3 := hide (HAa.out.trans (hf.below HAa.out.size (fun j e => (World.ownsRow.lt HOa.out j e).1))); have HA3 : Hid (Below w3.heap.size w3 (w3.alloc (.cells #[] 3))) := (Below.refl _ _).alloc (Nat.le_refl _) _; have HB3a := hide (chain HB3.out HA3.out); have HO3a := hide (own_emptyI w3); clear ho hf hx3 hq)
          | (refine step_app rfl (.tmp 73) (.tmp 75) rfl W14.heap.size (.slice (some ⟨W14.heap.size, 0, none⟩) 0 0) [] (by simp [Act.eval]) HOb.out ab nb cb B (by simp [Act.eval]) (HBT14.out.below HAb.out) HZN.out HAb.out.size ?_; intro v3 w3 ho hf hq; rw [List.nil_append] at ho; obtain ⟨a3, c3, rfl, hx3⟩ := HSH.out _ _ _ ho; have HX3 := hide hx3; have HO3 := hide ho; have HB3 := hide (HAb.out.trans (hf.below HAb.out.size (fun j e => (World.ownsRow.lt HOb.out j e).1))); have HIVb := hide (iv_keep (h := W14.heap.size + 1) HIb.out hf (by omega)); have HNEb : Hid (∀ k, (Value.slice a3 nb c3).ownBlock = some k → ¬ k = W14.heap.size + 1) := own_keep hq (by omega) (by rw [HSb.out]; omega); clear ho hf hx3 hq)
          | (refine step_app rfl (.tmp 73) (.tmp 75) rfl W14.heap.size (.slice (some ⟨W14.heap.size + 1, 0, none⟩) 0 0) [] (by simp [Act.eval]) HOc.out ab nb cb B (by simp [Act.eval]) (HBT14.out.below HAc.out) HZN.out HAc.out.size ?_; intro v3 w3 ho hf hq; rw [List.nil_append] at ho; obtain ⟨a3, c3, rfl, hx3⟩ := HSH.out _ _ _ ho; have HX3 := hide hx3; have HO3 := hide ho; have HB3 := hide (HAc.out.trans (hf.below HAc.out.size (fun j e => (World.ownsRow.lt HOc.out j e).1))); have HIVc := hide (iv_keep (h := W14.heap.size) HIc.out hf (by omega)); have HNEc : Hid (∀ k, (Value.slice a3 nb c3).ownBlock = some k → ¬ k = W14.heap.size) := own_keep hq (by omega) (by rw [HSc.out]; omega); clear ho hf hx3 hq)
          | (refine step_ivs rfl (.tmp 77) (.tmp 79) rfl w3.heap.size w3.heap.size (by simp [Act.eval]) HO3a.out at_ nt ct ts (by simp [Act.eval]) (HTG14.out.below HB3a.out) (by omega) HA3.out.size ?_; intro a7 c7 w7 hr hf; have HR7 := hide hr; have hb7 := hf.below (B := w3.heap.size) HA3.out.size (fun j e => by omega); have HX7 := hide (HX3.out.below (HA3.out.trans hb7)); have HB7 := hide (chain HB3.out (HA3.out.trans hb7)); clear hr hf hb7)
          | (refine step_ivs rfl (.tmp 77) (.tmp 79) rfl W14.heap.size (W14.heap.size + 1) (by simp [Act.eval]) HIVb.out at_ nt ct ts (by simp [Act.eval]) (HTG14.out.below HB3.out) (by omega) HB3.out.size ?_; intro a7 c7 w7 hr hf; have HR7 := hide hr; have hb7 := hf.below (B := W14.heap.size) HB3.out.size (fun j e => by omega); have HX7 : Hid (Bts w7 a3 nb c3 B) := own_bts HO3.out hf HNEb.out HBL.out HBT.out.small; have HB7 := hide (HB3.out.trans hb7); clear hr hf hb7)
          | (refine step_ivs rfl (.tmp 77) (.tmp 79) rfl W14.heap.size (W14.heap.size) (by simp [Act.eval]) HIVc.out at_ nt ct ts (by simp [Act.eval]) (HTG14.out.below HB3.out) (by omega) HB3.out.size ?_; intro a7 c7 w7 hr hf; have HR7 := hide hr; have hb7 := hf.below (B := W14.heap.size) HB3.out.size (fun j e => by omega); have HX7 : Hid (Bts w7 a3 nb c3 B) := own_bts HO3.out hf HNEc.out HBL.out HBT.out.small; have HB7 := hide (HB3.out.trans hb7); clear hr hf hb7)
          | (go_at_call 28; refine (HPE.out a3 c3 a7 c7 w7 (chain HB1.out (chain HB14.out HB7.out)) HX7.out HR7.out).mono ?_; rintro e w8 ⟨hb8, rsP, v8, ev8, rfl, hi8, hl8, ho8⟩; have HB8 := hide (chain HB7.out hb8); have HI8 := hide hi8; have HL8 := hide hl8; have HO8 := hide ho8; clear hb8 hi8 hl8 ho8))
      all_goals
        obtain ⟨aP, cP, rfl, hRP, hKP⟩ := HO8.out.shows (fun r hr => HBS.out r.l (by show r.l ∈ bs; have h : rsP.map RV.l = bs := HL8.out; rw [← h]; exact List.mem_map.2 ⟨r, hr, rfl⟩))
        have hlp : rsP.length = n13 := by
          have h1 : rsP.map RV.l = bs := HL8.out
          have h2 : rsE.map JW.l = bs := HL13.out
          have h3 := congrArg List.length (h1.trans h2.symm)
          rw [List.length_map, List.length_map] at h3
          rw [h3]
          exact HN13.out
        rw [hlp] at hRP ⊢
        have HRP := hide hRP
        have HKP := hide hKP
        clear hRP hKP hlp
      all_goals go_wp2
      all_goals go_meet
      all_goals exact ⟨rsP, aP, cP, rfl, HI8.out, HL8.out, HRP.out, HKP.out, HB8.out⟩
  case rest =>
    obtain ⟨rsP, aP, cP, rfl, HI15, HLP, HRP, HKP, HB15⟩ := hcut
    clear y1 y2
    have HT15 := hide (HT14.out.below HB15.out)
    have HBB15 := hide (chain HB14.out HB15.out)
    have t0 := HT15.out.c0
    have t1 := HT15.out.c1
    go_wp2_with fail
    refine Calls.mono (same_yes u6 k13 q13 wc (HE.out.below (chain HB1.out HBB15.out)) HI15.out) ?_
    rintro e w16 ⟨rfl, hb16⟩
    have HB16 := hide (chain HBB15.out hb16)
    have HT16 := hide (HT15.out.below hb16)
    have HRD := hide (HR14.out.below (chain HB15.out hb16))
    have HKD : Hid (∀ r ∈ rsE, Bts w16 r.a r.n r.c r.l) := fun r hr => (HK14.out r hr).below (chain HB15.out hb16)
    have HRP2 := hide (HRP.out.below hb16)
    have HKP2 : Hid (∀ r ∈ rsP, Bts w16 (some ⟨r.g, 0, none⟩) r.l.length r.l.length r.l) := fun r hr => (HKP.out r hr).below hb16
    clear hb16 t0 t1 HRP HKP HI15 HBB15 HB15 HT15
    go_wp2_with fail
    go_loopw [11] (fun i wr => ∃ j : Nat, j ≤ n13 ∧ i = .int .i64 (j : Int) ∧ Hid (Below w16.heap.size w16 wr)) (fun i _ => n13 - (intOf i).toNat)
    case atStart => exact ⟨0, by omega, rfl, Below.refl _ _⟩
    case round =>
      obtain ⟨j, hj, rfl, HBJ⟩ := hrel
      by_cases hlt : j < n13
      · as_aux_lemma =>
          obtain ⟨r, hr⟩ : ∃ r, rsE[j]? = some r := ⟨_, List.getElem?_eq_getElem (by rw [HN13.out]; exact hlt)⟩
          have hll0 : (rsP.map RV.l)[j]? = (rsE.map JW.l)[j]? := by rw [HLP.out, show rsE.map JW.l = bs from HL13.out]
          obtain ⟨r2, hr2⟩ : ∃ r2, rsP[j]? = some r2 := by
            rw [List.getElem?_map, List.getElem?_map, hr] at hll0
            cases h : rsP[j]? with
            | none => rw [h] at hll0; simp at hll0
            | some x => exact ⟨x, rfl⟩
          have hll : r2.l = r.l := by
            rw [List.getElem?_map, List.getElem?_map, hr, hr2] at hll0
            simpa using hll0
          obtain ⟨b, off, rfl, hcell⟩ := Rcs.at (f := fun r : JW => [r.v]) (sz := 1) (fun _ => rfl) (by decide) HRD.out hr
          obtain ⟨b2, off2, rfl, hcell2⟩ := Rcs.at (f := fun r : RV => [r.v]) (sz := 1) (fun _ => rfl) (by decide) HRP2.out hr2
          have k1 : wr.cell? ⟨b, off + j * 1, none⟩ = some (.slice r.a r.n r.c) := cell_below (hcell 0 _ rfl) HBJ.out
          have j0 : wr.cell? ⟨b2, off2 + j * 1, none⟩ = some (.slice (some ⟨r2.g, 0, none⟩) r2.l.length r2.l.length) := cell_below (hcell2 0 _ rfl) HBJ.out
          rw [Nat.mul_one] at j0 k1
          have s1 := bts_string (((HKP2.out r2 (List.mem_of_getElem? hr2)).below HBJ.out).below (Below.refl _ _).drew)
          have s2 := bts_string (((HKD.out r (List.mem_of_getElem? hr)).below HBJ.out).below (Below.refl _ _).drew)
          rw [hll] at s1 j0
          clear hcell hr hcell2 hr2 hll hll0
          generalize str r.l = Z at *
          generalize r.l.length = m at *
          go_wp2_with fail
          go_region_held3 (fun wz => wz.cell? ⟨b, off + j, none⟩ = some (.slice r.a r.n r.c) ∧ wz.cell? ⟨b2, off2 + j, none⟩ = some (.slice (some ⟨r2.g, 0, none⟩) m m) ∧ (convert 41 9 (.slice r.a r.n r.c)).run Tryd.prog wz = .ok (.string Z) wz ∧ (convert 41 9 (.slice (some ⟨r2.g, 0, none⟩) m m)).run Tryd.prog wz = .ok (.string Z) wz) (exact ⟨k1, j0, s2, s1⟩) (first | fail)
          go_wp2
          exact ⟨⟨j + 1, by omega, by first | rfl | simp, HBJ.out.drew⟩, by simp [intOf]; omega⟩
      · as_aux_lemma =>
          obtain rfl : j = n13 := by omega
          have HB17 := hide (chain HB16.out HBJ.out)
          have HT17 := hide (HT16.out.below HBJ.out)
          have y3 := cell_below Z3.out HB17.out
          clear HBJ HRD HKD HRP2 HKP2 HLP HB16 HT16 HL13 HN13 HR14 HK14 HT14 HBS HPE Y1 Y2
          go_wp2_with fail
          refine Calls.mono (dunhex_any S S.size wr rfl (by omega)) ?_
          rintro e w18 ⟨v18, k18, q18, rfl, hb18, hD⟩
          have HT18 := hide (HT17.out.below hb18)
          have HG17 : Hid (g4 < wr.heap.size) := block_lt_of_cell HT17.out.c0
          have HF18 := hide ((frm_setCell w18 ⟨g4, 0, none⟩ (.int .i64 (k18 : Int))).trans (frm_setCell _ ⟨g4, 1, none⟩ (.int .i64 q18)) (fun j _ t => t))
          have HD19 : Hid ((∃ i c : Nat, (bytesOf S)[i]? = some c ∧ ¬ hexv c < 16 ∧ v18 = .slice none 0 0 ∧ k18 = 18 ∧ q18 = (i : Int) ∧ ∀ j c : Nat, j < i → (bytesOf S)[j]? = some c → hexv c < 16) ∨
              ((∀ j c : Nat, j < S.size → (bytesOf S)[j]? = some c → hexv c < 16) ∧ S.size % 2 = 1 ∧ v18 = .slice none 0 0 ∧ k18 = 1 ∧ q18 = (S.size : Int)) ∨
              ((∀ j c : Nat, j < S.size → (bytesOf S)[j]? = some c → hexv c < 16) ∧ S.size % 2 = 0 ∧ k18 = 0 ∧ q18 = -1 ∧ Own ((w18.setCell ⟨g4, 0, none⟩ (.int .i64 (k18 : Int))).setCell ⟨g4, 1, none⟩ (.int .i64 q18)) wr.heap.size v18 (unhexOf (bytesOf S)))) := by
            rcases hD with h | h | ⟨h1, h2, h3, h4, h5⟩
            · exact .inl h
            · exact .inr (.inl h)
            · exact .inr (.inr ⟨h1, h2, h3, h4, h5.frm HF18.out (fun k hk (e : k = g4) => by have := (World.ownsRow.lt h5 k hk).1; have := HG17.out; omega)⟩)
          have HT19 := hide (HT18.out.set (.int .i64 (k18 : Int)) (.int .i64 q18))
          have HB18 := hide (chain HB17.out hb18)
          have HB19 := hide (bel_two (u := .int .i64 (k18 : Int)) (v := .int .i64 q18) HB18.out HG4.out)
          have t0 := HT18.out.c0
          have t1 := HT18.out.c1
          have f0 := HT18.out.f0
          have f1 := HT18.out.f1
          clear hb18 hD y3 HB17 HT17
          unfold rerr
          go_upto_region 21 with fail
          clear t0 t1 f0 f1 HT18 HF18 HB18
          generalize ((w18.setCell ⟨g4, 0, none⟩ (.int .i64 (k18 : Int))).setCell ⟨g4, 1, none⟩ (.int .i64 q18)) = W19 at *
          have y3 := cell_below Z3.out HB19.out
          go_wp2_with fail
          refine Calls.mono (unhex_any S S.size W19 rfl (by omega) (HE.out.below (chain HB1.out HB19.out))) ?_
          rintro e w20 ⟨v20, ev20, rfl, hb20, hP⟩
          obtain ⟨M20, hi20, hO1, hO2, hML, hMS⟩ := unh_both (bytesOf_len S) HD19.out hP
          obtain ⟨a18, c18, rfl, hx18⟩ := (hO1.frm (S := fun _ => False) (Frm.ofBelow hb20) (fun _ _ h => h)).shown (by omega) hMS
          obtain ⟨a20, c20, rfl, hx20⟩ := hO2.shown (by omega) hMS
          have HB20 := hide (chain HB19.out hb20)
          have HT20 := hide (HT19.out.below hb20)
          have HI20 := hide hi20
          have HX18 := hide hx18
          have HX20 := hide hx20
          clear hP hi20 hO1 hO2 hML hMS hx18 hx20 hb20 HD19 HT19 HB19 y3
          generalize M20.length = m20 at *
          have HH : Hid (∀ wz, Below w20.heap.size w20 wz → wz.cell? ⟨w.heap.size, 1, none⟩ = some (.slice ab nb cb) ∧ wz.cell? ⟨g4, 0, none⟩ = some (.int .i64 (k18 : Int)) ∧ wz.cell? ⟨g4, 1, none⟩ = some (.int .i64 q18) ∧ (convert 41 9 (.slice a18 m20 c18)).run Tryd.prog wz = .ok (.string (str M20)) wz ∧ (convert 41 9 (.slice a20 m20 c20)).run Tryd.prog wz = .ok (.string (str M20)) wz) := fun wz hbz => ⟨cell_below Z1.out (chain HB20.out hbz), (HT20.out.below hbz).c0, (HT20.out.below hbz).c1, bts_string (HX18.out.below hbz), bts_string (HX20.out.below hbz)⟩
          have HBT20 := hide (HBT.out.below (chain HB1.out HB20.out))
          have HAa : Hid (Below w20.heap.size w20 ((w20.alloc (.cells #[] 5)).drew)) := ((Below.refl _ _).alloc (Nat.le_refl _) _).drew
          have HD0 : Hid (Below w20.heap.size w20 w20.drew) := (Below.refl _ _).drew
          have HOa : Hid (Own ((w20.alloc (.cells #[] 5)).drew) w20.heap.size (.slice (some ⟨w20.heap.size, 0, none⟩) 0 0) []) := (own_empty w20).frm (S := fun _ => False) (Frm.refl _ _).drew (fun _ _ h => h)
          have HZN : Hid (([] : List Nat).length + nb ≤ 140737488355328) := by unfold Hid; simp; omega
          have HBL : Hid (B.length ≤ 140737488355328) := by unfold Hid; rw [HBT.out.size]; omega
          have HSH : Hid (∀ (wx : World) (bx : Nat) (v : Value), Own wx bx v B → ∃ a3 c3, v = .slice a3 nb c3 ∧ Bts wx a3 nb c3 B) := fun wx bx v ho => by
            obtain ⟨a3, c3, e, hx⟩ := ho.shown (by rw [HBT.out.size]; omega) HBT.out.small
            rw [HBT.out.size] at e hx
            exact ⟨a3, c3, e, hx⟩
          generalize str M20 = ZM2 at *
          go_upto_region 22 with fail
          go_region_held3 (fun wz => wz.cell? ⟨w.heap.size, 1, none⟩ = some (.slice ab nb cb) ∧ wz.cell? ⟨g4, 0, none⟩ = some (.int .i64 (k18 : Int)) ∧ wz.cell? ⟨g4, 1, none⟩ = some (.int .i64 q18) ∧ (convert 41 9 (.slice a18 m20 c18)).run Tryd.prog wz = .ok (.string ZM2) wz ∧ (convert 41 9 (.slice a20 m20 c20)).run Tryd.prog wz = .ok (.string ZM2) wz)
            (first | exact HH.out _ HB24.out | exact HH.out _ HB23.out | exact HH.out _ HB22.out | exact HH.out _ HB21.out | exact HH.out _ HAa.out | exact HH.out _ HD0.out)
            (first
              | (refine step_app rfl (.tmp 124) (.tmp 126) rfl w20.heap.size (.slice (some ⟨w20.heap.size, 0, none⟩) 0 0) [] (by simp [Act.eval]) HOa.out ab nb cb B (by simp [Act.eval]) (HBT20.out.below HAa.out) HZN.out HAa.out.size ?_; intro v3 w21 ho hf hq; rw [List.nil_append] at ho; obtain ⟨a3, c3, rfl, hx3⟩ := HSH.out _ _ _ ho; have HX3 := hide hx3; have HB21 := hide (HAa.out.trans (hf.below HAa.out.size (fun j e => (World.ownsRow.lt HOa.out j e).1))); clear ho hf hx3 hq)
              | (go_at_call 31; refine (hex_any a3 nb c3 B w21 HX3.out (by omega)).mono ?_; rintro e w22 ⟨rfl, hb22⟩; have HB22 := hide (chain HB21.out hb22); clear hb22)
              | (go_at_call 32; refine (dhex_any ab nb cb B w22 (HBT20.out.below HB22.out) (by omega)).mono ?_; rintro e w23 ⟨rfl, hb23⟩; have HB23 := hide (chain HB22.out hb23); clear hb23)
              | (go_at_call 18; refine (same_yes ev20 k18 q18 w23 (HE.out.below (chain HB1.out (chain HB20.out HB23.out))) (HI20.out.below HB23.out)).mono ?_; rintro e w24 ⟨rfl, hb24⟩; have HB24 := hide (chain HB23.out hb24); clear hb24))
          go_wp2
          go_ret
          exact ⟨rfl, chain HB1.out (chain HB20.out HB24.out)⟩
end Go.Proofs.YtcgielkdobnkkaaDoor.wireLists
