/-
  Walk of the law WireTurns.
-/
import Derived.Test.YtcgielkdobnkkaaDoorWtTurn2
import Derived.Deep.CutBlock
import Derived.Deep.RegionHeld3
namespace Go.Proofs.YtcgielkdobnkkaaDoor.wireTurns
open Go.RowKit FerryCrc
set_option linter.unusedVariables false
set_option linter.unusedSimpArgs false

set_option maxRecDepth 100000 in
set_option maxHeartbeats 4000000 in
theorem law {E : Nat → Addr} (a : Option Addr) (len cap : Nat) (rs : List JW) (ab : Option Addr) (nb cb : Nat) (B : List Nat) (vt : Value) (S : ByteArray) (w : World) (he : Errs w E) (hs : Rcs JW.cells 2 w a len cap rs) (hok : ∀ r ∈ rs, Bts w r.a r.n r.c r.l) (hb : Bts w ab nb cb B)
    (hroom : jroom rs ≤ 4398046510000) (hm : len ≤ 4398046511000) (hnb : nb ≤ 4398046510000) (hS : S.size ≤ 4398046510000) :
    Calls Tryd.prog 7 #[.agg #[.slice a len cap, .slice ab nb cb, vt, .string S]] w fun e w' => e = .returned (.bool true) ∧ Below w.heap.size w w' := by
  have hsmall : ∀ r ∈ rs, r.l.length ≤ 140737488355328 ∧ ∀ c ∈ r.l, c < 256 := fun r hr => ⟨by have := (hok r hr).most; have := (hok r hr).size; omega, (hok r hr).small⟩
  have HE := hide he
  have HS := hide hs
  have HOK := hide hok
  have HSM := hide hsmall
  have HBT := hide hb
  have HRM := hide hroom
  clear he hs hok hb hsmall hroom
  have HA : Hid (Below w.heap.size w (w.alloc (.cells #[.slice a len cap, .slice ab nb cb, vt, .string S] 55))) := (Below.refl _ _).alloc (Nat.le_refl _) _
  have z0 : (w.alloc (.cells #[.slice a len cap, .slice ab nb cb, vt, .string S] 55)).cell? ⟨w.heap.size, 0, none⟩ = some (.slice a len cap) := (World.cell?_alloc_at _ _ _ _ rfl).trans rfl
  have z1 : (w.alloc (.cells #[.slice a len cap, .slice ab nb cb, vt, .string S] 55)).cell? ⟨w.heap.size, 1, none⟩ = some (.slice ab nb cb) := (World.cell?_alloc_at _ _ _ _ rfl).trans rfl
  have z3 : (w.alloc (.cells #[.slice a len cap, .slice ab nb cb, vt, .string S] 55)).cell? ⟨w.heap.size, 3, none⟩ = some (.string S) := (World.cell?_alloc_at _ _ _ _ rfl).trans rfl
  go_enter Tryd.func7, Tryd.ntmps7
  go_wp2_with fail
  generalize (w.alloc (.cells #[.slice a len cap, .slice ab nb cb, vt, .string S] 55)) = W0 at *
  refine Calls.mono (fixed_any W0 (HE.out.below HA.out)) ?_
  rintro e w1 ⟨rfl, hb1⟩
  have HB1 := hide (chain HA.out hb1)
  have y0 := cell_below z0 hb1
  have Z1 := hide (cell_below z1 hb1)
  have Z3 := hide (cell_below z3 hb1)
  clear hb1 HA z0 z1 z3
  go_wp2_with fail
  refine Calls.mono (recs_any a len cap rs w1 (HS.out.below HB1.out) (fun r hr => (HOK.out r hr).below HB1.out) hm) ?_
  rintro e w2 ⟨hb2, rs', v2, hkey, rfl, hown⟩
  have hsm' : ∀ r ∈ rs', r.l.length ≤ 140737488355328 ∧ ∀ c ∈ r.l, c < 256 := fun r hr => by
    have h1 : r.key ∈ rs.map JW.key := by rw [← hkey]; exact List.mem_map.2 ⟨r, hr, rfl⟩
    obtain ⟨q, hq, e⟩ := List.mem_map.1 h1
    have e2 : q.l = r.l := congrArg Prod.snd e
    rw [← e2]
    exact HSM.out q hq
  obtain ⟨a2, c2, rfl, hr2, hb2s⟩ := hown.shows hsm'
  have hl2 : rs'.length = len := by
    have h1 := congrArg List.length hkey
    rw [List.length_map, List.length_map, HS.out.size] at h1
    exact h1
  have HB2 := hide (chain HB1.out hb2)
  have HW2 := hide hb2
  have HJ := hide (join_all a2 rs'.length c2 rs' w2 hr2 hb2s (HE.out.below HB2.out) (by rw [jroom_key hkey]; have := HRM.out; omega) (by omega))
  rw [jfold_key hkey, hl2] at HJ
  rw [hl2]
  clear hb2 hown hr2 hb2s hsm' hkey hl2
  have HJL : Hid ((jfold rs).2.length ≤ 4398046510000) := by unfold Hid; have := jfold_len rs; have := HRM.out; omega
  have HJS : Hid (∀ c ∈ (jfold rs).2, c < 256) := jfold_small rs (fun r hr => (HSM.out r hr).2)
  have HJK : Hid ((jfold rs).1 = 0 → (∀ r ∈ rs, r.Fits) ∧ Pars (jfold rs).2 (jfold rs).2.length 0 (rs.map JW.nat) (jfold rs).2.length) := fun h => ⟨(jfold_ok h).1, joined_splits h _ rfl⟩
  generalize jfold rs = J at *
  obtain ⟨jk, jl⟩ := J
  obtain ⟨n, hn⟩ : ∃ n, jl.length = n := ⟨_, rfl⟩
  simp only [hn] at HJL HJK
  have HN := hide hn
  clear hn
  go_wp2_with fail
  refine Calls.mono HJ.out ?_
  clear HJ
  rintro e w3 ⟨vj, ev, rfl, hi, ho, hb3⟩
  have HB3 := hide (chain HW2.out hb3)
  have HI := hide hi
  have hshow : ∃ aj nj cj, vj = .slice aj nj cj ∧ (jk = 0 → nj = n ∧ Bts w3 aj nj cj jl) := by
    by_cases h0 : jk = 0
    · rw [if_pos h0] at ho
      obtain ⟨aj, cj, e, hb⟩ := ho.shown (by have := HJL.out; have := HN.out; show jl.length ≤ _; omega) HJS.out
      exact ⟨aj, _, cj, e, fun _ => ⟨HN.out, hb⟩⟩
    · rw [if_neg h0] at ho
      obtain ⟨aj, cj, e, hb⟩ := ho.shown (by decide) (fun c hc => by simp at hc)
      exact ⟨aj, _, cj, e, fun h => absurd h h0⟩
  obtain ⟨aj, nj, cj, rfl, hjb⟩ := hshow
  have HJB := hide hjb
  clear hjb ho hb3 hi HB2 HW2
  go_upto_region 4 with fail
  go_cut [26] from 16 (fun v wx => wx = w3 ∧ ((jk = 0 ∧ v = .bool true) ∨ (jk ≠ 0 ∧ v = .bool false)))
  case first =>
    rcases HI.out with ⟨e1, e2, _⟩ | ⟨e1, _, e2, _⟩ | ⟨e1, _, b, o, e2, _, _⟩
    · subst e1
      go_wp2
      go_meet
      case rel => exact ⟨rfl, .inl ⟨e2, rfl⟩⟩
    · subst e2
      unfold sent
      go_wp2
      go_meet
      case rel => exact ⟨rfl, .inr ⟨by show jk ≠ 0; have e3 : 1 ≤ jk := e1; omega, rfl⟩⟩
    · subst e2
      go_wp2
      go_meet
      case rel => exact ⟨rfl, .inr ⟨by show jk ≠ 0; have e3 : 1 ≤ jk := e1; omega, rfl⟩⟩
  case rest =>
    obtain ⟨rfl, hcase⟩ := hcut
    go_upto_if 26 with fail
    go_cut [] from 16 (fun wx => Hid (Below w1.heap.size w1 wx))
    case first =>
      rcases hcase with ⟨h0, rfl⟩ | ⟨_, rfl⟩
      · obtain ⟨hfit, hpar⟩ := HJK.out h0
        obtain ⟨rfl, hbj⟩ := HJB.out h0
        have HFIT := hide hfit
        have HPAR := hide hpar
        have HBJ := hide hbj
        have HJL2 := hide HJL.out
        clear HI HJB HJK hfit hpar hbj h0
        go_wp2_with fail
        refine Calls.mono (split_any aj nj cj jl wc HBJ.out (HE.out.below (chain HB1.out HB3.out)).three (by have := HJL.out; omega)) ?_
        rintro e w4 ⟨hb4, hans⟩
        have hans2 : ∃ rv v, rv.map RV.key = rs.map JW.nat ∧ e = .returned (.tuple #[v, .nilIface]) ∧ RvOwn w4 wc.heap.size v rv := by
          rcases hans with ⟨rv, v, hp, he, hrv⟩ | ⟨ps, p, i, q, ev4, hp, hlt, hst, _, _⟩
          · exact ⟨rv, v, pars_uniq _ _ 0 hp HPAR.out, he, hrv⟩
          · exact (pars_stk ps _ 0 p i q HPAR.out hp hlt hst).elim
        obtain ⟨rv, v4, hk4, rfl, hrv⟩ := hans2
        have hkey4 := keys_back HFIT.out hk4
        have hl4 : rv.length = len := by
          have h1 := congrArg List.length hk4
          rw [List.length_map, List.length_map, HS.out.size] at h1
          exact h1
        obtain ⟨a4, c4, rfl, hR4, hB4⟩ := hrv.shows (fun r hr => by
          have h1 : r.key ∈ rs.map JW.nat := by rw [← hk4]; exact List.mem_map.2 ⟨r, hr, rfl⟩
          obtain ⟨q, hq, e⟩ := List.mem_map.1 h1
          have e2 : q.l = r.l := congrArg Prod.snd e
          rw [← e2]
          exact HSM.out q hq)
        rw [hl4] at hR4 ⊢
        have HB5 := hide (chain HB3.out hb4)
        have HBB5 := hide (chain HB1.out HB5.out)
        have y4 := cell_below y0 HB5.out
        have HSR := hide (sameRecs_ok a4 len c4 (rv.map RV.jw) a cap rs w4 hR4 hB4 (HS.out.below HBB5.out) (fun r hr => (HOK.out r hr).below HBB5.out) hkey4 (by omega))
        have HBJ4 := hide (HBJ.out.below hb4)
        clear hR4 hB4 hrv hkey4 hl4 hans hb4 hk4 HBJ
        go_wp2_with fail
        refine Calls.mono HSR.out ?_
        rintro e w5 ⟨rfl, hb5⟩
        have y5 := cell_below y4 hb5
        have Y5 := hide y5
        have HB6 := hide (chain HB5.out hb5)
        have HBB6 := hide (chain HBB5.out hb5)
        have HBJ5 := hide (HBJ4.out.below hb5)
        clear HSR hb5 y4 HB5 HBB5 HBJ4
        go_wp2_with fail
        go_loopw [7, 8] (fun v i wr => ∃ k : Nat, k ≤ len ∧ i = .int .i64 (k : Int) ∧ Hid (IvOwn wr w5.heap.size v ((rs.take k).map JW.tag)) ∧ Hid (Below w5.heap.size w5 wr)) (fun _ i _ => len - (intOf i).toNat)
        case atStart => exact ⟨0, by omega, rfl, iv_nil _ _, Below.refl _ _⟩
        case round =>
          obtain ⟨k, hk, rfl, HIV, HBR⟩ := hrel
          have yk := cell_below Y5.out HBR.out
          by_cases hlt : k < len
          · obtain ⟨r, hr⟩ : ∃ r, rs[k]? = some r := ⟨_, List.getElem?_eq_getElem (by rw [HS.out.size]; exact hlt)⟩
            obtain ⟨b, off, rfl, hcell⟩ := HS.out.at JW.len (by decide) hr
            have k0 : wr.cell? ⟨b, off + k * 2, none⟩ = some (.int .i64 r.tag) := cell_below2 (hcell 0 _ rfl) (chain HBB6.out HBR.out)
            have HTK : Hid ((rs.take (k + 1)).map JW.tag = (rs.take k).map JW.tag ++ [r.tag]) := by unfold Hid; rw [List.take_add_one, hr, List.map_append]; rfl
            have HLN : Hid (((rs.take k).map JW.tag).length + 1 ≤ 4398046511104) := by unfold Hid; rw [List.length_map, List.length_take]; omega
            have HA : Hid (Below wr.heap.size wr (wr.alloc (.cells #[.int .i64 r.tag] 3))) := (Below.refl _ _).alloc (Nat.le_refl _) _
            have HIW : Hid (IvOwn (wr.alloc (.cells #[.int .i64 r.tag] 3)) w5.heap.size u7 ((rs.take k).map JW.tag)) := iv_below HIV.out HA.out
            have HX0 : Hid ((wr.alloc (.cells #[.int .i64 r.tag] 3)).cell? ⟨wr.heap.size, 0, none⟩ = some (.int .i64 r.tag)) := (World.cell?_alloc_at _ _ _ _ rfl).trans rfl
            clear hcell hr
            go_wp2_with (refine append_iv rfl (.tmp 48) (.tmp 55) rfl w5.heap.size u7 _ rfl HIW.out wr.heap.size r.tag rfl HX0.out HLN.out (Nat.le_trans HBR.out.size HA.out.size) ?_; intro v' w6 ho hf; have HO6 := hide ho; have HF6 := hide hf; clear ho hf)
            have HBW := hide ((chain HBR.out HA.out).trans (HF6.out.below (chain HBR.out HA.out).size (fun j e => by have := (World.ownsRow.lt HIW.out j e).1; omega)))
            rw [← HTK.out] at HO6
            exact ⟨⟨k + 1, by omega, by first | rfl | simp, HO6, HBW⟩, by simp [intOf]; omega⟩
          · obtain rfl : k = len := by omega
            have e1 : rs.take k = rs := by rw [← HS.out.size]; exact List.take_length
            rw [e1] at HIV
            obtain ⟨at_, ct, rfl, hT⟩ := iv_shows HIV.out HFIT.out
            rw [HS.out.size] at hT ⊢
            have HEX := hide (expect_ok aj nj cj jl at_ k ct (rs.map JW.nat) wr (HBJ5.out.below HBR.out) hT HPAR.out (by have := HJL2.out; omega))
            clear hT e1 HIV
            go_wp2_with fail
            refine Calls.mono HEX.out ?_
            rintro e w7 ⟨hb7, rv7, v7, hk7, rfl, hbv⟩
            obtain ⟨a7, c7, rfl, hR7, hB7⟩ := hbv.shows (fun r hr => by
              have h1 : r.key ∈ rs.map JW.nat := by rw [← hk7]; exact List.mem_map.2 ⟨r, hr, rfl⟩
              obtain ⟨q, hq, e⟩ := List.mem_map.1 h1
              have e2 : q.l = r.l := congrArg Prod.snd e
              rw [← e2]
              exact HSM.out q hq)
            have hl7 : rv7.length = k := by
              have h1 := congrArg List.length hk7
              rw [List.length_map, List.length_map, HS.out.size] at h1
              exact h1
            rw [hl7] at hR7 ⊢
            have HR7 := hide hR7
            have HBo7 := hide hB7
            have HK7 := hide hk7
            have HL7 := hide hl7
            have HB7 := hide (chain (chain HB6.out HBR.out) hb7)
            have y7 := cell_below yk hb7
            have Y7 := hide y7
            clear hR7 hB7 hk7 hl7 hbv hb7 HEX yk
            go_wp2_with fail
            go_loopw [10] (fun i wr => ∃ j : Nat, j ≤ k ∧ i = .int .i64 (j : Int) ∧ Hid (Below w7.heap.size w7 wr)) (fun i _ => k - (intOf i).toNat)
            case atStart => exact ⟨0, by omega, rfl, Below.refl _ _⟩
            case round =>
              obtain ⟨j, hj, rfl, HBJ2⟩ := hrel
              have yj := cell_below Y7.out HBJ2.out
              by_cases hlt : j < k
              · obtain ⟨r, hr⟩ : ∃ r, rs[j]? = some r := ⟨_, List.getElem?_eq_getElem (by rw [HS.out.size]; exact hlt)⟩
                obtain ⟨r2, hr2⟩ : ∃ r2, rv7[j]? = some r2 := ⟨_, List.getElem?_eq_getElem (by rw [HL7.out]; exact hlt)⟩
                have hll : r2.l = r.l := by
                  have h1 := congrArg (fun l => l[j]?) HK7.out
                  simp only [List.getElem?_map, hr, hr2, Option.map_some] at h1
                  exact congrArg Prod.snd (Option.some.inj h1)
                obtain ⟨b, off, rfl, hcell⟩ := HS.out.at JW.len (by decide) hr
                obtain ⟨b2, off2, rfl, hcell2⟩ := Rcs.at (f := fun r : RV => [r.v]) (sz := 1) (fun _ => rfl) (by decide) HR7.out hr2
                have k1 : wr.cell? ⟨b, off + j * 2 + 1, none⟩ = some (.slice r.a r.n r.c) := cell_below2 (hcell 1 _ rfl) (chain HB1.out (chain HB7.out HBJ2.out))
                have j0 : wr.cell? ⟨b2, off2 + j * 1, none⟩ = some (.slice (some ⟨r2.g, 0, none⟩) r2.l.length r2.l.length) := cell_below (hcell2 0 _ rfl) HBJ2.out
                rw [Nat.mul_one] at j0
                have s1 := bts_string (((HBo7.out r2 (List.mem_of_getElem? hr2)).below HBJ2.out).below (Below.refl _ _).drew)
                have s2 := bts_string (((HOK.out r (List.mem_of_getElem? hr)).below (chain HB1.out (chain HB7.out HBJ2.out))).below (Below.refl _ _).drew)
                rw [hll] at s1 j0
                clear hcell hr hcell2 hr2 hll
                generalize str r.l = Z at *
                generalize r.l.length = m at *
                go_wp2_with fail
                go_region_held3 (fun wz => wz.cell? ⟨w.heap.size, 0, none⟩ = some (.slice (some ⟨b, off, none⟩) k cap) ∧ wz.cell? ⟨b, off + j * 2 + 1, none⟩ = some (.slice r.a r.n r.c) ∧ wz.cell? ⟨b2, off2 + j, none⟩ = some (.slice (some ⟨r2.g, 0, none⟩) m m) ∧ (convert 41 9 (.slice r.a r.n r.c)).run Tryd.prog wz = .ok (.string Z) wz ∧ (convert 41 9 (.slice (some ⟨r2.g, 0, none⟩) m m)).run Tryd.prog wz = .ok (.string Z) wz) (exact ⟨yj, k1, j0, s2, s1⟩) (first | fail)
                go_wp2
                exact ⟨⟨j + 1, by omega, by first | rfl | simp, HBJ2.out.drew⟩, by simp [intOf]; omega⟩
              · obtain rfl : j = k := by omega
                have HZZ := hide (chain HB7.out HBJ2.out)
                go_wp2
                go_meet
                case rel => exact HZZ
      · clear HI HJB HJK
        go_wp2
        go_meet
        case rel => exact HB3
    case rest =>
      have HB4 := hide hcut.out
      have HBB := hide (chain HB1.out hcut.out)
      have y1 := cell_below Z1.out hcut.out
      clear hcut hcase HJB HI HJK HJS HJL HN y0 HB3
      go_wp2_with fail
      refine Calls.mono (split_any ab nb cb B wc (HBT.out.below HBB.out) (HE.out.below HBB.out).three (by omega)) ?_
      rintro e w6 ⟨hb6, hans⟩
      have hun : ∃ a6 n6 c6 ev6, e = .returned (.tuple #[.slice a6 n6 c6, ev6]) ∧ ((ev6 = .nilIface ∧ ∃ rv : List RV, n6 = rv.length ∧ Rcs JW.cells 2 w6 a6 n6 c6 (rv.map RV.jw) ∧ (∀ r ∈ rv.map RV.jw, Bts w6 r.a r.n r.c r.l) ∧ jfold (rv.map RV.jw) = (0, B) ∧ jroom (rv.map RV.jw) ≤ 2 * nb ∧ rv.length ≤ nb) ∨ (∃ b, ev6 = .iface 128 (.pointer (some ⟨b, 0, none⟩)))) := by
        rcases hans with ⟨rv, v, hp, he, hrv⟩ | ⟨rv, p, i, q, ev6, _, _, _, he, ha⟩
        · have hj := split_joins HBT.out.size HBT.out.small hp
          have hsm2 : ∀ r ∈ rv, r.l.length ≤ 140737488355328 ∧ ∀ c ∈ r.l, c < 256 := fun r hr => by
            have := (split_bound HBT.out.size HBT.out.small hp).1 r hr
            exact ⟨by omega, this.2⟩
          have hbd := (split_bound HBT.out.size HBT.out.small hp).2
          obtain ⟨a6, c6, rfl, h1, h2⟩ := hrv.shows hsm2
          exact ⟨a6, _, c6, _, he, .inl ⟨rfl, rv, rfl, h1, h2, hj, hbd⟩⟩
        · obtain ⟨b, _, rfl, _⟩ := ha
          exact ⟨none, 0, 0, _, he, .inr ⟨b, rfl⟩⟩
      obtain ⟨a6, n6, c6, ev6, rfl, hun⟩ := hun
      have HB6 := hide (chain HB4.out hb6)
      have HU := hide hun
      clear hans hb6 hun y1
      go_upto_region 22 with fail
      go_cut [99] from 16 (fun v wx => wx = w6 ∧ ((v = .bool true ∧ ∃ rv : List RV, n6 = rv.length ∧ Rcs JW.cells 2 w6 a6 n6 c6 (rv.map RV.jw) ∧ (∀ r ∈ rv.map RV.jw, Bts w6 r.a r.n r.c r.l) ∧ jfold (rv.map RV.jw) = (0, B) ∧ jroom (rv.map RV.jw) ≤ 2 * nb ∧ rv.length ≤ nb) ∨ v = .bool false))
      case first =>
        rcases HU.out with ⟨rfl, h1⟩ | ⟨b, rfl⟩
        · have H1 := hide h1
          clear h1
          go_wp2
          go_meet
          case rel => exact ⟨rfl, .inl ⟨rfl, H1.out⟩⟩
        · go_wp2
          go_meet
          case rel => exact ⟨rfl, .inr rfl⟩
      case rest =>
        obtain ⟨rfl, hc2⟩ := hcut
        clear HU
        have HC2 := hide hc2
        clear hc2
        go_upto_if 99 with fail
        go_cut [] from 16 (fun wx => Hid (Below w1.heap.size w1 wx))
        case first =>
          rcases HC2.out with ⟨rfl, rv, hn6, hr6, hb6, hj6, hj7, hj8⟩ | rfl
          · have HJN := hide (join_all a6 n6 c6 (rv.map RV.jw) _ hr6 hb6 (HE.out.below (chain HB1.out HB6.out)) (by omega) (by omega))
            rw [hj6] at HJN
            clear hr6 hb6 hj6 hj7 hj8 hn6 HC2
            go_wp2_with fail
            refine Calls.mono HJN.out ?_
            rintro e w7 ⟨v7, ev7, rfl, hi7, ho7, hb7⟩
            obtain rfl : ev7 = .nilIface := by
              rcases hi7 with ⟨e1, _⟩ | ⟨e1, _⟩ | ⟨e1, _⟩
              · exact e1
              · exact absurd e1 (by decide)
              · exact absurd e1 (by decide)
            rw [if_pos rfl] at ho7
            obtain ⟨a7, c7, rfl, hx7⟩ := ho7.shown (by show B.length ≤ _; have := HBT.out.size; omega) HBT.out.small
            have HB7 := hide (chain HB6.out hb7)
            have s1 := bts_string hx7
            have s2 := bts_string (HBT.out.below (chain HB1.out HB7.out))
            have y1 := cell_below Z1.out HB7.out
            rw [show List.length (0, B).2 = nb from HBT.out.size] at s1 ⊢
            clear hx7 ho7 hb7 hi7 HJN
            generalize str B = Z at *
            go_wp2
            go_meet
            case rel => exact HB7
          · go_wp2
            go_meet
            case rel => exact HB6
        case rest =>
          clear HC2 HB6
          have HB8 := hide hcut.out
          have HBB8 := hide (chain HB1.out hcut.out)
          have y1 := cell_below Z1.out hcut.out
          clear hcut
          go_wp2_with fail
          refine Calls.mono (hex_any ab nb cb B wc (HBT.out.below HBB8.out) (by omega)) ?_
          rintro e w8 ⟨rfl, hb8⟩
          have HBB9 := hide (chain HBB8.out hb8)
          have HB9 := hide (chain HB8.out hb8)
          have hX1 : (str (hexOf B)).size = 2 * nb := by rw [str_size, hexOf_len, HBT.out.size]
          have HX2 : Hid (bytesOf (str (hexOf B)) = hexOf B) := bytesOf_str (hexOf_small HBT.out.small)
          clear hb8 y1 HB4 HBB
          generalize str (hexOf B) = X at *
          obtain ⟨N2, hN2⟩ : ∃ N2, 2 * nb = N2 := ⟨_, rfl⟩
          have hw2 : IntKind.i64.wrap (2 * (nb : Int)) = (N2 : Int) := by rw [IntKind.wrap_i64]; omega
          rw [hN2] at hX1
          have HX1 := hide hX1
          have HN2 := hide hN2
          clear hN2
          go_wp2_with fail
          refine Calls.mono (unhex_any X N2 w8 HX1.out (by have := HN2.out; omega) (HE.out.below HBB9.out)) ?_
          rintro e w9 ⟨v9, ev9, rfl, hb9, hcs⟩
          have hok : ev9 = .nilIface ∧ Own w9 w8.heap.size v9 B := by
            have hd : ∀ (j c : Nat), (bytesOf X)[j]? = some c → hexv c < 16 := fun j c hj => by
              rw [HX2.out] at hj
              exact hex_digits B HBT.out.small c (List.mem_of_getElem? hj)
            rcases hcs with ⟨i, c, h1, h2, _⟩ | ⟨_, h2, _⟩ | ⟨_, _, h3, h4⟩
            · exact absurd (hd i c h1) h2
            · have := HN2.out; omega
            · rw [HX2.out, unhex_hex B HBT.out.small] at h4
              exact ⟨h3, h4⟩
          obtain ⟨rfl, ho9⟩ := hok
          obtain ⟨a9, c9, rfl, hx9⟩ := ho9.shown (by have := HBT.out.size; omega) HBT.out.small
          have HBBa := hide (chain HBB9.out hb9)
          have HBa := hide (chain HB9.out hb9)
          have s1 := bts_string hx9
          have s2 := bts_string (HBT.out.below HBBa.out)
          have y1 := cell_below Z1.out HBa.out
          have y3 := cell_below Z3.out HBa.out
          rw [HBT.out.size] at s1 ⊢
          clear hx9 ho9 hb9 hcs HX1 HX2 HB8 HBB8 HB9 HBB9
          generalize str B = Z at *
          go_wp2_with fail
          refine Calls.mono (unhex_any S S.size w9 rfl (by omega) (HE.out.below HBBa.out)) ?_
          rintro e w10 ⟨v10, ev10, rfl, hb10, hcs⟩
          have HBBb := hide (chain HBBa.out hb10)
          have z3 := cell_below y3 hb10
          clear y1 y3 s1 s2 hw2 hX1
          rcases hcs with ⟨i, c, _, _, rfl, ha, _⟩ | ⟨_, _, rfl, ha⟩ | ⟨h1, h2, rfl, ho⟩
          · obtain ⟨b, _, rfl, _⟩ := ha
            clear hb10
            go_wp2_with fail
            go_quiet (fail)
            go_wp2
            go_ret
            exact ⟨rfl, chain HBBb.out ⟨rfl, rfl, rfl, Nat.le_refl _, fun _ _ => rfl⟩⟩
          · obtain ⟨b, _, rfl, _⟩ := ha
            clear hb10
            go_wp2_with fail
            go_quiet (fail)
            go_wp2
            go_ret
            exact ⟨rfl, chain HBBb.out ⟨rfl, rfl, rfl, Nat.le_refl _, fun _ _ => rfl⟩⟩
          · have hlen : (unhexOf (bytesOf S)).length ≤ 140737488355328 := by rw [unhexOf_len, bytesOf_len]; omega
            have hdig : ∀ c ∈ bytesOf S, hexv c < 16 := fun c hc => by
              obtain ⟨j, hj⟩ := List.mem_iff_getElem?.1 hc
              exact h1 j c (by have := (List.getElem?_eq_some_iff.1 hj).1; rw [bytesOf_len] at this; exact this) hj
            obtain ⟨a10, c10, rfl, hx10⟩ := ho.shown hlen (unhexOf_small _ hdig)
            have hback : str (hexOf (unhexOf (bytesOf S))) = S := by rw [hex_unhex _ (by rw [bytesOf_len]; exact h2) hdig, str_bytesOf]
            have HHX := hide (fun W hb => hex_any a10 _ c10 _ W (hx10.below hb) (by rw [unhexOf_len, bytesOf_len]; omega))
            rw [hback] at HHX
            clear hx10 ho hb10 hlen hdig hback h1 h2
            generalize (unhexOf (bytesOf S)).length = n10 at *
            go_wp2_with fail
            have HDW : Hid (Below w10.heap.size w10 w10.drew) := (Below.refl _ _).drew
            go_region_held3 (fun wz => wz.cell? ⟨w.heap.size, 3, none⟩ = some (.string S)) (first | exact z3 | exact hold2) (first
              | (go_at_call 31; refine (HHX.out _ HDW.out).mono ?_; rintro e w11 ⟨rfl, hb11⟩; have hold2 : w11.cell? ⟨w.heap.size, 3, none⟩ = some (.string S) := cell_below (w := w10.drew) z3 hb11; have HB11 := hide hb11; clear hb11))
            go_wp2
            go_ret
            exact ⟨rfl, chain HBBb.out (chain HDW.out HB11.out)⟩
end Go.Proofs.YtcgielkdobnkkaaDoor.wireTurns
