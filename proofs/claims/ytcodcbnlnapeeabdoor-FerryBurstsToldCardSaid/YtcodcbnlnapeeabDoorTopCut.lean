/-
  The law's recordCut: a record is split again, a strict beginning of it isn't one.
-/
import Derived.Test.YtcodcbnlnapeeabDoorWrCopy
namespace Go.Proofs.YtcodcbnlnapeeabDoor
open Go.RowKit FerryCrc
set_option linter.unusedVariables false
set_option linter.unusedSimpArgs false

theorem row_cells {w : World} {base : Nat} {v : Value} {r : RV} (h : RvOwn w base v [r]) : ∃ g c, v = .slice (some ⟨g, 0, none⟩) 1 c ∧ w.cell? ⟨g, 0, none⟩ = some (.int .i64 (r.tag : Int)) ∧ w.cell? ⟨g, 1, none⟩ = some r.v := by
  rcases h.row.2 with ⟨e, hn⟩ | ⟨g, cap, cur, e, hg, _⟩
  · simp at hn
  · refine ⟨g, cap, e, ?_, ?_⟩
    · have hr := h.row
      rw [e] at hr
      exact World.ownsRow.cellAt hr 0 (by simp)
    · have hr := h.row
      rw [e] at hr
      exact World.ownsRow.cellAt hr 1 (by simp)

set_option maxRecDepth 100000 in
set_option maxHeartbeats 1000000 in
theorem cut_small {E : Nat → Addr} (a : Option Addr) (len cap : Nat) (l : List Nat) (cut : Int) (w : World) (hs : Bts w a len cap l) (he : E3 w E) (hl : len ≤ 60000) (hc1 : -9223372036854775808 ≤ cut) (hc2 : cut ≤ 9223372036854775807) :
    Calls Tryd.prog 31 #[.slice a len cap, .int .i64 cut] w fun e w' => e = .returned (.bool true) ∧ Below w.heap.size w w' := by
  have HS := hide hs
  have HZ := hide hs.size
  have d1 : ¬ (60000 : Int) < (len : Int) := by omega
  have d2 : ¬ 60000 < len := by omega
  have HE := hide he
  clear he hs
  go_enter Tryd.func31, Tryd.ntmps31
  go_wp2_with (refine append_copy rfl (.tmp 15) (.tmp 16) rfl rfl _ len cap (l) rfl HS.out ?_; intro a1 c1 w1 ho hx hb; have HO1 := hide ho; have HX1 := hide hx; have HB1 := hide hb; clear ho hx hb)
  have HM3 : Hid (len + 3 = (l).length + 3) := by unfold Hid; have := HZ.out; omega
  have HJ : Hid ((encR 7 (l)).length = len + 3) := by unfold Hid; rw [encR_len]; exact HM3.out.symm
  have HA2 : Hid (Below w.heap.size w (w1.alloc (.cells #[.int .i64 7, .slice a1 len c1] 69))) := HB1.out.alloc HB1.out.size _
  have HOK : Hid (∀ r ∈ [(⟨7, a1, len, c1, l⟩ : JV)], r.ok (w1.alloc (.cells #[.int .i64 7, .slice a1 len c1] 69))) := fun r hr => by
    obtain rfl := List.mem_singleton.1 hr
    exact ⟨HX1.out.below ((Below.refl _ _).alloc (Nat.le_refl _) _), by show 1 ≤ 7; decide, by show 7 ≤ 255; decide, by show len ≤ 65535; omega⟩
  refine Calls.mono (join_ok _ 1 1 [(⟨7, a1, len, c1, l⟩ : JV)] (encR 7 (l)) (len + 3) _ (rcs_one w1 ⟨7, a1, len, c1, l⟩ 69) HOK.out (by simp [JV.enc]) HJ.out (by omega) (by decide)) ?_
  rintro e w3 ⟨g3, rfl, ho, hb⟩
  have HSM : Hid (∀ c ∈ encR 7 (l), c < 256) := by
    intro c hc
    rcases List.mem_cons.1 hc with rfl | hc
    · decide
    · rcases List.mem_append.1 hc with hc | hc
      · exact be_small _ _ c hc
      · exact HS.out.small c hc
  have HX3 := hide (ho.bts HJ.out (by omega) HSM.out)
  have HB3 := hide (chain HA2.out hb)
  clear ho hb HO1 HX1 HB1 HA2 HOK
  go_wp2_with (refine append_copy rfl (.tmp 34) (.tmp 35) rfl rfl _ (len + 3) (len + 3) (encR 7 (l)) rfl HX3.out ?_; intro a4 c4 w4 ho hx hb; have HX4 := hide hx; have HB4 := hide hb; clear ho hx hb)
  refine Calls.mono (split_any a4 (len + 3) c4 (encR 7 (l)) w4 HX4.out (HE.out.below (chain HB3.out HB4.out)) (by omega)) ?_
  rintro e w5 ⟨hb5, ⟨rs, v5, hp, rfl, hrv⟩ | ⟨rs, p, i, q, ev, hp, hlt, hst, rfl, hae⟩⟩
  case inr =>
    exfalso
    rw [HM3.out] at hp hlt hst
    rcases pars_enc (t := 7) (by decide) (by rw [HZ.out]; omega) hp with ⟨_, rfl⟩ | ⟨_, h⟩ | h
    · exact rec_not_stk (enc_rec 7 (l) (by decide) (by rw [HZ.out]; omega)).1 hst
    · omega
    · omega
  obtain ⟨r, rfl, hr7, hrl⟩ : ∃ r, rs = [r] ∧ r.tag = 7 ∧ r.l = l := by
    rw [HM3.out] at hp
    rcases pars_enc (t := 7) (by decide) (by rw [HZ.out]; omega) hp with ⟨_, h⟩ | ⟨h, _⟩ | h
    · omega
    · cases rs with
      | nil => simp at h
      | cons r rs =>
        cases rs with
        | nil =>
          simp only [List.map_cons, List.map_nil, List.cons.injEq, and_true, RV.key, Prod.mk.injEq] at h
          exact ⟨r, rfl, h.1, h.2⟩
        | cons r' rs => simp at h
    · omega
  obtain ⟨g5, c5, rfl, y0, x1⟩ := row_cells hrv
  have hrv5 : r.v = .slice (some ⟨r.g, 0, none⟩) len len := by
    show Value.slice _ r.l.length r.l.length = _
    rw [hrl, HZ.out]
  have HX5 : Hid (Bts w5 (some ⟨r.g, 0, none⟩) len len (l)) := by
    have h1 := hrv.own r (by simp)
    rw [hrv5, hrl] at h1
    exact h1.bts HZ.out HS.out.most HS.out.small
  rw [hrv5] at x1
  have x0 : w5.cell? ⟨g5, 0, none⟩ = some (.int .i64 7) := by rw [y0, hr7]; rfl
  have HB5 := hide (chain (chain HB3.out HB4.out) hb5)
  have HX35 := hide ((HX3.out.below HB4.out).below hb5)
  have hdr : ∀ n, Below w5.heap.size w5 (w5.drewN n) := fun n => ⟨rfl, rfl, rfl, Nat.le_refl _, fun _ _ => rfl⟩
  have s1 := fun n => bts_string (HX5.out.below (hdr n))
  have s2 := fun n => bts_string ((HS.out.below HB5.out).below (hdr n))
  generalize str (l) = S at s1 s2
  generalize r.g = rg at *
  have HDR := hide hdr
  clear y0 hdr hb5 hp hrv hr7 hrl hrv5 HX4 HB4
  go_wp2
  refine wp_region_quiet_lit (by kernel_rfl) (by kernel_rfl) ?_
  repeat (go_big_quiet_step (fail))
  refine wpQuiet_nil ?_
  intro _ hw'
  obtain ⟨nq, rfl⟩ := hw'
  have HX6 := hide (HX35.out.below (HDR.out nq))
  have HB6 := hide (chain HB5.out (HDR.out nq))
  generalize w5.drewN nq = w6 at *
  clear x0 x1 s1 s2 HDR HX35 HB5 HX5 HB3 HX3
  have ht1 := Int.tmod_lt_of_pos cut (show (0 : Int) < (len : Int) + 3 by omega)
  have ht0 := Int.lt_tmod_of_pos cut (show (0 : Int) < (len : Int) + 3 by omega)
  generalize hT : cut.tmod ((len : Int) + 3) = t at *
  have HCUT : Hid (∀ n : Nat, 0 < n → n < len + 3 → ∀ (a7 : Option Addr) (c7 : Nat) (w7 : World), Bts w7 a7 n c7 ((encR 7 (l)).take n) → E3 w7 E → Calls Tryd.prog 21 #[.slice a7 n c7] w7 fun e w' => ∃ b, e = .returned (.tuple #[.slice none 0 0, .iface 101 (.pointer (some ⟨b, 0, none⟩))]) ∧ Below w7.heap.size w7 w') := fun n h0 hn a7 c7 w7 h7 e7 => by
    refine Calls.mono (split_any a7 n c7 _ w7 h7 e7 (by omega)) ?_
    rintro e w8 ⟨hb8, ⟨rs, v5, hp, rfl, hrv⟩ | ⟨rs, p, i, q, ev, hp, hlt, hst, rfl, hae⟩⟩
    · exact absurd hp (fun hp => pars_cut (t := 7) (l := l) (by decide) (by rw [HZ.out]; omega) h0 (by have := HM3.out; omega) hp)
    · obtain ⟨b, _, rfl, _⟩ := hae
      exact ⟨b, rfl, hb8⟩
  by_cases hneg : t < 1
  · have HX7 := hide (HX6.out.take 1 (by omega))
    go_wp2_with (refine append_copy rfl (.tmp 75) (.tmp 78) rfl rfl _ 1 (len + 3) ((encR 7 (l)).take 1) rfl HX7.out ?_; intro a7 c7 w7 ho hx hb; have HX8 := hide hx; have HB8 := hide (chain HB6.out hb); clear ho hx hb)
    refine Calls.mono (HCUT.out 1 (by omega) (by omega) a7 c7 w7 HX8.out (HE.out.below HB8.out)) ?_
    rintro e w9 ⟨b9, rfl, hb9⟩
    have HB9 := hide (chain HB8.out hb9)
    clear hb9
    go_wp2
    go_ret
    exact ⟨rfl, HB9.out⟩
  · obtain ⟨n, rfl⟩ := Int.eq_ofNat_of_zero_le (show 0 ≤ t by omega)
    have HX7 := hide (HX6.out.take n (by omega))
    have hn1 : n < len + 3 := by omega
    have hn0 : 0 < n := by omega
    have HN1 := hide hn1
    have g1 : ¬ (n : Int) < 1 := by omega
    have g2 : ¬ (len : Int) + 3 ≤ (n : Int) := by omega
    have g3 : (n : Int) ≤ (len : Int) + 3 := by omega
    have g4 : (0 : Int) ≤ (n : Int) := by omega
    clear hn1 ht0 ht1 hneg
    go_wp2_with (refine append_copy rfl (.tmp 75) (.tmp 78) rfl rfl _ n (len + 3) ((encR 7 (l)).take n) rfl HX7.out ?_; intro a7 c7 w7 ho hx hb; have HX8 := hide hx; have HB8 := hide (chain HB6.out hb); clear ho hx hb)
    refine Calls.mono (HCUT.out n (by omega) (by omega) a7 c7 w7 HX8.out (HE.out.below HB8.out)) ?_
    rintro e w9 ⟨b9, rfl, hb9⟩
    have HB9 := hide (chain HB8.out hb9)
    clear hb9
    go_wp2
    go_ret
    exact ⟨rfl, HB9.out⟩
end Go.Proofs.YtcodcbnlnapeeabDoor
