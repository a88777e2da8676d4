/-
  The program's Cut.
-/
import Derived.Test.YtdbciciljeainaaGreatDoorXfBase
namespace Go.Proofs.YtdbciciljeainaaGreatDoor
open Go.RowKit FerryCrc
set_option linter.unusedVariables false
set_option linter.unusedSimpArgs false

theorem cut_step {pt b r m st : Int} {L : List Nat} {t i : Nat} (hi : i < t) : ((List.range i).map (ntOf pt b r m st L) ++ List.replicate (t - i) zNt).set i (ntOf pt b r m st L i) = (List.range (i + 1)).map (ntOf pt b r m st L) ++ List.replicate (t - (i + 1)) zNt := by
  rw [List.set_append_right _ _ (by simp), List.length_map, List.length_range, Nat.sub_self, show t - i = (t - (i + 1)) + 1 by omega, List.replicate_succ, List.set_cons_zero, List.range_succ, List.map_append, List.append_assoc]
  rfl
theorem cut_len {pt b r m st : Int} {L : List Nat} {t i : Nat} (hi : i ≤ t) : ((List.range i).map (ntOf pt b r m st L) ++ List.replicate (t - i) zNt).length = t := by simp; omega
theorem note_set (w : World) (g o : Nat) (n : Nt) : w.setCells g o n.cells = (((((((((w.setCell ⟨g, o, none⟩ (.int .i64 n.kind)).setCell ⟨g, o + 1, none⟩ (.int .i64 n.part)).setCell ⟨g, o + 2, none⟩ (.int .i64 n.boot)).setCell ⟨g, o + 3, none⟩ (.int .i64 n.peer)).setCell ⟨g, o + 4, none⟩ (.int .i64 n.num)).setCell ⟨g, o + 5, none⟩ (.int .i64 n.stage)).setCell ⟨g, o + 6, none⟩ (.int .i64 n.index)).setCell ⟨g, o + 7, none⟩ (.int .i64 n.total)).setCell ⟨g, o + 8, none⟩ (.int .u32 n.sum)).setCell ⟨g, o + 9, none⟩ (.string n.data) := rfl

set_option maxRecDepth 100000 in
set_option maxHeartbeats 2000000 in
theorem cut_any (pt b r m st : Int) (a : Option Addr) (n c : Nat) (L : List Nat) {w : World} {E : Nat → Addr} (he : Er7 w E) (hs : Bts w a n c L) :
    Calls Tryz.prog 24 #[.int .i64 pt, .agg #[.int .i64 b, .int .i64 r, .int .i64 m], .int .i64 st, .slice a n c] w fun e w' => ∃ v, e = .returned (.tuple #[v, erv E (cutE pt b r m st n)]) ∧ NOwn w' w.heap.size v (cutL pt b r m st L) ∧ Below w.heap.size w w' := by
  have D0 := hide (xnew w (.cells #[.int .i64 b, .int .i64 r, .int .i64 m] 23))
  have f0 : (w.alloc (.cells #[.int .i64 b, .int .i64 r, .int .i64 m] 23)).cell? ⟨w.heap.size, 0, none⟩ = some (.int .i64 b) := by rw [World.cell?_alloc_at _ _ _ _ rfl]; rfl
  have f1 : (w.alloc (.cells #[.int .i64 b, .int .i64 r, .int .i64 m] 23)).cell? ⟨w.heap.size, 1, none⟩ = some (.int .i64 r) := by rw [World.cell?_alloc_at _ _ _ _ rfl]; rfl
  have f2 : (w.alloc (.cells #[.int .i64 b, .int .i64 r, .int .i64 m] 23)).cell? ⟨w.heap.size, 2, none⟩ = some (.int .i64 m) := by rw [World.cell?_alloc_at _ _ _ _ rfl]; rfl
  have HE := hide (he.below D0.out)
  have HS := hide (hs.below D0.out)
  have hl := hs.size
  have hm := hs.most
  have H1 := hide isName_any
  have H2 := hide isStage_any
  obtain ⟨R, hR⟩ : ∃ R, cutE pt b r m st n = R := ⟨_, rfl⟩
  rw [hR]
  obtain ⟨V, hV⟩ : ∃ V, cutL pt b r m st L = V := ⟨_, rfl⟩
  rw [hV]
  have HV : Hid (V = if R = 0 then cutN pt b r m st L else []) := by rw [← hV, ← hR, ← hl]; rfl
  have HR := hide hR
  clear hR he hs hV
  go_enter Tryz.func24, Tryz.ntmps24
  go_upto_region 1 with fail
  generalize w.alloc (.cells #[.int .i64 b, .int .i64 r, .int .i64 m] 23) = W0 at *
  go_wp2_with fail
  refine Calls.mono (H1.out _ _ _ _ _) ?_
  rintro e w1 ⟨rfl, b1⟩
  have F0 := hide (cell_below f0 b1)
  have F1 := hide (cell_below f1 b1)
  have F2 := hide (cell_below f2 b1)
  have D1 := hide (chain D0.out b1)
  have HE1 := hide (HE.out.below b1)
  have HS1 := hide (HS.out.below b1)
  have L1 : Hid (w.heap.size < w1.heap.size) := block_lt_of_cell F0.out
  clear b1 D0 HE HS f0 f1 f2
  cases hn : okNm pt b r m with
  | false =>
    have HC : Hid (R = 12) := by rw [← HR.out]; unfold cutE; rw [hn]; rfl
    have e12 := HE1.out.v12
    unfold sent at e12
    clear HR
    go_wp2_with fail
    go_quiet (fail)
    go_wp2
    go_ret2
    exact ⟨_, by rw [HC.out]; rfl, by rw [HV.out, HC.out]; exact World.ownsRow_nil _ _ _ _, ⟨D1.out.os, D1.out.tape, D1.out.output, D1.out.size, D1.out.block⟩⟩
  | true =>
    cases ht : okSt st with
    | false =>
      have HC : Hid (R = 12) := by rw [← HR.out]; unfold cutE; rw [hn, ht]; rfl
      have e12 := HE1.out.v12
      unfold sent at e12
      clear HR
      go_wp2_with (refine Calls.mono (H2.out _ _) ?_; rintro e w' ⟨rfl, rfl⟩; rw [ht])
      go_quiet (fail)
      go_wp2
      go_ret2
      exact ⟨_, by rw [HC.out]; rfl, by rw [HV.out, HC.out]; exact World.ownsRow_nil _ _ _ _, ⟨D1.out.os, D1.out.tape, D1.out.output, D1.out.size, D1.out.block⟩⟩
    | true =>
      have HC0 : Hid (R = if n = 0 ∨ 4096 < n then 11 else 0) := by rw [← HR.out]; unfold cutE; rw [hn, ht]; rfl
      clear HR
      by_cases hn0 : n = 0 ∨ 4096 < n
      · have HC : Hid (R = 11) := by rw [HC0.out]; exact if_pos hn0
        have e11 := HE1.out.v11
        unfold sent at e11
        clear HC0
        by_cases h0 : n = 0
        · have h2 : ((n : Int) == 0) = true := by simp; omega
          clear hn0 h0
          go_wp2_with (refine Calls.mono (H2.out _ _) ?_; rintro e w' ⟨rfl, rfl⟩; rw [ht])
          go_quiet (fail)
          go_wp2
          go_ret2
          exact ⟨_, by rw [HC.out]; rfl, by rw [HV.out, HC.out]; exact World.ownsRow_nil _ _ _ _, ⟨D1.out.os, D1.out.tape, D1.out.output, D1.out.size, D1.out.block⟩⟩
        · have h1 : (4096 : Int) < (n : Int) := by omega
          have h2 : ((n : Int) == 0) = false := by simp; omega
          clear hn0
          go_wp2_with (refine Calls.mono (H2.out _ _) ?_; rintro e w' ⟨rfl, rfl⟩; rw [ht])
          go_quiet (fail)
          go_wp2
          go_ret2
          exact ⟨_, by rw [HC.out]; rfl, by rw [HV.out, HC.out]; exact World.ownsRow_nil _ _ _ _, ⟨D1.out.os, D1.out.tape, D1.out.output, D1.out.size, D1.out.block⟩⟩
      · have HC : Hid (R = 0) := by rw [HC0.out]; exact if_neg hn0
        have HV2 : Hid (V = cutN pt b r m st L) := by rw [HV.out, HC.out]; rfl
        clear HC0 HV
        have h1 : ¬ (4096 : Int) < (n : Int) := by omega
        have h2 : ¬ n = 0 := by omega
        have h3 : ((n : Int) == 0) = false := by simp; omega
        have hn1 : 1 ≤ n := by omega
        have hn4 : n ≤ 4096 := by omega
        clear hn0 hm
        obtain ⟨t, ht'⟩ : ∃ t, tot L = t := ⟨_, rfl⟩
        have htv : (n + 127) / 128 = t := by rw [← ht', ← hl]; rfl
        have ht32 : t ≤ 32 := by rw [← htv]; clear h1 h2 h3 hn1 ht' ; omega
        have htL : ((n : Int) + 128 - 1) / 128 = (t : Int) := by rw [← htv]; clear h1 h2 h3 hn1 hn4 ht'; omega
        have HLV := hide htL
        have hb1 : t * 88 ≤ 140737488355328 := by omega
        have hb2 : t ≤ 140737488355328 := by omega
        clear htv htL
        go_wp2_with (first | (refine Calls.mono (H2.out _ _) ?_; rintro e w' ⟨rfl, rfl⟩; rw [ht]) | (at_make; refine make_recs (f := Nt.cells) (sz := 10) nt10 (by decide) zNt Tryz.underlying27 infoNote rfl (.tmp 37) (.tmp 37) rfl (((n : Int) + 128 - 1) / 128) (((n : Int) + 128 - 1) / 128) t rfl rfl HLV.out HLV.out hb1 hb2 ?_; intro w2 q1 q2))
        obtain ⟨g, hg⟩ : ∃ g, w'.heap.size = g := ⟨_, rfl⟩
        rw [hg] at q1 q2
        have HO := hide q1
        have HQ := hide q2
        have HG := hide hg
        simp only [hg]
        clear q1 q2 HE1 hg
        go_loopw [41] (fun i wr => ∃ k : Nat, k ≤ t ∧ i = .int .i64 (k : Int) ∧ NOwn wr g (.slice (some ⟨g, 0, none⟩) t t) ((List.range k).map (ntOf pt b r m st L) ++ List.replicate (t - k) zNt) ∧ Below g w' wr) (fun i _ => t - (intOf i).toNat)
        case atStart => exact ⟨0, Nat.zero_le _, rfl, HO.out, HQ.out⟩
        case round =>
          obtain ⟨k, hk, rfl, hO, hB⟩ := hrel
          have HO := hide hO
          have HB := hide hB
          clear hO hB
          by_cases hlt : k < t
          · have hB2 := HB.out
            rw [← HG.out] at hB2
            have f0 := cell_below F0.out hB2
            have f1 := cell_below F1.out hB2
            have f2 := cell_below F2.out hB2
            have HS2 := hide (HS1.out.below hB2)
            clear hB2
            go_upto_region 11 with fail
            obtain ⟨b0, off0, ha, -⟩ := HS2.out.cell 0 hn1
            subst ha
            have hcc := HS2.out.fit
            obtain ⟨h, hh⟩ : ∃ h : Nat, (if (n : Int) < (k : Int) * 128 + 128 then (n : Int) else (k : Int) * 128 + 128) = (h : Int) := ⟨if n < k * 128 + 128 then n else k * 128 + 128, by split <;> split <;> omega⟩
            have hkn : k * 128 < n := by have := HLV.out; omega
            have hne : ¬ c = k * 128 := by omega
            have hk1 : (k : Int) * 128 ≤ (h : Int) := by rw [← hh]; split <;> omega
            have hk2 : (h : Int) ≤ (n : Int) := by rw [← hh]; split <;> omega
            have hk3 : (h : Int) ≤ (c : Int) := by omega
            have hk4 : ¬ (k : Int) * 128 < 0 := by omega
            have hcv : (convert 56 9 (.slice (some ⟨b0, off0 + k * 128, none⟩) (h - k * 128) (c - k * 128))).run Tryz.prog wr.drew = .ok (.string (pcs L k)) wr.drew := by
              have := bts_string (((HS2.out.below (Below.refl _ _).drew).drop (k * 128) (by omega)).take (h - k * 128) (by omega))
              rw [this]
              have e1 : ((L.drop (k * 128)).take (h - k * 128)) = (L.drop (k * 128)).take 128 := by
                by_cases hx : n < k * 128 + 128
                · have : h = n := by rw [if_pos (by omega)] at hh; omega
                  rw [List.take_of_length_le (by rw [List.length_drop]; omega), List.take_of_length_le (by rw [List.length_drop]; omega)]
                · have : h = k * 128 + 128 := by rw [if_neg (by omega)] at hh; omega
                  rw [show h - k * 128 = 128 by omega]
              rw [e1]
              rfl
            simp only [hh]
            have hL := cut_len (pt := pt) (b := b) (r := r) (m := m) (st := st) (L := L) hk
            obtain ⟨z1, z2, z3, z4, z5⟩ := HO.out.put nt10 hL hlt ⟨1, pt, b, r, m, st, (k : Int), (t : Int), 0, pcs L k⟩
            have zs : ((List.range k).map (ntOf pt b r m st L) ++ List.replicate (t - k) zNt).set k ⟨1, pt, b, r, m, st, (k : Int), (t : Int), 0, pcs L k⟩ = (List.range (k + 1)).map (ntOf pt b r m st L) ++ List.replicate (t - (k + 1)) zNt := by
              rw [← cut_step hlt]
              unfold ntOf
              rw [ht']
            rw [zs] at z2
            rw [note_set] at z2 z3
            have HO2 := hide (z2.below (Below.refl _ _).drew)
            have HB2 := hide ((HB.out.grown z3 (by rw [← HG.out]; exact HB.out.size) (fun j e => by cases e; exact Nat.le_refl _)).drew)
            clear zs
            clear z2 z3 hL
            obtain ⟨⟨u0, y0⟩, x0⟩ := z1 0 (by decide)
            obtain ⟨⟨u1, y1⟩, x1⟩ := z1 1 (by decide)
            obtain ⟨⟨u2, y2⟩, x2⟩ := z1 2 (by decide)
            obtain ⟨⟨u3, y3⟩, x3⟩ := z1 3 (by decide)
            obtain ⟨⟨u4, y4⟩, x4⟩ := z1 4 (by decide)
            obtain ⟨⟨u5, y5⟩, x5⟩ := z1 5 (by decide)
            obtain ⟨⟨u6, y6⟩, x6⟩ := z1 6 (by decide)
            obtain ⟨⟨u7, y7⟩, x7⟩ := z1 7 (by decide)
            obtain ⟨⟨u8, y8⟩, x8⟩ := z1 8 (by decide)
            obtain ⟨⟨u9, y9⟩, x9⟩ := z1 9 (by decide)
            clear z1 hh
            simp only [Nat.add_zero] at y0 x0
            go_region
            go_wp2
            exact ⟨⟨k + 1, by omega, by simp, HO2.out, HB2.out⟩, by simp [intOf]; omega⟩
          · obtain rfl : k = t := by omega
            go_wp2
            go_ret2
            refine ⟨_, by rw [HC.out]; rfl, ?_, ?_⟩
            · have h5 := HO.out
              rw [Nat.sub_self, List.replicate_zero, List.append_nil] at h5
              rw [HV2.out]
              unfold cutN
              rw [ht']
              exact h5.weaken (by rw [← HG.out]; exact D1.out.size)
            · have hB2 := HB.out
              rw [← HG.out] at hB2
              exact chain D1.out hB2
end Go.Proofs.YtdbciciljeainaaGreatDoor
