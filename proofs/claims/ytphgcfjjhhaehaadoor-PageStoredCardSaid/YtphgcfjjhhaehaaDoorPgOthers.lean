/-
  The law's own others: all bytes, rights and marks but those that were put.
-/
import Derived.Test.YtphgcfjjhhaehaaDoorPgPoke
namespace Go.Proofs.YtphgcfjjhhaehaaDoor
open Go.RowKit FerryCrc
set_option linter.unusedVariables false

theorem upd_page {l : List Pg} {n k i : Nat} {B : Nat → Nat} {p : Pg} (hp : l[i]? = some p) (okp : p.Ok) : ∃ q, (upd l (inR n k) B (tch n k))[i]? = some q ∧ q.rights = p.rights ∧ (tch n k i = true → q.dirty = true) ∧ (tch n k i = false → q = p) ∧
    (∀ j, j < 64 → inR n k (64 * i + j) = false → q.data[j]? = p.data[j]?) := by
  refine ⟨p.upd (fun x => inR n k (64 * i + x)) (fun x => B (64 * i + x)) (tch n k i), by rw [upd_get, hp]; rfl, rfl, fun h => by simp [Pg.upd, h], fun h => ?_, fun j hj hin => ?_⟩
  · refine pg_ext rfl (by simp [Pg.upd, h]) ?_
    refine List.ext_getElem? fun x => ?_
    show (patch _ _ _)[x]? = _
    rw [patch_get]
    cases hx : p.data[x]? with
    | none => rfl
    | some c =>
      have hx64 : x < 64 := by rw [← okp.size]; exact (List.getElem?_eq_some_iff.1 hx).1
      have : inR n k (64 * i + x) = false := by
        simp only [tch, decide_eq_false_iff_not] at h
        simp only [inR, decide_eq_false_iff_not]
        omega
      simp [this]
  · show (patch _ _ _)[j]? = _
    rw [patch_get, hin]
    cases p.data[j]? <;> simp

set_option maxRecDepth 100000 in
set_option maxHeartbeats 16000000 in
theorem others_any (a : Option Addr) (len cap : Nat) (l : List Pg) (a' : Option Addr) (cap' : Nat) (n k : Nat) (B : Nat → Nat) (w : World) (hs : Pgs w a len cap l) (hs' : Pgs w a' len cap' (upd l (inR n k) B (tch n k))) (hn : n < 4294967296) (hk : k ≤ 4294967296) :
    Calls Tryd.prog 26 #[.slice a len cap, .slice a' len cap', .int .i64 (n : Int), .int .i64 (k : Int)] w fun e w' => e = .returned (.bool true) ∧ Below w.heap.size w w' := by
  have hm := hs.most
  have HS := hide hs
  have HS' := hide hs'
  clear hs hs'
  obtain ⟨u, hu⟩ : ∃ u, n / 64 = u := ⟨_, rfl⟩
  have e64 : (n : Int) / 64 = (u : Int) := by omega
  obtain ⟨v, hv⟩ : ∃ v, (n + k - 1) / 64 = v := ⟨_, rfl⟩
  go_enter Tryd.func26, Tryd.ntmps26
  go_wp2
  go_loopw [9] (fun i wr => ∃ ii : Nat, ii ≤ len ∧ i = .int .i64 (ii : Int) ∧ Hid (Below w.heap.size w wr)) (fun i _ => len - (intOf i).toNat)
  case atStart => exact ⟨0, by omega, rfl, Below.refl _ _⟩
  case round =>
    obtain ⟨ii, hii, rfl, hb⟩ := hrel
    by_cases hlt : ii < len
    · obtain ⟨p, hp⟩ : ∃ p, l[ii]? = some p := ⟨_, List.getElem?_eq_getElem (by rw [HS.out.size]; exact hlt)⟩
      have okp := HS.out.ok p (List.mem_of_getElem? hp)
      obtain ⟨q, hq, hqr, hqd, hqe, hqb⟩ := upd_page (n := n) (k := k) (B := B) hp okp
      have okq := HS'.out.ok q (List.mem_of_getElem? hq)
      obtain ⟨b, off, rfl, hr⟩ := HS.out.cell ii p hp
      obtain ⟨b', off', rfl, hr'⟩ := HS'.out.cell ii q hq
      have c0 : wr.cell? ⟨b, off + ii * 66, none⟩ = some (.int .i64 p.rights) := range_below hr hb.out 0 _ rfl
      have d0 : wr.cell? ⟨b', off' + ii * 66, none⟩ = some (.int .i64 q.rights) := range_below hr' hb.out 0 _ rfl
      have d1 : wr.cell? ⟨b', off' + ii * 66 + 1, none⟩ = some (.bool q.dirty) := range_below hr' hb.out 1 _ rfl
      rw [hqr] at d0
      have HRA0 := hide hr
      have HRB0 := hide hr'
      have HRA := hide (range_below hr hb.out)
      have HRB := hide (range_below hr' hb.out)
      have hu41 := Tryd.underlying41
      have hi1 : (Tryd.prog.info? 41).map (·.size) = some p.cells.length := by rw [okp.cells]; exact sizePage
      have hne : ∀ w, (binOp .neq 41 (.agg p.cells.toArray) (.agg p.cells.toArray)).run Tryd.prog w = .ok (.bool false) w := fun w => neq_page okp w
      have HQB := hide hqb
      have HQE := hide hqe
      have OKP := hide okp
      have OKQ := hide okq
      have hil : (ii : Int) < (len : Int) := by omega
      clear hr hr' hp hq okp okq hqb hqe
      have hcase : (∃ f1 : (0 : Int) < (k : Int), ∃ f2 : (u : Int) ≤ (ii : Int), ∃ f3 : ((n : Int) + (k : Int) - 1) / 64 = (v : Int), ∃ f4 : (ii : Int) ≤ (v : Int), q.dirty = true) ∨ (q = p ∧ ¬ (0 : Int) < (k : Int)) ∨ (q = p ∧ 0 < k ∧ (ii : Int) < (u : Int)) ∨ (q = p ∧ 0 < k ∧ (u : Int) ≤ (ii : Int) ∧ ((n : Int) + (k : Int) - 1) / 64 = (v : Int) ∧ ¬ (ii : Int) ≤ (v : Int)) := by
        obtain ⟨t, ht⟩ : ∃ t, tch n k ii = t := ⟨_, rfl⟩
        cases t with
        | true =>
          have hd := hqd ht
          simp only [tch, decide_eq_true_eq] at ht
          exact .inl ⟨by omega, by omega, by omega, by omega, hd⟩
        | false =>
          have he := HQE.out ht
          simp only [tch, decide_eq_false_iff_not] at ht
          by_cases h0 : k = 0
          · exact .inr (.inl ⟨he, by omega⟩)
          · by_cases h1 : ii < u
            · exact .inr (.inr (.inl ⟨he, by omega, by omega⟩))
            · exact .inr (.inr (.inr ⟨he, by omega, by omega, by omega, by omega⟩))
      clear hqd HQE
      have HBD := hide hb
      have HBYTE : Hid (∀ j, j < 64 → ∃ x y : Nat, w.cell? ⟨b, off + ii * 66 + 2 + j, none⟩ = some (.int .u8 (x : Int)) ∧ w.cell? ⟨b', off' + ii * 66 + 2 + j, none⟩ = some (.int .u8 (y : Int)) ∧ (inR n k (64 * ii + j) = false → y = x)) := fun j hj => by
        have hjp : j < p.data.length := by rw [OKP.out.size]; exact hj
        have hjq : j < q.data.length := by rw [OKQ.out.size]; exact hj
        refine ⟨p.data[j], q.data[j], range_row HRA0.out j _ (by simp [Pg.row, bv, hjp]), range_row HRB0.out j _ (by simp [Pg.row, bv, hjq]), fun h => ?_⟩
        have := HQB.out j hj h
        rw [List.getElem?_eq_getElem hjp, List.getElem?_eq_getElem hjq] at this
        exact Option.some.inj this
      clear HQB
      rcases hcase with ⟨f1, f2, f3, f4, hd⟩ | ⟨rfl, f1⟩ | ⟨rfl, f1, f2⟩ | ⟨rfl, f1, f2, f3, f4⟩
      all_goals
        try (rw [hd] at d1; clear hd)
        go_wp2_with fail
        refine wp_region_quiet_lit (by kernel_rfl) (by kernel_rfl) ?_
        repeat (first
          | (go_big_quiet_want; refine quiet_load_mid 41 (.tmp 57) rfl b (off + ii * 66) rfl _ _ HRA.out hu41 rfl hi1 ?_; simp only [Act.put, List.setIfInBounds_toArray, List.set_cons_succ, List.set_cons_zero]; go_big_quiet_on)
          | (go_big_quiet_want; refine quiet_load_mid 41 (.tmp 61) rfl b' (off' + ii * 66) rfl _ _ HRB.out hu41 rfl hi1 ?_; simp only [Act.put, List.setIfInBounds_toArray, List.set_cons_succ, List.set_cons_zero]; go_big_quiet_on)
          | (go_big_quiet_want; refine quiet_neq 41 41 (.tmp 58) (.tmp 62) rfl _ _ rfl rfl (by kernel_rfl) _ hne ?_; simp only [Act.put, List.setIfInBounds_toArray, List.set_cons_succ, List.set_cons_zero]; go_big_quiet_on)
          | go_big_quiet_step (fail))
        refine wpQuiet_nil ?_
        intro _ hw'
        obtain ⟨nq, rfl⟩ := hw'
        have B9 : Hid (Below w.heap.size w (wr.drewN nq)) := drewN_below hb.out nq
        clear c0 d0 d1 hne hi1 hu41 HRA HRB
        generalize wr.drewN nq = w9 at *
        clear nq hb HBD
        go_wp2_with fail
        go_loopw [11] (fun j wr => ∃ jj : Nat, jj ≤ 64 ∧ j = .int .i64 (jj : Int) ∧ Hid (Below w.heap.size w wr)) (fun j _ => 64 - (intOf j).toNat)
        case atStart => exact ⟨0, by omega, rfl, B9.out⟩
        case round =>
          obtain ⟨jj, hjj, rfl, hb9⟩ := hrel
          by_cases hj64 : jj < 64
          · obtain ⟨x, y, cx, cy, hxy⟩ := HBYTE.out jj hj64
            have c1 := cell_below cx hb9.out
            have c2 := cell_below cy hb9.out
            clear cx cy
            obtain ⟨ad, had⟩ : ∃ ad, 64 * ii + jj = ad := ⟨_, rfl⟩
            have e1 : 64 * (ii : Int) + (jj : Int) = (ad : Int) := by omega
            have j1 : (jj : Int) < 64 := by omega
            rw [had] at hxy
            have hc3 : (y = x ∧ ad < n) ∨ (y = x ∧ ¬ ad < n ∧ decide ((n : Int) + (k : Int) ≤ (ad : Int)) = true) ∨ (¬ ad < n ∧ decide ((n : Int) + (k : Int) ≤ (ad : Int)) = false) := by
              by_cases h1 : ad < n
              · exact .inl ⟨hxy (by simp only [inR, decide_eq_false_iff_not]; omega), h1⟩
              · by_cases h2 : n + k ≤ ad
                · exact .inr (.inl ⟨hxy (by simp only [inR, decide_eq_false_iff_not]; omega), h1, decide_eq_true (by omega)⟩)
                · exact .inr (.inr ⟨h1, decide_eq_false (by omega)⟩)
            have ad63 : ad < 9223372036854775807 := by omega
            have v1 : IntKind.i64.wrap (64 * (ii : Int)) = 64 * (ii : Int) := by rw [IntKind.wrap_i64]; omega
            have v2 : IntKind.i64.wrap (ad : Int) = (ad : Int) := by rw [IntKind.wrap_i64]; omega
            have v3 : IntKind.i64.wrap ((n : Int) + (k : Int)) = (n : Int) + (k : Int) := by rw [IntKind.wrap_i64]; omega
            have j2 : (0 : Int) ≤ (jj : Int) := by omega
            have i2 : (0 : Int) ≤ (ii : Int) := by omega
            clear hxy had
            rcases hc3 with ⟨rfl, g1⟩ | ⟨rfl, g1, g2⟩ | ⟨g1, g2⟩
            all_goals try (exfalso; omega)
            all_goals
              go_wp2_with fail
              refine wp_region_quiet_lit (by kernel_rfl) (by kernel_rfl) ?_
              repeat (go_big_quiet_step (fail))
              refine wpQuiet_nil ?_
              intro _ hw'
              obtain ⟨nq, rfl⟩ := hw'
              clear c1 c2
              go_wp2_with fail
              first
                | exact ⟨⟨jj + 1, by omega, by simp, drewN_below hb9.out nq⟩, by simp [intOf]; omega⟩
                | (go_roundw
                   case rel => exact ⟨jj + 1, by omega, by go_num, drewN_below hb9.out nq⟩
                   case measure => simp [intOf]; omega)
          · obtain rfl : jj = 64 := by omega
            have j1 : ¬ ((64 : Nat) : Int) < 64 := by omega
            go_wp2
            exact ⟨⟨ii + 1, by omega, by simp, hb9.out⟩, by simp [intOf]; omega⟩
    · obtain rfl : ii = len := by omega
      go_wp2
      go_ret
      exact ⟨rfl, hb.out⟩
end Go.Proofs.YtphgcfjjhhaehaaDoor
