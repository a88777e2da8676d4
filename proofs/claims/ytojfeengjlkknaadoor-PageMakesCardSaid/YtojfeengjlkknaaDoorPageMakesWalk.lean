/-
  Walk of the law PageMakes.
-/
import Derived.Test.YtojfeengjlkknaaDoorPgRMake
namespace Go.Proofs.YtojfeengjlkknaaDoor.pageMakes
open Go.RowKit FerryCrc
set_option linter.unusedVariables false
set_option linter.unusedSimpArgs false

theorem new_below1 (w : World) (o : Obj) : Below w.heap.size w (w.alloc o) := (Below.refl _ _).alloc (Nat.le_refl _) _
def p0 : Pnv := ⟨3, [97, 98]⟩
theorem p0_ok : p0.Ok := ⟨by decide, by decide, by decide, by decide⟩
theorem p0_e : mkE [p0] = (0, -1) := by kernel_rfl
theorem p0_l : mkL [p0] = [p0.page] := mkL_no (by rw [p0_e])
theorem p0_pok : p0.page.Ok := Pnv.page_ok p0_ok (by decide)
theorem p0_b : p0.page.cells[3]? = some (.int .u8 98) := by kernel_rfl
theorem p0_r : p0.page.cells[0]? = some (.int .i64 3) := by kernel_rfl
theorem rcs_p0 (w : World) : Rcs Pnv.cells 2 (w.alloc (.cells #[.int .i64 3, .string ⟨#[97, 98]⟩] 29)) (some ⟨w.heap.size, 0, none⟩) 1 1 [p0] := by
  refine ⟨rfl, rfl, Nat.le_refl _, fun e => by simp at e, fun j v hv => ⟨_, _, rfl, ?_⟩⟩
  rw [Nat.zero_add, World.cell?_alloc_at _ _ _ _ rfl]
  have e : [p0].flatMap Pnv.cells = [.int .i64 3, .string ⟨#[97, 98]⟩] := rfl
  rw [e] at hv
  simpa using hv
theorem infoPlan : ∃ i z, Tryd.prog.info? 29 = some i ∧ i.zero = some z ∧ i.size = 2 ∧ i.bytes = 24 ∧ z.cells.size = 2 := by
  have h : (Tryd.prog.info? 29).map (fun i => (i.size, i.bytes, i.zero.map (·.cells.size))) = some (2, 24, some 2) := by kernel_rfl
  cases hi : Tryd.prog.info? 29 with
  | none => simp [hi] at h
  | some i =>
    simp only [hi, Option.map_some, Option.some.injEq, Prod.mk.injEq] at h
    obtain ⟨h1, h2, h3⟩ := h
    cases hz : i.zero with
    | none => simp [hz] at h3
    | some z => exact ⟨i, z, rfl, hz, h1, h2, by simpa [hz] using h3⟩
theorem pnv_one (l : List Pnv) : ∀ u ∈ l.flatMap Pnv.cells, u.oneCell' = true := by
  intro u hu
  obtain ⟨p, _, hp⟩ := List.mem_flatMap.1 hu
  simp only [Pnv.cells, List.mem_cons, List.not_mem_nil, or_false] at hp
  rcases hp with rfl | rfl <;> rfl

theorem structPn : Tryd.prog.underlying 29 = some (.struct (Tryd.prog.fieldsOf 29)) := by
  simp only [Program.fieldsOf, Tryd.underlying29]
theorem heldPn : Tryd.prog.stoodInHeld 29 = false := by kernel_rfl
theorem eqFields2 {P : Program} (w : World) (d : Nat) (xs : Array Value) (f0 f1 : Field) (n0 : f0.name ≠ "_") (n1 : f1.name ≠ "_") (x0 x1 : Value)
    (a0 : (part f0.type xs f0.offset).run P w = .ok x0 w) (a1 : (part f1.type xs f1.offset).run P w = .ok x1 w)
    (e0 : (Op.equalIn d f0.type x0 x0).run P w = .ok true w) (e1 : (Op.equalIn d f1.type x1 x1).run P w = .ok true w) :
    (Op.eqFields d xs xs [f0, f1]).run P w = .ok true w := by
  simp only [Op.eqFields, if_pos n0, if_pos n1, Sem.run_bind, Sem.run_ite, a0, a1, Result.andThen_ok, e0, e1, Bool.not_true, Bool.false_eq_true, if_false, Sem.run_pure]
theorem same_plan (d : Nat) (r : Int) (S : ByteArray) (w : World) : (Op.equalIn (d + 2 + 1) 29 (.agg #[.int .i64 r, .string S]) (.agg #[.int .i64 r, .string S])).run Tryd.prog w = .ok true w := by
  rw [run_equalIn_struct (P := Tryd.prog) w (d + 2) 29 _ _ structPn heldPn]
  have a0 : (part 3 #[.int .i64 r, .string S] 0).run Tryd.prog w = .ok (.int .i64 r) w := part_plain Tryd.underlying3 rfl rfl w
  have a1 : (part 9 #[.int .i64 r, .string S] 1).run Tryd.prog w = .ok (.string S) w := part_plain Tryd.underlying9 rfl rfl w
  have e0 := run_equalIn_int (P := Tryd.prog) w (d + 1) 3 .i64 .i64 r r Tryd.underlying3
  have e1 := run_equalIn_string (P := Tryd.prog) w (d + 1) 9 S S Tryd.underlying9
  have hfo := structPn
  rw [Tryd.underlying29] at hfo
  simp only [Option.some.injEq, TypeDesc.struct.injEq] at hfo
  rw [← hfo]
  rw [beq_self_eq_true] at e0 e1
  exact eqFields2 w (d + 2) _ _ _ (by decide) (by decide) _ _ a0 a1 e0 e1
theorem neq_plan (r : Int) (S : ByteArray) (w : World) : (binOp .neq 29 (.agg #[.int .i64 r, .string S]) (.agg #[.int .i64 r, .string S])).run Tryd.prog w = .ok (.bool false) w := by
  rw [run_neq_struct, same_plan 9997 r S w]
  rfl

set_option maxRecDepth 100000 in
set_option maxHeartbeats 4000000 in
theorem law {E : Nat → Addr} (a : Option Addr) (len cap : Nat) (l : List Pnv) (w : World) (he : Errs w E) (hs : Rcs Pnv.cells 2 w a len cap l) (ok : ∀ p ∈ l, p.Ok) (hm : len ≤ 5864062014805) :
    Calls Tryd.prog 3 #[.slice a len cap] w fun e w' => e = .returned (.bool true) ∧ Below w.heap.size w w' := by
  have HE := hide he
  have HS := hide hs
  have hl := hs.size
  have OK := hide ok
  clear he hs ok
  go_enter Tryd.func3, Tryd.ntmps3
  go_wp2_with fail
  have HI := hide infoPlan
  have B0 := hide ((Below.refl w.heap.size w).alloc (Nat.le_refl _) (.cells #[.int .i64 3, .string ⟨#[97, 98]⟩] 29))
  have R0 := hide (rcs_p0 w)
  generalize w.alloc (.cells #[.int .i64 3, .string ⟨#[97, 98]⟩] 29) = W0 at *
  refine Calls.mono (make_any (HE.out.below B0.out) _ 1 1 [p0] R0.out (fun p hp => by rw [List.mem_singleton.1 hp]; exact p0_ok) (by decide)) ?_
  rintro e w1 ⟨x, v, rfl, hv, ho, b1⟩
  rw [p0_e] at hv
  rw [p0_l] at ho
  obtain rfl : v = .nilIface := by
    rcases hv with ⟨h, _, _⟩ | ⟨h, _, _, _⟩ | ⟨h, _, _⟩
    · exact h
    · simp at h
    · simp at h
  obtain ⟨ax, cx, rfl, _, hform⟩ := ho.pgs (fun q hq => by rw [List.mem_singleton.1 hq]; exact p0_pok) (by decide)
  rcases hform with ⟨_, hnil⟩ | ⟨g, rfl, hg⟩
  · exact absurd hnil (by simp)
  have okx : Oks [p0.page] := fun q hq => by rw [List.mem_singleton.1 hq]; exact p0_pok
  have k3 := (ho.cellOf rfl okx (q := 0) (p := p0.page) rfl (j := 3) (by decide)).1
  have k0 := (ho.cellOf rfl okx (q := 0) (p := p0.page) rfl (j := 0) (by decide)).1
  rw [p0_b] at k3
  rw [p0_r] at k0
  simp only [Nat.zero_mul, Nat.zero_add] at k3 k0
  have D1 := hide (chain B0.out b1)
  simp only [List.length_singleton]
  clear ho b1 hv okx hg R0 B0
  have BE := hide (new_below1 w1 (.cells #[] 29))
  go_wp2_with (at_builtin; obtain ⟨i, z, hi, hz, hsz, hby, hzs⟩ := HI.out; refine append_rows rfl (.tmp 39) (.tmp 40) 22 rfl 29 i z 2 24 Tryd.underlying22 hi hz hsz hby hzs (by decide) w1.heap.size _ 0 [] rfl (.inl (World.ownsRow_lit w1 #[] 0 (Nat.le_refl _) (by decide) rfl)) a len cap (l.flatMap Pnv.cells) rfl ((HS.out.below (chain D1.out BE.out)).row) (pnv_one l) (by unfold maxLen; omega) (by omega) BE.out.size ?_; clear hi hz hsz hby hzs; intro v2 w2 h2 b2)
  rw [List.nil_append, Nat.zero_add] at h2
  obtain ⟨a2, c2, rfl, hr2⟩ := h2.row
  have R2 : Hid (Rcs Pnv.cells 2 w2 a2 len c2 l) := ⟨hl, hr2⟩
  have D2 := hide (chain D1.out (BE.out.trans b2))
  clear h2 b2 hr2 BE k0 k3
  go_wp2_with fail
  refine Calls.mono (refMake_any w2 a len cap l (HS.out.below D2.out) OK.out (by omega)) ?_
  rintro e w3 ⟨x3, rfl, ho3, b3⟩
  have O3 := hide ho3
  have R3 := hide (R2.out.below b3)
  have D3 := hide (chain D2.out b3)
  clear ho3 b3 R2
  go_wp2_with fail
  refine Calls.mono (make_any (HE.out.below D3.out) a2 len c2 l R3.out OK.out (by omega)) ?_
  rintro e w4 ⟨x4, v4, rfl, hv4, ho4, b4⟩
  have O3 := hide (O3.out.below b4)
  have O4 := hide ho4
  have V4 := hide hv4
  have R4 := hide (R3.out.below b4)
  have S4 := hide (HS.out.below (chain D3.out b4))
  have D4 := hide (chain D3.out b4)
  clear ho4 hv4 b4 R3
  go_wp2_with fail
  go_loopw [10] (fun i wr => ∃ k : Nat, k ≤ len ∧ i = .int .i64 (k : Int) ∧ Hid (Below w4.heap.size w4 wr)) (fun i _ => len - (intOf i).toNat)
  case atStart => exact ⟨0, by omega, rfl, Below.refl _ _⟩
  case round =>
    obtain ⟨k, hk, rfl, hb⟩ := hrel
    by_cases hlt : k < len
    · obtain ⟨p, hp⟩ : ∃ p, l[k]? = some p := ⟨_, List.getElem?_eq_getElem (by rw [hl]; exact hlt)⟩
      obtain ⟨b, off, rfl, hr⟩ := (S4.out.below hb.out).at pnv2 (by decide) hp
      obtain ⟨b', off', rfl, hr'⟩ := (R4.out.below hb.out).at pnv2 (by decide) hp
      have r0 := hr 0 _ rfl
      have r1 := hr 1 _ rfl
      have s0 := hr' 0 _ rfl
      have s1 := hr' 1 _ rfl
      simp only [Nat.add_zero] at r0 s0
      have hne := neq_plan p.rights (str p.init)
      clear hr hr' hp
      generalize p.rights = r at *
      generalize str p.init = S at *
      go_wp2_with fail
      refine wp_region_quiet_lit (by kernel_rfl) (by kernel_rfl) ?_
      repeat (first
        | (go_big_quiet_want; refine quiet_neq 29 29 (.tmp 62) (.tmp 66) rfl _ _ rfl rfl (by kernel_rfl) _ hne ?_; simp only [Act.put, List.setIfInBounds_toArray, List.set_cons_succ, List.set_cons_zero]; go_big_quiet_on)
        | go_big_quiet_step (fail))
      refine wpQuiet_nil ?_
      intro _ hw'
      obtain ⟨nq, rfl⟩ := hw'
      clear hne r0 r1 s0 s1
      go_wp2
      go_roundw
      case rel => exact ⟨k + 1, by omega, by go_num, drewN_below hb.out nq⟩
      case measure => simp [intOf]; omega
    · obtain rfl : k = len := by omega
      have DR := hide (chain D4.out hb.out)
      have OA := hide (O4.out.below hb.out)
      have OB := hide (O3.out.below hb.out)
      have VR := hide (V4.out.below hb.out)
      have OKM := hide (mkL_ok OK.out)
      have LEN := hide (mkL_len l)
      clear hlt
      go_wp2_with fail
      refine Calls.mono (same_own OA.out OB.out OKM.out (by have := LEN.out; omega)) ?_
      rintro e w5 ⟨rfl, b5⟩
      have DR := hide (chain DR.out b5)
      have VR := hide (VR.out.below b5)
      clear b5
      generalize (mkE l).1 = cc at *
      generalize (mkE l).2 = pp at *
      go_wp2_with fail
      refine Calls.mono (code_any (HE.out.below DR.out) v4 cc pp VR.out) ?_
      rintro e w6 ⟨rfl, rfl⟩
      go_wp2_with fail
      refine Calls.mono (place_any (HE.out.below DR.out) v4 cc pp VR.out) ?_
      rintro e w7 ⟨rfl, b7⟩
      have DR := hide (chain DR.out b7)
      clear b7
      go_wp2
      go_ret
      exact ⟨rfl, DR.out⟩
end Go.Proofs.YtojfeengjlkknaaDoor.pageMakes
