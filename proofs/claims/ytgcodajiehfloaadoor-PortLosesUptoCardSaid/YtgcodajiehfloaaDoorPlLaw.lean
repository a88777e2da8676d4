/-
  The law's own functions on lists of ports, reports and messages.
-/
import Derived.Test.YtgcodajiehfloaaDoorPlREmit
import Derived.Test.YtgcodajiehfloaaDoorPtFixed
import Derived.Laws.StructEq
namespace Go.Proofs.YtgcodajiehfloaaDoor
open Go.RowKit
set_option linter.unusedVariables false
set_option linter.unusedSimpArgs false

set_option maxRecDepth 100000 in
set_option maxHeartbeats 4000000 in
theorem copiedAll_any {w : World} (a : Option Addr) (len cap : Nat) (l : List Pr) (hs : Prs w a len cap l) (hm : len ≤ 1048576) :
    Calls Tryd.prog 7 #[.slice a len cap] w fun e w' => ∃ x l', e = .returned x ∧ PrOwn w' w.heap.size x l' ∧ l'.map Pr.key = l.map Pr.key ∧ Below w.heap.size w w' := by
  have HS := hide hs
  have hl := hs.rcs.size
  have HI := hide infoPort
  clear hs
  go_enter Tryd.func7, Tryd.ntmps7
  go_wp2
  go_loopw [3, 4] (fun o i wr => ∃ (k : Nat) (L : List Pr), k ≤ len ∧ i = .int .i64 (k : Int) ∧ L.length = k ∧ Hid (PrOwn wr w.heap.size o L) ∧ Hid (L.map Pr.key = (l.map Pr.key).take k) ∧ Hid (Below w.heap.size w wr)) (fun _ i _ => len - (intOf i).toNat)
  case atStart => exact ⟨0, [], by omega, rfl, rfl, prown_nil _ _, by unfold Hid; simp, Below.refl _ _⟩
  case round =>
    obtain ⟨k, L, hk, rfl, hL, hown, hkey, hb⟩ := hrel
    by_cases hlt : k < len
    · obtain ⟨x, hx⟩ : ∃ x, l[k]? = some x := ⟨_, List.getElem?_eq_getElem (by rw [hl]; exact hlt)⟩
      obtain ⟨b, off, rfl, hr⟩ := (HS.out.below hb.out).rcs.at pr2 (by decide) hx
      have hsx : Sts wr x.a x.msgs.length x.cap x.msgs := (HS.out.below hb.out).shows_ x (List.mem_of_getElem? hx)
      have HSX := hide hsx
      have HXK : Hid ((l.map Pr.key).take (k + 1) = (l.map Pr.key).take k ++ [(x.msgs, x.age)]) := by
        unfold Hid
        rw [List.take_add_one, List.getElem?_map, hx]
        rfl
      have s0 := hr 0 _ rfl
      have s1 := hr 1 _ rfl
      simp only [Nat.add_zero] at s0
      clear hr hx hsx
      go_wp2_with fail
      refine Calls.mono (lcopied_any x.a x.msgs.length x.cap x.msgs x.age wr HSX.out) ?_
      rintro e w5 ⟨v5, rfl, o5, b5⟩
      obtain ⟨a5, c5, rfl, st5⟩ := o5.sts HSX.out.most HSX.out.small
      have HQ : Hid ((⟨a5, c5, x.msgs, x.age⟩ : Pr).Shows w5) := st5
      have HF : Hid ((⟨a5, c5, x.msgs, x.age⟩ : Pr).off u3.ownBlock) := by
        unfold Hid
        cases hb0 : u3.ownBlock with
        | none => exact off_none _
        | some g' => exact o5.off (g := g') (age := x.age) (hown.out.row.lt g' hb0).2
      have BL := hide (new_below' w5 (.cells #[.slice a5 x.msgs.length c5, .int .i64 x.age] 26))
      have OL := hide ((hown.out.below b5).below BL.out)
      have QL := hide (HQ.out.below BL.out)
      have D5 := hide (chain hb.out b5)
      clear o5 b5 st5 s0 s1
      go_wp2_with (at_builtin; refine append_rec rfl (.tmp 11) (.tmp 17) 28 26 rfl Tryd.underlying28 HI.out (by decide) w.heap.size _ L.length (L.flatMap Pr.cells) rfl OL.out.row w5.heap.size 1 (Pr.cells ⟨a5, c5, x.msgs, x.age⟩) rfl rfl (fun i u hu => by rw [World.cell?_alloc_at _ _ _ _ rfl]; simpa [Pr.cells] using hu) (fun u hu => pr_one [⟨a5, c5, x.msgs, x.age⟩] u (by simpa using hu)) (by unfold maxLen; omega) (by omega) (Nat.le_trans D5.out.size BL.out.size) ?_; intro g6 c6 w6 ho6 hg6 hat6 hlt6)
      have O6 := hide (OL.out.snoc QL.out HF.out ho6 hg6 hat6)
      rw [hL] at O6
      have D6 := hide ((chain D5.out BL.out).grown hg6 (chain D5.out BL.out).size (fun k' hk' => (OL.out.row.lt k' hk').1))
      clear ho6 hg6 hat6
      refine ⟨⟨k + 1, _, by omega, by go_num, by rw [List.length_append, hL]; rfl, O6.out, ?_, D6.out⟩, by simp [intOf]; omega⟩
      unfold Hid
      rw [HXK.out, List.map_append, hkey.out]
      rfl
    · obtain rfl : k = len := by omega
      have HK0 : Hid (L.map Pr.key = l.map Pr.key) := by
        unfold Hid
        rw [hkey.out, List.take_of_length_le (by rw [List.length_map, hl]; exact Nat.le_refl _)]
      go_wp2
      go_ret
      exact ⟨_, L, rfl, hown.out, HK0.out, hb.out⟩

set_option maxRecDepth 100000 in
set_option maxHeartbeats 4000000 in
theorem told_yes {w : World} {E : Nat → Addr} (he : Errs w E) (v : Value) (i : Nat) (p : Int) (hv : IsErr w E v i p) :
    Calls Tryd.prog 9 #[v, .agg #[.int .i64 (i : Int), .int .i64 p]] w fun e w' => e = .returned (.bool true) ∧ Below w.heap.size w w' := by
  have HE := hide he
  have HV := hide hv
  clear he hv
  have T0 := hide (two_alloc w (.int .i64 (i : Int)) (.int .i64 p) 40)
  have B0 := hide (new_below' w (.cells #[.int .i64 (i : Int), .int .i64 p] 40))
  go_enter Tryd.func9, Tryd.ntmps9
  go_wp2_with fail
  have i0 := T0.out.c0
  have i1 := T0.out.c1
  generalize w.alloc (.cells #[.int .i64 (i : Int), .int .i64 p] 40) = W0 at *
  go_region_with (first
    | (go_at_call 18; refine (code_any (HE.out.below (chain B0.out ((Below.refl _ _).drew))) v i p (HV.out.below (chain B0.out ((Below.refl _ _).drew)))).mono ?_; rintro e w1 ⟨rfl, rfl⟩)
    | (go_at_call 27; refine (place_any (HE.out.below (chain B0.out ((Below.refl _ _).drew))) v i p (HV.out.below (chain B0.out ((Below.refl _ _).drew)))).mono ?_; rintro e w2 ⟨rfl, b2⟩; have B2 := hide (undrew b2); have t0 := cell_below T0.out.c0 B2.out; have t1 := cell_below T0.out.c1 B2.out; clear b2))
  all_goals go_wp2
  all_goals go_ret
  all_goals exact ⟨rfl, chain B0.out B2.out⟩

set_option maxRecDepth 100000 in
set_option maxHeartbeats 4000000 in
theorem samePorts_yes {w : World} (a a' : Option Addr) (len c c' : Nat) (l l' : List Pr) (hs : Prs w a len c l) (hs' : Prs w a' len c' l') (hk : l.map Pr.key = l'.map Pr.key) (hm : len ≤ 1048576) :
    Calls Tryd.prog 10 #[.slice a len c, .slice a' len c'] w fun e w' => e = .returned (.bool true) ∧ Below w.heap.size w w' := by
  have HS := hide hs
  have HS' := hide hs'
  have HK := hide hk
  have hl := hs.rcs.size
  have hl' := hs'.rcs.size
  clear hs hs' hk
  go_enter Tryd.func10, Tryd.ntmps10
  go_wp2
  go_loopw [5] (fun i wr => ∃ k : Nat, k ≤ len ∧ i = .int .i64 (k : Int) ∧ Hid (Below w.heap.size w wr)) (fun i _ => len - (intOf i).toNat)
  case atStart => exact ⟨0, by omega, rfl, Below.refl _ _⟩
  case round =>
    obtain ⟨k, hk, rfl, hb⟩ := hrel
    by_cases hlt : k < len
    · obtain ⟨x, hx⟩ : ∃ x, l[k]? = some x := ⟨_, List.getElem?_eq_getElem (by rw [hl]; exact hlt)⟩
      obtain ⟨y, hy⟩ : ∃ y, l'[k]? = some y := ⟨_, List.getElem?_eq_getElem (by rw [hl']; exact hlt)⟩
      have hkk : x.key = y.key := by
        have h1 : (l.map Pr.key)[k]? = some x.key := by rw [List.getElem?_map, hx]; rfl
        have h2 : (l'.map Pr.key)[k]? = some y.key := by rw [List.getElem?_map, hy]; rfl
        rw [HK.out, h2] at h1
        exact (Option.some.inj h1).symm
      have hmsg : x.msgs = y.msgs := congrArg Prod.fst hkk
      have hage : x.age = y.age := congrArg Prod.snd hkk
      obtain ⟨b, off, rfl, hr⟩ := (HS.out.below hb.out).rcs.at pr2 (by decide) hx
      obtain ⟨b', off', rfl, hr'⟩ := (HS'.out.below hb.out).rcs.at pr2 (by decide) hy
      have hsx : Sts wr x.a x.msgs.length x.cap x.msgs := (HS.out.below hb.out).shows_ x (List.mem_of_getElem? hx)
      have hsy : Sts wr y.a y.msgs.length y.cap y.msgs := (HS'.out.below hb.out).shows_ y (List.mem_of_getElem? hy)
      have s0 := hr 0 _ rfl
      have s1 := hr 1 _ rfl
      have t0 := hr' 0 _ rfl
      have t1 := hr' 1 _ rfl
      simp only [Nat.add_zero] at s0 t0
      rw [← hmsg] at hsy t0
      rw [← hage] at t1
      have HSX := hide hsx
      have HSY := hide hsy
      clear hr hr' hx hy hsx hsy hkk hmsg hage
      go_wp2_with fail
      go_region_held3 (fun wz => wz.cell? ⟨b, off + k * 2, none⟩ = some (.slice x.a x.msgs.length x.cap) ∧ wz.cell? ⟨b, off + k * 2 + 1, none⟩ = some (.int .i64 x.age) ∧ wz.cell? ⟨b', off' + k * 2, none⟩ = some (.slice y.a x.msgs.length y.cap) ∧ wz.cell? ⟨b', off' + k * 2 + 1, none⟩ = some (.int .i64 x.age))
        (first | exact ⟨s0, s1, t0, t1⟩ | exact ⟨cell_below s0 B5.out, cell_below s1 B5.out, cell_below t0 B5.out, cell_below t1 B5.out⟩)
        ((go_at_call 15; refine (refSame_yes x.a y.a x.msgs.length x.cap y.cap x.msgs x.age _ (HSX.out.below ((Below.refl _ _).drew)) (HSY.out.below ((Below.refl _ _).drew))).mono ?_; rintro e w5 ⟨rfl, b5⟩; have B5 := hide (undrew b5); clear b5))
      rename_i hheld
      clear hheld s0 s1 t0 t1
      go_wp2
      go_roundw
      case rel => exact ⟨k + 1, by omega, by go_num, chain hb.out B5.out⟩
      case measure => simp [intOf]; omega
    · obtain rfl : k = len := by omega
      go_wp2
      go_ret
      exact ⟨rfl, hb.out⟩

theorem part_plain {t : TypeId} {d : TypeDesc} (hu : Tryd.prog.underlying t = some d) (hd : d.isRow = false) {xs : Array Value} {off : Nat} {v : Value} (hx : xs[off]? = some v) (w : World) : (part t xs off).run Tryd.prog w = .ok v w := by
  cases d <;> simp [TypeDesc.isRow] at hd <;> simp [part, isAgg, run_underlying hu, hx]
theorem structMg : Tryd.prog.underlying 53 = some (.struct (Tryd.prog.fieldsOf 53)) := by
  simp only [Program.fieldsOf, Tryd.underlying53]
theorem heldMg : Tryd.prog.stoodInHeld 53 = false := by kernel_rfl
theorem structRp : Tryd.prog.underlying 65 = some (.struct (Tryd.prog.fieldsOf 65)) := by
  simp only [Program.fieldsOf, Tryd.underlying65]
theorem heldRp : Tryd.prog.stoodInHeld 65 = false := by kernel_rfl
theorem eqFields2 {P : Program} (w : World) (d : Nat) (xs : Array Value) (f0 f1 : Field) (n0 : f0.name ≠ "_") (n1 : f1.name ≠ "_") (x0 x1 : Value)
    (a0 : (part f0.type xs f0.offset).run P w = .ok x0 w) (a1 : (part f1.type xs f1.offset).run P w = .ok x1 w)
    (e0 : (Op.equalIn d f0.type x0 x0).run P w = .ok true w) (e1 : (Op.equalIn d f1.type x1 x1).run P w = .ok true w) :
    (Op.eqFields d xs xs [f0, f1]).run P w = .ok true w := by
  simp only [Op.eqFields, if_pos n0, if_pos n1, Sem.run_bind, Sem.run_ite, a0, a1, Result.andThen_ok, e0, e1, Bool.not_true, Bool.false_eq_true, if_false, Sem.run_pure]
theorem eqFields4 {P : Program} (w : World) (d : Nat) (xs : Array Value) (f0 f1 f2 f3 : Field) (n0 : f0.name ≠ "_") (n1 : f1.name ≠ "_") (n2 : f2.name ≠ "_") (n3 : f3.name ≠ "_") (x0 x1 x2 x3 : Value)
    (a0 : (part f0.type xs f0.offset).run P w = .ok x0 w) (a1 : (part f1.type xs f1.offset).run P w = .ok x1 w) (a2 : (part f2.type xs f2.offset).run P w = .ok x2 w) (a3 : (part f3.type xs f3.offset).run P w = .ok x3 w)
    (e0 : (Op.equalIn d f0.type x0 x0).run P w = .ok true w) (e1 : (Op.equalIn d f1.type x1 x1).run P w = .ok true w) (e2 : (Op.equalIn d f2.type x2 x2).run P w = .ok true w) (e3 : (Op.equalIn d f3.type x3 x3).run P w = .ok true w) :
    (Op.eqFields d xs xs [f0, f1, f2, f3]).run P w = .ok true w := by
  simp only [Op.eqFields, if_pos n0, if_pos n1, if_pos n2, if_pos n3, Sem.run_bind, Sem.run_ite, a0, a1, a2, a3, Result.andThen_ok, e0, e1, e2, e3, Bool.not_true, Bool.false_eq_true, if_false, Sem.run_pure]
theorem same_msg (d : Nat) (r : Int) (S : ByteArray) (w : World) : (Op.equalIn (d + 2 + 1) 53 (.agg #[.int .i64 r, .string S]) (.agg #[.int .i64 r, .string S])).run Tryd.prog w = .ok true w := by
  rw [run_equalIn_struct (P := Tryd.prog) w (d + 2) 53 _ _ structMg heldMg]
  have a0 : (part 3 #[.int .i64 r, .string S] 0).run Tryd.prog w = .ok (.int .i64 r) w := part_plain Tryd.underlying3 rfl rfl w
  have a1 : (part 9 #[.int .i64 r, .string S] 1).run Tryd.prog w = .ok (.string S) w := part_plain Tryd.underlying9 rfl rfl w
  have e0 := run_equalIn_int (P := Tryd.prog) w (d + 1) 3 .i64 .i64 r r Tryd.underlying3
  have e1 := run_equalIn_string (P := Tryd.prog) w (d + 1) 9 S S Tryd.underlying9
  have hfo := structMg
  rw [Tryd.underlying53] at hfo
  simp only [Option.some.injEq, TypeDesc.struct.injEq] at hfo
  rw [← hfo]
  rw [beq_self_eq_true] at e0 e1
  exact eqFields2 w (d + 2) _ _ _ (by decide) (by decide) _ _ a0 a1 e0 e1
theorem neq_msg (r : Int) (S : ByteArray) (w : World) : (binOp .neq 53 (.agg #[.int .i64 r, .string S]) (.agg #[.int .i64 r, .string S])).run Tryd.prog w = .ok (.bool false) w := by
  rw [run_neq_struct, same_msg 9997 r S w]
  rfl
theorem same_rep (m : Nat) (a b c d : Int) (w : World) : (Op.equalIn (m + 2 + 1) 65 (.agg #[.int .i64 a, .int .i64 b, .int .u32 c, .int .u32 d]) (.agg #[.int .i64 a, .int .i64 b, .int .u32 c, .int .u32 d])).run Tryd.prog w = .ok true w := by
  rw [run_equalIn_struct (P := Tryd.prog) w (m + 2) 65 _ _ structRp heldRp]
  have a0 : (part 3 #[.int .i64 a, .int .i64 b, .int .u32 c, .int .u32 d] 0).run Tryd.prog w = .ok (.int .i64 a) w := part_plain Tryd.underlying3 rfl rfl w
  have a1 : (part 3 #[.int .i64 a, .int .i64 b, .int .u32 c, .int .u32 d] 1).run Tryd.prog w = .ok (.int .i64 b) w := part_plain Tryd.underlying3 rfl rfl w
  have a2 : (part 63 #[.int .i64 a, .int .i64 b, .int .u32 c, .int .u32 d] 2).run Tryd.prog w = .ok (.int .u32 c) w := part_plain Tryd.underlying63 rfl rfl w
  have a3 : (part 63 #[.int .i64 a, .int .i64 b, .int .u32 c, .int .u32 d] 3).run Tryd.prog w = .ok (.int .u32 d) w := part_plain Tryd.underlying63 rfl rfl w
  have e0 := run_equalIn_int (P := Tryd.prog) w (m + 1) 3 .i64 .i64 a a Tryd.underlying3
  have e1 := run_equalIn_int (P := Tryd.prog) w (m + 1) 3 .i64 .i64 b b Tryd.underlying3
  have e2 := run_equalIn_int (P := Tryd.prog) w (m + 1) 63 .u32 .u32 c c Tryd.underlying63
  have e3 := run_equalIn_int (P := Tryd.prog) w (m + 1) 63 .u32 .u32 d d Tryd.underlying63
  have hfo := structRp
  rw [Tryd.underlying65] at hfo
  simp only [Option.some.injEq, TypeDesc.struct.injEq] at hfo
  rw [← hfo]
  rw [beq_self_eq_true] at e0 e1 e2 e3
  exact eqFields4 w (m + 2) _ _ _ _ _ (by decide) (by decide) (by decide) (by decide) _ _ _ _ a0 a1 a2 a3 e0 e1 e2 e3
theorem neq_rep (a b c d : Int) (w : World) : (binOp .neq 65 (.agg #[.int .i64 a, .int .i64 b, .int .u32 c, .int .u32 d]) (.agg #[.int .i64 a, .int .i64 b, .int .u32 c, .int .u32 d])).run Tryd.prog w = .ok (.bool false) w := by
  rw [run_neq_struct, same_rep 9997 a b c d w]
  rfl
end Go.Proofs.YtgcodajiehfloaaDoor
