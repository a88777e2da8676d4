/-
  Both links beside each other: what keeps what; ferrylaw21's same, sameInts.
-/
import Derived.Test.YtgnkmenjjmfcfaaDoorLkRJ
import Derived.Test.YtgnkmenjjmfcfaaDoorLkFixed
import Derived.Test.YtgnkmenjjmfcfaaDoorPlainQ
namespace Go.Proofs.YtgnkmenjjmfcfaaDoor
open Go.RowKit FerryCrc
set_option linter.unusedVariables false
set_option linter.unusedSimpArgs false

theorem Errs.toQ {w : World} {E : Nat → Addr} (h : Errs w E) : Q.Errs w E :=
  ⟨h.v1, h.v2, h.v3, h.v4, h.v5, h.v6, h.v7, h.v8, h.v9, h.v10, h.v11, h.v12, h.v13, h.v14, h.v15, h.v16, h.v17, h.v18, h.v19, h.v20, h.row, h.ne⟩
set_option maxRecDepth 100000 in
set_option maxHeartbeats 2000000 in
theorem same_any {w : World} {E : Nat → Addr} (he : Errs w E) (k : Nat) (hk : k ≤ 20) : Calls Tryd.prog 25 #[erv E k, .int .i64 (k : Int)] w fun e w' => e = .returned (.bool true) ∧ Below w.heap.size w w' := by
  have HC := hide (Q.code_any he.toQ (erv E k) k (-1) (isErr_erv hk))
  have HP : Hid (Calls Tryd.prog 39 #[erv E k] w fun e w' => e = .returned (.int .i64 (-1)) ∧ Below w.heap.size w w') := by
    unfold Hid erv
    by_cases h0 : k = 0
    · rw [if_pos h0]
      exact place_nil w
    · rw [if_neg h0]
      exact place_sent _ w he.handle
  obtain ⟨v, hv⟩ : ∃ v, erv E k = v := ⟨_, rfl⟩
  rw [hv] at HC HP
  rw [hv]
  clear he hv
  go_enter Tryd.func25, Tryd.ntmps25
  go_wp2_with fail
  refine Calls.mono HC.out ?_
  rintro e w1 ⟨rfl, rfl⟩
  go_wp2_with fail
  refine Calls.mono HP.out ?_
  rintro e w1 ⟨rfl, b⟩
  have HB := hide b
  clear b
  go_wp2
  go_ret
  exact ⟨rfl, HB.out⟩
set_option maxRecDepth 100000 in
set_option maxHeartbeats 2000000 in
theorem sameInts_any {a b : Option Addr} {n c c' : Nat} {l : List Int} {w : World} (ha : Rcs iv 1 w a n c l) (hb : Rcs iv 1 w b n c' l) (hn : n ≤ 4611686018427387904) : Calls Tryd.prog 22 #[.slice a n c, .slice b n c'] w fun e w' => e = .returned (.bool true) ∧ Below w.heap.size w w' := by
  have HA := hide ha
  have HBb := hide hb
  have hs := ha.size
  have hn2 : (n : Int) ≤ 4611686018427387904 := by omega
  clear ha hb
  go_enter Tryd.func22, Tryd.ntmps22
  go_upto_region 4 with fail
  go_loopw [5] (fun s wr => ∃ i : Nat, i ≤ n ∧ s = .int .i64 (i : Int) ∧ Hid (Below w.heap.size w wr)) (fun s _ => n - (intOf s).toNat)
  case atStart => exact ⟨0, Nat.zero_le _, rfl, Below.refl _ _⟩
  case round =>
  obtain ⟨i, hi, rfl, HB⟩ := hrel
  by_cases hlt : i < n
  · obtain ⟨x, hx⟩ : ∃ x, l[i]? = some x := ⟨_, List.getElem?_eq_getElem (by omega)⟩
    obtain ⟨b1, o1, ea, hc⟩ := (HA.out.below HB.out).at iv1 (by decide) hx
    subst ea
    have y0 := hc 0 _ rfl
    rw [Nat.mul_one, Nat.add_zero] at y0
    clear hc
    obtain ⟨b2, o2, ea, hc⟩ := (HBb.out.below HB.out).at iv1 (by decide) hx
    subst ea
    have y1 := hc 0 _ rfl
    rw [Nat.mul_one, Nat.add_zero] at y1
    clear hc hx
    have f1 : (i : Int) < (n : Int) := by omega
    have f2 : ¬ (i : Int) < 0 := by omega
    have HBd : Hid (Below w.heap.size w wr.drew) := HB.out.drew
    go_upto_region 6 with fail
    go_region
    go_wp2
    exact ⟨⟨i + 1, by omega, by simp, HBd.out⟩, by simp [intOf]; omega⟩
  · obtain rfl : i = n := by omega
    have hnk : ¬ (i : Int) < (i : Int) := by omega
    go_wp2
    go_ret
    exact ⟨rfl, HB.out⟩
theorem let_eq (f t : Int) (s : ByteArray) (w : World) : (binOp .eql 41 (.agg #[.int .i64 f, .int .i64 t, .string s]) (.agg #[.int .i64 f, .int .i64 t, .string s])).run Tryd.prog w = .ok (.bool true) w := by
  go_simp
theorem rl_ne {w : World} {B lb mb rb : Nat} {va : Option Addr} {vc : Nat} {L : Lk} {D : List Md} (hl : LAt w lb mb L) (hr : RAt w B rb va vc D) : (rb ≠ lb ∧ rb ≠ mb) ∧ ∀ g, va.map (·.block) = some g → g ≠ lb ∧ g ≠ mb := by
  refine ⟨⟨fun e => ?_, fun e => ?_⟩, fun g hg => lown_apart nml hr.own hl (by rw [ob]; exact hg)⟩
  · have h1 := hl.bk
    have h2 := hr.bk
    unfold Bk at h1 h2
    rw [e, h1] at h2
    have h3 := Option.some.inj h2
    injection h3 with h4 h5
    revert h5
    decide
  · obtain ⟨D', ⟨es, clock, h1, -⟩, -⟩ := hl.own
    have h2 := hr.bk
    unfold Bk at h2
    rw [e, h1] at h2
    cases h2
theorem two_r {w w' : World} {B lb mb rb : Nat} {va : Option Addr} {vc : Nat} {L : Lk} {D : List Md} (hl : LAt w lb mb L) (hr : RAt w B rb va vc D) (fr : Frm (RW rb va) w w') : LAt w' lb mb L := by
  obtain ⟨⟨h1, h2⟩, h3⟩ := rl_ne hl hr
  exact hl.frm fr (fun e => by rcases e with e | e; exact h1 e.symm; exact (h3 _ e).1 rfl) (fun e => by rcases e with e | e; exact h2 e.symm; exact (h3 _ e).2 rfl)
theorem bel_r {wb w w' : World} {rb : Nat} {va : Option Addr} {vc : Nat} {D : List Md} (hb : Below wb.heap.size wb w) (hr : RAt w wb.heap.size rb va vc D) (fr : Frm (RW rb va) w w') : Below wb.heap.size wb w' :=
  hb.trans (fr.below hb.size (fun k hk => by
    rcases hk with rfl | e
    · exact hr.hb
    · exact (World.ownsRow.lt hr.own k (by rw [ob]; exact e)).1))
theorem two_l {w w' : World} {B lb mb rb : Nat} {va : Option Addr} {vc : Nat} {L : Lk} {D : List Md} (hl : LAt w lb mb L) (hr : RAt w B rb va vc D) (fr : Frm (TwoB lb mb) w w') : RAt w' B rb va vc D := by
  obtain ⟨⟨h1, h2⟩, h3⟩ := rl_ne hl hr
  refine ⟨?_, hr.own.frm fr (fun g e e2 => ?_), hr.hb⟩
  · have h4 := hr.bk
    have h5 := h4.lt
    unfold Bk at *
    rw [fr.block rb h5 (fun e => by rcases e with e | e; exact h1 e; exact h2 e)]
    exact h4
  · rw [ob] at e
    rcases e2 with e2 | e2
    · exact (h3 _ e).1 e2
    · exact (h3 _ e).2 e2
/-- What a call on both may write to. -/
def PW (lb mb rb : Nat) (va : Option Addr) (k : Nat) : Prop := TwoB lb mb k ∨ RW rb va k
/-- Both links in memory, alike. -/
structure Tw2 (wb w : World) (lb mb rb : Nat) (va : Option Addr) (vc : Nat) (L : Lk) (D : List Md) : Prop where
  l : LAt w lb mb L
  r : RAt w wb.heap.size rb va vc D
  s : Sm L D
  b : Below wb.heap.size wb w
  hl : wb.heap.size ≤ lb ∧ wb.heap.size ≤ mb
/-- What a call on both leaves. -/
def TPost (wb w w' : World) (lb mb rb : Nat) (va : Option Addr) (L : Lk) (kd : Int) : Prop := ∃ L' D' va' vc', Tw2 wb w' lb mb rb va' vc' L' D' ∧ Frm (PW lb mb rb va) w w' ∧ (∀ g, va'.map (·.block) = some g → va.map (·.block) = some g ∨ w.heap.size ≤ g) ∧ L'.n ≤ L.n + 1 ∧ (kd = 2 ∨ kd = 8 → L' = L)
theorem Bk.frmS {S : Nat → Prop} {w w' : World} {b : Nat} {cs : List Value} {ty : TypeId} (h : Bk w b cs ty) (hf : Frm S w w') (hn : ¬ S b) : Bk w' b cs ty := by
  have h0 := h.lt
  unfold Bk at *
  rw [hf.block b h0 hn]
  exact h
theorem pw_lt {wb w : World} {lb mb rb : Nat} {va : Option Addr} {vc : Nat} {L : Lk} {D : List Md} (h : Tw2 wb w lb mb rb va vc L D) {k : Nat} (hk : PW lb mb rb va k) : k < w.heap.size := by
  rcases hk with (rfl | rfl) | (rfl | e)
  · exact h.l.lb_lt
  · exact h.l.mb_lt
  · exact h.r.bk.lt
  · exact (World.ownsRow.lt h.r.own k (by rw [ob]; exact e)).2
theorem pw_ge {wb w : World} {lb mb rb : Nat} {va : Option Addr} {vc : Nat} {L : Lk} {D : List Md} (h : Tw2 wb w lb mb rb va vc L D) {k : Nat} (hk : PW lb mb rb va k) : wb.heap.size ≤ k := by
  rcases hk with (rfl | rfl) | (rfl | e)
  · exact h.hl.1
  · exact h.hl.2
  · exact h.r.hb
  · exact (World.ownsRow.lt h.r.own k (by rw [ob]; exact e)).1
theorem tw_frm {wb w w' : World} {S : Nat → Prop} {lb mb rb : Nat} {va : Option Addr} {vc : Nat} {L : Lk} {D : List Md} (h : Tw2 wb w lb mb rb va vc L D) (fr : Frm S w w') (hS : ∀ k, PW lb mb rb va k → ¬ S k) (hb : Below wb.heap.size wb w') : Tw2 wb w' lb mb rb va vc L D :=
  ⟨h.l.frm fr (hS _ (.inl (.inl rfl))) (hS _ (.inl (.inr rfl))), ⟨h.r.bk.frmS fr (hS _ (.inr (.inl rfl))), h.r.own.frm fr (fun g e => hS g (.inr (.inr (by rw [ob] at e; exact e)))), h.r.hb⟩, h.s, hb, h.hl⟩
theorem tw_below {wb w w' : World} {lb mb rb : Nat} {va : Option Addr} {vc : Nat} {L : Lk} {D : List Md} (h : Tw2 wb w lb mb rb va vc L D) (hb : Below w.heap.size w w') : Tw2 wb w' lb mb rb va vc L D :=
  ⟨h.l.below hb, h.r.below hb, h.s, h.b.trans (hb.mono h.b.size), h.hl⟩
/-- Nothing that the one may write to is the other's. -/
def Apt (lb mb rb : Nat) (va : Option Addr) (lb' mb' rb' : Nat) (va' : Option Addr) : Prop := ∀ k, PW lb mb rb va k → ¬ PW lb' mb' rb' va' k
theorem Apt.sym {lb mb rb : Nat} {va : Option Addr} {lb' mb' rb' : Nat} {va' : Option Addr} (h : Apt lb mb rb va lb' mb' rb' va') : Apt lb' mb' rb' va' lb mb rb va := fun k h1 h2 => h k h2 h1
theorem apt_step {wb w : World} {lb mb rb lb' mb' rb' vc' : Nat} {va va2 va' : Option Addr} {L' : Lk} {D' : List Md} (h : Apt lb mb rb va lb' mb' rb' va') (T : Tw2 wb w lb' mb' rb' va' vc' L' D') (nb : ∀ g, va2.map (·.block) = some g → va.map (·.block) = some g ∨ w.heap.size ≤ g) : Apt lb mb rb va2 lb' mb' rb' va' := fun k h1 h2 => by
  rcases h1 with h1 | h1 | e
  · exact h k (.inl h1) h2
  · exact h k (.inr (.inl h1)) h2
  · rcases nb k e with e2 | e2
    · exact h k (.inr (.inr e2)) h2
    · have := pw_lt T h2
      omega
end Go.Proofs.YtgnkmenjjmfcfaaDoor
