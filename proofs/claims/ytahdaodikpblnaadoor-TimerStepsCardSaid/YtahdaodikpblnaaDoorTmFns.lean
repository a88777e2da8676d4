/-
  timer's Sort and Set; slices.Clone; the law's copied.
-/
import Derived.Test.YtahdaodikpblnaaDoorTmForm
import Derived.Test.YtahdaodikpblnaaDoorTmSort
import Derived.Test.YtahdaodikpblnaaDoorTmSame
namespace Go.Proofs.YtahdaodikpblnaaDoor
open Classical
open Go.RowKit
set_option linter.unusedVariables false
set_option linter.unusedSimpArgs false

theorem bare0 {E : Nat → Addr} {v : Value} (h : Bare E v 0) : v = .nilIface := by
  rcases h with ⟨h, _⟩ | ⟨h, _⟩
  · exact h
  · omega
/-- append of whatever row to a row of the call's own. -/
theorem append_list {w : World} {ops : Array Oper} {rest : List Oper} {o : Oper} {act : Act} {Q : Exit → Act → World → Prop} (hgd : o.guard = none) (s x : Operand) (t e : TypeId)
    (ho : o.op = .call { callee := .builtin .append, args := #[s, x], argTypes := #[t, t] }) (ht : Tryd.prog.underlying t = some (.slice e))
    {size bytes : Nat} (hi : ∃ i z, Tryd.prog.info? e = some i ∧ i.zero = some z ∧ i.size = size ∧ i.bytes = bytes ∧ z.cells.size = size) (h0 : 0 < size)
    (base : Nat) (v : Value) (n : Nat) (xs : List Value) (hs : act.eval s = v) (hv : w.ownsRow base e size v n xs)
    (a : Option Addr) (m c : Nat) (cs : List Value) (hx : act.eval x = .slice a m c) (hr : Row w a m c size cs) (one : ∀ u ∈ cs, u.oneCell' = true)
    (b1 : n + m ≤ maxLen) (b2 : (n + m) * bytes ≤ 140737488355328) (hbase : base ≤ w.heap.size)
    (h : ∀ v' w', w'.ownsRow base e size v' (n + m) (xs ++ cs) → Below base w w' → wpList Tryd.prog ops Q rest (act.put o.dst v') w') : wpList Tryd.prog ops Q (o :: rest) act w := by
  obtain ⟨i, z, h2, h3, h4, h5, h6⟩ := hi
  by_cases hm : m = 0
  · subst hm
    obtain rfl : cs = [] := List.length_eq_zero_iff.1 (by simpa using hr.size)
    obtain ⟨b, cap, rfl, hb⟩ := RLk.row (.inl hv)
    refine wpList_append_empty hgd s x t ho e i ht h2 b a n cap c hb.fit hs hx ?_
    exact h _ w (by simpa using hv) (Below.refl _ _)
  · match a, hx, hr with
    | none, hx, hr => exact absurd (hr.null rfl).1 hm
    | some ad, hx, hr =>
      have hcell : ∀ j u, cs[j]? = some u → w.cell? (ad.add j) = some u := fun j u hu => by
        obtain ⟨b, off, ha, hc⟩ := hr.cell j u hu
        simp only [Option.some.injEq] at ha
        subst ha
        rw [add_lit']
        exact hc
      refine wpList_append_own w hgd s x t ho base e i z size bytes ht h2 h3 h4 h5 h6 h0 v n xs hs hv ad m c cs hx hr.size hcell one b1 b2 hbase ?_
      intro v' w' k1 k2 _
      exact h v' w' k1 ((Below.refl _ _).grown k2 hbase (fun j e => (World.ownsRow.lt hv j e).1))

theorem clone_any (w : World) (a : Option Addr) (len cap : Nat) (l : List Tm) (hs : Tms w a len cap l) (hm : len ≤ 1048576) :
    Calls Tryd.prog 30 #[.slice a len cap] w fun e w' => ∃ v, e = .returned v ∧ TOwn w' w.heap.size v l ∧ Below w.heap.size w w' := by
  have HS := hide hs
  have hl := hs.size
  have HI := hide infoTimer
  have hq := fun w' => eql_slice_nil (P := Tryd.prog) w' 22 48 a len cap Tryd.underlying22
  have BE := hide (new_below w (.cells #[] 48))
  cases a with
  | none =>
    obtain ⟨rfl, rfl⟩ := hs.row.null rfl
    obtain rfl : l = [] := List.length_eq_zero_iff.1 hl
    clear hs
    simp only [Option.isNone_none] at hq
    go_enter Tryd.func30, Tryd.ntmps30
    go_wp2
    go_ret
    exact ⟨_, rfl, town_nil _ _, Below.refl _ _⟩
  | some ad =>
    clear hs
    simp only [Option.isNone_some] at hq
    go_enter Tryd.func30, Tryd.ntmps30
    go_wp2_with (at_builtin; refine append_list rfl (.tmp 5) (.tmp 6) 22 48 rfl Tryd.underlying22 HI.out (by decide) w.heap.size _ 0 [] rfl (World.ownsRow_lit w #[] 0 (Nat.le_refl _) (by decide) rfl) (some ad) len cap (l.flatMap Tm.cells) rfl ((HS.out.below BE.out).row) (tm_one l) (by unfold maxLen; omega) (by omega) BE.out.size ?_; intro v2 w2 h2 b2)
    rw [List.nil_append, Nat.zero_add, ← hl] at h2
    have H2 := hide h2
    have B2 := hide (BE.out.trans b2)
    clear h2 b2
    go_wp2
    go_ret
    exact ⟨_, rfl, H2.out, B2.out⟩

theorem copied_any (w : World) (a : Option Addr) (len cap : Nat) (l : List Tm) (hs : Tms w a len cap l) (hm : len ≤ 8796093022207) :
    Calls Tryd.prog 9 #[.slice a len cap] w fun e w' => ∃ v, e = .returned v ∧ TOwn w' w.heap.size v l ∧ Below w.heap.size w w' := by
  have HS := hide hs
  have hl := hs.size
  have HI := hide infoTimer
  have BE := hide (new_below w (.cells #[] 48))
  clear hs
  go_enter Tryd.func9, Tryd.ntmps9
  go_wp2_with (at_builtin; refine append_list rfl (.tmp 3) (.tmp 4) 22 48 rfl Tryd.underlying22 HI.out (by decide) w.heap.size _ 0 [] rfl (World.ownsRow_lit w #[] 0 (Nat.le_refl _) (by decide) rfl) a len cap (l.flatMap Tm.cells) rfl ((HS.out.below BE.out).row) (tm_one l) (by unfold maxLen; omega) (by omega) BE.out.size ?_; intro v2 w2 h2 b2)
  rw [List.nil_append, Nat.zero_add, ← hl] at h2
  have H2 := hide h2
  have B2 := hide (BE.out.trans b2)
  clear h2 b2
  go_wp2
  go_ret
  exact ⟨_, rfl, H2.out, B2.out⟩

/-- What Sort answers. -/
def sortE (l : List Tm) [Decidable (InR l 8)] [Decidable (Nod l)] : Nat := if ¬ InR l 8 then 4 else if ¬ Nod l then 12 else 0
def sortL (l : List Tm) [Decidable (InR l 8)] [Decidable (Nod l)] : List Tm := if InR l 8 ∧ Nod l then srt l else []
set_option maxRecDepth 100000 in
set_option maxHeartbeats 4000000 in
theorem tsort_any {w : World} {E : Nat → Addr} (he : Er3 w E) (a : Option Addr) (len cap : Nat) (l : List Tm) (hs : Tms w a len cap l) (hm : len ≤ 9223372036854775807) :
    Calls Tryd.prog 25 #[.slice a len cap] w fun e w' => ∃ x v, e = .returned (.tuple #[x, v]) ∧ Bare E v (sortE l) ∧ TOwn w' w.heap.size x (sortL l) ∧ Below w.heap.size w w' := by
  have HS := hide hs
  have hl := hs.size
  have HE := hide he
  clear hs he
  go_enter Tryd.func25, Tryd.ntmps25
  go_wp2_with fail
  refine Calls.mono (inRange_any w a len cap l HS.out 8 hm) ?_
  rintro e w1 ⟨rfl, b1⟩
  have B1 := hide b1
  clear b1
  by_cases hin : InR l 8
  · have d1 : decide (InR l 8) = true := decide_eq_true hin
    rw [d1]
    go_wp2_with fail
    refine Calls.mono (twice_any w1 a len cap l (HS.out.below B1.out) hin hm) ?_
    rintro e w2 ⟨rfl, b2⟩
    have B2 := hide (chain B1.out b2)
    clear b2
    by_cases hnd : Nod l
    · have d2 : decide (Nod l) = true := decide_eq_true hnd
      have h8 := hnd.few hin
      have HA : Hid (sortE l = 0 ∧ sortL l = srt l) := ⟨by unfold sortE; rw [if_neg (by simpa using hin), if_neg (by simpa using hnd)], by unfold sortL; rw [if_pos ⟨hin, hnd⟩]⟩
      rw [d2]
      clear hin hnd d1 d2
      go_wp2_with fail
      refine Calls.mono (clone_any w2 a len cap l (HS.out.below B2.out) (by omega)) ?_
      rintro e w3 ⟨v3, rfl, h3, b3⟩
      obtain ⟨a3, c3, rfl, _⟩ := town_tms h3
      have H3 := hide h3
      have B3 := hide (chain B2.out b3)
      have S3 := hide b3.size
      clear h3 b3
      go_wp2_with fail
      rw [hl] at H3
      refine Calls.mono (sortFunc_own (l := l) H3.out (by omega)) ?_
      rintro e w4 ⟨rfl, h4, b4⟩
      have H4 := hide h4
      have B4 := hide (B3.out.trans (b4.mono B2.out.size))
      clear h4 b4
      go_wp2
      go_ret2
      exact ⟨_, _, rfl, by rw [HA.out.1]; exact bare_nil E, by rw [HA.out.2]; exact ownsRow_weaken H4.out B2.out.size, B4.out⟩
    · have d2 : decide (Nod l) = false := decide_eq_false hnd
      have HA : Hid (sortE l = 12 ∧ sortL l = []) := ⟨by unfold sortE; rw [if_neg (by simpa using hin), if_pos hnd], by unfold sortL; rw [if_neg (fun h => hnd h.2)]⟩
      have v12 := (HE.out.below B2.out).v12
      rw [d2]
      clear hin hnd d1 d2
      go_wp2
      go_quiet (fail)
      go_wp2
      go_ret2
      exact ⟨_, _, rfl, by rw [HA.out.1]; exact bare_sent E 12 (by decide) (by decide), by rw [HA.out.2]; exact town_nil _ _, drewN_below B2.out nq⟩
  · have d1 : decide (InR l 8) = false := decide_eq_false hin
    have HA : Hid (sortE l = 4 ∧ sortL l = []) := ⟨by unfold sortE; rw [if_pos hin], by unfold sortL; rw [if_neg (fun h => hin h.1)]⟩
    have v4 := (HE.out.below B1.out).v4
    rw [d1]
    clear hin d1
    go_wp2
    go_quiet (fail)
    go_wp2
    go_ret2
    exact ⟨_, _, rfl, by rw [HA.out.1]; exact bare_sent E 4 (by decide) (by decide), by rw [HA.out.2]; exact town_nil _ _, drewN_below B1.out nq⟩

/-- What Set answers. -/
abbrev SetOk (p d : Int) : Prop := 0 ≤ p ∧ p < 8 ∧ 0 ≤ d ∧ d ≤ 1010000
def setE (l : List Tm) (p d : Int) [Decidable (Form l 8)] : Nat := if ¬ Form l 8 then 9 else if ¬ SetOk p d then 12 else 0
def setL (l : List Tm) (p d : Int) [Decidable (Form l 8)] : List Tm := if Form l 8 ∧ SetOk p d then srt (others l p ++ [⟨p, d⟩]) else []
set_option maxRecDepth 100000 in
set_option maxHeartbeats 4000000 in
theorem tset_any {w : World} {E : Nat → Addr} (he : Er3 w E) (a : Option Addr) (len cap : Nat) (l : List Tm) (hs : Tms w a len cap l) (p d : Int) (hm : len ≤ 9223372036854775807) :
    Calls Tryd.prog 18 #[.slice a len cap, .int .i64 p, .int .i64 d] w fun e w' => ∃ x v, e = .returned (.tuple #[x, v]) ∧ Bare E v (setE l p d) ∧ TOwn w' w.heap.size x (setL l p d) ∧ Below w.heap.size w w' := by
  have HS := hide hs
  have hl := hs.size
  have HE := hide he
  have HD := hide (isDue_any d)
  have HI := hide infoTimer
  clear hs he
  go_enter Tryd.func18, Tryd.ntmps18
  go_wp2_with fail
  refine Calls.mono (inForm_any w a len cap l HS.out 8 (by omega) hm) ?_
  rintro e w1 ⟨rfl, b1⟩
  have B1 := hide b1
  clear b1
  by_cases hf : Form l 8
  case neg =>
    have d1 : decide (Form l 8) = false := decide_eq_false hf
    have HA : Hid (setE l p d = 9 ∧ setL l p d = []) := ⟨by unfold setE; rw [if_pos hf], by unfold setL; rw [if_neg (fun h => hf h.1)]⟩
    have v9 := (HE.out.below B1.out).v9
    rw [d1]
    clear hf d1
    go_wp2
    go_quiet (fail)
    go_wp2
    go_ret2
    exact ⟨_, _, rfl, by rw [HA.out.1]; exact bare_sent E 9 (by decide) (by decide), by rw [HA.out.2]; exact town_nil _ _, drewN_below B1.out nq⟩
  have d1 : decide (Form l 8) = true := decide_eq_true hf
  have h8 := hf.2.1.few hf.1
  rw [d1]
  by_cases hk : SetOk p d
  case neg =>
    have HA : Hid (setE l p d = 12 ∧ setL l p d = []) := ⟨by unfold setE; rw [if_neg (by simpa using hf), if_pos hk], by unfold setL; rw [if_neg (fun h => hk h.2)]⟩
    have v12 := (HE.out.below B1.out).v12
    clear hf d1
    by_cases h1 : p < 0
    · have e1 : decide (p < 0) = true := decide_eq_true h1
      clear h1 hk
      go_wp2
      go_quiet (fail)
      go_wp2
      go_ret2
      exact ⟨_, _, rfl, by rw [HA.out.1]; exact bare_sent E 12 (by decide) (by decide), by rw [HA.out.2]; exact town_nil _ _, drewN_below B1.out nq⟩
    have e1 : decide (p < 0) = false := decide_eq_false h1
    by_cases h2 : 8 ≤ p
    · have e2 : decide (8 ≤ p) = true := decide_eq_true h2
      clear h1 hk h2
      go_wp2
      go_quiet (fail)
      go_wp2
      go_ret2
      exact ⟨_, _, rfl, by rw [HA.out.1]; exact bare_sent E 12 (by decide) (by decide), by rw [HA.out.2]; exact town_nil _ _, drewN_below B1.out nq⟩
    have e2 : decide (8 ≤ p) = false := decide_eq_false h2
    have e3 : decide (0 ≤ d ∧ d ≤ 1010000) = false := decide_eq_false (fun h => hk ⟨by omega, by omega, h⟩)
    clear h1 hk h2
    go_wp2_with (refine Calls.mono (HD.out _) ?_; rintro e w' ⟨rfl, rfl⟩)
    go_quiet (fail)
    go_wp2
    go_ret2
    exact ⟨_, _, rfl, by rw [HA.out.1]; exact bare_sent E 12 (by decide) (by decide), by rw [HA.out.2]; exact town_nil _ _, drewN_below B1.out nq⟩
  have HA : Hid (setE l p d = 0 ∧ setL l p d = srt (others l p ++ [⟨p, d⟩])) := ⟨by unfold setE; rw [if_neg (by simpa using hf), if_neg (not_not_intro hk)], by unfold setL; rw [if_pos ⟨hf, hk⟩]⟩
  have e1 : decide (p < 0) = false := decide_eq_false (by have := hk.1; omega)
  have e2 : decide (8 ≤ p) = false := decide_eq_false (by have := hk.2.1; omega)
  have e3 : decide (0 ≤ d ∧ d ≤ 1010000) = true := decide_eq_true hk.2.2
  clear hf d1 hk
  go_wp2_with fail
  refine Calls.mono (HD.out _) ?_
  rintro e w' ⟨rfl, hw'⟩
  have hw' := hw'.symm
  subst hw'
  go_wp2_with fail
  refine Calls.mono (without_any w1 a len cap l (HS.out.below B1.out) p (by omega)) ?_
  rintro e w2 ⟨v2, rfl, h2, b2⟩
  have H2 := hide h2
  have B2 := hide (chain B1.out b2)
  have C2 := hide b2.size
  have HL := hide (others_len l p)
  clear h2 b2
  have BL := hide (new_below w2 (.cells #[.int .i64 p, .int .i64 d] 48))
  have O2 := hide (ownsRow_below H2.out BL.out)
  go_wp2_with (at_builtin; refine append_rec rfl (.tmp 27) (.tmp 31) 22 48 rfl Tryd.underlying22 HI.out (by decide) w1.heap.size _ _ _ rfl O2.out w2.heap.size 1 (Tm.cells ⟨p, d⟩) rfl rfl (fun i u hu => by rw [World.cell?_alloc_at _ _ _ _ rfl]; simpa [Tm.cells] using hu) (fun u hu => tm_one [⟨p, d⟩] u (by simpa using hu)) (by have := HL.out; unfold maxLen; omega) (by have := HL.out; omega) (Nat.le_trans C2.out BL.out.size) ?_; intro g7 c7 w7 ho7 hg7 hat7 hlt7)
  have D7 := hide ((B2.out.alloc B2.out.size _).grown hg7 (Nat.le_trans B2.out.size BL.out.size) (fun k' hk' => Nat.le_trans B1.out.size (O2.out.lt k' hk').1))
  have O7 : Hid (TOwn w7 w1.heap.size (.slice (some ⟨g7, 0, none⟩) ((others l p).length + 1) c7) (others l p ++ [⟨p, d⟩])) := by
    unfold Hid
    simpa [TOwn] using ho7
  clear ho7 hg7 hat7
  go_wp2_with fail
  refine Calls.mono (sortFunc_own O7.out (by have := HL.out; simp; omega)) ?_
  rintro e w8 ⟨rfl, h8', b8⟩
  have H8 := hide h8'
  have B8 := hide (D7.out.trans (b8.mono B1.out.size))
  clear h8' b8
  go_wp2
  go_ret2
  exact ⟨_, _, rfl, by rw [HA.out.1]; exact bare_nil E, by rw [HA.out.2]; exact ownsRow_weaken H8.out B1.out.size, B8.out⟩
end Go.Proofs.YtahdaodikpblnaaDoor
