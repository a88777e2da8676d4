/-
  Walk of the law TimerSteps.
-/
import Derived.Test.YtahdaodikpblnaaDoorTmLaw
import Derived.Test.YtahdaodikpblnaaDoorTmsOpen
namespace Go.Proofs.YtahdaodikpblnaaDoor.timerSteps
open Classical
open Go.RowKit
set_option linter.unusedVariables false
set_option linter.unusedSimpArgs false

/-- append where the operation stands behind a guard that holds. -/
theorem append_rows_w {P : Program} {w : World} {ops : Array Oper} {rest : List Oper} {o : Oper} {act : Act} {Q : Exit → Act → World → Prop} (hw : Region.wanted o (yielded ops act.tmps) = true) (s x : Operand) (t : TypeId)
    (ho : o.op = .call { callee := .builtin .append, args := #[s, x], argTypes := #[t, t] })
    (e : TypeId) (i : TypeInfo) (z : Value) (size bytes : Nat) (h1 : P.underlying t = some (.slice e)) (h2 : P.info? e = some i) (h3 : i.zero = some z) (h4 : i.size = size) (h5 : i.bytes = bytes) (h6 : z.cells.size = size) (h7 : 0 < size)
    (base : Nat) (v : Value) (n : Nat) (xs : List Value) (hs : act.eval s = v) (hv : RLk w base e size v n xs)
    (a : Option Addr) (m c : Nat) (cs : List Value) (hx : act.eval x = .slice a m c) (hr : Row w a m c size cs) (one : ∀ u ∈ cs, u.oneCell' = true)
    (b1 : n + m ≤ maxLen) (b2 : (n + m) * bytes ≤ 140737488355328) (hbase : base ≤ w.heap.size)
    (h : ∀ v' w', RLk w' base e size v' (n + m) (xs ++ cs) → Below base w w' → wpList P ops Q rest (act.put o.dst v') w') : wpList P ops Q (o :: rest) act w := by
  obtain ⟨v', w', hrun, k1, k2⟩ := run_append_rows (P := P) (w := w) t o.type e i z size bytes h1 h2 h3 h4 h5 h6 h7 base v n xs hv a m c cs hr one b1 b2 hbase
  unfold wpList
  rw [if_pos hw]
  refine .inl ?_
  unfold Oper.wp execOp
  simp only [ho, resolve, invoke, builtin, Sem.run_bind, Sem.run_pure, Result.andThen_ok, List.map_toArray, List.map_cons, List.map_nil, hs, hx, hrun]
  exact h v' w' k1 k2

theorem Er3.up {w w' : World} {E : Nat → Addr} (h : Er3 w E) (hb : Below w.heap.size w w') : Er3 w' E := h.below hb
theorem fireE_ok {l : List Tm} (h : Form l 8) : fireE l = 0 := by unfold fireE; rw [if_pos h]
theorem fireP_ok {l : List Tm} (h : Form l 8) (n : Int) : fireP l n = (fired l n).map Tm.proc := by unfold fireP; rw [if_pos h]
theorem fireL_ok {l : List Tm} (h : Form l 8) (n : Int) : fireL l n = left l n := by unfold fireL; rw [if_pos h]
theorem left_form {l : List Tm} (h : Form l 8) (n : Int) : Form (left l n) 8 := h.sub List.filter_sublist

set_option maxRecDepth 100000 in
set_option maxHeartbeats 2000000 in
theorem body {w : World} {E : Nat → Addr} (he : Er3 w E) (a : Option Addr) (len cap : Nat) (l : List Tm) (hs : Tms w a len cap l) (now later N M : Int) (hNM : N ≤ M) (q : Bool) (hd : decide (later < now) = q) (hcase : (q = false ∧ N = now ∧ M = later) ∨ (q = true ∧ N = later ∧ M = now)) (hm : len ≤ 9223372036854775806) :
    Calls Tryd.prog 4 #[.slice a len cap, .int .i64 now, .int .i64 later] w fun e w' => e = .returned (.bool true) ∧ Below w.heap.size w w' := by
  have HS := hide hs
  have HE := hide he
  have HJ := hide infoInt
  have HF : Hid (Form (srt (pick l)) 8) := form_srt (pick_form l).1 (pick_form l).2
  have H8 : Hid ((srt (pick l)).length ≤ 8) := HF.out.2.1.few HF.out.1
  have HNM := hide hNM
  have HC := hide hcase
  clear hs he hNM hcase
  go_enter Tryd.func4, Tryd.ntmps4
  go_wp2_with fail
  refine Calls.mono (formed_any HE.out a len cap l HS.out hm) ?_
  rintro e w1 ⟨x1, rfl, h1, b1⟩
  generalize srt (pick l) = L at *
  obtain ⟨a1, c1, rfl, t1⟩ := town_tms h1
  have T1 := hide t1
  have B1 := hide b1
  clear h1 b1 t1
  go_wp2_with fail
  refine Calls.mono (known_any (HE.out.below B1.out)) ?_
  rintro e w2 ⟨rfl, b2⟩
  have T2 := hide (T1.out.below b2)
  have B2 := hide (chain B1.out b2)
  clear b2 T1 B1
  rcases HC.out with ⟨rfl, rfl, rfl⟩ | ⟨rfl, rfl, rfl⟩
  all_goals
    clear HC
    go_wp2_with fail
    refine Calls.mono (copied_any w2 a1 _ c1 L T2.out (by have := H8.out; omega)) ?_
    rintro e w3 ⟨x3, rfl, h3, b3⟩
    obtain ⟨a3, c3, rfl, t3⟩ := town_tms h3
    have T3 := hide t3
    have T2' := hide (T2.out.below b3)
    have B3 := hide (chain B2.out b3)
    clear h3 b3 t3 T2 B2
    go_wp2_with fail
    refine Calls.mono (tfire_any (HE.out.below B3.out) a3 _ c3 L T3.out N (by have := H8.out; omega)) ?_
    rintro e w4 ⟨x4, y4, v4, rfl, hv4, hi4, ht4, b4⟩
    rw [fireE_ok HF.out] at hv4
    rw [fireP_ok HF.out] at hi4
    rw [fireL_ok HF.out] at ht4
    obtain rfl := bare0 hv4
    obtain ⟨a4, c4, rfl, i4⟩ := iown_is hi4
    obtain ⟨a5, c5, rfl, t5⟩ := town_tms ht4
    rw [List.length_map] at i4
    have I4 := hide i4
    have T5 := hide t5
    have T4 := hide (T2'.out.below b4)
    have B4 := hide (chain B3.out b4)
    clear hv4 hi4 ht4 b4 i4 t5 T3 T2' B3
    have HLF := hide (left_form HF.out N)
    have HLL : Hid ((left L N).length ≤ 8) := HLF.out.2.1.few HLF.out.1
    have HFL : Hid (((fired L N).map Tm.proc).length ≤ 8) := by
      unfold Hid
      rw [List.length_map]
      exact Nat.le_trans (fired_len _ _) H8.out
    go_wp2_with fail
    refine Calls.mono (tfire_any (HE.out.below B4.out) a5 _ c5 (left L N) T5.out M (by have := HLL.out; omega)) ?_
    rintro e w5 ⟨x5, y5, v5, rfl, hv5, hi5, ht5, b5⟩
    rw [fireE_ok HLF.out] at hv5
    rw [fireP_ok HLF.out] at hi5
    rw [fireL_ok HLF.out, left_left HNM.out] at ht5
    obtain rfl := bare0 hv5
    obtain ⟨a6, c6, rfl, i6⟩ := iown_is hi5
    obtain ⟨a7, c7, rfl, t7⟩ := town_tms ht5
    rw [List.length_map] at i6
    have I6 := hide i6
    have T7 := hide t7
    have I4 := hide (I4.out.below b5)
    have T4 := hide (T4.out.below b5)
    have B5 := hide (chain B4.out b5)
    clear hv5 hi5 ht5 b5 i6 t7 T5 B4
    go_wp2_with fail
    refine Calls.mono (copied_any w5 a1 _ c1 L T4.out (by have := H8.out; omega)) ?_
    rintro e w6 ⟨x6, rfl, h6, b6⟩
    obtain ⟨a8, c8, rfl, t8⟩ := town_tms h6
    have T8 := hide t8
    have I4 := hide (I4.out.below b6)
    have I6 := hide (I6.out.below b6)
    have T7 := hide (T7.out.below b6)
    have B6 := hide (chain B5.out b6)
    clear h6 b6 t8 T4 B5
    go_wp2_with fail
    refine Calls.mono (tfire_any (HE.out.below B6.out) a8 _ c8 L T8.out M (by have := H8.out; omega)) ?_
    rintro e w7 ⟨x7, y7, v7, rfl, hv7, hi7, ht7, b7⟩
    rw [fireE_ok HF.out] at hv7
    rw [fireP_ok HF.out] at hi7
    rw [fireL_ok HF.out] at ht7
    obtain rfl := bare0 hv7
    obtain ⟨a9, c9, rfl, i9⟩ := iown_is hi7
    obtain ⟨a10, c10, rfl, t10⟩ := town_tms ht7
    rw [List.length_map] at i9
    have I9 := hide i9
    have T10 := hide t10
    have I4 := hide (I4.out.below b7)
    have I6 := hide (I6.out.below b7)
    have T7 := hide (T7.out.below b7)
    have B7 := hide (chain B6.out b7)
    have HST : Hid ((fired L N).map Tm.proc ++ (fired (left L N) M).map Tm.proc = (fired L M).map Tm.proc) := by
      unfold Hid
      rw [← List.map_append, fired_steps HNM.out HF.out.2.2]
    have HLN := hide (fired_left_len L M)
    have HFB : Hid (((fired (left L N) M).map Tm.proc).length ≤ 8) := by
      unfold Hid
      rw [List.length_map]
      exact Nat.le_trans (fired_len _ _) HLL.out
    clear hv7 hi7 ht7 b7 i9 t10 T8 B6
    obtain ⟨i0, z0, hi0, hz0, hs0, hb0, hc0⟩ := HJ.out
    have BE := hide (new_below w7 (.cells #[] 3))
    have I4 := hide (I4.out.below BE.out)
    have FL : Hid ((fired L N).length ≤ 8) := by have := HFL.out; rw [List.length_map] at this; exact this
    have FB : Hid ((fired (left L N) M).length ≤ 8) := by have := HFB.out; rw [List.length_map] at this; exact this
    clear HFL HFB
    go_wp2_with (first
      | (at_builtin; refine append_rows_w (by rfl) (.tmp 68) (.tmp 69) 32 rfl 3 i0 z0 1 8 Tryd.underlying32 hi0 hz0 hs0 hb0 hc0 (by decide) w7.heap.size _ 0 [] rfl (.inl (World.ownsRow_lit w7 #[] 0 (Nat.le_refl _) (by decide) rfl)) a4 _ c4 _ rfl I4.out.row (ci_one _) (by have := FL.out; unfold maxLen; omega) (by have := FL.out; omega) BE.out.size ?_; intro v8 w8 h8 b8; rw [Nat.zero_add, List.nil_append] at h8; have H8' := hide h8; have D8 := hide (BE.out.trans b8); clear h8 b8)
      | (at_builtin; refine append_rows_w (by rfl) (.tmp 70) (.tmp 71) 32 rfl 3 i0 z0 1 8 Tryd.underlying32 hi0 hz0 hs0 hb0 hc0 (by decide) w7.heap.size _ _ _ rfl H8'.out a6 _ c6 _ rfl (I6.out.below D8.out).row (ci_one _) (by have := FL.out; have := FB.out; unfold maxLen; omega) (by have := FL.out; have := FB.out; omega) D8.out.size ?_; intro v9 w9 h9 b9; obtain ⟨a11, c11, rfl, r9⟩ := h9.row; have R9 := hide r9; have D9 := hide (D8.out.trans b9); clear h9 b9 r9))
    clear hi0 hz0 hs0 hb0 hc0
    have HLS : Hid ((fired L N).length + (fired (left L N) M).length = (fired L M).length) := by
      have := congrArg List.length HST.out
      simp only [List.length_append, List.length_map] at this
      exact this
    have R9' : Hid (Is w9 a11 (fired L M).length c11 ((fired L M).map Tm.proc)) := by
      have r := R9.out
      rw [HLS.out, ← List.flatMap_append, HST.out] at r
      exact ⟨by simp, r⟩
    rw [HLS.out]
    refine Calls.mono (ints_eq a11 a9 _ c11 c9 _ R9'.out (I9.out.below D9.out) (by have := H8.out; have := fired_len L M; omega)) ?_
    rintro e w10 ⟨rfl, b10⟩
    have D10 := hide (chain D9.out b10)
    have h8a := H8.out
    have q1 : ((fired L M).length : Int) + ((left L M).length : Int) = (L.length : Int) := by have := HLN.out; omega
    have q2 : wrap64 (((fired L M).length : Int) + ((left L M).length : Int)) = (L.length : Int) := by rw [q1]; exact wrap_in _ (by omega) (by omega)
    have HLM : Hid ((left L M).length ≤ 8) := Nat.le_trans (left_len _ _) H8.out
    clear b10 R9 R9' q1 h8a
    go_wp2_with fail
    refine Calls.mono (same_any a7 a10 _ _ c7 c10 _ _ (T7.out.below D10.out) (T10.out.below D10.out) (by have := HLM.out; omega) (by have := HLM.out; omega)) ?_
    rintro e w11 ⟨rfl, b11⟩
    have D11 := hide (chain B7.out (chain D10.out b11))
    rw [decide_eq_true rfl]
    clear b11
    go_wp2
    go_ret
    exact ⟨rfl, D11.out⟩

theorem law (a : Option Addr) (len cap : Nat) (l : List Tm) (now later : Int) (w : World) {E : Nat → Addr} (he : Er3 w E) (hs : Tms w a len cap l) (ok : ∀ t ∈ l, t.Ok) (hm : len ≤ 8796093021952) (n0 : -9223372036854775808 ≤ now) (n1 : now ≤ 9223372036854775807) (m0 : -9223372036854775808 ≤ later) (m1 : later ≤ 9223372036854775807) :
    Calls Tryd.prog 4 #[.slice a len cap, .int .i64 now, .int .i64 later] w fun e w' => e = .returned (.bool true) ∧ Below w.heap.size w w' := by
  by_cases h : later < now
  · exact body he a len cap l hs now later later now (by omega) true (decide_eq_true h) (.inr ⟨rfl, rfl, rfl⟩) (by omega)
  · exact body he a len cap l hs now later now later (by omega) false (decide_eq_false h) (.inl ⟨rfl, rfl, rfl⟩) (by omega)
end Go.Proofs.YtahdaodikpblnaaDoor.timerSteps
