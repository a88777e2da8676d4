/-
  The program's cursor and the document's, side by side: each call answers alike.
  The program's cursor and the document's, side by side: records; errors held against one another.
  The program's cursor and the document's, side by side: Next and Record; errors held against one another.
-/
import Derived.Test.YtohoncgkekiihaaDoorRcRec
namespace Go.Proofs.YtohoncgkekiihaaDoor
open Go.RowKit FerryCrc
set_option linter.unusedVariables false
set_option linter.unusedSimpArgs false

/-- What a call of the program's cursor leaves. -/
def PAns (w : World) (E : Nat → Addr) (c g len bd : Nat) (L : List Nat) (v : Value) (k : Nat) (q : Int) (p' : Nat) (e : Ending) (w' : World) : Prop :=
  ∃ ev, e = .returned (.tuple #[v, ev]) ∧ IsErr w' E ev k q ∧ Cur w' c g len p' bd L ∧ Frm (fun j => j = c) w w'
theorem pans_at {w w' : World} {E : Nat → Addr} {c g len p bd i : Nat} {L : List Nat} {v ev : Value} {q : Int} {e : Ending} (he : e = .returned (.tuple #[v, ev])) (ha : AtErr w' w.heap.size ev (E i) q) (h1 : 1 ≤ i) (h2 : i ≤ 20) (h : Cur w c g len p bd L) (hb : Below w.heap.size w w') : PAns w E c g len bd L v i q p e w' :=
  ⟨ev, he, at_isErr ha h1 h2, h.below hb, Frm.ofBelow hb⟩
theorem pans_bare {w w' : World} {E : Nat → Addr} {c g len p bd i : Nat} {L : List Nat} {v : Value} {e : Ending} (he : e = .returned (.tuple #[v, sent (E i)])) (h1 : 1 ≤ i) (h2 : i ≤ 20) (h : Cur w c g len p bd L) (hb : Below w.heap.size w w') : PAns w E c g len bd L v i (-1) p e w' :=
  ⟨_, he, .inr (.inl ⟨h1, h2, rfl, rfl⟩), h.below hb, Frm.ofBelow hb⟩
theorem pans_ok {w w' : World} {E : Nat → Addr} {c g len p bd : Nat} {L : List Nat} {v : Value} {e : Ending} (he : e = .returned (.tuple #[v, .nilIface])) (h : Cur w' c g len p bd L) (hf : Frm (fun j => j = c) w w') : PAns w E c g len bd L v 0 (-1) p e w' :=
  ⟨_, he, .inl ⟨rfl, rfl, rfl⟩, h, hf⟩

theorem both_ranged (E : Nat → Addr) (L : List Nat) (len p bd : Nat) (wd lo hi : Int) (hp : p ≤ bd) :
    ∃ (v : Int) (k : Nat) (q : Int) (p' : Nat), p ≤ p' ∧ p' ≤ bd ∧ (v = 0 ∨ (lo ≤ v ∧ v ≤ hi)) ∧
      (∀ c g w, Cur w c g len p bd L → Errs w E → Calls Tryd.prog 73 #[.pointer (some ⟨c, 0, none⟩), .int .i64 wd, .int .i64 lo, .int .i64 hi] w fun e w' => PAns w E c g len bd L (.int .i64 v) k q p' e w') ∧
      (∀ d g cap w, Doc w d g len cap p bd L → Calls Tryd.prog 88 #[.pointer (some ⟨d, 0, none⟩), .int .i64 wd, .int .i64 lo, .int .i64 hi] w fun e w' => DAns w d g len cap bd L (.int .i64 v) k q p' e w') := by
  by_cases hw : wd = 1 ∨ wd = 2 ∨ wd = 4
  · obtain ⟨n, rfl, hn⟩ : ∃ n : Nat, wd = (n : Int) ∧ (n = 1 ∨ n = 2 ∨ n = 4) := by
      rcases hw with rfl | rfl | rfl
      · exact ⟨1, rfl, by decide⟩
      · exact ⟨2, rfl, by decide⟩
      · exact ⟨4, rfl, by decide⟩
    by_cases hs : bd - p < n
    · refine ⟨0, 1, p, p, Nat.le_refl _, hp, .inl rfl, fun c g w h he => ?_, fun d g cap w h => rranged_short d g len cap p bd L n lo hi w h hn hs⟩
      refine Calls.mono (ranged_short c g len p bd L n lo hi (E 1) w h he.v1 hn hs) ?_
      rintro e w' ⟨ev, h1, ha, hb⟩
      exact pans_at h1 ha (by decide) (by decide) h hb
    · by_cases ho : (nbe (cut L p n) : Int) < lo ∨ hi < (nbe (cut L p n) : Int)
      · refine ⟨0, 4, p, p, Nat.le_refl _, hp, .inl rfl, fun c g w h he => ?_, fun d g cap w h => rranged_out d g len cap p bd L n lo hi w h hn (by omega) ho⟩
        refine Calls.mono (ranged_out c g len p bd L n lo hi (E 4) w h he.v4 hn (by omega) ho) ?_
        rintro e w' ⟨ev, h1, ha, hb⟩
        exact pans_at h1 ha (by decide) (by decide) h hb
      · refine ⟨(nbe (cut L p n) : Nat), 0, -1, p + n, by omega, by omega, .inr ⟨by omega, by omega⟩, fun c g w h he => ?_, fun d g cap w h => rranged_ok d g len cap p bd L n lo hi w h hn (by omega) (by omega) (by omega)⟩
        refine Calls.mono (ranged_ok c g len p bd L n lo hi w h hn (by omega) (by omega) (by omega)) ?_
        rintro e w' ⟨h1, h2, h3⟩
        exact pans_ok h1 h2 h3
  · refine ⟨0, 12, -1, p, Nat.le_refl _, hp, .inl rfl, fun c g w h he => ?_, fun d g cap w h => rranged_arg d g len cap p bd L wd lo hi w h (fun e => hw (.inl e)) (fun e => hw (.inr (.inl e))) (fun e => hw (.inr (.inr e)))⟩
    refine Calls.mono (ranged_arg c wd lo hi (E 12) w he.v12 (fun e => hw (.inl e)) (fun e => hw (.inr (.inl e))) (fun e => hw (.inr (.inr e)))) ?_
    rintro e w' ⟨h1, hb⟩
    exact pans_bare h1 (by decide) (by decide) h hb

theorem both_num (E : Nat → Addr) (L : List Nat) (len p bd n : Nat) (F : Nat) (hL : ∀ c ∈ L, c < 256) (hp : p ≤ bd) (hn : n = 1 ∨ n = 2 ∨ n = 4) (M : Int) (hM : ((256 ^ n - 1 : Nat) : Int) ≤ M)
    (hf : ∀ c g w, Cur w c g len p bd L → Errs w E → Calls Tryd.prog F #[.pointer (some ⟨c, 0, none⟩)] w fun e w' => Num w E c g len p bd L n e w') :
    ∃ (v : Int) (k : Nat) (q : Int) (p' : Nat), p ≤ p' ∧ p' ≤ bd ∧
      (∀ c g w, Cur w c g len p bd L → Errs w E → Calls Tryd.prog F #[.pointer (some ⟨c, 0, none⟩)] w fun e w' => PAns w E c g len bd L (.int .i64 v) k q p' e w') ∧
      (∀ d g cap w, Doc w d g len cap p bd L → Calls Tryd.prog 88 #[.pointer (some ⟨d, 0, none⟩), .int .i64 (n : Int), .int .i64 0, .int .i64 M] w fun e w' => DAns w d g len cap bd L (.int .i64 v) k q p' e w') := by
  by_cases hs : bd - p < n
  · refine ⟨0, 1, p, p, Nat.le_refl _, hp, fun c g w h he => ?_, fun d g cap w h => rranged_short d g len cap p bd L n 0 M w h hn hs⟩
    refine Calls.mono (hf c g w h he) ?_
    rintro e w' (⟨_, ev, h1, ha, hb⟩ | ⟨h1, _⟩)
    · exact pans_at h1 ha (by decide) (by decide) h hb
    · omega
  · have hl := cut_lt hL p n
    have h256 : 0 < 256 ^ n := Nat.pow_pos (by decide)
    refine ⟨(nbe (cut L p n) : Nat), 0, -1, p + n, by omega, by omega, fun c g w h he => ?_, fun d g cap w h => rranged_ok d g len cap p bd L n 0 M w h hn (by omega) (by omega) (by omega)⟩
    refine Calls.mono (hf c g w h he) ?_
    rintro e w' (⟨h1, _⟩ | ⟨_, h1, h2, h3⟩)
    · omega
    · exact pans_ok h1 h2 h3

set_option maxRecDepth 100000 in
theorem flag_of {E : Nat → Addr} {c g len p bd : Nat} {L : List Nat} {v : Int} {k : Nat} {q : Int} {p' : Nat} (w : World)
    (hc : Calls Tryd.prog 73 #[.pointer (some ⟨c, 0, none⟩), .int .i64 1, .int .i64 0, .int .i64 1] w fun e w' => PAns w E c g len bd L (.int .i64 v) k q p' e w') :
    Calls Tryd.prog 89 #[.pointer (some ⟨c, 0, none⟩)] w fun e w' => PAns w E c g len bd L (.bool (v == 1)) k q p' e w' := by
  have HC := hide hc
  clear hc
  go_enter Tryd.func89, Tryd.ntmps89
  go_wp2_with fail
  refine Calls.mono HC.out ?_
  rintro e w1 ⟨ev, rfl, h1, h2, h3⟩
  have H1 := hide h1
  have H2 := hide h2
  have H3 := hide h3
  clear h1 h2 h3
  go_wp2
  go_ret2
  exact ⟨ev, rfl, H1.out, H2.out, H3.out⟩

theorem own_nil (w : World) (base : Nat) : Own w base (.slice none 0 0) [] := by
  refine ⟨rfl, .inl ⟨rfl, rfl⟩⟩

theorem both_raw (E : Nat → Addr) (L : List Nat) (len p bd : Nat) (n : Int) (hp : p ≤ bd) (hm : bd ≤ len) (hL : L.length = len) :
    ∃ (l : List Nat) (k : Nat) (q : Int) (p' : Nat), p ≤ p' ∧ p' ≤ bd ∧ l.length ≤ len ∧ (∀ c ∈ l, c ∈ L) ∧
      (∀ c g w, Cur w c g len p bd L → Errs w E → Calls Tryd.prog 58 #[.pointer (some ⟨c, 0, none⟩), .int .i64 n] w fun e w' => ∃ v, PAns w E c g len bd L v k q p' e w' ∧ Own w' w.heap.size v l) ∧
      (∀ d g cap w, Doc w d g len cap p bd L → Calls Tryd.prog 57 #[.pointer (some ⟨d, 0, none⟩), .int .i64 n] w fun e w' => ∃ v, DAns w d g len cap bd L v k q p' e w' ∧ Own w' w.heap.size v l) := by
  by_cases hn : n < 0
  · refine ⟨[], 12, -1, p, Nat.le_refl _, hp, by simp, by simp, fun c g w h he => ?_, fun d g cap w h => ?_⟩
    · refine Calls.mono (raw_neg c n (E 12) w he.v12 hn) ?_
      rintro e w' ⟨h1, hb⟩
      exact ⟨_, pans_bare h1 (by decide) (by decide) h hb, own_nil _ _⟩
    · exact Calls.mono (rraw_neg d g len cap p bd L n w h hn) (fun e w' h1 => ⟨_, h1, own_nil _ _⟩)
  · obtain ⟨m, rfl⟩ : ∃ m : Nat, n = (m : Int) := ⟨n.toNat, by omega⟩
    by_cases hs : bd - p < m
    · refine ⟨[], 1, p, p, Nat.le_refl _, hp, by simp, by simp, fun c g w h he => ?_, fun d g cap w h => ?_⟩
      · refine Calls.mono (raw_short c g len p bd L m (E 1) w h he.v1 hs) ?_
        rintro e w' ⟨ev, h1, ha, hb⟩
        exact ⟨_, pans_at h1 ha (by decide) (by decide) h hb, own_nil _ _⟩
      · exact Calls.mono (rraw_short d g len cap p bd L m w h hs) (fun e w' h1 => ⟨_, h1, own_nil _ _⟩)
    · refine ⟨cut L p m, 0, -1, p + m, by omega, by omega, by unfold cut; rw [List.length_take, List.length_drop]; omega, fun c hc => List.mem_of_mem_drop (List.mem_of_mem_take hc), fun c g w h he => ?_, fun d g cap w h => rraw_ok d g len cap p bd L m w h (by omega)⟩
      refine Calls.mono (raw_ok c g len p bd L m w h (by omega)) ?_
      rintro e w' ⟨b, h0, h1, h2, h3, h4⟩
      exact ⟨_, pans_ok h1 h3 h4, h2⟩

theorem both_text (E : Nat → Addr) (L : List Nat) (len p bd : Nat) (n : Int) (hp : p ≤ bd) :
    ∃ (S : ByteArray) (k : Nat) (q : Int) (p' : Nat), p ≤ p' ∧ p' ≤ bd ∧
      (∀ c g w, Cur w c g len p bd L → Errs w E → Calls Tryd.prog 60 #[.pointer (some ⟨c, 0, none⟩), .int .i64 n] w fun e w' => PAns w E c g len bd L (.string S) k q p' e w') ∧
      (∀ d g cap w, Doc w d g len cap p bd L → Calls Tryd.prog 59 #[.pointer (some ⟨d, 0, none⟩), .int .i64 n] w fun e w' => DAns w d g len cap bd L (.string S) k q p' e w') := by
  by_cases hs : bd - p < 2
  · refine ⟨_, 1, p, p, Nat.le_refl _, hp, fun c g w h he => ?_, fun d g cap w h => rtext_short d g len cap p bd L n w h hs⟩
    refine Calls.mono (text_short c g len p bd L n (E 1) w h he.v1 hs) ?_
    rintro e w' ⟨ev, h1, ha, hb⟩
    exact pans_at h1 ha (by decide) (by decide) h hb
  · by_cases hm : n < (nbe (cut L p 2) : Int)
    · refine ⟨_, 5, p, p, Nat.le_refl _, hp, fun c g w h he => ?_, fun d g cap w h => rtext_long d g len cap p bd L n w h (by omega) hm⟩
      refine Calls.mono (text_long c g len p bd L n (E 5) w h he.v5 (by omega) hm) ?_
      rintro e w' ⟨ev, h1, ha, hb⟩
      exact pans_at h1 ha (by decide) (by decide) h hb
    · by_cases hn : bd - (p + 2) < nbe (cut L p 2)
      · refine ⟨_, 1, (p + 2 : Nat), p, Nat.le_refl _, hp, fun c g w h he => ?_, fun d g cap w h => rtext_cut d g len cap p bd L n w h (by omega) (by omega) hn⟩
        refine Calls.mono (text_cut c g len p bd L n (E 1) w h he.v1 (by omega) (by omega) hn) ?_
        rintro e w' ⟨ev, h1, ha, hb⟩
        exact pans_at h1 ha (by decide) (by decide) h hb
      · refine ⟨_, 0, -1, _, by omega, by omega, fun c g w h he => ?_, fun d g cap w h => rtext_ok d g len cap p bd L n w h (by omega) (by omega) (by omega)⟩
        refine Calls.mono (text_ok c g len p bd L n w h (by omega) (by omega) (by omega)) ?_
        rintro e w' ⟨h1, h2, h3⟩
        exact pans_ok h1 h2 h3

theorem both_end (E : Nat → Addr) (L : List Nat) (len p bd : Nat) :
    ∃ (k : Nat) (q : Int),
      (∀ c g w, Cur w c g len p bd L → Errs w E → Calls Tryd.prog 28 #[.pointer (some ⟨c, 0, none⟩)] w fun e w' => ∃ ev, e = .returned ev ∧ IsErr w' E ev k q ∧ Below w.heap.size w w') ∧
      (∀ d g cap w, Doc w d g len cap p bd L → Calls Tryd.prog 29 #[.pointer (some ⟨d, 0, none⟩)] w fun e w' => e = .returned (rerr (k : Int) q) ∧ Below w.heap.size w w') := by
  by_cases h0 : bd - p = 0
  · refine ⟨0, -1, fun c g w h he => ?_, fun d g cap w h => ?_⟩
    · refine Calls.mono (end_ok c g len p bd L w h h0) ?_
      rintro e w' ⟨h1, hb⟩
      exact ⟨_, h1, .inl ⟨rfl, rfl, rfl⟩, hb⟩
    · have := rended_any d g len cap p bd L w h
      rw [if_pos h0] at this
      exact this
  · refine ⟨2, p, fun c g w h he => ?_, fun d g cap w h => ?_⟩
    · refine Calls.mono (end_bad c g len p bd L (E 2) w h he.v2 (by omega)) ?_
      rintro e w' ⟨ev, h1, ha, hb⟩
      exact ⟨_, h1, at_isErr ha (by decide) (by decide), hb⟩
    · have := rended_any d g len cap p bd L w h
      rw [if_neg h0] at this
      exact this
end Go.Proofs.YtohoncgkekiihaaDoor
namespace Go.Proofs.YtohoncgkekiihaaDoor
open Go.RowKit FerryCrc
set_option linter.unusedVariables false
set_option linter.unusedSimpArgs false

/-- The cursor over a body, if there is one: the program's, the document's. -/
def PBo (w w' : World) (g len : Nat) (L : List Nat) (v : Value) : Option (Nat × Nat) → Prop
  | none => v = .pointer none
  | some b => ∃ C, v = .pointer (some ⟨C, 0, none⟩) ∧ w.heap.size ≤ C ∧ Cur w' C g len b.1 b.2 L
def DBo (w w' : World) (g len cap : Nat) (L : List Nat) (v : Value) : Option (Nat × Nat) → Prop
  | none => v = .pointer none
  | some b => ∃ D, v = .pointer (some ⟨D, 0, none⟩) ∧ w.heap.size ≤ D ∧ Doc w' D g len cap b.1 b.2 L

set_option maxRecDepth 100000 in
theorem rnext_of (d g len cap p bd : Nat) (L : List Nat) (t : Int) (k : Nat) (q : Int) (p' : Nat) (bo : Option (Nat × Nat)) (w : World) (h : Doc w d g len cap p bd L)
    (hc : ∀ w, Doc w d g len cap p bd L → Calls Tryd.prog 85 #[.pointer (some ⟨d, 0, none⟩), .int .i64 0, .bool true] w fun e w' => ∃ v, DRec w d g len cap bd L t v k q p' e w' ∧ DBo w w' g len cap L v bo) :
    Calls Tryd.prog 47 #[.pointer (some ⟨d, 0, none⟩)] w fun e w' => ∃ v, DRec w d g len cap bd L t v k q p' e w' ∧ DBo w w' g len cap L v bo := by
  have HT := hide (two_alloc w (.int .i64 0) (.int .i64 0) 31)
  have HB : Hid (Below w.heap.size w (w.alloc (.cells #[.int .i64 0, .int .i64 0] 31))) := (Below.refl _ _).alloc (Nat.le_refl _) _
  have HZ : Hid (w.heap.size < (w.alloc (.cells #[.int .i64 0, .int .i64 0] 31)).heap.size) := by unfold Hid; simp
  have HC := hide (hc _ (h.below HB.out))
  have hdl : d < w.heap.size := h.lt
  have HG := hide h.ne.2
  clear h hc
  go_enter Tryd.func47, Tryd.ntmps47
  go_wp2_with fail
  refine Calls.mono HC.out ?_
  rintro e w1 ⟨v, ⟨rfl, h1, h2⟩, h3⟩
  have H1 := hide h1
  have HT1 := hide (HT.out.frm h2 (by show ¬ w.heap.size = d; omega))
  have HF1 := hide ((Frm.ofBelow (S := fun j => j = d) HB.out).trans h2 (fun j _ t => t))
  have H3 := hide h3
  have t0 := HT1.out.c0
  have t1 := HT1.out.c1
  have f0 := HT1.out.f0
  have f1 := HT1.out.f1
  clear h1 h2 h3
  unfold rerr
  go_wp2
  have q0 := (HT1.out.set (.int .i64 (k : Int)) (.int .i64 q)).c0
  have q1 := (HT1.out.set (.int .i64 (k : Int)) (.int .i64 q)).c1
  have HW := hide (frm_two (u := .int .i64 (k : Int)) (v := .int .i64 q) HF1.out (Nat.le_refl _))
  have HD := hide (H1.out.two (b := w.heap.size) (u := .int .i64 (k : Int)) (v := .int .i64 q) (by omega) (by have := HG.out; omega))
  (try simp only [Exit.inBlock, Exit.then])
  refine bodyPost_ret (v := .tuple #[.int .i64 t, v, rerr (k : Int) q]) (by simp [results, Tryd.results47, go_sem, q0, q1]; rfl) rfl ?_
  refine ⟨v, ⟨rfl, HD.out, HW.out⟩, ?_⟩
  have hbo := H3.out
  match bo, hbo with
  | none, hbo => exact hbo
  | some b, ⟨D, e1, e2, e3⟩ => exact ⟨D, e1, by have := HZ.out; omega, e3.two (by have := HZ.out; omega) (by have := HG.out; omega)⟩

set_option maxRecDepth 100000 in
theorem rrecord_of (d g len cap p bd : Nat) (L : List Nat) (want : Int) (t : Int) (k : Nat) (q : Int) (p' : Nat) (bo : Option (Nat × Nat)) (w : World) (h : Doc w d g len cap p bd L)
    (hc : ∀ w, Doc w d g len cap p bd L → Calls Tryd.prog 85 #[.pointer (some ⟨d, 0, none⟩), .int .i64 want, .bool false] w fun e w' => ∃ v, DRec w d g len cap bd L t v k q p' e w' ∧ DBo w w' g len cap L v bo) :
    Calls Tryd.prog 49 #[.pointer (some ⟨d, 0, none⟩), .int .i64 want] w fun e w' => ∃ v, DAns w d g len cap bd L v k q p' e w' ∧ DBo w w' g len cap L v bo := by
  have HT := hide (two_alloc w (.int .i64 0) (.int .i64 0) 31)
  have HB : Hid (Below w.heap.size w (w.alloc (.cells #[.int .i64 0, .int .i64 0] 31))) := (Below.refl _ _).alloc (Nat.le_refl _) _
  have HZ : Hid (w.heap.size < (w.alloc (.cells #[.int .i64 0, .int .i64 0] 31)).heap.size) := by unfold Hid; simp
  have HC := hide (hc _ (h.below HB.out))
  have hdl : d < w.heap.size := h.lt
  have HG := hide h.ne.2
  clear h hc
  go_enter Tryd.func49, Tryd.ntmps49
  go_wp2_with fail
  refine Calls.mono HC.out ?_
  rintro e w1 ⟨v, ⟨rfl, h1, h2⟩, h3⟩
  have H1 := hide h1
  have HT1 := hide (HT.out.frm h2 (by show ¬ w.heap.size = d; omega))
  have HF1 := hide ((Frm.ofBelow (S := fun j => j = d) HB.out).trans h2 (fun j _ t => t))
  have H3 := hide h3
  clear h1 h2 h3
  unfold rerr
  go_wp2
  have HB2 : Hid (Below w1.heap.size w1 (w1.alloc (.cells #[.int .i64 (k : Int), .int .i64 q] 31))) := (Below.refl _ _).alloc (Nat.le_refl _) _
  have HT2 := hide (HT1.out.below HB2.out)
  have HE2 := hide (two_alloc w1 (.int .i64 (k : Int)) (.int .i64 q) 31)
  have H2 := hide (H1.out.below HB2.out)
  have HF2 := hide (HF1.out.trans (Frm.ofBelow (S := fun _ => False) HB2.out) (fun j _ t => t.elim))
  have H32 : Hid (DBo (w.alloc (.cells #[.int .i64 0, .int .i64 0] 31)) (w1.alloc (.cells #[.int .i64 (k : Int), .int .i64 q] 31)) g len cap L v bo) := by
    have hbo := H3.out
    match bo, hbo with
    | none, hbo => exact hbo
    | some b, ⟨D, e1, e2, e3⟩ => exact ⟨D, e1, e2, e3.below HB2.out⟩
  have t0 := HT2.out.c0
  have t1 := HT2.out.c1
  have f0 := HT2.out.f0
  have f1 := HT2.out.f1
  have s0 := HE2.out.c0
  have s1 := HE2.out.c1
  clear HT1 HF1 H1 H3
  generalize w1.alloc (.cells #[.int .i64 (k : Int), .int .i64 q] 31) = W2 at *
  go_region
  all_goals go_wp2
  all_goals
    have q0 := (HT2.out.set (.int .i64 (k : Int)) (.int .i64 q)).c0
    have q1 := (HT2.out.set (.int .i64 (k : Int)) (.int .i64 q)).c1
    have HW := hide ((frm_two (u := .int .i64 (k : Int)) (v := .int .i64 q) HF2.out (Nat.le_refl _)).drew)
    have HD := hide ((H2.out.two (b := w.heap.size) (u := .int .i64 (k : Int)) (v := .int .i64 q) (by omega) (by have := HG.out; omega)).below (Below.refl _ _).drew)
    (try simp only [Exit.inBlock, Exit.then])
    refine bodyPost_ret (v := .tuple #[v, rerr (k : Int) q]) (by simp [results, Tryd.results49, go_sem, q0, q1]; rfl) rfl ?_
    refine ⟨v, ⟨rfl, HD.out, HW.out⟩, ?_⟩
    have hbo := H32.out
    match bo, hbo with
    | none, hbo => exact hbo
    | some b, ⟨D, e1, e2, e3⟩ => exact ⟨D, e1, by have := HZ.out; omega, (e3.two (by have := HZ.out; omega) (by have := HG.out; omega)).below (Below.refl _ _).drew⟩

set_option maxRecDepth 100000 in
set_option maxHeartbeats 400000 in
theorem crec_tag {E : Nat → Addr} (c g len p bd i q : Nat) (L : List Nat) (want : Int) (w : World)
    (hc : Calls Tryd.prog 78 #[.pointer (some ⟨c, 0, none⟩)] w fun e w' => ∃ ev, e = .returned (.tuple #[.int .i64 0, ev]) ∧ AtErr w' w.heap.size ev (E i) (q : Int) ∧ Below w.heap.size w w') :
    Calls Tryd.prog 41 #[.pointer (some ⟨c, 0, none⟩), .int .i64 want] w fun e w' => ∃ ev, e = .returned (.tuple #[.pointer none, ev]) ∧ AtErr w' w.heap.size ev (E i) (q : Int) ∧ Below w.heap.size w w' := by
  have HC := hide hc
  clear hc
  go_enter Tryd.func41, Tryd.ntmps41
  go_wp2_with fail
  refine Calls.mono HC.out ?_
  rintro e w1 ⟨ev, rfl, ha, hb⟩
  have HA := hide ha
  have HB := hide hb
  obtain ⟨b, _, rfl, _⟩ := ha
  clear hb
  go_wp2
  go_ret2
  exact ⟨_, rfl, HA.out, HB.out⟩

set_option maxRecDepth 100000 in
set_option maxHeartbeats 400000 in
theorem crec_other {E : Nat → Addr} (c g len p bd t : Nat) (L : List Nat) (want : Int) (w : World) (h : Cur w c g len p bd L) (he : Errs w E) (hs : 3 ≤ bd - p) (ht : L[p]? = some t) (h0 : t ≠ 0) (hw : (t : Int) ≠ want) :
    Calls Tryd.prog 41 #[.pointer (some ⟨c, 0, none⟩), .int .i64 want] w fun e w' => ∃ ev, e = .returned (.tuple #[.pointer none, ev]) ∧ AtErr w' w.heap.size ev (E 3) (p : Int) ∧ Below w.heap.size w w' := by
  have HC := hide (tag_ok c g len p bd L t w h hs ht h0)
  have H := hide h
  have V := hide he.v3
  have dw : ((t : Int) != want) = true := by simp; exact hw
  clear h he hs ht h0 hw
  go_enter Tryd.func41, Tryd.ntmps41
  go_wp2_with fail
  refine Calls.mono HC.out ?_
  rintro e w1 ⟨rfl, hb⟩
  have c1 := (H.out.below hb).c1
  have v1 := cell_below V.out hb
  have HB := hide hb
  clear hb
  go_wp2
  go_region_held3 (fun wz => wz.cell? ⟨3, 0, none⟩ = some (sent (E 3)) ∧ wz.cell? ⟨c, 1, none⟩ = some (.int .i64 (p : Int))) (first | exact ⟨v1, c1⟩ | exact hold2) (first | (go_at_call 54; refine (placed_any (E 3) _ _).mono ?_; rintro e w2 ⟨ev, rfl, ha, hb2⟩; have hold2 : w2.cell? ⟨3, 0, none⟩ = some (sent (E 3)) ∧ w2.cell? ⟨c, 1, none⟩ = some (.int .i64 (p : Int)) := ⟨cell_below (w := w1.drew) v1 hb2, cell_below (w := w1.drew) c1 hb2⟩; have HA := hide ha; have HB2 := hide hb2; clear ha hb2))
  go_wp2
  go_ret2
  exact ⟨ev, rfl, HA.out.wk HB.out.size, HB.out.trans ((Below.refl _ _).drew.trans (HB2.out.mono HB.out.size))⟩

set_option maxRecDepth 100000 in
set_option maxHeartbeats 400000 in
theorem crec_len {E : Nat → Addr} (c g len p bd t : Nat) (L : List Nat) (w : World) (h : Cur w c g len p bd L) (he : Errs w E) (hs : 3 ≤ bd - p) (ht : L[p]? = some t) (h0 : t ≠ 0) (hn : bd - (p + 3) < nbe (cut L (p + 1) 2)) :
    Calls Tryd.prog 41 #[.pointer (some ⟨c, 0, none⟩), .int .i64 (t : Int)] w fun e w' => ∃ ev, e = .returned (.tuple #[.pointer none, ev]) ∧ AtErr w' w.heap.size ev (E 5) ((p + 1 : Nat) : Int) ∧ Below w.heap.size w w' := by
  have HC := hide (tag_ok c g len p bd L t w h hs ht h0)
  have HD := hide (fun w2 (k : Cur w2 c g len p bd L) (k5 : w2.cell? ⟨5, 0, none⟩ = some (sent (E 5))) => body_bad c g len p bd L (E 5) w2 k k5 (by omega) hn)
  have H := hide h
  have V := hide he.v5
  clear h he hs ht h0 hn
  go_enter Tryd.func41, Tryd.ntmps41
  go_wp2_with fail
  refine Calls.mono HC.out ?_
  rintro e w1 ⟨rfl, hb⟩
  have HB := hide hb
  clear hb
  go_wp2_with fail
  refine Calls.mono (HD.out w1 (H.out.below HB.out) (cell_below V.out HB.out)) ?_
  rintro e w2 ⟨ev, rfl, ha, hb⟩
  have HA := hide ha
  have HB2 := hide hb
  obtain ⟨b, _, rfl, _⟩ := ha
  clear hb
  go_wp2
  go_ret2
  exact ⟨_, rfl, HA.out.wk HB.out.size, chain HB.out HB2.out⟩
end Go.Proofs.YtohoncgkekiihaaDoor
namespace Go.Proofs.YtohoncgkekiihaaDoor
open Go.RowKit FerryCrc
set_option linter.unusedVariables false
set_option linter.unusedSimpArgs false

/-- What a call of the program's cursor for a record leaves. -/
def PNx (w : World) (E : Nat → Addr) (c g len bd : Nat) (L : List Nat) (t : Int) (k : Nat) (q : Int) (p' : Nat) (bo : Option (Nat × Nat)) (e : Ending) (w' : World) : Prop :=
  ∃ v ev, e = .returned (.tuple #[.int .i64 t, v, ev]) ∧ IsErr w' E ev k q ∧ Cur w' c g len p' bd L ∧ Frm (fun j => j = c) w w' ∧ PBo w w' g len L v bo
def PRc (w : World) (E : Nat → Addr) (c g len bd : Nat) (L : List Nat) (k : Nat) (q : Int) (p' : Nat) (bo : Option (Nat × Nat)) (e : Ending) (w' : World) : Prop :=
  ∃ v ev, e = .returned (.tuple #[v, ev]) ∧ IsErr w' E ev k q ∧ Cur w' c g len p' bd L ∧ Frm (fun j => j = c) w w' ∧ PBo w w' g len L v bo
/-- What the document's record says: a refusal. -/
theorem rrec_no {d g len cap p bd : Nat} {L : List Nat} {want : Int} {any : Bool} {k : Nat} {q : Int} {w : World}
    (h : Calls Tryd.prog 85 #[.pointer (some ⟨d, 0, none⟩), .int .i64 want, .bool any] w fun e w' => DRec w d g len cap bd L 0 (.pointer none) k q p e w') :
    Calls Tryd.prog 85 #[.pointer (some ⟨d, 0, none⟩), .int .i64 want, .bool any] w fun e w' => ∃ v, DRec w d g len cap bd L 0 v k q p e w' ∧ DBo w w' g len cap L v none :=
  Calls.mono h (fun e w' h1 => ⟨_, h1, rfl⟩)
theorem rrec_yes {d g len cap p bd t : Nat} {L : List Nat} {want : Int} {any : Bool} {w : World} (h : Doc w d g len cap p bd L) (hs : 3 ≤ bd - p) (ht : L[p]? = some t) (hx : Takes any want t) (hn : nbe (cut L (p + 1) 2) ≤ bd - (p + 3)) :
    Calls Tryd.prog 85 #[.pointer (some ⟨d, 0, none⟩), .int .i64 want, .bool any] w fun e w' => ∃ v, DRec w d g len cap bd L (t : Int) v 0 (-1) (p + 3 + nbe (cut L (p + 1) 2)) e w' ∧ DBo w w' g len cap L v (some (p + 3, p + 3 + nbe (cut L (p + 1) 2))) :=
  Calls.mono (rrec_ok d g len cap p bd L want any t w h hs ht hx hn) (fun e w' ⟨D, h1, h2, h3⟩ => ⟨_, h1, D, rfl, h2, h3⟩)

theorem both_next (E : Nat → Addr) (L : List Nat) (len p bd : Nat) (hp : p ≤ bd) (hL : bd ≤ L.length) :
    ∃ (t : Int) (k : Nat) (q : Int) (p' : Nat) (bo : Option (Nat × Nat)), p ≤ p' ∧ p' ≤ bd ∧
      (∀ c g w, Cur w c g len p bd L → Errs w E → Calls Tryd.prog 51 #[.pointer (some ⟨c, 0, none⟩)] w fun e w' => PNx w E c g len bd L t k q p' bo e w') ∧
      (∀ d g cap w, Doc w d g len cap p bd L → Calls Tryd.prog 47 #[.pointer (some ⟨d, 0, none⟩)] w fun e w' => ∃ v, DRec w d g len cap bd L t v k q p' e w' ∧ DBo w w' g len cap L v bo) := by
  have bad : ∀ (i q' : Nat), Stk L p bd i q' → 1 ≤ i → i ≤ 20 → ∀ c g w, Cur w c g len p bd L → Errs w E → Calls Tryd.prog 51 #[.pointer (some ⟨c, 0, none⟩)] w fun e w' => PNx w E c g len bd L 0 i (q' : Int) p none e w' := by
    intro i q' hst h1 h2 c g w h he
    refine Calls.mono (next_bad c g len p bd i q' L w h he.three hst) ?_
    rintro e w' ⟨ev, e1, ha, hb⟩
    exact ⟨_, ev, e1, at_isErr ha h1 h2, h.below hb, Frm.ofBelow hb, rfl⟩
  by_cases hs : bd - p < 3
  · exact ⟨0, 1, p, p, none, Nat.le_refl _, hp, bad 1 p (.inl ⟨hs, rfl, rfl⟩) (by decide) (by decide), fun d g cap w h => rnext_of d g len cap p bd L 0 1 p p none w h (fun w h => rrec_no (rrec_short d g len cap p bd L 0 true w h hs))⟩
  · obtain ⟨t, ht⟩ : ∃ t, L[p]? = some t := ⟨_, List.getElem?_eq_getElem (by omega)⟩
    by_cases h0 : t = 0
    · subst h0
      exact ⟨0, 3, p, p, none, Nat.le_refl _, hp, bad 3 p (.inr (.inl ⟨by omega, ht, rfl, rfl⟩)) (by decide) (by decide), fun d g cap w h => rnext_of d g len cap p bd L 0 3 p p none w h (fun w h => rrec_no (rrec_tag d g len cap p bd L 0 true 0 w h (by omega) ht (fun x => x.1 rfl)))⟩
    · have hx : Takes true 0 t := ⟨h0, fun e => by cases e⟩
      by_cases hn : bd - (p + 3) < nbe (cut L (p + 1) 2)
      · exact ⟨0, 5, (p + 1 : Nat), p, none, Nat.le_refl _, hp, bad 5 (p + 1) (.inr (.inr ⟨by omega, by rw [ht]; simp; exact h0, hn, rfl, rfl⟩)) (by decide) (by decide), fun d g cap w h => rnext_of d g len cap p bd L 0 5 _ p none w h (fun w h => rrec_no (rrec_len d g len cap p bd L 0 true t w h (by omega) ht hx hn))⟩
      · refine ⟨t, 0, -1, _, some (p + 3, p + 3 + nbe (cut L (p + 1) 2)), by omega, by omega, fun c g w h he => ?_, fun d g cap w h => rnext_of d g len cap p bd L t 0 (-1) _ _ w h (fun w h => rrec_yes h (by omega) ht hx (by omega))⟩
        refine Calls.mono (next_ok c g len p bd t _ L w h ⟨by omega, ht, h0, rfl, by omega⟩) ?_
        rintro e w' ⟨C, e0, e1, e2, e3, e4⟩
        exact ⟨_, _, e1, .inl ⟨rfl, rfl, rfl⟩, e2, e4, C, rfl, e0, e3⟩

theorem both_record (E : Nat → Addr) (L : List Nat) (len p bd : Nat) (want : Int) (hp : p ≤ bd) (hL : bd ≤ L.length) :
    ∃ (k : Nat) (q : Int) (p' : Nat) (bo : Option (Nat × Nat)), p ≤ p' ∧ p' ≤ bd ∧
      (∀ c g w, Cur w c g len p bd L → Errs w E → Calls Tryd.prog 41 #[.pointer (some ⟨c, 0, none⟩), .int .i64 want] w fun e w' => PRc w E c g len bd L k q p' bo e w') ∧
      (∀ d g cap w, Doc w d g len cap p bd L → Calls Tryd.prog 49 #[.pointer (some ⟨d, 0, none⟩), .int .i64 want] w fun e w' => ∃ v, DAns w d g len cap bd L v k q p' e w' ∧ DBo w w' g len cap L v bo) := by
  have wrap : ∀ (i q' : Nat), 1 ≤ i → i ≤ 20 → ∀ c g w, Cur w c g len p bd L → (Calls Tryd.prog 41 #[.pointer (some ⟨c, 0, none⟩), .int .i64 want] w fun e w' => ∃ ev, e = .returned (.tuple #[.pointer none, ev]) ∧ AtErr w' w.heap.size ev (E i) (q' : Int) ∧ Below w.heap.size w w') → Calls Tryd.prog 41 #[.pointer (some ⟨c, 0, none⟩), .int .i64 want] w fun e w' => PRc w E c g len bd L i (q' : Int) p none e w' := by
    intro i q' h1 h2 c g w h hc
    refine Calls.mono hc ?_
    rintro e w' ⟨ev, e1, ha, hb⟩
    exact ⟨_, ev, e1, at_isErr ha h1 h2, h.below hb, Frm.ofBelow hb, rfl⟩
  by_cases hs : bd - p < 3
  · exact ⟨1, p, p, none, Nat.le_refl _, hp, fun c g w h he => wrap 1 p (by decide) (by decide) c g w h (crec_tag c g len p bd 1 p L want w (tag_short c g len p bd L (E 1) w h he.v1 hs)), fun d g cap w h => rrecord_of d g len cap p bd L want 0 1 p p none w h (fun w h => rrec_no (rrec_short d g len cap p bd L want false w h hs))⟩
  · obtain ⟨t, ht⟩ : ∃ t, L[p]? = some t := ⟨_, List.getElem?_eq_getElem (by omega)⟩
    by_cases h0 : t = 0
    · subst h0
      exact ⟨3, p, p, none, Nat.le_refl _, hp, fun c g w h he => wrap 3 p (by decide) (by decide) c g w h (crec_tag c g len p bd 3 p L want w (tag_zero c g len p bd L (E 3) w h he.v3 (by omega) ht)), fun d g cap w h => rrecord_of d g len cap p bd L want 0 3 p p none w h (fun w h => rrec_no (rrec_tag d g len cap p bd L want false 0 w h (by omega) ht (fun x => x.1 rfl)))⟩
    · by_cases hw : (t : Int) = want
      · subst hw
        have hx : Takes false (t : Int) t := ⟨h0, fun _ => rfl⟩
        by_cases hn : bd - (p + 3) < nbe (cut L (p + 1) 2)
        · exact ⟨5, (p + 1 : Nat), p, none, Nat.le_refl _, hp, fun c g w h he => wrap 5 (p + 1) (by decide) (by decide) c g w h (crec_len c g len p bd t L w h he (by omega) ht h0 hn), fun d g cap w h => rrecord_of d g len cap p bd L t 0 5 _ p none w h (fun w h => rrec_no (rrec_len d g len cap p bd L t false t w h (by omega) ht hx hn))⟩
        · refine ⟨0, -1, _, some (p + 3, p + 3 + nbe (cut L (p + 1) 2)), by omega, by omega, fun c g w h he => ?_, fun d g cap w h => rrecord_of d g len cap p bd L t t 0 (-1) _ _ w h (fun w h => rrec_yes h (by omega) ht hx (by omega))⟩
          refine Calls.mono (crec_ok c g len p bd t _ L w h ⟨by omega, ht, h0, rfl, by omega⟩) ?_
          rintro e w' ⟨C, e0, e1, e2, e3, e4⟩
          exact ⟨_, _, e1, .inl ⟨rfl, rfl, rfl⟩, e2, e4, C, rfl, e0, e3⟩
      · exact ⟨3, p, p, none, Nat.le_refl _, hp, fun c g w h he => wrap 3 p (by decide) (by decide) c g w h (crec_other c g len p bd t L want w h he (by omega) ht h0 hw), fun d g cap w h => rrecord_of d g len cap p bd L want 0 3 p p none w h (fun w h => rrec_no (rrec_tag d g len cap p bd L want false t w h (by omega) ht (fun x => hw (x.2 rfl))))⟩

set_option maxRecDepth 100000 in
set_option maxHeartbeats 400000 in
theorem same_yes {E : Nat → Addr} (ev : Value) (k : Nat) (q : Int) (w : World) (he : Errs w E) (h : IsErr w E ev k q) :
    Calls Tryd.prog 17 #[ev, rerr (k : Int) q] w fun e w' => e = .returned (.bool true) ∧ Below w.heap.size w w' := by
  have HB : Hid (Below w.heap.size w (w.alloc (.cells #[.int .i64 (k : Int), .int .i64 q] 31))) := (Below.refl _ _).alloc (Nat.le_refl _) _
  have HT := hide (two_alloc w (.int .i64 (k : Int)) (.int .i64 q) 31)
  have HE := hide (he.below HB.out)
  have HI := hide (h.below HB.out)
  clear he h
  unfold rerr
  go_enter Tryd.func17, Tryd.ntmps17
  go_wp2_with fail
  have t0 := HT.out.c0
  have t1 := HT.out.c1
  generalize w.alloc (.cells #[.int .i64 (k : Int), .int .i64 q] 31) = W at *
  have HDW : Hid (Below W.heap.size W W.drew) := (Below.refl _ _).drew
  go_region_held3 (fun wz => wz.cell? ⟨w.heap.size, 0, none⟩ = some (.int .i64 (k : Int)) ∧ wz.cell? ⟨w.heap.size, 1, none⟩ = some (.int .i64 q)) (first | exact ⟨t0, t1⟩ | exact hold2) (first
    | (go_at_call 43; refine (code_any (HE.out.below HDW.out) ev k q (HI.out.below HDW.out)).mono ?_; rintro e w2 ⟨rfl, rfl⟩)
    | (go_at_call 36; refine (place_any (HE.out.below HDW.out) ev k q (HI.out.below HDW.out)).mono ?_; rintro e w2 ⟨rfl, hb2⟩; have hold2 : w2.cell? ⟨w.heap.size, 0, none⟩ = some (.int .i64 (k : Int)) ∧ w2.cell? ⟨w.heap.size, 1, none⟩ = some (.int .i64 q) := ⟨cell_below (w := W.drew) t0 hb2, cell_below (w := W.drew) t1 hb2⟩; have HB2 := hide hb2; clear hb2))
  go_wp2
  go_ret
  exact ⟨rfl, chain HB.out (chain HDW.out HB2.out)⟩
end Go.Proofs.YtohoncgkekiihaaDoor
