/-
  The law's step: a call on a cursor, and how many bytes it should have read.
-/
import Derived.Test.YtohoncgkekiihaaDoorCuText
import Derived.Test.YtohoncgkekiihaaDoorErrHitW
import Derived.Test.YtohoncgkekiihaaDoorWFixed
namespace Go.Proofs.YtohoncgkekiihaaDoor
open Go.RowKit FerryCrc
set_option linter.unusedVariables false
set_option linter.unusedSimpArgs false

theorem str_size (l : List Nat) : (str l).size = l.length := by
  show ((l.map UInt8.ofNat).toArray).size = _
  simp
/-- What a call on a cursor leaves: it was moved by what it read, or it stands where it stood and an error is told. -/
def Stepped (w : World) (E : Nat → Addr) (c g len p : Nat) (L : List Nat) (e : Ending) (w' : World) : Prop :=
  (∃ m : Nat, e = .returned (.tuple #[.int .i64 (m : Int), .nilIface]) ∧ p + m ≤ len ∧ Cur w' c g len (p + m) len L ∧ Frm (fun k => k = c) w w') ∨
  (∃ (mv : Int) (ty : TypeId) (x : Value) (i : Nat) (q : Int), e = .returned (.tuple #[.int .i64 mv, .iface ty x]) ∧ IsErr w' E (.iface ty x) i q ∧ (q = -1 ∨ ((p : Int) ≤ q ∧ q ≤ (len : Int))) ∧ Below w.heap.size w w')
theorem stepped_at {w w' : World} {E : Nat → Addr} {c g len p : Nat} {L : List Nat} {mv : Int} {ev : Value} {i q : Nat} {e : Ending} (he : e = .returned (.tuple #[.int .i64 mv, ev])) (ha : AtErr w' w.heap.size ev (E i) (q : Int)) (h1 : 1 ≤ i) (h2 : i ≤ 20) (hq : p ≤ q ∧ q ≤ len) (hb : Below w.heap.size w w') : Stepped w E c g len p L e w' := by
  have hi := at_isErr ha h1 h2
  obtain ⟨b, _, rfl, _⟩ := ha
  exact .inr ⟨mv, _, _, i, (q : Int), he, hi, .inr (by omega), hb⟩
theorem below_alloc_pre {w w' : World} {o : Obj} (h : Below (w.alloc o).heap.size (w.alloc o) w') : Below w.heap.size w w' := ((Below.refl _ _).alloc (Nat.le_refl _) o).trans (h.mono (by simp))
theorem frm_alloc_pre {S : Nat → Prop} {w w' : World} {o : Obj} (h : Frm S (w.alloc o) w') : Frm S w w' := (frm_alloc S w o).trans h (fun j _ t => t)
theorem atErr_alloc_pre {w w' : World} {o : Obj} {v : Value} {a : Addr} {p : Int} (h : AtErr w' (w.alloc o).heap.size v a p) : AtErr w' w.heap.size v a p := h.wk (by simp)

set_option maxRecDepth 100000 in
set_option maxHeartbeats 400000 in
theorem step_u8 {E : Nat → Addr} (c g len p : Nat) (L : List Nat)  (sec : Bool) (cur n lo hi : Int) (S : ByteArray) (w : World) (h : Cur w c g len p len L) (he : Errs w E)  :
    Calls Tryd.prog 35 #[.pointer (some ⟨c, 0, none⟩), .agg #[.int .i64 12, .bool sec, .int .i64 cur, .int .i64 n, .int .i64 lo, .int .i64 hi, .string S]] w fun e w' => Stepped w E c g len p L e w' := by
  have hle := h.le
  have hmo := h.bts.most
  have HA : Hid (Below w.heap.size w (w.alloc (.cells #[.int .i64 12, .bool sec, .int .i64 cur, .int .i64 n, .int .i64 lo, .int .i64 hi, .string S] 64))) := (Below.refl _ _).alloc (Nat.le_refl _) _
  have H := hide (h.below HA.out)
  have HE := hide (he.below HA.out)
  clear h he
  go_enter Tryd.func35, Tryd.ntmps35
  go_wp2_with fail
  refine Calls.mono (cU8_any c g len p len L _ H.out HE.out.three) ?_
  rintro e w1 (⟨hs, ev, rfl, ha, hb⟩ | ⟨hs, rfl, q1, q2⟩)
  · have HA1 := hide (atErr_alloc_pre ha)
    have HB := hide (below_alloc_pre hb)
    clear ha hb
    go_wp2
    go_ret2
    exact stepped_at rfl HA1.out (by decide) (by decide) ⟨Nat.le_refl _, hle⟩ HB.out
  · have H1 := hide q1
    have H2 := hide (frm_alloc_pre q2)
    clear q1 q2
    go_wp2
    go_ret2
    exact .inl ⟨1, rfl, by omega, H1.out, H2.out⟩

set_option maxRecDepth 100000 in
set_option maxHeartbeats 400000 in
theorem step_flag {E : Nat → Addr} (c g len p : Nat) (L : List Nat)  (sec : Bool) (cur n lo hi : Int) (S : ByteArray) (w : World) (h : Cur w c g len p len L) (he : Errs w E)  :
    Calls Tryd.prog 35 #[.pointer (some ⟨c, 0, none⟩), .agg #[.int .i64 15, .bool sec, .int .i64 cur, .int .i64 n, .int .i64 lo, .int .i64 hi, .string S]] w fun e w' => Stepped w E c g len p L e w' := by
  have hle := h.le
  have hmo := h.bts.most
  have HA : Hid (Below w.heap.size w (w.alloc (.cells #[.int .i64 15, .bool sec, .int .i64 cur, .int .i64 n, .int .i64 lo, .int .i64 hi, .string S] 64))) := (Below.refl _ _).alloc (Nat.le_refl _) _
  have H := hide (h.below HA.out)
  have HE := hide (he.below HA.out)
  clear h he
  go_enter Tryd.func35, Tryd.ntmps35
  go_wp2_with fail
  refine Calls.mono (cU8_any c g len p len L _ H.out HE.out.three) ?_
  rintro e w1 (⟨hs, ev, rfl, ha, hb⟩ | ⟨hs, rfl, q1, q2⟩)
  · have HA1 := hide (atErr_alloc_pre ha)
    have HB := hide (below_alloc_pre hb)
    clear ha hb
    go_wp2
    go_ret2
    exact stepped_at rfl HA1.out (by decide) (by decide) ⟨Nat.le_refl _, hle⟩ HB.out
  · have H1 := hide q1
    have H2 := hide (frm_alloc_pre q2)
    clear q1 q2
    go_wp2
    go_ret2
    exact .inl ⟨1, rfl, by omega, H1.out, H2.out⟩

set_option maxRecDepth 100000 in
set_option maxHeartbeats 400000 in
theorem step_u16 {E : Nat → Addr} (c g len p : Nat) (L : List Nat)  (sec : Bool) (cur n lo hi : Int) (S : ByteArray) (w : World) (h : Cur w c g len p len L) (he : Errs w E)  :
    Calls Tryd.prog 35 #[.pointer (some ⟨c, 0, none⟩), .agg #[.int .i64 13, .bool sec, .int .i64 cur, .int .i64 n, .int .i64 lo, .int .i64 hi, .string S]] w fun e w' => Stepped w E c g len p L e w' := by
  have hle := h.le
  have hmo := h.bts.most
  have HA : Hid (Below w.heap.size w (w.alloc (.cells #[.int .i64 13, .bool sec, .int .i64 cur, .int .i64 n, .int .i64 lo, .int .i64 hi, .string S] 64))) := (Below.refl _ _).alloc (Nat.le_refl _) _
  have H := hide (h.below HA.out)
  have HE := hide (he.below HA.out)
  clear h he
  go_enter Tryd.func35, Tryd.ntmps35
  go_wp2_with fail
  refine Calls.mono (cU16_any c g len p len L _ H.out HE.out.three) ?_
  rintro e w1 (⟨hs, ev, rfl, ha, hb⟩ | ⟨hs, rfl, q1, q2⟩)
  · have HA1 := hide (atErr_alloc_pre ha)
    have HB := hide (below_alloc_pre hb)
    clear ha hb
    go_wp2
    go_ret2
    exact stepped_at rfl HA1.out (by decide) (by decide) ⟨Nat.le_refl _, hle⟩ HB.out
  · have H1 := hide q1
    have H2 := hide (frm_alloc_pre q2)
    clear q1 q2
    go_wp2
    go_ret2
    exact .inl ⟨2, rfl, by omega, H1.out, H2.out⟩

set_option maxRecDepth 100000 in
set_option maxHeartbeats 400000 in
theorem step_u32 {E : Nat → Addr} (c g len p : Nat) (L : List Nat)  (sec : Bool) (cur n lo hi : Int) (S : ByteArray) (w : World) (h : Cur w c g len p len L) (he : Errs w E)  :
    Calls Tryd.prog 35 #[.pointer (some ⟨c, 0, none⟩), .agg #[.int .i64 14, .bool sec, .int .i64 cur, .int .i64 n, .int .i64 lo, .int .i64 hi, .string S]] w fun e w' => Stepped w E c g len p L e w' := by
  have hle := h.le
  have hmo := h.bts.most
  have HA : Hid (Below w.heap.size w (w.alloc (.cells #[.int .i64 14, .bool sec, .int .i64 cur, .int .i64 n, .int .i64 lo, .int .i64 hi, .string S] 64))) := (Below.refl _ _).alloc (Nat.le_refl _) _
  have H := hide (h.below HA.out)
  have HE := hide (he.below HA.out)
  clear h he
  go_enter Tryd.func35, Tryd.ntmps35
  go_wp2_with fail
  refine Calls.mono (cU32_any c g len p len L _ H.out HE.out.three) ?_
  rintro e w1 (⟨hs, ev, rfl, ha, hb⟩ | ⟨hs, rfl, q1, q2⟩)
  · have HA1 := hide (atErr_alloc_pre ha)
    have HB := hide (below_alloc_pre hb)
    clear ha hb
    go_wp2
    go_ret2
    exact stepped_at rfl HA1.out (by decide) (by decide) ⟨Nat.le_refl _, hle⟩ HB.out
  · have H1 := hide q1
    have H2 := hide (frm_alloc_pre q2)
    clear q1 q2
    go_wp2
    go_ret2
    exact .inl ⟨4, rfl, by omega, H1.out, H2.out⟩

set_option maxRecDepth 100000 in
set_option maxHeartbeats 400000 in
theorem step_raw {E : Nat → Addr} (c g len p : Nat) (L : List Nat)  (sec : Bool) (cur n lo hi : Int) (S : ByteArray) (w : World) (h : Cur w c g len p len L) (he : Errs w E)  :
    Calls Tryd.prog 35 #[.pointer (some ⟨c, 0, none⟩), .agg #[.int .i64 17, .bool sec, .int .i64 cur, .int .i64 n, .int .i64 lo, .int .i64 hi, .string S]] w fun e w' => Stepped w E c g len p L e w' := by
  have hle := h.le
  have hmo := h.bts.most
  have HA : Hid (Below w.heap.size w (w.alloc (.cells #[.int .i64 17, .bool sec, .int .i64 cur, .int .i64 n, .int .i64 lo, .int .i64 hi, .string S] 64))) := (Below.refl _ _).alloc (Nat.le_refl _) _
  have H := hide (h.below HA.out)
  have HE := hide (he.below HA.out)
  clear h he
  go_enter Tryd.func35, Tryd.ntmps35
  go_wp2_with fail
  by_cases hneg : n < 0
  · refine Calls.mono (raw_neg c n (E 12) _ HE.out.v12 hneg) ?_
    rintro e w1 ⟨rfl, hb⟩
    have HB := hide (below_alloc_pre hb)
    clear hb
    unfold sent
    go_wp2
    go_ret2
    exact .inr ⟨_, _, _, 12, -1, rfl, .inr (.inl ⟨by decide, by decide, rfl, rfl⟩), .inl rfl, HB.out⟩
  · obtain ⟨m, rfl⟩ := Int.eq_ofNat_of_zero_le (show 0 ≤ n by omega)
    by_cases hs : len - p < m
    · refine Calls.mono (raw_short c g len p len L m (E 1) _ H.out HE.out.v1 hs) ?_
      rintro e w1 ⟨ev, rfl, ha, hb⟩
      have HA1 := hide (atErr_alloc_pre ha)
      have HB := hide (below_alloc_pre hb)
      clear ha hb
      go_wp2
      go_ret2
      exact stepped_at rfl HA1.out (by decide) (by decide) ⟨Nat.le_refl _, hle⟩ HB.out
    · refine Calls.mono (raw_ok c g len p len L m _ H.out (by omega)) ?_
      rintro e w1 ⟨b, _, rfl, _, q1, q2⟩
      have H1 := hide q1
      have H2 := hide (frm_alloc_pre q2)
      clear q1 q2
      go_wp2
      go_ret2
      exact .inl ⟨m, rfl, by omega, H1.out, H2.out⟩

set_option maxRecDepth 100000 in
set_option maxHeartbeats 400000 in
theorem step_ranged {E : Nat → Addr} (c g len p : Nat) (L : List Nat)  (sec : Bool) (cur n lo hi : Int) (S : ByteArray) (w : World) (h : Cur w c g len p len L) (he : Errs w E)  :
    Calls Tryd.prog 35 #[.pointer (some ⟨c, 0, none⟩), .agg #[.int .i64 16, .bool sec, .int .i64 cur, .int .i64 n, .int .i64 lo, .int .i64 hi, .string S]] w fun e w' => Stepped w E c g len p L e w' := by
  have hle := h.le
  have hmo := h.bts.most
  have HA : Hid (Below w.heap.size w (w.alloc (.cells #[.int .i64 16, .bool sec, .int .i64 cur, .int .i64 n, .int .i64 lo, .int .i64 hi, .string S] 64))) := (Below.refl _ _).alloc (Nat.le_refl _) _
  have H := hide (h.below HA.out)
  have HE := hide (he.below HA.out)
  have HC : Hid (c < w.heap.size) := h.lt
  clear h he
  by_cases hw : n = 1 ∨ n = 2 ∨ n = 4
  · obtain ⟨m, rfl⟩ := Int.eq_ofNat_of_zero_le (show 0 ≤ n by omega)
    have hw2 : m = 1 ∨ m = 2 ∨ m = 4 := by omega
    by_cases hs : len - p < m
    · go_enter Tryd.func35, Tryd.ntmps35
      go_wp2_with fail
      refine Calls.mono (ranged_short c g len p len L m lo hi (E 1) _ H.out HE.out.v1 hw2 hs) ?_
      rintro e w1 ⟨ev, rfl, ha, hb⟩
      have HN := cell_below (World.cell?_alloc_at (w := w) (#[.int .i64 16, .bool sec, .int .i64 cur, .int .i64 (m : Int), .int .i64 lo, .int .i64 hi, .string S]) _ _ 3 rfl) hb
      have HA1 := hide (atErr_alloc_pre ha)
      have HB := hide (below_alloc_pre hb)
      clear ha hb
      go_wp2
      go_ret2
      exact stepped_at rfl HA1.out (by decide) (by decide) ⟨Nat.le_refl _, hle⟩ HB.out
    · by_cases hr : (nbe (cut L p m) : Int) < lo ∨ hi < (nbe (cut L p m) : Int)
      · go_enter Tryd.func35, Tryd.ntmps35
        go_wp2_with fail
        refine Calls.mono (ranged_out c g len p len L m lo hi (E 4) _ H.out HE.out.v4 hw2 (by omega) hr) ?_
        rintro e w1 ⟨ev, rfl, ha, hb⟩
        have HN := cell_below (World.cell?_alloc_at (w := w) (#[.int .i64 16, .bool sec, .int .i64 cur, .int .i64 (m : Int), .int .i64 lo, .int .i64 hi, .string S]) _ _ 3 rfl) hb
        have HA1 := hide (atErr_alloc_pre ha)
        have HB := hide (below_alloc_pre hb)
        clear ha hb
        go_wp2
        go_ret2
        exact stepped_at rfl HA1.out (by decide) (by decide) ⟨Nat.le_refl _, hle⟩ HB.out
      · go_enter Tryd.func35, Tryd.ntmps35
        go_wp2_with fail
        refine Calls.mono (ranged_ok c g len p len L m lo hi _ H.out hw2 (by omega) (by omega) (by omega)) ?_
        rintro e w1 ⟨rfl, q1, q2⟩
        have hne : ¬ (w.heap.size = c) := by have := H.out.lt; have := HC.out; omega
        have HN := q2.cell (World.cell?_alloc_at (w := w) (#[.int .i64 16, .bool sec, .int .i64 cur, .int .i64 (m : Int), .int .i64 lo, .int .i64 hi, .string S]) _ _ 3 rfl) hne
        have H1 := hide q1
        have H2 := hide (frm_alloc_pre q2)
        clear q1 q2 hne
        go_wp2
        go_ret2
        exact .inl ⟨m, rfl, by omega, H1.out, H2.out⟩
  · go_enter Tryd.func35, Tryd.ntmps35
    go_wp2_with fail
    refine Calls.mono (ranged_arg c n lo hi (E 12) _ HE.out.v12 (by omega) (by omega) (by omega)) ?_
    rintro e w1 ⟨rfl, hb⟩
    have HN := cell_below (World.cell?_alloc_at (w := w) (#[.int .i64 16, .bool sec, .int .i64 cur, .int .i64 n, .int .i64 lo, .int .i64 hi, .string S]) _ _ 3 rfl) hb
    have HB := hide (below_alloc_pre hb)
    clear hb
    unfold sent
    go_wp2
    go_ret2
    exact .inr ⟨_, _, _, 12, -1, rfl, .inr (.inl ⟨by decide, by decide, rfl, rfl⟩), .inl rfl, HB.out⟩

set_option maxRecDepth 100000 in
set_option maxHeartbeats 400000 in
theorem step_text {E : Nat → Addr} (c g len p : Nat) (L : List Nat)  (sec : Bool) (cur n lo hi : Int) (S : ByteArray) (w : World) (h : Cur w c g len p len L) (he : Errs w E)  :
    Calls Tryd.prog 35 #[.pointer (some ⟨c, 0, none⟩), .agg #[.int .i64 18, .bool sec, .int .i64 cur, .int .i64 n, .int .i64 lo, .int .i64 hi, .string S]] w fun e w' => Stepped w E c g len p L e w' := by
  have hle := h.le
  have hmo := h.bts.most
  have HA : Hid (Below w.heap.size w (w.alloc (.cells #[.int .i64 18, .bool sec, .int .i64 cur, .int .i64 n, .int .i64 lo, .int .i64 hi, .string S] 64))) := (Below.refl _ _).alloc (Nat.le_refl _) _
  have H := hide (h.below HA.out)
  have HE := hide (he.below HA.out)
  clear h he
  by_cases hs : len - p < 2
  · go_enter Tryd.func35, Tryd.ntmps35
    go_wp2_with fail
    refine Calls.mono (text_short c g len p len L n (E 1) _ H.out HE.out.v1 hs) ?_
    rintro e w1 ⟨ev, rfl, ha, hb⟩
    have HA1 := hide (atErr_alloc_pre ha)
    have HB := hide (below_alloc_pre hb)
    clear ha hb
    go_wp2
    go_ret2
    exact stepped_at rfl HA1.out (by decide) (by decide) ⟨Nat.le_refl _, hle⟩ HB.out
  · by_cases hm : n < (nbe (cut L p 2) : Int)
    · go_enter Tryd.func35, Tryd.ntmps35
      go_wp2_with fail
      refine Calls.mono (text_long c g len p len L n (E 5) _ H.out HE.out.v5 (by omega) hm) ?_
      rintro e w1 ⟨ev, rfl, ha, hb⟩
      have HA1 := hide (atErr_alloc_pre ha)
      have HB := hide (below_alloc_pre hb)
      clear ha hb
      go_wp2
      go_ret2
      exact stepped_at rfl HA1.out (by decide) (by decide) ⟨Nat.le_refl _, hle⟩ HB.out
    · by_cases hn : len - (p + 2) < nbe (cut L p 2)
      · go_enter Tryd.func35, Tryd.ntmps35
        go_wp2_with fail
        refine Calls.mono (text_cut c g len p len L n (E 1) _ H.out HE.out.v1 (by omega) (by omega) hn) ?_
        rintro e w1 ⟨ev, rfl, ha, hb⟩
        have HA1 := hide (atErr_alloc_pre ha)
        have HB := hide (below_alloc_pre hb)
        clear ha hb
        go_wp2
        go_ret2
        exact stepped_at rfl HA1.out (by decide) (by decide) ⟨by omega, by omega⟩ HB.out
      · have HT := hide (text_ok c g len p len L n _ H.out (by omega) (by omega) (by omega))
        have hq := cut_lt H.out.bts.small p 2
        have HL : Hid ((str (cut L (p + 2) (nbe (cut L p 2)))).size = nbe (cut L p 2)) := by
          unfold Hid
          rw [str_size]
          unfold cut
          rw [List.length_take, List.length_drop, H.out.bts.size]
          unfold cut at hn
          omega
        have hfin : p + (2 + nbe (cut L p 2)) ≤ len := by omega
        have HF := hide hfin
        generalize nbe (cut L p 2) = m at *
        have hl2 := HL.out
        generalize str (cut L (p + 2) m) = T at *
        have HA2 : Hid (p + 2 + m = p + (2 + m)) := by unfold Hid; omega
        rw [HA2.out] at HT
        go_enter Tryd.func35, Tryd.ntmps35
        go_wp2_with fail
        refine Calls.mono HT.out ?_
        rintro e w1 ⟨rfl, q1, q2⟩
        have H1 := hide q1
        have H2 := hide (frm_alloc_pre q2)
        clear q1 q2
        go_wp2
        go_ret2
        exact .inl ⟨2 + m, rfl, HF.out, H1.out, H2.out⟩

set_option maxRecDepth 100000 in
set_option maxHeartbeats 400000 in
theorem step_next {E : Nat → Addr} (c g len p : Nat) (L : List Nat)  (sec : Bool) (cur n lo hi : Int) (S : ByteArray) (w : World) (h : Cur w c g len p len L) (he : Errs w E)  :
    Calls Tryd.prog 35 #[.pointer (some ⟨c, 0, none⟩), .agg #[.int .i64 19, .bool sec, .int .i64 cur, .int .i64 n, .int .i64 lo, .int .i64 hi, .string S]] w fun e w' => Stepped w E c g len p L e w' := by
  have hle := h.le
  have hmo := h.bts.most
  have HA : Hid (Below w.heap.size w (w.alloc (.cells #[.int .i64 19, .bool sec, .int .i64 cur, .int .i64 n, .int .i64 lo, .int .i64 hi, .string S] 64))) := (Below.refl _ _).alloc (Nat.le_refl _) _
  have H := hide (h.below HA.out)
  have HE := hide (he.below HA.out)
  clear h he
  rcases stk_or_rec (L := L) (p := p) (bd := len) (by rw [H.out.bts.size]; exact Nat.le_refl _) with ⟨i, q, hst⟩ | ⟨t, m, hrec⟩
  · have hi : 1 ≤ i ∧ i ≤ 20 ∧ p ≤ q ∧ q ≤ len := by
      rcases hst with ⟨_, rfl, rfl⟩ | ⟨_, _, rfl, rfl⟩ | ⟨h3, _, _, rfl, rfl⟩
      · omega
      · omega
      · omega
    have HI := hide hi
    have HS := hide hst
    clear hst hi
    go_enter Tryd.func35, Tryd.ntmps35
    go_wp2_with fail
    refine Calls.mono (next_bad c g len p len i q L _ H.out HE.out.three HS.out) ?_
    rintro e w1 ⟨ev, rfl, ha, hb⟩
    have HA1 := hide (atErr_alloc_pre ha)
    have HB := hide (below_alloc_pre hb)
    clear ha hb
    go_wp2
    go_ret2
    exact stepped_at rfl HA1.out HI.out.1 HI.out.2.1 HI.out.2.2 HB.out
  · have HF : Hid (p + (3 + m) ≤ len) := by unfold Hid; have h1 := hrec.1; have h2 := hrec.2.2.2.2; omega
    have HS := hide hrec
    have hm64 : m ≤ len := by have := HF.out; omega
    clear hrec
    go_enter Tryd.func35, Tryd.ntmps35
    go_wp2_with fail
    refine Calls.mono (next_ok c g len p len t m L _ H.out HS.out) ?_
    rintro e w1 ⟨k, hk, rfl, q1, q2, q3⟩
    have H1 := hide q1
    have H2 := hide q2
    have H3 := hide (frm_alloc_pre q3)
    clear q1 q2 q3 hk
    have HL := hide (left_any k g len (p + 3) (p + 3 + m) L w1 H2.out)
    rw [show p + 3 + m - (p + 3) = m by omega] at HL
    go_wp2_with fail
    refine Calls.mono HL.out ?_
    rintro e w2 ⟨rfl, hb⟩
    have H4 := hide (H1.out.below hb)
    have H5 := hide (H3.out.trans (Frm.ofBelow (S := fun _ => False) hb) (fun j _ t => t.elim))
    clear hb
    go_wp2
    go_ret2
    refine .inl ⟨3 + m, rfl, HF.out, ?_, H5.out⟩
    rw [show p + (3 + m) = p + 3 + m by omega]
    exact H4.out

set_option maxRecDepth 100000 in
set_option maxHeartbeats 400000 in
theorem step_end {E : Nat → Addr} (c g len p : Nat) (L : List Nat) (kind : Int) (sec : Bool) (cur n lo hi : Int) (S : ByteArray) (w : World) (h : Cur w c g len p len L) (he : Errs w E) (hk12 : kind ≠ 12) (hk13 : kind ≠ 13) (hk14 : kind ≠ 14) (hk15 : kind ≠ 15) (hk16 : kind ≠ 16) (hk17 : kind ≠ 17) (hk18 : kind ≠ 18) (hk19 : kind ≠ 19) :
    Calls Tryd.prog 35 #[.pointer (some ⟨c, 0, none⟩), .agg #[.int .i64 kind, .bool sec, .int .i64 cur, .int .i64 n, .int .i64 lo, .int .i64 hi, .string S]] w fun e w' => Stepped w E c g len p L e w' := by
  have hle := h.le
  have hmo := h.bts.most
  have HA : Hid (Below w.heap.size w (w.alloc (.cells #[.int .i64 kind, .bool sec, .int .i64 cur, .int .i64 n, .int .i64 lo, .int .i64 hi, .string S] 64))) := (Below.refl _ _).alloc (Nat.le_refl _) _
  have H := hide (h.below HA.out)
  have HE := hide (he.below HA.out)
  clear h he
  have d12 : (kind == 12) = false := by simp [hk12]
  have d13 : (kind == 13) = false := by simp [hk13]
  have d14 : (kind == 14) = false := by simp [hk14]
  have d15 : (kind == 15) = false := by simp [hk15]
  have d16 : (kind == 16) = false := by simp [hk16]
  have d17 : (kind == 17) = false := by simp [hk17]
  have d18 : (kind == 18) = false := by simp [hk18]
  have d19 : (kind == 19) = false := by simp [hk19]
  clear hk12 hk13 hk14 hk15 hk16 hk17 hk18 hk19
  by_cases hs : len - p = 0
  · go_enter Tryd.func35, Tryd.ntmps35
    go_wp2_with fail
    refine Calls.mono (end_ok c g len p len L _ H.out hs) ?_
    rintro e w1 ⟨rfl, hb⟩
    have H1 := hide (H.out.below hb)
    have HB := hide (below_alloc_pre hb)
    clear hb
    go_wp2
    go_ret2
    exact .inl ⟨0, rfl, by omega, H1.out, Frm.ofBelow HB.out⟩
  · go_enter Tryd.func35, Tryd.ntmps35
    go_wp2_with fail
    refine Calls.mono (end_bad c g len p len L (E 2) _ H.out HE.out.v2 (by omega)) ?_
    rintro e w1 ⟨ev, rfl, ha, hb⟩
    have HA1 := hide (atErr_alloc_pre ha)
    have HB := hide (below_alloc_pre hb)
    clear ha hb
    go_wp2
    go_ret2
    exact stepped_at rfl HA1.out (by decide) (by decide) ⟨Nat.le_refl _, hle⟩ HB.out

theorem step_any {E : Nat → Addr} (c g len p : Nat) (L : List Nat) (kind : Int) (sec : Bool) (cur n lo hi : Int) (S : ByteArray) (w : World) (h : Cur w c g len p len L) (he : Errs w E) :
    Calls Tryd.prog 35 #[.pointer (some ⟨c, 0, none⟩), .agg #[.int .i64 kind, .bool sec, .int .i64 cur, .int .i64 n, .int .i64 lo, .int .i64 hi, .string S]] w fun e w' => Stepped w E c g len p L e w' := by
  by_cases h12 : kind = 12
  · subst h12; exact step_u8 c g len p L sec cur n lo hi S w h he
  by_cases h13 : kind = 13
  · subst h13; exact step_u16 c g len p L sec cur n lo hi S w h he
  by_cases h14 : kind = 14
  · subst h14; exact step_u32 c g len p L sec cur n lo hi S w h he
  by_cases h15 : kind = 15
  · subst h15; exact step_flag c g len p L sec cur n lo hi S w h he
  by_cases h16 : kind = 16
  · subst h16; exact step_ranged c g len p L sec cur n lo hi S w h he
  by_cases h17 : kind = 17
  · subst h17; exact step_raw c g len p L sec cur n lo hi S w h he
  by_cases h18 : kind = 18
  · subst h18; exact step_text c g len p L sec cur n lo hi S w h he
  by_cases h19 : kind = 19
  · subst h19; exact step_next c g len p L sec cur n lo hi S w h he
  exact step_end c g len p L kind sec cur n lo hi S w h he h12 h13 h14 h15 h16 h17 h18 h19
end Go.Proofs.YtohoncgkekiihaaDoor
