/-
  What was put is found: bytes and numbers of changed pages.
-/
import Derived.Test.YtbekdbgnpcbklaaDoorPgPoke
namespace Go.Proofs.YtbekdbgnpcbklaaDoor
open Go.RowKit FerryCrc
set_option linter.unusedVariables false

theorem upd_byteAt {l : List Pg} (ok : Oks l) {P : Nat → Bool} {B : Nat → Nat} {D : Nat → Bool} {a : Nat} (ha : a / 64 < l.length) : byteAt (upd l P B D) a = if P a then B a else byteAt l a := by
  obtain ⟨p, hp⟩ : ∃ p, l[a / 64]? = some p := ⟨_, List.getElem?_eq_getElem ha⟩
  have o := ok p (List.mem_of_getElem? hp)
  have hu : (upd l P B D)[a / 64]? = some (p.upd (fun x => P (64 * (a / 64) + x)) (fun x => B (64 * (a / 64) + x)) (D (a / 64))) := by rw [upd_get, hp]; rfl
  rw [byteAt_some hu, byteAt_some hp]
  show (patch _ _ _).getD _ _ = _
  rw [List.getD_eq_getElem?_getD, List.getD_eq_getElem?_getD, patch_get, show 64 * (a / 64) + a % 64 = a by omega, List.getElem?_eq_getElem (by rw [o.size]; omega)]
  simp
theorem upd_bfault (l : List Pg) (P : Nat → Bool) (B : Nat → Nat) (D : Nat → Bool) (a k : Nat) : bfault (upd l P B D) a k = bfault l a k := by
  unfold bfault
  rw [upd_get]
  cases l[a / 64]? <;> rfl
theorem upd_nfault (l : List Pg) (P : Nat → Bool) (B : Nat → Nat) (D : Nat → Bool) (a s k : Nat) : nfault (upd l P B D) a s k = nfault l a s k := by
  unfold nfault
  rw [upd_bfault]
theorem upd_bflt (l : List Pg) (P : Nat → Bool) (B : Nat → Nat) (D : Nat → Bool) (a k : Nat) : bflt (upd l P B D) a k = bflt l a k := by
  unfold bflt
  rw [upd_bfault]
/-- All pages may be read. -/
def Open (L : List Pg) : Prop := ∀ (q : Nat) (P : Pg), L[q]? = some P → rbit P.rights 0 = true
theorem Open.read {L : List Pg} (h : Open L) {a k : Nat} (hb : bfault L a k = 0) : bfault L a 0 = 0 := by
  unfold bfault at hb ⊢
  cases hl : L[a / 64]? with
  | none => rw [hl] at hb; simp at hb
  | some p => simp [h _ p hl]
theorem Open.read' {L : List Pg} (h : Open L) {a k : Nat} (hb : bflt L a k = 0) : bflt L a 0 = 0 := by
  unfold bflt at hb ⊢
  split at hb
  · omega
  · rename_i hn
    rw [if_neg hn]
    exact h.read hb
/-- What was stored is loaded. -/
theorem stored_load {L : List Pg} (ok : Oks L) (ho : Open L) {n s v : Nat} (hz : Sized s) (h0 : nfault L n s 1 = 0) (hv : v < 4294967296) : nfault (stored L n s v) n s 0 = 0 ∧ ldv (stored L n s v) n s 0 = v % 256 ^ s := by
  obtain ⟨ha, p, hp, _⟩ := nfault_zero h0
  have hq : n / 64 < L.length := (List.getElem?_eq_some_iff.1 hp).1
  have hr : nfault (stored L n s v) n s 0 = 0 := by
    unfold stored
    rw [upd_nfault, nfault_byte ha]
    refine ho.read (k := 1) ?_
    rw [← nfault_byte ha]
    exact h0
  refine ⟨hr, ?_⟩
  have hf := fits hz ha
  rw [ldv_zero hr, nbytes_rdB (stored_ok ok n s v) (by rw [stored_len]; exact hq) hf]
  have hb : ∀ i, i < s → byteAt (stored L n s v) (n + i) = v / 256 ^ (s - 1 - i) % 256 := fun i hi => by
    unfold stored
    rw [upd_byteAt ok (by omega)]
    have : inR n s (n + i) = true := by simp only [inR, decide_eq_true_eq]; omega
    rw [this, if_pos rfl, byt_down (v := v) (s := s) (n := n) hi]
  rcases hz with rfl | rfl | rfl
  · simp only [rdB, num, List.range_succ, List.range_zero, List.nil_append, List.map_cons, List.map_nil, List.foldl_cons, List.foldl_nil, hb 0 (by decide)]
    simp
  · have h0 := hb 0 (by decide)
    have h1 := hb 1 (by decide)
    simp only [rdB, num, List.range_succ, List.range_zero, List.nil_append, List.cons_append, List.map_cons, List.map_nil, List.foldl_cons, List.foldl_nil, h0, h1]
    simp
    omega
  · have h0 := hb 0 (by decide)
    have h1 := hb 1 (by decide)
    have h2 := hb 2 (by decide)
    have h3 := hb 3 (by decide)
    simp only [rdB, num, List.range_succ, List.range_zero, List.nil_append, List.cons_append, List.map_cons, List.map_nil, List.foldl_cons, List.foldl_nil, h0, h1, h2, h3]
    simp
    omega
theorem stored_tch {L : List Pg} (ok : Oks L) {n s v : Nat} (hz : Sized s) (ha : n % s = 0) : stored L n s v = upd L (inR n s) (byt v s n) (tch n s) := by
  have hf := fits hz ha
  have hs : 0 < s := by rcases hz with rfl | rfl | rfl <;> decide
  refine upd_congr ok (fun a _ => ⟨rfl, fun _ => rfl⟩) (fun q _ => ?_)
  rw [Bool.eq_iff_iff]
  simp only [isQ, beq_iff_eq, tch, decide_eq_true_eq]
  omega
/-- What was put is read. -/
theorem put_read {L : List Pg} (ok : Oks L) {n : Nat} {D : List Nat} (hz : ∀ i, i < D.length → bflt L (n + i) 1 = 0) : rdB (put_in L n D) n D.length = D := by
  refine List.ext_getElem? fun i => ?_
  by_cases hi : i < D.length
  · simp only [rdB, List.getElem?_map, List.getElem?_range hi, Option.map_some]
    unfold put_in
    rw [upd_byteAt ok (bflt_zero (hz i hi)).2]
    have : inR n D.length (n + i) = true := by simp only [inR, decide_eq_true_eq]; omega
    rw [this, if_pos rfl]
    unfold datB
    rw [show n + i - n = i by omega, List.getD_eq_getElem?_getD, List.getElem?_eq_getElem hi]
    rfl
  · rw [List.getElem?_eq_none (by rw [rdB_len]; omega), List.getElem?_eq_none (by omega)]
theorem put_rf {L : List Pg} (ho : Open L) {n : Nat} {D : List Nat} {f : Nat} (hz : ∀ i, i < D.length → bflt L (n + i) 1 = 0) (hr : RF (fun a => bflt (put_in L n D) a 0) n D.length f) : f = 0 := by
  rcases hr with ⟨h, _⟩ | ⟨i, hi, _, h, hne⟩
  · exact h
  · have := ho.read' (hz i hi)
    simp only [put_in, upd_bflt] at h
    rw [this] at h
    exact h
theorem open_list (l : List Pg) : Open (l.map Pg.open) := fun q P h => by
  rw [List.getElem?_map] at h
  cases hl : l[q]? with
  | none => rw [hl] at h; simp at h
  | some p =>
    rw [hl] at h
    simp only [Option.map_some, Option.some.injEq] at h
    rw [← h]
    unfold rbit Pg.open
    simp
theorem mask1 (v : Nat) (h : v < 4294967296) : bits .and .u32 (v : Int) 255 = ((v % 256 : Nat) : Int) := by
  have := u32_and_nat v 255 h (by decide)
  rw [nat_mask8] at this
  exact this
theorem mask2 (v : Nat) (h : v < 4294967296) : bits .and .u32 (v : Int) 65535 = ((v % 65536 : Nat) : Int) := by
  have := u32_and_nat v 65535 h (by decide)
  rw [show v &&& 65535 = v % 65536 from Nat.and_two_pow_sub_one_eq_mod v 16] at this
  exact this
theorem mask4 (v : Nat) (h : v < 4294967296) : bits .and .u32 (v : Int) 4294967295 = ((v % 4294967296 : Nat) : Int) := by
  have := u32_and_nat v 4294967295 h (by decide)
  rw [show v &&& 4294967295 = v % 4294967296 from Nat.and_two_pow_sub_one_eq_mod v 32] at this
  exact this
end Go.Proofs.YtbekdbgnpcbklaaDoor
