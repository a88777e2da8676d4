/-
  The law's cursors of both sides, all of them: each apart from the others and from the lists.
  The law's number: a call that answers a number, on both sides.
-/
import Derived.Test.YtkkogkdalcigkaaDoorRdBoth
import Derived.Test.YtkkogkdalcigkaaDoorWOpen1
namespace Go.Proofs.YtkkogkdalcigkaaDoor
open Go.RowKit FerryCrc
set_option linter.unusedVariables false
set_option linter.unusedSimpArgs false

/-- A pair of cursors: the program's in c over the bytes in g, the document's in d over the bytes in h. -/
structure RI where
  c : Nat
  g : Nat
  len : Nat
  p : Nat
  bd : Nat
  L : List Nat
  d : Nat
  h : Nat
  cap : Nat
def RI.at (x : RI) (k : Nat) : Prop := k = x.c ∨ k = x.d ∨ k = x.g ∨ k = x.h
def RI.to (x : RI) (q : Nat) : RI := ⟨x.c, x.g, x.len, q, x.bd, x.L, x.d, x.h, x.cap⟩
structure RI.Is (x : RI) (w : World) : Prop where
  cur : Cur w x.c x.g x.len x.p x.bd x.L
  doc : Doc w x.d x.h x.len x.cap x.p x.bd x.L
  sm : x.len ≤ 140737488351232
theorem RI.Is.below {x : RI} {w w' : World} (h : x.Is w) (hb : Below w.heap.size w w') : x.Is w' := ⟨h.cur.below hb, h.doc.below hb, h.sm⟩
structure Rd (w : World) (B : Nat) (v1 v2 : Value) (xs : List RI) : Prop where
  csr : Csr w B v1 v2 (xs.map RI.c) (xs.map RI.d)
  is : ∀ (i : Nat) x, xs[i]? = some x → x.Is w
  far : ∀ (i : Nat) x k, xs[i]? = some x → x.at k → B < k ∧ k < w.heap.size ∧ v1.ownBlock ≠ some k ∧ v2.ownBlock ≠ some k
  own : ∀ (i : Nat) x, xs[i]? = some x → x.c ≠ x.d
  sep : ∀ (i j : Nat) x y, xs[i]? = some x → xs[j]? = some y → i ≠ j → x.c ≠ y.c ∧ x.c ≠ y.d ∧ x.d ≠ y.c ∧ x.d ≠ y.d
  still : ∀ (i j : Nat) x y, xs[i]? = some x → xs[j]? = some y → x.g ≠ y.c ∧ x.g ≠ y.d ∧ x.h ≠ y.c ∧ x.h ≠ y.d
theorem Rd.below {w w' : World} {B : Nat} {v1 v2 : Value} {xs : List RI} (h : Rd w B v1 v2 xs) (hb : Below w.heap.size w w') : Rd w' B v1 v2 xs :=
  ⟨h.csr.frmB hb, fun i x hx => (h.is i x hx).below hb, fun i x k hx hk => by obtain ⟨a, b, c, d⟩ := h.far i x k hx hk; exact ⟨a, Nat.lt_of_lt_of_le b hb.size, c, d⟩, h.own, h.sep, h.still⟩

theorem Rd.step {w w' : World} {B : Nat} {v1 v2 : Value} {xs : List RI} (h : Rd w B v1 v2 xs) {i : Nat} {x : RI} (hx : xs[i]? = some x) {q : Nat} (hf : Frm (fun k => k = x.c ∨ k = x.d) w w') (hk : (x.to q).Is w') : Rd w' B v1 v2 (xs.set i (x.to q)) := by
  have hi : i < xs.length := (List.getElem?_eq_some_iff.1 hx).1
  have get : ∀ (j : Nat) y, (xs.set i (x.to q))[j]? = some y → (j = i ∧ y = x.to q) ∨ (j ≠ i ∧ xs[j]? = some y) := fun j y hy => by
    by_cases e : j = i
    · subst e
      rw [List.getElem?_set_self hi] at hy
      exact .inl ⟨rfl, (Option.some.inj hy).symm⟩
    · rw [List.getElem?_set_ne (fun h => e h.symm)] at hy
      exact .inr ⟨e, hy⟩
  have old : ∀ (j : Nat) y, (xs.set i (x.to q))[j]? = some y → ∃ z, xs[j]? = some z ∧ z.c = y.c ∧ z.g = y.g ∧ z.d = y.d ∧ z.h = y.h := fun j y hy => by
    rcases get j y hy with ⟨rfl, rfl⟩ | ⟨_, h2⟩
    · exact ⟨x, hx, rfl, rfl, rfl, rfl⟩
    · exact ⟨y, h2, rfl, rfl, rfl, rfl⟩
  have hmap : ∀ (f : RI → Nat), f (x.to q) = f x → (xs.set i (x.to q)).map f = xs.map f := by
    intro f hfx
    apply List.ext_getElem?
    intro j
    rw [List.getElem?_map, List.getElem?_map]
    by_cases e : j = i
    · subst e
      rw [List.getElem?_set_self hi, hx]
      simp [hfx]
    · rw [List.getElem?_set_ne (fun h => e h.symm)]
  have fc := h.far i x x.c hx (.inl rfl)
  have fd := h.far i x x.d hx (.inr (.inl rfl))
  refine ⟨?_, ?_, ?_, ?_, ?_, ?_⟩
  · rw [hmap RI.c rfl, hmap RI.d rfl]
    refine ⟨h.csr.two.frm hf (by rintro (e | e) <;> omega), row_frm h.csr.r1 hf (fun k hk e => ?_), row_frm h.csr.r2 hf (fun k hk e => ?_), h.csr.ne⟩
    · rcases e with e | e
      · exact fc.2.2.1 (by rw [← e]; exact hk)
      · exact fd.2.2.1 (by rw [← e]; exact hk)
    · rcases e with e | e
      · exact fc.2.2.2 (by rw [← e]; exact hk)
      · exact fd.2.2.2 (by rw [← e]; exact hk)
  · intro j y hy
    rcases get j y hy with ⟨rfl, rfl⟩ | ⟨hne, h2⟩
    · exact hk
    · obtain ⟨s1, s2, s3, s4⟩ := h.sep j i y x h2 hx hne
      obtain ⟨g1, g2, g3, g4⟩ := h.still j i y x h2 hx
      exact ⟨(h.is j y h2).cur.frm hf (by rintro (e | e); exact s1 e; exact s2 e) (by rintro (e | e); exact g1 e; exact g2 e), (h.is j y h2).doc.frm hf (by rintro (e | e); exact s3 e; exact s4 e) (by rintro (e | e); exact g3 e; exact g4 e), (h.is j y h2).sm⟩
  · intro j y k hy hk'
    obtain ⟨z, hz, e1, e2, e3, e4⟩ := old j y hy
    have hz' : z.at k := by unfold RI.at at *; rw [e1, e2, e3, e4]; exact hk'
    obtain ⟨a, b, c, d⟩ := h.far j z k hz hz'
    exact ⟨a, Nat.lt_of_lt_of_le b hf.size, c, d⟩
  · intro j y hy
    obtain ⟨z, hz, e1, e2, e3, e4⟩ := old j y hy
    have := h.own j z hz
    rw [e1, e3] at this
    exact this
  · intro j k y z hy hz hne
    obtain ⟨y', hy', e1, e2, e3, e4⟩ := old j y hy
    obtain ⟨z', hz', f1, f2, f3, f4⟩ := old k z hz
    have := h.sep j k y' z' hy' hz' hne
    rw [e1, e3, f1, f3] at this
    exact this
  · intro j k y z hy hz
    obtain ⟨y', hy', e1, e2, e3, e4⟩ := old j y hy
    obtain ⟨z', hz', f1, f2, f3, f4⟩ := old k z hz
    have := h.still j k y' z' hy' hz'
    rw [e2, e4, f1, f3] at this
    exact this

theorem get_snoc {xs : List RI} {x y : RI} {j : Nat} (hy : (xs ++ [x])[j]? = some y) : (j = xs.length ∧ y = x) ∨ (j < xs.length ∧ xs[j]? = some y) := by
  by_cases e : j < xs.length
  · rw [List.getElem?_append_left e] at hy
    exact .inr ⟨e, hy⟩
  · rw [List.getElem?_append_right (by omega)] at hy
    have hj : j - xs.length = 0 := by
      have := (List.getElem?_eq_some_iff.1 hy).1
      simp at this
      omega
    rw [hj] at hy
    exact .inl ⟨by omega, (Option.some.inj hy).symm⟩

theorem Rd.more {w w' : World} {B : Nat} {v1 v2 v1' v2' : Value} {xs : List RI} {x : RI} (h : Rd w B v1 v2 xs) (hc : Csr w' B v1' v2' (xs.map RI.c ++ [x.c]) (xs.map RI.d ++ [x.d])) (hk : x.Is w')
    (hfar : ∀ k, x.at k → B < k ∧ k < w'.heap.size ∧ v1'.ownBlock ≠ some k ∧ v2'.ownBlock ≠ some k) (hown : x.c ≠ x.d)
    (hsep : ∀ (i : Nat) y, xs[i]? = some y → x.c ≠ y.c ∧ x.c ≠ y.d ∧ x.d ≠ y.c ∧ x.d ≠ y.d)
    (hst : ∀ (i : Nat) y, xs[i]? = some y → x.g ≠ y.c ∧ x.g ≠ y.d ∧ x.h ≠ y.c ∧ x.h ≠ y.d)
    (hst' : ∀ (i : Nat) y, xs[i]? = some y → y.g ≠ x.c ∧ y.g ≠ x.d ∧ y.h ≠ x.c ∧ y.h ≠ x.d) (hst0 : x.g ≠ x.c ∧ x.g ≠ x.d ∧ x.h ≠ x.c ∧ x.h ≠ x.d)
    (hf : Frm (fun k => k = B ∨ v1.ownBlock = some k ∨ v2.ownBlock = some k) w w') (n1 : ∀ k, v1'.ownBlock = some k → v1.ownBlock = some k ∨ w.heap.size ≤ k) (n2 : ∀ k, v2'.ownBlock = some k → v2.ownBlock = some k ∨ w.heap.size ≤ k) :
    Rd w' B v1' v2' (xs ++ [x]) := by
  have hno : ∀ (i : Nat) y k, xs[i]? = some y → y.at k → ¬ (k = B ∨ v1.ownBlock = some k ∨ v2.ownBlock = some k) := fun i y k hy hk' e => by
    obtain ⟨a, b, c, d⟩ := h.far i y k hy hk'
    rcases e with e | e | e
    · omega
    · exact c e
    · exact d e
  refine ⟨by rw [List.map_append, List.map_append]; exact hc, ?_, ?_, ?_, ?_, ?_⟩
  · intro j y hy
    rcases get_snoc hy with ⟨_, rfl⟩ | ⟨_, h2⟩
    · exact hk
    · exact ⟨(h.is j y h2).cur.frm hf (hno j y _ h2 (.inl rfl)) (hno j y _ h2 (.inr (.inr (.inl rfl)))), (h.is j y h2).doc.frm hf (hno j y _ h2 (.inr (.inl rfl))) (hno j y _ h2 (.inr (.inr (.inr rfl)))), (h.is j y h2).sm⟩
  · intro j y k hy hk'
    rcases get_snoc hy with ⟨_, rfl⟩ | ⟨_, h2⟩
    · exact hfar k hk'
    · obtain ⟨a, b, c, d⟩ := h.far j y k h2 hk'
      refine ⟨a, Nat.lt_of_lt_of_le b hf.size, fun e => ?_, fun e => ?_⟩
      · rcases n1 k e with e | e
        · exact c e
        · omega
      · rcases n2 k e with e | e
        · exact d e
        · omega
  · intro j y hy
    rcases get_snoc hy with ⟨_, rfl⟩ | ⟨_, h2⟩
    · exact hown
    · exact h.own j y h2
  · intro j k y z hy hz hne
    rcases get_snoc hy with ⟨e1, rfl⟩ | ⟨e1, h2⟩ <;> rcases get_snoc hz with ⟨e2, rfl⟩ | ⟨e2, h3⟩
    · omega
    · exact hsep k z h3
    · obtain ⟨a, b, c, d⟩ := hsep j y h2
      exact ⟨fun e => a e.symm, fun e => c e.symm, fun e => b e.symm, fun e => d e.symm⟩
    · exact h.sep j k y z h2 h3 hne
  · intro j k y z hy hz
    rcases get_snoc hy with ⟨e1, rfl⟩ | ⟨e1, h2⟩ <;> rcases get_snoc hz with ⟨e2, rfl⟩ | ⟨e2, h3⟩
    · exact hst0
    · exact hst k z h3
    · exact hst' j y h2
    · exact h.still j k y z h2 h3
end Go.Proofs.YtkkogkdalcigkaaDoor
namespace Go.Proofs.YtkkogkdalcigkaaDoor
open Go.RowKit FerryCrc
set_option linter.unusedVariables false
set_option linter.unusedSimpArgs false

/-- What a call on a pair of cursors of the law leaves. -/
def Moved (w : World) (c g len bd : Nat) (L : List Nat) (d h cap : Nat) (e : Ending) (w' : World) : Prop :=
  e = .returned (.bool true) ∧ ∃ q, Cur w' c g len q bd L ∧ Doc w' d h len cap q bd L ∧ Frm (fun k => k = c ∨ k = d) w w'

set_option maxRecDepth 100000 in
set_option maxHeartbeats 1600000 in
theorem number_u8 {E : Nat → Addr} (w0 : World) (c g len p bd : Nat) (L : List Nat) (d h cap : Nat) (sec : Bool) (cur n lo hi : Int) (S : ByteArray) (w : World) (hk : Cur w c g len p bd L) (hd : Doc w d h len cap p bd L) (he : Errs w0 E) (hb0 : Below w0.heap.size w0 w) (hc0 : w0.heap.size ≤ c) (hd0 : w0.heap.size ≤ d) (hcd : c ≠ d) (hgd : g ≠ d) (hhc : h ≠ c)  :
    Calls Tryd.prog 80 #[.pointer (some ⟨c, 0, none⟩), .pointer (some ⟨d, 0, none⟩), .agg #[.int .i64 12, .bool sec, .int .i64 cur, .int .i64 n, .int .i64 lo, .int .i64 hi, .string S]] w fun e w' => Moved w c g len bd L d h cap e w' := by
  have HEW : Hid (∀ W, Frm (fun k => k = c ∨ k = d) w W → Errs W E) := fun W hf => he.below (hb0.trans (hf.below hb0.size (fun k e => by rcases e with e | e <;> omega)))
  have HK := hide hk
  have HD := hide hd
  have hcl : c < w.heap.size := hk.lt
  have hdl : d < w.heap.size := hd.lt
  have hhl : h < w.heap.size := hd.ne.2
  have HA : Hid (Below w.heap.size w (w.alloc (.cells #[.int .i64 12, .bool sec, .int .i64 cur, .int .i64 n, .int .i64 lo, .int .i64 hi, .string S] 30))) := (Below.refl _ _).alloc (Nat.le_refl _) _
  obtain ⟨v, k, q, p', hq1, hq2, hpc, hdc⟩ := both_num E L len p bd 1 45 hk.bts.small hk.le (by decide) 255 (by decide) (fun c g w h he => cU8_any c g len p bd L w h he.three)
  have HPC := hide hpc
  have HDC := hide hdc
  clear hpc hdc
  have z0 : (w.alloc (.cells #[.int .i64 12, .bool sec, .int .i64 cur, .int .i64 n, .int .i64 lo, .int .i64 hi, .string S] 30)).cell? ⟨w.heap.size, 0, none⟩ = some (.int .i64 12) := (World.cell?_alloc_at _ _ _ _ rfl).trans rfl
  have z3 : (w.alloc (.cells #[.int .i64 12, .bool sec, .int .i64 cur, .int .i64 n, .int .i64 lo, .int .i64 hi, .string S] 30)).cell? ⟨w.heap.size, 3, none⟩ = some (.int .i64 n) := (World.cell?_alloc_at _ _ _ _ rfl).trans rfl
  have z4 : (w.alloc (.cells #[.int .i64 12, .bool sec, .int .i64 cur, .int .i64 n, .int .i64 lo, .int .i64 hi, .string S] 30)).cell? ⟨w.heap.size, 4, none⟩ = some (.int .i64 lo) := (World.cell?_alloc_at _ _ _ _ rfl).trans rfl
  have z5 : (w.alloc (.cells #[.int .i64 12, .bool sec, .int .i64 cur, .int .i64 n, .int .i64 lo, .int .i64 hi, .string S] 30)).cell? ⟨w.heap.size, 5, none⟩ = some (.int .i64 hi) := (World.cell?_alloc_at _ _ _ _ rfl).trans rfl
  have HZ1 : Hid (w.heap.size < (w.alloc (.cells #[.int .i64 12, .bool sec, .int .i64 cur, .int .i64 n, .int .i64 lo, .int .i64 hi, .string S] 30)).heap.size) := by unfold Hid; simp
  clear hk hd he
  go_enter Tryd.func80, Tryd.ntmps80
  go_wp2_with fail
  generalize (w.alloc (.cells #[.int .i64 12, .bool sec, .int .i64 cur, .int .i64 n, .int .i64 lo, .int .i64 hi, .string S] 30)) = W0 at *
  refine Calls.mono (rnone_any W0) ?_
  rintro e w1 ⟨rfl, hb1⟩
  have HB1 := hide (chain HA.out hb1)
  have HZ2 : Hid (w.heap.size < w1.heap.size) := Nat.lt_of_lt_of_le HZ1.out hb1.size
  have y0 := cell_below z0 hb1
  have y3 := cell_below z3 hb1
  have y4 := cell_below z4 hb1
  have y5 := cell_below z5 hb1
  clear hb1 z0 z3 z4 z5
  have HB2 : Hid (Below w1.heap.size w1 (w1.alloc (.cells #[.int .i64 0, .int .i64 (-1)] 67))) := (Below.refl _ _).alloc (Nat.le_refl _) _
  have HT2 := hide (two_alloc w1 (.int .i64 0) (.int .i64 (-1)) 67)
  have HB3 := hide (chain HB1.out HB2.out)
  have u0 := cell_below y0 HB2.out
  have u3 := cell_below y3 HB2.out
  have u4 := cell_below y4 HB2.out
  have u5 := cell_below y5 HB2.out
  clear y0 y3 y4 y5
  unfold rerr
  go_wp2_with fail
  generalize w1.alloc (.cells #[.int .i64 0, .int .i64 (-1)] 67) = W2 at *
  refine Calls.mono (HDC.out d h cap W2 (HD.out.below HB3.out)) ?_
  rintro e w3 ⟨rfl, h1, h2⟩
  have HF3 := hide ((Frm.ofBelow (S := fun j => j = d) HB3.out).trans h2 (fun j _ t => t))
  have HT3 := hide (HT2.out.frm h2 (by show ¬ w1.heap.size = d; have := HZ2.out; omega))
  have H3 := hide h1
  have y3 := h2.cell u3 (by show ¬ w.heap.size = d; omega)
  have y4 := h2.cell u4 (by show ¬ w.heap.size = d; omega)
  have y5 := h2.cell u5 (by show ¬ w.heap.size = d; omega)
  have t0 := HT3.out.c0
  have t1 := HT3.out.c1
  have f0 := HT3.out.f0
  have f1 := HT3.out.f1
  clear h1 h2 u0 u3 u4 u5
  unfold rerr
  go_wp2_with fail
  have HT4 := hide (HT3.out.set (.int .i64 (k : Int)) (.int .i64 q))
  have HF4 := hide (frm_two (u := .int .i64 (k : Int)) (v := .int .i64 q) HF3.out (b := w1.heap.size) (by have := HZ2.out; omega))
  have HD4 := hide (H3.out.two (b := w1.heap.size) (u := .int .i64 (k : Int)) (v := .int .i64 q) (by have := HZ2.out; omega) (by have := HZ2.out; omega))
  clear t0 t1 f0 f1 y3 y4 y5
  generalize (w3.setCell ⟨w1.heap.size, 0, none⟩ (.int .i64 (k : Int))).setCell ⟨w1.heap.size, 1, none⟩ (.int .i64 q) = W4 at *
  have HK4 := hide (HK.out.frm HF4.out hcd hgd)
  have HF4' := hide (HF4.out.mono (T := fun j => j = c ∨ j = d) (fun j _ t => Or.inr t))
  refine Calls.mono (HPC.out c g W4 HK4.out (HEW.out W4 HF4'.out)) ?_
  rintro e w5 ⟨ev, rfl, h1, h2, h3⟩
  have HI5 := hide h1
  have HK5 := hide h2
  have HD5 := hide (HD4.out.frm h3 (fun e => hcd e.symm) hhc)
  have HF5 := hide (HF4'.out.trans h3 (fun j _ t => Or.inl t))
  have HT5 := hide (HT4.out.frm h3 (by show ¬ w1.heap.size = c; have := HZ2.out; omega))
  have t0 := HT5.out.c0
  have t1 := HT5.out.c1
  clear h1 h2 h3
  go_wp2_with fail
  refine Calls.mono (same_yes ev k q w5 (HEW.out w5 HF5.out) HI5.out) ?_
  rintro e w6 ⟨rfl, hb6⟩
  have HB6 := hide hb6
  clear hb6
  go_wp2
  go_ret
  exact ⟨rfl, p', HK5.out.below HB6.out, HD5.out.below HB6.out, HF5.out.trans (Frm.ofBelow (S := fun _ => False) HB6.out) (fun j _ t => t.elim)⟩

set_option maxRecDepth 100000 in
set_option maxHeartbeats 1600000 in
theorem number_u16 {E : Nat → Addr} (w0 : World) (c g len p bd : Nat) (L : List Nat) (d h cap : Nat) (sec : Bool) (cur n lo hi : Int) (S : ByteArray) (w : World) (hk : Cur w c g len p bd L) (hd : Doc w d h len cap p bd L) (he : Errs w0 E) (hb0 : Below w0.heap.size w0 w) (hc0 : w0.heap.size ≤ c) (hd0 : w0.heap.size ≤ d) (hcd : c ≠ d) (hgd : g ≠ d) (hhc : h ≠ c)  :
    Calls Tryd.prog 80 #[.pointer (some ⟨c, 0, none⟩), .pointer (some ⟨d, 0, none⟩), .agg #[.int .i64 13, .bool sec, .int .i64 cur, .int .i64 n, .int .i64 lo, .int .i64 hi, .string S]] w fun e w' => Moved w c g len bd L d h cap e w' := by
  have HEW : Hid (∀ W, Frm (fun k => k = c ∨ k = d) w W → Errs W E) := fun W hf => he.below (hb0.trans (hf.below hb0.size (fun k e => by rcases e with e | e <;> omega)))
  have HK := hide hk
  have HD := hide hd
  have hcl : c < w.heap.size := hk.lt
  have hdl : d < w.heap.size := hd.lt
  have hhl : h < w.heap.size := hd.ne.2
  have HA : Hid (Below w.heap.size w (w.alloc (.cells #[.int .i64 13, .bool sec, .int .i64 cur, .int .i64 n, .int .i64 lo, .int .i64 hi, .string S] 30))) := (Below.refl _ _).alloc (Nat.le_refl _) _
  obtain ⟨v, k, q, p', hq1, hq2, hpc, hdc⟩ := both_num E L len p bd 2 47 hk.bts.small hk.le (by decide) 65535 (by decide) (fun c g w h he => cU16_any c g len p bd L w h he.three)
  have HPC := hide hpc
  have HDC := hide hdc
  clear hpc hdc
  have z0 : (w.alloc (.cells #[.int .i64 13, .bool sec, .int .i64 cur, .int .i64 n, .int .i64 lo, .int .i64 hi, .string S] 30)).cell? ⟨w.heap.size, 0, none⟩ = some (.int .i64 13) := (World.cell?_alloc_at _ _ _ _ rfl).trans rfl
  have z3 : (w.alloc (.cells #[.int .i64 13, .bool sec, .int .i64 cur, .int .i64 n, .int .i64 lo, .int .i64 hi, .string S] 30)).cell? ⟨w.heap.size, 3, none⟩ = some (.int .i64 n) := (World.cell?_alloc_at _ _ _ _ rfl).trans rfl
  have z4 : (w.alloc (.cells #[.int .i64 13, .bool sec, .int .i64 cur, .int .i64 n, .int .i64 lo, .int .i64 hi, .string S] 30)).cell? ⟨w.heap.size, 4, none⟩ = some (.int .i64 lo) := (World.cell?_alloc_at _ _ _ _ rfl).trans rfl
  have z5 : (w.alloc (.cells #[.int .i64 13, .bool sec, .int .i64 cur, .int .i64 n, .int .i64 lo, .int .i64 hi, .string S] 30)).cell? ⟨w.heap.size, 5, none⟩ = some (.int .i64 hi) := (World.cell?_alloc_at _ _ _ _ rfl).trans rfl
  have HZ1 : Hid (w.heap.size < (w.alloc (.cells #[.int .i64 13, .bool sec, .int .i64 cur, .int .i64 n, .int .i64 lo, .int .i64 hi, .string S] 30)).heap.size) := by unfold Hid; simp
  clear hk hd he
  go_enter Tryd.func80, Tryd.ntmps80
  go_wp2_with fail
  generalize (w.alloc (.cells #[.int .i64 13, .bool sec, .int .i64 cur, .int .i64 n, .int .i64 lo, .int .i64 hi, .string S] 30)) = W0 at *
  refine Calls.mono (rnone_any W0) ?_
  rintro e w1 ⟨rfl, hb1⟩
  have HB1 := hide (chain HA.out hb1)
  have HZ2 : Hid (w.heap.size < w1.heap.size) := Nat.lt_of_lt_of_le HZ1.out hb1.size
  have y0 := cell_below z0 hb1
  have y3 := cell_below z3 hb1
  have y4 := cell_below z4 hb1
  have y5 := cell_below z5 hb1
  clear hb1 z0 z3 z4 z5
  have HB2 : Hid (Below w1.heap.size w1 (w1.alloc (.cells #[.int .i64 0, .int .i64 (-1)] 67))) := (Below.refl _ _).alloc (Nat.le_refl _) _
  have HT2 := hide (two_alloc w1 (.int .i64 0) (.int .i64 (-1)) 67)
  have HB3 := hide (chain HB1.out HB2.out)
  have u0 := cell_below y0 HB2.out
  have u3 := cell_below y3 HB2.out
  have u4 := cell_below y4 HB2.out
  have u5 := cell_below y5 HB2.out
  clear y0 y3 y4 y5
  unfold rerr
  go_wp2_with fail
  generalize w1.alloc (.cells #[.int .i64 0, .int .i64 (-1)] 67) = W2 at *
  refine Calls.mono (HDC.out d h cap W2 (HD.out.below HB3.out)) ?_
  rintro e w3 ⟨rfl, h1, h2⟩
  have HF3 := hide ((Frm.ofBelow (S := fun j => j = d) HB3.out).trans h2 (fun j _ t => t))
  have HT3 := hide (HT2.out.frm h2 (by show ¬ w1.heap.size = d; have := HZ2.out; omega))
  have H3 := hide h1
  have y3 := h2.cell u3 (by show ¬ w.heap.size = d; omega)
  have y4 := h2.cell u4 (by show ¬ w.heap.size = d; omega)
  have y5 := h2.cell u5 (by show ¬ w.heap.size = d; omega)
  have t0 := HT3.out.c0
  have t1 := HT3.out.c1
  have f0 := HT3.out.f0
  have f1 := HT3.out.f1
  clear h1 h2 u0 u3 u4 u5
  unfold rerr
  go_wp2_with fail
  have HT4 := hide (HT3.out.set (.int .i64 (k : Int)) (.int .i64 q))
  have HF4 := hide (frm_two (u := .int .i64 (k : Int)) (v := .int .i64 q) HF3.out (b := w1.heap.size) (by have := HZ2.out; omega))
  have HD4 := hide (H3.out.two (b := w1.heap.size) (u := .int .i64 (k : Int)) (v := .int .i64 q) (by have := HZ2.out; omega) (by have := HZ2.out; omega))
  clear t0 t1 f0 f1 y3 y4 y5
  generalize (w3.setCell ⟨w1.heap.size, 0, none⟩ (.int .i64 (k : Int))).setCell ⟨w1.heap.size, 1, none⟩ (.int .i64 q) = W4 at *
  have HK4 := hide (HK.out.frm HF4.out hcd hgd)
  have HF4' := hide (HF4.out.mono (T := fun j => j = c ∨ j = d) (fun j _ t => Or.inr t))
  refine Calls.mono (HPC.out c g W4 HK4.out (HEW.out W4 HF4'.out)) ?_
  rintro e w5 ⟨ev, rfl, h1, h2, h3⟩
  have HI5 := hide h1
  have HK5 := hide h2
  have HD5 := hide (HD4.out.frm h3 (fun e => hcd e.symm) hhc)
  have HF5 := hide (HF4'.out.trans h3 (fun j _ t => Or.inl t))
  have HT5 := hide (HT4.out.frm h3 (by show ¬ w1.heap.size = c; have := HZ2.out; omega))
  have t0 := HT5.out.c0
  have t1 := HT5.out.c1
  clear h1 h2 h3
  go_wp2_with fail
  refine Calls.mono (same_yes ev k q w5 (HEW.out w5 HF5.out) HI5.out) ?_
  rintro e w6 ⟨rfl, hb6⟩
  have HB6 := hide hb6
  clear hb6
  go_wp2
  go_ret
  exact ⟨rfl, p', HK5.out.below HB6.out, HD5.out.below HB6.out, HF5.out.trans (Frm.ofBelow (S := fun _ => False) HB6.out) (fun j _ t => t.elim)⟩

set_option maxRecDepth 100000 in
set_option maxHeartbeats 1600000 in
theorem number_u32 {E : Nat → Addr} (w0 : World) (c g len p bd : Nat) (L : List Nat) (d h cap : Nat) (sec : Bool) (cur n lo hi : Int) (S : ByteArray) (w : World) (hk : Cur w c g len p bd L) (hd : Doc w d h len cap p bd L) (he : Errs w0 E) (hb0 : Below w0.heap.size w0 w) (hc0 : w0.heap.size ≤ c) (hd0 : w0.heap.size ≤ d) (hcd : c ≠ d) (hgd : g ≠ d) (hhc : h ≠ c)  :
    Calls Tryd.prog 80 #[.pointer (some ⟨c, 0, none⟩), .pointer (some ⟨d, 0, none⟩), .agg #[.int .i64 14, .bool sec, .int .i64 cur, .int .i64 n, .int .i64 lo, .int .i64 hi, .string S]] w fun e w' => Moved w c g len bd L d h cap e w' := by
  have HEW : Hid (∀ W, Frm (fun k => k = c ∨ k = d) w W → Errs W E) := fun W hf => he.below (hb0.trans (hf.below hb0.size (fun k e => by rcases e with e | e <;> omega)))
  have HK := hide hk
  have HD := hide hd
  have hcl : c < w.heap.size := hk.lt
  have hdl : d < w.heap.size := hd.lt
  have hhl : h < w.heap.size := hd.ne.2
  have HA : Hid (Below w.heap.size w (w.alloc (.cells #[.int .i64 14, .bool sec, .int .i64 cur, .int .i64 n, .int .i64 lo, .int .i64 hi, .string S] 30))) := (Below.refl _ _).alloc (Nat.le_refl _) _
  obtain ⟨v, k, q, p', hq1, hq2, hpc, hdc⟩ := both_num E L len p bd 4 48 hk.bts.small hk.le (by decide) 4294967295 (by decide) (fun c g w h he => cU32_any c g len p bd L w h he.three)
  have HPC := hide hpc
  have HDC := hide hdc
  clear hpc hdc
  have z0 : (w.alloc (.cells #[.int .i64 14, .bool sec, .int .i64 cur, .int .i64 n, .int .i64 lo, .int .i64 hi, .string S] 30)).cell? ⟨w.heap.size, 0, none⟩ = some (.int .i64 14) := (World.cell?_alloc_at _ _ _ _ rfl).trans rfl
  have z3 : (w.alloc (.cells #[.int .i64 14, .bool sec, .int .i64 cur, .int .i64 n, .int .i64 lo, .int .i64 hi, .string S] 30)).cell? ⟨w.heap.size, 3, none⟩ = some (.int .i64 n) := (World.cell?_alloc_at _ _ _ _ rfl).trans rfl
  have z4 : (w.alloc (.cells #[.int .i64 14, .bool sec, .int .i64 cur, .int .i64 n, .int .i64 lo, .int .i64 hi, .string S] 30)).cell? ⟨w.heap.size, 4, none⟩ = some (.int .i64 lo) := (World.cell?_alloc_at _ _ _ _ rfl).trans rfl
  have z5 : (w.alloc (.cells #[.int .i64 14, .bool sec, .int .i64 cur, .int .i64 n, .int .i64 lo, .int .i64 hi, .string S] 30)).cell? ⟨w.heap.size, 5, none⟩ = some (.int .i64 hi) := (World.cell?_alloc_at _ _ _ _ rfl).trans rfl
  have HZ1 : Hid (w.heap.size < (w.alloc (.cells #[.int .i64 14, .bool sec, .int .i64 cur, .int .i64 n, .int .i64 lo, .int .i64 hi, .string S] 30)).heap.size) := by unfold Hid; simp
  clear hk hd he
  go_enter Tryd.func80, Tryd.ntmps80
  go_wp2_with fail
  generalize (w.alloc (.cells #[.int .i64 14, .bool sec, .int .i64 cur, .int .i64 n, .int .i64 lo, .int .i64 hi, .string S] 30)) = W0 at *
  refine Calls.mono (rnone_any W0) ?_
  rintro e w1 ⟨rfl, hb1⟩
  have HB1 := hide (chain HA.out hb1)
  have HZ2 : Hid (w.heap.size < w1.heap.size) := Nat.lt_of_lt_of_le HZ1.out hb1.size
  have y0 := cell_below z0 hb1
  have y3 := cell_below z3 hb1
  have y4 := cell_below z4 hb1
  have y5 := cell_below z5 hb1
  clear hb1 z0 z3 z4 z5
  have HB2 : Hid (Below w1.heap.size w1 (w1.alloc (.cells #[.int .i64 0, .int .i64 (-1)] 67))) := (Below.refl _ _).alloc (Nat.le_refl _) _
  have HT2 := hide (two_alloc w1 (.int .i64 0) (.int .i64 (-1)) 67)
  have HB3 := hide (chain HB1.out HB2.out)
  have u0 := cell_below y0 HB2.out
  have u3 := cell_below y3 HB2.out
  have u4 := cell_below y4 HB2.out
  have u5 := cell_below y5 HB2.out
  clear y0 y3 y4 y5
  unfold rerr
  go_wp2_with fail
  generalize w1.alloc (.cells #[.int .i64 0, .int .i64 (-1)] 67) = W2 at *
  refine Calls.mono (HDC.out d h cap W2 (HD.out.below HB3.out)) ?_
  rintro e w3 ⟨rfl, h1, h2⟩
  have HF3 := hide ((Frm.ofBelow (S := fun j => j = d) HB3.out).trans h2 (fun j _ t => t))
  have HT3 := hide (HT2.out.frm h2 (by show ¬ w1.heap.size = d; have := HZ2.out; omega))
  have H3 := hide h1
  have y3 := h2.cell u3 (by show ¬ w.heap.size = d; omega)
  have y4 := h2.cell u4 (by show ¬ w.heap.size = d; omega)
  have y5 := h2.cell u5 (by show ¬ w.heap.size = d; omega)
  have t0 := HT3.out.c0
  have t1 := HT3.out.c1
  have f0 := HT3.out.f0
  have f1 := HT3.out.f1
  clear h1 h2 u0 u3 u4 u5
  unfold rerr
  go_wp2_with fail
  have HT4 := hide (HT3.out.set (.int .i64 (k : Int)) (.int .i64 q))
  have HF4 := hide (frm_two (u := .int .i64 (k : Int)) (v := .int .i64 q) HF3.out (b := w1.heap.size) (by have := HZ2.out; omega))
  have HD4 := hide (H3.out.two (b := w1.heap.size) (u := .int .i64 (k : Int)) (v := .int .i64 q) (by have := HZ2.out; omega) (by have := HZ2.out; omega))
  clear t0 t1 f0 f1 y3 y4 y5
  generalize (w3.setCell ⟨w1.heap.size, 0, none⟩ (.int .i64 (k : Int))).setCell ⟨w1.heap.size, 1, none⟩ (.int .i64 q) = W4 at *
  have HK4 := hide (HK.out.frm HF4.out hcd hgd)
  have HF4' := hide (HF4.out.mono (T := fun j => j = c ∨ j = d) (fun j _ t => Or.inr t))
  refine Calls.mono (HPC.out c g W4 HK4.out (HEW.out W4 HF4'.out)) ?_
  rintro e w5 ⟨ev, rfl, h1, h2, h3⟩
  have HI5 := hide h1
  have HK5 := hide h2
  have HD5 := hide (HD4.out.frm h3 (fun e => hcd e.symm) hhc)
  have HF5 := hide (HF4'.out.trans h3 (fun j _ t => Or.inl t))
  have HT5 := hide (HT4.out.frm h3 (by show ¬ w1.heap.size = c; have := HZ2.out; omega))
  have t0 := HT5.out.c0
  have t1 := HT5.out.c1
  clear h1 h2 h3
  go_wp2_with fail
  refine Calls.mono (same_yes ev k q w5 (HEW.out w5 HF5.out) HI5.out) ?_
  rintro e w6 ⟨rfl, hb6⟩
  have HB6 := hide hb6
  clear hb6
  go_wp2
  go_ret
  exact ⟨rfl, p', HK5.out.below HB6.out, HD5.out.below HB6.out, HF5.out.trans (Frm.ofBelow (S := fun _ => False) HB6.out) (fun j _ t => t.elim)⟩

set_option maxRecDepth 100000 in
set_option maxHeartbeats 1600000 in
theorem number_ranged {E : Nat → Addr} (w0 : World) (c g len p bd : Nat) (L : List Nat) (d h cap : Nat) (sec : Bool) (cur n lo hi : Int) (S : ByteArray) (w : World) (hk : Cur w c g len p bd L) (hd : Doc w d h len cap p bd L) (he : Errs w0 E) (hb0 : Below w0.heap.size w0 w) (hc0 : w0.heap.size ≤ c) (hd0 : w0.heap.size ≤ d) (hcd : c ≠ d) (hgd : g ≠ d) (hhc : h ≠ c)  :
    Calls Tryd.prog 80 #[.pointer (some ⟨c, 0, none⟩), .pointer (some ⟨d, 0, none⟩), .agg #[.int .i64 16, .bool sec, .int .i64 cur, .int .i64 n, .int .i64 lo, .int .i64 hi, .string S]] w fun e w' => Moved w c g len bd L d h cap e w' := by
  have HEW : Hid (∀ W, Frm (fun k => k = c ∨ k = d) w W → Errs W E) := fun W hf => he.below (hb0.trans (hf.below hb0.size (fun k e => by rcases e with e | e <;> omega)))
  have HK := hide hk
  have HD := hide hd
  have hcl : c < w.heap.size := hk.lt
  have hdl : d < w.heap.size := hd.lt
  have hhl : h < w.heap.size := hd.ne.2
  have HA : Hid (Below w.heap.size w (w.alloc (.cells #[.int .i64 16, .bool sec, .int .i64 cur, .int .i64 n, .int .i64 lo, .int .i64 hi, .string S] 30))) := (Below.refl _ _).alloc (Nat.le_refl _) _
  obtain ⟨v, k, q, p', hq1, hq2, hv, hpc, hdc⟩ := both_ranged E L len p bd n lo hi hk.le
  have HPC := hide hpc
  have HDC := hide hdc
  clear hpc hdc hv
  have z0 : (w.alloc (.cells #[.int .i64 16, .bool sec, .int .i64 cur, .int .i64 n, .int .i64 lo, .int .i64 hi, .string S] 30)).cell? ⟨w.heap.size, 0, none⟩ = some (.int .i64 16) := (World.cell?_alloc_at _ _ _ _ rfl).trans rfl
  have z3 : (w.alloc (.cells #[.int .i64 16, .bool sec, .int .i64 cur, .int .i64 n, .int .i64 lo, .int .i64 hi, .string S] 30)).cell? ⟨w.heap.size, 3, none⟩ = some (.int .i64 n) := (World.cell?_alloc_at _ _ _ _ rfl).trans rfl
  have z4 : (w.alloc (.cells #[.int .i64 16, .bool sec, .int .i64 cur, .int .i64 n, .int .i64 lo, .int .i64 hi, .string S] 30)).cell? ⟨w.heap.size, 4, none⟩ = some (.int .i64 lo) := (World.cell?_alloc_at _ _ _ _ rfl).trans rfl
  have z5 : (w.alloc (.cells #[.int .i64 16, .bool sec, .int .i64 cur, .int .i64 n, .int .i64 lo, .int .i64 hi, .string S] 30)).cell? ⟨w.heap.size, 5, none⟩ = some (.int .i64 hi) := (World.cell?_alloc_at _ _ _ _ rfl).trans rfl
  have HZ1 : Hid (w.heap.size < (w.alloc (.cells #[.int .i64 16, .bool sec, .int .i64 cur, .int .i64 n, .int .i64 lo, .int .i64 hi, .string S] 30)).heap.size) := by unfold Hid; simp
  clear hk hd he
  go_enter Tryd.func80, Tryd.ntmps80
  go_wp2_with fail
  generalize (w.alloc (.cells #[.int .i64 16, .bool sec, .int .i64 cur, .int .i64 n, .int .i64 lo, .int .i64 hi, .string S] 30)) = W0 at *
  refine Calls.mono (rnone_any W0) ?_
  rintro e w1 ⟨rfl, hb1⟩
  have HB1 := hide (chain HA.out hb1)
  have HZ2 : Hid (w.heap.size < w1.heap.size) := Nat.lt_of_lt_of_le HZ1.out hb1.size
  have y0 := cell_below z0 hb1
  have y3 := cell_below z3 hb1
  have y4 := cell_below z4 hb1
  have y5 := cell_below z5 hb1
  clear hb1 z0 z3 z4 z5
  have HB2 : Hid (Below w1.heap.size w1 (w1.alloc (.cells #[.int .i64 0, .int .i64 (-1)] 67))) := (Below.refl _ _).alloc (Nat.le_refl _) _
  have HT2 := hide (two_alloc w1 (.int .i64 0) (.int .i64 (-1)) 67)
  have HB3 := hide (chain HB1.out HB2.out)
  have u0 := cell_below y0 HB2.out
  have u3 := cell_below y3 HB2.out
  have u4 := cell_below y4 HB2.out
  have u5 := cell_below y5 HB2.out
  clear y0 y3 y4 y5
  unfold rerr
  go_wp2_with fail
  generalize w1.alloc (.cells #[.int .i64 0, .int .i64 (-1)] 67) = W2 at *
  refine Calls.mono (HDC.out d h cap W2 (HD.out.below HB3.out)) ?_
  rintro e w3 ⟨rfl, h1, h2⟩
  have HF3 := hide ((Frm.ofBelow (S := fun j => j = d) HB3.out).trans h2 (fun j _ t => t))
  have HT3 := hide (HT2.out.frm h2 (by show ¬ w1.heap.size = d; have := HZ2.out; omega))
  have H3 := hide h1
  have y3 := h2.cell u3 (by show ¬ w.heap.size = d; omega)
  have y4 := h2.cell u4 (by show ¬ w.heap.size = d; omega)
  have y5 := h2.cell u5 (by show ¬ w.heap.size = d; omega)
  have t0 := HT3.out.c0
  have t1 := HT3.out.c1
  have f0 := HT3.out.f0
  have f1 := HT3.out.f1
  clear h1 h2 u0 u3 u4 u5
  unfold rerr
  go_wp2_with fail
  have HT4 := hide (HT3.out.set (.int .i64 (k : Int)) (.int .i64 q))
  have HF4 := hide (frm_two (u := .int .i64 (k : Int)) (v := .int .i64 q) HF3.out (b := w1.heap.size) (by have := HZ2.out; omega))
  have HD4 := hide (H3.out.two (b := w1.heap.size) (u := .int .i64 (k : Int)) (v := .int .i64 q) (by have := HZ2.out; omega) (by have := HZ2.out; omega))
  clear t0 t1 f0 f1
  generalize (w3.setCell ⟨w1.heap.size, 0, none⟩ (.int .i64 (k : Int))).setCell ⟨w1.heap.size, 1, none⟩ (.int .i64 q) = W4 at *
  have HK4 := hide (HK.out.frm HF4.out hcd hgd)
  have HF4' := hide (HF4.out.mono (T := fun j => j = c ∨ j = d) (fun j _ t => Or.inr t))
  refine Calls.mono (HPC.out c g W4 HK4.out (HEW.out W4 HF4'.out)) ?_
  rintro e w5 ⟨ev, rfl, h1, h2, h3⟩
  have HI5 := hide h1
  have HK5 := hide h2
  have HD5 := hide (HD4.out.frm h3 (fun e => hcd e.symm) hhc)
  have HF5 := hide (HF4'.out.trans h3 (fun j _ t => Or.inl t))
  have HT5 := hide (HT4.out.frm h3 (by show ¬ w1.heap.size = c; have := HZ2.out; omega))
  have t0 := HT5.out.c0
  have t1 := HT5.out.c1
  clear h1 h2 h3 y3 y4 y5
  go_wp2_with fail
  refine Calls.mono (same_yes ev k q w5 (HEW.out w5 HF5.out) HI5.out) ?_
  rintro e w6 ⟨rfl, hb6⟩
  have HB6 := hide hb6
  clear hb6
  go_wp2
  go_ret
  exact ⟨rfl, p', HK5.out.below HB6.out, HD5.out.below HB6.out, HF5.out.trans (Frm.ofBelow (S := fun _ => False) HB6.out) (fun j _ t => t.elim)⟩

set_option maxRecDepth 100000 in
set_option maxHeartbeats 1600000 in
theorem number_flag {E : Nat → Addr} (w0 : World) (c g len p bd : Nat) (L : List Nat) (d h cap : Nat) (sec : Bool) (cur n lo hi : Int) (S : ByteArray) (w : World) (hk : Cur w c g len p bd L) (hd : Doc w d h len cap p bd L) (he : Errs w0 E) (hb0 : Below w0.heap.size w0 w) (hc0 : w0.heap.size ≤ c) (hd0 : w0.heap.size ≤ d) (hcd : c ≠ d) (hgd : g ≠ d) (hhc : h ≠ c)  :
    Calls Tryd.prog 80 #[.pointer (some ⟨c, 0, none⟩), .pointer (some ⟨d, 0, none⟩), .agg #[.int .i64 15, .bool sec, .int .i64 cur, .int .i64 n, .int .i64 lo, .int .i64 hi, .string S]] w fun e w' => Moved w c g len bd L d h cap e w' := by
  have HEW : Hid (∀ W, Frm (fun k => k = c ∨ k = d) w W → Errs W E) := fun W hf => he.below (hb0.trans (hf.below hb0.size (fun k e => by rcases e with e | e <;> omega)))
  have HK := hide hk
  have HD := hide hd
  have hcl : c < w.heap.size := hk.lt
  have hdl : d < w.heap.size := hd.lt
  have hhl : h < w.heap.size := hd.ne.2
  have HA : Hid (Below w.heap.size w (w.alloc (.cells #[.int .i64 15, .bool sec, .int .i64 cur, .int .i64 n, .int .i64 lo, .int .i64 hi, .string S] 30))) := (Below.refl _ _).alloc (Nat.le_refl _) _
  obtain ⟨v, k, q, p', hq1, hq2, hv, hpc, hdc⟩ := both_ranged E L len p bd 1 0 1 hk.le
  have HPC := hide hpc
  have HDC := hide hdc
  have hv01 : v = 0 ∨ v = 1 := by omega
  clear hpc hdc hv
  rcases hv01 with rfl | rfl
  · skip
    have z0 : (w.alloc (.cells #[.int .i64 15, .bool sec, .int .i64 cur, .int .i64 n, .int .i64 lo, .int .i64 hi, .string S] 30)).cell? ⟨w.heap.size, 0, none⟩ = some (.int .i64 15) := (World.cell?_alloc_at _ _ _ _ rfl).trans rfl
    have z3 : (w.alloc (.cells #[.int .i64 15, .bool sec, .int .i64 cur, .int .i64 n, .int .i64 lo, .int .i64 hi, .string S] 30)).cell? ⟨w.heap.size, 3, none⟩ = some (.int .i64 n) := (World.cell?_alloc_at _ _ _ _ rfl).trans rfl
    have z4 : (w.alloc (.cells #[.int .i64 15, .bool sec, .int .i64 cur, .int .i64 n, .int .i64 lo, .int .i64 hi, .string S] 30)).cell? ⟨w.heap.size, 4, none⟩ = some (.int .i64 lo) := (World.cell?_alloc_at _ _ _ _ rfl).trans rfl
    have z5 : (w.alloc (.cells #[.int .i64 15, .bool sec, .int .i64 cur, .int .i64 n, .int .i64 lo, .int .i64 hi, .string S] 30)).cell? ⟨w.heap.size, 5, none⟩ = some (.int .i64 hi) := (World.cell?_alloc_at _ _ _ _ rfl).trans rfl
    have HZ1 : Hid (w.heap.size < (w.alloc (.cells #[.int .i64 15, .bool sec, .int .i64 cur, .int .i64 n, .int .i64 lo, .int .i64 hi, .string S] 30)).heap.size) := by unfold Hid; simp
    clear hk hd he
    go_enter Tryd.func80, Tryd.ntmps80
    go_wp2_with fail
    generalize (w.alloc (.cells #[.int .i64 15, .bool sec, .int .i64 cur, .int .i64 n, .int .i64 lo, .int .i64 hi, .string S] 30)) = W0 at *
    refine Calls.mono (rnone_any W0) ?_
    rintro e w1 ⟨rfl, hb1⟩
    have HB1 := hide (chain HA.out hb1)
    have HZ2 : Hid (w.heap.size < w1.heap.size) := Nat.lt_of_lt_of_le HZ1.out hb1.size
    have y0 := cell_below z0 hb1
    have y3 := cell_below z3 hb1
    have y4 := cell_below z4 hb1
    have y5 := cell_below z5 hb1
    clear hb1 z0 z3 z4 z5
    have HB2 : Hid (Below w1.heap.size w1 (w1.alloc (.cells #[.int .i64 0, .int .i64 (-1)] 67))) := (Below.refl _ _).alloc (Nat.le_refl _) _
    have HT2 := hide (two_alloc w1 (.int .i64 0) (.int .i64 (-1)) 67)
    have HB3 := hide (chain HB1.out HB2.out)
    have u0 := cell_below y0 HB2.out
    have u3 := cell_below y3 HB2.out
    have u4 := cell_below y4 HB2.out
    have u5 := cell_below y5 HB2.out
    clear y0 y3 y4 y5
    unfold rerr
    go_wp2_with fail
    generalize w1.alloc (.cells #[.int .i64 0, .int .i64 (-1)] 67) = W2 at *
    refine Calls.mono (HDC.out d h cap W2 (HD.out.below HB3.out)) ?_
    rintro e w3 ⟨rfl, h1, h2⟩
    have HF3 := hide ((Frm.ofBelow (S := fun j => j = d) HB3.out).trans h2 (fun j _ t => t))
    have HT3 := hide (HT2.out.frm h2 (by show ¬ w1.heap.size = d; have := HZ2.out; omega))
    have H3 := hide h1
    have y3 := h2.cell u3 (by show ¬ w.heap.size = d; omega)
    have y4 := h2.cell u4 (by show ¬ w.heap.size = d; omega)
    have y5 := h2.cell u5 (by show ¬ w.heap.size = d; omega)
    have t0 := HT3.out.c0
    have t1 := HT3.out.c1
    have f0 := HT3.out.f0
    have f1 := HT3.out.f1
    clear h1 h2 u0 u3 u4 u5
    unfold rerr
    go_wp2_with fail
    have HT4 := hide (HT3.out.set (.int .i64 (k : Int)) (.int .i64 q))
    have HF4 := hide (frm_two (u := .int .i64 (k : Int)) (v := .int .i64 q) HF3.out (b := w1.heap.size) (by have := HZ2.out; omega))
    have HD4 := hide (H3.out.two (b := w1.heap.size) (u := .int .i64 (k : Int)) (v := .int .i64 q) (by have := HZ2.out; omega) (by have := HZ2.out; omega))
    clear t0 t1 f0 f1 y3 y4 y5
    generalize (w3.setCell ⟨w1.heap.size, 0, none⟩ (.int .i64 (k : Int))).setCell ⟨w1.heap.size, 1, none⟩ (.int .i64 q) = W4 at *
    have HK4 := hide (HK.out.frm HF4.out hcd hgd)
    have HF4' := hide (HF4.out.mono (T := fun j => j = c ∨ j = d) (fun j _ t => Or.inr t))
    refine Calls.mono (flag_of (p := p) W4 (HPC.out c g W4 HK4.out (HEW.out W4 HF4'.out))) ?_
    rintro e w5 ⟨ev, rfl, h1, h2, h3⟩
    have HI5 := hide h1
    have HK5 := hide h2
    have HD5 := hide (HD4.out.frm h3 (fun e => hcd e.symm) hhc)
    have HF5 := hide (HF4'.out.trans h3 (fun j _ t => Or.inl t))
    have HT5 := hide (HT4.out.frm h3 (by show ¬ w1.heap.size = c; have := HZ2.out; omega))
    have t0 := HT5.out.c0
    have t1 := HT5.out.c1
    clear h1 h2 h3
    go_wp2_with fail
    refine Calls.mono (same_yes ev k q w5 (HEW.out w5 HF5.out) HI5.out) ?_
    rintro e w6 ⟨rfl, hb6⟩
    have HB6 := hide hb6
    clear hb6
    go_wp2
    go_ret
    exact ⟨rfl, p', HK5.out.below HB6.out, HD5.out.below HB6.out, HF5.out.trans (Frm.ofBelow (S := fun _ => False) HB6.out) (fun j _ t => t.elim)⟩
  · skip
    have z0 : (w.alloc (.cells #[.int .i64 15, .bool sec, .int .i64 cur, .int .i64 n, .int .i64 lo, .int .i64 hi, .string S] 30)).cell? ⟨w.heap.size, 0, none⟩ = some (.int .i64 15) := (World.cell?_alloc_at _ _ _ _ rfl).trans rfl
    have z3 : (w.alloc (.cells #[.int .i64 15, .bool sec, .int .i64 cur, .int .i64 n, .int .i64 lo, .int .i64 hi, .string S] 30)).cell? ⟨w.heap.size, 3, none⟩ = some (.int .i64 n) := (World.cell?_alloc_at _ _ _ _ rfl).trans rfl
    have z4 : (w.alloc (.cells #[.int .i64 15, .bool sec, .int .i64 cur, .int .i64 n, .int .i64 lo, .int .i64 hi, .string S] 30)).cell? ⟨w.heap.size, 4, none⟩ = some (.int .i64 lo) := (World.cell?_alloc_at _ _ _ _ rfl).trans rfl
    have z5 : (w.alloc (.cells #[.int .i64 15, .bool sec, .int .i64 cur, .int .i64 n, .int .i64 lo, .int .i64 hi, .string S] 30)).cell? ⟨w.heap.size, 5, none⟩ = some (.int .i64 hi) := (World.cell?_alloc_at _ _ _ _ rfl).trans rfl
    have HZ1 : Hid (w.heap.size < (w.alloc (.cells #[.int .i64 15, .bool sec, .int .i64 cur, .int .i64 n, .int .i64 lo, .int .i64 hi, .string S] 30)).heap.size) := by unfold Hid; simp
    clear hk hd he
    go_enter Tryd.func80, Tryd.ntmps80
    go_wp2_with fail
    generalize (w.alloc (.cells #[.int .i64 15, .bool sec, .int .i64 cur, .int .i64 n, .int .i64 lo, .int .i64 hi, .string S] 30)) = W0 at *
    refine Calls.mono (rnone_any W0) ?_
    rintro e w1 ⟨rfl, hb1⟩
    have HB1 := hide (chain HA.out hb1)
    have HZ2 : Hid (w.heap.size < w1.heap.size) := Nat.lt_of_lt_of_le HZ1.out hb1.size
    have y0 := cell_below z0 hb1
    have y3 := cell_below z3 hb1
    have y4 := cell_below z4 hb1
    have y5 := cell_below z5 hb1
    clear hb1 z0 z3 z4 z5
    have HB2 : Hid (Below w1.heap.size w1 (w1.alloc (.cells #[.int .i64 0, .int .i64 (-1)] 67))) := (Below.refl _ _).alloc (Nat.le_refl _) _
    have HT2 := hide (two_alloc w1 (.int .i64 0) (.int .i64 (-1)) 67)
    have HB3 := hide (chain HB1.out HB2.out)
    have u0 := cell_below y0 HB2.out
    have u3 := cell_below y3 HB2.out
    have u4 := cell_below y4 HB2.out
    have u5 := cell_below y5 HB2.out
    clear y0 y3 y4 y5
    unfold rerr
    go_wp2_with fail
    generalize w1.alloc (.cells #[.int .i64 0, .int .i64 (-1)] 67) = W2 at *
    refine Calls.mono (HDC.out d h cap W2 (HD.out.below HB3.out)) ?_
    rintro e w3 ⟨rfl, h1, h2⟩
    have HF3 := hide ((Frm.ofBelow (S := fun j => j = d) HB3.out).trans h2 (fun j _ t => t))
    have HT3 := hide (HT2.out.frm h2 (by show ¬ w1.heap.size = d; have := HZ2.out; omega))
    have H3 := hide h1
    have y3 := h2.cell u3 (by show ¬ w.heap.size = d; omega)
    have y4 := h2.cell u4 (by show ¬ w.heap.size = d; omega)
    have y5 := h2.cell u5 (by show ¬ w.heap.size = d; omega)
    have t0 := HT3.out.c0
    have t1 := HT3.out.c1
    have f0 := HT3.out.f0
    have f1 := HT3.out.f1
    clear h1 h2 u0 u3 u4 u5
    unfold rerr
    go_wp2_with fail
    have HT4 := hide (HT3.out.set (.int .i64 (k : Int)) (.int .i64 q))
    have HF4 := hide (frm_two (u := .int .i64 (k : Int)) (v := .int .i64 q) HF3.out (b := w1.heap.size) (by have := HZ2.out; omega))
    have HD4 := hide (H3.out.two (b := w1.heap.size) (u := .int .i64 (k : Int)) (v := .int .i64 q) (by have := HZ2.out; omega) (by have := HZ2.out; omega))
    clear t0 t1 f0 f1 y3 y4 y5
    generalize (w3.setCell ⟨w1.heap.size, 0, none⟩ (.int .i64 (k : Int))).setCell ⟨w1.heap.size, 1, none⟩ (.int .i64 q) = W4 at *
    have HK4 := hide (HK.out.frm HF4.out hcd hgd)
    have HF4' := hide (HF4.out.mono (T := fun j => j = c ∨ j = d) (fun j _ t => Or.inr t))
    refine Calls.mono (flag_of (p := p) W4 (HPC.out c g W4 HK4.out (HEW.out W4 HF4'.out))) ?_
    rintro e w5 ⟨ev, rfl, h1, h2, h3⟩
    have HI5 := hide h1
    have HK5 := hide h2
    have HD5 := hide (HD4.out.frm h3 (fun e => hcd e.symm) hhc)
    have HF5 := hide (HF4'.out.trans h3 (fun j _ t => Or.inl t))
    have HT5 := hide (HT4.out.frm h3 (by show ¬ w1.heap.size = c; have := HZ2.out; omega))
    have t0 := HT5.out.c0
    have t1 := HT5.out.c1
    clear h1 h2 h3
    go_wp2_with fail
    refine Calls.mono (same_yes ev k q w5 (HEW.out w5 HF5.out) HI5.out) ?_
    rintro e w6 ⟨rfl, hb6⟩
    have HB6 := hide hb6
    clear hb6
    go_wp2
    go_ret
    exact ⟨rfl, p', HK5.out.below HB6.out, HD5.out.below HB6.out, HF5.out.trans (Frm.ofBelow (S := fun _ => False) HB6.out) (fun j _ t => t.elim)⟩

set_option maxRecDepth 100000 in
set_option maxHeartbeats 1600000 in
theorem number_other {E : Nat → Addr} (w0 : World) (c g len p bd : Nat) (L : List Nat) (d h cap : Nat) (kind : Int) (sec : Bool) (cur n lo hi : Int) (S : ByteArray) (w : World) (hk : Cur w c g len p bd L) (hd : Doc w d h len cap p bd L) (he : Errs w0 E) (hb0 : Below w0.heap.size w0 w) (hc0 : w0.heap.size ≤ c) (hd0 : w0.heap.size ≤ d) (hcd : c ≠ d) (hgd : g ≠ d) (hhc : h ≠ c) (hk12 : kind ≠ 12) (hk13 : kind ≠ 13) (hk14 : kind ≠ 14) (hk15 : kind ≠ 15) (hk16 : kind ≠ 16) :
    Calls Tryd.prog 80 #[.pointer (some ⟨c, 0, none⟩), .pointer (some ⟨d, 0, none⟩), .agg #[.int .i64 kind, .bool sec, .int .i64 cur, .int .i64 n, .int .i64 lo, .int .i64 hi, .string S]] w fun e w' => Moved w c g len bd L d h cap e w' := by
  have HEW : Hid (∀ W, Frm (fun k => k = c ∨ k = d) w W → Errs W E) := fun W hf => he.below (hb0.trans (hf.below hb0.size (fun k e => by rcases e with e | e <;> omega)))
  have HK := hide hk
  have HD := hide hd
  have hcl : c < w.heap.size := hk.lt
  have hdl : d < w.heap.size := hd.lt
  have hhl : h < w.heap.size := hd.ne.2
  have HA : Hid (Below w.heap.size w (w.alloc (.cells #[.int .i64 kind, .bool sec, .int .i64 cur, .int .i64 n, .int .i64 lo, .int .i64 hi, .string S] 30))) := (Below.refl _ _).alloc (Nat.le_refl _) _
  have dk12 : (kind == 12) = false := by simp; exact hk12
  have dk13 : (kind == 13) = false := by simp; exact hk13
  have dk14 : (kind == 14) = false := by simp; exact hk14
  have dk15 : (kind == 15) = false := by simp; exact hk15
  have dk16 : (kind == 16) = false := by simp; exact hk16
  clear hk12 hk13 hk14 hk15 hk16
  have z0 : (w.alloc (.cells #[.int .i64 kind, .bool sec, .int .i64 cur, .int .i64 n, .int .i64 lo, .int .i64 hi, .string S] 30)).cell? ⟨w.heap.size, 0, none⟩ = some (.int .i64 kind) := (World.cell?_alloc_at _ _ _ _ rfl).trans rfl
  have z3 : (w.alloc (.cells #[.int .i64 kind, .bool sec, .int .i64 cur, .int .i64 n, .int .i64 lo, .int .i64 hi, .string S] 30)).cell? ⟨w.heap.size, 3, none⟩ = some (.int .i64 n) := (World.cell?_alloc_at _ _ _ _ rfl).trans rfl
  have z4 : (w.alloc (.cells #[.int .i64 kind, .bool sec, .int .i64 cur, .int .i64 n, .int .i64 lo, .int .i64 hi, .string S] 30)).cell? ⟨w.heap.size, 4, none⟩ = some (.int .i64 lo) := (World.cell?_alloc_at _ _ _ _ rfl).trans rfl
  have z5 : (w.alloc (.cells #[.int .i64 kind, .bool sec, .int .i64 cur, .int .i64 n, .int .i64 lo, .int .i64 hi, .string S] 30)).cell? ⟨w.heap.size, 5, none⟩ = some (.int .i64 hi) := (World.cell?_alloc_at _ _ _ _ rfl).trans rfl
  have HZ1 : Hid (w.heap.size < (w.alloc (.cells #[.int .i64 kind, .bool sec, .int .i64 cur, .int .i64 n, .int .i64 lo, .int .i64 hi, .string S] 30)).heap.size) := by unfold Hid; simp
  clear hk hd he
  go_enter Tryd.func80, Tryd.ntmps80
  go_wp2_with fail
  generalize (w.alloc (.cells #[.int .i64 kind, .bool sec, .int .i64 cur, .int .i64 n, .int .i64 lo, .int .i64 hi, .string S] 30)) = W0 at *
  refine Calls.mono (rnone_any W0) ?_
  rintro e w1 ⟨rfl, hb1⟩
  have HB1 := hide (chain HA.out hb1)
  have HZ2 : Hid (w.heap.size < w1.heap.size) := Nat.lt_of_lt_of_le HZ1.out hb1.size
  have y0 := cell_below z0 hb1
  have y3 := cell_below z3 hb1
  have y4 := cell_below z4 hb1
  have y5 := cell_below z5 hb1
  clear hb1 z0 z3 z4 z5
  have HB2 : Hid (Below w1.heap.size w1 (w1.alloc (.cells #[.int .i64 0, .int .i64 (-1)] 67))) := (Below.refl _ _).alloc (Nat.le_refl _) _
  have HT2 := hide (two_alloc w1 (.int .i64 0) (.int .i64 (-1)) 67)
  have HB3 := hide (chain HB1.out HB2.out)
  have u0 := cell_below y0 HB2.out
  have u3 := cell_below y3 HB2.out
  have u4 := cell_below y4 HB2.out
  have u5 := cell_below y5 HB2.out
  clear y0 y3 y4 y5
  unfold rerr
  have t0 := HT2.out.c0
  have t1 := HT2.out.c1
  go_wp2_with fail
  generalize w1.alloc (.cells #[.int .i64 0, .int .i64 (-1)] 67) = W2 at *
  have HF2 := hide (Frm.ofBelow (S := fun k => k = c ∨ k = d) HB3.out)
  refine Calls.mono (same_yes (E := E) .nilIface 0 (-1) W2 (HEW.out W2 HF2.out) (.inl ⟨rfl, rfl, rfl⟩)) ?_
  rintro e w6 ⟨rfl, hb6⟩
  have HB6 := hide (chain HB3.out hb6)
  clear hb6
  go_wp2
  go_ret
  exact ⟨rfl, p, HK.out.below HB6.out, HD.out.below HB6.out, Frm.ofBelow HB6.out⟩
end Go.Proofs.YtkkogkdalcigkaaDoor
