/-
  The state that FerryQueuesInOrder keeps: a plan, a port, the list that is wanted, the list that is gone through; clamp.
-/
import Derived.Test.YtldnoabbnlfknabDoorFqGet
import Derived.Test.YtldnoabbnlfknabDoorFqSame
namespace Go.Proofs.YtldnoabbnlfknabDoor
open Go.RowKit
set_option linter.unusedVariables false
set_option linter.unusedSimpArgs false

def clampV (n lo hi : Int) : Int := if n < lo then lo else if hi < n then hi else n
theorem clampV_in (n : Int) {lo hi : Int} (h : lo ≤ hi) : lo ≤ clampV n lo hi ∧ clampV n lo hi ≤ hi := by
  unfold clampV
  split
  · omega
  · split <;> omega
theorem cl_is (n lo hi : Int) : (n < lo ∧ clampV n lo hi = lo) ∨ (¬ n < lo ∧ hi < n ∧ clampV n lo hi = hi) ∨ (¬ n < lo ∧ ¬ hi < n ∧ clampV n lo hi = n) := by
  unfold clampV
  by_cases h : n < lo
  · rw [if_pos h]; exact .inl ⟨h, rfl⟩
  · by_cases h2 : hi < n
    · rw [if_neg h, if_pos h2]; exact .inr (.inl ⟨h, h2, rfl⟩)
    · rw [if_neg h, if_neg h2]; exact .inr (.inr ⟨h, h2, rfl⟩)
theorem clamp_any (n lo hi : Int) (w : World) : Calls Tryd.prog 28 #[.int .i64 n, .int .i64 lo, .int .i64 hi] w fun e w' => e = .returned (.int .i64 (clampV n lo hi)) ∧ w = w' := by
  go_enter Tryd.func28, Tryd.ntmps28
  go_wp2
  all_goals (go_ret; refine ⟨ret_int ?_, rfl⟩; have hc := cl_is n lo hi; omega)

/-- A plan, as a variable holds it. -/
structure Pl (w : World) (b : Nat) (k s d r : Int) : Prop where
  c0 : w.cell? ⟨b, 0, none⟩ = some (.int .i64 k)
  c1 : w.cell? ⟨b, 1, none⟩ = some (.int .i64 s)
  c2 : w.cell? ⟨b, 2, none⟩ = some (.int .i64 d)
  c3 : w.cell? ⟨b, 3, none⟩ = some (.int .i64 r)
theorem Pl.below {w w' : World} {b : Nat} {k s d r : Int} (h : Pl w b k s d r) (hb : Below w.heap.size w w') : Pl w' b k s d r :=
  ⟨cell_below h.c0 hb, cell_below h.c1 hb, cell_below h.c2 hb, cell_below h.c3 hb⟩
theorem Pl.low {w w' : World} {b B : Nat} {k s d r : Int} (h : Pl w b k s d r) (hb : Below B w w') (hl : b < B) : Pl w' b k s d r :=
  ⟨by rw [hb.cell (p := ⟨b, 0, none⟩) hl]; exact h.c0, by rw [hb.cell (p := ⟨b, 1, none⟩) hl]; exact h.c1, by rw [hb.cell (p := ⟨b, 2, none⟩) hl]; exact h.c2, by rw [hb.cell (p := ⟨b, 3, none⟩) hl]; exact h.c3⟩
theorem pl_alloc (w : World) (k s d r : Int) : Pl (w.alloc (.cells #[.int .i64 k, .int .i64 s, .int .i64 d, .int .i64 r] 79)) w.heap.size k s d r :=
  ⟨by rw [World.cell?_alloc_at _ _ _ _ rfl]; rfl, by rw [World.cell?_alloc_at _ _ _ _ rfl]; rfl, by rw [World.cell?_alloc_at _ _ _ _ rfl]; rfl, by rw [World.cell?_alloc_at _ _ _ _ rfl]; rfl⟩
theorem Pl.far2 {w : World} {b g : Nat} {k s d r : Int} {x' y' : Value} (h : Pl w b k s d r) (hg : b < g) : Pl ((w.setCell ⟨g, 0, none⟩ x').setCell ⟨g, 1, none⟩ y') b k s d r := by
  have e : ∀ o i, (⟨g, o, none⟩ : Addr) ≠ ⟨b, i, none⟩ := fun o i q => by simp only [Addr.mk.injEq] at q; omega
  exact ⟨by rw [World.cell?_setCell_other _ _ _ _ (e _ _), World.cell?_setCell_other _ _ _ _ (e _ _)]; exact h.c0, by rw [World.cell?_setCell_other _ _ _ _ (e _ _), World.cell?_setCell_other _ _ _ _ (e _ _)]; exact h.c1, by rw [World.cell?_setCell_other _ _ _ _ (e _ _), World.cell?_setCell_other _ _ _ _ (e _ _)]; exact h.c2, by rw [World.cell?_setCell_other _ _ _ _ (e _ _), World.cell?_setCell_other _ _ _ _ (e _ _)]; exact h.c3⟩
theorem new_below' (w : World) (o : Obj) : Below w.heap.size w (w.alloc o) := (Below.refl _ _).alloc (Nat.le_refl _) _
theorem slk_mt (w : World) (base : Nat) (ad : Addr) : SLk w base (.slice (some ad) 0 0) [] := .inr ⟨rfl, rfl, ad, rfl⟩

/-- append to a list that lay in an earlier world: what was made since then stays. -/
theorem append_keep {w0 w : World} {ops : Array Oper} {rest : List Oper} {o : Oper} {act : Act} {Q : Exit → Act → World → Prop} (hgd : o.guard = none) (s x : Operand)
    (ho : o.op = .call { callee := .builtin .append, args := #[s, x], argTypes := #[58, 58] })
    (base : Nat) (v : Value) (xs : List ByteArray) (hs : act.eval s = v) (hv0 : SLk w0 base v xs) (b0 : Below w0.heap.size w0 w)
    (a : Option Addr) (m c : Nat) (l : List ByteArray) (hx : act.eval x = .slice a m c) (hl : l.length = m) (hr : Row w a m c 1 (l.map sv))
    (hb : xs.length + m ≤ 8796093022208) (hbase : base ≤ w0.heap.size)
    (h : ∀ v' w', SLk w' base v' (xs ++ l) → Below base w w' → (∀ k, w0.heap.size ≤ k → k < w.heap.size → w'.heap[k]? = w.heap[k]?) → wpList Tryd.prog ops Q rest (act.put o.dst v') w') : wpList Tryd.prog ops Q (o :: rest) act w := by
  obtain ⟨i0, hi, hz0, hz1, hz2⟩ := info_parts infoS
  have hbw : base ≤ w.heap.size := Nat.le_trans hbase b0.size
  have hfin : ∀ v' w', RLk w' base 9 1 v' (xs.length + m) (xs.map sv ++ l.map sv) → SLk w' base v' (xs ++ l) := fun v' w' h1 => by
    unfold SLk
    rw [List.length_append, List.map_append, hl]
    exact h1
  by_cases hm : m = 0
  · subst hm
    obtain rfl : l = [] := List.length_eq_zero_iff.1 hl
    obtain ⟨b, cp, rfl, hb2⟩ := hv0.row
    refine wpList_append_empty hgd s x 58 ho 9 i0 Tryd.underlying58 hi b a xs.length cp c hb2.fit hs hx ?_
    exact h _ w (by simpa using hv0.below b0) (Below.refl _ _) (fun _ _ _ => rfl)
  · match a, hx, hr with
    | none, hx, hr => exact absurd (hr.null rfl).1 hm
    | some ad, hx, hr =>
      have hcell : ∀ j u, (l.map sv)[j]? = some u → w.cell? (ad.add j) = some u := fun j u hu => by
        obtain ⟨b, off, ha, hc⟩ := hr.cell j u hu
        simp only [Option.some.injEq] at ha
        subst ha
        rw [add_lit']
        exact hc
      rcases hv0 with hv0 | ⟨hxs, hn0, ad', rfl⟩
      · have hv := ownsRow_below hv0 b0
        refine wpList_append_own w hgd s x 58 ho base 9 i0 (.string ByteArray.empty) 1 16 Tryd.underlying58 hi hz0 hz1 hz2 rfl (by decide) v xs.length (xs.map sv) hs hv ad m c (l.map sv) hx hr.size hcell (sv_one l) (by unfold maxLen; omega) (by omega) hbw ?_
        intro v' w' k1 k2 _
        refine h v' w' (hfin _ _ (.inl k1)) ((Below.refl _ _).grown k2 hbw (fun j e => (World.ownsRow.lt hv j e).1)) (fun k h1 h2 => k2.block k h2 (fun e => ?_))
        have := (World.ownsRow.lt hv0 k e.symm).2
        omega
      · have hxs' : xs = [] := List.length_eq_zero_iff.1 hn0
        subst hxs'
        refine wpList_append_grows w hgd s x 58 ho 9 i0 (.string ByteArray.empty) 1 16 Tryd.underlying58 hi hz0 hz1 hz2 rfl (by decide) (some ad') 0 0 [] hs (fun e => by simp at e) (by simp) (fun _ _ j u hu => by simp at hu) ad m c (l.map sv) hx hr.size hcell (sv_one l) (by omega) (by unfold maxLen; omega) (by omega) ?_
        intro v' w' k1 k2
        exact h v' w' (hfin _ _ (.inl (ownsRow_weaken k1 hbw))) ((Below.refl _ _).grown k2 hbw (fun k hk => by simp at hk)) (fun k h1 h2 => k2.block k h2 (by simp))
theorem Two.kept {w w' : World} {b : Nat} {x y : Value} (h : Two w b x y) (hb : w'.heap[b]? = w.heap[b]?) : Two w' b x y :=
  ⟨by rw [World.cell?_of_block (w := w) (a := ⟨b, 0, none⟩) hb]; exact h.c0, by rw [World.cell?_of_block (w := w) (a := ⟨b, 1, none⟩) hb]; exact h.c1, by rw [World.frozen?_of_block (w := w) (a := ⟨b, 0, none⟩) hb]; exact h.f0, by rw [World.frozen?_of_block (w := w) (a := ⟨b, 1, none⟩) hb]; exact h.f1⟩
theorem SLk.keep {w w' : World} {base : Nat} {v : Value} {l : List ByteArray} (h : SLk w base v l) (hk : ∀ k, base ≤ k → k < w.heap.size → w'.heap[k]? = w.heap[k]?) : SLk w' base v l := by
  rcases h with h | h
  · refine .inl ⟨h.1, ?_⟩
    rcases h.2 with e | ⟨g, cap, cur, e, hg, hh, r⟩
    · exact .inl e
    · refine .inr ⟨g, cap, cur, e, hg, ?_, r⟩
      rw [hk g hg (Array.getElem?_eq_some_iff.1 hh).1]
      exact hh
  · exact .inr h

/-- The state at a round's begin. -/
structure Qs (W : World) (B bp bq : Nat) (S D : Int) (L : List ByteArray) (aq : Option Addr) (cq : Nat) (vw : Value) (ar : Option Addr) (LL : List ByteArray) : Prop where
  bs : B ≤ W.heap.size
  pl : Pl W bp 3 S D 0
  tq : Two W bq (.slice aq L.length cq) (.int .i64 0)
  oq : SLk W B (.slice aq L.length cq) L
  ow : SLk W B vw L
  rg : ∀ k s, LL[k]? = some s → ∃ b off, ar = some ⟨b, off, none⟩ ∧ bq < b ∧ b < B ∧ W.cell? ⟨b, off + k, none⟩ = some (.string s)
  short : shorts S L = true
  len : (L.length : Int) ≤ D
  small : Smalls L
theorem Qs.below {W W' : World} {B bp bq : Nat} {S D : Int} {L : List ByteArray} {aq ar : Option Addr} {cq : Nat} {vw : Value} {LL : List ByteArray} (h : Qs W B bp bq S D L aq cq vw ar LL) (hb : Below W.heap.size W W') : Qs W' B bp bq S D L aq cq vw ar LL :=
  ⟨Nat.le_trans h.bs hb.size, h.pl.below hb, h.tq.below hb, h.oq.below hb, h.ow.below hb, fun k s hk => by
    obtain ⟨b, off, e, h1, h2, hc⟩ := h.rg k s hk
    exact ⟨b, off, e, h1, h2, cell_below hc hb⟩, h.short, h.len, h.small⟩
/-- A new port and a new list are laid into the variables. -/
theorem Qs.step {W W' : World} {B bp bq : Nat} {S D : Int} {L L' : List ByteArray} {aq aq' ar : Option Addr} {cq cq' n' : Nat} {vw vw' : Value} {LL : List ByteArray} (h : Qs W B bp bq S D L aq cq vw ar LL) (hb : Below B W W')
    (hq : bq < B) (hp : bp < bq) (hn : L'.length = n') (oq : SLk W' B (.slice aq' n' cq') L') (ow : SLk W' B vw' L') (s : shorts S L' = true) (l : (L'.length : Int) ≤ D) (m : Smalls L') :
    Qs ((W'.setCell ⟨bq, 0, none⟩ (.slice aq' n' cq')).setCell ⟨bq, 1, none⟩ (.int .i64 0)) B bp bq S D L' aq' cq' vw' ar LL := by
  subst hn
  refine ⟨by have := hb.size; have := h.bs; simp; omega, (h.pl.low hb (by omega)).far2 hp, (h.tq.low hb hq).set _ _, (oq.setCell hq _).setCell hq _, (ow.setCell hq _).setCell hq _, fun k x hk => ?_, s, l, m⟩
  obtain ⟨b, off, e, h1, h2, hc⟩ := h.rg k x hk
  have e2 : ∀ o i, (⟨bq, o, none⟩ : Addr) ≠ ⟨b, i, none⟩ := fun o i q => by simp only [Addr.mk.injEq] at q; omega
  refine ⟨b, off, e, h1, h2, ?_⟩
  rw [World.cell?_setCell_other _ _ _ _ (e2 _ _), World.cell?_setCell_other _ _ _ _ (e2 _ _), hb.cell (p := ⟨b, off + k, none⟩) h2]
  exact hc

theorem chk_ok {S D : Int} {L : List ByteArray} (h1 : 1 ≤ S ∧ S ≤ 32) (h2 : 1 ≤ D ∧ D ≤ 8) (s : shorts S L = true) (l : (L.length : Int) ≤ D) : chkErr 3 S D 0 L 0 = 0 := by
  have hp : planErr 3 S D 0 = 0 := by
    have := pe_is 3 S D 0
    omega
  unfold chkErr
  rw [if_pos hp, if_pos]
  unfold fitB
  have hm := ma_is 3 L.length
  rw [s, decide_eq_true (by omega)]
  rfl
theorem plan_ok {S D : Int} (h1 : 1 ≤ S ∧ S ≤ 32) (h2 : 1 ≤ D ∧ D ≤ 8) : planErr 3 S D 0 = 0 := by
  have := pe_is 3 S D 0
  omega
theorem kin3 : kin 3 = true := by decide
theorem kque3 : kque 3 = true := by decide
theorem get_err {S D : Int} {L : List ByteArray} (h : chkErr 3 S D 0 L 0 = 0) : getErr 3 S D 0 L 0 = if L.length = 0 then 17 else 0 := by
  unfold getErr
  rw [if_pos h, if_pos kin3]
theorem got_is {S D : Int} {L : List ByteArray} (h : chkErr 3 S D 0 L 0 = 0) (hn : ¬ L.length = 0) : got 3 S D 0 L 0 = ⟨L.drop 1, 0, L.headD ByteArray.empty, true⟩ := by
  unfold got
  rw [if_pos (by rw [get_err h, if_neg hn]), if_pos kque3]
theorem got_no {S D : Int} {L : List ByteArray} (h : chkErr 3 S D 0 L 0 = 0) (hn : L.length = 0) : got 3 S D 0 L 0 = noGot := by
  unfold got
  rw [if_neg (by rw [get_err h, if_pos hn]; decide)]
theorem mov_err {S D : Int} {L : List ByteArray} {x : ByteArray} (h : chkErr 3 S D 0 L 0 = 0) : movErr true 3 S D 0 L 0 x = if S < (x.size : Int) then 11 else if (L.length : Int) = D then 14 else 0 := by
  unfold movErr addErr
  rw [if_pos h, if_pos kin3, kque3]
  rfl
theorem mov_list {S D : Int} {L : List ByteArray} {x : ByteArray} (h : chkErr 3 S D 0 L 0 = 0) (h1 : ¬ S < (x.size : Int)) (h2 : ¬ (L.length : Int) = D) : movL true 3 S D 0 L 0 x = L ++ [x] := by
  unfold movL addL
  have e : addErr 3 S D L x = 0 := by unfold addErr; rw [if_neg h1, kque3, if_neg (by decide), if_neg h2]
  rw [if_pos ⟨h, kin3⟩, if_pos e, if_pos kque3]
theorem shorts_drop {S : Int} {L : List ByteArray} (h : shorts S L = true) : shorts S (L.drop 1) = true := by
  unfold shorts at h ⊢
  rw [List.all_eq_true] at h ⊢
  exact fun x hx => h x (List.mem_of_mem_drop hx)
theorem shorts_snoc {S : Int} {L : List ByteArray} {x : ByteArray} (h : shorts S L = true) (hx : ¬ S < (x.size : Int)) : shorts S (L ++ [x]) = true := by
  unfold shorts at h ⊢
  rw [List.all_append, h]
  simp
  omega
theorem bare0 {E : Nat → Addr} {v : Value} (h : Bare E v 0) : v = .nilIface := by
  rcases h with ⟨h, _⟩ | ⟨h, _⟩
  · exact h
  · omega
theorem bareN {E : Nat → Addr} {v : Value} {i : Nat} (h : Bare E v i) (hi : ¬ i = 0) : v = sent (E i) := by
  rcases h with ⟨_, h⟩ | ⟨_, _, h⟩
  · exact absurd h hi
  · exact h
end Go.Proofs.YtldnoabbnlfknabDoor
