/-
  The state that PortQueues keeps: a plan, a port in, the line that was put in and not taken out, its age.
-/
import Derived.Test.YtpfmccgiijbcjaaDoorRPqLine
import Derived.Test.YtpfmccgiijbcjaaDoorRPtFixed
import Derived.Test.YtpfmccgiijbcjaaDoorRPtAge2
import Derived.Test.YtpfmccgiijbcjaaDoorRPtRChk
namespace Go.Proofs.YtpfmccgiijbcjaaDoorR
open Go.RowKit
set_option linter.unusedVariables false
set_option linter.unusedSimpArgs false

theorem Pl.far2 {w : World} {b g : Nat} {k s d r : Int} {x' y' : Value} (h : Pl w b k s d r) (hg : b < g) : Pl ((w.setCell ⟨g, 0, none⟩ x').setCell ⟨g, 1, none⟩ y') b k s d r := by
  have e : ∀ o i, (⟨g, o, none⟩ : Addr) ≠ ⟨b, i, none⟩ := fun o i q => by simp only [Addr.mk.injEq] at q; omega
  exact ⟨by rw [World.cell?_setCell_other _ _ _ _ (e _ _), World.cell?_setCell_other _ _ _ _ (e _ _)]; exact h.c0, by rw [World.cell?_setCell_other _ _ _ _ (e _ _), World.cell?_setCell_other _ _ _ _ (e _ _)]; exact h.c1, by rw [World.cell?_setCell_other _ _ _ _ (e _ _), World.cell?_setCell_other _ _ _ _ (e _ _)]; exact h.c2, by rw [World.cell?_setCell_other _ _ _ _ (e _ _), World.cell?_setCell_other _ _ _ _ (e _ _)]; exact h.c3⟩
theorem Pl.low {w w' : World} {b B : Nat} {k s d r : Int} (h : Pl w b k s d r) (hb : Below B w w') (hl : b < B) : Pl w' b k s d r :=
  ⟨by rw [hb.cell (p := ⟨b, 0, none⟩) hl]; exact h.c0, by rw [hb.cell (p := ⟨b, 1, none⟩) hl]; exact h.c1, by rw [hb.cell (p := ⟨b, 2, none⟩) hl]; exact h.c2, by rw [hb.cell (p := ⟨b, 3, none⟩) hl]; exact h.c3⟩
theorem new_below2 (w : World) (o : Obj) : Below w.heap.size w (w.alloc o) := (Below.refl _ _).alloc (Nat.le_refl _) _
theorem Two.kept {w w' : World} {b : Nat} {x y : Value} (h : Two w b x y) (hb : w'.heap[b]? = w.heap[b]?) : Two w' b x y :=
  ⟨by rw [World.cell?_of_block (w := w) (a := ⟨b, 0, none⟩) hb]; exact h.c0, by rw [World.cell?_of_block (w := w) (a := ⟨b, 1, none⟩) hb]; exact h.c1, by rw [World.frozen?_of_block (w := w) (a := ⟨b, 0, none⟩) hb]; exact h.f0, by rw [World.frozen?_of_block (w := w) (a := ⟨b, 1, none⟩) hb]; exact h.f1⟩
theorem SLk.keep {w w' : World} {base : Nat} {v : Value} {l : List ByteArray} (h : SLk w base v l) (hk : ∀ k, base ≤ k → k < w.heap.size → w'.heap[k]? = w.heap[k]?) : SLk w' base v l := by
  rcases h with h | h
  · refine .inl ⟨h.1, ?_⟩
    rcases h.2 with e | ⟨g, cap, cur, e, hg, hh, r⟩
    · exact .inl e
    · refine .inr ⟨g, cap, cur, e, hg, ?_, r⟩
      rw [hk g hg (Array.getElem?_eq_some_iff.1 hh).1]
      exact hh
  · exact .inr h
theorem bareN {E : Nat → Addr} {v : Value} {i : Nat} (h : Bare E v i) (hi : ¬ i = 0) : v = sent (E i) := by
  rcases h with ⟨_, h⟩ | ⟨_, _, h⟩
  · exact absurd h hi
  · exact h

/-- The age that the law counts, and the port's. -/
def AgeOk (k : Int) (L : List ByteArray) (A age : Int) : Prop := k = 1 → ¬ L.length = 0 → (A = age ∧ age ≤ 255) ∨ (A = 255 ∧ 255 ≤ age)
/-- The state at a round's begin. -/
structure Ps (W : World) (B bp bq : Nat) (k s d r : Int) (L : List ByteArray) (aq : Option Addr) (cq : Nat) (A : Int) (v : Value) (age : Int) : Prop where
  bs : B ≤ W.heap.size
  pl : Pl W bp k s d r
  tq : Two W bq (.slice aq L.length cq) (.int .i64 A)
  oq : SLk W B (.slice aq L.length cq) L
  ln : Ln W B v L
  chk : chkErr k s d r L A = 0
  small : Smalls L
  age0 : 0 ≤ age
  ageok : AgeOk k L A age
theorem Ps.below {W W' : World} {B bp bq : Nat} {k s d r : Int} {L : List ByteArray} {aq : Option Addr} {cq : Nat} {A : Int} {v : Value} {age : Int} (h : Ps W B bp bq k s d r L aq cq A v age) (hb : Below W.heap.size W W') : Ps W' B bp bq k s d r L aq cq A v age :=
  ⟨Nat.le_trans h.bs hb.size, h.pl.below hb, h.tq.below hb, h.oq.below hb, h.ln.below hb, h.chk, h.small, h.age0, h.ageok⟩
/-- A new port and a new line are laid into the variables. -/
theorem Ps.step {W W' : World} {B bp bq : Nat} {k s d r : Int} {L L' : List ByteArray} {aq aq' : Option Addr} {cq cq' n' : Nat} {A A' : Int} {v v' : Value} {age age' : Int} (h : Ps W B bp bq k s d r L aq cq A v age) (hb : Below B W W')
    (hq : bq < B) (hp : bp < bq) (hn : L'.length = n') (oq : SLk W' B (.slice aq' n' cq') L') (ln : Ln W' B v' L') (c : chkErr k s d r L' A' = 0) (m : Smalls L') (g0 : 0 ≤ age') (ag : AgeOk k L' A' age') :
    Ps ((W'.setCell ⟨bq, 0, none⟩ (.slice aq' n' cq')).setCell ⟨bq, 1, none⟩ (.int .i64 A')) B bp bq k s d r L' aq' cq' A' v' age' := by
  subst hn
  exact ⟨by have := hb.size; have := h.bs; simp; omega, (h.pl.low hb (by omega)).far2 hp, (h.tq.low hb hq).set _ _, (oq.setCell hq _).setCell hq _, (ln.setCell hq _).setCell hq _, c, m, g0, ag⟩
theorem chk_len {k s d r : Int} {L : List ByteArray} {A : Int} (h : chkErr k s d r L A = 0) : 1 ≤ k ∧ k ≤ 4 ∧ (L.length : Int) ≤ d ∧ d ≤ 8 ∧ 0 ≤ r ∧ r ≤ 255 ∧ (k < 3 → d = 1) ∧ 1 ≤ d ∧ 0 ≤ A ∧ A ≤ 255 ∧ (¬ (k = 1 ∧ ¬ L.length = 0) → A = 0) ∧ shorts s L = true ∧ planErr k s d r = 0 := by
  have h2 := (chk0 h).2
  have hp := pe_is k s d r
  have hp0 := (chk0 h).1
  unfold fitB at h2
  simp only [Bool.and_eq_true, decide_eq_true_eq] at h2
  have hm := ma_is k L.length
  refine ⟨by omega, by omega, by omega, by omega, by omega, by omega, by omega, by omega, by omega, by omega, by omega, h2.2, hp0⟩
theorem chk_mk {k s d r : Int} {L : List ByteArray} {A : Int} (hp : planErr k s d r = 0) (hl : (L.length : Int) ≤ d) (h0 : 0 ≤ A) (h1 : A ≤ mage k L.length) (hs : shorts s L = true) : chkErr k s d r L A = 0 := by
  unfold chkErr
  rw [if_pos hp, if_pos]
  unfold fitB
  rw [hs, decide_eq_true ⟨hl, h0, h1⟩]
  rfl
theorem shorts_one {s : Int} {x : ByteArray} (h : ¬ s < (x.size : Int)) : shorts s [x] = true := by
  unfold shorts
  simp
  omega
theorem shorts_snoc {s : Int} {L : List ByteArray} {x : ByteArray} (h : shorts s L = true) (hx : ¬ s < (x.size : Int)) : shorts s (L ++ [x]) = true := by
  unfold shorts at h ⊢
  rw [List.all_append, h]
  simp
  omega
theorem shorts_drop {s : Int} {L : List ByteArray} (h : shorts s L = true) : shorts s (L.drop 1) = true := by
  unfold shorts at h ⊢
  rw [List.all_eq_true] at h ⊢
  exact fun x hx => h x (List.mem_of_mem_drop hx)

theorem aged_is (k : Int) (n : Nat) (A : Int) (h0 : 0 ≤ A) (h1 : A ≤ 255) : (k = 1 ∧ ¬ n = 0 ∧ ((A < 255 ∧ agedV k n A = A + 1) ∨ (A = 255 ∧ agedV k n A = 255))) ∨ (¬ (k = 1 ∧ ¬ n = 0) ∧ agedV k n A = 0) := by
  have hm := ma_is k n
  unfold agedV
  split <;> omega
theorem Ps.sts {W : World} {B bp bq : Nat} {k s d r : Int} {L : List ByteArray} {aq : Option Addr} {cq : Nat} {A : Int} {v : Value} {age : Int} (h : Ps W B bp bq k s d r L aq cq A v age) {n : Nat} (hn : L.length = n) : Sts W aq n cq L := by
  have hc := chk_len h.chk
  obtain ⟨_, _, eq, sq⟩ := h.oq.sts (by omega) h.small
  simp only [Value.slice.injEq, true_and] at eq
  obtain ⟨rfl, rfl⟩ := eq
  rw [← hn]
  exact sq
/-- Calls on a port, as records that a slice shows. -/
structure Sps (w : World) (a : Option Addr) (len : Nat) (K : Nat → Int) (X : Nat → ByteArray) : Prop where
  most : len ≤ 9223372036854775807
  cell : ∀ j, j < len → ∃ b off, a = some ⟨b, off, none⟩ ∧ (X j).size ≤ 9223372036854775807 ∧ w.cell? ⟨b, off + j * 2, none⟩ = some (.int .i64 (K j)) ∧ w.cell? ⟨b, off + j * 2 + 1, none⟩ = some (.string (X j))
theorem Sps.below {w w' : World} {a : Option Addr} {len : Nat} {K : Nat → Int} {X : Nat → ByteArray} (h : Sps w a len K X) (hb : Below w.heap.size w w') : Sps w' a len K X :=
  ⟨h.most, fun j hj => by
    obtain ⟨b, off, e, h1, h2, h3⟩ := h.cell j hj
    exact ⟨b, off, e, h1, cell_below h2 hb, cell_below h3 hb⟩⟩
end Go.Proofs.YtpfmccgiijbcjaaDoorR
