/-
  The state of XferArrives' loops: what is sent, what has come, what befalls.
-/
import Derived.Test.YtnopclacchoijaaDoorXaMath
namespace Go.Proofs.YtnopclacchoijaaDoor
open Go.RowKit FerryCrc
set_option linter.unusedVariables false
set_option linter.unusedSimpArgs false

/-- A list that lies in none of the three boxes that are stored to. -/
def Off3 (v : Value) (g7 g9 g12 : Nat) : Prop := v.ownBlock ≠ some g7 ∧ v.ownBlock ≠ some g9 ∧ v.ownBlock ≠ some g12
/-- Between two rounds. -/
structure A1 (w wr : World) (L : List Nat) (t g7 g9 k : Nat) (F C : List Bool) (fa : Option Addr) (fc : Nat) (on : Bool) (x1 x2 x3 x4 x5 x6 : Int) (pa : Option Addr) (pn pc : Nat) (P : List ByteArray) : Prop where
  s7 : Bk wr g7 [.int .i64 0, .int .i64 3, .int .i64 1, .int .i64 9, .int .i64 1, .string (str L), .slice fa t fc, .int .i64 ((k : Nat) : Int)] 48
  s9 : Bk wr g9 [.bool on, .int .i64 x1, .int .i64 x2, .int .i64 x3, .int .i64 x4, .int .i64 x5, .int .i64 x6, .slice pa pn pc] 78
  f7 : FlOwn wr w.heap.size (.slice fa t fc) F
  p9 : TxOwn wr w.heap.size (.slice pa pn pc) P
  o7 : (Value.slice fa t fc).ownBlock ≠ some g7 ∧ (Value.slice fa t fc).ownBlock ≠ some g9
  o9 : (Value.slice pa pn pc).ownBlock ≠ some g7 ∧ (Value.slice pa pn pc).ownBlock ≠ some g9
  rs : Rst 0 3 1 9 1 L on ⟨x1, x2, x3, x4, x5, x6⟩ P C
  fl : F.length = t
  le : Tle F C
  be : Below w.heap.size w wr
  l7 : w.heap.size ≤ g7
  l9 : w.heap.size ≤ g9
  ne : g7 ≠ g9
/-- Within a round. -/
structure A2 (w wr : World) (L : List Nat) (t g7 g9 g11 g12 k k1 : Nat) (F C G : List Bool) (fa : Option Addr) (fc : Nat) (on : Bool) (x1 x2 x3 x4 x5 x6 : Int) (pa : Option Addr) (pn pc : Nat) (P : List ByteArray) (ga : Option Addr) (gc : Nat) (na : Option Addr) (m nc : Nat) (ja : Option Addr) (jn jc : Nat) (ma : Option Addr) (mn mc : Nat) : Prop where
  s7 : Bk wr g7 [.int .i64 0, .int .i64 3, .int .i64 1, .int .i64 9, .int .i64 1, .string (str L), .slice fa t fc, .int .i64 ((k : Nat) : Int)] 48
  s9 : Bk wr g9 [.bool on, .int .i64 x1, .int .i64 x2, .int .i64 x3, .int .i64 x4, .int .i64 x5, .int .i64 x6, .slice pa pn pc] 78
  s11 : Bk wr g11 [.slice ja jn jc, .slice ma mn mc] 90
  s12 : Bk wr g12 [.int .i64 0, .int .i64 3, .int .i64 1, .int .i64 9, .int .i64 1, .string (str L), .slice ga t gc, .int .i64 ((k1 : Nat) : Int)] 48
  f7 : FlOwn wr w.heap.size (.slice fa t fc) F
  p9 : TxOwn wr w.heap.size (.slice pa pn pc) P
  f12 : FlOwn wr w.heap.size (.slice ga t gc) G
  nn : NOwn wr w.heap.size (.slice na m nc) ((duI F).map (ntOf 0 3 1 9 1 L))
  o7 : Off3 (.slice fa t fc) g7 g9 g12
  o9 : Off3 (.slice pa pn pc) g7 g9 g12
  o12 : Off3 (.slice ga t gc) g7 g9 g12
  onn : Off3 (.slice na m nc) g7 g9 g12
  rs : Rst 0 3 1 9 1 L on ⟨x1, x2, x3, x4, x5, x6⟩ P C
  fl : F.length = t
  gl : G.length = t
  fg : Tle F G
  le : Tle G C
  be : Below w.heap.size w wr
  l7 : w.heap.size ≤ g7
  l9 : w.heap.size ≤ g9
  l12 : w.heap.size ≤ g12
  n79 : g7 ≠ g9
  n7c : g7 ≠ g12
  n9c : g9 ≠ g12
  n11 : g11 ≠ g9 ∧ g11 ≠ g12
theorem A1.below {w wr : World} {L : List Nat} {t g7 g9 k : Nat} {F C : List Bool} {fa : Option Addr} {fc : Nat} {on : Bool} {x1 x2 x3 x4 x5 x6 : Int} {pa : Option Addr} {pn pc : Nat} {P : List ByteArray} (h : A1 w wr L t g7 g9 k F C fa fc on x1 x2 x3 x4 x5 x6 pa pn pc P) {w' : World} (b : Below wr.heap.size wr w') : A1 w w' L t g7 g9 k F C fa fc on x1 x2 x3 x4 x5 x6 pa pn pc P :=
  ⟨h.s7.below b, h.s9.below b, h.f7.below b, h.p9.below b, h.o7, h.o9, h.rs, h.fl, h.le, chain h.be b, h.l7, h.l9, h.ne⟩
theorem A2.below {w wr : World} {L : List Nat} {t g7 g9 g11 g12 k k1 : Nat} {F C G : List Bool} {fa : Option Addr} {fc : Nat} {on : Bool} {x1 x2 x3 x4 x5 x6 : Int} {pa : Option Addr} {pn pc : Nat} {P : List ByteArray} {ga : Option Addr} {gc : Nat} {na : Option Addr} {m nc : Nat} {ja : Option Addr} {jn jc : Nat} {ma : Option Addr} {mn mc : Nat} (h : A2 w wr L t g7 g9 g11 g12 k k1 F C G fa fc on x1 x2 x3 x4 x5 x6 pa pn pc P ga gc na m nc ja jn jc ma mn mc) {w' : World} (b : Below wr.heap.size wr w') : A2 w w' L t g7 g9 g11 g12 k k1 F C G fa fc on x1 x2 x3 x4 x5 x6 pa pn pc P ga gc na m nc ja jn jc ma mn mc :=
  ⟨h.s7.below b, h.s9.below b, h.s11.below b, h.s12.below b, h.f7.below b, h.p9.below b, h.f12.below b, h.nn.below b, h.o7, h.o9, h.o12, h.onn, h.rs, h.fl, h.gl, h.fg, h.le, chain h.be b, h.l7, h.l9, h.l12, h.n79, h.n7c, h.n9c, h.n11⟩
theorem own_hi {α : Type} {f : α → List Value} {sz : Nat} {e : TypeId} {w : World} {base : Nat} {v : Value} {l : List α} (h : LOwn f sz e w base v l) {g : Nat} (hg : w.heap.size ≤ g) : v.ownBlock ≠ some g := fun e => by
  have := (World.ownsRow.lt h g e).2
  omega
theorem A1.enter {w wr : World} {L : List Nat} {t g7 g9 k : Nat} {F C : List Bool} {fa : Option Addr} {fc : Nat} {on : Bool} {x1 x2 x3 x4 x5 x6 : Int} {pa : Option Addr} {pn pc : Nat} {P : List ByteArray} (h : A1 w wr L t g7 g9 k F C fa fc on x1 x2 x3 x4 x5 x6 pa pn pc P) {k1 : Nat} {W1 w2 W3 : World} {ga : Option Addr} {gc : Nat} {na : Option Addr} {m nc : Nat} {ja : Option Addr} {jn jc : Nat} {ma : Option Addr} {mn mc : Nat}
    (s11 : Bk W1 wr.heap.size [.slice ja jn jc, .slice ma mn mc] 90) (b1 : Below wr.heap.size wr W1) (fo : FlOwn w2 W1.heap.size (.slice ga t gc) F) (no : NOwn w2 W1.heap.size (.slice na m nc) ((duI F).map (ntOf 0 3 1 9 1 L))) (b2 : Below W1.heap.size W1 w2)
    (s12 : Bk W3 w2.heap.size [.int .i64 0, .int .i64 3, .int .i64 1, .int .i64 9, .int .i64 1, .string (str L), .slice ga t gc, .int .i64 ((k1 : Nat) : Int)] 48) (b3 : Below w2.heap.size w2 W3) : A2 w W3 L t g7 g9 wr.heap.size w2.heap.size k k1 F C F fa fc on x1 x2 x3 x4 x5 x6 pa pn pc P ga gc na m nc ja jn jc ma mn mc := by
  have h1 := b1.size
  have h2 := b2.size
  have hb := h.be.size
  have l7 := h.s7.lt
  have l9 := h.s9.lt
  have l11 := s11.lt
  have e1 := chain b1 b2
  have e2 := chain e1 b3
  exact ⟨h.s7.below e2, h.s9.below e2, (s11.below b2).below b3, s12, h.f7.below e2, h.p9.below e2, (fo.below b3).weaken (by omega), (no.below b3).weaken (by omega),
    ⟨h.o7.1, h.o7.2, own_hi h.f7 (by omega)⟩, ⟨h.o9.1, h.o9.2, own_hi h.p9 (by omega)⟩, ⟨fo.off (by omega), fo.off (by omega), own_hi fo (Nat.le_refl _)⟩, ⟨no.off (by omega), no.off (by omega), own_hi no (Nat.le_refl _)⟩,
    h.rs, h.fl, h.fl, Tle.refl F, h.le, chain h.be e2, h.l7, h.l9, by omega, h.ne, by omega, by omega, by omega, by omega⟩
theorem A2.take {w wr : World} {L : List Nat} {t g7 g9 g11 g12 k k1 : Nat} {F C G : List Bool} {fa : Option Addr} {fc : Nat} {on : Bool} {x1 x2 x3 x4 x5 x6 : Int} {pa : Option Addr} {pn pc : Nat} {P : List ByteArray} {ga : Option Addr} {gc : Nat} {na : Option Addr} {m nc : Nat} {ja : Option Addr} {jn jc : Nat} {ma : Option Addr} {mn mc : Nat} (h : A2 w wr L t g7 g9 g11 g12 k k1 F C G fa fc on x1 x2 x3 x4 x5 x6 pa pn pc P ga gc na m nc ja jn jc ma mn mc) {w' w'' : World} {j : Nat} {qa : Option Addr} {qc : Nat} {P' : List ByteArray} (b : Below wr.heap.size wr w') (po : TxOwn w' wr.heap.size (.slice qa t qc) P') (r : Rst 0 3 1 9 1 L true ⟨0, 1, (t : Int), 3, 1, 9⟩ P' (C.set j true)) (b2 : Below w'.heap.size w' w'') :
    A2 w (w''.setCells g9 0 [.bool true, .int .i64 0, .int .i64 1, .int .i64 (t : Int), .int .i64 3, .int .i64 1, .int .i64 9, .slice qa t qc]) L t g7 g9 g11 g12 k k1 F (C.set j true) G fa fc true 0 1 (t : Int) 3 1 9 qa t qc P' ga gc na m nc ja jn jc ma mn mc := by
  have l7 := h.s7.lt
  have l9 := h.s9.lt
  have l12 := h.s12.lt
  have e := chain b b2
  have H := h.below e
  have hb := h.be.size
  have po2 := po.below b2
  exact ⟨H.s7.others H.n79 _ _, H.s9.sets _ rfl, H.s11.others H.n11.1 _ _, H.s12.others (Ne.symm H.n9c) _ _, LOwn.fars H.o7.2.1 _ _ H.f7, LOwn.fars (po.off (by omega)) _ _ (po2.weaken hb), LOwn.fars H.o12.2.1 _ _ H.f12, LOwn.fars H.onn.2.1 _ _ H.nn,
    H.o7, ⟨po.off (by omega), po.off (by omega), po.off (by omega)⟩, H.o12, H.onn, r, H.fl, H.gl, H.fg, H.le.trans (tle_set C j), below_sets H.l9 _ _ H.be, H.l7, H.l9, H.l12, H.n79, H.n7c, H.n9c, H.n11⟩
theorem A2.ack {w wr : World} {L : List Nat} {t g7 g9 g11 g12 k k1 : Nat} {F C G : List Bool} {fa : Option Addr} {fc : Nat} {on : Bool} {x1 x2 x3 x4 x5 x6 : Int} {pa : Option Addr} {pn pc : Nat} {P : List ByteArray} {ga : Option Addr} {gc : Nat} {na : Option Addr} {m nc : Nat} {ja : Option Addr} {jn jc : Nat} {ma : Option Addr} {mn mc : Nat} (h : A2 w wr L t g7 g9 g11 g12 k k1 F C G fa fc on x1 x2 x3 x4 x5 x6 pa pn pc P ga gc na m nc ja jn jc ma mn mc) {w' : World} {j : Nat} {qa : Option Addr} {qc : Nat} (b : Below wr.heap.size wr w') (fo : FlOwn w' wr.heap.size (.slice qa t qc) (G.set j true)) (hC : C[j]? = some true) :
    A2 w (w'.setCells g12 0 [.int .i64 0, .int .i64 3, .int .i64 1, .int .i64 9, .int .i64 1, .string (str L), .slice qa t qc, .int .i64 ((k1 : Nat) : Int)]) L t g7 g9 g11 g12 k k1 F C (G.set j true) fa fc on x1 x2 x3 x4 x5 x6 pa pn pc P qa qc na m nc ja jn jc ma mn mc := by
  have l7 := h.s7.lt
  have l9 := h.s9.lt
  have l12 := h.s12.lt
  have H := h.below b
  have hb := h.be.size
  exact ⟨H.s7.others H.n7c _ _, H.s9.others H.n9c _ _, H.s11.others H.n11.2 _ _, H.s12.sets _ rfl, LOwn.fars H.o7.2.2 _ _ H.f7, LOwn.fars H.o9.2.2 _ _ H.p9, LOwn.fars (fo.off (by omega)) _ _ (fo.weaken hb), LOwn.fars H.onn.2.2 _ _ H.nn,
    H.o7, H.o9, ⟨fo.off (by omega), fo.off (by omega), fo.off (by omega)⟩, H.onn, H.rs, H.fl, by rw [List.length_set]; exact H.gl, H.fg.trans (tle_set G j), H.le.put hC, below_sets H.l12 _ _ H.be, H.l7, H.l9, H.l12, H.n79, H.n7c, H.n9c, H.n11⟩
theorem A2.leave {w wr : World} {L : List Nat} {t g7 g9 g11 g12 k k1 : Nat} {F C G : List Bool} {fa : Option Addr} {fc : Nat} {on : Bool} {x1 x2 x3 x4 x5 x6 : Int} {pa : Option Addr} {pn pc : Nat} {P : List ByteArray} {ga : Option Addr} {gc : Nat} {na : Option Addr} {m nc : Nat} {ja : Option Addr} {jn jc : Nat} {ma : Option Addr} {mn mc : Nat} (h : A2 w wr L t g7 g9 g11 g12 k k1 F C G fa fc on x1 x2 x3 x4 x5 x6 pa pn pc P ga gc na m nc ja jn jc ma mn mc) : A1 w (wr.setCells g7 0 [.int .i64 0, .int .i64 3, .int .i64 1, .int .i64 9, .int .i64 1, .string (str L), .slice ga t gc, .int .i64 ((k1 : Nat) : Int)]) L t g7 g9 k1 G C ga gc on x1 x2 x3 x4 x5 x6 pa pn pc P :=
  ⟨h.s7.sets _ rfl, h.s9.others (Ne.symm h.n79) _ _, LOwn.fars h.o12.1 _ _ h.f12, LOwn.fars h.o9.1 _ _ h.p9, ⟨h.o12.1, h.o12.2.1⟩, ⟨h.o9.1, h.o9.2.1⟩, h.rs, h.gl, h.le, below_sets h.l7 _ _ h.be, h.l7, h.l9, h.n79⟩
/-- A round's notes. -/
theorem round_on {L : List Nat} (hL : ∀ c ∈ L, c < 256) (hc : cutE 0 3 1 9 1 L.length = 0) {t k k1 : Nat} (hk1 : k + 1 = k1) (ht : tot L = t) {F : List Bool} (hFt : F.length = t) {tr : Int} (hk : (k : Int) < tr) (htr : tr ≤ 9223372036854775807)
    {w : World} {E : Nat → Addr} (he : Er7 w E) {fa : Option Addr} {fc : Nat} (hF : Fls w fa t fc F) :
    Calls Tryd.prog 20 #[.agg #[.int .i64 0, .int .i64 3, .int .i64 1, .int .i64 9, .int .i64 1, .string (str L), .slice fa t fc, .int .i64 ((k : Nat) : Int)], .int .i64 tr] w fun e w' => ∃ ga gc na nc, e = .returned (.tuple #[.agg #[.int .i64 0, .int .i64 3, .int .i64 1, .int .i64 9, .int .i64 1, .string (str L), .slice ga t gc, .int .i64 ((k1 : Nat) : Int)], .slice na (duI F).length nc, .bool true, .nilIface]) ∧ FlOwn w' w.heap.size (.slice ga t gc) F ∧ NOwn w' w.heap.size (.slice na (duI F).length nc) ((duI F).map (ntOf 0 3 1 9 1 L)) ∧ Below w.heap.size w w' := by
  subst ht
  subst hk1
  obtain ⟨h1, h2, h3, h4⟩ := cutE_open hc
  obtain ⟨hp, hd⟩ := sent_due hL hc k hFt
  have hr := round_any ⟨0, 3, 1, 9, 1, str L, (k : Int)⟩ fa (tot L) fc F tr he (by show (str L).size ≤ _; rw [str_len]; omega) hF htr (by show _ ≤ (k : Int); omega)
  have hK : rndK ⟨0, 3, 1, 9, 1, str L, (k : Int)⟩ (tot L) tr = true := by unfold rndK; rw [hp]; simpa using hk
  have hS : rndS ⟨0, 3, 1, 9, 1, str L, (k : Int)⟩ (tot L) tr = ⟨0, 3, 1, 9, 1, str L, ((k + 1 : Nat) : Int)⟩ := by
    unfold rndS
    rw [if_pos hp, if_pos hk]
    rfl
  have hA : rndA ⟨0, 3, 1, 9, 1, str L, (k : Int)⟩ F = F := by unfold rndA; rw [hFt, if_pos hp]
  have hN : rndN ⟨0, 3, 1, 9, 1, str L, (k : Int)⟩ F tr = (duI F).map (ntOf 0 3 1 9 1 L) := by unfold rndN; rw [hFt, if_pos hK, hd]
  rw [hK, hS, hA, hN, hp] at hr
  refine hr.mono ?_
  rintro e w' ⟨v, u, rfl, o1, o2, b1⟩
  obtain ⟨qa, qc, rfl, -⟩ := o1.rcs
  obtain ⟨na, nc, rfl, -⟩ := o2.rcs
  rw [hFt] at o1 ⊢
  rw [List.length_map] at o2 ⊢
  exact ⟨qa, qc, na, nc, rfl, o1, o2, b1⟩
theorem round_off {L : List Nat} (hL : ∀ c ∈ L, c < 256) (hc : cutE 0 3 1 9 1 L.length = 0) {t k : Nat} (ht : tot L = t) {F : List Bool} (hFt : F.length = t) {tr : Int} (hk : ¬ (k : Int) < tr) (htr : tr ≤ 9223372036854775807)
    {w : World} {E : Nat → Addr} (he : Er7 w E) {fa : Option Addr} {fc : Nat} (hF : Fls w fa t fc F) :
    Calls Tryd.prog 20 #[.agg #[.int .i64 0, .int .i64 3, .int .i64 1, .int .i64 9, .int .i64 1, .string (str L), .slice fa t fc, .int .i64 ((k : Nat) : Int)], .int .i64 tr] w fun e w' => ∃ ga gc na nc, e = .returned (.tuple #[.agg #[.int .i64 0, .int .i64 3, .int .i64 1, .int .i64 9, .int .i64 1, .string (str L), .slice ga t gc, .int .i64 ((k : Nat) : Int)], .slice na 0 nc, .bool false, .nilIface]) ∧ Below w.heap.size w w' := by
  subst ht
  obtain ⟨h1, h2, h3, h4⟩ := cutE_open hc
  obtain ⟨hp, hd⟩ := sent_due hL hc k hFt
  have hr := round_any ⟨0, 3, 1, 9, 1, str L, (k : Int)⟩ fa (tot L) fc F tr he (by show (str L).size ≤ _; rw [str_len]; omega) hF htr (by show _ ≤ (k : Int); omega)
  have hK : rndK ⟨0, 3, 1, 9, 1, str L, (k : Int)⟩ (tot L) tr = false := by unfold rndK; rw [hp]; simpa using hk
  have hS : rndS ⟨0, 3, 1, 9, 1, str L, (k : Int)⟩ (tot L) tr = ⟨0, 3, 1, 9, 1, str L, (k : Int)⟩ := by
    unfold rndS
    rw [if_pos hp, if_neg hk]
  have hA : rndA ⟨0, 3, 1, 9, 1, str L, (k : Int)⟩ F = F := by unfold rndA; rw [hFt, if_pos hp]
  have hN : rndN ⟨0, 3, 1, 9, 1, str L, (k : Int)⟩ F tr = [] := by unfold rndN; rw [hFt, if_neg (by rw [hK]; decide)]
  rw [hK, hS, hA, hN, hp] at hr
  refine hr.mono ?_
  rintro e w' ⟨v, u, rfl, o1, o2, b1⟩
  obtain ⟨qa, qc, rfl, -⟩ := o1.rcs
  obtain ⟨na, nc, rfl, -⟩ := o2.rcs
  rw [hFt]
  exact ⟨qa, qc, na, nc, rfl, b1⟩
theorem arrived_step {L : List Nat} (hL : ∀ c ∈ L, c < 256) (hc : cutE 0 3 1 9 1 L.length = 0) {t k : Nat} (ht : tot L = t) {F : List Bool} (hFt : F.length = t)
    {w : World} {E : Nat → Addr} (he : Er7 w E) {fa : Option Addr} {fc : Nat} (hF : Fls w fa t fc F) :
    Calls Tryd.prog 24 #[.agg #[.int .i64 0, .int .i64 3, .int .i64 1, .int .i64 9, .int .i64 1, .string (str L), .slice fa t fc, .int .i64 ((k : Nat) : Int)]] w fun e w' => e = .returned (.tuple #[.bool (!anyN F), .nilIface]) ∧ Below w.heap.size w w' := by
  subst ht
  obtain ⟨h1, h2, h3, h4⟩ := cutE_open hc
  obtain ⟨hp, hd⟩ := sent_due hL hc k hFt
  have hr := arrived_any ⟨0, 3, 1, 9, 1, str L, (k : Int)⟩ fa (tot L) fc F he (by show (str L).size ≤ _; rw [str_len]; omega) hF
  rw [hp] at hr
  refine hr.mono ?_
  rintro e w' ⟨rfl, b1⟩
  exact ⟨rfl, b1⟩
/-- What befalls a round: two lists of numbers. -/
structure Lo where
  (pa : Option Addr) (pn pc : Nat) (pl : List Int) (qa : Option Addr) (qn qc : Nat) (ql : List Int)
def Lo.cells (o : Lo) : List Value := [.slice o.pa o.pn o.pc, .slice o.qa o.qn o.qc]
theorem lo2 (o : Lo) : o.cells.length = 2 := rfl
def Lo.Ok (w : World) (o : Lo) : Prop := Ins w o.pa o.pn o.pc o.pl ∧ Ins w o.qa o.qn o.qc o.ql
def Lss (w : World) (a : Option Addr) (n c : Nat) (O : List Lo) : Prop := Rcs Lo.cells 2 w a n c O ∧ ∀ o ∈ O, o.Ok w
theorem cutE_arr (n : Nat) : cutE 0 3 1 9 1 n = if n = 0 ∨ 4096 < n then 11 else 0 := by
  unfold cutE
  rw [if_pos (by decide)]
end Go.Proofs.YtnopclacchoijaaDoor
