/-
  Walk of the law ChunkApart.
-/
import Derived.Test.YtdbciciljeainaaGreatDoorCkKnown
import Derived.Test.YtdbciciljeainaaGreatDoorStgA
import Derived.Test.YtdbciciljeainaaGreatDoorXtAdd
import Derived.Test.YtdbciciljeainaaGreatDoorXtGood
import Derived.Test.YtdbciciljeainaaGreatDoorCkWhole2
import Derived.Test.YtdbciciljeainaaGreatDoorCkFam
import Derived.BigRegion
import Derived.BigQuiet
import Derived.Deep.RegionHeld3
namespace Go.Proofs.YtdbciciljeainaaGreatDoor.chunkApart
open Go.RowKit FerryCrc
set_option linter.unusedVariables false
set_option linter.unusedSimpArgs false

theorem own_rcs {α : Type} {f : α → List Value} {sz : Nat} {e : TypeId} {w : World} {base : Nat} {a : Option Addr} {n c : Nat} {l : List α} (h : LOwn f sz e w base (.slice a n c) l) : Rcs f sz w a n c l := by
  obtain ⟨a', c', e1, hr⟩ := h.rcs
  simp only [Value.slice.injEq] at e1
  obtain ⟨rfl, rfl, rfl⟩ := e1
  exact hr
theorem own_len {α : Type} {f : α → List Value} {sz : Nat} {e : TypeId} {w : World} {base : Nat} {v : Value} {l : List α} {n : Nat} (h : LOwn f sz e w base v l) (hl : l.length = n) : ∃ a c, v = .slice a n c := by
  obtain ⟨a, c, e, -⟩ := h.rcs
  rw [hl] at e
  exact ⟨a, c, e⟩
theorem wpAnyH_listed {P : Program} {md : Region.Mode} {ops : Array Oper} {Q : Exit → Act → World → Prop} {S : World → Prop} {n : Nat} {l l' : Array Bool} {a : Act} {w : World} (h : l = l') (k : wpAnyH P md ops Q S n l' a w) : wpAnyH P md ops Q S n l a w := h ▸ k
theorem by_key1 {P : Program} {md : Region.Mode} {ops : Array Oper} {Q : Exit → Act → World → Prop} {S : World → Prop} {n : Nat} {l : Array Bool} {a : Act} {w : World} (F : World → Prop) (u : Act → Nat → Act) (l3 : Array Bool) (n3 : Nat) (hm : (∀ g wz, F wz → wpAnyH P md ops Q S n3 l3 (u a g) wz) → wpAnyH P md ops Q S n l a w) (hk : ∀ g wz, F wz → wpAnyH P md ops Q S n3 l3 (u a g) wz) : wpAnyH P md ops Q S n l a w := hm hk
theorem front_txs {w : World} {base g n : Nat} {M : List ByteArray} (h : TxOwn w base (.slice (some ⟨g, 0, none⟩) (n + 9) (n + 9)) (M ++ z9)) (hM : M.length = n) : Txs w (some ⟨g, 0, none⟩) n (n + 9) M := by
  obtain ⟨a, c, e, ht⟩ := h.rcs
  simp only [Value.slice.injEq] at e
  obtain ⟨rfl, e2, rfl⟩ := e
  refine ⟨hM, by rw [fl_len tv1, hM], by omega, fun e => by simp at e, fun j v hv => ht.row.cell j v ?_⟩
  rw [List.flatMap_append, List.getElem?_append_left (List.getElem?_eq_some_iff.1 hv).1]
  exact hv
theorem txs_far {w : World} {a : Option Addr} {n c : Nat} {Q : List ByteArray} (h : Txs w a n c Q) {p : Addr} (hne : ∀ b off, a = some ⟨b, off, none⟩ → b ≠ p.block) (u : Value) : Txs (w.setCell p u) a n c Q := by
  refine ⟨h.size, h.row.size, h.row.fit, h.row.null, fun j v hv => ?_⟩
  obtain ⟨b, off, ha, hc⟩ := h.row.cell j v hv
  refine ⟨b, off, ha, ?_⟩
  rw [World.cell?_setCell_other _ _ _ _ (by intro e; exact hne b off ha (by rw [e]))]
  exact hc
theorem txs_lt {w : World} {a : Option Addr} {n c : Nat} {Q : List ByteArray} (h : Txs w a n c Q) (h0 : 0 < n) : ∀ b off, a = some ⟨b, off, none⟩ → b < w.heap.size := fun b off ha => by
  obtain ⟨x, hx⟩ : ∃ x, Q[0]? = some x := ⟨_, List.getElem?_eq_getElem (by rw [h.size]; exact h0)⟩
  obtain ⟨b2, o2, e, hc⟩ := h.at tv1 (by decide) hx
  rw [ha] at e
  simp only [Option.some.injEq, Addr.mk.injEq] at e
  rw [e.1]
  exact block_lt_of_cell (hc 0 _ rfl)
theorem bel_al {a w : World} (h : Below a.heap.size a w) (o : Obj) : Below a.heap.size a (w.alloc o) := h.alloc h.size o
theorem chk_le20 (n : Nt) : chk n ≤ 20 := by
  unfold chk
  repeat' split
  all_goals decide
theorem begE_le (n : Nt) : begE n ≤ 20 := by
  unfold begE
  repeat' split
  all_goals first | decide | exact chk_le20 _
theorem addE_le (s : Sg) (P : List ByteArray) (n : Nt) : addE s P n ≤ 20 := by
  unfold addE
  repeat' split
  all_goals first | decide | exact begE_le _
theorem whE_le (s : Sg) (P : List ByteArray) : whE s P ≤ 20 := by
  unfold whE
  split <;> decide
/-- What a stage's pieces keep to. -/
def Few (P : List ByteArray) : Prop := P.length * 16 ≤ 140737488351232 ∧ ∀ x ∈ P, x.size ≤ 9223372036854775807
theorem few_nil : Few [] := ⟨by simp, fun x hx => by simp at hx⟩
theorem few_add {s : Sg} {P : List ByteArray} {n : Nt} (h : Few P) (hd : n.data.size ≤ 9223372036854775807) : Few (addP s P n) := by
  unfold addP
  split
  · refine ⟨by rw [List.length_set]; exact h.1, fun x hx => ?_⟩
    rcases List.mem_or_eq_of_mem_set hx with h1 | h1
    · exact h.2 x h1
    · rw [h1]; exact hd
  · exact few_nil
theorem few_beg {n : Nt} (hd : n.data.size ≤ 9223372036854775807) : Few (begP n) := by
  unfold begP
  split
  · rename_i h
    have ht : n.total ≤ 32 := by
      unfold begE at h
      split at h
      · rename_i h1
        split at h
        · rename_i h2
          exact (chk_chunk h1 h2).2.2.2.1
        · cases h
      · rename_i h1
        exact absurd h h1
    refine ⟨by rw [List.length_set, List.length_replicate]; omega, fun x hx => ?_⟩
    rcases List.mem_or_eq_of_mem_set hx with h1 | h1
    · rw [(List.mem_replicate.1 h1).2]
      exact Nat.zero_le _
    · rw [h1]; exact hd
  · exact few_nil
theorem er10_e {w : World} {E : Nat → Addr} (h : Errs w E) : Er10 w E := ⟨h.er7, h.v1, h.v5, h.v6⟩
theorem er7x_e {w : World} {E : Nat → Addr} (h : Errs w E) : Er7x w E := ⟨h.er7, h.v9, h.v10, h.v14⟩
theorem beg0 : begE ⟨1, 2, 1, 3, 2, 1, 1, 2, 0, ⟨#[122]⟩⟩ = 0 ∧ begS ⟨1, 2, 1, 3, 2, 1, 1, 2, 0, ⟨#[122]⟩⟩ = ⟨2, 1, 2, 1, 3, 2⟩ ∧ begP ⟨1, 2, 1, 3, 2, 1, 1, 2, 0, ⟨#[122]⟩⟩ = [⟨#[]⟩, ⟨#[122]⟩] := ⟨rfl, rfl, rfl⟩
theorem good0 : goodB ⟨2, 1, 2, 1, 3, 2⟩ [⟨#[]⟩, ⟨#[122]⟩] = true := rfl
/-- 128 zero bytes. -/
def d128 : ByteArray := str (List.replicate 128 0)
theorem d128_size : d128.size = 128 := by
  unfold d128
  rw [str_len, List.length_replicate]
theorem chk128 : chk ⟨1, 2, 1, 3, 2, 1, 0, 2, 0, d128⟩ = 0 := by
  have h : pieceOk d128 0 2 = true := by
    unfold pieceOk
    rw [if_neg (by decide), d128_size]
    rfl
  unfold chk
  rw [if_neg (by simp), if_pos]
  unfold nmN stagedN countedN filledN
  simp only [h, Bool.and_eq_true]
  exact ⟨⟨⟨rfl, rfl⟩, rfl⟩, rfl⟩
/-- What the law goes on with: a stage in form and a chunk in form. -/
def Sets (b1 b2 b3 b4 b5 b6 : Int) (Q : List ByteArray) (N : Nt) : Prop := goodB ⟨b1, b2, b3, b4, b5, b6⟩ Q = true ∧ chk N = 0 ∧ N.kind = 1 ∧ N.data.size ≤ 128 ∧ (∀ x ∈ Q, x.size ≤ 128) ∧ Q.length ≤ 32
theorem sets_of {b1 b2 b3 b4 b5 b6 : Int} {Q : List ByteArray} {N : Nt} (h1 : goodB ⟨b1, b2, b3, b4, b5, b6⟩ Q = true) (h2 : chk N = 0) (h3 : N.kind = 1) : Sets b1 b2 b3 b4 b5 b6 Q N := by
  obtain ⟨-, -, t1, t2, t3, t4⟩ := goodB_open h1
  obtain ⟨-, -, u1, u2, u3, u4, -, u6⟩ := chk_chunk h2 h3
  refine ⟨h1, h2, h3, ?_, pOk_small t4, by simp only at t1 t2 t3; omega⟩
  unfold pieceOk at u6
  split at u6
  · simp only [Bool.and_eq_true, decide_eq_true_eq] at u6
    exact u6.2
  · simp only [beq_iff_eq] at u6
    omega

theorem make128 (w : World) : ∃ w', (Instr.makeSlice 56 (.int .i64 128) (.int .i64 128)).run Tryz.prog w = .ok (.slice (some ⟨w.heap.size, 0, none⟩) 128 128) w' ∧ Bts w' (some ⟨w.heap.size, 0, none⟩) 128 128 (List.replicate 128 0) ∧ Below w.heap.size w w' := by
  obtain ⟨w', h1, h2, h3⟩ := made_recs (f := fun c : Nat => [bv c]) (sz := 1) (byt := 1) (fun _ => rfl) (by decide) 0 Tryz.underlying56 infoBy w 128 (by decide) (by decide)
  refine ⟨w', h1, ?_, h3⟩
  have h4 : Own w' w.heap.size (.slice (some ⟨w.heap.size, 0, none⟩) 128 128) (List.replicate 128 0) := by
    unfold LOwn at h2
    unfold Own
    rw [← List.map_eq_flatMap] at h2
    exact h2
  exact h4.bts List.length_replicate (by decide) (fun c hc => by rw [List.eq_of_mem_replicate hc]; decide)
theorem held14 {w : World} {g2 g6 gf : Nat} {b1 b2 b3 b4 b5 b6 : Int} {sa : Option Addr} {sn sc : Nat} {t t' : TypeId} (A6 : Bk w g6 [.int .i64 b1, .int .i64 b2, .int .i64 b3, .int .i64 b4, .int .i64 b5, .int .i64 b6, .slice (some ⟨gf, 0, none⟩) sn (sn + 9)] t) (A2 : Bk w g2 [.int .i64 b1, .int .i64 b2, .int .i64 b3, .int .i64 b4, .int .i64 b5, .int .i64 b6, .slice sa sn sc] t') : w.cell? ⟨g6, 0, none⟩ = some (.int .i64 b1) ∧ w.cell? ⟨g6, 1, none⟩ = some (.int .i64 b2) ∧ w.cell? ⟨g6, 2, none⟩ = some (.int .i64 b3) ∧ w.cell? ⟨g6, 3, none⟩ = some (.int .i64 b4) ∧ w.cell? ⟨g6, 4, none⟩ = some (.int .i64 b5) ∧ w.cell? ⟨g6, 5, none⟩ = some (.int .i64 b6) ∧ w.cell? ⟨g6, 6, none⟩ = some (.slice (some ⟨gf, 0, none⟩) sn (sn + 9)) ∧ w.cell? ⟨g2, 0, none⟩ = some (.int .i64 b1) ∧ w.cell? ⟨g2, 1, none⟩ = some (.int .i64 b2) ∧ w.cell? ⟨g2, 2, none⟩ = some (.int .i64 b3) ∧ w.cell? ⟨g2, 3, none⟩ = some (.int .i64 b4) ∧ w.cell? ⟨g2, 4, none⟩ = some (.int .i64 b5) ∧ w.cell? ⟨g2, 5, none⟩ = some (.int .i64 b6) ∧ w.cell? ⟨g2, 6, none⟩ = some (.slice sa sn sc) :=
  ⟨A6.cell 0 rfl, A6.cell 1 rfl, A6.cell 2 rfl, A6.cell 3 rfl, A6.cell 4 rfl, A6.cell 5 rfl, A6.cell 6 rfl, A2.cell 0 rfl, A2.cell 1 rfl, A2.cell 2 rfl, A2.cell 3 rfl, A2.cell 4 rfl, A2.cell 5 rfl, A2.cell 6 rfl⟩
theorem held35 {w : World} {g7 g10 g13 g16 g18 : Nat} {z1 z2 z3 z4 z5 z6 y1 y2 y3 y4 y5 y6 : Int} {va za vb vc vd : Option Addr} {zn yn vac zc vbc vcc vdc : Nat} {t t' : TypeId} (A10 : Bk w g10 [.int .i64 z1, .int .i64 z2, .int .i64 z3, .int .i64 z4, .int .i64 z5, .int .i64 z6, .slice va zn vac] t) (A7 : Bk w g7 [.int .i64 z1, .int .i64 z2, .int .i64 z3, .int .i64 z4, .int .i64 z5, .int .i64 z6, .slice za zn zc] t') (A13 : Bk w g13 [.int .i64 z1, .int .i64 z2, .int .i64 z3, .int .i64 z4, .int .i64 z5, .int .i64 z6, .slice vb zn vbc] t) (A16 : Bk w g16 [.int .i64 y1, .int .i64 y2, .int .i64 y3, .int .i64 y4, .int .i64 y5, .int .i64 y6, .slice vc yn vcc] t) (A18 : Bk w g18 [.int .i64 y1, .int .i64 y2, .int .i64 y3, .int .i64 y4, .int .i64 y5, .int .i64 y6, .slice vd yn vdc] t) : w.cell? ⟨g10, 0, none⟩ = some (.int .i64 z1) ∧ w.cell? ⟨g10, 1, none⟩ = some (.int .i64 z2) ∧ w.cell? ⟨g10, 2, none⟩ = some (.int .i64 z3) ∧ w.cell? ⟨g10, 3, none⟩ = some (.int .i64 z4) ∧ w.cell? ⟨g10, 4, none⟩ = some (.int .i64 z5) ∧ w.cell? ⟨g10, 5, none⟩ = some (.int .i64 z6) ∧ w.cell? ⟨g10, 6, none⟩ = some (.slice va zn vac) ∧ w.cell? ⟨g7, 0, none⟩ = some (.int .i64 z1) ∧ w.cell? ⟨g7, 1, none⟩ = some (.int .i64 z2) ∧ w.cell? ⟨g7, 2, none⟩ = some (.int .i64 z3) ∧ w.cell? ⟨g7, 3, none⟩ = some (.int .i64 z4) ∧ w.cell? ⟨g7, 4, none⟩ = some (.int .i64 z5) ∧ w.cell? ⟨g7, 5, none⟩ = some (.int .i64 z6) ∧ w.cell? ⟨g7, 6, none⟩ = some (.slice za zn zc) ∧ w.cell? ⟨g13, 0, none⟩ = some (.int .i64 z1) ∧ w.cell? ⟨g13, 1, none⟩ = some (.int .i64 z2) ∧ w.cell? ⟨g13, 2, none⟩ = some (.int .i64 z3) ∧ w.cell? ⟨g13, 3, none⟩ = some (.int .i64 z4) ∧ w.cell? ⟨g13, 4, none⟩ = some (.int .i64 z5) ∧ w.cell? ⟨g13, 5, none⟩ = some (.int .i64 z6) ∧ w.cell? ⟨g13, 6, none⟩ = some (.slice vb zn vbc) ∧ w.cell? ⟨g16, 0, none⟩ = some (.int .i64 y1) ∧ w.cell? ⟨g16, 1, none⟩ = some (.int .i64 y2) ∧ w.cell? ⟨g16, 2, none⟩ = some (.int .i64 y3) ∧ w.cell? ⟨g16, 3, none⟩ = some (.int .i64 y4) ∧ w.cell? ⟨g16, 4, none⟩ = some (.int .i64 y5) ∧ w.cell? ⟨g16, 5, none⟩ = some (.int .i64 y6) ∧ w.cell? ⟨g16, 6, none⟩ = some (.slice vc yn vcc) ∧ w.cell? ⟨g18, 0, none⟩ = some (.int .i64 y1) ∧ w.cell? ⟨g18, 1, none⟩ = some (.int .i64 y2) ∧ w.cell? ⟨g18, 2, none⟩ = some (.int .i64 y3) ∧ w.cell? ⟨g18, 3, none⟩ = some (.int .i64 y4) ∧ w.cell? ⟨g18, 4, none⟩ = some (.int .i64 y5) ∧ w.cell? ⟨g18, 5, none⟩ = some (.int .i64 y6) ∧ w.cell? ⟨g18, 6, none⟩ = some (.slice vd yn vdc) :=
  ⟨A10.cell 0 rfl, A10.cell 1 rfl, A10.cell 2 rfl, A10.cell 3 rfl, A10.cell 4 rfl, A10.cell 5 rfl, A10.cell 6 rfl, A7.cell 0 rfl, A7.cell 1 rfl, A7.cell 2 rfl, A7.cell 3 rfl, A7.cell 4 rfl, A7.cell 5 rfl, A7.cell 6 rfl, A13.cell 0 rfl, A13.cell 1 rfl, A13.cell 2 rfl, A13.cell 3 rfl, A13.cell 4 rfl, A13.cell 5 rfl, A13.cell 6 rfl, A16.cell 0 rfl, A16.cell 1 rfl, A16.cell 2 rfl, A16.cell 3 rfl, A16.cell 4 rfl, A16.cell 5 rfl, A16.cell 6 rfl, A18.cell 0 rfl, A18.cell 1 rfl, A18.cell 2 rfl, A18.cell 3 rfl, A18.cell 4 rfl, A18.cell 5 rfl, A18.cell 6 rfl⟩
theorem Bk.grown {w w' : World} {b gf : Nat} {cs : List Value} {t : TypeId} (h : Bk w b cs t) (hg : w.grownBy w' (some gf)) (hne : b ≠ gf) : Bk w' b cs t := by
  have h1 := h.lt
  unfold Bk at *
  rw [hg.block b h1 (fun e => hne (Option.some.inj e))]
  exact h
theorem own_keep {α : Type} {f : α → List Value} {sz : Nat} {e : TypeId} {w w' : World} {base gf : Nat} {v : Value} {l : List α} (h : LOwn f sz e w base v l) (hg : w.grownBy w' (some gf)) (hlt : gf < base) : LOwn f sz e w' base v l :=
  own_grown h hg (fun b hb e => by
    have h1 := (World.ownsRow.lt h b hb).1
    have h2 := Option.some.inj e
    omega)
theorem bk_keep {w w' : World} {b gf : Nat} {cs : List Value} {t : TypeId} (h : Bk w b cs t) (hg : w.grownBy w' (some gf)) (hlt : gf < b) : Bk w' b cs t := Bk.grown h hg (Nat.ne_of_gt hlt)
theorem below_keep {B gf : Nat} {a w w' : World} (h : Below B a w) (ha : B ≤ a.heap.size) (hg : w.grownBy w' (some gf)) (hle : B ≤ gf) : Below B a w' :=
  h.grown hg (Nat.le_trans ha h.size) (fun k e => by have h2 := Option.some.inj e; omega)
theorem fam_keep {w w' : World} {B gf : Nat} {U : List Sc} {M : List (List ByteArray)} (h : Fam w B U M) (hg : w.grownBy w' (some gf)) (hB : gf < B) : Fam w' B U M :=
  ⟨h.len, fun j s l h1 h2 => own_grown (h.own j s l h1 h2) hg (fun b hb e => by
    have := (World.ownsRow.lt (h.own j s l h1 h2) b hb).1
    have := Option.some.inj e
    omega), h.apart⟩
theorem ownb_below {w w' : World} {base : Nat} {v : Option Addr} {n : Nat} (h : OwnB w base v n) (hb : Below w.heap.size w w') : OwnB w' base v n := by
  rcases h with h | ⟨g, h1, h2, h3, h4⟩
  · exact .inl h
  · exact .inr ⟨g, h1, h2, Nat.lt_of_lt_of_le h3 hb.size, h4.below hb⟩
theorem ownb_lt {w : World} {base : Nat} {v : Option Addr} {n : Nat} (h : OwnB w base v n) : n = 0 ∨ ∃ g, v = some ⟨g, 0, none⟩ ∧ base ≤ g ∧ g < w.heap.size := by
  rcases h with h | ⟨g, h1, h2, h3, h4⟩
  · exact .inl h
  · exact .inr ⟨g, h1, h2, h3⟩
theorem whole_true (s : Sg) (P : List ByteArray) : whF s P = true → whE s P = 0 ∧ 1 ≤ (whB s P).length := by
  intro h
  have hg : goodB s P = true := by unfold whF at h; simp only [Bool.and_eq_true] at h; exact h.1
  have he : anyE P = false := by unfold whF at h; simp only [Bool.and_eq_true, Bool.not_eq_true'] at h; exact h.2
  refine ⟨if_pos hg, ?_⟩
  unfold whB
  rw [if_pos h]
  obtain ⟨-, -, t1, t2, t3, -⟩ := goodB_open hg
  match P, t3, he with
  | [], t3, _ => simp at t3; omega
  | x :: l, _, he =>
    unfold anyE at he
    simp only [List.any_cons, Bool.or_eq_false_iff, decide_eq_false_iff_not] at he
    unfold flat
    rw [List.map_cons, List.flatten_cons, List.length_append, bytesOf_len]
    omega
theorem grw_set (w : World) (g i : Nat) (v : Value) : w.grownBy (w.setCell ⟨g, i, none⟩ v) (some g) := ⟨rfl, rfl, rfl, by simp [World.setCell], fun k _ hk => heap_setCell_other w _ k v (fun e => hk (by rw [e]))⟩
theorem own_keep2 {α : Type} {f : α → List Value} {sz : Nat} {e : TypeId} {w w' : World} {base gf gw n c : Nat} {l : List α} (h : LOwn f sz e w base (.slice (some ⟨gf, 0, none⟩) n c) l) (hg : w.grownBy w' (some gw)) (hne : gf ≠ gw) : LOwn f sz e w' base (.slice (some ⟨gf, 0, none⟩) n c) l :=
  own_grown h hg (fun b hb e => by
    obtain rfl : gf = b := Option.some.inj hb
    exact hne (Option.some.inj e).symm)
theorem fam_lt {w : World} {B : Nat} {U : List Sc} {M : List (List ByteArray)} (h : Fam w B U M) : ∀ (j : Nat) (s : Sc) (b : Nat), U[j]? = some s → s.v.ownBlock = some b → b < w.heap.size := fun j s b hj hb => by
  have hj2 : j < M.length := by rw [← h.len]; exact (List.getElem?_eq_some_iff.1 hj).1
  exact (World.ownsRow.lt (h.own j s _ hj (List.getElem?_eq_getElem hj2)) b hb).2
theorem fam_keep2 {w w' : World} {B N gw : Nat} {U : List Sc} {M : List (List ByteArray)} (h : Fam w B U M) (hU : ∀ (j : Nat) (s : Sc) (b : Nat), U[j]? = some s → s.v.ownBlock = some b → b < N) (hg : w.grownBy w' (some gw)) (hN : N ≤ gw) : Fam w' B U M :=
  ⟨h.len, fun j s l h1 h2 => own_grown (h.own j s l h1 h2) hg (fun b hb e => by
    have := hU j s b h1 hb
    have := Option.some.inj e
    omega), h.apart⟩
theorem bts_keep {w w' : World} {gw : Nat} {a : Option Addr} {n c : Nat} {l : List Nat} (h : Bts w a n c l) (hg : w.grownBy w' (some gw)) (hne : ∀ b off, 0 < n → a = some ⟨b, off, none⟩ → b ≠ gw) : Bts w' a n c l := by
  refine ⟨h.size, h.most, h.fit, h.small, h.null, fun k hk => ?_⟩
  obtain ⟨b, off, ha, x, hl, hc⟩ := h.cell k hk
  refine ⟨b, off, ha, x, hl, ?_⟩
  have hlt := block_lt_of_cell hc
  rw [World.cell?_of_block (a := ⟨b, off + k, none⟩) (hg.block b hlt (fun e => hne b off (by omega) ha (Option.some.inj e)))]
  exact hc
theorem w_pick {w : World} {B s23 s25 wn xn : Nat} {wa xa : Option Addr} (h1 : OwnB w s23 wa wn) (h2 : wn = 0 ∨ ∃ g, wa = some ⟨g, 0, none⟩ ∧ s23 ≤ g ∧ g < s25) (h3 : OwnB w s25 xa xn) (h4 : B ≤ s23 ∧ s23 ≤ w.heap.size) :
    ∃ gw, (wn = 0 ∨ (wa = some ⟨gw, 0, none⟩ ∧ InB w gw wn)) ∧ (B ≤ gw ∧ s23 ≤ gw) ∧ (∀ b off, 0 < xn → xa = some ⟨b, off, none⟩ → b ≠ gw) := by
  by_cases h0 : wn = 0
  · refine ⟨w.heap.size, .inl h0, ⟨Nat.le_trans h4.1 h4.2, h4.2⟩, fun b off hx e => ?_⟩
    rcases h3 with h3 | ⟨g3, e3, l3, l4, -⟩
    · omega
    · rw [e3] at e
      simp only [Option.some.injEq, Addr.mk.injEq] at e
      omega
  · obtain ⟨g, e1, l1, l2, hI⟩ := h1.resolve_left h0
    refine ⟨g, .inr ⟨e1, hI⟩, ⟨Nat.le_trans h4.1 l1, l1⟩, fun b off hx e => ?_⟩
    rcases h3 with h3 | ⟨g3, e3, l3, l4, -⟩
    · omega
    · rw [e3] at e
      simp only [Option.some.injEq, Addr.mk.injEq] at e
      rcases h2 with h2 | ⟨g2, e2, l5, l6⟩
      · exact absurd h2 h0
      · rw [e1] at e2
        simp only [Option.some.injEq, Addr.mk.injEq] at e2
        omega
theorem z9_at {Q : List ByteArray} {n i : Nat} (hq : Q.length = n) (h1 : n ≤ i) (h2 : i < n + 9) : (Q ++ z9)[i]? = some ByteArray.empty := by
  rw [List.getElem?_append_right (by omega)]
  unfold z9
  rw [List.getElem?_replicate, if_pos (by omega)]
theorem bts_one {w : World} {g x : Nat} {t : TypeId} (h : Bk w g [.int .u8 (x : Int)] t) (hx : x < 256) : Bts w (some ⟨g, 0, none⟩) 1 1 [x] := by
  refine ⟨rfl, by decide, by decide, fun c hc => by simp only [List.mem_singleton] at hc; omega, fun e => by simp at e, fun k hk => ?_⟩
  obtain rfl : k = 0 := by omega
  exact ⟨g, 0, rfl, x, rfl, h.cell 0 rfl⟩
theorem held63 {w : World} {B gg gk k i n c gc : Nat} {L : List Sc} {l : List ByteArray} {x : ByteArray} (hG : LOwn scv 1 24 w B (.slice (some ⟨gg, 0, none⟩) 4 gc) L) (hX : TxOwn w B (.slice (some ⟨gk, 0, none⟩) n c) l) (hL : L[k]? = some ⟨some ⟨gk, 0, none⟩, n, c⟩) (hk : k < 4) (hn : l.length = n) (hi : i < n) (hx : ∀ y, y ∈ l → y = x) : w.cell? ⟨gg, k, none⟩ = some (.slice (some ⟨gk, 0, none⟩) n c) ∧ w.cell? ⟨gk, i, none⟩ = some (.string x) := by
  refine ⟨?_, ?_⟩
  · obtain ⟨b, o, e, hc⟩ := (own_rcs hG).at scv1 (by decide) hL
    simp only [Option.some.injEq, Addr.mk.injEq] at e
    obtain ⟨rfl, rfl, -⟩ := e
    have := hc 0 _ rfl
    rw [Nat.mul_one, Nat.add_zero, Nat.zero_add] at this
    exact this
  · have hxi : l[i]? = some x := by
      have h1 : i < l.length := by omega
      rw [List.getElem?_eq_getElem h1, hx _ (List.getElem_mem h1)]
    obtain ⟨b, o, e, hc⟩ := (own_rcs hX).at tv1 (by decide) hxi
    simp only [Option.some.injEq, Addr.mk.injEq] at e
    obtain ⟨rfl, rfl, -⟩ := e
    have := hc 0 _ rfl
    rw [Nat.mul_one, Nat.add_zero, Nat.zero_add] at this
    exact this
set_option maxRecDepth 100000 in
set_option maxHeartbeats 4000000 in
theorem law (p1 p2 p3 p4 p5 p6 : Int) (pa : Option Addr) (pn pc : Nat) (P : List ByteArray) (n : Nt) (w : World) {E : Nat → Addr} (he : Errs w E) (hP : Txs w pa pn pc P) (ok : n.Ok) :
    Calls Tryz.prog 4 #[.agg #[.int .i64 p1, .int .i64 p2, .int .i64 p3, .int .i64 p4, .int .i64 p5, .int .i64 p6, .slice pa pn pc], .agg n.cells.toArray] w fun e w' => e = .returned (.bool true) ∧ Below w.heap.size w w' := by
  have HOK := hide ok
  obtain ⟨nk, npt, nb, nr, nm, nst, nix, ntt, nsm, nd⟩ := n
  obtain ⟨W, hW, B0, B1, D0⟩ := box2 w [.int .i64 p1, .int .i64 p2, .int .i64 p3, .int .i64 p4, .int .i64 p5, .int .i64 p6, .slice pa pn pc] 26 [.int .i64 nk, .int .i64 npt, .int .i64 nb, .int .i64 nr, .int .i64 nm, .int .i64 nst, .int .i64 nix, .int .i64 ntt, .int .u32 nsm, .string nd] 33
  obtain ⟨g2, hg2⟩ : ∃ g, w.heap.size = g := ⟨_, rfl⟩
  obtain ⟨g3, hg3⟩ : ∃ g, g2 + 1 = g := ⟨_, rfl⟩
  have HG23 : Hid (g2 ≠ g3 ∧ w.heap.size ≤ g3 ∧ w.heap.size ≤ g2) := ⟨by omega, by omega, by omega⟩
  rw [hg2] at B0 B1
  rw [hg3] at B1
  have H2 := hide B0
  have H3 := hide B1
  have HD := hide D0
  have HE := hide he
  have HP := hide (hP.below D0)
  have HWD := hide hW
  have HG2 := hide hg2
  have HG3 := hide hg3
  clear B0 B1 D0 hW he hg2 hg3 ok hP
  show Calls Tryz.prog 4 #[.agg #[.int .i64 p1, .int .i64 p2, .int .i64 p3, .int .i64 p4, .int .i64 p5, .int .i64 p6, .slice pa pn pc], .agg #[.int .i64 nk, .int .i64 npt, .int .i64 nb, .int .i64 nr, .int .i64 nm, .int .i64 nst, .int .i64 nix, .int .i64 ntt, .int .u32 nsm, .string nd]] w _
  go_enter Tryz.func4, Tryz.ntmps4
  go_upto_region 1 with fail
  have hW := HWD.out
  have hg2 := HG2.out
  have hg3 := HG3.out
  clear HWD HG2 HG3
  simp only [hW, hg2, hg3]
  clear hW hg2 hg3
  go_wp2_with fail
  refine Calls.mono (known_any (er10_e (HE.out.below HD.out))) ?_
  rintro e w1 ⟨rfl, b1⟩
  replace H2 := hide (H2.out.below b1)
  replace H3 := hide (H3.out.below b1)
  replace HP := hide (HP.out.below b1)
  replace HD := hide (chain HD.out b1)
  clear b1
  have HRG := hide (fun (w' : World) (h : Txs w' pa pn pc P) => rgoodS_any ⟨p1, p2, p3, p4, p5, p6⟩ pa pn pc P h)
  have HRC := hide (fun (w' : World) => rcheck_any nk npt nb nr nm nst nix ntt nsm nd w' HOK.out.d1 HOK.out.t1 HOK.out.t2)
  obtain ⟨G, hG⟩ : ∃ x, goodB ⟨p1, p2, p3, p4, p5, p6⟩ P = x := ⟨_, rfl⟩
  obtain ⟨R, hR⟩ : ∃ x, chk ⟨nk, npt, nb, nr, nm, nst, nix, ntt, nsm, nd⟩ = x := ⟨_, rfl⟩
  rw [hG] at HRG
  rw [hR] at HRC
  have HGV := hide hG
  have HRV := hide hR
  clear hG hR
  unfold Sg.cells at HRG
  simp only at HRG
  go_upto_region 3 with fail
  go_cut [54] from 42 to 54 (fun v wz => ∃ y : Bool, v = .bool y ∧ Hid (y = false → goodB ⟨p1, p2, p3, p4, p5, p6⟩ P = true ∧ chk ⟨nk, npt, nb, nr, nm, nst, nix, ntt, nsm, nd⟩ = 0 ∧ nk = 1) ∧ Hid (Below w1.heap.size w1 wz))
  case first =>
    have a0 := H2.out.cell 0 rfl
    have a1 := H2.out.cell 1 rfl
    have a2 := H2.out.cell 2 rfl
    have a3 := H2.out.cell 3 rfl
    have a4 := H2.out.cell 4 rfl
    have a5 := H2.out.cell 5 rfl
    have a6 := H2.out.cell 6 rfl
    go_wp2_with fail
    refine Calls.mono (HRG.out w1 HP.out) ?_
    rintro e w2 ⟨rfl, b2⟩
    have B2 := hide b2
    have J2 := hide (H2.out.below b2)
    have J3 := hide (H3.out.below b2)
    clear b2 HRG a0 a1 a2 a3 a4 a5 a6
    cases G with
    | false =>
      go_wp2
      go_meet
      case rel => exact ⟨true, rfl, fun h => absurd h (by decide), B2.out⟩
    | true =>
      have a0 := J3.out.cell 0 rfl
      have a1 := J3.out.cell 1 rfl
      have a2 := J3.out.cell 2 rfl
      have a3 := J3.out.cell 3 rfl
      have a4 := J3.out.cell 4 rfl
      have a5 := J3.out.cell 5 rfl
      have a6 := J3.out.cell 6 rfl
      have a7 := J3.out.cell 7 rfl
      have a8 := J3.out.cell 8 rfl
      have a9 := J3.out.cell 9 rfl
      go_wp2_with fail
      refine Calls.mono (HRC.out w2) ?_
      rintro e w3 ⟨rfl, b3⟩
      have L3 := hide (J3.out.below b3)
      have B3 := hide (chain B2.out b3)
      clear b3 HRC a0 a1 a2 a3 a4 a5 a6 a7 a8 a9
      have a0 := L3.out.cell 0 rfl
      by_cases hR0 : R = 0
      · subst hR0
        by_cases hk : nk = 1
        · have hy : Hid (goodB ⟨p1, p2, p3, p4, p5, p6⟩ P = true ∧ chk ⟨nk, npt, nb, nr, nm, nst, nix, ntt, nsm, nd⟩ = 0 ∧ nk = 1) := ⟨HGV.out, HRV.out, hk⟩
          have d1 : (nk != 1) = false := by simp [hk]
          clear hk
          go_wp2
          go_meet
          case rel => exact ⟨false, rfl, fun _ => hy.out, B3.out⟩
        · have d1 : (nk != 1) = true := by simp [hk]
          clear hk
          go_wp2
          go_meet
          case rel => exact ⟨true, rfl, fun h => absurd h (by decide), B3.out⟩
      · have d1 : ((R : Int) != 0) = true := by simp; omega
        clear hR0
        go_wp2
        go_meet
        case rel => exact ⟨true, rfl, fun h => absurd h (by decide), B3.out⟩
  case rest =>
  obtain ⟨y, rfl, HY, HB⟩ := hcut
  obtain ⟨w2, hw2⟩ : ∃ z, z = wc := ⟨_, rfl⟩
  subst hw2
  replace H2 := hide (H2.out.below HB.out)
  replace H3 := hide (H3.out.below HB.out)
  replace HP := hide (HP.out.below HB.out)
  replace HD := hide (chain HD.out HB.out)
  clear HB HRG HRC HGV HRV
  go_upto_if 54 with fail
  go_cut [54] from 55 to 66 (fun v wz => ∃ (b1 b2 b3 b4 b5 b6 : Int) (sa : Option Addr) (sn sc : Nat) (Q : List ByteArray) (N : Nt), Hid (Bk wz g2 [.int .i64 b1, .int .i64 b2, .int .i64 b3, .int .i64 b4, .int .i64 b5, .int .i64 b6, .slice sa sn sc] 26) ∧ Hid (Bk wz g3 N.cells 33) ∧ Hid (Txs wz sa sn sc Q) ∧ Hid (Sets b1 b2 b3 b4 b5 b6 Q N) ∧ Hid (Below w.heap.size w wz))
  case first =>
    cases y with
    | false =>
      have hs := HY.out rfl
      have HS := hide (sets_of hs.1 hs.2.1 hs.2.2)
      clear hs
      go_wp2
      go_meet
      case rel => exact ⟨p1, p2, p3, p4, p5, p6, pa, pn, pc, P, ⟨nk, npt, nb, nr, nm, nst, nix, ntt, nsm, nd⟩, H2.out, H3.out, HP.out, HS.out, HD.out⟩
    | true =>
      clear HY
      have hfx := fNt_xid
      go_upto_region 4 with fail
      go_wp2_with fail
      refine Calls.mono (first_any _) ?_
      rintro e w3 ⟨rfl, b3⟩
      replace H2 := hide (H2.out.below b3)
      replace H3 := hide (H3.out.below b3)
      replace HD := hide (chain HD.out b3)
      clear b3
      have HBG := hide (fun (w' : World) => rbegin_any (w := w') 1 2 1 3 2 1 1 2 0 ⟨#[122]⟩ (by decide) (by decide) (by decide))
      rw [beg0.1, beg0.2.1, beg0.2.2] at HBG
      go_wp2_with fail
      refine Calls.mono (HBG.out w3) ?_
      rintro e w4 ⟨v, rfl, o4, b4⟩
      obtain ⟨qa, qc, rfl⟩ := own_len (n := 2) o4 rfl
      unfold Sg.cells
      simp only
      have HQ := hide o4
      have HL3 : Hid (g2 < w3.heap.size ∧ g3 < w3.heap.size) := ⟨H2.out.lt, H3.out.lt⟩
      replace H2 := hide (H2.out.below b4)
      replace H3 := hide (H3.out.below b4)
      replace HD := hide (chain HD.out b4)
      clear b4 o4 HBG
      have a0 := H2.out.cell 0 rfl
      have a1 := H2.out.cell 1 rfl
      have a2 := H2.out.cell 2 rfl
      have a3 := H2.out.cell 3 rfl
      have a4 := H2.out.cell 4 rfl
      have a5 := H2.out.cell 5 rfl
      have a6 := H2.out.cell 6 rfl
      have b0 := H2.out.frozen 0
      have b1 := H2.out.frozen 1
      have b2 := H2.out.frozen 2
      have b3 := H2.out.frozen 3
      have b4 := H2.out.frozen 4
      have b5 := H2.out.frozen 5
      have b6 := H2.out.frozen 6
      have T2 := hide (H2.out.sets [.int .i64 2, .int .i64 1, .int .i64 2, .int .i64 1, .int .i64 3, .int .i64 2, .slice qa 2 qc] rfl)
      have T3 := hide (Bk.others (Ne.symm HG23.out.1) [.int .i64 2, .int .i64 1, .int .i64 2, .int .i64 1, .int .i64 3, .int .i64 2, .slice qa 2 qc] 0 H3.out)
      have TQ := hide (LOwn.fars (HQ.out.off HL3.out.1) [.int .i64 2, .int .i64 1, .int .i64 2, .int .i64 1, .int .i64 3, .int .i64 2, .slice qa 2 qc] 0 HQ.out)
      have TD := hide (below_sets HG23.out.2.2 [.int .i64 2, .int .i64 1, .int .i64 2, .int .i64 1, .int .i64 3, .int .i64 2, .slice qa 2 qc] 0 HD.out)
      have HQ3 := hide (HQ.out.off HL3.out.2)
      go_upto_region 5 with fail
      obtain ⟨w8, hw8⟩ : ∃ z, (((((((w4.setCell ⟨g2, 0, none⟩ (.int .i64 2)).setCell ⟨g2, 1, none⟩ (.int .i64 1)).setCell ⟨g2, 2, none⟩ (.int .i64 2)).setCell ⟨g2, 3, none⟩ (.int .i64 1)).setCell ⟨g2, 4, none⟩ (.int .i64 3)).setCell ⟨g2, 5, none⟩ (.int .i64 2)).setCell ⟨g2, 6, none⟩ (.slice qa 2 qc)) = z := ⟨_, rfl⟩
      simp only [hw8]
      rw [show World.setCells w4 g2 0 [.int .i64 2, .int .i64 1, .int .i64 2, .int .i64 1, .int .i64 3, .int .i64 2, .slice qa 2 qc] = w8 from hw8] at T2 T3 TQ TD
      clear hw8 a0 b0 a1 b1 a2 b2 a3 b3 a4 b4 a5 b5 a6 b6 H2 H3 HQ HD HL3
      replace HG23 : Hid (g2 ≠ g3 ∧ w.heap.size ≤ g3) := ⟨HG23.out.1, HG23.out.2.1⟩
      refine wp_region_held_drew (S := fun _ => True) (by kernel_rfl) trivial (fun hHeld => ?_)
      refine by_key1 (fun wz => Below w8.heap.size w8 wz) (fun (a : Act) (g : Nat) => (((a.put (some 62) (.agg #[.int .i64 4, .int .i64 2, .int .i64 1, .int .i64 3, .int .i64 2, .int .i64 0, .int .i64 0, .int .i64 0, .int .u32 0, .string ⟨#[]⟩])).put (some 63) (.agg #[.int .i64 1, .int .i64 3, .int .i64 2])).put (some 64) (.slice (some ⟨g, 0, none⟩) 128 128)).put (some 65) (.string d128)) #[true, true, true, true, false, false] 2 ?_ ?_
      · intro key0
        simp only [Act.put, List.setIfInBounds_toArray, List.set_cons_zero, List.set_cons_succ] at key0
        have KY := hide key0
        clear key0
        refine wpAnyH_ready (rs := [0, 2]) (by kernel_rfl) (by simp) ?_
        refine AllReadyH.cons (o := { dst := some 62, op := Go.Op.call { callee := Go.Callee.value (Go.Operand.func 21), args := #[], argTypes := #[] }, type := 33, pos := "outright.go:110", after := #[], guard := none }) rfl (fun K hK => ?_) ?_
        · go_simp
          go_at_call 21
          with_reducible refine Calls.mono (first_any _) ?_
          rintro e v1 ⟨rfl, b1⟩
          have V1 := hide (chain (show Below w8.heap.size w8 _ from (by repeat (first | with_reducible exact Below.refl _ _ | with_reducible refine Below.drew ?_ | with_reducible refine bel_al ?_ _))) b1)
          clear b1
          try dsimp only
          refine hK.out _ _ trivial (fun hHeld2 => ?_)
          clear hK K
          try simp only [Act.put, List.setIfInBounds_toArray, List.set_cons_zero, List.set_cons_succ]
          refine wpAnyH_take (i := 1) (oi := { dst := some 63, op := Go.Op.field 33 (Go.Operand.tmp 62) 2, type := 23, pos := "outright.go:110", after := #[{ on := 0, ground := Go.Ground.data }], guard := none }) (v := ?_) rfl (by kernel_rfl) (by kernel_rfl) (by kernel_rfl) (fun _ _ _ h => h) (Or.inl ⟨by rfl, ?_⟩) (by assumption) ?_
          rotate_left
          · intro w hSw
            go_simp
            try with_reducible rfl
          simp only [Act.put, List.setIfInBounds_toArray, List.set_cons_zero, List.set_cons_succ]
          refine wpAnyH_ready (rs := [2]) (by kernel_rfl) (by simp) ?_
          refine AllReadyH.cons (o := { dst := some 64, op := Go.Op.makeSlice 56 (Go.Operand.const (Go.Value.int Go.IntKind.i64 128)) (Go.Operand.const (Go.Value.int Go.IntKind.i64 128)), type := 56, pos := "outright.go:110", after := #[], guard := none }) rfl (fun K hK => ?_) ?_
          · obtain ⟨v2, hrun, o2, b2⟩ := make128 (v1)
            have V2 := hide (chain (show Below w8.heap.size w8 _ from (by repeat (first | with_reducible exact Below.refl _ _ | with_reducible exact V1.out | with_reducible refine Below.drew ?_ | with_reducible refine bel_al ?_ _))) b2)
            obtain ⟨gm, hgm⟩ : ∃ g, (v1).heap.size = g := ⟨_, rfl⟩
            rw [hgm] at hrun o2
            have ST := hide o2
            clear o2 b2 hgm
            go_simp
            try simp only [hrun, Result.andThen_ok]
            clear hrun
            refine hK.out _ _ trivial (fun hHeld2 => ?_)
            clear hK K
            try simp only [Act.put, List.setIfInBounds_toArray, List.set_cons_zero, List.set_cons_succ]
            refine wpAnyH_ready (rs := [3]) (by kernel_rfl) (by simp) ?_
            refine AllReadyH.cons (o := { dst := some 65, op := Go.Op.convert 56 9 (Go.Operand.tmp 64), type := 9, pos := "outright.go:110", after := #[{ on := 2, ground := Go.Ground.data }], guard := none }) rfl (fun K hK => ?_) ?_
            · have hcv := bts_string ST.out
              go_simp
              clear hcv
              refine hK.out _ _ trivial (fun hHeld2 => ?_)
              clear hK K
              try simp only [Act.put, List.setIfInBounds_toArray, List.set_cons_zero, List.set_cons_succ]
              refine wpAnyH_listed (show _ = #[true, true, true, true, false, false] by kernel_rfl) ?_
              exact KY.out gm _ (by repeat (first | with_reducible exact Below.refl _ _ | with_reducible exact V2.out | with_reducible refine Below.drew ?_ | with_reducible refine bel_al ?_ _))
            exact AllReadyH.nil
          exact AllReadyH.nil
        refine AllReadyH.cons (o := { dst := some 64, op := Go.Op.makeSlice 56 (Go.Operand.const (Go.Value.int Go.IntKind.i64 128)) (Go.Operand.const (Go.Value.int Go.IntKind.i64 128)), type := 56, pos := "outright.go:110", after := #[], guard := none }) rfl (fun K hK => ?_) ?_
        · obtain ⟨v2, hrun, o2, b2⟩ := make128 (w8.drew)
          have V2 := hide (chain (show Below w8.heap.size w8 _ from (by repeat (first | with_reducible exact Below.refl _ _ | with_reducible refine Below.drew ?_ | with_reducible refine bel_al ?_ _))) b2)
          obtain ⟨gm, hgm⟩ : ∃ g, (w8.drew).heap.size = g := ⟨_, rfl⟩
          rw [hgm] at hrun o2
          have ST := hide o2
          clear o2 b2 hgm
          go_simp
          try simp only [hrun, Result.andThen_ok]
          clear hrun
          refine hK.out _ _ trivial (fun hHeld2 => ?_)
          clear hK K
          try simp only [Act.put, List.setIfInBounds_toArray, List.set_cons_zero, List.set_cons_succ]
          refine wpAnyH_ready (rs := [0, 3]) (by kernel_rfl) (by simp) ?_
          refine AllReadyH.cons (o := { dst := some 62, op := Go.Op.call { callee := Go.Callee.value (Go.Operand.func 21), args := #[], argTypes := #[] }, type := 33, pos := "outright.go:110", after := #[], guard := none }) rfl (fun K hK => ?_) ?_
          · go_simp
            go_at_call 21
            with_reducible refine Calls.mono (first_any _) ?_
            rintro e v1 ⟨rfl, b1⟩
            have V1 := hide (chain (show Below w8.heap.size w8 _ from (by repeat (first | with_reducible exact Below.refl _ _ | with_reducible exact V2.out | with_reducible refine Below.drew ?_ | with_reducible refine bel_al ?_ _))) b1)
            replace ST := hide (ST.out.below b1)
            clear b1
            try dsimp only
            refine hK.out _ _ trivial (fun hHeld2 => ?_)
            clear hK K
            try simp only [Act.put, List.setIfInBounds_toArray, List.set_cons_zero, List.set_cons_succ]
            refine wpAnyH_take (i := 1) (oi := { dst := some 63, op := Go.Op.field 33 (Go.Operand.tmp 62) 2, type := 23, pos := "outright.go:110", after := #[{ on := 0, ground := Go.Ground.data }], guard := none }) (v := ?_) rfl (by kernel_rfl) (by kernel_rfl) (by kernel_rfl) (fun _ _ _ h => h) (Or.inl ⟨by rfl, ?_⟩) (by assumption) ?_
            rotate_left
            · intro w hSw
              go_simp
              try with_reducible rfl
            simp only [Act.put, List.setIfInBounds_toArray, List.set_cons_zero, List.set_cons_succ]
            refine wpAnyH_ready (rs := [3]) (by kernel_rfl) (by simp) ?_
            refine AllReadyH.cons (o := { dst := some 65, op := Go.Op.convert 56 9 (Go.Operand.tmp 64), type := 9, pos := "outright.go:110", after := #[{ on := 2, ground := Go.Ground.data }], guard := none }) rfl (fun K hK => ?_) ?_
            · have hcv := bts_string ST.out
              go_simp
              clear hcv
              refine hK.out _ _ trivial (fun hHeld2 => ?_)
              clear hK K
              try simp only [Act.put, List.setIfInBounds_toArray, List.set_cons_zero, List.set_cons_succ]
              refine wpAnyH_listed (show _ = #[true, true, true, true, false, false] by kernel_rfl) ?_
              exact KY.out gm _ (by repeat (first | with_reducible exact Below.refl _ _ | with_reducible exact V1.out | with_reducible refine Below.drew ?_ | with_reducible refine bel_al ?_ _))
            exact AllReadyH.nil
          refine AllReadyH.cons (o := { dst := some 65, op := Go.Op.convert 56 9 (Go.Operand.tmp 64), type := 9, pos := "outright.go:110", after := #[{ on := 2, ground := Go.Ground.data }], guard := none }) rfl (fun K hK => ?_) ?_
          · have hcv := bts_string ST.out
            go_simp
            clear hcv
            refine hK.out _ _ trivial (fun hHeld2 => ?_)
            clear hK K
            try simp only [Act.put, List.setIfInBounds_toArray, List.set_cons_zero, List.set_cons_succ]
            refine wpAnyH_ready (rs := [0]) (by kernel_rfl) (by simp) ?_
            refine AllReadyH.cons (o := { dst := some 62, op := Go.Op.call { callee := Go.Callee.value (Go.Operand.func 21), args := #[], argTypes := #[] }, type := 33, pos := "outright.go:110", after := #[], guard := none }) rfl (fun K hK => ?_) ?_
            · go_simp
              go_at_call 21
              with_reducible refine Calls.mono (first_any _) ?_
              rintro e v1 ⟨rfl, b1⟩
              have V1 := hide (chain (show Below w8.heap.size w8 _ from (by repeat (first | with_reducible exact Below.refl _ _ | with_reducible exact V2.out | with_reducible refine Below.drew ?_ | with_reducible refine bel_al ?_ _))) b1)
              clear b1
              try dsimp only
              refine hK.out _ _ trivial (fun hHeld2 => ?_)
              clear hK K
              try simp only [Act.put, List.setIfInBounds_toArray, List.set_cons_zero, List.set_cons_succ]
              refine wpAnyH_take (i := 1) (oi := { dst := some 63, op := Go.Op.field 33 (Go.Operand.tmp 62) 2, type := 23, pos := "outright.go:110", after := #[{ on := 0, ground := Go.Ground.data }], guard := none }) (v := ?_) rfl (by kernel_rfl) (by kernel_rfl) (by kernel_rfl) (fun _ _ _ h => h) (Or.inl ⟨by rfl, ?_⟩) (by assumption) ?_
              rotate_left
              · intro w hSw
                go_simp
                try with_reducible rfl
              simp only [Act.put, List.setIfInBounds_toArray, List.set_cons_zero, List.set_cons_succ]
              refine wpAnyH_listed (show _ = #[true, true, true, true, false, false] by kernel_rfl) ?_
              exact KY.out gm _ (by repeat (first | with_reducible exact Below.refl _ _ | with_reducible exact V1.out | with_reducible refine Below.drew ?_ | with_reducible refine bel_al ?_ _))
            exact AllReadyH.nil
          exact AllReadyH.nil
        exact AllReadyH.nil
      · intro g wz hF
        simp only [Act.put, List.setIfInBounds_toArray, List.set_cons_zero, List.set_cons_succ]
        refine wpAnyH_take (i := 4) (oi := { dst := some 66, op := Go.Op.build 33 #[(0, Go.Operand.const (Go.Value.int Go.IntKind.i64 1)), (1, Go.Operand.const (Go.Value.int Go.IntKind.i64 2)), (2, Go.Operand.tmp 63), (3, Go.Operand.const (Go.Value.int Go.IntKind.i64 1)), (4, Go.Operand.const (Go.Value.int Go.IntKind.i64 0)), (5, Go.Operand.const (Go.Value.int Go.IntKind.i64 2)), (7, Go.Operand.tmp 65)], type := 33, pos := "outright.go:110", after := #[{ on := 1, ground := Go.Ground.data }, { on := 3, ground := Go.Ground.data }], guard := none }) (v := ?_) rfl (by kernel_rfl) (by kernel_rfl) (by kernel_rfl) (fun _ _ _ h => h) (Or.inl ⟨by rfl, ?_⟩) (by assumption) ?_
        rotate_left
        · intro w hSw
          go_simp
          try with_reducible rfl
        simp only [Act.put, List.setIfInBounds_toArray, List.set_cons_zero, List.set_cons_succ]
        have M3 := hide (T3.out.below hF)
        have a0 := M3.out.cell 0 rfl
        have a1 := M3.out.cell 1 rfl
        have a2 := M3.out.cell 2 rfl
        have a3 := M3.out.cell 3 rfl
        have a4 := M3.out.cell 4 rfl
        have a5 := M3.out.cell 5 rfl
        have a6 := M3.out.cell 6 rfl
        have a7 := M3.out.cell 7 rfl
        have a8 := M3.out.cell 8 rfl
        have a9 := M3.out.cell 9 rfl
        have b0 := M3.out.frozen 0
        have b1 := M3.out.frozen 1
        have b2 := M3.out.frozen 2
        have b3 := M3.out.frozen 3
        have b4 := M3.out.frozen 4
        have b5 := M3.out.frozen 5
        have b6 := M3.out.frozen 6
        have b7 := M3.out.frozen 7
        have b8 := M3.out.frozen 8
        have b9 := M3.out.frozen 9
        have K3 := hide (M3.out.sets [.int .i64 1, .int .i64 2, .int .i64 1, .int .i64 3, .int .i64 2, .int .i64 1, .int .i64 0, .int .i64 2, .int .u32 0, .string d128] rfl)
        have K2 := hide (Bk.others HG23.out.1 [.int .i64 1, .int .i64 2, .int .i64 1, .int .i64 3, .int .i64 2, .int .i64 1, .int .i64 0, .int .i64 2, .int .u32 0, .string d128] 0 (T2.out.below hF))
        have KQ := hide (LOwn.fars HQ3.out [.int .i64 1, .int .i64 2, .int .i64 1, .int .i64 3, .int .i64 2, .int .i64 1, .int .i64 0, .int .i64 2, .int .u32 0, .string d128] 0 (TQ.out.below hF))
        have KD := hide (below_sets HG23.out.2 [.int .i64 1, .int .i64 2, .int .i64 1, .int .i64 3, .int .i64 2, .int .i64 1, .int .i64 0, .int .i64 2, .int .u32 0, .string d128] 0 (chain TD.out hF))
        clear hF
        refine wpAnyH_ready (rs := [5]) (by kernel_rfl) (by simp) ?_
        refine AllReadyH.cons (o := { dst := none, op := Go.Op.store 33 (Go.Operand.tmp 3) (Go.Operand.tmp 66), type := 0, pos := "outright.go:110", after := #[{ on := 4, ground := Go.Ground.data }, { on := 0, ground := Go.Ground.chain }, { on := 0, ground := Go.Ground.phase }, { on := 1, ground := Go.Ground.phase }, { on := 2, ground := Go.Ground.phase }, { on := 3, ground := Go.Ground.phase }, { on := 4, ground := Go.Ground.phase }], guard := none }) rfl (fun K hK => ?_) AllReadyH.nil
        go_simp
        refine hK.out _ _ trivial (fun hHeld2 => ?_)
        clear hK K
        refine wpAnyH_done (by kernel_rfl) ?_ _
        clear hHeld2 a0 b0 a1 b1 a2 b2 a3 b3 a4 b4 a5 b5 a6 b6 a7 b7 a8 b8 a9 b9
        obtain ⟨W13, hW13⟩ : ∃ W13, ((((((((((wz.setCell ⟨g3, 0, none⟩ (.int .i64 1)).setCell ⟨g3, 1, none⟩ (.int .i64 2)).setCell ⟨g3, 2, none⟩ (.int .i64 1)).setCell ⟨g3, 3, none⟩ (.int .i64 3)).setCell ⟨g3, 4, none⟩ (.int .i64 2)).setCell ⟨g3, 5, none⟩ (.int .i64 1)).setCell ⟨g3, 6, none⟩ (.int .i64 0)).setCell ⟨g3, 7, none⟩ (.int .i64 2)).setCell ⟨g3, 8, none⟩ (.int .u32 0)).setCell ⟨g3, 9, none⟩ (.string d128)) = W13 := ⟨_, rfl⟩
        simp only [hW13]
        rw [show World.setCells wz g3 0 [.int .i64 1, .int .i64 2, .int .i64 1, .int .i64 3, .int .i64 2, .int .i64 1, .int .i64 0, .int .i64 2, .int .u32 0, .string d128] = W13 from hW13] at K3 K2 KQ KD
        clear hW13
        go_wp2
        go_meet
        case rel => exact ⟨2, 1, 2, 1, 3, 2, qa, 2, qc, [⟨#[]⟩, ⟨#[122]⟩], ⟨1, 2, 1, 3, 2, 1, 0, 2, 0, d128⟩, K2.out, K3.out, own_rcs KQ.out, sets_of good0 chk128 rfl, KD.out⟩
  case rest =>
  obtain ⟨b1, b2, b3, b4, b5, b6, sa, sn, sc, Q, N, K2, K3, KP, KS, KD⟩ := hcut
  obtain ⟨w3, hw3⟩ : ∃ z, z = wc := ⟨_, rfl⟩
  subst hw3
  obtain ⟨v54, hv54⟩ : ∃ z, z = u54 := ⟨_, rfl⟩
  subst hv54
  clear HY H2 H3 HP HD HOK
  obtain ⟨k1, k2, k3, k4, k5, k6, k7, k8, k9, kd⟩ := N
  have hqs := KP.out.size
  have h32 : sn ≤ 32 := by have := KS.out.2.2.2.2.2; omega
  have HS32 := hide h32
  have HQS := hide hqs
  have h1n : 1 ≤ sn := by obtain ⟨-, -, t1, t2, t3, -⟩ := goodB_open KS.out.1; simp only at t1 t3; omega
  have HPB : Hid (∀ b off, sa = some ⟨b, off, none⟩ → b < w3.heap.size) := txs_lt KP.out h1n
  have H1N := hide h1n
  have h9 : wrap64 ((sn : Int) + 9) = (sn : Int) + 9 := by unfold wrap64; omega
  have c6 := K2.out.cell 6 rfl
  go_upto_region 6 with fail
  go_wp2_with (refine make_recs (f := tv) tv1 (by decide) ByteArray.empty Tryz.underlying24 infoTx rfl (.tmp 70) (.tmp 70) rfl ((sn : Int) + 9) ((sn : Int) + 9) (sn + 9) rfl rfl (by omega) (by omega) (by omega) (by omega) ?_; intro w4 hO hb; have HO4 := hide hO; have HB4 := hide hb; have d6 := (K2.out.below hb).cell 6 rfl; clear hO hb)
  obtain ⟨w5, hrun, ho5, hb5⟩ := copy_txs HO4.out (KP.out.below HB4.out) 3
  rw [hrun]
  simp only [Result.andThen_ok]
  obtain ⟨gf, hgf⟩ : ∃ g, w3.heap.size = g := ⟨_, rfl⟩
  have b35 : Below w3.heap.size w3 w5 := HB4.out.trans hb5
  have HFL : Hid (gf < w5.heap.size) := by rw [← hgf]; exact Nat.lt_of_lt_of_le (World.ownsRow.lt HO4.out _ rfl).2 hb5.size
  have HGF : Hid (w.heap.size ≤ gf ∧ g2 < gf ∧ g3 < gf) := by
    have h1 := KD.out.size
    have h2 := K2.out.lt
    have h3 := K3.out.lt
    exact ⟨by omega, by omega, by omega⟩
  rw [hgf] at ho5 HPB
  have HU := hide ho5
  replace K2 := hide (K2.out.below b35)
  replace K3 := hide (K3.out.below b35)
  replace KP := hide (KP.out.below b35)
  replace KD := hide (chain KD.out b35)
  simp only [hgf]
  clear hrun ho5 hb5 b35 HO4 HB4 c6 d6 hgf h9 hqs h32 h1n
  have HOU := hide (fun (w' : World) (h : Txs w' sa sn sc Q) => ours_any b1 b2 b3 b4 b5 b6 sa sn sc Q h (by have := HS32.out; omega))
  have a0 := K2.out.cell 0 rfl
  have a1 := K2.out.cell 1 rfl
  have a2 := K2.out.cell 2 rfl
  have a3 := K2.out.cell 3 rfl
  have a4 := K2.out.cell 4 rfl
  have a5 := K2.out.cell 5 rfl
  have a6 := K2.out.cell 6 rfl
  go_upto_region 8 with fail
  go_wp2_with fail
  refine Calls.mono (HOU.out w5 KP.out) ?_
  rintro e w6 ⟨ua, uc, rfl, o6, b6'⟩
  replace K2 := hide (K2.out.below b6')
  replace K3 := hide (K3.out.below b6')
  replace KP := hide (KP.out.below b6')
  replace HU := hide (HU.out.below b6')
  replace KD := hide (chain KD.out b6')
  have HFL6 : Hid (gf < w6.heap.size) := Nat.lt_of_lt_of_le HFL.out b6'.size
  clear o6 b6' HOU HFL a0 a1 a2 a3 a4 a5 a6
  obtain ⟨w7, hW, B, D⟩ := box1 w6 [.int .i64 b1, .int .i64 b2, .int .i64 b3, .int .i64 b4, .int .i64 b5, .int .i64 b6, .slice ua sn uc] 34
  obtain ⟨g6, hg⟩ : ∃ g, w6.heap.size = g := ⟨_, rfl⟩
  rw [hg] at B HFL6
  have K6 := hide B
  have HWb := hide hW
  have HGb := hide hg
  have HG6 : Hid (g2 ≠ g6 ∧ g3 ≠ g6 ∧ gf < g6) := by have h1 := HGF.out; have h2 := HFL6.out; exact ⟨by omega, by omega, h2⟩
  replace K2 := hide (K2.out.below D)
  replace K3 := hide (K3.out.below D)
  replace KP := hide (KP.out.below D)
  replace HU := hide (HU.out.below D)
  replace KD := hide (chain KD.out D)
  clear B D hW hg
  go_upto_region 9 with fail
  have hW := HWb.out
  have hg := HGb.out
  simp only [hW, hg]
  clear hW hg HWb HGb
  have c6 := K2.out.cell 6 rfl
  have a6 := K6.out.cell 6 rfl
  have f6 := K6.out.frozen 6
  have x1 : sn ≤ sn + 9 := by omega
  have x2 : (sn : Int) ≤ (sn : Int) + 9 := by omega
  have M6 := hide (K6.out.set 6 (.slice (some ⟨gf, 0, none⟩) sn (sn + 9)))
  have M2 := hide (K2.out.other ⟨g6, 6, none⟩ (.slice (some ⟨gf, 0, none⟩) sn (sn + 9)) HG6.out.1)
  have M3 := hide (K3.out.other ⟨g6, 6, none⟩ (.slice (some ⟨gf, 0, none⟩) sn (sn + 9)) HG6.out.2.1)
  have MU := hide (HU.out.far (p := ⟨g6, 6, none⟩) (by intro h2; simp [Value.ownBlock] at h2; have := HG6.out.2.2; omega) (.slice (some ⟨gf, 0, none⟩) sn (sn + 9)))
  have MD := hide (KD.out.setCell (p := ⟨g6, 6, none⟩) (by have := HG6.out.2.2; have := HGF.out.1; show _ ≤ g6; omega) (.slice (some ⟨gf, 0, none⟩) sn (sn + 9)))
  have MP := hide (txs_far KP.out (p := ⟨g6, 6, none⟩) (fun b off e => by have := HPB.out b off e; have := HG6.out.2.2; show b ≠ g6; omega) (.slice (some ⟨gf, 0, none⟩) sn (sn + 9)))
  go_upto_region 10 with fail
  obtain ⟨w8, hw8⟩ : ∃ z, w7.setCell ⟨g6, 6, none⟩ (.slice (some ⟨gf, 0, none⟩) sn (sn + 9)) = z := ⟨_, rfl⟩
  simp only [hw8]
  rw [hw8] at M6 M2 M3 MU MD MP
  clear hw8 c6 a6 f6 x1 x2 K6 K2 K3 HU KD KP HFL6
  have K6 : Hid (Bk w8 g6 [.int .i64 b1, .int .i64 b2, .int .i64 b3, .int .i64 b4, .int .i64 b5, .int .i64 b6, .slice (some ⟨gf, 0, none⟩) sn (sn + 9)] 34) := M6.out
  have K2 := M2
  have K3 := M3
  have HU := MU
  have KP := MP
  have KD := MD
  clear M6 M2 M3 MU MP MD
  obtain ⟨-, -, u1, u2, u3, u4, -, -⟩ := chk_chunk KS.out.2.1 KS.out.2.2.1
  have HNB : Hid (kd.size ≤ 9223372036854775807 ∧ -9223372036854775808 ≤ k8 ∧ k8 ≤ 9223372036854775807) := by have h1 := KS.out.2.2.2.1; simp only at u1 u2 h1; exact ⟨by omega, by omega, by omega⟩
  clear u1 u2 u3 u4
  have HZQ : Hid (∀ x ∈ Q, x.size ≤ 9223372036854775807) := fun x hx => Nat.le_trans (KS.out.2.2.2.2.1 x hx) (by decide)
  have HR1 := hide (fun (w' : World) (h : Txs w' sa sn sc Q) => radd_any b1 b2 b3 b4 b5 b6 sa sn sc Q k1 k2 k3 k4 k5 k6 k7 k8 k9 kd h HNB.out.1 HNB.out.2.1 HNB.out.2.2)
  have HR2 := hide (fun (w' : World) (a' : Option Addr) (c' : Nat) (he : Errs w' E) (h : Txs w' a' sn c' Q) => add_any b1 b2 b3 b4 b5 b6 a' sn c' Q k1 k2 k3 k4 k5 k6 k7 k8 k9 kd (er7x_e he) h HZQ.out HNB.out.1 HNB.out.2.1 HNB.out.2.2)
  have HR3 := hide (fun (w' : World) (he : Errs w' E) => begin_any k1 k2 k3 k4 k5 k6 k7 k8 k9 kd he.er7 HNB.out.1 HNB.out.2.1 HNB.out.2.2)
  have hbe : begE ⟨k1, k2, k3, k4, k5, k6, k7, k8, k9, kd⟩ = 0 := by unfold begE; rw [if_pos KS.out.2.1, if_pos KS.out.2.2.1]
  have HAL := hide (addE_le ⟨b1, b2, b3, b4, b5, b6⟩ Q ⟨k1, k2, k3, k4, k5, k6, k7, k8, k9, kd⟩)
  have HFZ := hide (few_add (s := ⟨b1, b2, b3, b4, b5, b6⟩) (P := Q) (n := ⟨k1, k2, k3, k4, k5, k6, k7, k8, k9, kd⟩) ⟨by have := KS.out.2.2.2.2.2; omega, HZQ.out⟩ HNB.out.1)
  have HFY := hide (few_beg (n := ⟨k1, k2, k3, k4, k5, k6, k7, k8, k9, kd⟩) HNB.out.1)
  rw [hbe, show erv E 0 = .nilIface from rfl] at HR3
  clear hbe
  obtain ⟨ZS, hZS⟩ : ∃ x, addS ⟨b1, b2, b3, b4, b5, b6⟩ Q ⟨k1, k2, k3, k4, k5, k6, k7, k8, k9, kd⟩ = x := ⟨_, rfl⟩
  obtain ⟨ZP, hZP⟩ : ∃ x, addP ⟨b1, b2, b3, b4, b5, b6⟩ Q ⟨k1, k2, k3, k4, k5, k6, k7, k8, k9, kd⟩ = x := ⟨_, rfl⟩
  obtain ⟨zf, hzf⟩ : ∃ x, addF ⟨b1, b2, b3, b4, b5, b6⟩ Q ⟨k1, k2, k3, k4, k5, k6, k7, k8, k9, kd⟩ = x := ⟨_, rfl⟩
  obtain ⟨ze, hze⟩ : ∃ x, addE ⟨b1, b2, b3, b4, b5, b6⟩ Q ⟨k1, k2, k3, k4, k5, k6, k7, k8, k9, kd⟩ = x := ⟨_, rfl⟩
  obtain ⟨YS, hYS⟩ : ∃ x, begS ⟨k1, k2, k3, k4, k5, k6, k7, k8, k9, kd⟩ = x := ⟨_, rfl⟩
  obtain ⟨YP, hYP⟩ : ∃ x, begP ⟨k1, k2, k3, k4, k5, k6, k7, k8, k9, kd⟩ = x := ⟨_, rfl⟩
  rw [hZS, hZP, hzf, hze] at HR1 HR2
  rw [hYS, hYP] at HR3
  rw [hZP] at HFZ
  rw [hYP] at HFY
  rw [hze] at HAL
  clear hZS hZP hzf hze hYS hYP
  obtain ⟨z1, z2, z3, z4, z5, z6⟩ := ZS
  obtain ⟨y1, y2, y3, y4, y5, y6⟩ := YS
  obtain ⟨zn, hzn⟩ : ∃ x, ZP.length = x := ⟨_, rfl⟩
  obtain ⟨yn, hyn⟩ : ∃ x, YP.length = x := ⟨_, rfl⟩
  have HZN := hide hzn
  have HYN := hide hyn
  have HWF : Hid (gf < w8.heap.size) := by have h1 := K6.out.lt; have h2 := HG6.out.2.2; unfold Hid; omega
  clear hzn hyn
  have a0 := K2.out.cell 0 rfl
  have a1 := K2.out.cell 1 rfl
  have a2 := K2.out.cell 2 rfl
  have a3 := K2.out.cell 3 rfl
  have a4 := K2.out.cell 4 rfl
  have a5 := K2.out.cell 5 rfl
  have a6 := K2.out.cell 6 rfl
  have c0 := K3.out.cell 0 rfl
  have c1 := K3.out.cell 1 rfl
  have c2 := K3.out.cell 2 rfl
  have c3 := K3.out.cell 3 rfl
  have c4 := K3.out.cell 4 rfl
  have c5 := K3.out.cell 5 rfl
  have c6 := K3.out.cell 6 rfl
  have c7 := K3.out.cell 7 rfl
  have c8 := K3.out.cell 8 rfl
  have c9 := K3.out.cell 9 rfl
  go_upto_region 10 with fail
  go_wp2_with fail
  refine Calls.mono (HR1.out w8 KP.out) ?_
  rintro e w9 ⟨v, rfl, o, b⟩
  obtain ⟨za, zc, rfl⟩ := own_len o HZN.out
  unfold Sg.cells
  simp only
  have HW := hide o
  replace K2 := hide (K2.out.below b)
  replace K3 := hide (K3.out.below b)
  replace KP := hide (KP.out.below b)
  replace HU := hide (HU.out.below b)
  replace K6 := hide (K6.out.below b)
  replace KD := hide (chain KD.out b)
  clear o b a0 a1 a2 a3 a4 a5 a6 c0 c1 c2 c3 c4 c5 c6 c7 c8 c9
  obtain ⟨w10, hW, Bx, D⟩ := box1 w9 [.int .i64 z1, .int .i64 z2, .int .i64 z3, .int .i64 z4, .int .i64 z5, .int .i64 z6, .slice za zn zc] 26
  obtain ⟨g7, hg⟩ : ∃ g, w9.heap.size = g := ⟨_, rfl⟩
  rw [hg] at Bx
  have K7 := hide Bx
  have Ng7 : Hid (gf < g7) := by have h1 := K6.out.lt; have h2 := HG6.out.2.2; unfold Hid; omega
  have HWb := hide hW
  have HGb := hide hg
  replace K2 := hide (K2.out.below D)
  replace K3 := hide (K3.out.below D)
  replace KP := hide (KP.out.below D)
  replace HU := hide (HU.out.below D)
  replace K6 := hide (K6.out.below D)
  replace HW := hide (HW.out.below D)
  replace KD := hide (chain KD.out D)
  clear Bx D hW hg
  go_upto_region 11 with fail
  have hW := HWb.out
  have hg := HGb.out
  simp only [hW, hg]
  clear hW hg HWb HGb
  obtain ⟨B, hB⟩ : ∃ B, w10.heap.size = B := ⟨_, rfl⟩
  have HBB : Hid (B ≤ w10.heap.size) := Nat.le_of_eq hB.symm
  have HG7B : Hid (gf < B ∧ g6 < B ∧ g7 < B) := by
    have h1 := K6.out.lt
    have h2 := K7.out.lt
    have h3 := HG6.out.2.2
    exact ⟨by omega, by omega, by omega⟩
  have FM := hide (Fam.nil w10 B)
  have HDB : Hid (w.heap.size ≤ B) := by rw [← hB]; exact KD.out.size
  clear hB
  have a0 := K6.out.cell 0 rfl
  have a1 := K6.out.cell 1 rfl
  have a2 := K6.out.cell 2 rfl
  have a3 := K6.out.cell 3 rfl
  have a4 := K6.out.cell 4 rfl
  have a5 := K6.out.cell 5 rfl
  have a6 := K6.out.cell 6 rfl
  have c0 := K3.out.cell 0 rfl
  have c1 := K3.out.cell 1 rfl
  have c2 := K3.out.cell 2 rfl
  have c3 := K3.out.cell 3 rfl
  have c4 := K3.out.cell 4 rfl
  have c5 := K3.out.cell 5 rfl
  have c6 := K3.out.cell 6 rfl
  have c7 := K3.out.cell 7 rfl
  have c8 := K3.out.cell 8 rfl
  have c9 := K3.out.cell 9 rfl
  go_upto_region 11 with fail
  go_wp2_with fail
  refine Calls.mono (HR2.out w10 _ _ (HE.out.below KD.out) (front_txs HU.out HQS.out)) ?_
  rintro e w11 ⟨v, rfl, o, b⟩
  obtain ⟨va, vac, rfl⟩ := own_len o HZN.out
  unfold Sg.cells
  simp only
  have OA := hide o
  have FM' := hide (Fam.snoc FM.out b HBB.out (s := ⟨va, zn, vac⟩) o)
  replace FM := FM'
  clear FM'
  have HBB' := hide (Nat.le_trans HBB.out b.size)
  replace HBB := HBB'
  clear HBB'
  replace K2 := hide (K2.out.below b)
  replace K3 := hide (K3.out.below b)
  replace KP := hide (KP.out.below b)
  replace HU := hide (HU.out.below b)
  replace K6 := hide (K6.out.below b)
  replace K7 := hide (K7.out.below b)
  replace HW := hide (HW.out.below b)
  replace KD := hide (chain KD.out b)
  clear o b a0 a1 a2 a3 a4 a5 a6 c0 c1 c2 c3 c4 c5 c6 c7 c8 c9
  obtain ⟨w12, hW, Bx, D⟩ := box1 w11 [.int .i64 z1, .int .i64 z2, .int .i64 z3, .int .i64 z4, .int .i64 z5, .int .i64 z6, .slice va zn vac] 34
  obtain ⟨g10, hg⟩ : ∃ g, w11.heap.size = g := ⟨_, rfl⟩
  rw [hg] at Bx
  have K10 := hide Bx
  have Ng10 : Hid (gf < g10) := by have h1 := K6.out.lt; have h2 := HG6.out.2.2; unfold Hid; omega
  have HWb := hide hW
  have HGb := hide hg
  have HBG : Hid (B ≤ g10) := by have h1 := HBB.out; rw [hg] at h1; exact h1
  have HBB' := hide (Nat.le_trans HBB.out D.size)
  replace HBB := HBB'
  clear HBB'
  replace K2 := hide (K2.out.below D)
  replace K3 := hide (K3.out.below D)
  replace KP := hide (KP.out.below D)
  replace HU := hide (HU.out.below D)
  replace K6 := hide (K6.out.below D)
  replace K7 := hide (K7.out.below D)
  replace HW := hide (HW.out.below D)
  replace OA := hide (OA.out.below D)
  replace FM := hide (FM.out.below D)
  replace KD := hide (chain KD.out D)
  clear Bx D hW hg
  go_upto_region 12 with fail
  have hW := HWb.out
  have hg := HGb.out
  simp only [hW, hg]
  clear hW hg HWb HGb
  have HB10 : Hid (B ≤ g10) := HBG.out
  clear OA HBG
  have a0 := K6.out.cell 0 rfl
  have a1 := K6.out.cell 1 rfl
  have a2 := K6.out.cell 2 rfl
  have a3 := K6.out.cell 3 rfl
  have a4 := K6.out.cell 4 rfl
  have a5 := K6.out.cell 5 rfl
  have a6 := K6.out.cell 6 rfl
  have c0 := K3.out.cell 0 rfl
  have c1 := K3.out.cell 1 rfl
  have c2 := K3.out.cell 2 rfl
  have c3 := K3.out.cell 3 rfl
  have c4 := K3.out.cell 4 rfl
  have c5 := K3.out.cell 5 rfl
  have c6 := K3.out.cell 6 rfl
  have c7 := K3.out.cell 7 rfl
  have c8 := K3.out.cell 8 rfl
  have c9 := K3.out.cell 9 rfl
  go_upto_region 12 with fail
  go_wp2_with fail
  refine Calls.mono (HR2.out w12 _ _ (HE.out.below KD.out) (front_txs HU.out HQS.out)) ?_
  rintro e w13 ⟨v, rfl, o, b⟩
  obtain ⟨vb, vbc, rfl⟩ := own_len o HZN.out
  unfold Sg.cells
  simp only
  have OB := hide o
  have FM' := hide (Fam.snoc FM.out b HBB.out (s := ⟨vb, zn, vbc⟩) o)
  replace FM := FM'
  clear FM'
  have HBB' := hide (Nat.le_trans HBB.out b.size)
  replace HBB := HBB'
  clear HBB'
  replace K2 := hide (K2.out.below b)
  replace K3 := hide (K3.out.below b)
  replace KP := hide (KP.out.below b)
  replace HU := hide (HU.out.below b)
  replace K6 := hide (K6.out.below b)
  replace K7 := hide (K7.out.below b)
  replace HW := hide (HW.out.below b)
  replace K10 := hide (K10.out.below b)
  replace KD := hide (chain KD.out b)
  clear o b a0 a1 a2 a3 a4 a5 a6 c0 c1 c2 c3 c4 c5 c6 c7 c8 c9
  obtain ⟨w14, hW, Bx, D⟩ := box1 w13 [.int .i64 z1, .int .i64 z2, .int .i64 z3, .int .i64 z4, .int .i64 z5, .int .i64 z6, .slice vb zn vbc] 34
  obtain ⟨g13, hg⟩ : ∃ g, w13.heap.size = g := ⟨_, rfl⟩
  rw [hg] at Bx
  have K13 := hide Bx
  have Ng13 : Hid (gf < g13) := by have h1 := K6.out.lt; have h2 := HG6.out.2.2; unfold Hid; omega
  have HWb := hide hW
  have HGb := hide hg
  have HBB' := hide (Nat.le_trans HBB.out D.size)
  replace HBB := HBB'
  clear HBB'
  replace K2 := hide (K2.out.below D)
  replace K3 := hide (K3.out.below D)
  replace KP := hide (KP.out.below D)
  replace HU := hide (HU.out.below D)
  replace K6 := hide (K6.out.below D)
  replace K7 := hide (K7.out.below D)
  replace HW := hide (HW.out.below D)
  replace K10 := hide (K10.out.below D)
  replace OB := hide (OB.out.below D)
  replace FM := hide (FM.out.below D)
  replace KD := hide (chain KD.out D)
  clear Bx D hW hg
  go_upto_region 13 with fail
  have hW := HWb.out
  have hg := HGb.out
  simp only [hW, hg]
  clear hW hg HWb HGb
  clear OB
  have c0 := K3.out.cell 0 rfl
  have c1 := K3.out.cell 1 rfl
  have c2 := K3.out.cell 2 rfl
  have c3 := K3.out.cell 3 rfl
  have c4 := K3.out.cell 4 rfl
  have c5 := K3.out.cell 5 rfl
  have c6 := K3.out.cell 6 rfl
  have c7 := K3.out.cell 7 rfl
  have c8 := K3.out.cell 8 rfl
  have c9 := K3.out.cell 9 rfl
  go_upto_region 13 with fail
  go_wp2_with fail
  refine Calls.mono (HR3.out w14 (HE.out.below KD.out)) ?_
  rintro e w15 ⟨v, rfl, o, b⟩
  obtain ⟨vc, vcc, rfl⟩ := own_len o HYN.out
  unfold Sg.cells
  simp only
  have OC := hide o
  have FM' := hide (Fam.snoc FM.out b HBB.out (s := ⟨vc, yn, vcc⟩) o)
  replace FM := FM'
  clear FM'
  have HBB' := hide (Nat.le_trans HBB.out b.size)
  replace HBB := HBB'
  clear HBB'
  replace K2 := hide (K2.out.below b)
  replace K3 := hide (K3.out.below b)
  replace KP := hide (KP.out.below b)
  replace HU := hide (HU.out.below b)
  replace K6 := hide (K6.out.below b)
  replace K7 := hide (K7.out.below b)
  replace HW := hide (HW.out.below b)
  replace K10 := hide (K10.out.below b)
  replace K13 := hide (K13.out.below b)
  replace KD := hide (chain KD.out b)
  clear o b c0 c1 c2 c3 c4 c5 c6 c7 c8 c9
  obtain ⟨w16, hW, Bx, D⟩ := box1 w15 [.int .i64 y1, .int .i64 y2, .int .i64 y3, .int .i64 y4, .int .i64 y5, .int .i64 y6, .slice vc yn vcc] 34
  obtain ⟨g16, hg⟩ : ∃ g, w15.heap.size = g := ⟨_, rfl⟩
  rw [hg] at Bx
  have K16 := hide Bx
  have Ng16 : Hid (gf < g16) := by have h1 := K6.out.lt; have h2 := HG6.out.2.2; unfold Hid; omega
  have HWb := hide hW
  have HGb := hide hg
  have HBB' := hide (Nat.le_trans HBB.out D.size)
  replace HBB := HBB'
  clear HBB'
  replace K2 := hide (K2.out.below D)
  replace K3 := hide (K3.out.below D)
  replace KP := hide (KP.out.below D)
  replace HU := hide (HU.out.below D)
  replace K6 := hide (K6.out.below D)
  replace K7 := hide (K7.out.below D)
  replace HW := hide (HW.out.below D)
  replace K10 := hide (K10.out.below D)
  replace K13 := hide (K13.out.below D)
  replace OC := hide (OC.out.below D)
  replace FM := hide (FM.out.below D)
  replace KD := hide (chain KD.out D)
  clear Bx D hW hg
  go_upto_region 14 with fail
  have hW := HWb.out
  have hg := HGb.out
  simp only [hW, hg]
  clear hW hg HWb HGb
  clear OC
  have c0 := K3.out.cell 0 rfl
  have c1 := K3.out.cell 1 rfl
  have c2 := K3.out.cell 2 rfl
  have c3 := K3.out.cell 3 rfl
  have c4 := K3.out.cell 4 rfl
  have c5 := K3.out.cell 5 rfl
  have c6 := K3.out.cell 6 rfl
  have c7 := K3.out.cell 7 rfl
  have c8 := K3.out.cell 8 rfl
  have c9 := K3.out.cell 9 rfl
  go_upto_region 14 with fail
  go_wp2_with fail
  refine Calls.mono (HR3.out w16 (HE.out.below KD.out)) ?_
  rintro e w17 ⟨v, rfl, o, b⟩
  obtain ⟨vd, vdc, rfl⟩ := own_len o HYN.out
  unfold Sg.cells
  simp only
  have OD := hide o
  have FM' := hide (Fam.snoc FM.out b HBB.out (s := ⟨vd, yn, vdc⟩) o)
  replace FM := FM'
  clear FM'
  have HBB' := hide (Nat.le_trans HBB.out b.size)
  replace HBB := HBB'
  clear HBB'
  replace K2 := hide (K2.out.below b)
  replace K3 := hide (K3.out.below b)
  replace KP := hide (KP.out.below b)
  replace HU := hide (HU.out.below b)
  replace K6 := hide (K6.out.below b)
  replace K7 := hide (K7.out.below b)
  replace HW := hide (HW.out.below b)
  replace K10 := hide (K10.out.below b)
  replace K13 := hide (K13.out.below b)
  replace K16 := hide (K16.out.below b)
  replace KD := hide (chain KD.out b)
  clear o b c0 c1 c2 c3 c4 c5 c6 c7 c8 c9
  obtain ⟨w18, hW, Bx, D⟩ := box1 w17 [.int .i64 y1, .int .i64 y2, .int .i64 y3, .int .i64 y4, .int .i64 y5, .int .i64 y6, .slice vd yn vdc] 34
  obtain ⟨g18, hg⟩ : ∃ g, w17.heap.size = g := ⟨_, rfl⟩
  rw [hg] at Bx
  have K18 := hide Bx
  have Ng18 : Hid (gf < g18) := by have h1 := K6.out.lt; have h2 := HG6.out.2.2; unfold Hid; omega
  have HWb := hide hW
  have HGb := hide hg
  have HBB' := hide (Nat.le_trans HBB.out D.size)
  replace HBB := HBB'
  clear HBB'
  replace K2 := hide (K2.out.below D)
  replace K3 := hide (K3.out.below D)
  replace KP := hide (KP.out.below D)
  replace HU := hide (HU.out.below D)
  replace K6 := hide (K6.out.below D)
  replace K7 := hide (K7.out.below D)
  replace HW := hide (HW.out.below D)
  replace K10 := hide (K10.out.below D)
  replace K13 := hide (K13.out.below D)
  replace K16 := hide (K16.out.below D)
  replace OD := hide (OD.out.below D)
  replace FM := hide (FM.out.below D)
  replace KD := hide (chain KD.out D)
  clear Bx D hW hg
  go_upto_region 15 with fail
  have hW := HWb.out
  have hg := HGb.out
  simp only [hW, hg]
  clear hW hg HWb HGb
  clear OD HR1 HR2 HR3 HZQ HNB
  simp only [List.nil_append, List.cons_append] at FM
  have HLC := hide (fun (w' : World) (h : Errs w' E) => lcode_any h ze HAL.out)
  have HE18 := hide (HE.out.below KD.out)
  have HFT := hide (front_txs HU.out HQS.out)
  have HS40 : Hid (sn ≤ 4611686018427387904) := by have := HS32.out; unfold Hid; omega
  go_cut [139] from 115 to 139 (fun v wz => v = .bool false ∧ Hid (Below w18.heap.size w18 wz))
  case first =>
    have dR : ((ze : Int) != (ze : Int)) = false := by simp
    have X0 := hide ((Below.refl w18.heap.size w18).drew)
    go_region_held3 (fun wz => wz.cell? ⟨g6, 0, none⟩ = some (.int .i64 b1) ∧ wz.cell? ⟨g6, 1, none⟩ = some (.int .i64 b2) ∧ wz.cell? ⟨g6, 2, none⟩ = some (.int .i64 b3) ∧ wz.cell? ⟨g6, 3, none⟩ = some (.int .i64 b4) ∧ wz.cell? ⟨g6, 4, none⟩ = some (.int .i64 b5) ∧ wz.cell? ⟨g6, 5, none⟩ = some (.int .i64 b6) ∧ wz.cell? ⟨g6, 6, none⟩ = some (.slice (some ⟨gf, 0, none⟩) sn (sn + 9)) ∧ wz.cell? ⟨g2, 0, none⟩ = some (.int .i64 b1) ∧ wz.cell? ⟨g2, 1, none⟩ = some (.int .i64 b2) ∧ wz.cell? ⟨g2, 2, none⟩ = some (.int .i64 b3) ∧ wz.cell? ⟨g2, 3, none⟩ = some (.int .i64 b4) ∧ wz.cell? ⟨g2, 4, none⟩ = some (.int .i64 b5) ∧ wz.cell? ⟨g2, 5, none⟩ = some (.int .i64 b6) ∧ wz.cell? ⟨g2, 6, none⟩ = some (.slice sa sn sc)) (first | exact held14 (K6.out.below X0.out) (K2.out.below X0.out) | exact held14 (K6.out.below X1.out) (K2.out.below X1.out) | exact held14 (K6.out.below X2.out) (K2.out.below X2.out) | exact held14 (K6.out.below X3.out) (K2.out.below X3.out) | exact held14 (K6.out.below X4.out) (K2.out.below X4.out)) (first | (go_at_call 13; with_reducible refine Calls.mono (HLC.out _ (HE18.out.below X0.out)) ?_; rintro e v1 ⟨rfl, b⟩; have X1 := hide (chain X0.out b); clear b) | (go_at_call 13; with_reducible refine Calls.mono (HLC.out _ (HE18.out.below X1.out)) ?_; rintro e v2 ⟨rfl, b⟩; have X2 := hide (chain X1.out b); clear b) | (go_at_call 12; refine Calls.mono (theirs_any b1 b2 b3 b4 b5 b6 (some ⟨gf, 0, none⟩) sn (sn + 9) _) ?_; rintro e v3 ⟨rfl, b⟩; have X3 := hide (chain X2.out b); clear b) | (go_at_call 11; refine Calls.mono (rsameS_any ⟨b1, b2, b3, b4, b5, b6⟩ (some ⟨gf, 0, none⟩) sa sn (sn + 9) sc Q (HFT.out.below X3.out) (KP.out.below X3.out) HS40.out) ?_; rintro e v4 ⟨rfl, b⟩; have X4 := hide (chain X3.out b); clear b) | fail)
    go_wp2
    go_meet
    case rel => exact ⟨rfl, X4.out⟩
  case rest =>
  obtain ⟨rfl, HB19⟩ := hcut
  obtain ⟨w19, hw19⟩ : ∃ z, z = wc := ⟨_, rfl⟩
  subst hw19
  replace K2 := hide (K2.out.below HB19.out)
  replace HU := hide (HU.out.below HB19.out)
  replace HW := hide (HW.out.below HB19.out)
  replace FM := hide (FM.out.below HB19.out)
  replace K6 := hide (K6.out.below HB19.out)
  replace K7 := hide (K7.out.below HB19.out)
  replace K10 := hide (K10.out.below HB19.out)
  replace K13 := hide (K13.out.below HB19.out)
  replace K16 := hide (K16.out.below HB19.out)
  replace K18 := hide (K18.out.below HB19.out)
  replace KD := hide (chain KD.out HB19.out)
  clear HB19 HLC HE18 HFT HS40 K3 KP
  have c6 := K2.out.cell 6 rfl
  go_upto_region 18 with fail
  clear c6
  go_loopw [20] (fun s wr => ∃ i : Nat, sn ≤ i ∧ i ≤ sn + 9 ∧ s = .int .i64 (i : Int) ∧ Hid (Below w19.heap.size w19 wr)) (fun s _ => sn + 9 - (intOf s).toNat)
  case atStart => exact ⟨sn, Nat.le_refl _, by omega, rfl, Below.refl _ _⟩
  case round =>
    obtain ⟨i, hi1, hi2, rfl, HRR⟩ := hrel
    by_cases hlt : i < sn + 9
    · --
      obtain ⟨bb, oo, e1, hc1⟩ := (own_rcs (HU.out.below HRR.out)).at tv1 (by decide) (z9_at HQS.out hi1 hlt)
      simp only [Option.some.injEq, Addr.mk.injEq] at e1
      obtain ⟨rfl, rfl, -⟩ := e1
      obtain ⟨x, hxe⟩ : ∃ x, ByteArray.empty = x := ⟨_, rfl⟩
      rw [hxe] at hc1
      have hdn : x.toList = [] := by rw [← hxe, ByteArray.toList_eq]; rfl
      have hdt : x.toList.isEmpty = true := by rw [hdn]; rfl
      have n0 := hc1 0 _ rfl
      rw [Nat.mul_one, Nat.add_zero, Nat.zero_add] at n0
      have h0 : ¬ (i : Int) < 0 := by omega
      have hk1 : (i : Int) < (sn : Int) + 9 := by omega
      have hk2 := HS32.out
      clear hc1 hxe
      go_wp2
      exact ⟨⟨i + 1, by omega, by omega, by simp, HRR.out⟩, by simp [intOf]; omega⟩
    · obtain rfl : i = sn + 9 := by omega
      have hnk : ¬ (sn : Int) + 9 < (sn : Int) + 9 := by omega
      have hB := HRR.out
      replace HU := hide (HU.out.below hB)
      replace HW := hide (HW.out.below hB)
      replace FM := hide (FM.out.below hB)
      replace K6 := hide (K6.out.below hB)
      replace K7 := hide (K7.out.below hB)
      replace K10 := hide (K10.out.below hB)
      replace K13 := hide (K13.out.below hB)
      replace K16 := hide (K16.out.below hB)
      replace K18 := hide (K18.out.below hB)
      replace KD := hide (chain KD.out hB)
      clear hB HRR K2
      obtain ⟨w20, hw20⟩ : ∃ z, z = wr := ⟨_, rfl⟩
      rw [← hw20] at HU HW FM K6 K7 K10 K13 K16 K18 KD ⊢
      clear hw20
      go_upto_region 23 with fail
      have HQL : Hid ((Q ++ z9).length = sn + 9) := by unfold Hid; rw [List.length_append, HQS.out]; rfl
      go_loopw [21] (fun s wr => ∃ (i : Nat) (M : List ByteArray), i ≤ sn ∧ s = .int .i64 (i : Int) ∧ Hid (TxOwn wr gf (.slice (some ⟨gf, 0, none⟩) (sn + 9) (sn + 9)) M) ∧ Hid (M.length = sn + 9 ∧ ∀ j, j < i → M[j]? = some ⟨#[111, 118, 101, 114]⟩) ∧ Hid (w20.grownBy wr (some gf))) (fun s _ => sn - (intOf s).toNat)
      case atStart => exact ⟨0, Q ++ z9, Nat.zero_le _, rfl, HU.out, ⟨HQL.out, fun j hj => absurd hj (Nat.not_lt_zero j)⟩, grw_refl _ _⟩
      case round =>
        obtain ⟨i, M, hi, rfl, HM, HMI, HG⟩ := hrel
        have L6 := hide (bk_keep K6.out HG.out HG6.out.2.2)
        have a6 := L6.out.cell 6 rfl
        by_cases hlt : i < sn
        · --
          have hk1 : (i : Int) < (sn : Int) := by omega
          have h0 : ¬ (i : Int) < 0 := by omega
          have hk2 := HS32.out
          obtain ⟨z1', z2', z3', z4', z5'⟩ := LOwn.put tv1 HM.out HMI.out.1 (show i < sn + 9 by omega) ⟨#[111, 118, 101, 114]⟩
          obtain ⟨⟨u0, y0⟩, x0⟩ := z1' 0 (by decide)
          simp only [Nat.mul_one, Nat.add_zero] at y0 x0
          rw [Nat.mul_one] at z2' z3'
          have M1 := hide (show TxOwn (wr.setCell ⟨gf, i, none⟩ (.string ⟨#[111, 118, 101, 114]⟩)) gf (.slice (some ⟨gf, 0, none⟩) (sn + 9) (sn + 9)) (M.set i ⟨#[111, 118, 101, 114]⟩) from z2')
          have M2 := hide (show wr.grownBy (wr.setCell ⟨gf, i, none⟩ (.string ⟨#[111, 118, 101, 114]⟩)) (some gf) from z3')
          have M3 : Hid ((M.set i ⟨#[111, 118, 101, 114]⟩).length = sn + 9 ∧ ∀ j, j < i + 1 → (M.set i ⟨#[111, 118, 101, 114]⟩)[j]? = some ⟨#[111, 118, 101, 114]⟩) := by
            refine ⟨by rw [List.length_set]; exact HMI.out.1, fun j hj => ?_⟩
            have hl := HMI.out.1
            by_cases e : j = i
            · subst e
              rw [List.getElem?_set_self (by omega)]
            · rw [List.getElem?_set_ne (Ne.symm e)]
              exact HMI.out.2 j (by omega)
          have M4 := hide (grw_trans HG.out M2.out)
          clear z1' z2' z3' z4' z5' M2
          go_wp2
          exact ⟨⟨i + 1, M.set i ⟨#[111, 118, 101, 114]⟩, by omega, by simp, M1.out, M3.out, M4.out⟩, by simp [intOf]; omega⟩
        · obtain rfl : i = sn := by omega
          have hnk : ¬ (i : Int) < (i : Int) := by omega
          clear HU HQL L6 a6
          have hg := HG.out
          replace HW := hide (own_keep HW.out hg HWF.out)
          replace FM := hide (fam_keep FM.out hg HG7B.out.1)
          replace K6 := hide (bk_keep K6.out hg HG6.out.2.2)
          replace K7 := hide (bk_keep K7.out hg Ng7.out)
          replace K10 := hide (bk_keep K10.out hg Ng10.out)
          replace K13 := hide (bk_keep K13.out hg Ng13.out)
          replace K16 := hide (bk_keep K16.out hg Ng16.out)
          replace K18 := hide (bk_keep K18.out hg Ng18.out)
          replace KD := hide (below_keep KD.out (Nat.le_refl _) hg HGF.out.1)
          clear hg HG
          obtain ⟨w21, hw21⟩ : ∃ z, z = wr := ⟨_, rfl⟩
          rw [← hw21] at HM HW FM K6 K7 K10 K13 K16 K18 KD ⊢
          clear hw21
          have LA := hide (own_rcs (FM.out.own 0 ⟨va, zn, vac⟩ ZP rfl rfl))
          have LB := hide (own_rcs (FM.out.own 1 ⟨vb, zn, vbc⟩ ZP rfl rfl))
          have LC := hide (own_rcs (FM.out.own 2 ⟨vc, yn, vcc⟩ YP rfl rfl))
          have LD := hide (own_rcs (FM.out.own 3 ⟨vd, yn, vdc⟩ YP rfl rfl))
          have LW := hide (own_rcs HW.out)
          have a6 := K6.out.cell 6 rfl
          have HZ40 : Hid (zn ≤ 4611686018427387904) := by have h1 := HFZ.out.1; rw [HZN.out] at h1; unfold Hid; omega
          have HY40 : Hid (yn ≤ 4611686018427387904) := by have h1 := HFY.out.1; rw [HYN.out] at h1; unfold Hid; omega
          go_upto_region 26 with fail
          clear a6
          go_cut [184] from 165 to 184 (fun v wz => v = .bool false ∧ Hid (Below w21.heap.size w21 wz))
          case first =>
            have X0 := hide ((Below.refl w21.heap.size w21).drew)
            have SA := hide (fun (w' : World) (h1 : Txs w' va zn vac ZP) (h2 : Txs w' za zn zc ZP) => rsameS_any ⟨z1, z2, z3, z4, z5, z6⟩ va za zn vac zc ZP h1 h2 HZ40.out)
            have SB := hide (fun (w' : World) (h1 : Txs w' vb zn vbc ZP) (h2 : Txs w' za zn zc ZP) => rsameS_any ⟨z1, z2, z3, z4, z5, z6⟩ vb za zn vbc zc ZP h1 h2 HZ40.out)
            have SC := hide (fun (w' : World) (h1 : Txs w' vc yn vcc YP) (h2 : Txs w' vd yn vdc YP) => rsameS_any ⟨y1, y2, y3, y4, y5, y6⟩ vc vd yn vcc vdc YP h1 h2 HY40.out)
            dsimp only [Sg.cells] at SA SB SC
            go_region_held3 (fun wz => wz.cell? ⟨g10, 0, none⟩ = some (.int .i64 z1) ∧ wz.cell? ⟨g10, 1, none⟩ = some (.int .i64 z2) ∧ wz.cell? ⟨g10, 2, none⟩ = some (.int .i64 z3) ∧ wz.cell? ⟨g10, 3, none⟩ = some (.int .i64 z4) ∧ wz.cell? ⟨g10, 4, none⟩ = some (.int .i64 z5) ∧ wz.cell? ⟨g10, 5, none⟩ = some (.int .i64 z6) ∧ wz.cell? ⟨g10, 6, none⟩ = some (.slice va zn vac) ∧ wz.cell? ⟨g7, 0, none⟩ = some (.int .i64 z1) ∧ wz.cell? ⟨g7, 1, none⟩ = some (.int .i64 z2) ∧ wz.cell? ⟨g7, 2, none⟩ = some (.int .i64 z3) ∧ wz.cell? ⟨g7, 3, none⟩ = some (.int .i64 z4) ∧ wz.cell? ⟨g7, 4, none⟩ = some (.int .i64 z5) ∧ wz.cell? ⟨g7, 5, none⟩ = some (.int .i64 z6) ∧ wz.cell? ⟨g7, 6, none⟩ = some (.slice za zn zc) ∧ wz.cell? ⟨g13, 0, none⟩ = some (.int .i64 z1) ∧ wz.cell? ⟨g13, 1, none⟩ = some (.int .i64 z2) ∧ wz.cell? ⟨g13, 2, none⟩ = some (.int .i64 z3) ∧ wz.cell? ⟨g13, 3, none⟩ = some (.int .i64 z4) ∧ wz.cell? ⟨g13, 4, none⟩ = some (.int .i64 z5) ∧ wz.cell? ⟨g13, 5, none⟩ = some (.int .i64 z6) ∧ wz.cell? ⟨g13, 6, none⟩ = some (.slice vb zn vbc) ∧ wz.cell? ⟨g16, 0, none⟩ = some (.int .i64 y1) ∧ wz.cell? ⟨g16, 1, none⟩ = some (.int .i64 y2) ∧ wz.cell? ⟨g16, 2, none⟩ = some (.int .i64 y3) ∧ wz.cell? ⟨g16, 3, none⟩ = some (.int .i64 y4) ∧ wz.cell? ⟨g16, 4, none⟩ = some (.int .i64 y5) ∧ wz.cell? ⟨g16, 5, none⟩ = some (.int .i64 y6) ∧ wz.cell? ⟨g16, 6, none⟩ = some (.slice vc yn vcc) ∧ wz.cell? ⟨g18, 0, none⟩ = some (.int .i64 y1) ∧ wz.cell? ⟨g18, 1, none⟩ = some (.int .i64 y2) ∧ wz.cell? ⟨g18, 2, none⟩ = some (.int .i64 y3) ∧ wz.cell? ⟨g18, 3, none⟩ = some (.int .i64 y4) ∧ wz.cell? ⟨g18, 4, none⟩ = some (.int .i64 y5) ∧ wz.cell? ⟨g18, 5, none⟩ = some (.int .i64 y6) ∧ wz.cell? ⟨g18, 6, none⟩ = some (.slice vd yn vdc)) (first | exact held35 (K10.out.below X7.out) (K7.out.below X7.out) (K13.out.below X7.out) (K16.out.below X7.out) (K18.out.below X7.out) | exact held35 (K10.out.below X6.out) (K7.out.below X6.out) (K13.out.below X6.out) (K16.out.below X6.out) (K18.out.below X6.out) | exact held35 (K10.out.below X5.out) (K7.out.below X5.out) (K13.out.below X5.out) (K16.out.below X5.out) (K18.out.below X5.out) | exact held35 (K10.out.below X4.out) (K7.out.below X4.out) (K13.out.below X4.out) (K16.out.below X4.out) (K18.out.below X4.out) | exact held35 (K10.out.below X3.out) (K7.out.below X3.out) (K13.out.below X3.out) (K16.out.below X3.out) (K18.out.below X3.out) | exact held35 (K10.out.below X2.out) (K7.out.below X2.out) (K13.out.below X2.out) (K16.out.below X2.out) (K18.out.below X2.out) | exact held35 (K10.out.below X1.out) (K7.out.below X1.out) (K13.out.below X1.out) (K16.out.below X1.out) (K18.out.below X1.out) | exact held35 (K10.out.below X0.out) (K7.out.below X0.out) (K13.out.below X0.out) (K16.out.below X0.out) (K18.out.below X0.out)) (first | (go_at_call 12; with_reducible refine Calls.mono (theirs_any z1 z2 z3 z4 z5 z6 va zn vac _) ?_; rintro e v1 ⟨rfl, b⟩; have X1 := hide (chain X0.out b); clear b) | (go_at_call 11; with_reducible refine Calls.mono (SA.out _ (LA.out.below X1.out) (LW.out.below X1.out)) ?_; rintro e v2 ⟨rfl, b⟩; have X2 := hide (chain X1.out b); clear b) | (go_at_call 12; with_reducible refine Calls.mono (theirs_any z1 z2 z3 z4 z5 z6 vb zn vbc _) ?_; rintro e v3 ⟨rfl, b⟩; have X3 := hide (chain X2.out b); clear b) | (go_at_call 11; with_reducible refine Calls.mono (SB.out _ (LB.out.below X3.out) (LW.out.below X3.out)) ?_; rintro e v4 ⟨rfl, b⟩; have X4 := hide (chain X3.out b); clear b) | (go_at_call 12; with_reducible refine Calls.mono (theirs_any y1 y2 y3 y4 y5 y6 vc yn vcc _) ?_; rintro e v5 ⟨rfl, b⟩; have X5 := hide (chain X4.out b); clear b) | (go_at_call 12; with_reducible refine Calls.mono (theirs_any y1 y2 y3 y4 y5 y6 vd yn vdc _) ?_; rintro e v6 ⟨rfl, b⟩; have X6 := hide (chain X5.out b); clear b) | (go_at_call 11; with_reducible refine Calls.mono (SC.out _ (LC.out.below X6.out) (LD.out.below X6.out)) ?_; rintro e v7 ⟨rfl, b⟩; have X7 := hide (chain X6.out b); clear b) | fail)
            go_wp2
            go_meet
            case rel => exact ⟨rfl, X7.out⟩
          case rest =>
          obtain ⟨rfl, HB22⟩ := hcut
          obtain ⟨w22, hw22⟩ : ∃ z, z = wc := ⟨_, rfl⟩
          subst hw22
          replace HM := hide (HM.out.below HB22.out)
          replace HW := hide (HW.out.below HB22.out)
          replace FM := hide (FM.out.below HB22.out)
          replace K6 := hide (K6.out.below HB22.out)
          replace K7 := hide (K7.out.below HB22.out)
          replace K10 := hide (K10.out.below HB22.out)
          replace K13 := hide (K13.out.below HB22.out)
          replace K16 := hide (K16.out.below HB22.out)
          replace K18 := hide (K18.out.below HB22.out)
          replace KD := hide (chain KD.out HB22.out)
          clear HB22 LA LB LC LD LW HZ40 HY40
          have HEx := hide (fun (w' : World) (h : Below w.heap.size w w') => er7x_e (HE.out.below h))
          have HOU := hide (fun (w' : World) (h : Txs w' za zn zc ZP) => ours_any z1 z2 z3 z4 z5 z6 za zn zc ZP h (by have h1 := HFZ.out.1; rw [HZN.out] at h1; omega))
          have HWO := hide (fun (w' : World) (a' : Option Addr) (c' : Nat) (he : Er7x w' E) (h : Txs w' a' zn c' ZP) => whole2_any z1 z2 z3 z4 z5 z6 a' zn c' ZP he h HFZ.out.2)
          have HWT := hide (whole_true ⟨z1, z2, z3, z4, z5, z6⟩ ZP)
          obtain ⟨WE, hWE⟩ : ∃ x, whE ⟨z1, z2, z3, z4, z5, z6⟩ ZP = x := ⟨_, rfl⟩
          obtain ⟨WF, hWF⟩ : ∃ x, whF ⟨z1, z2, z3, z4, z5, z6⟩ ZP = x := ⟨_, rfl⟩
          obtain ⟨WB, hWB⟩ : ∃ x, whB ⟨z1, z2, z3, z4, z5, z6⟩ ZP = x := ⟨_, rfl⟩
          rw [hWE, hWF, hWB] at HWO HWT
          clear hWE hWF hWB
          have a0 := K7.out.cell 0 rfl
          have a1 := K7.out.cell 1 rfl
          have a2 := K7.out.cell 2 rfl
          have a3 := K7.out.cell 3 rfl
          have a4 := K7.out.cell 4 rfl
          have a5 := K7.out.cell 5 rfl
          have a6 := K7.out.cell 6 rfl
          go_upto_region 28 with fail
          go_wp2_with fail
          refine Calls.mono (HOU.out w22 (own_rcs HW.out)) ?_
          rintro e w23 ⟨ua2, uc2, rfl, o, b⟩
          have HO2 := hide (own_rcs o)
          replace HM := hide (HM.out.below b)
          replace HW := hide (HW.out.below b)
          replace FM := hide (FM.out.below b)
          replace K6 := hide (K6.out.below b)
          replace K7 := hide (K7.out.below b)
          replace K10 := hide (K10.out.below b)
          replace K13 := hide (K13.out.below b)
          replace K16 := hide (K16.out.below b)
          replace K18 := hide (K18.out.below b)
          replace KD := hide (chain KD.out b)
          have HFB := hide (fam_lt FM.out)
          have HKB : Hid (g6 < w23.heap.size ∧ g10 < w23.heap.size ∧ g13 < w23.heap.size ∧ g16 < w23.heap.size ∧ g18 < w23.heap.size) := ⟨K6.out.lt, K10.out.lt, K13.out.lt, K16.out.lt, K18.out.lt⟩
          have HB23 : Hid (B ≤ w23.heap.size) := Nat.le_trans HB10.out (Nat.le_of_lt K10.out.lt)
          clear o b a0 a1 a2 a3 a4 a5 a6
          go_wp2_with fail
          refine Calls.mono (HWO.out w23 ua2 uc2 (HEx.out _ KD.out) HO2.out) ?_
          rintro e w24 ⟨wa, wn, wc', rfl, o, oo, b⟩
          have HWA := hide o
          have HWI := hide oo
          have HS24 : Hid (w23.heap.size ≤ w24.heap.size) := b.size
          replace HM := hide (HM.out.below b)
          replace HW := hide (HW.out.below b)
          replace FM := hide (FM.out.below b)
          replace K6 := hide (K6.out.below b)
          replace K7 := hide (K7.out.below b)
          replace K10 := hide (K10.out.below b)
          replace K13 := hide (K13.out.below b)
          replace K16 := hide (K16.out.below b)
          replace K18 := hide (K18.out.below b)
          replace KD := hide (chain KD.out b)
          clear o oo b HO2
          have a0 := K7.out.cell 0 rfl
          have a1 := K7.out.cell 1 rfl
          have a2 := K7.out.cell 2 rfl
          have a3 := K7.out.cell 3 rfl
          have a4 := K7.out.cell 4 rfl
          have a5 := K7.out.cell 5 rfl
          have a6 := K7.out.cell 6 rfl
          go_upto_region 29 with fail
          go_wp2_with fail
          refine Calls.mono (HOU.out w24 (own_rcs HW.out)) ?_
          rintro e w25 ⟨ua3, uc3, rfl, o, b⟩
          have HO2 := hide (own_rcs o)
          replace HM := hide (HM.out.below b)
          replace HW := hide (HW.out.below b)
          replace FM := hide (FM.out.below b)
          replace HWA := hide (HWA.out.below b)
          replace K6 := hide (K6.out.below b)
          replace K7 := hide (K7.out.below b)
          replace K10 := hide (K10.out.below b)
          replace K13 := hide (K13.out.below b)
          replace K16 := hide (K16.out.below b)
          replace K18 := hide (K18.out.below b)
          replace KD := hide (chain KD.out b)
          replace HWI := hide (ownb_below HWI.out b)
          have HS25 : Hid (w23.heap.size ≤ w25.heap.size) := Nat.le_trans HS24.out b.size
          clear o b a0 a1 a2 a3 a4 a5 a6
          go_wp2_with fail
          refine Calls.mono (HWO.out w25 ua3 uc3 (HEx.out _ KD.out) HO2.out) ?_
          rintro e w26 ⟨xa, xn, xc, rfl, o, oo, b⟩
          have HXA := hide o
          have HXI := hide oo
          have HS27 : Hid (B ≤ w23.heap.size ∧ w23.heap.size ≤ w26.heap.size) := ⟨HB23.out, Nat.le_trans HS25.out b.size⟩
          have HWL := hide (ownb_lt HWI.out)
          replace HM := hide (HM.out.below b)
          replace HW := hide (HW.out.below b)
          replace FM := hide (FM.out.below b)
          replace HWA := hide (HWA.out.below b)
          replace K6 := hide (K6.out.below b)
          replace K7 := hide (K7.out.below b)
          replace K10 := hide (K10.out.below b)
          replace K13 := hide (K13.out.below b)
          replace K16 := hide (K16.out.below b)
          replace K18 := hide (K18.out.below b)
          replace KD := hide (chain KD.out b)
          replace HWI := hide (ownb_below HWI.out b)
          clear o oo b HO2 HOU HWO HEx
          go_upto_region 30 with fail
          go_cut [208] from 199 to 208 (fun v wz => v = .bool false ∧ wz = w26)
          case first =>
            cases WF with
            | true =>
              have hwe := HWT.out rfl
              obtain rfl : WE = 0 := hwe.1
              rw [show erv E 0 = .nilIface from rfl]
              have hn1 : 1 ≤ wn := by rw [← HWA.out.size]; exact hwe.2
              have hn0 : ((wn : Int) == 0) = false := by simp; omega
              clear hwe hn1
              go_wp2
              go_meet
              case rel => exact ⟨rfl, rfl⟩
            | false =>
              go_wp2
              go_meet
              case rel => exact ⟨rfl, rfl⟩
          case rest =>
          obtain ⟨rfl, hwc⟩ := hcut
          obtain ⟨w27, hw27⟩ : ∃ z, z = wc := ⟨_, rfl⟩
          subst hw27
          subst hwc
          have hcv := bts_string HXA.out
          go_upto_region 34 with fail
          clear hcv
          obtain ⟨gw, HGW⟩ := w_pick HWI.out HWL.out HXI.out HS27.out
          have HG1 := hide HGW.1
          have HG2 := hide HGW.2.1
          have HG3 := hide HGW.2.2
          clear HGW HWI HWL HXI HW K7
          go_loopw [29] (fun s wr => ∃ i : Nat, i ≤ wn ∧ s = .int .i64 (i : Int) ∧ Hid (w27.grownBy wr (some gw)) ∧ Hid (wn = 0 ∨ InB wr gw wn)) (fun s _ => wn - (intOf s).toNat)
          case atStart => exact ⟨0, Nat.zero_le _, rfl, grw_refl _ _, HG1.out.imp id (fun h => h.2)⟩
          case round =>
            obtain ⟨i, hi, rfl, HG, HI⟩ := hrel
            by_cases hlt : i < wn
            · --
              obtain ⟨rfl, -⟩ : wa = some ⟨gw, 0, none⟩ ∧ InB w27 gw wn := by rcases HG1.out with h | h; exact absurd hlt (by rw [h]; exact Nat.not_lt_zero _); exact h
              have hI : InB wr gw wn := by rcases HI.out with h | h; exact absurd hlt (by rw [h]; exact Nat.not_lt_zero _); exact h
              have hwm := HWA.out.most
              obtain ⟨⟨x, c⟩, f⟩ := hI i hlt
              have hj1 : (i : Int) < (wn : Int) := by omega
              have hj0 : ¬ (i : Int) < 0 := by omega
              obtain ⟨y', hy'⟩ : ∃ y, IntKind.u8.wrap (x + 1) = y := ⟨_, rfl⟩
              have Q1 : Hid (wn = 0 ∨ InB (wr.setCell ⟨gw, i, none⟩ (.int .u8 y')) gw wn) := .inr (hI.set hlt y')
              have Q2 := hide (grw_trans HG.out (grw_set wr gw i (.int .u8 y')))
              clear hI
              go_wp2
              exact ⟨⟨i + 1, by omega, by simp, Q2.out, Q1.out⟩, by simp [intOf]; omega⟩
            · obtain rfl : wn = i := by omega
              have hnk : ¬ (wn : Int) < (wn : Int) := by omega
              have hg := HG.out
              have hcv := bts_string (bts_keep HXA.out hg HG3.out)
              replace HM := hide (own_keep2 HM.out hg (Nat.ne_of_lt (Nat.lt_of_lt_of_le HG7B.out.1 HG2.out.1)))
              replace FM := hide (fam_keep2 FM.out HFB.out hg HG2.out.2)
              replace K6 := hide (Bk.grown K6.out hg (Nat.ne_of_lt (Nat.lt_of_lt_of_le HKB.out.1 HG2.out.2)))
              replace K10 := hide (Bk.grown K10.out hg (Nat.ne_of_lt (Nat.lt_of_lt_of_le HKB.out.2.1 HG2.out.2)))
              replace K13 := hide (Bk.grown K13.out hg (Nat.ne_of_lt (Nat.lt_of_lt_of_le HKB.out.2.2.1 HG2.out.2)))
              replace K16 := hide (Bk.grown K16.out hg (Nat.ne_of_lt (Nat.lt_of_lt_of_le HKB.out.2.2.2.1 HG2.out.2)))
              replace K18 := hide (Bk.grown K18.out hg (Nat.ne_of_lt (Nat.lt_of_lt_of_le HKB.out.2.2.2.2 HG2.out.2)))
              replace KD := hide (below_keep KD.out (Nat.le_refl _) hg (Nat.le_trans HDB.out HG2.out.1))
              clear hg HG HI HWA HXA HG1 HG2 HG3
              obtain ⟨w28, hw28⟩ : ∃ z, z = wr := ⟨_, rfl⟩
              rw [← hw28] at HM FM K6 K10 K13 K16 K18 KD hcv ⊢
              clear hw28
              go_upto_region 39 with fail
              clear hcv
              obtain ⟨w29, hW, Bb, D⟩ := box1 w28 [.slice va zn vac, .slice vb zn vbc, .slice vc yn vcc, .slice vd yn vdc] 24
              obtain ⟨gl, hg⟩ : ∃ g, w28.heap.size = g := ⟨_, rfl⟩
              rw [hg] at Bb
              have KL := hide Bb
              have HUL : Hid (∀ (j : Nat) (s : Sc) (b : Nat), ([⟨va, zn, vac⟩, ⟨vb, zn, vbc⟩, ⟨vc, yn, vcc⟩, ⟨vd, yn, vdc⟩] : List Sc)[j]? = some s → s.v.ownBlock = some b → b < gl) := by rw [← hg]; exact fam_lt FM.out
              have HBL : Hid (B ≤ gl ∧ w.heap.size ≤ gl) := ⟨by have h1 := K10.out.lt; rw [hg] at h1; have h2 := HB10.out; exact Nat.le_trans h2 (Nat.le_of_lt h1), by rw [← hg]; exact KD.out.size⟩
              have a0 := K10.out.cell 6 rfl
              have a1 := K13.out.cell 6 rfl
              have a2 := K16.out.cell 6 rfl
              have a3 := K18.out.cell 6 rfl
              replace HM := hide (HM.out.below D)
              replace FM := hide (FM.out.below D)
              replace K6 := hide (K6.out.below D)
              replace KD := hide (chain KD.out D)
              have HWb := hide hW
              have HGb := hide hg
              clear Bb D hW hg K10 K13 K16 K18
              go_upto_region 40 with fail
              have hW := HWb.out
              have hg := HGb.out
              simp only [hW, hg]
              clear hW hg HWb HGb a0 a1 a2 a3
              go_upto_region 42 with fail
              obtain ⟨UL, hUL⟩ : ∃ U : List Sc, U = [⟨va, zn, vac⟩, ⟨vb, zn, vbc⟩, ⟨vc, yn, vcc⟩, ⟨vd, yn, vdc⟩] := ⟨_, rfl⟩
              have HULN : Hid (UL.length = 4 ∧ ∀ (j : Nat) (s : Sc), UL[j]? = some s → s.n * 16 ≤ 140737488351232) := by
                have h1 := HFZ.out.1
                rw [HZN.out] at h1
                have h2 := HFY.out.1
                rw [HYN.out] at h2
                subst hUL
                refine ⟨rfl, fun j s h => ?_⟩
                match j, h with
                | 0, h => simp only [List.getElem?_cons_zero, Option.some.injEq] at h; subst h; dsimp only; omega
                | 1, h => simp only [List.getElem?_cons_succ, List.getElem?_cons_zero, Option.some.injEq] at h; subst h; dsimp only; omega
                | 2, h => simp only [List.getElem?_cons_succ, List.getElem?_cons_zero, Option.some.injEq] at h; subst h; dsimp only; omega
                | 3, h => simp only [List.getElem?_cons_succ, List.getElem?_cons_zero, Option.some.injEq] at h; subst h; dsimp only; omega
                | (j + 4), h => simp at h
              have hKL : Bk w29 gl (UL.map Sc.v) 24 := by rw [hUL]; exact KL.out
              have hFM : Fam w29 B UL [ZP, ZP, YP, YP] := by rw [hUL]; exact FM.out
              have hOFF : ∀ (j : Nat) (s : Sc) (b : Nat), UL[j]? = some s → s.v.ownBlock = some b → b ≠ gl := by rw [hUL]; exact fun j s b h1 h2 => Nat.ne_of_lt (HUL.out j s b h1 h2)
              obtain ⟨sm, hsm⟩ : ∃ sm, sm = i := ⟨_, rfl⟩
              rw [← hsm] at HM HMI K6 HS32 ⊢
              have MK := hide (show Mk w B gf g6 gl (sm + 9) M [.int .i64 b1, .int .i64 b2, .int .i64 b3, .int .i64 b4, .int .i64 b5, .int .i64 b6, .slice (some ⟨gf, 0, none⟩) sm (sm + 9)] (UL.map Sc.v) 34 24 UL [ZP, ZP, YP, YP] w29 from ⟨hFM, hKL, K6.out, HM.out, KD.out, ⟨HG7B.out.1, HG7B.out.2.1, HDB.out, HBL.out.1⟩, hOFF⟩)
              clear hKL hFM hOFF HUL HM K6 KD KL FM hUL hsm hnk
              go_loopw [32] (fun s wr => ∃ (k : Nat) (MM : List (List ByteArray)), k ≤ 4 ∧ s = .int .i64 (k : Int) ∧ Hid (Mk w B gf g6 gl (sm + 9) M [.int .i64 b1, .int .i64 b2, .int .i64 b3, .int .i64 b4, .int .i64 b5, .int .i64 b6, .slice (some ⟨gf, 0, none⟩) sm (sm + 9)] (UL.map Sc.v) 34 24 UL MM wr) ∧ Hid (∀ j, j < k → ∃ l, MM[j]? = some l ∧ ∀ x, x ∈ l → x = str [97 + j])) (fun s _ => 4 - (intOf s).toNat)
              case atStart => exact ⟨0, _, by omega, rfl, MK.out, fun j hj => absurd hj (Nat.not_lt_zero j)⟩
              case round =>
                obtain ⟨k, MM, hk, rfl, MKr, HMR⟩ := hrel
                by_cases hlt : k < 4
                · have HK4 : Hid (k = 0 ∨ k = 1 ∨ k = 2 ∨ k = 3) := by unfold Hid; omega
                  obtain ⟨a, n, c, l0, q1, q2, q3, q4, q5, q6⟩ := MKr.out.list (show k < UL.length by rw [HULN.out.1]; exact hlt)
                  have HU4 := hide q1
                  have HGA := hide q6
                  have HCE : Hid ((UL.map Sc.v)[k]? = some (.slice a n c)) := by unfold Hid; rw [List.getElem?_map, q1]; rfl
                  have HNB := hide (HULN.out.2 k _ q1)
                  have HL0 := hide q2
                  have HL1 := hide q3
                  clear q1 q2 q3 q4 q5 q6
                  have hk1 : (k : Int) < 4 := by omega
                  have hk0 : ¬ (k : Int) < 0 := by omega
                  go_upto_region 45 with fail
                  go_loopw [33] (fun s wr2 => ∃ (i2 : Nat) (l : List ByteArray) (M5 : List (List ByteArray)), i2 ≤ n ∧ s = .int .i64 (i2 : Int) ∧ Hid (Mk w B gf g6 gl (sm + 9) M [.int .i64 b1, .int .i64 b2, .int .i64 b3, .int .i64 b4, .int .i64 b5, .int .i64 b6, .slice (some ⟨gf, 0, none⟩) sm (sm + 9)] (UL.map Sc.v) 34 24 UL M5 wr2) ∧ Hid (∀ j, j < k → ∃ l, M5[j]? = some l ∧ ∀ x, x ∈ l → x = str [97 + j]) ∧ Hid (M5[k]? = some l) ∧ Hid (l.length = n) ∧ Hid (∀ j, j < i2 → l[j]? = some (str [97 + k]))) (fun s _ => n - (intOf s).toNat)
                  case atStart => exact ⟨0, l0, MM, Nat.zero_le _, rfl, MKr.out, HMR.out, HL0.out, HL1.out, fun j hj => absurd hj (Nat.not_lt_zero j)⟩
                  case round =>
                    obtain ⟨i2, l, M5, hi, rfl, MKi, HMK2, HM4, HL4, HS4⟩ := hrel
                    have hcell := MKi.out.kl.cell k HCE.out
                    by_cases hlt : i2 < n
                    · have hj1 : (i2 : Int) < (n : Int) := by omega
                      go_upto_region 47 with fail
                      clear hcell
                      obtain ⟨g, hga, hgB, hgl⟩ := HGA.out (Nat.lt_of_le_of_lt (Nat.zero_le _) hlt)
                      subst hga
                      have hn63 := HNB.out
                      have hk4 := HK4.out
                      have MKd := hide (MKi.out.below ((Below.refl _ wr).drew))
                      have hbyte : IntKind.u8.wrap (IntKind.i64.wrap (97 + (k : Int))) = 97 + (k : Int) := by
                        rcases hk4 with rfl | rfl | rfl | rfl <;> rfl
                      have hj0 : ¬ (i2 : Int) < 0 := by omega
                      have hj1 : (i2 : Int) < (n : Int) := by omega
                      have hk0 : ¬ (k : Int) < 0 := by omega
                      have hk1 : (k : Int) < 4 := by omega
                      refine wp_region_held_drew (S := fun wz : World => wz.cell? ⟨gl, k, none⟩ = some (.slice (some ⟨g, 0, none⟩) n c)) (by kernel_rfl) (MKd.out.kl.cell k HCE.out) (fun hHeld => ?_)
                      obtain ⟨wd, hwd⟩ : ∃ z, z = wr.drew := ⟨_, rfl⟩
                      rw [← hwd] at MKd hHeld ⊢
                      clear hwd
                      refine wpAnyH_take (i := 0) (oi := { dst := some 251, op := Go.Op.move (Go.Operand.tmp 30), type := 62, pos := "outright.go:151", after := #[], guard := none }) (v := ?_) rfl (by kernel_rfl) (by kernel_rfl) (by kernel_rfl) (fun _ _ _ h => h) (Or.inl ⟨by rfl, ?_⟩) (by assumption) ?_
                      rotate_left
                      · intro w hSw
                        try dsimp only at hSw
                        go_simp
                        try with_reducible rfl
                      simp only [Act.put, List.setIfInBounds_toArray, List.set_cons_zero, List.set_cons_succ]
                      refine wpAnyH_take (i := 1) (oi := { dst := some 252, op := Go.Op.move (Go.Operand.tmp 32), type := 3, pos := "outright.go:151", after := #[], guard := none }) (v := ?_) rfl (by kernel_rfl) (by kernel_rfl) (by kernel_rfl) (fun _ _ _ h => h) (Or.inl ⟨by rfl, ?_⟩) (by assumption) ?_
                      rotate_left
                      · intro w hSw
                        try dsimp only at hSw
                        go_simp
                        try with_reducible rfl
                      simp only [Act.put, List.setIfInBounds_toArray, List.set_cons_zero, List.set_cons_succ]
                      refine wpAnyH_take (i := 2) (oi := { dst := some 253, op := Go.Op.indexAddr 62 (Go.Operand.tmp 251) (Go.Operand.tmp 252), type := 0, pos := "outright.go:151", after := #[{ on := 0, ground := Go.Ground.data }, { on := 1, ground := Go.Ground.data }], guard := none }) (v := ?_) rfl (by kernel_rfl) (by kernel_rfl) (by kernel_rfl) (fun _ _ _ h => h) (Or.inl ⟨by rfl, ?_⟩) (by assumption) ?_
                      rotate_left
                      · intro w hSw
                        try dsimp only at hSw
                        go_simp
                        try with_reducible rfl
                      simp only [Act.put, List.setIfInBounds_toArray, List.set_cons_zero, List.set_cons_succ]
                      refine wpAnyH_take (i := 3) (oi := { dst := some 254, op := Go.Op.load 24 (Go.Operand.tmp 253), type := 24, pos := "outright.go:151", after := #[{ on := 2, ground := Go.Ground.data }], guard := none }) (v := ?_) rfl (by kernel_rfl) (by kernel_rfl) (by kernel_rfl) (fun _ _ _ h => h) (Or.inl ⟨by rfl, ?_⟩) (by assumption) ?_
                      rotate_left
                      · intro w hSw
                        try dsimp only at hSw
                        go_simp
                        try with_reducible rfl
                      simp only [Act.put, List.setIfInBounds_toArray, List.set_cons_zero, List.set_cons_succ]
                      refine wpAnyH_take (i := 4) (oi := { dst := some 255, op := Go.Op.move (Go.Operand.tmp 33), type := 3, pos := "outright.go:151", after := #[], guard := none }) (v := ?_) rfl (by kernel_rfl) (by kernel_rfl) (by kernel_rfl) (fun _ _ _ h => h) (Or.inl ⟨by rfl, ?_⟩) (by assumption) ?_
                      rotate_left
                      · intro w hSw
                        try dsimp only at hSw
                        go_simp
                        try with_reducible rfl
                      simp only [Act.put, List.setIfInBounds_toArray, List.set_cons_zero, List.set_cons_succ]
                      refine wpAnyH_take (i := 5) (oi := { dst := some 256, op := Go.Op.move (Go.Operand.tmp 32), type := 3, pos := "outright.go:151", after := #[], guard := none }) (v := ?_) rfl (by kernel_rfl) (by kernel_rfl) (by kernel_rfl) (fun _ _ _ h => h) (Or.inl ⟨by rfl, ?_⟩) (by assumption) ?_
                      rotate_left
                      · intro w hSw
                        try dsimp only at hSw
                        go_simp
                        try with_reducible rfl
                      simp only [Act.put, List.setIfInBounds_toArray, List.set_cons_zero, List.set_cons_succ]
                      refine wpAnyH_take (i := 6) (oi := { dst := some 257, op := Go.Op.binOp Go.BinOp.add 3 (Go.Operand.const (Go.Value.int Go.IntKind.i64 97)) (Go.Operand.tmp 256) 3, type := 3, pos := "outright.go:151", after := #[{ on := 5, ground := Go.Ground.data }], guard := none }) (v := ?_) rfl (by kernel_rfl) (by kernel_rfl) (by kernel_rfl) (fun _ _ _ h => h) (Or.inl ⟨by rfl, ?_⟩) (by assumption) ?_
                      rotate_left
                      · intro w hSw
                        try dsimp only at hSw
                        go_simp
                        try with_reducible rfl
                      simp only [Act.put, List.setIfInBounds_toArray, List.set_cons_zero, List.set_cons_succ]
                      refine wpAnyH_take (i := 7) (oi := { dst := some 258, op := Go.Op.convert 3 5 (Go.Operand.tmp 257), type := 5, pos := "outright.go:151", after := #[{ on := 6, ground := Go.Ground.data }], guard := none }) (v := ?_) rfl (by kernel_rfl) (by kernel_rfl) (by kernel_rfl) (fun _ _ _ h => h) (Or.inl ⟨by rfl, ?_⟩) (by assumption) ?_
                      rotate_left
                      · intro w hSw
                        try dsimp only at hSw
                        go_simp
                        try with_reducible rfl
                      simp only [Act.put, List.setIfInBounds_toArray, List.set_cons_zero, List.set_cons_succ]
                      obtain ⟨y0, e0, m0, D0⟩ := box1 wd [.int .u8 (97 + (k : Int))] 5
                      obtain ⟨h, eh⟩ : ∃ h, wd.heap.size = h := ⟨_, rfl⟩
                      have MKw := hide (MKd.out.below D0)
                      rw [eh] at m0
                      have BH : Hid (Bk y0 h [.int .u8 ((97 + k : Nat) : Int)] 5) := by unfold Hid; rw [Int.natCast_add]; exact m0
                      clear m0 D0
                      refine wpAnyH_ready (rs := [8]) (by kernel_rfl) (by simp) ?_
                      refine AllReadyH.cons (o := { dst := some 259, op := Go.Op.buildSlice 56 1 #[(0, Go.Operand.tmp 258)], type := 56, pos := "outright.go:151", after := #[{ on := 7, ground := Go.Ground.data }], guard := none }) rfl (fun K hK => ?_) AllReadyH.nil
                      go_simp
                      try simp only [hbyte, e0, eh]
                      refine hK.out _ _ (MKw.out.kl.cell k HCE.out) (fun hHeld3 => ?_)
                      clear hK K e0 eh
                      try simp only [Act.put, List.setIfInBounds_toArray, List.set_cons_zero, List.set_cons_succ]
                      refine wpAnyH_ready (rs := [9]) (by kernel_rfl) (by simp) ?_
                      refine AllReadyH.cons (o := { dst := some 260, op := Go.Op.convert 56 9 (Go.Operand.tmp 259), type := 9, pos := "outright.go:151", after := #[{ on := 8, ground := Go.Ground.data }], guard := none }) rfl (fun K hK => ?_) AllReadyH.nil
                      have hcv := bts_string (bts_one BH.out (show 97 + k < 256 by omega))
                      go_simp
                      clear hcv
                      refine hK.out _ _ (MKw.out.kl.cell k HCE.out) (fun hHeld4 => ?_)
                      clear hK K
                      try simp only [Act.put, List.setIfInBounds_toArray, List.set_cons_zero, List.set_cons_succ]
                      refine wpAnyH_take (i := 10) (oi := { dst := some 261, op := Go.Op.indexAddr 24 (Go.Operand.tmp 254) (Go.Operand.tmp 255), type := 0, pos := "outright.go:151", after := #[{ on := 3, ground := Go.Ground.data }, { on := 4, ground := Go.Ground.data }, { on := 0, ground := Go.Ground.phase }, { on := 1, ground := Go.Ground.phase }, { on := 2, ground := Go.Ground.phase }, { on := 3, ground := Go.Ground.phase }, { on := 4, ground := Go.Ground.phase }, { on := 5, ground := Go.Ground.phase }, { on := 6, ground := Go.Ground.phase }, { on := 7, ground := Go.Ground.phase }, { on := 8, ground := Go.Ground.phase }, { on := 9, ground := Go.Ground.phase }], guard := none }) (v := ?_) rfl (by kernel_rfl) (by kernel_rfl) (by kernel_rfl) (fun _ _ _ h => h) (Or.inl ⟨by rfl, ?_⟩) (by assumption) ?_
                      rotate_left
                      · intro w hSw
                        try dsimp only at hSw
                        go_simp
                        try with_reducible rfl
                      simp only [Act.put, List.setIfInBounds_toArray, List.set_cons_zero, List.set_cons_succ]
                      obtain ⟨m1, ⟨u1, m2⟩, m3⟩ := MKw.out.put HU4.out HM4.out HL4.out hlt (str [97 + k])
                      have N1 := hide m1
                      refine wpAnyH_ready (rs := [11]) (by kernel_rfl) (by simp) ?_
                      refine AllReadyH.cons (o := { dst := none, op := Go.Op.store 9 (Go.Operand.tmp 261) (Go.Operand.tmp 260), type := 0, pos := "outright.go:151", after := #[{ on := 10, ground := Go.Ground.data }, { on := 9, ground := Go.Ground.data }, { on := 0, ground := Go.Ground.phase }, { on := 1, ground := Go.Ground.phase }, { on := 2, ground := Go.Ground.phase }, { on := 3, ground := Go.Ground.phase }, { on := 4, ground := Go.Ground.phase }, { on := 5, ground := Go.Ground.phase }, { on := 6, ground := Go.Ground.phase }, { on := 7, ground := Go.Ground.phase }, { on := 8, ground := Go.Ground.phase }, { on := 9, ground := Go.Ground.phase }], guard := none }) rfl (fun K hK => ?_) AllReadyH.nil
                      go_simp
                      refine hK.out _ _ (N1.out.kl.cell k HCE.out) (fun hHeld5 => ?_)
                      clear hK K m1
                      refine wpAnyH_done (by kernel_rfl) ?_ _
                      clear m2 m3 hbyte
                      go_wp2
                      have hlen : k < M5.length := (List.getElem?_eq_some_iff.1 HM4.out).1
                      refine ⟨⟨i2 + 1, l.set i2 (str [97 + k]), M5.set k (l.set i2 (str [97 + k])), by omega, by simp, N1.out, ?_, ?_, by rw [List.length_set]; exact HL4.out, ?_⟩, by simp [intOf]; omega⟩
                      · intro j hj
                        obtain ⟨l', h1, h2⟩ := HMK2.out j hj
                        exact ⟨l', by rw [List.getElem?_set_ne (by omega)]; exact h1, h2⟩
                      · exact List.getElem?_set_self hlen
                      · intro j hj
                        have hl := HL4.out
                        by_cases e : j = i2
                        · subst e
                          rw [List.getElem?_set_self (by omega)]
                        · rw [List.getElem?_set_ne (Ne.symm e)]
                          exact HS4.out j (by omega)
                    · obtain rfl : i2 = n := by omega
                      have hnk : ¬ (i2 : Int) < (i2 : Int) := by omega
                      have HMN : Hid (∀ j, j < k + 1 → ∃ l, M5[j]? = some l ∧ ∀ x, x ∈ l → x = str [97 + j]) := by
                        intro j hj
                        by_cases e : j = k
                        · subst e
                          refine ⟨l, HM4.out, fun x hx => ?_⟩
                          obtain ⟨p, hp, hpx⟩ := List.getElem_of_mem hx
                          have h1 := HS4.out p (by rw [← HL4.out]; exact hp)
                          rw [List.getElem?_eq_getElem hp, hpx] at h1
                          exact Option.some.inj h1
                        · exact HMK2.out j (by omega)
                      go_wp2
                      exact ⟨⟨k + 1, M5, by omega, by simp, MKi.out, HMN.out⟩, by simp [intOf]; omega⟩
                · obtain rfl : k = 4 := by omega
                  have hnk : ¬ (4 : Int) < 4 := by omega
                  go_upto_region 49 with fail
                  clear HBL HFZ HFY
                  go_loopw [31, 34] (fun gz s wr => ∃ (gv : Value) (k : Nat) (U2 : List Sc) (MM : List (List ByteArray)), gv = gz ∧ k ≤ 4 ∧ s = .int .i64 (k : Int) ∧ Hid (Mk w B gf g6 gl (sm + 9) M [.int .i64 b1, .int .i64 b2, .int .i64 b3, .int .i64 b4, .int .i64 b5, .int .i64 b6, .slice (some ⟨gf, 0, none⟩) sm (sm + 9)] (UL.map Sc.v) 34 24 U2 MM wr) ∧ Hid (∀ j, k ≤ j → U2[j]? = UL[j]?) ∧ Hid (∀ j, j < 4 → ∃ l, MM[j]? = some l ∧ ∀ x, x ∈ l → x = str [97 + j]) ∧ Hid (LOwn scv 1 24 wr B gv (U2.take k)) ∧ Hid (∀ (j : Nat) (s : Sc) (b : Nat), U2[j]? = some s → s.v.ownBlock = some b → gv.ownBlock ≠ some b) ∧ Hid (gv.ownBlock ≠ some gl)) (fun _ s _ => 4 - (intOf s).toNat)
                  case atStart => exact ⟨_, 0, UL, MM, rfl, by omega, rfl, MKr.out, fun j _ => rfl, HMR.out, ⟨rfl, .inl ⟨rfl, rfl⟩⟩, fun j s b _ _ => (fun e => by cases e), fun e => by cases e⟩
                  case round =>
                    obtain ⟨gv, k, U2, MM2, hgz, hk, rfl, MKg, HUR, HMG, HGR, HGD, HGL⟩ := hrel
                    subst hgz
                    by_cases hlt : k < 4
                    · have HK4 : Hid (k = 0 ∨ k = 1 ∨ k = 2 ∨ k = 3) := by unfold Hid; omega
                      have hk1 : (k : Int) < 4 := by omega
                      have hk0 : ¬ (k : Int) < 0 := by omega
                      obtain ⟨⟨a, n, c⟩, hs⟩ : ∃ s, UL[k]? = some s := ⟨_, List.getElem?_eq_getElem (by rw [HULN.out.1]; exact hlt)⟩
                      have hcell := MKg.out.kl.cell k (show (UL.map Sc.v)[k]? = some (.slice a n c) by rw [List.getElem?_map, hs]; rfl)
                      have HNB := hide (HULN.out.2 k _ hs)
                      have HUK : Hid (U2[k]? = some ⟨a, n, c⟩) := by unfold Hid; rw [HUR.out k (Nat.le_refl _), hs]
                      obtain ⟨l0, hl0⟩ : ∃ l, MM2[k]? = some l := (HMG.out k hlt).imp fun _ h => h.1
                      have HN0 : Hid (l0.length = n) := by
                        obtain ⟨a', c', e, -⟩ := (MKg.out.fam.own k _ l0 HUK.out hl0).rcs
                        unfold Sc.v at e
                        simp only [Value.slice.injEq] at e
                        exact e.2.1.symm
                      have HL0 := hide hl0
                      clear hs hl0
                      go_upto_region 53 with fail
                      clear hcell
                      go_loopw [35, 36] (fun gk s2 wr2 => ∃ (i2 : Nat) (a2 : Option Addr) (n2 c2 : Nat) (l : List ByteArray) (U3 : List Sc) (M5 : List (List ByteArray)), i2 ≤ 9 ∧ gk = .slice a2 n2 c2 ∧ s2 = .int .i64 (i2 : Int) ∧ Hid (Mk w B gf g6 gl (sm + 9) M [.int .i64 b1, .int .i64 b2, .int .i64 b3, .int .i64 b4, .int .i64 b5, .int .i64 b6, .slice (some ⟨gf, 0, none⟩) sm (sm + 9)] (UL.map Sc.v) 34 24 U3 M5 wr2) ∧ Hid (LOwn scv 1 24 wr2 B gv (U3.take k)) ∧ Hid (∀ j, k + 1 ≤ j → U3[j]? = UL[j]?) ∧ Hid (U3[k]? = some ⟨a2, n2, c2⟩) ∧ Hid (M5[k]? = some l) ∧ Hid (l.length = n2 ∧ n2 = n + i2) ∧ Hid (∀ j, j < 4 → ∃ l, M5[j]? = some l ∧ ∀ x, x ∈ l → x = str [97 + j]) ∧ Hid (∀ (j : Nat) (s : Sc) (b : Nat), U3[j]? = some s → s.v.ownBlock = some b → gv.ownBlock ≠ some b)) (fun _ s _ => 9 - (intOf s).toNat)
                      case atStart => exact ⟨0, a, n, c, l0, U2, MM2, by omega, rfl, rfl, MKg.out, HGR.out, fun j hj => HUR.out j (by omega), HUK.out, HL0.out, ⟨HN0.out, rfl⟩, HMG.out, HGD.out⟩
                      case round =>
                        obtain ⟨i2, a2, n2, c2, l, U3, M5, hi2, rfl, rfl, MKi, HGI, HRI, HUC, HMC, HLC, HMI2, HOD⟩ := hrel
                        by_cases hl9 : i2 < 9
                        · have hj1 : (i2 : Int) < 9 := by omega
                          go_upto_region 55 with fail
                          have hbyte : IntKind.u8.wrap (IntKind.i64.wrap (97 + (k : Int))) = 97 + (k : Int) := by
                            rcases HK4.out with rfl | rfl | rfl | rfl <;> rfl
                          obtain ⟨y0, e0, m0, D0⟩ := box1 wr [.int .u8 (97 + (k : Int))] 5
                          obtain ⟨h, eh⟩ : ∃ h, wr.heap.size = h := ⟨_, rfl⟩
                          have MK0 := hide (MKi.out.below D0)
                          have HG0 := hide (HGI.out.below D0)
                          rw [eh] at m0
                          have hcv := bts_string (bts_one (show Bk y0 h [.int .u8 ((97 + k : Nat) : Int)] 5 by rw [Int.natCast_add]; exact m0) (show 97 + k < 256 by have := HK4.out; omega))
                          obtain ⟨y1, e1, m1, D1⟩ := box1 y0 [.string (str [97 + k])] 9
                          have MK1 := hide (MK0.out.below D1)
                          have HG1 := hide (HG0.out.below D1)
                          have hsz : y0.heap.size = h + 1 := by rw [← e0, ← eh]; exact Array.size_push _
                          rw [hsz] at m1
                          have HC := hide (m1.cell 0 rfl)
                          clear hsz
                          have HBB1 := hide MK1.out.room
                          have HBD : Hid ((l.length + 1) * 16 ≤ 140737488355328) := by have h1 := HLC.out; have h2 : n * 16 ≤ 140737488351232 := HNB.out; unfold Hid; omega
                          clear m0 D0 m1 D1 MK0 HG0
                          subst e1 e0 eh
                          go_wp2_with (at_builtin; refine append_txa _ rfl (.tmp 276) (.tmp 282) rfl B _ l rfl (MK1.out.fam.own k _ l HUC.out HMC.out) _ 1 (str [97 + k]) rfl HC.out HBD.out HBB1.out.1 ?_; intro g' c' w' k1 k2 k3; have NK := hide (MK1.out.grow HUC.out HMC.out k1 k2 k3); have NG := hide (own_grown HG1.out k2 (fun g hg e => HOD.out k _ g HUC.out e hg)); have NOD := hide (off_set (n' := l.length + 1) (c' := c') HOD.out HUC.out k3 (fun b hb => (World.ownsRow.lt HG1.out b hb).2)); clear k1 k2 k3)
                          have hlU : k < U3.length := (List.getElem?_eq_some_iff.1 HUC.out).1
                          have hlM : k < M5.length := (List.getElem?_eq_some_iff.1 HMC.out).1
                          have hlc := HLC.out
                          refine ⟨⟨i2 + 1, some ⟨g', 0, none⟩, l.length + 1, c', l ++ [str [97 + k]], U3.set k ⟨some ⟨g', 0, none⟩, l.length + 1, c'⟩, M5.set k (l ++ [str [97 + k]]), by omega, rfl, by simp, NK.out, ?_, fun j hj => ?_, List.getElem?_set_self hlU, List.getElem?_set_self hlM, ⟨by rw [List.length_append]; rfl, by omega⟩, fun j hj => ?_, NOD.out⟩, by simp [intOf]; omega⟩
                          · rw [List.take_set_of_le (Nat.le_refl _)]
                            exact NG.out
                          · rw [List.getElem?_set_ne (by omega)]
                            exact HRI.out j hj
                          · by_cases e : j = k
                            · subst e
                              obtain ⟨l', q1, q2⟩ := HMI2.out j hj
                              obtain rfl : l' = l := by rw [HMC.out] at q1; exact (Option.some.inj q1).symm
                              refine ⟨l' ++ [str [97 + j]], List.getElem?_set_self hlM, fun x hx => ?_⟩
                              rcases List.mem_append.1 hx with h1 | h1
                              · exact q2 x h1
                              · exact List.mem_singleton.1 h1
                            · rw [List.getElem?_set_ne (Ne.symm e)]
                              exact HMI2.out j hj
                        · obtain rfl : i2 = 9 := by omega
                          have hnk9 : ¬ (9 : Int) < 9 := by omega
                          go_upto_region 56 with fail
                          obtain ⟨y0, e0, m0, D0⟩ := box1 wr [.slice a2 n2 c2] 24
                          obtain ⟨h, eh⟩ : ∃ h, wr.heap.size = h := ⟨_, rfl⟩
                          have MK0 := hide (MKi.out.below D0)
                          have HG0 := hide (HGI.out.below D0)
                          rw [eh] at m0
                          have HC := hide (m0.cell 0 rfl)
                          have HBB1 := hide MK0.out.room
                          obtain ⟨TK, hTK⟩ : ∃ x, U3.take k = x := ⟨_, rfl⟩
                          have HBD : Hid ((TK.length + 1) * 24 ≤ 140737488355328) := by unfold Hid; rw [← hTK, List.length_take]; omega
                          rw [hTK] at HG0
                          have HTK := hide hTK
                          clear m0 D0 hTK
                          subst e0 eh
                          go_wp2_with (at_builtin; refine append_sc _ rfl (.tmp 284) (.tmp 286) rfl B gv TK rfl HG0.out _ 1 ⟨a2, n2, c2⟩ rfl HC.out HBD.out HBB1.out.1 ?_; intro g' c' w' k1 k2 k3; have NK := hide (MK0.out.aside k2 (fun g hg => ⟨(World.ownsRow.lt HG0.out g hg).1, fun e => HGL.out (by rw [hg, e]), fun j s b h1 h2 e => HOD.out j s b h1 h2 (by rw [hg, e])⟩)); have NG := hide k1; have NW := hide k3; clear k1 k2 k3)
                          have hT : U3.take (k + 1) = TK ++ [⟨a2, n2, c2⟩] := by rw [List.take_add_one, HUC.out, HTK.out]; rfl
                          refine ⟨⟨_, k + 1, U3, M5, rfl, by omega, by simp, NK.out, fun j hj => HRI.out j hj, HMI2.out, ?_, fun j s b h1 h2 => ?_, ?_⟩, by simp [intOf]; omega⟩
                          · rw [hT]
                            exact NG.out
                          · rcases NW.out with h3 | h3
                            · exact fun e => HOD.out j s b h1 h2 (h3.trans e)
                            · have h4 := HBB1.out.2 j s b h1 h2
                              intro e
                              have h5 := Option.some.inj (show some g' = some b from e)
                              rw [show (wr.alloc (.cells [Value.slice a2 n2 c2].toArray 24)).heap.size = wr.heap.size + 1 from Array.size_push _] at h3 h4
                              omega
                          · rcases NW.out with h3 | h3
                            · exact fun e => HGL.out (h3.trans e)
                            · have h4 := MK0.out.kl.lt
                              intro e
                              have h5 := Option.some.inj (show some g' = some gl from e)
                              rw [show (wr.alloc (.cells [Value.slice a2 n2 c2].toArray 24)).heap.size = wr.heap.size + 1 from Array.size_push _] at h3 h4
                              omega
                    · obtain rfl : k = 4 := by omega
                      have hnk : ¬ (4 : Int) < 4 := by omega
                      obtain ⟨ga, gc, rfl⟩ := own_len (n := 4) HGR.out (by rw [List.length_take, MKg.out.fam.len]; obtain ⟨l, h1, -⟩ := HMG.out 3 (by omega); have := (List.getElem?_eq_some_iff.1 h1).1; omega)
                      obtain ⟨gg, rfl, hgg1, hgg2⟩ := own_zero HGR.out (by decide) (by rw [List.length_take, MKg.out.fam.len]; obtain ⟨l, h1, -⟩ := HMG.out 3 (by omega); have := (List.getElem?_eq_some_iff.1 h1).1; omega)
                      clear hgg1 hgg2 HGD HGL HUR
                      obtain ⟨w30, hw30⟩ : ∃ z, z = wr := ⟨_, rfl⟩
                      rw [← hw30] at MKg HGR ⊢
                      clear hw30
                      go_upto_region 58 with fail
                      go_loopw [37] (fun s wz => ∃ k2 : Nat, k2 ≤ 4 ∧ s = .int .i64 (k2 : Int) ∧ Hid (Below w30.heap.size w30 wz)) (fun s _ => 4 - (intOf s).toNat)
                      case atStart => exact ⟨0, by omega, rfl, Below.refl _ _⟩
                      case round =>
                        obtain ⟨k2, hk2, rfl, HB2⟩ := hrel
                        by_cases hlt : k2 < 4
                        · have HK4 : Hid (k2 = 0 ∨ k2 = 1 ∨ k2 = 2 ∨ k2 = 3) := by unfold Hid; omega
                          have hk1 : (k2 : Int) < 4 := by omega
                          obtain ⟨l, hl0, hl1⟩ := HMG.out k2 hlt
                          obtain ⟨⟨a, n, c⟩, hs⟩ : ∃ s, U2[k2]? = some s := ⟨_, List.getElem?_eq_getElem (by rw [MKg.out.fam.len]; exact (List.getElem?_eq_some_iff.1 hl0).1)⟩
                          have HLX := hide (show TxOwn w30 B (.slice a n c) l from MKg.out.fam.own k2 _ l hs hl0)
                          have HLN : Hid (l.length = n) := by
                            obtain ⟨a', c', e, -⟩ := HLX.out.rcs
                            simp only [Value.slice.injEq] at e
                            exact e.2.1.symm
                          have HNL : Hid (n ≤ 9223372036854775807) := own_most HLX.out HLN.out
                          have HMX := hide hl1
                          have HT2 : Hid ((U2.take 4)[k2]? = some ⟨a, n, c⟩) := by unfold Hid; rw [List.getElem?_take_of_lt hlt]; exact hs
                          clear hl0 hl1 hs
                          go_upto_region 61 with fail
                          go_loopw [38] (fun s2 wz => ∃ i2 : Nat, i2 ≤ n ∧ s2 = .int .i64 (i2 : Int) ∧ Hid (Below w30.heap.size w30 wz)) (fun s _ => n - (intOf s).toNat)
                          case atStart => exact ⟨0, Nat.zero_le _, rfl, HB2.out⟩
                          case round =>
                            obtain ⟨i2, hi2, rfl, HB3⟩ := hrel
                            have hk0 : ¬ (k2 : Int) < 0 := by omega
                            have hcell : wr.cell? ⟨gg, k2, none⟩ = some (.slice a n c) := cellG (HGR.out.below HB3.out) HT2.out
                            by_cases hlt9 : i2 < n
                            · have hj1 : (i2 : Int) < (n : Int) := by omega
                              go_upto_region 63 with fail
                              clear hcell
                              obtain ⟨gk, rfl, hgk1, hgk2⟩ := own_zero HLX.out (Nat.lt_of_le_of_lt (Nat.zero_le _) hlt9) HLN.out
                              clear hgk1 hgk2
                              have hbyte : IntKind.u8.wrap (IntKind.i64.wrap (97 + (k2 : Int))) = 97 + (k2 : Int) := by
                                rcases HK4.out with rfl | rfl | rfl | rfl <;> rfl
                              have hj0 : ¬ (i2 : Int) < 0 := by omega
                              have hk0 : ¬ (k2 : Int) < 0 := by omega
                              have hn63 := HNL.out
                              have BD := hide (chain HB3.out ((Below.refl _ wr).drew))
                              have hG0 : LOwn scv 1 24 wr.drew B (.slice (some ⟨gg, 0, none⟩) 4 gc) (U2.take 4) := HGR.out.below BD.out
                              have hX0 : TxOwn wr.drew B (.slice (some ⟨gk, 0, none⟩) n c) l := HLX.out.below BD.out
                              have hS0 := held63 hG0 hX0 HT2.out hlt HLN.out hlt9 HMX.out
                              clear hG0 hX0
                              refine wp_region_held_drew (S := fun wz : World => wz.cell? ⟨gg, k2, none⟩ = some (.slice (some ⟨gk, 0, none⟩) n c) ∧ wz.cell? ⟨gk, i2, none⟩ = some (.string (str [97 + k2]))) (by kernel_rfl) hS0 (fun hHeld => ?_)
                              clear hS0
                              obtain ⟨wd, hwd⟩ : ∃ z, z = wr.drew := ⟨_, rfl⟩
                              rw [← hwd] at BD hHeld ⊢
                              clear hwd
                              refine wpAnyH_take (i := 0) (oi := { dst := some 303, op := Go.Op.move (Go.Operand.tmp 31), type := 62, pos := "outright.go:163", after := #[], guard := none }) (v := ?_) rfl (by kernel_rfl) (by kernel_rfl) (by kernel_rfl) (fun _ _ _ h => h) (Or.inl ⟨by rfl, ?_⟩) (by assumption) ?_
                              rotate_left
                              · intro w hSw
                                obtain ⟨hSg, hSx⟩ := hSw
                                try dsimp only at hSg hSx
                                go_simp
                                try with_reducible rfl
                              simp only [Act.put, List.setIfInBounds_toArray, List.set_cons_zero, List.set_cons_succ]
                              refine wpAnyH_take (i := 1) (oi := { dst := some 304, op := Go.Op.move (Go.Operand.tmp 37), type := 3, pos := "outright.go:163", after := #[], guard := none }) (v := ?_) rfl (by kernel_rfl) (by kernel_rfl) (by kernel_rfl) (fun _ _ _ h => h) (Or.inl ⟨by rfl, ?_⟩) (by assumption) ?_
                              rotate_left
                              · intro w hSw
                                obtain ⟨hSg, hSx⟩ := hSw
                                try dsimp only at hSg hSx
                                go_simp
                                try with_reducible rfl
                              simp only [Act.put, List.setIfInBounds_toArray, List.set_cons_zero, List.set_cons_succ]
                              refine wpAnyH_take (i := 2) (oi := { dst := some 305, op := Go.Op.indexAddr 62 (Go.Operand.tmp 303) (Go.Operand.tmp 304), type := 0, pos := "outright.go:163", after := #[{ on := 0, ground := Go.Ground.data }, { on := 1, ground := Go.Ground.data }], guard := none }) (v := ?_) rfl (by kernel_rfl) (by kernel_rfl) (by kernel_rfl) (fun _ _ _ h => h) (Or.inl ⟨by rfl, ?_⟩) (by assumption) ?_
                              rotate_left
                              · intro w hSw
                                obtain ⟨hSg, hSx⟩ := hSw
                                try dsimp only at hSg hSx
                                go_simp
                                try with_reducible rfl
                              simp only [Act.put, List.setIfInBounds_toArray, List.set_cons_zero, List.set_cons_succ]
                              refine wpAnyH_take (i := 3) (oi := { dst := some 306, op := Go.Op.load 24 (Go.Operand.tmp 305), type := 24, pos := "outright.go:163", after := #[{ on := 2, ground := Go.Ground.data }], guard := none }) (v := ?_) rfl (by kernel_rfl) (by kernel_rfl) (by kernel_rfl) (fun _ _ _ h => h) (Or.inl ⟨by rfl, ?_⟩) (by assumption) ?_
                              rotate_left
                              · intro w hSw
                                obtain ⟨hSg, hSx⟩ := hSw
                                try dsimp only at hSg hSx
                                go_simp
                                try with_reducible rfl
                              simp only [Act.put, List.setIfInBounds_toArray, List.set_cons_zero, List.set_cons_succ]
                              refine wpAnyH_take (i := 4) (oi := { dst := some 307, op := Go.Op.move (Go.Operand.tmp 38), type := 3, pos := "outright.go:163", after := #[], guard := none }) (v := ?_) rfl (by kernel_rfl) (by kernel_rfl) (by kernel_rfl) (fun _ _ _ h => h) (Or.inl ⟨by rfl, ?_⟩) (by assumption) ?_
                              rotate_left
                              · intro w hSw
                                obtain ⟨hSg, hSx⟩ := hSw
                                try dsimp only at hSg hSx
                                go_simp
                                try with_reducible rfl
                              simp only [Act.put, List.setIfInBounds_toArray, List.set_cons_zero, List.set_cons_succ]
                              refine wpAnyH_take (i := 5) (oi := { dst := some 308, op := Go.Op.indexAddr 24 (Go.Operand.tmp 306) (Go.Operand.tmp 307), type := 0, pos := "outright.go:163", after := #[{ on := 3, ground := Go.Ground.data }, { on := 4, ground := Go.Ground.data }], guard := none }) (v := ?_) rfl (by kernel_rfl) (by kernel_rfl) (by kernel_rfl) (fun _ _ _ h => h) (Or.inl ⟨by rfl, ?_⟩) (by assumption) ?_
                              rotate_left
                              · intro w hSw
                                obtain ⟨hSg, hSx⟩ := hSw
                                try dsimp only at hSg hSx
                                go_simp
                                try with_reducible rfl
                              simp only [Act.put, List.setIfInBounds_toArray, List.set_cons_zero, List.set_cons_succ]
                              refine wpAnyH_take (i := 6) (oi := { dst := some 309, op := Go.Op.load 9 (Go.Operand.tmp 308), type := 9, pos := "outright.go:163", after := #[{ on := 5, ground := Go.Ground.data }], guard := none }) (v := ?_) rfl (by kernel_rfl) (by kernel_rfl) (by kernel_rfl) (fun _ _ _ h => h) (Or.inl ⟨by rfl, ?_⟩) (by assumption) ?_
                              rotate_left
                              · intro w hSw
                                obtain ⟨hSg, hSx⟩ := hSw
                                try dsimp only at hSg hSx
                                go_simp
                                try with_reducible rfl
                              simp only [Act.put, List.setIfInBounds_toArray, List.set_cons_zero, List.set_cons_succ]
                              refine wpAnyH_take (i := 7) (oi := { dst := some 310, op := Go.Op.move (Go.Operand.tmp 37), type := 3, pos := "outright.go:163", after := #[], guard := none }) (v := ?_) rfl (by kernel_rfl) (by kernel_rfl) (by kernel_rfl) (fun _ _ _ h => h) (Or.inl ⟨by rfl, ?_⟩) (by assumption) ?_
                              rotate_left
                              · intro w hSw
                                obtain ⟨hSg, hSx⟩ := hSw
                                try dsimp only at hSg hSx
                                go_simp
                                try with_reducible rfl
                              simp only [Act.put, List.setIfInBounds_toArray, List.set_cons_zero, List.set_cons_succ]
                              refine wpAnyH_take (i := 8) (oi := { dst := some 311, op := Go.Op.binOp Go.BinOp.add 3 (Go.Operand.const (Go.Value.int Go.IntKind.i64 97)) (Go.Operand.tmp 310) 3, type := 3, pos := "outright.go:163", after := #[{ on := 7, ground := Go.Ground.data }], guard := none }) (v := ?_) rfl (by kernel_rfl) (by kernel_rfl) (by kernel_rfl) (fun _ _ _ h => h) (Or.inl ⟨by rfl, ?_⟩) (by assumption) ?_
                              rotate_left
                              · intro w hSw
                                obtain ⟨hSg, hSx⟩ := hSw
                                try dsimp only at hSg hSx
                                go_simp
                                try with_reducible rfl
                              simp only [Act.put, List.setIfInBounds_toArray, List.set_cons_zero, List.set_cons_succ]
                              refine wpAnyH_take (i := 9) (oi := { dst := some 312, op := Go.Op.convert 3 5 (Go.Operand.tmp 311), type := 5, pos := "outright.go:163", after := #[{ on := 8, ground := Go.Ground.data }], guard := none }) (v := ?_) rfl (by kernel_rfl) (by kernel_rfl) (by kernel_rfl) (fun _ _ _ h => h) (Or.inl ⟨by rfl, ?_⟩) (by assumption) ?_
                              rotate_left
                              · intro w hSw
                                obtain ⟨hSg, hSx⟩ := hSw
                                try dsimp only at hSg hSx
                                go_simp
                                try with_reducible rfl
                              simp only [Act.put, List.setIfInBounds_toArray, List.set_cons_zero, List.set_cons_succ]
                              obtain ⟨y0, e0, m0, D0⟩ := box1 wd [.int .u8 (97 + (k2 : Int))] 5
                              obtain ⟨h, eh⟩ : ∃ h, wd.heap.size = h := ⟨_, rfl⟩
                              have BD1 := hide (chain BD.out D0)
                              rw [eh] at m0
                              have BH : Hid (Bk y0 h [.int .u8 ((97 + k2 : Nat) : Int)] 5) := by unfold Hid; rw [Int.natCast_add]; exact m0
                              clear m0 D0
                              refine wpAnyH_ready (rs := [10]) (by kernel_rfl) (by simp) ?_
                              refine AllReadyH.cons (o := { dst := some 313, op := Go.Op.buildSlice 56 1 #[(0, Go.Operand.tmp 312)], type := 56, pos := "outright.go:163", after := #[{ on := 9, ground := Go.Ground.data }], guard := none }) rfl (fun K hK => ?_) AllReadyH.nil
                              go_simp
                              try simp only [hbyte, e0, eh]
                              refine hK.out _ _ (held63 (HGR.out.below BD1.out) (HLX.out.below BD1.out) HT2.out hlt HLN.out hlt9 HMX.out) (fun hHeld3 => ?_)
                              clear hK K e0 eh
                              try simp only [Act.put, List.setIfInBounds_toArray, List.set_cons_zero, List.set_cons_succ]
                              refine wpAnyH_ready (rs := [11]) (by kernel_rfl) (by simp) ?_
                              refine AllReadyH.cons (o := { dst := some 314, op := Go.Op.convert 56 9 (Go.Operand.tmp 313), type := 9, pos := "outright.go:163", after := #[{ on := 10, ground := Go.Ground.data }], guard := none }) rfl (fun K hK => ?_) AllReadyH.nil
                              have hcv := bts_string (bts_one BH.out (show 97 + k2 < 256 by have := HK4.out; omega))
                              go_simp
                              clear hcv
                              refine hK.out _ _ (held63 (HGR.out.below BD1.out) (HLX.out.below BD1.out) HT2.out hlt HLN.out hlt9 HMX.out) (fun hHeld4 => ?_)
                              clear hK K
                              try simp only [Act.put, List.setIfInBounds_toArray, List.set_cons_zero, List.set_cons_succ]
                              refine wpAnyH_take (i := 12) (oi := { dst := some 315, op := Go.Op.binOp Go.BinOp.neq 9 (Go.Operand.tmp 309) (Go.Operand.tmp 314) 9, type := 4, pos := "outright.go:163", after := #[{ on := 6, ground := Go.Ground.data }, { on := 11, ground := Go.Ground.data }], guard := none }) (v := ?_) rfl (by kernel_rfl) (by kernel_rfl) (by kernel_rfl) (fun _ _ _ h => h) (Or.inl ⟨by rfl, ?_⟩) (by assumption) ?_
                              rotate_left
                              · intro w hSw
                                obtain ⟨hSg, hSx⟩ := hSw
                                try dsimp only at hSg hSx
                                go_simp
                                try with_reducible rfl
                              simp only [Act.put, List.setIfInBounds_toArray, List.set_cons_zero, List.set_cons_succ]
                              refine wpAnyH_done (by kernel_rfl) ?_ _
                              clear hHeld hHeld3 hHeld4 hbyte
                              go_wp2
                              exact ⟨⟨i2 + 1, by omega, by simp, BD1.out⟩, by simp [intOf]; omega⟩
                            · obtain rfl : n = i2 := by omega
                              have hnk9 : ¬ (n : Int) < (n : Int) := by omega
                              have hn63 := HNL.out
                              go_wp2
                              exact ⟨⟨k2 + 1, by omega, by simp, HB3.out⟩, by simp [intOf]; omega⟩
                        · obtain rfl : k2 = 4 := by omega
                          have hnk9 : ¬ (4 : Int) < 4 := by omega
                          replace MKg := hide (MKg.out.below HB2.out)
                          clear HB2 HGR
                          obtain ⟨w31, hw31⟩ : ∃ z, z = wr := ⟨_, rfl⟩
                          rw [← hw31] at MKg ⊢
                          clear hw31
                          go_upto_region 66 with fail
                          go_loopw [39] (fun s wz => ∃ i : Nat, i ≤ sm ∧ s = .int .i64 (i : Int) ∧ Hid (Below w31.heap.size w31 wz)) (fun s _ => sm - (intOf s).toNat)
                          case atStart => exact ⟨0, Nat.zero_le _, rfl, Below.refl _ _⟩
                          case round =>
                            obtain ⟨i3, hi3, rfl, HB4⟩ := hrel
                            have L6 := hide (MKg.out.k6.below HB4.out)
                            have a6 := L6.out.cell 6 rfl
                            by_cases hlt3 : i3 < sm
                            · --
                              have hj1 : (i3 : Int) < (sm : Int) := by omega
                              have hj0 : ¬ (i3 : Int) < 0 := by omega
                              have hk2 := HS32.out
                              obtain ⟨bb, oo, e1, hc1⟩ := (own_rcs (MKg.out.hm.below HB4.out)).at tv1 (by decide) (HMI.out.2 i3 hlt3)
                              simp only [Option.some.injEq, Addr.mk.injEq] at e1
                              obtain ⟨rfl, rfl, -⟩ := e1
                              have n0 := hc1 0 _ rfl
                              rw [Nat.mul_one, Nat.add_zero, Nat.zero_add] at n0
                              clear hc1
                              go_wp2
                              exact ⟨⟨i3 + 1, by omega, by simp, HB4.out⟩, by simp [intOf]; omega⟩
                            · obtain rfl : i3 = sm := by omega
                              have hnk3 : ¬ (i3 : Int) < (i3 : Int) := by omega
                              have HZ := hide (chain MKg.out.kd HB4.out)
                              clear MKg HMG HMI
                              go_wp2
                              go_ret
                              exact ⟨rfl, HZ.out⟩
end Go.Proofs.YtdbciciljeainaaGreatDoor.chunkApart
