/-
  Lists of texts of one's own that share no block; a mark laid into one, or put behind it; a list of texts copied into a new one with room.
  What a law knows while it marks lists of its own: the lists, the list of them, a box and a list beside them, and what is left alone below.
  A list of lists that grows beside the family; what stays as it is there.
-/
import Derived.Test.YtdbciciljeainaaGreatDoorXfClone
import Derived.Test.YtdbciciljeainaaGreatDoorXfKit
import Derived.Test.YtdbciciljeainaaGreatDoorXfDue
import Derived.Laws.CopyOwn
import Derived.Laws.CopyRow
import Derived.Deep.Cut
namespace Go.Proofs.YtdbciciljeainaaGreatDoor
open Go.RowKit FerryCrc
set_option linter.unusedVariables false
set_option linter.unusedSimpArgs false

theorem append_at {P : Program} (w : World) {ops : Array Oper} {rest : List Oper} {o : Oper} {a : Act} {Q : Exit → Act → World → Prop} (hgd : o.guard = none) (s x : Operand) (t : TypeId)
    (ho : o.op = .call { callee := .builtin .append, args := #[s, x], argTypes := #[t, t] })
    (base : Nat) (e : TypeId) (i : TypeInfo) (z : Value) (size bytes : Nat) (ht : P.underlying t = some (.slice e)) (hi : P.info? e = some i) (hz : i.zero = some z)
    (hsize : i.size = size) (hby : i.bytes = bytes) (hzs : z.cells.size = size) (hsz : 0 < size)
    (v : Value) (n : Nat) (xs : List Value) (hs : a.eval s = v) (hown : w.ownsRow base e size v n xs)
    (ad : Addr) (m c : Nat) (news : List Value) (hx : a.eval x = .slice (some ad) m c) (hl : news.length = m * size) (hnews : ∀ j u, news[j]? = some u → w.cell? (ad.add j) = some u) (h1 : ∀ u ∈ news, u.oneCell' = true)
    (h63 : n + m ≤ maxLen) (hbytes : (n + m) * bytes ≤ 140737488355328) (hbase : base ≤ w.heap.size) (hm : 0 < m)
    (h : ∀ g' c' w', w'.ownsRow base e size (.slice (some ⟨g', 0, none⟩) (n + m) c') (n + m) (xs ++ news) → w.grownBy w' v.ownBlock → (v.ownBlock = some g' ∨ w.heap.size ≤ g') → wpList P ops Q rest (a.put o.dst (.slice (some ⟨g', 0, none⟩) (n + m) c')) w') : wpList P ops Q (o :: rest) a w := by
  refine wpList_plain hgd fun K hK => ?_
  obtain ⟨v', w', hr, h2, h3, h4⟩ := run_append_own (P := P) w base t o.type e i z size bytes ht hi hz hsize hby hzs hsz v n xs hown ad m c news hl hnews h1 h63 hbytes hbase
  have hat : ∀ g', v'.ownBlock = some g' → v.ownBlock = some g' ∨ w.heap.size ≤ g' := by
    intro g' hg'
    rcases hown.2 with ⟨e1, e2⟩ | ⟨g, cap, cur, e1, hg, hh, hnc, hcm, hcs, htk⟩
    · obtain ⟨v2, w2, hr2, k2, _⟩ := run_append_own (P := P) w w.heap.size t o.type e i z size bytes ht hi hz hsize hby hzs hsz v n xs ⟨hown.1, .inl ⟨e1, e2⟩⟩ ad m c news hl hnews h1 h63 hbytes (Nat.le_refl _)
      rw [hr2] at hr
      injection hr with e3 e4
      subst e3
      exact .inr (World.ownsRow.lt k2 g' hg').1
    · subst e1
      by_cases hrm : n + m ≤ cap
      · have hrun := run_append_room_cells (P := P) w t o.type e i ht hi g 0 n cap ad m c news (by rw [hsize]; exact hl) hnews h1 hrm (fun j hj => by
          rw [cell_of_row w g _ cur _ _ hh]
          have : 0 + n * i.size + j < cur.size := by
            rw [hcs, hsize]
            have := Nat.mul_le_mul_right size hrm
            rw [Nat.add_mul] at this
            omega
          rw [Array.getElem?_eq_getElem this]
          rfl) (fun j hj => World.ownsRow.frozenAt hown _)
        rw [hrun] at hr
        injection hr with e3 _
        left
        rw [← e3] at hg'
        exact hg'
      · obtain ⟨v2, w2, hr2, k2, _⟩ := run_append_arg_grows (P := P) w t o.type e i z size bytes ht hi hz hsize hby hzs hsz ⟨g, 0, none⟩ n cap xs hown.1 (fun j u hj => by
          have hj' := (List.getElem?_eq_some_iff.1 hj).1
          rw [hown.1] at hj'
          rw [add_lit', Nat.zero_add, World.ownsRow.cellAt hown j hj']
          exact hj) ad m c news hl hnews (by omega) h63 hbytes
        rw [hr2] at hr
        injection hr with e3 _
        subst e3
        exact .inr (World.ownsRow.lt k2 g' hg').1
  rcases h2.2 with ⟨_, e2⟩ | ⟨g', cap, cur, e1, _⟩
  · omega
  · subst e1
    unfold Oper.wp execOp
    simp only [ho, resolve, invoke, builtin, Sem.run_bind, Sem.run_pure, Result.andThen_ok, List.map_toArray, List.map_cons, List.map_nil, hs, hx, hr]
    exact hK _ _ (h g' cap w' h2 h3 (hat g' rfl))
/-- A slice's value. -/
structure Sc where
  (a : Option Addr) (n c : Nat)
def Sc.v (s : Sc) : Value := .slice s.a s.n s.c
theorem own_grown {α : Type} {f : α → List Value} {sz : Nat} {e : TypeId} {w w' : World} {base : Nat} {v : Value} {l : List α} {row : Option Nat} (h : LOwn f sz e w base v l) (hg : w.grownBy w' row) (hr : ∀ g, v.ownBlock = some g → row ≠ some g) : LOwn f sz e w' base v l := by
  refine ⟨h.1, ?_⟩
  rcases h.2 with hn | ⟨g, cap, cur, rfl, hb, hgg, rest⟩
  · exact .inl hn
  · refine .inr ⟨g, cap, cur, rfl, hb, ?_, rest⟩
    have hlt : g < w.heap.size := (Array.getElem?_eq_some_iff.1 hgg).1
    rw [hg.block g hlt (fun e => hr g rfl e.symm)]
    exact hgg
/-- Lists of one's own that share no block. -/
structure Fam (w : World) (B : Nat) (U : List Sc) (M : List (List ByteArray)) : Prop where
  len : U.length = M.length
  own : ∀ (j : Nat) (s : Sc) (l : List ByteArray), U[j]? = some s → M[j]? = some l → TxOwn w B s.v l
  apart : ∀ (i j : Nat) (s t : Sc) (g : Nat), U[i]? = some s → U[j]? = some t → i ≠ j → s.v.ownBlock = some g → t.v.ownBlock ≠ some g
theorem Fam.below {w w' : World} {B : Nat} {U : List Sc} {M : List (List ByteArray)} (h : Fam w B U M) (hb : Below w.heap.size w w') : Fam w' B U M :=
  ⟨h.len, fun j s l h1 h2 => (h.own j s l h1 h2).below hb, h.apart⟩
/-- A text laid into one of them. -/
theorem Fam.put {w : World} {B : Nat} {U : List Sc} {M : List (List ByteArray)} (h : Fam w B U M) {k g n c i : Nat} {l : List ByteArray} (hU : U[k]? = some ⟨some ⟨g, 0, none⟩, n, c⟩) (hM : M[k]? = some l) (hl : l.length = n) (hi : i < n) (x : ByteArray) :
    Fam (w.setCell ⟨g, i, none⟩ (.string x)) B U (M.set k (l.set i x)) ∧ (∃ u, w.cell? ⟨g, i, none⟩ = some u) ∧ w.frozen? ⟨g, i, none⟩ = false ∧ B ≤ g := by
  have ho := h.own k _ l hU hM
  obtain ⟨z1, z2, z3, z4, z5⟩ := LOwn.put tv1 ho hl hi x
  obtain ⟨y0, x0⟩ := z1 0 (by decide)
  simp only [Nat.mul_one, Nat.add_zero] at y0 x0
  rw [Nat.mul_one] at z2 z3
  refine ⟨⟨by rw [List.length_set]; exact h.len, fun j s l' h1 h2 => ?_, h.apart⟩, y0, x0, z4⟩
  by_cases e : j = k
  · subst e
    rw [hU] at h1
    obtain rfl := Option.some.inj h1
    rw [List.getElem?_set_self (List.getElem?_eq_some_iff.1 hM).1] at h2
    obtain rfl := Option.some.inj h2
    exact z2
  · rw [List.getElem?_set_ne (Ne.symm e)] at h2
    exact (h.own j s l' h1 h2).far (p := ⟨g, i, none⟩) (h.apart k j _ s g hU h1 (Ne.symm e) rfl) _
/-- A text put behind one of them. -/
theorem Fam.grow {w w' : World} {B : Nat} {U : List Sc} {M : List (List ByteArray)} (h : Fam w B U M) {k g' c' : Nat} {s : Sc} {l l' : List ByteArray} (hU : U[k]? = some s) (hM : M[k]? = some l) (hg : w.grownBy w' s.v.ownBlock) (ho : TxOwn w' B (.slice (some ⟨g', 0, none⟩) l'.length c') l') (hw : s.v.ownBlock = some g' ∨ w.heap.size ≤ g') :
    Fam w' B (U.set k ⟨some ⟨g', 0, none⟩, l'.length, c'⟩) (M.set k l') := by
  have hne : ∀ (j : Nat) (t : Sc) (b : Nat), U[j]? = some t → j ≠ k → t.v.ownBlock = some b → b ≠ g' := fun j t b hj e hb => by
    rcases hw with h1 | h1
    · intro e2
      subst e2
      exact h.apart k j s t b hU hj (Ne.symm e) h1 hb
    · have hj2 : j < M.length := by rw [← h.len]; exact (List.getElem?_eq_some_iff.1 hj).1
      have := (World.ownsRow.lt (h.own j t _ hj (List.getElem?_eq_getElem hj2)) b hb).2
      omega
  refine ⟨by rw [List.length_set, List.length_set]; exact h.len, fun j t m h1 h2 => ?_, fun i j t u b h1 h2 e hb => ?_⟩
  · by_cases e : j = k
    · subst e
      rw [List.getElem?_set_self (List.getElem?_eq_some_iff.1 hU).1] at h1
      rw [List.getElem?_set_self (List.getElem?_eq_some_iff.1 hM).1] at h2
      obtain rfl := Option.some.inj h1
      obtain rfl := Option.some.inj h2
      exact ho
    · rw [List.getElem?_set_ne (Ne.symm e)] at h1 h2
      exact own_grown (h.own j t m h1 h2) hg (fun b hb => fun e2 => h.apart k j s t b hU h1 (Ne.symm e) e2 hb)
  · by_cases ei : i = k
    · subst ei
      rw [List.getElem?_set_self (List.getElem?_eq_some_iff.1 hU).1] at h1
      rw [List.getElem?_set_ne e] at h2
      obtain rfl := Option.some.inj h1
      obtain rfl : g' = b := Option.some.inj hb
      exact fun h3 => hne j u g' h2 (Ne.symm e) h3 rfl
    · rw [List.getElem?_set_ne (Ne.symm ei)] at h1
      by_cases ej : j = k
      · subst ej
        rw [List.getElem?_set_self (List.getElem?_eq_some_iff.1 hU).1] at h2
        obtain rfl := Option.some.inj h2
        intro h3
        exact hne i t b h1 ei hb (Option.some.inj h3).symm
      · rw [List.getElem?_set_ne (Ne.symm ej)] at h2
        exact h.apart i j t u b h1 h2 e hb
/-- One more list, made by a call. -/
theorem Fam.snoc {w w' : World} {B : Nat} {U : List Sc} {M : List (List ByteArray)} (h : Fam w B U M) (hb : Below w.heap.size w w') (hB : B ≤ w.heap.size) {s : Sc} {l : List ByteArray} (ho : TxOwn w' w.heap.size s.v l) : Fam w' B (U ++ [s]) (M ++ [l]) := by
  have hold : ∀ (j : Nat) (t : Sc) (b : Nat), U[j]? = some t → t.v.ownBlock = some b → b < w.heap.size := fun j t b hj hb => by
    have hj2 : j < M.length := by rw [← h.len]; exact (List.getElem?_eq_some_iff.1 hj).1
    exact (World.ownsRow.lt (h.own j t _ hj (List.getElem?_eq_getElem hj2)) b hb).2
  have hnew : ∀ b, s.v.ownBlock = some b → w.heap.size ≤ b := fun b hb => (World.ownsRow.lt ho b hb).1
  have hl := h.len
  have part : ∀ {j : Nat} {t : Sc}, (U ++ [s])[j]? = some t → U[j]? = some t ∨ (j = U.length ∧ t = s) := fun {j t} hj => by
    by_cases e : j < U.length
    · rw [List.getElem?_append_left e] at hj
      exact .inl hj
    · have h2 := (List.getElem?_eq_some_iff.1 hj).1
      rw [List.length_append] at h2
      simp only [List.length_cons, List.length_nil] at h2
      obtain rfl : j = U.length := by omega
      rw [List.getElem?_append_right (Nat.le_refl _), Nat.sub_self] at hj
      exact .inr ⟨rfl, (Option.some.inj hj).symm⟩
  refine ⟨by rw [List.length_append, List.length_append, hl]; rfl, fun j t m h1 h2 => ?_, fun i j t u b h1 h2 e hb2 => ?_⟩
  · rcases part h1 with h3 | ⟨rfl, rfl⟩
    · have hj := (List.getElem?_eq_some_iff.1 h3).1
      rw [List.getElem?_append_left (by omega)] at h2
      exact (h.own j t m h3 h2).below hb
    · rw [hl, List.getElem?_append_right (Nat.le_refl _), Nat.sub_self] at h2
      obtain rfl := Option.some.inj h2
      exact ho.weaken hB
  · rcases part h1 with h3 | ⟨rfl, rfl⟩
    · rcases part h2 with h4 | ⟨rfl, rfl⟩
      · exact h.apart i j t u b h3 h4 e hb2
      · intro h5
        have := hold i t b h3 hb2
        have := hnew b h5
        omega
    · rcases part h2 with h4 | ⟨h5, -⟩
      · intro h5
        have := hold j u b h4 h5
        have := hnew b hb2
        omega
      · exact absurd h5.symm e
theorem Fam.nil (w : World) (B : Nat) : Fam w B [] [] := ⟨rfl, fun j s l h => by simp at h, fun i j s t g h => by simp at h⟩
/-- append of one text to a list of one's own, and where the new list lies. -/
theorem append_txa (w : World) {ops : Array Oper} {rest : List Oper} {o : Oper} {a : Act} {Q : Exit → Act → World → Prop} (hgd : o.guard = none) (s x : Operand)
    (ho : o.op = .call { callee := .builtin .append, args := #[s, x], argTypes := #[24, 24] })
    (base : Nat) (v : Value) (l : List ByteArray) (hs : a.eval s = v) (hown : TxOwn w base v l)
    (g c : Nat) (y : ByteArray) (hx : a.eval x = .slice (some ⟨g, 0, none⟩) 1 c) (hc : w.cell? ⟨g, 0, none⟩ = some (.string y)) (h63 : (l.length + 1) * 16 ≤ 140737488355328) (hbase : base ≤ w.heap.size)
    (h : ∀ g' c' w', TxOwn w' base (.slice (some ⟨g', 0, none⟩) (l.length + 1) c') (l ++ [y]) → w.grownBy w' v.ownBlock → (v.ownBlock = some g' ∨ w.heap.size ≤ g') → wpList Tryz.prog ops Q rest (a.put o.dst (.slice (some ⟨g', 0, none⟩) (l.length + 1) c')) w') : wpList Tryz.prog ops Q (o :: rest) a w := by
  obtain ⟨i, zz, hi, hz, hsz, hb, hzc⟩ := info_open infoTx
  refine append_at w hgd s x 24 ho base 9 i zz 1 16 Tryz.underlying24 hi hz hsz hb (by rw [hzc]; rfl) (by decide) v l.length (l.flatMap tv) hs hown ⟨g, 0, none⟩ 1 c (tv y) hx rfl ?_ (fun u hu => by simp only [tv, List.mem_singleton] at hu; subst hu; rfl) (by unfold maxLen; omega) (by omega) hbase (by decide) ?_
  · intro j u hu
    cases j with
    | zero =>
      simp only [tv, List.getElem?_cons_zero, Option.some.injEq] at hu
      subst hu
      exact hc
    | succ j => simp [tv] at hu
  · intro g' c' w' k1 k2 k3
    refine h g' c' w' ?_ k2 k3
    unfold TxOwn LOwn
    rw [List.length_append, List.flatMap_append]
    exact k1
theorem run_copy_nilT {P : Program} (w : World) (dT sT ty elem : TypeId) (d : Option Addr) (dLen dCap : Nat) (sz : Nat)
    (hu : P.underlying dT = some (.slice elem)) (hs : (P.info? elem).map (·.size) = some sz) :
    (Builtin.copy_ #[dT, sT] ty #[.slice d dLen dCap, .slice none 0 0]).run P w = .ok (goInt 0) w := by
  cases hq : P.info? elem with
  | none => simp [hq] at hs
  | some i =>
    simp [Builtin.copy_, run_underlying hu, Builtin.lenOf, Builtin.firstCells, sizeOf, typeInfo, hq]
    cases d <;> simp [storeCells]
theorem run_copy_wideT {P : Program} (w : World) (dT sT ty elem : TypeId) (g o dLen dCap : Nat) (a : Addr) (sLen sCap : Nat) (cur : Array Value) (t : TypeId) (cs : List Value) (sz : Nat)
    (hu : P.underlying dT = some (.slice elem)) (hs : (P.info? elem).map (·.size) = some sz)
    (hg : w.heap[g]? = some (.cells cur t (0, 0))) (hn : cs.length = Nat.min sLen dLen * sz)
    (hsrc : ∀ j v, cs[j]? = some v → w.cell? (a.add j) = some v) (hfit : o + cs.length ≤ cur.size) (h1 : ∀ v ∈ cs, v.oneCell' = true) :
    (Builtin.copy_ #[dT, sT] ty #[.slice (some ⟨g, o, none⟩) dLen dCap, .slice (some a) sLen sCap]).run P w =
      .ok (goInt (Nat.min sLen dLen)) (w.setRow g (cur.toList.take o ++ cs ++ cur.toList.drop (o + cs.length)).toArray) := by
  have hl := run_loadCells_list (P := P) w a cs hsrc
  have hst := run_storeCells_at P g o t cs 0 cur w hg (by simpa using hfit) h1
  cases hq : P.info? elem with
  | none => simp [hq] at hs
  | some i =>
    have hi : i.size = sz := by simpa [hq] using hs
    rw [hn] at hl
    simp only [Nat.add_zero] at hst
    simp [Builtin.copy_, run_underlying hu, Builtin.lenOf, Builtin.firstCells, sizeOf, typeInfo, hq, hi, hl, hst]
theorem sizeTx : (Tryz.prog.info? 9).map (·.size) = some 1 := by kernel_rfl
def z9 : List ByteArray := List.replicate 9 ByteArray.empty
theorem copy_txs {w : World} {base g len cap : Nat} {a : Option Addr} {l : List ByteArray} (ho : TxOwn w base (.slice (some ⟨g, 0, none⟩) (len + 9) (len + 9)) (List.replicate (len + 9) ByteArray.empty)) (hs : Txs w a len cap l) (ty : TypeId) :
    ∃ w2, Sem.run Tryz.prog (Builtin.copy_ #[24, 24] ty #[.slice (some ⟨g, 0, none⟩) (len + 9) (len + 9), .slice a len cap]) w = .ok (.int .i64 (len : Int)) w2 ∧ TxOwn w2 base (.slice (some ⟨g, 0, none⟩) (len + 9) (len + 9)) (l ++ z9) ∧ Below g w w2 := by
  cases a with
  | none =>
    obtain ⟨rfl, rfl⟩ := hs.row.null rfl
    obtain rfl : l = [] := List.length_eq_zero_iff.1 hs.size
    exact ⟨w, run_copy_nilT w _ _ _ 9 _ _ _ 1 Tryz.underlying24 sizeTx, ho, Below.refl _ _⟩
  | some ad =>
    obtain ⟨h1, h2⟩ := ho
    rcases h2 with ⟨e, _⟩ | ⟨g', cap', cur, e, hg, hh, hnc, hcm, hcs, htake⟩
    · simp at e
    rw [List.length_replicate] at e hnc htake
    simp only [Value.slice.injEq, Option.some.injEq, Addr.mk.injEq, and_true, true_and] at e
    obtain ⟨rfl, rfl⟩ := e
    have hfl := fl_len tv1 l
    rw [hs.size] at hfl
    have hmin : Nat.min len (len + 9) = len := Nat.min_eq_left (by omega)
    have hcl : cur.toList = (List.replicate (len + 9) ByteArray.empty).flatMap tv := by
      rw [← htake, List.take_of_length_le (by rw [Array.length_toList, hcs]; exact Nat.le_refl _)]
    have hrun := run_copy_wideT (P := Tryz.prog) w 24 24 ty 9 g 0 (len + 9) (len + 9) ad len cap cur 9 (l.flatMap tv) 1 Tryz.underlying24 sizeTx hh (by rw [hfl, hmin]) (fun j v hv => by
      obtain ⟨b, off, e, hc⟩ := hs.row.cell j v hv
      obtain rfl := Option.some.inj e
      rw [add_lit']
      exact hc) (by omega) (tv_one l)
    rw [hmin] at hrun
    have hz : (l ++ z9).length = len + 9 := by rw [List.length_append, hs.size]; rfl
    refine ⟨_, hrun, ?_, below_setRow (Nat.le_refl _) _ (Below.refl _ _)⟩
    have hdrop : ((List.replicate (len + 9) ByteArray.empty).flatMap tv).drop len = z9.flatMap tv := by
      have hft : ∀ k : Nat, (List.replicate k ByteArray.empty).flatMap tv = List.replicate k (.string ByteArray.empty) := fun k => by
        induction k with
        | zero => rfl
        | succ k ih => rw [List.replicate_succ, List.flatMap_cons, ih]; rfl
      unfold z9
      rw [hft, hft, List.drop_replicate, Nat.add_sub_cancel_left]
    have hnew : (List.take 0 cur.toList ++ l.flatMap tv ++ cur.toList.drop (0 + (l.flatMap tv).length)) = (l ++ z9).flatMap tv := by
      rw [List.take_zero, List.nil_append, Nat.zero_add, hfl, Nat.mul_one, hcl, hdrop, List.flatMap_append]
    refine ⟨by rw [fl_len tv1], .inr ⟨g, len + 9, _, by rw [hz], hg, setRow_heap w g cur _ _ (0, 0) hh, by rw [hz]; exact Nat.le_refl _, hcm, ?_, ?_⟩⟩
    · rw [hnew, List.size_toArray, fl_len tv1, hz]
    · rw [hnew, hz, List.take_of_length_le (by rw [fl_len tv1, hz]; exact Nat.le_refl _)]
end Go.Proofs.YtdbciciljeainaaGreatDoor
namespace Go.Proofs.YtdbciciljeainaaGreatDoor
open Go.RowKit FerryCrc
set_option linter.unusedVariables false
set_option linter.unusedSimpArgs false
theorem Bk.grow1 {w w' : World} {b gw : Nat} {cs : List Value} {t : TypeId} (h : Bk w b cs t) (hg : w.grownBy w' (some gw)) (hne : b ≠ gw) : Bk w' b cs t := by
  have h1 := h.lt
  unfold Bk at *
  rw [hg.block b h1 (fun e => hne (Option.some.inj e))]
  exact h
/-- w0: the law's first world; B: from there on the lists lie; gf: the list beside them, MF what it holds; g6: the box beside them; gl: the list of the lists. -/
structure Mk (w0 : World) (B gf g6 gl m : Nat) (MF : List ByteArray) (C6 CL : List Value) (t6 tl : TypeId) (U : List Sc) (M : List (List ByteArray)) (w : World) : Prop where
  fam : Fam w B U M
  kl : Bk w gl CL tl
  k6 : Bk w g6 C6 t6
  hm : TxOwn w gf (.slice (some ⟨gf, 0, none⟩) m m) MF
  kd : Below w0.heap.size w0 w
  base : gf < B ∧ g6 < B ∧ w0.heap.size ≤ B ∧ B ≤ gl
  off : ∀ (j : Nat) (s : Sc) (b : Nat), U[j]? = some s → s.v.ownBlock = some b → b ≠ gl
theorem Mk.below {w0 : World} {B gf g6 gl m : Nat} {MF : List ByteArray} {C6 CL : List Value} {t6 tl : TypeId} {U : List Sc} {M : List (List ByteArray)} {w w' : World} (h : Mk w0 B gf g6 gl m MF C6 CL t6 tl U M w) (b : Below w.heap.size w w') : Mk w0 B gf g6 gl m MF C6 CL t6 tl U M w' :=
  ⟨h.fam.below b, h.kl.below b, h.k6.below b, h.hm.below b, chain h.kd b, h.base, h.off⟩
theorem Mk.grown {w0 : World} {B gf g6 gl m : Nat} {MF : List ByteArray} {C6 CL : List Value} {t6 tl : TypeId} {U U' : List Sc} {M M' : List (List ByteArray)} {w w' : World} (h : Mk w0 B gf g6 gl m MF C6 CL t6 tl U M w) {g : Nat} (hg : w.grownBy w' (some g)) (hB : B ≤ g) (hgl : g ≠ gl) (hf : Fam w' B U' M') (ho : ∀ (j : Nat) (s : Sc) (b : Nat), U'[j]? = some s → s.v.ownBlock = some b → b ≠ gl) : Mk w0 B gf g6 gl m MF C6 CL t6 tl U' M' w' := by
  obtain ⟨b1, b2, b3, b4⟩ := h.base
  refine ⟨hf, h.kl.grow1 hg (Ne.symm hgl), h.k6.grow1 hg (by omega), own_grown h.hm hg (fun b hb e => ?_), h.kd.grown hg h.kd.size (fun k e => ?_), h.base, ho⟩
  · obtain rfl : gf = b := Option.some.inj hb
    have := Option.some.inj e
    omega
  · have := Option.some.inj e
    omega
/-- No own block: a list that is empty. -/
theorem Mk.still {w0 : World} {B gf g6 gl m : Nat} {MF : List ByteArray} {C6 CL : List Value} {t6 tl : TypeId} {U U' : List Sc} {M M' : List (List ByteArray)} {w w' : World} (h : Mk w0 B gf g6 gl m MF C6 CL t6 tl U M w) (hg : w.grownBy w' none) (hf : Fam w' B U' M') (ho : ∀ (j : Nat) (s : Sc) (b : Nat), U'[j]? = some s → s.v.ownBlock = some b → b ≠ gl) : Mk w0 B gf g6 gl m MF C6 CL t6 tl U' M' w' := by
  have hb : ∀ {b : Nat} {cs : List Value} {t : TypeId}, Bk w b cs t → Bk w' b cs t := fun {b cs t} k => by
    have h1 := k.lt
    unfold Bk at *
    rw [hg.block b h1 (fun e => by cases e)]
    exact k
  exact ⟨hf, hb h.kl, hb h.k6, own_grown h.hm hg (fun b hb e => by cases e), h.kd.grown hg h.kd.size (fun k e => by cases e), h.base, ho⟩
/-- The k-th list: its value, where it lies when it isn't empty, its cell in the list of lists. -/
theorem Mk.list {w0 : World} {B gf g6 gl m : Nat} {MF : List ByteArray} {C6 : List Value} {t6 tl : TypeId} {U : List Sc} {M : List (List ByteArray)} {w : World} (h : Mk w0 B gf g6 gl m MF C6 (U.map Sc.v) t6 tl U M w) {k : Nat} (hk : k < U.length) :
    ∃ a n c l, U[k]? = some ⟨a, n, c⟩ ∧ M[k]? = some l ∧ l.length = n ∧ w.cell? ⟨gl, k, none⟩ = some (.slice a n c) ∧ Txs w a n c l ∧ (0 < n → ∃ g, a = some ⟨g, 0, none⟩ ∧ B ≤ g ∧ g ≠ gl) := by
  have hM : k < M.length := by rw [← h.fam.len]; exact hk
  obtain ⟨⟨a, n, c⟩, hs⟩ : ∃ s, U[k]? = some s := ⟨_, List.getElem?_eq_getElem hk⟩
  obtain ⟨l, hl⟩ : ∃ l, M[k]? = some l := ⟨_, List.getElem?_eq_getElem hM⟩
  have ho := h.fam.own k _ l hs hl
  obtain ⟨a', c', e, ht⟩ := ho.rcs
  unfold Sc.v at e
  simp only [Value.slice.injEq] at e
  obtain ⟨rfl, rfl, rfl⟩ := e
  refine ⟨a, l.length, c, l, hs, hl, rfl, h.kl.cell k (by rw [List.getElem?_map, hs]; rfl), ht, fun hn => ?_⟩
  rcases ho.2 with ⟨e, -⟩ | ⟨g, cap, cur, e, hb, -⟩
  · simp only [Sc.v, Value.slice.injEq] at e
    omega
  · simp only [Sc.v, Value.slice.injEq] at e
    obtain ⟨e1, -, -⟩ := e
    exact ⟨g, e1, hb, h.off k _ g hs (by rw [e1]; rfl)⟩
/-- A mark laid into the k-th list. -/
theorem Mk.put {w0 : World} {B gf g6 gl m : Nat} {MF : List ByteArray} {C6 CL : List Value} {t6 tl : TypeId} {U : List Sc} {M : List (List ByteArray)} {w : World} (h : Mk w0 B gf g6 gl m MF C6 CL t6 tl U M w) {k g n c i : Nat} {l : List ByteArray} (hU : U[k]? = some ⟨some ⟨g, 0, none⟩, n, c⟩) (hM : M[k]? = some l) (hl : l.length = n) (hi : i < n) (x : ByteArray) :
    Mk w0 B gf g6 gl m MF C6 CL t6 tl U (M.set k (l.set i x)) (w.setCell ⟨g, i, none⟩ (.string x)) ∧ (∃ u, w.cell? ⟨g, i, none⟩ = some u) ∧ w.frozen? ⟨g, i, none⟩ = false := by
  obtain ⟨hf, hc, hz, hB⟩ := h.fam.put hU hM hl hi x
  refine ⟨h.grown (g := g) ⟨rfl, rfl, rfl, by simp [World.setCell], fun k _ hk => heap_setCell_other w _ k _ (fun e => hk (by rw [e]))⟩ hB (h.off k _ g hU rfl) hf h.off, hc, hz⟩
/-- A text put behind the k-th list, as append_txa gives it. -/
theorem Mk.grow {w0 : World} {B gf g6 gl m : Nat} {MF : List ByteArray} {C6 CL : List Value} {t6 tl : TypeId} {U : List Sc} {M : List (List ByteArray)} {w w' : World} (h : Mk w0 B gf g6 gl m MF C6 CL t6 tl U M w) {k g' c' : Nat} {s : Sc} {l : List ByteArray} {y : ByteArray} (hU : U[k]? = some s) (hM : M[k]? = some l) (ho : TxOwn w' B (.slice (some ⟨g', 0, none⟩) (l.length + 1) c') (l ++ [y])) (hg : w.grownBy w' s.v.ownBlock) (hw : s.v.ownBlock = some g' ∨ w.heap.size ≤ g') :
    Mk w0 B gf g6 gl m MF C6 CL t6 tl (U.set k ⟨some ⟨g', 0, none⟩, l.length + 1, c'⟩) (M.set k (l ++ [y])) w' := by
  have hl : (l ++ [y]).length = l.length + 1 := by rw [List.length_append]; rfl
  have hf := h.fam.grow (l' := l ++ [y]) hU hM hg (by rw [hl]; exact ho) hw
  rw [hl] at hf
  have hoff : ∀ (j : Nat) (t : Sc) (b : Nat), (U.set k ⟨some ⟨g', 0, none⟩, l.length + 1, c'⟩)[j]? = some t → t.v.ownBlock = some b → b ≠ gl := fun j t b hj hb => by
    by_cases e : j = k
    · subst e
      rw [List.getElem?_set_self (List.getElem?_eq_some_iff.1 hU).1] at hj
      obtain rfl := Option.some.inj hj
      obtain rfl : g' = b := Option.some.inj hb
      rcases hw with h1 | h1
      · exact h.off j s g' hU h1
      · have := h.kl.lt
        omega
    · rw [List.getElem?_set_ne (Ne.symm e)] at hj
      exact h.off j t b hj hb
  cases hs : s.v.ownBlock with
  | none => exact h.still (by rw [hs] at hg; exact hg) hf hoff
  | some g =>
    rw [hs] at hg
    exact h.grown hg (World.ownsRow.lt (h.fam.own k s l hU hM) g hs).1 (h.off k s g hU hs) hf hoff
end Go.Proofs.YtdbciciljeainaaGreatDoor
namespace Go.Proofs.YtdbciciljeainaaGreatDoor
open Go.RowKit FerryCrc
set_option linter.unusedVariables false
set_option linter.unusedSimpArgs false
def scv (s : Sc) : List Value := [s.v]
theorem scv1 (x : Sc) : (scv x).length = 1 := rfl
theorem infoSc : (Tryz.prog.info? 24).map (fun i => (i.size, i.bytes, i.zero.map (·.cells))) = some (1, 24, some (scv ⟨none, 0, 0⟩).toArray) := by kernel_rfl
/-- append of one slice to a list of slices of one's own, and where the new list lies. -/
theorem append_sc (w : World) {ops : Array Oper} {rest : List Oper} {o : Oper} {a : Act} {Q : Exit → Act → World → Prop} (hgd : o.guard = none) (s x : Operand)
    (ho : o.op = .call { callee := .builtin .append, args := #[s, x], argTypes := #[62, 62] })
    (base : Nat) (v : Value) (l : List Sc) (hs : a.eval s = v) (hown : LOwn scv 1 24 w base v l)
    (g c : Nat) (y : Sc) (hx : a.eval x = .slice (some ⟨g, 0, none⟩) 1 c) (hc : w.cell? ⟨g, 0, none⟩ = some y.v) (h63 : (l.length + 1) * 24 ≤ 140737488355328) (hbase : base ≤ w.heap.size)
    (h : ∀ g' c' w', LOwn scv 1 24 w' base (.slice (some ⟨g', 0, none⟩) (l.length + 1) c') (l ++ [y]) → w.grownBy w' v.ownBlock → (v.ownBlock = some g' ∨ w.heap.size ≤ g') → wpList Tryz.prog ops Q rest (a.put o.dst (.slice (some ⟨g', 0, none⟩) (l.length + 1) c')) w') : wpList Tryz.prog ops Q (o :: rest) a w := by
  obtain ⟨i, zz, hi, hz, hsz, hb, hzc⟩ := info_open infoSc
  refine append_at w hgd s x 62 ho base 24 i zz 1 24 Tryz.underlying62 hi hz hsz hb (by rw [hzc]; rfl) (by decide) v l.length (l.flatMap scv) hs hown ⟨g, 0, none⟩ 1 c (scv y) hx rfl ?_ (fun u hu => by simp only [scv, Sc.v, List.mem_singleton] at hu; subst hu; rfl) (by unfold maxLen; omega) (by omega) hbase (by decide) ?_
  · intro j u hu
    cases j with
    | zero =>
      simp only [scv, List.getElem?_cons_zero, Option.some.injEq] at hu
      subst hu
      exact hc
    | succ j => simp [scv] at hu
  · intro g' c' w' k1 k2 k3
    refine h g' c' w' ?_ k2 k3
    unfold LOwn
    rw [List.length_append, List.flatMap_append]
    exact k1
theorem Mk.aside {w0 : World} {B gf g6 gl m : Nat} {MF : List ByteArray} {C6 CL : List Value} {t6 tl : TypeId} {U : List Sc} {M : List (List ByteArray)} {w w' : World} (h : Mk w0 B gf g6 gl m MF C6 CL t6 tl U M w) {row : Option Nat} (hg : w.grownBy w' row) (hr : ∀ g, row = some g → B ≤ g ∧ g ≠ gl ∧ ∀ (j : Nat) (s : Sc) (b : Nat), U[j]? = some s → s.v.ownBlock = some b → b ≠ g) : Mk w0 B gf g6 gl m MF C6 CL t6 tl U M w' := by
  have hf : Fam w' B U M := ⟨h.fam.len, fun j s l h1 h2 => own_grown (h.fam.own j s l h1 h2) hg (fun b hb e => (hr b e).2.2 j s b h1 hb rfl), h.fam.apart⟩
  cases row with
  | none => exact h.still hg hf h.off
  | some g =>
    obtain ⟨r1, r2, r3⟩ := hr g rfl
    exact h.grown hg r1 r2 hf h.off
theorem Mk.room {w0 : World} {B gf g6 gl m : Nat} {MF : List ByteArray} {C6 CL : List Value} {t6 tl : TypeId} {U : List Sc} {M : List (List ByteArray)} {w : World} (h : Mk w0 B gf g6 gl m MF C6 CL t6 tl U M w) : B ≤ w.heap.size ∧ ∀ (j : Nat) (s : Sc) (b : Nat), U[j]? = some s → s.v.ownBlock = some b → b < w.heap.size :=
  ⟨Nat.le_trans h.base.2.2.2 (Nat.le_of_lt h.kl.lt), fun j s b hj hb => by
    have hj2 : j < M.length := by rw [← h.fam.len]; exact (List.getElem?_eq_some_iff.1 hj).1
    exact (World.ownsRow.lt (h.fam.own j s _ hj (List.getElem?_eq_getElem hj2)) b hb).2⟩
theorem off_set {U : List Sc} {k g' n' c' N : Nat} {s : Sc} {gv : Option Nat} (h : ∀ (j : Nat) (s : Sc) (b : Nat), U[j]? = some s → s.v.ownBlock = some b → gv ≠ some b) (hU : U[k]? = some s) (hw : s.v.ownBlock = some g' ∨ N ≤ g') (hlt : ∀ b, gv = some b → b < N) : ∀ (j : Nat) (t : Sc) (b : Nat), (U.set k ⟨some ⟨g', 0, none⟩, n', c'⟩)[j]? = some t → t.v.ownBlock = some b → gv ≠ some b := fun j t b hj hb e => by
  by_cases ej : j = k
  · subst ej
    rw [List.getElem?_set_self (List.getElem?_eq_some_iff.1 hU).1] at hj
    obtain rfl := Option.some.inj hj
    obtain rfl : g' = b := Option.some.inj hb
    rcases hw with h1 | h1
    · exact h j s g' hU h1 e
    · have := hlt g' e
      omega
  · rw [List.getElem?_set_ne (Ne.symm ej)] at hj
    exact h j t b hj hb e
theorem own_zero {α : Type} {f : α → List Value} {sz : Nat} {e : TypeId} {w : World} {base : Nat} {a : Option Addr} {n c : Nat} {l : List α} (h : LOwn f sz e w base (.slice a n c) l) (hn : 0 < n) (hl : l.length = n) : ∃ g, a = some ⟨g, 0, none⟩ ∧ base ≤ g ∧ g < w.heap.size := by
  rcases h.2 with ⟨e, -⟩ | ⟨g, cap, cur, e, hb, hh, -⟩
  · simp only [Value.slice.injEq] at e
    omega
  · simp only [Value.slice.injEq] at e
    exact ⟨g, e.1, hb, (Array.getElem?_eq_some_iff.1 hh).1⟩
theorem cellG {w : World} {B gg k gc : Nat} {L : List Sc} {s : Sc} (hG : LOwn scv 1 24 w B (.slice (some ⟨gg, 0, none⟩) 4 gc) L) (hL : L[k]? = some s) : w.cell? ⟨gg, k, none⟩ = some s.v := by
  obtain ⟨a', c', e, hr⟩ := hG.rcs
  simp only [Value.slice.injEq] at e
  obtain ⟨rfl, -, rfl⟩ := e
  obtain ⟨b, o, e, hc⟩ := hr.at scv1 (by decide) hL
  simp only [Option.some.injEq, Addr.mk.injEq] at e
  obtain ⟨rfl, rfl, -⟩ := e
  have := hc 0 _ rfl
  rw [Nat.mul_one, Nat.add_zero, Nat.zero_add] at this
  exact this
theorem own_most {α : Type} {f : α → List Value} {sz : Nat} {e : TypeId} {w : World} {base : Nat} {v : Value} {n : Nat} {l : List α} (h : LOwn f sz e w base v l) (hn : l.length = n) : n ≤ 9223372036854775807 := by
  rcases h.2 with ⟨e, e2⟩ | ⟨g, cap, cur, e, hb, hh, hnc, hcm, -⟩
  · omega
  · unfold maxLen at hcm
    omega
end Go.Proofs.YtdbciciljeainaaGreatDoor
