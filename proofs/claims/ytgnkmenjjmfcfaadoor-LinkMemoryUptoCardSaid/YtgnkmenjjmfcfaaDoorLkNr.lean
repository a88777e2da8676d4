/-
  What LinkNear knows of the letters that were sent.
-/
import Derived.Test.YtgnkmenjjmfcfaaDoorLkNear
import Derived.Test.YtgnkmenjjmfcfaaDoorLkTrim
namespace Go.Proofs.YtgnkmenjjmfcfaaDoor
open Go.RowKit FerryCrc Q
set_option linter.unusedVariables false
set_option linter.unusedSimpArgs false

/-- A call of the law's script. -/
structure Kp where
  kd : Int
  sd : Bool
  n : Int
  x : Int
  y : Int
  mq : Nat
  s : ByteArray
def kpC (o : Kp) : List Value := [.int .i64 o.kd, .bool o.sd, .int .i64 o.n, .int .i64 o.x, .int .i64 o.y, .int .u32 (o.mq : Int), .string o.s]
theorem kp7 (o : Kp) : (kpC o).length = 7 := rfl
def Kp.ok (o : Kp) : Prop := (-9223372036854775808 ≤ o.n ∧ o.n ≤ 9223372036854775807) ∧ (-9223372036854775808 ≤ o.x ∧ o.x ≤ 9223372036854775807) ∧ o.mq < 4294967296 ∧ o.s.size ≤ 9223372036854775807
/-- A letter as it was sent. -/
def l3 (y : Lt) : List Value := [.int .i64 y.f, .int .i64 y.t, .string y.s]
theorem l33 (y : Lt) : (l3 y).length = 3 := rfl
abbrev SOwn (w : World) (base : Nat) (v : Value) (S : List Lt) : Prop := LOwn l3 3 41 w base v S
theorem infoL : (Tryd.prog.info? 41).map (fun i => (i.size, i.bytes, i.zero.map (·.cells))) = some (3, 32, some (l3 zLt).toArray) := by kernel_rfl
theorem l3_one (l : List Lt) : ∀ u ∈ l.flatMap l3, u.oneCell' = true := by
  intro u hu
  obtain ⟨x, -, hx⟩ := List.mem_flatMap.1 hu
  simp only [l3, List.mem_cons, List.not_mem_nil, or_false] at hx
  rcases hx with rfl | rfl | rfl <;> rfl
/-- append of one letter. -/
theorem append_l3 (w : World) {ops : Array Oper} {rest : List Oper} {o : Oper} {a : Act} {Q : Exit → Act → World → Prop} (hgd : o.guard = none) (s x : Operand)
    (ho : o.op = .call { callee := .builtin .append, args := #[s, x], argTypes := #[35, 35] })
    (base : Nat) (v : Value) (l : List Lt) (hs : a.eval s = v) (hown : SOwn w base v l)
    (g c : Nat) (y : Lt) (hx : a.eval x = .slice (some ⟨g, 0, none⟩) 1 c) (hB : Bk w g (l3 y) 41)
    (hby : (l.length + 1) * 32 ≤ 140737488355328) (hbase : base ≤ w.heap.size)
    (h : ∀ g' c' w', SOwn w' base (.slice (some ⟨g', 0, none⟩) (l.length + 1) c') (l ++ [y]) → w.grownBy w' v.ownBlock → wpList Tryd.prog ops Q rest (a.put o.dst (.slice (some ⟨g', 0, none⟩) (l.length + 1) c')) w') : wpList Tryd.prog ops Q (o :: rest) a w := by
  obtain ⟨i, zz, hi, hz, hsz, hb, hzc⟩ := info_open infoL
  refine append_at w hgd s x _ ho base 41 i zz 3 32 Tryd.underlying35 hi hz hsz hb (by rw [hzc]; rfl) (by decide) v l.length (l.flatMap l3) hs hown ⟨g, 0, none⟩ 1 c (l3 y) hx rfl ?_ (fun u hu => l3_one [y] u (by simpa using hu)) (by unfold maxLen; omega) hby hbase (by decide) ?_
  · intro j u hu
    rw [add_lit', Nat.zero_add]
    exact hB.cell j hu
  · intro g' c' w' k1 k2 k3
    refine h g' c' w' ?_ k2
    unfold SOwn LOwn
    rw [List.length_append, List.flatMap_append]
    simpa using k1
/-- The list of letters lies apart from the link. -/
theorem sown_apart {w : World} {base lb mb : Nat} {v : Value} {S : List Lt} {L : Lk} (h : SOwn w base v S) (hl : LAt w lb mb L) {g : Nat} (hg : v.ownBlock = some g) : g ≠ lb ∧ g ≠ mb := by
  rcases h.2 with ⟨rfl, -⟩ | ⟨g', cap, cur, rfl, -, hh, -⟩
  · cases hg
  · simp only [Value.ownBlock, Option.some.injEq] at hg
    subst hg
    refine ⟨fun e => ?_, fun e => ?_⟩
    · subst e
      have h1 := hl.bk
      unfold Bk at h1
      rw [hh] at h1
      have h2 := Option.some.inj h1
      injection h2 with h3 h4
      revert h4
      decide
    · subst e
      obtain ⟨D, ⟨es, clock, h1, -⟩, -⟩ := hl.own
      rw [hh] at h1
      cases h1
/-- What was sent, and what is under way. -/
structure Inv (L : Lk) (S : List Lt) : Prop where
  len : S.length = L.n
  per : ∀ k x, L.M k = some x → ∃ y, S[(k - 1).toNat]? = some y ∧ x.f = y.f ∧ x.t = y.t ∧ 1 ≤ y.s.size ∧ y.s.size ≤ 4096 ∧ Nr (bytesOf y.s) (bytesOf x.s) x.sp
theorem inv_nil : Inv ⟨0, fun _ => none⟩ [] := ⟨rfl, fun k x h => by cases h⟩
theorem inv_old {L : Lk} {S : List Lt} (h : Inv L S) (ok : ∀ k x, L.M k = some x → 1 ≤ k ∧ k ≤ (L.n : Int)) (z : Lt) {k : Int} {x : Lt} (hk : L.M k = some x) : ∃ y, (S ++ [z])[(k - 1).toNat]? = some y ∧ x.f = y.f ∧ x.t = y.t ∧ 1 ≤ y.s.size ∧ y.s.size ≤ 4096 ∧ Nr (bytesOf y.s) (bytesOf x.s) x.sp := by
  obtain ⟨y, h1, h2⟩ := h.per k x hk
  exact ⟨y, by rw [List.getElem?_append_left (List.getElem?_eq_some_iff.1 h1).1]; exact h1, h2⟩
theorem inv_more {L : Lk} {S : List Lt} (h : Inv L S) (ok : ∀ k x, L.M k = some x → 1 ≤ k ∧ k ≤ (L.n : Int)) (x z : Lt) (hz : x.f = z.f ∧ x.t = z.t ∧ 1 ≤ z.s.size ∧ z.s.size ≤ 4096 ∧ Nr (bytesOf z.s) (bytesOf x.s) x.sp) : Inv ⟨L.n + 1, setM L.M ((L.n : Int) + 1) (some x)⟩ (S ++ [z]) := by
  refine ⟨by rw [List.length_append, h.len]; rfl, fun k y hk => ?_⟩
  replace hk : setM L.M ((L.n : Int) + 1) (some x) k = some y := hk
  by_cases e : k = (L.n : Int) + 1
  · subst e
    rw [setM_same] at hk
    obtain rfl := Option.some.inj hk
    refine ⟨z, ?_, hz⟩
    rw [show ((L.n : Int) + 1 - 1).toNat = S.length by rw [h.len]; omega]
    simp
  · rw [setM_ne _ _ e] at hk
    exact inv_old h ok z hk
theorem inv_set {L : Lk} {S : List Lt} (h : Inv L S) (k : Int) (x y : Lt) (hk : S[(k - 1).toNat]? = some y) (hz : x.f = y.f ∧ x.t = y.t ∧ 1 ≤ y.s.size ∧ y.s.size ≤ 4096 ∧ Nr (bytesOf y.s) (bytesOf x.s) x.sp) : Inv ⟨L.n, setM L.M k (some x)⟩ S := by
  refine ⟨h.len, fun j u hj => ?_⟩
  replace hj : setM L.M k (some x) j = some u := hj
  by_cases e : j = k
  · subst e
    rw [setM_same] at hj
    obtain rfl := Option.some.inj hj
    exact ⟨y, hk, hz⟩
  · rw [setM_ne _ _ e] at hj
    exact h.per j u hj
theorem nr_self (l : List Nat) : Nr l l false := .inl ⟨rfl, rfl⟩
theorem inv_send {L : Lk} {S : List Lt} (h : Inv L S) (ok : ∀ k x, L.M k = some x → 1 ≤ k ∧ k ≤ (L.n : Int)) (f t : Int) (s : ByteArray) (he : sE f t s = 0) : Inv (sL L f t s) (S ++ [⟨f, t, s, false⟩]) := by
  unfold sL
  rw [if_pos he]
  refine inv_more h ok _ _ ⟨rfl, rfl, ?_, ?_, nr_self _⟩ <;>
  · show _ ≤ _
    unfold sE at he
    split at he
    · split at he
      · cases he
      · dsimp only; omega
    · cases he
theorem inv_copy {L : Lk} {S : List Lt} (h : Inv L S) (ok : ∀ k x, L.M k = some x → 1 ≤ k ∧ k ≤ (L.n : Int)) (k : Int) (he : fE L k = 0) : (1 ≤ k ∧ k ≤ (L.n : Int)) ∧ ∃ y, S[(k - 1).toNat]? = some y ∧ Inv (cL L k) (S ++ [y]) := by
  rcases fE_case L k with ⟨h1, -⟩ | ⟨-, -, h2⟩
  · rw [he] at h1; cases h1
  · obtain ⟨y, h3, h4⟩ := h.per k _ h2
    refine ⟨ok k _ h2, y, h3, ?_⟩
    unfold cL
    rw [if_pos he]
    exact inv_more h ok _ _ h4
theorem inv_take {L : Lk} {S : List Lt} (h : Inv L S) (k : Int) : Inv (tL L k) S := by
  refine ⟨h.len, fun j u hj => ?_⟩
  replace hj : setM L.M k none j = some u := hj
  by_cases e : j = k
  · subst e
    rw [setM_same] at hj
    cases hj
  · rw [setM_ne _ _ e] at hj
    exact h.per j u hj
theorem inv_trim {L : Lk} {S : List Lt} (h : Inv L S) (k cut : Int) : Inv (rL L k cut) S := by
  unfold rL
  by_cases he : rE L k cut = 0
  · rw [if_pos he]
    unfold rE at he
    rcases fE_case L k with ⟨h1, -⟩ | ⟨h0, -, h2⟩
    · rw [h1] at he; cases he
    · rw [if_pos h0] at he
      obtain ⟨y, h3, h4, h5, h6, h7, h8⟩ := h.per k _ h2
      by_cases hb : (fv L k).sp = true ∨ cut < 1
      · rw [if_pos hb] at he; cases he
      · have hsp : (fv L k).sp = false := by cases hq : (fv L k).sp <;> simp_all
        have hs := (nr_ne h8).1 hsp
        have hss : y.s = (fv L k).s := bytes_inj hs
        refine inv_set h k _ y h3 ⟨h4, h5, h6, h7, ?_⟩
        have hlt : lft (fv L k) cut < (bytesOf y.s).length := by
          rw [bytesOf_len, hss]
          unfold lft
          rw [hss] at h6
          omega
        have e : bytesOf ((fv L k).s.extract 0 (lft (fv L k) cut)) = (bytesOf y.s).take (lft (fv L k) cut) := by
          rw [← hss]
          unfold bytesOf
          rw [ByteArray.data_extract, Array.toList_extract, List.extract_eq_take_drop]
          simp
        dsimp only
        rw [e]
        exact nr_trim hlt
  · rw [if_neg he]
    exact h
theorem nbytes_str {l : List Nat} (h : ∀ c ∈ l, c < 256) : bytesOf (str l) = l := by
  unfold bytesOf str
  simp only [List.map_map]
  conv => rhs; rw [← List.map_id l]
  apply List.map_congr_left
  intro c hc
  have := h c hc
  simp
  omega
theorem inv_flip {L : Lk} {S : List Lt} (h : Inv L S) (k pos : Int) (mask : Nat) (hm : mask < 4294967296) : Inv (pL L k pos mask) S := by
  unfold pL
  by_cases he : pE L k pos mask = 0
  · rw [if_pos he]
    unfold pE at he
    rcases fE_case L k with ⟨h1, -⟩ | ⟨h0, -, h2⟩
    · rw [h1] at he; cases he
    · rw [if_pos h0] at he
      obtain ⟨y, h3, h4, h5, h6, h7, h8⟩ := h.per k _ h2
      by_cases hb : (fv L k).sp = true ∨ flOk (fv L k) pos mask = false
      · rw [if_pos hb] at he; cases he
      · have hsp : (fv L k).sp = false := by cases hq : (fv L k).sp <;> simp_all
        have hfl : flOk (fv L k) pos mask = true := by cases hq : flOk (fv L k) pos mask <;> simp_all
        have hs := (nr_ne h8).1 hsp
        have hss : y.s = (fv L k).s := bytes_inj hs
        unfold flOk at hfl
        obtain ⟨f1, f2, f3⟩ := of_decide_eq_true hfl
        refine inv_set h k _ y h3 ⟨h4, h5, h6, h7, ?_⟩
        dsimp only
        unfold turnB
        rw [nbytes_str (turnTo_small _ _ _ (bytesOf_lt _)), ← hss]
        refine nr_turn (len := y.s.size) (bytesOf_len _) (bytesOf_lt _) f1 hm ?_
        rw [hss]
        omega
  · rw [if_neg he]
    exact h
/-- Of one that is there. -/
theorem inv_at {L : Lk} {S : List Lt} (h : Inv L S) (ok : ∀ k x, L.M k = some x → 1 ≤ k ∧ k ≤ (L.n : Int)) (sz : ∀ k x, L.M k = some x → x.s.size ≤ 4096) (k : Int) (he : fE L k = 0) : (1 ≤ k ∧ k ≤ (L.n : Int)) ∧ ∃ y, S[(k - 1).toNat]? = some y ∧ (fv L k).f = y.f ∧ (fv L k).t = y.t ∧ y.s.size ≤ 4096 ∧ (fv L k).s.size ≤ 4096 ∧ Nr (bytesOf y.s) (bytesOf (fv L k).s) (fv L k).sp := by
  rcases fE_case L k with ⟨h1, -⟩ | ⟨-, -, h2⟩
  · rw [he] at h1; cases h1
  · obtain ⟨y, h3, h4, h5, h6, h7, h8⟩ := h.per k _ h2
    exact ⟨ok k _ h2, y, h3, h4, h5, h7, sz k _ h2, h8⟩
theorem nr_bne {s r : ByteArray} {sp : Bool} (h : Nr (bytesOf s) (bytesOf r) sp) : Nr (bytesOf s) (bytesOf r) (decide (r ≠ s)) := by
  have h1 := nr_ne h
  have e : decide (r ≠ s) = sp := by
    cases sp with
    | false =>
      have : s = r := bytes_inj (h1.1 rfl)
      subst this
      simp
    | true =>
      have : s ≠ r := fun e => h1.2 rfl (by rw [e])
      exact decide_eq_true (fun e => this e.symm)
  rw [e]
  exact h
theorem nr_bne2 {s r : ByteArray} {sp : Bool} (h : Nr (bytesOf s) (bytesOf r) sp) : Nr (bytesOf s) (bytesOf r) (!(r.toList == s.toList)) := by
  have e : (!(r.toList == s.toList)) = decide (r ≠ s) := by
    by_cases e : r = s
    · subst e; simp
    · have h1 : ¬ r.toList = s.toList := by
        rw [ByteArray.toList_eq, ByteArray.toList_eq]
        intro h2
        exact e (ByteArray.ext (Array.ext' h2))
      rw [decide_eq_true e, beq_eq_false_iff_ne.2 h1]
      rfl
  rw [e]
  exact nr_bne h
end Go.Proofs.YtgnkmenjjmfcfaaDoor
