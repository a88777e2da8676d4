/-
  slices.Clone at texts and truths; slices.Contains and ContainsFunc as the program calls them.
-/
import Derived.Test.YtdbciciljeainaaGreatDoorXfGood
namespace Go.Proofs.YtdbciciljeainaaGreatDoor
open Go.RowKit FerryCrc
set_option linter.unusedVariables false
set_option linter.unusedSimpArgs false

theorem append_list {w : World} {ops : Array Oper} {rest : List Oper} {o : Oper} {act : Act} {Q : Exit → Act → World → Prop} (hgd : o.guard = none) (s x : Operand) (t e : TypeId)
    (ho : o.op = .call { callee := .builtin .append, args := #[s, x], argTypes := #[t, t] }) (ht : Tryz.prog.underlying t = some (.slice e))
    {size bytes : Nat} {zc : Array Value} (hi : (Tryz.prog.info? e).map (fun i => (i.size, i.bytes, i.zero.map (·.cells))) = some (size, bytes, some zc)) (hzc : zc.size = size) (h0 : 0 < size)
    (base : Nat) (v : Value) (n : Nat) (xs : List Value) (hs : act.eval s = v) (hv : w.ownsRow base e size v n xs)
    (a : Option Addr) (m c : Nat) (cs : List Value) (hx : act.eval x = .slice a m c) (hr : Row w a m c size cs) (one : ∀ u ∈ cs, u.oneCell' = true)
    (b1 : n + m ≤ maxLen) (b2 : (n + m) * bytes ≤ 140737488355328) (hbase : base ≤ w.heap.size)
    (h : ∀ v' w', w'.ownsRow base e size v' (n + m) (xs ++ cs) → Below base w w' → wpList Tryz.prog ops Q rest (act.put o.dst v') w') : wpList Tryz.prog ops Q (o :: rest) act w := by
  obtain ⟨i, z, h2, h3, h4, h5, h6⟩ := info_open hi
  by_cases hm : m = 0
  · subst hm
    obtain rfl : cs = [] := List.length_eq_zero_iff.1 (by simpa using hr.size)
    obtain ⟨b, cap, rfl, hb⟩ := RLk.row (.inl hv)
    refine wpList_append_empty hgd s x t ho e i ht h2 b a n cap c hb.fit hs hx ?_
    exact h _ w (by simpa using hv) (Below.refl _ _)
  · match a, hx, hr with
    | none, hx, hr => exact absurd (hr.null rfl).1 hm
    | some ad, hx, hr =>
      have hcell : ∀ j u, cs[j]? = some u → w.cell? (ad.add j) = some u := fun j u hu => by
        obtain ⟨b, off, ha, hc⟩ := hr.cell j u hu
        simp only [Option.some.injEq] at ha
        subst ha
        rw [add_lit']
        exact hc
      refine wpList_append_own w hgd s x t ho base e i z size bytes ht h2 h3 h4 h5 (by rw [h6]; exact hzc) h0 v n xs hs hv ad m c cs hx hr.size hcell one b1 b2 hbase ?_
      intro v' w' k1 k2 _
      exact h v' w' k1 ((Below.refl _ _).grown k2 hbase (fun j e => (World.ownsRow.lt hv j e).1))
theorem tv_one (l : List ByteArray) : ∀ u ∈ l.flatMap tv, u.oneCell' = true := by
  intro u hu
  obtain ⟨x, -, hx⟩ := List.mem_flatMap.1 hu
  simp only [tv, List.mem_singleton] at hx
  subst hx
  rfl
theorem bvl_one (l : List Bool) : ∀ u ∈ l.flatMap bvl, u.oneCell' = true := by
  intro u hu
  obtain ⟨x, -, hx⟩ := List.mem_flatMap.1 hu
  simp only [bvl, List.mem_singleton] at hx
  subst hx
  rfl
set_option maxRecDepth 100000 in
theorem clone_tx {w : World} (a : Option Addr) (n c : Nat) (l : List ByteArray) (hs : Txs w a n c l) (hm : n * 16 ≤ 140737488355328) :
    Calls Tryz.prog 26 #[.slice a n c] w fun e w' => ∃ v, e = .returned v ∧ TxOwn w' w.heap.size v l ∧ Below w.heap.size w w' := by
  have hl := hs.size
  have HS := hide hs.row
  have ONE := hide (tv_one l)
  have HI := hide infoTx
  have hq := fun w' => eql_slice_nil (P := Tryz.prog) w' 24 9 a n c Tryz.underlying24
  have BE := hide (xnew w (.cells #[] 9))
  cases a with
  | none =>
    obtain ⟨rfl, rfl⟩ := hs.row.null rfl
    obtain rfl : l = [] := List.length_eq_zero_iff.1 hl
    clear hs
    simp only [Option.isNone_none] at hq
    go_enter Tryz.func26, Tryz.ntmps26
    go_wp2
    go_ret
    exact ⟨_, rfl, World.ownsRow_nil _ _ _ _, Below.refl _ _⟩
  | some ad =>
    clear hs
    simp only [Option.isNone_some] at hq
    go_enter Tryz.func26, Tryz.ntmps26
    go_wp2_with (at_builtin; refine append_list rfl (.tmp 5) (.tmp 6) 24 9 rfl Tryz.underlying24 HI.out rfl (by decide) w.heap.size _ 0 [] rfl (World.ownsRow_lit w #[] 0 (Nat.le_refl _) (by decide) rfl) (some ad) n c (l.flatMap tv) rfl (HS.out.below BE.out) ONE.out (by unfold maxLen; omega) (by omega) BE.out.size ?_; intro v2 w2 h2 b2)
    rw [List.nil_append, Nat.zero_add] at h2
    have H2 := hide h2
    have B2 := hide (BE.out.trans b2)
    clear h2 b2
    go_wp2
    go_ret
    refine ⟨_, rfl, ?_, B2.out⟩
    have h5 := H2.out
    rw [← hl] at h5
    exact h5
/-- Is one of the texts empty? -/
def anyE (P : List ByteArray) : Bool := P.any (fun x => decide (x.size = 0))
def anyF (P : List ByteArray) : Bool := P.any (fun x => !decide (x.size = 0))
theorem empty_of {x : ByteArray} (h0 : x.size = 0) : x = ⟨#[]⟩ := by
  obtain ⟨⟨l⟩⟩ := x
  have : l.length = 0 := h0
  rw [List.length_eq_zero_iff.1 this]
theorem any_step {p : ByteArray → Bool} {P : List ByteArray} {k : Nat} {x : ByteArray} (hx : P[k]? = some x) : (P.drop k).any p = (p x || (P.drop (k + 1)).any p) := by
  have hkl := (List.getElem?_eq_some_iff.1 hx).1
  rw [List.drop_eq_getElem_cons hkl, show P[k] = x by rw [List.getElem?_eq_getElem hkl] at hx; simpa using hx, List.any_cons]
set_option maxRecDepth 100000 in
set_option maxHeartbeats 1000000 in
theorem index_tx {w : World} (a : Option Addr) (n c : Nat) (P : List ByteArray) (hs : Txs w a n c P) (hn32 : n ≤ 4294967296) :
    Calls Tryz.prog 58 #[.slice a n c, .string ⟨#[]⟩] w fun e w' => ∃ r : Int, e = .returned (.int .i64 r) ∧ decide (0 ≤ r) = anyE P ∧ w' = w := by
  have hn := hs.size
  have HP := hide hs
  obtain ⟨R, hR⟩ : ∃ R, anyE P = R := ⟨_, rfl⟩
  rw [hR]
  have HR : Hid (R = (P.drop 0).any (fun x => decide (x.size = 0))) := by rw [← hR]; rfl
  clear hs hR
  go_enter Tryz.func58, Tryz.ntmps58
  go_wp2_with fail
  go_loopw [8] (fun i wr => ∃ k : Nat, k ≤ n ∧ i = .int .i64 (k : Int) ∧ Hid (R = (P.drop k).any (fun x => decide (x.size = 0))) ∧ wr = w) (fun i _ => n - (intOf i).toNat)
  case atStart => exact ⟨0, Nat.zero_le _, rfl, HR.out, rfl⟩
  case round =>
    obtain ⟨k, hk, rfl, HQ, rfl⟩ := hrel
    by_cases hlt : k < n
    · obtain ⟨x, hx⟩ : ∃ x, P[k]? = some x := ⟨_, List.getElem?_eq_getElem (by omega)⟩
      have HX := HQ.out
      rw [any_step hx] at HX
      replace HX := hide HX
      obtain ⟨b1, o1, rfl, hc1⟩ := HP.out.at tv1 (by decide) hx
      have n0 := hc1 0 _ rfl
      rw [Nat.mul_one, Nat.add_zero] at n0
      clear hc1 hx
      by_cases h0 : x.size = 0
      · have HX2 : Hid (R = true) := by unfold Hid; rw [HX.out, decide_eq_true h0]; rfl
        obtain rfl := empty_of h0
        clear HX h0 HQ
        go_wp2
        go_ret
        exact ⟨_, rfl, by rw [HX2.out]; simp, rfl⟩
      · have HX2 : Hid (R = (P.drop (k + 1)).any (fun x => decide (x.size = 0))) := by unfold Hid; rw [HX.out, decide_eq_false h0]; rfl
        have hdt := list_ne h0
        have hdt2 := toList_ne h0
        have hdt3 : ¬ [] = x.toList := fun e => hdt2 e.symm
        clear HX h0 HQ
        go_wp2
        exact ⟨⟨k + 1, by omega, by simp, HX2.out, by first | rfl | trivial⟩, by simp [intOf]; omega⟩
    · obtain rfl : k = n := by omega
      go_wp2
      go_ret
      exact ⟨_, rfl, by rw [HQ.out, List.drop_of_length_le (by omega)]; rfl, rfl⟩
set_option maxRecDepth 100000 in
theorem contains_tx {w : World} (a : Option Addr) (n c : Nat) (P : List ByteArray) (hs : Txs w a n c P) (hn32 : n ≤ 4294967296) :
    Calls Tryz.prog 37 #[.slice a n c, .string ⟨#[]⟩] w fun e w' => e = .returned (.bool (anyE P)) ∧ w' = w := by
  have H1 := hide (index_tx a n c P hs hn32)
  clear hs
  go_enter Tryz.func37, Tryz.ntmps37
  go_wp2_with fail
  refine Calls.mono H1.out ?_
  rintro e w' ⟨r, rfl, hr, rfl⟩
  have HR := hide hr
  clear hr
  go_wp2
  all_goals go_ret
  all_goals refine ⟨ret_b ?_, rfl⟩
  all_goals (rw [← HR.out]; try simp_all)
end Go.Proofs.YtdbciciljeainaaGreatDoor
