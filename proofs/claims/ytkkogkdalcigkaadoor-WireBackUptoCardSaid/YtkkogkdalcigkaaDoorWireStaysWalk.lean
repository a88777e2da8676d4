/-
  The law's cursors, all of them: each apart from the others and from the lists.
  Walk of the law WireStays.
-/
import Derived.Test.YtkkogkdalcigkaaDoorWOpen1
import Derived.Test.YtkkogkdalcigkaaDoorRcs
namespace Go.Proofs.YtkkogkdalcigkaaDoor
open Go.RowKit FerryCrc
set_option linter.unusedVariables false
set_option linter.unusedSimpArgs false

/-- A cursor of the law's list, opened. -/
structure CI where
  c : Nat
  g : Nat
  len : Nat
  p : Nat
  L : List Nat
structure Curs (w : World) (B : Nat) (v1 v2 : Value) (xs : List CI) (ds : List Nat) : Prop where
  csr : Csr w B v1 v2 (xs.map CI.c) ds
  cur : ∀ (i : Nat) x, xs[i]? = some x → Cur w x.c x.g x.len x.p x.len x.L
  far : ∀ (i : Nat) x, xs[i]? = some x → B < x.c ∧ B < x.g ∧ x.g < w.heap.size ∧ (∀ k, v1.ownBlock = some k → k ≠ x.c ∧ k ≠ x.g) ∧ (∀ k, v2.ownBlock = some k → k ≠ x.c ∧ k ≠ x.g)
  sep : ∀ (i j : Nat) x y, xs[i]? = some x → xs[j]? = some y → i ≠ j → x.c ≠ y.c ∧ x.g ≠ y.c
theorem Curs.below {w w' : World} {B : Nat} {v1 v2 : Value} {xs : List CI} {ds : List Nat} (h : Curs w B v1 v2 xs ds) (hb : Below w.heap.size w w') : Curs w' B v1 v2 xs ds :=
  ⟨h.csr.frmB hb, fun i x hx => (h.cur i x hx).below hb, fun i x hx => by obtain ⟨a, b, c, d, e⟩ := h.far i x hx; exact ⟨a, b, Nat.lt_of_lt_of_le c hb.size, d, e⟩, h.sep⟩
theorem Curs.step {w w' : World} {B : Nat} {v1 v2 : Value} {xs : List CI} {ds : List Nat} (h : Curs w B v1 v2 xs ds) {i : Nat} {x : CI} (hx : xs[i]? = some x) {q : Nat} (hf : Frm (fun k => k = x.c) w w') (hk : Cur w' x.c x.g x.len q x.len x.L) : Curs w' B v1 v2 (xs.set i ⟨x.c, x.g, x.len, q, x.L⟩) ds := by
  have hfar := h.far i x hx
  have hi : i < xs.length := (List.getElem?_eq_some_iff.1 hx).1
  have get : ∀ (j : Nat) y, (xs.set i ⟨x.c, x.g, x.len, q, x.L⟩)[j]? = some y → (j = i ∧ y = ⟨x.c, x.g, x.len, q, x.L⟩) ∨ (j ≠ i ∧ xs[j]? = some y) := fun j y hy => by
    by_cases e : j = i
    · subst e
      rw [List.getElem?_set_self hi] at hy
      exact .inl ⟨rfl, (Option.some.inj hy).symm⟩
    · rw [List.getElem?_set_ne (fun h => e h.symm)] at hy
      exact .inr ⟨e, hy⟩
  have old : ∀ (j : Nat) y, (xs.set i ⟨x.c, x.g, x.len, q, x.L⟩)[j]? = some y → ∃ z, xs[j]? = some z ∧ z.c = y.c ∧ z.g = y.g := fun j y hy => by
    rcases get j y hy with ⟨rfl, rfl⟩ | ⟨_, h2⟩
    · exact ⟨x, hx, rfl, rfl⟩
    · exact ⟨y, h2, rfl, rfl⟩
  have hmap : (xs.set i ⟨x.c, x.g, x.len, q, x.L⟩).map CI.c = xs.map CI.c := by
    apply List.ext_getElem?
    intro j
    rw [List.getElem?_map, List.getElem?_map]
    by_cases e : j = i
    · subst e
      rw [List.getElem?_set_self hi, hx]
      rfl
    · rw [List.getElem?_set_ne (fun h => e h.symm)]
  refine ⟨?_, ?_, ?_, ?_⟩
  · rw [hmap]
    exact ⟨h.csr.two.frm hf (by show ¬ B = x.c; omega), row_frm h.csr.r1 hf (fun k hk e => (hfar.2.2.2.1 k hk).1 e), row_frm h.csr.r2 hf (fun k hk e => (hfar.2.2.2.2 k hk).1 e), h.csr.ne⟩
  · intro j y hy
    rcases get j y hy with ⟨rfl, rfl⟩ | ⟨hne, h2⟩
    · exact hk
    · obtain ⟨a, b⟩ := h.sep j i y x h2 hx hne
      exact (h.cur j y h2).frm hf a b
  · intro j y hy
    obtain ⟨z, hz, e1, e2⟩ := old j y hy
    obtain ⟨a, b, c, d, e⟩ := h.far j z hz
    rw [e1, e2] at *
    exact ⟨a, b, Nat.lt_of_lt_of_le c hf.size, d, e⟩
  · intro j k y z hy hz hne
    obtain ⟨y', hy', e1, e2⟩ := old j y hy
    obtain ⟨z', hz', e3, e4⟩ := old k z hz
    have := h.sep j k y' z' hy' hz' hne
    rw [e1, e2, e3] at this
    exact this
theorem Curs.more {w w' : World} {B : Nat} {v1 v2 v1' v2' : Value} {xs : List CI} {ds : List Nat} {C G D n : Nat} {L : List Nat} (h : Curs w B v1 v2 xs ds) (hc : Csr w' B v1' v2' (xs.map CI.c ++ [C]) (ds ++ [D])) (hk : Cur w' C G n 0 n L) (hC : w.heap.size ≤ C) (hG : w.heap.size ≤ G) (hGl : G < w'.heap.size)
    (hf : Frm (fun k => k = B ∨ v1.ownBlock = some k ∨ v2.ownBlock = some k) w w') (n1 : ∀ k, v1'.ownBlock = some k → v1.ownBlock = some k ∨ (w.heap.size ≤ k ∧ k ≠ C ∧ k ≠ G)) (n2 : ∀ k, v2'.ownBlock = some k → v2.ownBlock = some k ∨ (w.heap.size ≤ k ∧ k ≠ C ∧ k ≠ G)) : Curs w' B v1' v2' (xs ++ [⟨C, G, n, 0, L⟩]) (ds ++ [D]) := by
  have hBl : B < w.heap.size := block_lt_of_cell h.csr.two.c0
  have get : ∀ (j : Nat) y, (xs ++ [(⟨C, G, n, 0, L⟩ : CI)])[j]? = some y → (j = xs.length ∧ y = ⟨C, G, n, 0, L⟩) ∨ (j < xs.length ∧ xs[j]? = some y) := fun j y hy => by
    by_cases e : j < xs.length
    · rw [List.getElem?_append_left e] at hy
      exact .inr ⟨e, hy⟩
    · rw [List.getElem?_append_right (by omega)] at hy
      have hj : j - xs.length = 0 := by
        have := (List.getElem?_eq_some_iff.1 hy).1
        simp at this
        omega
      rw [hj] at hy
      exact .inl ⟨by omega, (Option.some.inj hy).symm⟩
  have own1 : ∀ k, v1.ownBlock = some k → k < w.heap.size := fun k hk => (World.ownsRow.lt h.csr.r1 k hk).2
  have own2 : ∀ k, v2.ownBlock = some k → k < w.heap.size := fun k hk => (World.ownsRow.lt h.csr.r2 k hk).2
  refine ⟨by rw [List.map_append]; exact hc, ?_, ?_, ?_⟩
  · intro j y hy
    rcases get j y hy with ⟨rfl, rfl⟩ | ⟨_, h2⟩
    · exact hk
    · obtain ⟨a, b, c, d, e⟩ := h.far j y h2
      refine (h.cur j y h2).frm hf (fun t => ?_) (fun t => ?_)
      · rcases t with t | t | t
        · omega
        · exact (d _ t).1 rfl
        · exact (e _ t).1 rfl
      · rcases t with t | t | t
        · omega
        · exact (d _ t).2 rfl
        · exact (e _ t).2 rfl
  · intro j y hy
    rcases get j y hy with ⟨rfl, rfl⟩ | ⟨_, h2⟩
    · refine ⟨by show B < C; omega, by show B < G; omega, hGl, fun k hk => ?_, fun k hk => ?_⟩
      · rcases n1 k hk with t | t
        · have := own1 k t
          exact ⟨by show k ≠ C; omega, by show k ≠ G; omega⟩
        · exact t.2
      · rcases n2 k hk with t | t
        · have := own2 k t
          exact ⟨by show k ≠ C; omega, by show k ≠ G; omega⟩
        · exact t.2
    · obtain ⟨a, b, c, d, e⟩ := h.far j y h2
      have hl := (h.cur j y h2).lt
      refine ⟨a, b, Nat.lt_of_lt_of_le c hf.size, fun k hk => ?_, fun k hk => ?_⟩
      · rcases n1 k hk with t | t
        · exact d k t
        · exact ⟨by omega, by omega⟩
      · rcases n2 k hk with t | t
        · exact e k t
        · exact ⟨by omega, by omega⟩
  · intro j k y z hy hz hne
    rcases get j y hy with ⟨rfl, rfl⟩ | ⟨_, h2⟩
    · rcases get k z hz with ⟨rfl, rfl⟩ | ⟨_, h3⟩
      · exact absurd rfl hne
      · have hl := (h.cur k z h3).lt
        exact ⟨by show C ≠ z.c; omega, by show G ≠ z.c; omega⟩
    · rcases get k z hz with ⟨rfl, rfl⟩ | ⟨_, h3⟩
      · have hl := (h.cur j y h2).lt
        have hg := (h.far j y h2).2.2.1
        exact ⟨by show y.c ≠ C; omega, by show y.g ≠ C; omega⟩
      · exact h.sep j k y z h2 h3 hne
theorem curs_nil {w : World} {B : Nat} (h : Two w B (.slice none 0 0) (.slice none 0 0)) : Curs w B (.slice none 0 0) (.slice none 0 0) [] [] :=
  ⟨⟨h, ⟨rfl, .inl ⟨rfl, rfl⟩⟩, ⟨rfl, .inl ⟨rfl, rfl⟩⟩, fun k hk => by simp [Value.ownBlock] at hk⟩, fun i x hx => by simp at hx, fun i x hx => by simp at hx, fun i j x y hx => by simp at hx⟩
end Go.Proofs.YtkkogkdalcigkaaDoor
namespace Go.Proofs.YtkkogkdalcigkaaDoor
open Go.RowKit FerryCrc
set_option linter.unusedVariables false
set_option linter.unusedSimpArgs false
/-- A record of the script. -/
structure Op7 where
  kind : Int
  sec : Bool
  cur : Int
  n : Int
  lo : Int
  hi : Int
  s : ByteArray
def Op7.cells (o : Op7) : List Value := [.int .i64 o.kind, .bool o.sec, .int .i64 o.cur, .int .i64 o.n, .int .i64 o.lo, .int .i64 o.hi, .string o.s]
theorem Op7.len (o : Op7) : o.cells.length = 7 := rfl
structure Op7.Ok (o : Op7) : Prop where
  c1 : -9223372036854775808 ≤ o.cur
  c2 : o.cur ≤ 9223372036854775807
  s : o.s.size ≤ 140737488351232
/-- The list of pointers as a slice. -/
theorem row_form {w : World} {base n : Nat} {e : TypeId} {v : Value} {cs : List Value} (h : w.ownsRow base e 1 v n cs) : ∃ a c, v = .slice a n c ∧ n ≤ c ∧ (0 < n → ∃ g, a = some ⟨g, 0, none⟩ ∧ ∀ j, j < n → w.cell? ⟨g, j, none⟩ = cs[j]?) := by
  rcases h.2 with ⟨e, hn⟩ | ⟨g, cap, cur, e, hg, hh, hnc, _⟩
  · subst hn
    exact ⟨none, 0, e, Nat.le_refl _, fun h => by omega⟩
  · refine ⟨_, cap, e, hnc, fun _ => ⟨g, rfl, fun j hj => ?_⟩⟩
    subst e
    exact World.ownsRow.cellAt h j (by omega)
end Go.Proofs.YtkkogkdalcigkaaDoor
namespace Go.Proofs.YtkkogkdalcigkaaDoor.wireStays
open Go.RowKit FerryCrc
set_option linter.unusedVariables false
set_option linter.unusedSimpArgs false

set_option maxRecDepth 100000 in
set_option maxHeartbeats 2000000 in
theorem law0 {E : Nat → Addr} (hopen : ∀ (B : Nat) (v1 v2 : Value) (cs ds : List Nat) (S : ByteArray) (w : World), Csr w B v1 v2 cs ds → cs.length + 1 ≤ 17592186044416 → ds.length + 1 ≤ 17592186044416 → S.size ≤ 140737488351232 →
    Calls Tryd.prog 10 #[.pointer (some ⟨B, 0, none⟩), .string S] w fun e w' => e = .returned (.bool true) ∧ ∃ v1' v2' C G D, Csr w' B v1' v2' (cs ++ [C]) (ds ++ [D]) ∧ Cur w' C G S.size 0 S.size (bytesOf S) ∧ w.heap.size ≤ C ∧ w.heap.size ≤ G ∧ G < w'.heap.size ∧
      Frm (fun k => k = B ∨ v1.ownBlock = some k ∨ v2.ownBlock = some k) w w' ∧ (∀ k, v1'.ownBlock = some k → v1.ownBlock = some k ∨ (w.heap.size ≤ k ∧ k ≠ C ∧ k ≠ G)) ∧ (∀ k, v2'.ownBlock = some k → v2.ownBlock = some k ∨ (w.heap.size ≤ k ∧ k ≠ C ∧ k ≠ G)))
    (a : Option Addr) (len cap : Nat) (l : List Op7) (w : World) (he : Errs w E) (hs : Rcs Op7.cells 7 w a len cap l) (hok : ∀ o ∈ l, o.Ok) (hm : len ≤ 5864062014805) :
    Calls Tryd.prog 3 #[.slice a len cap] w fun e w' => e = .returned (.bool true) ∧ Below w.heap.size w w' := by
  have HE := hide he
  have HS := hide hs
  have HOK := hide hok
  have HZ := hide hs.size
  have HOP := hide hopen
  clear he hs hok hopen
  go_enter Tryd.func3, Tryd.ntmps3
  go_wp2_with fail
  refine Calls.mono (fixed_any w HE.out) ?_
  rintro e w1 ⟨rfl, hb1⟩
  have HB1 := hide hb1
  clear hb1
  have HC1 := hide (curs_nil (two_alloc w1 (.slice none 0 0) (.slice none 0 0) 28))
  have HB2 := hide (HB1.out.alloc HB1.out.size (.cells #[.slice none 0 0, .slice none 0 0] 28))
  have HBB := hide HB1.out.size
  generalize hB : w1.heap.size = B at HC1 HBB
  go_wp2_with fail
  go_loopw [4] (fun i wr => ∃ (k : Nat) (v1 v2 : Value) (xs : List CI) (ds : List Nat), k ≤ len ∧ i = .int .i64 (k : Int) ∧ Hid (Curs wr B v1 v2 xs ds) ∧ Hid (xs.length ≤ k ∧ ds.length ≤ k) ∧ Hid (Below w.heap.size w wr)) (fun i _ => len - (intOf i).toNat)
  case atStart => exact ⟨0, _, _, [], [], by omega, rfl, HC1, ⟨by simp, by simp⟩, HB2⟩
  case round =>
    obtain ⟨k, v1, v2, xs, ds, hk, rfl, HC, HL, HB⟩ := hrel
    by_cases hlt : k < len
    · obtain ⟨o, ho⟩ : ∃ o, l[k]? = some o := ⟨_, List.getElem?_eq_getElem (by rw [HZ.out]; exact hlt)⟩
      obtain ⟨b, off, rfl, hcell⟩ := HS.out.at Op7.len (by decide) ho
      have HO := hide (HOK.out o (List.mem_of_getElem? ho))
      have f0 : wr.cell? ⟨b, off + k * 7, none⟩ = some (.int .i64 o.kind) := cell_below (hcell 0 _ rfl) HB.out
      have f1 : wr.cell? ⟨b, off + k * 7 + 1, none⟩ = some (.bool o.sec) := cell_below (hcell 1 _ rfl) HB.out
      have f2 : wr.cell? ⟨b, off + k * 7 + 2, none⟩ = some (.int .i64 o.cur) := cell_below (hcell 2 _ rfl) HB.out
      have f3 : wr.cell? ⟨b, off + k * 7 + 3, none⟩ = some (.int .i64 o.n) := cell_below (hcell 3 _ rfl) HB.out
      have f4 : wr.cell? ⟨b, off + k * 7 + 4, none⟩ = some (.int .i64 o.lo) := cell_below (hcell 4 _ rfl) HB.out
      have f5 : wr.cell? ⟨b, off + k * 7 + 5, none⟩ = some (.int .i64 o.hi) := cell_below (hcell 5 _ rfl) HB.out
      have f6 : wr.cell? ⟨b, off + k * 7 + 6, none⟩ = some (.string o.s) := cell_below (hcell 6 _ rfl) HB.out
      clear hcell ho
      obtain ⟨kind, sec, cur, n, lo, hi, S⟩ := o
      simp only at f0 f1 f2 f3 f4 f5 f6
      obtain ⟨a1, c1, rfl, hc1, hrow⟩ := row_form HC.out.csr.r1
      rw [List.length_map] at hc1 hrow
      obtain ⟨m, hxl⟩ : ∃ m, xs.length = m := ⟨_, rfl⟩
      have g0 := HC.out.csr.two.c0
      rw [List.length_map, hxl] at g0
      have HA : Hid (Below wr.heap.size wr (wr.alloc (.cells #[.int .i64 kind, .bool sec, .int .i64 cur, .int .i64 n, .int .i64 lo, .int .i64 hi, .string S] 30))) := (Below.refl _ _).alloc (Nat.le_refl _) _
      have HCA := hide (HC.out.below HA.out)
      have hBl : B < wr.heap.size := block_lt_of_cell g0
      by_cases h0 : m = 0
      · subst h0
        go_wp2_with fail
        refine Calls.mono (HOP.out B _ _ _ _ S _ HCA.out.csr (by rw [List.length_map]; have := HL.out; omega) (by have := HL.out; omega) HO.out.s) ?_
        rintro e w3 ⟨rfl, v1', v2', C, G, D, q1, q2, q3, q4, q8, q5, q6, q7⟩
        have HC3 := hide (HCA.out.more q1 q2 q3 q4 q8 q5 q6 q7)
        have HB3 : Hid (Below w.heap.size w w3) := (chain HB.out HA.out).trans (q5.below (chain HB.out HA.out).size (fun j t => by
          rcases t with t | t | t
          · have := HBB.out; omega
          · have := (World.ownsRow.lt HCA.out.csr.r1 _ t).1; have := HBB.out; omega
          · have := (World.ownsRow.lt HCA.out.csr.r2 _ t).1; have := HBB.out; omega))
        have HL3 : Hid ((xs ++ [(⟨C, G, S.size, 0, bytesOf S⟩ : CI)]).length ≤ k + 1 ∧ (ds ++ [D]).length ≤ k + 1) := by
          have := HL.out
          constructor
          · rw [List.length_append]; show xs.length + 1 ≤ k + 1; omega
          · rw [List.length_append]; show ds.length + 1 ≤ k + 1; omega
        clear q1 q2 q3 q4 q8 q5 q6 q7
        go_wp2
        exact ⟨⟨k + 1, v1', v2', _, _, by omega, by first | rfl | simp, HC3, HL3, HB3⟩, by simp [intOf]; omega⟩
      · have dm : ((m : Int) == 0) = false := by simp; exact h0
        by_cases h11 : kind = 11
        · subst h11
          go_wp2_with fail
          refine Calls.mono (HOP.out B _ _ _ _ S _ HCA.out.csr (by rw [List.length_map]; have := HL.out; omega) (by have := HL.out; omega) HO.out.s) ?_
          rintro e w3 ⟨rfl, v1', v2', C, G, D, q1, q2, q3, q4, q8, q5, q6, q7⟩
          have HC3 := hide (HCA.out.more q1 q2 q3 q4 q8 q5 q6 q7)
          have HB3 : Hid (Below w.heap.size w w3) := (chain HB.out HA.out).trans (q5.below (chain HB.out HA.out).size (fun j t => by
            rcases t with t | t | t
            · have := HBB.out; omega
            · have := (World.ownsRow.lt HCA.out.csr.r1 _ t).1; have := HBB.out; omega
            · have := (World.ownsRow.lt HCA.out.csr.r2 _ t).1; have := HBB.out; omega))
          have HL3 : Hid ((xs ++ [(⟨C, G, S.size, 0, bytesOf S⟩ : CI)]).length ≤ k + 1 ∧ (ds ++ [D]).length ≤ k + 1) := by
            have := HL.out
            constructor
            · rw [List.length_append]; show xs.length + 1 ≤ k + 1; omega
            · rw [List.length_append]; show ds.length + 1 ≤ k + 1; omega
          clear q1 q2 q3 q4 q8 q5 q6 q7
          go_wp2
          exact ⟨⟨k + 1, v1', v2', _, _, by omega, by first | rfl | simp, HC3, HL3, HB3⟩, by simp [intOf]; omega⟩
        · have dk : (kind == 11) = false := by simp; exact h11
          obtain ⟨u, hu⟩ : ∃ u : Nat, (u : Int) = cur % 18446744073709551616 := ⟨(cur % 18446744073709551616).toNat, by omega⟩
          have h0m : 0 < m := by omega
          obtain ⟨r, hr⟩ : ∃ r : Nat, u % m = r := ⟨_, rfl⟩
          have hrm : r < m := by rw [← hr]; exact Nat.mod_lt _ h0m
          obtain ⟨x, hx⟩ : ∃ x, xs[r]? = some x := ⟨_, List.getElem?_eq_getElem (by omega)⟩
          obtain ⟨ga, rfl, hga⟩ := hrow (by omega)
          have gr0 := hga r (by omega)
          rw [List.getElem?_map, List.getElem?_map, hx] at gr0
          have gr : wr.cell? ⟨ga, r, none⟩ = some (.pointer (some ⟨x.c, 0, none⟩)) := gr0
          have hmw : m ≤ 5864062014805 := by have h7 := HL.out.1; omega
          have hcu : IntKind.u64.wrap cur = (u : Int) := by rw [IntKind.wrap_u64]; exact hu.symm
          have hcu2 : cur % 18446744073709551616 = (u : Int) := hu.symm
          have hcm : IntKind.u64.wrap (m : Int) = (m : Int) := by rw [IntKind.wrap_u64]; omega
          have hcm2 : (m : Int) % 18446744073709551616 = (m : Int) := by omega
          have htm : (u : Int).tmod (m : Int) = (r : Int) := by rw [← hr]; exact Int.ofNat_tmod u m |>.symm
          have hrw : IntKind.i64.wrap (r : Int) = (r : Int) := by rw [IntKind.wrap_i64]; omega
          have i1 : (0 : Int) ≤ (r : Int) := by omega
          have i2 : (r : Int) < (m : Int) := by omega
          have hmne : ¬ (m : Int) = 0 := by omega
          have HX := hide hx
          have HRM := hide hr
          clear hu hr hx hga hrow gr0
          go_wp2_with fail
          have z0 : (wr.alloc (.cells #[.int .i64 kind, .bool sec, .int .i64 cur, .int .i64 n, .int .i64 lo, .int .i64 hi, .string S] 30)).cell? ⟨wr.heap.size, 0, none⟩ = some (.int .i64 kind) := (World.cell?_alloc_at _ _ _ _ rfl).trans rfl
          have z1 : (wr.alloc (.cells #[.int .i64 kind, .bool sec, .int .i64 cur, .int .i64 n, .int .i64 lo, .int .i64 hi, .string S] 30)).cell? ⟨wr.heap.size, 1, none⟩ = some (.bool sec) := (World.cell?_alloc_at _ _ _ _ rfl).trans rfl
          have z2 : (wr.alloc (.cells #[.int .i64 kind, .bool sec, .int .i64 cur, .int .i64 n, .int .i64 lo, .int .i64 hi, .string S] 30)).cell? ⟨wr.heap.size, 2, none⟩ = some (.int .i64 cur) := (World.cell?_alloc_at _ _ _ _ rfl).trans rfl
          have z3 : (wr.alloc (.cells #[.int .i64 kind, .bool sec, .int .i64 cur, .int .i64 n, .int .i64 lo, .int .i64 hi, .string S] 30)).cell? ⟨wr.heap.size, 3, none⟩ = some (.int .i64 n) := (World.cell?_alloc_at _ _ _ _ rfl).trans rfl
          have z4 : (wr.alloc (.cells #[.int .i64 kind, .bool sec, .int .i64 cur, .int .i64 n, .int .i64 lo, .int .i64 hi, .string S] 30)).cell? ⟨wr.heap.size, 4, none⟩ = some (.int .i64 lo) := (World.cell?_alloc_at _ _ _ _ rfl).trans rfl
          have z5 : (wr.alloc (.cells #[.int .i64 kind, .bool sec, .int .i64 cur, .int .i64 n, .int .i64 lo, .int .i64 hi, .string S] 30)).cell? ⟨wr.heap.size, 5, none⟩ = some (.int .i64 hi) := (World.cell?_alloc_at _ _ _ _ rfl).trans rfl
          have z6 : (wr.alloc (.cells #[.int .i64 kind, .bool sec, .int .i64 cur, .int .i64 n, .int .i64 lo, .int .i64 hi, .string S] 30)).cell? ⟨wr.heap.size, 6, none⟩ = some (.string S) := (World.cell?_alloc_at _ _ _ _ rfl).trans rfl
          have gB := cell_below g0 HA.out
          have gR := cell_below gr HA.out
          have HBA := hide (chain HB.out HA.out)
          generalize (wr.alloc (.cells #[.int .i64 kind, .bool sec, .int .i64 cur, .int .i64 n, .int .i64 lo, .int .i64 hi, .string S] 30)) = W at *
          clear f0 f1 f2 f3 f4 f5 f6 g0 gr HA HC
          go_quiet (fail)
          have HCW : Hid (Below W.heap.size W (W.drewN nq)) := ⟨rfl, rfl, rfl, Nat.le_refl _, fun _ _ => rfl⟩
          have HZS : Hid (W.cell? ⟨wr.heap.size, 0, none⟩ = some (.int .i64 kind) ∧ W.cell? ⟨wr.heap.size, 1, none⟩ = some (.bool sec) ∧ W.cell? ⟨wr.heap.size, 2, none⟩ = some (.int .i64 cur) ∧ W.cell? ⟨wr.heap.size, 3, none⟩ = some (.int .i64 n) ∧ W.cell? ⟨wr.heap.size, 4, none⟩ = some (.int .i64 lo) ∧ W.cell? ⟨wr.heap.size, 5, none⟩ = some (.int .i64 hi) ∧ W.cell? ⟨wr.heap.size, 6, none⟩ = some (.string S)) := ⟨z0, z1, z2, z3, z4, z5, z6⟩
          have HC2 := hide (HCA.out.below HCW.out)
          have HB2' := hide (chain HBA.out HCW.out)
          have HK2 := hide (HC2.out.cur r x HX.out)
          have hxl := HK2.out.bts.most
          have hxp := HK2.out.le
          clear z0 z1 z2 z3 z4 z5 z6 gB gR hcu hcu2 hcm hcm2 htm hrw i1 i2 HCA HBA
          generalize W.drewN nq = W2 at *
          obtain ⟨A, hA⟩ : ∃ A, x.len - x.p = A := ⟨_, rfl⟩
          have HLF := hide (left_any x.c x.g x.len x.p x.len x.L W2 HK2.out)
          rw [hA] at HLF
          go_wp2_with fail
          refine Calls.mono (at_any x.c x.g x.len x.p x.len x.L W2 HK2.out) ?_
          rintro e w2 ⟨rfl, rfl⟩
          go_wp2_with fail
          refine Calls.mono HLF.out ?_
          rintro e w3 ⟨rfl, hb3⟩
          have HC3 := hide (HC2.out.below hb3)
          have HB3 := hide (chain HB2'.out hb3)
          have HK3 := hide (HK2.out.below hb3)
          obtain ⟨y0, y1, y2, y3, y4, y5, y6⟩ := HZS.out
          have z0 := cell_below y0 (chain HCW.out hb3)
          have z1 := cell_below y1 (chain HCW.out hb3)
          have z2 := cell_below y2 (chain HCW.out hb3)
          have z3 := cell_below y3 (chain HCW.out hb3)
          have z4 := cell_below y4 (chain HCW.out hb3)
          have z5 := cell_below y5 (chain HCW.out hb3)
          have z6 := cell_below y6 (chain HCW.out hb3)
          clear y0 y1 y2 y3 y4 y5 y6 hb3 HLF HK2 HC2 HB2' HCW HZS
          go_wp2_with fail
          refine Calls.mono (step_any x.c x.g x.len x.p x.L kind sec cur n lo hi S w3 HK3.out (HE.out.below HB3.out)) ?_
          have HFX : Hid (w.heap.size ≤ x.c) := by unfold Hid; have h8 := (HC3.out.far r x HX.out).1; have h9 := HBB.out; omega
          clear z0 z1 z2 z3 z4 z5 z6
          rintro e w4 (⟨mv, rfl, hle, q1, q2⟩ | ⟨mv, ty, vv, i, q, rfl, hie, hq, hb4⟩)
          · have HC4 := hide (HC3.out.step HX.out q2 q1)
            have HK4 := hide q1
            have HB4 := hide (HB3.out.trans (q2.below HB3.out.size (fun j t => by have := HFX.out; omega)))
            obtain ⟨A2, hA2⟩ : ∃ A2, x.len - (x.p + mv) = A2 := ⟨_, rfl⟩
            have HLF := hide (left_any x.c x.g x.len (x.p + mv) x.len x.L w4 HK4.out)
            rw [hA2] at HLF
            have e1 : (A : Int) - (mv : Int) = (A2 : Int) := by omega
            have d1 : ¬ (A : Int) < (mv : Int) := by omega
            have d2 : ¬ (mv : Int) < 0 := by omega
            have hmv : mv ≤ 140737488355328 := by omega
            have hAl : A ≤ 140737488355328 := by omega
            have hA2l : A2 ≤ 140737488355328 := by omega
            have hps : x.p + mv ≤ 140737488355328 := by omega
            have HL4 : Hid ((xs.set r ⟨x.c, x.g, x.len, x.p + mv, x.L⟩).length ≤ k + 1 ∧ ds.length ≤ k + 1) := by
              have := HL.out
              constructor
              · rw [List.length_set]; omega
              · omega
            clear q1 q2 hle hA hA2 HC3 HK3
            go_wp2_with fail
            refine Calls.mono (at_any x.c x.g x.len (x.p + mv) x.len x.L w4 HK4.out) ?_
            rintro e w5 ⟨rfl, rfl⟩
            go_wp2_with fail
            refine Calls.mono HLF.out ?_
            rintro e w5 ⟨rfl, hb5⟩
            have HC5 := hide (HC4.out.below hb5)
            have HB5 := hide (chain HB4.out hb5)
            clear hb5 HLF HC4 HB4
            go_wp2_with fail
            refine Calls.mono (place_nil w5) ?_
            rintro e w6 ⟨rfl, hb6⟩
            have HC6 := hide (HC5.out.below hb6)
            have HB6 := hide (chain HB5.out hb6)
            clear hb6
            go_wp2
            exact ⟨⟨k + 1, _, _, _, _, by omega, by first | rfl | simp, HC6, HL4, HB6⟩, by simp [intOf]; omega⟩
          · have HC4 := hide (HC3.out.below hb4)
            have HB4 := hide (chain HB3.out hb4)
            have HK4 := hide (HK3.out.below hb4)
            have HIE := hide hie
            have HLF := hide (left_any x.c x.g x.len x.p x.len x.L w4 HK4.out)
            rw [hA] at HLF
            have hAl : A ≤ 140737488355328 := by omega
            have dq : (0 : Int) ≤ q → (¬ q < (x.p : Int)) ∧ ¬ (x.p : Int) + (A : Int) < q := by omega
            have HL4 : Hid (xs.length ≤ k + 1 ∧ ds.length ≤ k + 1) := by have := HL.out; exact ⟨by omega, by omega⟩
            have HDQ := hide dq
            clear hie hb4 hq hA HC3 HK3 dq
            go_wp2_with fail
            refine Calls.mono (at_any x.c x.g x.len x.p x.len x.L w4 HK4.out) ?_
            rintro e w5 ⟨rfl, rfl⟩
            go_wp2_with fail
            refine Calls.mono HLF.out ?_
            rintro e w5 ⟨rfl, hb5⟩
            have HC5 := hide (HC4.out.below hb5)
            have HB5 := hide (chain HB4.out hb5)
            have HI5 := hide (HIE.out.below hb5)
            clear hb5 HLF HC4 HB4
            go_wp2_with fail
            refine Calls.mono (place_any (HE.out.below HB5.out) _ i q HI5.out) ?_
            rintro e w6 ⟨rfl, hb6⟩
            have HC6 := hide (HC5.out.below hb6)
            have HB6 := hide (chain HB5.out hb6)
            clear hb6
            by_cases hq0 : (0 : Int) ≤ q
            · obtain ⟨p1, p2⟩ := HDQ.out hq0
              go_wp2
              exact ⟨⟨k + 1, _, _, _, _, by omega, by first | rfl | simp, HC6, HL4, HB6⟩, by simp [intOf]; omega⟩
            · go_wp2
              exact ⟨⟨k + 1, _, _, _, _, by omega, by first | rfl | simp, HC6, HL4, HB6⟩, by simp [intOf]; omega⟩
    · obtain rfl : k = len := by omega
      go_wp2
      go_ret
      exact ⟨rfl, HB.out⟩
end Go.Proofs.YtkkogkdalcigkaaDoor.wireStays
