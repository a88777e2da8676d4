/-
  Copies of bytes by append, bytes as strings, a record and its beginnings split.
-/
import Derived.Test.YtohoncgkekiihaaDoorCuSplit
import Derived.Test.YtohoncgkekiihaaDoorWrJoin
import Derived.Laws.BytesArg
import Derived.Laws.IdiomStrings
namespace Go.Proofs.YtohoncgkekiihaaDoor
open Go.RowKit FerryCrc
set_option linter.unusedVariables false
set_option linter.unusedSimpArgs false

/-- Bytes as a string. -/
def str (l : List Nat) : ByteArray := ⟨(l.map UInt8.ofNat).toArray⟩
theorem bts_string {w : World} {a : Option Addr} {n c : Nat} {l : List Nat} (h : Bts w a n c l) : (convert 23 9 (.slice a n c)).run Tryd.prog w = .ok (.string (str l)) w := by
  match a, h with
  | none, h =>
    obtain ⟨rfl, rfl⟩ := h.null rfl
    obtain rfl : l = [] := List.length_eq_zero_iff.1 h.size
    exact run_convert_bytes_nil (P := Tryd.prog) w 23 5 Tryd.underlying23 Tryd.underlying5 0 0 9 Tryd.underlying9
  | some ad, h =>
    have := run_convert_bytes_back (P := Tryd.prog) w 23 9 5 ad c (l.map UInt8.ofNat) Tryd.underlying23 Tryd.underlying5 Tryd.underlying9 (fun j hj => by
      have hj' : j < l.length := by simpa using hj
      obtain ⟨b, off, ha, x, hl, hc⟩ := h.cell j (by rw [← h.size]; exact hj')
      simp only [Option.some.injEq] at ha
      subst ha
      rw [add_none, hc]
      have hlt := h.small x (List.mem_of_getElem? hl)
      have hx : l[j] = x := by rw [List.getElem?_eq_getElem hj'] at hl; simpa using hl
      simp [hx]
      omega)
    rw [List.length_map, h.size] at this
    exact this

/-- append([]byte{}, x...): a copy. -/
theorem append_copy {w : World} {ops : Array Oper} {rest : List Oper} {o : Oper} {act : Act} {Q : Exit → Act → World → Prop} (hgd : o.guard = none) (s x : Operand)
    (ho : o.op = .call { callee := .builtin .append, args := #[s, x], argTypes := #[23, 23] })
    (hs : act.eval s = .slice (some ⟨w.heap.size, 0, none⟩) 0 0)
    (a : Option Addr) (m c : Nat) (l : List Nat) (hx : act.eval x = .slice a m c) (hb : Bts w a m c l)
    (h : ∀ a1 c1 w', Own w' w.heap.size (.slice a1 m c1) l → Bts w' a1 m c1 l → Below w.heap.size w w' → wpList Tryd.prog ops Q rest (act.put o.dst (.slice a1 m c1)) w') : wpList Tryd.prog ops Q (o :: rest) act (w.alloc (.cells #[] 5)) := by
  have hb0 : Below w.heap.size w (w.alloc (.cells #[] 5)) := (Below.refl _ _).alloc (Nat.le_refl _) _
  refine append_lie hgd s x ho w.heap.size _ [] hs (own_empty w) a m c l hx (hb.below hb0) (by simp; exact hb.most) hb0.size ?_
  intro v' w' h1 h2 h3
  rw [List.nil_append] at h1
  obtain ⟨a1, c1, rfl, h4⟩ := h1.shown (by rw [hb.size]; exact hb.most) hb.small
  rw [hb.size] at h1 h4 ⊢
  exact h a1 c1 w' h1 h4 (hb0.trans (h2.below hb0.size (fun k hk => by
    simp only [Value.ownBlock, Option.some.injEq] at hk
    omega)))

/-- A list of one record. -/
theorem rcs_one (w : World) (r : JV) (t : TypeId) : Rcs JV.cells 2 (w.alloc (.cells #[.int .i64 (r.tag : Int), .slice r.a r.n r.c] t)) (some ⟨w.heap.size, 0, none⟩) 1 1 [r] := by
  refine ⟨rfl, ⟨rfl, Nat.le_refl _, fun e => by simp at e, fun j v hv => ⟨_, _, rfl, ?_⟩⟩⟩
  rw [World.cell?_alloc_at _ _ _ _ rfl, Nat.zero_add]
  match j, hv with
  | 0, hv => simpa [JV.cells] using hv
  | 1, hv => simpa [JV.cells] using hv
  | j + 2, hv => simp [JV.cells] at hv
end Go.Proofs.YtohoncgkekiihaaDoor
namespace FerryCrc
theorem be_two (n : Nat) (h : n ≤ 65535) : nbe (be n 2) = n := by
  show nbe [n / 256 ^ 1 % 256, n / 256 ^ 0 % 256] = n
  simp [nbe]
  omega
end FerryCrc
namespace Go.Proofs.YtohoncgkekiihaaDoor
open Go.RowKit FerryCrc

/-- A record begins the bytes. -/
theorem enc_rec (t : Nat) (l : List Nat) (ht : t ≠ 0) (hm : l.length ≤ 65535) : Rec (encR t l) 0 (l.length + 3) t l.length ∧ cut (encR t l) (0 + 3) l.length = l := by
  have e1 : cut (encR t l) (0 + 1) 2 = be l.length 2 := by
    show ((t :: (be l.length 2 ++ l)).drop 1).take 2 = _
    rw [List.drop_one, List.tail_cons, List.take_append_of_le_length (by rw [be_len]; exact Nat.le_refl _), List.take_of_length_le (by rw [be_len]; exact Nat.le_refl _)]
  refine ⟨⟨by omega, rfl, ht, by rw [e1]; exact be_two _ hm, by omega⟩, ?_⟩
  show ((t :: (be l.length 2 ++ l)).drop 3).take l.length = l
  have : (t :: (be l.length 2 ++ l)).drop 3 = l := rfl
  rw [this, List.take_length]
theorem rec_uniq {L : List Nat} {p bd t n t' n' : Nat} (h : Rec L p bd t n) (h' : Rec L p bd t' n') : t = t' ∧ n = n' := by
  obtain ⟨_, a2, _, a4, _⟩ := h
  obtain ⟨_, b2, _, b4, _⟩ := h'
  rw [a2] at b2
  exact ⟨by simpa using b2, a4.symm.trans b4⟩
theorem rec_not_stk {L : List Nat} {p bd t n i q : Nat} (h : Rec L p bd t n) (hs : Stk L p bd i q) : False := by
  obtain ⟨a1, a2, a3, a4, a5⟩ := h
  rcases hs with ⟨h1, _⟩ | ⟨h1, h2, _⟩ | ⟨h1, h2, h3, _⟩
  · omega
  · rw [a2] at h2
    simp at h2
    exact a3 h2
  · omega
/-- What Split says of one record. -/
theorem pars_enc {t : Nat} {l : List Nat} {rs : List (Nat × List Nat)} {q : Nat} (ht : t ≠ 0) (hm : l.length ≤ 65535) (h : Pars (encR t l) (l.length + 3) 0 rs q) : (rs = [] ∧ q = 0) ∨ (rs = [(t, l)] ∧ q = l.length + 3) ∨ l.length + 3 < q := by
  obtain ⟨h1, h2⟩ := enc_rec t l ht hm
  match rs, h with
  | [], h => exact .inl ⟨rfl, (show (0 : Nat) = q from h).symm⟩
  | r :: rs, h =>
    obtain ⟨n, k1, k2, k3⟩ := h
    obtain ⟨e1, e2⟩ := rec_uniq k1 h1
    subst e2
    rw [h2] at k2
    match rs, k3 with
    | [], k3 =>
      have : 0 + 3 + l.length = q := k3
      refine .inr (.inl ⟨?_, by omega⟩)
      have : r = (r.1, r.2) := rfl
      rw [this, e1, k2]
    | r' :: rs, k3 =>
      have := pars_le k3
      simp at this
      exact .inr (.inr (by omega))
/-- What Split says of a beginning of one record: no list of records. -/
theorem pars_cut {t : Nat} {l : List Nat} {rs : List (Nat × List Nat)} {n : Nat} (ht : t ≠ 0) (hm : l.length ≤ 65535) (h0 : 0 < n) (hn : n < l.length + 3) (h : Pars ((encR t l).take n) n 0 rs n) : False := by
  match rs, h with
  | [], h =>
    have : (0 : Nat) = n := h
    omega
  | r :: rs, h =>
    obtain ⟨k, ⟨a1, a2, a3, a4, a5⟩, k2, k3⟩ := h
    obtain ⟨⟨_, _, _, b4, _⟩, _⟩ := enc_rec t l ht hm
    have e : cut ((encR t l).take n) (0 + 1) 2 = cut (encR t l) (0 + 1) 2 := by
      unfold cut
      rw [List.drop_take, List.take_take, Nat.min_eq_left (by omega)]
    rw [e, b4] at a4
    omega
end Go.Proofs.YtohoncgkekiihaaDoor
