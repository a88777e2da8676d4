/-
  Records and digits there and back.
-/
import Derived.Test.YtohoncgkekiihaaDoorWUnhex
import Derived.Test.YtohoncgkekiihaaDoorWJoinAll
import Derived.Test.YtohoncgkekiihaaDoorWrCopy
namespace Go.Proofs.YtohoncgkekiihaaDoor
open Go.RowKit FerryCrc
set_option linter.unusedVariables false
set_option linter.unusedSimpArgs false

theorem hexOf_cons (c : Nat) (l : List Nat) : hexOf (c :: l) = hexd (c / 16) :: hexd (c % 16) :: hexOf l := rfl
theorem unhex_hex : ∀ (l : List Nat), (∀ c ∈ l, c < 256) → unhexOf (hexOf l) = l
  | [], _ => rfl
  | c :: l, h => by
    have hc := h c (List.mem_cons_self ..)
    rw [hexOf_cons, unhexOf, unhex_hex l (fun d hd => h d (List.mem_cons_of_mem _ hd)), hexv_hexd (by omega), hexv_hexd (by omega)]
    congr 1
    omega
theorem hex_digits : ∀ (l : List Nat), (∀ c ∈ l, c < 256) → ∀ d ∈ hexOf l, hexv d < 16
  | [], _, d, hd => by simp [hexOf] at hd
  | c :: l, h, d, hd => by
    have hc := h c (List.mem_cons_self ..)
    rw [hexOf_cons] at hd
    rcases List.mem_cons.1 hd with rfl | hd
    · rw [hexv_hexd (by omega)]; omega
    · rcases List.mem_cons.1 hd with rfl | hd
      · rw [hexv_hexd (by omega)]; omega
      · exact hex_digits l (fun d hd => h d (List.mem_cons_of_mem _ hd)) d hd
theorem hex_unhex : ∀ (l : List Nat), l.length % 2 = 0 → (∀ c ∈ l, hexv c < 16) → hexOf (unhexOf l) = l
  | [], _, _ => rfl
  | [_], h, _ => by simp at h
  | c :: d :: l, h, hv => by
    have h1 := hv c (List.mem_cons_self ..)
    have h2 := hv d (List.mem_cons_of_mem _ (List.mem_cons_self ..))
    rw [unhexOf, hexOf_cons, hex_unhex l (by simp at h; omega) (fun x hx => hv x (List.mem_cons_of_mem _ (List.mem_cons_of_mem _ hx)))]
    rw [show (hexv c * 16 + hexv d) / 16 = hexv c by omega, show (hexv c * 16 + hexv d) % 16 = hexv d by omega, hexd_hexv h1, hexd_hexv h2]
theorem unhexOf_small : ∀ (l : List Nat), (∀ c ∈ l, hexv c < 16) → ∀ c ∈ unhexOf l, c < 256
  | [], _, c, hc => by simp [unhexOf] at hc
  | [_], _, c, hc => by simp [unhexOf] at hc
  | x :: y :: l, hv, c, hc => by
    have h1 := hv x (List.mem_cons_self ..)
    have h2 := hv y (List.mem_cons_of_mem _ (List.mem_cons_self ..))
    rw [unhexOf] at hc
    rcases List.mem_cons.1 hc with rfl | hc
    · omega
    · exact unhexOf_small l (fun z hz => hv z (List.mem_cons_of_mem _ (List.mem_cons_of_mem _ hz))) c hc

/-- The record may be written. -/
def JW.Fits (r : JW) : Prop := 1 ≤ r.tag ∧ r.tag ≤ 255 ∧ r.l.length ≤ 65535
def JW.enc (r : JW) : List Nat := encR r.tag.toNat r.l
theorem jfold_from : ∀ (rs : List JW) (p : Nat × List Nat), (rs.foldl (fun p r => aft p.1 p.2 (rput r.tag r.l)) p).1 = 0 → p.1 = 0 ∧ (∀ r ∈ rs, r.Fits) ∧ (rs.foldl (fun p r => aft p.1 p.2 (rput r.tag r.l)) p).2 = p.2 ++ rs.flatMap JW.enc
  | [], p, h => ⟨h, fun r hr => by simp at hr, by simp⟩
  | r :: rs, p, h => by
    rw [List.foldl_cons] at h ⊢
    obtain ⟨h1, h2, h3⟩ := jfold_from rs _ h
    by_cases hp : p.1 = 0
    · have e1 : aft p.1 p.2 (rput r.tag r.l) = ((rput r.tag r.l).1, p.2 ++ (rput r.tag r.l).2) := by unfold aft; rw [if_pos hp]
      rw [e1] at h1 h3
      by_cases ht : r.tag < 1 ∨ 255 < r.tag
      · have : (rput r.tag r.l).1 = 3 := by unfold rput; rw [if_pos ht]
        simp only at h1
        omega
      · by_cases hl : 65535 < r.l.length
        · have : (rput r.tag r.l).1 = 5 := by unfold rput; rw [if_neg ht, if_pos hl]
          simp only at h1
          omega
        · have e2 : (rput r.tag r.l).2 = r.enc := by unfold rput; rw [if_neg ht, if_neg hl]; rfl
          refine ⟨hp, fun q hq => ?_, ?_⟩
          · rcases List.mem_cons.1 hq with rfl | hq
            · exact ⟨by omega, by omega, by omega⟩
            · exact h2 q hq
          · rw [e1, h3, e2, List.flatMap_cons, List.append_assoc]
    · have e1 : aft p.1 p.2 (rput r.tag r.l) = (p.1, p.2) := by unfold aft; rw [if_neg hp]
      rw [e1] at h1
      exact absurd h1 hp
theorem jfold_ok {rs : List JW} (h : (jfold rs).1 = 0) : (∀ r ∈ rs, r.Fits) ∧ (jfold rs).2 = rs.flatMap JW.enc := by
  obtain ⟨_, h2, h3⟩ := jfold_from rs _ h
  exact ⟨h2, by unfold jfold; rw [h3]; rfl⟩
theorem jfold_fits : ∀ (rs : List JW) (L : List Nat), (∀ r ∈ rs, r.Fits) → rs.foldl (fun p r => aft p.1 p.2 (rput r.tag r.l)) (0, L) = (0, L ++ rs.flatMap JW.enc)
  | [], L, _ => by simp
  | r :: rs, L, h => by
    obtain ⟨h1, h2, h3⟩ := h r (List.mem_cons_self ..)
    have e1 : aft 0 L (rput r.tag r.l) = (0, L ++ r.enc) := by
      unfold aft rput
      rw [if_pos rfl, if_neg (by omega), if_neg (by omega)]
      rfl
    rw [List.foldl_cons]
    show rs.foldl _ (aft 0 L (rput r.tag r.l)) = _
    rw [e1, jfold_fits rs _ (fun q hq => h q (List.mem_cons_of_mem _ hq)), List.flatMap_cons, List.append_assoc]

/-- A record's bytes. -/
def encP (r : Nat × List Nat) : List Nat := encR r.1 r.2
theorem pars_join : ∀ (ps : List (Nat × List Nat)) (A : List Nat) (n : Nat), (∀ r ∈ ps, r.1 ≠ 0 ∧ r.2.length ≤ 65535) → (A ++ ps.flatMap encP).length = n → Pars (A ++ ps.flatMap encP) n A.length ps n
  | [], A, n, _, hn => by simp at hn; exact hn
  | (t, l) :: ps, A, n, h, hn => by
    obtain ⟨h1, h2⟩ := h (t, l) (List.mem_cons_self ..)
    simp only at h1 h2
    have e1 : A ++ ((t, l) :: ps).flatMap encP = (A ++ encR t l) ++ ps.flatMap encP := by rw [List.flatMap_cons, List.append_assoc]; rfl
    have hE : (encR t l).length = l.length + 3 := encR_len t l
    have hn2 : ((A ++ encR t l) ++ ps.flatMap encP).length = n := by rw [← e1]; exact hn
    have h3 := pars_join ps (A ++ encR t l) n (fun r hr => h r (List.mem_cons_of_mem _ hr)) hn2
    rw [List.length_append, hE] at h3
    have hlen : A.length + (l.length + 3) + (ps.flatMap encP).length = n := by rw [← hn2, List.length_append, List.length_append, hE]
    rw [e1]
    have hd0 : ((A ++ encR t l) ++ ps.flatMap encP).drop A.length = [t] ++ (be l.length 2 ++ (l ++ ps.flatMap encP)) := by
      rw [List.append_assoc, List.drop_left]
      unfold encR
      simp
    have c1 : cut ((A ++ encR t l) ++ ps.flatMap encP) (A.length + 1) 2 = be l.length 2 := by
      unfold cut
      rw [← List.drop_drop, hd0]
      show ((be l.length 2 ++ (l ++ ps.flatMap encP)).take 2) = _
      have := List.take_left (l₁ := be l.length 2) (l₂ := l ++ ps.flatMap encP)
      rw [be_len] at this
      exact this
    have c2 : cut ((A ++ encR t l) ++ ps.flatMap encP) (A.length + 3) l.length = l := by
      unfold cut
      have e3 : ((A ++ encR t l) ++ ps.flatMap encP).drop (A.length + 3) = l ++ ps.flatMap encP := by
        rw [← List.drop_drop, hd0, ← List.append_assoc]
        have : ([t] ++ be l.length 2).length = 3 := by rw [List.length_append, be_len]; rfl
        rw [← this, List.drop_left]
      rw [e3, List.take_left]
    refine ⟨l.length, ⟨by omega, ?_, h1, by rw [c1]; exact be_two _ h2, by omega⟩, c2.symm, ?_⟩
    · have := congrArg (fun x => x[0]?) hd0
      simp only [List.getElem?_drop, Nat.add_zero] at this
      rw [this]
      rfl
    · rw [show A.length + 3 + l.length = A.length + (l.length + 3) by omega]
      exact h3

theorem be_nbe2 {a b : Nat} (ha : a < 256) (hb : b < 256) : be (nbe [a, b]) 2 = [a, b] := by
  have h : nbe [a, b] = a * 256 + b := by simp [nbe]
  rw [h]
  simp [be]
  omega
theorem rec_bytes {L : List Nat} {p len t n : Nat} (hL : L.length = len) (hs : ∀ c ∈ L, c < 256) (h : Rec L p len t n) : L.drop p = encR t (cut L (p + 3) n) ++ L.drop (p + 3 + n) ∧ n ≤ 65535 ∧ t ≤ 255 ∧ (cut L (p + 3) n).length = n := by
  obtain ⟨h1, h2, h3, h4, h5⟩ := h
  have hcl : (cut L (p + 3) n).length = n := by
    unfold cut
    rw [List.length_take, List.length_drop]
    omega
  have hp : p < L.length := by omega
  have hp1 : p + 1 < L.length := by omega
  have hp2 : p + 2 < L.length := by omega
  have e0 : L.drop p = L[p] :: L[p + 1] :: L[p + 2] :: L.drop (p + 3) := by
    rw [List.drop_eq_getElem_cons hp, List.drop_eq_getElem_cons hp1, List.drop_eq_getElem_cons hp2]
  have ht : L[p] = t := by
    rw [List.getElem?_eq_getElem hp] at h2
    exact Option.some.inj h2
  have b0 := hs _ (List.getElem_mem hp)
  have b1 := hs _ (List.getElem_mem hp1)
  have b2 := hs _ (List.getElem_mem hp2)
  have e1 : cut L (p + 1) 2 = [L[p + 1], L[p + 2]] := by
    unfold cut
    rw [List.drop_eq_getElem_cons hp1, List.drop_eq_getElem_cons hp2]
    rfl
  rw [e1] at h4
  have hn : n < 65536 := by
    rw [← h4]
    simp [nbe]
    omega
  have e2 : be n 2 = [L[p + 1], L[p + 2]] := by rw [← h4]; exact be_nbe2 b1 b2
  refine ⟨?_, by omega, by omega, hcl⟩
  rw [e0, ht]
  unfold encR
  rw [hcl, e2]
  have e3 : L.drop (p + 3) = cut L (p + 3) n ++ L.drop (p + 3 + n) := by
    unfold cut
    rw [← List.drop_drop (l := L) (i := n) (j := p + 3), List.take_append_drop]
  rw [e3]
  simp
theorem join_pars : ∀ (ps : List (Nat × List Nat)) (L : List Nat) (len p : Nat), L.length = len → (∀ c ∈ L, c < 256) → Pars L len p ps len → L.drop p = ps.flatMap encP ∧ ∀ r ∈ ps, r.1 ≠ 0 ∧ r.1 ≤ 255 ∧ r.2.length ≤ 65535
  | [], L, len, p, hL, _, h => by
    have : p = len := h
    subst this
    exact ⟨by rw [← hL, List.drop_length]; rfl, fun r hr => by simp at hr⟩
  | (t, l) :: ps, L, len, p, hL, hs, h => by
    obtain ⟨n, h1, h2, h3⟩ := h
    simp only at h1 h2
    subst h2
    obtain ⟨g1, g2, g3, g4⟩ := rec_bytes hL hs h1
    obtain ⟨i1, i2⟩ := join_pars ps L len _ hL hs h3
    refine ⟨by rw [g1, i1, List.flatMap_cons]; rfl, fun r hr => ?_⟩
    rcases List.mem_cons.1 hr with rfl | hr
    · exact ⟨h1.2.2.1, g3, by show (cut L (p + 3) n).length ≤ _; omega⟩
    · exact i2 r hr

theorem rec_end {L : List Nat} {bd t n : Nat} (h : Rec L bd bd t n) : False := by
  have := h.1
  omega
theorem pars_uniq {L : List Nat} {bd : Nat} : ∀ (ps ps' : List (Nat × List Nat)) (p : Nat), Pars L bd p ps bd → Pars L bd p ps' bd → ps = ps'
  | [], [], _, _, _ => rfl
  | [], r :: ps', p, h, h' => by
    have : p = bd := h
    subst this
    obtain ⟨n, h1, _⟩ := h'
    exact (rec_end h1).elim
  | r :: ps, [], p, h, h' => by
    have : p = bd := h'
    subst this
    obtain ⟨n, h1, _⟩ := h
    exact (rec_end h1).elim
  | (t, l) :: ps, (t', l') :: ps', p, h, h' => by
    obtain ⟨n, h1, h2, h3⟩ := h
    obtain ⟨n', h1', h2', h3'⟩ := h'
    simp only at h1 h2 h1' h2'
    obtain ⟨rfl, rfl⟩ := rec_uniq h1 h1'
    rw [pars_uniq ps ps' _ h3 h3', h2, h2']
theorem pars_stk {L : List Nat} {bd : Nat} : ∀ (rs ps : List (Nat × List Nat)) (p q i j : Nat), Pars L bd p ps bd → Pars L bd p rs q → q < bd → Stk L q bd i j → False
  | [], ps, p, q, i, j, h, h', hq, hs => by
    have : p = q := h'
    subst this
    match ps, h with
    | [], h => exact absurd (show p = bd from h) (by omega)
    | r :: ps, h =>
      obtain ⟨n, h1, _⟩ := h
      exact rec_not_stk h1 hs
  | (t', l') :: rs, ps, p, q, i, j, h, h', hq, hs => by
    obtain ⟨n', h1', _, h3'⟩ := h'
    simp only at h1'
    match ps, h with
    | [], h =>
      have : p = bd := h
      subst this
      exact rec_end h1'
    | (t, l) :: ps, h =>
      obtain ⟨n, h1, _, h3⟩ := h
      simp only at h1
      obtain ⟨rfl, rfl⟩ := rec_uniq h1 h1'
      exact pars_stk rs ps _ q i j h3 h3' hq hs
end Go.Proofs.YtohoncgkekiihaaDoor
