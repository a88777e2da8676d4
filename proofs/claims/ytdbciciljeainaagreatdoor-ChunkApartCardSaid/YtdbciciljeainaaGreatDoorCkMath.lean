/-
  A note's bytes: laid down, read back, each the other's inverse.
-/
import Derived.Test.YtdbciciljeainaaGreatDoorXfBase
import Derived.Test.YtdbciciljeainaaGreatDoorCuBase
import Derived.Test.YtdbciciljeainaaGreatDoorWrPut
import Derived.Test.YtdbciciljeainaaGreatDoorTold
namespace Go.Proofs.YtdbciciljeainaaGreatDoor
open Go.RowKit FerryCrc
set_option linter.unusedVariables false
set_option linter.unusedSimpArgs false

/-- The bytes of a note, without the sum. -/
def body (n : Nt) : List Nat :=
  be (27 + n.data.size) 2 ++ [n.kind.toNat] ++ [n.part.toNat] ++ be n.boot.toNat 4 ++ be n.peer.toNat 4 ++ be n.num.toNat 4 ++ [n.stage.toNat] ++ [n.index.toNat] ++ [n.total.toNat] ++ be n.sum.toNat 4 ++ bytesOf n.data
def putS (n : Nt) : ByteArray := if chk n = 0 then str (sealOf (body n)) else ⟨#[]⟩
/-- What the fields behind the length say. -/
def rdN (L : List Nat) : Nt :=
  ⟨nbe (cut L 2 1), nbe (cut L 3 1), nbe (cut L 4 4), nbe (cut L 8 4), nbe (cut L 12 4), nbe (cut L 16 1), nbe (cut L 17 1), nbe (cut L 18 1), nbe (cut L 19 4), str (cut L 23 (L.length - 23))⟩
def gNt : Nt := ⟨0, 0, 0, 0, 0, 0, 0, 0, 0, ⟨#[]⟩⟩
/-- What Get answers to bytes: the code, the note. -/
def getE (l : List Nat) : Nat :=
  if l.length < 4 then 1 else if ¬ sumOf (l.take (l.length - 4)) = num4 (l.drop (l.length - 4)) then 6 else if l.length < 27 then 1 else if nbe (cut l 0 2) ≠ l.length then 5 else chk (rdN (l.take (l.length - 4)))
def getN (l : List Nat) : Nt := if getE l = 0 then rdN (l.take (l.length - 4)) else gNt

/-- What a note in form says of its numbers. -/
structure Num (n : Nt) : Prop where
  k : 1 ≤ n.kind ∧ n.kind ≤ 7
  p : 0 ≤ n.part ∧ n.part < 8
  b : 1 ≤ n.boot ∧ n.boot ≤ 2147483647
  r : 1 ≤ n.peer ∧ n.peer ≤ 2147483647
  m : 1 ≤ n.num ∧ n.num ≤ 2147483647
  s : 0 ≤ n.stage ∧ n.stage ≤ 2
  i : 0 ≤ n.index ∧ n.index ≤ 31
  t : 0 ≤ n.total ∧ n.total ≤ 32
  d : n.data.size ≤ 128
theorem chk_num {n : Nt} (h : chk n = 0) : Num n := by
  unfold chk at h
  by_cases hk : n.kind < 1 ∨ 7 < n.kind
  · rw [if_pos hk] at h; exact absurd h (by decide)
  · rw [if_neg hk] at h
    by_cases hq : (nmN n && stagedN n && countedN n && filledN n) = true
    · simp only [Bool.and_eq_true] at hq
      obtain ⟨⟨⟨h1, h2⟩, h3⟩, h4⟩ := hq
      unfold nmN at h1
      rw [okNm_iff, okNum_iff, okNum_iff, okNum_iff] at h1
      obtain ⟨p, b, r, m⟩ := h1
      have hs : 0 ≤ n.stage ∧ n.stage ≤ 2 := by
        unfold stagedN at h2
        split at h2
        · rw [okSt_iff] at h2; omega
        · have : n.stage = 0 := by simpa using h2
          omega
      have hi : (0 ≤ n.index ∧ n.index ≤ 31) ∧ 0 ≤ n.total ∧ n.total ≤ 32 := by
        unfold countedN at h3
        split at h3
        · simp only [Bool.and_eq_true, okTot_iff, decide_eq_true_eq] at h3
          omega
        · have : n.index = 0 ∧ n.total = 0 := by simpa using h3
          omega
      have hd : n.data.size ≤ 128 := by
        unfold filledN at h4
        split at h4
        · simp only [Bool.and_eq_true] at h4
          have := h4.2
          unfold pieceOk at this
          split at this
          · simp only [Bool.and_eq_true, decide_eq_true_eq] at this
            exact this.2
          · have : n.data.size = 128 := by simpa using this
            omega
        · simp only [Bool.and_eq_true, decide_eq_true_eq] at h4
          omega
      exact ⟨⟨by omega, by omega⟩, p, b, r, m, hs, hi.1, hi.2, hd⟩
    · rw [if_neg hq] at h; exact absurd h (by decide)

theorem nbe_one (a : Nat) : nbe [a] = a := by simp [nbe]
theorem nbe_two (a b : Nat) : nbe [a, b] = a * 256 + b := by simp [nbe]
theorem nbe_four (a b c d : Nat) : nbe [a, b, c, d] = ((a * 256 + b) * 256 + c) * 256 + d := by simp [nbe]
theorem be2 (n : Nat) : be n 2 = [n / 256 % 256, n % 256] := by
  show [n / 256 ^ 1 % 256, n / 256 ^ 0 % 256] = _
  simp
theorem be4 (n : Nat) : be n 4 = [n / 16777216 % 256, n / 65536 % 256, n / 256 % 256, n % 256] := by
  show [n / 256 ^ 3 % 256, n / 256 ^ 2 % 256, n / 256 ^ 1 % 256, n / 256 ^ 0 % 256] = _
  simp
theorem be2_nbe {a b : Nat} (ha : a < 256) (hb : b < 256) : be (nbe [a, b]) 2 = [a, b] := by
  rw [be2, nbe_two]
  simp
  omega
theorem be4_nbe {a b c d : Nat} (ha : a < 256) (hb : b < 256) (hc : c < 256) (hd : d < 256) : be (nbe [a, b, c, d]) 4 = [a, b, c, d] := by
  rw [be4, nbe_four]
  simp
  omega
theorem nbe_be2 {n : Nat} (h : n < 65536) : nbe (be n 2) = n := by
  rw [be2, nbe_two]
  omega
theorem nbe_be4 {n : Nat} (h : n < 4294967296) : nbe (be n 4) = n := by
  rw [be4, nbe_four]
  omega
theorem body_len (n : Nt) : (body n).length = 23 + n.data.size := by
  unfold body
  simp only [List.length_append, be_len, List.length_singleton, bytesOf_len]
theorem body_small {n : Nt} (h : Num n) : ∀ c ∈ body n, c < 256 := by
  intro c hc
  unfold body at hc
  simp only [List.mem_append, List.mem_singleton] at hc
  have := h.k; have := h.p; have := h.s; have := h.i; have := h.t
  rcases hc with (((((((((hc | hc) | hc) | hc) | hc) | hc) | hc) | hc) | hc) | hc) | hc
  · exact be_small _ _ c hc
  · omega
  · omega
  · exact be_small _ _ c hc
  · exact be_small _ _ c hc
  · exact be_small _ _ c hc
  · omega
  · omega
  · omega
  · exact be_small _ _ c hc
  · exact bytesOf_lt _ c hc
theorem be_list4 (n : Nat) : ∃ a b c d, be n 4 = [a, b, c, d] := ⟨_, _, _, _, be4 n⟩
theorem be_list2 (n : Nat) : ∃ a b, be n 2 = [a, b] := ⟨_, _, be2 n⟩
theorem read_body {n : Nt} (h : Num n) (h0 : 0 ≤ n.sum) (h1 : n.sum < 4294967296) : rdN (body n) = n ∧ nbe (cut (body n) 0 2) = 27 + n.data.size := by
  have e2 := nbe_be2 (n := 27 + n.data.size) (by have := h.d; omega)
  have eb := nbe_be4 (n := n.boot.toNat) (by have := h.b; omega)
  have er := nbe_be4 (n := n.peer.toNat) (by have := h.r; omega)
  have em := nbe_be4 (n := n.num.toNat) (by have := h.m; omega)
  have es := nbe_be4 (n := n.sum.toNat) (by omega)
  obtain ⟨x0, x1, q2⟩ := be_list2 (27 + n.data.size)
  obtain ⟨x4, x5, x6, x7, qb⟩ := be_list4 n.boot.toNat
  obtain ⟨x8, x9, x10, x11, qr⟩ := be_list4 n.peer.toNat
  obtain ⟨x12, x13, x14, x15, qm⟩ := be_list4 n.num.toNat
  obtain ⟨x19, x20, x21, x22, qs⟩ := be_list4 n.sum.toNat
  have hl := body_len n
  have hb : body n = x0 :: x1 :: n.kind.toNat :: n.part.toNat :: x4 :: x5 :: x6 :: x7 :: x8 :: x9 :: x10 :: x11 :: x12 :: x13 :: x14 :: x15 :: n.stage.toNat :: n.index.toNat :: n.total.toNat :: x19 :: x20 :: x21 :: x22 :: bytesOf n.data := by
    unfold body
    rw [q2, qb, qr, qm, qs]
    simp
  rw [q2] at e2
  rw [qb] at eb
  rw [qr] at er
  rw [qm] at em
  rw [qs] at es
  obtain ⟨k, p, b, r, m, s, i, t, sm, d⟩ := n
  have := h.k; have := h.p; have := h.b; have := h.r; have := h.m; have := h.s; have := h.i; have := h.t
  simp only at *
  refine ⟨?_, ?_⟩
  · have hd : cut (body ⟨k, p, b, r, m, s, i, t, sm, d⟩) 23 ((body ⟨k, p, b, r, m, s, i, t, sm, d⟩).length - 23) = bytesOf d := by
      rw [hl]
      rw [hb]
      show (bytesOf d).take _ = bytesOf d
      exact List.take_of_length_le (by rw [bytesOf_len]; omega)
    unfold rdN
    rw [hd, str_bytesOf, hb]
    simp only [Nt.mk.injEq]
    refine ⟨?_, ?_, ?_, ?_, ?_, ?_, ?_, ?_, ?_, trivial⟩
    · show ((nbe [k.toNat] : Nat) : Int) = k; rw [nbe_one]; omega
    · show ((nbe [p.toNat] : Nat) : Int) = p; rw [nbe_one]; omega
    · show ((nbe [x4, x5, x6, x7] : Nat) : Int) = b; rw [eb]; omega
    · show ((nbe [x8, x9, x10, x11] : Nat) : Int) = r; rw [er]; omega
    · show ((nbe [x12, x13, x14, x15] : Nat) : Int) = m; rw [em]; omega
    · show ((nbe [s.toNat] : Nat) : Int) = s; rw [nbe_one]; omega
    · show ((nbe [i.toNat] : Nat) : Int) = i; rw [nbe_one]; omega
    · show ((nbe [t.toNat] : Nat) : Int) = t; rw [nbe_one]; omega
    · show ((nbe [x19, x20, x21, x22] : Nat) : Int) = sm; rw [es]; omega
  · rw [hb]
    show nbe [x0, x1] = _
    exact e2
theorem cut_take (L : List Nat) (p n k : Nat) (h : p + n ≤ k) : cut (L.take k) p n = cut L p n := by
  unfold cut
  rw [List.drop_take, List.take_take, Nat.min_eq_left (by omega)]
/-- A note in form comes back from its bytes. -/
theorem get_put {n : Nt} (h : chk n = 0) (h0 : 0 ≤ n.sum) (h1 : n.sum < 4294967296) : getE (sealOf (body n)) = 0 ∧ getN (sealOf (body n)) = n := by
  have hn := chk_num h
  obtain ⟨r1, r2⟩ := read_body hn h0 h1
  have hl : (sealOf (body n)).length = 27 + n.data.size := by rw [sealOf_length, body_len]; omega
  have ht : (sealOf (body n)).take ((sealOf (body n)).length - 4) = body n := by
    rw [sealOf_length]
    unfold sealOf
    rw [show (body n).length + 4 - 4 = (body n).length by omega, List.take_left]
  have hg : Good (sealOf (body n)) := seal_good (body_small hn)
  have h2 : nbe (cut (sealOf (body n)) 0 2) = 27 + n.data.size := by
    have := cut_take (sealOf (body n)) 0 2 ((sealOf (body n)).length - 4) (by omega)
    rw [ht] at this
    rw [← this, r2]
  have e : getE (sealOf (body n)) = 0 := by
    unfold getE
    rw [if_neg (by omega), if_neg (fun h => h hg), if_neg (by omega), if_neg (by rw [h2, hl]; simp), ht, r1]
    exact h
  refine ⟨e, ?_⟩
  unfold getN
  rw [if_pos e, ht, r1]
theorem uncons {k : Nat} {L : List Nat} (h : k + 1 ≤ L.length) : ∃ x r, L = x :: r ∧ k ≤ r.length := by
  cases L with
  | nil => simp at h
  | cons x r => exact ⟨x, r, rfl, by simpa using h⟩
theorem small_list {L : List Nat} (h : 23 ≤ L.length) : ∃ x0 x1 x2 x3 x4 x5 x6 x7 x8 x9 x10 x11 x12 x13 x14 x15 x16 x17 x18 x19 x20 x21 x22 r, L = x0 :: x1 :: x2 :: x3 :: x4 :: x5 :: x6 :: x7 :: x8 :: x9 :: x10 :: x11 :: x12 :: x13 :: x14 :: x15 :: x16 :: x17 :: x18 :: x19 :: x20 :: x21 :: x22 :: r := by
  obtain ⟨x0, r0, rfl, h0⟩ := uncons h
  obtain ⟨x1, r1, rfl, h1⟩ := uncons h0
  obtain ⟨x2, r2, rfl, h2⟩ := uncons h1
  obtain ⟨x3, r3, rfl, h3⟩ := uncons h2
  obtain ⟨x4, r4, rfl, h4⟩ := uncons h3
  obtain ⟨x5, r5, rfl, h5⟩ := uncons h4
  obtain ⟨x6, r6, rfl, h6⟩ := uncons h5
  obtain ⟨x7, r7, rfl, h7⟩ := uncons h6
  obtain ⟨x8, r8, rfl, h8⟩ := uncons h7
  obtain ⟨x9, r9, rfl, h9⟩ := uncons h8
  obtain ⟨x10, r10, rfl, h10⟩ := uncons h9
  obtain ⟨x11, r11, rfl, h11⟩ := uncons h10
  obtain ⟨x12, r12, rfl, h12⟩ := uncons h11
  obtain ⟨x13, r13, rfl, h13⟩ := uncons h12
  obtain ⟨x14, r14, rfl, h14⟩ := uncons h13
  obtain ⟨x15, r15, rfl, h15⟩ := uncons h14
  obtain ⟨x16, r16, rfl, h16⟩ := uncons h15
  obtain ⟨x17, r17, rfl, h17⟩ := uncons h16
  obtain ⟨x18, r18, rfl, h18⟩ := uncons h17
  obtain ⟨x19, r19, rfl, h19⟩ := uncons h18
  obtain ⟨x20, r20, rfl, h20⟩ := uncons h19
  obtain ⟨x21, r21, rfl, h21⟩ := uncons h20
  obtain ⟨x22, r22, rfl, h22⟩ := uncons h21
  exact ⟨_, _, _, _, _, _, _, _, _, _, _, _, _, _, _, _, _, _, _, _, _, _, _, _, rfl⟩
theorem bytes_str {l : List Nat} (h : ∀ c ∈ l, c < 256) : bytesOf (str l) = l := by
  simp only [bytesOf, str, List.map_map]
  conv => rhs; rw [← List.map_id l]
  apply List.map_congr_left
  intro c hc
  have := h c hc
  simp
  omega
theorem body_read {L : List Nat} (h : 23 ≤ L.length) (hs : ∀ c ∈ L, c < 256) (h2 : nbe (cut L 0 2) = L.length + 4) : body (rdN L) = L := by
  obtain ⟨x0, x1, x2, x3, x4, x5, x6, x7, x8, x9, x10, x11, x12, x13, x14, x15, x16, x17, x18, x19, x20, x21, x22, r, rfl⟩ := small_list h
  simp only [List.mem_cons, forall_eq_or_imp] at hs
  obtain ⟨s0, s1, s2, s3, s4, s5, s6, s7, s8, s9, s10, s11, s12, s13, s14, s15, s16, s17, s18, s19, s20, s21, s22, sr⟩ := hs
  have hd : cut (x0 :: x1 :: x2 :: x3 :: x4 :: x5 :: x6 :: x7 :: x8 :: x9 :: x10 :: x11 :: x12 :: x13 :: x14 :: x15 :: x16 :: x17 :: x18 :: x19 :: x20 :: x21 :: x22 :: r) 23 ((x0 :: x1 :: x2 :: x3 :: x4 :: x5 :: x6 :: x7 :: x8 :: x9 :: x10 :: x11 :: x12 :: x13 :: x14 :: x15 :: x16 :: x17 :: x18 :: x19 :: x20 :: x21 :: x22 :: r).length - 23) = r := by
    show r.take _ = r
    exact List.take_of_length_le (by simp only [List.length_cons]; omega)
  have h2' : nbe [x0, x1] = 27 + r.length := by
    have : nbe [x0, x1] = (x0 :: x1 :: x2 :: x3 :: x4 :: x5 :: x6 :: x7 :: x8 :: x9 :: x10 :: x11 :: x12 :: x13 :: x14 :: x15 :: x16 :: x17 :: x18 :: x19 :: x20 :: x21 :: x22 :: r).length + 4 := h2
    rw [this]
    simp only [List.length_cons]
    omega
  unfold body rdN
  rw [hd]
  simp only
  rw [str_len, bytes_str sr, ← h2', be2_nbe s0 s1]
  show [x0, x1] ++ [((nbe [x2] : Nat) : Int).toNat] ++ [((nbe [x3] : Nat) : Int).toNat] ++ be ((nbe [x4, x5, x6, x7] : Nat) : Int).toNat 4 ++ be ((nbe [x8, x9, x10, x11] : Nat) : Int).toNat 4 ++ be ((nbe [x12, x13, x14, x15] : Nat) : Int).toNat 4 ++ [((nbe [x16] : Nat) : Int).toNat] ++ [((nbe [x17] : Nat) : Int).toNat] ++ [((nbe [x18] : Nat) : Int).toNat] ++ be ((nbe [x19, x20, x21, x22] : Nat) : Int).toNat 4 ++ r = _
  simp only [Int.toNat_natCast, nbe_one]
  rw [be4_nbe s4 s5 s6 s7, be4_nbe s8 s9 s10 s11, be4_nbe s12 s13 s14 s15, be4_nbe s19 s20 s21 s22]
  rfl
theorem good_seal {l : List Nat} {n : Nat} (hn : l.length = n) (h4 : 4 ≤ n) (hs : ∀ c ∈ l, c < 256) (h : Good l) : sealOf (l.take (n - 4)) = l := by
  subst hn
  unfold Good at h
  have e := num4_inj (l := l.drop (l.length - 4)) (by rw [List.length_drop]; omega) (fun c hc => hs c (List.mem_of_mem_drop hc)) h.symm
  unfold sealOf
  rw [← e, List.take_append_drop]
/-- What Get takes says: its length, its sum, its form. -/
theorem getE_ok {l : List Nat} (h : getE l = 0) : 27 ≤ l.length ∧ Good l ∧ nbe (cut l 0 2) = l.length ∧ chk (rdN (l.take (l.length - 4))) = 0 := by
  unfold getE at h
  by_cases h1 : l.length < 4
  · rw [if_pos h1] at h; exact absurd h (by decide)
  rw [if_neg h1] at h
  by_cases h2 : ¬ sumOf (l.take (l.length - 4)) = num4 (l.drop (l.length - 4))
  · rw [if_pos h2] at h; exact absurd h (by decide)
  rw [if_neg h2] at h
  by_cases h3 : l.length < 27
  · rw [if_pos h3] at h; exact absurd h (by decide)
  rw [if_neg h3] at h
  by_cases h4 : nbe (cut l 0 2) ≠ l.length
  · rw [if_pos h4] at h; exact absurd h (by decide)
  rw [if_neg h4] at h
  exact ⟨by omega, Classical.not_not.1 h2, Classical.not_not.1 h4, h⟩
/-- What Get takes is Put of what it answers. -/
theorem put_get {l : List Nat} (hs : ∀ c ∈ l, c < 256) (h : getE l = 0) : chk (getN l) = 0 ∧ sealOf (body (getN l)) = l := by
  obtain ⟨h1, h2, h3, h4⟩ := getE_ok h
  unfold getN
  rw [if_pos h]
  refine ⟨h4, ?_⟩
  have hl : (l.take (l.length - 4)).length = l.length - 4 := by rw [List.length_take]; omega
  rw [body_read (by omega) (fun c hc => hs c (List.mem_of_mem_take hc)) (by rw [cut_take _ _ _ _ (by omega), h3, hl]; omega)]
  exact good_seal rfl (by omega) hs h2
end Go.Proofs.YtdbciciljeainaaGreatDoor
