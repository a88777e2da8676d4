/-
  The words of numbers: the document's n-th word of a text.
-/
import Derived.Test.YtjlkddbmekibeaaDoorBase
import Derived.Laws.IdiomStrings
namespace Go.Proofs.YtjlkddbmekibeaaDoor
open Go.RowKit FerryCrc
set_option linter.unusedVariables false
set_option linter.unusedSimpArgs false

def str (l : List Nat) : ByteArray := ⟨(l.map UInt8.ofNat).toArray⟩
def bytesOf (s : ByteArray) : List Nat := s.data.toList.map (·.toNat)
theorem bytesOf_lt (s : ByteArray) : ∀ c ∈ bytesOf s, c < 256 := by
  intro c hc
  obtain ⟨x, _, rfl⟩ := List.mem_map.1 hc
  exact x.toNat_lt
theorem bytesOf_len (s : ByteArray) : (bytesOf s).length = s.size := by unfold bytesOf; rw [List.length_map]; rfl
theorem bytesOf_at {s : ByteArray} {k : Nat} (h : k < s.size) : (bytesOf s)[k]? = some (s[k].toNat) := by
  unfold bytesOf
  have h' : k < s.data.toList.length := h
  rw [List.getElem?_map, List.getElem?_eq_getElem h']
  rfl

/-- One byte on: at which word, and the bytes of the n-th. -/
def nst (n : Int) (p : Nat × List Nat) (c : Nat) : Nat × List Nat := if c = 32 then (p.1 + 1, p.2) else if (p.1 : Int) = n then (p.1, p.2 ++ [c]) else p
def nrun (n : Int) (l : List Nat) : Nat × List Nat := l.foldl (nst n) (0, [])
theorem nrun_snoc {n : Int} {l : List Nat} {k c : Nat} (h : l[k]? = some c) : nrun n (l.take (k + 1)) = nst n (nrun n (l.take k)) c := by
  have hk := (List.getElem?_eq_some_iff.1 h).1
  rw [List.take_succ_eq_append_getElem hk]
  unfold nrun
  rw [List.foldl_append]
  rw [(List.getElem?_eq_some_iff.1 h).2]
  rfl
theorem nrun_bound (n : Int) (l : List Nat) : (nrun n l).1 ≤ l.length ∧ (nrun n l).2.length ≤ l.length := by
  unfold nrun
  have : ∀ (l : List Nat) (p : Nat × List Nat), (l.foldl (nst n) p).1 ≤ p.1 + l.length ∧ (l.foldl (nst n) p).2.length ≤ p.2.length + l.length := by
    intro l
    induction l with
    | nil => intro p; simp
    | cons c t ih =>
      intro p
      have h := ih (nst n p c)
      have h2 : (nst n p c).1 ≤ p.1 + 1 ∧ (nst n p c).2.length ≤ p.2.length + 1 := by
        unfold nst
        split
        · simp
        · split <;> simp
      simp only [List.foldl_cons, List.length_cons]
      omega
  simpa using this l (0, [])
theorem nrun_lt (n : Int) (l : List Nat) (hl : ∀ c ∈ l, c < 256) : ∀ c ∈ (nrun n l).2, c < 256 := by
  unfold nrun
  have : ∀ (l : List Nat) (p : Nat × List Nat), (∀ c ∈ l, c < 256) → (∀ c ∈ p.2, c < 256) → ∀ c ∈ (l.foldl (nst n) p).2, c < 256 := by
    intro l
    induction l with
    | nil => intro p _ hp; exact hp
    | cons c t ih =>
      intro p hl hp
      refine ih (nst n p c) (fun x hx => hl x (by simp [hx])) ?_
      unfold nst
      split
      · exact hp
      · split
        · intro x hx
          rcases List.mem_append.1 hx with h | h
          · exact hp x h
          · rw [List.mem_singleton.1 h]
            exact hl c (by simp)
        · exact hp
  exact this l (0, []) hl (by simp)

/-- A slice of bytes of one's own as a string, whatever its form. -/
theorem own_string_any {w : World} {base : Nat} {v : Value} {L : List Nat} (h : Own w base v L) (hs : ∀ c ∈ L, c < 256) :
    (convert 27 9 v).run Tryd.prog w = .ok (.string (str L)) w := by
  rcases h.2 with ⟨rfl, hn⟩ | ⟨g, cap, cur, rfl, hg, hh, hnc, hcm, hcs, htake⟩
  · obtain rfl : L = [] := List.length_eq_zero_iff.1 hn
    exact run_convert_bytes_nil (P := Tryd.prog) w 27 5 Tryd.underlying27 Tryd.underlying5 0 0 9 Tryd.underlying9
  · have := run_convert_bytes_back (P := Tryd.prog) w 27 9 5 ⟨g, 0, none⟩ cap (L.map UInt8.ofNat) Tryd.underlying27 Tryd.underlying5 Tryd.underlying9 (fun j hj => by
      have hj' : j < L.length := by simpa using hj
      have hc := World.ownsRow.cellAt h j (by omega)
      rw [add_none, Nat.zero_add, hc]
      have hlt := hs L[j] (List.getElem_mem hj')
      simp [hj', bv]
      omega)
    rw [List.length_map] at this
    exact this
theorem bts_one (w : World) (c : Nat) (hc : c < 256) (t : TypeId) : Bts (w.alloc (.cells #[.int .u8 (c : Int)] t)) (some ⟨w.heap.size, 0, none⟩) 1 1 [c] := by
  refine ⟨rfl, by decide, by decide, fun x hx => by rw [List.mem_singleton.1 hx]; exact hc, fun e => by simp at e, fun k hk => ?_⟩
  obtain rfl : k = 0 := by omega
  refine ⟨_, _, rfl, c, rfl, ?_⟩
  rw [World.cell?_alloc_at _ _ _ _ rfl]
  rfl
theorem own_alloc {w : World} {base : Nat} {v : Value} {l : List Nat} (h : Own w base v l) (o : Obj) : Own (w.alloc o) base v l := by
  refine ⟨h.1, ?_⟩
  rcases h.2 with e | ⟨g, cap, cur, e, hg, hh, r⟩
  · exact .inl e
  · refine .inr ⟨g, cap, cur, e, hg, ?_, r⟩
    rw [((Below.refl w.heap.size w).alloc (Nat.le_refl _) o).block g (Array.getElem?_eq_some_iff.1 hh).1]
    exact hh

set_option maxRecDepth 100000 in
set_option maxHeartbeats 4000000 in
theorem nth_any (S : ByteArray) (n : Int) (w : World) (hm : S.size ≤ 1000000) :
    Calls Tryd.prog 8 #[.string S, .int .i64 n] w fun e w' => e = .returned (.string (str (nrun n (bytesOf S)).2)) ∧ Below w.heap.size w w' := by
  obtain ⟨m, hsz⟩ : ∃ m, S.size = m := ⟨_, rfl⟩
  have HLT := hide (bytesOf_lt S)
  have HLN := hide (bytesOf_len S)
  rw [hsz] at hm HLN
  go_enter Tryd.func8, Tryd.ntmps8
  go_wp2
  go_loopw [5, 6, 7] (fun v a i wr => ∃ k : Nat, k ≤ m ∧ i = .int .i64 (k : Int) ∧ a = .int .i64 ((nrun n ((bytesOf S).take k)).1 : Int) ∧ Hid (Own wr w.heap.size v (nrun n ((bytesOf S).take k)).2) ∧ Hid (Below w.heap.size w wr)) (fun _ _ i _ => m - (intOf i).toNat)
  case atStart => exact ⟨0, by omega, rfl, rfl, show Own _ _ _ [] from own_empty w, (Below.refl _ _).alloc (Nat.le_refl _) _⟩
  case round =>
    obtain ⟨k, hk, rfl, rfl, hown, hb⟩ := hrel
    have hbd := nrun_bound n ((bytesOf S).take k)
    have hlk : ((bytesOf S).take k).length ≤ k := List.length_take_le _ _
    by_cases hlt : k < m
    · have hks : k < S.size := by omega
      have hst := nrun_snoc (n := n) (bytesOf_at hks)
      have HST := hide hst
      obtain ⟨c, hc, hc256⟩ : ∃ c : Nat, S[k].toNat = c ∧ c < 256 := ⟨_, rfl, S[k].toNat_lt⟩
      have hci : (S[k].toNat : Int) = (c : Int) := by rw [hc]
      rw [hc] at HST
      clear hst
      obtain ⟨⟨p, L⟩, hp⟩ : ∃ q, nrun n ((bytesOf S).take k) = q := ⟨_, rfl⟩
      rw [hp] at HST hown hbd ⊢
      simp only at hown hbd ⊢
      have HOWN := hown
      have HB := hb
      clear hp hown hb
      by_cases h32 : c = 32
      · have HST2 : Hid (nrun n ((bytesOf S).take (k + 1)) = (p + 1, L)) := by unfold Hid; rw [HST.out]; unfold nst; rw [if_pos h32]
        subst h32
        go_wp2
        go_roundw
        case rel => exact ⟨k + 1, by omega, by go_num, by rw [HST2.out]; go_num, by rw [HST2.out]; exact HOWN, HB⟩
        case measure => simp [intOf]; omega
      · have h32' : ((c : Int) == 32) = false := by simp; omega
        by_cases hpn : (p : Int) = n
        · have HST2 : Hid (nrun n ((bytesOf S).take (k + 1)) = (p, L ++ [c])) := by unfold Hid; rw [HST.out]; unfold nst; rw [if_neg h32, if_pos hpn]
          have hpn' : ((p : Int) == n) = true := by simpa using hpn
          clear hpn
          have HO2 := hide (own_alloc HOWN.out (.cells #[.int .u8 (c : Int)] 5))
          have HBT := hide (bts_one wr c hc256 5)
          have HSZ : Hid (w.heap.size ≤ (wr.alloc (.cells #[.int .u8 (c : Int)] 5)).heap.size) := by have := HB.out.size; unfold Hid; simp; omega
          have HB2 := hide (HB.out.alloc HB.out.size (.cells #[.int .u8 (c : Int)] 5))
          go_wp2_with (refine append_bts rfl (.tmp 24) (.tmp 28) rfl w.heap.size _ L rfl HO2.out _ 1 1 [c] rfl HBT.out (by omega) HSZ.out ?_)
          rintro v' w' ho hg _
          go_wp2
          go_roundw
          case rel => exact ⟨k + 1, by omega, by go_num, by rw [HST2.out], by rw [HST2.out]; exact ho, HB2.out.grown hg HSZ.out (fun j e => (World.ownsRow.lt HO2.out j e).1)⟩
          case measure => simp [intOf]; omega
        · have HST2 : Hid (nrun n ((bytesOf S).take (k + 1)) = (p, L)) := by unfold Hid; rw [HST.out]; unfold nst; rw [if_neg h32, if_neg hpn]
          have hpn' : ((p : Int) == n) = false := by simpa using hpn
          clear hpn
          go_wp2
          go_roundw
          case rel => exact ⟨k + 1, by omega, by go_num, by rw [HST2.out], by rw [HST2.out]; exact HOWN, HB⟩
          case measure => simp [intOf]; omega
    · have hkm : k = m := by omega
      have hall : (bytesOf S).take k = bytesOf S := List.take_of_length_le (by rw [HLN.out]; omega)
      rw [hall] at hown ⊢
      have hconv := own_string_any hown.out (nrun_lt n _ HLT.out)
      clear hbd
      go_wp2
      go_ret
      exact ⟨rfl, hb.out⟩
end Go.Proofs.YtjlkddbmekibeaaDoor
