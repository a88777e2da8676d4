/-
  What a letter under way may look like: near.
-/
import Derived.Test.YtgnkmenjjmfcfaaDoorLkApp
import Derived.Test.YtgnkmenjjmfcfaaDoorTurnW
namespace Go.Proofs.YtgnkmenjjmfcfaaDoor
open Go.RowKit FerryCrc
set_option linter.unusedVariables false
set_option linter.unusedSimpArgs false

/-- Do the bits at q differ? -/
def dB (l r : List Nat) (q : Nat) : Bool := ((l[q / 8]?.getD 0) ^^^ (r[q / 8]?.getD 0)).testBit (q % 8)
theorem nb_bit {l : List Nat} (h : ∀ c ∈ l, c < 256) (i j : Nat) (hj : j < 8) : (num l).testBit (8 * i + j) = (l[i]?.getD 0).testBit j := by
  induction l generalizing i with
  | nil => simp [num]
  | cons c l ih =>
    have hc : c < 256 := h c (by simp)
    rw [num, Nat.testBit_xor, Nat.testBit_shiftLeft]
    cases i with
    | zero =>
      have : ¬ (8 ≤ j) := by omega
      simp [this]
    | succ i =>
      rw [Nat.testBit_lt_two_pow (Nat.lt_of_lt_of_le (show c < 2 ^ 8 from hc) (Nat.pow_le_pow_right (by decide) (by omega)))]
      have e : 8 * (i + 1) + j - 8 = 8 * i + j := by omega
      rw [e, ih (fun c hc => h c (by simp [hc]))]
      have : 8 ≤ 8 * (i + 1) + j := by omega
      simp [this]
theorem dB_num {l r : List Nat} (hl : ∀ c ∈ l, c < 256) (hr : ∀ c ∈ r, c < 256) (q : Nat) : dB l r q = (num l ^^^ num r).testBit q := by
  have h8 : q % 8 < 8 := Nat.mod_lt _ (by decide)
  have e : q = 8 * (q / 8) + q % 8 := by omega
  have h1 := nb_bit hl (q / 8) (q % 8) h8
  have h2 := nb_bit hr (q / 8) (q % 8) h8
  rw [← e] at h1 h2
  rw [Nat.testBit_xor, h1, h2]
  unfold dB
  rw [Nat.testBit_xor]
/-- What a letter under way is: as it was sent, or a strict beginning of it, or with one burst turned. -/
def Nr (l r : List Nat) (sp : Bool) : Prop := (sp = false ∧ l = r) ∨ (sp = true ∧ r.length < l.length ∧ r = l.take r.length) ∨
  (sp = true ∧ r.length = l.length ∧ ∃ p, (∃ q, q < 8 * r.length ∧ dB l r q = true) ∧ ∀ q, q < 8 * r.length → dB l r q = true → p ≤ q ∧ q ≤ p + 31)
theorem lenOf_bit {m : Nat} (h0 : m ≠ 0) : ∃ i, i < lenOf m ∧ m.testBit i = true := by
  refine ⟨Nat.log2 m, ?_, Nat.testBit_log2 h0⟩
  unfold lenOf
  rw [if_neg h0]
  omega
theorem nr_turn {l : List Nat} {pos mask len : Nat} (hl : l.length = len) (hs : ∀ c ∈ l, c < 256) (h0 : mask ≠ 0) (hm : mask < 4294967296) (hfit : pos + lenOf mask ≤ 8 * len) : Nr l (turnTo l pos mask 32) true := by
  have hn : num (turnTo l pos mask 32) = num l ^^^ (mask <<< pos) := by
    rw [num_turnTo l pos mask 32, Nat.mod_eq_of_lt (show mask < 2 ^ 32 from hm)]
    intro i _ hb
    have : i < lenOf mask := by
      apply Classical.byContradiction
      intro hn
      rw [Nat.testBit_lt_two_pow (Nat.lt_of_lt_of_le (lenOf_spec mask) (Nat.pow_le_pow_right (by decide) (by omega)))] at hb
      simp at hb
    omega
  have hd : ∀ q, dB l (turnTo l pos mask 32) q = (decide (pos ≤ q) && mask.testBit (q - pos)) := by
    intro q
    rw [dB_num hs (turnTo_small _ _ _ hs), hn, ← Nat.xor_assoc, Nat.xor_self, Nat.zero_xor, Nat.testBit_shiftLeft]
  have hlen : (turnTo l pos mask 32).length = l.length := turnTo_length _ _ _ _
  refine .inr (.inr ⟨rfl, hlen, pos, ?_, ?_⟩)
  · obtain ⟨i, hi, hb⟩ := lenOf_bit h0
    refine ⟨pos + i, by rw [hlen]; omega, ?_⟩
    rw [hd, Nat.add_sub_cancel_left, hb]
    simp
  · intro q _ hq
    rw [hd] at hq
    simp only [Bool.and_eq_true, decide_eq_true_eq] at hq
    refine ⟨hq.1, ?_⟩
    have : q - pos < 32 := by
      apply Classical.byContradiction
      intro hn
      rw [Nat.testBit_lt_two_pow (Nat.lt_of_lt_of_le (show mask < 2 ^ 32 from hm) (Nat.pow_le_pow_right (by decide) (by omega)))] at hq
      cases hq.2
    omega
theorem nr_trim {l : List Nat} {k : Nat} (hk : k < l.length) : Nr l (l.take k) true := by
  have e : (l.take k).length = k := by rw [List.length_take]; omega
  exact .inr (.inl ⟨rfl, by rw [e]; exact hk, by rw [e]⟩)
theorem nr_ne {l r : List Nat} {sp : Bool} (h : Nr l r sp) : (sp = false → l = r) ∧ (sp = true → l ≠ r) := by
  rcases h with ⟨h1, h2⟩ | ⟨h1, h2, -⟩ | ⟨h1, h2, p, ⟨q, hq, hd⟩, -⟩
  · exact ⟨fun _ => h2, fun e => by rw [h1] at e; cases e⟩
  · exact ⟨fun e => (by rw [h1] at e; cases e), fun _ e => (by rw [e] at h2; omega)⟩
  · refine ⟨fun e => (by rw [h1] at e; cases e), fun _ e => ?_⟩
    subst e
    unfold dB at hd
    rw [Nat.xor_self, Nat.zero_testBit] at hd
    cases hd
theorem nstr_at {S : ByteArray} {k : Nat} (hks : k < S.size) : (bytesOf S)[k]? = some S[k].toNat := by
  unfold bytesOf
  rw [List.getElem?_map, Array.getElem?_toList]
  have h2 : S.data[k]? = some S[k] := Array.getElem?_eq_getElem hks
  rw [h2]
  rfl
/-- What near has found among the first k bits. -/
def Fnd (l r : List Nat) (k : Nat) (f la : Int) : Prop := (f = -1 ∧ la = -1 ∧ ∀ q, q < k → dB l r q = false) ∨ ∃ a b : Nat, f = (a : Int) ∧ la = (b : Int) ∧ a ≤ b ∧ b < k ∧ dB l r a = true ∧ dB l r b = true ∧ ∀ q, q < k → dB l r q = true → a ≤ q ∧ q ≤ b
theorem Fnd.no {l r : List Nat} {k : Nat} {f la : Int} (h : Fnd l r k f la) (hd : dB l r k = false) : Fnd l r (k + 1) f la := by
  rcases h with ⟨h1, h2, h3⟩ | ⟨a, b, h1, h2, h3, h4, h5, h6, h7⟩
  · refine .inl ⟨h1, h2, fun q hq => ?_⟩
    by_cases e : q = k
    · subst e; exact hd
    · exact h3 q (by omega)
  · refine .inr ⟨a, b, h1, h2, h3, by omega, h5, h6, fun q hq hb => ?_⟩
    by_cases e : q = k
    · subst e; rw [hd] at hb; cases hb
    · exact h7 q (by omega) hb
theorem Fnd.first {l r : List Nat} {k : Nat} {f la : Int} (h : Fnd l r k f la) (hf : f < 0) (hd : dB l r k = true) : Fnd l r (k + 1) (k : Int) (k : Int) := by
  rcases h with ⟨h1, h2, h3⟩ | ⟨a, b, h1, h2, h3, h4, h5, h6, h7⟩
  · exact .inr ⟨k, k, rfl, rfl, Nat.le_refl _, by omega, hd, hd, fun q hq hb => by
      by_cases e : q = k
      · omega
      · rw [h3 q (by omega)] at hb; cases hb⟩
  · omega
theorem Fnd.more {l r : List Nat} {k : Nat} {f la : Int} (h : Fnd l r k f la) (hf : ¬ f < 0) (hd : dB l r k = true) : Fnd l r (k + 1) f (k : Int) := by
  rcases h with ⟨h1, h2, h3⟩ | ⟨a, b, h1, h2, h3, h4, h5, h6, h7⟩
  · omega
  · exact .inr ⟨a, k, h1, rfl, by omega, by omega, h5, hd, fun q hq hb => by
      by_cases e : q = k
      · omega
      · have := h7 q (by omega) hb
        omega⟩
theorem u8_bit {x y p : Nat} (hx : x < 256) (hy : y < 256) : bits .and .u8 (bits .xor .u8 (x : Int) (y : Int) / 2 ^ (p % 8)) 1 = (((x ^^^ y).testBit (p % 8)).toNat : Int) := by
  rw [u8_xor_nat x y hx hy]
  have hz : x ^^^ y < 2 ^ 8 := Nat.xor_lt_two_pow hx hy
  generalize x ^^^ y = z at hz
  have e : ((z : Int) / 2 ^ (p % 8)) = ((z / 2 ^ (p % 8) : Nat) : Int) := by simp
  have hlt : z / 2 ^ (p % 8) < 256 := Nat.lt_of_le_of_lt (Nat.div_le_self _ _) hz
  rw [e]
  have := u8_and_nat (z / 2 ^ (p % 8)) 1 hlt (by decide)
  rw [Nat.and_one_is_mod] at this
  rw [show (1 : Int) = ((1 : Nat) : Int) from rfl, this, Nat.testBit_eq_decide_div_mod_eq]
  rcases Nat.mod_two_eq_zero_or_one (z / 2 ^ (p % 8)) with h | h <;> simp [h]
theorem bytes_inj {a b : ByteArray} (h : bytesOf a = bytesOf b) : a = b := by rw [← str_bytesOf a, ← str_bytesOf b, h]
theorem bytes_take {s r : ByteArray} (h : bytesOf r = (bytesOf s).take (bytesOf r).length) : s.extract 0 r.size = r := by
  apply bytes_inj
  rw [h, bytesOf_len]
  unfold bytesOf
  rw [ByteArray.data_extract, Array.toList_extract, List.extract_eq_take_drop]
  simp
set_option maxRecDepth 100000 in
set_option maxHeartbeats 2000000 in
theorem near_any (s r : ByteArray) (sp : Bool) (h : Nr (bytesOf s) (bytesOf r) sp) (hs : s.size ≤ 4096) (hr : r.size ≤ 4096) (w : World) :
    Calls Tryd.prog 15 #[.string s, .string r, .bool sp] w fun e w' => e = .returned (.bool true) ∧ Below w.heap.size w w' := by
  rcases h with ⟨rfl, h⟩ | ⟨rfl, h2, h⟩ | ⟨rfl, h2, h⟩
  · obtain rfl := bytes_inj h
    go_enter Tryd.func15, Tryd.ntmps15
    go_wp2
    go_ret
    exact ⟨rfl, Below.refl _ _⟩
  · have he := bytes_take h
    rw [bytesOf_len, bytesOf_len] at h2
    have h3 : (r.size : Int) < (s.size : Int) := by omega
    have h4 : (r.size : Int) ≤ (s.size : Int) := by omega
    have h5 : ¬ (r.size : Int) < 0 := by omega
    go_enter Tryd.func15, Tryd.ntmps15
    go_upto_region 4 with fail
    go_wp2
    go_ret
    exact ⟨rfl, Below.refl _ _⟩
  · have HN := hide h
    clear h
    rw [bytesOf_len, bytesOf_len] at h2
    have h3 : ¬ (r.size : Int) < (s.size : Int) := by omega
    have h4 : ((r.size : Int) != (s.size : Int)) = false := by rw [h2]; simp
    go_enter Tryd.func15, Tryd.ntmps15
    go_upto_region 9 with fail
    go_loopw [7, 8, 9] (fun f la k wr => ∃ i : Nat, k = .int .i64 (i : Int) ∧ i ≤ 8 * r.size ∧ (∃ F G : Int, f = .int .i64 F ∧ la = .int .i64 G ∧ Hid (Fnd (bytesOf s) (bytesOf r) i F G)) ∧ Hid (Below w.heap.size w wr)) (fun _ _ k _ => 8 * r.size - (intOf k).toNat)
    case atStart =>
      exact ⟨0, rfl, Nat.zero_le _, ⟨-1, -1, rfl, rfl, .inl ⟨rfl, rfl, fun q hq => absurd hq (Nat.not_lt_zero q)⟩⟩, Below.refl _ _⟩
    case round =>
    obtain ⟨i, rfl, hi, ⟨F, G, rfl, rfl, HF⟩, HB⟩ := hrel
    by_cases hlt : i < 8 * r.size
    · have k1 : (i : Int) < 8 * (r.size : Int) := by omega
      obtain ⟨q, hq⟩ : ∃ q, q = i / 8 := ⟨_, rfl⟩
      obtain ⟨m, hm⟩ : ∃ m, m = i % 8 := ⟨_, rfl⟩
      have k2 : q < r.size := by omega
      have k3 : q < s.size := by omega
      have e1 : (i : Int) / 8 = (q : Int) := by omega
      have e2 : (i : Int) % 8 = (m : Int) := by omega
      have k4 : ¬ (q : Int) < 0 := by omega
      have k5 : ¬ (m : Int) < 0 := by omega
      have HD : Hid (dB (bytesOf s) (bytesOf r) i = (r[q].toNat ^^^ s[q].toNat).testBit m) := by
        unfold Hid dB
        rw [← hq, ← hm, nstr_at k2, nstr_at k3, Option.getD_some, Option.getD_some, Nat.xor_comm]
      have HM2 : Hid ((2 : Int) ^ (i % 8) = 2 ^ m) := by unfold Hid; rw [hm]
      have hx := u8_bit (x := r[q].toNat) (y := s[q].toNat) (p := i) (by exact r[q].toNat_lt) (by exact s[q].toNat_lt)
      rw [HM2.out, ← hm, ← HD.out] at hx
      clear hq hm
      have HB1 : Hid (Below w.heap.size w wr.drew) := HB.out.drew
      cases hdb : dB (bytesOf s) (bytesOf r) i with
      | false =>
        rw [hdb] at hx
        have hv : (bits .and .u8 (bits .xor .u8 (r[q].toNat : Int) (s[q].toNat : Int) / 2 ^ m) 1 == 1) = false := by rw [hx]; rfl
        have HF1 := hide (HF.out.no hdb)
        clear hx hdb HF HD
        go_upto_region 11 with fail
        go_region
        go_wp2
        exact ⟨⟨i + 1, by simp, by omega, ⟨F, G, rfl, rfl, HF1.out⟩, HB1.out⟩, by simp [intOf]; omega⟩
      | true =>
        rw [hdb] at hx
        have hv : (bits .and .u8 (bits .xor .u8 (r[q].toNat : Int) (s[q].toNat : Int) / 2 ^ m) 1 == 1) = true := by rw [hx]; rfl
        by_cases hF : F < 0
        · have HF1 := hide (HF.out.first hF hdb)
          clear hx hdb HF HD
          go_upto_region 11 with fail
          go_region
          go_wp2
          exact ⟨⟨i + 1, by simp, by omega, ⟨_, _, rfl, rfl, HF1.out⟩, HB1.out⟩, by simp [intOf]; omega⟩
        · have HF1 := hide (HF.out.more hF hdb)
          clear hx hdb HF HD
          go_upto_region 11 with fail
          go_region
          go_wp2
          exact ⟨⟨i + 1, by simp, by omega, ⟨_, _, rfl, rfl, HF1.out⟩, HB1.out⟩, by simp [intOf]; omega⟩
    · have k1 : ¬ (i : Int) < 8 * (r.size : Int) := by omega
      obtain rfl : i = 8 * r.size := by omega
      have HQ : Hid (0 ≤ F ∧ G - F ≤ 31) := by
        obtain ⟨p, ⟨q, hq, hd⟩, hall⟩ := HN.out
        rw [bytesOf_len] at hq hall
        rcases HF.out with ⟨-, -, h3⟩ | ⟨a, b, rfl, rfl, h3, h4, h5, h6, h7⟩
        · rw [h3 q hq] at hd; cases hd
        · have h8 := hall a (by omega) h5
          have h9 := hall b (by omega) h6
          unfold Hid; omega
      have q1 : (0 : Int) ≤ F := HQ.out.1
      have q2 : G - F ≤ 31 := HQ.out.2
      have q3 : wrap64 (G - F) = G - F := by
        rcases HF.out with ⟨h1, h2, -⟩ | ⟨a, b, h1, h2, h3, h4, -⟩ <;> (unfold wrap64; omega)
      go_wp2
      go_ret
      exact ⟨rfl, HB.out⟩
end Go.Proofs.YtgnkmenjjmfcfaaDoor
