/-
  Walks of the program's putLow and getLow: four bytes, the lowest first.
-/
import Derived.Test.YtdbciciljeainaaGreatDoorMem
namespace FerryCrc

def le4 (n : Nat) : List Nat := [n % 256, n / 256 % 256, n / 65536 % 256, n / 16777216 % 256]
def num4 (l : List Nat) : Nat := l[0]?.getD 0 + 256 * l[1]?.getD 0 + 65536 * l[2]?.getD 0 + 16777216 * l[3]?.getD 0
theorem le4_small (n : Nat) : ∀ c ∈ le4 n, c < 256 := by
  intro c hc
  simp [le4] at hc
  omega
theorem num4_le4 {n : Nat} (h : n < 4294967296) : num4 (le4 n) = n := by
  simp [num4, le4]
  omega
theorem num4_inj {l : List Nat} {n : Nat} (hl : l.length = 4) (hs : ∀ c ∈ l, c < 256) (h : num4 l = n) : l = le4 n := by
  match l, hl with
  | [a, b, c, d], _ =>
    simp at hs
    simp [num4] at h
    simp [le4]
    omega

/-- The bytes with n's lowest k bytes laid over them from place off on. -/
def lowTo (L : List Nat) (off n : Nat) : Nat → List Nat
  | 0 => L
  | k + 1 => (lowTo L off n k).set (off + k) (n / 2 ^ (8 * k) % 256)
theorem lowTo_length (L : List Nat) (off n k : Nat) : (lowTo L off n k).length = L.length := by
  induction k with
  | zero => rfl
  | succ k ih => simp [lowTo, ih]
theorem lowTo_four (A B : List Nat) (x0 x1 x2 x3 n : Nat) : lowTo (A ++ ([x0, x1, x2, x3] ++ B)) A.length n 4 = A ++ (le4 n ++ B) := by
  simp [lowTo, le4]

end FerryCrc
namespace Go.Proofs.YtdbciciljeainaaGreatDoor
open Go.RowKit FerryCrc

theorem Own.cellAt {w : World} {base g N c : Nat} {L : List Nat} (h : Own w base (.slice (some ⟨g, 0, none⟩) N c) L) (hL : L.length = N) (j x : Nat) (hx : L[j]? = some x) : w.cell? ⟨g, j, none⟩ = some (.int .u8 (x : Int)) := by
  subst hL
  have hj : j < L.length := (List.getElem?_eq_some_iff.1 hx).1
  have := World.ownsRow.cellAt h j (by omega)
  rw [this]
  simp [hx, bv]
theorem Own.frozenAt {w : World} {base g N c : Nat} {L : List Nat} (h : Own w base (.slice (some ⟨g, 0, none⟩) N c) L) (hL : L.length = N) (j : Nat) : w.frozen? ⟨g, j, none⟩ = false := by
  subst hL
  exact World.ownsRow.frozenAt h j
theorem Own.stored {w : World} {base g N c : Nat} {L : List Nat} (h : Own w base (.slice (some ⟨g, 0, none⟩) N c) L) (hL : L.length = N) (j x : Nat) : Own (w.setCell ⟨g, j, none⟩ (.int .u8 (x : Int))) base (.slice (some ⟨g, 0, none⟩) N c) (L.set j x) := by
  subst hL
  unfold Own
  rw [List.length_set, List.map_set]
  exact (World.ownsRow.stored h j (bv x)).1
theorem Own.below {w w' : World} {base : Nat} {v : Value} {L : List Nat} (h : Own w base v L) (hb : Below w.heap.size w w') : Own w' base v L := by
  refine ⟨h.1, ?_⟩
  rcases h.2 with e | ⟨g, cap, cur, e, hg, hh, r⟩
  · exact .inl e
  · refine .inr ⟨g, cap, cur, e, hg, ?_, r⟩
    rw [hb.block g (Array.getElem?_eq_some_iff.1 hh).1]
    exact hh
theorem Own.drew {w : World} {base : Nat} {v : Value} {L : List Nat} (h : Own w base v L) : Own w.drew base v L := h
theorem Bts.drew {w : World} {a : Option Addr} {len cap : Nat} {l : List Nat} (h : Bts w a len cap l) : Bts w.drew a len cap l := ⟨h.size, h.most, h.fit, h.small, h.null, h.cell⟩
theorem Own.baseLe {w : World} {base g N c : Nat} {L : List Nat} (h : Own w base (.slice (some ⟨g, 0, none⟩) N c) L) : base ≤ g := (World.ownsRow.lt h g rfl).1

theorem low_val (n k : Nat) : ((n : Int) / 2 ^ (8 * k) % 256) = ((n / 2 ^ (8 * k) % 256 : Nat) : Int) := by simp

theorem or_part {n c : Nat} (k : Nat) (hn : n < 2 ^ k) (hn2 : n < 4294967296) (hc : 2 ^ k * c < 4294967296) : bits .or .u32 (n : Int) ((2 ^ k * c : Nat) : Int) = ((n + 2 ^ k * c : Nat) : Int) := by
  rw [u32_or_nat n (2 ^ k * c) hn2 hc, Nat.or_comm, ← Nat.two_pow_add_eq_or_of_lt hn, Nat.add_comm]
theorem or_four {c0 c1 c2 c3 : Nat} (b0 : c0 < 256) (b1 : c1 < 256) (b2 : c2 < 256) (b3 : c3 < 256) :
    bits .or .u32 (bits .or .u32 (bits .or .u32 (bits .or .u32 0 (c0 : Int)) ((c1 : Int) * 256)) ((c2 : Int) * 65536)) ((c3 : Int) * 16777216) = ((c0 + 256 * c1 + 65536 * c2 + 16777216 * c3 : Nat) : Int) := by
  have e0 : bits .or .u32 0 (c0 : Int) = (c0 : Int) := by
    have := u32_or_nat 0 c0 (by decide) (by omega)
    simpa using this
  have e1 : ((c1 : Int) * 256) = ((2 ^ 8 * c1 : Nat) : Int) := by omega
  have e2 : ((c2 : Int) * 65536) = ((2 ^ 16 * c2 : Nat) : Int) := by omega
  have e3 : ((c3 : Int) * 16777216) = ((2 ^ 24 * c3 : Nat) : Int) := by omega
  rw [e0, e1, or_part 8 (by omega) (by omega) (by omega), e2, or_part 16 (by omega) (by omega) (by omega), e3, or_part 24 (by omega) (by omega) (by omega)]

set_option maxRecDepth 100000 in
theorem putLow_any (base g N c off j n : Nat) (L : List Nat) (w : World) (hown : Own w base (.slice (some ⟨g, 0, none⟩) N c) L) (hL : L.length = N) (hoff : off + 4 ≤ N) :
    Calls Tryz.prog 66 #[.slice (some ⟨g, off, none⟩) 4 j, .int .u32 (n : Int)] w fun e w' => e = .returned (.tuple #[]) ∧ Own w' base (.slice (some ⟨g, 0, none⟩) N c) (lowTo L off n 4) ∧ Below base w w' := by
  have hg := hown.baseLe
  go_enter Tryz.func66, Tryz.ntmps66
  go_wp2
  go_loopw [5] (fun i wr => ∃ k : Nat, k ≤ 4 ∧ i = .int .i64 k ∧ Own wr base (.slice (some ⟨g, 0, none⟩) N c) (lowTo L off n k) ∧ Below base w wr) (fun i _ => 4 - (intOf i).toNat)
  case atStart => exact ⟨0, by omega, rfl, hown, Below.refl _ _⟩
  case round =>
    obtain ⟨k, hk, rfl, hownk, hb⟩ := hrel
    have hlen : (lowTo L off n k).length = N := by rw [lowTo_length, hL]
    by_cases hlt : k < 4
    · have HT : Hid (lowTo L off n (k + 1) = (lowTo L off n k).set (off + k) (n / 2 ^ (8 * k) % 256)) := rfl
      generalize lowTo L off n k = t at *
      obtain ⟨x, hx⟩ : ∃ x, t[off + k]? = some x := ⟨_, List.getElem?_eq_getElem (by omega)⟩
      have hcell := hownk.cellAt hlen (off + k) x hx
      have hfro := hownk.frozenAt hlen (off + k)
      have HS := hide (hownk.stored hlen (off + k) (n / 2 ^ (8 * k) % 256))
      clear hx hownk
      go_wp2
      go_roundw
      case rel => exact ⟨k + 1, by omega, by go_num, by rw [HT.out]; first | exact HS.out | (rw [low_val]; exact HS.out), hb.setCell hg _⟩
      case measure => simp [intOf]; omega
    · have hk4 : k = 4 := by omega
      subst hk4
      go_wp2
      go_end0
      exact ⟨rfl, hownk, hb⟩

set_option maxRecDepth 100000 in
theorem getLow_any (a : Option Addr) (cap : Nat) (l : List Nat) (w : World) (hs : Bts w a 4 cap l) :
    Calls Tryz.prog 68 #[.slice a 4 cap] w fun e w' => e = .returned (.int .u32 (num4 l : Nat)) ∧ w = w' := by
  obtain ⟨b, off, rfl, c0, h0, k0⟩ := hs.cell 0 (by decide)
  obtain ⟨b', off', e, c1, h1, k1⟩ := hs.cell 1 (by decide)
  simp only [Option.some.injEq, Addr.mk.injEq, and_true] at e
  obtain ⟨rfl, rfl⟩ := e
  obtain ⟨b', off', e, c2, h2, k2⟩ := hs.cell 2 (by decide)
  simp only [Option.some.injEq, Addr.mk.injEq, and_true] at e
  obtain ⟨rfl, rfl⟩ := e
  obtain ⟨b', off', e, c3, h3, k3⟩ := hs.cell 3 (by decide)
  simp only [Option.some.injEq, Addr.mk.injEq, and_true] at e
  obtain ⟨rfl, rfl⟩ := e
  have b0 := hs.small c0 (List.mem_of_getElem? h0)
  have b1 := hs.small c1 (List.mem_of_getElem? h1)
  have b2 := hs.small c2 (List.mem_of_getElem? h2)
  have b3 := hs.small c3 (List.mem_of_getElem? h3)
  have HV : Hid (num4 l = c0 + 256 * c1 + 65536 * c2 + 16777216 * c3) := by unfold Hid; simp [num4, h0, h1, h2, h3]
  simp only [Nat.add_zero] at k0
  clear h0 h1 h2 h3 hs
  go_enter Tryz.func68, Tryz.ntmps68
  go_wp2
  refine wp_loop_rounds 5 ?_
  rw [rounds_succ]
  go_wp2
  rw [rounds_succ]
  go_wp2
  rw [rounds_succ]
  go_wp2
  rw [rounds_succ]
  go_wp2
  rw [rounds_succ]
  go_wp2
  go_ret
  exact ⟨ret_int (by rw [HV.out, or_four b0 b1 b2 b3]), rfl⟩
end Go.Proofs.YtdbciciljeainaaGreatDoor
