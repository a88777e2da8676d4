/-
  The program's put: a number laid down in pages of one's own.
-/
import Derived.Test.YtbekdbgnpcbklaaDoorPgCopy
namespace Go.Proofs.YtbekdbgnpcbklaaDoor
open Go.RowKit FerryCrc
set_option linter.unusedVariables false

/-- Is the address one of the s from n on? -/
def inR (n s a : Nat) : Bool := decide (n ≤ a ∧ a < n + s)
/-- The byte of the number v of s bytes at n that lies at the address. -/
def byt (v s n a : Nat) : Nat := v / 256 ^ (s - 1 - (a - n)) % 256
def isQ (k q : Nat) : Bool := q == k
theorem inR_zero (n a : Nat) : inR n 0 a = false := decide_eq_false (show ¬ (n ≤ a ∧ a < n + 0) by omega)
theorem inR_succ (n k a : Nat) : inR n (k + 1) a = (inR n k a || a == n + k) := by
  rw [Bool.eq_iff_iff]
  simp only [inR, decide_eq_true_eq, Bool.or_eq_true, beq_iff_eq]
  omega
theorem byt_lt (v s n a : Nat) : byt v s n a < 256 := Nat.mod_lt _ (by decide)

theorem POwn.cellOf {w : World} {base g n cap : Nat} {L : List Pg} (ho : POwn w base (.slice (some ⟨g, 0, none⟩) n cap) L) (hn : L.length = n) (ok : Oks L) {q j : Nat} {p : Pg} (hp : L[q]? = some p) (hj : j < 66) :
    w.cell? ⟨g, q * 66 + j, none⟩ = p.cells[j]? ∧ w.frozen? ⟨g, q * 66 + j, none⟩ = false := by
  subst hn
  have hq : q < L.length := (List.getElem?_eq_some_iff.1 hp).1
  refine ⟨?_, World.ownsRow.frozenAt ho _⟩
  rw [World.ownsRow.cellAt ho (q * 66 + j) (by omega), flat_get ok j hp hj]
/-- A byte stored into pages of one's own. -/
theorem POwn.byte {w : World} {base g n cap : Nat} {l : List Pg} {P : Nat → Bool} {B : Nat → Nat} {D : Nat → Bool} (ho : POwn w base (.slice (some ⟨g, 0, none⟩) n cap) (upd l P B D)) (hn : l.length = n) (ok : Oks l) (hB : ∀ a, P a = true → B a < 256) {q x : Nat} (hq : q < l.length) (hx : x < 64) :
    (∃ u, w.cell? ⟨g, q * 66 + 2 + x, none⟩ = some u) ∧ w.frozen? ⟨g, q * 66 + 2 + x, none⟩ = false ∧
      POwn (w.setCell ⟨g, q * 66 + 2 + x, none⟩ (bv (B (64 * q + x)))) base (.slice (some ⟨g, 0, none⟩) n cap) (upd l (fun a => P a || a == 64 * q + x) B D) := by
  have hlen : (upd l P B D).length = n := by rw [upd_len, hn]
  have oku := upd_ok (D := D) ok hB
  obtain ⟨p, hp⟩ : ∃ p, l[q]? = some p := ⟨_, List.getElem?_eq_getElem hq⟩
  have hpu : (upd l P B D)[q]? = some (p.upd (fun x => P (64 * q + x)) (fun x => B (64 * q + x)) (D q)) := by rw [upd_get, hp]; rfl
  obtain ⟨h1, h2⟩ := ho.cellOf hlen oku hpu (j := 2 + x) (by omega)
  rw [Nat.add_assoc]
  refine ⟨?_, h2, ?_⟩
  · rw [h1, List.getElem?_eq_getElem (by rw [(oku _ (List.mem_of_getElem? hpu)).cells]; omega)]
    exact ⟨_, rfl⟩
  · have h3 := POwn.stored (u := bv (B (64 * q + x))) (by rw [hlen]; exact ho) oku hpu (show 2 + x < 66 by omega) (cells_byte _ x (B (64 * q + x)))
    rw [hlen] at h3
    have h4 := upd_byte (P := P) (B := B) (D := D) ok hp hx (c := B (64 * q + x)) rfl
    rw [← h4]
    exact h3
/-- A mark stored into pages of one's own. -/
theorem POwn.mark {w : World} {base g n cap : Nat} {l : List Pg} {P : Nat → Bool} {B : Nat → Nat} {D : Nat → Bool} (ho : POwn w base (.slice (some ⟨g, 0, none⟩) n cap) (upd l P B D)) (hn : l.length = n) (ok : Oks l) (hB : ∀ a, P a = true → B a < 256) {q : Nat} (hq : q < l.length) :
    (∃ u, w.cell? ⟨g, q * 66 + 1, none⟩ = some u) ∧ w.frozen? ⟨g, q * 66 + 1, none⟩ = false ∧
      POwn (w.setCell ⟨g, q * 66 + 1, none⟩ (.bool true)) base (.slice (some ⟨g, 0, none⟩) n cap) (upd l P B (fun r => D r || r == q)) := by
  have hlen : (upd l P B D).length = n := by rw [upd_len, hn]
  have oku := upd_ok (D := D) ok hB
  obtain ⟨p, hp⟩ : ∃ p, l[q]? = some p := ⟨_, List.getElem?_eq_getElem hq⟩
  have hpu : (upd l P B D)[q]? = some (p.upd (fun x => P (64 * q + x)) (fun x => B (64 * q + x)) (D q)) := by rw [upd_get, hp]; rfl
  obtain ⟨h1, h2⟩ := ho.cellOf hlen oku hpu (j := 1) (by omega)
  refine ⟨?_, h2, ?_⟩
  · rw [h1]
    exact ⟨_, rfl⟩
  · have h3 := POwn.stored (u := .bool true) (by rw [hlen]; exact ho) oku hpu (show 1 < 66 by decide) (cells_mark _)
    rw [hlen] at h3
    have h4 := upd_mark (P := P) (B := B) (D := D) hp
    rw [← h4]
    exact h3
theorem byt_at (v s n k : Nat) : ((v : Int) / 2 ^ (8 * (s - 1 - k)) % 256) = ((byt v s n (n + k) : Nat) : Int) := by
  unfold byt
  rw [show n + k - n = k by omega, show (256 : Nat) = 2 ^ 8 from rfl, ← Nat.pow_mul]
  simp
theorem addr_at {n k : Nat} (h : n % 64 + k < 64) : 64 * (n / 64) + (n % 64 + k) = n + k := by omega

set_option maxRecDepth 100000 in
set_option maxHeartbeats 1000000 in
theorem put_any (g cap base : Nat) (l : List Pg) (n s v : Nat) (w : World) (ho : POwn w base (.slice (some ⟨g, 0, none⟩) l.length cap) l) (ok : Oks l) (hm : l.length ≤ 1759218604391) (hq : n / 64 < l.length) (hn : n < 4294967296) (hz : Sized s) (ha : n % s = 0) (hv : v < 4294967296) :
    Calls Tryd.prog 32 #[.slice (some ⟨g, 0, none⟩) l.length cap, .int .u32 (n : Int), .int .i64 (s : Int), .int .u32 (v : Int)] w fun e w' => e = .returned (.tuple #[]) ∧ POwn w' base (.slice (some ⟨g, 0, none⟩) l.length cap) (upd l (inR n s) (byt v s n) (isQ (n / 64))) ∧ Below g w w' := by
  obtain ⟨a0, c0, e0, hpg, _⟩ := ho.pgs ok hm
  simp only [Value.slice.injEq, true_and] at e0
  obtain ⟨rfl, rfl⟩ := e0
  have H1 := hide (numberAt_any g 0 _ _ l n s w hpg hn hq hz ha)
  have HF := hide (fits hz ha)
  have HO := hide ho
  have OK := hide ok
  have HN := hide hn
  have HQ := hide hq
  have HZ := hide hz
  have hs4 : s ≤ 4 := by rcases hz with rfl | rfl | rfl <;> omega
  clear hpg ho ok hz ha
  obtain ⟨q, hqn⟩ : ∃ q, n / 64 = q := ⟨_, rfl⟩
  have e64 : (n : Int) / 64 = (q : Int) := by omega
  rw [hqn] at H1 HQ hq ⊢
  have HQN := hide hqn
  have q1 : (q : Int) < (l.length : Int) := by omega
  have q2 : (q : Int) % 4294967296 = (q : Int) := by omega
  clear hqn hn
  go_enter Tryd.func32, Tryd.ntmps32
  go_wp2_with fail
  refine Calls.mono H1.out ?_
  rintro e w' ⟨rfl, rfl⟩
  clear H1
  go_wp2
  go_loopw [16] (fun i wr => ∃ k : Nat, k ≤ s ∧ i = .int .i64 (k : Int) ∧ Hid (POwn wr base (.slice (some ⟨g, 0, none⟩) l.length cap) (upd l (inR n k) (byt v s n) (fun _ => false))) ∧ Hid (Below g w wr)) (fun i _ => s - (intOf i).toNat)
  case atStart => exact ⟨0, by omega, rfl, by
      have e : upd l (inR n 0) (byt v s n) (fun _ => false) = l := (upd_congr OK.out (fun a _ => ⟨inR_zero n a, fun _ => rfl⟩) (fun _ _ => rfl)).trans (upd_none l _)
      unfold Hid
      rw [e]
      exact HO.out, Below.refl _ _⟩
  case round =>
    obtain ⟨k, hk, rfl, hown, hb⟩ := hrel
    by_cases hlt : k < s
    · obtain ⟨⟨u, hc⟩, hf, hst⟩ := POwn.byte hown.out rfl OK.out (fun a _ => byt_lt _ _ _ _) hq (x := n % 64 + k) (by have := HF.out; omega)
      rw [← HQN.out, addr_at (by have := HF.out; omega), HQN.out] at hst
      rw [← Nat.add_assoc] at hc hf hst
      unfold bv at hst
      rw [← byt_at] at hst
      have HST := hide hst
      clear hst
      go_wp2
      go_roundw
      case rel => exact ⟨k + 1, by omega, by go_num, by
        have e : upd l (inR n (k + 1)) (byt v s n) (fun _ => false) = upd l (fun a => inR n k a || a == n + k) (byt v s n) (fun _ => false) :=
          upd_congr OK.out (fun a _ => ⟨inR_succ n k a, fun _ => rfl⟩) (fun _ _ => rfl)
        unfold Hid
        rw [e]
        exact HST.out, hb.out.setCell (Nat.le_refl _) _⟩
      case measure => simp [intOf]; omega
    · obtain rfl : k = s := by omega
      obtain ⟨⟨u, hc⟩, hf, hst⟩ := POwn.mark hown.out rfl OK.out (fun a _ => byt_lt _ _ _ _) hq
      have HST := hide hst
      clear hst
      go_wp2
      go_end0
      refine ⟨rfl, ?_, hb.out.setCell (Nat.le_refl _) _⟩
      have e : upd l (inR n k) (byt v k n) (isQ q) = upd l (inR n k) (byt v k n) (fun r => false || r == q) := upd_congr OK.out (fun a _ => ⟨rfl, fun _ => rfl⟩) (fun r _ => by simp [isQ])
      rw [e]
      exact HST.out
end Go.Proofs.YtbekdbgnpcbklaaDoor
