/-
  The cursor of package wire: what it holds, and what its reading calls do.
-/
import Derived.Test.YtdbciciljeainaaGreatDoorWrBase
import Derived.Test.YtdbciciljeainaaGreatDoorBits
namespace FerryCrc
/-- The number that bytes write, the first the highest. -/
def nbe (l : List Nat) : Nat := l.foldl (fun v c => v * 256 + c) 0
theorem nbe_snoc (l : List Nat) (c : Nat) : nbe (l ++ [c]) = nbe l * 256 + c := by simp [nbe]
theorem nbe_from : ∀ (l : List Nat) (v : Nat), (∀ c ∈ l, c < 256) → l.foldl (fun v c => v * 256 + c) v < (v + 1) * 256 ^ l.length := by
  intro l
  induction l with
  | nil => intro v _; simp
  | cons c l ih =>
    intro v h
    have hc := h c (by simp)
    have := ih (v * 256 + c) (fun x hx => h x (by simp [hx]))
    simp only [List.foldl_cons, List.length_cons]
    refine Nat.lt_of_lt_of_le this ?_
    rw [Nat.pow_succ, Nat.mul_comm (256 ^ l.length) 256, ← Nat.mul_assoc]
    exact Nat.mul_le_mul_right _ (by omega)
theorem nbe_lt (l : List Nat) (h : ∀ c ∈ l, c < 256) : nbe l < 256 ^ l.length := by
  have := nbe_from l 0 h
  simpa [nbe] using this
theorem or_nat8 (v c : Nat) (hc : c < 256) : v * 256 ||| c = v * 256 + c := by
  have := Nat.two_pow_add_eq_or_of_lt (i := 8) (show c < 2 ^ 8 by omega) v
  rw [Nat.mul_comm v 256]
  exact this.symm
end FerryCrc
namespace Go.Proofs.YtdbciciljeainaaGreatDoor
open Go.RowKit FerryCrc
set_option linter.unusedVariables false
set_option linter.unusedSimpArgs false

theorem i64_or8 {v c : Nat} (hv : v < 1099511627776) (hc : c < 256) : bits .or .i64 ((v : Int) * 256) (c : Int) = ((v * 256 + c : Nat) : Int) := by
  have e1 : (v : Int) * 256 = ((v * 256 : Nat) : Int) := by simp
  rw [e1]
  have key : (BitVec.ofInt 64 ((v * 256 : Nat) : Int) ||| BitVec.ofInt 64 (c : Int)).toNat = v * 256 + c := by
    rw [BitVec.toNat_or, BitVec.ofInt_natCast, BitVec.ofInt_natCast, BitVec.toNat_ofNat, BitVec.toNat_ofNat, Nat.mod_eq_of_lt (by omega), Nat.mod_eq_of_lt (by omega), or_nat8 v c hc]
  show IntKind.i64.wrap ((BitVec.ofInt 64 ((v * 256 : Nat) : Int) ||| BitVec.ofInt 64 (c : Int)).toNat : Nat) = _
  rw [key, IntKind.wrap_i64]
  omega

/-- A cursor: its bytes, its place and its bound. -/
structure Cur (w : World) (c g len p bd : Nat) (L : List Nat) : Prop where
  c0 : w.cell? ⟨c, 0, none⟩ = some (.slice (some ⟨g, 0, none⟩) len len)
  c1 : w.cell? ⟨c, 1, none⟩ = some (.int .i64 (p : Int))
  c2 : w.cell? ⟨c, 2, none⟩ = some (.int .i64 (bd : Int))
  f1 : w.frozen? ⟨c, 1, none⟩ = false
  bts : Bts w (some ⟨g, 0, none⟩) len len L
  ne : g ≠ c
  le : p ≤ bd
  most : bd ≤ len
theorem Cur.lt {w : World} {c g len p bd : Nat} {L : List Nat} (h : Cur w c g len p bd L) : c < w.heap.size := block_lt_of_cell h.c0
theorem Cur.frm {S : Nat → Prop} {w w' : World} {c g len p bd : Nat} {L : List Nat} (h : Cur w c g len p bd L) (hf : Frm S w w') (h1 : ¬ S c) (h2 : ¬ S g) : Cur w' c g len p bd L :=
  ⟨hf.cell h.c0 h1, hf.cell h.c1 h1, hf.cell h.c2 h1, by rw [hf.frozen h.c1 h1]; exact h.f1, h.bts.frm hf (fun b off e => by simp only [Option.some.injEq, Addr.mk.injEq, and_true] at e; rw [← e.1]; exact h2), h.ne, h.le, h.most⟩
theorem Cur.below {w w' : World} {c g len p bd : Nat} {L : List Nat} (h : Cur w c g len p bd L) (hb : Below w.heap.size w w') : Cur w' c g len p bd L :=
  h.frm (S := fun _ => False) (Frm.ofBelow hb) (fun h => h) (fun h => h)
/-- Behind the store of another place. -/
theorem Cur.move {w : World} {c g len p bd q : Nat} {L : List Nat} (h : Cur w c g len p bd L) (hq : q ≤ bd) : Cur (w.setCell ⟨c, 1, none⟩ (.int .i64 (q : Int))) c g len q bd L := by
  have hb := h.bts.frm (frm_setCell w ⟨c, 1, none⟩ (.int .i64 (q : Int))) (fun b off e => by simp only [Option.some.injEq, Addr.mk.injEq, and_true] at e; rw [← e.1]; exact h.ne)
  exact ⟨by rw [World.cell?_setCell_other _ _ _ _ (by simp)]; exact h.c0, World.cell?_setCell_same _ _ _ h.c1, by rw [World.cell?_setCell_other _ _ _ _ (by simp)]; exact h.c2, by rw [World.frozen?_setCell]; exact h.f1, hb, h.ne, hq, h.most⟩

set_option maxRecDepth 100000 in
theorem copen_any (a : Option Addr) (len cap : Nat) (l : List Nat) (w : World) (hs : Bts w a len cap l) :
    Calls Tryz.prog 48 #[.slice a len cap] w fun e w' => ∃ c, w.heap.size < c ∧ e = .returned (.pointer (some ⟨c, 0, none⟩)) ∧ Cur w' c w.heap.size len 0 len l ∧ Below w.heap.size w w' := by
  have HC := hide (wfresh_any a len cap l w hs)
  have HZ := hide hs.size
  have HM := hide hs.most
  have HS := hide hs.small
  clear hs
  go_enter Tryz.func48, Tryz.ntmps48
  go_wp2_with fail
  refine Calls.mono HC.out ?_
  rintro e w1 ⟨rfl, ho, hb⟩
  have HO := hide (ho.bts HZ.out HM.out HS.out)
  have HL := hide (World.ownsRow.lt ho _ rfl).2
  have HB := hide hb
  clear ho hb
  go_wp2
  go_ret
  refine ⟨w1.heap.size, HL.out, rfl, ⟨by rw [World.cell?_alloc_at _ _ _ _ rfl]; rfl, by rw [World.cell?_alloc_at _ _ _ _ rfl]; rfl, by rw [World.cell?_alloc_at _ _ _ _ rfl]; rfl, World.frozen?_alloc_new _ _ _ _, HO.out.below ((Below.refl _ _).alloc (Nat.le_refl _) _), ?_, Nat.zero_le _, Nat.le_refl _⟩, HB.out.alloc HB.out.size _⟩
  have := HL.out
  omega

set_option maxRecDepth 100000 in
theorem left_any (c g len p bd : Nat) (L : List Nat) (w : World) (h : Cur w c g len p bd L) :
    Calls Tryz.prog 74 #[.pointer (some ⟨c, 0, none⟩)] w fun e w' => e = .returned (.int .i64 ((bd - p : Nat) : Int)) ∧ Below w.heap.size w w' := by
  have c1 := h.c1
  have c2 := h.c2
  have h1 := h.le
  have h2 := h.most
  have h3 := h.bts.most
  have hwr : IntKind.i64.wrap ((bd : Int) - (p : Int)) = ((bd - p : Nat) : Int) := by rw [IntKind.wrap_i64]; omega
  have HW := hide hwr
  clear h
  go_enter Tryz.func74, Tryz.ntmps74
  go_wp2
  go_quiet (fail)
  go_wp2
  go_ret
  exact ⟨rfl, ⟨rfl, rfl, rfl, Nat.le_refl _, fun _ _ => rfl⟩⟩

/-- The bytes of a cursor from a place on. -/
def cut (L : List Nat) (p n : Nat) : List Nat := (L.drop p).take n

set_option maxRecDepth 100000 in
set_option maxHeartbeats 1000000 in
theorem peek_any (c g len p bd : Nat) (L : List Nat) (at' n : Nat) (w : World) (h : Cur w c g len p bd L) (h0 : 0 < n) (h4 : n ≤ 4) (hn : at' + n ≤ len) :
    Calls Tryz.prog 84 #[.pointer (some ⟨c, 0, none⟩), .int .i64 (at' : Int), .int .i64 (n : Int)] w fun e w' => e = .returned (.int .i64 ((nbe (cut L at' n) : Nat) : Int)) ∧ w = w' := by
  have c0 := h.c0
  have hm := h.bts.most
  have hd := ((h.bts.drop at' (by omega)).take n (by omega))
  rw [Nat.zero_add] at hd
  have HD : Hid (Bts w (some ⟨g, at', none⟩) n (len - at') (cut L at' n)) := hd
  clear hd h
  generalize cut L at' n = l at *
  obtain ⟨hi, hhi⟩ : ∃ hi, at' + n = hi := ⟨_, rfl⟩
  have e3 : (at' : Int) + (n : Int) = (hi : Int) := by omega
  have h5 : at' ≤ hi := by omega
  have h6 : hi ≤ len := by omega
  have h7 : hi - at' = n := by omega
  have HI := hide hhi
  clear hhi hn
  go_enter Tryz.func84, Tryz.ntmps84
  go_wp2
  go_loopw [7, 20] (fun v i wr => ∃ k : Nat, k ≤ n ∧ i = .int .i64 (k : Int) ∧ v = .int .i64 ((nbe (l.take k) : Nat) : Int) ∧ wr = w) (fun _ i _ => n - (intOf i).toNat)
  case atStart => exact ⟨0, by omega, rfl, rfl, rfl⟩
  case round =>
    obtain ⟨k, hk, rfl, rfl, rfl⟩ := hrel
    by_cases hlt : k < n
    · obtain ⟨b', off', hbo, c', hl, hc⟩ := HD.out.cell k hlt
      simp only [Option.some.injEq, Addr.mk.injEq, and_true] at hbo
      obtain ⟨rfl, rfl⟩ := hbo
      have HC := hide (HD.out.small c' (List.mem_of_getElem? hl))
      have HT : Hid (nbe (l.take (k + 1)) = nbe (l.take k) * 256 + c') := by
        unfold Hid
        rw [List.take_add_one, hl]
        exact nbe_snoc _ _
      have HV : Hid (nbe (l.take k) < 16777216) := by
        have h := nbe_lt (l.take k) (fun x hx => HD.out.small x (List.mem_of_mem_take hx))
        have h2 : 256 ^ (l.take k).length ≤ 256 ^ 3 := Nat.pow_le_pow_right (by decide) (by rw [List.length_take]; have := Nat.min_le_left k l.length; omega)
        exact Nat.lt_of_lt_of_le h h2
      have hw := i64_or8 (v := nbe (l.take k)) (c := c') (by have := HV.out; omega) HC.out
      generalize nbe (l.take k) = v at *
      have HW := hide hw
      clear hw hl
      have hwr : IntKind.i64.wrap ((v : Int) * 256) = (v : Int) * 256 := by have := HV.out; rw [IntKind.wrap_i64]; omega
      have hc32 : IntKind.i64.wrap (c' : Int) = (c' : Int) := by have := HC.out; rw [IntKind.wrap_i64]; omega
      go_wp2
      exact ⟨⟨k + 1, by omega, by simp, by rw [HT.out, HW.out], trivial⟩, by simp [intOf]; omega⟩
    · obtain rfl : k = n := by omega
      have HE : Hid (l.take k = l) := by unfold Hid; exact List.take_of_length_le (by rw [HD.out.size]; exact Nat.le_refl _)
      go_wp2
      go_ret
      exact ⟨ret_int (by rw [HE.out]), rfl⟩
end Go.Proofs.YtdbciciljeainaaGreatDoor
