/-
  ferrytop's clamp and sameInts, make of processes, the moves of a script.
-/
import Derived.Test.YtnjabidelpafgaaDoorTkMoved
import Derived.Test.YtnjabidelpafgaaDoorTkKeeps
namespace Go.Proofs.YtnjabidelpafgaaDoor
open Classical
open Go.RowKit
set_option linter.unusedVariables false
set_option linter.unusedSimpArgs false

def clampV (n lo hi : Int) : Int := if n < lo then lo else if hi < n then hi else n
theorem clampV_in (n : Int) {lo hi : Int} (h : lo ≤ hi) : lo ≤ clampV n lo hi ∧ clampV n lo hi ≤ hi := by
  unfold clampV
  split
  · omega
  · split <;> omega
theorem cl_is (n lo hi : Int) : (n < lo ∧ clampV n lo hi = lo) ∨ (¬ n < lo ∧ hi < n ∧ clampV n lo hi = hi) ∨ (¬ n < lo ∧ ¬ hi < n ∧ clampV n lo hi = n) := by
  unfold clampV
  by_cases h : n < lo
  · rw [if_pos h]; exact .inl ⟨h, rfl⟩
  · by_cases h2 : hi < n
    · rw [if_neg h, if_pos h2]; exact .inr (.inl ⟨h, h2, rfl⟩)
    · rw [if_neg h, if_neg h2]; exact .inr (.inr ⟨h, h2, rfl⟩)
theorem ret_intC {k : IntKind} {a b : Int} (h : a = b) : Ending.returned (.int k a) = Ending.returned (.int k b) := by rw [h]
theorem clamp_any (n lo hi : Int) (w : World) : Calls Tryd.prog 4 #[.int .i64 n, .int .i64 lo, .int .i64 hi] w fun e w' => e = .returned (.int .i64 (clampV n lo hi)) ∧ w = w' := by
  go_enter Tryd.func4, Tryd.ntmps4
  go_wp2
  all_goals (go_ret; refine ⟨ret_intC ?_, rfl⟩; have hc := cl_is n lo hi; omega)

set_option maxRecDepth 100000 in
set_option maxHeartbeats 4000000 in
theorem sameInts_same (w : World) (a : Option Addr) (n c : Nat) (r : List Int) (hs : Is w a n c r) (a' : Option Addr) (c' : Nat) (hs' : Is w a' n c' r) (hm : n ≤ 1000) :
    Calls Tryd.prog 6 #[.slice a n c, .slice a' n c'] w fun e w' => e = .returned (.bool true) ∧ Below w.heap.size w w' := by
  have HS := hide hs
  have HS' := hide hs'
  have HL : Hid (r.length = n) := hs.size
  clear hs hs'
  go_enter Tryd.func6, Tryd.ntmps6
  go_wp2
  go_loopw [13] (fun i wr => ∃ k : Nat, k ≤ n ∧ i = .int .i64 (k : Int) ∧ Hid (Below w.heap.size w wr)) (fun i _ => n - (intOf i).toNat)
  case atStart => exact ⟨0, by omega, rfl, Below.refl _ _⟩
  case round =>
    obtain ⟨k, hk, rfl, hb⟩ := hrel
    by_cases hlt : k < n
    · obtain ⟨x, hx⟩ : ∃ x, r[k]? = some x := ⟨_, List.getElem?_eq_getElem (by rw [HL.out]; exact hlt)⟩
      obtain ⟨b, off, rfl, hr⟩ := (HS.out.below hb.out).at ci1 (by decide) hx
      obtain ⟨b', off', rfl, hr'⟩ := (HS'.out.below hb.out).at ci1 (by decide) hx
      have q0 := hr 0 _ rfl
      have q1 := hr' 0 _ rfl
      simp only [Nat.add_zero, Nat.mul_one] at q0 q1
      have hk1 : (k : Int) < (n : Int) := by omega
      have z : (x != x) = false := by simp
      clear hr hr' hx
      go_upto_region 6 with fail
      go_quiet (fail)
      go_wp2
      go_roundw
      case rel => exact ⟨k + 1, by omega, by go_num, drewN_below hb.out nq⟩
      case measure => simp [intOf]; omega
    · obtain rfl : n = k := by omega
      go_wp2
      go_ret
      exact ⟨rfl, hb.out⟩

/-- A process that was never started. -/
def zeroP : Pro := ⟨0, 0, 0, 0, 0, 0, 0, 0, 0, 0, 0, 0, 0, 0, 0, 0, 0, 0, 0, 0, 0⟩
theorem infoProZ : ∃ i z, Tryd.prog.info? 37 = some i ∧ i.zero = some z ∧ i.size = 21 ∧ i.bytes = 104 ∧ z.cells = zeroP.cells.toArray := by
  have h : (Tryd.prog.info? 37).map (fun i => (i.size, i.bytes, i.zero.map (·.cells))) = some (21, 104, some zeroP.cells.toArray) := by kernel_rfl
  cases hi : Tryd.prog.info? 37 with
  | none => simp [hi] at h
  | some i =>
    simp only [hi, Option.map_some, Option.some.injEq, Prod.mk.injEq] at h
    obtain ⟨h1, h2, h3⟩ := h
    cases hz : i.zero with
    | none => simp [hz] at h3
    | some z => exact ⟨i, z, rfl, hz, h1, h2, by simpa [hz] using h3⟩
/-- make of n processes. -/
theorem make_pros {w : World} {ops : Array Oper} {rest : List Oper} {o : Oper} {act : Act} {Q : Exit → Act → World → Prop} (hgd : o.guard = none) (l c : Operand)
    (ho : o.op = Op.makeSlice 23 l c) (L C : Int) (n : Nat) (hl : act.eval l = .int .i64 L) (hc : act.eval c = .int .i64 C) (hL : L = (n : Int)) (hC : C = (n : Int)) (hn : n ≤ 1000000)
    (h : ∀ w', PrOwn w' w.heap.size (.slice (some ⟨w.heap.size, 0, none⟩) n n) (List.replicate n zeroP) → Below w.heap.size w w' → wpList Tryd.prog ops Q rest (act.put o.dst (.slice (some ⟨w.heap.size, 0, none⟩) n n)) w') : wpList Tryd.prog ops Q (o :: rest) act w := by
  obtain ⟨i, z, hi, hz, hsz, hby, hzc⟩ := infoProZ
  refine wpList_make_full w hgd l c 23 ho w.heap.size 37 i z 21 Tryd.underlying23 hi hz hsz .i64 .i64 L C n hl hc hL hC (by rw [hby]; omega) (by unfold maxLen; omega) (Nat.le_refl _) ?_
  intro w' h1 h2
  refine h w' ?_ ((Below.refl _ _).grown h2 (Nat.le_refl _) (by intro k e; cases e))
  unfold PrOwn
  rw [made_flat pro21 (by decide) zeroP hzc] at h1
  rw [List.length_replicate]
  exact h1
theorem good_zero {n : Nat} (hn : n ≤ 8) : Good (List.replicate n zeroP) [] [] := by
  refine ⟨by rw [List.length_replicate]; exact hn, fun p hp => ?_, ⟨fun i hi => by simp at hi, fun y hy => ?_⟩, ⟨⟨fun x hx => by simp at hx, List.nodup_nil, List.Pairwise.nil⟩, fun y hy => ?_⟩⟩
  · rw [List.eq_of_mem_replicate hp]
    unfold Pro.In; decide
  · obtain ⟨p, k⟩ := y
    have hk := List.mem_zipIdx_iff_getElem?.1 hy
    rw [List.eq_of_mem_replicate (List.mem_of_getElem? hk)]
    rfl
  · obtain ⟨p, k⟩ := y
    have hk := List.mem_zipIdx_iff_getElem?.1 hy
    rw [List.eq_of_mem_replicate (List.mem_of_getElem? hk)]
    exact ⟨fun e => by simp [hasT] at e, fun e => by simp [zeroP] at e⟩

/-- A step of the tables. -/
structure Mv where
  kd : Int
  p : Int
  wt : Int
  ob : Int
  du : Int
  st : Int
  pr : Int
def Mv.cells (m : Mv) : List Value := [.int .i64 m.kd, .int .i64 m.p, .int .i64 m.wt, .int .i64 m.ob, .int .i64 m.du, .int .i64 m.st, .int .i64 m.pr]
theorem mv7 (m : Mv) : m.cells.length = 7 := rfl
abbrev Mvs (w : World) (a : Option Addr) (len cap : Nat) (l : List Mv) : Prop := Rcs Mv.cells 7 w a len cap l
end Go.Proofs.YtnjabidelpafgaaDoor
