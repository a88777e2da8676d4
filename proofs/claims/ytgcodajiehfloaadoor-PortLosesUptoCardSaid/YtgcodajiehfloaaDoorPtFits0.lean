/-
  Does a port fit its plan: the program's fits and mostAge.
-/
import Derived.Test.YtgcodajiehfloaaDoorPtBase
import Derived.Deep.RegionWith
namespace Go.Proofs.YtgcodajiehfloaaDoor
open Go.RowKit
set_option linter.unusedVariables false
set_option linter.unusedSimpArgs false

def mage (k : Int) (n : Nat) : Int := if k = 1 ∧ ¬ n = 0 then 255 else 0
theorem ma_is (k : Int) (n : Nat) : (k = 1 ∧ ¬ n = 0 ∧ mage k n = 255) ∨ (¬ (k = 1 ∧ ¬ n = 0) ∧ mage k n = 0) := by
  unfold mage
  split <;> simp_all
/-- Are the messages short enough? -/
def shorts (s : Int) (l : List ByteArray) : Bool := l.all fun m => decide ((m.size : Int) ≤ s)
/-- Does the port fit a plan in form? -/
def fitB (k s d : Int) (l : List ByteArray) (age : Int) : Bool := decide ((l.length : Int) ≤ d ∧ 0 ≤ age ∧ age ≤ mage k l.length) && shorts s l

set_option maxRecDepth 100000 in
theorem mostAge_any (k s d r age : Int) (a : Option Addr) (len cap : Nat) (w : World) (hm : len ≤ 8796093022207) :
    Calls Tryd.prog 40 #[.agg #[.int .i64 k, .int .i64 s, .int .i64 d, .int .i64 r], .agg #[.slice a len cap, .int .i64 age]] w fun e w' => e = .returned (.int .i64 (mage k len)) ∧ Below w.heap.size w w' := by
  have HP := hide (ma_is k len)
  generalize mage k len = P at *
  go_enter Tryd.func40, Tryd.ntmps40
  go_wp2
  all_goals go_ret
  all_goals refine ⟨ret_int ?_, ((Below.refl _ _).alloc (Nat.le_refl _) _).alloc (by simp) _⟩
  all_goals (have hp := HP.out; (try simp only [beq_iff_eq, beq_eq_false_iff_ne, bne_iff_ne, ne_eq, bne_eq_false_iff_eq, decide_eq_true_eq, decide_eq_false_iff_not, Bool.and_eq_true, Bool.or_eq_true, Bool.not_eq_true, Bool.not_eq_false, Bool.not_eq_true', Bool.not_eq_false'] at *); omega)

/-- A plan and a port, as a function's own variables hold them. -/
structure Pq (w : World) (b : Nat) (k s d r : Int) (x : Value) (age : Int) : Prop where
  c0 : w.cell? ⟨b, 0, none⟩ = some (.int .i64 k)
  c1 : w.cell? ⟨b, 1, none⟩ = some (.int .i64 s)
  c2 : w.cell? ⟨b, 2, none⟩ = some (.int .i64 d)
  c3 : w.cell? ⟨b, 3, none⟩ = some (.int .i64 r)
  q0 : w.cell? ⟨b + 1, 0, none⟩ = some x
  q1 : w.cell? ⟨b + 1, 1, none⟩ = some (.int .i64 age)
theorem Pq.below {w w' : World} {b : Nat} {k s d r : Int} {x : Value} {age : Int} (h : Pq w b k s d r x age) (hb : Below w.heap.size w w') : Pq w' b k s d r x age :=
  ⟨cell_below h.c0 hb, cell_below h.c1 hb, cell_below h.c2 hb, cell_below h.c3 hb, cell_below h.q0 hb, cell_below h.q1 hb⟩
theorem pq_alloc (w : World) (k s d r : Int) (x : Value) (age : Int) :
    Pq ((w.alloc (.cells #[.int .i64 k, .int .i64 s, .int .i64 d, .int .i64 r] 23)).alloc (.cells #[x, .int .i64 age] 26)) w.heap.size k s d r x age := by
  have b1 : Below (w.alloc (.cells #[.int .i64 k, .int .i64 s, .int .i64 d, .int .i64 r] 23)).heap.size (w.alloc (.cells #[.int .i64 k, .int .i64 s, .int .i64 d, .int .i64 r] 23)) ((w.alloc (.cells #[.int .i64 k, .int .i64 s, .int .i64 d, .int .i64 r] 23)).alloc (.cells #[x, .int .i64 age] 26)) := (Below.refl _ _).alloc (Nat.le_refl _) _
  have hz : (w.alloc (.cells #[.int .i64 k, .int .i64 s, .int .i64 d, .int .i64 r] 23)).heap.size = w.heap.size + 1 := by simp
  have t := two_alloc (w.alloc (.cells #[.int .i64 k, .int .i64 s, .int .i64 d, .int .i64 r] 23)) x (.int .i64 age) 26
  rw [hz] at t
  exact ⟨cell_below (by rw [World.cell?_alloc_at _ _ _ _ rfl]; rfl) b1, cell_below (by rw [World.cell?_alloc_at _ _ _ _ rfl]; rfl) b1, cell_below (by rw [World.cell?_alloc_at _ _ _ _ rfl]; rfl) b1, cell_below (by rw [World.cell?_alloc_at _ _ _ _ rfl]; rfl) b1, t.c0, t.c1⟩
theorem pq_below (w : World) (k s d r : Int) (x : Value) (age : Int) :
    Below w.heap.size w ((w.alloc (.cells #[.int .i64 k, .int .i64 s, .int .i64 d, .int .i64 r] 23)).alloc (.cells #[x, .int .i64 age] 26)) := ((Below.refl _ _).alloc (Nat.le_refl _) _).alloc (by simp) _
theorem pq_size (w : World) (k s d r : Int) (x : Value) (age : Int) :
    ((w.alloc (.cells #[.int .i64 k, .int .i64 s, .int .i64 d, .int .i64 r] 23)).alloc (.cells #[x, .int .i64 age] 26)).heap.size = w.heap.size + 2 := by simp

theorem shorts_next {s : Int} {l : List ByteArray} {k : Nat} {x : ByteArray} (hx : l[k]? = some x) : shorts s (l.take (k + 1)) = (shorts s (l.take k) && decide ((x.size : Int) ≤ s)) := by
  unfold shorts
  rw [List.take_add_one, hx]
  simp
theorem shorts_no {s : Int} {l : List ByteArray} {k : Nat} (h : shorts s (l.take k) = false) : shorts s l = false := by
  unfold shorts at h ⊢
  rw [List.all_eq_false] at h ⊢
  obtain ⟨x, hx, h2⟩ := h
  exact ⟨x, List.mem_of_mem_take hx, h2⟩

set_option maxRecDepth 100000 in
set_option maxHeartbeats 4000000 in
theorem fits_no (k s d r age : Int) (a : Option Addr) (len cap : Nat) (l : List ByteArray) (w : World) (hs : Sts w a len cap l) (h4 : decide (d < (len : Int)) = true ∨ (decide (d < (len : Int)) = false ∧ decide (age < 0) = true) ∨ (decide (d < (len : Int)) = false ∧ decide (age < 0) = false ∧ decide (mage k len < age) = true)) :
    Calls Tryd.prog 39 #[.agg #[.int .i64 k, .int .i64 s, .int .i64 d, .int .i64 r], .agg #[.slice a len cap, .int .i64 age]] w fun e w' => e = .returned (.bool false) ∧ Below w.heap.size w w' := by
  have HS := hide hs
  have hl := hs.size
  have hm := hs.most
  clear hs
  have HM := hide (fun w2 => mostAge_any k s d r age a len cap w2 hm)
  have H4 := hide h4
  clear h4
  have PQ := hide (pq_alloc w k s d r (.slice a len cap) age)
  have B0 := hide (pq_below w k s d r (.slice a len cap) age)
  go_enter Tryd.func39, Tryd.ntmps39
  go_wp2_with fail
  generalize (w.alloc (.cells #[.int .i64 k, .int .i64 s, .int .i64 d, .int .i64 r] 23)).alloc (.cells #[.slice a len cap, .int .i64 age] 26) = W0 at *
  rcases H4.out with h1 | ⟨h1, h2⟩ | ⟨h1, h2, h3⟩
  · have q0 := PQ.out.q0
    have c2 := PQ.out.c2
    go_quiet (fail)
    go_wp2
    go_ret
    exact ⟨rfl, drewN_below B0.out nq⟩
  · have q0 := PQ.out.q0
    have q1 := PQ.out.q1
    have c2 := PQ.out.c2
    go_quiet (fail)
    go_wp2
    go_ret
    exact ⟨rfl, drewN_below B0.out nq⟩
  · have q0 := PQ.out.q0
    have q1 := PQ.out.q1
    have c0 := PQ.out.c0
    have c1 := PQ.out.c1
    have c2 := PQ.out.c2
    have c3 := PQ.out.c3
    go_region_with (go_at_call 40; refine (HM.out _).mono ?_; rintro e w5 ⟨rfl, b5⟩; have bb : Below W0.heap.size W0 w5 := ⟨b5.os, b5.tape, b5.output, b5.size, b5.block⟩; have B5 := hide bb; have k1 := cell_below q1 bb; clear b5 bb)
    all_goals go_wp2
    all_goals go_ret
    all_goals exact ⟨rfl, chain B0.out B5.out⟩
end Go.Proofs.YtgcodajiehfloaaDoor
