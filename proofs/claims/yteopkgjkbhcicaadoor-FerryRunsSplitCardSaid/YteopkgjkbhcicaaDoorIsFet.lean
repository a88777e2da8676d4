/-
  The core's Fetch.
-/
import Derived.Test.YteopkgjkbhcicaaDoorIsDecode
import Derived.Test.YteopkgjkbhcicaaDoorPgLoad2
import Derived.Deep.Cut
namespace Go.Proofs.YteopkgjkbhcicaaDoor
open Go.RowKit FerryCrc
set_option linter.unusedVariables false
set_option linter.unusedSimpArgs false

theorem nbytes_small {l : List Pg} (ok : Oks l) (n s : Nat) : ∀ c ∈ nbytes l n s, c < 256 := by
  intro c hc
  unfold nbytes at hc
  cases h : l[n / 64]? with
  | none => simp [h] at hc
  | some p =>
    rw [h] at hc
    exact (ok p (List.mem_of_getElem? h)).small c (List.mem_of_mem_drop (List.mem_of_mem_take hc))
theorem ldv_lt {l : List Pg} (ok : Oks l) (n s k : Nat) (hs : s ≤ 4) : ldv l n s k < 4294967296 := by
  unfold ldv
  split
  · have h1 := num_lt _ (nbytes_small ok n s)
    have h2 := nbytes_len (n := n) (s := s) ok
    have h3 : 256 ^ (nbytes l n s).length ≤ 256 ^ 4 := Nat.pow_le_pow_right (by decide) (by omega)
    omega
  · decide
/-- What Fetch answers. -/
def fIns (l : List Pg) (n : Nat) : Ins := if nfault l n 4 2 = 0 then dec (ldv l n 4 2) else noIns
def fCode (l : List Pg) (n : Nat) : Nat := if nfault l n 4 2 = 0 then (if okI (cand (ldv l n 4 2)) then 0 else 1) else nfault l n 4 2

theorem box_world (w : World) (t : TypeId) (y : Array Value) (w2 : World) (hb : Below (w.alloc (.cells y t)).heap.size (w.alloc (.cells y t)) w2) : Bl w2 w.heap.size y.toList ∧ Below w.heap.size w w2 := by
  have h0 := bl_alloc w y t
  have hs : (w.alloc (.cells y t)).heap.size = w.heap.size + 1 := by simp
  have hB : Below w.heap.size w (w.alloc (.cells y t)) := (Below.refl _ _).alloc (Nat.le_refl _) _
  exact ⟨h0.below (by omega) hb, hB.trans (hb.mono (by omega))⟩

set_option maxRecDepth 100000 in
set_option maxHeartbeats 8000000 in
theorem coreFetch_any (a : Option Addr) (len cap : Nat) (l : List Pg) (n : Nat) (w : World) (hs : Pgs w a len cap l) (hn : n < 4294967296) (hv : Isv w) :
    Calls Tryd.prog 24 #[.slice a len cap, .int .u32 (n : Int)] w fun e w' => e = .returned (.tuple #[.agg (fIns l n).cells, .int .i64 ((fCode l n : Nat) : Int)]) ∧ Below w.heap.size w w' := by
  have hlt := ldv_lt hs.ok n 4 2 (by decide)
  have hB : Below w.heap.size w (w.alloc (.cells #[.int .i64 0, .int .i64 0, .int .i64 0, .int .i64 0, .int .i64 0] 71)) := (Below.refl _ _).alloc (Nat.le_refl _) _
  have H1 := hide (fetch_any a len cap l n _ (hs.below hB) hn)
  have H2 := hide (decode_any (ldv l n 4 2) _ hlt (hv.below hB))
  have H3 : Hid (fIns l n = if nfault l n 4 2 = 0 then dec (ldv l n 4 2) else noIns) := rfl
  have H4 : Hid (fCode l n = if nfault l n 4 2 = 0 then (if okI (cand (ldv l n 4 2)) then 0 else 1) else nfault l n 4 2) := rfl
  clear hs hv hB
  generalize nfault l n 4 2 = F at *
  generalize ldv l n 4 2 = L at *
  generalize fIns l n = I at *
  generalize fCode l n = C at *
  go_enter Tryd.func24, Tryd.ntmps24
  go_wp2_with fail
  refine Calls.mono H1.out ?_
  rintro e w' ⟨rfl, rfl⟩
  by_cases hF : F = 0
  · subst hF
    have h3 := H3.out
    have h4 := H4.out
    rw [if_pos rfl] at h3 h4
    subst h3
    go_wp2_with fail
    refine Calls.mono H2.out ?_
    rintro e w2 ⟨⟨v, rfl, hve⟩, hb2⟩
    have HDN : Hid (okI (cand L) = false → dec L = noIns) := fun h => by unfold dec; rw [if_neg (by rw [h]; decide)]
    obtain ⟨hz, hbw⟩ := box_world _ _ _ _ hb2
    clear hb2 H1 H2 H3 H4
    obtain ⟨K, hK⟩ : ∃ K, dec L = K := ⟨_, rfl⟩
    rw [hK] at HDN ⊢
    have HKD := hide hK
    clear hK
    obtain ⟨o, p, q, r, s⟩ := K
    unfold Ins.cells
    have hB3 : Below w2.heap.size w2 (w2.alloc (.cells #[.int .i64 o, .int .i64 p, .int .i64 q, .int .i64 r, .int .i64 s] 71)) := (Below.refl _ _).alloc (Nat.le_refl _) _
    have hzl : w.heap.size < w2.heap.size := block_lt_of_cell (hz.cell 0 _ rfl)
    have hz3 := hz.below hzl hB3
    obtain ⟨q0, q1, q2, q3, q4⟩ := bl_get (bl_alloc w2 #[.int .i64 o, .int .i64 p, .int .i64 q, .int .i64 r, .int .i64 s] 71)
    obtain ⟨z0, z1, z2, z3, z4⟩ := bl_get hz3
    obtain ⟨y0, y1, y2, y3, y4⟩ := bl_free hz3
    have HZ := hide hz3
    have HBW := hide (hbw.trans (hB3.mono (Nat.le_of_lt hzl)))
    clear hz hz3 hbw hB3
    by_cases hk : okI (cand L) = true
    · rw [if_pos hk] at hve h4
      subst hve
      subst h4
      clear hk
      go_upto_region 5 with fail
      generalize w2.alloc (.cells #[.int .i64 o, .int .i64 p, .int .i64 q, .int .i64 r, .int .i64 s] 71) = W3 at *
      generalize w2.heap.size = g8 at *
      go_wp2
      obtain ⟨⟨p0, p1, p2, p3, p4⟩, hB9⟩ := fin5 HZ.out HBW.out (Nat.le_refl _) (.int .i64 o) (.int .i64 p) (.int .i64 q) (.int .i64 r) (.int .i64 s)
      unfold set5 at p0 p1 p2 p3 p4 hB9
      generalize ((((W3.setCell ⟨w.heap.size, 0, none⟩ (.int .i64 o)).setCell ⟨w.heap.size, 1, none⟩ (.int .i64 p)).setCell ⟨w.heap.size, 2, none⟩ (.int .i64 q)).setCell ⟨w.heap.size, 3, none⟩ (.int .i64 r)).setCell ⟨w.heap.size, 4, none⟩ (.int .i64 s) = W9 at *
      (try simp only [Exit.inBlock, Exit.then])
      refine bodyPost_ret (v := .tuple #[.agg #[.int .i64 o, .int .i64 p, .int .i64 q, .int .i64 r, .int .i64 s], .int .i64 0]) (by simp [results, Tryd.results24, go_sem, p0, p1, p2, p3, p4]) rfl ?_
      exact ⟨by rw [HKD.out]; rfl, hB9⟩
    · rw [if_neg hk] at hve h4
      obtain ⟨AE, rfl⟩ := hve
      have hN := HDN.out (by simpa using hk)
      obtain ⟨rfl, rfl, rfl, rfl, rfl⟩ : o = 0 ∧ p = 0 ∧ q = 0 ∧ r = 0 ∧ s = 0 := by injection hN with h1 h2 h3 h4 h5; exact ⟨h1, h2, h3, h4, h5⟩
      subst h4
      clear hk hN
      go_upto_region 5 with fail
      generalize w2.alloc (.cells #[.int .i64 0, .int .i64 0, .int .i64 0, .int .i64 0, .int .i64 0] 71) = W3 at *
      generalize w2.heap.size = g8 at *
      go_wp2
      obtain ⟨⟨p0, p1, p2, p3, p4⟩, hB9⟩ := fin5 HZ.out HBW.out (Nat.le_refl _) (.int .i64 0) (.int .i64 0) (.int .i64 0) (.int .i64 0) (.int .i64 0)
      unfold set5 at p0 p1 p2 p3 p4 hB9
      generalize ((((W3.setCell ⟨w.heap.size, 0, none⟩ (.int .i64 0)).setCell ⟨w.heap.size, 1, none⟩ (.int .i64 0)).setCell ⟨w.heap.size, 2, none⟩ (.int .i64 0)).setCell ⟨w.heap.size, 3, none⟩ (.int .i64 0)).setCell ⟨w.heap.size, 4, none⟩ (.int .i64 0) = W9 at *
      (try simp only [Exit.inBlock, Exit.then])
      refine bodyPost_ret (v := .tuple #[.agg #[.int .i64 0, .int .i64 0, .int .i64 0, .int .i64 0, .int .i64 0], .int .i64 1]) (by simp [results, Tryd.results24, go_sem, p0, p1, p2, p3, p4]) rfl ?_
      exact ⟨by rw [HKD.out]; rfl, hB9⟩
  · have hd : ((F : Int) != 0) = true := by rw [bne_iff_ne]; omega
    have h3 := H3.out
    have h4 := H4.out
    rw [if_neg hF] at h3 h4
    subst h3 h4
    clear H1 H2 H3 H4 hF
    go_wp2
    obtain ⟨hz, hbw⟩ := box_world w 71 #[.int .i64 0, .int .i64 0, .int .i64 0, .int .i64 0, .int .i64 0] _ (Below.refl _ _)
    obtain ⟨p0, p1, p2, p3, p4⟩ := bl_get hz
    generalize w.alloc (.cells #[.int .i64 0, .int .i64 0, .int .i64 0, .int .i64 0, .int .i64 0] 71) = W9 at *
    (try simp only [Exit.inBlock, Exit.then])
    refine bodyPost_ret (v := .tuple #[.agg #[.int .i64 0, .int .i64 0, .int .i64 0, .int .i64 0, .int .i64 0], .int .i64 (C : Int)]) (by simp [results, Tryd.results24, go_sem, p0, p1, p2, p3, p4]) rfl ?_
    exact ⟨rfl, hbw⟩
end Go.Proofs.YteopkgjkbhcicaaDoor
