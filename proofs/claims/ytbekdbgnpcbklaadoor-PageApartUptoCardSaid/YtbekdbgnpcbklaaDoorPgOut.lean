/-
  The program's Out: bytes copied out page by page.
-/
import Derived.Test.YtbekdbgnpcbklaaDoorPgRange
import Derived.OwnWalk
import Derived.Laws.CopyOwn
import Derived.Laws.BytesArg
import Derived.Laws.IdiomStrings
import Derived.Deep.RegionLaw
namespace Go.Proofs.YtbekdbgnpcbklaaDoor
open Go.RowKit FerryCrc
set_option linter.unusedVariables false

/-- Bytes as a string. -/
def str (l : List Nat) : ByteArray := ⟨(l.map UInt8.ofNat).toArray⟩
theorem mapz (n : Nat) : List.replicate n (Value.int .u8 0) = (List.replicate n 0).map bv := by simp [bv]
/-- make of n bytes. -/
theorem make_bytes {w : World} {ops : Array Oper} {rest : List Oper} {o : Oper} {act : Act} {Q : Exit → Act → World → Prop} (hgd : o.guard = none) (l c : Operand)
    (ho : o.op = Op.makeSlice 63 l c) (L C : Int) (n : Nat) (hl : act.eval l = .int .i64 L) (hc : act.eval c = .int .i64 C) (hL : L = (n : Int)) (hC : C = (n : Int)) (hn : n ≤ 140737488355328)
    (h : ∀ w', Own w' w.heap.size (.slice (some ⟨w.heap.size, 0, none⟩) n n) (List.replicate n 0) → Below w.heap.size w w' → wpList Tryd.prog ops Q rest (act.put o.dst (.slice (some ⟨w.heap.size, 0, none⟩) n n)) w') : wpList Tryd.prog ops Q (o :: rest) act w := by
  obtain ⟨i0, hi, hz0, hz1, hz2⟩ := info_parts info8
  refine wpList_make_full w hgd l c 63 ho w.heap.size 5 i0 (.int .u8 0) 1 Tryd.underlying63 hi hz0 hz1 .i64 .i64 L C n hl hc hL hC (by rw [hz2]; omega) (by unfold maxLen; omega) (Nat.le_refl _) ?_
  intro w' h1 h2
  refine h w' ?_ ((Below.refl _ _).grown h2 (Nat.le_refl _) (by intro k e; cases e))
  unfold Own
  have e : (madeCells (Value.int .u8 0).cells (n * 1)).toList = (List.replicate n 0).map bv := by
    rw [Nat.mul_one, ← mapz]
    exact toList_madeCells_one _ _
  rw [e] at h1
  rw [List.length_replicate]
  exact h1
theorem size8' : (Tryd.prog.info? 5).map (·.size) = some 1 := by kernel_rfl
theorem own_heap {w : World} {base g N : Nat} {L : List Nat} (h : Own w base (.slice (some ⟨g, 0, none⟩) N N) L) (hL : L.length = N) : w.heap[g]? = some (.cells (L.map bv).toArray 5 (0, 0)) ∧ base ≤ g ∧ N ≤ maxLen := by
  subst hL
  rcases h.2 with ⟨e, _⟩ | ⟨g', cap, cur, e, hg, hh, hnc, hcm, hcs, htake⟩
  · simp at e
  simp only [Value.slice.injEq, Option.some.injEq, Addr.mk.injEq, and_true, true_and] at e
  obtain ⟨rfl, rfl⟩ := e
  rw [Nat.mul_one, List.take_of_length_le (by rw [Array.length_toList]; omega)] at htake
  refine ⟨?_, hg, hcm⟩
  rw [hh, ← htake]
theorem own_of_heap {w : World} {base g N : Nat} {L : List Nat} (hL : L.length = N) (hg : base ≤ g) (hm : N ≤ maxLen) (hh : w.heap[g]? = some (.cells (L.map bv).toArray 5 (0, 0))) : Own w base (.slice (some ⟨g, 0, none⟩) N N) L := by
  subst hL
  refine ⟨by simp, .inr ⟨g, L.length, _, rfl, hg, hh, Nat.le_refl _, hm, by simp, ?_⟩⟩
  simp [List.take_of_length_le]
/-- The slice of bytes as a string. -/
theorem own_string {w : World} {base g N : Nat} {L : List Nat} (h : Own w base (.slice (some ⟨g, 0, none⟩) N N) L) (hL : L.length = N) (hs : ∀ c ∈ L, c < 256) :
    (convert 63 9 (.slice (some ⟨g, 0, none⟩) N N)).run Tryd.prog w = .ok (.string (str L)) w := by
  subst hL
  have := run_convert_bytes_back (P := Tryd.prog) w 63 9 5 ⟨g, 0, none⟩ L.length (L.map UInt8.ofNat) Tryd.underlying63 Tryd.underlying5 Tryd.underlying9 (fun j hj => by
    have hj' : j < L.length := by simpa using hj
    have hc := World.ownsRow.cellAt h j (by omega)
    rw [add_none, Nat.zero_add, hc]
    have hlt := hs L[j] (List.getElem_mem hj')
    simp [hj', bv]
    omega)
  rw [List.length_map] at this
  exact this
theorem rdB_app (l : List Pg) (n s t : Nat) : rdB l n (s + t) = rdB l n s ++ rdB l (n + s) t := by
  simp [rdB, List.range_add, Nat.add_assoc, Function.comp_def]
/-- The bytes of one page from an address on. -/
theorem page_bytes {w : World} {b off len cap : Nat} {l : List Pg} (hs : Pgs w (some ⟨b, off, none⟩) len cap l) {m c : Nat} (hq : m / 64 < len) (hc : m % 64 + c ≤ 64) :
    ∀ j v, ((rdB l m c).map bv)[j]? = some v → w.cell? ((⟨b, off + m / 64 * 66 + 2 + m % 64, none⟩ : Addr).add j) = some v := by
  intro j v hv
  have hb := nbytes_bts (n := m) (s := c) hs hq hc
  rw [nbytes_rdB hs.ok (by rw [hs.size]; exact hq) hc] at hb
  have hj : j < c := by
    have := (List.getElem?_eq_some_iff.1 hv).1
    simpa [rdB_len] using this
  obtain ⟨b', off', e, x, hx, hcell⟩ := hb.cell j hj
  simp only [Option.some.injEq, Addr.mk.injEq, and_true] at e
  obtain ⟨rfl, rfl⟩ := e
  rw [add_none, hcell]
  rw [List.getElem?_map, hx] at hv
  simpa [bv] using hv
theorem splice_rep {l : List Pg} {n k c N : Nat} (h : k + c ≤ N) :
    splice ((rdB l n k ++ List.replicate (N - k) 0).map bv) k ((rdB l (n + k) c).map bv) = (rdB l n (k + c) ++ List.replicate (N - (k + c)) 0).map bv := by
  unfold splice
  rw [rdB_app, List.map_append, List.map_append, List.take_left' (by simp [rdB_len]), List.length_map, rdB_len, List.drop_append, List.drop_of_length_le (by simp [rdB_len]), List.map_append, List.length_map, rdB_len]
  simp only [List.nil_append, List.append_assoc, List.map_replicate, List.drop_replicate]
  rw [show N - k - (k + c - k) = N - (k + c) by omega]

set_option maxRecDepth 100000 in
set_option maxHeartbeats 1000000 in
theorem out_any (a : Option Addr) (len cap : Nat) (l : List Pg) (n N : Nat) (w : World) (hs : Pgs w a len cap l) (hn : n < 4294967296) (hN : N < 9223372036854775808) :
    Calls Tryd.prog 11 #[.slice a len cap, .int .u32 (n : Int), .int .i64 (N : Int)] w fun e w' => ∃ f : Nat, e = .returned (.tuple #[.string (str (if f = 0 then rdB l n N else [])), .int .i64 (f : Int), .nilIface]) ∧ RF (fun a => bflt l a 0) n N f ∧ f ≤ 6 ∧ Below w.heap.size w w' := by
  have H1 := hide (rangeFault_any a len cap l n N 0 1 w hs hn hN (.inl ⟨rfl, rfl⟩))
  have HS := hide hs
  have hm := hs.most
  clear hs
  go_enter Tryd.func11, Tryd.ntmps11
  go_wp2_with fail
  refine Calls.mono H1.out ?_
  rintro e w' ⟨f, rfl, hrf, hf6, rfl⟩
  have HRF := hide hrf
  clear hrf H1
  by_cases hf : f = 0
  case neg =>
    have hd : ((f : Int) != 0) = true := by simp; omega
    go_wp2
    go_ret3
    refine ⟨f, ?_, HRF.out, hf6, Below.refl _ _⟩
    rw [if_neg hf]
    rfl
  subst hf
  have hz : ∀ i, i < N → bflt l (n + i) 0 = 0 := by
    rcases HRF.out with ⟨_, h⟩ | ⟨i, _, _, h1, h2⟩
    · exact h
    · exact absurd rfl h2
  have hN32 : N ≤ 4294967296 := by
    by_cases h0 : N = 0
    · omega
    · have := (bflt_zero (hz (N - 1) (by omega))).1
      omega
  have HZ := hide hz
  clear hz
  go_wp2_with (first | (at_make; refine make_bytes rfl (.tmp 23) (.tmp 23) rfl _ _ N rfl rfl rfl rfl (by omega) ?_; intro w1 hown1 hb1))
  have HO1 := hide hown1
  have HB1 := hide hb1
  clear hown1 hb1
  go_loopw [11] (fun d wr => ∃ k : Nat, k ≤ N ∧ d = .int .i64 (k : Int) ∧ Hid (Own wr w.heap.size (.slice (some ⟨w.heap.size, 0, none⟩) N N) (rdB l n k ++ List.replicate (N - k) 0)) ∧ Hid (Below w.heap.size w wr)) (fun d _ => N - (intOf d).toNat)
  case atStart => exact ⟨0, by omega, rfl, show Own _ _ _ _ by simpa [rdB] using HO1.out, HB1.out⟩
  case round =>
    obtain ⟨k, hk, rfl, hown, hb⟩ := hrel
    by_cases hlt : k < N
    · have hzk := bflt_zero (HZ.out k hlt)
      obtain ⟨m, hmn⟩ : ∃ m, n + k = m := ⟨_, rfl⟩
      rw [hmn] at hzk
      obtain ⟨q, hq⟩ : ∃ q, m / 64 = q := ⟨_, rfl⟩
      obtain ⟨j, hj⟩ : ∃ j, m % 64 = j := ⟨_, rfl⟩
      have hqlen : q < len := by rw [← HS.out.size, ← hq]; exact hzk.2
      obtain ⟨p, hp⟩ : ∃ p, l[q]? = some p := ⟨_, List.getElem?_eq_getElem (by rw [HS.out.size]; exact hqlen)⟩
      obtain ⟨b, off, rfl, _⟩ := HS.out.cell _ p hp
      obtain ⟨c, hc⟩ : ∃ c, Nat.min (64 - j) (N - k) = c := ⟨_, rfl⟩
      have hjc : j + c ≤ 64 ∧ k + c ≤ N ∧ 0 < c ∧ c ≤ 64 := by
        have h1 : Nat.min (64 - j) (N - k) ≤ 64 - j := Nat.min_le_left _ _
        have h2 : Nat.min (64 - j) (N - k) ≤ N - k := Nat.min_le_right _ _
        have h3 : 0 < Nat.min (64 - j) (N - k) := Nat.lt_min.2 ⟨by omega, by omega⟩
        omega
      have hlenL : (rdB l n k ++ List.replicate (N - k) 0).length = N := by simp [rdB_len]; omega
      obtain ⟨hh, hbg, hmx⟩ := own_heap hown.out hlenL
      have HPB := hide (page_bytes (HS.out.below hb.out.drew) (m := m) (c := c) (by rw [hq]; exact hqlen) (by rw [hj]; omega))
      rw [hq, hj] at HPB
      have HSP := hide (splice_rep (l := l) (n := n) (k := k) (c := c) (N := N) (by omega))
      rw [hmn] at HSP
      have e0 : (n : Int) + (k : Int) = (m : Int) := by omega
      have e1 : (m : Int) / 64 = (q : Int) := by omega
      have e2 : (m : Int) % 64 = (j : Int) := by omega
      have HMM := hide hmx
      have HH : Hid (wr.drew.heap[w.heap.size]? = some (.cells ((rdB l n k ++ List.replicate (N - k) 0).map bv).toArray 5 (0, 0))) := hh
      have hbd := hide hb.out.drew
      have hm1 : m < 4294967296 := hzk.1
      have q1 : (q : Int) < (len : Int) := by omega
      have j1 : (j : Int) ≤ 64 := by omega
      have j64 : j < 64 := by omega
      have q0 : q < 4294967296 := by omega
      have k1 : (k : Int) ≤ (N : Int) := by omega
      have hw1 : IntKind.i64.wrap (q : Int) = (q : Int) := by rw [IntKind.wrap_i64]; omega
      have hw2 : (m : Int).tmod 64 = (j : Int) := by rw [Int.tmod_eq_emod_of_nonneg (by omega)]; exact e2
      have hNk : ¬ N = k := by omega
      have q2 : (0 : Int) ≤ (q : Int) := by omega
      have j2 : (0 : Int) ≤ (j : Int) := by omega
      have hj64 : ¬ 64 = j := by omega
      clear hp hzk hq hj hh hmx hlenL
      go_wp2_with fail
      go_region_law (refine step_copy_splice rfl (.tmp 35) (.tmp 43) 63 63 rfl 5 Tryd.underlying63 size8' (some ⟨w.heap.size, k, none⟩) (some ⟨b, off + q * 66 + 2 + j, none⟩) (N - k) (N - k) (64 - j) (64 - j) (by simp [Act.eval, Act.put]) (by simp [Act.eval, Act.put]) w.heap.size k ((rdB l n k ++ List.replicate (N - k) 0).map bv) 5 HH.out ((rdB l m c).map bv) (by simp [rdB_len, hc]) (fun _ => ⟨rfl, _, rfl, HPB.out⟩) (by simp [rdB_len]; omega) (bv_one _) w.heap.size w hbd.out (Nat.le_refl _) ?_; intro w4 hg4 hb4)
      have HG4 := hide (hg4.out)
      have HB4 := hide hb4
      rw [HSP.out] at HG4
      clear hg4 hb4
      have hcl : (rdB l m c).length = c := rdB_len _ _ _
      have hwk : IntKind.i64.wrap ((k : Int) + (c : Int)) = (k : Int) + (c : Int) := by rw [IntKind.wrap_i64]; omega
      simp only [hcl, hwk, Act.put, List.getElem_toArray, List.getElem_cons_succ, List.getElem_cons_zero, List.setIfInBounds_toArray, List.set_cons_succ, List.set_cons_zero]
      go_wp2
      go_roundw
      case rel => exact ⟨k + c, by omega, by rw [Int.natCast_add], own_of_heap (by simp [rdB_len]; omega) (Nat.le_refl _) HMM.out HG4.out, HB4.out⟩
      case measure => simp [intOf]; omega
    · obtain rfl : k = N := by omega
      have HST := hide (own_string hown.out (by simp [rdB_len]) (by simpa using rdB_lt HS.out.ok n k))
      have HE : Hid (rdB l n k ++ List.replicate (k - k) 0 = rdB l n k) := by unfold Hid; simp
      rw [HE.out] at HST
      have hst := HST.out
      go_wp2
      go_ret3
      exact ⟨0, by rw [if_pos rfl]; rfl, HRF.out, by decide, hb.out⟩
set_option maxRecDepth 100000 in
theorem out_bad {w : World} {A : Addr} (h12 : w.cell? ⟨0, 0, none⟩ = some (sent A)) (a : Option Addr) (len cap n : Nat) (N : Int) (h : N < 0) :
    Calls Tryd.prog 11 #[.slice a len cap, .int .u32 (n : Int), .int .i64 N] w fun e w' => e = .returned (.tuple #[.string (str []), .int .i64 0, sent A]) ∧ Below w.heap.size w w' := by
  go_enter Tryd.func11, Tryd.ntmps11
  go_wp2
  go_quiet (fail)
  go_wp2
  go_ret3
  exact ⟨rfl, drewN_below (Below.refl _ _) nq⟩
end Go.Proofs.YtbekdbgnpcbklaaDoor
