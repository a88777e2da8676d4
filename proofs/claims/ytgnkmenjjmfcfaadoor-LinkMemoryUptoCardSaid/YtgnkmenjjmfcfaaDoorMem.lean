/-
  make and copy of bytes as laws for the walks, and the walk of the program's fresh.
-/
import Derived.Test.YtgnkmenjjmfcfaaDoorBase
import Derived.OwnWalk
import Derived.Laws.CopyOwn
namespace Go.Proofs.YtgnkmenjjmfcfaaDoor
open Go.RowKit FerryCrc

theorem map_zero (n : Nat) : List.replicate n (Value.int .u8 0) = (List.replicate n 0).map bv := by simp [bv]

/-- make of n bytes. -/
theorem make_bts {w : World} {ops : Array Oper} {rest : List Oper} {o : Oper} {act : Act} {Q : Exit → Act → World → Prop} (hgd : o.guard = none) (l c : Operand)
    (ho : o.op = Op.makeSlice 78 l c) (L C : Int) (n : Nat) (hl : act.eval l = .int .i64 L) (hc : act.eval c = .int .i64 C) (hL : L = (n : Int)) (hC : C = (n : Int)) (hn : n ≤ 140737488355328)
    (h : ∀ w', Own w' w.heap.size (.slice (some ⟨w.heap.size, 0, none⟩) n n) (List.replicate n 0) → Below w.heap.size w w' → wpList Tryd.prog ops Q rest (act.put o.dst (.slice (some ⟨w.heap.size, 0, none⟩) n n)) w') : wpList Tryd.prog ops Q (o :: rest) act w := by
  obtain ⟨i0, hi, hz0, hz1, hz2⟩ := info_parts info8
  refine wpList_make_full w hgd l c 78 ho w.heap.size 5 i0 (.int .u8 0) 1 Tryd.underlying78 hi hz0 hz1 .i64 .i64 L C n hl hc hL hC (by rw [hz2]; omega) (by unfold maxLen; omega) (Nat.le_refl _) ?_
  intro w' h1 h2
  refine h w' ?_ ((Below.refl _ _).grown h2 (Nat.le_refl _) (by intro k e; cases e))
  unfold Own
  have e : (madeCells (Value.int .u8 0).cells (n * 1)).toList = (List.replicate n 0).map bv := by
    rw [Nat.mul_one, ← map_zero]
    exact toList_madeCells_one _ _
  rw [e] at h1
  rw [List.length_replicate]
  exact h1

theorem size8 : (Tryd.prog.info? 5).map (·.size) = some 1 := by kernel_rfl

/-- copy of whatever byte slice into the beginning of a slice of the call's own that is no shorter. -/
theorem copy_bts {w : World} {ops : Array Oper} {rest : List Oper} {o : Oper} {act : Act} {Q : Exit → Act → World → Prop} (hgd : o.guard = none) (d s : Operand)
    (ho : o.op = .call { callee := .builtin .copy, args := #[d, s], argTypes := #[78, 78] })
    (base g n c : Nat) (L : List Nat) (hd : act.eval d = .slice (some ⟨g, 0, none⟩) n c) (hown : Own w base (.slice (some ⟨g, 0, none⟩) n c) L) (hL : L.length = n)
    (a : Option Addr) (m k : Nat) (l : List Nat) (hs : act.eval s = .slice a m k) (hb : Bts w a m k l) (hmn : m ≤ n)
    (h : ∀ w', Own w' base (.slice (some ⟨g, 0, none⟩) n c) (l ++ L.drop m) → Below base w w' → wpList Tryd.prog ops Q rest (act.put o.dst (.int .i64 (m : Int))) w') : wpList Tryd.prog ops Q (o :: rest) act w := by
  subst hL
  rcases hown.2 with ⟨e, _⟩ | ⟨g', cap, cur, e, hg, hh, hnc, hcm, hcs, htake⟩
  · simp at e
  simp only [Value.slice.injEq, Option.some.injEq, Addr.mk.injEq, and_true, true_and] at e
  obtain ⟨rfl, rfl⟩ := e
  have hsz := hb.size
  rw [Nat.mul_one] at hcs
  simp only [Nat.mul_one] at htake
  have hcur : cur.toList.length = c := by rw [Array.length_toList]; exact hcs
  refine wpList_copy_splice hgd d s 78 78 ho 5 Tryd.underlying78 size8 (some ⟨g, 0, none⟩) a L.length c m k hd hs g 0 cur.toList 5 (by simpa using hh) (l.map bv) (by rw [List.length_map, hsz]; exact (Nat.min_eq_left hmn).symm) ?_ (by simp; omega) (bv_one l) base w (Below.refl _ _) hg ?_
  · intro hpos
    refine ⟨rfl, ?_⟩
    have hm : 0 < m := by simp at hpos; omega
    obtain ⟨b, off, ha, _⟩ := hb.cell 0 hm
    refine ⟨_, ha, ?_⟩
    intro j u hu
    have hj : j < m := by
      have := (List.getElem?_eq_some_iff.1 hu).1
      simp at this
      omega
    obtain ⟨b', off', ha', c', hl', hc'⟩ := hb.cell j hj
    rw [ha] at ha'
    simp only [Option.some.injEq, Addr.mk.injEq, and_true] at ha'
    obtain ⟨rfl, rfl⟩ := ha'
    rw [add_none, hc']
    simp [hl', bv] at hu
    rw [← hu]
  · intro w' HG hB
    have hput : (goInt ((l.map bv).length : Int)) = .int .i64 (m : Int) := by simp [hsz, goInt]
    rw [hput]
    refine h w' ?_ hB
    unfold Own
    have hlen : (l ++ L.drop m).length = L.length := by simp; omega
    rw [hlen]
    refine ⟨by simp; omega, .inr ⟨g, c, _, rfl, hg, HG.out, hnc, hcm, ?_, ?_⟩⟩
    · rw [Nat.mul_one, List.size_toArray, length_splice _ _ _ (by simp; omega)]
      exact hcur
    · simp only [Nat.mul_one, splice, List.take_zero, List.nil_append, Nat.zero_add, List.length_map, hsz]
      rw [List.map_append, List.take_append, List.length_map, hsz, List.take_of_length_le (by simp; omega), List.map_drop, ← htake]
      congr 1
      rw [List.drop_take]

set_option maxRecDepth 100000 in
theorem fresh_any (a : Option Addr) (len cap : Nat) (l : List Nat) (w : World) (hs : Bts w a len cap l) :
    Calls Tryd.prog 43 #[.slice a len cap] w fun e w' => ∃ g, e = .returned (.slice (some ⟨g, 0, none⟩) len len) ∧ Own w' w.heap.size (.slice (some ⟨g, 0, none⟩) len len) l ∧ Below w.heap.size w w' := by
  have hm := hs.most
  have HS := hide hs
  have HZ : Hid (l ++ (List.replicate len 0).drop len = l) := by unfold Hid; simp
  clear hs
  go_enter Tryd.func43, Tryd.ntmps43
  go_wp2_with (first | (at_make; refine make_bts rfl (.tmp 5) (.tmp 5) rfl _ _ len rfl rfl rfl rfl hm ?_; intro w1 hown1 hb1) | (refine copy_bts rfl (.tmp 7) (.tmp 8) rfl w.heap.size w.heap.size len len _ rfl hown1 (by simp) a len cap l rfl (HS.out.below hb1) (Nat.le_refl _) ?_; intro w2 hown2 hb2))
  go_ret
  exact ⟨w.heap.size, rfl, by rw [← HZ.out]; exact hown2, hb1.trans hb2⟩
end Go.Proofs.YtgnkmenjjmfcfaaDoor
