/-
  The law's fixed state.
-/
import Derived.Test.YtkjbcnlhallcdaaVsCopy
namespace Go.Proofs.Ytkjbcnlhallcdaa
open Go.RowKit FerryCrc
set_option linter.unusedVariables false
set_option linter.unusedSimpArgs false

def someProcs : Array Value := (.int .u32 0 :: .int .u32 0 :: .int .u32 0 :: .int .u32 0 :: .int .u32 0 :: .int .u32 0 :: .int .u32 0 :: .int .u32 0 :: .int .u32 0 :: .int .u32 0 :: .int .u32 0 :: .int .u32 0 :: .int .u32 0 :: .int .u32 0 :: .int .u32 0 :: .int .u32 0 :: .int .u32 0 :: .int .i64 1 :: .int .i64 0 :: .int .i64 0 :: .int .i64 0 :: .int .u32 0 :: .int .u32 0 :: .int .u32 0 :: .int .u32 0 :: .int .u32 0 :: .int .u32 0 :: .int .u32 0 :: .int .u32 0 :: .int .u32 0 :: .int .u32 0 :: .int .u32 0 :: .int .u32 0 :: .int .u32 0 :: .int .u32 0 :: .int .u32 0 :: .int .u32 0 :: .int .u32 0 :: .int .i64 1 :: .int .i64 0 :: .int .i64 0 :: .int .i64 0 :: []).toArray
theorem some_procs_eq : (.int .u32 0 :: .int .u32 0 :: .int .u32 0 :: .int .u32 0 :: .int .u32 0 :: .int .u32 0 :: .int .u32 0 :: .int .u32 0 :: .int .u32 0 :: .int .u32 0 :: .int .u32 0 :: .int .u32 0 :: .int .u32 0 :: .int .u32 0 :: .int .u32 0 :: .int .u32 0 :: .int .u32 0 :: .int .i64 1 :: .int .i64 0 :: .int .i64 0 :: .int .i64 0 :: .int .u32 0 :: .int .u32 0 :: .int .u32 0 :: .int .u32 0 :: .int .u32 0 :: .int .u32 0 :: .int .u32 0 :: .int .u32 0 :: .int .u32 0 :: .int .u32 0 :: .int .u32 0 :: .int .u32 0 :: .int .u32 0 :: .int .u32 0 :: .int .u32 0 :: .int .u32 0 :: .int .u32 0 :: .int .i64 1 :: .int .i64 0 :: .int .i64 0 :: .int .i64 0 :: []).toArray = someProcs := rfl
def somePage : Array Value := (.int .i64 7 :: .bool false :: List.replicate 64 (.int .u8 0)).toArray
set_option maxRecDepth 100000 in
theorem some_page : Array.foldl (fun (cs : Array Value) (x : Value × Nat) => cs.setIfInBounds x.snd x.fst) #[zPageV[0]!, zPageV[1 % zPageV.size]!, zPageV[2 % zPageV.size]!, zPageV[3 % zPageV.size]!, zPageV[4 % zPageV.size]!, zPageV[5 % zPageV.size]!, zPageV[6 % zPageV.size]!, zPageV[7 % zPageV.size]!, zPageV[8 % zPageV.size]!, zPageV[9 % zPageV.size]!, zPageV[10 % zPageV.size]!, zPageV[11 % zPageV.size]!, zPageV[12 % zPageV.size]!, zPageV[13 % zPageV.size]!, zPageV[14 % zPageV.size]!, zPageV[15 % zPageV.size]!, zPageV[16 % zPageV.size]!, zPageV[17 % zPageV.size]!, zPageV[18 % zPageV.size]!, zPageV[19 % zPageV.size]!, zPageV[20 % zPageV.size]!, zPageV[21 % zPageV.size]!, zPageV[22 % zPageV.size]!, zPageV[23 % zPageV.size]!, zPageV[24 % zPageV.size]!, zPageV[25 % zPageV.size]!, zPageV[26 % zPageV.size]!, zPageV[27 % zPageV.size]!, zPageV[28 % zPageV.size]!, zPageV[29 % zPageV.size]!, zPageV[30 % zPageV.size]!, zPageV[31 % zPageV.size]!, zPageV[32 % zPageV.size]!, zPageV[33 % zPageV.size]!, zPageV[34 % zPageV.size]!, zPageV[35 % zPageV.size]!, zPageV[36 % zPageV.size]!, zPageV[37 % zPageV.size]!, zPageV[38 % zPageV.size]!, zPageV[39 % zPageV.size]!, zPageV[40 % zPageV.size]!, zPageV[41 % zPageV.size]!, zPageV[42 % zPageV.size]!, zPageV[43 % zPageV.size]!, zPageV[44 % zPageV.size]!, zPageV[45 % zPageV.size]!, zPageV[46 % zPageV.size]!, zPageV[47 % zPageV.size]!, zPageV[48 % zPageV.size]!, zPageV[49 % zPageV.size]!, zPageV[50 % zPageV.size]!, zPageV[51 % zPageV.size]!, zPageV[52 % zPageV.size]!, zPageV[53 % zPageV.size]!, zPageV[54 % zPageV.size]!, zPageV[55 % zPageV.size]!, zPageV[56 % zPageV.size]!, zPageV[57 % zPageV.size]!, zPageV[58 % zPageV.size]!, zPageV[59 % zPageV.size]!, zPageV[60 % zPageV.size]!, zPageV[61 % zPageV.size]!, zPageV[62 % zPageV.size]!, zPageV[63 % zPageV.size]!, zPageV[64 % zPageV.size]!, zPageV[65 % zPageV.size]!] ((zPageV.setIfInBounds 0 (Value.int IntKind.i64 7)).zipIdx) 0 zPageV.size = somePage := by kernel_rfl
/-- Several blocks made one behind the other. -/
def allocs (w : World) (l : List Obj) : World := l.foldl World.alloc w
theorem allocs_heap : ∀ (l : List Obj) (w : World), (allocs w l).heap.toList = w.heap.toList ++ l
  | [], w => by simp [allocs]
  | o :: l, w => by
    show (allocs (w.alloc o) l).heap.toList = _
    rw [allocs_heap l]
    show (w.heap.push o).toList ++ l = _
    simp
theorem allocs_at (w : World) (l : List Obj) (j : Nat) {o : Obj} (h : l[j]? = some o) : (allocs w l).heap[w.heap.size + j]? = some o := by
  rw [← Array.getElem?_toList, allocs_heap, List.getElem?_append_right (by simp)]
  simpa using h
theorem allocs_below : ∀ (l : List Obj) (w : World), Below w.heap.size w (allocs w l)
  | [], w => Below.refl _ _
  | o :: l, w => chain (one_below w o) (allocs_below l (w.alloc o))
theorem bl_block {w : World} {g : Nat} {c : Array Value} {e : TypeId} (h : w.heap[g]? = some (.cells c e)) : Bl w g c.toList := by
  refine ⟨fun j v hv => ?_, fun j => ?_⟩
  · simp only [World.cell?, h]
    simpa using hv
  · simp [World.frozen?, h]
theorem own_block {w : World} {g : Nat} {c : Array Value} {e : TypeId} {n sz : Nat} (h : w.heap[g]? = some (.cells c e)) (hc : c.size = n * sz) (hn : n ≤ maxLen) : w.ownsRow g e sz (.slice (some ⟨g, 0, none⟩) n n) n c.toList :=
  ⟨by simpa using hc, .inr ⟨g, n, c, rfl, Nat.le_refl _, h, Nat.le_refl _, hn, hc, by rw [← hc]; exact List.take_of_length_le (by simp)⟩⟩
/-- The keys of the pieces of a row. -/
def keysOf (K : Nat → TypeId → List Value → Option (List Lit)) (D : Nat) (t : TypeId) (sz n : Nat) (cs : List Value) : List (List Lit) := (List.range n).map fun k => (K D t ((cs.drop (k * sz)).take sz)).getD []
theorem kr_block {w : World} {g : Nat} {c : Array Value} {e t : TypeId} {n sz byt D : Nat} (h : w.heap[g]? = some (.cells c e)) (hc : c.size = n * sz) (hm : n * byt ≤ 140737488355328) (hn : n ≤ maxLen) (one : c.toList.all (·.oneCell') = true)
    (hk : (List.range n).all (fun k => (Try.prog.keyLits D t ((c.toList.drop (k * sz)).take sz)).isSome) = true) : Kr w t sz byt (some ⟨g, 0, none⟩) n n c.toList (keysOf Try.prog.keyLits D t sz n c.toList) := by
  refine ⟨(own_lg (own_block (sz := sz) h hc hn)).row, by simp [keysOf], hm, fun u hu => List.all_eq_true.1 one u hu, fun k l hl => ⟨D, ?_⟩⟩
  rw [keysOf, List.getElem?_map] at hl
  by_cases hkn : k < n
  · rw [List.getElem?_range hkn] at hl
    simp only [Option.map_some, Option.some.injEq] at hl
    obtain ⟨x, hx⟩ := Option.isSome_iff_exists.1 (List.all_eq_true.1 hk k (List.mem_range.2 hkn))
    rw [hx] at hl ⊢
    simpa using hl
  · rw [List.getElem?_eq_none (by simpa using hkn)] at hl
    cases hl
theorem kr_empty (w : World) (t : TypeId) (sz byt : Nat) : Kr w t sz byt none 0 0 [] [] := ⟨⟨by simp, Nat.le_refl _, fun _ => ⟨rfl, rfl⟩, fun j v hv => by simp at hv⟩, rfl, by simp, fun u hu => by simp at hu, fun k l hl => by simp at hl⟩
set_option maxRecDepth 100000 in
theorem some_procs : (List.range 2).all (fun k => (Try.prog.keyLits 4 52 ((someProcs.toList.drop (k * 21)).take 21)).isSome) = true := by kernel_rfl
set_option maxRecDepth 100000 in
theorem some_ready : (List.range 2).all (fun k => (Try.prog.keyLits 4 3 ((#[.int .i64 0, .int .i64 1].toList.drop (k * 1)).take 1)).isSome) = true := by kernel_rfl
set_option maxRecDepth 100000 in
theorem some_up : (List.range 2).all (fun k => (Try.prog.keyLits 4 4 ((#[.bool false, .bool false].toList.drop (k * 1)).take 1)).isSome) = true := by kernel_rfl
set_option maxRecDepth 100000 in
theorem some_sems : (List.range 1).all (fun k => (Try.prog.keyLits 4 3 ((#[.int .i64 0].toList.drop (k * 1)).take 1)).isSome) = true := by kernel_rfl
set_option maxRecDepth 100000 in
theorem some_pages : (List.range 1).all (fun k => (Try.prog.keyLits 4 40 ((somePage.toList.drop (k * 66)).take 66)).isSome) = true := by kernel_rfl
def someS (K : Nat → TypeId → List Value → Option (List Lit)) : Sk := ⟨7, 0, 0, keysOf K 4 52 21 2 someProcs.toList, keysOf K 4 3 1 2 #[.int .i64 0, .int .i64 1].toList, [], keysOf K 4 4 1 2 #[.bool false, .bool false].toList, keysOf K 4 3 1 1 #[.int .i64 0].toList, [(0, [])], keysOf K 4 40 66 1 somePage.toList⟩
set_option maxRecDepth 100000 in
theorem some_srf (w W : World) (h7 : W.heap[w.heap.size + 1 + 1 + 1 + 1 + 1 + 1 + 1]? = some (.cells someProcs 52)) (h8 : W.heap[w.heap.size + 1 + 1 + 1 + 1 + 1 + 1 + 1 + 1]? = some (.cells #[.int .i64 0, .int .i64 1] 3)) (h9 : W.heap[w.heap.size + 1 + 1 + 1 + 1 + 1 + 1 + 1 + 1 + 1]? = some (.cells #[.bool false, .bool false] 4)) (h10 : W.heap[w.heap.size + 1 + 1 + 1 + 1 + 1 + 1 + 1 + 1 + 1 + 1]? = some (.cells #[.int .i64 0] 3)) (h11 : W.heap[w.heap.size + 1 + 1 + 1 + 1 + 1 + 1 + 1 + 1 + 1 + 1 + 1]? = some (.cells #[.slice none 0 0, .int .i64 0] 55)) (h12 : W.heap[w.heap.size + 1 + 1 + 1 + 1 + 1 + 1 + 1 + 1 + 1 + 1 + 1 + 1]? = some (.cells somePage 40)) : Srf (w.heap.size + 1 + 1) W [.int .i64 7, .int .i64 0, .int .i64 0, .slice (some ⟨w.heap.size + 1 + 1 + 1 + 1 + 1 + 1 + 1, 0, none⟩) 2 2, .slice (some ⟨w.heap.size + 1 + 1 + 1 + 1 + 1 + 1 + 1 + 1, 0, none⟩) 2 2, .slice none 0 0, .slice (some ⟨w.heap.size + 1 + 1 + 1 + 1 + 1 + 1 + 1 + 1 + 1, 0, none⟩) 2 2, .slice (some ⟨w.heap.size + 1 + 1 + 1 + 1 + 1 + 1 + 1 + 1 + 1 + 1, 0, none⟩) 1 1, .slice (some ⟨w.heap.size + 1 + 1 + 1 + 1 + 1 + 1 + 1 + 1 + 1 + 1 + 1, 0, none⟩) 1 1, .slice (some ⟨w.heap.size + 1 + 1 + 1 + 1 + 1 + 1 + 1 + 1 + 1 + 1 + 1 + 1, 0, none⟩) 1 1] (someS Try.prog.keyLits) := by
  intro W2 hW
  have g7 := (hW (w.heap.size + 1 + 1 + 1 + 1 + 1 + 1 + 1) (by omega)).trans h7
  have g8 := (hW (w.heap.size + 1 + 1 + 1 + 1 + 1 + 1 + 1 + 1) (by omega)).trans h8
  have g9 := (hW (w.heap.size + 1 + 1 + 1 + 1 + 1 + 1 + 1 + 1 + 1) (by omega)).trans h9
  have g10 := (hW (w.heap.size + 1 + 1 + 1 + 1 + 1 + 1 + 1 + 1 + 1 + 1) (by omega)).trans h10
  have g11 := (hW (w.heap.size + 1 + 1 + 1 + 1 + 1 + 1 + 1 + 1 + 1 + 1 + 1) (by omega)).trans h11
  have g12 := (hW (w.heap.size + 1 + 1 + 1 + 1 + 1 + 1 + 1 + 1 + 1 + 1 + 1 + 1) (by omega)).trans h12
  refine ⟨_, _, _, _, _, _, _, _, none, 0, 0, [], _, _, _, _, _, _, _, _, _, _, _, #[.slice none 0 0, .int .i64 0].toList, _, _, _, _, rfl, kr_block (byt := 104) g7 rfl (by decide) (by decide) (by kernel_rfl) some_procs, kr_block (byt := 8) g8 rfl (by decide) (by decide) (by kernel_rfl) some_ready, kr_empty _ _ _ _, kr_block (byt := 1) g9 rfl (by decide) (by decide) (by kernel_rfl) some_up, kr_block (byt := 8) g10 rfl (by decide) (by decide) (by kernel_rfl) some_sems, ⟨(own_lg (own_block (sz := 2) (n := 1) g11 rfl (by decide))).row, rfl, by decide, fun u hu => ?_, fun k p hp => ?_⟩, kr_block (byt := 80) g12 rfl (by decide) (by decide) (by kernel_rfl) some_pages⟩
  · have hu' : u ∈ [Value.slice none 0 0, Value.int .i64 0] := hu
    simp only [List.mem_cons, List.not_mem_nil, or_false] at hu'
    rcases hu' with rfl | rfl <;> rfl
  · match k, hp with
    | 0, hp =>
      obtain rfl := Option.some.inj hp
      exact ⟨none, 0, 0, [], rfl, rfl, kr_empty _ _ _ _⟩
    | k + 1, hp => simp [someS] at hp
/-- Seven stores into one box. -/
theorem seven_sets {w0 w : World} {B g : Nat} {A : List Value} (hb : Below B w0 w) (hg : B ≤ g) (hA : Bl w g A) (hl : A.length = 7) (v0 v1 v2 v3 v4 v5 v6 : Value) :
    Below B w0 (((((((w.setCell ⟨g, 0, none⟩ (v0)).setCell ⟨g, 1, none⟩ (v1)).setCell ⟨g, 2, none⟩ (v2)).setCell ⟨g, 3, none⟩ (v3)).setCell ⟨g, 4, none⟩ (v4)).setCell ⟨g, 5, none⟩ (v5)).setCell ⟨g, 6, none⟩ (v6)) ∧ Bl (((((((w.setCell ⟨g, 0, none⟩ (v0)).setCell ⟨g, 1, none⟩ (v1)).setCell ⟨g, 2, none⟩ (v2)).setCell ⟨g, 3, none⟩ (v3)).setCell ⟨g, 4, none⟩ (v4)).setCell ⟨g, 5, none⟩ (v5)).setCell ⟨g, 6, none⟩ (v6)) g [v0, v1, v2, v3, v4, v5, v6] ∧ (∀ b, b ≠ g → (((((((w.setCell ⟨g, 0, none⟩ (v0)).setCell ⟨g, 1, none⟩ (v1)).setCell ⟨g, 2, none⟩ (v2)).setCell ⟨g, 3, none⟩ (v3)).setCell ⟨g, 4, none⟩ (v4)).setCell ⟨g, 5, none⟩ (v5)).setCell ⟨g, 6, none⟩ (v6)).heap[b]? = w.heap[b]?) ∧ (((((((w.setCell ⟨g, 0, none⟩ (v0)).setCell ⟨g, 1, none⟩ (v1)).setCell ⟨g, 2, none⟩ (v2)).setCell ⟨g, 3, none⟩ (v3)).setCell ⟨g, 4, none⟩ (v4)).setCell ⟨g, 5, none⟩ (v5)).setCell ⟨g, 6, none⟩ (v6)).heap.size = w.heap.size := by
  match A, hl with
  | [x0, x1, x2, x3, x4, x5, x6], _ =>
    refine ⟨?_, ?_, fun b h => ?_, by simp [World.setCell]⟩
    · exact ((((((hb.setCell (p := ⟨g, 0, none⟩) hg v0).setCell (p := ⟨g, 1, none⟩) hg v1).setCell (p := ⟨g, 2, none⟩) hg v2).setCell (p := ⟨g, 3, none⟩) hg v3).setCell (p := ⟨g, 4, none⟩) hg v4).setCell (p := ⟨g, 5, none⟩) hg v5).setCell (p := ⟨g, 6, none⟩) hg v6
    · exact ((((((hA.set (k := 0) (by simp) v0).set (k := 1) (by simp) v1).set (k := 2) (by simp) v2).set (k := 3) (by simp) v3).set (k := 4) (by simp) v4).set (k := 5) (by simp) v5).set (k := 6) (by simp) v6
    · rw [Below.heap_setCell _ _ _ _ h, Below.heap_setCell _ _ _ _ h, Below.heap_setCell _ _ _ _ h, Below.heap_setCell _ _ _ _ h, Below.heap_setCell _ _ _ _ h, Below.heap_setCell _ _ _ _ h, Below.heap_setCell _ _ _ _ h]
theorem bl_same {w w' : World} {g : Nat} {cs : List Value} (h : Bl w g cs) (hw : w'.heap[g]? = w.heap[g]?) : Bl w' g cs :=
  ⟨fun j v hv => (World.cell?_of_block (w := w) (a := ⟨g, j, none⟩) hw).trans (h.cell j v hv), fun j => (World.frozen?_of_block (w := w) (a := ⟨g, j, none⟩) hw).trans (h.free j)⟩
theorem some_held {w wz : World} (hp : Bl wz (w.heap.size + 1 + 1 + 1 + 1 + 1 + 1) [.int .i64 7, .bool false, .slice (some ⟨w.heap.size + 1 + 1, 0, none⟩) 1 1, .slice (some ⟨w.heap.size + 1 + 1 + 1, 0, none⟩) 2 2, .slice (some ⟨w.heap.size + 1 + 1 + 1 + 1, 0, none⟩) 1 1, .int .i64 2, .slice (some ⟨w.heap.size + 1 + 1 + 1 + 1 + 1, 0, none⟩) 1 1]) (hs : Bl wz (w.heap.size + 1 + 1 + 1 + 1 + 1 + 1 + 1 + 1 + 1 + 1 + 1 + 1 + 1) [.int .i64 7, .int .i64 0, .int .i64 0, .slice (some ⟨w.heap.size + 1 + 1 + 1 + 1 + 1 + 1 + 1, 0, none⟩) 2 2, .slice (some ⟨w.heap.size + 1 + 1 + 1 + 1 + 1 + 1 + 1 + 1, 0, none⟩) 2 2, .slice none 0 0, .slice (some ⟨w.heap.size + 1 + 1 + 1 + 1 + 1 + 1 + 1 + 1 + 1, 0, none⟩) 2 2, .slice (some ⟨w.heap.size + 1 + 1 + 1 + 1 + 1 + 1 + 1 + 1 + 1 + 1, 0, none⟩) 1 1, .slice (some ⟨w.heap.size + 1 + 1 + 1 + 1 + 1 + 1 + 1 + 1 + 1 + 1 + 1, 0, none⟩) 1 1, .slice (some ⟨w.heap.size + 1 + 1 + 1 + 1 + 1 + 1 + 1 + 1 + 1 + 1 + 1 + 1, 0, none⟩) 1 1]) : (fun wz => wz.cell? ⟨w.heap.size + 1 + 1 + 1 + 1 + 1 + 1, 0, none⟩ = some (.int .i64 7) ∧ wz.cell? ⟨w.heap.size + 1 + 1 + 1 + 1 + 1 + 1, 1, none⟩ = some (.bool false) ∧ wz.cell? ⟨w.heap.size + 1 + 1 + 1 + 1 + 1 + 1, 2, none⟩ = some (.slice (some ⟨w.heap.size + 1 + 1, 0, none⟩) 1 1) ∧ wz.cell? ⟨w.heap.size + 1 + 1 + 1 + 1 + 1 + 1, 3, none⟩ = some (.slice (some ⟨w.heap.size + 1 + 1 + 1, 0, none⟩) 2 2) ∧ wz.cell? ⟨w.heap.size + 1 + 1 + 1 + 1 + 1 + 1, 4, none⟩ = some (.slice (some ⟨w.heap.size + 1 + 1 + 1 + 1, 0, none⟩) 1 1) ∧ wz.cell? ⟨w.heap.size + 1 + 1 + 1 + 1 + 1 + 1, 5, none⟩ = some (.int .i64 2) ∧ wz.cell? ⟨w.heap.size + 1 + 1 + 1 + 1 + 1 + 1, 6, none⟩ = some (.slice (some ⟨w.heap.size + 1 + 1 + 1 + 1 + 1, 0, none⟩) 1 1) ∧ wz.cell? ⟨w.heap.size + 1 + 1 + 1 + 1 + 1 + 1 + 1 + 1 + 1 + 1 + 1 + 1 + 1, 0, none⟩ = some (.int .i64 7) ∧ wz.cell? ⟨w.heap.size + 1 + 1 + 1 + 1 + 1 + 1 + 1 + 1 + 1 + 1 + 1 + 1 + 1, 1, none⟩ = some (.int .i64 0) ∧ wz.cell? ⟨w.heap.size + 1 + 1 + 1 + 1 + 1 + 1 + 1 + 1 + 1 + 1 + 1 + 1 + 1, 2, none⟩ = some (.int .i64 0) ∧ wz.cell? ⟨w.heap.size + 1 + 1 + 1 + 1 + 1 + 1 + 1 + 1 + 1 + 1 + 1 + 1 + 1, 3, none⟩ = some (.slice (some ⟨w.heap.size + 1 + 1 + 1 + 1 + 1 + 1 + 1, 0, none⟩) 2 2) ∧ wz.cell? ⟨w.heap.size + 1 + 1 + 1 + 1 + 1 + 1 + 1 + 1 + 1 + 1 + 1 + 1 + 1, 4, none⟩ = some (.slice (some ⟨w.heap.size + 1 + 1 + 1 + 1 + 1 + 1 + 1 + 1, 0, none⟩) 2 2) ∧ wz.cell? ⟨w.heap.size + 1 + 1 + 1 + 1 + 1 + 1 + 1 + 1 + 1 + 1 + 1 + 1 + 1, 5, none⟩ = some (.slice none 0 0) ∧ wz.cell? ⟨w.heap.size + 1 + 1 + 1 + 1 + 1 + 1 + 1 + 1 + 1 + 1 + 1 + 1 + 1, 6, none⟩ = some (.slice (some ⟨w.heap.size + 1 + 1 + 1 + 1 + 1 + 1 + 1 + 1 + 1, 0, none⟩) 2 2) ∧ wz.cell? ⟨w.heap.size + 1 + 1 + 1 + 1 + 1 + 1 + 1 + 1 + 1 + 1 + 1 + 1 + 1, 7, none⟩ = some (.slice (some ⟨w.heap.size + 1 + 1 + 1 + 1 + 1 + 1 + 1 + 1 + 1 + 1, 0, none⟩) 1 1) ∧ wz.cell? ⟨w.heap.size + 1 + 1 + 1 + 1 + 1 + 1 + 1 + 1 + 1 + 1 + 1 + 1 + 1, 8, none⟩ = some (.slice (some ⟨w.heap.size + 1 + 1 + 1 + 1 + 1 + 1 + 1 + 1 + 1 + 1 + 1, 0, none⟩) 1 1) ∧ wz.cell? ⟨w.heap.size + 1 + 1 + 1 + 1 + 1 + 1 + 1 + 1 + 1 + 1 + 1 + 1 + 1, 9, none⟩ = some (.slice (some ⟨w.heap.size + 1 + 1 + 1 + 1 + 1 + 1 + 1 + 1 + 1 + 1 + 1 + 1, 0, none⟩) 1 1)) wz := ⟨hp.cell 0 _ rfl, hp.cell 1 _ rfl, hp.cell 2 _ rfl, hp.cell 3 _ rfl, hp.cell 4 _ rfl, hp.cell 5 _ rfl, hp.cell 6 _ rfl, hs.cell 0 _ rfl, hs.cell 1 _ rfl, hs.cell 2 _ rfl, hs.cell 3 _ rfl, hs.cell 4 _ rfl, hs.cell 5 _ rfl, hs.cell 6 _ rfl, hs.cell 7 _ rfl, hs.cell 8 _ rfl, hs.cell 9 _ rfl⟩
set_option maxRecDepth 100000 in
set_option maxHeartbeats 4000000 in
theorem some_exact (w : World) : Calls Try.prog 5 #[] w fun e w' => ∃ x2 x3 x4 x6 cs, e = .returned (.tuple #[.agg #[.int .i64 7, .bool false, .slice x2 1 1, .slice x3 2 2, .slice x4 1 1, .int .i64 2, .slice x6 1 1], .agg cs.toArray]) ∧ Sr w' cs (someS Try.prog.keyLits) ∧ Below w.heap.size w w' := by
  have HA : ∀ PG : Array Value, PG = somePage → Hid (∀ j o, [.cells #[.int .i64 0, .bool false, .slice none 0 0, .slice none 0 0, .slice none 0 0, .int .i64 0, .slice none 0 0] 34, .cells #[.int .i64 0, .int .i64 0, .int .i64 0, .slice none 0 0, .slice none 0 0, .slice none 0 0, .slice none 0 0, .slice none 0 0, .slice none 0 0, .slice none 0 0] 29, .cells #[.int .i64 7, .string ⟨#[]⟩] 44, .cells #[.int .i64 0, .int .i64 0, .bool true, .int .i64 0, .int .i64 0, .bool true] 46, .cells #[.int .i64 3, .int .i64 4, .int .i64 2, .int .i64 0] 48, .cells #[.int .i64 0] 3, .cells #[.int .i64 7, .bool false, .slice (some ⟨w.heap.size + 1 + 1, 0, none⟩) 1 1, .slice (some ⟨w.heap.size + 1 + 1 + 1, 0, none⟩) 2 2, .slice (some ⟨w.heap.size + 1 + 1 + 1 + 1, 0, none⟩) 1 1, .int .i64 2, .slice (some ⟨w.heap.size + 1 + 1 + 1 + 1 + 1, 0, none⟩) 1 1] 34, .cells someProcs 52, .cells #[.int .i64 0, .int .i64 1] 3, .cells #[.bool false, .bool false] 4, .cells #[.int .i64 0] 3, .cells #[.slice none 0 0, .int .i64 0] 55, .cells PG 40, .cells #[.int .i64 7, .int .i64 0, .int .i64 0, .slice (some ⟨w.heap.size + 1 + 1 + 1 + 1 + 1 + 1 + 1, 0, none⟩) 2 2, .slice (some ⟨w.heap.size + 1 + 1 + 1 + 1 + 1 + 1 + 1 + 1, 0, none⟩) 2 2, .slice none 0 0, .slice (some ⟨w.heap.size + 1 + 1 + 1 + 1 + 1 + 1 + 1 + 1 + 1, 0, none⟩) 2 2, .slice (some ⟨w.heap.size + 1 + 1 + 1 + 1 + 1 + 1 + 1 + 1 + 1 + 1, 0, none⟩) 1 1, .slice (some ⟨w.heap.size + 1 + 1 + 1 + 1 + 1 + 1 + 1 + 1 + 1 + 1 + 1, 0, none⟩) 1 1, .slice (some ⟨w.heap.size + 1 + 1 + 1 + 1 + 1 + 1 + 1 + 1 + 1 + 1 + 1 + 1, 0, none⟩) 1 1] 29][j]? = some o → ((((((((((((((w.alloc (.cells #[.int .i64 0, .bool false, .slice none 0 0, .slice none 0 0, .slice none 0 0, .int .i64 0, .slice none 0 0] 34)).alloc (.cells #[.int .i64 0, .int .i64 0, .int .i64 0, .slice none 0 0, .slice none 0 0, .slice none 0 0, .slice none 0 0, .slice none 0 0, .slice none 0 0, .slice none 0 0] 29)).alloc (.cells #[.int .i64 7, .string ⟨#[]⟩] 44)).alloc (.cells #[.int .i64 0, .int .i64 0, .bool true, .int .i64 0, .int .i64 0, .bool true] 46)).alloc (.cells #[.int .i64 3, .int .i64 4, .int .i64 2, .int .i64 0] 48)).alloc (.cells #[.int .i64 0] 3)).alloc (.cells #[.int .i64 7, .bool false, .slice (some ⟨w.heap.size + 1 + 1, 0, none⟩) 1 1, .slice (some ⟨w.heap.size + 1 + 1 + 1, 0, none⟩) 2 2, .slice (some ⟨w.heap.size + 1 + 1 + 1 + 1, 0, none⟩) 1 1, .int .i64 2, .slice (some ⟨w.heap.size + 1 + 1 + 1 + 1 + 1, 0, none⟩) 1 1] 34)).alloc (.cells someProcs 52)).alloc (.cells #[.int .i64 0, .int .i64 1] 3)).alloc (.cells #[.bool false, .bool false] 4)).alloc (.cells #[.int .i64 0] 3)).alloc (.cells #[.slice none 0 0, .int .i64 0] 55)).alloc (.cells PG 40)).alloc (.cells #[.int .i64 7, .int .i64 0, .int .i64 0, .slice (some ⟨w.heap.size + 1 + 1 + 1 + 1 + 1 + 1 + 1, 0, none⟩) 2 2, .slice (some ⟨w.heap.size + 1 + 1 + 1 + 1 + 1 + 1 + 1 + 1, 0, none⟩) 2 2, .slice none 0 0, .slice (some ⟨w.heap.size + 1 + 1 + 1 + 1 + 1 + 1 + 1 + 1 + 1, 0, none⟩) 2 2, .slice (some ⟨w.heap.size + 1 + 1 + 1 + 1 + 1 + 1 + 1 + 1 + 1 + 1, 0, none⟩) 1 1, .slice (some ⟨w.heap.size + 1 + 1 + 1 + 1 + 1 + 1 + 1 + 1 + 1 + 1 + 1, 0, none⟩) 1 1, .slice (some ⟨w.heap.size + 1 + 1 + 1 + 1 + 1 + 1 + 1 + 1 + 1 + 1 + 1 + 1, 0, none⟩) 1 1] 29)).heap[w.heap.size + j]? = some o) := fun PG hPG j o h => allocs_at w [.cells #[.int .i64 0, .bool false, .slice none 0 0, .slice none 0 0, .slice none 0 0, .int .i64 0, .slice none 0 0] 34, .cells #[.int .i64 0, .int .i64 0, .int .i64 0, .slice none 0 0, .slice none 0 0, .slice none 0 0, .slice none 0 0, .slice none 0 0, .slice none 0 0, .slice none 0 0] 29, .cells #[.int .i64 7, .string ⟨#[]⟩] 44, .cells #[.int .i64 0, .int .i64 0, .bool true, .int .i64 0, .int .i64 0, .bool true] 46, .cells #[.int .i64 3, .int .i64 4, .int .i64 2, .int .i64 0] 48, .cells #[.int .i64 0] 3, .cells #[.int .i64 7, .bool false, .slice (some ⟨w.heap.size + 1 + 1, 0, none⟩) 1 1, .slice (some ⟨w.heap.size + 1 + 1 + 1, 0, none⟩) 2 2, .slice (some ⟨w.heap.size + 1 + 1 + 1 + 1, 0, none⟩) 1 1, .int .i64 2, .slice (some ⟨w.heap.size + 1 + 1 + 1 + 1 + 1, 0, none⟩) 1 1] 34, .cells someProcs 52, .cells #[.int .i64 0, .int .i64 1] 3, .cells #[.bool false, .bool false] 4, .cells #[.int .i64 0] 3, .cells #[.slice none 0 0, .int .i64 0] 55, .cells PG 40, .cells #[.int .i64 7, .int .i64 0, .int .i64 0, .slice (some ⟨w.heap.size + 1 + 1 + 1 + 1 + 1 + 1 + 1, 0, none⟩) 2 2, .slice (some ⟨w.heap.size + 1 + 1 + 1 + 1 + 1 + 1 + 1 + 1, 0, none⟩) 2 2, .slice none 0 0, .slice (some ⟨w.heap.size + 1 + 1 + 1 + 1 + 1 + 1 + 1 + 1 + 1, 0, none⟩) 2 2, .slice (some ⟨w.heap.size + 1 + 1 + 1 + 1 + 1 + 1 + 1 + 1 + 1 + 1, 0, none⟩) 1 1, .slice (some ⟨w.heap.size + 1 + 1 + 1 + 1 + 1 + 1 + 1 + 1 + 1 + 1 + 1, 0, none⟩) 1 1, .slice (some ⟨w.heap.size + 1 + 1 + 1 + 1 + 1 + 1 + 1 + 1 + 1 + 1 + 1 + 1, 0, none⟩) 1 1] 29] j h
  have HB : ∀ PG : Array Value, Hid (Below w.heap.size w ((((((((((((((w.alloc (.cells #[.int .i64 0, .bool false, .slice none 0 0, .slice none 0 0, .slice none 0 0, .int .i64 0, .slice none 0 0] 34)).alloc (.cells #[.int .i64 0, .int .i64 0, .int .i64 0, .slice none 0 0, .slice none 0 0, .slice none 0 0, .slice none 0 0, .slice none 0 0, .slice none 0 0, .slice none 0 0] 29)).alloc (.cells #[.int .i64 7, .string ⟨#[]⟩] 44)).alloc (.cells #[.int .i64 0, .int .i64 0, .bool true, .int .i64 0, .int .i64 0, .bool true] 46)).alloc (.cells #[.int .i64 3, .int .i64 4, .int .i64 2, .int .i64 0] 48)).alloc (.cells #[.int .i64 0] 3)).alloc (.cells #[.int .i64 7, .bool false, .slice (some ⟨w.heap.size + 1 + 1, 0, none⟩) 1 1, .slice (some ⟨w.heap.size + 1 + 1 + 1, 0, none⟩) 2 2, .slice (some ⟨w.heap.size + 1 + 1 + 1 + 1, 0, none⟩) 1 1, .int .i64 2, .slice (some ⟨w.heap.size + 1 + 1 + 1 + 1 + 1, 0, none⟩) 1 1] 34)).alloc (.cells someProcs 52)).alloc (.cells #[.int .i64 0, .int .i64 1] 3)).alloc (.cells #[.bool false, .bool false] 4)).alloc (.cells #[.int .i64 0] 3)).alloc (.cells #[.slice none 0 0, .int .i64 0] 55)).alloc (.cells PG 40)).alloc (.cells #[.int .i64 7, .int .i64 0, .int .i64 0, .slice (some ⟨w.heap.size + 1 + 1 + 1 + 1 + 1 + 1 + 1, 0, none⟩) 2 2, .slice (some ⟨w.heap.size + 1 + 1 + 1 + 1 + 1 + 1 + 1 + 1, 0, none⟩) 2 2, .slice none 0 0, .slice (some ⟨w.heap.size + 1 + 1 + 1 + 1 + 1 + 1 + 1 + 1 + 1, 0, none⟩) 2 2, .slice (some ⟨w.heap.size + 1 + 1 + 1 + 1 + 1 + 1 + 1 + 1 + 1 + 1, 0, none⟩) 1 1, .slice (some ⟨w.heap.size + 1 + 1 + 1 + 1 + 1 + 1 + 1 + 1 + 1 + 1 + 1, 0, none⟩) 1 1, .slice (some ⟨w.heap.size + 1 + 1 + 1 + 1 + 1 + 1 + 1 + 1 + 1 + 1 + 1 + 1, 0, none⟩) 1 1] 29))) := fun PG => allocs_below [.cells #[.int .i64 0, .bool false, .slice none 0 0, .slice none 0 0, .slice none 0 0, .int .i64 0, .slice none 0 0] 34, .cells #[.int .i64 0, .int .i64 0, .int .i64 0, .slice none 0 0, .slice none 0 0, .slice none 0 0, .slice none 0 0, .slice none 0 0, .slice none 0 0, .slice none 0 0] 29, .cells #[.int .i64 7, .string ⟨#[]⟩] 44, .cells #[.int .i64 0, .int .i64 0, .bool true, .int .i64 0, .int .i64 0, .bool true] 46, .cells #[.int .i64 3, .int .i64 4, .int .i64 2, .int .i64 0] 48, .cells #[.int .i64 0] 3, .cells #[.int .i64 7, .bool false, .slice (some ⟨w.heap.size + 1 + 1, 0, none⟩) 1 1, .slice (some ⟨w.heap.size + 1 + 1 + 1, 0, none⟩) 2 2, .slice (some ⟨w.heap.size + 1 + 1 + 1 + 1, 0, none⟩) 1 1, .int .i64 2, .slice (some ⟨w.heap.size + 1 + 1 + 1 + 1 + 1, 0, none⟩) 1 1] 34, .cells someProcs 52, .cells #[.int .i64 0, .int .i64 1] 3, .cells #[.bool false, .bool false] 4, .cells #[.int .i64 0] 3, .cells #[.slice none 0 0, .int .i64 0] 55, .cells PG 40, .cells #[.int .i64 7, .int .i64 0, .int .i64 0, .slice (some ⟨w.heap.size + 1 + 1 + 1 + 1 + 1 + 1 + 1, 0, none⟩) 2 2, .slice (some ⟨w.heap.size + 1 + 1 + 1 + 1 + 1 + 1 + 1 + 1, 0, none⟩) 2 2, .slice none 0 0, .slice (some ⟨w.heap.size + 1 + 1 + 1 + 1 + 1 + 1 + 1 + 1 + 1, 0, none⟩) 2 2, .slice (some ⟨w.heap.size + 1 + 1 + 1 + 1 + 1 + 1 + 1 + 1 + 1 + 1, 0, none⟩) 1 1, .slice (some ⟨w.heap.size + 1 + 1 + 1 + 1 + 1 + 1 + 1 + 1 + 1 + 1 + 1, 0, none⟩) 1 1, .slice (some ⟨w.heap.size + 1 + 1 + 1 + 1 + 1 + 1 + 1 + 1 + 1 + 1 + 1 + 1, 0, none⟩) 1 1] 29] w
  go_enter Try.func5, Try.ntmps5
  go_upto_region 2 with fail
  have hz47 := zero_pageV
  go_upto_region 3 with fail
  rw [some_page, some_procs_eq]
  generalize hPG : somePage = PG
  have H0 := HA PG hPG.symm
  have B0 := HB PG
  clear HA HB hz47
  have hpg := hide hPG
  clear hPG
  generalize hW : (((((((((((((w.alloc (.cells #[.int .i64 0, .bool false, .slice none 0 0, .slice none 0 0, .slice none 0 0, .int .i64 0, .slice none 0 0] 34)).alloc (.cells #[.int .i64 0, .int .i64 0, .int .i64 0, .slice none 0 0, .slice none 0 0, .slice none 0 0, .slice none 0 0, .slice none 0 0, .slice none 0 0, .slice none 0 0] 29)).alloc (.cells #[.int .i64 7, .string ⟨#[]⟩] 44)).alloc (.cells #[.int .i64 0, .int .i64 0, .bool true, .int .i64 0, .int .i64 0, .bool true] 46)).alloc (.cells #[.int .i64 3, .int .i64 4, .int .i64 2, .int .i64 0] 48)).alloc (.cells #[.int .i64 0] 3)).alloc (.cells #[.int .i64 7, .bool false, .slice (some ⟨w.heap.size + 1 + 1, 0, none⟩) 1 1, .slice (some ⟨w.heap.size + 1 + 1 + 1, 0, none⟩) 2 2, .slice (some ⟨w.heap.size + 1 + 1 + 1 + 1, 0, none⟩) 1 1, .int .i64 2, .slice (some ⟨w.heap.size + 1 + 1 + 1 + 1 + 1, 0, none⟩) 1 1] 34)).alloc (.cells someProcs 52)).alloc (.cells #[.int .i64 0, .int .i64 1] 3)).alloc (.cells #[.bool false, .bool false] 4)).alloc (.cells #[.int .i64 0] 3)).alloc (.cells #[.slice none 0 0, .int .i64 0] 55)).alloc (.cells PG 40)).alloc (.cells #[.int .i64 7, .int .i64 0, .int .i64 0, .slice (some ⟨w.heap.size + 1 + 1 + 1 + 1 + 1 + 1 + 1, 0, none⟩) 2 2, .slice (some ⟨w.heap.size + 1 + 1 + 1 + 1 + 1 + 1 + 1 + 1, 0, none⟩) 2 2, .slice none 0 0, .slice (some ⟨w.heap.size + 1 + 1 + 1 + 1 + 1 + 1 + 1 + 1 + 1, 0, none⟩) 2 2, .slice (some ⟨w.heap.size + 1 + 1 + 1 + 1 + 1 + 1 + 1 + 1 + 1 + 1, 0, none⟩) 1 1, .slice (some ⟨w.heap.size + 1 + 1 + 1 + 1 + 1 + 1 + 1 + 1 + 1 + 1 + 1, 0, none⟩) 1 1, .slice (some ⟨w.heap.size + 1 + 1 + 1 + 1 + 1 + 1 + 1 + 1 + 1 + 1 + 1 + 1, 0, none⟩) 1 1] 29) = W0 at *
  clear hW
  have BP : Hid (Bl W0.drew (w.heap.size + 1 + 1 + 1 + 1 + 1 + 1) [.int .i64 7, .bool false, .slice (some ⟨w.heap.size + 1 + 1, 0, none⟩) 1 1, .slice (some ⟨w.heap.size + 1 + 1 + 1, 0, none⟩) 2 2, .slice (some ⟨w.heap.size + 1 + 1 + 1 + 1, 0, none⟩) 1 1, .int .i64 2, .slice (some ⟨w.heap.size + 1 + 1 + 1 + 1 + 1, 0, none⟩) 1 1]) := bl_same (bl_block (H0.out 6 _ rfl) : Bl W0 (w.heap.size + 1 + 1 + 1 + 1 + 1 + 1) _) rfl
  have BS : Hid (Bl W0.drew (w.heap.size + 1 + 1 + 1 + 1 + 1 + 1 + 1 + 1 + 1 + 1 + 1 + 1 + 1) [.int .i64 7, .int .i64 0, .int .i64 0, .slice (some ⟨w.heap.size + 1 + 1 + 1 + 1 + 1 + 1 + 1, 0, none⟩) 2 2, .slice (some ⟨w.heap.size + 1 + 1 + 1 + 1 + 1 + 1 + 1 + 1, 0, none⟩) 2 2, .slice none 0 0, .slice (some ⟨w.heap.size + 1 + 1 + 1 + 1 + 1 + 1 + 1 + 1 + 1, 0, none⟩) 2 2, .slice (some ⟨w.heap.size + 1 + 1 + 1 + 1 + 1 + 1 + 1 + 1 + 1 + 1, 0, none⟩) 1 1, .slice (some ⟨w.heap.size + 1 + 1 + 1 + 1 + 1 + 1 + 1 + 1 + 1 + 1 + 1, 0, none⟩) 1 1, .slice (some ⟨w.heap.size + 1 + 1 + 1 + 1 + 1 + 1 + 1 + 1 + 1 + 1 + 1 + 1, 0, none⟩) 1 1]) := bl_same (bl_block (H0.out 13 _ rfl) : Bl W0 (w.heap.size + 1 + 1 + 1 + 1 + 1 + 1 + 1 + 1 + 1 + 1 + 1 + 1 + 1) _) rfl
  have BZ : Hid (Bl W0.drew w.heap.size [.int .i64 0, .bool false, .slice none 0 0, .slice none 0 0, .slice none 0 0, .int .i64 0, .slice none 0 0]) := bl_same (bl_block (H0.out 0 _ rfl) : Bl W0 w.heap.size _) rfl
  have BY : Hid (Bl W0.drew (w.heap.size + 1) [.int .i64 0, .int .i64 0, .int .i64 0, .slice none 0 0, .slice none 0 0, .slice none 0 0, .slice none 0 0, .slice none 0 0, .slice none 0 0, .slice none 0 0]) := bl_same (bl_block (H0.out 1 _ rfl) : Bl W0 (w.heap.size + 1) _) rfl
  have SF : Hid (Srf (w.heap.size + 1 + 1) W0.drew [.int .i64 7, .int .i64 0, .int .i64 0, .slice (some ⟨w.heap.size + 1 + 1 + 1 + 1 + 1 + 1 + 1, 0, none⟩) 2 2, .slice (some ⟨w.heap.size + 1 + 1 + 1 + 1 + 1 + 1 + 1 + 1, 0, none⟩) 2 2, .slice none 0 0, .slice (some ⟨w.heap.size + 1 + 1 + 1 + 1 + 1 + 1 + 1 + 1 + 1, 0, none⟩) 2 2, .slice (some ⟨w.heap.size + 1 + 1 + 1 + 1 + 1 + 1 + 1 + 1 + 1 + 1, 0, none⟩) 1 1, .slice (some ⟨w.heap.size + 1 + 1 + 1 + 1 + 1 + 1 + 1 + 1 + 1 + 1 + 1, 0, none⟩) 1 1, .slice (some ⟨w.heap.size + 1 + 1 + 1 + 1 + 1 + 1 + 1 + 1 + 1 + 1 + 1 + 1, 0, none⟩) 1 1] (someS Try.prog.keyLits)) := some_srf w W0 (H0.out 7 _ rfl) (H0.out 8 _ rfl) (H0.out 9 _ rfl) (H0.out 10 _ rfl) (H0.out 11 _ rfl) (by rw [hpg.out]; exact H0.out 12 _ rfl)
  have B1 : Hid (Below w.heap.size w W0.drew) := B0.out.drew
  have HHe := some_held BP.out BS.out
  refine wp_region_held_drew (S := (fun wz => wz.cell? ⟨w.heap.size + 1 + 1 + 1 + 1 + 1 + 1, 0, none⟩ = some (.int .i64 7) ∧ wz.cell? ⟨w.heap.size + 1 + 1 + 1 + 1 + 1 + 1, 1, none⟩ = some (.bool false) ∧ wz.cell? ⟨w.heap.size + 1 + 1 + 1 + 1 + 1 + 1, 2, none⟩ = some (.slice (some ⟨w.heap.size + 1 + 1, 0, none⟩) 1 1) ∧ wz.cell? ⟨w.heap.size + 1 + 1 + 1 + 1 + 1 + 1, 3, none⟩ = some (.slice (some ⟨w.heap.size + 1 + 1 + 1, 0, none⟩) 2 2) ∧ wz.cell? ⟨w.heap.size + 1 + 1 + 1 + 1 + 1 + 1, 4, none⟩ = some (.slice (some ⟨w.heap.size + 1 + 1 + 1 + 1, 0, none⟩) 1 1) ∧ wz.cell? ⟨w.heap.size + 1 + 1 + 1 + 1 + 1 + 1, 5, none⟩ = some (.int .i64 2) ∧ wz.cell? ⟨w.heap.size + 1 + 1 + 1 + 1 + 1 + 1, 6, none⟩ = some (.slice (some ⟨w.heap.size + 1 + 1 + 1 + 1 + 1, 0, none⟩) 1 1) ∧ wz.cell? ⟨w.heap.size + 1 + 1 + 1 + 1 + 1 + 1 + 1 + 1 + 1 + 1 + 1 + 1 + 1, 0, none⟩ = some (.int .i64 7) ∧ wz.cell? ⟨w.heap.size + 1 + 1 + 1 + 1 + 1 + 1 + 1 + 1 + 1 + 1 + 1 + 1 + 1, 1, none⟩ = some (.int .i64 0) ∧ wz.cell? ⟨w.heap.size + 1 + 1 + 1 + 1 + 1 + 1 + 1 + 1 + 1 + 1 + 1 + 1 + 1, 2, none⟩ = some (.int .i64 0) ∧ wz.cell? ⟨w.heap.size + 1 + 1 + 1 + 1 + 1 + 1 + 1 + 1 + 1 + 1 + 1 + 1 + 1, 3, none⟩ = some (.slice (some ⟨w.heap.size + 1 + 1 + 1 + 1 + 1 + 1 + 1, 0, none⟩) 2 2) ∧ wz.cell? ⟨w.heap.size + 1 + 1 + 1 + 1 + 1 + 1 + 1 + 1 + 1 + 1 + 1 + 1 + 1, 4, none⟩ = some (.slice (some ⟨w.heap.size + 1 + 1 + 1 + 1 + 1 + 1 + 1 + 1, 0, none⟩) 2 2) ∧ wz.cell? ⟨w.heap.size + 1 + 1 + 1 + 1 + 1 + 1 + 1 + 1 + 1 + 1 + 1 + 1 + 1, 5, none⟩ = some (.slice none 0 0) ∧ wz.cell? ⟨w.heap.size + 1 + 1 + 1 + 1 + 1 + 1 + 1 + 1 + 1 + 1 + 1 + 1 + 1, 6, none⟩ = some (.slice (some ⟨w.heap.size + 1 + 1 + 1 + 1 + 1 + 1 + 1 + 1 + 1, 0, none⟩) 2 2) ∧ wz.cell? ⟨w.heap.size + 1 + 1 + 1 + 1 + 1 + 1 + 1 + 1 + 1 + 1 + 1 + 1 + 1, 7, none⟩ = some (.slice (some ⟨w.heap.size + 1 + 1 + 1 + 1 + 1 + 1 + 1 + 1 + 1 + 1, 0, none⟩) 1 1) ∧ wz.cell? ⟨w.heap.size + 1 + 1 + 1 + 1 + 1 + 1 + 1 + 1 + 1 + 1 + 1 + 1 + 1, 8, none⟩ = some (.slice (some ⟨w.heap.size + 1 + 1 + 1 + 1 + 1 + 1 + 1 + 1 + 1 + 1 + 1, 0, none⟩) 1 1) ∧ wz.cell? ⟨w.heap.size + 1 + 1 + 1 + 1 + 1 + 1 + 1 + 1 + 1 + 1 + 1 + 1 + 1, 9, none⟩ = some (.slice (some ⟨w.heap.size + 1 + 1 + 1 + 1 + 1 + 1 + 1 + 1 + 1 + 1 + 1 + 1, 0, none⟩) 1 1))) (by kernel_rfl) HHe (fun hHeld => ?_)
  clear H0 B0 hpg
  generalize W0.drew = W1 at *
  refine wpAnyH_take (i := 0) (oi := { dst := some 24, op := Go.Op.load 34 (Go.Operand.tmp 2), type := 34, pos := "law.go:16", after := #[], guard := none }) (v := ?_) rfl (by kernel_rfl) (by kernel_rfl) (by kernel_rfl) (fun _ _ _ h => h) (Or.inl ⟨by rfl, ?_⟩) (by assumption) ?_
  rotate_left
  · intro w hSw
    try dsimp only at hSw
    go_simp
    try with_reducible rfl
  try simp only [Act.put, List.setIfInBounds_toArray, List.set_cons_zero, List.set_cons_succ]
  refine wpAnyH_take (i := 1) (oi := { dst := some 25, op := Go.Op.load 29 (Go.Operand.tmp 3), type := 29, pos := "law.go:16", after := #[{ on := 2, ground := Go.Ground.gcOnly Go.Departure.lateStores }], guard := none }) (v := ?_) rfl (by kernel_rfl) (by kernel_rfl) (by kernel_rfl) (fun _ _ _ h => h) (Or.inl ⟨by rfl, ?_⟩) (by assumption) ?_
  rotate_left
  · intro w hSw
    try dsimp only at hSw
    go_simp
    try with_reducible rfl
  try simp only [Act.put, List.setIfInBounds_toArray, List.set_cons_zero, List.set_cons_succ]
  refine wpAnyH_ready (rs := [2]) (by kernel_rfl) (by simp) ?_
  refine AllReadyH.cons (o := { dst := none, op := Go.Op.store 34 (Go.Operand.tmp 0) (Go.Operand.tmp 24), type := 0, pos := "law.go:16", after := #[{ on := 0, ground := Go.Ground.data }, { on := 0, ground := Go.Ground.phase }, { on := 1, ground := Go.Ground.textOnly Go.Departure.lateStores }], guard := none }) rfl (fun K hK => ?_) AllReadyH.nil
  have TS := hide (seven_sets (w0 := w) B1.out (Nat.le_refl _) BZ.out rfl (.int .i64 7) (.bool false) (.slice (some ⟨w.heap.size + 1 + 1, 0, none⟩) 1 1) (.slice (some ⟨w.heap.size + 1 + 1 + 1, 0, none⟩) 2 2) (.slice (some ⟨w.heap.size + 1 + 1 + 1 + 1, 0, none⟩) 1 1) (.int .i64 2) (.slice (some ⟨w.heap.size + 1 + 1 + 1 + 1 + 1, 0, none⟩) 1 1))
  have g0 := BZ.out.cell 0 _ rfl
  have f0 := BZ.out.free 0
  have g1 := BZ.out.cell 1 _ rfl
  have f1 := BZ.out.free 1
  have g2 := BZ.out.cell 2 _ rfl
  have f2 := BZ.out.free 2
  have g3 := BZ.out.cell 3 _ rfl
  have f3 := BZ.out.free 3
  have g4 := BZ.out.cell 4 _ rfl
  have f4 := BZ.out.free 4
  have g5 := BZ.out.cell 5 _ rfl
  have f5 := BZ.out.free 5
  have g6 := BZ.out.cell 6 _ rfl
  have f6 := BZ.out.free 6
  go_simp
  try go_wp2_with fail
  clear g0 f0 g1 f1 g2 f2 g3 f3 g4 f4 g5 f5 g6 f6
  have BP2 := hide (bl_same BP.out (TS.out.2.2.1 (w.heap.size + 1 + 1 + 1 + 1 + 1 + 1) (by omega)))
  have BS2 := hide (bl_same BS.out (TS.out.2.2.1 (w.heap.size + 1 + 1 + 1 + 1 + 1 + 1 + 1 + 1 + 1 + 1 + 1 + 1 + 1) (by omega)))
  have BY2 := hide (bl_same BY.out (TS.out.2.2.1 (w.heap.size + 1) (by omega)))
  have SF2 : Hid (Srf (w.heap.size + 1 + 1) (((((((W1.setCell ⟨w.heap.size, 0, none⟩ (.int .i64 7)).setCell ⟨w.heap.size, 1, none⟩ (.bool false)).setCell ⟨w.heap.size, 2, none⟩ (.slice (some ⟨w.heap.size + 1 + 1, 0, none⟩) 1 1)).setCell ⟨w.heap.size, 3, none⟩ (.slice (some ⟨w.heap.size + 1 + 1 + 1, 0, none⟩) 2 2)).setCell ⟨w.heap.size, 4, none⟩ (.slice (some ⟨w.heap.size + 1 + 1 + 1 + 1, 0, none⟩) 1 1)).setCell ⟨w.heap.size, 5, none⟩ (.int .i64 2)).setCell ⟨w.heap.size, 6, none⟩ (.slice (some ⟨w.heap.size + 1 + 1 + 1 + 1 + 1, 0, none⟩) 1 1)) [.int .i64 7, .int .i64 0, .int .i64 0, .slice (some ⟨w.heap.size + 1 + 1 + 1 + 1 + 1 + 1 + 1, 0, none⟩) 2 2, .slice (some ⟨w.heap.size + 1 + 1 + 1 + 1 + 1 + 1 + 1 + 1, 0, none⟩) 2 2, .slice none 0 0, .slice (some ⟨w.heap.size + 1 + 1 + 1 + 1 + 1 + 1 + 1 + 1 + 1, 0, none⟩) 2 2, .slice (some ⟨w.heap.size + 1 + 1 + 1 + 1 + 1 + 1 + 1 + 1 + 1 + 1, 0, none⟩) 1 1, .slice (some ⟨w.heap.size + 1 + 1 + 1 + 1 + 1 + 1 + 1 + 1 + 1 + 1 + 1, 0, none⟩) 1 1, .slice (some ⟨w.heap.size + 1 + 1 + 1 + 1 + 1 + 1 + 1 + 1 + 1 + 1 + 1 + 1, 0, none⟩) 1 1] (someS Try.prog.keyLits)) := fun W hW => SF.out W fun b hb => (hW b hb).trans (TS.out.2.2.1 b (by omega))
  have BZ2 := hide TS.out.2.1
  have B2 := hide TS.out.1
  clear TS HHe BP BS BY BZ SF B1
  refine hK.out _ _ (some_held BP2.out BS2.out) (fun hHeld2 => ?_)
  clear hK K hHeld
  generalize (((((((W1.setCell ⟨w.heap.size, 0, none⟩ (.int .i64 7)).setCell ⟨w.heap.size, 1, none⟩ (.bool false)).setCell ⟨w.heap.size, 2, none⟩ (.slice (some ⟨w.heap.size + 1 + 1, 0, none⟩) 1 1)).setCell ⟨w.heap.size, 3, none⟩ (.slice (some ⟨w.heap.size + 1 + 1 + 1, 0, none⟩) 2 2)).setCell ⟨w.heap.size, 4, none⟩ (.slice (some ⟨w.heap.size + 1 + 1 + 1 + 1, 0, none⟩) 1 1)).setCell ⟨w.heap.size, 5, none⟩ (.int .i64 2)).setCell ⟨w.heap.size, 6, none⟩ (.slice (some ⟨w.heap.size + 1 + 1 + 1 + 1 + 1, 0, none⟩) 1 1)) = W2 at *
  try simp only [Act.put, List.setIfInBounds_toArray, List.set_cons_zero, List.set_cons_succ]
  refine wpAnyH_ready (rs := [3]) (by kernel_rfl) (by simp) ?_
  refine AllReadyH.cons (o := { dst := none, op := Go.Op.store 29 (Go.Operand.tmp 1) (Go.Operand.tmp 25), type := 0, pos := "law.go:16", after := #[{ on := 1, ground := Go.Ground.data }, { on := 2, ground := Go.Ground.chain }, { on := 0, ground := Go.Ground.phase }, { on := 1, ground := Go.Ground.phase }, { on := 2, ground := Go.Ground.phase }], guard := none }) rfl (fun K hK => ?_) AllReadyH.nil
  have TS := hide (ten_sets (w0 := w) (B := w.heap.size) B2.out (by omega) BY2.out rfl (.int .i64 7) (.int .i64 0) (.int .i64 0) (.slice (some ⟨w.heap.size + 1 + 1 + 1 + 1 + 1 + 1 + 1, 0, none⟩) 2 2) (.slice (some ⟨w.heap.size + 1 + 1 + 1 + 1 + 1 + 1 + 1 + 1, 0, none⟩) 2 2) (.slice none 0 0) (.slice (some ⟨w.heap.size + 1 + 1 + 1 + 1 + 1 + 1 + 1 + 1 + 1, 0, none⟩) 2 2) (.slice (some ⟨w.heap.size + 1 + 1 + 1 + 1 + 1 + 1 + 1 + 1 + 1 + 1, 0, none⟩) 1 1) (.slice (some ⟨w.heap.size + 1 + 1 + 1 + 1 + 1 + 1 + 1 + 1 + 1 + 1 + 1, 0, none⟩) 1 1) (.slice (some ⟨w.heap.size + 1 + 1 + 1 + 1 + 1 + 1 + 1 + 1 + 1 + 1 + 1 + 1, 0, none⟩) 1 1))
  have g0 := BY2.out.cell 0 _ rfl
  have f0 := BY2.out.free 0
  have g1 := BY2.out.cell 1 _ rfl
  have f1 := BY2.out.free 1
  have g2 := BY2.out.cell 2 _ rfl
  have f2 := BY2.out.free 2
  have g3 := BY2.out.cell 3 _ rfl
  have f3 := BY2.out.free 3
  have g4 := BY2.out.cell 4 _ rfl
  have f4 := BY2.out.free 4
  have g5 := BY2.out.cell 5 _ rfl
  have f5 := BY2.out.free 5
  have g6 := BY2.out.cell 6 _ rfl
  have f6 := BY2.out.free 6
  have g7 := BY2.out.cell 7 _ rfl
  have f7 := BY2.out.free 7
  have g8 := BY2.out.cell 8 _ rfl
  have f8 := BY2.out.free 8
  have g9 := BY2.out.cell 9 _ rfl
  have f9 := BY2.out.free 9
  go_simp
  try go_wp2_with fail
  clear g0 f0 g1 f1 g2 f2 g3 f3 g4 f4 g5 f5 g6 f6 g7 f7 g8 f8 g9 f9
  have BP3 := hide (bl_same BP2.out (TS.out.2.2.1 (w.heap.size + 1 + 1 + 1 + 1 + 1 + 1) (by omega)))
  have BS3 := hide (bl_same BS2.out (TS.out.2.2.1 (w.heap.size + 1 + 1 + 1 + 1 + 1 + 1 + 1 + 1 + 1 + 1 + 1 + 1 + 1) (by omega)))
  have BZ3 := hide (bl_same BZ2.out (TS.out.2.2.1 w.heap.size (by omega)))
  have SF3 : Hid (Srf (w.heap.size + 1 + 1) ((((((((((W2.setCell ⟨w.heap.size + 1, 0, none⟩ (.int .i64 7)).setCell ⟨w.heap.size + 1, 1, none⟩ (.int .i64 0)).setCell ⟨w.heap.size + 1, 2, none⟩ (.int .i64 0)).setCell ⟨w.heap.size + 1, 3, none⟩ (.slice (some ⟨w.heap.size + 1 + 1 + 1 + 1 + 1 + 1 + 1, 0, none⟩) 2 2)).setCell ⟨w.heap.size + 1, 4, none⟩ (.slice (some ⟨w.heap.size + 1 + 1 + 1 + 1 + 1 + 1 + 1 + 1, 0, none⟩) 2 2)).setCell ⟨w.heap.size + 1, 5, none⟩ (.slice none 0 0)).setCell ⟨w.heap.size + 1, 6, none⟩ (.slice (some ⟨w.heap.size + 1 + 1 + 1 + 1 + 1 + 1 + 1 + 1 + 1, 0, none⟩) 2 2)).setCell ⟨w.heap.size + 1, 7, none⟩ (.slice (some ⟨w.heap.size + 1 + 1 + 1 + 1 + 1 + 1 + 1 + 1 + 1 + 1, 0, none⟩) 1 1)).setCell ⟨w.heap.size + 1, 8, none⟩ (.slice (some ⟨w.heap.size + 1 + 1 + 1 + 1 + 1 + 1 + 1 + 1 + 1 + 1 + 1, 0, none⟩) 1 1)).setCell ⟨w.heap.size + 1, 9, none⟩ (.slice (some ⟨w.heap.size + 1 + 1 + 1 + 1 + 1 + 1 + 1 + 1 + 1 + 1 + 1 + 1, 0, none⟩) 1 1)) [.int .i64 7, .int .i64 0, .int .i64 0, .slice (some ⟨w.heap.size + 1 + 1 + 1 + 1 + 1 + 1 + 1, 0, none⟩) 2 2, .slice (some ⟨w.heap.size + 1 + 1 + 1 + 1 + 1 + 1 + 1 + 1, 0, none⟩) 2 2, .slice none 0 0, .slice (some ⟨w.heap.size + 1 + 1 + 1 + 1 + 1 + 1 + 1 + 1 + 1, 0, none⟩) 2 2, .slice (some ⟨w.heap.size + 1 + 1 + 1 + 1 + 1 + 1 + 1 + 1 + 1 + 1, 0, none⟩) 1 1, .slice (some ⟨w.heap.size + 1 + 1 + 1 + 1 + 1 + 1 + 1 + 1 + 1 + 1 + 1, 0, none⟩) 1 1, .slice (some ⟨w.heap.size + 1 + 1 + 1 + 1 + 1 + 1 + 1 + 1 + 1 + 1 + 1 + 1, 0, none⟩) 1 1] (someS Try.prog.keyLits)) := fun W hW => SF2.out W fun b hb => (hW b hb).trans (TS.out.2.2.1 b (by omega))
  have BY3 := hide TS.out.2.1
  have B3 := hide TS.out.1
  clear TS BP2 BS2 BY2 BZ2 SF2 B2
  refine hK.out _ _ (some_held BP3.out BS3.out) (fun hHeld3 => ?_)
  clear hK K hHeld2
  generalize ((((((((((W2.setCell ⟨w.heap.size + 1, 0, none⟩ (.int .i64 7)).setCell ⟨w.heap.size + 1, 1, none⟩ (.int .i64 0)).setCell ⟨w.heap.size + 1, 2, none⟩ (.int .i64 0)).setCell ⟨w.heap.size + 1, 3, none⟩ (.slice (some ⟨w.heap.size + 1 + 1 + 1 + 1 + 1 + 1 + 1, 0, none⟩) 2 2)).setCell ⟨w.heap.size + 1, 4, none⟩ (.slice (some ⟨w.heap.size + 1 + 1 + 1 + 1 + 1 + 1 + 1 + 1, 0, none⟩) 2 2)).setCell ⟨w.heap.size + 1, 5, none⟩ (.slice none 0 0)).setCell ⟨w.heap.size + 1, 6, none⟩ (.slice (some ⟨w.heap.size + 1 + 1 + 1 + 1 + 1 + 1 + 1 + 1 + 1, 0, none⟩) 2 2)).setCell ⟨w.heap.size + 1, 7, none⟩ (.slice (some ⟨w.heap.size + 1 + 1 + 1 + 1 + 1 + 1 + 1 + 1 + 1 + 1, 0, none⟩) 1 1)).setCell ⟨w.heap.size + 1, 8, none⟩ (.slice (some ⟨w.heap.size + 1 + 1 + 1 + 1 + 1 + 1 + 1 + 1 + 1 + 1 + 1, 0, none⟩) 1 1)).setCell ⟨w.heap.size + 1, 9, none⟩ (.slice (some ⟨w.heap.size + 1 + 1 + 1 + 1 + 1 + 1 + 1 + 1 + 1 + 1 + 1 + 1, 0, none⟩) 1 1)) = W3 at *
  try simp only [Act.put, List.setIfInBounds_toArray, List.set_cons_zero, List.set_cons_succ]
  refine wpAnyH_done (by kernel_rfl) ?_ _
  go_wp2
  have g0 := BZ3.out.cell 0 _ rfl
  have g1 := BZ3.out.cell 1 _ rfl
  have g2 := BZ3.out.cell 2 _ rfl
  have g3 := BZ3.out.cell 3 _ rfl
  have g4 := BZ3.out.cell 4 _ rfl
  have g5 := BZ3.out.cell 5 _ rfl
  have g6 := BZ3.out.cell 6 _ rfl
  have e0 := BY3.out.cell 0 _ rfl
  have e1 := BY3.out.cell 1 _ rfl
  have e2 := BY3.out.cell 2 _ rfl
  have e3 := BY3.out.cell 3 _ rfl
  have e4 := BY3.out.cell 4 _ rfl
  have e5 := BY3.out.cell 5 _ rfl
  have e6 := BY3.out.cell 6 _ rfl
  have e7 := BY3.out.cell 7 _ rfl
  have e8 := BY3.out.cell 8 _ rfl
  have e9 := BY3.out.cell 9 _ rfl
  (try simp only [Exit.inBlock, Exit.then])
  refine bodyPost_ret (v := .tuple #[.agg #[.int .i64 7, .bool false, .slice (some ⟨w.heap.size + 1 + 1, 0, none⟩) 1 1, .slice (some ⟨w.heap.size + 1 + 1 + 1, 0, none⟩) 2 2, .slice (some ⟨w.heap.size + 1 + 1 + 1 + 1, 0, none⟩) 1 1, .int .i64 2, .slice (some ⟨w.heap.size + 1 + 1 + 1 + 1 + 1, 0, none⟩) 1 1], .agg #[.int .i64 7, .int .i64 0, .int .i64 0, .slice (some ⟨w.heap.size + 1 + 1 + 1 + 1 + 1 + 1 + 1, 0, none⟩) 2 2, .slice (some ⟨w.heap.size + 1 + 1 + 1 + 1 + 1 + 1 + 1 + 1, 0, none⟩) 2 2, .slice none 0 0, .slice (some ⟨w.heap.size + 1 + 1 + 1 + 1 + 1 + 1 + 1 + 1 + 1, 0, none⟩) 2 2, .slice (some ⟨w.heap.size + 1 + 1 + 1 + 1 + 1 + 1 + 1 + 1 + 1 + 1, 0, none⟩) 1 1, .slice (some ⟨w.heap.size + 1 + 1 + 1 + 1 + 1 + 1 + 1 + 1 + 1 + 1 + 1, 0, none⟩) 1 1, .slice (some ⟨w.heap.size + 1 + 1 + 1 + 1 + 1 + 1 + 1 + 1 + 1 + 1 + 1 + 1, 0, none⟩) 1 1]]) (by simp [results, Try.results5, go_sem, g0, g1, g2, g3, g4, g5, g6, e0, e1, e2, e3, e4, e5, e6, e7, e8, e9]) rfl ?_
  exact ⟨_, _, _, _, [.int .i64 7, .int .i64 0, .int .i64 0, .slice (some ⟨w.heap.size + 1 + 1 + 1 + 1 + 1 + 1 + 1, 0, none⟩) 2 2, .slice (some ⟨w.heap.size + 1 + 1 + 1 + 1 + 1 + 1 + 1 + 1, 0, none⟩) 2 2, .slice none 0 0, .slice (some ⟨w.heap.size + 1 + 1 + 1 + 1 + 1 + 1 + 1 + 1 + 1, 0, none⟩) 2 2, .slice (some ⟨w.heap.size + 1 + 1 + 1 + 1 + 1 + 1 + 1 + 1 + 1 + 1, 0, none⟩) 1 1, .slice (some ⟨w.heap.size + 1 + 1 + 1 + 1 + 1 + 1 + 1 + 1 + 1 + 1 + 1, 0, none⟩) 1 1, .slice (some ⟨w.heap.size + 1 + 1 + 1 + 1 + 1 + 1 + 1 + 1 + 1 + 1 + 1 + 1, 0, none⟩) 1 1], rfl, SF3.out.sr, B3.out⟩
theorem some_any (w : World) : Calls Try.prog 5 #[] w fun e w' => ∃ x2 x3 x4 x6 cs s, e = .returned (.tuple #[.agg #[.int .i64 7, .bool false, .slice x2 1 1, .slice x3 2 2, .slice x4 1 1, .int .i64 2, .slice x6 1 1], .agg cs.toArray]) ∧ Sr w' cs s ∧ Below w.heap.size w w' :=
  (some_exact w).mono fun e w' ⟨x2, x3, x4, x6, cs, h1, h2, h3⟩ => ⟨x2, x3, x4, x6, cs, (someS Try.prog.keyLits), h1, h2, h3⟩
end Go.Proofs.Ytkjbcnlhallcdaa
