/-
  The marks of the law's apart; append of zeros that are asked for by their number; the law's mark and room.
-/
import Derived.Test.YtchmfjendnaflaaDoorCkBase
namespace Go.Proofs.YtchmfjendnaflaaDoor
open Go.RowKit FerryCrc
set_option linter.unusedVariables false
set_option linter.unusedSimpArgs false

/-- The marks of the i-th list, of n bytes. -/
def mkOf (i n : Nat) : List Nat := (List.range n).map (fun k => (17 * i + 5 * k + 3) % 256)
theorem mkOf_len (i n : Nat) : (mkOf i n).length = n := by simp [mkOf]
theorem mkOf_at {i n k : Nat} (h : k < n) : (mkOf i n)[k]? = some ((17 * i + 5 * k + 3) % 256) := by simp [mkOf, h]
theorem mkOf_small (i n : Nat) : ∀ c ∈ mkOf i n, c < 256 := fun c hc => by
  obtain ⟨k, _, rfl⟩ := List.mem_map.1 hc
  exact Nat.mod_lt _ (by decide)
/-- The same lists, those ahead of the i-th marked. -/
structure Mkd (rs rs' : List JW) (i : Nat) : Prop where
  len : rs'.length = rs.length
  each : ∀ (j : Nat) (r : JW), rs[j]? = some r → ∃ r', rs'[j]? = some r' ∧ r'.v = r.v ∧ r'.l.length = r.l.length ∧ (j < i → r'.l = mkOf j r.l.length)
theorem Mkd.refl (rs : List JW) : Mkd rs rs 0 := ⟨rfl, fun j r h => ⟨r, h, rfl, rfl, fun hj => by omega⟩⟩
theorem Mkd.pw {rs rs' : List JW} {i : Nat} (h : Mkd rs rs' i) (hp : Pw rs) : Pw rs' := by
  intro a b x y hab hx hy k hk
  obtain ⟨ra, h1⟩ : ∃ r, rs[a]? = some r := ⟨_, List.getElem?_eq_getElem (by rw [← h.len]; exact (List.getElem?_eq_some_iff.1 hx).1)⟩
  obtain ⟨rb, h2⟩ : ∃ r, rs[b]? = some r := ⟨_, List.getElem?_eq_getElem (by rw [← h.len]; exact (List.getElem?_eq_some_iff.1 hy).1)⟩
  obtain ⟨x', hx', ex, _⟩ := h.each a ra h1
  obtain ⟨y', hy', ey, _⟩ := h.each b rb h2
  rw [hx] at hx'
  rw [hy] at hy'
  obtain rfl := Option.some.inj hx'
  obtain rfl := Option.some.inj hy'
  rw [ey]
  rw [ex] at hk
  exact hp a b ra rb hab h1 h2 k hk
/-- One mark more. -/
theorem Mkd.put {rs rs' : List JW} {i : Nat} (h : Mkd rs rs' i) {r' : JW} (hr : rs'[i]? = some r') (l : List Nat) (hl : l.length = r'.l.length) : Mkd rs (rs'.set i (r'.wl l)) i := by
  refine ⟨by rw [List.length_set]; exact h.len, fun j r hj => ?_⟩
  obtain ⟨q, h1, h2, h3, h4⟩ := h.each j r hj
  by_cases e : i = j
  · subst e
    rw [hr] at h1
    obtain rfl := Option.some.inj h1
    refine ⟨r'.wl l, by rw [List.getElem?_set, if_pos rfl, if_pos (List.getElem?_eq_some_iff.1 hr).1], h2, hl.trans h3, fun hlt => absurd hlt (Nat.lt_irrefl _)⟩
  · exact ⟨q, by rw [List.getElem?_set, if_neg e]; exact h1, h2, h3, h4⟩
/-- A list that is marked. -/
theorem Mkd.next {rs rs' : List JW} {i : Nat} (h : Mkd rs rs' i) {r r' : JW} (hr0 : rs[i]? = some r) (hr : rs'[i]? = some r') (hm : r'.l = mkOf i r.l.length) : Mkd rs rs' (i + 1) := by
  refine ⟨h.len, fun j q hj => ?_⟩
  obtain ⟨q', h1, h2, h3, h4⟩ := h.each j q hj
  refine ⟨q', h1, h2, h3, fun hlt => ?_⟩
  by_cases e : j = i
  · subst e
    rw [hr] at h1
    obtain rfl := Option.some.inj h1
    rw [hr0] at hj
    obtain rfl := Option.some.inj hj
    exact hm
  · exact h4 (by omega)
/-- The marks so far, one more. -/
theorem mk_step {l : List Nat} {i n k : Nat} (hn : l.length = n) (hk : k < n) (h : l.take k = (mkOf i n).take k) : (l.set k ((17 * i + 5 * k + 3) % 256)).take (k + 1) = (mkOf i n).take (k + 1) := by
  rw [List.take_add_one, List.take_add_one, mkOf_at hk, ← h, List.take_set_of_le (Nat.le_refl _), List.getElem?_set, if_pos rfl, if_pos (by omega)]
theorem Mkd.src {rs rs' : List JW} {i : Nat} (h : Mkd rs rs' i) {r' : JW} (hr : r' ∈ rs') : ∃ r ∈ rs, r'.v = r.v := by
  obtain ⟨j, hj⟩ := mem_at hr
  obtain ⟨r, h1⟩ : ∃ r, rs[j]? = some r := ⟨_, List.getElem?_eq_getElem (by rw [← h.len]; exact (List.getElem?_eq_some_iff.1 hj).1)⟩
  obtain ⟨q, h2, h3, _⟩ := h.each j r h1
  rw [hj] at h2
  obtain rfl := Option.some.inj h2
  exact ⟨r, List.mem_of_getElem? h1, h3⟩
/-- What an append of n zeros to a list of one's own leaves: zeros behind its end, or new memory. -/
theorem zeros_gen (w : World) (base n : Nat) (v : Value) (l : List Nat) (ty : TypeId) (hown : Own w base v l) (h0 : 0 < n) (hn1 : n ≤ 1000) (hl : l.length + n ≤ 140737488355328) :
    ∃ v' w', (Builtin.append_ #[22, 3] ty #[v, .int .i64 (n : Int)]).run Tryd.prog w = .ok v' w' ∧
      ((∃ g c : Nat, v = .slice (some ⟨g, 0, none⟩) l.length c ∧ l.length + n ≤ c ∧ w' = w.setCells g l.length (List.replicate n (.int .u8 0))) ∨ Below w.heap.size w w') := by
  obtain ⟨i, hi, hz, hsz, hby⟩ := info_parts info8
  have hwr : IntKind.i64.wrap (n : Int) = (n : Int) := by rw [IntKind.wrap_i64]; omega
  have hneg : ¬ (n : Int) < 0 := by omega
  have hbig : ¬ (281474976710656 : Int) < (n : Int) := by omega
  have hne : ¬ n = 0 := by omega
  have hai : ∀ (W : World) (k : IntKind) (x : Int), Sem.run Tryd.prog (asIntOf (.int k x)) W = .ok (k, x) W := fun _ _ _ => rfl
  have hz1 : Builtin.zeroCells (Value.cells (.int .u8 0)) n = (List.replicate n (Value.int .u8 0)).toArray := by
    unfold Builtin.zeroCells
    apply Array.ext
    · simp [Value.cells]
    · intro j h1 h2
      simp [Value.cells, Nat.mod_one]
  rcases hown.2 with ⟨e, hn⟩ | ⟨g, cap, cur, e, hg, hh, hnc, hcm, hcs, htake⟩
  · subst e
    have hfo : ∀ W : World, (Builtin.firstCells 1 0 (.slice none 0 0)).run Tryd.prog W = .ok #[] W := fun W => rfl
    have h63' : ¬ (9223372036854775807 : Int) < (n : Int) := by omega
    have h48' : ¬ (281474976710656 < Builtin.nextslicecap n 0) := by
      have := growslice_fits (bytes := 1) (show 0 < n by omega) (by omega)
      omega
    refine ⟨.slice (some ⟨w.heap.size, 0, none⟩) n (grownCap w n 0 5), w.drew.alloc (.cells ((List.replicate n (Value.int .u8 0)).toArray ++ Builtin.zeroCells (Value.cells (.int .u8 0)) (grownCap w n 0 5 - n)) 5), ?_, .inr ((Below.refl _ _).drew.alloc (Nat.le_refl _) _)⟩
    simp [Builtin.append_, run_underlying Tryd.underlying22, run_underlying Tryd.underlying3, sizeOf, typeInfo, zeroValue, hi, hz, hsz, hby, hwr, hai, hneg, hbig, hne, h63', h48', hfo, asInt, Question.forced, newRow, grownCap, hz1]
  · subst e
    by_cases hroom : l.length + n ≤ cap
    · have hst := run_storeCells_cells (P := Tryd.prog) g l.length (List.replicate n (Value.int .u8 0)) 0 w (fun j hj => by
        rw [Nat.add_zero]
        rw [List.length_replicate] at hj
        rw [cell_of_row w g _ cur _ _ hh]
        have : l.length + j < cur.size := by rw [hcs]; omega
        simp
        omega) (fun j hj => World.ownsRow.frozenAt hown _) (fun u hu => by rw [List.eq_of_mem_replicate hu]; rfl)
      simp only [Nat.add_zero] at hst
      refine ⟨.slice (some ⟨g, 0, none⟩) (l.length + n) cap, _, ?_, .inl ⟨g, cap, rfl, hroom, rfl⟩⟩
      simp [Builtin.append_, run_underlying Tryd.underlying22, run_underlying Tryd.underlying3, sizeOf, typeInfo, zeroValue, hi, hz, hsz, hby, hwr, hai, hneg, hbig, hne, hroom, asInt, hz1, Addr.add_lit, hst]
    · have hfo := run_firstCells_some (P := Tryd.prog) w.drew 1 l.length ⟨g, 0, none⟩ l.length cap (l.map bv) (by simp) (fun j u hu => by
        have hj := (List.getElem?_eq_some_iff.1 hu).1
        rw [List.length_map] at hj
        rw [Addr.add_lit, Nat.zero_add]
        have := World.ownsRow.cellAt hown j (by omega)
        exact this.trans hu)
      have h63' : ¬ (9223372036854775807 < ((l.length : Int) + (n : Int))) := by omega
      have h48' : ¬ (281474976710656 < Builtin.nextslicecap (l.length + n) cap) := by
        have := growslice_fits (bytes := 1) (show cap < l.length + n by omega) (by omega)
        omega
      refine ⟨.slice (some ⟨w.heap.size, 0, none⟩) (l.length + n) (grownCap w (l.length + n) cap 5), w.drew.alloc (.cells ((l.map bv).toArray ++ (List.replicate n (Value.int .u8 0)).toArray ++ Builtin.zeroCells (Value.cells (.int .u8 0)) (grownCap w (l.length + n) cap 5 - (l.length + n))) 5), ?_, .inr ((Below.refl _ _).drew.alloc (Nat.le_refl _) _)⟩
      simp [Builtin.append_, run_underlying Tryd.underlying22, run_underlying Tryd.underlying3, sizeOf, typeInfo, zeroValue, hi, hz, hsz, hby, hwr, hai, hneg, hbig, hne, hroom, h63', h48', hfo, asInt, Question.forced, newRow, grownCap, hz1]
end Go.Proofs.YtchmfjendnaflaaDoor
