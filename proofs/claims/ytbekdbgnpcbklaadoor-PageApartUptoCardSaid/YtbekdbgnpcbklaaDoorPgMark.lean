/-
  Marks: both sides' Clean and Written.
-/
import Derived.Test.YtbekdbgnpcbklaaDoorPgEq
namespace Go.Proofs.YtbekdbgnpcbklaaDoor
open Go.RowKit FerryCrc
set_option linter.unusedVariables false

/-- A page that isn't dirty. -/
def Pg.clean (p : Pg) : Pg := ⟨p.rights, false, p.data⟩
theorem Pg.clean_ok {p : Pg} (h : p.Ok) : p.clean.Ok := ⟨h.lo, h.hi, h.size, h.small⟩
/-- The first k pages cleaned. -/
def cleaned (l : List Pg) (k : Nat) : List Pg := (l.take k).map Pg.clean ++ l.drop k
theorem cleaned_len (l : List Pg) (k : Nat) : (cleaned l k).length = l.length := by simp [cleaned]; omega
theorem cleaned_ok {l : List Pg} (h : Oks l) (k : Nat) : Oks (cleaned l k) := by
  intro p hp
  rcases List.mem_append.1 hp with hp | hp
  · obtain ⟨q, hq, rfl⟩ := List.mem_map.1 hp
    exact Pg.clean_ok (h q (List.mem_of_mem_take hq))
  · exact h p (List.mem_of_mem_drop hp)
theorem cleaned_succ {l : List Pg} {k : Nat} {p : Pg} (hp : l[k]? = some p) : (cleaned l k).set k p.clean = cleaned l (k + 1) ∧ (cleaned l k)[k]? = some p := by
  have hk : k < l.length := (List.getElem?_eq_some_iff.1 hp).1
  have hlt : (List.map Pg.clean (l.take k)).length = k := by simp; omega
  unfold cleaned
  constructor
  · rw [List.set_append_right _ _ (by omega), hlt, Nat.sub_self, List.take_add_one, hp, List.drop_eq_getElem_cons hk]
    have he : l[k] = p := by rw [List.getElem?_eq_getElem hk] at hp; exact Option.some.inj hp
    simp [he]
  · rw [List.getElem?_append_right (by omega), hlt, Nat.sub_self, List.getElem?_drop, Nat.add_zero, hp]
theorem cells_clean (p : Pg) : p.clean.cells = p.cells.set 1 (.bool false) := by simp [Pg.cells, Pg.row, Pg.clean]
theorem cleaned_all {l : List Pg} {k : Nat} (h : l.length = k) : cleaned l k = l.map Pg.clean := by unfold cleaned; rw [← h]; simp
/-- One page cleaned in memory. -/
theorem POwn.cleanOne {w : World} {base g len cap : Nat} {l : List Pg} {k : Nat} (h : POwn w base (.slice (some ⟨g, 0, none⟩) len cap) (cleaned l k)) (hl : l.length = len) (ok : Oks l) (hk : k < len) :
    (∃ u, w.cell? ⟨g, k * 66 + 1, none⟩ = some u) ∧ w.frozen? ⟨g, k * 66 + 1, none⟩ = false ∧ POwn (w.setCell ⟨g, k * 66 + 1, none⟩ (.bool false)) base (.slice (some ⟨g, 0, none⟩) len cap) (cleaned l (k + 1)) := by
  obtain ⟨p, hp⟩ : ∃ p, l[k]? = some p := ⟨_, List.getElem?_eq_getElem (by omega)⟩
  obtain ⟨hset, hget⟩ := cleaned_succ hp
  have okk := cleaned_ok ok k
  have hlk : (cleaned l k).length = len := by rw [cleaned_len]; exact hl
  obtain ⟨hc, hf⟩ := h.cellOf hlk okk hget (j := 1) (by decide)
  have hst := POwn.stored (by rw [hlk]; exact h) okk hget (show 1 < 66 by decide) (cells_clean p)
  rw [hset, hlk] at hst
  exact ⟨⟨_, by rw [hc]; rfl⟩, hf, hst⟩

set_option maxRecDepth 100000 in
set_option maxHeartbeats 400000 in
theorem clean_any (a : Option Addr) (len cap : Nat) (l : List Pg) (w : World) (hs : Pgs w a len cap l) :
    Calls Tryd.prog 21 #[.slice a len cap] w fun e w' => ∃ v, e = .returned v ∧ POwn w' w.heap.size v (l.map Pg.clean) ∧ Below w.heap.size w w' := by
  have HC := hide (copy_any a len cap l w hs)
  have HS := hide hs
  have hm := hs.most
  clear hs
  go_enter Tryd.func21, Tryd.ntmps21
  go_wp2_with fail
  refine Calls.mono HC.out ?_
  rintro e w1 ⟨g, rfl, hg, ho, hb⟩
  clear HC
  have HO := hide ho
  have HB := hide hb
  have HG := hide hg
  have HLEN := hide HS.out.size
  clear ho hb hg
  go_wp2
  go_loopw [9] (fun i wr => ∃ k : Nat, k ≤ len ∧ i = .int .i64 (k : Int) ∧ Hid (POwn wr w.heap.size (.slice (some ⟨g, 0, none⟩) len len) (cleaned l k)) ∧ Hid (Below w.heap.size w wr)) (fun i _ => len - (intOf i).toNat)
  case atStart => exact ⟨0, by omega, rfl, show POwn _ _ _ _ by simpa [cleaned] using HO.out, HB.out⟩
  case round =>
    obtain ⟨k, hk, rfl, hown, hbl⟩ := hrel
    by_cases hlt : k < len
    · obtain ⟨⟨u, hc⟩, hf, hst⟩ := POwn.cleanOne hown.out HLEN.out HS.out.ok hlt
      have HST := hide hst
      clear hst
      go_wp2
      go_roundw
      case rel => exact ⟨k + 1, by omega, by go_num, HST.out, hbl.out.setCell HG.out _⟩
      case measure => simp [intOf]; omega
    · obtain rfl : k = len := by omega
      have HE := hide (cleaned_all HLEN.out)
      go_wp2
      go_ret
      refine ⟨_, rfl, ?_, hbl.out⟩
      have := hown.out
      rw [HE.out] at this
      unfold POwn at this ⊢
      rw [List.length_map, HLEN.out] at this ⊢
      exact this
set_option maxRecDepth 100000 in
set_option maxHeartbeats 400000 in
theorem refClean_any (a : Option Addr) (len cap : Nat) (l : List Pg) (w : World) (hs : Pgs w a len cap l) :
    Calls Tryd.prog 25 #[.slice a len cap] w fun e w' => ∃ v, e = .returned v ∧ POwn w' w.heap.size v (l.map Pg.clean) ∧ Below w.heap.size w w' := by
  have HC := hide (refCopy_any a len cap l w hs)
  have HS := hide hs
  have hm := hs.most
  clear hs
  go_enter Tryd.func25, Tryd.ntmps25
  go_wp2_with fail
  refine Calls.mono HC.out ?_
  rintro e w1 ⟨v, rfl, ho, hb⟩
  clear HC
  obtain ⟨a1, c1, rfl, _, hform⟩ := ho.pgs HS.out.ok (by rw [HS.out.size]; exact hm)
  have HO := hide ho
  have HB := hide hb
  have HF : Hid ((a1 = none ∧ l = []) ∨ ∃ g, a1 = some ⟨g, 0, none⟩ ∧ w.heap.size ≤ g) := hform
  have HLEN := hide HS.out.size
  clear ho hb hform
  rw [HLEN.out] at HO ⊢
  go_wp2
  go_loopw [4] (fun i wr => ∃ k : Nat, k ≤ len ∧ i = .int .i64 (k : Int) ∧ Hid (POwn wr w.heap.size (.slice a1 len c1) (cleaned l k)) ∧ Hid (Below w.heap.size w wr)) (fun i _ => len - (intOf i).toNat)
  case atStart => exact ⟨0, by omega, rfl, show POwn _ _ _ _ by simpa [cleaned] using HO.out, HB.out⟩
  case round =>
    obtain ⟨k, hk, rfl, hown, hbl⟩ := hrel
    by_cases hlt : k < len
    · rcases HF.out with ⟨_, hnil⟩ | ⟨g, rfl, hg⟩
      · exfalso
        have := HLEN.out
        rw [hnil] at this
        simp at this
        omega
      obtain ⟨⟨u, hc⟩, hf, hst⟩ := POwn.cleanOne hown.out HLEN.out HS.out.ok hlt
      have HST := hide hst
      have HG := hide hg
      clear hst hg
      go_wp2
      go_roundw
      case rel => exact ⟨k + 1, by omega, by go_num, HST.out, hbl.out.setCell HG.out _⟩
      case measure => simp [intOf]; omega
    · obtain rfl : k = len := by omega
      have HE := hide (cleaned_all HLEN.out)
      go_wp2
      go_ret
      refine ⟨_, rfl, ?_, hbl.out⟩
      have := hown.out
      rw [HE.out] at this
      unfold POwn at this ⊢
      rw [List.length_map, HLEN.out] at this ⊢
      exact this

/-- The dirty pages among the first k. -/
def drt (l : List Pg) : Nat → List Nat
  | 0 => []
  | k + 1 => match l[k]? with
    | some p => if p.dirty then drt l k ++ [k] else drt l k
    | none => drt l k
theorem drt_len (l : List Pg) (k : Nat) : (drt l k).length ≤ k := by
  induction k with
  | zero => simp [drt]
  | succ k ih =>
    unfold drt
    split
    · split
      · simp; omega
      · omega
    · omega
theorem drt_some {l : List Pg} {k : Nat} {p : Pg} (hp : l[k]? = some p) : drt l (k + 1) = if p.dirty then drt l k ++ [k] else drt l k := by simp [drt, hp]

set_option maxRecDepth 100000 in
set_option maxHeartbeats 400000 in
theorem written_any (a : Option Addr) (len cap : Nat) (l : List Pg) (w : World) (hs : Pgs w a len cap l) :
    Calls Tryd.prog 22 #[.slice a len cap] w fun e w' => ∃ v, e = .returned v ∧ IOwn w' w.heap.size v (drt l len) ∧ Below w.heap.size w w' := by
  have HS := hide hs
  have hm := hs.most
  clear hs
  go_enter Tryd.func22, Tryd.ntmps22
  go_wp2
  go_loopw [3, 7] (fun o i wr => ∃ k : Nat, k ≤ len ∧ i = .int .i64 k ∧ Hid (IOwn wr w.heap.size o (drt l k)) ∧ Hid (Below w.heap.size w wr)) (fun _ i _ => len - (intOf i).toNat)
  case atStart => exact ⟨0, by omega, rfl, World.ownsRow_nil _ _ _ _, Below.refl _ _⟩
  case round =>
    obtain ⟨k, hk, rfl, hown, hb⟩ := hrel
    by_cases hlt : k < len
    · obtain ⟨p, hp⟩ : ∃ p, l[k]? = some p := ⟨_, List.getElem?_eq_getElem (by rw [HS.out.size]; exact hlt)⟩
      obtain ⟨b, off, rfl, hr⟩ := HS.out.cell k p hp
      have hc : wr.cell? ⟨b, off + k * 66 + 1, none⟩ = some (.bool p.dirty) := range_below hr hb.out 1 _ rfl
      have HD := hide (drt_some hp)
      obtain ⟨t, ht⟩ : ∃ t, p.dirty = t := ⟨_, rfl⟩
      rw [ht] at hc HD
      have HL : Hid ((drt l k).length < 1759218604391) := by unfold Hid; have := drt_len l k; omega
      clear hr hp ht
      cases t
      · go_wp2
        go_roundw
        case rel => exact ⟨k + 1, by omega, by go_num, by rw [HD.out]; exact hown.out, hb.out⟩
        case measure => simp [intOf]; omega
      · go_wp2_with (at_builtin; refine append_int rfl (.tmp 15) (.tmp 17) rfl w.heap.size _ (drt l k) rfl (hown.out.below ((Below.refl _ _).alloc (Nat.le_refl _) _)) wr.heap.size 1 k rfl (by rw [World.cell?_alloc_at _ _ _ _ rfl]; rfl) HL.out (by simp; have := hb.out.size; omega) ?_; intro v' w1 hown1 hgrow1)
        have hb1 : Hid (Below w.heap.size w w1) := (hb.out.alloc hb.out.size _).grown hgrow1 (by simp; have := hb.out.size; omega) (fun j e => (World.ownsRow.lt hown.out j e).1)
        go_roundw
        case rel => exact ⟨k + 1, by omega, by go_num, by rw [HD.out]; exact hown1, hb1⟩
        case measure => simp [intOf]; omega
    · obtain rfl : k = len := by omega
      go_wp2
      go_ret
      exact ⟨_, rfl, hown.out, hb.out⟩
set_option maxRecDepth 100000 in
set_option maxHeartbeats 400000 in
theorem refWritten_any (a : Option Addr) (len cap : Nat) (l : List Pg) (w : World) (hs : Pgs w a len cap l) :
    Calls Tryd.prog 26 #[.slice a len cap] w fun e w' => ∃ v, e = .returned v ∧ IOwn w' w.heap.size v (drt l len) ∧ Below w.heap.size w w' := by
  have HS := hide hs
  have hm := hs.most
  clear hs
  go_enter Tryd.func26, Tryd.ntmps26
  go_wp2
  go_loopw [3, 4] (fun o i wr => ∃ k : Nat, k ≤ len ∧ i = .int .i64 k ∧ Hid (IOwn wr w.heap.size o (drt l k)) ∧ Hid (Below w.heap.size w wr)) (fun _ i _ => len - (intOf i).toNat)
  case atStart => exact ⟨0, by omega, rfl, World.ownsRow_nil _ _ _ _, Below.refl _ _⟩
  case round =>
    obtain ⟨k, hk, rfl, hown, hb⟩ := hrel
    by_cases hlt : k < len
    · obtain ⟨p, hp⟩ : ∃ p, l[k]? = some p := ⟨_, List.getElem?_eq_getElem (by rw [HS.out.size]; exact hlt)⟩
      obtain ⟨b, off, rfl, hr⟩ := HS.out.cell k p hp
      have hc : wr.cell? ⟨b, off + k * 66 + 1, none⟩ = some (.bool p.dirty) := range_below hr hb.out 1 _ rfl
      have HD := hide (drt_some hp)
      obtain ⟨t, ht⟩ : ∃ t, p.dirty = t := ⟨_, rfl⟩
      rw [ht] at hc HD
      have HL : Hid ((drt l k).length < 1759218604391) := by unfold Hid; have := drt_len l k; omega
      clear hr hp ht
      cases t
      · go_wp2
        go_roundw
        case rel => exact ⟨k + 1, by omega, by go_num, by rw [HD.out]; exact hown.out, hb.out⟩
        case measure => simp [intOf]; omega
      · go_wp2_with (at_builtin; refine append_int rfl (.tmp 16) (.tmp 18) rfl w.heap.size _ (drt l k) rfl (hown.out.below ((Below.refl _ _).alloc (Nat.le_refl _) _)) wr.heap.size 1 k rfl (by rw [World.cell?_alloc_at _ _ _ _ rfl]; rfl) HL.out (by simp; have := hb.out.size; omega) ?_; intro v' w1 hown1 hgrow1)
        have hb1 : Hid (Below w.heap.size w w1) := (hb.out.alloc hb.out.size _).grown hgrow1 (by simp; have := hb.out.size; omega) (fun j e => (World.ownsRow.lt hown.out j e).1)
        go_roundw
        case rel => exact ⟨k + 1, by omega, by go_num, by rw [HD.out]; exact hown1, hb1⟩
        case measure => simp [intOf]; omega
    · obtain rfl : k = len := by omega
      go_wp2
      go_ret
      exact ⟨_, rfl, hown.out, hb.out⟩
end Go.Proofs.YtbekdbgnpcbklaaDoor
