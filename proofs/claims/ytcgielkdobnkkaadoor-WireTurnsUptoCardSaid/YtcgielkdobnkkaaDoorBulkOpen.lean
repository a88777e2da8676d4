/-
  What the reading of lists of records gives, where they are of no great bulk.
-/
import Derived.Test.YtcgielkdobnkkaaDoorRcs
import Derived.Test.YtcgielkdobnkkaaDoorDoorErr
import Derived.Deep.Slices
import Derived.Test.YtcgielkdobnkkaaDoorRows
namespace Go.Proofs.YtcgielkdobnkkaaDoor
open Go.ChangeShapes Go.WideShapes Go.ChangeAt Go.RowKit Go.Deep FerryCrc
set_option linter.unusedVariables false
set_option linter.unusedSimpArgs false

theorem add_plain7 (b off i : Nat) : (⟨b, off, none⟩ : Addr).add i = ⟨b, off + i, none⟩ := by
  unfold Addr.add
  split <;> simp_all
theorem bulk_pos {H : Type} (d : DataW H) : 1 ≤ Rows.uptoBulk d := by
  cases d with
  | lit l => cases l <;> simp [Rows.uptoBulk]
  | _ => simp [Rows.uptoBulk]
theorem bulk_len {H : Type} (ds : List (DataW H)) : ds.length ≤ Rows.uptoBulkAll ds := by
  induction ds with
  | nil => exact Nat.zero_le _
  | cons d ds ih =>
    have := bulk_pos d
    rw [Rows.uptoBulkAll, List.length_cons]
    omega
theorem bulk_mem {H : Type} {d : DataW H} {ds : List (DataW H)} (h : d ∈ ds) : Rows.uptoBulk d ≤ Rows.uptoBulkAll ds := by
  induction ds with
  | nil => simp at h
  | cons e ds ih =>
    rw [Rows.uptoBulkAll]
    rcases List.mem_cons.1 h with rfl | h
    · omega
    · have := ih h
      omega

/-- A list of records. -/
theorem recs_open {α : Type} [Inhabited α] {f : α → List Value} {sz : Nat} (hf : ∀ x, (f x).length = sz) (h0 : 0 < sz) {OK : α → Prop} {t e : TypeId} (ht : Tryd.prog.underlying t = some (.slice e)) (hce : Tryd.prog.cellsOf e = sz)
    {H : Type} {enc : TypeId × Value → H} {W : World} {fuel : Nat} {cs : List Value} {x : DataW H × List MemPlace}
    (h : DataW.trod enc Tryd.prog W 0 (fun _ => true) true fuel t cs = some x)
    (hel : ∀ n cs' y, DataW.trod enc Tryd.prog W 0 (fun _ => true) true n e cs' = some y → cs'.length = sz → Rows.uptoBulk y.1 ≤ Rows.uptoBulk x.1 → ∃ p : α, OK p ∧ cs' = f p) :
    ∃ a len cap l, cs = [.slice a len cap] ∧ Rcs f sz W a len cap l ∧ (∀ p ∈ l, OK p) ∧ len ≤ Rows.uptoBulk x.1 := by
  rcases open_slice ht h with ⟨hcs, _⟩ | ⟨ad, len, cap, m, nf, D, Pl, hcs, _, hl, hm, hmm, hx0, hx⟩
  · exact ⟨none, 0, 0, [], hcs, ⟨rfl, by simp, by decide, fun _ => ⟨rfl, rfl⟩, fun j v hv => by simp at hv⟩, fun p hp => by simp at hp, Nat.zero_le _⟩
  · simp only [if_true] at hmm
    subst hmm
    have hbl : ∀ k, k < len → Rows.uptoBulk (D k) ≤ Rows.uptoBulk x.1 := fun k hk => by
      rw [hx0]
      show _ ≤ Rows.uptoBulk (.slice _ _)
      rw [Rows.uptoBulk]
      have := bulk_mem (ds := (List.range len).map D) (List.mem_map.2 ⟨k, List.mem_range.2 hk, rfl⟩)
      omega
    have hln : len ≤ Rows.uptoBulk x.1 := by
      rw [hx0]
      show _ ≤ Rows.uptoBulk (.slice _ _)
      rw [Rows.uptoBulk]
      have := bulk_len ((List.range len).map D)
      rw [List.length_map, List.length_range] at this
      omega
    have hsp0 : 0 < len → ad.spot = none := fun h1 => by
      obtain ⟨cs', h1, _⟩ := hx 0 (by omega)
      rw [hce] at h1
      obtain ⟨_, hlen, hcell⟩ := World.cells?_some h1
      have c0 := hcell 0 (by omega)
      rw [add_add, List.getElem?_eq_getElem (by omega)] at c0
      have := World.cell?_spot c0
      simpa [Addr.add] using this
    have each : ∀ k, k < len → ∃ p : α, ∃ b off, some ad = some (⟨b, off, none⟩ : Addr) ∧ OK p ∧ W.rangeAt b (off + k * sz) (f p) := by
      intro k hk
      obtain ⟨cs', h1, h2⟩ := hx k (by omega)
      rw [hce] at h1
      obtain ⟨_, hlen, hcell⟩ := World.cells?_some h1
      obtain ⟨p, hp, rfl⟩ := hel nf cs' _ h2 hlen (hbl k hk)
      have hsp : ad.spot = none := hsp0 (by omega)
      obtain ⟨b, off, spot⟩ := ad
      simp only at hsp
      subst hsp
      refine ⟨p, b, off, rfl, hp, fun j v hv => ?_⟩
      have hj : j < sz := by
        have := (List.getElem?_eq_some_iff.1 hv).1
        rw [hf] at this
        exact this
      have c := hcell j hj
      rw [add_add, add_plain7, hv] at c
      rw [Nat.add_assoc]
      exact c
    obtain ⟨C, hC⟩ := choose_lt each
    refine ⟨some ad, len, m, (List.range len).map C, hcs, ⟨by simp, by rw [fl_len hf]; simp, hl, fun e => by simp at e, fun j v hv => ?_⟩, fun p hp => ?_, hln⟩
    · have hj := (List.getElem?_eq_some_iff.1 hv).1
      rw [fl_len hf] at hj
      simp only [List.length_map, List.length_range] at hj
      have hk : j / sz < len := (Nat.div_lt_iff_lt_mul h0).2 hj
      have h1 := fl_get hf (l := (List.range len).map C) (k := j / sz) (x := C (j / sz)) (j % sz) (by simp [hk]) (Nat.mod_lt _ h0)
      rw [Nat.div_add_mod' j sz, hv] at h1
      obtain ⟨b, off, e, _, hr⟩ := hC (j / sz) hk
      refine ⟨b, off, e, ?_⟩
      have := hr (j % sz) v h1.symm
      rw [Nat.add_assoc, Nat.div_add_mod' j sz] at this
      exact this
    · obtain ⟨i, hi, rfl⟩ := List.mem_map.1 hp
      obtain ⟨_, _, _, h, _⟩ := hC i (List.mem_range.1 hi)
      exact h
end Go.Proofs.YtcgielkdobnkkaaDoor
