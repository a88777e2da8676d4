/-
  Tables that are shown, whoever's they are; what a call leaves of those that are not named.
-/
import Derived.Test.YtahcchipedppmaaGreatDoorRyAll
import Derived.Test.YtahcchipedppmaaGreatDoorMvBase
namespace Go.Proofs.YtahcchipedppmaaGreatDoor
open Classical
open Go.RowKit
set_option linter.unusedVariables false
set_option linter.unusedSimpArgs false

theorem row_agree {w w' : World} {a : Option Addr} {len cap sz : Nat} {cs : List Value} (h : Row w a len cap sz cs) (hag : ∀ k, k < w.heap.size → w'.heap[k]? = w.heap[k]?) : Row w' a len cap sz cs :=
  ⟨h.size, h.fit, h.null, fun j v hv => by
    obtain ⟨b, off, e, hc⟩ := h.cell j v hv
    exact ⟨b, off, e, (World.cell?_of_block (a := ⟨b, off + j, none⟩) (hag b (block_lt_of_cell hc))).trans hc⟩⟩
theorem rcs_agree {α : Type} {f : α → List Value} {sz : Nat} {w w' : World} {a : Option Addr} {len cap : Nat} {l : List α} (h : Rcs f sz w a len cap l) (hag : ∀ k, k < w.heap.size → w'.heap[k]? = w.heap[k]?) : Rcs f sz w' a len cap l := ⟨h.size, row_agree h.row hag⟩
/-- A table that every later world shows, whatever goes into block nb. -/
structure Sh (W : World) (nb : Nat) (a1 : Option Addr) (n1 c1 : Nat) (a2 : Option Addr) (n2 c2 : Nat) (a3 : Option Addr) (n3 c3 : Nat) (l : List Pro) (r : List Int) (t : List Tm) : Prop where
  all : ∀ W', (∀ k, k < W.heap.size → k ≠ nb → W'.heap[k]? = W.heap[k]?) → Pros W' a1 n1 c1 l ∧ Is W' a2 n2 c2 r ∧ Tms W' a3 n3 c3 t
section
variable {W W2 : World} {nb : Nat} {a1 : Option Addr} {n1 c1 : Nat} {a2 : Option Addr} {n2 c2 : Nat} {a3 : Option Addr} {n3 c3 : Nat} {l : List Pro} {r : List Int} {t : List Tm}
theorem Sh.now (h : Sh W nb a1 n1 c1 a2 n2 c2 a3 n3 c3 l r t) : Pros W a1 n1 c1 l ∧ Is W a2 n2 c2 r ∧ Tms W a3 n3 c3 t := h.all W (fun _ _ _ => rfl)
theorem Sh.below (h : Sh W nb a1 n1 c1 a2 n2 c2 a3 n3 c3 l r t) (hb : Below W.heap.size W W2) : Sh W2 nb a1 n1 c1 a2 n2 c2 a3 n3 c3 l r t :=
  ⟨fun W' hag => h.all W' fun k hk hne => (hag k (Nat.lt_of_lt_of_le hk hb.size) hne).trans (hb.block k hk)⟩
theorem Sh.three (h : Sh W nb a1 n1 c1 a2 n2 c2 a3 n3 c3 l r t) (x y z : Value) : Sh (((W.setCell ⟨nb, 0, none⟩ x).setCell ⟨nb, 1, none⟩ y).setCell ⟨nb, 2, none⟩ z) nb a1 n1 c1 a2 n2 c2 a3 n3 c3 l r t :=
  ⟨fun W' hag => h.all W' fun k hk hne => by
    rw [hag k (by simpa [World.setCell] using hk) hne, heap_setCell_other _ _ _ _ (by first | exact hne | exact fun e => hne e.symm), heap_setCell_other _ _ _ _ (by first | exact hne | exact fun e => hne e.symm), heap_setCell_other _ _ _ _ (by first | exact hne | exact fun e => hne e.symm)]⟩
theorem sh_arg {w : World} (h1 : Pros w a1 n1 c1 l) (h2 : Is w a2 n2 c2 r) (h3 : Tms w a3 n3 c3 t) (hb : Below w.heap.size w W) (hn : w.heap.size ≤ nb) : Sh W nb a1 n1 c1 a2 n2 c2 a3 n3 c3 l r t :=
  ⟨fun W' hag => by
    have hk : ∀ k, k < w.heap.size → W'.heap[k]? = w.heap[k]? := fun k hk => (hag k (Nat.lt_of_lt_of_le hk hb.size) (by omega)).trans (hb.block k hk)
    exact ⟨rcs_agree h1 hk, rcs_agree h2 hk, rcs_agree h3 hk⟩⟩
theorem sh_tab {B : Nat} (h : Tab W B (.slice a1 n1 c1) (.slice a2 n2 c2) (.slice a3 n3 c3) l r t) (hn : nb < B) : Sh W nb a1 n1 c1 a2 n2 c2 a3 n3 c3 l r t :=
  ⟨fun W' hag => by
    have same : ∀ {e : TypeId} {sz n : Nat} {v : Value} {cs : List Value}, W.ownsRow B e sz v n cs → W'.ownsRow B e sz v n cs := fun {e sz n v cs} ho =>
      ownsRow_same ho fun k hk => hag k (ho.lt k hk).2 (by have := (ho.lt k hk).1; omega)
    obtain ⟨a, c, e, g1⟩ := prown_pros (same h.p)
    obtain ⟨a', c', e', g2⟩ := iown_is (same h.r)
    obtain ⟨a'', c'', e'', g3⟩ := town_tms (same h.t)
    simp only [Value.slice.injEq] at e e' e''
    obtain ⟨rfl, rfl, rfl⟩ := e
    obtain ⟨rfl, rfl, rfl⟩ := e'
    obtain ⟨rfl, rfl, rfl⟩ := e''
    exact ⟨g1, g2, g3⟩⟩
end
/-- What a call leaves of those that it does not name. -/
structure By (kd p : Int) (l : List Pro) (r : List Int) (l' : List Pro) (r' : List Int) : Prop where
  len : l'.length = l.length
  all : kd = 7 ∨ kd = 8 ∨ ((∀ i : Nat, (i : Int) ≠ p → l'[i]? = l[i]?) ∧ outOf r' p = outOf r p)
theorem setAt_other {l : List Pro} {p : Int} (h0 : 0 ≤ p) (f : Pro → Pro) {i : Nat} (hi : (i : Int) ≠ p) : (setAt l p f)[i]? = l[i]? := by
  unfold setAt
  rw [List.getElem?_set_ne (by omega)]
theorem setAt_len (l : List Pro) (p : Int) (f : Pro → Pro) : (setAt l p f).length = l.length := by
  unfold setAt
  rw [List.length_set]
theorem out_out (r : List Int) (p : Int) : outOf (outOf r p) p = outOf r p := by
  unfold outOf
  rw [List.filter_filter]
  congr 1
  funext x
  simp
theorem out_app (r : List Int) (p : Int) : outOf (r ++ [p]) p = outOf r p := by
  unfold outOf
  rw [List.filter_append]
  simp
theorem by_same (kd p : Int) (l : List Pro) (r : List Int) : By kd p l r l r := ⟨rfl, .inr (.inr ⟨fun _ _ => rfl, rfl⟩)⟩
theorem by_set (kd : Int) {p : Int} (h0 : 0 ≤ p) (l : List Pro) (f : Pro → Pro) {r r' : List Int} (hr : outOf r' p = outOf r p) : By kd p l r (setAt l p f) r' := ⟨setAt_len l p f, .inr (.inr ⟨fun i hi => setAt_other h0 f hi, hr⟩)⟩
theorem good_wakeAll {x : Int} : ∀ {is : List Int} {l : List Pro} {r : List Int} {t : List Tm}, is.Nodup → (∀ i ∈ is, ∃ (k : Nat) (q : Pro), i = (k : Int) ∧ l[k]? = some q ∧ q.state = 2) → Good l r t → Good (wakeAll l r t is x).1 (wakeAll l r t is x).2.1 (wakeAll l r t is x).2.2
  | [], l, r, t, _, _, h => h
  | i :: is, l, r, t, hn, hs, h => by
    obtain ⟨k, q, rfl, hk, hq⟩ := hs i (by simp)
    have hn' := List.nodup_cons.1 hn
    have e : wakeAll l r t ((k : Int) :: is) x = wakeAll (l.set k (wokenP q x)) (r ++ [(k : Int)]) (others t (k : Int)) is x := by
      unfold wakeAll
      rw [List.foldl_cons, wakeStep_of (s := (l, r, t)) hk]
    rw [e]
    refine good_wakeAll hn'.2 (fun j hj => ?_) (good_wake h hk hq x)
    obtain ⟨k2, q2, rfl, hk2, hq2⟩ := hs j (by simp [hj])
    have hne : k ≠ k2 := fun e => hn'.1 (by rw [e]; exact hj)
    exact ⟨k2, q2, rfl, by rw [List.getElem?_set_ne hne]; exact hk2, hq2⟩
theorem waits_nodup (l : List Pro) (wt ob : Int) : (waitsOf l wt ob).Nodup := by
  unfold waitsOf waitsK
  exact (zip_nodup _ 0).sublist (List.Sublist.map _ List.filter_sublist)
theorem waits_state (l : List Pro) (wt ob : Int) : ∀ i ∈ waitsOf l wt ob, ∃ (k : Nat) (q : Pro), i = (k : Int) ∧ l[k]? = some q ∧ q.state = 2 := by
  intro i hi
  unfold waitsOf waitsK at hi
  rw [List.take_length] at hi
  obtain ⟨⟨q, k⟩, hy, rfl⟩ := List.mem_map.1 hi
  have h1 := List.mem_filter.1 hy
  refine ⟨k, q, rfl, List.mem_zipIdx_iff_getElem?.1 h1.1, ?_⟩
  have h2 := h1.2
  unfold isW at h2
  simp only [Bool.and_eq_true] at h2
  simpa using h2.1
end Go.Proofs.YtahcchipedppmaaGreatDoor
