/-
  The document's link (ferryref21): what it holds, beside what the program's holds.
-/
import Derived.Test.YtgnkmenjjmfcfaaDoorLkOn
namespace Go.Proofs.YtgnkmenjjmfcfaaDoor
open Go.RowKit FerryCrc Q
set_option linter.unusedVariables false
set_option linter.unusedSimpArgs false

/-- A letter that was made. -/
structure Md where
  f : Int
  t : Int
  s : ByteArray
  sp : Bool
  st : Bool
def m5 (d : Md) : List Value := [.int .i64 d.f, .int .i64 d.t, .string d.s, .bool d.sp, .bool d.st]
theorem m55 (d : Md) : (m5 d).length = 5 := rfl
def zMd : Md := ⟨0, 0, ⟨#[]⟩, false, false⟩
theorem infoM : (Tryd.prog.info? 83).map (fun i => (i.size, i.bytes, i.zero.map (·.cells))) = some (5, 40, some (m5 zMd).toArray) := by kernel_rfl
theorem m5_one (l : List Md) : ∀ u ∈ l.flatMap m5, u.oneCell' = true := by
  intro u hu
  obtain ⟨x, -, hx⟩ := List.mem_flatMap.1 hu
  simp only [m5, List.mem_cons, List.not_mem_nil, or_false] at hx
  rcases hx with rfl | rfl | rfl | rfl | rfl <;> rfl
abbrev MOwn (w : World) (base : Nat) (v : Value) (D : List Md) : Prop := LOwn m5 5 83 w base v D
theorem nmr : (83 : TypeId) ≠ 28 := by decide
theorem nml : (83 : TypeId) ≠ 61 := by decide
/-- The document's link in memory: its block, its list. -/
structure RAt (w : World) (base rb : Nat) (va : Option Addr) (vc : Nat) (D : List Md) : Prop where
  bk : Bk w rb [.slice va D.length vc] 28
  own : MOwn w base (.slice va D.length vc) D
  hb : base ≤ rb
theorem RAt.below {w w' : World} {base rb : Nat} {va : Option Addr} {vc : Nat} {D : List Md} (h : RAt w base rb va vc D) (hb : Below w.heap.size w w') : RAt w' base rb va vc D := ⟨h.bk.below hb, h.own.below hb, h.hb⟩
/-- What a call on it may write to. -/
def RW (rb : Nat) (va : Option Addr) (k : Nat) : Prop := k = rb ∨ va.map (·.block) = some k
theorem ob (va : Option Addr) (n c : Nat) : (Value.slice va n c).ownBlock = va.map (·.block) := by cases va <;> rfl
/-- What a call on it leaves. -/
def RPost (w w' : World) (base rb : Nat) (va : Option Addr) (D : List Md) : Prop := ∃ va' vc', RAt w' base rb va' vc' D ∧ Frm (RW rb va) w w' ∧ ∀ g, va'.map (·.block) = some g → va.map (·.block) = some g ∨ w.heap.size ≤ g
theorem RAt.post {w w' : World} {base rb : Nat} {va : Option Addr} {vc : Nat} {D : List Md} (h : RAt w base rb va vc D) (hb : Below w.heap.size w w') : RPost w w' base rb va D :=
  ⟨va, vc, h.below hb, Frm.ofBelow hb, fun g e => .inl e⟩
/-- What was made, and what is under way. -/
structure Sm (L : Lk) (D : List Md) : Prop where
  len : D.length = L.n
  per : ∀ (k : Nat) d, D[k]? = some d → (d.st = true ∧ L.M ((k : Int) + 1) = none) ∨ (d.st = false ∧ L.M ((k : Int) + 1) = some ⟨d.f, d.t, d.s, d.sp⟩ ∧ d.s.size ≤ 4096)
theorem sm_nil : Sm ⟨0, fun _ => none⟩ [] := ⟨rfl, fun k d h => by simp at h⟩
theorem sm_get {L : Lk} {D : List Md} (h : Sm L D) {k : Nat} (hk : k < L.n) : ∃ d, D[k]? = some d := ⟨_, List.getElem?_eq_getElem (by rw [h.len]; exact hk)⟩
theorem sm_there {L : Lk} {D : List Md} (h : Sm L D) (ok : ∀ k x, L.M k = some x → 1 ≤ k ∧ k ≤ (L.n : Int)) {N : Int} (he : fE L N = 0) : ∃ k : Nat, N = (k : Int) + 1 ∧ k < L.n ∧ ∃ f t s sp, D[k]? = some ⟨f, t, s, sp, false⟩ ∧ fv L N = ⟨f, t, s, sp⟩ ∧ L.M N = some ⟨f, t, s, sp⟩ ∧ s.size ≤ 4096 := by
  rcases fE_case L N with ⟨h1, -⟩ | ⟨-, -, h2⟩
  · rw [he] at h1; cases h1
  · obtain ⟨h3, h4⟩ := ok N _ h2
    obtain ⟨k, rfl⟩ : ∃ k : Nat, N = (k : Int) + 1 := ⟨(N - 1).toNat, by omega⟩
    obtain ⟨⟨f, t, s, sp, st⟩, hd⟩ := sm_get h (k := k) (by omega)
    rcases h.per k _ hd with ⟨-, h5⟩ | ⟨h6, h5, h7⟩
    · rw [h5] at h2; cases h2
    · dsimp only at h6 h5 h7
      subst h6
      have h8 := h5
      rw [h2] at h5
      exact ⟨k, rfl, by omega, f, t, s, sp, hd, Option.some.inj h5, h8, h7⟩
theorem sm_not {L : Lk} {D : List Md} (h : Sm L D) {N : Int} (he : fE L N ≠ 0) : (N < 1 ∨ (L.n : Int) < N ∨ ∃ k : Nat, N = (k : Int) + 1 ∧ k < L.n ∧ ∃ d, D[k]? = some d ∧ d.st = true) ∧ fE L N = 17 ∧ fv L N = zLt := by
  refine ⟨?_, ?_⟩
  · by_cases h1 : N < 1
    · exact .inl h1
    · by_cases h2 : (L.n : Int) < N
      · exact .inr (.inl h2)
      · obtain ⟨k, rfl⟩ : ∃ k : Nat, N = (k : Int) + 1 := ⟨(N - 1).toNat, by omega⟩
        obtain ⟨d, hd⟩ := sm_get h (k := k) (by omega)
        rcases h.per k d hd with ⟨h3, -⟩ | ⟨-, h5, -⟩
        · exact .inr (.inr ⟨k, rfl, by omega, d, hd, h3⟩)
        · exfalso
          apply he
          unfold fE
          rw [h5]
          rfl
  · rcases fE_case L N with ⟨h1, -, h2⟩ | ⟨h1, -⟩
    · exact ⟨h1, h2⟩
    · exact absurd h1 he
theorem sm_more {L : Lk} {D : List Md} (h : Sm L D) (f t : Int) (s : ByteArray) (sp : Bool) (hs : s.size ≤ 4096) : Sm ⟨L.n + 1, setM L.M ((L.n : Int) + 1) (some ⟨f, t, s, sp⟩)⟩ (D ++ [⟨f, t, s, sp, false⟩]) := by
  refine ⟨by rw [List.length_append, h.len]; rfl, fun k d hd => ?_⟩
  dsimp only
  by_cases e : k = L.n
  · subst e
    rw [← h.len, List.getElem?_concat_length] at hd
    obtain rfl := Option.some.inj hd
    exact .inr ⟨rfl, setM_same _ _ _, hs⟩
  · have hk : k < L.n := by
      have := (List.getElem?_eq_some_iff.1 hd).1
      rw [List.length_append, h.len, List.length_singleton] at this
      omega
    rw [List.getElem?_append_left (by rw [h.len]; exact hk)] at hd
    rw [setM_ne _ _ (by omega)]
    exact h.per k d hd
theorem sm_set {L : Lk} {D : List Md} (h : Sm L D) (k : Nat) (f t : Int) (s : ByteArray) (sp : Bool) (hs : s.size ≤ 4096) : Sm ⟨L.n, setM L.M ((k : Int) + 1) (some ⟨f, t, s, sp⟩)⟩ (D.set k ⟨f, t, s, sp, false⟩) := by
  refine ⟨by rw [List.length_set, h.len], fun j d hd => ?_⟩
  dsimp only
  by_cases e : j = k
  · subst e
    rw [setM_same]
    have hj : j < D.length := by have := (List.getElem?_eq_some_iff.1 hd).1; rw [List.length_set] at this; exact this
    rw [List.getElem?_set_self hj] at hd
    obtain rfl := Option.some.inj hd
    exact .inr ⟨rfl, rfl, hs⟩
  · rw [setM_ne _ _ (by omega)]
    rw [List.getElem?_set_ne (fun x => e x.symm)] at hd
    exact h.per j d hd
theorem sm_spend {L : Lk} {D : List Md} (h : Sm L D) (k : Nat) (f t : Int) (s : ByteArray) (sp : Bool) : Sm (tL L ((k : Int) + 1)) (D.set k ⟨f, t, s, sp, true⟩) := by
  refine ⟨by rw [List.length_set, h.len]; rfl, fun j d hd => ?_⟩
  unfold tL
  dsimp only
  by_cases e : j = k
  · subst e
    rw [setM_same]
    have hj : j < D.length := by have := (List.getElem?_eq_some_iff.1 hd).1; rw [List.length_set] at this; exact this
    rw [List.getElem?_set_self hj] at hd
    obtain rfl := Option.some.inj hd
    exact .inl ⟨rfl, rfl⟩
  · rw [setM_ne _ _ (by omega)]
    rw [List.getElem?_set_ne (fun x => e x.symm)] at hd
    exact h.per j d hd
end Go.Proofs.YtgnkmenjjmfcfaaDoor
