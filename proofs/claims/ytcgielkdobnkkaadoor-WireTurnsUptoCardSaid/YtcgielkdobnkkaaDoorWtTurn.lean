/-
  What was joined is split again, and what was split is joined again.
-/
import Derived.Test.YtcgielkdobnkkaaDoorWtShow
namespace Go.Proofs.YtcgielkdobnkkaaDoor
open Go.RowKit FerryCrc
set_option linter.unusedVariables false
set_option linter.unusedSimpArgs false

def JW.nat (r : JW) : Nat × List Nat := (r.tag.toNat, r.l)
theorem flat_nat (rs : List JW) : (rs.map JW.nat).flatMap encP = rs.flatMap JW.enc := by
  induction rs with
  | nil => rfl
  | cons r rs ih => rw [List.map_cons, List.flatMap_cons, List.flatMap_cons, ih]; rfl
theorem joined_splits {rs : List JW} (h : (jfold rs).1 = 0) (n : Nat) (hn : (jfold rs).2.length = n) : Pars (jfold rs).2 n 0 (rs.map JW.nat) n := by
  obtain ⟨h1, h2⟩ := jfold_ok h
  rw [h2] at hn ⊢
  have := pars_join (rs.map JW.nat) [] n (fun r hr => by
    obtain ⟨q, hq, rfl⟩ := List.mem_map.1 hr
    obtain ⟨g1, g2, g3⟩ := h1 q hq
    exact ⟨by show q.tag.toNat ≠ 0; omega, g3⟩) (by rw [List.nil_append, flat_nat]; exact hn)
  rw [List.nil_append, flat_nat] at this
  exact this
theorem keys_back : ∀ {rv : List RV} {rs : List JW}, (∀ r ∈ rs, r.Fits) → rv.map RV.key = rs.map JW.nat → (rv.map RV.jw).map JW.key = rs.map JW.key
  | [], [], _, _ => rfl
  | [], _ :: _, _, h => by simp at h
  | _ :: _, [], _, h => by simp at h
  | v :: rv, r :: rs, hf, h => by
    rw [List.map_cons, List.map_cons, List.cons.injEq] at h
    obtain ⟨h1, h2⟩ := h
    have h3 := keys_back (fun q hq => hf q (List.mem_cons_of_mem _ hq)) h2
    obtain ⟨g1, _, _⟩ := hf r (List.mem_cons_self ..)
    rw [List.map_cons, List.map_cons, List.map_cons, h3]
    congr 1
    have e1 : v.tag = r.tag.toNat := congrArg Prod.fst h1
    have e2 : v.l = r.l := congrArg Prod.snd h1
    show ((v.tag : Int), v.l) = (r.tag, r.l)
    rw [e1, e2]
    congr 1
    omega
theorem split_joins {L : List Nat} {len : Nat} {rv : List RV} (hL : L.length = len) (hs : ∀ c ∈ L, c < 256) (h : Pars L len 0 (rv.map RV.key) len) : jfold (rv.map RV.jw) = (0, L) := by
  obtain ⟨h1, h2⟩ := join_pars _ L len 0 hL hs h
  have hf : ∀ r ∈ rv.map RV.jw, r.Fits := fun r hr => by
    obtain ⟨q, hq, rfl⟩ := List.mem_map.1 hr
    obtain ⟨g1, g2, g3⟩ := h2 q.key (List.mem_map.2 ⟨q, hq, rfl⟩)
    have g1' : q.tag ≠ 0 := g1
    have g2' : q.tag ≤ 255 := g2
    exact ⟨by show (1 : Int) ≤ (q.tag : Int); omega, by show (q.tag : Int) ≤ 255; omega, g3⟩
  have h3 := jfold_fits (rv.map RV.jw) [] hf
  unfold jfold
  rw [h3, List.nil_append]
  have h4 : (rv.map RV.jw).flatMap JW.enc = (rv.map RV.key).flatMap encP := by
    clear h h1 h2 hf h3
    induction rv with
    | nil => rfl
    | cons r rv ih => rw [List.map_cons, List.map_cons, List.flatMap_cons, List.flatMap_cons, ih]; rfl
  rw [h4, ← h1, List.drop_zero]
theorem jfold_key {rs rs' : List JW} (h : rs'.map JW.key = rs.map JW.key) : jfold rs' = jfold rs := by
  have e : ∀ l : List JW, jfold l = (l.map JW.key).foldl (fun p r => aft p.1 p.2 (rput r.1 r.2)) (0, []) := fun l => by
    unfold jfold
    rw [List.foldl_map]
    rfl
  rw [e, e, h]
theorem jroom_key {rs rs' : List JW} (h : rs'.map JW.key = rs.map JW.key) : jroom rs' = jroom rs := by
  have e : ∀ l : List JW, jroom l = ((l.map JW.key).map fun r => r.2.length + 4).sum := fun l => by
    unfold jroom
    rw [List.map_map]
    rfl
  rw [e, e, h]
end Go.Proofs.YtcgielkdobnkkaaDoor
