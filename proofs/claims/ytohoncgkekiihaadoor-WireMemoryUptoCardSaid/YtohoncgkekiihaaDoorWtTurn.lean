/-
  What was joined is split again, and what was split is joined again.
  What Join writes is small and no longer than its room; what a list of tags of the call's own shows.
-/
import Derived.Test.YtohoncgkekiihaaDoorWtShow
namespace Go.Proofs.YtohoncgkekiihaaDoor
open Go.RowKit FerryCrc
set_option linter.unusedVariables false
set_option linter.unusedSimpArgs false

def JW.nat (r : JW) : Nat × List Nat := (r.tag.toNat, r.l)
theorem flat_nat (rs : List JW) : (rs.map JW.nat).flatMap encP = rs.flatMap JW.enc := by
  induction rs with
  | nil => rfl
  | cons r rs ih => rw [List.map_cons, List.flatMap_cons, List.flatMap_cons, ih]; rfl
theorem joined_splits {rs : List JW} (h : (jfold rs).1 = 0) (n : Nat) (hn : (jfold rs).2.length = n) : Pars (jfold rs).2 n 0 (rs.map JW.nat) n := by
  obtain ⟨h1, h2⟩ := jfold_ok h
  rw [h2] at hn ⊢
  have := pars_join (rs.map JW.nat) [] n (fun r hr => by
    obtain ⟨q, hq, rfl⟩ := List.mem_map.1 hr
    obtain ⟨g1, g2, g3⟩ := h1 q hq
    exact ⟨by show q.tag.toNat ≠ 0; omega, g3⟩) (by rw [List.nil_append, flat_nat]; exact hn)
  rw [List.nil_append, flat_nat] at this
  exact this
theorem keys_back : ∀ {rv : List RV} {rs : List JW}, (∀ r ∈ rs, r.Fits) → rv.map RV.key = rs.map JW.nat → (rv.map RV.jw).map JW.key = rs.map JW.key
  | [], [], _, _ => rfl
  | [], _ :: _, _, h => by simp at h
  | _ :: _, [], _, h => by simp at h
  | v :: rv, r :: rs, hf, h => by
    rw [List.map_cons, List.map_cons, List.cons.injEq] at h
    obtain ⟨h1, h2⟩ := h
    have h3 := keys_back (fun q hq => hf q (List.mem_cons_of_mem _ hq)) h2
    obtain ⟨g1, _, _⟩ := hf r (List.mem_cons_self ..)
    rw [List.map_cons, List.map_cons, List.map_cons, h3]
    congr 1
    have e1 : v.tag = r.tag.toNat := congrArg Prod.fst h1
    have e2 : v.l = r.l := congrArg Prod.snd h1
    show ((v.tag : Int), v.l) = (r.tag, r.l)
    rw [e1, e2]
    congr 1
    omega
theorem split_joins {L : List Nat} {len : Nat} {rv : List RV} (hL : L.length = len) (hs : ∀ c ∈ L, c < 256) (h : Pars L len 0 (rv.map RV.key) len) : jfold (rv.map RV.jw) = (0, L) := by
  obtain ⟨h1, h2⟩ := join_pars _ L len 0 hL hs h
  have hf : ∀ r ∈ rv.map RV.jw, r.Fits := fun r hr => by
    obtain ⟨q, hq, rfl⟩ := List.mem_map.1 hr
    obtain ⟨g1, g2, g3⟩ := h2 q.key (List.mem_map.2 ⟨q, hq, rfl⟩)
    have g1' : q.tag ≠ 0 := g1
    have g2' : q.tag ≤ 255 := g2
    exact ⟨by show (1 : Int) ≤ (q.tag : Int); omega, by show (q.tag : Int) ≤ 255; omega, g3⟩
  have h3 := jfold_fits (rv.map RV.jw) [] hf
  unfold jfold
  rw [h3, List.nil_append]
  have h4 : (rv.map RV.jw).flatMap JW.enc = (rv.map RV.key).flatMap encP := by
    clear h h1 h2 hf h3
    induction rv with
    | nil => rfl
    | cons r rv ih => rw [List.map_cons, List.map_cons, List.flatMap_cons, List.flatMap_cons, ih]; rfl
  rw [h4, ← h1, List.drop_zero]
theorem jfold_key {rs rs' : List JW} (h : rs'.map JW.key = rs.map JW.key) : jfold rs' = jfold rs := by
  have e : ∀ l : List JW, jfold l = (l.map JW.key).foldl (fun p r => aft p.1 p.2 (rput r.1 r.2)) (0, []) := fun l => by
    unfold jfold
    rw [List.foldl_map]
    rfl
  rw [e, e, h]
theorem jroom_key {rs rs' : List JW} (h : rs'.map JW.key = rs.map JW.key) : jroom rs' = jroom rs := by
  have e : ∀ l : List JW, jroom l = ((l.map JW.key).map fun r => r.2.length + 4).sum := fun l => by
    unfold jroom
    rw [List.map_map]
    rfl
  rw [e, e, h]
end Go.Proofs.YtohoncgkekiihaaDoor
namespace Go.Proofs.YtohoncgkekiihaaDoor
open Go.RowKit FerryCrc
set_option linter.unusedVariables false
set_option linter.unusedSimpArgs false

theorem rput_small (t : Int) (l : List Nat) (h : ∀ c ∈ l, c < 256) : ∀ c ∈ (rput t l).2, c < 256 := by
  unfold rput
  split
  · intro c hc; simp at hc
  · split
    · intro c hc; simp at hc
    · intro c hc
      rcases List.mem_cons.1 hc with rfl | hc
      · omega
      · rcases List.mem_append.1 hc with hc | hc
        · exact be_small _ _ c hc
        · exact h c hc
theorem jfold_from_small : ∀ (rs : List JW) (p : Nat × List Nat), (∀ r ∈ rs, ∀ c ∈ r.l, c < 256) → (∀ c ∈ p.2, c < 256) → ∀ c ∈ (rs.foldl (fun p r => aft p.1 p.2 (rput r.tag r.l)) p).2, c < 256
  | [], p, _, hp => hp
  | r :: rs, p, h, hp => by
    rw [List.foldl_cons]
    refine jfold_from_small rs _ (fun q hq => h q (List.mem_cons_of_mem _ hq)) ?_
    unfold aft
    split
    · intro c hc
      rcases List.mem_append.1 hc with hc | hc
      · exact hp c hc
      · exact rput_small r.tag r.l (h r (List.mem_cons_self ..)) c hc
    · exact hp
theorem jfold_small (rs : List JW) (h : ∀ r ∈ rs, ∀ c ∈ r.l, c < 256) : ∀ c ∈ (jfold rs).2, c < 256 :=
  jfold_from_small rs (0, []) h (fun c hc => by simp at hc)
theorem jfold_from_len : ∀ (rs : List JW) (p : Nat × List Nat), (rs.foldl (fun p r => aft p.1 p.2 (rput r.tag r.l)) p).2.length ≤ p.2.length + jroom rs
  | [], p => Nat.le_add_right _ _
  | r :: rs, p => by
    rw [List.foldl_cons]
    have h1 := jfold_from_len rs (aft p.1 p.2 (rput r.tag r.l))
    have h2 : (aft p.1 p.2 (rput r.tag r.l)).2.length ≤ p.2.length + (r.l.length + 4) := by
      have := (rput_len r.tag r.l).2
      unfold aft
      split
      · show List.length (_ ++ _) ≤ _
        rw [List.length_append]
        omega
      · show p.2.length ≤ _
        omega
    have e : jroom (r :: rs) = (r.l.length + 4) + jroom rs := by unfold jroom; rw [List.map_cons, List.sum_cons]
    rw [e]
    omega
theorem jfold_len (rs : List JW) : (jfold rs).2.length ≤ jroom rs := by
  have := jfold_from_len rs (0, [])
  simpa [jfold] using this

theorem iv_below {w w' : World} {base : Nat} {v : Value} {ts : List Int} (h : IvOwn w base v ts) (hb : Below w.heap.size w w') : IvOwn w' base v ts := by
  refine ⟨h.1, ?_⟩
  rcases h.2 with e | ⟨g, cap, cur, e, hg, hh, r⟩
  · exact .inl e
  · refine .inr ⟨g, cap, cur, e, hg, ?_, r⟩
    rw [(Frm.ofBelow (S := fun _ => False) hb).block g (Array.getElem?_eq_some_iff.1 hh).1 (fun h => h)]
    exact hh
/-- A list of the tags of records that fit, as Expect wants it. -/
theorem iv_shows {w : World} {base : Nat} {v : Value} {rs : List JW} (h : IvOwn w base v (rs.map JW.tag)) (hf : ∀ r ∈ rs, r.Fits) :
    ∃ a c, v = .slice a rs.length c ∧ Rcs (fun r : Nat × List Nat => [.int .i64 (r.1 : Int)]) 1 w a rs.length c (rs.map JW.nat) := by
  obtain ⟨a, c, e, hr⟩ := RLk.row (.inl h)
  rw [List.length_map] at e hr
  refine ⟨a, c, e, ⟨by simp, ?_⟩⟩
  have e2 : (rs.map JW.nat).flatMap (fun r : Nat × List Nat => [.int .i64 (r.1 : Int)]) = (rs.map JW.tag).map (Value.int .i64 ·) := by
    clear h hr e
    induction rs with
    | nil => rfl
    | cons r rs ih =>
      rw [List.map_cons, List.flatMap_cons, List.map_cons, List.map_cons, ih (fun q hq => hf q (List.mem_cons_of_mem _ hq))]
      have h1 := (hf r (List.mem_cons_self ..)).1
      have h2 : (r.nat.1 : Int) = r.tag := by show ((r.tag.toNat : Nat) : Int) = r.tag; omega
      rw [h2]
      rfl
  rw [e2]
  exact hr
theorem bytesOf_str {l : List Nat} (h : ∀ c ∈ l, c < 256) : bytesOf (str l) = l := by
  unfold bytesOf str
  simp only [List.map_map]
  rw [List.map_congr_left (g := id) (fun c hc => by have h2 := h c hc; show (UInt8.ofNat c).toNat = c; rw [UInt8.toNat_ofNat']; exact Nat.mod_eq_of_lt h2)]
  simp
theorem hex_there (l : List Nat) : (hexOf l).length = 2 * l.length := hexOf_len l
theorem enc_bound : ∀ (rv : List RV), jroom (rv.map RV.jw) ≤ 2 * ((rv.map RV.key).flatMap encP).length ∧ 3 * rv.length ≤ ((rv.map RV.key).flatMap encP).length
  | [] => ⟨Nat.zero_le _, Nat.zero_le _⟩
  | r :: rv => by
    obtain ⟨h1, h2⟩ := enc_bound rv
    have e : jroom ((r :: rv).map RV.jw) = (r.l.length + 4) + jroom (rv.map RV.jw) := by unfold jroom; rw [List.map_cons, List.map_cons, List.sum_cons]; rfl
    have e2 : (((r :: rv).map RV.key).flatMap encP).length = (r.l.length + 3) + ((rv.map RV.key).flatMap encP).length := by
      rw [List.map_cons, List.flatMap_cons, List.length_append]
      show (encR r.tag r.l).length + _ = _
      rw [encR_len]
    rw [e, e2, List.length_cons]
    omega
theorem split_bound {L : List Nat} {len : Nat} {rv : List RV} (hL : L.length = len) (hs : ∀ c ∈ L, c < 256) (h : Pars L len 0 (rv.map RV.key) len) :
    (∀ r ∈ rv, r.l.length ≤ 65535 ∧ ∀ c ∈ r.l, c < 256) ∧ jroom (rv.map RV.jw) ≤ 2 * len ∧ rv.length ≤ len := by
  obtain ⟨h1, h2⟩ := join_pars _ L len 0 hL hs h
  rw [List.drop_zero] at h1
  have hb := enc_bound rv
  rw [← h1, hL] at hb
  refine ⟨fun r hr => ⟨(h2 r.key (List.mem_map.2 ⟨r, hr, rfl⟩)).2.2, fun c hc => hs c ?_⟩, hb.1, by omega⟩
  rw [h1]
  refine List.mem_flatMap.2 ⟨r.key, List.mem_map.2 ⟨r, hr, rfl⟩, ?_⟩
  show c ∈ encR r.tag r.l
  exact List.mem_cons_of_mem _ (List.mem_append.2 (.inr hc))
end Go.Proofs.YtohoncgkekiihaaDoor
