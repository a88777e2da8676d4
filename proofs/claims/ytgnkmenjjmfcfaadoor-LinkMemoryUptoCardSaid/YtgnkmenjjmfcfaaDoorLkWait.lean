/-
  The program's Waiting.
-/
import Derived.Test.YtgnkmenjjmfcfaaDoorLkNext
namespace Go.Proofs.YtgnkmenjjmfcfaaDoor
open Go.RowKit FerryCrc Q
open Go.Maps (Keyed)
set_option linter.unusedVariables false
set_option linter.unusedSimpArgs false

def wtP (L : Lk) (to : Int) (k : Int) : Bool := match L.M k with | some x => decide (x.t = to) | none => false
/-- The numbers of those under way to a module, rising. -/
def wtL (L : Lk) (to : Int) : List Int := ((List.range L.n).map (fun i : Nat => (i : Int) + 1)).filter (wtP L to)
theorem wtP_iff {L : Lk} {to k : Int} : wtP L to k = true ↔ ∃ x, L.M k = some x ∧ x.t = to := by
  unfold wtP
  cases L.M k with
  | none => simp
  | some x => simp
theorem wtL_rising (L : Lk) (to : Int) : (wtL L to).Pairwise (· < ·) := by
  refine List.Pairwise.filter _ ?_
  rw [List.pairwise_map]
  exact List.pairwise_lt_range.imp (fun h => by omega)
theorem wtL_mem {L : Lk} (ok : ∀ k x, L.M k = some x → 1 ≤ k ∧ k ≤ (L.n : Int)) {to k : Int} : k ∈ wtL L to ↔ ∃ x, L.M k = some x ∧ x.t = to := by
  unfold wtL
  rw [List.mem_filter, wtP_iff]
  constructor
  · exact fun h => h.2
  · intro h
    refine ⟨?_, h⟩
    obtain ⟨x, hx, -⟩ := h
    obtain ⟨h1, h2⟩ := ok k x hx
    exact List.mem_map.2 ⟨(k - 1).toNat, List.mem_range.2 (by omega), by omega⟩
theorem wtL_len (L : Lk) (to : Int) : (wtL L to).length ≤ L.n := by
  refine Nat.le_trans (List.length_filter_le _ _) ?_
  rw [List.length_map, List.length_range]
  exact Nat.le_refl _
/-- What is sorted, and holds just those, is the list. -/
theorem wtL_of {L : Lk} (ok : ∀ k x, L.M k = some x → 1 ≤ k ∧ k ≤ (L.n : Int)) {to : Int} {zs : List Int} (hnd : zs.Nodup) (hm : ∀ k, k ∈ zs ↔ ∃ x, L.M k = some x ∧ x.t = to) : zs.mergeSort (fun x y => decide (x ≤ y)) = wtL L to := by
  have hp : (zs.mergeSort (fun x y => decide (x ≤ y))).Perm (wtL L to) := by
    refine (List.mergeSort_perm _ _).trans ?_
    refine (List.perm_ext_iff_of_nodup hnd ?_).2 (fun k => by rw [hm, wtL_mem ok])
    exact (wtL_rising L to).imp (fun h => Int.ne_of_lt h)
  have hs := List.pairwise_mergeSort (le := fun x y : Int => decide (x ≤ y)) (fun a b c h1 h2 => by simp only [decide_eq_true_eq] at *; omega) (fun a b => by simp; omega) zs
  refine hp.eq_of_pairwise (le := fun a b : Int => a ≤ b) (fun a b _ _ h1 h2 => by omega) (hs.imp (fun h => of_decide_eq_true h)) ((wtL_rising L to).imp (fun h => Int.le_of_lt h))
theorem bel_grown {B : Nat} {a w w' : World} {row : Option Nat} (h : Below B a w) (hg : w.grownBy w' row) (ha : B ≤ a.heap.size) (hr : ∀ b, row = some b → B ≤ b) : Below B a w' := h.grown hg (Nat.le_trans ha h.size) hr
set_option maxRecDepth 100000 in
set_option maxHeartbeats 2000000 in
theorem waiting_any {lb mb : Nat} {L : Lk} (to : Int) (hn : L.n ≤ 17592186044416) {w : World} (h : LAt w lb mb L)
    (hsort : ∀ (w : World) (base : Nat) (v : Value) (l : List Int), IsOwn w base v l → l.length < 4611686018427387904 → Calls Tryd.prog 36 #[v] w fun e w' => e = .returned (.tuple #[]) ∧ IsOwn w' base v (l.mergeSort (fun x y => decide (x ≤ y))) ∧ Below base w w') :
    Calls Tryd.prog 20 #[.pointer (some ⟨lb, 0, none⟩), .int .i64 to] w fun e w' => ∃ a n c, e = .returned (.slice a n c) ∧ n = (wtL L to).length ∧ IsOwn w' w.heap.size (.slice a n c) (wtL L to) ∧ Below w.heap.size w w' := by
  have HSORT := hide hsort
  have HOK := hide h.ok
  have HML := hide h.mb_lt
  have c1 := h.bk.cell 1 rfl
  obtain ⟨D, h3, h4⟩ := h.own
  have HM := hide h4
  have HSZ := hide h3.size_le
  clear hsort h h4
  go_enter Tryd.func20, Tryd.ntmps20
  go_upto_region 3 with (at_range; (refine wp_range _ rfl _ rfl mb L.n D rfl h3 ?_; intro w1 q1 q2 q3; have HR1 := hide q1; have HG1 := hide q2; have HS1 := hide q3; clear q1 q2 q3 h3 c1))
  simp only [Act.put, List.setIfInBounds_toArray, List.set_cons_zero, List.set_cons_succ]
  obtain ⟨r, hr⟩ : ∃ r, w.heap.size = r := ⟨_, rfl⟩
  rw [hr] at HR1 HS1
  simp only [hr]
  have HRR := hide hr
  clear hr
  go_loopw [5] (fun s wr => ∃ (left : Lit → Bool) (cnt : Nat) (zs : List Int), Hid (wr.ranges Tryd.prog 3 letR mb r L.n D left cnt) ∧ Hid (IsOwn wr w1.heap.size s zs) ∧ Hid ((∀ k, k ∈ zs ↔ (∃ x, L.M k = some x ∧ x.t = to) ∧ left (kl k) = false) ∧ zs.Nodup ∧ zs.length + cnt ≤ L.n) ∧ Hid (Below w.heap.size w wr)) (fun _ wr => wr.rangeLeft mb r)
  case atStart =>
    refine ⟨Maps.has D, Maps.size D, [], HR1.out, isOwn_nil _ _, ⟨fun k => ⟨fun h => (by cases h), fun h => ?_⟩, List.nodup_nil, by have := HSZ.out; simpa using this⟩, ?_⟩
    · obtain ⟨⟨x, hx, -⟩, h2⟩ := h
      rw [HM.out.has k, hx] at h2
      cases h2
    · exact bel_grown (Below.refl _ _) HG1.out (Nat.le_refl _) (fun b e => by cases e)
  case round =>
  obtain ⟨left, cnt, zs, HRG, HZ, HI, HB⟩ := hrel
  have HLE : Hid (wr.rangeLeft mb r = cnt) := HRG.out.left_eq
  go_upto_region 3 with fail
  refine wp_region_list ?_
  refine wp_next _ rfl _ rfl mb r L.n D L.M left cnt HM.out rfl HRG.out ?_ ?_
  · intro hc0 hl0
    have HZS : Hid (zs.mergeSort (fun x y => decide (x ≤ y)) = wtL L to) := wtL_of HOK.out HI.out.2.1 (fun k => by rw [HI.out.1 k, hl0]; simp)
    clear hc0 hl0
    simp only [Act.put, List.setIfInBounds_toArray, List.set_cons_zero, List.set_cons_succ]
    go_wp2_with fail
    refine Calls.mono (HSORT.out wr w1.heap.size u5 zs HZ.out (by have h1 := HI.out.2.2; omega)) ?_
    rintro e w4 ⟨rfl, o4, b4⟩
    rw [HZS.out] at o4
    have HO4 := hide o4
    have HB4 : Hid (Below w.heap.size w w4) := HB.out.trans (b4.mono (by have h1 := HRR.out; have h2 := HS1.out; omega))
    clear o4 b4 HZ HB HSORT HI
    obtain ⟨a, c, rfl⟩ := own_len HO4.out rfl
    go_wp2
    go_ret
    exact ⟨a, _, c, rfl, rfl, HO4.out.weaken (by have h1 := HRR.out; have h2 := HS1.out; omega), HB4.out⟩
  · intro k f t s sp w2 cnt2 hl hMk hrg hlt hgr hsz hen
    have HRG2 := hide hrg
    have HZ2 : Hid (IsOwn w2 w1.heap.size u5 zs) := HZ.out.frm (frm_grown hgr) (fun g e e2 => by have h1 := (World.ownsRow.lt HZ.out g e).1; have h2 := HS1.out; have h3 := Option.some.inj e2; omega)
    have HB2 := hide (bel_grown HB.out hgr (Nat.le_refl _) (fun b e => by have h1 := HRR.out; have h2 := Option.some.inj e; omega))
    have HM2 : Hid (k ∉ zs) := fun hk => by have h1 := ((HI.out.1 k).1 hk).2; rw [hl] at h1; cases h1
    have HMK := hide hMk
    have HLT := hide hlt
    clear hrg hgr hl hMk hlt hsz HZ HB
    obtain ⟨w3, hw3, B3, D3⟩ := box1 w2 [.int .i64 f, .int .i64 t, .string s, .bool sp] 74
    simp only [Act.put, List.setIfInBounds_toArray, List.set_cons_zero, List.set_cons_succ]
    go_upto_region 5 with fail
    try simp only [hw3]
    have hg3 : w2.grownBy w3 none := by rw [← hw3]; exact World.grownBy_alloc w2 _ none
    have HRG3 := hide (HRG2.out.kept hg3 (by simp) (by simp))
    clear hg3
    have HZ3 := hide (HZ2.out.below D3)
    have HB3 := hide (chain HB2.out D3)
    have x1 := B3.cell 1 rfl
    have HS3 : Hid (w1.heap.size ≤ w3.heap.size) := by
      have h1 := D3.size
      have h2 := HRG2.out.lt
      have h3 := HS1.out
      unfold Hid; omega
    clear hw3 B3 D3 HRG2 HZ2 HB2
    have HL' : Hid (∀ j, (left (kl j) && !(kl j).sameKey (kl k)) = false ↔ (left (kl j) = false ∨ j = k)) := fun j => by
      rw [kl_same]
      by_cases e : j = k
      · simp [e]
      · simp [e]
    by_cases ht : t = to
    · subst ht
      have hbb : ((t : Int) == t) = true := by simp
      have HNK : Hid (zs.length + 1 + cnt2 ≤ L.n) := by have h1 := HI.out.2.2; have h2 := HLT.out; unfold Hid; omega
      go_upto_region 6 with fail
      go_wp2_with (at_builtin; (refine append_lits (f := iv) iv1 0 Tryd.underlying51 infoI _ rfl (.tmp 23) (.tmp 25) rfl w1.heap.size u5 zs rfl (HZ3.out.below (xnew w3 _)) w3.heap.size 1 1 [k] rfl rfl (Bk.new w3 _ _) (iv_one _) (by decide) (by have h1 := HNK.out; omega) (by have h1 := HNK.out; omega) (Nat.le_trans HS3.out (xnew w3 _).size) ?_; intro g4 c4 w4 k1 k2 k3; have H4 := hide k1; have HG4 := hide k2; clear k1 k2 k3))
      have hne : ∀ g, u5.ownBlock = some g → w1.heap.size ≤ g := fun g e => (World.ownsRow.lt HZ3.out g e).1
      have HRG4 := (HRG3.out.kept (World.grownBy_alloc w3 (.cells #[.int .i64 k] 3) none) (by simp) (by simp)).kept HG4.out (fun e => by have h1 := hne _ e.symm; have h2 := HML.out; have h3 := HS1.out; have h4 := HRR.out; omega) (fun e => by have h1 := hne _ e.symm; have h3 := HS1.out; omega)
      have HB4 := bel_grown (chain HB3.out (xnew w3 (.cells #[.int .i64 k] 3))) HG4.out (Nat.le_refl _) (fun b e => by have h1 := hne _ e; have h3 := HS1.out; have h4 := HRR.out; omega)
      refine ⟨⟨fun z => left z && !z.sameKey (kl k), cnt2, zs ++ [k], HRG4, H4.out, ⟨fun j => ?_, ?_, by rw [List.length_append]; have := HNK.out; simp only [List.length_singleton]; omega⟩, HB4⟩, ?_⟩
      · rw [List.mem_append, List.mem_singleton, HI.out.1 j, HL'.out j]
        constructor
        · rintro (⟨h1, h2⟩ | rfl)
          · exact ⟨h1, .inl h2⟩
          · exact ⟨⟨_, HMK.out, rfl⟩, .inr rfl⟩
        · rintro ⟨h1, h2 | h2⟩
          · exact .inl ⟨h1, h2⟩
          · exact .inr h2
      · refine List.nodup_append.2 ⟨HI.out.2.1, by simp, fun a ha b hb => ?_⟩
        rw [List.mem_singleton] at hb
        subst hb
        exact fun e => HM2.out (e ▸ ha)
      · rw [HRG4.left_eq, HLE.out]
        exact HLT.out
    · have hbb : ((t : Int) == to) = false := by simp [ht]
      go_wp2
      refine ⟨⟨fun z => left z && !z.sameKey (kl k), cnt2, zs, HRG3.out, HZ3.out, ⟨fun j => ?_, HI.out.2.1, by have h1 := HI.out.2.2; have h2 := HLT.out; omega⟩, HB3.out⟩, ?_⟩
      · rw [HI.out.1 j, HL'.out j]
        constructor
        · exact fun h => ⟨h.1, .inl h.2⟩
        · rintro ⟨⟨x, hx, hxt⟩, h2 | h2⟩
          · exact ⟨⟨x, hx, hxt⟩, h2⟩
          · subst h2
            rw [HMK.out] at hx
            obtain rfl := Option.some.inj hx
            exact absurd hxt ht
      · rw [HRG3.out.left_eq, HLE.out]
        exact HLT.out
end Go.Proofs.YtgnkmenjjmfcfaaDoor
