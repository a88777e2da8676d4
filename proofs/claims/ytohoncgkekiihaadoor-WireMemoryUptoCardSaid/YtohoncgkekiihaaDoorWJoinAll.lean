/-
  Package wire's Join, of whatever records.
-/
import Derived.Test.YtohoncgkekiihaaDoorWrJoin
import Derived.Test.YtohoncgkekiihaaDoorWwPut
namespace Go.Proofs.YtohoncgkekiihaaDoor
open Go.RowKit FerryCrc
set_option linter.unusedVariables false
set_option linter.unusedSimpArgs false

/-- A record that is handed in, whatever its tag. -/
structure JW where
  tag : Int
  a : Option Addr
  n : Nat
  c : Nat
  l : List Nat
def JW.cells (r : JW) : List Value := [.int .i64 r.tag, .slice r.a r.n r.c]
theorem JW.len (r : JW) : r.cells.length = 2 := rfl
/-- What a writer holds behind the records: what spoils it, and its bytes. -/
def jfold (rs : List JW) : Nat × List Nat := rs.foldl (fun p r => aft p.1 p.2 (rput r.tag r.l)) (0, [])
theorem jfold_take {rs : List JW} {k : Nat} {r : JW} (h : rs[k]? = some r) : jfold (rs.take (k + 1)) = aft (jfold (rs.take k)).1 (jfold (rs.take k)).2 (rput r.tag r.l) := by
  unfold jfold
  rw [List.take_add_one, h, List.foldl_append]
  rfl
theorem rput_len (t : Int) (l : List Nat) : (rput t l).1 ≤ 20 ∧ (rput t l).2.length ≤ l.length + 4 := by
  unfold rput
  split
  · exact ⟨by show 3 ≤ 20; decide, by simp⟩
  · split
    · exact ⟨by show 5 ≤ 20; decide, by simp⟩
    · exact ⟨by show 0 ≤ 20; decide, by show (encR t.toNat l).length ≤ _; rw [encR_len]; omega⟩
/-- How much room the records want. -/
def jroom (rs : List JW) : Nat := (rs.map fun r => r.l.length + 4).sum
theorem jroom_take {rs : List JW} {k : Nat} {r : JW} (h : rs[k]? = some r) : jroom (rs.take (k + 1)) = jroom (rs.take k) + (r.l.length + 4) := by
  unfold jroom
  rw [List.take_add_one, h, List.map_append, List.sum_append]
  simp
theorem jroom_le (rs : List JW) (k : Nat) : jroom (rs.take k) ≤ jroom rs := by
  unfold jroom
  conv => rhs; rw [← List.take_append_drop k rs, List.map_append, List.sum_append]
  omega

set_option maxRecDepth 100000 in
set_option maxHeartbeats 400000 in
theorem join_all {E : Nat → Addr} (a : Option Addr) (len cap : Nat) (rs : List JW) (w : World) (hs : Rcs JW.cells 2 w a len cap rs) (hok : ∀ r ∈ rs, Bts w r.a r.n r.c r.l) (he : Errs w E) (hl : jroom rs ≤ 140737488351232) (hm : len ≤ 140737488355328) :
    Calls Tryd.prog 16 #[.slice a len cap] w fun e w' => PDone w E (jfold rs).1 (jfold rs).2 e w' := by
  have HS := hide hs
  have HK := hide hok
  have HL := hide hl
  have HE := hide he
  have HZ := hide hs.size
  clear hs hok he
  go_enter Tryd.func16, Tryd.ntmps16
  go_wp2_with fail
  refine Calls.mono (newWriter_any w) ?_
  rintro e w1 ⟨rfl, hw, hb⟩
  have HW := hide hw
  have HB := hide hb
  clear hw hb
  go_wp2_with fail
  go_loopw [10] (fun i wr => ∃ (k : Nat) (v : Value), k ≤ len ∧ i = .int .i64 (k : Int) ∧ Hid (Wr wr w.heap.size v (spv E (jfold (rs.take k)).1) (jfold (rs.take k)).2) ∧ Hid ((jfold (rs.take k)).1 ≤ 20 ∧ (jfold (rs.take k)).2.length ≤ jroom (rs.take k)) ∧ Hid (Below w.heap.size w wr)) (fun i _ => len - (intOf i).toNat)
  case atStart => exact ⟨0, _, by omega, rfl, HW, ⟨by simp [jfold], by simp [jfold]⟩, HB⟩
  case round =>
    obtain ⟨k, v, hk, rfl, HWR, HKL, HBR⟩ := hrel
    by_cases hlt : k < len
    · obtain ⟨r, hr⟩ : ∃ r, rs[k]? = some r := ⟨_, List.getElem?_eq_getElem (by rw [HZ.out]; exact hlt)⟩
      obtain ⟨b, off, rfl, hcell⟩ := HS.out.at JW.len (by decide) hr
      have k0 : wr.cell? ⟨b, off + k * 2, none⟩ = some (.int .i64 r.tag) := cell_below2 (hcell 0 _ rfl) HBR.out
      have k1 : wr.cell? ⟨b, off + k * 2 + 1, none⟩ = some (.slice r.a r.n r.c) := cell_below2 (hcell 1 _ rfl) HBR.out
      have HR := hide (HK.out r (List.mem_of_getElem? hr))
      have HT := hide (jfold_take hr)
      have HRM := hide (jroom_take hr)
      have HRL := hide (jroom_le rs (k + 1))
      have HKL2 : Hid ((jfold (rs.take (k + 1))).1 ≤ 20 ∧ (jfold (rs.take (k + 1))).2.length ≤ jroom (rs.take (k + 1))) := by
        unfold Hid
        rw [HT.out, HRM.out]
        obtain ⟨p1, p2⟩ := rput_len r.tag r.l
        obtain ⟨p3, p4⟩ := HKL.out
        unfold aft
        split
        · exact ⟨p1, by show List.length (_ ++ _) ≤ _; rw [List.length_append]; omega⟩
        · exact ⟨p3, by show (jfold (rs.take k)).2.length ≤ _; omega⟩
      clear hcell hr
      go_wp2_with fail
      have HA : Hid (Below wr.heap.size wr (wr.alloc (.cells #[.int .i64 r.tag, .slice r.a r.n r.c] 53))) := (Below.refl _ _).alloc (Nat.le_refl _) _
      have HFA : Hid (Far r.a r.n w.heap.size v) := fun h0 b' off' ha => by
        have h1 := bts_lt HR.out h0 ha
        exact ⟨by omega, fun e => by have := (HWR.out.blk b' e).1; omega⟩
      refine Calls.mono (wRecord_all w.heap.size v E _ _ r.tag r.a r.n r.c r.l _ (HWR.out.below HA.out) (HE.out.below (chain HBR.out HA.out)) (HR.out.below (chain HBR.out HA.out)) HFA.out (by have h1 := HKL.out.2; have h2 := HRM.out; have h3 := HRL.out; have h4 := HR.out.size; have h5 : jroom rs ≤ 140737488351232 := HL.out; omega)) ?_
      rintro e w3 ⟨rfl, v3, q1, q2, q3⟩
      rw [← HT.out] at q1
      have HW3 := hide q1
      have HB3 : Hid (Below w.heap.size w w3) := (chain HBR.out HA.out).trans (q2.below (chain HBR.out HA.out).size (fun j e => by
        rcases e with e | e
        · omega
        · have := (HWR.out.blk j e).1
          omega))
      clear q1 q2 q3 k0 k1
      go_wp2
      exact ⟨⟨k + 1, v3, by omega, by simp, HW3, HKL2, HB3⟩, by simp [intOf]; omega⟩
    · obtain rfl : k = len := by omega
      have e1 : rs.take k = rs := by rw [← HZ.out]; exact List.take_length
      rw [e1] at HWR HKL
      have HD := hide (wDone_all w.heap.size v E _ _ wr HWR.out HKL.out.1 (by have h1 := HKL.out.2; have h5 : jroom rs ≤ 140737488351232 := HL.out; omega))
      clear e1
      go_wp2_with fail
      refine Calls.mono HD.out ?_
      rintro e w3 ⟨v4, ev, rfl, hi, ho, hb⟩
      have HI := hide hi
      have HO := hide (ho.wk HBR.out.size)
      have HB3 := hide (chain HBR.out hb)
      clear hi ho hb
      go_wp2
      go_ret2
      exact ⟨v4, ev, rfl, HI.out, HO.out, HB3.out⟩
end Go.Proofs.YtohoncgkekiihaaDoor
