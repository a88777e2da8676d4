/-
  The law's own comparison of lists of records, where they are alike.
-/
import Derived.Test.YtcgielkdobnkkaaDoorWtRecs
namespace Go.Proofs.YtcgielkdobnkkaaDoor
open Go.RowKit FerryCrc
set_option linter.unusedVariables false
set_option linter.unusedSimpArgs false

set_option maxRecDepth 100000 in
set_option maxHeartbeats 400000 in
theorem sameRecs_ok (a : Option Addr) (len cap : Nat) (rs : List JW) (a2 : Option Addr) (cap2 : Nat) (rs2 : List JW) (w : World) (hs : Rcs JW.cells 2 w a len cap rs) (hok : ∀ r ∈ rs, Bts w r.a r.n r.c r.l) (hs2 : Rcs JW.cells 2 w a2 len cap2 rs2) (hok2 : ∀ r ∈ rs2, Bts w r.a r.n r.c r.l) (hk : rs.map JW.key = rs2.map JW.key) (hm : len ≤ 140737488355328) :
    Calls Tryd.prog 26 #[.slice a len cap, .slice a2 len cap2] w fun e w' => e = .returned (.bool true) ∧ Below w.heap.size w w' := by
  have HS := hide hs
  have HK := hide hok
  have HZ := hide hs.size
  have HS2 := hide hs2
  have HK2 := hide hok2
  have HZ2 := hide hs2.size
  have HE := hide hk
  clear hs hok hs2 hok2 hk
  go_enter Tryd.func26, Tryd.ntmps26
  go_wp2_with fail
  go_loopw [5] (fun i wr => ∃ k : Nat, k ≤ len ∧ i = .int .i64 (k : Int) ∧ Hid (Below w.heap.size w wr)) (fun i _ => len - (intOf i).toNat)
  case atStart => exact ⟨0, by omega, rfl, Below.refl _ _⟩
  case round =>
    obtain ⟨k, hk, rfl, HB⟩ := hrel
    by_cases hlt : k < len
    · obtain ⟨r, hr⟩ : ∃ r, rs[k]? = some r := ⟨_, List.getElem?_eq_getElem (by rw [HZ.out]; exact hlt)⟩
      obtain ⟨r2, hr2⟩ : ∃ r2, rs2[k]? = some r2 := ⟨_, List.getElem?_eq_getElem (by rw [HZ2.out]; exact hlt)⟩
      have hkey : r.key = r2.key := by
        have h1 := congrArg (fun l => l[k]?) HE.out
        simp only [List.getElem?_map, hr, hr2, Option.map_some] at h1
        exact Option.some.inj h1
      obtain ⟨b, off, rfl, hcell⟩ := HS.out.at JW.len (by decide) hr
      obtain ⟨b2, off2, rfl, hcell2⟩ := HS2.out.at JW.len (by decide) hr2
      have k0 : wr.cell? ⟨b, off + k * 2, none⟩ = some (.int .i64 r.tag) := cell_below2 (hcell 0 _ rfl) HB.out
      have k1 : wr.cell? ⟨b, off + k * 2 + 1, none⟩ = some (.slice r.a r.n r.c) := cell_below2 (hcell 1 _ rfl) HB.out
      have j0 : wr.cell? ⟨b2, off2 + k * 2, none⟩ = some (.int .i64 r2.tag) := cell_below2 (hcell2 0 _ rfl) HB.out
      have j1 : wr.cell? ⟨b2, off2 + k * 2 + 1, none⟩ = some (.slice r2.a r2.n r2.c) := cell_below2 (hcell2 1 _ rfl) HB.out
      have s1 := bts_string (((HK.out r (List.mem_of_getElem? hr)).below HB.out).below (Below.refl _ _).drew)
      have s2 := bts_string (((HK2.out r2 (List.mem_of_getElem? hr2)).below HB.out).below (Below.refl _ _).drew)
      have e1 : r.tag = r2.tag := congrArg Prod.fst hkey
      have e2 : r.l = r2.l := congrArg Prod.snd hkey
      rw [e1] at k0
      rw [e2] at s1
      clear hcell hr hcell2 hr2 hkey e1 e2
      generalize r2.tag = T at *
      generalize str r2.l = Z at *
      go_wp2_with fail
      go_region_held3 (fun wz => wz.cell? ⟨b, off + k * 2, none⟩ = some (.int .i64 T) ∧ wz.cell? ⟨b, off + k * 2 + 1, none⟩ = some (.slice r.a r.n r.c) ∧ wz.cell? ⟨b2, off2 + k * 2, none⟩ = some (.int .i64 T) ∧ wz.cell? ⟨b2, off2 + k * 2 + 1, none⟩ = some (.slice r2.a r2.n r2.c) ∧ (convert 41 9 (.slice r.a r.n r.c)).run Tryd.prog wz = .ok (.string Z) wz ∧ (convert 41 9 (.slice r2.a r2.n r2.c)).run Tryd.prog wz = .ok (.string Z) wz) (exact ⟨k0, k1, j0, j1, s1, s2⟩) (first | fail)
      go_wp2
      exact ⟨⟨k + 1, by omega, by first | rfl | simp, HB.out.drew⟩, by simp [intOf]; omega⟩
    · obtain rfl : k = len := by omega
      go_wp2
      go_ret
      exact ⟨rfl, HB.out⟩
end Go.Proofs.YtcgielkdobnkkaaDoor
