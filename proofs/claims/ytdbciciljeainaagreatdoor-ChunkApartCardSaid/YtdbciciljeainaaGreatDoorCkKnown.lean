/-
  The law's own small test: known.
-/
import Derived.Test.YtdbciciljeainaaGreatDoorCkPut
import Derived.Test.YtdbciciljeainaaGreatDoorCkGet
import Derived.Test.YtdbciciljeainaaGreatDoorXfCut
import Derived.Test.YtdbciciljeainaaGreatDoorXfKit
import Derived.BigQuiet
import Derived.Deep.CutRange
namespace Go.Proofs.YtdbciciljeainaaGreatDoor
open Go.RowKit FerryCrc
set_option linter.unusedVariables false
set_option linter.unusedSimpArgs false

/-- The chapter's commit. -/
def fNt : Nt := ⟨4, 2, 1, 3, 2, 0, 0, 0, 0, ⟨#[]⟩⟩
theorem fNt_chk : chk fNt = 0 := by decide +kernel
theorem fNt_put : putS fNt = str (sealOf (body fNt)) := if_pos fNt_chk
theorem fNt_bytes : bytesOf (putS fNt) = sealOf (body fNt) := by
  rw [fNt_put]
  exact bytes_str (sealOf_small (body_small (chk_num fNt_chk)))
theorem fNt_size : (putS fNt).size = 27 := by
  rw [fNt_put, str_len, sealOf_length, body_len]
  rfl
theorem fNt_get : getE (bytesOf (putS fNt)) = 0 ∧ getN (bytesOf (putS fNt)) = fNt := by
  rw [fNt_bytes]
  exact get_put fNt_chk (by decide) (by decide)
theorem fNt_body : body fNt = [0, 27, 4, 2, 0, 0, 0, 1, 0, 0, 0, 3, 0, 0, 0, 2, 0, 0, 0, 0, 0, 0, 0] := by decide +kernel
theorem str_take (l : List Nat) (n : Nat) : (str l).extract 0 n = str (l.take n) := by
  apply ByteArray.ext
  rw [ByteArray.data_extract]
  simp only [str]
  rw [← Array.toList_inj]
  simp
theorem fNt_front : (putS fNt).extract 0 23 = ⟨#[0, 27, 4, 2, 0, 0, 0, 1, 0, 0, 0, 3, 0, 0, 0, 2, 0, 0, 0, 0, 0, 0, 0]⟩ := by
  rw [fNt_put, str_take]
  have : (sealOf (body fNt)).take 23 = body fNt := by
    unfold sealOf
    exact List.take_left' (body_len fNt)
  rw [this, fNt_body]
  rfl

set_option maxRecDepth 100000 in
theorem first_any (w : World) : Calls Tryz.prog 21 #[] w fun e w' => e = .returned (.agg #[.int .i64 4, .int .i64 2, .int .i64 1, .int .i64 3, .int .i64 2, .int .i64 0, .int .i64 0, .int .i64 0, .int .u32 0, .string ⟨#[]⟩]) ∧ Below w.heap.size w w' := by
  obtain ⟨W, hW, B0, D0⟩ := box1 w [.int .i64 4, .int .i64 2, .int .i64 1, .int .i64 3, .int .i64 2, .int .i64 0, .int .i64 0, .int .i64 0, .int .u32 0, .string ⟨#[]⟩] 33
  have HB := hide B0
  have HD := hide D0
  have HW := hide hW
  clear hW B0 D0
  go_enter Tryz.func21, Tryz.ntmps21
  go_wp2
  have hW := HW.out
  simp only [hW]
  have e0 := HB.out.cell 0 rfl
  have e1 := HB.out.cell 1 rfl
  have e2 := HB.out.cell 2 rfl
  have e3 := HB.out.cell 3 rfl
  have e4 := HB.out.cell 4 rfl
  have e5 := HB.out.cell 5 rfl
  have e6 := HB.out.cell 6 rfl
  have e7 := HB.out.cell 7 rfl
  have e8 := HB.out.cell 8 rfl
  have e9 := HB.out.cell 9 rfl
  refine bodyPost_ret (v := .agg #[.int .i64 4, .int .i64 2, .int .i64 1, .int .i64 3, .int .i64 2, .int .i64 0, .int .i64 0, .int .i64 0, .int .u32 0, .string ⟨#[]⟩]) (by simp [results, Tryz.results21, go_sem, e0, e1, e2, e3, e4, e5, e6, e7, e8, e9]) rfl ?_
  exact ⟨rfl, HD.out⟩

theorem infoBy : (Tryz.prog.info? 5).map (fun i => (i.size, i.bytes, i.zero.map (·.cells))) = some (1, 1, some [bv 0].toArray) := by kernel_rfl
theorem make300 (w : World) : ∃ w', (Instr.makeSlice 56 (.int .i64 300) (.int .i64 300)).run Tryz.prog w = .ok (.slice (some ⟨w.heap.size, 0, none⟩) 300 300) w' ∧ Bts w' (some ⟨w.heap.size, 0, none⟩) 300 300 (List.replicate 300 0) ∧ Below w.heap.size w w' := by
  obtain ⟨w', h1, h2, h3⟩ := made_recs (f := fun c : Nat => [bv c]) (sz := 1) (byt := 1) (fun _ => rfl) (by decide) 0 Tryz.underlying56 infoBy w 300 (by decide) (by decide)
  refine ⟨w', h1, ?_, h3⟩
  have h4 : Own w' w.heap.size (.slice (some ⟨w.heap.size, 0, none⟩) 300 300) (List.replicate 300 0) := by
    unfold LOwn at h2
    unfold Own
    rw [← List.map_eq_flatMap] at h2
    exact h2
  exact h4.bts List.length_replicate (by decide) (fun c hc => by rw [List.eq_of_mem_replicate hc]; decide)
theorem cut300 : cutE 2 1 3 2 1 300 = 0 ∧ (cutL 2 1 3 2 1 (List.replicate 300 0)).length = 3 ∧ ∃ x : Nt, (cutL 2 1 3 2 1 (List.replicate 300 0))[2]? = some x ∧ x.data.size = 44 := by
  have h0 : cutE 2 1 3 2 1 300 = 0 := by decide +kernel
  have ht : tot (List.replicate 300 0) = 3 := by unfold tot; rw [List.length_replicate]
  have hl : cutL 2 1 3 2 1 (List.replicate 300 0) = cutN 2 1 3 2 1 (List.replicate 300 0) := by
    unfold cutL
    rw [List.length_replicate, if_pos h0]
  refine ⟨h0, ?_, ?_⟩
  · rw [hl]
    unfold cutN
    rw [List.length_map, List.length_range, ht]
  · refine ⟨ntOf 2 1 3 2 1 (List.replicate 300 0) 2, ?_, ?_⟩
    · rw [hl]
      unfold cutN
      rw [List.getElem?_map, ht]
      rfl
    · show (pcs (List.replicate 300 0) 2).size = 44
      unfold pcs
      rw [str_len, List.length_take, List.length_drop, List.length_replicate]
      decide
theorem fNt_neq (w : World) : (binOp .neq 33 (.agg #[.int .i64 4, .int .i64 2, .int .i64 1, .int .i64 3, .int .i64 2, .int .i64 0, .int .i64 0, .int .i64 0, .int .u32 0, .string ⟨#[]⟩]) (.agg #[.int .i64 4, .int .i64 2, .int .i64 1, .int .i64 3, .int .i64 2, .int .i64 0, .int .i64 0, .int .i64 0, .int .u32 0, .string ⟨#[]⟩])).run Tryz.prog w = .ok (.bool false) w := by
  go_simp

theorem fNt_xid (w : World) : (Instr.field 33 (.agg #[.int .i64 4, .int .i64 2, .int .i64 1, .int .i64 3, .int .i64 2, .int .i64 0, .int .i64 0, .int .i64 0, .int .u32 0, .string ⟨#[]⟩]) 2).run Tryz.prog w = .ok (.agg #[.int .i64 1, .int .i64 3, .int .i64 2]) w := by
  kernel_rfl

set_option maxRecDepth 100000 in
set_option maxHeartbeats 1500000 in
theorem known_any {w : World} {E : Nat → Addr} (he : Er10 w E) : Calls Tryz.prog 5 #[] w fun e w' => e = .returned (.bool true) ∧ Below w.heap.size w w' := by
  have HE := hide he
  have HF := hide first_any
  have hfx := fNt_xid
  have hgt : Tryz.prog.eqGuardType Tryz.prog.depth 33 = false := by kernel_rfl
  clear he
  go_enter Tryz.func5, Tryz.ntmps5
  go_wp2_with fail
  refine Calls.mono (HF.out _) ?_
  rintro e w1 ⟨rfl, b1⟩
  have HD := hide b1
  replace HE := hide (HE.out.below b1)
  clear b1
  have HPT : Hid (Calls Tryz.prog 22 #[.agg #[.int .i64 4, .int .i64 2, .int .i64 1, .int .i64 3, .int .i64 2, .int .i64 0, .int .i64 0, .int .i64 0, .int .u32 0, .string ⟨#[]⟩]] w1 fun e w' => e = .returned (.tuple #[.string (putS fNt), erv E (chk fNt)]) ∧ Below w1.heap.size w1 w') := put_any 4 2 1 3 2 0 0 0 0 ⟨#[]⟩ HE.out.e7 (by decide) (by decide) (by decide) (by decide) (by decide)
  rw [fNt_chk] at HPT
  obtain ⟨s, hs⟩ : ∃ s, putS fNt = s := ⟨_, rfl⟩
  have hsz := fNt_size
  have hge := fNt_get
  have hfr := fNt_front
  rw [hs] at HPT hsz hge hfr
  clear hs
  have HSZ := hide hsz
  have HFR := hide hfr
  go_wp2_with fail
  refine Calls.mono HPT.out ?_
  rintro e w2 ⟨rfl, b1⟩
  rw [show erv E 0 = .nilIface from rfl]
  replace HD := hide (chain HD.out b1)
  replace HE := hide (HE.out.below b1)
  clear b1 HPT
  have HGT := hide (get_any s HE.out (by rw [HSZ.out]; decide))
  rw [hge.1, hge.2] at HGT
  replace HGT : Hid (Calls Tryz.prog 23 #[.string s] w2 fun e w' => e = .returned (.tuple #[.agg #[.int .i64 4, .int .i64 2, .int .i64 1, .int .i64 3, .int .i64 2, .int .i64 0, .int .i64 0, .int .i64 0, .int .u32 0, .string ⟨#[]⟩], .nilIface]) ∧ Below w2.heap.size w2 w') := HGT
  clear hsz hge hfr
  go_wp2_with fail
  refine Calls.mono HGT.out ?_
  rintro e w3 ⟨rfl, b1⟩
  replace HD := hide (chain HD.out b1)
  replace HE := hide (HE.out.below b1)
  clear b1 HGT
  obtain ⟨W, hW, B0, D0⟩ := box1 w3 [.int .i64 4, .int .i64 2, .int .i64 1, .int .i64 3, .int .i64 2, .int .i64 0, .int .i64 0, .int .i64 0, .int .u32 0, .string ⟨#[]⟩] 33
  obtain ⟨g, hg⟩ : ∃ g, w3.heap.size = g := ⟨_, rfl⟩
  rw [hg] at B0
  have HB := hide B0
  have HW := hide hW
  have HG := hide hg
  replace HD := hide (chain HD.out D0)
  replace HE := hide (HE.out.below D0)
  clear B0 D0 hW hg
  go_upto_region 3 with fail
  have hW := HW.out
  have hg := HG.out
  simp only [hW, hg]
  clear hW hg HW HG
  obtain ⟨wm, hrm, om, bm⟩ := make300 W.drew
  have DM := hide (chain (Below.refl _ W).drew bm)
  have HOM := hide om
  clear om bm
  go_cut [5, 6] from 17 to 24 (fun v5 v6 wz => ∃ va vc, v5 = .slice va 3 vc ∧ v6 = .nilIface ∧ Hid (Rcs Nt.cells 10 wz va 3 vc (cutL 2 1 3 2 1 (List.replicate 300 0))) ∧ Hid (Below W.heap.size W wz))
  case first =>
    go_region_with (first
      | (go_at_call 21; refine Calls.mono (HF.out _) ?_; rintro e wf ⟨rfl, bf⟩; obtain ⟨wn, hrn, on, bn⟩ := make300 wf; have HON := hide on; have HBN := hide bn; have HBF := hide bf; clear on bn bf)
      | (go_at_call 24; first
          | (refine Calls.mono (cut_any 2 1 3 2 1 _ 300 300 _ (HE.out.below (chain DM.out HBF.out)).e7 (HOM.out.below HBF.out)) ?_; rintro e wk ⟨v, rfl, ok, bk⟩; rw [cut300.1]; rw [show erv E 0 = .nilIface from rfl]; obtain ⟨va, vc, rfl, hr⟩ := ok.rcs; rw [cut300.2.1] at hr ⊢; have HR := hide hr; have HBK := hide (chain (chain DM.out HBF.out) bk); clear ok bk hr)
          | (refine Calls.mono (cut_any 2 1 3 2 1 _ 300 300 _ (HE.out.below (chain (chain (Below.refl _ W).drew HBF.out) HBN.out)).e7 HON.out) ?_; rintro e wk ⟨v, rfl, ok, bk⟩; rw [cut300.1]; rw [show erv E 0 = .nilIface from rfl]; obtain ⟨va, vc, rfl, hr⟩ := ok.rcs; rw [cut300.2.1] at hr ⊢; have HR := hide hr; have HBK := hide (chain (chain (chain (Below.refl _ W).drew HBF.out) HBN.out) bk); clear ok bk hr))
      | fail)
    all_goals go_wp2
    all_goals go_meet
    all_goals exact ⟨va, vc, rfl, rfl, HR.out, HBK.out⟩
  case rest =>
    obtain ⟨va, vc, rfl, rfl, K1, K2⟩ := hcut
    clear hfx hrm DM HOM
    obtain ⟨wz, hwz⟩ : ∃ z, z = wc := ⟨_, rfl⟩
    subst hwz
    obtain ⟨-, -, x, hx, hx44⟩ := cut300
    obtain ⟨gb, off, rfl, hcx⟩ := (K1.out.below (Below.refl _ wz).drew).at nt10 (by decide) hx
    have hd9 := hcx 9 (.string x.data) rfl
    obtain ⟨xd, hxd⟩ : ∃ d, x.data = d := ⟨_, rfl⟩
    rw [hxd] at hd9 hx44
    simp only [show off + 2 * 10 + 9 = off + 29 by omega] at hd9
    clear hcx hx hxd
    have HBz := hide ((HB.out.below K2.out).below (Below.refl _ wz).drew)
    have c0 := HBz.out.cell 0 rfl
    have c1 := HBz.out.cell 1 rfl
    have c2 := HBz.out.cell 2 rfl
    have c3 := HBz.out.cell 3 rfl
    have c4 := HBz.out.cell 4 rfl
    have c5 := HBz.out.cell 5 rfl
    have c6 := HBz.out.cell 6 rfl
    have c7 := HBz.out.cell 7 rfl
    have c8 := HBz.out.cell 8 rfl
    have c9 := HBz.out.cell 9 rfl
    have hneq := fNt_neq
    have HDz := hide (chain HD.out K2.out)
    have HX9 := hide hd9
    clear hd9
    go_upto_region 4 with fail
    go_cut [51] from 24 to 51 (fun v wy => v = .bool false ∧ Hid (Below w.heap.size w wy))
    case first =>
      have hd9 := HX9.out
      have hold1 : wz.drew.cell? ⟨g, 0, none⟩ = some (.int .i64 4) ∧ wz.drew.cell? ⟨g, 1, none⟩ = some (.int .i64 2) ∧ wz.drew.cell? ⟨g, 2, none⟩ = some (.int .i64 1) ∧ wz.drew.cell? ⟨g, 3, none⟩ = some (.int .i64 3) ∧ wz.drew.cell? ⟨g, 4, none⟩ = some (.int .i64 2) ∧ wz.drew.cell? ⟨g, 5, none⟩ = some (.int .i64 0) ∧ wz.drew.cell? ⟨g, 6, none⟩ = some (.int .i64 0) ∧ wz.drew.cell? ⟨g, 7, none⟩ = some (.int .i64 0) ∧ wz.drew.cell? ⟨g, 8, none⟩ = some (.int .u32 0) ∧ wz.drew.cell? ⟨g, 9, none⟩ = some (.string ⟨#[]⟩) ∧ wz.drew.cell? ⟨gb, off + 29, none⟩ = some (.string xd) := ⟨c0, c1, c2, c3, c4, c5, c6, c7, c8, c9, hd9⟩
      go_region_held3 (fun wy => wy.cell? ⟨g, 0, none⟩ = some (.int .i64 4) ∧ wy.cell? ⟨g, 1, none⟩ = some (.int .i64 2) ∧ wy.cell? ⟨g, 2, none⟩ = some (.int .i64 1) ∧ wy.cell? ⟨g, 3, none⟩ = some (.int .i64 3) ∧ wy.cell? ⟨g, 4, none⟩ = some (.int .i64 2) ∧ wy.cell? ⟨g, 5, none⟩ = some (.int .i64 0) ∧ wy.cell? ⟨g, 6, none⟩ = some (.int .i64 0) ∧ wy.cell? ⟨g, 7, none⟩ = some (.int .i64 0) ∧ wy.cell? ⟨g, 8, none⟩ = some (.int .u32 0) ∧ wy.cell? ⟨g, 9, none⟩ = some (.string ⟨#[]⟩) ∧ wy.cell? ⟨gb, off + 29, none⟩ = some (.string xd)) (first | exact hold1 | exact hold2) (first
        | (go_at_call 21; refine Calls.mono (HF.out _) ?_; rintro e wf ⟨rfl, bf⟩; have hold2 : wf.cell? ⟨g, 0, none⟩ = some (.int .i64 4) ∧ wf.cell? ⟨g, 1, none⟩ = some (.int .i64 2) ∧ wf.cell? ⟨g, 2, none⟩ = some (.int .i64 1) ∧ wf.cell? ⟨g, 3, none⟩ = some (.int .i64 3) ∧ wf.cell? ⟨g, 4, none⟩ = some (.int .i64 2) ∧ wf.cell? ⟨g, 5, none⟩ = some (.int .i64 0) ∧ wf.cell? ⟨g, 6, none⟩ = some (.int .i64 0) ∧ wf.cell? ⟨g, 7, none⟩ = some (.int .i64 0) ∧ wf.cell? ⟨g, 8, none⟩ = some (.int .u32 0) ∧ wf.cell? ⟨g, 9, none⟩ = some (.string ⟨#[]⟩) ∧ wf.cell? ⟨gb, off + 29, none⟩ = some (.string xd) := ⟨cell_below c0 bf, cell_below c1 bf, cell_below c2 bf, cell_below c3 bf, cell_below c4 bf, cell_below c5 bf, cell_below c6 bf, cell_below c7 bf, cell_below c8 bf, cell_below c9 bf, cell_below hd9 bf⟩; have HBF := hide bf; clear bf)
        | fail)
      all_goals go_wp2
      all_goals go_meet
      all_goals exact ⟨rfl, chain (chain HDz.out (Below.refl _ _).drew) HBF.out⟩
    case rest =>
      obtain ⟨rfl, K3⟩ := hcut
      have hsz := HSZ.out
      have hfr := HFR.out
      go_wp2
      go_ret
      exact ⟨rfl, K3.out⟩
end Go.Proofs.YtdbciciljeainaaGreatDoor
