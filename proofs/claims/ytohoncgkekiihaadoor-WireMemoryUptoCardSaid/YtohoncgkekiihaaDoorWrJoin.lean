/-
  Package wire's Join: records that may be written, one behind the other.
-/
import Derived.Test.YtohoncgkekiihaaDoorWrRec
import Derived.Test.YtohoncgkekiihaaDoorRcs
import Derived.OwnWalk
namespace Go.Proofs.YtohoncgkekiihaaDoor
open Go.RowKit FerryCrc
set_option linter.unusedVariables false
set_option linter.unusedSimpArgs false

/-- A record that is handed in: its tag, its body's slice, its body. -/
structure JV where
  tag : Nat
  a : Option Addr
  n : Nat
  c : Nat
  l : List Nat
def JV.cells (r : JV) : List Value := [.int .i64 (r.tag : Int), .slice r.a r.n r.c]
theorem JV.len (r : JV) : r.cells.length = 2 := rfl
def JV.enc (r : JV) : List Nat := encR r.tag r.l
/-- It may be written. -/
def JV.ok (w : World) (r : JV) : Prop := Bts w r.a r.n r.c r.l ∧ 1 ≤ r.tag ∧ r.tag ≤ 255 ∧ r.n ≤ 65535
theorem cell_below2 {w w' : World} {a : Addr} {v : Value} (h : w.cell? a = some v) (hb : Below w.heap.size w w') : w'.cell? a = some v := by
  rw [hb.cell (p := a) (block_lt_of_cell h)]
  exact h
theorem bts_lt {w : World} {a : Option Addr} {m c : Nat} {l : List Nat} (h : Bts w a m c l) (h0 : 0 < m) {b off : Nat} (ha : a = some ⟨b, off, none⟩) : b < w.heap.size := by
  obtain ⟨b2, off2, ha2, c', _, hc⟩ := h.cell 0 h0
  rw [ha] at ha2
  simp only [Option.some.injEq, Addr.mk.injEq, and_true] at ha2
  obtain ⟨rfl, rfl⟩ := ha2
  exact block_lt_of_cell hc

set_option maxRecDepth 100000 in
set_option maxHeartbeats 400000 in
theorem join_ok (a : Option Addr) (len cap : Nat) (rs : List JV) (J : List Nat) (n : Nat) (w : World) (hs : Rcs JV.cells 2 w a len cap rs) (hok : ∀ r ∈ rs, r.ok w) (hJ : rs.flatMap JV.enc = J) (hn : J.length = n) (hl : n ≤ 140737488355328) (hm : len ≤ 140737488355328) :
    Calls Tryd.prog 16 #[.slice a len cap] w fun e w' => ∃ g, e = .returned (.tuple #[.slice (some ⟨g, 0, none⟩) n n, .nilIface]) ∧ Own w' w.heap.size (.slice (some ⟨g, 0, none⟩) n n) J ∧ Below w.heap.size w w' := by
  have HJ := hide hJ
  have HN := hide hn
  have HS := hide hs
  have HK := hide hok
  have HL := hide hl
  have HZ := hide hs.size
  clear hs hok hJ hn
  go_enter Tryd.func16, Tryd.ntmps16
  go_wp2_with fail
  refine Calls.mono (newWriter_any w) ?_
  rintro e w1 ⟨rfl, hw, hb⟩
  have HW := hide hw
  have HB := hide hb
  clear hw hb
  go_wp2_with fail
  go_loopw [10] (fun i wr => ∃ (k : Nat) (v : Value), k ≤ len ∧ i = .int .i64 (k : Int) ∧ Hid (Wr wr w.heap.size v .nilIface ((rs.take k).flatMap JV.enc)) ∧ Hid (Below w.heap.size w wr)) (fun i _ => len - (intOf i).toNat)
  case atStart => exact ⟨0, _, by omega, rfl, HW, HB⟩
  case round =>
    obtain ⟨k, v, hk, rfl, HWR, HBR⟩ := hrel
    by_cases hlt : k < len
    · obtain ⟨r, hr⟩ : ∃ r, rs[k]? = some r := ⟨_, List.getElem?_eq_getElem (by rw [HZ.out]; exact hlt)⟩
      obtain ⟨b, off, rfl, hcell⟩ := HS.out.at JV.len (by decide) hr
      have k0 : wr.cell? ⟨b, off + k * 2, none⟩ = some (.int .i64 (r.tag : Int)) := cell_below2 (hcell 0 _ rfl) HBR.out
      have k1 : wr.cell? ⟨b, off + k * 2 + 1, none⟩ = some (.slice r.a r.n r.c) := cell_below2 (hcell 1 _ rfl) HBR.out
      have HR := hide (HK.out r (List.mem_of_getElem? hr))
      have HT : Hid ((rs.take (k + 1)).flatMap JV.enc = (rs.take k).flatMap JV.enc ++ r.enc) := by
        unfold Hid
        rw [List.take_add_one, hr, List.flatMap_append]
        simp
      have HLL : Hid (((rs.take k).flatMap JV.enc).length + r.enc.length ≤ 140737488355328) := by
        have h1 : (rs.take (k + 1)).flatMap JV.enc <+: rs.flatMap JV.enc := by
          have := List.take_append_drop (k + 1) rs
          refine ⟨(rs.drop (k + 1)).flatMap JV.enc, ?_⟩
          rw [← List.flatMap_append, this]
        have h2 := h1.length_le
        rw [HT.out, List.length_append] at h2
        rw [HJ.out, HN.out] at h2
        exact Nat.le_trans h2 HL.out
      clear hcell hr
      go_wp2_with fail
      have HA : Hid (Below wr.heap.size wr (wr.alloc (.cells #[.int .i64 (r.tag : Int), .slice r.a r.n r.c] 53))) := (Below.refl _ _).alloc (Nat.le_refl _) _
      have HFA : Hid (Far r.a r.n w.heap.size v) := fun h0 b' off' ha => by
        have h1 := bts_lt HR.out.1 h0 ha
        exact ⟨by omega, fun e => by have := (HWR.out.blk b' e).1; omega⟩
      have HEL : Hid (r.enc.length = r.n + 3) := by
        unfold Hid JV.enc
        rw [encR_len, HR.out.1.size]
      refine Calls.mono (record_any w.heap.size v _ r.tag r.a r.n r.c r.l _ (HWR.out.below HA.out) (HR.out.1.below (chain HBR.out HA.out)) HFA.out HR.out.2.1 HR.out.2.2.1 HR.out.2.2.2 (by have h1 := HLL.out; have h2 := HEL.out; omega)) ?_
      rintro e w3 ⟨rfl, v3, q1, q2, q3⟩
      have HW3 : Hid (Wr w3 w.heap.size v3 .nilIface ((rs.take (k + 1)).flatMap JV.enc)) := by
        unfold Hid
        rw [HT.out]
        exact q1
      have HB3 : Hid (Below w.heap.size w w3) := (chain HBR.out HA.out).trans (q2.below (chain HBR.out HA.out).size (fun j e => by
        rcases e with e | e
        · omega
        · have := (HWR.out.blk j e).1
          omega))
      clear q1 q2 q3 k0 k1
      go_wp2
      exact ⟨⟨k + 1, v3, by omega, by simp, HW3, HB3⟩, by simp [intOf]; omega⟩
    · obtain rfl : k = len := by omega
      have HT : Hid ((rs.take k).flatMap JV.enc = J) := by
        unfold Hid
        rw [List.take_of_length_le (by rw [HZ.out]; exact Nat.le_refl _)]
        exact HJ.out
      have HD := hide (done_ok w.heap.size v J wr (HT.out ▸ HWR.out) (by rw [HN.out]; exact HL.out))
      rw [HN.out] at HD
      go_wp2_with fail
      refine Calls.mono HD.out ?_
      rintro e w3 ⟨rfl, ho, hb⟩
      have HO := hide (ho.wk HBR.out.size)
      have HB3 := hide (chain HBR.out hb)
      clear ho hb
      go_wp2
      go_ret2
      exact ⟨wr.heap.size, rfl, HO.out, HB3.out⟩
end Go.Proofs.YtohoncgkekiihaaDoor
