/-
  Walk of the law CrcSeals.
-/
import Derived.Test.YtfggpdddoaageaaDoorNine
import Derived.Test.YtfggpdddoaageaaDoorRefSeal
import Derived.Test.YtfggpdddoaageaaDoorPlain
namespace Go.Proofs.YtfggpdddoaageaaDoor
open Go.RowKit FerryCrc

theorem lit_bts (w : World) (l : List Nat) (hs : ∀ c ∈ l, c < 256) (hm : l.length ≤ 140737488355328) : Bts (w.alloc (.cells (l.map bv).toArray 5)) (some ⟨w.heap.size, 0, none⟩) l.length l.length l := by
  refine ⟨rfl, hm, Nat.le_refl _, hs, fun e => by simp at e, fun k hk => ⟨w.heap.size, 0, rfl, l[k], by simp [hk], ?_⟩⟩
  rw [World.cell?_alloc_at _ _ _ _ rfl]
  simp [hk, bv]
theorem nil_bts (w : World) : Bts w none 0 0 [] := ⟨rfl, by decide, by decide, by simp, fun _ => ⟨rfl, rfl⟩, fun k hk => by omega⟩
end Go.Proofs.YtfggpdddoaageaaDoor
namespace Go.Proofs.YtfggpdddoaageaaDoor.crcSeals
open Go.RowKit FerryCrc

def sealedNine : List Nat := [49, 50, 51, 52, 53, 54, 55, 56, 57, 38, 57, 244, 203]
theorem sealedNine_is : sealOf nine = sealedNine := by decide +kernel
theorem nine_bts13 (w : World) : Bts (w.alloc (.cells #[.int .u8 49, .int .u8 50, .int .u8 51, .int .u8 52, .int .u8 53, .int .u8 54, .int .u8 55, .int .u8 56, .int .u8 57, .int .u8 38, .int .u8 57, .int .u8 244, .int .u8 203] 5)) (some ⟨w.heap.size, 0, none⟩) 13 13 sealedNine :=
  lit_bts w sealedNine (by decide) (by decide)

/-- The rest of the law, from the two Opens on. -/
theorem below_alloc (w : World) (o : Obj) : Below w.heap.size w (w.alloc o) := (Below.refl _ _).alloc (Nat.le_refl _) o

set_option maxRecDepth 100000 in
set_option maxHeartbeats 1000000 in
theorem law {E : Nat → Addr} (a : Option Addr) (len cap : Nat) (l : List Nat) (w : World) (he : Errs w E) (hs : Bts w a len cap l) (hr : len ≤ 140737488351232) :
    Calls Tryd.prog 4 #[.slice a len cap] w fun e w' => e = .returned (.bool true) ∧ Below w.heap.size w w' := by
  have HE := hide he
  have HS := hide hs
  have HSM := hide hs.small
  have hsz := hide hs.size
  clear he hs
  go_enter Tryd.func4, Tryd.ntmps4
  go_wp2_with fail
  refine (awake_any w).mono ?_
  rintro e w1 ⟨rfl, hb1⟩
  go_wp2_with fail
  refine (nine_any w1).mono ?_
  rintro e w2 ⟨rfl, rfl⟩
  go_wp2_with fail
  refine (seal_any _ 9 9 nine _ (nine_bts w1) (by decide)).mono ?_
  rintro e w3 ⟨g3, rfl, hown3, hb3⟩
  have hk3 := hown3.bts rfl (by decide) (sealOf_small (by decide))
  have H13 := hide (equal_any _ _ 13 13 13 13 (sealOf nine) sealedNine _ (hk3.below (below_alloc w3 (.cells #[.int .u8 49, .int .u8 50, .int .u8 51, .int .u8 52, .int .u8 53, .int .u8 54, .int .u8 55, .int .u8 56, .int .u8 57, .int .u8 38, .int .u8 57, .int .u8 244, .int .u8 203] 5))) (nine_bts13 w3))
  rw [show decide (sealOf nine = sealedNine) = true by rw [sealedNine_is]; simp] at H13
  have HB3 := hide (chain (chain hb1 (below_alloc w1 (.cells nineCells 5))) hb3)
  clear hk3 hown3 hb3 hb1
  go_wp2_with fail
  refine H13.out.mono ?_
  rintro e w4 ⟨rfl, hb4⟩
  have HB4 := hide (chain (chain HB3.out (below_alloc w3 (.cells #[.int .u8 49, .int .u8 50, .int .u8 51, .int .u8 52, .int .u8 53, .int .u8 54, .int .u8 55, .int .u8 56, .int .u8 57, .int .u8 38, .int .u8 57, .int .u8 244, .int .u8 203] 5))) hb4)
  clear hb4 HB3 H13
  go_wp2_with fail
  refine (refSeal_any a len cap l w4 (HS.out.below HB4.out) (by omega)).mono ?_
  rintro e w5 ⟨g5, c5, rfl, hown5, hb5⟩
  have HB5 := hide (chain HB4.out hb5)
  have HK5 := hide (hown5.bts (show (sealOf l).length = len + 4 by rw [sealOf_length, hsz.out]) (by omega) (sealOf_small HSM.out))
  clear hown5 hb5 HB4
  by_cases hl : len < 4
  · go_wp2_with fail
    refine (refOpen_short a len cap w5 hl).mono ?_
    rintro e w6 ⟨rfl, rfl⟩
    go_wp2_with fail
    refine (seal_any a len cap l w5 (HS.out.below HB5.out) (by omega)).mono ?_
    rintro e w7 ⟨g7, rfl, hown7, hb7⟩
    have HE7 := hide (equal_any _ _ (len + 4) (len + 4) (len + 4) c5 (sealOf l) (sealOf l) w7 (hown7.bts (show (sealOf l).length = len + 4 by rw [sealOf_length, hsz.out]) (by omega) (sealOf_small HSM.out)) (HK5.out.below hb7))
    rw [show decide (sealOf l = sealOf l) = true by simp] at HE7
    have HB7 := hide (chain HB5.out hb7)
    clear hown7 hb7
    go_wp2_with fail
    refine HE7.out.mono ?_
    rintro e w8 ⟨rfl, hb8⟩
    have HB8 := hide (chain HB7.out hb8)
    clear hb8
    go_wp2_with fail
    refine (open_short a len cap (E 1) w8 (HE.out.below HB8.out).v1 hl).mono ?_
    rintro e w9 ⟨rfl, hb9⟩
    have HB9 := hide (chain HB8.out hb9)
    clear hb9
    go_wp2_with fail
    refine (plain_yes (HE.out.below HB9.out) (sent (E 1)) 1 (bare_sent E 1 (by decide) (by decide))).mono ?_
    rintro e w10 ⟨rfl, hb10⟩
    have HQ := hide (equal_any none none 0 0 0 0 [] [] w10 (nil_bts _) (nil_bts _))
    rw [show decide (([] : List Nat) = []) = true by simp] at HQ
    go_wp2_with fail
    refine HQ.out.mono ?_
    rintro e w11 ⟨rfl, hb11⟩
    go_wp2
    go_ret
    exact ⟨rfl, chain (chain HB9.out hb10) hb11⟩
  · have h4 : 4 ≤ len := by omega
    go_wp2_with fail
    refine (refOpen_any a len cap l w5 (HS.out.below HB5.out) h4).mono ?_
    rintro e w6 ⟨hb6, ho6⟩
    have HB6 := hide (chain HB5.out hb6)
    have HK6 := hide (HK5.out.below hb6)
    clear hb6 HK5 HB5
    rcases ho6 with ⟨hgood, g6, c6, rfl, hown6⟩ | ⟨hbad, rfl⟩
    · have HO6 := hide (hown6.bts (show (l.take (len - 4)).length = len - 4 by rw [List.length_take, hsz.out]; omega) (by omega) (fun c hc => HSM.out c (List.mem_of_mem_take hc)))
      have HG := hide hgood
      clear hown6 hgood
      go_wp2_with fail
      refine (seal_any a len cap l w6 (HS.out.below HB6.out) (by omega)).mono ?_
      rintro e w7 ⟨g7, rfl, hown7, hb7⟩
      have HE7 := hide (equal_any _ _ (len + 4) (len + 4) (len + 4) c5 (sealOf l) (sealOf l) w7 (hown7.bts (show (sealOf l).length = len + 4 by rw [sealOf_length, hsz.out]) (by omega) (sealOf_small HSM.out)) (HK6.out.below hb7))
      rw [show decide (sealOf l = sealOf l) = true by simp] at HE7
      have HB7 := hide (chain HB6.out hb7)
      have HO7 := hide (HO6.out.below hb7)
      clear hown7 hb7
      go_wp2_with fail
      refine HE7.out.mono ?_
      rintro e w8 ⟨rfl, hb8⟩
      have HB8 := hide (chain HB7.out hb8)
      have HO8 := hide (HO7.out.below hb8)
      clear hb8
      go_wp2_with fail
      refine (open_any a len cap l (E 6) w8 (HE.out.below HB8.out).v6 (HS.out.below HB8.out) h4).mono ?_
      rintro e w9 ⟨hb9, ⟨_, g9, rfl, hown9⟩ | ⟨hb, _⟩⟩
      · have HB9 := hide (chain HB8.out hb9)
        have HO9 := hide (HO8.out.below hb9)
        have HN9 := hide (hown9.bts (show (l.take (len - 4)).length = len - 4 by rw [List.length_take, hsz.out]; omega) (by omega) (fun c hc => HSM.out c (List.mem_of_mem_take hc)))
        clear hb9 hown9
        go_wp2_with fail
        refine (plain_yes (HE.out.below HB9.out) .nilIface 0 (bare_nil E)).mono ?_
        rintro e w10 ⟨rfl, hb10⟩
        have HQ := hide (equal_any _ _ (len - 4) (len - 4) (len - 4) c6 (l.take (len - 4)) (l.take (len - 4)) w10 (HN9.out.below hb10) (HO9.out.below hb10))
        rw [show decide (l.take (len - 4) = l.take (len - 4)) = true by simp] at HQ
        have HB10 := hide (chain HB9.out hb10)
        clear hb10
        go_wp2_with fail
        refine HQ.out.mono ?_
        rintro e w11 ⟨rfl, hb11⟩
        go_wp2
        go_ret
        exact ⟨rfl, chain HB10.out hb11⟩
      · exact absurd HG.out hb
    · have HG := hide hbad
      clear hbad
      go_wp2_with fail
      refine (seal_any a len cap l w6 (HS.out.below HB6.out) (by omega)).mono ?_
      rintro e w7 ⟨g7, rfl, hown7, hb7⟩
      have HE7 := hide (equal_any _ _ (len + 4) (len + 4) (len + 4) c5 (sealOf l) (sealOf l) w7 (hown7.bts (show (sealOf l).length = len + 4 by rw [sealOf_length, hsz.out]) (by omega) (sealOf_small HSM.out)) (HK6.out.below hb7))
      rw [show decide (sealOf l = sealOf l) = true by simp] at HE7
      have HB7 := hide (chain HB6.out hb7)
      clear hown7 hb7
      go_wp2_with fail
      refine HE7.out.mono ?_
      rintro e w8 ⟨rfl, hb8⟩
      have HB8 := hide (chain HB7.out hb8)
      clear hb8
      go_wp2_with fail
      refine (open_any a len cap l (E 6) w8 (HE.out.below HB8.out).v6 (HS.out.below HB8.out) h4).mono ?_
      rintro e w9 ⟨hb9, ⟨hg, _⟩ | ⟨_, rfl⟩⟩
      · exact absurd hg HG.out
      · have HB9 := hide (chain HB8.out hb9)
        clear hb9
        go_wp2_with fail
        refine (plain_yes (HE.out.below HB9.out) (sent (E 6)) 6 (bare_sent E 6 (by decide) (by decide))).mono ?_
        rintro e w10 ⟨rfl, hb10⟩
        have HQ := hide (equal_any none none 0 0 0 0 [] [] w10 (nil_bts _) (nil_bts _))
        rw [show decide (([] : List Nat) = []) = true by simp] at HQ
        go_wp2_with fail
        refine HQ.out.mono ?_
        rintro e w11 ⟨rfl, hb11⟩
        go_wp2
        go_ret
        exact ⟨rfl, chain (chain HB9.out hb10) hb11⟩
end Go.Proofs.YtfggpdddoaageaaDoor.crcSeals
