/-
  Walk of the law ChunkStages.
-/
import Derived.Test.YtdbciciljeainaaGreatDoorCkKnown
import Derived.Test.YtdbciciljeainaaGreatDoorStgA
import Derived.Test.YtdbciciljeainaaGreatDoorXtAdd
import Derived.Test.YtdbciciljeainaaGreatDoorXfWhole
import Derived.BigRegion
import Derived.BigQuiet
import Derived.Deep.RegionHeld3
namespace Go.Proofs.YtdbciciljeainaaGreatDoor.chunkStages
open Go.RowKit FerryCrc
set_option linter.unusedVariables false
set_option linter.unusedSimpArgs false

theorem own_rcs {α : Type} {f : α → List Value} {sz : Nat} {e : TypeId} {w : World} {base : Nat} {a : Option Addr} {n c : Nat} {l : List α} (h : LOwn f sz e w base (.slice a n c) l) : Rcs f sz w a n c l := by
  obtain ⟨a', c', e1, hr⟩ := h.rcs
  simp only [Value.slice.injEq] at e1
  obtain ⟨rfl, rfl, rfl⟩ := e1
  exact hr
theorem own_len {α : Type} {f : α → List Value} {sz : Nat} {e : TypeId} {w : World} {base : Nat} {v : Value} {l : List α} {n : Nat} (h : LOwn f sz e w base v l) (hl : l.length = n) : ∃ a c, v = .slice a n c := by
  obtain ⟨a, c, e, -⟩ := h.rcs
  rw [hl] at e
  exact ⟨a, c, e⟩
theorem wpAnyH_listed {P : Program} {md : Region.Mode} {ops : Array Oper} {Q : Exit → Act → World → Prop} {S : World → Prop} {n : Nat} {l l' : Array Bool} {a : Act} {w : World} (h : l = l') (k : wpAnyH P md ops Q S n l' a w) : wpAnyH P md ops Q S n l a w := h ▸ k
theorem by_key4 {P : Program} {md : Region.Mode} {ops : Array Oper} {Q : Exit → Act → World → Prop} {S : World → Prop} {n : Nat} {l : Array Bool} {a : Act} {w : World} (F : Option Addr → Nat → Nat → World → Prop) (u : Act → Option Addr → Nat → Nat → Act) (l3 : Array Bool) (n3 : Nat) (hm : (∀ qa qc g wz, F qa qc g wz → wpAnyH P md ops Q S n3 l3 (u a qa qc g) wz) → wpAnyH P md ops Q S n l a w) (hk : ∀ qa qc g wz, F qa qc g wz → wpAnyH P md ops Q S n3 l3 (u a qa qc g) wz) : wpAnyH P md ops Q S n l a w := hm hk
theorem by_key6 {P : Program} {md : Region.Mode} {ops : Array Oper} {Q : Exit → Act → World → Prop} {S : World → Prop} {n : Nat} {l : Array Bool} {a : Act} {w : World} (F : Option Addr → Nat → Option Addr → Nat → Nat → World → Prop) (u : Act → Option Addr → Nat → Option Addr → Nat → Nat → Act) (l3 : Array Bool) (n3 : Nat) (hm : (∀ ua uc qa qc g wz, F ua uc qa qc g wz → wpAnyH P md ops Q S n3 l3 (u a ua uc qa qc g) wz) → wpAnyH P md ops Q S n l a w) (hk : ∀ ua uc qa qc g wz, F ua uc qa qc g wz → wpAnyH P md ops Q S n3 l3 (u a ua uc qa qc g) wz) : wpAnyH P md ops Q S n l a w := hm hk
theorem bel_al {a w : World} (h : Below a.heap.size a w) (o : Obj) : Below a.heap.size a (w.alloc o) := h.alloc h.size o
theorem chk_le20 (n : Nt) : chk n ≤ 20 := by
  unfold chk
  repeat' split
  all_goals decide
theorem begE_le (n : Nt) : begE n ≤ 20 := by
  unfold begE
  repeat' split
  all_goals first | decide | exact chk_le20 _
theorem addE_le (s : Sg) (P : List ByteArray) (n : Nt) : addE s P n ≤ 20 := by
  unfold addE
  repeat' split
  all_goals first | decide | exact begE_le _
theorem whE_le (s : Sg) (P : List ByteArray) : whE s P ≤ 20 := by
  unfold whE
  split <;> decide
theorem er10_e {w : World} {E : Nat → Addr} (h : Errs w E) : Er10 w E := ⟨h.er7, h.v1, h.v5, h.v6⟩
theorem er7x_e {w : World} {E : Nat → Addr} (h : Errs w E) : Er7x w E := ⟨h.er7, h.v9, h.v10, h.v14⟩
/-- What a stage's pieces keep to. -/
def Few (P : List ByteArray) : Prop := P.length * 16 ≤ 140737488351232 ∧ ∀ x ∈ P, x.size ≤ 9223372036854775807
theorem few_nil : Few [] := ⟨by simp, fun x hx => by simp at hx⟩
theorem few_add {s : Sg} {P : List ByteArray} {n : Nt} (h : Few P) (hd : n.data.size ≤ 9223372036854775807) : Few (addP s P n) := by
  unfold addP
  split
  · refine ⟨by rw [List.length_set]; exact h.1, fun x hx => ?_⟩
    rcases List.mem_or_eq_of_mem_set hx with h1 | h1
    · exact h.2 x h1
    · rw [h1]; exact hd
  · exact few_nil
theorem few_beg {n : Nt} (hd : n.data.size ≤ 9223372036854775807) : Few (begP n) := by
  unfold begP
  split
  · rename_i h
    have ht : n.total ≤ 32 := by
      unfold begE at h
      split at h
      · rename_i h1
        split at h
        · rename_i h2
          exact (chk_chunk h1 h2).2.2.2.1
        · cases h
      · rename_i h1
        exact absurd h h1
    refine ⟨by rw [List.length_set, List.length_replicate]; omega, fun x hx => ?_⟩
    rcases List.mem_or_eq_of_mem_set hx with h1 | h1
    · rw [(List.mem_replicate.1 h1).2]
      exact Nat.zero_le _
    · rw [h1]; exact hd
  · exact few_nil
theorem misL_le (s : Sg) (P : List ByteArray) : (misL s P).length ≤ 32 := by
  unfold misL
  split
  · rename_i h
    obtain ⟨-, -, h1, h2, h3, -⟩ := goodB_open h
    have := misN_le P 0
    omega
  · decide
theorem not_bne (y : Bool) : (y != y) = false := by cases y <;> rfl

theorem held14 {w : World} {g8 g11 : Nat} {y1 y2 y3 y4 y5 y6 : Int} {ya yb : Option Addr} {yn yc yd : Nat} {t t' : TypeId} (A11 : Bk w g11 [.int .i64 y1, .int .i64 y2, .int .i64 y3, .int .i64 y4, .int .i64 y5, .int .i64 y6, .slice yb yn yd] t) (A8 : Bk w g8 [.int .i64 y1, .int .i64 y2, .int .i64 y3, .int .i64 y4, .int .i64 y5, .int .i64 y6, .slice ya yn yc] t') : w.cell? ⟨g11, 0, none⟩ = some (.int .i64 y1) ∧ w.cell? ⟨g11, 1, none⟩ = some (.int .i64 y2) ∧ w.cell? ⟨g11, 2, none⟩ = some (.int .i64 y3) ∧ w.cell? ⟨g11, 3, none⟩ = some (.int .i64 y4) ∧ w.cell? ⟨g11, 4, none⟩ = some (.int .i64 y5) ∧ w.cell? ⟨g11, 5, none⟩ = some (.int .i64 y6) ∧ w.cell? ⟨g11, 6, none⟩ = some (.slice yb yn yd) ∧ w.cell? ⟨g8, 0, none⟩ = some (.int .i64 y1) ∧ w.cell? ⟨g8, 1, none⟩ = some (.int .i64 y2) ∧ w.cell? ⟨g8, 2, none⟩ = some (.int .i64 y3) ∧ w.cell? ⟨g8, 3, none⟩ = some (.int .i64 y4) ∧ w.cell? ⟨g8, 4, none⟩ = some (.int .i64 y5) ∧ w.cell? ⟨g8, 5, none⟩ = some (.int .i64 y6) ∧ w.cell? ⟨g8, 6, none⟩ = some (.slice ya yn yc) :=
  (⟨A11.cell 0 rfl, A11.cell 1 rfl, A11.cell 2 rfl, A11.cell 3 rfl, A11.cell 4 rfl, A11.cell 5 rfl, A11.cell 6 rfl, A8.cell 0 rfl, A8.cell 1 rfl, A8.cell 2 rfl, A8.cell 3 rfl, A8.cell 4 rfl, A8.cell 5 rfl, A8.cell 6 rfl⟩)
theorem held7 {w : World} {g3 : Nat} {x1 x2 x3 x4 x5 x6 : Int} {sa : Option Addr} {sn sc : Nat} {t : TypeId} (h : Bk w g3 [.int .i64 x1, .int .i64 x2, .int .i64 x3, .int .i64 x4, .int .i64 x5, .int .i64 x6, .slice sa sn sc] t) : w.cell? ⟨g3, 0, none⟩ = some (.int .i64 x1) ∧ w.cell? ⟨g3, 1, none⟩ = some (.int .i64 x2) ∧ w.cell? ⟨g3, 2, none⟩ = some (.int .i64 x3) ∧ w.cell? ⟨g3, 3, none⟩ = some (.int .i64 x4) ∧ w.cell? ⟨g3, 4, none⟩ = some (.int .i64 x5) ∧ w.cell? ⟨g3, 5, none⟩ = some (.int .i64 x6) ∧ w.cell? ⟨g3, 6, none⟩ = some (.slice sa sn sc) :=
  ⟨h.cell 0 rfl, h.cell 1 rfl, h.cell 2 rfl, h.cell 3 rfl, h.cell 4 rfl, h.cell 5 rfl, h.cell 6 rfl⟩
set_option maxRecDepth 100000 in
set_option maxHeartbeats 4000000 in
theorem law (p1 p2 p3 p4 p5 p6 : Int) (pa : Option Addr) (pn pc : Nat) (P : List ByteArray) (na : Option Addr) (nn nc : Nat) (NL : List Nt) (fr : Bool) (w : World) {E : Nat → Addr} (he : Errs w E) (hP : Txs w pa pn pc P) (hF : Few P) (hN : Nts w na nn nc NL) (hok : ∀ n ∈ NL, n.Ok) (hnn : nn ≤ 4611686018427387904) :
    Calls Tryz.prog 3 #[.agg #[.int .i64 p1, .int .i64 p2, .int .i64 p3, .int .i64 p4, .int .i64 p5, .int .i64 p6, .slice pa pn pc], .slice na nn nc, .bool fr] w fun e w' => e = .returned (.bool true) ∧ Below w.heap.size w w' := by
  have hNs := hN.size
  obtain ⟨W, hW, B0, D0⟩ := box1 w [.int .i64 p1, .int .i64 p2, .int .i64 p3, .int .i64 p4, .int .i64 p5, .int .i64 p6, .slice pa pn pc] 26
  obtain ⟨g3, hg3⟩ : ∃ g, w.heap.size = g := ⟨_, rfl⟩
  rw [hg3] at B0
  have HB0 := hide B0
  have HD0 := hide D0
  have HE := hide he
  have HNL := hide hN
  have HOKN := hide hok
  have HP0 := hide (hP.below D0)
  have HF0 := hide hF
  have HWD := hide hW
  have HG3 := hide hg3
  clear B0 D0 he hN hok hP hF hW hg3
  go_enter Tryz.func3, Tryz.ntmps3
  go_upto_region 1 with fail
  have hW := HWD.out
  have hg3 := HG3.out
  simp only [hW, hg3]
  clear HWD hW hg3
  go_wp2_with fail
  refine Calls.mono (known_any (er10_e (HE.out.below HD0.out))) ?_
  rintro e w1 ⟨rfl, b1⟩
  replace HB0 := hide (HB0.out.below b1)
  replace HP0 := hide (HP0.out.below b1)
  replace HD0 := hide (chain HD0.out b1)
  clear b1
  go_upto_region 4 with fail
  go_loopw [7] (fun s7 wr => ∃ (k : Nat) (x1 x2 x3 x4 x5 x6 : Int) (sa : Option Addr) (sn sc : Nat) (P : List ByteArray), k ≤ nn ∧ s7 = .int .i64 (k : Int) ∧ Hid (Bk wr g3 [.int .i64 x1, .int .i64 x2, .int .i64 x3, .int .i64 x4, .int .i64 x5, .int .i64 x6, .slice sa sn sc] 26) ∧ Hid (Txs wr sa sn sc P) ∧ Hid (Few P) ∧ Hid (Below w.heap.size w wr)) (fun i _ => nn - (intOf i).toNat)
  case atStart => exact ⟨0, p1, p2, p3, p4, p5, p6, pa, pn, pc, P, Nat.zero_le _, rfl, HB0.out, HP0.out, HF0.out, HD0.out⟩
  case round =>
    clear HB0 HP0 HF0 HD0 P
    obtain ⟨k, x1, x2, x3, x4, x5, x6, sa, sn, sc, P, hk, rfl, HS, HT, HF, HD⟩ := hrel
    by_cases hlt : k < nn
    rotate_left
    · obtain rfl : nn = k := by omega
      have hnk : ¬ (nn : Int) < (nn : Int) := by omega
      clear HS HT HF
      go_wp2
      go_ret
      exact ⟨rfl, HD.out⟩
    have hk1 : (k : Int) < (nn : Int) := by omega
    obtain ⟨N, hN⟩ : ∃ N, NL[k]? = some N := ⟨_, List.getElem?_eq_getElem (by omega)⟩
    obtain ⟨lb, lo, rfl, hcn⟩ := (HNL.out.below HD.out).at nt10 (by decide) hN
    have HOK := hide (HOKN.out N (List.mem_of_getElem? hN))
    obtain ⟨nk, npt, nb, nr, nm, nst, nix, ntt, nsm, nd⟩ := N
    have HNC : Hid (wr.cell? ⟨lb, lo + k * 10 + 0, none⟩ = some (.int .i64 nk) ∧ wr.cell? ⟨lb, lo + k * 10 + 1, none⟩ = some (.int .i64 npt) ∧ wr.cell? ⟨lb, lo + k * 10 + 2, none⟩ = some (.int .i64 nb) ∧ wr.cell? ⟨lb, lo + k * 10 + 3, none⟩ = some (.int .i64 nr) ∧ wr.cell? ⟨lb, lo + k * 10 + 4, none⟩ = some (.int .i64 nm) ∧ wr.cell? ⟨lb, lo + k * 10 + 5, none⟩ = some (.int .i64 nst) ∧ wr.cell? ⟨lb, lo + k * 10 + 6, none⟩ = some (.int .i64 nix) ∧ wr.cell? ⟨lb, lo + k * 10 + 7, none⟩ = some (.int .i64 ntt) ∧ wr.cell? ⟨lb, lo + k * 10 + 8, none⟩ = some (.int .u32 nsm) ∧ wr.cell? ⟨lb, lo + k * 10 + 9, none⟩ = some (.string nd)) := ⟨hcn 0 _ rfl, hcn 1 _ rfl, hcn 2 _ rfl, hcn 3 _ rfl, hcn 4 _ rfl, hcn 5 _ rfl, hcn 6 _ rfl, hcn 7 _ rfl, hcn 8 _ rfl, hcn 9 _ rfl⟩
    have HN0 : Hid (NL[k]? = some ⟨nk, npt, nb, nr, nm, nst, nix, ntt, nsm, nd⟩) := hN
    have HPS := HT.out.size
    have HEr := hide (HE.out.below HD.out)
    clear hcn hN
    have HEP := hide (few_add (s := ⟨x1, x2, x3, x4, x5, x6⟩) (n := ⟨nk, npt, nb, nr, nm, nst, nix, ntt, nsm, nd⟩) HF.out HOK.out.d1)
    have HAL := hide (addE_le ⟨x1, x2, x3, x4, x5, x6⟩ P ⟨nk, npt, nb, nr, nm, nst, nix, ntt, nsm, nd⟩)
    have HR1 := hide (fun (w' : World) (hp : Txs w' sa sn sc P) => radd_any x1 x2 x3 x4 x5 x6 sa sn sc P nk npt nb nr nm nst nix ntt nsm nd hp HOK.out.d1 HOK.out.t1 HOK.out.t2)
    have HR2 := hide (fun (w' : World) (ua : Option Addr) (uc : Nat) (he : Er7x w' E) (hp : Txs w' ua sn uc P) => add_any x1 x2 x3 x4 x5 x6 ua sn uc P nk npt nb nr nm nst nix ntt nsm nd he hp HF.out.2 HOK.out.d1 HOK.out.t1 HOK.out.t2)
    obtain ⟨ZS, hZS⟩ : ∃ x, addS ⟨x1, x2, x3, x4, x5, x6⟩ P ⟨nk, npt, nb, nr, nm, nst, nix, ntt, nsm, nd⟩ = x := ⟨_, rfl⟩
    obtain ⟨ZP, hZP⟩ : ∃ x, addP ⟨x1, x2, x3, x4, x5, x6⟩ P ⟨nk, npt, nb, nr, nm, nst, nix, ntt, nsm, nd⟩ = x := ⟨_, rfl⟩
    obtain ⟨zf, hzf⟩ : ∃ x, addF ⟨x1, x2, x3, x4, x5, x6⟩ P ⟨nk, npt, nb, nr, nm, nst, nix, ntt, nsm, nd⟩ = x := ⟨_, rfl⟩
    obtain ⟨ze, hze⟩ : ∃ x, addE ⟨x1, x2, x3, x4, x5, x6⟩ P ⟨nk, npt, nb, nr, nm, nst, nix, ntt, nsm, nd⟩ = x := ⟨_, rfl⟩
    rw [hZS, hZP, hzf, hze] at HR1 HR2
    rw [hZP] at HEP
    rw [hze] at HAL
    clear hZS hZP hzf hze
    obtain ⟨z1, z2, z3, z4, z5, z6⟩ := ZS
    obtain ⟨zn, hzn⟩ : ∃ x, ZP.length = x := ⟨_, rfl⟩
    have HZN := hide hzn
    have HA1 : Hid (∀ w' : World, Below wr.heap.size wr w' → Calls Tryz.prog 6 #[.agg #[.int .i64 x1, .int .i64 x2, .int .i64 x3, .int .i64 x4, .int .i64 x5, .int .i64 x6, .slice sa sn sc], .agg #[.int .i64 nk, .int .i64 npt, .int .i64 nb, .int .i64 nr, .int .i64 nm, .int .i64 nst, .int .i64 nix, .int .i64 ntt, .int .u32 nsm, .string nd]] w' fun e w'' => ∃ qa qc, e = .returned (.tuple #[.agg #[.int .i64 z1, .int .i64 z2, .int .i64 z3, .int .i64 z4, .int .i64 z5, .int .i64 z6, .slice qa zn qc], .bool zf, .int .i64 (ze : Int)]) ∧ TxOwn w'' wr.heap.size (.slice qa zn qc) ZP ∧ (∀ jj, (Value.slice qa zn qc).ownBlock = some jj → w'.heap.size ≤ jj ∧ jj < w''.heap.size) ∧ Below wr.heap.size wr w'' ∧ (∀ b cs ty, Bk w' b cs ty → Bk w'' b cs ty)) := by
      intro w' hb
      refine (HR1.out w' (HT.out.below hb)).mono ?_
      rintro e w'' ⟨v, rfl, o, b⟩
      obtain ⟨qa, qc, rfl⟩ := own_len o hzn
      exact ⟨qa, qc, rfl, o.weaken hb.size, fun jj e => World.ownsRow.lt o jj e, hb.trans (b.mono hb.size), fun b' cs ty hk => hk.below b⟩
    have HSB : Hid (∀ wz : World, Below wr.heap.size wr wz → wz.cell? ⟨g3, 0, none⟩ = some (.int .i64 x1) ∧ wz.cell? ⟨g3, 1, none⟩ = some (.int .i64 x2) ∧ wz.cell? ⟨g3, 2, none⟩ = some (.int .i64 x3) ∧ wz.cell? ⟨g3, 3, none⟩ = some (.int .i64 x4) ∧ wz.cell? ⟨g3, 4, none⟩ = some (.int .i64 x5) ∧ wz.cell? ⟨g3, 5, none⟩ = some (.int .i64 x6) ∧ wz.cell? ⟨g3, 6, none⟩ = some (.slice sa sn sc) ∧ wz.cell? ⟨lb, lo + k * 10, none⟩ = some (.int .i64 nk) ∧ wz.cell? ⟨lb, lo + k * 10 + 1, none⟩ = some (.int .i64 npt) ∧ wz.cell? ⟨lb, lo + k * 10 + 2, none⟩ = some (.int .i64 nb) ∧ wz.cell? ⟨lb, lo + k * 10 + 3, none⟩ = some (.int .i64 nr) ∧ wz.cell? ⟨lb, lo + k * 10 + 4, none⟩ = some (.int .i64 nm) ∧ wz.cell? ⟨lb, lo + k * 10 + 5, none⟩ = some (.int .i64 nst) ∧ wz.cell? ⟨lb, lo + k * 10 + 6, none⟩ = some (.int .i64 nix) ∧ wz.cell? ⟨lb, lo + k * 10 + 7, none⟩ = some (.int .i64 ntt) ∧ wz.cell? ⟨lb, lo + k * 10 + 8, none⟩ = some (.int .u32 nsm) ∧ wz.cell? ⟨lb, lo + k * 10 + 9, none⟩ = some (.string nd)) := fun wz hb => by
      have h0 := HS.out.below hb
      obtain ⟨n0, n1, n2, n3, n4, n5, n6, n7, n8, n9⟩ := HNC.out
      rw [Nat.add_zero] at n0
      exact ⟨h0.cell 0 rfl, h0.cell 1 rfl, h0.cell 2 rfl, h0.cell 3 rfl, h0.cell 4 rfl, h0.cell 5 rfl, h0.cell 6 rfl, cell_below n0 hb, cell_below n1 hb, cell_below n2 hb, cell_below n3 hb, cell_below n4 hb, cell_below n5 hb, cell_below n6 hb, cell_below n7 hb, cell_below n8 hb, cell_below n9 hb⟩
    have N1 : Hid (Bk (wr.alloc (.cells #[.int .i64 0, .int .i64 0, .int .i64 0, .int .i64 0, .int .i64 0, .int .i64 0, .slice none 0 0] 26)).drew wr.heap.size [.int .i64 0, .int .i64 0, .int .i64 0, .int .i64 0, .int .i64 0, .int .i64 0, .slice none 0 0] 26) := (Bk.new wr [.int .i64 0, .int .i64 0, .int .i64 0, .int .i64 0, .int .i64 0, .int .i64 0, .slice none 0 0] 26).below (Below.refl _ _).drew
    have hk0 : ¬ (k : Int) < 0 := by omega
    clear hzn HR1
    go_upto_region 6 with fail
    go_cut [8, 9, 10] from 29 to 38 (fun v8 v9 v10 wz => ∃ (qa : Option Addr) (qc g8 : Nat), v8 = .pointer (some ⟨g8, 0, none⟩) ∧ v9 = .bool zf ∧ v10 = .int .i64 (ze : Int) ∧ Hid (Bk wz g8 [.int .i64 z1, .int .i64 z2, .int .i64 z3, .int .i64 z4, .int .i64 z5, .int .i64 z6, .slice qa zn qc] 26) ∧ Hid (TxOwn wz wr.heap.size (.slice qa zn qc) ZP) ∧ Hid (wr.heap.size ≤ g8 ∧ (Value.slice qa zn qc).ownBlock ≠ some g8) ∧ Hid (Below wr.heap.size wr wz))
    case first =>
      refine wp_region_held_drew (S := fun wz => wz.cell? ⟨g3, 0, none⟩ = some (.int .i64 x1) ∧ wz.cell? ⟨g3, 1, none⟩ = some (.int .i64 x2) ∧ wz.cell? ⟨g3, 2, none⟩ = some (.int .i64 x3) ∧ wz.cell? ⟨g3, 3, none⟩ = some (.int .i64 x4) ∧ wz.cell? ⟨g3, 4, none⟩ = some (.int .i64 x5) ∧ wz.cell? ⟨g3, 5, none⟩ = some (.int .i64 x6) ∧ wz.cell? ⟨g3, 6, none⟩ = some (.slice sa sn sc) ∧ wz.cell? ⟨lb, lo + k * 10, none⟩ = some (.int .i64 nk) ∧ wz.cell? ⟨lb, lo + k * 10 + 1, none⟩ = some (.int .i64 npt) ∧ wz.cell? ⟨lb, lo + k * 10 + 2, none⟩ = some (.int .i64 nb) ∧ wz.cell? ⟨lb, lo + k * 10 + 3, none⟩ = some (.int .i64 nr) ∧ wz.cell? ⟨lb, lo + k * 10 + 4, none⟩ = some (.int .i64 nm) ∧ wz.cell? ⟨lb, lo + k * 10 + 5, none⟩ = some (.int .i64 nst) ∧ wz.cell? ⟨lb, lo + k * 10 + 6, none⟩ = some (.int .i64 nix) ∧ wz.cell? ⟨lb, lo + k * 10 + 7, none⟩ = some (.int .i64 ntt) ∧ wz.cell? ⟨lb, lo + k * 10 + 8, none⟩ = some (.int .u32 nsm) ∧ wz.cell? ⟨lb, lo + k * 10 + 9, none⟩ = some (.string nd)) (by kernel_rfl) (HSB.out _ (Below.refl _ _).drew) (fun hHeld => ?_)
      refine wpAnyH_take (i := 0) (oi := { dst := some 30, op := Go.Op.load 26 (Go.Operand.tmp 3), type := 26, pos := "law.go:100", after := #[], guard := none }) (v := ?_) rfl (by kernel_rfl) (by kernel_rfl) (by kernel_rfl) (fun _ _ _ h => h) (Or.inl ⟨by rfl, ?_⟩) (by assumption) ?_
      rotate_left
      · intro w hSw
        obtain ⟨q0, q1, q2, q3, q4, q5, q6, q7, q8, q9, q10, q11, q12, q13, q14, q15, q16⟩ := hSw
        go_simp
        try with_reducible rfl
      simp only [Act.put, List.setIfInBounds_toArray, List.set_cons_zero, List.set_cons_succ]
      refine wpAnyH_take (i := 1) (oi := { dst := some 31, op := Go.Op.move (Go.Operand.tmp 1), type := 27, pos := "law.go:100", after := #[], guard := none }) (v := ?_) rfl (by kernel_rfl) (by kernel_rfl) (by kernel_rfl) (fun _ _ _ h => h) (Or.inl ⟨by rfl, ?_⟩) (by assumption) ?_
      rotate_left
      · intro w hSw
        obtain ⟨q0, q1, q2, q3, q4, q5, q6, q7, q8, q9, q10, q11, q12, q13, q14, q15, q16⟩ := hSw
        go_simp
        try with_reducible rfl
      simp only [Act.put, List.setIfInBounds_toArray, List.set_cons_zero, List.set_cons_succ]
      refine wpAnyH_take (i := 2) (oi := { dst := some 32, op := Go.Op.move (Go.Operand.tmp 7), type := 3, pos := "law.go:100", after := #[], guard := none }) (v := ?_) rfl (by kernel_rfl) (by kernel_rfl) (by kernel_rfl) (fun _ _ _ h => h) (Or.inl ⟨by rfl, ?_⟩) (by assumption) ?_
      rotate_left
      · intro w hSw
        obtain ⟨q0, q1, q2, q3, q4, q5, q6, q7, q8, q9, q10, q11, q12, q13, q14, q15, q16⟩ := hSw
        go_simp
        try with_reducible rfl
      simp only [Act.put, List.setIfInBounds_toArray, List.set_cons_zero, List.set_cons_succ]
      refine wpAnyH_take (i := 3) (oi := { dst := some 33, op := Go.Op.indexAddr 27 (Go.Operand.tmp 31) (Go.Operand.tmp 32), type := 0, pos := "law.go:100", after := #[{ on := 1, ground := Go.Ground.data }, { on := 2, ground := Go.Ground.data }], guard := none }) (v := ?_) rfl (by kernel_rfl) (by kernel_rfl) (by kernel_rfl) (fun _ _ _ h => h) (Or.inl ⟨by rfl, ?_⟩) (by assumption) ?_
      rotate_left
      · intro w hSw
        obtain ⟨q0, q1, q2, q3, q4, q5, q6, q7, q8, q9, q10, q11, q12, q13, q14, q15, q16⟩ := hSw
        go_simp
        try with_reducible rfl
      simp only [Act.put, List.setIfInBounds_toArray, List.set_cons_zero, List.set_cons_succ]
      refine wpAnyH_take (i := 4) (oi := { dst := some 34, op := Go.Op.load 33 (Go.Operand.tmp 33), type := 33, pos := "law.go:100", after := #[{ on := 3, ground := Go.Ground.data }], guard := none }) (v := ?_) rfl (by kernel_rfl) (by kernel_rfl) (by kernel_rfl) (fun _ _ _ h => h) (Or.inl ⟨by rfl, ?_⟩) (by assumption) ?_
      rotate_left
      · intro w hSw
        obtain ⟨q0, q1, q2, q3, q4, q5, q6, q7, q8, q9, q10, q11, q12, q13, q14, q15, q16⟩ := hSw
        go_simp
        try with_reducible rfl
      simp only [Act.put, List.setIfInBounds_toArray, List.set_cons_zero, List.set_cons_succ]
      refine by_key4 (fun qa qc g8 wz => Bk wz g8 [.int .i64 0, .int .i64 0, .int .i64 0, .int .i64 0, .int .i64 0, .int .i64 0, .slice none 0 0] 26 ∧ TxOwn wz wr.heap.size (.slice qa zn qc) ZP ∧ (Value.slice qa zn qc).ownBlock ≠ some g8 ∧ wr.heap.size ≤ g8 ∧ Below wr.heap.size wr wz) (fun (a : Act) (qa : Option Addr) (qc g8 : Nat) => (((((a.put (some 35) (.tuple #[.agg #[.int .i64 z1, .int .i64 z2, .int .i64 z3, .int .i64 z4, .int .i64 z5, .int .i64 z6, .slice qa zn qc], .bool zf, .int .i64 (ze : Int)])).put (some 29) (.tuple #[.agg #[.int .i64 z1, .int .i64 z2, .int .i64 z3, .int .i64 z4, .int .i64 z5, .int .i64 z6, .slice qa zn qc], .bool zf, .int .i64 (ze : Int)])).put (some 36) (.agg #[.int .i64 z1, .int .i64 z2, .int .i64 z3, .int .i64 z4, .int .i64 z5, .int .i64 z6, .slice qa zn qc])).put (some 37) (.bool zf)).put (some 38) (.int .i64 (ze : Int))).put (some 8) (.pointer (some ⟨g8, 0, none⟩))) #[true, true, true, true, true, true, true, true, true, true, true, false, false, false] 3 ?_ ?_
      · intro key0
        simp only [Act.put, List.setIfInBounds_toArray, List.set_cons_zero, List.set_cons_succ] at key0
        have KY := hide key0
        clear key0
        refine wpAnyH_ready (rs := [5, 10]) (by kernel_rfl) (by simp) ?_
        refine AllReadyH.cons (o := { dst := some 35, op := Go.Op.call { callee := Go.Callee.value (Go.Operand.func 6), args := #[Go.Operand.tmp 30, Go.Operand.tmp 34], argTypes := #[26, 33] }, type := 29, pos := "law.go:100", after := #[{ on := 0, ground := Go.Ground.data }, { on := 4, ground := Go.Ground.data }], guard := none }) rfl (fun K hK => ?_) ?_
        · go_simp
          go_at_call 6
          with_reducible refine Calls.mono (HA1.out _ (by repeat (first | with_reducible exact Below.refl _ _ | with_reducible refine Below.drew ?_ | with_reducible refine bel_al ?_ _))) ?_
          rintro e w7 ⟨qa, qc, rfl, o7, l7, b7, pb7⟩
          have Q7 := hide o7
          have L7 := hide l7
          have Y7 := hide b7
          have PB := hide pb7
          clear o7 l7 b7 pb7
          try dsimp only
          refine hK.out _ _ (HSB.out _ (by repeat (first | with_reducible exact Below.refl _ _ | with_reducible exact Y7.out | with_reducible refine Below.drew ?_ | with_reducible refine bel_al ?_ _))) (fun hHeld2 => ?_)
          clear hK K
          try simp only [Act.put, List.setIfInBounds_toArray, List.set_cons_zero, List.set_cons_succ]
          refine wpAnyH_take (i := 6) (oi := { dst := some 29, op := Go.Op.move (Go.Operand.tmp 35), type := 29, pos := "law.go:100", after := #[{ on := 5, ground := Go.Ground.data }], guard := none }) (v := ?_) rfl (by kernel_rfl) (by kernel_rfl) (by kernel_rfl) (fun _ _ _ h => h) (Or.inl ⟨by rfl, ?_⟩) (by assumption) ?_
          rotate_left
          · intro w hSw
            obtain ⟨q0, q1, q2, q3, q4, q5, q6, q7, q8, q9, q10, q11, q12, q13, q14, q15, q16⟩ := hSw
            go_simp
            try with_reducible rfl
          simp only [Act.put, List.setIfInBounds_toArray, List.set_cons_zero, List.set_cons_succ]
          refine wpAnyH_take (i := 7) (oi := { dst := some 36, op := Go.Op.extract (Go.Operand.tmp 29) 0, type := 26, pos := "law.go:100", after := #[{ on := 6, ground := Go.Ground.data }], guard := none }) (v := ?_) rfl (by kernel_rfl) (by kernel_rfl) (by kernel_rfl) (fun _ _ _ h => h) (Or.inl ⟨by rfl, ?_⟩) (by assumption) ?_
          rotate_left
          · intro w hSw
            obtain ⟨q0, q1, q2, q3, q4, q5, q6, q7, q8, q9, q10, q11, q12, q13, q14, q15, q16⟩ := hSw
            go_simp
            try with_reducible rfl
          simp only [Act.put, List.setIfInBounds_toArray, List.set_cons_zero, List.set_cons_succ]
          refine wpAnyH_take (i := 8) (oi := { dst := some 37, op := Go.Op.extract (Go.Operand.tmp 29) 1, type := 4, pos := "law.go:100", after := #[{ on := 6, ground := Go.Ground.data }, { on := 11, ground := Go.Ground.gcOnly Go.Departure.lateStores }], guard := none }) (v := ?_) rfl (by kernel_rfl) (by kernel_rfl) (by kernel_rfl) (fun _ _ _ h => h) (Or.inl ⟨by rfl, ?_⟩) (by assumption) ?_
          rotate_left
          · intro w hSw
            obtain ⟨q0, q1, q2, q3, q4, q5, q6, q7, q8, q9, q10, q11, q12, q13, q14, q15, q16⟩ := hSw
            go_simp
            try with_reducible rfl
          simp only [Act.put, List.setIfInBounds_toArray, List.set_cons_zero, List.set_cons_succ]
          refine wpAnyH_take (i := 9) (oi := { dst := some 38, op := Go.Op.extract (Go.Operand.tmp 29) 2, type := 3, pos := "law.go:100", after := #[{ on := 6, ground := Go.Ground.data }, { on := 12, ground := Go.Ground.gcOnly Go.Departure.lateStores }], guard := none }) (v := ?_) rfl (by kernel_rfl) (by kernel_rfl) (by kernel_rfl) (fun _ _ _ h => h) (Or.inl ⟨by rfl, ?_⟩) (by assumption) ?_
          rotate_left
          · intro w hSw
            obtain ⟨q0, q1, q2, q3, q4, q5, q6, q7, q8, q9, q10, q11, q12, q13, q14, q15, q16⟩ := hSw
            go_simp
            try with_reducible rfl
          simp only [Act.put, List.setIfInBounds_toArray, List.set_cons_zero, List.set_cons_succ]
          refine wpAnyH_ready (rs := [10]) (by kernel_rfl) (by simp) ?_
          refine AllReadyH.cons (o := { dst := some 8, op := Go.Op.alloc 26, type := 0, pos := "law.go:100", after := #[], guard := none }) rfl (fun K hK => ?_) ?_
          · go_simp
            refine hK.out _ _ (HSB.out _ (by repeat (first | with_reducible exact Below.refl _ _ | with_reducible exact Y7.out | with_reducible refine Below.drew ?_ | with_reducible refine bel_al ?_ _))) (fun hHeld2 => ?_)
            clear hK K
            try simp only [Act.put, List.setIfInBounds_toArray, List.set_cons_zero, List.set_cons_succ]
            refine wpAnyH_listed (show _ = #[true, true, true, true, true, true, true, true, true, true, true, false, false, false] by kernel_rfl) ?_
            have hb7 := Y7.out.size
            have hl7 := L7.out
            obtain ⟨W9, e9, M1, D9⟩ := box1 w7 [.int .i64 0, .int .i64 0, .int .i64 0, .int .i64 0, .int .i64 0, .int .i64 0, .slice none 0 0] 26
            have Q9 := Q7.out.below D9
            have Y9 := Y7.out.trans (D9.mono hb7)
            simp only [e9]
            exact KY.out qa qc w7.heap.size W9 ⟨M1, Q9, fun e => (by have := hl7 _ e; omega), hb7, Y9⟩
          exact AllReadyH.nil
        refine AllReadyH.cons (o := { dst := some 8, op := Go.Op.alloc 26, type := 0, pos := "law.go:100", after := #[], guard := none }) rfl (fun K hK => ?_) ?_
        · go_simp
          refine hK.out _ _ (HSB.out _ (by repeat (first | with_reducible exact Below.refl _ _ | with_reducible refine Below.drew ?_ | with_reducible refine bel_al ?_ _))) (fun hHeld2 => ?_)
          clear hK K
          try simp only [Act.put, List.setIfInBounds_toArray, List.set_cons_zero, List.set_cons_succ]
          refine wpAnyH_ready (rs := [5]) (by kernel_rfl) (by simp) ?_
          refine AllReadyH.cons (o := { dst := some 35, op := Go.Op.call { callee := Go.Callee.value (Go.Operand.func 6), args := #[Go.Operand.tmp 30, Go.Operand.tmp 34], argTypes := #[26, 33] }, type := 29, pos := "law.go:100", after := #[{ on := 0, ground := Go.Ground.data }, { on := 4, ground := Go.Ground.data }], guard := none }) rfl (fun K hK => ?_) ?_
          · go_simp
            go_at_call 6
            with_reducible refine Calls.mono (HA1.out _ (by repeat (first | with_reducible exact Below.refl _ _ | with_reducible refine Below.drew ?_ | with_reducible refine bel_al ?_ _))) ?_
            rintro e w7 ⟨qa, qc, rfl, o7, l7, b7, pb7⟩
            have Q7 := hide o7
            have L7 := hide l7
            have Y7 := hide b7
            have PB := hide pb7
            clear o7 l7 b7 pb7
            try dsimp only
            refine hK.out _ _ (HSB.out _ (by repeat (first | with_reducible exact Below.refl _ _ | with_reducible exact Y7.out | with_reducible refine Below.drew ?_ | with_reducible refine bel_al ?_ _))) (fun hHeld2 => ?_)
            clear hK K
            try simp only [Act.put, List.setIfInBounds_toArray, List.set_cons_zero, List.set_cons_succ]
            refine wpAnyH_take (i := 6) (oi := { dst := some 29, op := Go.Op.move (Go.Operand.tmp 35), type := 29, pos := "law.go:100", after := #[{ on := 5, ground := Go.Ground.data }], guard := none }) (v := ?_) rfl (by kernel_rfl) (by kernel_rfl) (by kernel_rfl) (fun _ _ _ h => h) (Or.inl ⟨by rfl, ?_⟩) (by assumption) ?_
            rotate_left
            · intro w hSw
              obtain ⟨q0, q1, q2, q3, q4, q5, q6, q7, q8, q9, q10, q11, q12, q13, q14, q15, q16⟩ := hSw
              go_simp
              try with_reducible rfl
            simp only [Act.put, List.setIfInBounds_toArray, List.set_cons_zero, List.set_cons_succ]
            refine wpAnyH_take (i := 7) (oi := { dst := some 36, op := Go.Op.extract (Go.Operand.tmp 29) 0, type := 26, pos := "law.go:100", after := #[{ on := 6, ground := Go.Ground.data }], guard := none }) (v := ?_) rfl (by kernel_rfl) (by kernel_rfl) (by kernel_rfl) (fun _ _ _ h => h) (Or.inl ⟨by rfl, ?_⟩) (by assumption) ?_
            rotate_left
            · intro w hSw
              obtain ⟨q0, q1, q2, q3, q4, q5, q6, q7, q8, q9, q10, q11, q12, q13, q14, q15, q16⟩ := hSw
              go_simp
              try with_reducible rfl
            simp only [Act.put, List.setIfInBounds_toArray, List.set_cons_zero, List.set_cons_succ]
            refine wpAnyH_take (i := 8) (oi := { dst := some 37, op := Go.Op.extract (Go.Operand.tmp 29) 1, type := 4, pos := "law.go:100", after := #[{ on := 6, ground := Go.Ground.data }, { on := 11, ground := Go.Ground.gcOnly Go.Departure.lateStores }], guard := none }) (v := ?_) rfl (by kernel_rfl) (by kernel_rfl) (by kernel_rfl) (fun _ _ _ h => h) (Or.inl ⟨by rfl, ?_⟩) (by assumption) ?_
            rotate_left
            · intro w hSw
              obtain ⟨q0, q1, q2, q3, q4, q5, q6, q7, q8, q9, q10, q11, q12, q13, q14, q15, q16⟩ := hSw
              go_simp
              try with_reducible rfl
            simp only [Act.put, List.setIfInBounds_toArray, List.set_cons_zero, List.set_cons_succ]
            refine wpAnyH_take (i := 9) (oi := { dst := some 38, op := Go.Op.extract (Go.Operand.tmp 29) 2, type := 3, pos := "law.go:100", after := #[{ on := 6, ground := Go.Ground.data }, { on := 12, ground := Go.Ground.gcOnly Go.Departure.lateStores }], guard := none }) (v := ?_) rfl (by kernel_rfl) (by kernel_rfl) (by kernel_rfl) (fun _ _ _ h => h) (Or.inl ⟨by rfl, ?_⟩) (by assumption) ?_
            rotate_left
            · intro w hSw
              obtain ⟨q0, q1, q2, q3, q4, q5, q6, q7, q8, q9, q10, q11, q12, q13, q14, q15, q16⟩ := hSw
              go_simp
              try with_reducible rfl
            simp only [Act.put, List.setIfInBounds_toArray, List.set_cons_zero, List.set_cons_succ]
            refine wpAnyH_listed (show _ = #[true, true, true, true, true, true, true, true, true, true, true, false, false, false] by kernel_rfl) ?_
            have hb7 := Y7.out.size
            have hl7 := L7.out
            have hx : (wr.alloc (.cells #[.int .i64 0, .int .i64 0, .int .i64 0, .int .i64 0, .int .i64 0, .int .i64 0, .slice none 0 0] 26)).drew.heap.size = wr.heap.size + 1 := Array.size_push _
            rw [hx] at hl7
            have M0 := PB.out _ _ _ N1.out
            exact KY.out qa qc wr.heap.size w7 ⟨M0, Q7.out, fun e => (by have := hl7 _ e; omega), Nat.le_refl _, Y7.out⟩
          exact AllReadyH.nil
        exact AllReadyH.nil
      · intro qa qc g8 wz hF
        simp only [Act.put, List.setIfInBounds_toArray, List.set_cons_zero, List.set_cons_succ]
        obtain ⟨hB8, hQ, hne, hge, hBZ⟩ := hF
        have D12 := hide (below_sets hge [.int .i64 z1, .int .i64 z2, .int .i64 z3, .int .i64 z4, .int .i64 z5, .int .i64 z6, .slice qa zn qc] 0 hBZ)
        have S12 := hide (HSB.out ((((((((wz.setCell ⟨g8, 0, none⟩ (.int .i64 z1)).setCell ⟨g8, 1, none⟩ (.int .i64 z2)).setCell ⟨g8, 2, none⟩ (.int .i64 z3)).setCell ⟨g8, 3, none⟩ (.int .i64 z4)).setCell ⟨g8, 4, none⟩ (.int .i64 z5)).setCell ⟨g8, 5, none⟩ (.int .i64 z6)).setCell ⟨g8, 6, none⟩ (.slice qa zn qc))) D12.out)
        have K8 := hide (hB8.sets [.int .i64 z1, .int .i64 z2, .int .i64 z3, .int .i64 z4, .int .i64 z5, .int .i64 z6, .slice qa zn qc] rfl)
        have KQ := hide (LOwn.fars hne [.int .i64 z1, .int .i64 z2, .int .i64 z3, .int .i64 z4, .int .i64 z5, .int .i64 z6, .slice qa zn qc] 0 hQ)
        have HB8 := hide hB8
        have HG := hide (And.intro hge hne)
        clear hB8 hQ hne hBZ hge
        have g0 := HB8.out.cell 0 rfl
        have g1 := HB8.out.cell 1 rfl
        have g2 := HB8.out.cell 2 rfl
        have g3 := HB8.out.cell 3 rfl
        have g4 := HB8.out.cell 4 rfl
        have g5 := HB8.out.cell 5 rfl
        have g6 := HB8.out.cell 6 rfl
        have f0 := HB8.out.frozen 0
        have f1 := HB8.out.frozen 1
        have f2 := HB8.out.frozen 2
        have f3 := HB8.out.frozen 3
        have f4 := HB8.out.frozen 4
        have f5 := HB8.out.frozen 5
        have f6 := HB8.out.frozen 6
        refine wpAnyH_ready (rs := [11]) (by kernel_rfl) (by simp) ?_
        refine AllReadyH.cons (o := { dst := none, op := Go.Op.store 26 (Go.Operand.tmp 8) (Go.Operand.tmp 36), type := 0, pos := "law.go:100", after := #[{ on := 10, ground := Go.Ground.data }, { on := 7, ground := Go.Ground.data }, { on := 5, ground := Go.Ground.chain }, { on := 0, ground := Go.Ground.phase }, { on := 1, ground := Go.Ground.phase }, { on := 2, ground := Go.Ground.phase }, { on := 3, ground := Go.Ground.phase }, { on := 4, ground := Go.Ground.phase }, { on := 5, ground := Go.Ground.phase }, { on := 6, ground := Go.Ground.phase }, { on := 7, ground := Go.Ground.phase }, { on := 8, ground := Go.Ground.textOnly Go.Departure.lateStores }, { on := 9, ground := Go.Ground.textOnly Go.Departure.lateStores }, { on := 10, ground := Go.Ground.phase }], guard := none }) rfl (fun K hK => ?_) AllReadyH.nil
        go_simp
        refine hK.out _ _ S12.out (fun hHeld2 => ?_)
        clear hK K
        refine wpAnyH_take (i := 12) (oi := { dst := some 9, op := Go.Op.assign (Go.Operand.tmp 37), type := 4, pos := "law.go:100", after := #[{ on := 8, ground := Go.Ground.data }, { on := 11, ground := Go.Ground.chain }, { on := 0, ground := Go.Ground.phase }, { on := 1, ground := Go.Ground.phase }, { on := 2, ground := Go.Ground.phase }, { on := 3, ground := Go.Ground.phase }, { on := 4, ground := Go.Ground.phase }, { on := 5, ground := Go.Ground.phase }, { on := 6, ground := Go.Ground.phase }, { on := 7, ground := Go.Ground.phase }, { on := 8, ground := Go.Ground.phase }, { on := 9, ground := Go.Ground.textOnly Go.Departure.lateStores }, { on := 10, ground := Go.Ground.phase }, { on := 11, ground := Go.Ground.phase }], guard := none }) (v := ?_) rfl (by kernel_rfl) (by kernel_rfl) (by kernel_rfl) (fun _ _ _ h => h) (Or.inl ⟨by rfl, ?_⟩) (by assumption) ?_
        rotate_left
        · intro w hSw
          obtain ⟨q0, q1, q2, q3, q4, q5, q6, q7, q8, q9, q10, q11, q12, q13, q14, q15, q16⟩ := hSw
          go_simp
          try with_reducible rfl
        simp only [Act.put, List.setIfInBounds_toArray, List.set_cons_zero, List.set_cons_succ]
        refine wpAnyH_take (i := 13) (oi := { dst := some 10, op := Go.Op.assign (Go.Operand.tmp 38), type := 3, pos := "law.go:100", after := #[{ on := 9, ground := Go.Ground.data }, { on := 12, ground := Go.Ground.chain }, { on := 0, ground := Go.Ground.phase }, { on := 1, ground := Go.Ground.phase }, { on := 2, ground := Go.Ground.phase }, { on := 3, ground := Go.Ground.phase }, { on := 4, ground := Go.Ground.phase }, { on := 5, ground := Go.Ground.phase }, { on := 6, ground := Go.Ground.phase }, { on := 7, ground := Go.Ground.phase }, { on := 8, ground := Go.Ground.phase }, { on := 9, ground := Go.Ground.phase }, { on := 10, ground := Go.Ground.phase }, { on := 11, ground := Go.Ground.phase }, { on := 12, ground := Go.Ground.phase }], guard := none }) (v := ?_) rfl (by kernel_rfl) (by kernel_rfl) (by kernel_rfl) (fun _ _ _ h => h) (Or.inl ⟨by rfl, ?_⟩) (by assumption) ?_
        rotate_left
        · intro w hSw
          obtain ⟨q0, q1, q2, q3, q4, q5, q6, q7, q8, q9, q10, q11, q12, q13, q14, q15, q16⟩ := hSw
          go_simp
          try with_reducible rfl
        simp only [Act.put, List.setIfInBounds_toArray, List.set_cons_zero, List.set_cons_succ]
        refine wpAnyH_done (by kernel_rfl) ?_ _
        clear hHeld2 f0 g0 f1 g1 f2 g2 f3 g3 f4 g4 f5 g5 f6 g6 S12
        obtain ⟨W13, hW13⟩ : ∃ W13, (((((((wz.setCell ⟨g8, 0, none⟩ (.int .i64 z1)).setCell ⟨g8, 1, none⟩ (.int .i64 z2)).setCell ⟨g8, 2, none⟩ (.int .i64 z3)).setCell ⟨g8, 3, none⟩ (.int .i64 z4)).setCell ⟨g8, 4, none⟩ (.int .i64 z5)).setCell ⟨g8, 5, none⟩ (.int .i64 z6)).setCell ⟨g8, 6, none⟩ (.slice qa zn qc)) = W13 := ⟨_, rfl⟩
        simp only [hW13]
        rw [show World.setCells wz g8 0 [.int .i64 z1, .int .i64 z2, .int .i64 z3, .int .i64 z4, .int .i64 z5, .int .i64 z6, .slice qa zn qc] = W13 from hW13] at D12 K8 KQ
        clear hW13
        go_wp2
        go_meet
        case rel => exact ⟨qa, qc, g8, rfl, rfl, rfl, K8.out, KQ.out, HG.out, D12.out⟩
    case rest =>
    obtain ⟨qa, qc, g8, rfl, rfl, rfl, W1, W2, W3, W4⟩ := hcut
    obtain ⟨w6, hw6⟩ : ∃ z, z = wc := ⟨_, rfl⟩
    subst hw6
    clear N1 HA1
    have HOU : Hid (∀ w' : World, Below w6.heap.size w6 w' → Calls Tryz.prog 8 #[.agg #[.int .i64 x1, .int .i64 x2, .int .i64 x3, .int .i64 x4, .int .i64 x5, .int .i64 x6, .slice sa sn sc]] w' fun e w'' => ∃ ua uc, e = .returned (.agg #[.int .i64 x1, .int .i64 x2, .int .i64 x3, .int .i64 x4, .int .i64 x5, .int .i64 x6, .slice ua sn uc]) ∧ Txs w'' ua sn uc P ∧ Below w6.heap.size w6 w'' ∧ (∀ b cs ty, Bk w' b cs ty → Bk w'' b cs ty)) := by
      intro w' hb
      refine (ours_any x1 x2 x3 x4 x5 x6 sa sn sc P ((HT.out.below W4.out).below hb) (by have := HF.out.1; rw [HPS] at this; omega)).mono ?_
      rintro e w'' ⟨ua, uc, rfl, o, b⟩
      exact ⟨ua, uc, rfl, own_rcs o, hb.trans (b.mono hb.size), fun b' cs ty hk => hk.below b⟩
    have HA2 : Hid (∀ (w' : World) (ua : Option Addr) (uc : Nat), Txs w' ua sn uc P → Below w6.heap.size w6 w' → Calls Tryz.prog 7 #[.agg #[.int .i64 x1, .int .i64 x2, .int .i64 x3, .int .i64 x4, .int .i64 x5, .int .i64 x6, .slice ua sn uc], .agg #[.int .i64 nk, .int .i64 npt, .int .i64 nb, .int .i64 nr, .int .i64 nm, .int .i64 nst, .int .i64 nix, .int .i64 ntt, .int .u32 nsm, .string nd]] w' fun e w'' => ∃ qa qc, e = .returned (.tuple #[.agg #[.int .i64 z1, .int .i64 z2, .int .i64 z3, .int .i64 z4, .int .i64 z5, .int .i64 z6, .slice qa zn qc], .bool zf, erv E ze]) ∧ TxOwn w'' w6.heap.size (.slice qa zn qc) ZP ∧ (∀ jj, (Value.slice qa zn qc).ownBlock = some jj → w'.heap.size ≤ jj ∧ jj < w''.heap.size) ∧ Below w6.heap.size w6 w'' ∧ (∀ b cs ty, Bk w' b cs ty → Bk w'' b cs ty)) := by
      intro w' ua uc hp hb
      refine (HR2.out w' ua uc (er7x_e ((HEr.out.below W4.out).below hb)) hp).mono ?_
      rintro e w'' ⟨v, rfl, o, b⟩
      obtain ⟨qa, qc, rfl⟩ := own_len o HZN.out
      exact ⟨qa, qc, rfl, o.weaken hb.size, fun jj e => World.ownsRow.lt o jj e, hb.trans (b.mono hb.size), fun b' cs ty hk => hk.below b⟩
    replace HSB : Hid (∀ wz : World, Below w6.heap.size w6 wz → wz.cell? ⟨g3, 0, none⟩ = some (.int .i64 x1) ∧ wz.cell? ⟨g3, 1, none⟩ = some (.int .i64 x2) ∧ wz.cell? ⟨g3, 2, none⟩ = some (.int .i64 x3) ∧ wz.cell? ⟨g3, 3, none⟩ = some (.int .i64 x4) ∧ wz.cell? ⟨g3, 4, none⟩ = some (.int .i64 x5) ∧ wz.cell? ⟨g3, 5, none⟩ = some (.int .i64 x6) ∧ wz.cell? ⟨g3, 6, none⟩ = some (.slice sa sn sc) ∧ wz.cell? ⟨lb, lo + k * 10, none⟩ = some (.int .i64 nk) ∧ wz.cell? ⟨lb, lo + k * 10 + 1, none⟩ = some (.int .i64 npt) ∧ wz.cell? ⟨lb, lo + k * 10 + 2, none⟩ = some (.int .i64 nb) ∧ wz.cell? ⟨lb, lo + k * 10 + 3, none⟩ = some (.int .i64 nr) ∧ wz.cell? ⟨lb, lo + k * 10 + 4, none⟩ = some (.int .i64 nm) ∧ wz.cell? ⟨lb, lo + k * 10 + 5, none⟩ = some (.int .i64 nst) ∧ wz.cell? ⟨lb, lo + k * 10 + 6, none⟩ = some (.int .i64 nix) ∧ wz.cell? ⟨lb, lo + k * 10 + 7, none⟩ = some (.int .i64 ntt) ∧ wz.cell? ⟨lb, lo + k * 10 + 8, none⟩ = some (.int .u32 nsm) ∧ wz.cell? ⟨lb, lo + k * 10 + 9, none⟩ = some (.string nd)) := fun wz hb => HSB.out wz (W4.out.trans (hb.mono W4.out.size))
    have N1 : Hid (Bk (w6.alloc (.cells #[.int .i64 0, .int .i64 0, .int .i64 0, .int .i64 0, .int .i64 0, .int .i64 0, .slice none 0 0] 34)).drew w6.heap.size [.int .i64 0, .int .i64 0, .int .i64 0, .int .i64 0, .int .i64 0, .int .i64 0, .slice none 0 0] 34) := (Bk.new w6 [.int .i64 0, .int .i64 0, .int .i64 0, .int .i64 0, .int .i64 0, .int .i64 0, .slice none 0 0] 34).below (Below.refl _ _).drew
    go_upto_region 7 with fail
    go_cut [11, 12, 13] from 39 to 49 (fun v11 v12 v13 wz => ∃ (ra : Option Addr) (rc g11 : Nat), v11 = .pointer (some ⟨g11, 0, none⟩) ∧ v12 = .bool zf ∧ v13 = erv E ze ∧ Hid (Bk wz g11 [.int .i64 z1, .int .i64 z2, .int .i64 z3, .int .i64 z4, .int .i64 z5, .int .i64 z6, .slice ra zn rc] 34) ∧ Hid (TxOwn wz w6.heap.size (.slice ra zn rc) ZP) ∧ Hid (w6.heap.size ≤ g11 ∧ (Value.slice ra zn rc).ownBlock ≠ some g11) ∧ Hid (Below w6.heap.size w6 wz))
    case first =>
      refine wp_region_held_drew (S := fun wz => wz.cell? ⟨g3, 0, none⟩ = some (.int .i64 x1) ∧ wz.cell? ⟨g3, 1, none⟩ = some (.int .i64 x2) ∧ wz.cell? ⟨g3, 2, none⟩ = some (.int .i64 x3) ∧ wz.cell? ⟨g3, 3, none⟩ = some (.int .i64 x4) ∧ wz.cell? ⟨g3, 4, none⟩ = some (.int .i64 x5) ∧ wz.cell? ⟨g3, 5, none⟩ = some (.int .i64 x6) ∧ wz.cell? ⟨g3, 6, none⟩ = some (.slice sa sn sc) ∧ wz.cell? ⟨lb, lo + k * 10, none⟩ = some (.int .i64 nk) ∧ wz.cell? ⟨lb, lo + k * 10 + 1, none⟩ = some (.int .i64 npt) ∧ wz.cell? ⟨lb, lo + k * 10 + 2, none⟩ = some (.int .i64 nb) ∧ wz.cell? ⟨lb, lo + k * 10 + 3, none⟩ = some (.int .i64 nr) ∧ wz.cell? ⟨lb, lo + k * 10 + 4, none⟩ = some (.int .i64 nm) ∧ wz.cell? ⟨lb, lo + k * 10 + 5, none⟩ = some (.int .i64 nst) ∧ wz.cell? ⟨lb, lo + k * 10 + 6, none⟩ = some (.int .i64 nix) ∧ wz.cell? ⟨lb, lo + k * 10 + 7, none⟩ = some (.int .i64 ntt) ∧ wz.cell? ⟨lb, lo + k * 10 + 8, none⟩ = some (.int .u32 nsm) ∧ wz.cell? ⟨lb, lo + k * 10 + 9, none⟩ = some (.string nd)) (by kernel_rfl) (HSB.out _ (Below.refl _ _).drew) (fun hHeld => ?_)
      refine wpAnyH_take (i := 0) (oi := { dst := some 40, op := Go.Op.load 26 (Go.Operand.tmp 3), type := 26, pos := "law.go:101", after := #[], guard := none }) (v := ?_) rfl (by kernel_rfl) (by kernel_rfl) (by kernel_rfl) (fun _ _ _ h => h) (Or.inl ⟨by rfl, ?_⟩) (by assumption) ?_
      rotate_left
      · intro w hSw
        obtain ⟨q0, q1, q2, q3, q4, q5, q6, q7, q8, q9, q10, q11, q12, q13, q14, q15, q16⟩ := hSw
        go_simp
        try with_reducible rfl
      simp only [Act.put, List.setIfInBounds_toArray, List.set_cons_zero, List.set_cons_succ]
      refine wpAnyH_take (i := 2) (oi := { dst := some 42, op := Go.Op.move (Go.Operand.tmp 1), type := 27, pos := "law.go:101", after := #[], guard := none }) (v := ?_) rfl (by kernel_rfl) (by kernel_rfl) (by kernel_rfl) (fun _ _ _ h => h) (Or.inl ⟨by rfl, ?_⟩) (by assumption) ?_
      rotate_left
      · intro w hSw
        obtain ⟨q0, q1, q2, q3, q4, q5, q6, q7, q8, q9, q10, q11, q12, q13, q14, q15, q16⟩ := hSw
        go_simp
        try with_reducible rfl
      simp only [Act.put, List.setIfInBounds_toArray, List.set_cons_zero, List.set_cons_succ]
      refine wpAnyH_take (i := 3) (oi := { dst := some 43, op := Go.Op.move (Go.Operand.tmp 7), type := 3, pos := "law.go:101", after := #[], guard := none }) (v := ?_) rfl (by kernel_rfl) (by kernel_rfl) (by kernel_rfl) (fun _ _ _ h => h) (Or.inl ⟨by rfl, ?_⟩) (by assumption) ?_
      rotate_left
      · intro w hSw
        obtain ⟨q0, q1, q2, q3, q4, q5, q6, q7, q8, q9, q10, q11, q12, q13, q14, q15, q16⟩ := hSw
        go_simp
        try with_reducible rfl
      simp only [Act.put, List.setIfInBounds_toArray, List.set_cons_zero, List.set_cons_succ]
      refine wpAnyH_take (i := 4) (oi := { dst := some 44, op := Go.Op.indexAddr 27 (Go.Operand.tmp 42) (Go.Operand.tmp 43), type := 0, pos := "law.go:101", after := #[{ on := 2, ground := Go.Ground.data }, { on := 3, ground := Go.Ground.data }], guard := none }) (v := ?_) rfl (by kernel_rfl) (by kernel_rfl) (by kernel_rfl) (fun _ _ _ h => h) (Or.inl ⟨by rfl, ?_⟩) (by assumption) ?_
      rotate_left
      · intro w hSw
        obtain ⟨q0, q1, q2, q3, q4, q5, q6, q7, q8, q9, q10, q11, q12, q13, q14, q15, q16⟩ := hSw
        go_simp
        try with_reducible rfl
      simp only [Act.put, List.setIfInBounds_toArray, List.set_cons_zero, List.set_cons_succ]
      refine wpAnyH_take (i := 5) (oi := { dst := some 45, op := Go.Op.load 33 (Go.Operand.tmp 44), type := 33, pos := "law.go:101", after := #[{ on := 4, ground := Go.Ground.data }], guard := none }) (v := ?_) rfl (by kernel_rfl) (by kernel_rfl) (by kernel_rfl) (fun _ _ _ h => h) (Or.inl ⟨by rfl, ?_⟩) (by assumption) ?_
      rotate_left
      · intro w hSw
        obtain ⟨q0, q1, q2, q3, q4, q5, q6, q7, q8, q9, q10, q11, q12, q13, q14, q15, q16⟩ := hSw
        go_simp
        try with_reducible rfl
      simp only [Act.put, List.setIfInBounds_toArray, List.set_cons_zero, List.set_cons_succ]
      refine by_key6 (fun ua uc qa qc g11 wz => Bk wz g11 [.int .i64 0, .int .i64 0, .int .i64 0, .int .i64 0, .int .i64 0, .int .i64 0, .slice none 0 0] 34 ∧ TxOwn wz w6.heap.size (.slice qa zn qc) ZP ∧ (Value.slice qa zn qc).ownBlock ≠ some g11 ∧ w6.heap.size ≤ g11 ∧ Below w6.heap.size w6 wz) (fun (a : Act) (ua : Option Addr) (uc : Nat) (qa : Option Addr) (qc g11 : Nat) => ((((((a.put (some 41) (.agg #[.int .i64 x1, .int .i64 x2, .int .i64 x3, .int .i64 x4, .int .i64 x5, .int .i64 x6, .slice ua sn uc])).put (some 46) (.tuple #[.agg #[.int .i64 z1, .int .i64 z2, .int .i64 z3, .int .i64 z4, .int .i64 z5, .int .i64 z6, .slice qa zn qc], .bool zf, erv E ze])).put (some 39) (.tuple #[.agg #[.int .i64 z1, .int .i64 z2, .int .i64 z3, .int .i64 z4, .int .i64 z5, .int .i64 z6, .slice qa zn qc], .bool zf, erv E ze])).put (some 47) (.agg #[.int .i64 z1, .int .i64 z2, .int .i64 z3, .int .i64 z4, .int .i64 z5, .int .i64 z6, .slice qa zn qc])).put (some 48) (.bool zf)).put (some 49) (erv E ze)).put (some 11) (.pointer (some ⟨g11, 0, none⟩))) #[true, true, true, true, true, true, true, true, true, true, true, true, false, false, false] 3 ?_ ?_
      · intro key0
        simp only [Act.put, List.setIfInBounds_toArray, List.set_cons_zero, List.set_cons_succ] at key0
        have KY := hide key0
        clear key0
        refine wpAnyH_ready (rs := [1, 11]) (by kernel_rfl) (by simp) ?_
        refine AllReadyH.cons (o := { dst := some 41, op := Go.Op.call { callee := Go.Callee.value (Go.Operand.func 8), args := #[Go.Operand.tmp 40], argTypes := #[26] }, type := 34, pos := "law.go:101", after := #[{ on := 0, ground := Go.Ground.data }], guard := none }) rfl (fun K hK => ?_) ?_
        · go_simp
          go_at_call 8
          with_reducible refine Calls.mono (HOU.out _ (by repeat (first | with_reducible exact Below.refl _ _ | with_reducible refine Below.drew ?_ | with_reducible refine bel_al ?_ _))) ?_
          rintro e w7 ⟨ua, uc, rfl, t7, b7, pb7⟩
          have T7 := hide t7
          have Y7 := hide b7
          have PB7 := hide pb7
          clear t7 b7 pb7
          try dsimp only
          refine hK.out _ _ (HSB.out _ (by repeat (first | with_reducible exact Below.refl _ _ | with_reducible exact Y7.out | with_reducible refine Below.drew ?_ | with_reducible refine bel_al ?_ _))) (fun hHeld2 => ?_)
          clear hK K
          try simp only [Act.put, List.setIfInBounds_toArray, List.set_cons_zero, List.set_cons_succ]
          refine wpAnyH_ready (rs := [6, 11]) (by kernel_rfl) (by simp) ?_
          refine AllReadyH.cons (o := { dst := some 46, op := Go.Op.call { callee := Go.Callee.value (Go.Operand.func 7), args := #[Go.Operand.tmp 41, Go.Operand.tmp 45], argTypes := #[34, 33] }, type := 37, pos := "law.go:101", after := #[{ on := 1, ground := Go.Ground.data }, { on := 5, ground := Go.Ground.data }, { on := 1, ground := Go.Ground.chain }], guard := none }) rfl (fun K hK => ?_) ?_
          · go_simp
            go_at_call 7
            with_reducible refine Calls.mono (HA2.out _ ua uc T7.out (by repeat (first | with_reducible exact Below.refl _ _ | with_reducible exact Y7.out | with_reducible refine Below.drew ?_ | with_reducible refine bel_al ?_ _))) ?_
            rintro e w8 ⟨qa, qc, rfl, o8, l8, b8, pb8⟩
            have Q8 := hide o8
            have L8 := hide l8
            have Y8 := hide b8
            have PB8 := hide pb8
            clear o8 l8 b8 pb8
            try dsimp only
            refine hK.out _ _ (HSB.out _ (by repeat (first | with_reducible exact Below.refl _ _ | with_reducible exact Y8.out | with_reducible refine Below.drew ?_ | with_reducible refine bel_al ?_ _))) (fun hHeld2 => ?_)
            clear hK K
            try simp only [Act.put, List.setIfInBounds_toArray, List.set_cons_zero, List.set_cons_succ]
            refine wpAnyH_take (i := 7) (oi := { dst := some 39, op := Go.Op.move (Go.Operand.tmp 46), type := 37, pos := "law.go:101", after := #[{ on := 6, ground := Go.Ground.data }], guard := none }) (v := ?_) rfl (by kernel_rfl) (by kernel_rfl) (by kernel_rfl) (fun _ _ _ h => h) (Or.inl ⟨by rfl, ?_⟩) (by assumption) ?_
            rotate_left
            · intro w hSw
              obtain ⟨q0, q1, q2, q3, q4, q5, q6, q7, q8, q9, q10, q11, q12, q13, q14, q15, q16⟩ := hSw
              go_simp
              try with_reducible rfl
            simp only [Act.put, List.setIfInBounds_toArray, List.set_cons_zero, List.set_cons_succ]
            refine wpAnyH_take (i := 8) (oi := { dst := some 47, op := Go.Op.extract (Go.Operand.tmp 39) 0, type := 34, pos := "law.go:101", after := #[{ on := 7, ground := Go.Ground.data }], guard := none }) (v := ?_) rfl (by kernel_rfl) (by kernel_rfl) (by kernel_rfl) (fun _ _ _ h => h) (Or.inl ⟨by rfl, ?_⟩) (by assumption) ?_
            rotate_left
            · intro w hSw
              obtain ⟨q0, q1, q2, q3, q4, q5, q6, q7, q8, q9, q10, q11, q12, q13, q14, q15, q16⟩ := hSw
              go_simp
              try with_reducible rfl
            simp only [Act.put, List.setIfInBounds_toArray, List.set_cons_zero, List.set_cons_succ]
            refine wpAnyH_take (i := 9) (oi := { dst := some 48, op := Go.Op.extract (Go.Operand.tmp 39) 1, type := 4, pos := "law.go:101", after := #[{ on := 7, ground := Go.Ground.data }, { on := 12, ground := Go.Ground.gcOnly Go.Departure.lateStores }], guard := none }) (v := ?_) rfl (by kernel_rfl) (by kernel_rfl) (by kernel_rfl) (fun _ _ _ h => h) (Or.inl ⟨by rfl, ?_⟩) (by assumption) ?_
            rotate_left
            · intro w hSw
              obtain ⟨q0, q1, q2, q3, q4, q5, q6, q7, q8, q9, q10, q11, q12, q13, q14, q15, q16⟩ := hSw
              go_simp
              try with_reducible rfl
            simp only [Act.put, List.setIfInBounds_toArray, List.set_cons_zero, List.set_cons_succ]
            refine wpAnyH_take (i := 10) (oi := { dst := some 49, op := Go.Op.extract (Go.Operand.tmp 39) 2, type := 36, pos := "law.go:101", after := #[{ on := 7, ground := Go.Ground.data }, { on := 13, ground := Go.Ground.gcOnly Go.Departure.lateStores }], guard := none }) (v := ?_) rfl (by kernel_rfl) (by kernel_rfl) (by kernel_rfl) (fun _ _ _ h => h) (Or.inl ⟨by rfl, ?_⟩) (by assumption) ?_
            rotate_left
            · intro w hSw
              obtain ⟨q0, q1, q2, q3, q4, q5, q6, q7, q8, q9, q10, q11, q12, q13, q14, q15, q16⟩ := hSw
              go_simp
              try with_reducible rfl
            simp only [Act.put, List.setIfInBounds_toArray, List.set_cons_zero, List.set_cons_succ]
            refine wpAnyH_ready (rs := [11]) (by kernel_rfl) (by simp) ?_
            refine AllReadyH.cons (o := { dst := some 11, op := Go.Op.alloc 34, type := 0, pos := "law.go:101", after := #[], guard := none }) rfl (fun K hK => ?_) ?_
            · go_simp
              refine hK.out _ _ (HSB.out _ (by repeat (first | with_reducible exact Below.refl _ _ | with_reducible exact Y8.out | with_reducible refine Below.drew ?_ | with_reducible refine bel_al ?_ _))) (fun hHeld2 => ?_)
              clear hK K
              try simp only [Act.put, List.setIfInBounds_toArray, List.set_cons_zero, List.set_cons_succ]
              refine wpAnyH_listed (show _ = #[true, true, true, true, true, true, true, true, true, true, true, true, false, false, false] by kernel_rfl) ?_
              have hb8 := Y8.out.size
              have hl8 := L8.out
              have hb7 := Y7.out.size
              obtain ⟨W9, e9, M1, D9⟩ := box1 w8 [.int .i64 0, .int .i64 0, .int .i64 0, .int .i64 0, .int .i64 0, .int .i64 0, .slice none 0 0] 34
              have Q9 := Q8.out.below D9
              have Y9 := Y8.out.trans (D9.mono hb8)
              simp only [e9]
              exact KY.out ua uc qa qc w8.heap.size W9 ⟨M1, Q9, fun e => (by have := hl8 _ e; omega), hb8, Y9⟩
            exact AllReadyH.nil
          refine AllReadyH.cons (o := { dst := some 11, op := Go.Op.alloc 34, type := 0, pos := "law.go:101", after := #[], guard := none }) rfl (fun K hK => ?_) ?_
          · go_simp
            refine hK.out _ _ (HSB.out _ (by repeat (first | with_reducible exact Below.refl _ _ | with_reducible exact Y7.out | with_reducible refine Below.drew ?_ | with_reducible refine bel_al ?_ _))) (fun hHeld2 => ?_)
            clear hK K
            try simp only [Act.put, List.setIfInBounds_toArray, List.set_cons_zero, List.set_cons_succ]
            refine wpAnyH_ready (rs := [6]) (by kernel_rfl) (by simp) ?_
            refine AllReadyH.cons (o := { dst := some 46, op := Go.Op.call { callee := Go.Callee.value (Go.Operand.func 7), args := #[Go.Operand.tmp 41, Go.Operand.tmp 45], argTypes := #[34, 33] }, type := 37, pos := "law.go:101", after := #[{ on := 1, ground := Go.Ground.data }, { on := 5, ground := Go.Ground.data }, { on := 1, ground := Go.Ground.chain }], guard := none }) rfl (fun K hK => ?_) ?_
            · go_simp
              go_at_call 7
              with_reducible refine Calls.mono (HA2.out _ ua uc (T7.out.below ((Below.refl _ _).alloc (Nat.le_refl _) _)) (by repeat (first | with_reducible exact Below.refl _ _ | with_reducible exact Y7.out | with_reducible refine Below.drew ?_ | with_reducible refine bel_al ?_ _))) ?_
              rintro e w8 ⟨qa, qc, rfl, o8, l8, b8, pb8⟩
              have Q8 := hide o8
              have L8 := hide l8
              have Y8 := hide b8
              have PB8 := hide pb8
              clear o8 l8 b8 pb8
              try dsimp only
              refine hK.out _ _ (HSB.out _ (by repeat (first | with_reducible exact Below.refl _ _ | with_reducible exact Y8.out | with_reducible refine Below.drew ?_ | with_reducible refine bel_al ?_ _))) (fun hHeld2 => ?_)
              clear hK K
              try simp only [Act.put, List.setIfInBounds_toArray, List.set_cons_zero, List.set_cons_succ]
              refine wpAnyH_take (i := 7) (oi := { dst := some 39, op := Go.Op.move (Go.Operand.tmp 46), type := 37, pos := "law.go:101", after := #[{ on := 6, ground := Go.Ground.data }], guard := none }) (v := ?_) rfl (by kernel_rfl) (by kernel_rfl) (by kernel_rfl) (fun _ _ _ h => h) (Or.inl ⟨by rfl, ?_⟩) (by assumption) ?_
              rotate_left
              · intro w hSw
                obtain ⟨q0, q1, q2, q3, q4, q5, q6, q7, q8, q9, q10, q11, q12, q13, q14, q15, q16⟩ := hSw
                go_simp
                try with_reducible rfl
              simp only [Act.put, List.setIfInBounds_toArray, List.set_cons_zero, List.set_cons_succ]
              refine wpAnyH_take (i := 8) (oi := { dst := some 47, op := Go.Op.extract (Go.Operand.tmp 39) 0, type := 34, pos := "law.go:101", after := #[{ on := 7, ground := Go.Ground.data }], guard := none }) (v := ?_) rfl (by kernel_rfl) (by kernel_rfl) (by kernel_rfl) (fun _ _ _ h => h) (Or.inl ⟨by rfl, ?_⟩) (by assumption) ?_
              rotate_left
              · intro w hSw
                obtain ⟨q0, q1, q2, q3, q4, q5, q6, q7, q8, q9, q10, q11, q12, q13, q14, q15, q16⟩ := hSw
                go_simp
                try with_reducible rfl
              simp only [Act.put, List.setIfInBounds_toArray, List.set_cons_zero, List.set_cons_succ]
              refine wpAnyH_take (i := 9) (oi := { dst := some 48, op := Go.Op.extract (Go.Operand.tmp 39) 1, type := 4, pos := "law.go:101", after := #[{ on := 7, ground := Go.Ground.data }, { on := 12, ground := Go.Ground.gcOnly Go.Departure.lateStores }], guard := none }) (v := ?_) rfl (by kernel_rfl) (by kernel_rfl) (by kernel_rfl) (fun _ _ _ h => h) (Or.inl ⟨by rfl, ?_⟩) (by assumption) ?_
              rotate_left
              · intro w hSw
                obtain ⟨q0, q1, q2, q3, q4, q5, q6, q7, q8, q9, q10, q11, q12, q13, q14, q15, q16⟩ := hSw
                go_simp
                try with_reducible rfl
              simp only [Act.put, List.setIfInBounds_toArray, List.set_cons_zero, List.set_cons_succ]
              refine wpAnyH_take (i := 10) (oi := { dst := some 49, op := Go.Op.extract (Go.Operand.tmp 39) 2, type := 36, pos := "law.go:101", after := #[{ on := 7, ground := Go.Ground.data }, { on := 13, ground := Go.Ground.gcOnly Go.Departure.lateStores }], guard := none }) (v := ?_) rfl (by kernel_rfl) (by kernel_rfl) (by kernel_rfl) (fun _ _ _ h => h) (Or.inl ⟨by rfl, ?_⟩) (by assumption) ?_
              rotate_left
              · intro w hSw
                obtain ⟨q0, q1, q2, q3, q4, q5, q6, q7, q8, q9, q10, q11, q12, q13, q14, q15, q16⟩ := hSw
                go_simp
                try with_reducible rfl
              simp only [Act.put, List.setIfInBounds_toArray, List.set_cons_zero, List.set_cons_succ]
              refine wpAnyH_listed (show _ = #[true, true, true, true, true, true, true, true, true, true, true, true, false, false, false] by kernel_rfl) ?_
              have hb8 := Y8.out.size
              have hl8 := L8.out
              have hb7 := Y7.out.size
              have hx : (w7.alloc (.cells #[.int .i64 0, .int .i64 0, .int .i64 0, .int .i64 0, .int .i64 0, .int .i64 0, .slice none 0 0] 34)).heap.size = w7.heap.size + 1 := Array.size_push _
              rw [hx] at hl8
              have M0 := PB8.out _ _ _ (Bk.new w7 [.int .i64 0, .int .i64 0, .int .i64 0, .int .i64 0, .int .i64 0, .int .i64 0, .slice none 0 0] 34)
              exact KY.out ua uc qa qc w7.heap.size w8 ⟨M0, Q8.out, fun e => (by have := hl8 _ e; omega), hb7, Y8.out⟩
            exact AllReadyH.nil
          exact AllReadyH.nil
        refine AllReadyH.cons (o := { dst := some 11, op := Go.Op.alloc 34, type := 0, pos := "law.go:101", after := #[], guard := none }) rfl (fun K hK => ?_) ?_
        · go_simp
          refine hK.out _ _ (HSB.out _ (by repeat (first | with_reducible exact Below.refl _ _ | with_reducible refine Below.drew ?_ | with_reducible refine bel_al ?_ _))) (fun hHeld2 => ?_)
          clear hK K
          try simp only [Act.put, List.setIfInBounds_toArray, List.set_cons_zero, List.set_cons_succ]
          refine wpAnyH_ready (rs := [1]) (by kernel_rfl) (by simp) ?_
          refine AllReadyH.cons (o := { dst := some 41, op := Go.Op.call { callee := Go.Callee.value (Go.Operand.func 8), args := #[Go.Operand.tmp 40], argTypes := #[26] }, type := 34, pos := "law.go:101", after := #[{ on := 0, ground := Go.Ground.data }], guard := none }) rfl (fun K hK => ?_) ?_
          · go_simp
            go_at_call 8
            with_reducible refine Calls.mono (HOU.out _ (by repeat (first | with_reducible exact Below.refl _ _ | with_reducible refine Below.drew ?_ | with_reducible refine bel_al ?_ _))) ?_
            rintro e w7 ⟨ua, uc, rfl, t7, b7, pb7⟩
            have T7 := hide t7
            have Y7 := hide b7
            have PB7 := hide pb7
            clear t7 b7 pb7
            try dsimp only
            refine hK.out _ _ (HSB.out _ (by repeat (first | with_reducible exact Below.refl _ _ | with_reducible exact Y7.out | with_reducible refine Below.drew ?_ | with_reducible refine bel_al ?_ _))) (fun hHeld2 => ?_)
            clear hK K
            try simp only [Act.put, List.setIfInBounds_toArray, List.set_cons_zero, List.set_cons_succ]
            refine wpAnyH_ready (rs := [6]) (by kernel_rfl) (by simp) ?_
            refine AllReadyH.cons (o := { dst := some 46, op := Go.Op.call { callee := Go.Callee.value (Go.Operand.func 7), args := #[Go.Operand.tmp 41, Go.Operand.tmp 45], argTypes := #[34, 33] }, type := 37, pos := "law.go:101", after := #[{ on := 1, ground := Go.Ground.data }, { on := 5, ground := Go.Ground.data }, { on := 1, ground := Go.Ground.chain }], guard := none }) rfl (fun K hK => ?_) ?_
            · go_simp
              go_at_call 7
              with_reducible refine Calls.mono (HA2.out _ ua uc T7.out (by repeat (first | with_reducible exact Below.refl _ _ | with_reducible exact Y7.out | with_reducible refine Below.drew ?_ | with_reducible refine bel_al ?_ _))) ?_
              rintro e w8 ⟨qa, qc, rfl, o8, l8, b8, pb8⟩
              have Q8 := hide o8
              have L8 := hide l8
              have Y8 := hide b8
              have PB8 := hide pb8
              clear o8 l8 b8 pb8
              try dsimp only
              refine hK.out _ _ (HSB.out _ (by repeat (first | with_reducible exact Below.refl _ _ | with_reducible exact Y8.out | with_reducible refine Below.drew ?_ | with_reducible refine bel_al ?_ _))) (fun hHeld2 => ?_)
              clear hK K
              try simp only [Act.put, List.setIfInBounds_toArray, List.set_cons_zero, List.set_cons_succ]
              refine wpAnyH_take (i := 7) (oi := { dst := some 39, op := Go.Op.move (Go.Operand.tmp 46), type := 37, pos := "law.go:101", after := #[{ on := 6, ground := Go.Ground.data }], guard := none }) (v := ?_) rfl (by kernel_rfl) (by kernel_rfl) (by kernel_rfl) (fun _ _ _ h => h) (Or.inl ⟨by rfl, ?_⟩) (by assumption) ?_
              rotate_left
              · intro w hSw
                obtain ⟨q0, q1, q2, q3, q4, q5, q6, q7, q8, q9, q10, q11, q12, q13, q14, q15, q16⟩ := hSw
                go_simp
                try with_reducible rfl
              simp only [Act.put, List.setIfInBounds_toArray, List.set_cons_zero, List.set_cons_succ]
              refine wpAnyH_take (i := 8) (oi := { dst := some 47, op := Go.Op.extract (Go.Operand.tmp 39) 0, type := 34, pos := "law.go:101", after := #[{ on := 7, ground := Go.Ground.data }], guard := none }) (v := ?_) rfl (by kernel_rfl) (by kernel_rfl) (by kernel_rfl) (fun _ _ _ h => h) (Or.inl ⟨by rfl, ?_⟩) (by assumption) ?_
              rotate_left
              · intro w hSw
                obtain ⟨q0, q1, q2, q3, q4, q5, q6, q7, q8, q9, q10, q11, q12, q13, q14, q15, q16⟩ := hSw
                go_simp
                try with_reducible rfl
              simp only [Act.put, List.setIfInBounds_toArray, List.set_cons_zero, List.set_cons_succ]
              refine wpAnyH_take (i := 9) (oi := { dst := some 48, op := Go.Op.extract (Go.Operand.tmp 39) 1, type := 4, pos := "law.go:101", after := #[{ on := 7, ground := Go.Ground.data }, { on := 12, ground := Go.Ground.gcOnly Go.Departure.lateStores }], guard := none }) (v := ?_) rfl (by kernel_rfl) (by kernel_rfl) (by kernel_rfl) (fun _ _ _ h => h) (Or.inl ⟨by rfl, ?_⟩) (by assumption) ?_
              rotate_left
              · intro w hSw
                obtain ⟨q0, q1, q2, q3, q4, q5, q6, q7, q8, q9, q10, q11, q12, q13, q14, q15, q16⟩ := hSw
                go_simp
                try with_reducible rfl
              simp only [Act.put, List.setIfInBounds_toArray, List.set_cons_zero, List.set_cons_succ]
              refine wpAnyH_take (i := 10) (oi := { dst := some 49, op := Go.Op.extract (Go.Operand.tmp 39) 2, type := 36, pos := "law.go:101", after := #[{ on := 7, ground := Go.Ground.data }, { on := 13, ground := Go.Ground.gcOnly Go.Departure.lateStores }], guard := none }) (v := ?_) rfl (by kernel_rfl) (by kernel_rfl) (by kernel_rfl) (fun _ _ _ h => h) (Or.inl ⟨by rfl, ?_⟩) (by assumption) ?_
              rotate_left
              · intro w hSw
                obtain ⟨q0, q1, q2, q3, q4, q5, q6, q7, q8, q9, q10, q11, q12, q13, q14, q15, q16⟩ := hSw
                go_simp
                try with_reducible rfl
              simp only [Act.put, List.setIfInBounds_toArray, List.set_cons_zero, List.set_cons_succ]
              refine wpAnyH_listed (show _ = #[true, true, true, true, true, true, true, true, true, true, true, true, false, false, false] by kernel_rfl) ?_
              have hb8 := Y8.out.size
              have hl8 := L8.out
              have hb7 := Y7.out.size
              have M5 := PB7.out _ _ _ N1.out
              have M0 := PB8.out _ _ _ M5
              have h5 := M5.lt
              exact KY.out ua uc qa qc w6.heap.size w8 ⟨M0, Q8.out, fun e => (by have := hl8 _ e; omega), Nat.le_refl _, Y8.out⟩
            exact AllReadyH.nil
          exact AllReadyH.nil
        exact AllReadyH.nil
      · intro ua uc qa qc g11 wz hF
        simp only [Act.put, List.setIfInBounds_toArray, List.set_cons_zero, List.set_cons_succ]
        obtain ⟨hB8, hQ, hne, hge, hBZ⟩ := hF
        have D12 := hide (below_sets hge [.int .i64 z1, .int .i64 z2, .int .i64 z3, .int .i64 z4, .int .i64 z5, .int .i64 z6, .slice qa zn qc] 0 hBZ)
        have S12 := hide (HSB.out ((((((((wz.setCell ⟨g11, 0, none⟩ (.int .i64 z1)).setCell ⟨g11, 1, none⟩ (.int .i64 z2)).setCell ⟨g11, 2, none⟩ (.int .i64 z3)).setCell ⟨g11, 3, none⟩ (.int .i64 z4)).setCell ⟨g11, 4, none⟩ (.int .i64 z5)).setCell ⟨g11, 5, none⟩ (.int .i64 z6)).setCell ⟨g11, 6, none⟩ (.slice qa zn qc))) D12.out)
        have K8 := hide (hB8.sets [.int .i64 z1, .int .i64 z2, .int .i64 z3, .int .i64 z4, .int .i64 z5, .int .i64 z6, .slice qa zn qc] rfl)
        have KQ := hide (LOwn.fars hne [.int .i64 z1, .int .i64 z2, .int .i64 z3, .int .i64 z4, .int .i64 z5, .int .i64 z6, .slice qa zn qc] 0 hQ)
        have HB8 := hide hB8
        have HG := hide (And.intro hge hne)
        clear hB8 hQ hne hBZ hge
        have g0 := HB8.out.cell 0 rfl
        have g1 := HB8.out.cell 1 rfl
        have g2 := HB8.out.cell 2 rfl
        have g3 := HB8.out.cell 3 rfl
        have g4 := HB8.out.cell 4 rfl
        have g5 := HB8.out.cell 5 rfl
        have g6 := HB8.out.cell 6 rfl
        have f0 := HB8.out.frozen 0
        have f1 := HB8.out.frozen 1
        have f2 := HB8.out.frozen 2
        have f3 := HB8.out.frozen 3
        have f4 := HB8.out.frozen 4
        have f5 := HB8.out.frozen 5
        have f6 := HB8.out.frozen 6
        refine wpAnyH_ready (rs := [12]) (by kernel_rfl) (by simp) ?_
        refine AllReadyH.cons (o := { dst := none, op := Go.Op.store 34 (Go.Operand.tmp 11) (Go.Operand.tmp 47), type := 0, pos := "law.go:101", after := #[{ on := 11, ground := Go.Ground.data }, { on := 8, ground := Go.Ground.data }, { on := 6, ground := Go.Ground.chain }, { on := 0, ground := Go.Ground.phase }, { on := 1, ground := Go.Ground.phase }, { on := 2, ground := Go.Ground.phase }, { on := 3, ground := Go.Ground.phase }, { on := 4, ground := Go.Ground.phase }, { on := 5, ground := Go.Ground.phase }, { on := 6, ground := Go.Ground.phase }, { on := 7, ground := Go.Ground.phase }, { on := 8, ground := Go.Ground.phase }, { on := 9, ground := Go.Ground.textOnly Go.Departure.lateStores }, { on := 10, ground := Go.Ground.textOnly Go.Departure.lateStores }, { on := 11, ground := Go.Ground.phase }], guard := none }) rfl (fun K hK => ?_) AllReadyH.nil
        go_simp
        refine hK.out _ _ S12.out (fun hHeld2 => ?_)
        clear hK K
        refine wpAnyH_take (i := 13) (oi := { dst := some 12, op := Go.Op.assign (Go.Operand.tmp 48), type := 4, pos := "law.go:101", after := #[{ on := 9, ground := Go.Ground.data }, { on := 12, ground := Go.Ground.chain }, { on := 0, ground := Go.Ground.phase }, { on := 1, ground := Go.Ground.phase }, { on := 2, ground := Go.Ground.phase }, { on := 3, ground := Go.Ground.phase }, { on := 4, ground := Go.Ground.phase }, { on := 5, ground := Go.Ground.phase }, { on := 6, ground := Go.Ground.phase }, { on := 7, ground := Go.Ground.phase }, { on := 8, ground := Go.Ground.phase }, { on := 9, ground := Go.Ground.phase }, { on := 10, ground := Go.Ground.textOnly Go.Departure.lateStores }, { on := 11, ground := Go.Ground.phase }, { on := 12, ground := Go.Ground.phase }], guard := none }) (v := ?_) rfl (by kernel_rfl) (by kernel_rfl) (by kernel_rfl) (fun _ _ _ h => h) (Or.inl ⟨by rfl, ?_⟩) (by assumption) ?_
        rotate_left
        · intro w hSw
          obtain ⟨q0, q1, q2, q3, q4, q5, q6, q7, q8, q9, q10, q11, q12, q13, q14, q15, q16⟩ := hSw
          go_simp
          try with_reducible rfl
        simp only [Act.put, List.setIfInBounds_toArray, List.set_cons_zero, List.set_cons_succ]
        refine wpAnyH_take (i := 14) (oi := { dst := some 13, op := Go.Op.assign (Go.Operand.tmp 49), type := 36, pos := "law.go:101", after := #[{ on := 10, ground := Go.Ground.data }, { on := 13, ground := Go.Ground.chain }, { on := 0, ground := Go.Ground.phase }, { on := 1, ground := Go.Ground.phase }, { on := 2, ground := Go.Ground.phase }, { on := 3, ground := Go.Ground.phase }, { on := 4, ground := Go.Ground.phase }, { on := 5, ground := Go.Ground.phase }, { on := 6, ground := Go.Ground.phase }, { on := 7, ground := Go.Ground.phase }, { on := 8, ground := Go.Ground.phase }, { on := 9, ground := Go.Ground.phase }, { on := 10, ground := Go.Ground.phase }, { on := 11, ground := Go.Ground.phase }, { on := 12, ground := Go.Ground.phase }, { on := 13, ground := Go.Ground.phase }], guard := none }) (v := ?_) rfl (by kernel_rfl) (by kernel_rfl) (by kernel_rfl) (fun _ _ _ h => h) (Or.inl ⟨by rfl, ?_⟩) (by assumption) ?_
        rotate_left
        · intro w hSw
          obtain ⟨q0, q1, q2, q3, q4, q5, q6, q7, q8, q9, q10, q11, q12, q13, q14, q15, q16⟩ := hSw
          go_simp
          try with_reducible rfl
        simp only [Act.put, List.setIfInBounds_toArray, List.set_cons_zero, List.set_cons_succ]
        refine wpAnyH_done (by kernel_rfl) ?_ _
        clear hHeld2 f0 g0 f1 g1 f2 g2 f3 g3 f4 g4 f5 g5 f6 g6 S12
        obtain ⟨W13, hW13⟩ : ∃ W13, (((((((wz.setCell ⟨g11, 0, none⟩ (.int .i64 z1)).setCell ⟨g11, 1, none⟩ (.int .i64 z2)).setCell ⟨g11, 2, none⟩ (.int .i64 z3)).setCell ⟨g11, 3, none⟩ (.int .i64 z4)).setCell ⟨g11, 4, none⟩ (.int .i64 z5)).setCell ⟨g11, 5, none⟩ (.int .i64 z6)).setCell ⟨g11, 6, none⟩ (.slice qa zn qc)) = W13 := ⟨_, rfl⟩
        simp only [hW13]
        rw [show World.setCells wz g11 0 [.int .i64 z1, .int .i64 z2, .int .i64 z3, .int .i64 z4, .int .i64 z5, .int .i64 z6, .slice qa zn qc] = W13 from hW13] at D12 K8 KQ
        clear hW13
        go_wp2
        go_meet
        case rel => exact ⟨qa, qc, g11, rfl, rfl, rfl, K8.out, KQ.out, HG.out, D12.out⟩
    case rest =>
    obtain ⟨ra, rc, g11, rfl, rfl, rfl, V1, V2, V3, V4⟩ := hcut
    obtain ⟨w7, hw7⟩ : ∃ z, z = wc := ⟨_, rfl⟩
    subst hw7
    clear N1 HOU HA2 HSB HR2
    have HWG : Hid (wr.heap.size ≤ w6.heap.size) := W4.out.size
    have HG8L : Hid (g8 < w6.heap.size) := W1.out.lt
    replace W1 := hide (W1.out.below V4.out)
    replace W2 := hide (W2.out.below V4.out)
    have HGG : Hid (g8 ≠ g11 ∧ g11 ≠ g8 ∧ wr.heap.size ≤ g8 ∧ wr.heap.size ≤ g11) := by
      have h1 := W3.out.1
      have h2 := V3.out.1
      have h3 := HWG.out
      have h4 := HG8L.out
      exact ⟨by omega, by omega, h1, by omega⟩
    replace W4 := hide (W4.out.trans (V4.out.mono HWG.out))
    replace V2 := hide (V2.out.weaken HWG.out)
    clear V4
    obtain ⟨f0, hf0⟩ : ∃ f, (fr && ((k : Int) == 0)) = f := ⟨_, rfl⟩
    have hfk : (k : Int) = 0 ∨ ((k : Int) == 0) = false := by
      by_cases h : (k : Int) = 0
      · exact .inl h
      · exact .inr (by simpa using h)
    clear hfk hf0
    have HG87 : Hid (g8 < w7.heap.size) := W1.out.lt
    have HG117 : Hid (g11 < w7.heap.size) := V1.out.lt
    obtain ⟨k0, hk00⟩ : ∃ f, ((k : Int) == 0) = f := ⟨_, rfl⟩
    go_upto_region 8 with fail
    go_cut [54] from 50 to 54 (fun v wz => v = .bool (fr && k0) ∧ wz = w7)
    case first =>
      cases fr with
      | true =>
        go_wp2
        go_meet
        case rel => exact ⟨rfl, rfl⟩
      | false =>
        go_wp2
        go_meet
        case rel => exact ⟨rfl, rfl⟩
    case rest =>
    obtain ⟨rfl, rfl⟩ := hcut
    obtain ⟨w7, hw7⟩ : ∃ z, z = wc := ⟨_, rfl⟩
    subst hw7
    have HK0 := hide hk00
    clear hk00
    obtain ⟨fb, hfb⟩ : ∃ f, (fr && k0) = f := ⟨_, rfl⟩
    have HFB : Hid (fb = true → k = 0) := by
      intro h
      rw [← hfb] at h
      have h2 : k0 = true := by cases fr <;> cases k0 <;> simp_all
      have := HK0.out
      rw [h2] at this
      simpa using this
    simp only [hfb]
    clear hfb HK0
    go_upto_if 54 with fail
    go_cut [9, 10, 12, 13, 54] from 55 to 68 (fun v9 v10 v12 v13 v54 wz => ∃ (y1 y2 y3 y4 y5 y6 : Int) (ya yb : Option Addr) (yn yc yd ye : Nat) (YP : List ByteArray) (yf : Bool), v9 = .bool yf ∧ v10 = .int .i64 (ye : Int) ∧ v12 = .bool yf ∧ v13 = erv E ye ∧ Hid (ye ≤ 20 ∧ Few YP ∧ YP.length = yn) ∧ Hid (Bk wz g8 [.int .i64 y1, .int .i64 y2, .int .i64 y3, .int .i64 y4, .int .i64 y5, .int .i64 y6, .slice ya yn yc] 26) ∧ Hid (Bk wz g11 [.int .i64 y1, .int .i64 y2, .int .i64 y3, .int .i64 y4, .int .i64 y5, .int .i64 y6, .slice yb yn yd] 34) ∧ Hid (TxOwn wz wr.heap.size (.slice ya yn yc) YP) ∧ Hid (TxOwn wz wr.heap.size (.slice yb yn yd) YP) ∧ Hid (Below wr.heap.size wr wz))
    case first =>
      cases fb with
      | false =>
        go_wp2
        go_meet
        case rel => exact ⟨z1, z2, z3, z4, z5, z6, qa, ra, zn, qc, rc, ze, ZP, zf, rfl, rfl, rfl, rfl, ⟨HAL.out, HEP.out, HZN.out⟩, W1.out, V1.out, W2.out, V2.out, W4.out⟩
      | true =>
        have HKZ := hide (HFB.out rfl)
        have HBP := hide (few_beg (n := ⟨nk, npt, nb, nr, nm, nst, nix, ntt, nsm, nd⟩) HOK.out.d1)
        have HBL := hide (begE_le ⟨nk, npt, nb, nr, nm, nst, nix, ntt, nsm, nd⟩)
        have HB1 := hide (fun (w' : World) => rbegin_any (w := w') nk npt nb nr nm nst nix ntt nsm nd HOK.out.d1 HOK.out.t1 HOK.out.t2)
        have HB2 := hide (fun (w' : World) (h : Errs w' E) => begin_any nk npt nb nr nm nst nix ntt nsm nd h.er7 HOK.out.d1 HOK.out.t1 HOK.out.t2)
        obtain ⟨YS, hYS⟩ : ∃ x, begS ⟨nk, npt, nb, nr, nm, nst, nix, ntt, nsm, nd⟩ = x := ⟨_, rfl⟩
        obtain ⟨YP, hYP⟩ : ∃ x, begP ⟨nk, npt, nb, nr, nm, nst, nix, ntt, nsm, nd⟩ = x := ⟨_, rfl⟩
        obtain ⟨ye, hye⟩ : ∃ x, begE ⟨nk, npt, nb, nr, nm, nst, nix, ntt, nsm, nd⟩ = x := ⟨_, rfl⟩
        rw [hYS, hYP, hye] at HB1 HB2
        rw [hYP] at HBP
        rw [hye] at HBL
        clear hYS hYP hye
        obtain ⟨y1, y2, y3, y4, y5, y6⟩ := YS
        obtain ⟨yn, hyn⟩ : ∃ x, YP.length = x := ⟨_, rfl⟩
        have HYN := hide hyn
        clear hyn
        have HNC7 : Hid (∀ wz, Below wr.heap.size wr wz → wz.cell? ⟨lb, lo + 0, none⟩ = some (.int .i64 nk) ∧ wz.cell? ⟨lb, lo + 1, none⟩ = some (.int .i64 npt) ∧ wz.cell? ⟨lb, lo + 2, none⟩ = some (.int .i64 nb) ∧ wz.cell? ⟨lb, lo + 3, none⟩ = some (.int .i64 nr) ∧ wz.cell? ⟨lb, lo + 4, none⟩ = some (.int .i64 nm) ∧ wz.cell? ⟨lb, lo + 5, none⟩ = some (.int .i64 nst) ∧ wz.cell? ⟨lb, lo + 6, none⟩ = some (.int .i64 nix) ∧ wz.cell? ⟨lb, lo + 7, none⟩ = some (.int .i64 ntt) ∧ wz.cell? ⟨lb, lo + 8, none⟩ = some (.int .u32 nsm) ∧ wz.cell? ⟨lb, lo + 9, none⟩ = some (.string nd)) := fun wz hb => by
          obtain ⟨n0, n1, n2, n3, n4, n5, n6, n7, n8, n9⟩ := HNC.out
          simp only [HKZ.out, Nat.zero_mul, Nat.add_zero] at n0 n1 n2 n3 n4 n5 n6 n7 n8 n9
          exact ⟨cell_below n0 hb, cell_below n1 hb, cell_below n2 hb, cell_below n3 hb, cell_below n4 hb, cell_below n5 hb, cell_below n6 hb, cell_below n7 hb, cell_below n8 hb, cell_below n9 hb⟩
        obtain ⟨n0, n1, n2, n3, n4, n5, n6, n7, n8, n9⟩ := HNC7.out w7 W4.out
        have hz1 : (0 : Int) < (nn : Int) := by omega
        have hz2 : 0 < nn := by omega
        simp only [Nat.add_zero] at n0
        go_upto_region 9 with fail
        go_wp2_with fail
        refine Calls.mono (HB1.out w7) ?_
        rintro e w8 ⟨v, rfl, o8, b8⟩
        obtain ⟨ya, yc, rfl⟩ := own_len o8 HYN.out
        unfold Sg.cells
        simp only
        have HO8 := hide o8
        have HS8 := hide W4.out.size
        replace W1 := hide (W1.out.below b8)
        replace V1 := hide (V1.out.below b8)
        replace W4 := hide (W4.out.trans (b8.mono W4.out.size))
        clear b8 o8 n0 n1 n2 n3 n4 n5 n6 n7 n8 n9
        have a0 := W1.out.cell 0 rfl
        have a1 := W1.out.cell 1 rfl
        have a2 := W1.out.cell 2 rfl
        have a3 := W1.out.cell 3 rfl
        have a4 := W1.out.cell 4 rfl
        have a5 := W1.out.cell 5 rfl
        have a6 := W1.out.cell 6 rfl
        have b0 := W1.out.frozen 0
        have b1 := W1.out.frozen 1
        have b2 := W1.out.frozen 2
        have b3 := W1.out.frozen 3
        have b4 := W1.out.frozen 4
        have b5 := W1.out.frozen 5
        have b6 := W1.out.frozen 6
        have Q1 := hide (W1.out.sets [.int .i64 y1, .int .i64 y2, .int .i64 y3, .int .i64 y4, .int .i64 y5, .int .i64 y6, .slice ya yn yc] rfl)
        have Q2 := hide (LOwn.fars (HO8.out.off HG87.out) [.int .i64 y1, .int .i64 y2, .int .i64 y3, .int .i64 y4, .int .i64 y5, .int .i64 y6, .slice ya yn yc] 0 HO8.out)
        have Q3 := hide (Bk.others HGG.out.2.1 [.int .i64 y1, .int .i64 y2, .int .i64 y3, .int .i64 y4, .int .i64 y5, .int .i64 y6, .slice ya yn yc] 0 V1.out)
        have Q4 := hide (below_sets HGG.out.2.2.1 [.int .i64 y1, .int .i64 y2, .int .i64 y3, .int .i64 y4, .int .i64 y5, .int .i64 y6, .slice ya yn yc] 0 W4.out)
        go_upto_region 10 with fail
        obtain ⟨w9, hw9⟩ : ∃ z, (((((((w8.setCell ⟨g8, 0, none⟩ (.int .i64 y1)).setCell ⟨g8, 1, none⟩ (.int .i64 y2)).setCell ⟨g8, 2, none⟩ (.int .i64 y3)).setCell ⟨g8, 3, none⟩ (.int .i64 y4)).setCell ⟨g8, 4, none⟩ (.int .i64 y5)).setCell ⟨g8, 5, none⟩ (.int .i64 y6)).setCell ⟨g8, 6, none⟩ (.slice ya yn yc)) = z := ⟨_, rfl⟩
        simp only [hw9]
        rw [show World.setCells w8 g8 0 [.int .i64 y1, .int .i64 y2, .int .i64 y3, .int .i64 y4, .int .i64 y5, .int .i64 y6, .slice ya yn yc] = w9 from hw9] at Q1 Q2 Q3 Q4
        clear hw9 a0 b0 a1 b1 a2 b2 a3 b3 a4 b4 a5 b5 a6 b6 W1 V1 HO8
        obtain ⟨n0, n1, n2, n3, n4, n5, n6, n7, n8, n9⟩ := HNC7.out w9 Q4.out
        simp only [Nat.add_zero] at n0
        go_wp2_with fail
        refine Calls.mono (HB2.out w9 (HEr.out.below Q4.out)) ?_
        rintro e w10 ⟨v, rfl, o10, b10⟩
        obtain ⟨yb, yd, rfl⟩ := own_len o10 HYN.out
        unfold Sg.cells
        simp only
        have HO10 := hide o10
        have HS10 := hide Q4.out.size
        have HG119 : Hid (g11 < w9.heap.size) := Q3.out.lt
        replace Q1 := hide (Q1.out.below b10)
        replace Q2 := hide (Q2.out.below b10)
        replace Q3 := hide (Q3.out.below b10)
        replace Q4 := hide (Q4.out.trans (b10.mono Q4.out.size))
        clear b10 o10 n0 n1 n2 n3 n4 n5 n6 n7 n8 n9
        have a0 := Q3.out.cell 0 rfl
        have a1 := Q3.out.cell 1 rfl
        have a2 := Q3.out.cell 2 rfl
        have a3 := Q3.out.cell 3 rfl
        have a4 := Q3.out.cell 4 rfl
        have a5 := Q3.out.cell 5 rfl
        have a6 := Q3.out.cell 6 rfl
        have b0 := Q3.out.frozen 0
        have b1 := Q3.out.frozen 1
        have b2 := Q3.out.frozen 2
        have b3 := Q3.out.frozen 3
        have b4 := Q3.out.frozen 4
        have b5 := Q3.out.frozen 5
        have b6 := Q3.out.frozen 6
        have hn8 : (Value.slice ya yn yc).ownBlock ≠ some g11 := Q2.out.off HG117.out
        have R1 := hide (Q3.out.sets [.int .i64 y1, .int .i64 y2, .int .i64 y3, .int .i64 y4, .int .i64 y5, .int .i64 y6, .slice yb yn yd] rfl)
        have R2 := hide (LOwn.fars (HO10.out.off HG119.out) [.int .i64 y1, .int .i64 y2, .int .i64 y3, .int .i64 y4, .int .i64 y5, .int .i64 y6, .slice yb yn yd] 0 HO10.out)
        have R3 := hide (Bk.others HGG.out.1 [.int .i64 y1, .int .i64 y2, .int .i64 y3, .int .i64 y4, .int .i64 y5, .int .i64 y6, .slice yb yn yd] 0 Q1.out)
        have R4 := hide (LOwn.fars hn8 [.int .i64 y1, .int .i64 y2, .int .i64 y3, .int .i64 y4, .int .i64 y5, .int .i64 y6, .slice yb yn yd] 0 Q2.out)
        have R5 := hide (below_sets HGG.out.2.2.2 [.int .i64 y1, .int .i64 y2, .int .i64 y3, .int .i64 y4, .int .i64 y5, .int .i64 y6, .slice yb yn yd] 0 Q4.out)
        clear hn8
        go_upto_region 11 with fail
        obtain ⟨w11, hw11⟩ : ∃ z, (((((((w10.setCell ⟨g11, 0, none⟩ (.int .i64 y1)).setCell ⟨g11, 1, none⟩ (.int .i64 y2)).setCell ⟨g11, 2, none⟩ (.int .i64 y3)).setCell ⟨g11, 3, none⟩ (.int .i64 y4)).setCell ⟨g11, 4, none⟩ (.int .i64 y5)).setCell ⟨g11, 5, none⟩ (.int .i64 y6)).setCell ⟨g11, 6, none⟩ (.slice yb yn yd)) = z := ⟨_, rfl⟩
        simp only [hw11]
        rw [show World.setCells w10 g11 0 [.int .i64 y1, .int .i64 y2, .int .i64 y3, .int .i64 y4, .int .i64 y5, .int .i64 y6, .slice yb yn yd] = w11 from hw11] at R1 R2 R3 R4 R5
        clear hw11 a0 b0 a1 b1 a2 b2 a3 b3 a4 b4 a5 b5 a6 b6 Q1 Q2 Q3 Q4 HO10
        go_wp2
        go_meet
        case rel => exact ⟨y1, y2, y3, y4, y5, y6, ya, yb, yn, yc, yd, ye, YP, false, rfl, rfl, rfl, rfl, ⟨HBL.out, HBP.out, HYN.out⟩, R3.out, R1.out, R4.out.weaken HS8.out, R2.out.weaken HS10.out, R5.out⟩
    case rest =>
    obtain ⟨y1, y2, y3, y4, y5, y6, ya, yb, yn, yc, yd, ye, YP, yf, rfl, rfl, rfl, rfl, HYB, A8, A11, AP, AQ, A4⟩ := hcut
    obtain ⟨w8, hw8⟩ : ∃ z, z = wc := ⟨_, rfl⟩
    subst hw8
    obtain ⟨v54, hv54⟩ : ∃ z, z = u54 := ⟨_, rfl⟩
    subst hv54
    clear W1 W2 W3 W4 V1 V2 V3 HEP HAL HZN HNC HFB HG87 HG117 HG8L HWG
    have HTH := hide (fun (w' : World) => theirs_any y1 y2 y3 y4 y5 y6 yb yn yd w')
    have HRB := hide (own_rcs AQ.out)
    have HRA := hide (own_rcs AP.out)
    have HY3 : Hid (yn ≤ 4611686018427387904) := by have h1 := HYB.out.2.1.1; rw [HYB.out.2.2] at h1; unfold Hid; omega
    have HLC := hide (fun (w' : World) (h : Errs w' E) => lcode_any h ye HYB.out.1)
    have HE8 := hide (HEr.out.below A4.out)
    go_upto_region 12 with fail
    go_cut [84] from 69 to 84 (fun v wz => v = .bool false ∧ Hid (Below w8.heap.size w8 wz))
    case first =>
      have hnb := not_bne yf
      have dR : ((ye : Int) != (ye : Int)) = false := by simp
      have X0 := hide ((Below.refl w8.heap.size w8).drew)
      have XX := hide (Below.refl w8.heap.size w8)
      go_region_held3 (fun wz => wz.cell? ⟨g11, 0, none⟩ = some (.int .i64 y1) ∧ wz.cell? ⟨g11, 1, none⟩ = some (.int .i64 y2) ∧ wz.cell? ⟨g11, 2, none⟩ = some (.int .i64 y3) ∧ wz.cell? ⟨g11, 3, none⟩ = some (.int .i64 y4) ∧ wz.cell? ⟨g11, 4, none⟩ = some (.int .i64 y5) ∧ wz.cell? ⟨g11, 5, none⟩ = some (.int .i64 y6) ∧ wz.cell? ⟨g11, 6, none⟩ = some (.slice yb yn yd) ∧ wz.cell? ⟨g8, 0, none⟩ = some (.int .i64 y1) ∧ wz.cell? ⟨g8, 1, none⟩ = some (.int .i64 y2) ∧ wz.cell? ⟨g8, 2, none⟩ = some (.int .i64 y3) ∧ wz.cell? ⟨g8, 3, none⟩ = some (.int .i64 y4) ∧ wz.cell? ⟨g8, 4, none⟩ = some (.int .i64 y5) ∧ wz.cell? ⟨g8, 5, none⟩ = some (.int .i64 y6) ∧ wz.cell? ⟨g8, 6, none⟩ = some (.slice ya yn yc)) (first | exact held14 (A11.out.below X0.out) (A8.out.below X0.out) | exact held14 (A11.out.below X1.out) (A8.out.below X1.out) | exact held14 (A11.out.below X2.out) (A8.out.below X2.out) | exact held14 (A11.out.below X3.out) (A8.out.below X3.out)) (first | (go_at_call 12; refine Calls.mono (HTH.out _) ?_; rintro e v1 ⟨rfl, b⟩; have X1 := hide (chain X0.out b); clear b) | (go_at_call 11; refine Calls.mono (rsameS_any ⟨y1, y2, y3, y4, y5, y6⟩ yb ya yn yd yc YP (HRB.out.below X1.out) (HRA.out.below X1.out) HY3.out) ?_; rintro e v2 ⟨rfl, b⟩; have X2 := hide (chain X1.out b); clear b) | (go_at_call 13; refine Calls.mono (HLC.out _ (HE8.out.below X2.out)) ?_; rintro e v3 ⟨rfl, b⟩; have X3 := hide (chain X2.out b); clear b) | fail)
      go_wp2
      go_meet
      case rel => exact ⟨rfl, X3.out⟩
    case rest =>
    obtain ⟨rfl, HB9⟩ := hcut
    obtain ⟨w9, hw9⟩ : ∃ z, z = wc := ⟨_, rfl⟩
    subst hw9
    replace A8 := hide (A8.out.below HB9.out)
    replace AP := hide (AP.out.below HB9.out)
    replace A4 := hide (A4.out.trans (HB9.out.mono A4.out.size))
    clear A11 AQ HB9 HTH HRB HRA HLC HE8 HY3
    go_upto_region 14 with fail
    obtain ⟨e0, he0⟩ : ∃ b, ((ye : Int) == 0) = b := ⟨_, rfl⟩
    go_upto_if 86 with fail
    have HG3L : Hid (w.heap.size ≤ g3 ∧ g3 < wr.heap.size) := ⟨Nat.le_of_eq HG3.out, HS.out.lt⟩
    have HDZ := hide (HD.out.trans (A4.out.mono HD.out.size))
    have HS9 := hide (HS.out.below A4.out)
    have HT9 := hide (HT.out.below A4.out)
    clear he0
    go_cut [86] from 87 to 87 (fun v wz => ∃ (s1 s2 s3 s4 s5 s6 : Int) (ta : Option Addr) (tn tc : Nat) (T : List ByteArray), Hid (Bk wz g3 [.int .i64 s1, .int .i64 s2, .int .i64 s3, .int .i64 s4, .int .i64 s5, .int .i64 s6, .slice ta tn tc] 26) ∧ Hid (Txs wz ta tn tc T) ∧ Hid (Few T) ∧ Hid (Below w.heap.size w wz))
    case first =>
      cases e0 with
      | false =>
        go_wp2
        go_meet
        case rel => exact ⟨x1, x2, x3, x4, x5, x6, sa, sn, sc, P, HS9.out, HT9.out, HF.out, HDZ.out⟩
      | true =>
        have hne : (Value.slice ya yn yc).ownBlock ≠ some g3 := AP.out.off HG3L.out.2
        have a0 := HS9.out.cell 0 rfl
        have a1 := HS9.out.cell 1 rfl
        have a2 := HS9.out.cell 2 rfl
        have a3 := HS9.out.cell 3 rfl
        have a4 := HS9.out.cell 4 rfl
        have a5 := HS9.out.cell 5 rfl
        have a6 := HS9.out.cell 6 rfl
        have b0 := HS9.out.frozen 0
        have b1 := HS9.out.frozen 1
        have b2 := HS9.out.frozen 2
        have b3 := HS9.out.frozen 3
        have b4 := HS9.out.frozen 4
        have b5 := HS9.out.frozen 5
        have b6 := HS9.out.frozen 6
        have c0 := A8.out.cell 0 rfl
        have c1 := A8.out.cell 1 rfl
        have c2 := A8.out.cell 2 rfl
        have c3 := A8.out.cell 3 rfl
        have c4 := A8.out.cell 4 rfl
        have c5 := A8.out.cell 5 rfl
        have c6 := A8.out.cell 6 rfl
        have R1 := hide (HS9.out.sets [.int .i64 y1, .int .i64 y2, .int .i64 y3, .int .i64 y4, .int .i64 y5, .int .i64 y6, .slice ya yn yc] rfl)
        have R2 := hide (own_rcs (LOwn.fars hne [.int .i64 y1, .int .i64 y2, .int .i64 y3, .int .i64 y4, .int .i64 y5, .int .i64 y6, .slice ya yn yc] 0 AP.out))
        have R3 := hide (below_sets HG3L.out.1 [.int .i64 y1, .int .i64 y2, .int .i64 y3, .int .i64 y4, .int .i64 y5, .int .i64 y6, .slice ya yn yc] 0 HDZ.out)
        clear hne
        go_wp2
        go_meet
        case rel => exact ⟨y1, y2, y3, y4, y5, y6, ya, yn, yc, YP, R1.out, R2.out, HYB.out.2.1, R3.out⟩
    case rest =>
    obtain ⟨s1, s2, s3, s4, s5, s6, ta, tn, tc, T, B3, BT, BF, BD⟩ := hcut
    obtain ⟨w10, hw10⟩ : ∃ z, z = wc := ⟨_, rfl⟩
    subst hw10
    obtain ⟨v86, hv86⟩ : ∃ z, z = u86 := ⟨_, rfl⟩
    subst hv86
    clear A8 AP A4 HYB HG3L HDZ HS9 HT9 HS HT HF HD HEr HPS
    have HTS := BT.out.size
    have HRM := hide (fun (w' : World) (h : Txs w' ta tn tc T) => rmissL_any ⟨s1, s2, s3, s4, s5, s6⟩ ta tn tc T h)
    have HRW := hide (fun (w' : World) (h : Txs w' ta tn tc T) => rwholeS_any ⟨s1, s2, s3, s4, s5, s6⟩ ta tn tc T h)
    have HRG := hide (fun (w' : World) (h : Txs w' ta tn tc T) => rgoodS_any ⟨s1, s2, s3, s4, s5, s6⟩ ta tn tc T h)
    have HOU := hide (fun (w' : World) (h : Txs w' ta tn tc T) => ours_any s1 s2 s3 s4 s5 s6 ta tn tc T h (by have := BF.out.1; rw [HTS] at this; omega))
    have HPM := hide (fun (w' : World) (ua : Option Addr) (uc : Nat) (he : Er7x w' E) (h : Txs w' ua tn uc T) => miss_any s1 s2 s3 s4 s5 s6 ua tn uc T he h BF.out.2)
    have HPG := hide (fun (w' : World) (ua : Option Addr) (uc : Nat) (h : Txs w' ua tn uc T) => good_any ⟨s1, s2, s3, s4, s5, s6⟩ ua tn uc T h BF.out.2)
    have HPW := hide (fun (w' : World) (ua : Option Addr) (uc : Nat) (he : Er7x w' E) (h : Txs w' ua tn uc T) => whole_any s1 s2 s3 s4 s5 s6 ua tn uc T he h BF.out.2)
    have HM32 := hide (misL_le ⟨s1, s2, s3, s4, s5, s6⟩ T)
    have HW20 := hide (whE_le ⟨s1, s2, s3, s4, s5, s6⟩ T)
    obtain ⟨WE, hWE⟩ : ∃ x, whE ⟨s1, s2, s3, s4, s5, s6⟩ T = x := ⟨_, rfl⟩
    obtain ⟨WF, hWF⟩ : ∃ x, whF ⟨s1, s2, s3, s4, s5, s6⟩ T = x := ⟨_, rfl⟩
    obtain ⟨WB, hWB⟩ : ∃ x, whB ⟨s1, s2, s3, s4, s5, s6⟩ T = x := ⟨_, rfl⟩
    obtain ⟨WG, hWG⟩ : ∃ x, goodB ⟨s1, s2, s3, s4, s5, s6⟩ T = x := ⟨_, rfl⟩
    obtain ⟨ML, hML⟩ : ∃ x, misL ⟨s1, s2, s3, s4, s5, s6⟩ T = x := ⟨_, rfl⟩
    obtain ⟨ml, hml⟩ : ∃ x, ML.length = x := ⟨_, rfl⟩
    rw [hWE, hML] at HRM HPM
    rw [hWE, hWF, hWB] at HRW HPW
    rw [hWG] at HRG HPG
    rw [hML, hml] at HM32
    rw [hWE] at HW20
    have HML := hide hml
    clear hWE hWF hWB hWG hML hml
    have HLC := hide (fun (w' : World) (h : Errs w' E) => lcode_any h WE HW20.out)
    unfold Sg.cells at HRM HRW HRG HPG
    simp only at HRM HRW HRG HPG
    have HE10 := hide (HE.out.below BD.out)
    have a0 := B3.out.cell 0 rfl
    have a1 := B3.out.cell 1 rfl
    have a2 := B3.out.cell 2 rfl
    have a3 := B3.out.cell 3 rfl
    have a4 := B3.out.cell 4 rfl
    have a5 := B3.out.cell 5 rfl
    have a6 := B3.out.cell 6 rfl
    go_upto_region 16 with fail
    go_wp2_with fail
    refine Calls.mono (HRM.out w10 BT.out) ?_
    rintro e w11 ⟨v, rfl, o11, b11⟩
    obtain ⟨la, lc, rfl⟩ := own_len o11 HML.out
    have HL := hide o11
    replace B3 := hide (B3.out.below b11)
    replace BT := hide (BT.out.below b11)
    replace HE10 := hide (HE10.out.below b11)
    replace BD := hide (chain BD.out b11)
    clear b11 o11 HRM a0 a1 a2 a3 a4 a5 a6
    have a0 := B3.out.cell 0 rfl
    have a1 := B3.out.cell 1 rfl
    have a2 := B3.out.cell 2 rfl
    have a3 := B3.out.cell 3 rfl
    have a4 := B3.out.cell 4 rfl
    have a5 := B3.out.cell 5 rfl
    have a6 := B3.out.cell 6 rfl
    go_upto_region 17 with fail
    go_wp2_with fail
    refine Calls.mono (HOU.out w11 BT.out) ?_
    rintro e w12 ⟨ua, uc, rfl, o12, b12⟩
    have HU := hide (own_rcs o12)
    replace B3 := hide (B3.out.below b12)
    replace BT := hide (BT.out.below b12)
    replace HE10 := hide (HE10.out.below b12)
    replace HL := hide (HL.out.below b12)
    replace BD := hide (chain BD.out b12)
    clear b12 o12 a0 a1 a2 a3 a4 a5 a6
    go_wp2_with fail
    refine Calls.mono (HPM.out w12 ua uc (er7x_e HE10.out) HU.out) ?_
    rintro e w13 ⟨v, rfl, o13, b13⟩
    obtain ⟨ma, mc, rfl⟩ := own_len o13 HML.out
    have HM := hide o13
    replace B3 := hide (B3.out.below b13)
    replace BT := hide (BT.out.below b13)
    replace HE10 := hide (HE10.out.below b13)
    replace HL := hide (HL.out.below b13)
    replace BD := hide (chain BD.out b13)
    clear b13 o13 HPM HU
    go_upto_region 18 with fail
    go_cut [117] from 99 to 117 (fun v wz => v = .bool false ∧ Hid (Below w13.heap.size w13 wz))
    case first =>
      have hnb := not_bne WG
      have dR : ((WE : Int) != (WE : Int)) = false := by simp
      have dM : ((ml : Int) != (ml : Int)) = false := by simp
      have X0 := hide ((Below.refl w13.heap.size w13).drew)
      go_region_held3 (fun wz => wz.cell? ⟨g3, 0, none⟩ = some (.int .i64 s1) ∧ wz.cell? ⟨g3, 1, none⟩ = some (.int .i64 s2) ∧ wz.cell? ⟨g3, 2, none⟩ = some (.int .i64 s3) ∧ wz.cell? ⟨g3, 3, none⟩ = some (.int .i64 s4) ∧ wz.cell? ⟨g3, 4, none⟩ = some (.int .i64 s5) ∧ wz.cell? ⟨g3, 5, none⟩ = some (.int .i64 s6) ∧ wz.cell? ⟨g3, 6, none⟩ = some (.slice ta tn tc)) (first | exact held7 (B3.out.below X0.out) | exact held7 (B3.out.below X1.out) | exact held7 (B3.out.below X2.out) | exact held7 (B3.out.below X3.out) | exact held7 (B3.out.below X4.out)) (first | (go_at_call 13; refine Calls.mono (HLC.out _ (HE10.out.below X0.out)) ?_; rintro e v1 ⟨rfl, b⟩; have X1 := hide (chain X0.out b); clear b) | (go_at_call 8; refine Calls.mono (HOU.out _ (BT.out.below X1.out)) ?_; rintro e v2 ⟨ub, ud, rfl, o, b⟩; have HU := hide (own_rcs o); have X2 := hide (chain X1.out b); clear b o) | (go_at_call 16; refine Calls.mono (HPG.out _ ub ud HU.out) ?_; rintro e v3 ⟨rfl, b⟩; have X3 := hide (chain X2.out b); clear b) | (go_at_call 17; refine Calls.mono (HRG.out _ (BT.out.below X3.out)) ?_; rintro e v4 ⟨rfl, b⟩; have X4 := hide (chain X3.out b); clear b) | fail)
      go_wp2
      go_meet
      case rel => exact ⟨rfl, X4.out⟩
    case rest =>
    obtain ⟨rfl, HB14⟩ := hcut
    obtain ⟨w14, hw14⟩ : ∃ z, z = wc := ⟨_, rfl⟩
    subst hw14
    replace B3 := hide (B3.out.below HB14.out)
    replace BT := hide (BT.out.below HB14.out)
    replace HE10 := hide (HE10.out.below HB14.out)
    replace HL := hide (HL.out.below HB14.out)
    replace HM := hide (HM.out.below HB14.out)
    replace BD := hide (chain BD.out HB14.out)
    clear HB14 HRG HPG
    have HLR := hide (own_rcs HL.out)
    have HMR := hide (own_rcs HM.out)
    clear HL HM
    go_upto_region 21 with fail
    go_loopw [16] (fun s wr => ∃ jj : Nat, jj ≤ ml ∧ s = .int .i64 (jj : Int) ∧ Hid (Below w14.heap.size w14 wr)) (fun s _ => ml - (intOf s).toNat)
    case atStart => exact ⟨0, Nat.zero_le _, rfl, Below.refl _ _⟩
    case round =>
      obtain ⟨jj, hjj, rfl, HRR⟩ := hrel
      by_cases hlt2 : jj < ml
      · --
        have hml := HML.out
        obtain ⟨x, hx⟩ : ∃ x, ML[jj]? = some x := ⟨_, List.getElem?_eq_getElem (by omega)⟩
        obtain ⟨b1, o1, rfl, hc1⟩ := (HLR.out.below HRR.out).at iv1 (by decide) hx
        obtain ⟨b2, o2, rfl, hc2⟩ := (HMR.out.below HRR.out).at iv1 (by decide) hx
        have n0 := hc1 0 _ rfl
        have n1 := hc2 0 _ rfl
        rw [Nat.mul_one, Nat.add_zero] at n0 n1
        have hk1 : (jj : Int) < (ml : Int) := by omega
        have hk2 : jj < 32 := by have := HM32.out; omega
        have dx : (x != x) = false := by simp
        clear hc1 hc2 hx hml
        go_wp2_with fail
        go_region
        go_wp2
        exact ⟨⟨jj + 1, by omega, by simp, HRR.out.drew⟩, by simp [intOf]; omega⟩
      · obtain rfl : ml = jj := by omega
        have hnm : ¬ (ml : Int) < (ml : Int) := by omega
        have hB := HRR.out
        have F3 := hide (B3.out.below hB)
        have FT := hide (BT.out.below hB)
        have FE := hide (HE10.out.below hB)
        have FD := hide (chain BD.out hB)
        clear hB HRR B3 BT HE10 BD HLR HMR
        obtain ⟨w15, hw15⟩ : ∃ z, z = wr := ⟨_, rfl⟩
        rw [← hw15] at F3 FT FE FD ⊢
        clear hw15
        have a0 := F3.out.cell 0 rfl
        have a1 := F3.out.cell 1 rfl
        have a2 := F3.out.cell 2 rfl
        have a3 := F3.out.cell 3 rfl
        have a4 := F3.out.cell 4 rfl
        have a5 := F3.out.cell 5 rfl
        have a6 := F3.out.cell 6 rfl
        go_upto_region 25 with fail
        go_wp2_with fail
        refine Calls.mono (HRW.out w15 FT.out) ?_
        rintro e w16 ⟨rfl, b16⟩
        replace F3 := hide (F3.out.below b16)
        replace FT := hide (FT.out.below b16)
        replace FE := hide (FE.out.below b16)
        replace FD := hide (chain FD.out b16)
        clear b16 HRW a0 a1 a2 a3 a4 a5 a6
        have a0 := F3.out.cell 0 rfl
        have a1 := F3.out.cell 1 rfl
        have a2 := F3.out.cell 2 rfl
        have a3 := F3.out.cell 3 rfl
        have a4 := F3.out.cell 4 rfl
        have a5 := F3.out.cell 5 rfl
        have a6 := F3.out.cell 6 rfl
        go_upto_region 26 with fail
        go_wp2_with fail
        refine Calls.mono (HOU.out w16 FT.out) ?_
        rintro e w17 ⟨ub, ud, rfl, o17, b17⟩
        have HU := hide (own_rcs o17)
        replace F3 := hide (F3.out.below b17)
        replace FT := hide (FT.out.below b17)
        replace FE := hide (FE.out.below b17)
        replace FD := hide (chain FD.out b17)
        clear b17 o17 a0 a1 a2 a3 a4 a5 a6
        go_wp2_with fail
        refine Calls.mono (HPW.out w17 ub ud (er7x_e FE.out) HU.out) ?_
        rintro e w18 ⟨wb, bn, bc, rfl, o18, b18⟩
        replace F3 := hide (F3.out.below b18)
        replace FT := hide (FT.out.below b18)
        replace FE := hide (FE.out.below b18)
        replace FD := hide (chain FD.out b18)
        have hcv := bts_string o18
        clear b18 o18 HPW HU HOU
        have hnb := not_bne WF
        go_upto_region 27 with fail
        go_wp2_with fail
        refine Calls.mono (HLC.out w18 FE.out) ?_
        rintro e w19 ⟨rfl, b19⟩
        replace F3 := hide (F3.out.below b19)
        replace FT := hide (FT.out.below b19)
        replace FE := hide (FE.out.below b19)
        replace FD := hide (chain FD.out b19)
        clear b19 hcv
        have dR : ((WE : Int) != (WE : Int)) = false := by simp
        go_wp2
        exact ⟨⟨k + 1, s1, s2, s3, s4, s5, s6, ta, tn, tc, T, by omega, by simp, F3.out, FT.out, BF.out, FD.out⟩, by simp [intOf]; omega⟩
end Go.Proofs.YtdbciciljeainaaGreatDoor.chunkStages
