/-
  The program's Put: a note's bytes.
-/
import Derived.Test.YtdbciciljeainaaGreatDoorCkMath
import Derived.Test.YtdbciciljeainaaGreatDoorCkWr
import Derived.Test.YtdbciciljeainaaGreatDoorXfPieces
import Derived.Test.YtdbciciljeainaaGreatDoorSeal
namespace Go.Proofs.YtdbciciljeainaaGreatDoor
open Go.RowKit FerryCrc
set_option linter.unusedVariables false
set_option linter.unusedSimpArgs false

/-- A writer at work beside a note in a block. -/
structure Pw (w W : World) (g q : Nat) (v : Value) (L : List Nat) (k pt b r m st ix tt sm : Int) (d : ByteArray) : Prop where
  wr : Wr W q v .nilIface L
  nb : Nb W g k pt b r m st ix tt sm d
  bel : Below w.heap.size w W
  gb : g < q
  lo : w.heap.size ≤ g
theorem Pw.next {w W W' : World} {g q : Nat} {v v' : Value} {L L' : List Nat} {k pt b r m st ix tt sm : Int} {d : ByteArray} (h : Pw w W g q v L k pt b r m st ix tt sm d) (h1 : Wr W' q v' .nilIface L') (hf : Frm (WS q v) W W') : Pw w W' g q v' L' k pt b r m st ix tt sm d := by
  have h2 := h.gb
  have h3 := h.lo
  have hn : ¬ WS q v g := fun t => by
    rcases t with t | t
    · omega
    · have := (h.wr.blk g t).1
      omega
  refine ⟨h1, ⟨hf.cell h.nb.c0 hn, hf.cell h.nb.c1 hn, hf.cell h.nb.c2 hn, hf.cell h.nb.c3 hn, hf.cell h.nb.c4 hn, hf.cell h.nb.c5 hn, hf.cell h.nb.c6 hn, hf.cell h.nb.c7 hn, hf.cell h.nb.c8 hn, hf.cell h.nb.c9 hn⟩, ?_, h2, h3⟩
  refine h.bel.trans (hf.below (by have := h.wr.lt; omega) (fun k t => ?_))
  rcases t with t | t
  · omega
  · have := (h.wr.blk k t).1
    omega
theorem Pw.over {w W W' : World} {g q : Nat} {v : Value} {L : List Nat} {k pt b r m st ix tt sm : Int} {d : ByteArray} (h : Pw w W g q v L k pt b r m st ix tt sm d) (hb : Below W.heap.size W W') : Pw w W' g q v L k pt b r m st ix tt sm d :=
  ⟨h.wr.below hb, h.nb.below hb, chain h.bel hb, h.gb, h.lo⟩

set_option maxRecDepth 100000 in
set_option maxHeartbeats 2000000 in
theorem put_any (k pt b r m st ix tt sm : Int) (d : ByteArray) {w : World} {E : Nat → Addr} (he : Er7 w E) (hd : d.size ≤ 9223372036854775807) (h1 : -9223372036854775808 ≤ tt) (h2 : tt ≤ 9223372036854775807) (s0 : 0 ≤ sm) (s1 : sm < 4294967296) :
    Calls Tryz.prog 22 #[.agg #[.int .i64 k, .int .i64 pt, .int .i64 b, .int .i64 r, .int .i64 m, .int .i64 st, .int .i64 ix, .int .i64 tt, .int .u32 sm, .string d]] w fun e w' => e = .returned (.tuple #[.string (putS ⟨k, pt, b, r, m, st, ix, tt, sm, d⟩), erv E (chk ⟨k, pt, b, r, m, st, ix, tt, sm, d⟩)]) ∧ Below w.heap.size w w' := by
  have NB := hide (nb_new w k pt b r m st ix tt sm d)
  have D0 := hide (xnew w (.cells #[.int .i64 k, .int .i64 pt, .int .i64 b, .int .i64 r, .int .i64 m, .int .i64 st, .int .i64 ix, .int .i64 tt, .int .u32 sm, .string d] 33))
  have HE := hide (he.below D0.out)
  have HC := hide (check_any k pt b r m st ix tt sm d HE.out hd h1 h2)
  clear he
  obtain ⟨R, hR⟩ : ∃ R, chk ⟨k, pt, b, r, m, st, ix, tt, sm, d⟩ = R := ⟨_, rfl⟩
  obtain ⟨V, hV⟩ : ∃ V, putS ⟨k, pt, b, r, m, st, ix, tt, sm, d⟩ = V := ⟨_, rfl⟩
  rw [hR] at HC
  rw [hR, hV]
  have HR := hide hR
  have HV : Hid (V = if R = 0 then str (sealOf (body ⟨k, pt, b, r, m, st, ix, tt, sm, d⟩)) else ⟨#[]⟩) := by rw [← hV, ← hR]; rfl
  have hg : Hid (w.heap.size ≤ w.heap.size) := Nat.le_refl _
  have HLT : Hid (w.heap.size < (w.alloc (.cells #[.int .i64 k, .int .i64 pt, .int .i64 b, .int .i64 r, .int .i64 m, .int .i64 st, .int .i64 ix, .int .i64 tt, .int .u32 sm, .string d] 33)).heap.size) := (block_lt_of_cell NB.out.c0)
  clear hR hV
  go_enter Tryz.func22, Tryz.ntmps22
  go_upto_region 1 with fail
  generalize w.alloc (.cells #[.int .i64 k, .int .i64 pt, .int .i64 b, .int .i64 r, .int .i64 m, .int .i64 st, .int .i64 ix, .int .i64 tt, .int .u32 sm, .string d] 33) = W0 at *
  have t0 := NB.out.c0
  have t1 := NB.out.c1
  have t2 := NB.out.c2
  have t3 := NB.out.c3
  have t4 := NB.out.c4
  have t5 := NB.out.c5
  have t6 := NB.out.c6
  have t7 := NB.out.c7
  have t8 := NB.out.c8
  have t9 := NB.out.c9
  go_wp2_with fail
  refine Calls.mono HC.out ?_
  rintro e w1 ⟨rfl, b1⟩
  have NB1 := hide (NB.out.below b1)
  have D1 := hide (chain D0.out b1)
  have HLT1 : Hid (w.heap.size < w1.heap.size) := Nat.lt_of_lt_of_le HLT.out b1.size
  clear b1 NB D0 HC t0 t1 t2 t3 t4 t5 t6 t7 t8 t9 HLT
  by_cases hc : R = 0
  · subst hc
    have hn := chk_num HR.out
    have HVS : Hid (V = str (sealOf (body ⟨k, pt, b, r, m, st, ix, tt, sm, d⟩))) := by rw [HV.out]; rfl
    clear HV
    obtain ⟨kN, hk⟩ : ∃ x : Nat, k = (x : Int) := ⟨k.toNat, by have := hn.k; simp only at this; omega⟩
    obtain ⟨pN, hp⟩ : ∃ x : Nat, pt = (x : Int) := ⟨pt.toNat, by have := hn.p; simp only at this; omega⟩
    obtain ⟨bN, hb⟩ : ∃ x : Nat, b = (x : Int) := ⟨b.toNat, by have := hn.b; simp only at this; omega⟩
    obtain ⟨rN, hr⟩ : ∃ x : Nat, r = (x : Int) := ⟨r.toNat, by have := hn.r; simp only at this; omega⟩
    obtain ⟨mN, hm⟩ : ∃ x : Nat, m = (x : Int) := ⟨m.toNat, by have := hn.m; simp only at this; omega⟩
    obtain ⟨sN, hs⟩ : ∃ x : Nat, st = (x : Int) := ⟨st.toNat, by have := hn.s; simp only at this; omega⟩
    obtain ⟨iN, hi⟩ : ∃ x : Nat, ix = (x : Int) := ⟨ix.toNat, by have := hn.i; simp only at this; omega⟩
    obtain ⟨tN, ht⟩ : ∃ x : Nat, tt = (x : Int) := ⟨tt.toNat, by have := hn.t; simp only at this; omega⟩
    obtain ⟨uN, hu⟩ : ∃ x : Nat, sm = (x : Int) := ⟨sm.toNat, by omega⟩
    subst hk hp hb hr hm hs hi ht hu
    rw [show erv E 0 = .nilIface from rfl]
    have l_k : kN < 256 := by have := hn.k; simp only at this; omega
    have l_p : pN < 256 := by have := hn.p; simp only at this; omega
    have l_b : bN < 4294967296 := by have := hn.b; simp only at this; omega
    have l_r : rN < 4294967296 := by have := hn.r; simp only at this; omega
    have l_m : mN < 4294967296 := by have := hn.m; simp only at this; omega
    have l_s : sN < 256 := by have := hn.s; simp only at this; omega
    have l_i : iN < 256 := by have := hn.i; simp only at this; omega
    have l_t : tN < 256 := by have := hn.t; simp only at this; omega
    have l_u : uN < 4294967296 := by omega
    obtain ⟨z, hz⟩ : ∃ z, d.size = z := ⟨_, rfl⟩
    have l_d : z ≤ 128 := by have := hn.d; simp only at this; omega
    obtain ⟨y, hy⟩ : ∃ y : Nat, 27 + z = y := ⟨_, rfl⟩
    have l_y : y < 65536 := by omega
    have wy : IntKind.i64.wrap (27 + (z : Int)) = (y : Int) := by rw [IntKind.wrap_i64]; omega
    have HBO : Hid (body ⟨(kN : Int), (pN : Int), (bN : Int), (rN : Int), (mN : Int), (sN : Int), (iN : Int), (tN : Int), (uN : Int), d⟩ = be y 2 ++ [kN] ++ [pN] ++ be bN 4 ++ be rN 4 ++ be mN 4 ++ [sN] ++ [iN] ++ [tN] ++ be uN 4 ++ bytesOf d) := by
      unfold Hid body
      simp only [Int.toNat_natCast, hz, hy]
    have HSM := hide (body_small hn)
    have HZ := hide hz
    have HY := hide hy
    have HNW := hide (newWriter_any w1)
    have HK := hide (And.intro l_k (And.intro l_p (And.intro l_b (And.intro l_r (And.intro l_m (And.intro l_s (And.intro l_i (And.intro l_t (And.intro l_u (And.intro l_d l_y))))))))))
    clear l_k l_p l_b l_r l_m l_s l_i l_t l_u l_d l_y hy hn h1 h2 s0 s1 hd HR
    have t9 := NB1.out.c9
    go_wp2_with fail
    refine Calls.mono HNW.out ?_
    rintro e w2 ⟨rfl, q1, b1⟩
    have HP : Hid (Pw w w2 w.heap.size w1.heap.size _ _ (kN : Int) (pN : Int) (bN : Int) (rN : Int) (mN : Int) (sN : Int) (iN : Int) (tN : Int) (uN : Int) d) := ⟨q1, NB1.out.below b1, chain D1.out b1, HLT1.out, Nat.le_refl _⟩
    generalize w1.heap.size = q at *
    clear q1 b1 NB1 D1 HNW t9 HLT1
    have tc := HP.out.nb.c9
    have hz := HZ.out
    go_wp2_with fail
    refine Calls.mono (wu16_any q _ _ y _ HP.out.wr (HK.out.2.2.2.2.2.2.2.2.2.2) (by simp only [List.length_append, be_len, List.length_singleton, List.length_nil]; omega)) ?_
    rintro e w3 ⟨rfl, v3, q1, q2, q3⟩
    replace HP := hide (HP.out.next q1 q2)
    clear q1 q2 q3 tc hz wy
    have tc := HP.out.nb.c0
    go_wp2_with fail
    refine Calls.mono (wu8_any q _ _ kN _ HP.out.wr (HK.out.1) (by simp only [List.length_append, be_len, List.length_singleton, List.length_nil]; omega)) ?_
    rintro e w4 ⟨rfl, v4, q1, q2, q3⟩
    replace HP := hide (HP.out.next q1 q2)
    clear q1 q2 q3 tc
    have tc := HP.out.nb.c1
    go_wp2_with fail
    refine Calls.mono (wu8_any q _ _ pN _ HP.out.wr (HK.out.2.1) (by simp only [List.length_append, be_len, List.length_singleton, List.length_nil]; omega)) ?_
    rintro e w5 ⟨rfl, v5, q1, q2, q3⟩
    replace HP := hide (HP.out.next q1 q2)
    clear q1 q2 q3 tc
    have tc := HP.out.nb.c2
    go_wp2_with fail
    refine Calls.mono (wu32_any q _ _ bN _ HP.out.wr (HK.out.2.2.1) (by simp only [List.length_append, be_len, List.length_singleton, List.length_nil]; omega)) ?_
    rintro e w6 ⟨rfl, v6, q1, q2, q3⟩
    replace HP := hide (HP.out.next q1 q2)
    clear q1 q2 q3 tc
    have tc := HP.out.nb.c3
    go_wp2_with fail
    refine Calls.mono (wu32_any q _ _ rN _ HP.out.wr (HK.out.2.2.2.1) (by simp only [List.length_append, be_len, List.length_singleton, List.length_nil]; omega)) ?_
    rintro e w7 ⟨rfl, v7, q1, q2, q3⟩
    replace HP := hide (HP.out.next q1 q2)
    clear q1 q2 q3 tc
    have tc := HP.out.nb.c4
    go_wp2_with fail
    refine Calls.mono (wu32_any q _ _ mN _ HP.out.wr (HK.out.2.2.2.2.1) (by simp only [List.length_append, be_len, List.length_singleton, List.length_nil]; omega)) ?_
    rintro e w8 ⟨rfl, v8, q1, q2, q3⟩
    replace HP := hide (HP.out.next q1 q2)
    clear q1 q2 q3 tc
    have tc := HP.out.nb.c5
    go_wp2_with fail
    refine Calls.mono (wu8_any q _ _ sN _ HP.out.wr (HK.out.2.2.2.2.2.1) (by simp only [List.length_append, be_len, List.length_singleton, List.length_nil]; omega)) ?_
    rintro e w9 ⟨rfl, v9, q1, q2, q3⟩
    replace HP := hide (HP.out.next q1 q2)
    clear q1 q2 q3 tc
    have tc := HP.out.nb.c6
    go_wp2_with fail
    refine Calls.mono (wu8_any q _ _ iN _ HP.out.wr (HK.out.2.2.2.2.2.2.1) (by simp only [List.length_append, be_len, List.length_singleton, List.length_nil]; omega)) ?_
    rintro e w10 ⟨rfl, v10, q1, q2, q3⟩
    replace HP := hide (HP.out.next q1 q2)
    clear q1 q2 q3 tc
    have tc := HP.out.nb.c7
    go_wp2_with fail
    refine Calls.mono (wu8_any q _ _ tN _ HP.out.wr (HK.out.2.2.2.2.2.2.2.1) (by simp only [List.length_append, be_len, List.length_singleton, List.length_nil]; omega)) ?_
    rintro e w11 ⟨rfl, v11, q1, q2, q3⟩
    replace HP := hide (HP.out.next q1 q2)
    clear q1 q2 q3 tc
    have tc := HP.out.nb.c8
    have wu : IntKind.i64.wrap (uN : Int) = (uN : Int) := by rw [IntKind.wrap_i64]; have := HK.out.2.2.2.2.2.2.2.2.1; omega
    go_wp2_with fail
    refine Calls.mono (wu32_any q _ _ uN _ HP.out.wr (HK.out.2.2.2.2.2.2.2.2.1) (by simp only [List.length_append, be_len, List.length_singleton, List.length_nil]; omega)) ?_
    rintro e w12 ⟨rfl, v12, q1, q2, q3⟩
    replace HP := hide (HP.out.next q1 q2)
    clear q1 q2 q3 tc wu
    obtain ⟨c1, x1, hrun, hx, hb1⟩ := conv_lay w12 d z HZ.out (by have := HK.out.2.2.2.2.2.2.2.2.2.1; omega)
    have tc := HP.out.nb.c9
    have HX := hide hx
    have HP2 := hide (HP.out.over hb1)
    clear hx hb1
    go_wp2_with fail
    refine Calls.mono (raw_any q _ _ _ z c1 _ _ HP2.out.wr HX.out (by simp only [List.length_append, be_len, List.length_singleton, List.length_nil]; have := HK.out.2.2.2.2.2.2.2.2.2.1; omega)) ?_
    rintro e w13 ⟨rfl, v13, q1, q2, q3⟩
    replace HP := hide (HP2.out.next q1 q2)
    clear q1 q2 q3 tc hrun HX HP2
    have HB : Hid (∃ X, X = body ⟨(kN : Int), (pN : Int), (bN : Int), (rN : Int), (mN : Int), (sN : Int), (iN : Int), (tN : Int), (uN : Int), d⟩ ∧ Pw w w13 w.heap.size q v13 X (kN : Int) (pN : Int) (bN : Int) (rN : Int) (mN : Int) (sN : Int) (iN : Int) (tN : Int) (uN : Int) d) := by
      refine ⟨_, rfl, ?_⟩
      have := HP.out
      rw [List.nil_append] at this
      rw [HBO.out]
      exact this
    clear HP HBO
    obtain ⟨X, hX, HP0⟩ := HB.out
    have HP := hide HP0
    have HLX : Hid (X.length = 23 + z) := by unfold Hid; rw [hX, body_len]; simp only [HZ.out]
    have HSX : Hid (∀ c ∈ X, c < 256) := by rw [hX]; exact HSM.out
    have HVX : Hid (V = str (sealOf X)) := by rw [hX]; exact HVS.out
    clear HB hX HSM HVS HP0
    obtain ⟨n, hn⟩ : ∃ n, X.length = n := ⟨_, rfl⟩
    have HDO := hide (done_ok q _ X _ HP.out.wr (by rw [HLX.out]; have := HK.out.2.2.2.2.2.2.2.2.2.1; omega))
    rw [hn] at HDO
    have HN := hide hn
    clear hn
    go_wp2_with fail
    refine Calls.mono HDO.out ?_
    rintro e w14 ⟨rfl, q1, q2⟩
    have HO := hide q1
    have HD2 := hide (chain HP.out.bel q2)
    clear q1 q2 HDO
    have HSB := hide (HO.out.bts (HN.out) (by have := HLX.out; have := HN.out; have := HK.out.2.2.2.2.2.2.2.2.2.1; omega) HSX.out)
    have HSE := hide (seal_any _ n n X _ HSB.out (by have := HLX.out; have := HN.out; have := HK.out.2.2.2.2.2.2.2.2.2.1; omega))
    go_wp2_with fail
    refine Calls.mono HSE.out ?_
    rintro e w15 ⟨g2, rfl, q1, q2⟩
    have hst := bts_string (q1.bts (by rw [sealOf_length, HN.out]) (by have := HLX.out; have := HN.out; have := HK.out.2.2.2.2.2.2.2.2.2.1; omega) (sealOf_small HSX.out))
    have HD3 := hide (chain HD2.out q2)
    clear q1 q2
    go_wp2
    go_ret2
    exact ⟨by rw [HVX.out]; rfl, HD3.out⟩
  · have HVZ : Hid (V = ⟨#[]⟩) := by rw [HV.out]; exact if_neg hc
    have en : erv E R = sent (E R) := by unfold erv; exact if_neg hc
    rw [en]
    unfold sent
    go_wp2
    go_ret2
    exact ⟨by rw [HVZ.out, en]; rfl, D1.out⟩
end Go.Proofs.YtdbciciljeainaaGreatDoor
