/-
  The law's puts: a put into both writers.
  The law's puts: flags, raw bytes, records, Done.
-/
import Derived.Test.YtkkogkdalcigkaaDoorWwRoom
namespace Go.Proofs.YtkkogkdalcigkaaDoor
open Go.RowKit FerryCrc
set_option linter.unusedVariables false
set_option linter.unusedSimpArgs false

/-- A pair of writers: the program's and the document's, with the same bytes and the same error. -/
structure Pw (E : Nat → Addr) (w : World) (b d : Nat) (v u : Value) (k : Nat) (L : List Nat) : Prop where
  wr : Wr w b v (spv E k) L
  dw : DW w d u k (dq k L) L
  bd : b ≠ d
  vd : v.ownBlock ≠ some d
  ub : u.ownBlock ≠ some b
  vu : ∀ j, v.ownBlock = some j → u.ownBlock ≠ some j
  k20 : k ≤ 20
def AS (b : Nat) (v : Value) (d : Nat) (u : Value) : Nat → Prop := fun j => WS b v j ∨ WS d u j
theorem Pw.below {E : Nat → Addr} {w w' : World} {b d : Nat} {v u : Value} {k : Nat} {L : List Nat} (h : Pw E w b d v u k L) (hb : Below w.heap.size w w') : Pw E w' b d v u k L :=
  ⟨h.wr.below hb, h.dw.below hb, h.bd, h.vd, h.ub, h.vu, h.k20⟩
theorem Pw.frm {E : Nat → Addr} {S : Nat → Prop} {w w' : World} {b d : Nat} {v u : Value} {k : Nat} {L : List Nat} (h : Pw E w b d v u k L) (hf : Frm S w w') (hs : ∀ j, AS b v d u j → ¬ S j) : Pw E w' b d v u k L :=
  ⟨h.wr.frm hf (hs b (.inl (.inl rfl))) (fun j e => hs j (.inl (.inr e))), h.dw.frm hf (hs d (.inr (.inl rfl))) (fun j e => hs j (.inr (.inr e))), h.bd, h.vd, h.ub, h.vu, h.k20⟩
theorem Pw.lt {E : Nat → Addr} {w : World} {b d : Nat} {v u : Value} {k : Nat} {L : List Nat} (h : Pw E w b d v u k L) (j : Nat) (hj : AS b v d u j) : j < w.heap.size := by
  rcases hj with (e | e) | (e | e)
  · have := h.wr.lt; omega
  · exact (h.wr.blk j e).2
  · have := h.dw.lt; omega
  · exact (h.dw.blk j e).2
theorem Pw.mid {E : Nat → Addr} {w w1 : World} {b d : Nat} {v u : Value} {k : Nat} {L : List Nat} (h : Pw E w b d v u k L) (f1 : Frm (WS b v) w w1) : DW w1 d u k (dq k L) L :=
  h.dw.frm f1 (by rintro (e | e); exact h.bd e.symm; exact h.vd e) (fun j hj => by rintro (e | e); exact h.ub (by rw [← e]; exact hj); exact h.vu j e hj)
theorem Pw.both {E : Nat → Addr} {w w1 w2 : World} {b d : Nat} {v u v' u' : Value} {k k' : Nat} {L L' : List Nat} (h : Pw E w b d v u k L) (h1 : Wr w1 b v' (spv E k') L') (f1 : Frm (WS b v) w w1) (n1 : NewB w v v') (h2 : DW w2 d u' k' (dq k' L') L') (f2 : Frm (WS d u) w1 w2) (n2 : NewB w1 u u') (hk : k' ≤ 20) :
    Pw E w2 b d v' u' k' L' ∧ Frm (AS b v d u) w w2 ∧ NewB w v v' ∧ NewB w u u' := by
  have hbl := h.wr.lt
  have hdl := h.dw.lt
  have s1 := f1.size
  have vd' : v'.ownBlock ≠ some d := fun e => by
    rcases n1 d e with e | e
    · exact h.vd e
    · omega
  refine ⟨⟨h1.frm f2 (by rintro (e | e); exact h.bd e; exact h.ub e) (fun j hj => ?_), h2, h.bd, vd', fun e => ?_, fun j hj hu => ?_, hk⟩, ?_, n1, fun j hj => ?_⟩
  · rintro (e | e)
    · exact vd' (by rw [← e]; exact hj)
    · rcases n1 j hj with e2 | e2
      · exact h.vu j e2 e
      · have := (h.dw.blk j e).2; omega
  · rcases n2 b e with e | e
    · exact h.ub e
    · omega
  · rcases n2 j hu with e | e
    · rcases n1 j hj with e2 | e2
      · exact h.vu j e2 e
      · have := (h.dw.blk j e).2; omega
    · have := (h1.blk j hj).2; omega
  · exact (f1.mono (T := AS b v d u) (fun j _ t => .inl t)).trans f2 (fun j _ t => .inr t)
  · rcases n2 j hj with e | e
    · exact .inl e
    · exact .inr (by omega)
/-- What a put of the law leaves. -/
def Putd (E : Nat → Addr) (w : World) (b d : Nat) (v u : Value) (m : Nat) (e : Ending) (w' : World) : Prop :=
  e = .returned (.bool true) ∧ ∃ v' u' k' L', Pw E w' b d v' u' k' L' ∧ L'.length ≤ m ∧ Frm (AS b v d u) w w' ∧ NewB w v v' ∧ NewB w u u'
theorem aft_len (k : Nat) (L : List Nat) (p : Nat × List Nat) (m : Nat) (h : p.2.length ≤ m) : (aft k L p).2.length ≤ L.length + m := by
  unfold aft
  split
  · rw [List.length_append]; omega
  · show L.length ≤ _; omega
theorem aft_k (k : Nat) (L : List Nat) (p : Nat × List Nat) (h : k ≤ 20) (h2 : p.1 ≤ 20) : (aft k L p).1 ≤ 20 := by
  unfold aft
  split
  · exact h2
  · exact h
theorem nput_ok (n : Int) (wd : Nat) (h : wd ≤ 4) : (nput n wd).1 ≤ 20 ∧ (nput n wd).2.length ≤ 4 := by
  unfold nput
  split
  · exact ⟨by show 4 ≤ 20; decide, by simp⟩
  · exact ⟨by show 0 ≤ 20; decide, by show (be n.toNat wd).length ≤ 4; rw [be_len]; exact h⟩
theorem tput_ok (l : List Nat) : (tput l).1 ≤ 20 ∧ (tput l).2.length ≤ l.length + 4 := by
  unfold tput
  split
  · exact ⟨by show 5 ≤ 20; decide, by simp⟩
  · exact ⟨by show 0 ≤ 20; decide, by show (be l.length 2 ++ l).length ≤ _; rw [List.length_append, be_len]; omega⟩
theorem rput_ok (t : Int) (l : List Nat) : (rput t l).1 ≤ 20 ∧ (rput t l).2.length ≤ l.length + 4 := by
  unfold rput
  split
  · exact ⟨by show 3 ≤ 20; decide, by simp⟩
  · split
    · exact ⟨by show 5 ≤ 20; decide, by simp⟩
    · exact ⟨by show 0 ≤ 20; decide, by show (encR t.toNat l).length ≤ _; rw [encR_len]; omega⟩

set_option maxRecDepth 100000 in
set_option maxHeartbeats 4000000 in
theorem puts_u8 {E : Nat → Addr} (w0 : World) (b d : Nat) (v u : Value) (k : Nat) (L : List Nat) (sec : Bool) (cur N lo hi : Int) (S : ByteArray) (w : World) (h : Pw E w b d v u k L) (he : Errs w0 E) (hb0 : Below w0.heap.size w0 w) (hb1 : w0.heap.size ≤ b) (hd1 : w0.heap.size ≤ d) (hl : L.length + S.size + 64 ≤ 140737488351232) :
    Calls Tryd.prog 35 #[.pointer (some ⟨b, 0, none⟩), .pointer (some ⟨d, 0, none⟩), .agg #[.int .i64 1, .bool sec, .int .i64 cur, .int .i64 N, .int .i64 lo, .int .i64 hi, .string S]] w fun e w' => Putd E w b d v u (L.length + S.size + 4) e w' := by
  have HEW : Hid (∀ W, Frm (AS b v d u) w W → Errs W E) := fun W hf => he.below (hb0.trans (hf.below hb0.size (fun j e => by
    rcases e with (e | e) | (e | e)
    · omega
    · have := (h.wr.blk j e).1; omega
    · omega
    · have := (h.dw.blk j e).1; omega)))
  have HLT : Hid (∀ j, AS b v d u j → j < w.heap.size) := h.lt
  have HA : Hid (Below w.heap.size w (w.alloc (.cells #[.int .i64 1, .bool sec, .int .i64 cur, .int .i64 N, .int .i64 lo, .int .i64 hi, .string S] 30))) := (Below.refl _ _).alloc (Nat.le_refl _) _
  have HP := hide (h.below HA.out)
  have hbl : b < w.heap.size := h.wr.lt
  have hdl : d < w.heap.size := h.dw.lt
  have hk20 := h.k20
  have HZ : Hid (w.heap.size < (w.alloc (.cells #[.int .i64 1, .bool sec, .int .i64 cur, .int .i64 N, .int .i64 lo, .int .i64 hi, .string S] 30)).heap.size) := by unfold Hid; simp
  have z0 : (w.alloc (.cells #[.int .i64 1, .bool sec, .int .i64 cur, .int .i64 N, .int .i64 lo, .int .i64 hi, .string S] 30)).cell? ⟨w.heap.size, 0, none⟩ = some (.int .i64 1) := (World.cell?_alloc_at _ _ _ _ rfl).trans rfl
  have z3 : (w.alloc (.cells #[.int .i64 1, .bool sec, .int .i64 cur, .int .i64 N, .int .i64 lo, .int .i64 hi, .string S] 30)).cell? ⟨w.heap.size, 3, none⟩ = some (.int .i64 N) := (World.cell?_alloc_at _ _ _ _ rfl).trans rfl
  have z6 : (w.alloc (.cells #[.int .i64 1, .bool sec, .int .i64 cur, .int .i64 N, .int .i64 lo, .int .i64 hi, .string S] 30)).cell? ⟨w.heap.size, 6, none⟩ = some (.string S) := (World.cell?_alloc_at _ _ _ _ rfl).trans rfl
  obtain ⟨n, hn⟩ : ∃ n, S.size = n := ⟨_, rfl⟩
  have hn0 : n ≤ 140737488351232 := by omega
  have e1 : (S.size : Int) = (n : Int) := by omega
  have hsl := bytesOf_len S
  have HSL := hide hsl
  rw [hn] at hl ⊢
  have hk2 := aft_k k L (nput N 1) hk20 (nput_ok N 1 (by decide)).1
  clear h he hb0 hb1 hd1 hsl
  go_enter Tryd.func35, Tryd.ntmps35
  go_wp2_with fail
  generalize (w.alloc (.cells #[.int .i64 1, .bool sec, .int .i64 cur, .int .i64 N, .int .i64 lo, .int .i64 hi, .string S] 30)) = W0 at *
  have H6 := hide z6
  refine wp_onlyN ?_
  refine rp1 _ _ _ _ _ _ _ _ _ hn hn0 _ ?hf z6
  case hf =>
  unfold Hid
  intro g c y10 y11 y12 y13 y14 y15 y16 y17 y18 y19 w1 ho hb hc
  have HO1 := hide ho
  have HB1 := hide hb
  have HG : Hid (W0.heap.size ≤ g ∧ g < w1.heap.size) := World.ownsRow.lt ho g rfl
  have hcc : n ≤ c := by omega
  have hcc2 : (n : Int) ≤ (c : Int) := by omega
  have hn00 : (0 : Int) ≤ (n : Int) := by omega
  have HP1 := hide (HP.out.below hb)
  have y0 := cell_below z0 hb
  have y3 := cell_below z3 hb
  have y6 := cell_below z6 hb
  have HBW := hide (chain HA.out hb)
  have HXR : Hid (Bts w1 (some ⟨g, 0, none⟩) (n + 2) c (bytesOf S ++ [201, 202])) := ho.bts (by rw [List.length_append, HSL.out, hn]; rfl) (by omega) (fun x hx => by
    rcases List.mem_append.1 hx with hx | hx
    · exact bytesOf_lt S x hx
    · simp only [List.mem_cons, List.not_mem_nil, or_false] at hx; rcases hx with rfl | rfl <;> decide)
  have HXS : Hid (Bts w1 (some ⟨g, 0, none⟩) n c (bytesOf S)) := by
    have := HXR.out.take n (by omega)
    rw [List.take_left' (by rw [HSL.out, hn])] at this
    exact this
  clear ho hb hc z0 z3 z6 H6
  go_wp2_with fail
  refine Calls.mono (wU8_all b v E k L N w1 HP1.out.wr (HEW.out w1 (Frm.ofBelow HBW.out)) (by omega)) ?_
  rintro e w2 ⟨rfl, v', q1, q2, q3⟩
  have HWR2 := hide q1
  have HF2 := hide q2
  have HN2 := hide q3
  have HDW2 := hide (HP1.out.mid q2)
  have hbxW : ¬ WS b v w.heap.size := (fun e => by have := HLT.out w.heap.size (.inl e); omega)
  have x0 := q2.cell y0 hbxW
  have x3 := q2.cell y3 hbxW
  have x6 := q2.cell y6 hbxW
  have HO2 := hide (HO1.out.frm q2 (fun j hj e => by have := HLT.out j (.inl e); have h9 : g = j := (by simpa [Value.ownBlock] using hj); have := HG.out; have := HZ.out; omega))
  clear q1 q2 q3 y0 y3 y6 hbxW
  go_wp2_with fail
  refine Calls.mono (dnum_all d u k L N 1 w2 HDW2.out (by decide) (by omega)) ?_
  rintro e w3 ⟨rfl, u', q1, q2, q3⟩
  have HPB := hide (HP1.out.both HWR2.out HF2.out HN2.out q1 q2 q3 hk2)
  have hbxD : ¬ WS d u w.heap.size := (fun e => by have := HLT.out w.heap.size (.inr e); omega)
  have y0 := q2.cell x0 hbxD
  have y6 := q2.cell x6 hbxD
  have HO3 := hide (HO2.out.frm q2 (fun j hj e => by have := HLT.out j (.inr e); have h9 : g = j := (by simpa [Value.ownBlock] using hj); have := HG.out; have := HZ.out; omega))
  clear q1 q2 q3 x0 x3 x6 hbxD
  have HP3 := hide HPB.out.1
  have HF3 := hide ((Frm.ofBelow (S := AS b v d u) HBW.out).trans HPB.out.2.1 (fun j _ t => t))
  have HNV := hide HPB.out.2.2.1
  have HNU := hide HPB.out.2.2.2

  have HLN : Hid ((bytesOf S ++ [201, 202]).length = n + 2) := by unfold Hid; rw [List.length_append, HSL.out, hn]; rfl
  have HXR3 : Hid (Bts w3 (some ⟨g, 0, none⟩) (n + 2) c (bytesOf S ++ [201, 202])) := HO3.out.bts HLN.out (by omega) HXR.out.small
  have s1 := (by
    have := HXR3.out.take n (by omega)
    rw [List.take_left' (by rw [HSL.out, hn])] at this
    have h2 := bts_string this
    rw [str_bytesOf] at h2
    exact h2 : (convert 41 9 (.slice (some ⟨g, 0, none⟩) n c)).run Tryd.prog w3 = .ok (.string S) w3)
  have k1 := HO3.out.cellAt HLN.out n 201 (by rw [List.getElem?_append_right (by rw [HSL.out, hn]; exact Nat.le_refl _), HSL.out, hn, Nat.sub_self]; rfl)
  have k2 := HO3.out.cellAt HLN.out (n + 1) 202 (by rw [List.getElem?_append_right (by rw [HSL.out, hn]; omega), HSL.out, hn, show n + 1 - n = 1 by omega]; rfl)
  have j1 : (n : Int) < (n : Int) + 2 := by omega
  have j2 : (n : Int) + 1 < (n : Int) + 2 := by omega
  have j3 : (0 : Int) ≤ (n : Int) + 1 := by omega
  have j4 : IntKind.i64.wrap ((n : Int) + 1) = (n : Int) + 1 := by rw [IntKind.wrap_i64]; omega
  have j5 : ((n : Int) + 1).toNat = n + 1 := by omega
  have HF3s := hide HF3.out.size
  go_wp2_with fail
  clear s1 k1 k2
  go_loopw [9] (fun i wr => ∃ (j : Nat) (l' : List Nat), j ≤ n + 2 ∧ i = .int .i64 (j : Int) ∧ Hid (l'.length = n + 2) ∧ Hid (Own wr W0.heap.size (.slice (some ⟨g, 0, none⟩) (n + 2) c) l') ∧ Hid (Frm (fun t => t = g) w3 wr)) (fun i _ => n + 2 - (intOf i).toNat)
  case atStart => exact ⟨0, _, by omega, rfl, HLN, HO3, Frm.refl _ _⟩
  case round =>
    obtain ⟨j, l', hj, rfl, HL', HOR, HFR⟩ := hrel
    by_cases hlt : j < n + 2
    · obtain ⟨y, hy⟩ : ∃ y, l'[j]? = some y := ⟨_, List.getElem?_eq_getElem (by rw [HL'.out]; exact hlt)⟩
      have kk := HOR.out.cellAt HL'.out j y hy
      have kf := HOR.out.frozenAt HL'.out j
      have HS := hide (HOR.out.stored HL'.out j 99)
      have hj1 : (j : Int) < (n : Int) + 2 := by omega
      clear hy
      go_wp2
      refine ⟨⟨j + 1, l'.set j 99, by omega, by first | rfl | simp, ?_, HS, HFR.out.trans (frm_setCell wr ⟨g, j, none⟩ _) (fun t _ t => t)⟩, by simp [intOf]; omega⟩
      unfold Hid
      rw [List.length_set, HL'.out]
    · obtain rfl : j = n + 2 := by omega
      have x0 := HFR.out.cell y0 (by show ¬ w.heap.size = g; have := HG.out; have := HZ.out; omega)
      have HAS : Hid (∀ j, AS b v' d u' j → ¬ j = g) := fun j hj e => by
        subst e
        rcases hj with (e | e) | (e | e)
        · have := HG.out; have := HZ.out; omega
        · rcases HNV.out j e with e2 | e2
          · have := HLT.out j (.inl (.inr e2)); have := HG.out; have := HZ.out; omega
          · have := HG.out; omega
        · have := HG.out; have := HZ.out; omega
        · rcases HNU.out j e with e2 | e2
          · have := HLT.out j (.inr (.inr e2)); have := HG.out; have := HZ.out; omega
          · have := HG.out; omega
      have HPE := hide (HP3.out.frm HFR.out HAS.out)
      have HFE := hide (HF3.out.trans HFR.out (fun t ht (e : t = g) => by have := HG.out; have := HZ.out; omega))
      have hv1 : NewB w v v' := fun t ht => by
        rcases HNV.out t ht with e | e
        · exact .inl e
        · exact .inr (Nat.le_trans HBW.out.size e)
      have hu1 : NewB w u u' := fun t ht => by
        rcases HNU.out t ht with e | e
        · exact .inl e
        · exact .inr (Nat.le_trans HBW.out.size e)
      have HV1 := hide hv1
      have HU1 := hide hu1
      clear hv1 hu1
      go_wp2
      go_ret
      exact ⟨rfl, v', u', _, _, HPE.out, (by have := aft_len k L (nput N 1) 4 (nput_ok N 1 (by decide)).2; omega), HFE.out, HV1.out, HU1.out⟩

set_option maxRecDepth 100000 in
set_option maxHeartbeats 4000000 in
theorem puts_u16 {E : Nat → Addr} (w0 : World) (b d : Nat) (v u : Value) (k : Nat) (L : List Nat) (sec : Bool) (cur N lo hi : Int) (S : ByteArray) (w : World) (h : Pw E w b d v u k L) (he : Errs w0 E) (hb0 : Below w0.heap.size w0 w) (hb1 : w0.heap.size ≤ b) (hd1 : w0.heap.size ≤ d) (hl : L.length + S.size + 64 ≤ 140737488351232) :
    Calls Tryd.prog 35 #[.pointer (some ⟨b, 0, none⟩), .pointer (some ⟨d, 0, none⟩), .agg #[.int .i64 2, .bool sec, .int .i64 cur, .int .i64 N, .int .i64 lo, .int .i64 hi, .string S]] w fun e w' => Putd E w b d v u (L.length + S.size + 4) e w' := by
  have HEW : Hid (∀ W, Frm (AS b v d u) w W → Errs W E) := fun W hf => he.below (hb0.trans (hf.below hb0.size (fun j e => by
    rcases e with (e | e) | (e | e)
    · omega
    · have := (h.wr.blk j e).1; omega
    · omega
    · have := (h.dw.blk j e).1; omega)))
  have HLT : Hid (∀ j, AS b v d u j → j < w.heap.size) := h.lt
  have HA : Hid (Below w.heap.size w (w.alloc (.cells #[.int .i64 2, .bool sec, .int .i64 cur, .int .i64 N, .int .i64 lo, .int .i64 hi, .string S] 30))) := (Below.refl _ _).alloc (Nat.le_refl _) _
  have HP := hide (h.below HA.out)
  have hbl : b < w.heap.size := h.wr.lt
  have hdl : d < w.heap.size := h.dw.lt
  have hk20 := h.k20
  have HZ : Hid (w.heap.size < (w.alloc (.cells #[.int .i64 2, .bool sec, .int .i64 cur, .int .i64 N, .int .i64 lo, .int .i64 hi, .string S] 30)).heap.size) := by unfold Hid; simp
  have z0 : (w.alloc (.cells #[.int .i64 2, .bool sec, .int .i64 cur, .int .i64 N, .int .i64 lo, .int .i64 hi, .string S] 30)).cell? ⟨w.heap.size, 0, none⟩ = some (.int .i64 2) := (World.cell?_alloc_at _ _ _ _ rfl).trans rfl
  have z3 : (w.alloc (.cells #[.int .i64 2, .bool sec, .int .i64 cur, .int .i64 N, .int .i64 lo, .int .i64 hi, .string S] 30)).cell? ⟨w.heap.size, 3, none⟩ = some (.int .i64 N) := (World.cell?_alloc_at _ _ _ _ rfl).trans rfl
  have z6 : (w.alloc (.cells #[.int .i64 2, .bool sec, .int .i64 cur, .int .i64 N, .int .i64 lo, .int .i64 hi, .string S] 30)).cell? ⟨w.heap.size, 6, none⟩ = some (.string S) := (World.cell?_alloc_at _ _ _ _ rfl).trans rfl
  obtain ⟨n, hn⟩ : ∃ n, S.size = n := ⟨_, rfl⟩
  have hn0 : n ≤ 140737488351232 := by omega
  have e1 : (S.size : Int) = (n : Int) := by omega
  have hsl := bytesOf_len S
  have HSL := hide hsl
  rw [hn] at hl ⊢
  have hk2 := aft_k k L (nput N 2) hk20 (nput_ok N 2 (by decide)).1
  clear h he hb0 hb1 hd1 hsl
  go_enter Tryd.func35, Tryd.ntmps35
  go_wp2_with fail
  generalize (w.alloc (.cells #[.int .i64 2, .bool sec, .int .i64 cur, .int .i64 N, .int .i64 lo, .int .i64 hi, .string S] 30)) = W0 at *
  have H6 := hide z6
  refine wp_onlyN ?_
  refine rp1 _ _ _ _ _ _ _ _ _ hn hn0 _ ?hf z6
  case hf =>
  unfold Hid
  intro g c y10 y11 y12 y13 y14 y15 y16 y17 y18 y19 w1 ho hb hc
  have HO1 := hide ho
  have HB1 := hide hb
  have HG : Hid (W0.heap.size ≤ g ∧ g < w1.heap.size) := World.ownsRow.lt ho g rfl
  have hcc : n ≤ c := by omega
  have hcc2 : (n : Int) ≤ (c : Int) := by omega
  have hn00 : (0 : Int) ≤ (n : Int) := by omega
  have HP1 := hide (HP.out.below hb)
  have y0 := cell_below z0 hb
  have y3 := cell_below z3 hb
  have y6 := cell_below z6 hb
  have HBW := hide (chain HA.out hb)
  have HXR : Hid (Bts w1 (some ⟨g, 0, none⟩) (n + 2) c (bytesOf S ++ [201, 202])) := ho.bts (by rw [List.length_append, HSL.out, hn]; rfl) (by omega) (fun x hx => by
    rcases List.mem_append.1 hx with hx | hx
    · exact bytesOf_lt S x hx
    · simp only [List.mem_cons, List.not_mem_nil, or_false] at hx; rcases hx with rfl | rfl <;> decide)
  have HXS : Hid (Bts w1 (some ⟨g, 0, none⟩) n c (bytesOf S)) := by
    have := HXR.out.take n (by omega)
    rw [List.take_left' (by rw [HSL.out, hn])] at this
    exact this
  clear ho hb hc z0 z3 z6 H6
  go_wp2_with fail
  refine Calls.mono (wU16_all b v E k L N w1 HP1.out.wr (HEW.out w1 (Frm.ofBelow HBW.out)) (by omega)) ?_
  rintro e w2 ⟨rfl, v', q1, q2, q3⟩
  have HWR2 := hide q1
  have HF2 := hide q2
  have HN2 := hide q3
  have HDW2 := hide (HP1.out.mid q2)
  have hbxW : ¬ WS b v w.heap.size := (fun e => by have := HLT.out w.heap.size (.inl e); omega)
  have x0 := q2.cell y0 hbxW
  have x3 := q2.cell y3 hbxW
  have x6 := q2.cell y6 hbxW
  have HO2 := hide (HO1.out.frm q2 (fun j hj e => by have := HLT.out j (.inl e); have h9 : g = j := (by simpa [Value.ownBlock] using hj); have := HG.out; have := HZ.out; omega))
  clear q1 q2 q3 y0 y3 y6 hbxW
  go_wp2_with fail
  refine Calls.mono (dnum_all d u k L N 2 w2 HDW2.out (by decide) (by omega)) ?_
  rintro e w3 ⟨rfl, u', q1, q2, q3⟩
  have HPB := hide (HP1.out.both HWR2.out HF2.out HN2.out q1 q2 q3 hk2)
  have hbxD : ¬ WS d u w.heap.size := (fun e => by have := HLT.out w.heap.size (.inr e); omega)
  have y0 := q2.cell x0 hbxD
  have y6 := q2.cell x6 hbxD
  have HO3 := hide (HO2.out.frm q2 (fun j hj e => by have := HLT.out j (.inr e); have h9 : g = j := (by simpa [Value.ownBlock] using hj); have := HG.out; have := HZ.out; omega))
  clear q1 q2 q3 x0 x3 x6 hbxD
  have HP3 := hide HPB.out.1
  have HF3 := hide ((Frm.ofBelow (S := AS b v d u) HBW.out).trans HPB.out.2.1 (fun j _ t => t))
  have HNV := hide HPB.out.2.2.1
  have HNU := hide HPB.out.2.2.2

  have HLN : Hid ((bytesOf S ++ [201, 202]).length = n + 2) := by unfold Hid; rw [List.length_append, HSL.out, hn]; rfl
  have HXR3 : Hid (Bts w3 (some ⟨g, 0, none⟩) (n + 2) c (bytesOf S ++ [201, 202])) := HO3.out.bts HLN.out (by omega) HXR.out.small
  have s1 := (by
    have := HXR3.out.take n (by omega)
    rw [List.take_left' (by rw [HSL.out, hn])] at this
    have h2 := bts_string this
    rw [str_bytesOf] at h2
    exact h2 : (convert 41 9 (.slice (some ⟨g, 0, none⟩) n c)).run Tryd.prog w3 = .ok (.string S) w3)
  have k1 := HO3.out.cellAt HLN.out n 201 (by rw [List.getElem?_append_right (by rw [HSL.out, hn]; exact Nat.le_refl _), HSL.out, hn, Nat.sub_self]; rfl)
  have k2 := HO3.out.cellAt HLN.out (n + 1) 202 (by rw [List.getElem?_append_right (by rw [HSL.out, hn]; omega), HSL.out, hn, show n + 1 - n = 1 by omega]; rfl)
  have j1 : (n : Int) < (n : Int) + 2 := by omega
  have j2 : (n : Int) + 1 < (n : Int) + 2 := by omega
  have j3 : (0 : Int) ≤ (n : Int) + 1 := by omega
  have j4 : IntKind.i64.wrap ((n : Int) + 1) = (n : Int) + 1 := by rw [IntKind.wrap_i64]; omega
  have j5 : ((n : Int) + 1).toNat = n + 1 := by omega
  have HF3s := hide HF3.out.size
  go_wp2_with fail
  clear s1 k1 k2
  go_loopw [9] (fun i wr => ∃ (j : Nat) (l' : List Nat), j ≤ n + 2 ∧ i = .int .i64 (j : Int) ∧ Hid (l'.length = n + 2) ∧ Hid (Own wr W0.heap.size (.slice (some ⟨g, 0, none⟩) (n + 2) c) l') ∧ Hid (Frm (fun t => t = g) w3 wr)) (fun i _ => n + 2 - (intOf i).toNat)
  case atStart => exact ⟨0, _, by omega, rfl, HLN, HO3, Frm.refl _ _⟩
  case round =>
    obtain ⟨j, l', hj, rfl, HL', HOR, HFR⟩ := hrel
    by_cases hlt : j < n + 2
    · obtain ⟨y, hy⟩ : ∃ y, l'[j]? = some y := ⟨_, List.getElem?_eq_getElem (by rw [HL'.out]; exact hlt)⟩
      have kk := HOR.out.cellAt HL'.out j y hy
      have kf := HOR.out.frozenAt HL'.out j
      have HS := hide (HOR.out.stored HL'.out j 99)
      have hj1 : (j : Int) < (n : Int) + 2 := by omega
      clear hy
      go_wp2
      refine ⟨⟨j + 1, l'.set j 99, by omega, by first | rfl | simp, ?_, HS, HFR.out.trans (frm_setCell wr ⟨g, j, none⟩ _) (fun t _ t => t)⟩, by simp [intOf]; omega⟩
      unfold Hid
      rw [List.length_set, HL'.out]
    · obtain rfl : j = n + 2 := by omega
      have x0 := HFR.out.cell y0 (by show ¬ w.heap.size = g; have := HG.out; have := HZ.out; omega)
      have HAS : Hid (∀ j, AS b v' d u' j → ¬ j = g) := fun j hj e => by
        subst e
        rcases hj with (e | e) | (e | e)
        · have := HG.out; have := HZ.out; omega
        · rcases HNV.out j e with e2 | e2
          · have := HLT.out j (.inl (.inr e2)); have := HG.out; have := HZ.out; omega
          · have := HG.out; omega
        · have := HG.out; have := HZ.out; omega
        · rcases HNU.out j e with e2 | e2
          · have := HLT.out j (.inr (.inr e2)); have := HG.out; have := HZ.out; omega
          · have := HG.out; omega
      have HPE := hide (HP3.out.frm HFR.out HAS.out)
      have HFE := hide (HF3.out.trans HFR.out (fun t ht (e : t = g) => by have := HG.out; have := HZ.out; omega))
      have hv1 : NewB w v v' := fun t ht => by
        rcases HNV.out t ht with e | e
        · exact .inl e
        · exact .inr (Nat.le_trans HBW.out.size e)
      have hu1 : NewB w u u' := fun t ht => by
        rcases HNU.out t ht with e | e
        · exact .inl e
        · exact .inr (Nat.le_trans HBW.out.size e)
      have HV1 := hide hv1
      have HU1 := hide hu1
      clear hv1 hu1
      go_wp2
      go_ret
      exact ⟨rfl, v', u', _, _, HPE.out, (by have := aft_len k L (nput N 2) 4 (nput_ok N 2 (by decide)).2; omega), HFE.out, HV1.out, HU1.out⟩

set_option maxRecDepth 100000 in
set_option maxHeartbeats 4000000 in
theorem puts_u32 {E : Nat → Addr} (w0 : World) (b d : Nat) (v u : Value) (k : Nat) (L : List Nat) (sec : Bool) (cur N lo hi : Int) (S : ByteArray) (w : World) (h : Pw E w b d v u k L) (he : Errs w0 E) (hb0 : Below w0.heap.size w0 w) (hb1 : w0.heap.size ≤ b) (hd1 : w0.heap.size ≤ d) (hl : L.length + S.size + 64 ≤ 140737488351232) :
    Calls Tryd.prog 35 #[.pointer (some ⟨b, 0, none⟩), .pointer (some ⟨d, 0, none⟩), .agg #[.int .i64 3, .bool sec, .int .i64 cur, .int .i64 N, .int .i64 lo, .int .i64 hi, .string S]] w fun e w' => Putd E w b d v u (L.length + S.size + 4) e w' := by
  have HEW : Hid (∀ W, Frm (AS b v d u) w W → Errs W E) := fun W hf => he.below (hb0.trans (hf.below hb0.size (fun j e => by
    rcases e with (e | e) | (e | e)
    · omega
    · have := (h.wr.blk j e).1; omega
    · omega
    · have := (h.dw.blk j e).1; omega)))
  have HLT : Hid (∀ j, AS b v d u j → j < w.heap.size) := h.lt
  have HA : Hid (Below w.heap.size w (w.alloc (.cells #[.int .i64 3, .bool sec, .int .i64 cur, .int .i64 N, .int .i64 lo, .int .i64 hi, .string S] 30))) := (Below.refl _ _).alloc (Nat.le_refl _) _
  have HP := hide (h.below HA.out)
  have hbl : b < w.heap.size := h.wr.lt
  have hdl : d < w.heap.size := h.dw.lt
  have hk20 := h.k20
  have HZ : Hid (w.heap.size < (w.alloc (.cells #[.int .i64 3, .bool sec, .int .i64 cur, .int .i64 N, .int .i64 lo, .int .i64 hi, .string S] 30)).heap.size) := by unfold Hid; simp
  have z0 : (w.alloc (.cells #[.int .i64 3, .bool sec, .int .i64 cur, .int .i64 N, .int .i64 lo, .int .i64 hi, .string S] 30)).cell? ⟨w.heap.size, 0, none⟩ = some (.int .i64 3) := (World.cell?_alloc_at _ _ _ _ rfl).trans rfl
  have z3 : (w.alloc (.cells #[.int .i64 3, .bool sec, .int .i64 cur, .int .i64 N, .int .i64 lo, .int .i64 hi, .string S] 30)).cell? ⟨w.heap.size, 3, none⟩ = some (.int .i64 N) := (World.cell?_alloc_at _ _ _ _ rfl).trans rfl
  have z6 : (w.alloc (.cells #[.int .i64 3, .bool sec, .int .i64 cur, .int .i64 N, .int .i64 lo, .int .i64 hi, .string S] 30)).cell? ⟨w.heap.size, 6, none⟩ = some (.string S) := (World.cell?_alloc_at _ _ _ _ rfl).trans rfl
  obtain ⟨n, hn⟩ : ∃ n, S.size = n := ⟨_, rfl⟩
  have hn0 : n ≤ 140737488351232 := by omega
  have e1 : (S.size : Int) = (n : Int) := by omega
  have hsl := bytesOf_len S
  have HSL := hide hsl
  rw [hn] at hl ⊢
  have hk2 := aft_k k L (nput N 4) hk20 (nput_ok N 4 (by decide)).1
  clear h he hb0 hb1 hd1 hsl
  go_enter Tryd.func35, Tryd.ntmps35
  go_wp2_with fail
  generalize (w.alloc (.cells #[.int .i64 3, .bool sec, .int .i64 cur, .int .i64 N, .int .i64 lo, .int .i64 hi, .string S] 30)) = W0 at *
  have H6 := hide z6
  refine wp_onlyN ?_
  refine rp1 _ _ _ _ _ _ _ _ _ hn hn0 _ ?hf z6
  case hf =>
  unfold Hid
  intro g c y10 y11 y12 y13 y14 y15 y16 y17 y18 y19 w1 ho hb hc
  have HO1 := hide ho
  have HB1 := hide hb
  have HG : Hid (W0.heap.size ≤ g ∧ g < w1.heap.size) := World.ownsRow.lt ho g rfl
  have hcc : n ≤ c := by omega
  have hcc2 : (n : Int) ≤ (c : Int) := by omega
  have hn00 : (0 : Int) ≤ (n : Int) := by omega
  have HP1 := hide (HP.out.below hb)
  have y0 := cell_below z0 hb
  have y3 := cell_below z3 hb
  have y6 := cell_below z6 hb
  have HBW := hide (chain HA.out hb)
  have HXR : Hid (Bts w1 (some ⟨g, 0, none⟩) (n + 2) c (bytesOf S ++ [201, 202])) := ho.bts (by rw [List.length_append, HSL.out, hn]; rfl) (by omega) (fun x hx => by
    rcases List.mem_append.1 hx with hx | hx
    · exact bytesOf_lt S x hx
    · simp only [List.mem_cons, List.not_mem_nil, or_false] at hx; rcases hx with rfl | rfl <;> decide)
  have HXS : Hid (Bts w1 (some ⟨g, 0, none⟩) n c (bytesOf S)) := by
    have := HXR.out.take n (by omega)
    rw [List.take_left' (by rw [HSL.out, hn])] at this
    exact this
  clear ho hb hc z0 z3 z6 H6
  go_wp2_with fail
  refine Calls.mono (wU32_all b v E k L N w1 HP1.out.wr (HEW.out w1 (Frm.ofBelow HBW.out)) (by omega)) ?_
  rintro e w2 ⟨rfl, v', q1, q2, q3⟩
  have HWR2 := hide q1
  have HF2 := hide q2
  have HN2 := hide q3
  have HDW2 := hide (HP1.out.mid q2)
  have hbxW : ¬ WS b v w.heap.size := (fun e => by have := HLT.out w.heap.size (.inl e); omega)
  have x0 := q2.cell y0 hbxW
  have x3 := q2.cell y3 hbxW
  have x6 := q2.cell y6 hbxW
  have HO2 := hide (HO1.out.frm q2 (fun j hj e => by have := HLT.out j (.inl e); have h9 : g = j := (by simpa [Value.ownBlock] using hj); have := HG.out; have := HZ.out; omega))
  clear q1 q2 q3 y0 y3 y6 hbxW
  go_wp2_with fail
  refine Calls.mono (dnum_all d u k L N 4 w2 HDW2.out (by decide) (by omega)) ?_
  rintro e w3 ⟨rfl, u', q1, q2, q3⟩
  have HPB := hide (HP1.out.both HWR2.out HF2.out HN2.out q1 q2 q3 hk2)
  have hbxD : ¬ WS d u w.heap.size := (fun e => by have := HLT.out w.heap.size (.inr e); omega)
  have y0 := q2.cell x0 hbxD
  have y6 := q2.cell x6 hbxD
  have HO3 := hide (HO2.out.frm q2 (fun j hj e => by have := HLT.out j (.inr e); have h9 : g = j := (by simpa [Value.ownBlock] using hj); have := HG.out; have := HZ.out; omega))
  clear q1 q2 q3 x0 x3 x6 hbxD
  have HP3 := hide HPB.out.1
  have HF3 := hide ((Frm.ofBelow (S := AS b v d u) HBW.out).trans HPB.out.2.1 (fun j _ t => t))
  have HNV := hide HPB.out.2.2.1
  have HNU := hide HPB.out.2.2.2

  have HLN : Hid ((bytesOf S ++ [201, 202]).length = n + 2) := by unfold Hid; rw [List.length_append, HSL.out, hn]; rfl
  have HXR3 : Hid (Bts w3 (some ⟨g, 0, none⟩) (n + 2) c (bytesOf S ++ [201, 202])) := HO3.out.bts HLN.out (by omega) HXR.out.small
  have s1 := (by
    have := HXR3.out.take n (by omega)
    rw [List.take_left' (by rw [HSL.out, hn])] at this
    have h2 := bts_string this
    rw [str_bytesOf] at h2
    exact h2 : (convert 41 9 (.slice (some ⟨g, 0, none⟩) n c)).run Tryd.prog w3 = .ok (.string S) w3)
  have k1 := HO3.out.cellAt HLN.out n 201 (by rw [List.getElem?_append_right (by rw [HSL.out, hn]; exact Nat.le_refl _), HSL.out, hn, Nat.sub_self]; rfl)
  have k2 := HO3.out.cellAt HLN.out (n + 1) 202 (by rw [List.getElem?_append_right (by rw [HSL.out, hn]; omega), HSL.out, hn, show n + 1 - n = 1 by omega]; rfl)
  have j1 : (n : Int) < (n : Int) + 2 := by omega
  have j2 : (n : Int) + 1 < (n : Int) + 2 := by omega
  have j3 : (0 : Int) ≤ (n : Int) + 1 := by omega
  have j4 : IntKind.i64.wrap ((n : Int) + 1) = (n : Int) + 1 := by rw [IntKind.wrap_i64]; omega
  have j5 : ((n : Int) + 1).toNat = n + 1 := by omega
  have HF3s := hide HF3.out.size
  go_wp2_with fail
  clear s1 k1 k2
  go_loopw [9] (fun i wr => ∃ (j : Nat) (l' : List Nat), j ≤ n + 2 ∧ i = .int .i64 (j : Int) ∧ Hid (l'.length = n + 2) ∧ Hid (Own wr W0.heap.size (.slice (some ⟨g, 0, none⟩) (n + 2) c) l') ∧ Hid (Frm (fun t => t = g) w3 wr)) (fun i _ => n + 2 - (intOf i).toNat)
  case atStart => exact ⟨0, _, by omega, rfl, HLN, HO3, Frm.refl _ _⟩
  case round =>
    obtain ⟨j, l', hj, rfl, HL', HOR, HFR⟩ := hrel
    by_cases hlt : j < n + 2
    · obtain ⟨y, hy⟩ : ∃ y, l'[j]? = some y := ⟨_, List.getElem?_eq_getElem (by rw [HL'.out]; exact hlt)⟩
      have kk := HOR.out.cellAt HL'.out j y hy
      have kf := HOR.out.frozenAt HL'.out j
      have HS := hide (HOR.out.stored HL'.out j 99)
      have hj1 : (j : Int) < (n : Int) + 2 := by omega
      clear hy
      go_wp2
      refine ⟨⟨j + 1, l'.set j 99, by omega, by first | rfl | simp, ?_, HS, HFR.out.trans (frm_setCell wr ⟨g, j, none⟩ _) (fun t _ t => t)⟩, by simp [intOf]; omega⟩
      unfold Hid
      rw [List.length_set, HL'.out]
    · obtain rfl : j = n + 2 := by omega
      have x0 := HFR.out.cell y0 (by show ¬ w.heap.size = g; have := HG.out; have := HZ.out; omega)
      have HAS : Hid (∀ j, AS b v' d u' j → ¬ j = g) := fun j hj e => by
        subst e
        rcases hj with (e | e) | (e | e)
        · have := HG.out; have := HZ.out; omega
        · rcases HNV.out j e with e2 | e2
          · have := HLT.out j (.inl (.inr e2)); have := HG.out; have := HZ.out; omega
          · have := HG.out; omega
        · have := HG.out; have := HZ.out; omega
        · rcases HNU.out j e with e2 | e2
          · have := HLT.out j (.inr (.inr e2)); have := HG.out; have := HZ.out; omega
          · have := HG.out; omega
      have HPE := hide (HP3.out.frm HFR.out HAS.out)
      have HFE := hide (HF3.out.trans HFR.out (fun t ht (e : t = g) => by have := HG.out; have := HZ.out; omega))
      have hv1 : NewB w v v' := fun t ht => by
        rcases HNV.out t ht with e | e
        · exact .inl e
        · exact .inr (Nat.le_trans HBW.out.size e)
      have hu1 : NewB w u u' := fun t ht => by
        rcases HNU.out t ht with e | e
        · exact .inl e
        · exact .inr (Nat.le_trans HBW.out.size e)
      have HV1 := hide hv1
      have HU1 := hide hu1
      clear hv1 hu1
      go_wp2
      go_ret
      exact ⟨rfl, v', u', _, _, HPE.out, (by have := aft_len k L (nput N 4) 4 (nput_ok N 4 (by decide)).2; omega), HFE.out, HV1.out, HU1.out⟩

set_option maxRecDepth 100000 in
set_option maxHeartbeats 4000000 in
theorem puts_text {E : Nat → Addr} (w0 : World) (b d : Nat) (v u : Value) (k : Nat) (L : List Nat) (sec : Bool) (cur N lo hi : Int) (S : ByteArray) (w : World) (h : Pw E w b d v u k L) (he : Errs w0 E) (hb0 : Below w0.heap.size w0 w) (hb1 : w0.heap.size ≤ b) (hd1 : w0.heap.size ≤ d) (hl : L.length + S.size + 64 ≤ 140737488351232) :
    Calls Tryd.prog 35 #[.pointer (some ⟨b, 0, none⟩), .pointer (some ⟨d, 0, none⟩), .agg #[.int .i64 6, .bool sec, .int .i64 cur, .int .i64 N, .int .i64 lo, .int .i64 hi, .string S]] w fun e w' => Putd E w b d v u (L.length + S.size + 4) e w' := by
  have HEW : Hid (∀ W, Frm (AS b v d u) w W → Errs W E) := fun W hf => he.below (hb0.trans (hf.below hb0.size (fun j e => by
    rcases e with (e | e) | (e | e)
    · omega
    · have := (h.wr.blk j e).1; omega
    · omega
    · have := (h.dw.blk j e).1; omega)))
  have HLT : Hid (∀ j, AS b v d u j → j < w.heap.size) := h.lt
  have HA : Hid (Below w.heap.size w (w.alloc (.cells #[.int .i64 6, .bool sec, .int .i64 cur, .int .i64 N, .int .i64 lo, .int .i64 hi, .string S] 30))) := (Below.refl _ _).alloc (Nat.le_refl _) _
  have HP := hide (h.below HA.out)
  have hbl : b < w.heap.size := h.wr.lt
  have hdl : d < w.heap.size := h.dw.lt
  have hk20 := h.k20
  have HZ : Hid (w.heap.size < (w.alloc (.cells #[.int .i64 6, .bool sec, .int .i64 cur, .int .i64 N, .int .i64 lo, .int .i64 hi, .string S] 30)).heap.size) := by unfold Hid; simp
  have z0 : (w.alloc (.cells #[.int .i64 6, .bool sec, .int .i64 cur, .int .i64 N, .int .i64 lo, .int .i64 hi, .string S] 30)).cell? ⟨w.heap.size, 0, none⟩ = some (.int .i64 6) := (World.cell?_alloc_at _ _ _ _ rfl).trans rfl
  have z3 : (w.alloc (.cells #[.int .i64 6, .bool sec, .int .i64 cur, .int .i64 N, .int .i64 lo, .int .i64 hi, .string S] 30)).cell? ⟨w.heap.size, 3, none⟩ = some (.int .i64 N) := (World.cell?_alloc_at _ _ _ _ rfl).trans rfl
  have z6 : (w.alloc (.cells #[.int .i64 6, .bool sec, .int .i64 cur, .int .i64 N, .int .i64 lo, .int .i64 hi, .string S] 30)).cell? ⟨w.heap.size, 6, none⟩ = some (.string S) := (World.cell?_alloc_at _ _ _ _ rfl).trans rfl
  obtain ⟨n, hn⟩ : ∃ n, S.size = n := ⟨_, rfl⟩
  have hn0 : n ≤ 140737488351232 := by omega
  have e1 : (S.size : Int) = (n : Int) := by omega
  have hsl := bytesOf_len S
  have HSL := hide hsl
  rw [hn] at hl ⊢
  have hk2 := aft_k k L (tput (bytesOf S)) hk20 (tput_ok (bytesOf S)).1
  clear h he hb0 hb1 hd1 hsl
  go_enter Tryd.func35, Tryd.ntmps35
  go_wp2_with fail
  generalize (w.alloc (.cells #[.int .i64 6, .bool sec, .int .i64 cur, .int .i64 N, .int .i64 lo, .int .i64 hi, .string S] 30)) = W0 at *
  have H6 := hide z6
  refine wp_onlyN ?_
  refine rp1 _ _ _ _ _ _ _ _ _ hn hn0 _ ?hf z6
  case hf =>
  unfold Hid
  intro g c y10 y11 y12 y13 y14 y15 y16 y17 y18 y19 w1 ho hb hc
  have HO1 := hide ho
  have HB1 := hide hb
  have HG : Hid (W0.heap.size ≤ g ∧ g < w1.heap.size) := World.ownsRow.lt ho g rfl
  have hcc : n ≤ c := by omega
  have hcc2 : (n : Int) ≤ (c : Int) := by omega
  have hn00 : (0 : Int) ≤ (n : Int) := by omega
  have HP1 := hide (HP.out.below hb)
  have y0 := cell_below z0 hb
  have y3 := cell_below z3 hb
  have y6 := cell_below z6 hb
  have HBW := hide (chain HA.out hb)
  have HXR : Hid (Bts w1 (some ⟨g, 0, none⟩) (n + 2) c (bytesOf S ++ [201, 202])) := ho.bts (by rw [List.length_append, HSL.out, hn]; rfl) (by omega) (fun x hx => by
    rcases List.mem_append.1 hx with hx | hx
    · exact bytesOf_lt S x hx
    · simp only [List.mem_cons, List.not_mem_nil, or_false] at hx; rcases hx with rfl | rfl <;> decide)
  have HXS : Hid (Bts w1 (some ⟨g, 0, none⟩) n c (bytesOf S)) := by
    have := HXR.out.take n (by omega)
    rw [List.take_left' (by rw [HSL.out, hn])] at this
    exact this
  clear ho hb hc z0 z3 z6 H6
  go_wp2_with fail
  refine Calls.mono (wText_all b v E k L S w1 HP1.out.wr (HEW.out w1 (Frm.ofBelow HBW.out)) (by omega)) ?_
  rintro e w2 ⟨rfl, v', q1, q2, q3⟩
  have HWR2 := hide q1
  have HF2 := hide q2
  have HN2 := hide q3
  have HDW2 := hide (HP1.out.mid q2)
  have hbxW : ¬ WS b v w.heap.size := (fun e => by have := HLT.out w.heap.size (.inl e); omega)
  have x0 := q2.cell y0 hbxW
  have x3 := q2.cell y3 hbxW
  have x6 := q2.cell y6 hbxW
  have HO2 := hide (HO1.out.frm q2 (fun j hj e => by have := HLT.out j (.inl e); have h9 : g = j := (by simpa [Value.ownBlock] using hj); have := HG.out; have := HZ.out; omega))
  clear q1 q2 q3 y0 y3 y6 hbxW
  go_wp2_with fail
  refine Calls.mono (dtext_all d u k L S w2 HDW2.out (by omega)) ?_
  rintro e w3 ⟨rfl, u', q1, q2, q3⟩
  have HPB := hide (HP1.out.both HWR2.out HF2.out HN2.out q1 q2 q3 hk2)
  have hbxD : ¬ WS d u w.heap.size := (fun e => by have := HLT.out w.heap.size (.inr e); omega)
  have y0 := q2.cell x0 hbxD
  have y6 := q2.cell x6 hbxD
  have HO3 := hide (HO2.out.frm q2 (fun j hj e => by have := HLT.out j (.inr e); have h9 : g = j := (by simpa [Value.ownBlock] using hj); have := HG.out; have := HZ.out; omega))
  clear q1 q2 q3 x0 x3 x6 hbxD
  have HP3 := hide HPB.out.1
  have HF3 := hide ((Frm.ofBelow (S := AS b v d u) HBW.out).trans HPB.out.2.1 (fun j _ t => t))
  have HNV := hide HPB.out.2.2.1
  have HNU := hide HPB.out.2.2.2

  have HLN : Hid ((bytesOf S ++ [201, 202]).length = n + 2) := by unfold Hid; rw [List.length_append, HSL.out, hn]; rfl
  have HXR3 : Hid (Bts w3 (some ⟨g, 0, none⟩) (n + 2) c (bytesOf S ++ [201, 202])) := HO3.out.bts HLN.out (by omega) HXR.out.small
  have s1 := (by
    have := HXR3.out.take n (by omega)
    rw [List.take_left' (by rw [HSL.out, hn])] at this
    have h2 := bts_string this
    rw [str_bytesOf] at h2
    exact h2 : (convert 41 9 (.slice (some ⟨g, 0, none⟩) n c)).run Tryd.prog w3 = .ok (.string S) w3)
  have k1 := HO3.out.cellAt HLN.out n 201 (by rw [List.getElem?_append_right (by rw [HSL.out, hn]; exact Nat.le_refl _), HSL.out, hn, Nat.sub_self]; rfl)
  have k2 := HO3.out.cellAt HLN.out (n + 1) 202 (by rw [List.getElem?_append_right (by rw [HSL.out, hn]; omega), HSL.out, hn, show n + 1 - n = 1 by omega]; rfl)
  have j1 : (n : Int) < (n : Int) + 2 := by omega
  have j2 : (n : Int) + 1 < (n : Int) + 2 := by omega
  have j3 : (0 : Int) ≤ (n : Int) + 1 := by omega
  have j4 : IntKind.i64.wrap ((n : Int) + 1) = (n : Int) + 1 := by rw [IntKind.wrap_i64]; omega
  have j5 : ((n : Int) + 1).toNat = n + 1 := by omega
  have HF3s := hide HF3.out.size
  go_wp2_with fail
  clear s1 k1 k2
  go_loopw [9] (fun i wr => ∃ (j : Nat) (l' : List Nat), j ≤ n + 2 ∧ i = .int .i64 (j : Int) ∧ Hid (l'.length = n + 2) ∧ Hid (Own wr W0.heap.size (.slice (some ⟨g, 0, none⟩) (n + 2) c) l') ∧ Hid (Frm (fun t => t = g) w3 wr)) (fun i _ => n + 2 - (intOf i).toNat)
  case atStart => exact ⟨0, _, by omega, rfl, HLN, HO3, Frm.refl _ _⟩
  case round =>
    obtain ⟨j, l', hj, rfl, HL', HOR, HFR⟩ := hrel
    by_cases hlt : j < n + 2
    · obtain ⟨y, hy⟩ : ∃ y, l'[j]? = some y := ⟨_, List.getElem?_eq_getElem (by rw [HL'.out]; exact hlt)⟩
      have kk := HOR.out.cellAt HL'.out j y hy
      have kf := HOR.out.frozenAt HL'.out j
      have HS := hide (HOR.out.stored HL'.out j 99)
      have hj1 : (j : Int) < (n : Int) + 2 := by omega
      clear hy
      go_wp2
      refine ⟨⟨j + 1, l'.set j 99, by omega, by first | rfl | simp, ?_, HS, HFR.out.trans (frm_setCell wr ⟨g, j, none⟩ _) (fun t _ t => t)⟩, by simp [intOf]; omega⟩
      unfold Hid
      rw [List.length_set, HL'.out]
    · obtain rfl : j = n + 2 := by omega
      have x0 := HFR.out.cell y0 (by show ¬ w.heap.size = g; have := HG.out; have := HZ.out; omega)
      have HAS : Hid (∀ j, AS b v' d u' j → ¬ j = g) := fun j hj e => by
        subst e
        rcases hj with (e | e) | (e | e)
        · have := HG.out; have := HZ.out; omega
        · rcases HNV.out j e with e2 | e2
          · have := HLT.out j (.inl (.inr e2)); have := HG.out; have := HZ.out; omega
          · have := HG.out; omega
        · have := HG.out; have := HZ.out; omega
        · rcases HNU.out j e with e2 | e2
          · have := HLT.out j (.inr (.inr e2)); have := HG.out; have := HZ.out; omega
          · have := HG.out; omega
      have HPE := hide (HP3.out.frm HFR.out HAS.out)
      have HFE := hide (HF3.out.trans HFR.out (fun t ht (e : t = g) => by have := HG.out; have := HZ.out; omega))
      have hv1 : NewB w v v' := fun t ht => by
        rcases HNV.out t ht with e | e
        · exact .inl e
        · exact .inr (Nat.le_trans HBW.out.size e)
      have hu1 : NewB w u u' := fun t ht => by
        rcases HNU.out t ht with e | e
        · exact .inl e
        · exact .inr (Nat.le_trans HBW.out.size e)
      have HV1 := hide hv1
      have HU1 := hide hu1
      clear hv1 hu1
      go_wp2
      go_ret
      exact ⟨rfl, v', u', _, _, HPE.out, (by have := aft_len k L (tput (bytesOf S)) _ (tput_ok (bytesOf S)).2; have := HSL.out; omega), HFE.out, HV1.out, HU1.out⟩
end Go.Proofs.YtkkogkdalcigkaaDoor
namespace Go.Proofs.YtkkogkdalcigkaaDoor
open Go.RowKit FerryCrc
set_option linter.unusedVariables false
set_option linter.unusedSimpArgs false

theorem bit_one (N : Int) : bits .and .i64 N 1 = 0 ∨ bits .and .i64 N 1 = 1 := by
  have key : (BitVec.ofInt 64 N &&& BitVec.ofInt 64 1).toNat = (BitVec.ofInt 64 N).toNat % 2 := by
    rw [BitVec.toNat_and]
    show (BitVec.ofInt 64 N).toNat &&& 1 = _
    exact Nat.and_one_is_mod _
  have h2 : bits .and .i64 N 1 = IntKind.i64.wrap ((BitVec.ofInt 64 N &&& BitVec.ofInt 64 1).toNat : Nat) := rfl
  rw [h2, key, IntKind.wrap_i64]
  omega

set_option maxRecDepth 100000 in
set_option maxHeartbeats 4000000 in
theorem puts_raw {E : Nat → Addr} (w0 : World) (b d : Nat) (v u : Value) (k : Nat) (L : List Nat) (sec : Bool) (cur N lo hi : Int) (S : ByteArray) (w : World) (h : Pw E w b d v u k L) (he : Errs w0 E) (hb0 : Below w0.heap.size w0 w) (hb1 : w0.heap.size ≤ b) (hd1 : w0.heap.size ≤ d) (hl : L.length + S.size + 64 ≤ 140737488351232) :
    Calls Tryd.prog 35 #[.pointer (some ⟨b, 0, none⟩), .pointer (some ⟨d, 0, none⟩), .agg #[.int .i64 5, .bool sec, .int .i64 cur, .int .i64 N, .int .i64 lo, .int .i64 hi, .string S]] w fun e w' => Putd E w b d v u (L.length + S.size + 4) e w' := by
  have HEW : Hid (∀ W, Frm (AS b v d u) w W → Errs W E) := fun W hf => he.below (hb0.trans (hf.below hb0.size (fun j e => by
    rcases e with (e | e) | (e | e)
    · omega
    · have := (h.wr.blk j e).1; omega
    · omega
    · have := (h.dw.blk j e).1; omega)))
  have HLT : Hid (∀ j, AS b v d u j → j < w.heap.size) := h.lt
  have HA : Hid (Below w.heap.size w (w.alloc (.cells #[.int .i64 5, .bool sec, .int .i64 cur, .int .i64 N, .int .i64 lo, .int .i64 hi, .string S] 30))) := (Below.refl _ _).alloc (Nat.le_refl _) _
  have HP := hide (h.below HA.out)
  have hbl : b < w.heap.size := h.wr.lt
  have hdl : d < w.heap.size := h.dw.lt
  have hk20 := h.k20
  have HZ : Hid (w.heap.size < (w.alloc (.cells #[.int .i64 5, .bool sec, .int .i64 cur, .int .i64 N, .int .i64 lo, .int .i64 hi, .string S] 30)).heap.size) := by unfold Hid; simp
  have z0 : (w.alloc (.cells #[.int .i64 5, .bool sec, .int .i64 cur, .int .i64 N, .int .i64 lo, .int .i64 hi, .string S] 30)).cell? ⟨w.heap.size, 0, none⟩ = some (.int .i64 5) := (World.cell?_alloc_at _ _ _ _ rfl).trans rfl
  have z3 : (w.alloc (.cells #[.int .i64 5, .bool sec, .int .i64 cur, .int .i64 N, .int .i64 lo, .int .i64 hi, .string S] 30)).cell? ⟨w.heap.size, 3, none⟩ = some (.int .i64 N) := (World.cell?_alloc_at _ _ _ _ rfl).trans rfl
  have z6 : (w.alloc (.cells #[.int .i64 5, .bool sec, .int .i64 cur, .int .i64 N, .int .i64 lo, .int .i64 hi, .string S] 30)).cell? ⟨w.heap.size, 6, none⟩ = some (.string S) := (World.cell?_alloc_at _ _ _ _ rfl).trans rfl
  obtain ⟨n, hn⟩ : ∃ n, S.size = n := ⟨_, rfl⟩
  have hn0 : n ≤ 140737488351232 := by omega
  have e1 : (S.size : Int) = (n : Int) := by omega
  have hsl := bytesOf_len S
  have HSL := hide hsl
  rw [hn] at hl ⊢
  have hcv := fun wx => run_bytes_of_string (P := Tryd.prog) wx 9 41 5 S Tryd.underlying9 Tryd.underlying41 Tryd.underlying5
  rw [hn] at hcv
  have hk2 := aft_k k L (0, bytesOf S) hk20 (by show 0 ≤ 20; omega)
  clear h he hb0 hb1 hd1 hsl
  go_enter Tryd.func35, Tryd.ntmps35
  go_wp2_with fail
  generalize (w.alloc (.cells #[.int .i64 5, .bool sec, .int .i64 cur, .int .i64 N, .int .i64 lo, .int .i64 hi, .string S] 30)) = W0 at *
  have H6 := hide z6
  refine wp_onlyN ?_
  refine rp1 _ _ _ _ _ _ _ _ _ hn hn0 _ ?hf z6
  case hf =>
  unfold Hid
  intro g c y10 y11 y12 y13 y14 y15 y16 y17 y18 y19 w1 ho hb hc
  have HO1 := hide ho
  have HB1 := hide hb
  have HG : Hid (W0.heap.size ≤ g ∧ g < w1.heap.size) := World.ownsRow.lt ho g rfl
  have hcc : n ≤ c := by omega
  have hcc2 : (n : Int) ≤ (c : Int) := by omega
  have hn00 : (0 : Int) ≤ (n : Int) := by omega
  have HP1 := hide (HP.out.below hb)
  have y0 := cell_below z0 hb
  have y3 := cell_below z3 hb
  have y6 := cell_below z6 hb
  have HBW := hide (chain HA.out hb)
  have HXR : Hid (Bts w1 (some ⟨g, 0, none⟩) (n + 2) c (bytesOf S ++ [201, 202])) := ho.bts (by rw [List.length_append, HSL.out, hn]; rfl) (by omega) (fun x hx => by
    rcases List.mem_append.1 hx with hx | hx
    · exact bytesOf_lt S x hx
    · simp only [List.mem_cons, List.not_mem_nil, or_false] at hx; rcases hx with rfl | rfl <;> decide)
  have HXS : Hid (Bts w1 (some ⟨g, 0, none⟩) n c (bytesOf S)) := by
    have := HXR.out.take n (by omega)
    rw [List.take_left' (by rw [HSL.out, hn])] at this
    exact this
  clear ho hb hc z0 z3 z6 H6
  go_wp2_with fail
  refine Calls.mono (wRaw_all b v E k L (some ⟨g, 0, none⟩) n c (bytesOf S) w1 HP1.out.wr HXS.out (by omega)) ?_
  rintro e w2 ⟨rfl, v', q1, q2, q3⟩
  have HWR2 := hide q1
  have HF2 := hide q2
  have HN2 := hide q3
  have HDW2 := hide (HP1.out.mid q2)
  have hbxW : ¬ WS b v w.heap.size := (fun e => by have := HLT.out w.heap.size (.inl e); omega)
  have x0 := q2.cell y0 hbxW
  have x3 := q2.cell y3 hbxW
  have x6 := q2.cell y6 hbxW
  have HO2 := hide (HO1.out.frm q2 (fun j hj e => by have := HLT.out j (.inl e); have h9 : g = j := (by simpa [Value.ownBlock] using hj); have := HG.out; have := HZ.out; omega))
  clear q1 q2 q3 y0 y3 y6 hbxW
  go_wp2_with fail
  have HCB := hide (conv_below w2 S n)
  have HCX := hide (conv_shown w2 S n hn hn0)
  refine Calls.mono (draw_all d u k L _ _ _ (bytesOf S) (conv w2 S n) (HDW2.out.below HCB.out) HCX.out (by omega)) ?_
  rintro e w3 ⟨rfl, u', q1, q2, q3⟩
  have HPB := hide (HP1.out.both HWR2.out HF2.out HN2.out q1 ((Frm.ofBelow (S := WS d u) HCB.out).trans q2 (fun j _ t => t)) (fun j hj => by rcases q3 j hj with e | e; exact Or.inl e; exact Or.inr (Nat.le_trans HCB.out.size e)) hk2)
  have hbxD : ¬ WS d u w.heap.size := (fun e => by have := HLT.out w.heap.size (.inr e); omega)
  have y0 := q2.cell (cell_below x0 HCB.out) hbxD
  have y6 := q2.cell (cell_below x6 HCB.out) hbxD
  have HO3 := hide ((HO2.out.frm (S := fun _ => False) (Frm.ofBelow HCB.out) (fun _ _ h => h)).frm q2 (fun j hj e => by have := HLT.out j (.inr e); have h9 : g = j := (by simpa [Value.ownBlock] using hj); have := HG.out; have := HZ.out; omega))
  clear q1 q2 q3 x0 x3 x6 hbxD
  have HP3 := hide HPB.out.1
  have HF3 := hide ((Frm.ofBelow (S := AS b v d u) HBW.out).trans HPB.out.2.1 (fun j _ t => t))
  have HNV := hide HPB.out.2.2.1
  have HNU := hide HPB.out.2.2.2

  have HLN : Hid ((bytesOf S ++ [201, 202]).length = n + 2) := by unfold Hid; rw [List.length_append, HSL.out, hn]; rfl
  have HXR3 : Hid (Bts w3 (some ⟨g, 0, none⟩) (n + 2) c (bytesOf S ++ [201, 202])) := HO3.out.bts HLN.out (by omega) HXR.out.small
  have s1 := (by
    have := HXR3.out.take n (by omega)
    rw [List.take_left' (by rw [HSL.out, hn])] at this
    have h2 := bts_string this
    rw [str_bytesOf] at h2
    exact h2 : (convert 41 9 (.slice (some ⟨g, 0, none⟩) n c)).run Tryd.prog w3 = .ok (.string S) w3)
  have k1 := HO3.out.cellAt HLN.out n 201 (by rw [List.getElem?_append_right (by rw [HSL.out, hn]; exact Nat.le_refl _), HSL.out, hn, Nat.sub_self]; rfl)
  have k2 := HO3.out.cellAt HLN.out (n + 1) 202 (by rw [List.getElem?_append_right (by rw [HSL.out, hn]; omega), HSL.out, hn, show n + 1 - n = 1 by omega]; rfl)
  have j1 : (n : Int) < (n : Int) + 2 := by omega
  have j2 : (n : Int) + 1 < (n : Int) + 2 := by omega
  have j3 : (0 : Int) ≤ (n : Int) + 1 := by omega
  have j4 : IntKind.i64.wrap ((n : Int) + 1) = (n : Int) + 1 := by rw [IntKind.wrap_i64]; omega
  have j5 : ((n : Int) + 1).toNat = n + 1 := by omega
  have HF3s := hide HF3.out.size
  go_wp2_with fail
  clear s1 k1 k2
  go_loopw [9] (fun i wr => ∃ (j : Nat) (l' : List Nat), j ≤ n + 2 ∧ i = .int .i64 (j : Int) ∧ Hid (l'.length = n + 2) ∧ Hid (Own wr W0.heap.size (.slice (some ⟨g, 0, none⟩) (n + 2) c) l') ∧ Hid (Frm (fun t => t = g) w3 wr)) (fun i _ => n + 2 - (intOf i).toNat)
  case atStart => exact ⟨0, _, by omega, rfl, HLN, HO3, Frm.refl _ _⟩
  case round =>
    obtain ⟨j, l', hj, rfl, HL', HOR, HFR⟩ := hrel
    by_cases hlt : j < n + 2
    · obtain ⟨y, hy⟩ : ∃ y, l'[j]? = some y := ⟨_, List.getElem?_eq_getElem (by rw [HL'.out]; exact hlt)⟩
      have kk := HOR.out.cellAt HL'.out j y hy
      have kf := HOR.out.frozenAt HL'.out j
      have HS := hide (HOR.out.stored HL'.out j 99)
      have hj1 : (j : Int) < (n : Int) + 2 := by omega
      clear hy
      go_wp2
      refine ⟨⟨j + 1, l'.set j 99, by omega, by first | rfl | simp, ?_, HS, HFR.out.trans (frm_setCell wr ⟨g, j, none⟩ _) (fun t _ t => t)⟩, by simp [intOf]; omega⟩
      unfold Hid
      rw [List.length_set, HL'.out]
    · obtain rfl : j = n + 2 := by omega
      have x0 := HFR.out.cell y0 (by show ¬ w.heap.size = g; have := HG.out; have := HZ.out; omega)
      have HAS : Hid (∀ j, AS b v' d u' j → ¬ j = g) := fun j hj e => by
        subst e
        rcases hj with (e | e) | (e | e)
        · have := HG.out; have := HZ.out; omega
        · rcases HNV.out j e with e2 | e2
          · have := HLT.out j (.inl (.inr e2)); have := HG.out; have := HZ.out; omega
          · have := HG.out; omega
        · have := HG.out; have := HZ.out; omega
        · rcases HNU.out j e with e2 | e2
          · have := HLT.out j (.inr (.inr e2)); have := HG.out; have := HZ.out; omega
          · have := HG.out; omega
      have HPE := hide (HP3.out.frm HFR.out HAS.out)
      have HFE := hide (HF3.out.trans HFR.out (fun t ht (e : t = g) => by have := HG.out; have := HZ.out; omega))
      have hv1 : NewB w v v' := fun t ht => by
        rcases HNV.out t ht with e | e
        · exact .inl e
        · exact .inr (Nat.le_trans HBW.out.size e)
      have hu1 : NewB w u u' := fun t ht => by
        rcases HNU.out t ht with e | e
        · exact .inl e
        · exact .inr (Nat.le_trans HBW.out.size e)
      have HV1 := hide hv1
      have HU1 := hide hu1
      clear hv1 hu1
      go_wp2
      go_ret
      exact ⟨rfl, v', u', _, _, HPE.out, (by have := aft_len k L (0, bytesOf S) _ (Nat.le_refl _); have h7 : ((0, bytesOf S) : Nat × List Nat).2.length = S.size := HSL.out; omega), HFE.out, HV1.out, HU1.out⟩

set_option maxRecDepth 100000 in
set_option maxHeartbeats 4000000 in
theorem puts_record {E : Nat → Addr} (w0 : World) (b d : Nat) (v u : Value) (k : Nat) (L : List Nat) (sec : Bool) (cur N lo hi : Int) (S : ByteArray) (w : World) (h : Pw E w b d v u k L) (he : Errs w0 E) (hb0 : Below w0.heap.size w0 w) (hb1 : w0.heap.size ≤ b) (hd1 : w0.heap.size ≤ d) (hl : L.length + S.size + 64 ≤ 140737488351232) :
    Calls Tryd.prog 35 #[.pointer (some ⟨b, 0, none⟩), .pointer (some ⟨d, 0, none⟩), .agg #[.int .i64 7, .bool sec, .int .i64 cur, .int .i64 N, .int .i64 lo, .int .i64 hi, .string S]] w fun e w' => Putd E w b d v u (L.length + S.size + 4) e w' := by
  have HEW : Hid (∀ W, Frm (AS b v d u) w W → Errs W E) := fun W hf => he.below (hb0.trans (hf.below hb0.size (fun j e => by
    rcases e with (e | e) | (e | e)
    · omega
    · have := (h.wr.blk j e).1; omega
    · omega
    · have := (h.dw.blk j e).1; omega)))
  have HLT : Hid (∀ j, AS b v d u j → j < w.heap.size) := h.lt
  have HA : Hid (Below w.heap.size w (w.alloc (.cells #[.int .i64 7, .bool sec, .int .i64 cur, .int .i64 N, .int .i64 lo, .int .i64 hi, .string S] 30))) := (Below.refl _ _).alloc (Nat.le_refl _) _
  have HP := hide (h.below HA.out)
  have hbl : b < w.heap.size := h.wr.lt
  have hdl : d < w.heap.size := h.dw.lt
  have hk20 := h.k20
  have HZ : Hid (w.heap.size < (w.alloc (.cells #[.int .i64 7, .bool sec, .int .i64 cur, .int .i64 N, .int .i64 lo, .int .i64 hi, .string S] 30)).heap.size) := by unfold Hid; simp
  have z0 : (w.alloc (.cells #[.int .i64 7, .bool sec, .int .i64 cur, .int .i64 N, .int .i64 lo, .int .i64 hi, .string S] 30)).cell? ⟨w.heap.size, 0, none⟩ = some (.int .i64 7) := (World.cell?_alloc_at _ _ _ _ rfl).trans rfl
  have z3 : (w.alloc (.cells #[.int .i64 7, .bool sec, .int .i64 cur, .int .i64 N, .int .i64 lo, .int .i64 hi, .string S] 30)).cell? ⟨w.heap.size, 3, none⟩ = some (.int .i64 N) := (World.cell?_alloc_at _ _ _ _ rfl).trans rfl
  have z6 : (w.alloc (.cells #[.int .i64 7, .bool sec, .int .i64 cur, .int .i64 N, .int .i64 lo, .int .i64 hi, .string S] 30)).cell? ⟨w.heap.size, 6, none⟩ = some (.string S) := (World.cell?_alloc_at _ _ _ _ rfl).trans rfl
  obtain ⟨n, hn⟩ : ∃ n, S.size = n := ⟨_, rfl⟩
  have hn0 : n ≤ 140737488351232 := by omega
  have e1 : (S.size : Int) = (n : Int) := by omega
  have hsl := bytesOf_len S
  have HSL := hide hsl
  rw [hn] at hl ⊢
  have hcv := fun wx => run_bytes_of_string (P := Tryd.prog) wx 9 41 5 S Tryd.underlying9 Tryd.underlying41 Tryd.underlying5
  rw [hn] at hcv
  have hk2 := aft_k k L (rput N (bytesOf S)) hk20 (rput_ok N (bytesOf S)).1
  clear h he hb0 hb1 hd1 hsl
  go_enter Tryd.func35, Tryd.ntmps35
  go_wp2_with fail
  generalize (w.alloc (.cells #[.int .i64 7, .bool sec, .int .i64 cur, .int .i64 N, .int .i64 lo, .int .i64 hi, .string S] 30)) = W0 at *
  have H6 := hide z6
  refine wp_onlyN ?_
  refine rp1 _ _ _ _ _ _ _ _ _ hn hn0 _ ?hf z6
  case hf =>
  unfold Hid
  intro g c y10 y11 y12 y13 y14 y15 y16 y17 y18 y19 w1 ho hb hc
  have HO1 := hide ho
  have HB1 := hide hb
  have HG : Hid (W0.heap.size ≤ g ∧ g < w1.heap.size) := World.ownsRow.lt ho g rfl
  have hcc : n ≤ c := by omega
  have hcc2 : (n : Int) ≤ (c : Int) := by omega
  have hn00 : (0 : Int) ≤ (n : Int) := by omega
  have HP1 := hide (HP.out.below hb)
  have y0 := cell_below z0 hb
  have y3 := cell_below z3 hb
  have y6 := cell_below z6 hb
  have HBW := hide (chain HA.out hb)
  have HXR : Hid (Bts w1 (some ⟨g, 0, none⟩) (n + 2) c (bytesOf S ++ [201, 202])) := ho.bts (by rw [List.length_append, HSL.out, hn]; rfl) (by omega) (fun x hx => by
    rcases List.mem_append.1 hx with hx | hx
    · exact bytesOf_lt S x hx
    · simp only [List.mem_cons, List.not_mem_nil, or_false] at hx; rcases hx with rfl | rfl <;> decide)
  have HXS : Hid (Bts w1 (some ⟨g, 0, none⟩) n c (bytesOf S)) := by
    have := HXR.out.take n (by omega)
    rw [List.take_left' (by rw [HSL.out, hn])] at this
    exact this
  clear ho hb hc z0 z3 z6 H6
  go_wp2_with fail
  refine Calls.mono (wRecord_all b v E k L N (some ⟨g, 0, none⟩) n c (bytesOf S) w1 HP1.out.wr (HEW.out w1 (Frm.ofBelow HBW.out)) HXS.out (fun _ b2 off e => by simp only [Option.some.injEq, Addr.mk.injEq, and_true] at e; have h7 := HG.out; have h8 := HZ.out; exact ⟨by omega, fun e2 => by have := HLT.out b2 (.inl (.inr e2)); omega⟩) (by omega)) ?_
  rintro e w2 ⟨rfl, v', q1, q2, q3⟩
  have HWR2 := hide q1
  have HF2 := hide q2
  have HN2 := hide q3
  have HDW2 := hide (HP1.out.mid q2)
  have hbxW : ¬ WS b v w.heap.size := (fun e => by have := HLT.out w.heap.size (.inl e); omega)
  have x0 := q2.cell y0 hbxW
  have x3 := q2.cell y3 hbxW
  have x6 := q2.cell y6 hbxW
  have HO2 := hide (HO1.out.frm q2 (fun j hj e => by have := HLT.out j (.inl e); have h9 : g = j := (by simpa [Value.ownBlock] using hj); have := HG.out; have := HZ.out; omega))
  clear q1 q2 q3 y0 y3 y6 hbxW
  go_wp2_with fail
  have HCB := hide (conv_below w2 S n)
  have HCX := hide (conv_shown w2 S n hn hn0)
  refine Calls.mono (drecord_all d u k L N _ _ _ (bytesOf S) (conv w2 S n) (HDW2.out.below HCB.out) HCX.out (by omega)) ?_
  rintro e w3 ⟨rfl, u', q1, q2, q3⟩
  have HPB := hide (HP1.out.both HWR2.out HF2.out HN2.out q1 ((Frm.ofBelow (S := WS d u) HCB.out).trans q2 (fun j _ t => t)) (fun j hj => by rcases q3 j hj with e | e; exact Or.inl e; exact Or.inr (Nat.le_trans HCB.out.size e)) hk2)
  have hbxD : ¬ WS d u w.heap.size := (fun e => by have := HLT.out w.heap.size (.inr e); omega)
  have y0 := q2.cell (cell_below x0 HCB.out) hbxD
  have y6 := q2.cell (cell_below x6 HCB.out) hbxD
  have HO3 := hide ((HO2.out.frm (S := fun _ => False) (Frm.ofBelow HCB.out) (fun _ _ h => h)).frm q2 (fun j hj e => by have := HLT.out j (.inr e); have h9 : g = j := (by simpa [Value.ownBlock] using hj); have := HG.out; have := HZ.out; omega))
  clear q1 q2 q3 x0 x3 x6 hbxD
  have HP3 := hide HPB.out.1
  have HF3 := hide ((Frm.ofBelow (S := AS b v d u) HBW.out).trans HPB.out.2.1 (fun j _ t => t))
  have HNV := hide HPB.out.2.2.1
  have HNU := hide HPB.out.2.2.2

  have HLN : Hid ((bytesOf S ++ [201, 202]).length = n + 2) := by unfold Hid; rw [List.length_append, HSL.out, hn]; rfl
  have HXR3 : Hid (Bts w3 (some ⟨g, 0, none⟩) (n + 2) c (bytesOf S ++ [201, 202])) := HO3.out.bts HLN.out (by omega) HXR.out.small
  have s1 := (by
    have := HXR3.out.take n (by omega)
    rw [List.take_left' (by rw [HSL.out, hn])] at this
    have h2 := bts_string this
    rw [str_bytesOf] at h2
    exact h2 : (convert 41 9 (.slice (some ⟨g, 0, none⟩) n c)).run Tryd.prog w3 = .ok (.string S) w3)
  have k1 := HO3.out.cellAt HLN.out n 201 (by rw [List.getElem?_append_right (by rw [HSL.out, hn]; exact Nat.le_refl _), HSL.out, hn, Nat.sub_self]; rfl)
  have k2 := HO3.out.cellAt HLN.out (n + 1) 202 (by rw [List.getElem?_append_right (by rw [HSL.out, hn]; omega), HSL.out, hn, show n + 1 - n = 1 by omega]; rfl)
  have j1 : (n : Int) < (n : Int) + 2 := by omega
  have j2 : (n : Int) + 1 < (n : Int) + 2 := by omega
  have j3 : (0 : Int) ≤ (n : Int) + 1 := by omega
  have j4 : IntKind.i64.wrap ((n : Int) + 1) = (n : Int) + 1 := by rw [IntKind.wrap_i64]; omega
  have j5 : ((n : Int) + 1).toNat = n + 1 := by omega
  have HF3s := hide HF3.out.size
  go_wp2_with fail
  clear s1 k1 k2
  go_loopw [9] (fun i wr => ∃ (j : Nat) (l' : List Nat), j ≤ n + 2 ∧ i = .int .i64 (j : Int) ∧ Hid (l'.length = n + 2) ∧ Hid (Own wr W0.heap.size (.slice (some ⟨g, 0, none⟩) (n + 2) c) l') ∧ Hid (Frm (fun t => t = g) w3 wr)) (fun i _ => n + 2 - (intOf i).toNat)
  case atStart => exact ⟨0, _, by omega, rfl, HLN, HO3, Frm.refl _ _⟩
  case round =>
    obtain ⟨j, l', hj, rfl, HL', HOR, HFR⟩ := hrel
    by_cases hlt : j < n + 2
    · obtain ⟨y, hy⟩ : ∃ y, l'[j]? = some y := ⟨_, List.getElem?_eq_getElem (by rw [HL'.out]; exact hlt)⟩
      have kk := HOR.out.cellAt HL'.out j y hy
      have kf := HOR.out.frozenAt HL'.out j
      have HS := hide (HOR.out.stored HL'.out j 99)
      have hj1 : (j : Int) < (n : Int) + 2 := by omega
      clear hy
      go_wp2
      refine ⟨⟨j + 1, l'.set j 99, by omega, by first | rfl | simp, ?_, HS, HFR.out.trans (frm_setCell wr ⟨g, j, none⟩ _) (fun t _ t => t)⟩, by simp [intOf]; omega⟩
      unfold Hid
      rw [List.length_set, HL'.out]
    · obtain rfl : j = n + 2 := by omega
      have x0 := HFR.out.cell y0 (by show ¬ w.heap.size = g; have := HG.out; have := HZ.out; omega)
      have HAS : Hid (∀ j, AS b v' d u' j → ¬ j = g) := fun j hj e => by
        subst e
        rcases hj with (e | e) | (e | e)
        · have := HG.out; have := HZ.out; omega
        · rcases HNV.out j e with e2 | e2
          · have := HLT.out j (.inl (.inr e2)); have := HG.out; have := HZ.out; omega
          · have := HG.out; omega
        · have := HG.out; have := HZ.out; omega
        · rcases HNU.out j e with e2 | e2
          · have := HLT.out j (.inr (.inr e2)); have := HG.out; have := HZ.out; omega
          · have := HG.out; omega
      have HPE := hide (HP3.out.frm HFR.out HAS.out)
      have HFE := hide (HF3.out.trans HFR.out (fun t ht (e : t = g) => by have := HG.out; have := HZ.out; omega))
      have hv1 : NewB w v v' := fun t ht => by
        rcases HNV.out t ht with e | e
        · exact .inl e
        · exact .inr (Nat.le_trans HBW.out.size e)
      have hu1 : NewB w u u' := fun t ht => by
        rcases HNU.out t ht with e | e
        · exact .inl e
        · exact .inr (Nat.le_trans HBW.out.size e)
      have HV1 := hide hv1
      have HU1 := hide hu1
      clear hv1 hu1
      go_wp2
      go_ret
      exact ⟨rfl, v', u', _, _, HPE.out, (by have := aft_len k L (rput N (bytesOf S)) _ (rput_ok N (bytesOf S)).2; have := HSL.out; omega), HFE.out, HV1.out, HU1.out⟩

set_option maxRecDepth 100000 in
set_option maxHeartbeats 4000000 in
theorem puts_flag0 {E : Nat → Addr} (w0 : World) (b d : Nat) (v u : Value) (k : Nat) (L : List Nat) (sec : Bool) (cur N lo hi : Int) (S : ByteArray) (w : World) (h : Pw E w b d v u k L) (he : Errs w0 E) (hb0 : Below w0.heap.size w0 w) (hb1 : w0.heap.size ≤ b) (hd1 : w0.heap.size ≤ d) (hl : L.length + S.size + 64 ≤ 140737488351232) (hbit : bits .and .i64 N 1 = 0) :
    Calls Tryd.prog 35 #[.pointer (some ⟨b, 0, none⟩), .pointer (some ⟨d, 0, none⟩), .agg #[.int .i64 4, .bool sec, .int .i64 cur, .int .i64 N, .int .i64 lo, .int .i64 hi, .string S]] w fun e w' => Putd E w b d v u (L.length + S.size + 4) e w' := by
  have HEW : Hid (∀ W, Frm (AS b v d u) w W → Errs W E) := fun W hf => he.below (hb0.trans (hf.below hb0.size (fun j e => by
    rcases e with (e | e) | (e | e)
    · omega
    · have := (h.wr.blk j e).1; omega
    · omega
    · have := (h.dw.blk j e).1; omega)))
  have HLT : Hid (∀ j, AS b v d u j → j < w.heap.size) := h.lt
  have HA : Hid (Below w.heap.size w (w.alloc (.cells #[.int .i64 4, .bool sec, .int .i64 cur, .int .i64 N, .int .i64 lo, .int .i64 hi, .string S] 30))) := (Below.refl _ _).alloc (Nat.le_refl _) _
  have HP := hide (h.below HA.out)
  have hbl : b < w.heap.size := h.wr.lt
  have hdl : d < w.heap.size := h.dw.lt
  have hk20 := h.k20
  have HZ : Hid (w.heap.size < (w.alloc (.cells #[.int .i64 4, .bool sec, .int .i64 cur, .int .i64 N, .int .i64 lo, .int .i64 hi, .string S] 30)).heap.size) := by unfold Hid; simp
  have z0 : (w.alloc (.cells #[.int .i64 4, .bool sec, .int .i64 cur, .int .i64 N, .int .i64 lo, .int .i64 hi, .string S] 30)).cell? ⟨w.heap.size, 0, none⟩ = some (.int .i64 4) := (World.cell?_alloc_at _ _ _ _ rfl).trans rfl
  have z3 : (w.alloc (.cells #[.int .i64 4, .bool sec, .int .i64 cur, .int .i64 N, .int .i64 lo, .int .i64 hi, .string S] 30)).cell? ⟨w.heap.size, 3, none⟩ = some (.int .i64 N) := (World.cell?_alloc_at _ _ _ _ rfl).trans rfl
  have z6 : (w.alloc (.cells #[.int .i64 4, .bool sec, .int .i64 cur, .int .i64 N, .int .i64 lo, .int .i64 hi, .string S] 30)).cell? ⟨w.heap.size, 6, none⟩ = some (.string S) := (World.cell?_alloc_at _ _ _ _ rfl).trans rfl
  obtain ⟨n, hn⟩ : ∃ n, S.size = n := ⟨_, rfl⟩
  have hn0 : n ≤ 140737488351232 := by omega
  have e1 : (S.size : Int) = (n : Int) := by omega
  have hsl := bytesOf_len S
  have HSL := hide hsl
  rw [hn] at hl ⊢
  have hk2 := aft_k k L (nput 0 1) hk20 (nput_ok 0 1 (by decide)).1
  clear h he hb0 hb1 hd1 hsl
  go_enter Tryd.func35, Tryd.ntmps35
  go_wp2_with fail
  generalize (w.alloc (.cells #[.int .i64 4, .bool sec, .int .i64 cur, .int .i64 N, .int .i64 lo, .int .i64 hi, .string S] 30)) = W0 at *
  have H6 := hide z6
  refine wp_onlyN ?_
  refine rp1 _ _ _ _ _ _ _ _ _ hn hn0 _ ?hf z6
  case hf =>
  unfold Hid
  intro g c y10 y11 y12 y13 y14 y15 y16 y17 y18 y19 w1 ho hb hc
  have HO1 := hide ho
  have HB1 := hide hb
  have HG : Hid (W0.heap.size ≤ g ∧ g < w1.heap.size) := World.ownsRow.lt ho g rfl
  have hcc : n ≤ c := by omega
  have hcc2 : (n : Int) ≤ (c : Int) := by omega
  have hn00 : (0 : Int) ≤ (n : Int) := by omega
  have HP1 := hide (HP.out.below hb)
  have y0 := cell_below z0 hb
  have y3 := cell_below z3 hb
  have y6 := cell_below z6 hb
  have HBW := hide (chain HA.out hb)
  have HXR : Hid (Bts w1 (some ⟨g, 0, none⟩) (n + 2) c (bytesOf S ++ [201, 202])) := ho.bts (by rw [List.length_append, HSL.out, hn]; rfl) (by omega) (fun x hx => by
    rcases List.mem_append.1 hx with hx | hx
    · exact bytesOf_lt S x hx
    · simp only [List.mem_cons, List.not_mem_nil, or_false] at hx; rcases hx with rfl | rfl <;> decide)
  have HXS : Hid (Bts w1 (some ⟨g, 0, none⟩) n c (bytesOf S)) := by
    have := HXR.out.take n (by omega)
    rw [List.take_left' (by rw [HSL.out, hn])] at this
    exact this
  clear ho hb hc z0 z3 z6 H6
  go_wp2_with fail
  refine Calls.mono (wFlag_all b v E k L false w1 HP1.out.wr (HEW.out w1 (Frm.ofBelow HBW.out)) (by omega)) ?_
  rintro e w2 ⟨rfl, v', q1, q2, q3⟩
  have HWR2 := hide q1
  have HF2 := hide q2
  have HN2 := hide q3
  have HDW2 := hide (HP1.out.mid q2)
  have hbxW : ¬ WS b v w.heap.size := (fun e => by have := HLT.out w.heap.size (.inl e); omega)
  have x0 := q2.cell y0 hbxW
  have x3 := q2.cell y3 hbxW
  have x6 := q2.cell y6 hbxW
  have HO2 := hide (HO1.out.frm q2 (fun j hj e => by have := HLT.out j (.inl e); have h9 : g = j := (by simpa [Value.ownBlock] using hj); have := HG.out; have := HZ.out; omega))
  clear q1 q2 q3 y0 y3 y6 hbxW
  go_wp2_with fail
  refine Calls.mono (dnum_all d u k L 0 1 w2 HDW2.out (by decide) (by omega)) ?_
  rintro e w3 ⟨rfl, u', q1, q2, q3⟩
  have HPB := hide (HP1.out.both HWR2.out HF2.out HN2.out q1 q2 q3 hk2)
  have hbxD : ¬ WS d u w.heap.size := (fun e => by have := HLT.out w.heap.size (.inr e); omega)
  have y0 := q2.cell x0 hbxD
  have y6 := q2.cell x6 hbxD
  have HO3 := hide (HO2.out.frm q2 (fun j hj e => by have := HLT.out j (.inr e); have h9 : g = j := (by simpa [Value.ownBlock] using hj); have := HG.out; have := HZ.out; omega))
  clear q1 q2 q3 x0 x3 x6 hbxD
  have HP3 := hide HPB.out.1
  have HF3 := hide ((Frm.ofBelow (S := AS b v d u) HBW.out).trans HPB.out.2.1 (fun j _ t => t))
  have HNV := hide HPB.out.2.2.1
  have HNU := hide HPB.out.2.2.2

  have HLN : Hid ((bytesOf S ++ [201, 202]).length = n + 2) := by unfold Hid; rw [List.length_append, HSL.out, hn]; rfl
  have HXR3 : Hid (Bts w3 (some ⟨g, 0, none⟩) (n + 2) c (bytesOf S ++ [201, 202])) := HO3.out.bts HLN.out (by omega) HXR.out.small
  have s1 := (by
    have := HXR3.out.take n (by omega)
    rw [List.take_left' (by rw [HSL.out, hn])] at this
    have h2 := bts_string this
    rw [str_bytesOf] at h2
    exact h2 : (convert 41 9 (.slice (some ⟨g, 0, none⟩) n c)).run Tryd.prog w3 = .ok (.string S) w3)
  have k1 := HO3.out.cellAt HLN.out n 201 (by rw [List.getElem?_append_right (by rw [HSL.out, hn]; exact Nat.le_refl _), HSL.out, hn, Nat.sub_self]; rfl)
  have k2 := HO3.out.cellAt HLN.out (n + 1) 202 (by rw [List.getElem?_append_right (by rw [HSL.out, hn]; omega), HSL.out, hn, show n + 1 - n = 1 by omega]; rfl)
  have j1 : (n : Int) < (n : Int) + 2 := by omega
  have j2 : (n : Int) + 1 < (n : Int) + 2 := by omega
  have j3 : (0 : Int) ≤ (n : Int) + 1 := by omega
  have j4 : IntKind.i64.wrap ((n : Int) + 1) = (n : Int) + 1 := by rw [IntKind.wrap_i64]; omega
  have j5 : ((n : Int) + 1).toNat = n + 1 := by omega
  have HF3s := hide HF3.out.size
  go_wp2_with fail
  clear s1 k1 k2
  go_loopw [9] (fun i wr => ∃ (j : Nat) (l' : List Nat), j ≤ n + 2 ∧ i = .int .i64 (j : Int) ∧ Hid (l'.length = n + 2) ∧ Hid (Own wr W0.heap.size (.slice (some ⟨g, 0, none⟩) (n + 2) c) l') ∧ Hid (Frm (fun t => t = g) w3 wr)) (fun i _ => n + 2 - (intOf i).toNat)
  case atStart => exact ⟨0, _, by omega, rfl, HLN, HO3, Frm.refl _ _⟩
  case round =>
    obtain ⟨j, l', hj, rfl, HL', HOR, HFR⟩ := hrel
    by_cases hlt : j < n + 2
    · obtain ⟨y, hy⟩ : ∃ y, l'[j]? = some y := ⟨_, List.getElem?_eq_getElem (by rw [HL'.out]; exact hlt)⟩
      have kk := HOR.out.cellAt HL'.out j y hy
      have kf := HOR.out.frozenAt HL'.out j
      have HS := hide (HOR.out.stored HL'.out j 99)
      have hj1 : (j : Int) < (n : Int) + 2 := by omega
      clear hy
      go_wp2
      refine ⟨⟨j + 1, l'.set j 99, by omega, by first | rfl | simp, ?_, HS, HFR.out.trans (frm_setCell wr ⟨g, j, none⟩ _) (fun t _ t => t)⟩, by simp [intOf]; omega⟩
      unfold Hid
      rw [List.length_set, HL'.out]
    · obtain rfl : j = n + 2 := by omega
      have x0 := HFR.out.cell y0 (by show ¬ w.heap.size = g; have := HG.out; have := HZ.out; omega)
      have HAS : Hid (∀ j, AS b v' d u' j → ¬ j = g) := fun j hj e => by
        subst e
        rcases hj with (e | e) | (e | e)
        · have := HG.out; have := HZ.out; omega
        · rcases HNV.out j e with e2 | e2
          · have := HLT.out j (.inl (.inr e2)); have := HG.out; have := HZ.out; omega
          · have := HG.out; omega
        · have := HG.out; have := HZ.out; omega
        · rcases HNU.out j e with e2 | e2
          · have := HLT.out j (.inr (.inr e2)); have := HG.out; have := HZ.out; omega
          · have := HG.out; omega
      have HPE := hide (HP3.out.frm HFR.out HAS.out)
      have HFE := hide (HF3.out.trans HFR.out (fun t ht (e : t = g) => by have := HG.out; have := HZ.out; omega))
      have hv1 : NewB w v v' := fun t ht => by
        rcases HNV.out t ht with e | e
        · exact .inl e
        · exact .inr (Nat.le_trans HBW.out.size e)
      have hu1 : NewB w u u' := fun t ht => by
        rcases HNU.out t ht with e | e
        · exact .inl e
        · exact .inr (Nat.le_trans HBW.out.size e)
      have HV1 := hide hv1
      have HU1 := hide hu1
      clear hv1 hu1
      go_wp2
      go_ret
      exact ⟨rfl, v', u', (aft k L (nput 0 1)).1, (aft k L (nput 0 1)).2, HPE.out, (by have := aft_len k L (nput 0 1) 4 (nput_ok 0 1 (by decide)).2; omega), HFE.out, HV1.out, HU1.out⟩

set_option maxRecDepth 100000 in
set_option maxHeartbeats 4000000 in
theorem puts_flag1 {E : Nat → Addr} (w0 : World) (b d : Nat) (v u : Value) (k : Nat) (L : List Nat) (sec : Bool) (cur N lo hi : Int) (S : ByteArray) (w : World) (h : Pw E w b d v u k L) (he : Errs w0 E) (hb0 : Below w0.heap.size w0 w) (hb1 : w0.heap.size ≤ b) (hd1 : w0.heap.size ≤ d) (hl : L.length + S.size + 64 ≤ 140737488351232) (hbit : bits .and .i64 N 1 = 1) :
    Calls Tryd.prog 35 #[.pointer (some ⟨b, 0, none⟩), .pointer (some ⟨d, 0, none⟩), .agg #[.int .i64 4, .bool sec, .int .i64 cur, .int .i64 N, .int .i64 lo, .int .i64 hi, .string S]] w fun e w' => Putd E w b d v u (L.length + S.size + 4) e w' := by
  have HEW : Hid (∀ W, Frm (AS b v d u) w W → Errs W E) := fun W hf => he.below (hb0.trans (hf.below hb0.size (fun j e => by
    rcases e with (e | e) | (e | e)
    · omega
    · have := (h.wr.blk j e).1; omega
    · omega
    · have := (h.dw.blk j e).1; omega)))
  have HLT : Hid (∀ j, AS b v d u j → j < w.heap.size) := h.lt
  have HA : Hid (Below w.heap.size w (w.alloc (.cells #[.int .i64 4, .bool sec, .int .i64 cur, .int .i64 N, .int .i64 lo, .int .i64 hi, .string S] 30))) := (Below.refl _ _).alloc (Nat.le_refl _) _
  have HP := hide (h.below HA.out)
  have hbl : b < w.heap.size := h.wr.lt
  have hdl : d < w.heap.size := h.dw.lt
  have hk20 := h.k20
  have HZ : Hid (w.heap.size < (w.alloc (.cells #[.int .i64 4, .bool sec, .int .i64 cur, .int .i64 N, .int .i64 lo, .int .i64 hi, .string S] 30)).heap.size) := by unfold Hid; simp
  have z0 : (w.alloc (.cells #[.int .i64 4, .bool sec, .int .i64 cur, .int .i64 N, .int .i64 lo, .int .i64 hi, .string S] 30)).cell? ⟨w.heap.size, 0, none⟩ = some (.int .i64 4) := (World.cell?_alloc_at _ _ _ _ rfl).trans rfl
  have z3 : (w.alloc (.cells #[.int .i64 4, .bool sec, .int .i64 cur, .int .i64 N, .int .i64 lo, .int .i64 hi, .string S] 30)).cell? ⟨w.heap.size, 3, none⟩ = some (.int .i64 N) := (World.cell?_alloc_at _ _ _ _ rfl).trans rfl
  have z6 : (w.alloc (.cells #[.int .i64 4, .bool sec, .int .i64 cur, .int .i64 N, .int .i64 lo, .int .i64 hi, .string S] 30)).cell? ⟨w.heap.size, 6, none⟩ = some (.string S) := (World.cell?_alloc_at _ _ _ _ rfl).trans rfl
  obtain ⟨n, hn⟩ : ∃ n, S.size = n := ⟨_, rfl⟩
  have hn0 : n ≤ 140737488351232 := by omega
  have e1 : (S.size : Int) = (n : Int) := by omega
  have hsl := bytesOf_len S
  have HSL := hide hsl
  rw [hn] at hl ⊢
  have hk2 := aft_k k L (nput 1 1) hk20 (nput_ok 1 1 (by decide)).1
  clear h he hb0 hb1 hd1 hsl
  go_enter Tryd.func35, Tryd.ntmps35
  go_wp2_with fail
  generalize (w.alloc (.cells #[.int .i64 4, .bool sec, .int .i64 cur, .int .i64 N, .int .i64 lo, .int .i64 hi, .string S] 30)) = W0 at *
  have H6 := hide z6
  refine wp_onlyN ?_
  refine rp1 _ _ _ _ _ _ _ _ _ hn hn0 _ ?hf z6
  case hf =>
  unfold Hid
  intro g c y10 y11 y12 y13 y14 y15 y16 y17 y18 y19 w1 ho hb hc
  have HO1 := hide ho
  have HB1 := hide hb
  have HG : Hid (W0.heap.size ≤ g ∧ g < w1.heap.size) := World.ownsRow.lt ho g rfl
  have hcc : n ≤ c := by omega
  have hcc2 : (n : Int) ≤ (c : Int) := by omega
  have hn00 : (0 : Int) ≤ (n : Int) := by omega
  have HP1 := hide (HP.out.below hb)
  have y0 := cell_below z0 hb
  have y3 := cell_below z3 hb
  have y6 := cell_below z6 hb
  have HBW := hide (chain HA.out hb)
  have HXR : Hid (Bts w1 (some ⟨g, 0, none⟩) (n + 2) c (bytesOf S ++ [201, 202])) := ho.bts (by rw [List.length_append, HSL.out, hn]; rfl) (by omega) (fun x hx => by
    rcases List.mem_append.1 hx with hx | hx
    · exact bytesOf_lt S x hx
    · simp only [List.mem_cons, List.not_mem_nil, or_false] at hx; rcases hx with rfl | rfl <;> decide)
  have HXS : Hid (Bts w1 (some ⟨g, 0, none⟩) n c (bytesOf S)) := by
    have := HXR.out.take n (by omega)
    rw [List.take_left' (by rw [HSL.out, hn])] at this
    exact this
  clear ho hb hc z0 z3 z6 H6
  go_wp2_with fail
  refine Calls.mono (wFlag_all b v E k L true w1 HP1.out.wr (HEW.out w1 (Frm.ofBelow HBW.out)) (by omega)) ?_
  rintro e w2 ⟨rfl, v', q1, q2, q3⟩
  have HWR2 := hide q1
  have HF2 := hide q2
  have HN2 := hide q3
  have HDW2 := hide (HP1.out.mid q2)
  have hbxW : ¬ WS b v w.heap.size := (fun e => by have := HLT.out w.heap.size (.inl e); omega)
  have x0 := q2.cell y0 hbxW
  have x3 := q2.cell y3 hbxW
  have x6 := q2.cell y6 hbxW
  have HO2 := hide (HO1.out.frm q2 (fun j hj e => by have := HLT.out j (.inl e); have h9 : g = j := (by simpa [Value.ownBlock] using hj); have := HG.out; have := HZ.out; omega))
  clear q1 q2 q3 y0 y3 y6 hbxW
  go_wp2_with fail
  refine Calls.mono (dnum_all d u k L 1 1 w2 HDW2.out (by decide) (by omega)) ?_
  rintro e w3 ⟨rfl, u', q1, q2, q3⟩
  have HPB := hide (HP1.out.both HWR2.out HF2.out HN2.out q1 q2 q3 hk2)
  have hbxD : ¬ WS d u w.heap.size := (fun e => by have := HLT.out w.heap.size (.inr e); omega)
  have y0 := q2.cell x0 hbxD
  have y6 := q2.cell x6 hbxD
  have HO3 := hide (HO2.out.frm q2 (fun j hj e => by have := HLT.out j (.inr e); have h9 : g = j := (by simpa [Value.ownBlock] using hj); have := HG.out; have := HZ.out; omega))
  clear q1 q2 q3 x0 x3 x6 hbxD
  have HP3 := hide HPB.out.1
  have HF3 := hide ((Frm.ofBelow (S := AS b v d u) HBW.out).trans HPB.out.2.1 (fun j _ t => t))
  have HNV := hide HPB.out.2.2.1
  have HNU := hide HPB.out.2.2.2

  have HLN : Hid ((bytesOf S ++ [201, 202]).length = n + 2) := by unfold Hid; rw [List.length_append, HSL.out, hn]; rfl
  have HXR3 : Hid (Bts w3 (some ⟨g, 0, none⟩) (n + 2) c (bytesOf S ++ [201, 202])) := HO3.out.bts HLN.out (by omega) HXR.out.small
  have s1 := (by
    have := HXR3.out.take n (by omega)
    rw [List.take_left' (by rw [HSL.out, hn])] at this
    have h2 := bts_string this
    rw [str_bytesOf] at h2
    exact h2 : (convert 41 9 (.slice (some ⟨g, 0, none⟩) n c)).run Tryd.prog w3 = .ok (.string S) w3)
  have k1 := HO3.out.cellAt HLN.out n 201 (by rw [List.getElem?_append_right (by rw [HSL.out, hn]; exact Nat.le_refl _), HSL.out, hn, Nat.sub_self]; rfl)
  have k2 := HO3.out.cellAt HLN.out (n + 1) 202 (by rw [List.getElem?_append_right (by rw [HSL.out, hn]; omega), HSL.out, hn, show n + 1 - n = 1 by omega]; rfl)
  have j1 : (n : Int) < (n : Int) + 2 := by omega
  have j2 : (n : Int) + 1 < (n : Int) + 2 := by omega
  have j3 : (0 : Int) ≤ (n : Int) + 1 := by omega
  have j4 : IntKind.i64.wrap ((n : Int) + 1) = (n : Int) + 1 := by rw [IntKind.wrap_i64]; omega
  have j5 : ((n : Int) + 1).toNat = n + 1 := by omega
  have HF3s := hide HF3.out.size
  go_wp2_with fail
  clear s1 k1 k2
  go_loopw [9] (fun i wr => ∃ (j : Nat) (l' : List Nat), j ≤ n + 2 ∧ i = .int .i64 (j : Int) ∧ Hid (l'.length = n + 2) ∧ Hid (Own wr W0.heap.size (.slice (some ⟨g, 0, none⟩) (n + 2) c) l') ∧ Hid (Frm (fun t => t = g) w3 wr)) (fun i _ => n + 2 - (intOf i).toNat)
  case atStart => exact ⟨0, _, by omega, rfl, HLN, HO3, Frm.refl _ _⟩
  case round =>
    obtain ⟨j, l', hj, rfl, HL', HOR, HFR⟩ := hrel
    by_cases hlt : j < n + 2
    · obtain ⟨y, hy⟩ : ∃ y, l'[j]? = some y := ⟨_, List.getElem?_eq_getElem (by rw [HL'.out]; exact hlt)⟩
      have kk := HOR.out.cellAt HL'.out j y hy
      have kf := HOR.out.frozenAt HL'.out j
      have HS := hide (HOR.out.stored HL'.out j 99)
      have hj1 : (j : Int) < (n : Int) + 2 := by omega
      clear hy
      go_wp2
      refine ⟨⟨j + 1, l'.set j 99, by omega, by first | rfl | simp, ?_, HS, HFR.out.trans (frm_setCell wr ⟨g, j, none⟩ _) (fun t _ t => t)⟩, by simp [intOf]; omega⟩
      unfold Hid
      rw [List.length_set, HL'.out]
    · obtain rfl : j = n + 2 := by omega
      have x0 := HFR.out.cell y0 (by show ¬ w.heap.size = g; have := HG.out; have := HZ.out; omega)
      have HAS : Hid (∀ j, AS b v' d u' j → ¬ j = g) := fun j hj e => by
        subst e
        rcases hj with (e | e) | (e | e)
        · have := HG.out; have := HZ.out; omega
        · rcases HNV.out j e with e2 | e2
          · have := HLT.out j (.inl (.inr e2)); have := HG.out; have := HZ.out; omega
          · have := HG.out; omega
        · have := HG.out; have := HZ.out; omega
        · rcases HNU.out j e with e2 | e2
          · have := HLT.out j (.inr (.inr e2)); have := HG.out; have := HZ.out; omega
          · have := HG.out; omega
      have HPE := hide (HP3.out.frm HFR.out HAS.out)
      have HFE := hide (HF3.out.trans HFR.out (fun t ht (e : t = g) => by have := HG.out; have := HZ.out; omega))
      have hv1 : NewB w v v' := fun t ht => by
        rcases HNV.out t ht with e | e
        · exact .inl e
        · exact .inr (Nat.le_trans HBW.out.size e)
      have hu1 : NewB w u u' := fun t ht => by
        rcases HNU.out t ht with e | e
        · exact .inl e
        · exact .inr (Nat.le_trans HBW.out.size e)
      have HV1 := hide hv1
      have HU1 := hide hu1
      clear hv1 hu1
      go_wp2
      go_ret
      exact ⟨rfl, v', u', (aft k L (nput 1 1)).1, (aft k L (nput 1 1)).2, HPE.out, (by have := aft_len k L (nput 1 1) 4 (nput_ok 1 1 (by decide)).2; omega), HFE.out, HV1.out, HU1.out⟩

set_option maxRecDepth 100000 in
set_option maxHeartbeats 4000000 in
theorem puts_done {E : Nat → Addr} (w0 : World) (b d : Nat) (v u : Value) (k : Nat) (L : List Nat) (sec : Bool) (cur N lo hi : Int) (S : ByteArray) (w : World) (h : Pw E w b d v u k L) (he : Errs w0 E) (hb0 : Below w0.heap.size w0 w) (hb1 : w0.heap.size ≤ b) (hd1 : w0.heap.size ≤ d) (hl : L.length + S.size + 64 ≤ 140737488351232) :
    Calls Tryd.prog 35 #[.pointer (some ⟨b, 0, none⟩), .pointer (some ⟨d, 0, none⟩), .agg #[.int .i64 8, .bool sec, .int .i64 cur, .int .i64 N, .int .i64 lo, .int .i64 hi, .string S]] w fun e w' => Putd E w b d v u (L.length + S.size + 4) e w' := by
  have HEW : Hid (∀ W, Frm (AS b v d u) w W → Errs W E) := fun W hf => he.below (hb0.trans (hf.below hb0.size (fun j e => by
    rcases e with (e | e) | (e | e)
    · omega
    · have := (h.wr.blk j e).1; omega
    · omega
    · have := (h.dw.blk j e).1; omega)))
  have HLT : Hid (∀ j, AS b v d u j → j < w.heap.size) := h.lt
  have HA : Hid (Below w.heap.size w (w.alloc (.cells #[.int .i64 8, .bool sec, .int .i64 cur, .int .i64 N, .int .i64 lo, .int .i64 hi, .string S] 30))) := (Below.refl _ _).alloc (Nat.le_refl _) _
  have HP := hide (h.below HA.out)
  have hbl : b < w.heap.size := h.wr.lt
  have hdl : d < w.heap.size := h.dw.lt
  have hk20 := h.k20
  have HZ : Hid (w.heap.size < (w.alloc (.cells #[.int .i64 8, .bool sec, .int .i64 cur, .int .i64 N, .int .i64 lo, .int .i64 hi, .string S] 30)).heap.size) := by unfold Hid; simp
  have z0 : (w.alloc (.cells #[.int .i64 8, .bool sec, .int .i64 cur, .int .i64 N, .int .i64 lo, .int .i64 hi, .string S] 30)).cell? ⟨w.heap.size, 0, none⟩ = some (.int .i64 8) := (World.cell?_alloc_at _ _ _ _ rfl).trans rfl
  have z3 : (w.alloc (.cells #[.int .i64 8, .bool sec, .int .i64 cur, .int .i64 N, .int .i64 lo, .int .i64 hi, .string S] 30)).cell? ⟨w.heap.size, 3, none⟩ = some (.int .i64 N) := (World.cell?_alloc_at _ _ _ _ rfl).trans rfl
  have z6 : (w.alloc (.cells #[.int .i64 8, .bool sec, .int .i64 cur, .int .i64 N, .int .i64 lo, .int .i64 hi, .string S] 30)).cell? ⟨w.heap.size, 6, none⟩ = some (.string S) := (World.cell?_alloc_at _ _ _ _ rfl).trans rfl
  obtain ⟨n, hn⟩ : ∃ n, S.size = n := ⟨_, rfl⟩
  have hn0 : n ≤ 140737488351232 := by omega
  have e1 : (S.size : Int) = (n : Int) := by omega
  have hsl := bytesOf_len S
  have HSL := hide hsl
  rw [hn] at hl ⊢
  clear h he hb0 hb1 hd1 hsl
  go_enter Tryd.func35, Tryd.ntmps35
  go_wp2_with fail
  generalize (w.alloc (.cells #[.int .i64 8, .bool sec, .int .i64 cur, .int .i64 N, .int .i64 lo, .int .i64 hi, .string S] 30)) = W0 at *
  have H6 := hide z6
  refine wp_onlyN ?_
  refine rp1 _ _ _ _ _ _ _ _ _ hn hn0 _ ?hf z6
  case hf =>
  unfold Hid
  intro g c y10 y11 y12 y13 y14 y15 y16 y17 y18 y19 w1 ho hb hc
  have HO1 := hide ho
  have HB1 := hide hb
  have HG : Hid (W0.heap.size ≤ g ∧ g < w1.heap.size) := World.ownsRow.lt ho g rfl
  have hcc : n ≤ c := by omega
  have hcc2 : (n : Int) ≤ (c : Int) := by omega
  have hn00 : (0 : Int) ≤ (n : Int) := by omega
  have HP1 := hide (HP.out.below hb)
  have y0 := cell_below z0 hb
  have y3 := cell_below z3 hb
  have y6 := cell_below z6 hb
  have HBW := hide (chain HA.out hb)
  have HXR : Hid (Bts w1 (some ⟨g, 0, none⟩) (n + 2) c (bytesOf S ++ [201, 202])) := ho.bts (by rw [List.length_append, HSL.out, hn]; rfl) (by omega) (fun x hx => by
    rcases List.mem_append.1 hx with hx | hx
    · exact bytesOf_lt S x hx
    · simp only [List.mem_cons, List.not_mem_nil, or_false] at hx; rcases hx with rfl | rfl <;> decide)
  have HXS : Hid (Bts w1 (some ⟨g, 0, none⟩) n c (bytesOf S)) := by
    have := HXR.out.take n (by omega)
    rw [List.take_left' (by rw [HSL.out, hn])] at this
    exact this
  clear ho hb hc z0 z3 z6 H6
  have HP3 := HP1
  have HO3 := HO1
  have HF3 := hide (Frm.ofBelow (S := AS b v d u) HBW.out)
  have HNV := hide (NewB.refl w1 v)
  have HNU := hide (NewB.refl w1 u)
  clear HP1 HO1 y3
  have HBW1 := HBW
  generalize hw3 : w1 = w3 at *
  clear hw3

  have HLN : Hid ((bytesOf S ++ [201, 202]).length = n + 2) := by unfold Hid; rw [List.length_append, HSL.out, hn]; rfl
  have HXR3 : Hid (Bts w3 (some ⟨g, 0, none⟩) (n + 2) c (bytesOf S ++ [201, 202])) := HO3.out.bts HLN.out (by omega) HXR.out.small
  have s1 := (by
    have := HXR3.out.take n (by omega)
    rw [List.take_left' (by rw [HSL.out, hn])] at this
    have h2 := bts_string this
    rw [str_bytesOf] at h2
    exact h2 : (convert 41 9 (.slice (some ⟨g, 0, none⟩) n c)).run Tryd.prog w3 = .ok (.string S) w3)
  have k1 := HO3.out.cellAt HLN.out n 201 (by rw [List.getElem?_append_right (by rw [HSL.out, hn]; exact Nat.le_refl _), HSL.out, hn, Nat.sub_self]; rfl)
  have k2 := HO3.out.cellAt HLN.out (n + 1) 202 (by rw [List.getElem?_append_right (by rw [HSL.out, hn]; omega), HSL.out, hn, show n + 1 - n = 1 by omega]; rfl)
  have j1 : (n : Int) < (n : Int) + 2 := by omega
  have j2 : (n : Int) + 1 < (n : Int) + 2 := by omega
  have j3 : (0 : Int) ≤ (n : Int) + 1 := by omega
  have j4 : IntKind.i64.wrap ((n : Int) + 1) = (n : Int) + 1 := by rw [IntKind.wrap_i64]; omega
  have j5 : ((n : Int) + 1).toNat = n + 1 := by omega
  have HF3s := hide HF3.out.size
  go_wp2_with fail
  clear s1 k1 k2
  go_loopw [9] (fun i wr => ∃ (j : Nat) (l' : List Nat), j ≤ n + 2 ∧ i = .int .i64 (j : Int) ∧ Hid (l'.length = n + 2) ∧ Hid (Own wr W0.heap.size (.slice (some ⟨g, 0, none⟩) (n + 2) c) l') ∧ Hid (Frm (fun t => t = g) w3 wr)) (fun i _ => n + 2 - (intOf i).toNat)
  case atStart => exact ⟨0, _, by omega, rfl, HLN, HO3, Frm.refl _ _⟩
  case round =>
    obtain ⟨j, l', hj, rfl, HL', HOR, HFR⟩ := hrel
    by_cases hlt : j < n + 2
    · obtain ⟨y, hy⟩ : ∃ y, l'[j]? = some y := ⟨_, List.getElem?_eq_getElem (by rw [HL'.out]; exact hlt)⟩
      have kk := HOR.out.cellAt HL'.out j y hy
      have kf := HOR.out.frozenAt HL'.out j
      have HS := hide (HOR.out.stored HL'.out j 99)
      have hj1 : (j : Int) < (n : Int) + 2 := by omega
      clear hy
      go_wp2
      refine ⟨⟨j + 1, l'.set j 99, by omega, by first | rfl | simp, ?_, HS, HFR.out.trans (frm_setCell wr ⟨g, j, none⟩ _) (fun t _ t => t)⟩, by simp [intOf]; omega⟩
      unfold Hid
      rw [List.length_set, HL'.out]
    · obtain rfl : j = n + 2 := by omega
      have x0 := HFR.out.cell y0 (by show ¬ w.heap.size = g; have := HG.out; have := HZ.out; omega)
      have HAS : Hid (∀ j, AS b v d u j → ¬ j = g) := fun j hj e => by
        subst e
        rcases hj with (e | e) | (e | e)
        · have := HG.out; have := HZ.out; omega
        · rcases HNV.out j e with e2 | e2
          · have := HLT.out j (.inl (.inr e2)); have := HG.out; have := HZ.out; omega
          · have := HG.out; omega
        · have := HG.out; have := HZ.out; omega
        · rcases HNU.out j e with e2 | e2
          · have := HLT.out j (.inr (.inr e2)); have := HG.out; have := HZ.out; omega
          · have := HG.out; omega
      have HPE := hide (HP3.out.frm HFR.out HAS.out)
      have HFE := hide (HF3.out.trans HFR.out (fun t ht (e : t = g) => by have := HG.out; have := HZ.out; omega))
      have hv1 : NewB w v v := fun t ht => by
        rcases HNV.out t ht with e | e
        · exact .inl e
        · exact .inr (Nat.le_trans HBW.out.size e)
      have hu1 : NewB w u u := fun t ht => by
        rcases HNU.out t ht with e | e
        · exact .inl e
        · exact .inr (Nat.le_trans HBW.out.size e)
      have HV1 := hide hv1
      have HU1 := hide hu1
      clear hv1 hu1
      go_wp2_with fail
      refine Calls.mono (done_any b d v u k L wr HPE.out.wr HPE.out.dw (HEW.out wr HFE.out) hk20 (by omega)) ?_
      rintro e w9 ⟨rfl, hb9⟩
      have HB9 := hide hb9
      clear hb9
      go_wp2
      go_ret
      exact ⟨rfl, v, u, k, L, HPE.out.below HB9.out, by omega, HFE.out.trans (Frm.ofBelow (S := fun _ => False) HB9.out) (fun j _ t => t.elim), NewB.refl _ _, NewB.refl _ _⟩

set_option maxRecDepth 100000 in
set_option maxHeartbeats 4000000 in
theorem puts_other {E : Nat → Addr} (w0 : World) (b d : Nat) (v u : Value) (k : Nat) (L : List Nat) (kind : Int) (sec : Bool) (cur N lo hi : Int) (S : ByteArray) (w : World) (h : Pw E w b d v u k L) (he : Errs w0 E) (hb0 : Below w0.heap.size w0 w) (hb1 : w0.heap.size ≤ b) (hd1 : w0.heap.size ≤ d) (hl : L.length + S.size + 64 ≤ 140737488351232) (hk1 : kind ≠ 1) (hk2 : kind ≠ 2) (hk3 : kind ≠ 3) (hk4 : kind ≠ 4) (hk5 : kind ≠ 5) (hk6 : kind ≠ 6) (hk7 : kind ≠ 7) (hk8 : kind ≠ 8) :
    Calls Tryd.prog 35 #[.pointer (some ⟨b, 0, none⟩), .pointer (some ⟨d, 0, none⟩), .agg #[.int .i64 kind, .bool sec, .int .i64 cur, .int .i64 N, .int .i64 lo, .int .i64 hi, .string S]] w fun e w' => Putd E w b d v u (L.length + S.size + 4) e w' := by
  have HEW : Hid (∀ W, Frm (AS b v d u) w W → Errs W E) := fun W hf => he.below (hb0.trans (hf.below hb0.size (fun j e => by
    rcases e with (e | e) | (e | e)
    · omega
    · have := (h.wr.blk j e).1; omega
    · omega
    · have := (h.dw.blk j e).1; omega)))
  have HLT : Hid (∀ j, AS b v d u j → j < w.heap.size) := h.lt
  have HA : Hid (Below w.heap.size w (w.alloc (.cells #[.int .i64 kind, .bool sec, .int .i64 cur, .int .i64 N, .int .i64 lo, .int .i64 hi, .string S] 30))) := (Below.refl _ _).alloc (Nat.le_refl _) _
  have HP := hide (h.below HA.out)
  have hbl : b < w.heap.size := h.wr.lt
  have hdl : d < w.heap.size := h.dw.lt
  have hk20 := h.k20
  have HZ : Hid (w.heap.size < (w.alloc (.cells #[.int .i64 kind, .bool sec, .int .i64 cur, .int .i64 N, .int .i64 lo, .int .i64 hi, .string S] 30)).heap.size) := by unfold Hid; simp
  have z0 : (w.alloc (.cells #[.int .i64 kind, .bool sec, .int .i64 cur, .int .i64 N, .int .i64 lo, .int .i64 hi, .string S] 30)).cell? ⟨w.heap.size, 0, none⟩ = some (.int .i64 kind) := (World.cell?_alloc_at _ _ _ _ rfl).trans rfl
  have z3 : (w.alloc (.cells #[.int .i64 kind, .bool sec, .int .i64 cur, .int .i64 N, .int .i64 lo, .int .i64 hi, .string S] 30)).cell? ⟨w.heap.size, 3, none⟩ = some (.int .i64 N) := (World.cell?_alloc_at _ _ _ _ rfl).trans rfl
  have z6 : (w.alloc (.cells #[.int .i64 kind, .bool sec, .int .i64 cur, .int .i64 N, .int .i64 lo, .int .i64 hi, .string S] 30)).cell? ⟨w.heap.size, 6, none⟩ = some (.string S) := (World.cell?_alloc_at _ _ _ _ rfl).trans rfl
  obtain ⟨n, hn⟩ : ∃ n, S.size = n := ⟨_, rfl⟩
  have hn0 : n ≤ 140737488351232 := by omega
  have e1 : (S.size : Int) = (n : Int) := by omega
  have hsl := bytesOf_len S
  have HSL := hide hsl
  rw [hn] at hl ⊢
  have dk1 : (kind == 1) = false := by simp; exact hk1
  have dk2 : (kind == 2) = false := by simp; exact hk2
  have dk3 : (kind == 3) = false := by simp; exact hk3
  have dk4 : (kind == 4) = false := by simp; exact hk4
  have dk5 : (kind == 5) = false := by simp; exact hk5
  have dk6 : (kind == 6) = false := by simp; exact hk6
  have dk7 : (kind == 7) = false := by simp; exact hk7
  have dk8 : (kind == 8) = false := by simp; exact hk8
  have dn8 : (kind != 8) = true := by simp; exact hk8
  clear hk1 hk2 hk3 hk4 hk5 hk6 hk7 hk8
  clear h he hb0 hb1 hd1 hsl
  go_enter Tryd.func35, Tryd.ntmps35
  go_wp2_with fail
  generalize (w.alloc (.cells #[.int .i64 kind, .bool sec, .int .i64 cur, .int .i64 N, .int .i64 lo, .int .i64 hi, .string S] 30)) = W0 at *
  have H6 := hide z6
  refine wp_onlyN ?_
  refine rp1 _ _ _ _ _ _ _ _ _ hn hn0 _ ?hf z6
  case hf =>
  unfold Hid
  intro g c y10 y11 y12 y13 y14 y15 y16 y17 y18 y19 w1 ho hb hc
  have HO1 := hide ho
  have HB1 := hide hb
  have HG : Hid (W0.heap.size ≤ g ∧ g < w1.heap.size) := World.ownsRow.lt ho g rfl
  have hcc : n ≤ c := by omega
  have hcc2 : (n : Int) ≤ (c : Int) := by omega
  have hn00 : (0 : Int) ≤ (n : Int) := by omega
  have HP1 := hide (HP.out.below hb)
  have y0 := cell_below z0 hb
  have y3 := cell_below z3 hb
  have y6 := cell_below z6 hb
  have HBW := hide (chain HA.out hb)
  have HXR : Hid (Bts w1 (some ⟨g, 0, none⟩) (n + 2) c (bytesOf S ++ [201, 202])) := ho.bts (by rw [List.length_append, HSL.out, hn]; rfl) (by omega) (fun x hx => by
    rcases List.mem_append.1 hx with hx | hx
    · exact bytesOf_lt S x hx
    · simp only [List.mem_cons, List.not_mem_nil, or_false] at hx; rcases hx with rfl | rfl <;> decide)
  have HXS : Hid (Bts w1 (some ⟨g, 0, none⟩) n c (bytesOf S)) := by
    have := HXR.out.take n (by omega)
    rw [List.take_left' (by rw [HSL.out, hn])] at this
    exact this
  clear ho hb hc z0 z3 z6 H6
  have HP3 := HP1
  have HO3 := HO1
  have HF3 := hide (Frm.ofBelow (S := AS b v d u) HBW.out)
  have HNV := hide (NewB.refl w1 v)
  have HNU := hide (NewB.refl w1 u)
  clear HP1 HO1 y3
  have HBW1 := HBW
  generalize hw3 : w1 = w3 at *
  clear hw3

  have HLN : Hid ((bytesOf S ++ [201, 202]).length = n + 2) := by unfold Hid; rw [List.length_append, HSL.out, hn]; rfl
  have HXR3 : Hid (Bts w3 (some ⟨g, 0, none⟩) (n + 2) c (bytesOf S ++ [201, 202])) := HO3.out.bts HLN.out (by omega) HXR.out.small
  have s1 := (by
    have := HXR3.out.take n (by omega)
    rw [List.take_left' (by rw [HSL.out, hn])] at this
    have h2 := bts_string this
    rw [str_bytesOf] at h2
    exact h2 : (convert 41 9 (.slice (some ⟨g, 0, none⟩) n c)).run Tryd.prog w3 = .ok (.string S) w3)
  have k1 := HO3.out.cellAt HLN.out n 201 (by rw [List.getElem?_append_right (by rw [HSL.out, hn]; exact Nat.le_refl _), HSL.out, hn, Nat.sub_self]; rfl)
  have k2 := HO3.out.cellAt HLN.out (n + 1) 202 (by rw [List.getElem?_append_right (by rw [HSL.out, hn]; omega), HSL.out, hn, show n + 1 - n = 1 by omega]; rfl)
  have j1 : (n : Int) < (n : Int) + 2 := by omega
  have j2 : (n : Int) + 1 < (n : Int) + 2 := by omega
  have j3 : (0 : Int) ≤ (n : Int) + 1 := by omega
  have j4 : IntKind.i64.wrap ((n : Int) + 1) = (n : Int) + 1 := by rw [IntKind.wrap_i64]; omega
  have j5 : ((n : Int) + 1).toNat = n + 1 := by omega
  have HF3s := hide HF3.out.size
  go_wp2_with fail
  clear s1 k1 k2
  go_loopw [9] (fun i wr => ∃ (j : Nat) (l' : List Nat), j ≤ n + 2 ∧ i = .int .i64 (j : Int) ∧ Hid (l'.length = n + 2) ∧ Hid (Own wr W0.heap.size (.slice (some ⟨g, 0, none⟩) (n + 2) c) l') ∧ Hid (Frm (fun t => t = g) w3 wr)) (fun i _ => n + 2 - (intOf i).toNat)
  case atStart => exact ⟨0, _, by omega, rfl, HLN, HO3, Frm.refl _ _⟩
  case round =>
    obtain ⟨j, l', hj, rfl, HL', HOR, HFR⟩ := hrel
    by_cases hlt : j < n + 2
    · obtain ⟨y, hy⟩ : ∃ y, l'[j]? = some y := ⟨_, List.getElem?_eq_getElem (by rw [HL'.out]; exact hlt)⟩
      have kk := HOR.out.cellAt HL'.out j y hy
      have kf := HOR.out.frozenAt HL'.out j
      have HS := hide (HOR.out.stored HL'.out j 99)
      have hj1 : (j : Int) < (n : Int) + 2 := by omega
      clear hy
      go_wp2
      refine ⟨⟨j + 1, l'.set j 99, by omega, by first | rfl | simp, ?_, HS, HFR.out.trans (frm_setCell wr ⟨g, j, none⟩ _) (fun t _ t => t)⟩, by simp [intOf]; omega⟩
      unfold Hid
      rw [List.length_set, HL'.out]
    · obtain rfl : j = n + 2 := by omega
      have x0 := HFR.out.cell y0 (by show ¬ w.heap.size = g; have := HG.out; have := HZ.out; omega)
      have HAS : Hid (∀ j, AS b v d u j → ¬ j = g) := fun j hj e => by
        subst e
        rcases hj with (e | e) | (e | e)
        · have := HG.out; have := HZ.out; omega
        · rcases HNV.out j e with e2 | e2
          · have := HLT.out j (.inl (.inr e2)); have := HG.out; have := HZ.out; omega
          · have := HG.out; omega
        · have := HG.out; have := HZ.out; omega
        · rcases HNU.out j e with e2 | e2
          · have := HLT.out j (.inr (.inr e2)); have := HG.out; have := HZ.out; omega
          · have := HG.out; omega
      have HPE := hide (HP3.out.frm HFR.out HAS.out)
      have HFE := hide (HF3.out.trans HFR.out (fun t ht (e : t = g) => by have := HG.out; have := HZ.out; omega))
      have hv1 : NewB w v v := fun t ht => by
        rcases HNV.out t ht with e | e
        · exact .inl e
        · exact .inr (Nat.le_trans HBW.out.size e)
      have hu1 : NewB w u u := fun t ht => by
        rcases HNU.out t ht with e | e
        · exact .inl e
        · exact .inr (Nat.le_trans HBW.out.size e)
      have HV1 := hide hv1
      have HU1 := hide hu1
      clear hv1 hu1
      go_wp2
      go_ret
      exact ⟨rfl, v, u, k, L, HPE.out, by omega, HFE.out, NewB.refl _ _, NewB.refl _ _⟩

theorem puts_any {E : Nat → Addr} (w0 : World) (b d : Nat) (v u : Value) (k : Nat) (L : List Nat) (kind : Int) (sec : Bool) (cur N lo hi : Int) (S : ByteArray) (w : World) (h : Pw E w b d v u k L) (he : Errs w0 E) (hb0 : Below w0.heap.size w0 w) (hb1 : w0.heap.size ≤ b) (hd1 : w0.heap.size ≤ d) (hl : L.length + S.size + 64 ≤ 140737488351232) :
    Calls Tryd.prog 35 #[.pointer (some ⟨b, 0, none⟩), .pointer (some ⟨d, 0, none⟩), .agg #[.int .i64 kind, .bool sec, .int .i64 cur, .int .i64 N, .int .i64 lo, .int .i64 hi, .string S]] w fun e w' => Putd E w b d v u (L.length + S.size + 4) e w' := by
  by_cases h1 : kind = 1
  · subst h1; exact puts_u8 w0 b d v u k L sec cur N lo hi S w h he hb0 hb1 hd1 hl
  by_cases h2 : kind = 2
  · subst h2; exact puts_u16 w0 b d v u k L sec cur N lo hi S w h he hb0 hb1 hd1 hl
  by_cases h3 : kind = 3
  · subst h3; exact puts_u32 w0 b d v u k L sec cur N lo hi S w h he hb0 hb1 hd1 hl
  by_cases h4 : kind = 4
  · subst h4
    rcases bit_one N with hb | hb
    · exact puts_flag0 w0 b d v u k L sec cur N lo hi S w h he hb0 hb1 hd1 hl hb
    · exact puts_flag1 w0 b d v u k L sec cur N lo hi S w h he hb0 hb1 hd1 hl hb
  by_cases h5 : kind = 5
  · subst h5; exact puts_raw w0 b d v u k L sec cur N lo hi S w h he hb0 hb1 hd1 hl
  by_cases h6 : kind = 6
  · subst h6; exact puts_text w0 b d v u k L sec cur N lo hi S w h he hb0 hb1 hd1 hl
  by_cases h7 : kind = 7
  · subst h7; exact puts_record w0 b d v u k L sec cur N lo hi S w h he hb0 hb1 hd1 hl
  by_cases h8 : kind = 8
  · subst h8; exact puts_done w0 b d v u k L sec cur N lo hi S w h he hb0 hb1 hd1 hl
  exact puts_other w0 b d v u k L kind sec cur N lo hi S w h he hb0 hb1 hd1 hl h1 h2 h3 h4 h5 h6 h7 h8
end Go.Proofs.YtkkogkdalcigkaaDoor
