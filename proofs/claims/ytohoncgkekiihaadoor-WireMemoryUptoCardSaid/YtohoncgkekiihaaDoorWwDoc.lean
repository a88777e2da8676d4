/-
  The document's writer: what it holds, and what its puts do.
  The document's writer: its puts.
  The document's writer: records, Done.
-/
import Derived.Test.YtohoncgkekiihaaDoorWwPut
import Derived.Test.YtohoncgkekiihaaDoorRcRead
import Derived.Test.YtohoncgkekiihaaDoorLow
import Derived.Test.YtohoncgkekiihaaDoorRcRaw
namespace FerryCrc
theorem set_back (L : List Nat) (w j x : Nat) (hl : L.length = w) (hj : j < w) (hx : L[j]? = some x) : (List.replicate (j + 1) 0 ++ L.drop (j + 1)).set j x = List.replicate j 0 ++ L.drop j := by
  have h1 : List.replicate (j + 1) 0 = List.replicate j 0 ++ [0] := by rw [List.replicate_succ']
  rw [h1, List.append_assoc, List.set_append_right _ _ (by simp)]
  have hd : L.drop j = x :: L.drop (j + 1) := by
    rw [List.drop_eq_getElem_cons (by omega)]
    congr 1
    rw [List.getElem?_eq_getElem (by omega)] at hx
    exact Option.some.inj hx
  simp [hd]
end FerryCrc
namespace Go.Proofs.YtohoncgkekiihaaDoor
open Go.RowKit FerryCrc
set_option linter.unusedVariables false
set_option linter.unusedSimpArgs false

/-- The document's writer: its bytes, its error's code and place. -/
structure DW (w : World) (d : Nat) (v : Value) (k : Nat) (q : Int) (L : List Nat) : Prop where
  c0 : w.cell? ⟨d, 0, none⟩ = some v
  c1 : w.cell? ⟨d, 1, none⟩ = some (.int .i64 (k : Int))
  c2 : w.cell? ⟨d, 2, none⟩ = some (.int .i64 q)
  f0 : w.frozen? ⟨d, 0, none⟩ = false
  f1 : w.frozen? ⟨d, 1, none⟩ = false
  f2 : w.frozen? ⟨d, 2, none⟩ = false
  own : Own w (d + 1) v L
  small : ∀ c ∈ L, c < 256
theorem DW.lt {w : World} {d : Nat} {v : Value} {k : Nat} {q : Int} {L : List Nat} (h : DW w d v k q L) : d < w.heap.size := block_lt_of_cell h.c0
theorem DW.blk {w : World} {d : Nat} {v : Value} {k : Nat} {q : Int} {L : List Nat} (h : DW w d v k q L) (j : Nat) (hj : v.ownBlock = some j) : d < j ∧ j < w.heap.size := by
  have := World.ownsRow.lt h.own j hj
  omega
theorem DW.frm {S : Nat → Prop} {w w' : World} {d : Nat} {v : Value} {k : Nat} {q : Int} {L : List Nat} (h : DW w d v k q L) (hf : Frm S w w') (hd : ¬ S d) (hv : ∀ j, v.ownBlock = some j → ¬ S j) : DW w' d v k q L :=
  ⟨hf.cell h.c0 hd, hf.cell h.c1 hd, hf.cell h.c2 hd, by rw [hf.frozen h.c0 hd]; exact h.f0, by rw [hf.frozen h.c1 hd]; exact h.f1, by rw [hf.frozen h.c2 hd]; exact h.f2, h.own.frm hf hv, h.small⟩
theorem DW.below {w w' : World} {d : Nat} {v : Value} {k : Nat} {q : Int} {L : List Nat} (h : DW w d v k q L) (hb : Below w.heap.size w w') : DW w' d v k q L :=
  h.frm (S := fun _ => False) (Frm.ofBelow hb) (fun h => h) (fun _ _ h => h)
/-- What a put leaves. -/
def DPut (w : World) (d : Nat) (v : Value) (k : Nat) (q : Int) (L : List Nat) (e : Ending) (w' : World) : Prop :=
  e = .returned (.tuple #[]) ∧ ∃ v', DW w' d v' k q L ∧ Frm (WS d v) w w' ∧ NewB w v v'
/-- The place that the document's writer tells. -/
def dq (k : Nat) (L : List Nat) : Int := if k = 0 then -1 else (L.length : Int)

set_option maxRecDepth 100000 in
theorem dnew_any (w : World) :
    Calls Tryd.prog 31 #[] w fun e w' => ∃ D, w.heap.size ≤ D ∧ e = .returned (.pointer (some ⟨D, 0, none⟩)) ∧ DW w' D (.slice none 0 0) 0 (-1) [] ∧ Below w.heap.size w w' := by
  go_enter Tryd.func31, Tryd.ntmps31
  go_wp2_with fail
  refine Calls.mono (rnone_any w) ?_
  rintro e w1 ⟨rfl, hb⟩
  have HB := hide hb
  clear hb
  unfold rerr
  go_wp2
  go_ret
  refine ⟨w1.heap.size, HB.out.size, rfl, ⟨by rw [World.cell?_alloc_at _ _ _ _ rfl]; rfl, by rw [World.cell?_alloc_at _ _ _ _ rfl]; rfl, by rw [World.cell?_alloc_at _ _ _ _ rfl]; rfl, World.frozen?_alloc_new _ _ _ _, World.frozen?_alloc_new _ _ _ _, World.frozen?_alloc_new _ _ _ _, ⟨rfl, .inl ⟨rfl, rfl⟩⟩, fun c hc => by simp at hc⟩, HB.out.alloc HB.out.size _⟩

set_option maxRecDepth 100000 in
set_option maxHeartbeats 800000 in
theorem dnumber_any (n width : Nat) (w : World) (h4 : width ≤ 4) (h0 : 0 < width) (hn : n < 9223372036854775808) :
    Calls Tryd.prog 84 #[.int .i64 (n : Int), .int .i64 (width : Int)] w fun e w' => e = .returned (.slice (some ⟨w.heap.size, 0, none⟩) width width) ∧ Own w' w.heap.size (.slice (some ⟨w.heap.size, 0, none⟩) width width) (be n width) ∧ Below w.heap.size w w' := by
  have hwm : width ≤ 140737488355328 := by omega
  have hw1 : IntKind.i64.wrap ((width : Int) - 1) = (width : Int) - 1 := by rw [IntKind.wrap_i64]; omega
  go_enter Tryd.func84, Tryd.ntmps84
  go_wp2_with (first | (at_make; refine make_bts rfl (.tmp 7) (.tmp 7) rfl _ _ width rfl rfl rfl rfl hwm ?_; intro w1 hown1 hb1; have HO1 := hide hown1; have HB1 := hide hb1; clear hown1 hb1))
  go_loopw [0, 6] (fun x i wr => ∃ (j m : Nat), j ≤ width ∧ i = .int .i64 ((j : Int) - 1) ∧ x = .int .i64 (m : Int) ∧ Hid (m = n / 256 ^ (width - j)) ∧ Hid (Own wr w.heap.size (.slice (some ⟨w.heap.size, 0, none⟩) width width) (List.replicate j 0 ++ (be n width).drop j)) ∧ Hid (Below w.heap.size w wr)) (fun _ i _ => (intOf i + 1).toNat)
  case atStart =>
    refine ⟨width, n, Nat.le_refl _, rfl, rfl, by unfold Hid; simp, ?_, HB1⟩
    have e : (be n width).drop width = [] := List.drop_of_length_le (by rw [be_len]; exact Nat.le_refl _)
    unfold Hid
    rw [e, List.append_nil]
    exact HO1.out
  case round =>
    obtain ⟨j, m, hj, rfl, rfl, HM, HOR, HBR⟩ := hrel
    by_cases hj0 : j = 0
    · subst hj0
      go_wp2
      go_ret
      exact ⟨rfl, HOR.out, HBR.out⟩
    · obtain ⟨i, rfl⟩ : ∃ i, j = i + 1 := ⟨j - 1, by omega⟩
      have e1 : ((i + 1 : Nat) : Int) - 1 = (i : Int) := by omega
      rw [e1]
      have hi0 : (0 : Int) ≤ (i : Int) := by omega
      have hiw : (i : Int) < (width : Int) := by omega
      have hiw2 : i < width := by omega
      have hmm : m < 9223372036854775808 := by
        have := HM.out
        have h9 : n / 256 ^ (width - (i + 1)) ≤ n := Nat.div_le_self _ _
        omega
      have hL : (List.replicate (i + 1) 0 ++ (be n width).drop (i + 1)).length = width := by
        rw [List.length_append, List.length_replicate, List.length_drop, be_len]
        omega
      have HLL := hide hL
      obtain ⟨x, hx⟩ : ∃ x, (List.replicate (i + 1) 0 ++ (be n width).drop (i + 1))[i]? = some x := ⟨_, List.getElem?_eq_getElem (by rw [hL]; exact hiw2)⟩
      have kk := HOR.out.cellAt hL i x hx
      have kf := HOR.out.frozenAt hL i
      obtain ⟨dg, hdg⟩ : ∃ dg, m % 256 = dg := ⟨_, rfl⟩
      obtain ⟨m2, hm2⟩ : ∃ m2, m / 256 = m2 := ⟨_, rfl⟩
      have hrem : (m : Int).tmod 256 = (dg : Int) := by rw [← hdg]; exact (Int.ofNat_tmod m 256).symm
      have hquo : (m : Int).tdiv 256 = (m2 : Int) := by rw [← hm2]; exact (Int.ofNat_tdiv m 256).symm
      have hcv : IntKind.u8.wrap (dg : Int) = (dg : Int) := by rw [IntKind.wrap_u8]; omega
      have hw2 : IntKind.i64.wrap (m2 : Int) = (m2 : Int) := by rw [IntKind.wrap_i64]; omega
      have hwd : IntKind.i64.wrap (dg : Int) = (dg : Int) := by rw [IntKind.wrap_i64]; omega
      have hbe : (be n width)[i]? = some dg := by
        have := be_at n width (width - (i + 1)) (by omega)
        rw [show width - 1 - (width - (i + 1)) = i by omega] at this
        rw [this, ← hdg, HM.out]
      have HS := hide (HOR.out.stored hL i dg)
      have hsb := set_back (be n width) width i dg (be_len n width) hiw2 hbe
      have HM2 : Hid (m2 = n / 256 ^ (width - i)) := by
        unfold Hid
        rw [← hm2, HM.out, Nat.div_div_eq_div_mul, ← Nat.pow_succ]
        congr 2
        omega
      rw [hsb] at HS
      have hwi : IntKind.i64.wrap ((i : Int) - 1) = (i : Int) - 1 := by rw [IntKind.wrap_i64]; omega
      clear hx hbe hsb hdg hm2 hL
      go_wp2
      exact ⟨⟨i, m2, by omega, by first | rfl | simp, by first | rfl | simp, HM2, HS, HBR.out.setCell (p := ⟨w.heap.size, i, none⟩) (Nat.le_refl _) _⟩, by first | (simp [intOf]; done) | (simp [intOf]; omega)⟩
end Go.Proofs.YtohoncgkekiihaaDoor
namespace Go.Proofs.YtohoncgkekiihaaDoor
open Go.RowKit FerryCrc
set_option linter.unusedVariables false
set_option linter.unusedSimpArgs false

theorem DW.put {w w1 : World} {d : Nat} {v v' : Value} {k : Nat} {q : Int} {L L' : List Nat} (h : DW w d v k q L) (ho : Own w1 (d + 1) v' L') (hf : Frm (fun k => v.ownBlock = some k) w w1) (hs : ∀ c ∈ L', c < 256) :
    DW (w1.setCell ⟨d, 0, none⟩ v') d v' k q L' ∧ Frm (WS d v) w (w1.setCell ⟨d, 0, none⟩ v') := by
  have hb : ¬ (v.ownBlock = some d) := fun e => by have := (h.blk d e).1; omega
  have a0 := hf.cell h.c0 hb
  have a1 := hf.cell h.c1 hb
  have a2 := hf.cell h.c2 hb
  refine ⟨⟨World.cell?_setCell_same _ _ _ a0, by rw [World.cell?_setCell_other _ _ _ _ (by simp)]; exact a1, by rw [World.cell?_setCell_other _ _ _ _ (by simp)]; exact a2, by rw [World.frozen?_setCell, hf.frozen h.c0 hb]; exact h.f0, by rw [World.frozen?_setCell, hf.frozen h.c1 hb]; exact h.f1, by rw [World.frozen?_setCell, hf.frozen h.c2 hb]; exact h.f2, ownsRow_setCell_below ho (by show d < d + 1; omega) _, hs⟩, ?_⟩
  exact (hf.mono (T := WS d v) (fun j _ t => .inr t)).trans (frm_setCell w1 ⟨d, 0, none⟩ v') (fun j _ t => .inl t)
theorem DW.spoil {w : World} {d : Nat} {v : Value} {k : Nat} {q : Int} {L : List Nat} (h : DW w d v k q L) (k2 : Nat) (q2 : Int) :
    DW ((w.setCell ⟨d, 1, none⟩ (.int .i64 (k2 : Int))).setCell ⟨d, 2, none⟩ (.int .i64 q2)) d v k2 q2 L ∧ Frm (WS d v) w ((w.setCell ⟨d, 1, none⟩ (.int .i64 (k2 : Int))).setCell ⟨d, 2, none⟩ (.int .i64 q2)) := by
  have h1 := World.cell?_setCell_same w ⟨d, 1, none⟩ (.int .i64 (k2 : Int)) h.c1
  have h2 : (w.setCell ⟨d, 1, none⟩ (.int .i64 (k2 : Int))).cell? ⟨d, 2, none⟩ = some (.int .i64 q) := by rw [World.cell?_setCell_other _ _ _ _ (by simp)]; exact h.c2
  refine ⟨⟨by rw [World.cell?_setCell_other _ _ _ _ (by simp), World.cell?_setCell_other _ _ _ _ (by simp)]; exact h.c0, by rw [World.cell?_setCell_other _ _ _ _ (by simp)]; exact h1, World.cell?_setCell_same _ _ _ h2, by rw [World.frozen?_setCell, World.frozen?_setCell]; exact h.f0, by rw [World.frozen?_setCell, World.frozen?_setCell]; exact h.f1, by rw [World.frozen?_setCell, World.frozen?_setCell]; exact h.f2, ownsRow_setCell_below (ownsRow_setCell_below h.own (by show d < d + 1; omega) _) (by show d < d + 1; omega) _, h.small⟩, ?_⟩
  exact ((frm_setCell w ⟨d, 1, none⟩ _).trans (frm_setCell _ ⟨d, 2, none⟩ _) (fun j _ t => t)).mono (fun j _ t => .inl t)
theorem dput_same {w w' : World} {d : Nat} {v : Value} {k : Nat} {q : Int} {L : List Nat} {e : Ending} (h : DW w d v k q L) (he : e = .returned (.tuple #[])) (hb : Below w.heap.size w w') : DPut w d v k q L e w' :=
  ⟨he, v, h.below hb, Frm.ofBelow hb, NewB.refl _ _⟩
/-- A put behind something that made new memory alone. -/
theorem dput_pre {w w1 w2 : World} {d : Nat} {v : Value} {k : Nat} {q : Int} {L : List Nat} {e : Ending} (hb : Below w.heap.size w w1) (h : DPut w1 d v k q L e w2) : DPut w d v k q L e w2 := by
  obtain ⟨h1, v', h2, h3, h4⟩ := h
  exact ⟨h1, v', h2, (Frm.ofBelow hb).trans h3 (fun j _ t => t), fun j hj => by
    rcases h4 j hj with e | e
    · exact .inl e
    · exact .inr (Nat.le_trans hb.size e)⟩

set_option maxRecDepth 100000 in
set_option maxHeartbeats 400000 in
theorem dput_any (d : Nat) (v : Value) (k : Nat) (L : List Nat) (code : Nat) (a : Option Addr) (m c : Nat) (l : List Nat) (w : World) (hw : DW w d v k (dq k L) L) (hx : Bts w a m c l) (hc : code ≠ 0 → l = []) (hl : L.length + m ≤ 140737488355328) :
    Calls Tryd.prog 83 #[.pointer (some ⟨d, 0, none⟩), .slice a m c, .int .i64 (code : Int)] w fun e w' => DPut w d v (aft k L (code, l)).1 (dq (aft k L (code, l)).1 (aft k L (code, l)).2) (aft k L (code, l)).2 e w' := by
  have c1 := hw.c1
  have HW := hide hw
  unfold aft
  by_cases hk : k = 0
  · subst hk
    rw [if_pos rfl]
    by_cases h0 : code = 0
    · subst h0
      have HX := hide hx
      have c0 := hw.c0
      have hbl : d + 1 ≤ w.heap.size := hw.lt
      clear hw hx hc
      show Calls _ _ _ _ fun e w' => DPut w d v 0 (-1) (L ++ l) e w'
      go_enter Tryd.func83, Tryd.ntmps83
      go_wp2_with (refine append_lie rfl (.tmp 28) (.tmp 29) rfl (d + 1) v L rfl HW.out.own a m c l rfl HX.out hl hbl ?_; intro v' w1 ho hf hn; obtain ⟨a', n', c', rfl⟩ := ho.sl; have HO := hide ho; have HF := hide hf; have HN := hide hn; clear ho hf hn; have hb : ¬ (v.ownBlock = some d) := (fun e => by have := (HW.out.blk d e).1; omega); have k0 := HF.out.cell HW.out.c0 hb; have k1 : w1.frozen? ⟨d, 0, none⟩ = false := (by rw [HF.out.frozen HW.out.c0 hb]; exact HW.out.f0); clear hb)
      go_end0
      obtain ⟨p1, p2⟩ := HW.out.put HO.out HF.out (fun c hc => by
        rcases List.mem_append.1 hc with h | h
        · exact HW.out.small c h
        · exact HX.out.small c h)
      exact ⟨rfl, _, p1, p2, HN.out⟩
    · obtain rfl := hc h0
      have d0 : ((code : Int) != 0) = true := by simp; exact h0
      obtain ⟨a1, c1', e1, hb1⟩ := hw.own.shown (by omega) hw.small
      have c0 := hw.c0
      rw [e1] at c0
      have c2 := hw.c2
      have f1 := hw.f1
      have f2 := hw.f2
      have HS := hide (hw.spoil code (L.length : Int))
      have HQ : Hid (dq code (L ++ []) = (L.length : Int)) := by unfold Hid dq; rw [if_neg h0, List.append_nil]
      clear hw hx hb1 hc e1
      generalize L.length = n at *
      go_enter Tryd.func83, Tryd.ntmps83
      go_wp2
      (try simp only [Exit.inBlock, Exit.then])
      refine bodyPost_ret (v := .tuple #[]) (results_none rfl _ _ _) rfl ?_
      refine ⟨rfl, v, ?_, HS.out.2, NewB.refl _ _⟩
      show DW _ d v code (dq code (L ++ [])) (L ++ [])
      rw [HQ.out, List.append_nil]
      exact HS.out.1
  · rw [if_neg hk]
    have d0 : ((k : Int) != 0) = true := by simp; exact hk
    clear hw hx hc
    go_enter Tryd.func83, Tryd.ntmps83
    go_wp2
    (try simp only [Exit.inBlock, Exit.then])
    refine bodyPost_ret (v := .tuple #[]) (results_none rfl _ _ _) rfl ?_
    exact dput_same HW.out rfl (Below.refl _ _)

theorem nil_any (w : World) : Bts w none 0 0 [] := ⟨rfl, by decide, by decide, fun c hc => by simp at hc, fun _ => ⟨rfl, rfl⟩, fun k hk => by omega⟩

set_option maxRecDepth 100000 in
theorem draw_all (d : Nat) (v : Value) (k : Nat) (L : List Nat) (a : Option Addr) (m c : Nat) (l : List Nat) (w : World) (hw : DW w d v k (dq k L) L) (hx : Bts w a m c l) (hl : L.length + m ≤ 140737488355328) :
    Calls Tryd.prog 67 #[.pointer (some ⟨d, 0, none⟩), .slice a m c] w fun e w' => DPut w d v (aft k L (0, l)).1 (dq (aft k L (0, l)).1 (aft k L (0, l)).2) (aft k L (0, l)).2 e w' := by
  have HC := hide (dput_any d v k L 0 a m c l w hw hx (fun h => absurd rfl h) hl)
  clear hw hx
  go_enter Tryd.func67, Tryd.ntmps67
  go_wp2_with fail
  refine Calls.mono HC.out ?_
  rintro e w1 ⟨rfl, h⟩
  have H := hide h
  clear h
  go_wp2
  go_end0
  exact ⟨rfl, H.out⟩

set_option maxRecDepth 100000 in
set_option maxHeartbeats 800000 in
theorem dnum_all (d : Nat) (v : Value) (k : Nat) (L : List Nat) (n : Int) (wd : Nat) (w : World) (hw : DW w d v k (dq k L) L) (hwd : wd = 1 ∨ wd = 2 ∨ wd = 4) (hl : L.length + 4 ≤ 140737488355328) :
    Calls Tryd.prog 63 #[.pointer (some ⟨d, 0, none⟩), .int .i64 n, .int .i64 (wd : Int)] w fun e w' => DPut w d v (aft k L (nput n wd)).1 (dq (aft k L (nput n wd)).1 (aft k L (nput n wd)).2) (aft k L (nput n wd)).2 e w' := by
  unfold nput
  have HW := hide hw
  by_cases hn : n < 0 ∨ (256 : Int) ^ wd ≤ n
  · rw [if_pos hn]
    have HC := hide (dput_any d v k L 4 none 0 0 [] w hw (nil_any w) (fun _ => rfl) (by omega))
    have key : n < 0 ∨ ¬ n < 0 ∧ (256 : Int) ^ wd ≤ n := by omega
    clear hw hn
    rcases key with key | ⟨key0, key⟩
    · go_enter Tryd.func63, Tryd.ntmps63
      go_wp2_with fail
      refine Calls.mono HC.out ?_
      rintro e w1 ⟨rfl, h⟩
      have H := hide h
      clear h
      go_wp2
      (try simp only [Exit.inBlock, Exit.then])
      refine bodyPost_ret (v := .tuple #[]) (results_none rfl _ _ _) rfl ?_
      exact ⟨rfl, H.out⟩
    · rcases hwd with rfl | rfl | rfl
      · have key2 : (255 : Int) < n := by
          have h : (256 : Int) ^ 1 = 256 := by decide
          omega
        clear key
        go_enter Tryd.func63, Tryd.ntmps63
        go_wp2_with fail
        refine Calls.mono (rmost_any _ _) ?_
        rintro e w1 ⟨rfl, rfl⟩
        go_wp2_with fail
        refine Calls.mono HC.out ?_
        rintro e w1 ⟨rfl, h⟩
        have H := hide h
        clear h
        go_wp2
        (try simp only [Exit.inBlock, Exit.then])
        refine bodyPost_ret (v := .tuple #[]) (results_none rfl _ _ _) rfl ?_
        exact ⟨rfl, H.out⟩
      · have key2 : (65535 : Int) < n := by
          have h : (256 : Int) ^ 2 = 65536 := by decide
          omega
        clear key
        go_enter Tryd.func63, Tryd.ntmps63
        go_wp2_with fail
        refine Calls.mono (rmost_any _ _) ?_
        rintro e w1 ⟨rfl, rfl⟩
        go_wp2_with fail
        refine Calls.mono HC.out ?_
        rintro e w1 ⟨rfl, h⟩
        have H := hide h
        clear h
        go_wp2
        (try simp only [Exit.inBlock, Exit.then])
        refine bodyPost_ret (v := .tuple #[]) (results_none rfl _ _ _) rfl ?_
        exact ⟨rfl, H.out⟩
      · have key2 : (4294967295 : Int) < n := by
          have h : (256 : Int) ^ 4 = 4294967296 := by decide
          omega
        clear key
        go_enter Tryd.func63, Tryd.ntmps63
        go_wp2_with fail
        refine Calls.mono (rmost_any _ _) ?_
        rintro e w1 ⟨rfl, rfl⟩
        go_wp2_with fail
        refine Calls.mono HC.out ?_
        rintro e w1 ⟨rfl, h⟩
        have H := hide h
        clear h
        go_wp2
        (try simp only [Exit.inBlock, Exit.then])
        refine bodyPost_ret (v := .tuple #[]) (results_none rfl _ _ _) rfl ?_
        exact ⟨rfl, H.out⟩
  · rw [if_neg hn]
    obtain ⟨m, rfl⟩ : ∃ m : Nat, n = (m : Int) := ⟨n.toNat, by omega⟩
    have hm0 : ¬ (m : Int) < 0 := by omega
    show Calls _ _ _ _ fun e w' => DPut w d v (aft k L (0, be m wd)).1 (dq (aft k L (0, be m wd)).1 (aft k L (0, be m wd)).2) (aft k L (0, be m wd)).2 e w'
    rcases hwd with rfl | rfl | rfl
    · have key2 : ¬ (255 : Int) < (m : Int) := by
        have h : (256 : Int) ^ 1 = 256 := by decide
        have h2 : ¬ (256 : Int) ^ 1 ≤ (m : Int) := fun h => hn (.inr h)
        omega
      have key3 : m < 9223372036854775808 := by omega
      have HN := hide (dnumber_any m 1 w (by decide) (by decide) key3)
      clear hn hw
      go_enter Tryd.func63, Tryd.ntmps63
      go_wp2_with fail
      refine Calls.mono (rmost_any _ _) ?_
      rintro e w1 ⟨rfl, rfl⟩
      go_wp2_with fail
      refine Calls.mono HN.out ?_
      rintro e w1 ⟨rfl, ho, hb⟩
      have HX := hide (ho.bts (be_len m 1) (by decide) (be_small m 1))
      have HB := hide hb
      clear ho hb
      go_wp2_with fail
      refine Calls.mono (dput_any d v k L 0 _ _ _ (be m 1) w1 (HW.out.below HB.out) HX.out (fun h => absurd rfl h) (by omega)) ?_
      intro e w2 h
      have H := hide (dput_pre HB.out h)
      obtain ⟨rfl, _⟩ := h
      go_wp2
      go_end0
      exact H.out
    · have key2 : ¬ (65535 : Int) < (m : Int) := by
        have h : (256 : Int) ^ 2 = 65536 := by decide
        have h2 : ¬ (256 : Int) ^ 2 ≤ (m : Int) := fun h => hn (.inr h)
        omega
      have key3 : m < 9223372036854775808 := by omega
      have HN := hide (dnumber_any m 2 w (by decide) (by decide) key3)
      clear hn hw
      go_enter Tryd.func63, Tryd.ntmps63
      go_wp2_with fail
      refine Calls.mono (rmost_any _ _) ?_
      rintro e w1 ⟨rfl, rfl⟩
      go_wp2_with fail
      refine Calls.mono HN.out ?_
      rintro e w1 ⟨rfl, ho, hb⟩
      have HX := hide (ho.bts (be_len m 2) (by decide) (be_small m 2))
      have HB := hide hb
      clear ho hb
      go_wp2_with fail
      refine Calls.mono (dput_any d v k L 0 _ _ _ (be m 2) w1 (HW.out.below HB.out) HX.out (fun h => absurd rfl h) (by omega)) ?_
      intro e w2 h
      have H := hide (dput_pre HB.out h)
      obtain ⟨rfl, _⟩ := h
      go_wp2
      go_end0
      exact H.out
    · have key2 : ¬ (4294967295 : Int) < (m : Int) := by
        have h : (256 : Int) ^ 4 = 4294967296 := by decide
        have h2 : ¬ (256 : Int) ^ 4 ≤ (m : Int) := fun h => hn (.inr h)
        omega
      have key3 : m < 9223372036854775808 := by omega
      have HN := hide (dnumber_any m 4 w (by decide) (by decide) key3)
      clear hn hw
      go_enter Tryd.func63, Tryd.ntmps63
      go_wp2_with fail
      refine Calls.mono (rmost_any _ _) ?_
      rintro e w1 ⟨rfl, rfl⟩
      go_wp2_with fail
      refine Calls.mono HN.out ?_
      rintro e w1 ⟨rfl, ho, hb⟩
      have HX := hide (ho.bts (be_len m 4) (by decide) (be_small m 4))
      have HB := hide hb
      clear ho hb
      go_wp2_with fail
      refine Calls.mono (dput_any d v k L 0 _ _ _ (be m 4) w1 (HW.out.below HB.out) HX.out (fun h => absurd rfl h) (by omega)) ?_
      intro e w2 h
      have H := hide (dput_pre HB.out h)
      obtain ⟨rfl, _⟩ := h
      go_wp2
      go_end0
      exact H.out

set_option maxRecDepth 100000 in
set_option maxHeartbeats 800000 in
theorem dtext_all (d : Nat) (v : Value) (k : Nat) (L : List Nat) (S : ByteArray) (w : World) (hw : DW w d v k (dq k L) L) (hl : L.length + 4 + S.size ≤ 140737488355328) :
    Calls Tryd.prog 69 #[.pointer (some ⟨d, 0, none⟩), .string S] w fun e w' => DPut w d v (aft k L (tput (bytesOf S))).1 (dq (aft k L (tput (bytesOf S))).1 (aft k L (tput (bytesOf S))).2) (aft k L (tput (bytesOf S))).2 e w' := by
  unfold tput
  have hsz := bytesOf_len S
  have HW := hide hw
  by_cases hn : 65535 < S.size
  · rw [if_pos (by rw [hsz]; exact hn)]
    have HC := hide (dput_any d v k L 5 none 0 0 [] w hw (nil_any w) (fun _ => rfl) (by omega))
    have d1 : (65535 : Int) < (S.size : Int) := by omega
    clear hw
    go_enter Tryd.func69, Tryd.ntmps69
    go_wp2_with fail
    refine Calls.mono HC.out ?_
    rintro e w1 ⟨rfl, h⟩
    have H := hide h
    clear h
    go_wp2
    (try simp only [Exit.inBlock, Exit.then])
    refine bodyPost_ret (v := .tuple #[]) (results_none rfl _ _ _) rfl ?_
    exact ⟨rfl, H.out⟩
  · rw [if_neg (by rw [hsz]; exact hn), hsz]
    obtain ⟨n, hn2⟩ : ∃ n, S.size = n := ⟨_, rfl⟩
    rw [hn2] at hl hn hsz ⊢
    have e1 : (S.size : Int) = (n : Int) := by omega
    have d1 : ¬ (65535 : Int) < (n : Int) := by omega
    have HN := hide (dnumber_any n 2 w (by decide) (by decide) (by omega))
    have HZ := hide hsz
    have HLN : Hid ((be n 2).length + S.size ≤ 140737488355328) := by unfold Hid; rw [be_len, hn2]; omega
    clear hw hsz
    go_enter Tryd.func69, Tryd.ntmps69
    go_wp2_with fail
    refine Calls.mono HN.out ?_
    rintro e w1 ⟨rfl, ho, hb⟩
    have HO1 := hide ho
    have HB1 := hide hb
    clear ho hb
    go_wp2_with (first | (refine append_str2 rfl (.tmp 12) (.tmp 13) rfl w.heap.size _ _ rfl HO1.out S rfl HLN.out HB1.out.size ?_; intro v' w2 ho hf hnb; have HO2 := hide ho; have HF2 := hide hf; clear ho hf hnb) | fail)
    have HB2 : Hid (Below w.heap.size w w2) := HB1.out.trans (HF2.out.below HB1.out.size (fun k e => (World.ownsRow.lt HO1.out k e).1))
    have hlen : (be n 2 ++ bytesOf S).length = n + 2 := by rw [List.length_append, be_len, HZ.out]; omega
    obtain ⟨a2, c2, e2, hx2⟩ := HO2.out.shown (by rw [hlen]; omega) (fun c hc => by
      rcases List.mem_append.1 hc with h | h
      · exact be_small n 2 c h
      · exact bytesOf_lt S c h)
    subst e2
    rw [hlen] at hx2 ⊢
    have HX2 := hide hx2
    clear hx2
    refine Calls.mono (dput_any d v k L 0 _ _ _ (be n 2 ++ bytesOf S) w2 (HW.out.below HB2.out) HX2.out (fun h => absurd rfl h) (by omega)) ?_
    intro e w3 h
    have H := hide (dput_pre HB2.out h)
    obtain ⟨rfl, _⟩ := h
    go_wp2
    go_end0
    exact H.out
end Go.Proofs.YtohoncgkekiihaaDoor
namespace Go.Proofs.YtohoncgkekiihaaDoor
open Go.RowKit FerryCrc
set_option linter.unusedVariables false
set_option linter.unusedSimpArgs false

set_option maxRecDepth 100000 in
set_option maxHeartbeats 1600000 in
theorem drecord_all (d : Nat) (v : Value) (k : Nat) (L : List Nat) (tag : Int) (a : Option Addr) (m c : Nat) (l : List Nat) (w : World) (hw : DW w d v k (dq k L) L) (hx : Bts w a m c l) (hl : L.length + 4 + m ≤ 140737488355328) :
    Calls Tryd.prog 44 #[.pointer (some ⟨d, 0, none⟩), .int .i64 tag, .slice a m c] w fun e w' => DPut w d v (aft k L (rput tag l)).1 (dq (aft k L (rput tag l)).1 (aft k L (rput tag l)).2) (aft k L (rput tag l)).2 e w' := by
  unfold rput
  have HW := hide hw
  have hsz := hx.size
  by_cases ht : tag < 1 ∨ 255 < tag
  · rw [if_pos ht]
    have HC := hide (dput_any d v k L 3 none 0 0 [] w hw (nil_any w) (fun _ => rfl) (by omega))
    have key : tag < 1 ∨ ¬ tag < 1 ∧ 255 < tag := by omega
    clear hw hx ht
    rcases key with key | ⟨key0, key⟩
    all_goals
      go_enter Tryd.func44, Tryd.ntmps44
      go_wp2_with fail
      refine Calls.mono HC.out ?_
      rintro e w1 ⟨rfl, h⟩
      have H := hide h
      clear h
      go_wp2
      (try simp only [Exit.inBlock, Exit.then])
      refine bodyPost_ret (v := .tuple #[]) (results_none rfl _ _ _) rfl ?_
      exact ⟨rfl, H.out⟩
  · rw [if_neg ht]
    obtain ⟨t, rfl⟩ : ∃ t : Nat, tag = (t : Int) := ⟨tag.toNat, by omega⟩
    have d1 : ¬ (t : Int) < 1 := by omega
    have d2 : ¬ (255 : Int) < (t : Int) := by omega
    have d3 : ¬ 255 < t := by omega
    have d4 : ¬ t < 1 := by omega
    have d5 : ¬ t = 0 := by omega
    by_cases hn : 65535 < l.length
    · rw [if_pos hn]
      have HC := hide (dput_any d v k L 5 none 0 0 [] w hw (nil_any w) (fun _ => rfl) (by omega))
      have e1 : (65535 : Int) < (m : Int) := by omega
      have e2 : 65535 < m := by omega
      clear hw hx ht
      go_enter Tryd.func44, Tryd.ntmps44
      go_wp2_with fail
      refine Calls.mono HC.out ?_
      rintro e w1 ⟨rfl, h⟩
      have H := hide h
      clear h
      go_wp2
      (try simp only [Exit.inBlock, Exit.then])
      refine bodyPost_ret (v := .tuple #[]) (results_none rfl _ _ _) rfl ?_
      exact ⟨rfl, H.out⟩
    · rw [if_neg hn]
      have e1 : ¬ (65535 : Int) < (m : Int) := by omega
      have e2 : ¬ 65535 < m := by omega
      have ht8 : t < 256 := by omega
      have hct : IntKind.u8.wrap (t : Int) = (t : Int) := by rw [IntKind.wrap_u8]; omega
      have HX := hide hx
      have HA : Hid (Below w.heap.size w (w.alloc (.cells #[.int .u8 (t : Int)] 5))) := (Below.refl _ _).alloc (Nat.le_refl _) _
      have HO1 : Hid (Own (w.alloc (.cells #[.int .u8 (t : Int)] 5)) w.heap.size (.slice (some ⟨w.heap.size, 0, none⟩) 1 1) [t]) := World.ownsRow_lit w #[.int .u8 (t : Int)] 1 (Nat.le_refl _) (by decide) rfl
      have HN := hide (dnumber_any m 2 (w.alloc (.cells #[.int .u8 (t : Int)] 5)) (by decide) (by decide) (by omega))
      have HEN : Hid (encR t l = [t] ++ be m 2 ++ l) := by unfold Hid encR; rw [hsz]; simp
      show Calls _ _ _ _ fun e w' => DPut w d v (aft k L (0, encR t l)).1 (dq (aft k L (0, encR t l)).1 (aft k L (0, encR t l)).2) (aft k L (0, encR t l)).2 e w'
      clear hw hx ht
      go_enter Tryd.func44, Tryd.ntmps44
      go_wp2_with fail
      generalize w.alloc (.cells #[.int .u8 (t : Int)] 5) = W1 at *
      refine Calls.mono HN.out ?_
      rintro e w2 ⟨rfl, ho, hb⟩
      have HB2 := hide (chain HA.out hb)
      have HO2 := hide (HO1.out.frm (S := fun _ => False) (Frm.ofBelow hb) (fun _ _ h => h))
      have HX2 := hide (ho.bts (be_len m 2) (by decide) (be_small m 2))
      have HL2 : Hid (([t] : List Nat).length + 2 ≤ 140737488355328) := by unfold Hid; show 1 + 2 ≤ _; omega
      have HL3 : Hid (([t] ++ be m 2).length + m ≤ 140737488355328) := by unfold Hid; rw [List.length_append, be_len]; show 1 + 2 + m ≤ _; omega
      clear ho hb
      go_wp2_with (first
        | (refine append_lie rfl (.tmp 22) (.tmp 25) rfl w.heap.size _ [t] rfl HO2.out _ 2 2 (be m 2) rfl HX2.out HL2.out HB2.out.size ?_; intro v3 w3 ho hf hq; have HO3 := hide ho; have HB3 := hide (HB2.out.trans (hf.below HB2.out.size (fun k e => (World.ownsRow.lt HO2.out k e).1))); clear ho hf hq)
        | (refine append_lie rfl (.tmp 28) (.tmp 29) rfl w.heap.size v3 ([t] ++ be m 2) rfl HO3.out a m c l rfl (HX.out.below HB3.out) HL3.out HB3.out.size ?_; intro v4 w4 ho hf hq; have HO4 := hide ho; have HB4 := hide (HB3.out.trans (hf.below HB3.out.size (fun k e => (World.ownsRow.lt HO3.out k e).1))); clear ho hf hq))
      have hlen : ([t] ++ be m 2 ++ l).length = m + 3 := by rw [List.length_append, List.length_append, be_len, hsz]; show 1 + 2 + m = _; omega
      obtain ⟨a2, c2, e2', hx2⟩ := HO4.out.shown (by rw [hlen]; omega) (fun c hc => by
        rcases List.mem_append.1 hc with h | h
        · rcases List.mem_append.1 h with h | h
          · rw [List.mem_singleton.1 h]; exact ht8
          · exact be_small m 2 c h
        · exact HX.out.small c h)
      subst e2'
      rw [hlen] at hx2 ⊢
      have HX4 := hide hx2
      clear hx2
      refine Calls.mono (dput_any d v k L 0 _ _ _ ([t] ++ be m 2 ++ l) w4 (HW.out.below HB4.out) HX4.out (fun h => absurd rfl h) (by omega)) ?_
      intro e w5 h
      rw [← HEN.out] at h
      have H := hide (dput_pre HB4.out h)
      obtain ⟨rfl, _⟩ := h
      go_wp2
      go_end0
      exact H.out

/-- append of bytes to a list that was made empty, where the list's block is known by another number. -/
theorem append_copyg {w : World} (g : Nat) (hg : w.heap.size = g) {ops : Array Oper} {rest : List Oper} {o : Oper} {act : Act} {Q : Exit → Act → World → Prop} (hgd : o.guard = none) (s x : Operand)
    (ho : o.op = .call { callee := .builtin .append, args := #[s, x], argTypes := #[23, 23] })
    (hs : act.eval s = .slice (some ⟨g, 0, none⟩) 0 0)
    (a : Option Addr) (m c : Nat) (l : List Nat) (hx : act.eval x = .slice a m c) (hb : Bts w a m c l)
    (h : ∀ a1 c1 w', Own w' w.heap.size (.slice a1 m c1) l → Bts w' a1 m c1 l → Below w.heap.size w w' → wpList Tryd.prog ops Q rest (act.put o.dst (.slice a1 m c1)) w') : wpList Tryd.prog ops Q (o :: rest) act (w.alloc (.cells #[] 5)) := by
  subst hg
  exact append_copy hgd s x ho hs a m c l hx hb h
/-- What Done answers. -/
def DDone (w : World) (k : Nat) (L : List Nat) (e : Ending) (w' : World) : Prop :=
  ∃ v, e = .returned (.tuple #[v, rerr (k : Int) (dq k L)]) ∧ Own w' w.heap.size v (if k = 0 then L else []) ∧ Below w.heap.size w w'
set_option maxRecDepth 100000 in
set_option maxHeartbeats 800000 in
theorem ddone_all (d : Nat) (v : Value) (k : Nat) (L : List Nat) (w : World) (hw : DW w d v k (dq k L) L) (hl : L.length ≤ 140737488355328) :
    Calls Tryd.prog 45 #[.pointer (some ⟨d, 0, none⟩)] w fun e w' => DDone w k L e w' := by
  unfold DDone
  have HT := hide (two_alloc w (.int .i64 0) (.int .i64 0) 31)
  have HB : Hid (Below w.heap.size w (w.alloc (.cells #[.int .i64 0, .int .i64 0] 31))) := (Below.refl _ _).alloc (Nat.le_refl _) _
  have HZ : Hid (w.heap.size < (w.alloc (.cells #[.int .i64 0, .int .i64 0] 31)).heap.size) := by unfold Hid; simp
  have H := hide (hw.below HB.out)
  by_cases hk : k = 0
  · subst hk
    rw [if_pos rfl]
    obtain ⟨a, c, e1, hb1⟩ := (hw.below HB.out).own.shown hl hw.small
    have HX := hide hb1
    have c0 := hw.c0
    have c1 := hw.c1
    rw [e1] at c0
    have hdl : d < w.heap.size := hw.lt
    have hq : dq 0 L = -1 := rfl
    rw [hq]
    clear hw hb1 e1
    obtain ⟨n, hn⟩ : ∃ n, L.length = n := ⟨_, rfl⟩
    rw [hn] at c0 HX hl
    go_enter Tryd.func45, Tryd.ntmps45
    go_wp2_with (refine append_copyg (w.heap.size + 1) (by simp) rfl (.tmp 14) (.tmp 18) rfl rfl a n c L rfl HX.out ?_; intro a3 c3 w3 ho hx hb; have HO3 := hide ho; have HB3 := hide hb; clear ho hx hb)
    generalize w.alloc (.cells #[.int .i64 0, .int .i64 0] 31) = W1 at *
    refine Calls.mono (rnone_any w3) ?_
    rintro e w4 ⟨rfl, hb⟩
    have HB4 := hide (chain HB3.out hb)
    have HT4 := hide (HT.out.below HB4.out)
    have HO4 := hide (HO3.out.frm (S := fun _ => False) (Frm.ofBelow hb) (fun _ _ h => h))
    have t0 := HT4.out.c0
    have t1 := HT4.out.c1
    have f0 := HT4.out.f0
    have f1 := HT4.out.f1
    clear hb
    unfold rerr
    go_wp2
    have q0 := (HT4.out.set (.int .i64 0) (.int .i64 (-1))).c0
    have q1 := (HT4.out.set (.int .i64 0) (.int .i64 (-1))).c1
    have hne : ∀ k, (Value.slice a3 n c3).ownBlock = some k → ¬ k = w.heap.size := fun k hk => by have := (World.ownsRow.lt HO3.out k hk).1; have := HZ.out; omega
    have HO5 := hide ((HO4.out.frm (frm_setCell w4 ⟨w.heap.size, 0, none⟩ (.int .i64 0)) (fun k hk (e : k = w.heap.size) => hne k hk e)).frm (frm_setCell _ ⟨w.heap.size, 1, none⟩ (.int .i64 (-1))) (fun k hk (e : k = w.heap.size) => hne k hk e))
    have HW := hide (bel_two (u := .int .i64 0) (v := .int .i64 (-1)) (chain HB.out HB4.out) (Nat.le_refl _))
    (try simp only [Exit.inBlock, Exit.then])
    refine bodyPost_ret (v := .tuple #[.slice a3 n c3, rerr 0 (-1)]) (by simp [results, Tryd.results45, go_sem, q0, q1]; rfl) rfl ?_
    exact ⟨_, rfl, HO5.out.wk (by have := HZ.out; omega), HW.out⟩
  · rw [if_neg hk]
    have d0 : ((k : Int) != 0) = true := by simp; exact hk
    have c1 := H.out.c1
    have c2 := H.out.c2
    generalize dq k L = q at *
    have hdl := hw.lt
    have t0 := HT.out.c0
    have t1 := HT.out.c1
    have f0 := HT.out.f0
    have f1 := HT.out.f1
    clear hw hk
    go_enter Tryd.func45, Tryd.ntmps45
    go_wp2_with fail
    generalize w.alloc (.cells #[.int .i64 0, .int .i64 0] 31) = W1 at *
    go_wp2
    go_region
    all_goals go_wp2
    all_goals
      have q0 := (HT.out.set (.int .i64 (k : Int)) (.int .i64 q)).c0
      have q1 := (HT.out.set (.int .i64 (k : Int)) (.int .i64 q)).c1
      have HW := hide ((bel_two (u := .int .i64 (k : Int)) (v := .int .i64 q) HB.out (Nat.le_refl _)).drew)
      (try simp only [Exit.inBlock, Exit.then])
      refine bodyPost_ret (v := .tuple #[.slice none 0 0, rerr (k : Int) q]) (by simp [results, Tryd.results45, go_sem, q0, q1]; rfl) rfl ?_
      exact ⟨_, rfl, ⟨rfl, .inl ⟨rfl, rfl⟩⟩, HW.out⟩
end Go.Proofs.YtohoncgkekiihaaDoor
