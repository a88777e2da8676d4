/-
  The puts of a script, read back.
  The puts of a script, written.
  Walk of the law WireBack.
-/
import Derived.Test.YtkkogkdalcigkaaDoorWbOne
namespace Go.Proofs.YtkkogkdalcigkaaDoor
open Classical
open Go.RowKit FerryCrc
set_option linter.unusedVariables false
set_option linter.unusedSimpArgs false

def piece (o : Op7) [Decidable (Fit o)] : List Nat := if Fit o then enc1 o else []
theorem encs_eq (l : List Op7) : encs l = l.flatMap (fun o => piece o) := rfl
theorem encs_take {l : List Op7} {t : Nat} {o : Op7} (h : l[t]? = some o) : encs (l.take (t + 1)) = encs (l.take t) ++ piece o := by
  rw [encs_eq, encs_eq, List.take_add_one, h, List.flatMap_append]
  simp
theorem encs_split (l : List Op7) (t : Nat) : encs l = encs (l.take t) ++ encs (l.drop t) := by
  rw [encs_eq, encs_eq, encs_eq, ← List.flatMap_append, List.take_append_drop]
theorem encs_rest {l : List Op7} {t : Nat} {o : Op7} {L X R : List Nat} (h : l[t]? = some o) (hx : L ++ X = encs l ++ R) (hp : (encs (l.take t)).length ≤ L.length) :
    L.drop (encs (l.take t)).length ++ X = piece o ++ (encs (l.drop (t + 1)) ++ R) := by
  have h1 := congrArg (List.drop (encs (l.take t)).length) hx
  rw [List.drop_append_of_le_length hp] at h1
  rw [h1, encs_split l (t + 1), encs_take h, List.append_assoc, List.append_assoc, List.drop_left]
theorem encs_le (l : List Op7) (t : Nat) : (encs (l.take t)).length ≤ (encs l).length := by
  rw [encs_split l t, List.length_append]; omega

theorem one_any {E : Nat → Addr} (c g len p : Nat) (L X R : List Nat) (kind : Int) (sec : Bool) (cur N lo hi : Int) (S : ByteArray) (w : World) (h : Cur w c g len p len L) (w0 : World) (he0 : Errs w0 E) (hb0 : Below w0.heap.size w0 w) (hc0 : w0.heap.size ≤ c) (hf : Fit ⟨kind, sec, cur, N, lo, hi, S⟩) (hx : L.drop p ++ X = enc1 ⟨kind, sec, cur, N, lo, hi, S⟩ ++ R) :
    Calls Tryd.prog 61 #[.pointer (some ⟨c, 0, none⟩), .agg #[.int .i64 kind, .bool sec, .int .i64 cur, .int .i64 N, .int .i64 lo, .int .i64 hi, .string S]] w fun e w' => One w c g len p L (enc1 ⟨kind, sec, cur, N, lo, hi, S⟩).length e w' := by
  have he := he0.below hb0
  rcases hf with ⟨h1, h2, h3⟩ | ⟨h1, h2, h3⟩ | ⟨h1, h2, h3⟩ | h1 | h1 | ⟨h1, h2⟩ | ⟨h1, h2, h3, h4⟩
  all_goals simp only at *
  all_goals subst h1
  · obtain ⟨m, rfl⟩ := Int.eq_ofNat_of_zero_le h2
    have e1 : enc1 ⟨1, sec, cur, (m : Int), lo, hi, S⟩ = be m 1 := rfl
    rw [e1] at hx ⊢
    rw [be_len]
    exact one_u8 c g len p L X R sec cur m lo hi S w h he (by omega) hx
  · obtain ⟨m, rfl⟩ := Int.eq_ofNat_of_zero_le h2
    have e1 : enc1 ⟨2, sec, cur, (m : Int), lo, hi, S⟩ = be m 2 := rfl
    rw [e1] at hx ⊢
    rw [be_len]
    exact one_u16 c g len p L X R sec cur m lo hi S w h he (by omega) hx
  · obtain ⟨m, rfl⟩ := Int.eq_ofNat_of_zero_le h2
    have e1 : enc1 ⟨3, sec, cur, (m : Int), lo, hi, S⟩ = be m 4 := rfl
    rw [e1] at hx ⊢
    rw [be_len]
    exact one_u32 c g len p L X R sec cur m lo hi S w h he (by omega) hx
  · have e1 : enc1 ⟨4, sec, cur, N, lo, hi, S⟩ = be (bits .and .i64 N 1).toNat 1 := rfl
    rw [e1] at hx ⊢
    rw [be_len]
    have hb := bit_low N
    exact one_flag c g len p L X R sec cur N lo hi S w h w0 he0 hb0 hc0 _ (by omega) (by omega) hx
  · have e1 : enc1 ⟨5, sec, cur, N, lo, hi, S⟩ = bytesOf S := rfl
    rw [e1] at hx ⊢
    rw [bytesOf_len]
    exact one_raw c g len p L X R sec cur N lo hi S w h he hx
  · have e1 : enc1 ⟨6, sec, cur, N, lo, hi, S⟩ = be S.size 2 ++ bytesOf S := rfl
    rw [e1] at hx ⊢
    rw [List.length_append, be_len, bytesOf_len]
    exact one_text c g len p L X R sec cur N lo hi S w h he h2 hx
  · obtain ⟨m, rfl⟩ := Int.eq_ofNat_of_zero_le (show 0 ≤ N by omega)
    have e1 : enc1 ⟨7, sec, cur, (m : Int), lo, hi, S⟩ = encR m (bytesOf S) := rfl
    rw [e1] at hx ⊢
    rw [encR_len, bytesOf_len]
    exact one_record c g len p L X R sec cur m lo hi S w h w0 he0 hb0 hc0 (by omega) h4 hx

/-- What reading a script's puts back gives. -/
def Reread (w : World) (lb : Nat) (L A : List Nat) (e : Ending) (w' : World) : Prop :=
  ∃ (c g : Nat) (code : Int) (ok : Bool), e = .returned (.tuple #[.pointer (some ⟨c, 0, none⟩), .int .i64 code, .bool ok]) ∧ w.heap.size ≤ c ∧ Below w.heap.size w w' ∧ ((A.length ≤ lb ∧ code = 0 ∧ ok = true ∧ Cur w' c g lb A.length lb L) ∨ (lb < A.length ∧ (code = 1 ∨ code = 5)))

set_option maxRecDepth 100000 in
set_option maxHeartbeats 4000000 in
theorem reread_any {E : Nat → Addr} (w0 : World) (he0 : Errs w0 E) (a : Option Addr) (len cap : Nat) (l : List Op7) (hs : Rcs Op7.cells 7 w0 a len cap l) (hm : len ≤ 1048576) (ab : Option Addr) (lb cb : Nat) (L X R : List Nat) (w : World) (hb : Bts w ab lb cb L) (hb0 : Below w0.heap.size w0 w) (hx : L ++ X = encs l ++ R) :
    Calls Tryd.prog 16 #[.slice ab lb cb, .slice a len cap] w fun e w' => Reread w lb L (encs l) e w' := by
  have HE := hide he0
  have HS := hide hs
  have HZ := hide hs.size
  have HLB := hide hb.size
  have HX := hide hx
  have HB0 := hide hb0
  have HC := hide (copen_any ab lb cb L w hb)
  clear he0 hs hb hx hb0
  go_enter Tryd.func16, Tryd.ntmps16
  go_wp2_with fail
  refine Calls.mono HC.out ?_
  rintro e w1 ⟨c, hc, rfl, hcur, hb1⟩
  obtain ⟨g, hg⟩ : ∃ g, w.heap.size = g := ⟨_, rfl⟩
  rw [hg] at hcur
  have HCU := hide hcur
  have HB1 := hide hb1
  clear hcur hb1 HC
  have hc0 : w0.heap.size ≤ c := by have := HB0.out.size; omega
  go_wp2_with fail
  go_loopw [8] (fun i wr => ∃ (t : Nat), t ≤ len ∧ i = .int .i64 (t : Int) ∧ Hid (Cur wr c g lb (encs (l.take t)).length lb L) ∧ Hid (Below w.heap.size w wr)) (fun i _ => len - (intOf i).toNat)
  case atStart => exact ⟨0, by omega, rfl, HCU, HB1⟩
  case round =>
    obtain ⟨t, ht, rfl, HC, HB⟩ := hrel
    have HBW := hide (chain HB0.out HB.out)
    by_cases hlt : t < len
    · obtain ⟨o, ho⟩ : ∃ o, l[t]? = some o := ⟨_, List.getElem?_eq_getElem (by rw [HZ.out]; exact hlt)⟩
      obtain ⟨b, off, rfl, hcell⟩ := HS.out.at Op7.len (by decide) ho
      have HT := hide (encs_take ho)
      have HR := hide (encs_rest ho HX.out (by rw [HLB.out]; exact HC.out.le))
      have HTL := hide (encs_le l (t + 1))
      have HCE : Hid (∀ W, Below wr.heap.size wr W → W.cell? ⟨b, off + t * 7, none⟩ = some (.int .i64 o.kind) ∧ W.cell? ⟨b, off + t * 7 + 1, none⟩ = some (.bool o.sec) ∧ W.cell? ⟨b, off + t * 7 + 2, none⟩ = some (.int .i64 o.cur) ∧ W.cell? ⟨b, off + t * 7 + 3, none⟩ = some (.int .i64 o.n) ∧ W.cell? ⟨b, off + t * 7 + 4, none⟩ = some (.int .i64 o.lo) ∧ W.cell? ⟨b, off + t * 7 + 5, none⟩ = some (.int .i64 o.hi) ∧ W.cell? ⟨b, off + t * 7 + 6, none⟩ = some (.string o.s)) := fun W hW =>
        ⟨cell_below (cell_below (hcell 0 _ rfl) HBW.out) hW, cell_below (cell_below (hcell 1 _ rfl) HBW.out) hW, cell_below (cell_below (hcell 2 _ rfl) HBW.out) hW, cell_below (cell_below (hcell 3 _ rfl) HBW.out) hW, cell_below (cell_below (hcell 4 _ rfl) HBW.out) hW, cell_below (cell_below (hcell 5 _ rfl) HBW.out) hW, cell_below (cell_below (hcell 6 _ rfl) HBW.out) hW⟩
      clear hcell ho
      obtain ⟨kind, sec, cur, n, lo, hi, S⟩ := o
      simp only at HCE
      obtain ⟨f0, f1, f2, f3, f4, f5, f6⟩ := HCE.out wr (Below.refl _ _)
      go_wp2_with fail
      refine Calls.mono (fits_any kind sec cur n lo hi S _) ?_
      rintro e w2 ⟨rfl, hb2⟩
      have HB2 := hide hb2
      have HC2 := hide (HC.out.below hb2)
      clear hb2 f0 f1 f2 f3 f4 f5 f6
      obtain ⟨f0, f1, f2, f3, f4, f5, f6⟩ := HCE.out w2 HB2.out
      by_cases hfit : Fit ⟨kind, sec, cur, n, lo, hi, S⟩
      · have e9 : piece ⟨kind, sec, cur, n, lo, hi, S⟩ = enc1 ⟨kind, sec, cur, n, lo, hi, S⟩ := if_pos hfit
        rw [e9] at HT HR
        have HO := hide (one_any c g lb _ L X _ kind sec cur n lo hi S w2 HC2.out w0 HE.out (chain HBW.out HB2.out) hc0 hfit HR.out)
        rw [decide_eq_true hfit]
        generalize enc1 ⟨kind, sec, cur, n, lo, hi, S⟩ = A at *
        clear hfit e9
        go_wp2_with fail
        refine Calls.mono HO.out ?_
        rintro e w3 ⟨code, ok, p', rfl, q1, q2, q3⟩
        have HQ1 := hide q1
        have HQ2 := hide ((chain HB.out HB2.out).trans (q2.below (chain HB.out HB2.out).size (fun j e => by omega)))
        have hLl : L.length = lb := HLB.out
        clear q1 q2 f0 f1 f2 f3 f4 f5 f6 HO
        rcases q3 with ⟨g1, rfl, rfl, rfl⟩ | ⟨g1, rfl | rfl⟩
        · go_wp2
          exact ⟨⟨t + 1, by omega, by first | rfl | simp, by rw [HT.out, List.length_append]; exact HQ1, HQ2⟩, by simp [intOf]; omega⟩
        · go_wp2
          go_ret3
          refine ⟨c, g, 1, ok, rfl, by omega, HQ2.out, .inr ⟨?_, .inl rfl⟩⟩
          have h1 := HTL.out
          rw [HT.out, List.length_append] at h1
          omega
        · go_wp2
          go_ret3
          refine ⟨c, g, 5, ok, rfl, by omega, HQ2.out, .inr ⟨?_, .inr rfl⟩⟩
          have h1 := HTL.out
          rw [HT.out, List.length_append] at h1
          omega
      · have e9 : piece ⟨kind, sec, cur, n, lo, hi, S⟩ = [] := if_neg hfit
        rw [e9, List.append_nil] at HT
        rw [decide_eq_false hfit]
        clear hfit e9 HR
        go_wp2
        exact ⟨⟨t + 1, by omega, by first | rfl | simp, by rw [HT.out]; exact HC2, hide (chain HB.out HB2.out)⟩, by simp [intOf]; omega⟩
    · obtain rfl : t = len := by omega
      go_wp2
      go_ret3
      refine ⟨c, g, 0, true, rfl, by omega, HB.out, .inl ?_⟩
      have e1 : l.take t = l := by rw [← HZ.out]; exact List.take_length
      have h1 := HC.out
      rw [e1] at h1
      exact ⟨h1.le, rfl, rfl, h1⟩
end Go.Proofs.YtkkogkdalcigkaaDoor
namespace Go.Proofs.YtkkogkdalcigkaaDoor
open Classical
open Go.RowKit FerryCrc
set_option linter.unusedVariables false
set_option linter.unusedSimpArgs false

theorem aft_n {L : List Nat} {m wd : Nat} (h : m < 256 ^ wd) : aft 0 L (nput (m : Int) wd) = (0, L ++ be m wd) := by
  have h2 : ¬ ((m : Int) < 0 ∨ (256 : Int) ^ wd ≤ (m : Int)) := by
    have h3 : ((256 ^ wd : Nat) : Int) = (256 : Int) ^ wd := by simp
    omega
  unfold nput aft
  rw [if_neg h2, if_pos rfl]
  rfl
theorem aft_t {L : List Nat} {S : ByteArray} (h : S.size ≤ 65535) : aft 0 L (tput (bytesOf S)) = (0, L ++ (be S.size 2 ++ bytesOf S)) := by
  have h2 : ¬ (65535 < (bytesOf S).length) := by rw [bytesOf_len]; omega
  unfold tput aft
  rw [if_neg h2, if_pos rfl, bytesOf_len]
theorem aft_r {L : List Nat} {m : Nat} {S : ByteArray} (h1 : 1 ≤ m) (h2 : m ≤ 255) (h : S.size ≤ 65535) : aft 0 L (rput (m : Int) (bytesOf S)) = (0, L ++ encR m (bytesOf S)) := by
  have h3 : ¬ (65535 < (bytesOf S).length) := by rw [bytesOf_len]; omega
  have h4 : ¬ ((m : Int) < 1 ∨ 255 < (m : Int)) := by omega
  unfold rput
  rw [if_neg h4, if_neg h3]
  rfl

theorem piece_len (o : Op7) (h : o.s.size ≤ 1048576) : (piece o).length ≤ 1048580 := by
  unfold piece enc1
  have hl := bytesOf_len o.s
  split
  · repeat' split
    all_goals simp only [be_len, List.length_append, encR_len, hl]
    all_goals omega
  · simp

set_option maxRecDepth 100000 in
set_option maxHeartbeats 4000000 in
theorem written_any {E : Nat → Addr} (w0 : World) (he0 : Errs w0 E) (a : Option Addr) (len cap : Nat) (l : List Op7) (hs : Rcs Op7.cells 7 w0 a len cap l) (hok : ∀ o ∈ l, o.s.size ≤ 1048576) (hm : len ≤ 1048576) (w : World) (hb0 : Below w0.heap.size w0 w) :
    Calls Tryd.prog 15 #[.slice a len cap] w fun e w' => ∃ ab cb, e = .returned (.tuple #[.slice ab (encs l).length cb, .bool true]) ∧ Bts w' ab (encs l).length cb (encs l) ∧ Below w.heap.size w w' := by
  have HE := hide he0
  have HS := hide hs
  have HOK := hide hok
  have HZ := hide hs.size
  have HB0 := hide hb0
  clear he0 hs hb0 hok
  go_enter Tryd.func15, Tryd.ntmps15
  go_wp2_with fail
  refine Calls.mono (newWriter_any w) ?_
  rintro e w1 ⟨rfl, hw1, hb1⟩
  obtain ⟨d, hd⟩ : ∃ d, w.heap.size = d := ⟨_, rfl⟩
  rw [hd] at hw1 ⊢
  have HW1 := hide hw1
  have HB1 := hide hb1
  clear hw1 hb1
  go_wp2_with fail
  go_loopw [5] (fun i wr => ∃ (t : Nat) (v : Value), t ≤ len ∧ i = .int .i64 (t : Int) ∧ Hid (Wr wr d v .nilIface (encs (l.take t))) ∧ Hid ((encs (l.take t)).length ≤ t * 1048580) ∧ Hid (Below w.heap.size w wr)) (fun i _ => len - (intOf i).toNat)
  case atStart => exact ⟨0, _, by omega, rfl, HW1, by unfold Hid; simp [encs], HB1⟩
  case round =>
    obtain ⟨t, v, ht, rfl, HW, HL, HB⟩ := hrel
    have HBW := hide (chain HB0.out HB.out)
    have hbound : t * 1048580 ≤ 1048576 * 1048580 := Nat.mul_le_mul_right _ (by omega)
    by_cases hlt : t < len
    · obtain ⟨o, ho⟩ : ∃ o, l[t]? = some o := ⟨_, List.getElem?_eq_getElem (by rw [HZ.out]; exact hlt)⟩
      obtain ⟨b, off, rfl, hcell⟩ := HS.out.at Op7.len (by decide) ho
      have HO := hide (HOK.out o (List.mem_of_getElem? ho))
      have HT := hide (encs_take ho)
      have HPL := hide (piece_len o HO.out)
      have f0 : wr.cell? ⟨b, off + t * 7, none⟩ = some (.int .i64 o.kind) := cell_below (hcell 0 _ rfl) HBW.out
      have f1 : wr.cell? ⟨b, off + t * 7 + 1, none⟩ = some (.bool o.sec) := cell_below (hcell 1 _ rfl) HBW.out
      have f2 : wr.cell? ⟨b, off + t * 7 + 2, none⟩ = some (.int .i64 o.cur) := cell_below (hcell 2 _ rfl) HBW.out
      have f3 : wr.cell? ⟨b, off + t * 7 + 3, none⟩ = some (.int .i64 o.n) := cell_below (hcell 3 _ rfl) HBW.out
      have f4 : wr.cell? ⟨b, off + t * 7 + 4, none⟩ = some (.int .i64 o.lo) := cell_below (hcell 4 _ rfl) HBW.out
      have f5 : wr.cell? ⟨b, off + t * 7 + 5, none⟩ = some (.int .i64 o.hi) := cell_below (hcell 5 _ rfl) HBW.out
      have f6 : wr.cell? ⟨b, off + t * 7 + 6, none⟩ = some (.string o.s) := cell_below (hcell 6 _ rfl) HBW.out
      clear hcell ho
      obtain ⟨kind, sec, cur, n, lo, hi, S⟩ := o
      simp only at f0 f1 f2 f3 f4 f5 f6
      have HA : Hid (Below wr.heap.size wr (wr.alloc (.cells #[.int .i64 kind, .bool sec, .int .i64 cur, .int .i64 n, .int .i64 lo, .int .i64 hi, .string S] 30))) := (Below.refl _ _).alloc (Nat.le_refl _) _
      have z0 : (wr.alloc (.cells #[.int .i64 kind, .bool sec, .int .i64 cur, .int .i64 n, .int .i64 lo, .int .i64 hi, .string S] 30)).cell? ⟨wr.heap.size, 0, none⟩ = some (.int .i64 kind) := (World.cell?_alloc_at _ _ _ _ rfl).trans rfl
      have z3 : (wr.alloc (.cells #[.int .i64 kind, .bool sec, .int .i64 cur, .int .i64 n, .int .i64 lo, .int .i64 hi, .string S] 30)).cell? ⟨wr.heap.size, 3, none⟩ = some (.int .i64 n) := (World.cell?_alloc_at _ _ _ _ rfl).trans rfl
      have z6 : (wr.alloc (.cells #[.int .i64 kind, .bool sec, .int .i64 cur, .int .i64 n, .int .i64 lo, .int .i64 hi, .string S] 30)).cell? ⟨wr.heap.size, 6, none⟩ = some (.string S) := (World.cell?_alloc_at _ _ _ _ rfl).trans rfl
      have HQL : Hid ((encs (l.take (t + 1))).length ≤ (t + 1) * 1048580) := by
        unfold Hid
        rw [HT.out, List.length_append, Nat.add_mul]
        have h1 := HL.out
        have h2 := HPL.out
        omega
      go_wp2_with fail
      refine Calls.mono (fits_any kind sec cur n lo hi S _) ?_
      rintro e w2 ⟨rfl, hb2⟩
      replace z0 := cell_below z0 hb2
      replace z3 := cell_below z3 hb2
      replace z6 := cell_below z6 hb2
      have HB12 := hide (chain HA.out hb2)
      have HW2 := hide (HW.out.below HB12.out)
      have HB2 := hide (chain HB.out HB12.out)
      have HEE := hide (HE.out.below (chain HBW.out HB12.out))
      clear hb2 f0 f1 f2 f3 f4 f5 f6 HA HB12
      have hdl : d < w2.heap.size := HW2.out.lt
      by_cases hfit : Fit ⟨kind, sec, cur, n, lo, hi, S⟩
      · rw [decide_eq_true hfit]
        have hS : S.size ≤ 1048576 := HO.out
        obtain ⟨sz, hsz⟩ : ∃ sz, S.size = sz := ⟨_, rfl⟩
        have hfit0 := hfit
        rcases hfit0 with ⟨h1, g1, g2⟩ | ⟨h1, g1, g2⟩ | ⟨h1, g1, g2⟩ | h1 | h1 | ⟨h1, g1⟩ | ⟨h1, g1, g2, g3⟩
        all_goals simp only at *
        all_goals subst h1
        · obtain ⟨m, rfl⟩ := Int.eq_ofNat_of_zero_le g1
          have e9 : piece ⟨1, sec, cur, (m : Int), lo, hi, S⟩ = be m 1 := if_pos hfit
          rw [e9] at HT
          have HP := hide (wU8_all d v E 0 (encs (l.take t)) (m : Int) w2 HW2.out HEE.out (by have := HL.out; omega))
          rw [aft_n (by omega)] at HP
          clear hfit e9
          go_wp2_with fail
          refine Calls.mono HP.out ?_
          rintro e w3 ⟨rfl, v', q1, q2, q3⟩
          have HQ : Hid (Wr w3 d v' .nilIface (encs (l.take (t + 1)))) := by rw [HT.out]; exact q1
          have HQB := hide (HB2.out.trans (q2.below HB2.out.size (fun j e => by rcases e with e | e; omega; have := (HW2.out.blk j e).1; omega)))
          clear q1 q2 q3 z0 z3 z6
          go_wp2
          exact ⟨⟨t + 1, v', by omega, by first | rfl | simp, HQ, HQL, HQB⟩, by simp [intOf]; omega⟩
        · obtain ⟨m, rfl⟩ := Int.eq_ofNat_of_zero_le g1
          have e9 : piece ⟨2, sec, cur, (m : Int), lo, hi, S⟩ = be m 2 := if_pos hfit
          rw [e9] at HT
          have HP := hide (wU16_all d v E 0 (encs (l.take t)) (m : Int) w2 HW2.out HEE.out (by have := HL.out; omega))
          rw [aft_n (by omega)] at HP
          clear hfit e9
          go_wp2_with fail
          refine Calls.mono HP.out ?_
          rintro e w3 ⟨rfl, v', q1, q2, q3⟩
          have HQ : Hid (Wr w3 d v' .nilIface (encs (l.take (t + 1)))) := by rw [HT.out]; exact q1
          have HQB := hide (HB2.out.trans (q2.below HB2.out.size (fun j e => by rcases e with e | e; omega; have := (HW2.out.blk j e).1; omega)))
          clear q1 q2 q3 z0 z3 z6
          go_wp2
          exact ⟨⟨t + 1, v', by omega, by first | rfl | simp, HQ, HQL, HQB⟩, by simp [intOf]; omega⟩
        · obtain ⟨m, rfl⟩ := Int.eq_ofNat_of_zero_le g1
          have e9 : piece ⟨3, sec, cur, (m : Int), lo, hi, S⟩ = be m 4 := if_pos hfit
          rw [e9] at HT
          have HP := hide (wU32_all d v E 0 (encs (l.take t)) (m : Int) w2 HW2.out HEE.out (by have := HL.out; omega))
          rw [aft_n (by omega)] at HP
          clear hfit e9
          go_wp2_with fail
          refine Calls.mono HP.out ?_
          rintro e w3 ⟨rfl, v', q1, q2, q3⟩
          have HQ : Hid (Wr w3 d v' .nilIface (encs (l.take (t + 1)))) := by rw [HT.out]; exact q1
          have HQB := hide (HB2.out.trans (q2.below HB2.out.size (fun j e => by rcases e with e | e; omega; have := (HW2.out.blk j e).1; omega)))
          clear q1 q2 q3 z0 z3 z6
          go_wp2
          exact ⟨⟨t + 1, v', by omega, by first | rfl | simp, HQ, HQL, HQB⟩, by simp [intOf]; omega⟩
        · obtain ⟨bv, hbv⟩ : ∃ bv : Bool, bits .and .i64 n 1 = (if bv then 1 else 0) := by
            rcases bit_low n with e | e
            · exact ⟨false, e⟩
            · exact ⟨true, e⟩
          have e9 : piece ⟨4, sec, cur, n, lo, hi, S⟩ = be (bits .and .i64 n 1).toNat 1 := if_pos hfit
          rw [e9, hbv] at HT
          have HP := hide (wFlag_all d v E 0 (encs (l.take t)) bv w2 HW2.out HEE.out (by have := HL.out; omega))
          clear hfit e9
          cases bv
          · have e8 : aft 0 (encs (l.take t)) (nput (if false = true then 1 else 0) 1) = (0, encs (l.take t) ++ be 0 1) := aft_n (m := 0) (wd := 1) (by decide)
            rw [e8] at HP
            replace hbv : bits .and .i64 n 1 = 0 := hbv
            go_wp2_with fail
            refine Calls.mono HP.out ?_
            rintro e w3 ⟨rfl, v', q1, q2, q3⟩
            have HQ : Hid (Wr w3 d v' .nilIface (encs (l.take (t + 1)))) := by rw [HT.out]; exact q1
            have HQB := hide (HB2.out.trans (q2.below HB2.out.size (fun j e => by rcases e with e | e; omega; have := (HW2.out.blk j e).1; omega)))
            clear q1 q2 q3 z0 z3 z6
            go_wp2
            exact ⟨⟨t + 1, v', by omega, by first | rfl | simp, HQ, HQL, HQB⟩, by simp [intOf]; omega⟩
          · have e8 : aft 0 (encs (l.take t)) (nput (if true = true then 1 else 0) 1) = (0, encs (l.take t) ++ be 1 1) := aft_n (m := 1) (wd := 1) (by decide)
            rw [e8] at HP
            replace hbv : bits .and .i64 n 1 = 1 := hbv
            go_wp2_with fail
            refine Calls.mono HP.out ?_
            rintro e w3 ⟨rfl, v', q1, q2, q3⟩
            have HQ : Hid (Wr w3 d v' .nilIface (encs (l.take (t + 1)))) := by rw [HT.out]; exact q1
            have HQB := hide (HB2.out.trans (q2.below HB2.out.size (fun j e => by rcases e with e | e; omega; have := (HW2.out.blk j e).1; omega)))
            clear q1 q2 q3 z0 z3 z6
            go_wp2
            exact ⟨⟨t + 1, v', by omega, by first | rfl | simp, HQ, HQL, HQB⟩, by simp [intOf]; omega⟩
        · have e9 : piece ⟨5, sec, cur, n, lo, hi, S⟩ = bytesOf S := if_pos hfit
          rw [e9] at HT
          have HCV := hide (conv_shown w2 S sz hsz (by omega))
          have HCB := hide (conv_below w2 S sz)
          have hcv := run_bytes_of_string (P := Tryd.prog) w2 9 41 5 S Tryd.underlying9 Tryd.underlying41 Tryd.underlying5
          rw [hsz] at hcv
          have HP := hide (wRaw_all d v E 0 (encs (l.take t)) _ sz _ (bytesOf S) (conv w2 S sz) (HW2.out.below HCB.out) HCV.out (by have := HL.out; omega))
          rw [show aft 0 (encs (l.take t)) (0, bytesOf S) = (0, encs (l.take t) ++ bytesOf S) from rfl] at HP
          have HB2 := hide (chain HB2.out HCB.out)
          have HW2 := hide (HW2.out.below HCB.out)
          clear hfit e9
          go_wp2_with fail
          refine Calls.mono HP.out ?_
          rintro e w3 ⟨rfl, v', q1, q2, q3⟩
          have HQ : Hid (Wr w3 d v' .nilIface (encs (l.take (t + 1)))) := by rw [HT.out]; exact q1
          have HQB := hide (HB2.out.trans (q2.below HB2.out.size (fun j e => by rcases e with e | e; omega; have := (HW2.out.blk j e).1; omega)))
          clear q1 q2 q3 z0 z3 z6
          go_wp2
          exact ⟨⟨t + 1, v', by omega, by first | rfl | simp, HQ, HQL, HQB⟩, by simp [intOf]; omega⟩
        · have e9 : piece ⟨6, sec, cur, n, lo, hi, S⟩ = be S.size 2 ++ bytesOf S := if_pos hfit
          rw [e9] at HT
          have HP := hide (wText_all d v E 0 (encs (l.take t)) S w2 HW2.out HEE.out (by have := HL.out; omega))
          rw [aft_t g1] at HP
          clear hfit e9
          go_wp2_with fail
          refine Calls.mono HP.out ?_
          rintro e w3 ⟨rfl, v', q1, q2, q3⟩
          have HQ : Hid (Wr w3 d v' .nilIface (encs (l.take (t + 1)))) := by rw [HT.out]; exact q1
          have HQB := hide (HB2.out.trans (q2.below HB2.out.size (fun j e => by rcases e with e | e; omega; have := (HW2.out.blk j e).1; omega)))
          clear q1 q2 q3 z0 z3 z6
          go_wp2
          exact ⟨⟨t + 1, v', by omega, by first | rfl | simp, HQ, HQL, HQB⟩, by simp [intOf]; omega⟩
        · obtain ⟨m, rfl⟩ := Int.eq_ofNat_of_zero_le (show 0 ≤ n by omega)
          have e9 : piece ⟨7, sec, cur, (m : Int), lo, hi, S⟩ = encR m (bytesOf S) := if_pos hfit
          rw [e9] at HT
          have HCV := hide (conv_shown w2 S sz hsz (by omega))
          have HCB := hide (conv_below w2 S sz)
          have hcv := run_bytes_of_string (P := Tryd.prog) w2 9 41 5 S Tryd.underlying9 Tryd.underlying41 Tryd.underlying5
          rw [hsz] at hcv
          have HP := hide (wRecord_all d v E 0 (encs (l.take t)) (m : Int) _ sz _ (bytesOf S) (conv w2 S sz) (HW2.out.below HCB.out) (HEE.out.below HCB.out) HCV.out (fun _ b' off' e => by
            simp only [Option.some.injEq, Addr.mk.injEq, and_true] at e
            obtain ⟨rfl, _⟩ := e
            exact ⟨by omega, fun e => by have := (HW2.out.blk _ e).2; omega⟩) (by have := HL.out; omega))
          rw [aft_r (by omega) (by omega) g3] at HP
          have HB2 := hide (chain HB2.out HCB.out)
          have HW2 := hide (HW2.out.below HCB.out)
          clear hfit e9
          go_wp2_with fail
          refine Calls.mono HP.out ?_
          rintro e w3 ⟨rfl, v', q1, q2, q3⟩
          have HQ : Hid (Wr w3 d v' .nilIface (encs (l.take (t + 1)))) := by rw [HT.out]; exact q1
          have HQB := hide (HB2.out.trans (q2.below HB2.out.size (fun j e => by rcases e with e | e; omega; have := (HW2.out.blk j e).1; omega)))
          clear q1 q2 q3 z0 z3 z6
          go_wp2
          exact ⟨⟨t + 1, v', by omega, by first | rfl | simp, HQ, HQL, HQB⟩, by simp [intOf]; omega⟩
      · have e9 : piece ⟨kind, sec, cur, n, lo, hi, S⟩ = [] := if_neg hfit
        rw [e9, List.append_nil] at HT
        rw [decide_eq_false hfit]
        clear hfit e9
        go_wp2
        exact ⟨⟨t + 1, v, by omega, by first | rfl | simp, by rw [HT.out]; exact HW2, HQL, HB2⟩, by simp [intOf]; omega⟩
    · obtain rfl : t = len := by omega
      have e1 : l.take t = l := by rw [← HZ.out]; exact List.take_length
      rw [e1] at HW HL
      have hl2 : (encs l).length ≤ 1099515822080 := Nat.le_trans HL.out hbound
      have HBTS := hide HW.out.small
      have HD := hide (done_ok d v (encs l) wr HW.out (by omega))
      have HSZ := hide (fun W (h : Wr W d v .nilIface (encs l)) => wSize_any d v .nilIface (encs l) W h (by omega))
      generalize hM : encs l = M at *
      obtain ⟨k, hk⟩ : ∃ k, M.length = k := ⟨_, rfl⟩
      rw [hk] at HD HSZ hl2
      clear e1 HOK HS HL
      go_wp2_with fail
      refine Calls.mono HD.out ?_
      rintro e w2 ⟨rfl, ho, hb⟩
      have HO := hide (ho.bts (by rw [hk]) (by omega) HBTS.out)
      have HW2 := hide (HW.out.below hb)
      have HB2 := hide (chain HB.out hb)
      clear ho hb HD
      go_wp2_with (first | (go_at_call 60; first | (refine (HSZ.out _ HW2.out).mono ?_; rintro e w3 ⟨rfl, rfl⟩) | (refine (HSZ.out _ (HW2.out.below (Below.refl _ _).drew)).mono ?_; rintro e w3 ⟨rfl, rfl⟩)))
      go_ret2
      subst hk
      subst hM
      exact ⟨_, _, rfl, HO.out, HB2.out⟩
end Go.Proofs.YtkkogkdalcigkaaDoor
namespace Go.Proofs.YtkkogkdalcigkaaDoor.wireBack
open Classical
open Go.RowKit FerryCrc
set_option linter.unusedVariables false
set_option linter.unusedSimpArgs false

set_option maxRecDepth 100000 in
set_option maxHeartbeats 4000000 in
theorem law {E : Nat → Addr} (a : Option Addr) (len cap : Nat) (l : List Op7) (w : World) (he : Errs w E) (hs : Rcs Op7.cells 7 w a len cap l) (hok : ∀ o ∈ l, o.s.size ≤ 1048576) (hm : len ≤ 1048576) :
    Calls Tryd.prog 4 #[.slice a len cap] w fun e w' => e = .returned (.bool true) ∧ Below w.heap.size w w' := by
  have HE := hide he
  have HWR := hide (fun W hb => written_any w he a len cap l hs hok hm W hb)
  have HRE := hide (fun ab lb cb L X R W (hb : Bts W ab lb cb L) h0 hx => reread_any w he a len cap l hs hm ab lb cb L X R W hb h0 hx)
  have hlen : (encs l).length ≤ 1099515822080 := by
    have h1 : ∀ t, t ≤ len → (encs (l.take t)).length ≤ t * 1048580 := fun t => by
      induction t with
      | zero => intro _; simp [encs]
      | succ t ih =>
        intro ht
        obtain ⟨o, ho⟩ : ∃ o, l[t]? = some o := ⟨_, List.getElem?_eq_getElem (by rw [hs.size]; omega)⟩
        have h3 := ih (by omega)
        have h4 := piece_len o (hok o (List.mem_of_getElem? ho))
        rw [encs_take ho, List.length_append, Nat.add_mul]
        omega
    have h2 := h1 len (Nat.le_refl _)
    rw [show l.take len = l by rw [← hs.size]; exact List.take_length] at h2
    have : len * 1048580 ≤ 1048576 * 1048580 := Nat.mul_le_mul_right _ hm
    exact Nat.le_trans h2 this
  clear he hs hok
  generalize encs l = M at *
  obtain ⟨k, hk⟩ : ∃ k, M.length = k := ⟨_, rfl⟩
  rw [hk] at hlen HWR
  go_enter Tryd.func4, Tryd.ntmps4
  go_wp2_with fail
  refine Calls.mono (fixed_any w HE.out) ?_
  rintro e w1 ⟨rfl, hb1⟩
  have HB1 := hide hb1
  clear hb1
  go_wp2_with fail
  refine Calls.mono (HWR.out w1 HB1.out) ?_
  rintro e w2 ⟨ab, cb, rfl, hbt, hb2⟩
  have HM2 := hide hbt
  have HB2 := hide (chain HB1.out hb2)
  have hsm := hbt.small
  clear hbt hb2 HB1 HWR
  go_wp2_with fail
  refine Calls.mono (HRE.out ab k cb M [] [] w2 HM2.out HB2.out rfl) ?_
  rintro e w3 ⟨c, g, code, ok, rfl, q1, q2, q3⟩
  obtain ⟨_, rfl, rfl, q4⟩ : M.length ≤ k ∧ code = 0 ∧ ok = true ∧ Cur w3 c g k M.length k M := by
    rcases q3 with h | h
    · exact h
    · omega
  rw [hk] at q4
  have HC3 := hide q4
  have HB3 := hide (chain HB2.out q2)
  have HM3 := hide (HM2.out.below q2)
  clear q1 q2 q3 q4 HM2 HB2
  go_wp2_with fail
  refine Calls.mono (end_ok c g k k k M w3 HC3.out (by omega)) ?_
  rintro e w4 ⟨rfl, hb⟩
  have HC4 := hide (HC3.out.below hb)
  have HB4 := hide (chain HB3.out hb)
  have HM4 := hide (HM3.out.below hb)
  have HL4 := hide (left_any c g k k k M w4 HC4.out)
  rw [Nat.sub_self] at HL4
  clear hb HC3 HB3 HM3
  go_wp2_with fail
  refine Calls.mono HL4.out ?_
  rintro e w5 ⟨rfl, hb⟩
  have HC5 := hide (HC4.out.below hb)
  have HB5 := hide (chain HB4.out hb)
  have HM5 := hide (HM4.out.below hb)
  clear hb HC4 HB4 HM4 HL4
  go_wp2_with fail
  refine Calls.mono (at_any c g k k k M w5 HC5.out) ?_
  rintro e w6 ⟨rfl, rfl⟩
  clear HC5
  have HA5 : Hid (Below w5.heap.size w5 (w5.alloc (.cells #[] 5))) := (Below.refl _ _).alloc (Nat.le_refl _) _
  go_wp2_with (first
    | (refine append_lie rfl (.tmp 53) (.tmp 54) rfl w5.heap.size (.slice (some ⟨w5.heap.size, 0, none⟩) 0 0) [] rfl (own_empty w5) ab k cb M rfl (HM5.out.below HA5.out) (by simp; omega) HA5.out.size ?_; intro v8 w8 ho hf _; rw [List.nil_append] at ho; have HO8 := hide ho; have HB8 := hide (HA5.out.trans (hf.below HA5.out.size (fun j e => (World.ownsRow.lt (own_empty w5) j e).1))); clear ho hf)
    | (refine append_lie rfl (.tmp 55) (.tmp 56) rfl w5.heap.size v8 M rfl (HO8.out.frm (S := fun _ => False) (Frm.ofBelow ((Below.refl _ _).alloc (Nat.le_refl _) _)) (fun _ _ h => h)) (some ⟨w8.heap.size, 0, none⟩) 1 1 [7] rfl (one_byte w8 7 (by decide) _) (by rw [hk]; omega) (Nat.le_trans HB8.out.size ((Below.refl w8.heap.size w8).alloc (Nat.le_refl _) _).size) ?_; intro v9 w9 ho hf _; have HB9 := hide ((chain HB8.out ((Below.refl _ _).alloc (Nat.le_refl _) _)).trans (hf.below (chain HB8.out ((Below.refl _ _).alloc (Nat.le_refl _) _)).size (fun j e => (World.ownsRow.lt HO8.out j e).1))); obtain ⟨a9, c9, rfl, hbts⟩ := ho.shown (by rw [List.length_append, hk]; simp; omega) (fun c hc => by
        rcases List.mem_append.1 hc with h | h
        · exact hsm c h
        · rw [List.mem_singleton.1 h]; decide); have hkk : (M ++ [7]).length = k + 1 := (by rw [List.length_append, hk]; rfl); rw [hkk] at hbts ⊢; have HBT := hide hbts; clear ho hf hbts hkk))
  refine Calls.mono (HRE.out a9 (k + 1) c9 (M ++ [7]) [] [7] w9 HBT.out (chain HB5.out HB9.out) (by rw [List.append_nil])) ?_
  rintro e w7 ⟨c2, g2, code2, ok2, rfl, q1, q2, q3⟩
  obtain ⟨_, rfl, rfl, q4⟩ : M.length ≤ k + 1 ∧ code2 = 0 ∧ ok2 = true ∧ Cur w7 c2 g2 (k + 1) M.length (k + 1) (M ++ [7]) := by
    rcases q3 with h | h
    · exact h
    · omega
  rw [hk] at q4
  have HC7 := hide q4
  have HB7 := hide (chain HB5.out (chain HB9.out q2))
  have HM7 := hide (HM5.out.below (chain HB9.out q2))
  clear q1 q2 q3 q4 HB5 HM5 HBT HB9 HB8 HO8 HA5
  have HE7 := hide (HE.out.below HB7.out)
  go_wp2_with fail
  refine Calls.mono (end_bad c2 g2 (k + 1) k (k + 1) (M ++ [7]) (E 2) w7 HC7.out HE7.out.v2 (by omega)) ?_
  rintro e w10 ⟨ev, rfl, ha, hb⟩
  have HC10 := hide (HC7.out.below hb)
  have HB10 := hide (chain HB7.out hb)
  have HM10 := hide (HM7.out.below hb)
  have HE10 := hide (HE.out.below HB10.out)
  have HV10 := hide (code_any HE10.out ev 2 k (at_isErr ha (by decide) (by decide)))
  clear ha hb HC7 HB7 HM7 HE7
  go_wp2_with fail
  refine Calls.mono HV10.out ?_
  rintro e w11 ⟨rfl, rfl⟩
  clear HV10
  go_wp2_with fail
  refine Calls.mono (end_bad c2 g2 (k + 1) k (k + 1) (M ++ [7]) (E 2) w10 HC10.out HE10.out.v2 (by omega)) ?_
  rintro e w12 ⟨ev2, rfl, ha, hb⟩
  have HB12 := hide (chain HB10.out hb)
  have HM12 := hide (HM10.out.below hb)
  have HE12 := hide (HE.out.below HB12.out)
  have HV12 := hide (place_any HE12.out ev2 2 k (at_isErr ha (by decide) (by decide)))
  clear ha hb HC10 HB10 HM10 HE10
  go_wp2_with fail
  refine Calls.mono HV12.out ?_
  rintro e w13 ⟨rfl, hb⟩
  have HB13 := hide (chain HB12.out hb)
  have HM13 := hide (HM12.out.below hb)
  clear hb HV12 HB12 HM12 HE12
  by_cases h0 : k = 0
  · subst h0
    go_wp2
    go_ret
    exact ⟨rfl, HB13.out⟩
  · obtain ⟨m, rfl⟩ : ∃ m, k = m + 1 := ⟨k - 1, by omega⟩
    have hwr : IntKind.i64.wrap (((m + 1 : Nat) : Int) - 1) = (m : Int) := by rw [IntKind.wrap_i64]; omega
    have HML := HM13.out
    obtain ⟨bb, off, rfl⟩ : ∃ bb off, ab = some ⟨bb, off, none⟩ := by
      obtain ⟨bb, off, e, _⟩ := HM13.out.cell 0 (by omega)
      exact ⟨bb, off, e⟩
    have hcb : m ≤ cb := by have := HM13.out.fit; omega
    have hcb2 : (m : Int) ≤ (cb : Int) := by omega
    have hm0 : (0 : Int) ≤ (m : Int) := by omega
    have HT : Hid (Bts w13 (some ⟨bb, off, none⟩) m m (M.take m)) := by
      have hb := HM13.out.take m (by omega)
      exact ⟨hb.size, hb.most, Nat.le_refl _, hb.small, fun e => by simp at e, hb.cell⟩
    clear HML
    go_wp2_with fail
    refine Calls.mono (HRE.out _ m m (M.take m) (M.drop m) [] w13 HT.out HB13.out (by rw [List.take_append_drop, List.append_nil])) ?_
    rintro e w14 ⟨c3, g3, code3, ok3, rfl, q1, q2, q3⟩
    have HB14 := hide (chain HB13.out q2)
    have q4 : code3 = 1 ∨ code3 = 5 := by
      rcases q3 with h | h
      · omega
      · exact h.2
    clear q1 q2 q3
    rcases q4 with rfl | rfl
    · go_wp2
      go_ret
      exact ⟨rfl, HB14.out⟩
    · go_wp2
      go_ret
      exact ⟨rfl, HB14.out⟩
end Go.Proofs.YtkkogkdalcigkaaDoor.wireBack
