/-
  The program's In: bytes of a string copied into pages of one's own.
-/
import Derived.Test.YtbekdbgnpcbklaaDoorPgKnown
import Derived.Laws.IdiomCopy
namespace Go.Proofs.YtbekdbgnpcbklaaDoor
open Go.RowKit FerryCrc
set_option linter.unusedVariables false

/-- The bytes of a string. -/
def bytesOf (s : ByteArray) : List Nat := s.data.toList.map (·.toNat)
theorem bytesOf_lt (s : ByteArray) : ∀ c ∈ bytesOf s, c < 256 := by
  intro c hc
  obtain ⟨x, _, rfl⟩ := List.mem_map.1 hc
  exact x.toNat_lt
theorem str_bytesOf (s : ByteArray) : str (bytesOf s) = s := by
  obtain ⟨⟨l⟩⟩ := s
  simp [str, bytesOf, Function.comp_def]
theorem bytesOf_str {l : List Nat} (h : ∀ c ∈ l, c < 256) : bytesOf (str l) = l := by
  unfold bytesOf str
  simp only [List.map_map]
  rw [List.map_congr_left (g := id) (fun c hc => by have h2 := h c hc; show (UInt8.ofNat c).toNat = c; rw [UInt8.toNat_ofNat']; exact Nat.mod_eq_of_lt h2)]
  simp
theorem bytesOf_len (s : ByteArray) : (bytesOf s).length = s.size := by unfold bytesOf; rw [List.length_map]; rfl
theorem str_len (l : List Nat) : (str l).size = l.length := by simp [str, ByteArray.size]
theorem str_drop (D : List Nat) (k : Nat) : (str D).extract k D.length = str (D.drop k) := by
  apply ByteArray.ext
  rw [ByteArray.data_extract]
  apply Array.ext'
  simp only [str, Array.toList_extract, List.extract_eq_take_drop, List.map_drop]
  rw [List.take_of_length_le (by simp)]

/-- copy of a string's bytes into a row. -/
theorem run_copy_str {P : Program} (w : World) (dT sT ty elem : TypeId) (b o dLen dCap : Nat) (D : List Nat) (hD : ∀ c ∈ D, c < 256) (cs : List Value)
    (hu : P.underlying dT = some (.slice elem)) (hs : (P.info? elem).map (·.size) = some 1) (hcs : cs = (D.take dLen).map bv)
    (hc : ∀ j, j < cs.length → (w.cell? ⟨b, o + j, none⟩).isSome = true) (hf : ∀ j, j < cs.length → w.frozen? ⟨b, o + j, none⟩ = false) :
    (Builtin.copy_ #[dT, sT] ty #[.slice (some ⟨b, o, none⟩) dLen dCap, .string (str D)]).run P w = .ok (goInt cs.length) (w.setCells b o cs) := by
  have h1 : ∀ v ∈ cs, v.oneCell' = true := by rw [hcs]; exact bv_one _
  have hst := run_storeCells_cells (P := P) b o cs 0 w (by simpa using hc) (by simpa using hf) h1
  have hx : (((str D).extract 0 (Nat.min (str D).size dLen)).data.map fun b => Value.int .u8 (b.toNat : Int)).toList = cs := by
    rw [hcs, ByteArray.data_extract]
    simp only [str, Array.toList_map, Array.toList_extract, List.extract_eq_take_drop, List.drop_zero, Nat.sub_zero]
    rw [show (⟨(List.map UInt8.ofNat D).toArray⟩ : ByteArray).size = D.length by simp [ByteArray.size]]
    rw [← List.map_take, List.map_map]
    rw [show List.take (D.length.min dLen) D = D.take dLen by
      rcases Nat.le_total D.length dLen with h | h
      · rw [show D.length.min dLen = D.length from Nat.min_eq_left h, List.take_length, List.take_of_length_le h]
      · rw [show D.length.min dLen = dLen from Nat.min_eq_right h]]
    refine List.map_congr_left fun c hc => ?_
    have := hD c (List.mem_of_mem_take hc)
    show Value.int .u8 (((UInt8.ofNat c).toNat : Nat) : Int) = bv c
    rw [UInt8.toNat_ofNat', Nat.mod_eq_of_lt this]
    unfold bv
    rfl
  have hn : Nat.min (str D).size dLen = cs.length := by
    rw [hcs, List.length_map, List.length_take, str_len, Nat.min_comm]
  cases hq : P.info? elem with
  | none => simp [hq] at hs
  | some i =>
    have hi : i.size = 1 := by simpa [hq] using hs
    have hfc : Sem.run P (Builtin.firstCells i.size ((str D).size.min dLen) (Value.string (str D))) w = .ok (((str D).extract 0 (Nat.min (str D).size dLen)).data.map fun b => Value.int .u8 (b.toNat : Int)) w := rfl
    simp [Builtin.copy_, run_underlying hu, Builtin.lenOf, sizeOf, typeInfo, hq]
    rw [hfc, Result.andThen_ok, hx, hn]
    rw [Nat.add_zero] at hst
    rw [hst]
    rfl

/-- Several bytes stored into one page of one's own. -/
theorem POwn.bytes {base g n cap : Nat} {l : List Pg} {B : Nat → Nat} {D : Nat → Bool} (hn : l.length = n) (ok : Oks l) (hB : ∀ a, B a < 256) {q : Nat} (hq : q < l.length) :
    ∀ (c j : Nat) (w : World) (P : Nat → Bool), POwn w base (.slice (some ⟨g, 0, none⟩) n cap) (upd l P B D) → j + c ≤ 64 →
      (∀ i, i < c → (w.cell? ⟨g, q * 66 + 2 + j + i, none⟩).isSome = true ∧ w.frozen? ⟨g, q * 66 + 2 + j + i, none⟩ = false) ∧
      POwn (w.setCells g (q * 66 + 2 + j) ((List.range c).map fun i => bv (B (64 * q + j + i)))) base (.slice (some ⟨g, 0, none⟩) n cap) (upd l (fun a => P a || inR (64 * q + j) c a) B D) := by
  intro c
  induction c with
  | zero =>
    intro j w P ho hj
    refine ⟨fun i hi => by omega, ?_⟩
    have e : upd l (fun a => P a || inR (64 * q + j) 0 a) B D = upd l P B D := upd_congr ok (fun a _ => ⟨by rw [inR_zero, Bool.or_false], fun _ => rfl⟩) (fun _ _ => rfl)
    rw [e]
    exact ho
  | succ c ih =>
    intro j w P ho hj
    obtain ⟨⟨u, hc⟩, hf, hst⟩ := POwn.byte ho hn ok (fun a _ => hB a) hq (x := j) (by omega)
    obtain ⟨h1, h2⟩ := ih (j + 1) _ _ hst (by omega)
    refine ⟨fun i hi => ?_, ?_⟩
    · rcases Nat.eq_zero_or_pos i with rfl | hp
      · rw [Nat.add_zero, hc]
        exact ⟨rfl, hf⟩
      · obtain ⟨x, y⟩ := h1 (i - 1) (by omega)
        rw [show q * 66 + 2 + (j + 1) + (i - 1) = q * 66 + 2 + j + i by omega] at x y
        rw [World.frozen?_setCell] at y
        refine ⟨?_, y⟩
        rw [World.cell?_setCell_other _ _ _ _ (by intro e; simp only [Addr.mk.injEq, true_and, and_true] at e; omega)] at x
        exact x
    · rw [List.range_succ_eq_map, List.map_cons, List.map_map]
      show POwn ((w.setCell _ _).setCells g (q * 66 + 2 + j + 1) _) _ _ _
      have e : upd l (fun a => P a || inR (64 * q + j) (c + 1) a) B D = upd l (fun a => (P a || a == 64 * q + j) || inR (64 * q + (j + 1)) c a) B D := by
        refine upd_congr ok (fun a _ => ⟨?_, fun _ => rfl⟩) (fun _ _ => rfl)
        rw [Bool.or_assoc]
        congr 1
        rw [Bool.eq_iff_iff]
        simp only [inR, decide_eq_true_eq, Bool.or_eq_true, beq_iff_eq]
        omega
      rw [e]
      have e2 : ((fun i => bv (B (64 * q + j + i))) ∘ Nat.succ) = fun i => bv (B (64 * q + (j + 1) + i)) := funext fun i => by
        show bv (B (64 * q + j + (i + 1))) = _
        rw [show 64 * q + j + (i + 1) = 64 * q + (j + 1) + i by omega]
      rw [e2, show q * 66 + 2 + j + 1 = q * 66 + 2 + (j + 1) by omega]
      exact h2

/-- copy of a string's bytes, as one step of a region that draws. -/
theorem step_copy_str {P : Program} {ops : Array Oper} {o : Oper} {a : Act} {w : World} {K : Act → World → Prop} {Q : Exit → Act → World → Prop} {E : Prop} (hgd : o.guard = none) (d s : Operand) (dT sT : TypeId)
    (ho : o.op = .call { callee := .builtin .copy, args := #[d, s], argTypes := #[dT, sT] }) (elem : TypeId) (hu : P.underlying dT = some (.slice elem)) (hsz : (P.info? elem).map (·.size) = some 1)
    (b off dLen dCap : Nat) (D : List Nat) (hD : ∀ c ∈ D, c < 256) (hd : a.eval d = .slice (some ⟨b, off, none⟩) dLen dCap) (hs : a.eval s = .string (str D)) (cs : List Value) (hcs : cs = (D.take dLen).map bv)
    (hc : ∀ j, j < cs.length → (w.cell? ⟨b, off + j, none⟩).isSome = true) (hf : ∀ j, j < cs.length → w.frozen? ⟨b, off + j, none⟩ = false)
    (h : K (a.put o.dst (goInt cs.length)) (w.setCells b off cs)) :
    if Region.wanted o (yielded ops a.tmps) = true then Oper.wp P o a w K Q else E := by
  have hw : Region.wanted o (yielded ops a.tmps) = true := by simp [Region.wanted, hgd]
  rw [if_pos hw]
  have hrun := run_copy_str (P := P) w dT sT o.type elem b off dLen dCap D hD cs hu hsz hcs hc hf
  unfold Oper.wp
  simp [execOp, ho, resolve, invoke, builtin, hd, hs, hrun, Result.andThen]
  exact h
theorem below_setCells {B g : Nat} {a : World} (hg : B ≤ g) : ∀ (vs : List Value) (o : Nat) (w : World), Below B a w → Below B a (w.setCells g o vs)
  | [], _, w, h => h
  | v :: r, o, w, h => below_setCells hg r (o + 1) (w.setCell ⟨g, o, none⟩ v) (h.setCell (p := ⟨g, o, none⟩) hg v)

/-- The byte of D that lies at the address, where D lies from n on. -/
def datB (D : List Nat) (n a : Nat) : Nat := D.getD (a - n) 0
theorem datB_lt {D : List Nat} (h : ∀ c ∈ D, c < 256) (n a : Nat) : datB D n a < 256 := by
  unfold datB
  rw [List.getD_eq_getElem?_getD]
  cases hx : D[a - n]? with
  | none => simp
  | some c => exact h c (List.mem_of_getElem? hx)
/-- The pages that k bytes from n on touch. -/
def tch (n k q : Nat) : Bool := decide (0 < k ∧ n / 64 ≤ q ∧ q ≤ (n + k - 1) / 64)
/-- The pages with the bytes D from n on. -/
def put_in (l : List Pg) (n : Nat) (D : List Nat) : List Pg := upd l (inR n D.length) (datB D n) (tch n D.length)
theorem put_in_len (l : List Pg) (n : Nat) (D : List Nat) : (put_in l n D).length = l.length := upd_len _ _ _ _
theorem put_in_ok {l : List Pg} (h : Oks l) (n : Nat) {D : List Nat} (hD : ∀ c ∈ D, c < 256) : Oks (put_in l n D) := upd_ok h (fun a _ => datB_lt hD n a)
theorem take_drop_bv {D : List Nat} {k c n m : Nat} (hc : c ≤ D.length - k) (hm : n + k = m) : ((D.drop k).take c).map bv = (List.range c).map fun i => bv (datB D n (m + i)) := by
  refine List.ext_getElem? fun i => ?_
  rw [List.getElem?_map, List.getElem?_map, List.getElem?_take, List.getElem?_drop]
  by_cases hi : i < c
  · rw [if_pos hi, List.getElem?_range hi, List.getElem?_eq_getElem (by omega)]
    simp only [Option.map_some, Option.some.injEq, datB]
    rw [show m + i - n = k + i by omega, List.getD_eq_getElem?_getD, List.getElem?_eq_getElem (by omega)]
    rfl
  · rw [if_neg hi, List.getElem?_eq_none (by simp; omega)]
    rfl

set_option maxRecDepth 100000 in
set_option maxHeartbeats 1000000 in
theorem in_any (a : Option Addr) (len cap : Nat) (l : List Pg) (n : Nat) (D : List Nat) (w : World) (hs : Pgs w a len cap l) (hn : n < 4294967296) (hD : ∀ c ∈ D, c < 256) (hDl : D.length ≤ 9223372036854775807) :
    Calls Tryd.prog 10 #[.slice a len cap, .int .u32 (n : Int), .string (str D)] w fun e w' => ∃ (f : Nat) (x : Value), e = .returned (.tuple #[x, .int .i64 (f : Int)]) ∧ RF (fun a => bflt l a 1) n D.length f ∧ f ≤ 6 ∧ POwn w' w.heap.size x (if f = 0 then put_in l n D else []) ∧ Below w.heap.size w w' := by
  have H1 := hide (rangeFault_any a len cap l n D.length 1 2 w hs hn (by omega) (.inr (.inl ⟨rfl, rfl⟩)))
  have HC := hide (copy_any a len cap l w hs)
  have HS := hide hs
  have hm := hs.most
  have hsz : (str D).size = D.length := str_len D
  have HD := hide hD
  obtain ⟨N, hN⟩ : ∃ N, D.length = N := ⟨_, rfl⟩
  have HNN := hide hN
  rw [hN] at H1 hsz hDl ⊢
  clear hs hD hN
  go_enter Tryd.func10, Tryd.ntmps10
  go_wp2_with fail
  refine Calls.mono H1.out ?_
  rintro e w' ⟨f, rfl, hrf, hf6, rfl⟩
  have HRF := hide hrf
  clear hrf H1
  by_cases hf : f = 0
  case neg =>
    have hd : ((f : Int) != 0) = true := by simp; omega
    go_wp2
    go_ret2
    refine ⟨f, _, rfl, HRF.out, hf6, ?_, Below.refl _ _⟩
    rw [if_neg hf]
    exact pown_nil _ _
  subst hf
  have hz : ∀ i, i < N → bflt l (n + i) 1 = 0 := by
    rcases HRF.out with ⟨_, h⟩ | ⟨i, _, _, h1, h2⟩
    · exact h
    · exact absurd rfl h2
  have HZ := hide hz
  clear hz
  go_wp2_with fail
  refine Calls.mono HC.out ?_
  rintro e w1 ⟨g, rfl, hg, ho, hb⟩
  have HO := hide ho
  have HB := hide hb
  have HG := hide hg
  clear ho hb hg HC
  have HLL := hide HS.out.size
  go_wp2
  go_loopw [10] (fun d wr => ∃ k : Nat, k ≤ N ∧ d = .int .i64 (k : Int) ∧ Hid (POwn wr w.heap.size (.slice (some ⟨g, 0, none⟩) len len) (upd l (inR n k) (datB D n) (tch n k))) ∧ Hid (Below w.heap.size w wr)) (fun d _ => N - (intOf d).toNat)
  case atStart =>
    refine ⟨0, by omega, rfl, ?_, HB.out⟩
    have e : upd l (inR n 0) (datB D n) (tch n 0) = l := (upd_congr HS.out.ok (fun a _ => ⟨inR_zero n a, fun _ => rfl⟩) (fun r _ => by simp [tch])).trans (upd_none l _)
    unfold Hid
    rw [e]
    exact HO.out
  case round =>
    obtain ⟨k, hk, rfl, hown, hbl⟩ := hrel
    by_cases hlt : k < N
    · have hzk := bflt_zero (HZ.out k hlt)
      obtain ⟨m, hmn⟩ : ∃ m, n + k = m := ⟨_, rfl⟩
      rw [hmn] at hzk
      obtain ⟨q, hq⟩ : ∃ q, m / 64 = q := ⟨_, rfl⟩
      obtain ⟨j, hj⟩ : ∃ j, m % 64 = j := ⟨_, rfl⟩
      have hql : q < l.length := by rw [← hq]; exact hzk.2
      have hqlen : q < len := by rw [← HLL.out]; exact hql
      obtain ⟨c, hc⟩ : ∃ c, Nat.min (64 - j) (N - k) = c := ⟨_, rfl⟩
      have hjc : j + c ≤ 64 ∧ k + c ≤ N ∧ 0 < c ∧ c ≤ 64 := by
        have h1 : Nat.min (64 - j) (N - k) ≤ 64 - j := Nat.min_le_left _ _
        have h2 : Nat.min (64 - j) (N - k) ≤ N - k := Nat.min_le_right _ _
        have h3 : 0 < Nat.min (64 - j) (N - k) := Nat.lt_min.2 ⟨by omega, by omega⟩
        omega
      have hqj : 64 * q + j = m := by omega
      obtain ⟨hcf, hst⟩ := POwn.bytes (q := q) HLL.out HS.out.ok (datB_lt HD.out n) hql c j wr.drew _ (World.ownsRow.drew hown.out) hjc.1
      rw [hqj] at hst
      have hcs : ((D.drop k).take (64 - j)).map bv = (List.range c).map fun i => bv (datB D n (m + i)) := by
        rw [← take_drop_bv (c := c) (by rw [HNN.out]; omega) hmn, ← hc]
        congr 1
        rcases Nat.le_total (64 - j) (N - k) with h | h
        · rw [show Nat.min (64 - j) (N - k) = 64 - j from Nat.min_eq_left h]
        · rw [show Nat.min (64 - j) (N - k) = N - k from Nat.min_eq_right h, List.take_of_length_le (by rw [List.length_drop, HNN.out]; exact h), List.take_of_length_le (by rw [List.length_drop, HNN.out]; exact Nat.le_refl _)]
      obtain ⟨⟨u2, hcell2⟩, hf2, hst2⟩ := POwn.mark hst HLL.out HS.out.ok (fun a _ => datB_lt HD.out n a) hql
      have HST := hide hst2
      have HCF := hide hcf
      have HCS := hide hcs
      have hext := str_drop D k
      rw [HNN.out] at hext
      have hDk : ∀ x ∈ D.drop k, x < 256 := fun x hx => HD.out x (List.mem_of_mem_drop hx)
      have HDK := hide hDk
      have e0 : (n : Int) + (k : Int) = (m : Int) := by omega
      have e1 : (m : Int) / 64 = (q : Int) := by omega
      have e2 : (m : Int) % 64 = (j : Int) := by omega
      have hm1 : m < 4294967296 := hzk.1
      have q1 : (q : Int) < (len : Int) := by omega
      have j64 : j < 64 := by omega
      have q0 : q < 4294967296 := by omega
      have k1 : (k : Int) ≤ (N : Int) := by omega
      have hw2 : (m : Int).tmod 64 = (j : Int) := by rw [Int.tmod_eq_emod_of_nonneg (by omega)]; exact e2
      have j1 : (j : Int) ≤ 64 := by omega
      have j2 : (0 : Int) ≤ (j : Int) := by omega
      have hj64 : ¬ 64 = j := by omega
      clear hst hst2 hcf hcs hDk hzk hq hj
      have hbd := hide hbl.out.drew
      go_wp2_with fail
      go_region_law (refine step_copy_str rfl (.tmp 41) (.tmp 44) 63 9 rfl 5 Tryd.underlying63 size8' g (q * 66 + 2 + j) (64 - j) (64 - j) (D.drop k) HDK.out (by simp [Act.eval, Act.put]) (by simp [Act.eval, Act.put]) ((List.range c).map fun i => bv (datB D n (m + i))) HCS.out.symm (fun i hi => (HCF.out i (by simpa using hi)).1) (fun i hi => (HCF.out i (by simpa using hi)).2) ?_)
      have hwk : IntKind.i64.wrap ((k : Int) + (c : Int)) = (k : Int) + (c : Int) := by rw [IntKind.wrap_i64]; omega
      have HB4 := hide (below_setCells HG.out ((List.range c).map fun i => bv (datB D n (m + i))) (q * 66 + 2 + j) wr.drew hbd.out)
      generalize wr.drew.setCells g (q * 66 + 2 + j) ((List.range c).map fun i => bv (datB D n (m + i))) = w4 at *
      simp only [hwk, Act.put, List.getElem_toArray, List.getElem_cons_succ, List.getElem_cons_zero, List.setIfInBounds_toArray, List.set_cons_succ, List.set_cons_zero]
      clear hw2
      go_wp2
      go_roundw
      case rel =>
        refine ⟨k + c, by omega, by rw [Int.natCast_add], ?_, HB4.out.setCell (p := ⟨g, q * 66 + 1, none⟩) HG.out _⟩
        have e : upd l (inR n (k + c)) (datB D n) (tch n (k + c)) = upd l (fun a => inR n k a || inR m c a) (datB D n) (fun r => tch n k r || r == q) := by
          refine upd_congr HS.out.ok (fun a _ => ⟨?_, fun _ => rfl⟩) (fun r _ => ?_)
          · rw [Bool.eq_iff_iff]
            simp only [inR, decide_eq_true_eq, Bool.or_eq_true]
            omega
          · rw [Bool.eq_iff_iff]
            simp only [tch, decide_eq_true_eq, Bool.or_eq_true, beq_iff_eq]
            omega
        unfold Hid
        rw [e]
        exact HST.out
      case measure => simp [intOf]; omega
    · obtain rfl : k = N := by omega
      go_wp2
      go_ret2
      refine ⟨0, _, rfl, HRF.out, by decide, ?_, hbl.out⟩
      rw [if_pos rfl]
      have := hown.out
      unfold put_in
      rw [HNN.out]
      unfold POwn at this ⊢
      rw [upd_len, HLL.out] at this ⊢
      exact this
end Go.Proofs.YtbekdbgnpcbklaaDoor
