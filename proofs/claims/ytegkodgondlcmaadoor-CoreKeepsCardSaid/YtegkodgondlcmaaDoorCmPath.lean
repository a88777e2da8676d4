/-
  The path of a run: where its instructions stood.
-/
import Derived.Test.YtegkodgondlcmaaDoorCmSplit
import Derived.Laws.AppendOwnNone
namespace Go.Proofs.YtegkodgondlcmaaDoor
open Go.RowKit FerryCrc FerryAlu
set_option linter.unusedVariables false
set_option linter.unusedSimpArgs false

/-- The places of the first k instructions. -/
def pcs (r0 : Rn) (k : Nat) : List Nat := (List.range k).map fun i => (Rn.go i r0).m.pc
theorem pcs_succ (r0 : Rn) (k : Nat) : pcs r0 (k + 1) = pcs r0 k ++ [(Rn.go k r0).m.pc] := by
  unfold pcs
  rw [List.range_succ, List.map_append]
  rfl
theorem pcs_len (r0 : Rn) (k : Nat) : (pcs r0 k).length = k := by simp [pcs]
def Mc.path (m : Mc) (n : Nat) : List Nat := pcs ⟨m.from0, 0, 0, 0⟩ (m.run n).steps

/-- A list of words of the call's own. -/
def UOwn (w : World) (base : Nat) (v : Value) (l : List Nat) : Prop := w.ownsRow base 23 1 v l.length (l.map u32v)
theorem uinfo : (Tryd.prog.info? 23).map (fun i => (i.zero, i.size, i.bytes)) = some (some (.int .u32 0), 1, 4) := by kernel_rfl
theorem u32v_one (l : List Nat) : ∀ u ∈ l.map u32v, u.oneCell' = true := by
  intro u hu
  obtain ⟨c, _, rfl⟩ := List.mem_map.1 hu
  rfl
theorem UOwn.nil (w : World) (base : Nat) : UOwn w base (.slice none 0 0) [] := ⟨rfl, .inl ⟨rfl, rfl⟩⟩
theorem UOwn.oth {o : Option Nat} {w w' : World} {base : Nat} {v : Value} {l : List Nat} (h : UOwn w base v l) (hf : Oth o w w') (hn : ∀ k, v.ownBlock = some k → o ≠ some k) : UOwn w' base v l := by
  refine ⟨h.1, ?_⟩
  rcases h.2 with e | ⟨g, cap, cur, rfl, hg, hh, r⟩
  · exact .inl e
  · refine .inr ⟨g, cap, cur, rfl, hg, ?_, r⟩
    rw [hf.block g (Array.getElem?_eq_some_iff.1 hh).1 (hn g rfl)]
    exact hh
theorem UOwn.mfr {mb : Nat} {u : Value} {w w' : World} {base : Nat} {v : Value} {l : List Nat} (h : UOwn w base v l) (hf : Mfr mb u w w') (hn : ∀ k, v.ownBlock = some k → k ≠ mb ∧ u.ownBlock ≠ some k) : UOwn w' base v l := by
  refine ⟨h.1, ?_⟩
  rcases h.2 with e | ⟨g, cap, cur, rfl, hg, hh, r⟩
  · exact .inl e
  · refine .inr ⟨g, cap, cur, rfl, hg, ?_, r⟩
    rw [hf.block g (Array.getElem?_eq_some_iff.1 hh).1 (hn g rfl).1 (hn g rfl).2]
    exact hh
theorem UOwn.weaken {w : World} {base base' : Nat} {v : Value} {l : List Nat} (h : UOwn w base v l) (hb : base' ≤ base) : UOwn w base' v l := by
  refine ⟨h.1, ?_⟩
  rcases h.2 with e | ⟨g, cap, cur, e, hg, r⟩
  · exact .inl e
  · exact .inr ⟨g, cap, cur, e, Nat.le_trans hb hg, r⟩
theorem POwn.oth {o : Option Nat} {w w' : World} {base : Nat} {v : Value} {l : List Pg} (h : POwn w base v l) (hf : Oth o w w') (hn : ∀ k, v.ownBlock = some k → o ≠ some k) : POwn w' base v l := by
  refine ⟨h.1, ?_⟩
  rcases h.2 with e | ⟨g, cap, cur, rfl, hg, hh, r⟩
  · exact .inl e
  · refine .inr ⟨g, cap, cur, rfl, hg, ?_, r⟩
    rw [hf.block g (Array.getElem?_eq_some_iff.1 hh).1 (hn g rfl)]
    exact hh
theorem MAt.oth {o : Option Nat} {w w' : World} {mb base : Nat} {v : Value} {m : Mc} (h : MAt w mb base v m) (hf : Oth o w w') (h1 : o ≠ some mb) (h2 : ∀ k, v.ownBlock = some k → o ≠ some k) : MAt w' mb base v m :=
  ⟨h.bl.oth h.lt hf h1, h.own.oth hf h2, h.ne, h.ok, h.le, Nat.lt_of_lt_of_le h.lt hf.size, Nat.le_trans h.size hf.size⟩

def sliceLen : Value → Nat
  | .slice _ n _ => n
  | _ => 0
theorem UOwn.sl {w : World} {base : Nat} {v : Value} {l : List Nat} (h : UOwn w base v l) : ∃ a c, v = .slice a l.length c := by
  rcases h.2 with ⟨rfl, e⟩ | ⟨g, cap, cur, rfl, _⟩
  · exact ⟨none, 0, by rw [e]⟩
  · exact ⟨_, _, rfl⟩
theorem oth_grown {w w' : World} {o : Obj} {row : Option Nat} (h : (w.alloc o).grownBy w' row) : Oth row w w' :=
  ⟨h.os, h.tape, h.output, Nat.le_trans (by simp) h.size, fun k hk hn => by
    rw [h.block k (by simp; omega) hn.symm]
    exact ((Below.refl w.heap.size w).alloc (Nat.le_refl _) o).block k hk⟩
/-- append of one word to a list of one's own. -/
theorem append_u32 {w : World} {ops : Array Oper} {rest : List Oper} {o : Oper} {act : Act} {Q : Exit → Act → World → Prop} (hgd : o.guard = none) (s x : Operand)
    (ho : o.op = .call { callee := .builtin .append, args := #[s, x], argTypes := #[40, 40] })
    (base : Nat) (v : Value) (xs : List Nat) (hs : act.eval s = v) (c : Nat) (hown : UOwn w base v xs)
    (hx : act.eval x = .slice (some ⟨w.heap.size, 0, none⟩) 1 1) (h63 : xs.length ≤ 1000000) (hbase : base ≤ w.heap.size)
    (h : ∀ v' w', UOwn w' base v' (xs ++ [c]) → (w.alloc (.cells #[u32v c] 23)).grownBy w' v.ownBlock → wpList Tryd.prog ops Q rest (act.put o.dst v') w') : wpList Tryd.prog ops Q (o :: rest) act (w.alloc (.cells #[u32v c] 23)) := by
  obtain ⟨i0, hi, hz0, hz1, hz2⟩ := info_parts uinfo
  have hown' : UOwn (w.alloc (.cells #[u32v c] 23)) base v xs := hown.oth (o := none) ⟨rfl, rfl, rfl, by simp, fun k hk _ => ((Below.refl w.heap.size w).alloc (Nat.le_refl _) _).block k hk⟩ (fun k _ => by simp)
  refine wpList_append_own _ hgd s x 40 ho base 23 i0 (.int .u32 0) 1 4 Tryd.underlying40 hi hz0 hz1 hz2 rfl (by decide) v xs.length (xs.map u32v) hs hown' ⟨w.heap.size, 0, none⟩ 1 1 [u32v c] hx rfl ?_ (u32v_one [c]) (by unfold maxLen; omega) (by omega) (by simp; omega) ?_
  · intro j u hu
    obtain rfl : j = 0 := by
      have := (List.getElem?_eq_some_iff.1 hu).1
      simp at this
      exact this
    simp only [List.getElem?_cons_zero, Option.some.injEq] at hu
    subst hu
    rw [add_none, World.cell?_alloc_at _ _ _ _ rfl]
    rfl
  · intro v' w' h1 h2 h3
    refine h v' w' ?_ h2
    unfold UOwn
    rw [List.length_append, List.map_append]
    exact h1

set_option maxRecDepth 100000 in
set_option maxHeartbeats 8000000 in
theorem path_any (a : Option Addr) (len cap : Nat) (m : Mc) (n : Int) (w : World) (hs : Pgs w a len cap m.pages) (ok : m.Ok) (A : Addr) (hv : Cov w A) (hn : n ≤ 10000) (hn0 : -9223372036854775808 ≤ n) :
    Calls Tryd.prog 14 #[.slice a len cap, .agg m.proc.toArray, .int .i64 n] w fun e w' => ∃ v, e = .returned (.tuple #[v, .nilIface]) ∧ UOwn w' w.heap.size v (m.path n.toNat) ∧ Below w.heap.size w w' := by
  have HS := hide hs
  have HV := hide hv
  have OK := hide ok
  have HPL : Hid (m.proc.length = 21) := proc_len ok
  have hz4 : Bl (w.alloc (.cells m.proc.toArray 26)) w.heap.size m.proc := bl_alloc w m.proc.toArray 26
  have hb0 : Below w.heap.size w (w.alloc (.cells m.proc.toArray 26)) := (Below.refl _ _).alloc (Nat.le_refl _) _
  have hsz : (w.alloc (.cells m.proc.toArray 26)).heap.size = w.heap.size + 1 := by simp
  have HB0 := hide hb0
  have HSZ := hide hsz
  have hu26 := Tryd.underlying26
  have hi26 : (Tryd.prog.info? 26).map (·.size) = some m.proc.length := by rw [HPL.out]; exact infoProc
  have hr4 := bl_range hz4
  clear hs hv ok hz4 hb0 hsz
  have hgt : decide ((10000 : Int) < n) = false := by simp; omega
  go_enter Tryd.func14, Tryd.ntmps14
  go_upto_region 1 with fail
  generalize w.alloc (.cells m.proc.toArray 26) = W0 at *
  have HBG := hide (begin_any a len cap m W0 (HS.out.below HB0.out) OK.out)
  go_wp2_with (first | (refine wpList_load_mid rfl 26 (.tmp 4) rfl w.heap.size 0 rfl m.proc _ hr4 hu26 rfl hi26 ?_) | fail)
  refine Calls.mono HBG.out ?_
  rintro e w1 ⟨mb, v, rfl, hm1, b1⟩
  have HM1 := hide hm1
  have HB1 := hide (chain HB0.out b1)
  have HPB : Hid (∀ k, v.ownBlock = some k → k < w1.heap.size) := fun k e => (World.ownsRow.lt hm1.own k e).2
  have HMB : Hid (mb < w1.heap.size) := hm1.lt
  have HBS := hide b1.size
  have HWB : Hid (∀ k, v.ownBlock = some k → W0.heap.size ≤ k) := fun k e => (World.ownsRow.lt hm1.own k e).1
  have HML : Hid (W0.heap.size ≤ mb) := hm1.le
  clear hm1 b1 HBG hr4 hu26 hi26
  go_wp2
  obtain ⟨r0, hr0⟩ : ∃ r0, (⟨m.from0, 0, 0, 0⟩ : Rn) = r0 := ⟨_, rfl⟩
  have HR0 : Hid (∀ k, m.run k = Rn.go k r0) := fun k => by rw [← hr0]; rfl
  have HST0 : Hid (r0.steps = 0) := by unfold Hid; rw [← hr0]
  have HP0 : Hid (m.path n.toNat = pcs r0 (m.run n.toNat).steps) := by unfold Hid Mc.path; rw [hr0]
  rw [show m.from0 = r0.m by rw [← hr0]] at HM1
  have HK0 : Hid (r0.kind = 0) := by unfold Hid; rw [← hr0]
  clear hr0
  go_loopw [9, 10] (fun p i wr => ∃ k : Nat, k ≤ n.toNat ∧ i = .int .i64 ((Rn.go k r0).kind : Int) ∧ Hid ((Rn.go k r0).steps = k) ∧ Hid (UOwn wr w1.heap.size p (pcs r0 k)) ∧ Hid (MAt wr mb W0.heap.size v (Rn.go k r0).m) ∧ Hid (Below w.heap.size w wr) ∧ Hid (w1.heap.size ≤ wr.heap.size)) (fun p _ _ => n.toNat - sliceLen p)
  case atStart => exact ⟨0, by omega, by rw [show Rn.go 0 r0 = r0 from rfl, HK0.out]; rfl, HST0.out, UOwn.nil _ _, HM1.out, HB1.out, Nat.le_refl _⟩
  case round =>
    obtain ⟨k, hk, rfl, hst, hown, hm, hb, hsz⟩ := hrel
    obtain ⟨R, hR⟩ : ∃ R, Rn.go k r0 = R := ⟨_, rfl⟩
    rw [hR] at hst hm ⊢
    have HRR := hide hR
    clear hR
    obtain ⟨pa, pq, rfl⟩ := hown.out.sl
    rw [pcs_len]
    rw [pcs_len] at hown
    have HW := hide (HV.out.below hb.out)
    by_cases hk0 : R.kind = 0
    · have d0 : ((R.kind : Int) == 0) = true := by simp [hk0]
      by_cases hlt : (k : Int) < n
      · have d1 : decide ((k : Int) < n) = true := decide_eq_true hlt
        have hpc := hm.out.pc
        have HLB : Hid (∀ j, (Value.slice pa k pq).ownBlock = some j → w1.heap.size ≤ j) := fun j e => (World.ownsRow.lt hown.out j e).1
        have HK := hide hk0
        have HLT := hide hlt
        clear hk0 hlt
        go_wp2_with (refine append_u32 rfl (.tmp 25) (.tmp 31) rfl w1.heap.size _ (pcs r0 k) rfl R.m.pc hown.out rfl (by rw [pcs_len]; omega) hsz.out ?_)
        rintro v' w2 ho hg
        have hoth := oth_grown hg
        have hm2 : MAt w2 mb W0.heap.size v R.m := hm.out.oth hoth (fun e => by have := HLB.out _ e; have := HMB.out; omega) (fun j e e' => by have := HLB.out _ e'; have := HPB.out _ e; omega)
        have hb2 : Below w.heap.size w w2 := hb.out.trans (⟨hoth.os, hoth.tape, hoth.output, hoth.size, fun j hj => hoth.block j (Nat.lt_of_lt_of_le hj (Nat.le_trans (by have := HB0.out.size; have := HBS.out; omega) hsz.out)) (fun e => by have := HLB.out _ e; have := HB0.out.size; have := HBS.out; omega)⟩)
        have HO := hide ho
        have HB2 := hide hb2
        have HSZ2 : Hid (w1.heap.size ≤ w2.heap.size) := Nat.le_trans hsz.out hoth.size
        have HSP := hide (step_any hm2 A (HV.out.below hb2))
        clear ho hg hoth hm2 hb2 hpc
        go_wp2_with fail
        refine Calls.mono HSP.out ?_
        rintro e w3 ⟨rfl, hm3, f3⟩
        have hnext : Rn.go (k + 1) r0 = ⟨R.m.step.1, R.m.step.2.1, R.m.step.2.2, R.steps + 1⟩ := by
          rw [Rn.go_succ, HRR.out]
          unfold Rn.next
          rw [if_pos HK.out]
        have HNX := hide hnext
        have HLB' : Hid (∀ j, v'.ownBlock = some j → w1.heap.size ≤ j) := fun j e => (World.ownsRow.lt HO.out j e).1
        obtain ⟨pa', pq', rfl⟩ := HO.out.sl
        have HL' : Hid ((pcs r0 k ++ [R.m.pc]).length = k + 1) := by unfold Hid; rw [List.length_append, pcs_len]; rfl
        rw [HL'.out] at HO HLB' ⊢
        have HREL : Hid (UOwn w3 w1.heap.size (.slice pa' (k + 1) pq') (pcs r0 (k + 1)) ∧ Below w.heap.size w w3 ∧ w1.heap.size ≤ w3.heap.size) := by
          refine ⟨?_, ?_, Nat.le_trans HSZ2.out f3.size⟩
          · rw [pcs_succ, HRR.out]
            exact HO.out.mfr f3 (fun j e => ⟨fun e' => by have := HLB'.out _ e; have := HMB.out; omega, fun e' => by have := HLB'.out _ e; have := HPB.out _ e'; omega⟩)
          · have h1 := HB0.out.size
            have h2 := HBS.out
            have h3 := HSZ2.out
            exact HB2.out.trans (f3.below (by omega) (by have := HML.out; omega) (fun j e => by have := HWB.out _ e; omega))
        have HM3 := hide hm3
        clear hm3 f3 hnext
        go_wp2
        go_roundw
        case rel => exact ⟨k + 1, by have := HLT.out; omega, by rw [HNX.out], by unfold Hid; rw [HNX.out]; show R.steps + 1 = _; rw [hst.out], HREL.out.1, by unfold Hid; rw [HNX.out]; exact HM3.out, HREL.out.2.1, HREL.out.2.2⟩
        case measure => show n.toNat - (k + 1) < n.toNat - k; have := HLT.out; omega
      · have d1 : decide ((k : Int) < n) = false := decide_eq_false hlt
        have HFIN : Hid (m.path n.toNat = pcs r0 k) := by
          unfold Hid
          rw [HP0.out, HR0.out, show n.toNat = k by omega, HRR.out, hst.out]
        go_wp2
        go_ret2
        exact ⟨_, rfl, by rw [HFIN.out]; exact hown.out.weaken (by have := HB0.out.size; have := HBS.out; omega), hb.out⟩
    · have d0 : ((R.kind : Int) == 0) = false := by rw [beq_eq_false_iff_ne]; omega
      have HFIN : Hid (m.path n.toNat = pcs r0 k) := by
        unfold Hid
        rw [HP0.out, HR0.out, show n.toNat = k + (n.toNat - k) by omega, Rn.go_add, HRR.out, Rn.go_still hk0, hst.out]
      go_wp2
      go_ret2
      exact ⟨_, rfl, by rw [HFIN.out]; exact hown.out.weaken (by have := HB0.out.size; have := HBS.out; omega), hb.out⟩
end Go.Proofs.YtegkodgondlcmaaDoor
