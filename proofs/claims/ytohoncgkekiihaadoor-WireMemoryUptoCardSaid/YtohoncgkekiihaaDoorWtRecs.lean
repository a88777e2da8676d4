/-
  The law's own copy of a list of records.
  The law's own comparison of lists of records, where they are alike.
-/
import Derived.Test.YtohoncgkekiihaaDoorWtMath
import Derived.Test.YtohoncgkekiihaaDoorCuSplit
namespace Go.Proofs.YtohoncgkekiihaaDoor
open Go.RowKit FerryCrc
set_option linter.unusedVariables false
set_option linter.unusedSimpArgs false

def JW.v (r : JW) : Value := .slice r.a r.n r.c
def JW.key (r : JW) : Int × List Nat := (r.tag, r.l)
/-- A list of records of the call's own, with bodies of their own. -/
structure JwOwn (w : World) (base : Nat) (v : Value) (rs : List JW) : Prop where
  row : w.ownsRow base 53 2 v rs.length (rs.flatMap JW.cells)
  ne : ∀ r ∈ rs, ∀ k, r.v.ownBlock = some k → v.ownBlock ≠ some k
  own : ∀ r ∈ rs, Own w base r.v r.l
theorem JwOwn.frm {S : Nat → Prop} {w w' : World} {base : Nat} {v : Value} {rs : List JW} (h : JwOwn w base v rs) (hf : Frm S w w') (hS : ∀ k, base ≤ k → ¬ S k) : JwOwn w' base v rs := by
  refine ⟨⟨h.row.1, ?_⟩, h.ne, fun r hr => (h.own r hr).frm hf (fun k hk => hS k (World.ownsRow.lt (h.own r hr) k hk).1)⟩
  rcases h.row.2 with e | ⟨g, cap, cur, e, hg, hh, r⟩
  · exact .inl e
  · refine .inr ⟨g, cap, cur, e, hg, ?_, r⟩
    rw [hf.block g (Array.getElem?_eq_some_iff.1 hh).1 (hS g hg)]
    exact hh
theorem JwOwn.below {w w' : World} {base : Nat} {v : Value} {rs : List JW} (h : JwOwn w base v rs) (hb : Below w.heap.size w w') : JwOwn w' base v rs :=
  h.frm (S := fun _ => False) (Frm.ofBelow hb) (fun _ _ h => h)
theorem jw_nil (w : World) (base : Nat) : JwOwn w base (.slice none 0 0) [] := ⟨⟨rfl, .inl ⟨rfl, rfl⟩⟩, fun r hr => by simp at hr, fun r hr => by simp at hr⟩
/-- append of whatever bytes, as a step. -/
theorem step_lie0 {w : World} {ops : Array Oper} {o : Oper} {act : Act} {K : Act → World → Prop} {Q : Exit → Act → World → Prop} {EE : Prop} (hgd : o.guard = none) (s x : Operand)
    (ho : o.op = .call { callee := .builtin .append, args := #[s, x], argTypes := #[23, 23] })
    (base : Nat) (v : Value) (xs : List Nat) (hs : act.eval s = v) (hown : Own w base v xs)
    (a : Option Addr) (m c : Nat) (l : List Nat) (hx : act.eval x = .slice a m c) (hb : Bts w a m c l)
    (h63 : xs.length + m ≤ 140737488355328) (hbase : base ≤ w.heap.size)
    (h : ∀ v' w', Own w' base v' (xs ++ l) → Frm (fun k => v.ownBlock = some k) w w' → K (act.put o.dst v') w') :
    if Region.wanted o (yielded ops act.tmps) = true then Oper.wp Tryd.prog o act w K Q else EE := by
  by_cases hm : m = 0
  · subst hm
    obtain ⟨i0, hi, hz0, hz1, hz2⟩ := info_parts info8
    obtain rfl : l = [] := List.length_eq_zero_iff.1 hb.size
    have hw : Region.wanted o (yielded ops act.tmps) = true := by simp [Region.wanted, hgd]
    rw [if_pos hw]
    have key : ∀ (b : Option Addr) (n cap : Nat), n ≤ cap → act.eval s = .slice b n cap → K (act.put o.dst (.slice b n cap)) w → Oper.wp Tryd.prog o act w K Q := fun b n cap hn hs2 hk => by
      have hrun := run_append_empty (P := Tryd.prog) w 23 o.type 5 i0 Tryd.underlying23 hi b a n cap c hn
      unfold Oper.wp
      simp [execOp, ho, resolve, invoke, builtin, hs2, hx, hrun, Result.andThen]
      exact hk
    have hst := hown
    rcases hown.2 with ⟨e, hn⟩ | ⟨g, cap, cur, e, hg, hh, hnc, _⟩
    · refine key none 0 0 (Nat.le_refl _) (by rw [hs, e]) ?_
      rw [← e]
      exact h v w (by rw [List.append_nil]; exact hst) (Frm.refl _ _)
    · refine key (some ⟨g, 0, none⟩) xs.length cap hnc (by rw [hs, e]) ?_
      rw [← e]
      exact h v w (by rw [List.append_nil]; exact hst) (Frm.refl _ _)
  · match a, hx, hb with
    | none, hx, hb => exact absurd (hb.null rfl).1 hm
    | some ad, hx, hb => exact step_lie hgd s x ho base v xs hs hown ad m c l hx hb (by omega) h63 hbase (fun v' w' h1 h2 _ => h v' w' h1 h2)

/-- The same as one step of a statement whose order Go leaves open. -/
theorem step_jw {w : World} {ops : Array Oper} {o : Oper} {act : Act} {K : Act → World → Prop} {Q : Exit → Act → World → Prop} {EE : Prop} (hgd : o.guard = none) (s x : Operand)
    (ho : o.op = .call { callee := .builtin .append, args := #[s, x], argTypes := #[28, 28] })
    (base : Nat) (v : Value) (rs : List JW) (hs : act.eval s = v) (hown : JwOwn w base v rs)
    (gx : Nat) (r : JW) (hx : act.eval x = .slice (some ⟨gx, 0, none⟩) 1 1) (x0 : w.cell? ⟨gx, 0, none⟩ = some (.int .i64 r.tag)) (x1 : w.cell? ⟨gx, 1, none⟩ = some r.v)
    (hr : Own w base r.v r.l) (hn : ∀ k, r.v.ownBlock = some k → v.ownBlock ≠ some k) (h63 : rs.length + 1 ≤ 4398046511104) (hbase : base ≤ w.heap.size)
    (h : ∀ v' w', JwOwn w' base v' (rs ++ [r]) → Frm (fun k => v.ownBlock = some k) w w' → K (act.put o.dst v') w') :
    if Region.wanted o (yielded ops act.tmps) = true then Oper.wp Tryd.prog o act w K Q else EE := by
  obtain ⟨i, z, hi, hz, hsz, hby, hzs⟩ := infoRec
  refine step_append_lies w hgd s x 28 ho base 53 i z 2 32 Tryd.underlying28 hi hz hsz hby hzs (by decide) v rs.length (rs.flatMap JW.cells) hs hown.row ⟨gx, 0, none⟩ 1 1 r.cells hx rfl ?_ ?_ (by decide) (by unfold maxLen; omega) (by omega) hbase _ rfl ?_
  · intro j u hu
    rw [add_none, Nat.zero_add]
    match j, hu with
    | 0, hu => simp only [JW.cells, List.getElem?_cons_zero, Option.some.injEq] at hu; rw [← hu]; exact x0
    | 1, hu => simp only [JW.cells, List.getElem?_cons_succ, List.getElem?_cons_zero, Option.some.injEq] at hu; rw [← hu]; exact x1
    | j + 2, hu => simp [JW.cells] at hu
  · intro u hu
    rcases List.mem_cons.1 hu with rfl | hu
    · rfl
    · rw [List.mem_singleton.1 hu]
      rfl
  · intro g cap w' h1 h2 h3 h4
    have hf := frm_grown h2
    refine h _ w' ⟨?_, ?_, ?_⟩ hf
    · rw [List.length_append, List.flatMap_append]
      simpa using h1
    · intro q hq k hk e
      simp only [Value.ownBlock, Option.some.injEq] at e
      subst e
      rcases List.mem_append.1 hq with hq | hq
      · rcases h3 with h3 | h3
        · exact hown.ne q hq g hk h3
        · have := (World.ownsRow.lt (hown.own q hq) g hk).2
          omega
      · obtain rfl := List.mem_singleton.1 hq
        rcases h3 with h3 | h3
        · exact hn g hk h3
        · have := (World.ownsRow.lt hr g hk).2
          omega
    · intro q hq
      rcases List.mem_append.1 hq with hq | hq
      · exact (hown.own q hq).frm hf (fun k hk e => hown.ne q hq k hk e)
      · obtain rfl := List.mem_singleton.1 hq
        exact hr.frm hf (fun k hk e => hn k hk e)

set_option maxRecDepth 100000 in
set_option maxHeartbeats 400000 in
theorem recs_any (a : Option Addr) (len cap : Nat) (rs : List JW) (w : World) (hs : Rcs JW.cells 2 w a len cap rs) (hok : ∀ r ∈ rs, Bts w r.a r.n r.c r.l) (hm : len ≤ 4398046511000) :
    Calls Tryd.prog 10 #[.slice a len cap] w fun e w' => Below w.heap.size w w' ∧ ∃ rs' v, rs'.map JW.key = rs.map JW.key ∧ e = .returned v ∧ JwOwn w' w.heap.size v rs' := by
  have HS := hide hs
  have HK := hide hok
  have HZ := hide hs.size
  clear hs hok
  go_enter Tryd.func10, Tryd.ntmps10
  go_wp2_with fail
  go_loopw [3, 4] (fun v i wr => ∃ (k : Nat) (rs' : List JW), k ≤ len ∧ i = .int .i64 (k : Int) ∧ Hid (JwOwn wr w.heap.size v rs') ∧ Hid (rs'.map JW.key = (rs.take k).map JW.key) ∧ Hid (Below w.heap.size w wr)) (fun _ i _ => len - (intOf i).toNat)
  case atStart => exact ⟨0, [], by omega, rfl, jw_nil _ _, rfl, Below.refl _ _⟩
  case round =>
    obtain ⟨k, rs', hk, rfl, HR, HRK, HB⟩ := hrel
    by_cases hlt : k < len
    · obtain ⟨r, hr⟩ : ∃ r, rs[k]? = some r := ⟨_, List.getElem?_eq_getElem (by rw [HZ.out]; exact hlt)⟩
      obtain ⟨b, off, rfl, hcell⟩ := HS.out.at JW.len (by decide) hr
      have M0 : Hid (w.cell? ⟨b, off + k * 2, none⟩ = some (.int .i64 r.tag)) := hcell 0 _ rfl
      have M1 : Hid (w.cell? ⟨b, off + k * 2 + 1, none⟩ = some (.slice r.a r.n r.c)) := hcell 1 _ rfl
      have k0 : wr.cell? ⟨b, off + k * 2, none⟩ = some (.int .i64 r.tag) := cell_below2 (hcell 0 _ rfl) HB.out
      have k1 : wr.cell? ⟨b, off + k * 2 + 1, none⟩ = some (.slice r.a r.n r.c) := cell_below2 (hcell 1 _ rfl) HB.out
      have HBT := hide ((HK.out r (List.mem_of_getElem? hr)).below HB.out)
      have HTK : Hid ((rs.take (k + 1)).map JW.key = (rs.take k).map JW.key ++ [r.key]) := by unfold Hid; rw [List.take_add_one, hr, List.map_append]; rfl
      have HLR : Hid (rs'.length = k) := by
        have := congrArg List.length HRK.out
        rw [List.length_map, List.length_map, List.length_take, HZ.out] at this
        unfold Hid
        omega
      clear hcell hr
      have hrm := HBT.out.most
      have HA5 : Hid (Below wr.heap.size wr (wr.alloc (.cells #[] 5))) := (Below.refl _ _).alloc (Nat.le_refl _) _
      have j0 := cell_below2 k0 HA5.out
      have j1 := cell_below2 k1 HA5.out
      have HD : Hid (Below wr.heap.size wr wr.drew) := (Below.refl _ _).drew
      have HA6 : Hid (Below wr.heap.size wr (wr.drew.alloc (.cells #[] 5))) := HD.out.alloc HD.out.size _
      have HOE : Hid (Own (wr.drew.alloc (.cells #[] 5)) wr.heap.size (.slice (some ⟨wr.heap.size, 0, none⟩) 0 0) []) := own_empty wr.drew
      go_wp2_with fail
      go_region_held3 (fun wz => wz.cell? ⟨b, off + k * 2, none⟩ = some (.int .i64 r.tag) ∧ wz.cell? ⟨b, off + k * 2 + 1, none⟩ = some (.slice r.a r.n r.c)) (first | exact ⟨k0, k1⟩ | exact ⟨cell_below2 k0 HA6.out, cell_below2 k1 HA6.out⟩ | exact ⟨cell_below2 k0 HB8.out, cell_below2 k1 HB8.out⟩ | exact ⟨cell_below2 k0 HB9.out, cell_below2 k1 HB9.out⟩ | exact ⟨cell_below2 M0.out HB10.out, cell_below2 M1.out HB10.out⟩)
        (first
          | (refine step_lie0 rfl (.tmp 17) (.tmp 22) rfl wr.heap.size (.slice (some ⟨wr.heap.size, 0, none⟩) 0 0) [] (by simp [Act.eval]) HOE.out r.a r.n r.c r.l (by simp [Act.eval]) (HBT.out.below HA6.out) (by simp; omega) HA6.out.size ?_; intro v8 w8 ho hf; rw [List.nil_append] at ho; have HO8 := hide ho; have HB8 := hide (HA6.out.trans (hf.below HA6.out.size (fun j e => (World.ownsRow.lt HOE.out j e).1))); obtain ⟨a8, n8, c8, rfl⟩ := ho.sl; have HA9 : Hid (Below w8.heap.size w8 (w8.alloc (.cells #[.int .i64 r.tag, .slice a8 n8 c8] 53))) := (Below.refl _ _).alloc (Nat.le_refl _) _; have HB9 := hide (chain HB8.out HA9.out); clear ho hf)
          | (refine step_jw rfl (.tmp 11) (.tmp 25) rfl w.heap.size u3 rs' (by simp [Act.eval]) (HR.out.below HB9.out) w8.heap.size ⟨r.tag, a8, n8, c8, r.l⟩ (by simp [Act.eval]) ((World.cell?_alloc_at _ _ _ _ rfl).trans rfl) ((World.cell?_alloc_at _ _ _ _ rfl).trans rfl) ((HO8.out.frm (S := fun _ => False) (Frm.ofBelow HA9.out) (fun _ _ h => h)).wk HB.out.size) (fun q hq e => by have h1 := (World.ownsRow.lt HO8.out q hq).1; have h2 := (World.ownsRow.lt HR.out.row q e).2; omega) (by rw [HLR.out]; omega) (chain HB.out HB9.out).size ?_; intro v10 w10 ho hf; have HO10 := hide ho; have HB10 := hide ((chain HB.out HB9.out).trans (hf.below (chain HB.out HB9.out).size (fun j e => (World.ownsRow.lt HR.out.row j e).1))); clear ho hf))
      rename_i hheld
      clear hheld
      go_wp2
      refine ⟨⟨k + 1, rs' ++ [⟨r.tag, a8, n8, c8, r.l⟩], by omega, by first | rfl | simp, HO10, ?_, HB10⟩, by simp [intOf]; omega⟩
      unfold Hid
      rw [List.map_append, HRK.out, HTK.out]
      rfl
    · obtain rfl : k = len := by omega
      have e1 : rs.take k = rs := by rw [← HZ.out]; exact List.take_length
      rw [e1] at HRK
      clear e1
      go_wp2
      go_ret
      exact ⟨HB.out, rs', _, HRK.out, rfl, HR.out⟩
end Go.Proofs.YtohoncgkekiihaaDoor
namespace Go.Proofs.YtohoncgkekiihaaDoor
open Go.RowKit FerryCrc
set_option linter.unusedVariables false
set_option linter.unusedSimpArgs false

set_option maxRecDepth 100000 in
set_option maxHeartbeats 400000 in
theorem sameRecs_ok (a : Option Addr) (len cap : Nat) (rs : List JW) (a2 : Option Addr) (cap2 : Nat) (rs2 : List JW) (w : World) (hs : Rcs JW.cells 2 w a len cap rs) (hok : ∀ r ∈ rs, Bts w r.a r.n r.c r.l) (hs2 : Rcs JW.cells 2 w a2 len cap2 rs2) (hok2 : ∀ r ∈ rs2, Bts w r.a r.n r.c r.l) (hk : rs.map JW.key = rs2.map JW.key) (hm : len ≤ 140737488355328) :
    Calls Tryd.prog 18 #[.slice a len cap, .slice a2 len cap2] w fun e w' => e = .returned (.bool true) ∧ Below w.heap.size w w' := by
  have HS := hide hs
  have HK := hide hok
  have HZ := hide hs.size
  have HS2 := hide hs2
  have HK2 := hide hok2
  have HZ2 := hide hs2.size
  have HE := hide hk
  clear hs hok hs2 hok2 hk
  go_enter Tryd.func18, Tryd.ntmps18
  go_wp2_with fail
  go_loopw [5] (fun i wr => ∃ k : Nat, k ≤ len ∧ i = .int .i64 (k : Int) ∧ Hid (Below w.heap.size w wr)) (fun i _ => len - (intOf i).toNat)
  case atStart => exact ⟨0, by omega, rfl, Below.refl _ _⟩
  case round =>
    obtain ⟨k, hk, rfl, HB⟩ := hrel
    by_cases hlt : k < len
    · obtain ⟨r, hr⟩ : ∃ r, rs[k]? = some r := ⟨_, List.getElem?_eq_getElem (by rw [HZ.out]; exact hlt)⟩
      obtain ⟨r2, hr2⟩ : ∃ r2, rs2[k]? = some r2 := ⟨_, List.getElem?_eq_getElem (by rw [HZ2.out]; exact hlt)⟩
      have hkey : r.key = r2.key := by
        have h1 := congrArg (fun l => l[k]?) HE.out
        simp only [List.getElem?_map, hr, hr2, Option.map_some] at h1
        exact Option.some.inj h1
      obtain ⟨b, off, rfl, hcell⟩ := HS.out.at JW.len (by decide) hr
      obtain ⟨b2, off2, rfl, hcell2⟩ := HS2.out.at JW.len (by decide) hr2
      have k0 : wr.cell? ⟨b, off + k * 2, none⟩ = some (.int .i64 r.tag) := cell_below2 (hcell 0 _ rfl) HB.out
      have k1 : wr.cell? ⟨b, off + k * 2 + 1, none⟩ = some (.slice r.a r.n r.c) := cell_below2 (hcell 1 _ rfl) HB.out
      have j0 : wr.cell? ⟨b2, off2 + k * 2, none⟩ = some (.int .i64 r2.tag) := cell_below2 (hcell2 0 _ rfl) HB.out
      have j1 : wr.cell? ⟨b2, off2 + k * 2 + 1, none⟩ = some (.slice r2.a r2.n r2.c) := cell_below2 (hcell2 1 _ rfl) HB.out
      have s1 := bts_string (((HK.out r (List.mem_of_getElem? hr)).below HB.out).below (Below.refl _ _).drew)
      have s2 := bts_string (((HK2.out r2 (List.mem_of_getElem? hr2)).below HB.out).below (Below.refl _ _).drew)
      have e1 : r.tag = r2.tag := congrArg Prod.fst hkey
      have e2 : r.l = r2.l := congrArg Prod.snd hkey
      rw [e1] at k0
      rw [e2] at s1
      clear hcell hr hcell2 hr2 hkey e1 e2
      generalize r2.tag = T at *
      generalize str r2.l = Z at *
      go_wp2_with fail
      go_region_held3 (fun wz => wz.cell? ⟨b, off + k * 2, none⟩ = some (.int .i64 T) ∧ wz.cell? ⟨b, off + k * 2 + 1, none⟩ = some (.slice r.a r.n r.c) ∧ wz.cell? ⟨b2, off2 + k * 2, none⟩ = some (.int .i64 T) ∧ wz.cell? ⟨b2, off2 + k * 2 + 1, none⟩ = some (.slice r2.a r2.n r2.c) ∧ (convert 23 9 (.slice r.a r.n r.c)).run Tryd.prog wz = .ok (.string Z) wz ∧ (convert 23 9 (.slice r2.a r2.n r2.c)).run Tryd.prog wz = .ok (.string Z) wz) (exact ⟨k0, k1, j0, j1, s1, s2⟩) (first | fail)
      go_wp2
      exact ⟨⟨k + 1, by omega, by first | rfl | simp, HB.out.drew⟩, by simp [intOf]; omega⟩
    · obtain rfl : k = len := by omega
      go_wp2
      go_ret
      exact ⟨rfl, HB.out⟩
end Go.Proofs.YtohoncgkekiihaaDoor
