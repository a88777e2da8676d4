/-
  The law's apart (crc).
-/
import Derived.Test.YtchmfjendnaflaaDoorCkRoom
import Derived.Test.YtchmfjendnaflaaDoorErrCode
import Derived.Deep.CutBlock
import Derived.Deep.RegionHeld3
namespace Go.Proofs.YtchmfjendnaflaaDoor
open Go.RowKit FerryCrc
set_option linter.unusedVariables false
set_option linter.unusedSimpArgs false

/-- append of 200 zeros to a list of one's own. -/
theorem append_zeros {w : World} {ops : Array Oper} {rest : List Oper} {o : Oper} {act : Act} {Q : Exit → Act → World → Prop} (hgd : o.guard = none) (s : Operand)
    (ho : o.op = .call { callee := .builtin .append, args := #[s, .const (.int .i64 200)], argTypes := #[22, 3] })
    (base : Nat) (v : Value) (l : List Nat) (hs : act.eval s = v) (hown : Own w base v l) (hl : l.length + 200 ≤ 140737488355328)
    (h : ∀ v' w', ((∃ g c : Nat, v = .slice (some ⟨g, 0, none⟩) l.length c ∧ l.length + 200 ≤ c ∧ w' = w.setCells g l.length (List.replicate 200 (.int .u8 0))) ∨ Below w.heap.size w w') → wpList Tryd.prog ops Q rest (act.put o.dst v') w') : wpList Tryd.prog ops Q (o :: rest) act w := by
  obtain ⟨v', w', hrun, hw⟩ := zeros_gen w base 200 v l o.type hown (by decide) (by decide) hl
  have hrun : (Builtin.append_ #[22, 3] o.type #[v, .int .i64 200]).run Tryd.prog w = .ok v' w' := hrun
  refine wpList_plain hgd fun K hK' => ?_
  have he : act.eval (.const (.int .i64 200)) = .int .i64 200 := rfl
  unfold Oper.wp
  simp only [execOp, ho, resolve, invoke, builtin, Sem.run_bind, Sem.run_pure, Result.andThen_ok, List.map_toArray, List.map_cons, List.map_nil, hs, he, hrun]
  exact hK' _ _ (h v' w' hw)

set_option maxRecDepth 100000 in
set_option maxHeartbeats 4000000 in
theorem kapart_any (a : Option Addr) (n c base : Nat) (rs : List JW) (w : World) (h : DbOwn w base (.slice a n c) rs) (hn : rs.length = n) (hp : Pw rs) (hsz : ∀ r ∈ rs, r.l.length ≤ 140737488354100) (hlen : n ≤ 1000) (hbw : base ≤ w.heap.size) :
    Calls Tryd.prog 16 #[.slice a n c] w fun e w' => e = .returned (.bool true) ∧ Frm (fun b => ∃ r ∈ rs, r.v.ownBlock = some b) w w' := by
  have HD := hide h
  have HN := hide hn
  have HP := hide hp
  have HSZ := hide hsz
  have HBK : Hid (∀ r ∈ rs, ∀ k, r.v.ownBlock = some k → base ≤ k ∧ k < w.heap.size) := fun r hr k hk => World.ownsRow.lt (h.own r hr) k hk
  have HVB : Hid (∀ k, (Value.slice a n c).ownBlock = some k → base ≤ k ∧ k < w.heap.size) := fun k hk => World.ownsRow.lt h.row k hk
  have HBB0 : Hid (base ≤ w.heap.size) := hbw
  clear h hn hp hsz hbw
  go_enter Tryd.func16, Tryd.ntmps16
  go_wp2_with fail
  go_loopw [3] (fun i wr => ∃ (k : Nat) (rs' : List JW), k ≤ n ∧ i = .int .i64 (k : Int) ∧ Hid (DbOwn wr base (.slice a n c) rs') ∧ Hid (Mkd rs rs' k) ∧ Hid (Frm (fun b => ∃ r ∈ rs, r.v.ownBlock = some b) w wr)) (fun i _ => n - (intOf i).toNat)
  case atStart => exact ⟨0, rs, by omega, rfl, HD.out, Mkd.refl rs, Frm.refl _ _⟩
  case round =>
    obtain ⟨k, rs', hk, rfl, HD1, HM1, HB1⟩ := hrel
    by_cases hlt : k < n
    · obtain ⟨r, hr⟩ : ∃ r, rs[k]? = some r := ⟨_, List.getElem?_eq_getElem (by rw [HN.out]; exact hlt)⟩
      have HR := hide hr
      obtain ⟨m, hm⟩ : ∃ m, r.l.length = m := ⟨_, rfl⟩
      have hmb : m ≤ 140737488354100 := by rw [← hm]; exact HSZ.out r (List.mem_of_getElem? hr)
      have HMM := hide hm
      obtain ⟨gl, cl, hgl⟩ : ∃ gl cl, Value.slice a n c = .slice (some ⟨gl, 0, none⟩) n cl := by
        obtain ⟨gl, cl, e⟩ := HD.out.form (by rw [HN.out]; omega)
        rw [HN.out] at e
        exact ⟨gl, cl, e⟩
      simp only [Value.slice.injEq, true_and] at hgl
      obtain ⟨rfl, rfl⟩ := hgl
      have hrn : r.n = m := by rw [own_n (HD.out.own r (List.mem_of_getElem? hr)), hm]
      have HRN := hide hrn
      clear hr hm hrn
      go_wp2_with fail
      go_loopw [4] (fun i w2 => ∃ (q : Nat) (rs2 : List JW) (r2 : JW), q ≤ m ∧ i = .int .i64 (q : Int) ∧ Hid (DbOwn w2 base (.slice (some ⟨gl, 0, none⟩) n c) rs2) ∧ Hid (Mkd rs rs2 k) ∧ Hid (rs2[k]? = some r2 ∧ r2.v = r.v ∧ r2.l.length = m ∧ r2.l.take q = (mkOf k m).take q) ∧ Hid (Frm (fun b => ∃ r ∈ rs, r.v.ownBlock = some b) w w2)) (fun i _ => m - (intOf i).toNat)
      case atStart =>
        obtain ⟨r2, e1, e2, e3, _⟩ := HM1.out.each k r HR.out
        exact ⟨0, rs', r2, by omega, rfl, HD1, HM1, ⟨e1, e2, e3.trans HMM.out, rfl⟩, HB1⟩
      case round =>
        obtain ⟨q, rs2, r2, hq, rfl, HD2, HM2, HR2, HB2⟩ := hrel
        have hr2 := HR2.out.1
        have hv2 := HR2.out.2.1
        have hl2 := HR2.out.2.2.1
        have ht2 := HR2.out.2.2.2
        have hlen2 : rs2.length = n := HM2.out.len.trans HN.out
        have c0 : wr.cell? ⟨gl, k, none⟩ = some (.slice r.a m r.c) := by
          have := HD2.out.cell hlen2 hr2
          rw [this, show Value.slice r2.a r2.n r2.c = Value.slice r.a r.n r.c from hv2, HRN.out]
        have HO2 := hide (HD2.out.own r2 (List.mem_of_getElem? hr2))
        by_cases hqm : q < m
        · obtain ⟨g, hg⟩ : ∃ g, r.a = some ⟨g, 0, none⟩ := by
            have h1 := HO2.out
            rw [hv2] at h1
            exact own_a h1 (by omega)
          have hvs : r2.v = .slice (some ⟨g, 0, none⟩) m r.c := by
            rw [hv2]
            show Value.slice r.a r.n r.c = _
            rw [hg, HRN.out]
          have ho := HO2.out
          rw [hvs] at ho
          obtain ⟨y, hy⟩ : ∃ y, r2.l[q]? = some y := ⟨_, List.getElem?_eq_getElem (by omega)⟩
          have c1 := ho.cellAt hl2 q y hy
          have f1 := ho.frozenAt hl2 q
          rw [hg] at c0
          have HMK := hide (fun wx => mark_any k q wx (by omega) (by omega))
          obtain ⟨x, hx⟩ : ∃ x, (17 * k + 5 * q + 3) % 256 = x := ⟨_, rfl⟩
          rw [hx] at HMK
          have HDP := hide (HD2.out.put (HM2.out.pw HP.out) hr2 hvs hl2 q x)
          have HMP := hide (HM2.out.put hr2 (r2.l.set q x) (by rw [List.length_set]))
          have HRP : Hid ((rs2.set k (r2.wl (r2.l.set q x)))[k]? = some (r2.wl (r2.l.set q x)) ∧ (r2.wl (r2.l.set q x)).v = r.v ∧ (r2.wl (r2.l.set q x)).l.length = m ∧ (r2.wl (r2.l.set q x)).l.take (q + 1) = (mkOf k m).take (q + 1)) := by
            refine ⟨by rw [List.getElem?_set, if_pos rfl, if_pos (List.getElem?_eq_some_iff.1 hr2).1], hv2, by show (r2.l.set q x).length = m; rw [List.length_set]; exact hl2, ?_⟩
            show (r2.l.set q x).take (q + 1) = _
            rw [← hx]
            exact mk_step hl2 hqm ht2
          have hgb := HBK.out r (List.mem_of_getElem? HR.out) g (by show (Value.slice r.a r.n r.c).ownBlock = some g; rw [hg]; rfl)
          have HBP : Hid (Frm (fun b => ∃ r ∈ rs, r.v.ownBlock = some b) w (wr.setCell ⟨g, q, none⟩ (.int .u8 (x : Int)))) := HB2.out.trans (frm_setCell wr ⟨g, q, none⟩ (.int .u8 (x : Int))) (fun j _ (e : j = g) => ⟨r, List.mem_of_getElem? HR.out, by rw [e]; show (Value.slice r.a r.n r.c).ownBlock = some g; rw [hg]; rfl⟩)
          have cS : (wr.setCell ⟨g, q, none⟩ (.int .u8 (x : Int))).cell? ⟨gl, k, none⟩ = some (.slice (some ⟨g, 0, none⟩) m r.c) := by
            have h1 := HDP.out.cell (by rw [List.length_set]; exact hlen2) HRP.out.1
            rw [h1]
            show some r2.v = _
            rw [hvs]
          clear ho hy hr2 hv2 hl2 ht2 hlen2 hvs hx hgb
          go_wp2_with fail
          go_region_held3 (fun wz => wz.cell? ⟨gl, k, none⟩ = some (.slice (some ⟨g, 0, none⟩) m r.c)) (first | exact c0 | exact cS) (first | (go_at_call 36; refine (HMK.out _).mono ?_; rintro e w' ⟨rfl, rfl⟩))
          all_goals go_wp2
          all_goals exact ⟨⟨q + 1, _, _, by omega, by first | rfl | simp, HDP.out.below (Below.refl _ _).drew, HMP, HRP, HBP.out.drew⟩, by simp [intOf]; omega⟩
        · obtain rfl : q = m := by omega
          have hfull : r2.l = mkOf k q := by
            have h1 := ht2
            rw [List.take_of_length_le (by omega), List.take_of_length_le (by rw [mkOf_len]; exact Nat.le_refl _)] at h1
            exact h1
          have HNX := hide (HM2.out.next HR.out hr2 (by rw [HMM.out]; exact hfull))
          clear hr2 hv2 hl2 ht2 hlen2 hfull
          go_wp2
          exact ⟨⟨k + 1, rs2, by omega, by first | rfl | simp, HD2, HNX, HB2⟩, by simp [intOf]; omega⟩
    · obtain rfl : n = k := by omega
      have HLN : Hid (rs'.length = n) := HM1.out.len.trans HN.out
      have HPW : Hid (Pw rs') := HM1.out.pw HP.out
      have HEA : Hid (∀ (j : Nat) (r1 : JW), rs'[j]? = some r1 → r1.l.length ≤ 140737488354100 ∧ r1.l = mkOf j r1.l.length) := fun j r1 hj => by
        have hjl : j < rs.length := by rw [← HM1.out.len]; exact (List.getElem?_eq_some_iff.1 hj).1
        obtain ⟨r, hr⟩ : ∃ r, rs[j]? = some r := ⟨_, List.getElem?_eq_getElem hjl⟩
        obtain ⟨q, h1, h2, h3, h4⟩ := HM1.out.each j r hr
        rw [hj] at h1
        obtain rfl := Option.some.inj h1
        have hjk : j < n := by rw [HN.out] at hjl; exact hjl
        have h5 := h4 hjk
        exact ⟨by rw [h3]; exact HSZ.out r (List.mem_of_getElem? hr), by rw [h3]; exact h5⟩
      have HBK1 : Hid (∀ p ∈ rs', ∀ b, p.v.ownBlock = some b → base ≤ b ∧ b < w.heap.size) := fun p hp b hb => by
        obtain ⟨p0, hp0, e⟩ := HM1.out.src hp
        rw [e] at hb
        exact HBK.out p0 hp0 b hb
      have HW1 : Hid (w.heap.size ≤ wr.heap.size) := HB1.out.size
      have HSRC : Hid (∀ p ∈ rs', ∀ b, p.v.ownBlock = some b → ∃ r ∈ rs, r.v.ownBlock = some b) := fun p hp b hb => by
        obtain ⟨p0, hp0, e⟩ := HM1.out.src hp
        exact ⟨p0, hp0, by rw [← e]; exact hb⟩
      clear HM1 HSZ HBK hk hlt HN HP HD
      go_wp2_with fail
      go_loopw [5] (fun i w2 => ∃ q : Nat, q ≤ n ∧ i = .int .i64 (q : Int) ∧ Hid (DbOwn w2 base (.slice a n c) rs') ∧ Hid (w.heap.size ≤ w2.heap.size) ∧ Hid (Frm (fun b => ∃ r ∈ rs, r.v.ownBlock = some b) w w2)) (fun i _ => n - (intOf i).toNat)
      case atStart => exact ⟨0, by omega, rfl, HD1, HW1, HB1⟩
      case round =>
        obtain ⟨q, hq, rfl, HD2, HW2, HB2⟩ := hrel
        by_cases hqk : q < n
        · obtain ⟨r1, hr1⟩ : ∃ r1, rs'[q]? = some r1 := ⟨_, List.getElem?_eq_getElem (by rw [HLN.out]; exact hqk)⟩
          have HR1 := hide hr1
          obtain ⟨gl, hgl⟩ : ∃ gl, a = some ⟨gl, 0, none⟩ := by
            obtain ⟨gl, cl, e⟩ := HD2.out.form (by rw [HLN.out]; omega)
            simp only [Value.slice.injEq] at e
            exact ⟨gl, e.1⟩
          subst hgl
          have c0 := HD2.out.cell HLN.out hr1
          clear hr1
          obtain ⟨N2, hN2⟩ : ∃ N2, wr.heap.size = N2 := ⟨_, rfl⟩
          have HN2 : Hid (w.heap.size ≤ N2) := by unfold Hid; have := HW2.out; omega
          have HN2b : Hid (wr.heap.size = N2) := hN2
          clear hN2
          go_wp2_with fail
          go_loopw [6, 7] (fun gv t w3 => ∃ (s : Nat), s ≤ 16 ∧ t = .int .i64 (s : Int) ∧ Hid (DbOwn w3 base (.slice (some ⟨gl, 0, none⟩) n c) rs') ∧ Hid (Own w3 base gv (r1.l ++ List.replicate s 238)) ∧ Hid (Gro N2 r1.v gv s) ∧ Hid (N2 ≤ w3.heap.size) ∧ Hid (Frm (fun b => ∃ r ∈ rs, r.v.ownBlock = some b) w w3)) (fun _ t _ => 16 - (intOf t).toNat)
          case atStart => exact ⟨0, by omega, rfl, HD2, by have h1 := HD2.out.own r1 (List.mem_of_getElem? HR1.out); show Own _ _ _ _; rw [List.replicate_zero, List.append_nil]; exact h1, Gro.start (HD2.out.own r1 (List.mem_of_getElem? HR1.out)), by have := HN2b.out; show N2 ≤ _; omega, HB2⟩
          case round =>
            obtain ⟨s, hs, rfl, HD3, HO3, HF3, HW3, HB3⟩ := hrel
            have HSM1 := hide (HEA.out q r1 HR1.out)
            by_cases hs16 : s < 16
            · have hs3 : (s : Int) < 16 := by omega
              have HTK : Hid (List.replicate (s + 1) 238 = List.replicate s 238 ++ [238]) := by unfold Hid; rw [List.replicate_succ']
              have HA3 : Hid (Below wr.heap.size wr (wr.alloc (.cells #[.int .u8 238] 5))) := (Below.refl _ _).alloc (Nat.le_refl _) _
              have HOA := hide (HO3.out.below HA3.out)
              have HXC : Hid ((wr.alloc (.cells #[.int .u8 238] 5)).cell? ⟨wr.heap.size, 0, none⟩ = some (.int .u8 ((238 : Nat) : Int))) := (World.cell?_alloc_at _ _ _ _ rfl).trans rfl
              have HLL : Hid ((r1.l ++ List.replicate s 238).length + 1 ≤ 140737488355328) := by unfold Hid; rw [List.length_append, List.length_replicate]; have := HSM1.out.1; omega
              have HBW : Hid (base ≤ (wr.alloc (.cells #[.int .u8 238] 5)).heap.size) := by unfold Hid; have h1 := HA3.out.size; have h2 := HW3.out; have h3 := HN2.out; have h5 := HBB0.out; omega
              go_wp2_with (refine append_bk rfl (.tmp 48) (.tmp 49) rfl base u6 _ rfl HOA.out wr.heap.size 238 rfl HXC.out HLL.out HBW.out ?_; intro gv4 w4 ho4 hg4; have HO4 := hide ho4; have HG4 := hide hg4; clear ho4 hg4)
              have HGV : Hid (∀ b, u6.ownBlock = some b → base ≤ b) := fun b hb => (World.ownsRow.lt HO3.out b hb).1
              have hNN : N2 ≤ (wr.alloc (.cells #[.int .u8 238] 5)).heap.size := Nat.le_trans HW3.out HA3.out.size
              have HD4 := hide ((HD3.out.below HA3.out).grw HPW.out HR1.out HG4.out HOA.out HF3.out (fun p hp b hb => by have := (HBK1.out p hp b hb).2; have := HN2.out; omega) (fun b hb => by have := (HVB.out b hb).2; have := HN2.out; omega))
              have HF4 := hide (HF3.out.step HG4.out hNN)
              have HB4 : Hid (Frm (fun b => ∃ r ∈ rs, r.v.ownBlock = some b) w w4) := (HB3.out.trans (Frm.ofBelow (S := fun _ => False) HA3.out) (fun _ _ t => t.elim)).trans (grw_frm HG4.out) (fun j hj e => by
                rcases HF3.out with ⟨g, m', c', e1, e2⟩ | h
                · rw [e2] at e
                  exact HSRC.out r1 (List.mem_of_getElem? HR1.out) j (by rw [e1]; exact e)
                · have := h j e; have := HN2.out; omega)
              have HW4 : Hid (N2 ≤ w4.heap.size) := Nat.le_trans hNN (grw_frm HG4.out).size
              refine ⟨⟨s + 1, by omega, by first | rfl | simp, HD4, ?_, HF4, HW4, HB4⟩, by simp [intOf]; omega⟩
              unfold Hid
              rw [HTK.out, ← List.append_assoc]
              exact HO4.out
            · obtain rfl : s = 16 := by omega
              have c0 := HD3.out.cell HLN.out HR1.out
              have HO1 := hide (HD3.out.own r1 (List.mem_of_getElem? HR1.out))
              have HL1 : Hid (r1.l.length + 200 ≤ 140737488355328) := by unfold Hid; have := HSM1.out.1; omega
              go_wp2_with (refine append_zeros rfl (.tmp 54) rfl base (.slice r1.a r1.n r1.c) r1.l rfl HO1.out HL1.out ?_; intro v5 w5 hw5; have HW5 := hide hw5; clear hw5)
              have HD5 : Hid (DbOwn w5 base (.slice (some ⟨gl, 0, none⟩) n c) rs' ∧ Frm (fun b => ∃ r ∈ rs, r.v.ownBlock = some b) wr w5) := by
                rcases HW5.out with ⟨g, c', e, hc, rfl⟩ | hb
                · have hv : r1.v.ownBlock = some g := by show (Value.slice r1.a r1.n r1.c).ownBlock = _; rw [e]; rfl
                  have hf := frm_setCells g (List.replicate 200 (Value.int .u8 0)) r1.l.length wr
                  have hm1 := List.mem_of_getElem? HR1.out
                  refine ⟨⟨row_frm HD3.out.row hf (fun k hk (e2 : k = g) => HD3.out.ne r1 hm1 g hv (by rw [← e2]; exact hk)), HD3.out.ne, fun p hp => ?_⟩, hf.mono (fun b _ (e2 : b = g) => by rw [e2]; exact HSRC.out r1 hm1 g hv)⟩
                  obtain ⟨j, hj⟩ := mem_at hp
                  by_cases ej : j = q
                  · subst ej
                    rw [HR1.out] at hj
                    obtain rfl := Option.some.inj hj
                    have h1 := HO1.out
                    rw [show r1.v = .slice (some ⟨g, 0, none⟩) r1.l.length c' from e] at h1 ⊢
                    exact own_setCells _ _ _ h1 rfl (Nat.le_refl _)
                  · exact (HD3.out.own p hp).frm hf (fun k hk (e2 : k = g) => HPW.out q j r1 p (fun e => ej e.symm) HR1.out hj g hv (by rw [← e2]; exact hk))
                · exact ⟨HD3.out.below hb, Frm.ofBelow hb⟩
              exact ⟨⟨q + 1, by omega, by first | rfl | simp, HD5.out.1, by have h1 := HD5.out.2.size; have h2 := HW3.out; have h3 := HN2.out; show _ ≤ _; omega, HB3.out.trans HD5.out.2 (fun _ _ t => t)⟩, by simp [intOf]; omega⟩
        · obtain rfl : n = q := by omega
          clear hq hqk
          go_wp2_with fail
          go_loopw [8] (fun i w2 => ∃ j : Nat, j ≤ n ∧ i = .int .i64 (j : Int) ∧ Hid (Below wr.heap.size wr w2)) (fun i _ => n - (intOf i).toNat)
          case atStart => exact ⟨0, by omega, rfl, Below.refl _ _⟩
          case round =>
            obtain ⟨j, hj, rfl, HBJ⟩ := hrel
            by_cases hjk : j < n
            · obtain ⟨r1, hr1⟩ : ∃ r1, rs'[j]? = some r1 := ⟨_, List.getElem?_eq_getElem (by rw [HLN.out]; exact hjk)⟩
              obtain ⟨hm1, hs1⟩ := HEA.out j r1 hr1
              obtain ⟨gl, hgl⟩ : ∃ gl, a = some ⟨gl, 0, none⟩ := by
                obtain ⟨gl, cl, e⟩ := HD2.out.form (by rw [HLN.out]; omega)
                simp only [Value.slice.injEq] at e
                exact ⟨gl, e.1⟩
              subst hgl
              have HC0 := hide (HD2.out.cell HLN.out hr1)
              have ho1 := HD2.out.own r1 (List.mem_of_getElem? hr1)
              have hn1 := own_n ho1
              obtain ⟨m, hm⟩ : ∃ m, r1.l.length = m := ⟨_, rfl⟩
              rw [hm] at hm1 hs1 hn1
              have HS1 := hide hs1
              have HN1 := hide hn1
              have HO1 := hide ho1
              have HLM := hide hm
              have c0 := cell_below HC0.out HBJ.out
              rw [HN1.out] at c0
              have C0 := hide c0
              clear hr1 hs1 ho1 hn1 hm
              go_wp2_with fail
              clear c0
              go_loopw [9] (fun i w3 => ∃ q : Nat, q ≤ m ∧ i = .int .i64 (q : Int) ∧ Hid (Below wr.heap.size wr w3)) (fun i _ => m - (intOf i).toNat)
              case atStart => exact ⟨0, by omega, rfl, Below.refl _ _⟩
              case round =>
                obtain ⟨q, hq, rfl, HBQ⟩ := hrel
                have c0 := cell_below C0.out HBQ.out
                by_cases hqm : q < m
                · obtain ⟨g, hg⟩ : ∃ g, r1.a = some ⟨g, 0, none⟩ := own_a HO1.out (by rw [HLM.out]; omega)
                  have ho := HO1.out
                  rw [show r1.v = .slice (some ⟨g, 0, none⟩) m r1.c from by show Value.slice r1.a r1.n r1.c = _; rw [hg, HN1.out]] at ho
                  obtain ⟨x, hx⟩ : ∃ x, (17 * j + 5 * q + 3) % 256 = x := ⟨_, rfl⟩
                  have c1 := cell_below (cell_below (ho.cellAt HLM.out q x (by rw [HS1.out, mkOf_at hqm, hx])) HBJ.out) HBQ.out
                  rw [hg] at c0
                  have HMK := hide (fun wx => mark_any j q wx (by omega) (by omega))
                  rw [hx] at HMK
                  clear ho hx
                  go_wp2_with fail
                  go_region_held3 (fun wz => wz.cell? ⟨gl, j, none⟩ = some (.slice (some ⟨g, 0, none⟩) m r1.c) ∧ wz.cell? ⟨g, q, none⟩ = some (.int .u8 (x : Int))) (exact ⟨c0, c1⟩) (first | (go_at_call 36; refine (HMK.out _).mono ?_; rintro e w' ⟨rfl, rfl⟩))
                  all_goals go_wp2
                  all_goals exact ⟨⟨q + 1, by omega, by first | rfl | simp, HBQ.out.drew⟩, by simp [intOf]; omega⟩
                · obtain rfl : q = m := by omega
                  go_wp2
                  exact ⟨⟨j + 1, by omega, by first | rfl | simp, chain HBJ.out HBQ.out⟩, by simp [intOf]; omega⟩
            · have HZZ := hide (HB2.out.trans (Frm.ofBelow (S := fun _ => False) HBJ.out) (fun _ _ t => t.elim))
              go_wp2
              go_ret
              exact ⟨rfl, HZZ.out⟩
end Go.Proofs.YtchmfjendnaflaaDoor
