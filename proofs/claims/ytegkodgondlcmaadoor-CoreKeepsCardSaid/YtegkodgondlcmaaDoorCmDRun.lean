/-
  The document's run.
-/
import Derived.Test.YtegkodgondlcmaaDoorCmDStep
import Derived.Test.YtegkodgondlcmaaDoorCmPath
import Derived.Test.YtegkodgondlcmaaDoorCmKeep
import Derived.Deep.Cut
namespace Go.Proofs.YtegkodgondlcmaaDoor
open Go.RowKit FerryCrc FerryAlu
set_option linter.unusedVariables false
set_option linter.unusedSimpArgs false

theorem infoMch : (Tryd.prog.info? 56).map (·.size) = some 25 := by kernel_rfl
theorem build56x (a : Option Addr) (n c : Nat) (x0 x1 x2 x3 x4 x5 x6 x7 x8 x9 x10 x11 x12 x13 x14 x15 x16 x17 x18 x19 x20 : Value) (w : World) : (Instr.build 56 #[(0, .slice a n c), (1, .agg #[x0, x1, x2, x3, x4, x5, x6, x7, x8, x9, x10, x11, x12, x13, x14, x15, x16, x17, x18, x19, x20])]).run Tryd.prog w = .ok (.agg #[.slice a n c, x0, x1, x2, x3, x4, x5, x6, x7, x8, x9, x10, x11, x12, x13, x14, x15, x16, x17, x18, x19, x20, .int .i64 0, .int .i64 0, .int .i64 0]) w := by kernel_rfl
/-- The cells of the document's machine. -/
def mch (v : Value) (l : List Value) (k s c : Int) : List Value := v :: (l ++ [.int .i64 k, .int .i64 s, .int .i64 c])
theorem build56 (a : Option Addr) (n c : Nat) (l : List Value) (h : l.length = 21) (ev : Operand → Value) (x y : Operand) (hx : ev x = .slice a n c) (hy : ev y = .agg l.toArray) (o : Oper) (ho : o.op = .build 56 #[(0, x), (1, y)]) (w : World) :
    (execOp ev o).run Tryd.prog w = .ok (.value (.agg (mch (.slice a n c) l 0 0 0).toArray)) w := by
  obtain ⟨x0, x1, x2, x3, x4, x5, x6, x7, x8, x9, x10, x11, x12, x13, x14, x15, x16, x17, x18, x19, x20, rfl⟩ := list21 h
  unfold execOp
  simp only [ho, List.map_toArray, List.map_cons, List.map_nil, hx, hy, Sem.run_bind, build56x, Result.andThen_ok, Sem.run_pure]
  rfl
theorem mch_len {l : List Value} (h : l.length = 21) (v : Value) (k s c : Int) : (mch v l k s c).length = 25 := by simp [mch, h]
theorem mch_one (a : Option Addr) (n cp : Nat) (m : Mc) (k s c : Int) : ∀ u ∈ mch (.slice a n cp) m.proc k s c, u.oneCell' = true := by
  intro u hu
  unfold mch at hu
  rcases List.mem_cons.1 hu with rfl | hu
  · rfl
  · rcases List.mem_append.1 hu with hu | hu
    · exact proc_one m u hu
    · simp only [List.mem_cons, List.not_mem_nil, or_false] at hu
      rcases hu with rfl | rfl | rfl <;> rfl
/-- From the cells to the machine. -/
theorem dat_of {w : World} {mb base : Nat} {v : Value} {m : Mc} {k s c : Int} (hb : Bl w mb (mch v m.proc k s c)) (ho : POwn w base v m.pages) (hn : v.ownBlock ≠ some mb) (ok : m.Ok) (hl : base ≤ mb) (hlt : mb < w.heap.size) (hs : base ≤ w.heap.size) : DAt w mb base v m k s c := by
  have h21 := proc_len ok
  refine ⟨⟨⟨fun j x hx => hb.cell j x ?_, hb.free⟩, ho, hn, ok, hl, hlt, hs⟩, hb.cell 22 _ ?_, hb.cell 23 _ ?_, hb.cell 24 _ ?_⟩
  · unfold mch
    rw [← List.cons_append, List.getElem?_append_left (List.getElem?_eq_some_iff.1 hx).1]
    exact hx
  all_goals
    unfold mch
    rw [List.getElem?_cons_succ, List.getElem?_append_right (by omega), h21]
    rfl
/-- And back. -/
theorem dat_range {w : World} {mb base : Nat} {v : Value} {m : Mc} {k s c : Int} (h : DAt w mb base v m k s c) : w.rangeAt mb 0 (mch v m.proc k s c) := fun j x hx => by
  have h21 := proc_len h.m.ok
  rw [Nat.zero_add]
  by_cases hj : j < 22
  · refine h.m.bl.cell j x ?_
    unfold mch at hx
    rw [← List.cons_append, List.getElem?_append_left (by simp [h21]; omega)] at hx
    exact hx
  · have hlt := (List.getElem?_eq_some_iff.1 hx).1
    rw [mch_len h21] at hlt
    unfold mch at hx
    rcases (by omega : j = 22 ∨ j = 23 ∨ j = 24) with rfl | rfl | rfl
    all_goals
      rw [List.getElem?_cons_succ, List.getElem?_append_right (by omega), h21] at hx
      simp only [Nat.reduceSub, List.getElem?_cons_zero, List.getElem?_cons_succ, Option.some.injEq] at hx
      subst hx
      first | exact h.s0 | exact h.s1 | exact h.s2
theorem dat_from0 {w : World} {mb base : Nat} {v : Value} {m : Mc} {x y z : Int} (h : DAt w mb base v m x y z) : (∃ r, w.cell? ⟨mb, 1, none⟩ = some (.int .u32 r)) ∧ DAt (w.setCell ⟨mb, 1, none⟩ (.int .u32 0)) mb base v m.from0 x y z := by
  have hc := h.m.reg (k := 0) (by decide)
  refine ⟨⟨_, hc⟩, h.setCell (by omega) _ ?_⟩
  have hl := proc_len h.m.ok
  have hb := h.m.bl.set (k := 1) (by simp [hl]) (.int .u32 0)
  have he : (v :: m.proc).set 1 (.int .u32 0) = v :: m.from0.proc := by
    rw [from0_proc h.m.ok]
    rfl
  rw [he] at hb
  exact ⟨hb, own_far h.m.own h.m.ne, h.m.ne, from0_ok h.m.ok, h.m.le, by simpa [World.setCell] using h.m.lt, by simpa [World.setCell] using h.m.size⟩
theorem DAt.oth {o : Option Nat} {w w' : World} {mb base : Nat} {v : Value} {m : Mc} {x y z : Int} (h : DAt w mb base v m x y z) (hf : Oth o w w') (h1 : o ≠ some mb) (h2 : ∀ k, v.ownBlock = some k → o ≠ some k) : DAt w' mb base v m x y z :=
  ⟨h.m.oth hf h1 h2, by rw [hf.cell (p := ⟨mb, 22, none⟩) h.m.lt h1]; exact h.s0, by rw [hf.cell (p := ⟨mb, 23, none⟩) h.m.lt h1]; exact h.s1, by rw [hf.cell (p := ⟨mb, 24, none⟩) h.m.lt h1]; exact h.s2⟩
/-- Words and pages lie in blocks of their own. -/
theorem own_types {w : World} {b b' : Nat} {v v' : Value} {l : List Nat} {l' : List Pg} (h : UOwn w b v l) (h' : POwn w b' v' l') (j : Nat) (e' : v'.ownBlock = some j) : v.ownBlock ≠ some j := fun e => by
  rcases h.2 with ⟨rfl, _⟩ | ⟨g, cap, cur, rfl, hg, hh, r⟩
  · cases e
  · rcases h'.2 with ⟨rfl, _⟩ | ⟨g', cap', cur', rfl, hg', hh', r'⟩
    · cases e'
    · injection e with e
      injection e' with e'
      subst e e'
      rw [hh] at hh'
      injection hh' with hh'
      injection hh' with _ ht
      exact absurd ht (by decide)
theorem res_rrun (tm : Array Value) (W : World) (g6 : Nat) (pv : Value) (M : List Value) (e6 : tm.getD 6 undef = .pointer (some ⟨g6, 0, none⟩)) (e7 : tm.getD 7 undef = pv)
    (h6 : W.rangeAt g6 0 M) (hM : M.length = 25) : (results Tryd.f18 tm).run Tryd.prog W = .ok (.tuple #[.agg M.toArray, pv]) W := by
  have l6 := run_loadVar_mid (P := Tryd.prog) W g6 0 56 M _ h6 Tryd.underlying56 rfl (by rw [hM]; exact infoMch)
  rw [Array.getD_eq_getD_getElem?] at e6 e7
  simp [results, Tryd.results18, asAddr, e6, e7, l6]
theorem uown_farCells {base g : Nat} {v : Value} {l : List Nat} (hne : v.ownBlock ≠ some g) : ∀ (vs : List Value) (o : Nat) (w : World), UOwn w base v l → UOwn (w.setCells g o vs) base v l
  | [], _, _, h => h
  | x :: vs, o, w, h => by
    show UOwn ((w.setCell ⟨g, o, none⟩ x).setCells g (o + 1) vs) base v l
    exact uown_farCells hne vs (o + 1) _ (h.oth ((Oth.refl (some g) w).setCell (j := o) x) (fun k e e' => hne (by rw [e]; exact e'.symm)))
theorem from0_proc0 {m : Mc} (ok : m.Ok) : m.from0.proc = m.proc.set 0 (.int .u32 0) := from0_proc ok
theorem two_new (w : World) (x y : Array Value) (t u : TypeId) : Bl ((w.alloc (.cells x t)).alloc (.cells y u)) w.heap.size x.toList ∧ Bl ((w.alloc (.cells x t)).alloc (.cells y u)) (w.heap.size + 1) y.toList ∧ Below w.heap.size w ((w.alloc (.cells x t)).alloc (.cells y u)) ∧ ((w.alloc (.cells x t)).alloc (.cells y u)).heap.size = w.heap.size + 2 := by
  have h1 := bl_alloc w x t
  have s1 : (w.alloc (.cells x t)).heap.size = w.heap.size + 1 := by simp
  have b1 : Below w.heap.size w (w.alloc (.cells x t)) := (Below.refl _ _).alloc (Nat.le_refl _) _
  generalize w.alloc (.cells x t) = w1 at *
  have h2 := bl_alloc w1 y u
  have s2 : (w1.alloc (.cells y u)).heap.size = w1.heap.size + 1 := by simp
  have b2 : Below w1.heap.size w1 (w1.alloc (.cells y u)) := (Below.refl _ _).alloc (Nat.le_refl _) _
  rw [s1] at h2 s2
  exact ⟨h1.below (by omega) b2, h2, b1.trans (b2.mono (by omega)), by omega⟩

set_option maxRecDepth 100000 in
set_option maxHeartbeats 8000000 in
theorem rrun_any (a : Option Addr) (len cap : Nat) (m : Mc) (n : Int) (w : World) (hs : Pgs w a len cap m.pages) (ok : m.Ok) (hn : n ≤ 10000) (hn0 : -9223372036854775808 ≤ n) :
    Calls Tryd.prog 18 #[.slice a len cap, .agg m.proc.toArray, .int .i64 n] w fun e w' => ∃ v pv, e = .returned (.tuple #[.agg (mch v (m.run n.toNat).m.proc (m.run n.toNat).kind (m.run n.toNat).steps (m.run n.toNat).code).toArray, pv]) ∧ POwn w' w.heap.size v (m.run n.toNat).m.pages ∧ UOwn w' w.heap.size pv (m.path n.toNat) ∧ (m.run n.toNat).m.Ok ∧ Below w.heap.size w w' := by
  have HS := hide hs
  have OK := hide ok
  have HPL : Hid (m.proc.length = 21) := proc_len ok
  obtain ⟨z4, z6, hb0, hsz⟩ := two_new w m.proc.toArray #[.slice none 0 0, .int .u32 0, .int .u32 0, .int .u32 0, .int .u32 0, .int .u32 0, .int .u32 0, .int .u32 0, .int .u32 0, .int .u32 0, .int .u32 0, .int .u32 0, .int .u32 0, .int .u32 0, .int .u32 0, .int .u32 0, .int .u32 0, .int .u32 0, .int .i64 0, .int .i64 0, .int .i64 0, .int .i64 0, .int .i64 0, .int .i64 0, .int .i64 0] 26 56
  have Z4 : Hid (Bl ((w.alloc (.cells m.proc.toArray 26)).alloc (.cells #[.slice none 0 0, .int .u32 0, .int .u32 0, .int .u32 0, .int .u32 0, .int .u32 0, .int .u32 0, .int .u32 0, .int .u32 0, .int .u32 0, .int .u32 0, .int .u32 0, .int .u32 0, .int .u32 0, .int .u32 0, .int .u32 0, .int .u32 0, .int .u32 0, .int .i64 0, .int .i64 0, .int .i64 0, .int .i64 0, .int .i64 0, .int .i64 0, .int .i64 0] 56)) w.heap.size m.proc) := z4
  have Z6 := hide z6
  have HB0 := hide hb0
  have HSZ := hide hsz
  clear hs ok z4 z6 hb0 hsz
  go_enter Tryd.func18, Tryd.ntmps18
  go_upto_region 1 with fail
  have HZL : Hid ((#[.slice none 0 0, .int .u32 0, .int .u32 0, .int .u32 0, .int .u32 0, .int .u32 0, .int .u32 0, .int .u32 0, .int .u32 0, .int .u32 0, .int .u32 0, .int .u32 0, .int .u32 0, .int .u32 0, .int .u32 0, .int .u32 0, .int .u32 0, .int .u32 0, .int .i64 0, .int .i64 0, .int .i64 0, .int .i64 0, .int .i64 0, .int .i64 0, .int .i64 0] : Array Value).toList.length = 25) := rfl
  generalize (#[.slice none 0 0, .int .u32 0, .int .u32 0, .int .u32 0, .int .u32 0, .int .u32 0, .int .u32 0, .int .u32 0, .int .u32 0, .int .u32 0, .int .u32 0, .int .u32 0, .int .u32 0, .int .u32 0, .int .u32 0, .int .u32 0, .int .u32 0, .int .u32 0, .int .i64 0, .int .i64 0, .int .i64 0, .int .i64 0, .int .i64 0, .int .i64 0, .int .i64 0] : Array Value) = ZA at *
  generalize (w.alloc (.cells m.proc.toArray 26)).alloc (.cells ZA 56) = W0 at *
  have HRG : Hid (∀ wz, Below W0.heap.size W0 wz → wz.rangeAt w.heap.size 0 m.proc) := fun wz hb => bl_range (Z4.out.below (by rw [HSZ.out]; omega) hb)
  have hu26 := Tryd.underlying26
  have hi26 : (Tryd.prog.info? 26).map (·.size) = some m.proc.length := by rw [HPL.out]; exact infoProc
  have HU26 := hide hu26
  have HI26 := hide hi26
  clear hu26 hi26
  have HW : Hid (Below W0.heap.size W0 W0.drew) := (Below.refl W0.heap.size W0).drew
  go_cut [8] from 11 (fun v8 wx => ∃ (g : Nat) (vv : Value), v8 = .pointer (some ⟨g, 0, none⟩) ∧ Hid (DAt wx g W0.heap.size vv m 0 0 0) ∧ Hid (Below W0.heap.size W0 wx))
  case first =>
    as_aux_lemma =>
      refine wp_region_held_drew (S := fun wz => wz.rangeAt w.heap.size 0 m.proc) (by kernel_rfl) (HRG.out _ HW.out) (fun hHeld => ?_)
      refine wpAnyH_take (i := 0) (oi := { dst := some 11, op := Go.Op.move (Go.Operand.tmp 0), type := 22, pos := "ref.go:142", after := #[], guard := none }) (v := ?_) rfl (by kernel_rfl) (by kernel_rfl) (by kernel_rfl) (fun _ _ _ h => h) (Or.inl ⟨by rfl, ?_⟩) (by assumption) ?_
      rotate_left
      · intro w hSw
        try dsimp only at hSw
        go_simp
        try with_reducible rfl
      simp only [Act.put, List.setIfInBounds_toArray, List.set_cons_zero, List.set_cons_succ]
      refine wpAnyH_take (i := 2) (oi := { dst := some 13, op := Go.Op.load 26 (Go.Operand.tmp 4), type := 26, pos := "ref.go:142", after := #[], guard := none }) rfl (by kernel_rfl) (by kernel_rfl) (by kernel_rfl) (fun _ _ _ h => h) (yieldsIf_load_mid (by rfl) _ _ rfl _ _ rfl _ _ (fun _ h => h) HU26.out rfl HI26.out) (by assumption) ?_
      simp only [Act.put, List.setIfInBounds_toArray, List.set_cons_zero, List.set_cons_succ]
      refine wpAnyH_ready (rs := [1, 4]) (by kernel_rfl) (by simp) ?_
      refine AllReadyH.cons (o := { dst := some 12, op := Go.Op.call { callee := Go.Callee.value (Go.Operand.func 10), args := #[Go.Operand.tmp 11], argTypes := #[22] }, type := 22, pos := "ref.go:142", after := #[{ on := 0, ground := Go.Ground.data }], guard := none }) rfl (fun K hK => ?_) (AllReadyH.cons (o := { dst := some 8, op := Go.Op.alloc 56, type := 0, pos := "ref.go:142", after := #[], guard := none }) rfl (fun K hK => ?_) AllReadyH.nil)
      · go_simp
        go_at_call 10
        refine (refCopy_any a len cap m.pages _ (HS.out.below (chain HB0.out HW.out))).mono ?_
        rintro e wx ⟨vc, rfl, ho, bx⟩
        have HOC := hide ho
        have HW2 := hide (chain HW.out bx)
        have HXS : Hid (W0.heap.size ≤ wx.heap.size) := bx.size
        obtain ⟨ca, cc, rfl, _, _⟩ := ho.pgs OK.out.ok OK.out.most
        clear ho
        try go_wp2_with fail
        refine hK.out _ _ (HRG.out _ HW2.out) (fun hHeld2 => ?_)
        clear hK K
        try simp only [Act.put, List.setIfInBounds_toArray, List.set_cons_zero, List.set_cons_succ]
        refine wpAnyH_take (i := 3) (oi := { dst := some 14, op := Go.Op.build 56 #[(0, Go.Operand.tmp 12), (1, Go.Operand.tmp 13)], type := 56, pos := "ref.go:142", after := #[{ on := 1, ground := Go.Ground.data }, { on := 2, ground := Go.Ground.data }], guard := none }) (v := .agg (mch (.slice ca m.pages.length cc) m.proc 0 0 0).toArray) rfl (by kernel_rfl) (by kernel_rfl) (by kernel_rfl) (fun _ _ _ h => h) (Or.inl ⟨by rfl, ?_⟩) (by assumption) ?_
        · intro wq hSw
          exact build56 ca m.pages.length cc m.proc HPL.out _ (.tmp 12) (.tmp 13) rfl rfl _ rfl wq
        simp only [Act.put, List.setIfInBounds_toArray, List.set_cons_zero, List.set_cons_succ]
        refine wpAnyH_ready (rs := [4]) (by kernel_rfl) (by simp) ?_
        refine AllReadyH.cons (o := { dst := some 8, op := Go.Op.alloc 56, type := 0, pos := "ref.go:142", after := #[], guard := none }) rfl (fun K hK => ?_) AllReadyH.nil
        go_simp
        have HZ25 : Hid ((#[.slice none 0 0, .int .u32 0, .int .u32 0, .int .u32 0, .int .u32 0, .int .u32 0, .int .u32 0, .int .u32 0, .int .u32 0, .int .u32 0, .int .u32 0, .int .u32 0, .int .u32 0, .int .u32 0, .int .u32 0, .int .u32 0, .int .u32 0, .int .u32 0, .int .i64 0, .int .i64 0, .int .i64 0, .int .i64 0, .int .i64 0, .int .i64 0, .int .i64 0] : Array Value).toList.length = 25) := rfl
        have hbl := bl_alloc wx #[.slice none 0 0, .int .u32 0, .int .u32 0, .int .u32 0, .int .u32 0, .int .u32 0, .int .u32 0, .int .u32 0, .int .u32 0, .int .u32 0, .int .u32 0, .int .u32 0, .int .u32 0, .int .u32 0, .int .u32 0, .int .u32 0, .int .u32 0, .int .u32 0, .int .i64 0, .int .i64 0, .int .i64 0, .int .i64 0, .int .i64 0, .int .i64 0, .int .i64 0] 56
        have hba : Below wx.heap.size wx (wx.alloc (.cells #[.slice none 0 0, .int .u32 0, .int .u32 0, .int .u32 0, .int .u32 0, .int .u32 0, .int .u32 0, .int .u32 0, .int .u32 0, .int .u32 0, .int .u32 0, .int .u32 0, .int .u32 0, .int .u32 0, .int .u32 0, .int .u32 0, .int .u32 0, .int .u32 0, .int .i64 0, .int .i64 0, .int .i64 0, .int .i64 0, .int .i64 0, .int .i64 0, .int .i64 0] 56)) := (Below.refl _ _).alloc (Nat.le_refl _) _
        have hza : (wx.alloc (.cells #[.slice none 0 0, .int .u32 0, .int .u32 0, .int .u32 0, .int .u32 0, .int .u32 0, .int .u32 0, .int .u32 0, .int .u32 0, .int .u32 0, .int .u32 0, .int .u32 0, .int .u32 0, .int .u32 0, .int .u32 0, .int .u32 0, .int .u32 0, .int .u32 0, .int .i64 0, .int .i64 0, .int .i64 0, .int .i64 0, .int .i64 0, .int .i64 0, .int .i64 0] 56)).heap.size = wx.heap.size + 1 := by simp
        refine hK.out _ _ (HRG.out _ (chain HW2.out hba)) (fun hHeld3 => ?_)
        clear hK K hHeld2
        try simp only [Act.put, List.setIfInBounds_toArray, List.set_cons_zero, List.set_cons_succ]
        generalize (#[.slice none 0 0, .int .u32 0, .int .u32 0, .int .u32 0, .int .u32 0, .int .u32 0, .int .u32 0, .int .u32 0, .int .u32 0, .int .u32 0, .int .u32 0, .int .u32 0, .int .u32 0, .int .u32 0, .int .u32 0, .int .u32 0, .int .u32 0, .int .u32 0, .int .i64 0, .int .i64 0, .int .i64 0, .int .i64 0, .int .i64 0, .int .i64 0, .int .i64 0] : Array Value) = ZB at *
        have HOC3 := hide (HOC.out.below hba)
        have HW3 := hide (chain HW2.out hba)
        have HGN : Hid ((Value.slice ca m.pages.length cc).ownBlock ≠ some wx.heap.size) := fun e => by have := (World.ownsRow.lt HOC.out _ e).2; omega
        have HBL3 := hide hbl
        have HZA := hide hza
        clear hbl hba hza
        generalize wx.alloc (.cells ZB 56) = W5 at *
        refine wpAnyH_ready (rs := [5]) (by kernel_rfl) (by simp) ?_
        refine AllReadyH.cons (o := { dst := none, op := Go.Op.store 56 (Go.Operand.tmp 8) (Go.Operand.tmp 14), type := 0, pos := "ref.go:142", after := #[{ on := 4, ground := Go.Ground.data }, { on := 3, ground := Go.Ground.data }, { on := 1, ground := Go.Ground.chain }, { on := 0, ground := Go.Ground.phase }, { on := 1, ground := Go.Ground.phase }, { on := 2, ground := Go.Ground.phase }, { on := 3, ground := Go.Ground.phase }, { on := 4, ground := Go.Ground.phase }], guard := none }) rfl (fun K hK => ?_) AllReadyH.nil
        have HTH : Hid (W5.there wx.heap.size 0 (mch (.slice ca m.pages.length cc) m.proc 0 0 0).length) := by
          have := bl_there HBL3.out
          rw [HZ25.out] at this
          unfold Hid
          rw [mch_len HPL.out]
          exact this
        have HI56 : Hid ((Tryd.prog.info? 56).map (·.size) = some (mch (.slice ca m.pages.length cc) m.proc 0 0 0).length) := by unfold Hid; rw [mch_len HPL.out]; exact infoMch
        refine step_store rfl 56 (.tmp 8) (.tmp 14) rfl wx.heap.size 0 (mch (.slice ca m.pages.length cc) m.proc 0 0 0) rfl rfl HTH.out HI56.out (mch_one ca m.pages.length cc m 0 0 0) ?_
        have HBN : Hid (Bl (W5.setCells wx.heap.size 0 (mch (.slice ca m.pages.length cc) m.proc 0 0 0)) wx.heap.size (mch (.slice ca m.pages.length cc) m.proc 0 0 0)) := bl_setCells HBL3.out (by rw [HZ25.out, mch_len HPL.out])
        have HON : Hid (POwn (W5.setCells wx.heap.size 0 (mch (.slice ca m.pages.length cc) m.proc 0 0 0)) W0.heap.size (.slice ca m.pages.length cc) m.pages) := own_farCells HGN.out _ _ _ HOC3.out
        have HBE : Hid (Below W0.heap.size W0 (W5.setCells wx.heap.size 0 (mch (.slice ca m.pages.length cc) m.proc 0 0 0))) := below_setCells HXS.out _ _ _ HW3.out
        have HSZ9 : Hid (wx.heap.size < (W5.setCells wx.heap.size 0 (mch (.slice ca m.pages.length cc) m.proc 0 0 0)).heap.size) := by unfold Hid; rw [setCells_size, HZA.out]; omega
        refine hK.out _ _ (HRG.out _ HBE.out) (fun hHeld4 => ?_)
        clear hK K hHeld3
        generalize W5.setCells wx.heap.size 0 (mch (.slice ca m.pages.length cc) m.proc 0 0 0) = W9 at *
        try simp only [Act.put, List.setIfInBounds_toArray, List.set_cons_zero, List.set_cons_succ]
        refine wpAnyH_done (by kernel_rfl) ?_ _
        (try simp only [Exit.inBlock, Exit.then])
        go_wp2
        go_meet
        case rel => exact ⟨_, _, rfl, dat_of HBN.out HON.out HGN.out OK.out HXS.out HSZ9.out HBE.out.size, HBE.out⟩
      · go_simp
        have HZ25 : Hid ((#[.slice none 0 0, .int .u32 0, .int .u32 0, .int .u32 0, .int .u32 0, .int .u32 0, .int .u32 0, .int .u32 0, .int .u32 0, .int .u32 0, .int .u32 0, .int .u32 0, .int .u32 0, .int .u32 0, .int .u32 0, .int .u32 0, .int .u32 0, .int .u32 0, .int .i64 0, .int .i64 0, .int .i64 0, .int .i64 0, .int .i64 0, .int .i64 0, .int .i64 0] : Array Value).toList.length = 25) := rfl
        have hbl : Bl (W0.alloc (.cells #[.slice none 0 0, .int .u32 0, .int .u32 0, .int .u32 0, .int .u32 0, .int .u32 0, .int .u32 0, .int .u32 0, .int .u32 0, .int .u32 0, .int .u32 0, .int .u32 0, .int .u32 0, .int .u32 0, .int .u32 0, .int .u32 0, .int .u32 0, .int .u32 0, .int .i64 0, .int .i64 0, .int .i64 0, .int .i64 0, .int .i64 0, .int .i64 0, .int .i64 0] 56)).drew W0.heap.size (#[.slice none 0 0, .int .u32 0, .int .u32 0, .int .u32 0, .int .u32 0, .int .u32 0, .int .u32 0, .int .u32 0, .int .u32 0, .int .u32 0, .int .u32 0, .int .u32 0, .int .u32 0, .int .u32 0, .int .u32 0, .int .u32 0, .int .u32 0, .int .u32 0, .int .i64 0, .int .i64 0, .int .i64 0, .int .i64 0, .int .i64 0, .int .i64 0, .int .i64 0] : Array Value).toList := (bl_alloc W0 #[.slice none 0 0, .int .u32 0, .int .u32 0, .int .u32 0, .int .u32 0, .int .u32 0, .int .u32 0, .int .u32 0, .int .u32 0, .int .u32 0, .int .u32 0, .int .u32 0, .int .u32 0, .int .u32 0, .int .u32 0, .int .u32 0, .int .u32 0, .int .u32 0, .int .i64 0, .int .i64 0, .int .i64 0, .int .i64 0, .int .i64 0, .int .i64 0, .int .i64 0] 56).drew
        have hba : Below W0.heap.size W0 (W0.alloc (.cells #[.slice none 0 0, .int .u32 0, .int .u32 0, .int .u32 0, .int .u32 0, .int .u32 0, .int .u32 0, .int .u32 0, .int .u32 0, .int .u32 0, .int .u32 0, .int .u32 0, .int .u32 0, .int .u32 0, .int .u32 0, .int .u32 0, .int .u32 0, .int .u32 0, .int .i64 0, .int .i64 0, .int .i64 0, .int .i64 0, .int .i64 0, .int .i64 0, .int .i64 0] 56)).drew := ((Below.refl _ _).alloc (Nat.le_refl _) _).drew
        have hza : (W0.alloc (.cells #[.slice none 0 0, .int .u32 0, .int .u32 0, .int .u32 0, .int .u32 0, .int .u32 0, .int .u32 0, .int .u32 0, .int .u32 0, .int .u32 0, .int .u32 0, .int .u32 0, .int .u32 0, .int .u32 0, .int .u32 0, .int .u32 0, .int .u32 0, .int .u32 0, .int .i64 0, .int .i64 0, .int .i64 0, .int .i64 0, .int .i64 0, .int .i64 0, .int .i64 0] 56)).drew.heap.size = W0.heap.size + 1 := (show (W0.alloc (.cells #[.slice none 0 0, .int .u32 0, .int .u32 0, .int .u32 0, .int .u32 0, .int .u32 0, .int .u32 0, .int .u32 0, .int .u32 0, .int .u32 0, .int .u32 0, .int .u32 0, .int .u32 0, .int .u32 0, .int .u32 0, .int .u32 0, .int .u32 0, .int .u32 0, .int .i64 0, .int .i64 0, .int .i64 0, .int .i64 0, .int .i64 0, .int .i64 0, .int .i64 0] 56)).heap.size = _ by simp)
        refine hK.out _ _ (HRG.out _ hba) (fun hHeld1 => ?_)
        clear hK K
        try simp only [Act.put, List.setIfInBounds_toArray, List.set_cons_zero, List.set_cons_succ]
        generalize (#[.slice none 0 0, .int .u32 0, .int .u32 0, .int .u32 0, .int .u32 0, .int .u32 0, .int .u32 0, .int .u32 0, .int .u32 0, .int .u32 0, .int .u32 0, .int .u32 0, .int .u32 0, .int .u32 0, .int .u32 0, .int .u32 0, .int .u32 0, .int .u32 0, .int .i64 0, .int .i64 0, .int .i64 0, .int .i64 0, .int .i64 0, .int .i64 0, .int .i64 0] : Array Value) = ZB at *
        have HBL1 := hide hbl
        have HW1 := hide hba
        have HZA := hide hza
        clear hbl hba hza
        generalize (W0.alloc (.cells ZB 56)).drew = W5 at *
        refine wpAnyH_ready (rs := [1]) (by kernel_rfl) (by simp) ?_
        refine AllReadyH.cons (o := { dst := some 12, op := Go.Op.call { callee := Go.Callee.value (Go.Operand.func 10), args := #[Go.Operand.tmp 11], argTypes := #[22] }, type := 22, pos := "ref.go:142", after := #[{ on := 0, ground := Go.Ground.data }], guard := none }) rfl (fun K hK => ?_) AllReadyH.nil
        go_simp
        go_at_call 10
        refine (refCopy_any a len cap m.pages _ (HS.out.below (chain HB0.out HW1.out))).mono ?_
        rintro e wx ⟨vc, rfl, ho, bx⟩
        have HOC := hide ho
        have HW2 := hide (chain HW1.out bx)
        have HXS : Hid (W5.heap.size ≤ wx.heap.size) := bx.size
        obtain ⟨ca, cc, rfl, _, _⟩ := ho.pgs OK.out.ok OK.out.most
        have HBX := hide bx
        clear ho
        try go_wp2_with fail
        refine hK.out _ _ (HRG.out _ HW2.out) (fun hHeld2 => ?_)
        clear hK K
        try simp only [Act.put, List.setIfInBounds_toArray, List.set_cons_zero, List.set_cons_succ]
        refine wpAnyH_take (i := 3) (oi := { dst := some 14, op := Go.Op.build 56 #[(0, Go.Operand.tmp 12), (1, Go.Operand.tmp 13)], type := 56, pos := "ref.go:142", after := #[{ on := 1, ground := Go.Ground.data }, { on := 2, ground := Go.Ground.data }], guard := none }) (v := .agg (mch (.slice ca m.pages.length cc) m.proc 0 0 0).toArray) rfl (by kernel_rfl) (by kernel_rfl) (by kernel_rfl) (fun _ _ _ h => h) (Or.inl ⟨by rfl, ?_⟩) (by assumption) ?_
        · intro wq hSw
          exact build56 ca m.pages.length cc m.proc HPL.out _ (.tmp 12) (.tmp 13) rfl rfl _ rfl wq
        simp only [Act.put, List.setIfInBounds_toArray, List.set_cons_zero, List.set_cons_succ]
        have HLT5 : Hid (W0.heap.size < W5.heap.size) := by unfold Hid; rw [HZA.out]; omega
        have HBL3 := hide (HBL1.out.below HLT5.out HBX.out)
        have HGN : Hid ((Value.slice ca m.pages.length cc).ownBlock ≠ some W0.heap.size) := fun e => by have h1 := (World.ownsRow.lt HOC.out _ e).1; have h2 := HLT5.out; omega
        refine wpAnyH_ready (rs := [5]) (by kernel_rfl) (by simp) ?_
        refine AllReadyH.cons (o := { dst := none, op := Go.Op.store 56 (Go.Operand.tmp 8) (Go.Operand.tmp 14), type := 0, pos := "ref.go:142", after := #[{ on := 4, ground := Go.Ground.data }, { on := 3, ground := Go.Ground.data }, { on := 1, ground := Go.Ground.chain }, { on := 0, ground := Go.Ground.phase }, { on := 1, ground := Go.Ground.phase }, { on := 2, ground := Go.Ground.phase }, { on := 3, ground := Go.Ground.phase }, { on := 4, ground := Go.Ground.phase }], guard := none }) rfl (fun K hK => ?_) AllReadyH.nil
        have HTH : Hid (wx.there W0.heap.size 0 (mch (.slice ca m.pages.length cc) m.proc 0 0 0).length) := by
          have := bl_there HBL3.out
          rw [HZ25.out] at this
          unfold Hid
          rw [mch_len HPL.out]
          exact this
        have HI56 : Hid ((Tryd.prog.info? 56).map (·.size) = some (mch (.slice ca m.pages.length cc) m.proc 0 0 0).length) := by unfold Hid; rw [mch_len HPL.out]; exact infoMch
        refine step_store rfl 56 (.tmp 8) (.tmp 14) rfl W0.heap.size 0 (mch (.slice ca m.pages.length cc) m.proc 0 0 0) rfl rfl HTH.out HI56.out (mch_one ca m.pages.length cc m 0 0 0) ?_
        have HBN : Hid (Bl (wx.setCells W0.heap.size 0 (mch (.slice ca m.pages.length cc) m.proc 0 0 0)) W0.heap.size (mch (.slice ca m.pages.length cc) m.proc 0 0 0)) := bl_setCells HBL3.out (by rw [HZ25.out, mch_len HPL.out])
        have HON : Hid (POwn (wx.setCells W0.heap.size 0 (mch (.slice ca m.pages.length cc) m.proc 0 0 0)) W0.heap.size (.slice ca m.pages.length cc) m.pages) := own_farCells HGN.out _ _ _ (HOC.out.weaken (Nat.le_of_lt HLT5.out))
        have HBE : Hid (Below W0.heap.size W0 (wx.setCells W0.heap.size 0 (mch (.slice ca m.pages.length cc) m.proc 0 0 0))) := below_setCells (Nat.le_refl _) _ _ _ HW2.out
        have HSZ9 : Hid (W0.heap.size < (wx.setCells W0.heap.size 0 (mch (.slice ca m.pages.length cc) m.proc 0 0 0)).heap.size) := by unfold Hid; rw [setCells_size]; exact Nat.lt_of_lt_of_le HLT5.out HXS.out
        refine hK.out _ _ (HRG.out _ HBE.out) (fun hHeld4 => ?_)
        clear hK K
        generalize wx.setCells W0.heap.size 0 (mch (.slice ca m.pages.length cc) m.proc 0 0 0) = W9 at *
        try simp only [Act.put, List.setIfInBounds_toArray, List.set_cons_zero, List.set_cons_succ]
        refine wpAnyH_done (by kernel_rfl) ?_ _
        (try simp only [Exit.inBlock, Exit.then])
        go_wp2
        go_meet
        case rel => exact ⟨_, _, rfl, dat_of HBN.out HON.out HGN.out OK.out (Nat.le_refl _) HSZ9.out HBE.out.size, HBE.out⟩
  case rest =>
    obtain ⟨mb, v0, rfl, HD, HBW⟩ := hcut
    obtain ⟨⟨x1, c1⟩, hd1⟩ := dat_from0 HD.out
    have f1 := HD.out.m.bl.free 1
    have HD1 := hide hd1
    have HBW1 : Hid (Below W0.heap.size W0 (wc.setCell ⟨mb, 1, none⟩ (.int .u32 0))) := HBW.out.setCell (p := ⟨mb, 1, none⟩) HD.out.m.le _
    have HML0 := hide HD.out.m.le
    clear HD HBW hd1 HW HRG
    go_upto_region 3 with fail
    clear c1 f1
    generalize wc.setCell ⟨mb, 1, none⟩ (.int .u32 0) = W1 at *
    have HMB : Hid (mb < W1.heap.size) := HD1.out.m.lt
    have HSB : Hid (W0.heap.size ≤ W1.heap.size) := HBW1.out.size
    obtain ⟨r0, hr0⟩ : ∃ r0, (⟨m.from0, 0, 0, 0⟩ : Rn) = r0 := ⟨_, rfl⟩
    have HR0 : Hid (∀ k, m.run k = Rn.go k r0) := fun k => by rw [← hr0]; rfl
    have HST0 : Hid (r0.steps = 0 ∧ r0.kind = 0 ∧ r0.code = 0) := by rw [← hr0]; exact ⟨rfl, rfl, rfl⟩
    have HP0 : Hid (m.path n.toNat = pcs r0 (m.run n.toNat).steps) := by unfold Hid Mc.path; rw [hr0]
    have HZ0 : Hid (r0.m.zero) := by unfold Hid; rw [← hr0]; exact from0_zero OK.out
    rw [show m.from0 = r0.m by rw [← hr0]] at HD1
    clear hr0
    go_wp2
    go_loopw [9, 10] (fun p i wr => ∃ (k : Nat) (vv : Value) (s0 : Int), k ≤ n.toNat ∧ i = .int .i64 (k : Int) ∧ Hid ((Rn.go k r0).steps = k) ∧ Hid (UOwn wr W1.heap.size p (pcs r0 k)) ∧ Hid (DAt wr mb W0.heap.size vv (Rn.go k r0).m ((Rn.go k r0).kind : Int) s0 (Rn.go k r0).code) ∧ Hid ((Rn.go k r0).m.zero) ∧ Hid (Below W0.heap.size W0 wr) ∧ Hid (W1.heap.size ≤ wr.heap.size)) (fun _ i _ => n.toNat - (intOf i).toNat)
    case atStart => exact ⟨0, v0, 0, by omega, rfl, HST0.out.1, UOwn.nil _ _, by unfold Hid; rw [show Rn.go 0 r0 = r0 from rfl, HST0.out.2.1, HST0.out.2.2]; exact HD1.out, HZ0.out, HBW1.out, Nat.le_refl _⟩
    case round =>
      obtain ⟨k, vv, s0, hk, rfl, hst, hown, hd, hz, hb, hsz⟩ := hrel
      obtain ⟨R, hR⟩ : ∃ R, Rn.go k r0 = R := ⟨_, rfl⟩
      rw [hR] at hst hd hz
      have HRR := hide hR
      clear hR
      obtain ⟨pa, pq, rfl⟩ := hown.out.sl
      rw [pcs_len]
      rw [pcs_len] at hown
      have hkb : (k : Int) ≤ 10000 := by omega
      by_cases hlt : (k : Int) < n
      · have d1 : decide ((k : Int) < n) = true := decide_eq_true hlt
        have t0 := hd.out.s0
        by_cases hk0 : R.kind = 0
        · --
          as_aux_lemma =>
            have d0 : ((R.kind : Int) == 0) = true := by simp [hk0]
            have hpc := hd.out.m.pc
            have HLB : Hid (∀ j, (Value.slice pa k pq).ownBlock = some j → W1.heap.size ≤ j) := fun j e => (World.ownsRow.lt hown.out j e).1
            have HK := hide hk0
            have HLT := hide hlt
            clear hk0 hlt
            go_wp2_with (refine append_u32 rfl (.tmp 27) (.tmp 31) rfl W1.heap.size _ (pcs r0 k) rfl R.m.pc hown.out rfl (by rw [pcs_len]; omega) hsz.out ?_)
            rintro v' w2 ho hg
            have hoth := oth_grown hg
            have hd2 := hd.out.oth hoth (fun e => by have := HLB.out _ e; have := HMB.out; omega) (fun j e => own_types hown.out hd.out.m.own j e)
            have hb2 : Below W0.heap.size W0 w2 := hb.out.trans (hoth.below (by have := HSB.out; have := hsz.out; omega) (fun j e => by have := HLB.out _ e; have := HSB.out; omega))
            have HO := hide ho
            have HB2 := hide hb2
            have HSZ2 : Hid (W1.heap.size ≤ w2.heap.size) := Nat.le_trans hsz.out hoth.size
            have HSP := hide (rstep_any hd2 hz.out)
            clear ho hg hoth hd2 hb2 hpc t0
            go_wp2_with fail
            refine Calls.mono HSP.out ?_
            rintro e w3 ⟨rfl, ⟨v3, hd3⟩, f3⟩
            have HNX : Hid (Rn.go (k + 1) r0 = ⟨R.m.step.1, R.m.step.2.1, R.m.step.2.2, R.steps + 1⟩) := by
              unfold Hid
              rw [Rn.go_succ, HRR.out]
              unfold Rn.next
              rw [if_pos HK.out]
            have HLB' : Hid (∀ j, v'.ownBlock = some j → W1.heap.size ≤ j) := fun j e => (World.ownsRow.lt HO.out j e).1
            obtain ⟨pa', pq', rfl⟩ := HO.out.sl
            have HL' : Hid ((pcs r0 k ++ [R.m.pc]).length = k + 1) := by unfold Hid; rw [List.length_append, pcs_len]; rfl
            rw [HL'.out] at HO HLB' ⊢
            have HU3 : Hid (UOwn w3 W1.heap.size (.slice pa' (k + 1) pq') (pcs r0 (k + 1))) := by
              unfold Hid
              rw [pcs_succ, HRR.out]
              exact HO.out.oth f3 (fun j e e' => by have h1 := HLB'.out _ e; have h2 := HMB.out; injection e' with e'; omega)
            have HB3 : Hid (Below W0.heap.size W0 w3) := HB2.out.trans (f3.below HB2.out.size (fun j e => by have h1 := HML0.out; injection e with e; omega))
            have HS3 : Hid (W1.heap.size ≤ w3.heap.size) := Nat.le_trans HSZ2.out f3.size
            have HD3 := hide hd3
            clear hd3 f3
            go_wp2
            go_roundw
            case rel => exact ⟨k + 1, v3, 1, by have := HLT.out; omega, by go_num, by unfold Hid; rw [HNX.out]; show R.steps + 1 = _; rw [hst.out], HU3.out, by unfold Hid; rw [HNX.out]; exact HD3.out, by unfold Hid; rw [HNX.out]; exact step_zero hz.out, HB3.out, HS3.out⟩
            case measure => have := HLT.out; simp [intOf]; omega
        · --
          as_aux_lemma =>
            have d0 : ((R.kind : Int) == 0) = false := by rw [beq_eq_false_iff_ne]; omega
            have HFIN : Hid (m.run n.toNat = R ∧ m.path n.toNat = pcs r0 k) := by
              have h1 : m.run n.toNat = R := by rw [HR0.out, show n.toNat = k + (n.toNat - k) by omega, Rn.go_add, HRR.out, Rn.go_still hk0]
              exact ⟨h1, by rw [HP0.out, h1, hst.out]⟩
            clear hk0 hlt
            obtain ⟨va, vc, rfl, _, _⟩ := hd.out.m.own.pgs hd.out.m.ok.ok hd.out.m.ok.most
            generalize hvv : Value.slice va R.m.pages.length vc = vv at *
            have HVV := hide hvv
            have c23 := hd.out.s1
            have f23 := hd.out.m.bl.free 23
            have HD9 : Hid (DAt (wr.setCell ⟨mb, 23, none⟩ (.int .i64 (k : Int))) mb W0.heap.size vv R.m (R.kind : Int) (k : Int) R.code) := ⟨hd.out.m.far (by omega) _, by rw [World.cell?_setCell_other _ _ _ _ (by simp)]; exact hd.out.s0, World.cell?_setCell_same _ _ _ c23, by rw [World.cell?_setCell_other _ _ _ _ (by simp)]; exact hd.out.s2⟩
            have HB9 : Hid (Below W0.heap.size W0 (wr.setCell ⟨mb, 23, none⟩ (.int .i64 (k : Int)))) := hb.out.setCell (p := ⟨mb, 23, none⟩) hd.out.m.le _
            have HO9 : Hid (UOwn (wr.setCell ⟨mb, 23, none⟩ (.int .i64 (k : Int))) W1.heap.size (.slice pa k pq) (pcs r0 k)) := hown.out.oth ((Oth.refl (some mb) wr).setCell (j := 23) (.int .i64 (k : Int))) (fun j e e' => by have h1 := (World.ownsRow.lt hown.out j e).1; have h2 := HMB.out; injection e' with e'; omega)
            clear hvv
            go_upto_region 10 with fail
            clear c23 f23
            generalize wr.setCell ⟨mb, 23, none⟩ (.int .i64 (k : Int)) = W8 at *
            have HRM := hide (dat_range HD9.out)
            have HU56 := hide Tryd.underlying56
            have HML : Hid ((mch vv R.m.proc (R.kind : Int) (k : Int) R.code).length = 25) := mch_len (proc_len HD9.out.m.ok) _ _ _ _
            have HI56 : Hid ((Tryd.prog.info? 56).map (·.size) = some (mch vv R.m.proc (R.kind : Int) (k : Int) R.code).length) := by unfold Hid; rw [HML.out]; exact infoMch
            have HIA : Hid ((Tryd.prog.info? 56).map (·.size) = some (mch vv R.m.proc (R.kind : Int) (k : Int) R.code).toArray.size) := by unfold Hid; rw [List.size_toArray]; exact HI56.out
            have HONE : Hid (∀ u ∈ mch vv R.m.proc (R.kind : Int) (k : Int) R.code, u.oneCell' = true) := by unfold Hid; rw [← HVV.out]; exact mch_one _ _ _ _ _ _ _
            have HZ8 := hide (Z6.out.below (by rw [HSZ.out]; omega) HB9.out)
            have HTH : Hid (W8.there (w.heap.size + 1) 0 (mch vv R.m.proc (R.kind : Int) (k : Int) R.code).toArray.size) := by
              have := bl_there HZ8.out
              rw [HZL.out] at this
              unfold Hid
              rw [show (mch vv R.m.proc (R.kind : Int) (k : Int) R.code).toArray.size = (mch vv R.m.proc (R.kind : Int) (k : Int) R.code).length from List.size_toArray, HML.out]
              exact this
            refine wp_region_list ?_
            refine wpList_load_g (op := { dst := some 39, op := Go.Op.load 56 (Go.Operand.tmp 8), type := 56, pos := "ref.go:152", after := #[], guard := none }) (by rfl) 56 (.tmp 8) rfl mb (0) rfl (mch vv R.m.proc (R.kind : Int) (k : Int) R.code) _ HRM.out HU56.out rfl HI56.out ?_
            simp only [Act.put, List.setIfInBounds_toArray, List.set_cons_zero, List.set_cons_succ]
            refine wpList_tail (pre := [{ dst := some 40, op := Go.Op.move (Go.Operand.tmp 9), type := 40, pos := "ref.go:152", after := #[{ on := 2, ground := Go.Ground.gcOnly Go.Departure.lateStores }], guard := none }]) _ ?_
            intro tl htl
            have HTL := hide htl
            clear htl
            simp only [List.cons_append, List.nil_append]
            go_wp2_with fail
            have htl := HTL.out
            clear HTL
            subst htl
            refine wpList_store_mid (op := { dst := none, op := Go.Op.store 56 (Go.Operand.tmp 6) (Go.Operand.tmp 39), type := 0, pos := "ref.go:152", after := #[{ on := 0, ground := Go.Ground.data }, { on := 0, ground := Go.Ground.phase }, { on := 1, ground := Go.Ground.textOnly Go.Departure.lateStores }], guard := none }) rfl 56 (.tmp 6) (.tmp 39) rfl (w.heap.size + 1) 0 (mch vv R.m.proc (R.kind : Int) (k : Int) R.code).toArray rfl rfl HTH.out HIA.out (all_oneCell_toArray HONE.out) ?_
            simp only [Act.put, List.setIfInBounds_toArray, List.set_cons_zero, List.set_cons_succ]
            have HR6 : Hid ((W8.setCells (w.heap.size + 1) 0 (mch vv R.m.proc (R.kind : Int) (k : Int) R.code)).rangeAt (w.heap.size + 1) 0 (mch vv R.m.proc (R.kind : Int) (k : Int) R.code)) := bl_range (bl_setCells HZ8.out (by rw [HZL.out, HML.out]))
            have HBF : Hid (Below w.heap.size w (W8.setCells (w.heap.size + 1) 0 (mch vv R.m.proc (R.kind : Int) (k : Int) R.code))) := below_setCells (by omega) _ _ _ (chain HB0.out HB9.out)
            have HOF : Hid (POwn (W8.setCells (w.heap.size + 1) 0 (mch vv R.m.proc (R.kind : Int) (k : Int) R.code)) w.heap.size vv R.m.pages) := own_farCells (fun e => by have h1 := (World.ownsRow.lt HD9.out.m.own _ e).1; have h2 := HSZ.out; omega) _ _ _ (HD9.out.m.own.weaken HB0.out.size)
            have HUF : Hid (UOwn (W8.setCells (w.heap.size + 1) 0 (mch vv R.m.proc (R.kind : Int) (k : Int) R.code)) w.heap.size (.slice pa k pq) (pcs r0 k)) := by
              have h1 := HMB.out
              have h2 := HSZ.out
              have h3 := HD9.out.m.le
              exact (uown_farCells (fun e => by have h4 := (World.ownsRow.lt HO9.out _ e).1; omega) _ _ _ HO9.out).weaken (by omega)
            have HOKR := hide HD9.out.m.ok
            generalize W8.setCells (w.heap.size + 1) 0 (mch vv R.m.proc (R.kind : Int) (k : Int) R.code) = W9 at *
            go_wp2
            (try simp only [Exit.inBlock, Exit.then])
            refine bodyPost_ret (v := .tuple #[.agg (mch vv R.m.proc (R.kind : Int) (k : Int) R.code).toArray, .slice pa k pq]) (res_rrun _ W9 (w.heap.size + 1) _ _ rfl rfl HR6.out HML.out) rfl ?_
            exact ⟨vv, .slice pa k pq, by rw [HFIN.out.1, hst.out], by rw [HFIN.out.1]; exact HOF.out, by rw [HFIN.out.2]; exact HUF.out, by rw [HFIN.out.1]; exact HOKR.out, HBF.out⟩
      · --
        as_aux_lemma =>
          have d1 : decide ((k : Int) < n) = false := decide_eq_false hlt
          have HFIN : Hid (m.run n.toNat = R ∧ m.path n.toNat = pcs r0 k) := by
            have h1 : m.run n.toNat = R := by rw [HR0.out, show n.toNat = k by omega, HRR.out]
            exact ⟨h1, by rw [HP0.out, h1, hst.out]⟩
          have hge : n ≤ (k : Int) := by omega
          clear hlt
          obtain ⟨va, vc, rfl, _, _⟩ := hd.out.m.own.pgs hd.out.m.ok.ok hd.out.m.ok.most
          generalize hvv : Value.slice va R.m.pages.length vc = vv at *
          have HVV := hide hvv
          have c23 := hd.out.s1
          have f23 := hd.out.m.bl.free 23
          have HD9 : Hid (DAt (wr.setCell ⟨mb, 23, none⟩ (.int .i64 (k : Int))) mb W0.heap.size vv R.m (R.kind : Int) (k : Int) R.code) := ⟨hd.out.m.far (by omega) _, by rw [World.cell?_setCell_other _ _ _ _ (by simp)]; exact hd.out.s0, World.cell?_setCell_same _ _ _ c23, by rw [World.cell?_setCell_other _ _ _ _ (by simp)]; exact hd.out.s2⟩
          have HB9 : Hid (Below W0.heap.size W0 (wr.setCell ⟨mb, 23, none⟩ (.int .i64 (k : Int)))) := hb.out.setCell (p := ⟨mb, 23, none⟩) hd.out.m.le _
          have HO9 : Hid (UOwn (wr.setCell ⟨mb, 23, none⟩ (.int .i64 (k : Int))) W1.heap.size (.slice pa k pq) (pcs r0 k)) := hown.out.oth ((Oth.refl (some mb) wr).setCell (j := 23) (.int .i64 (k : Int))) (fun j e e' => by have h1 := (World.ownsRow.lt hown.out j e).1; have h2 := HMB.out; injection e' with e'; omega)
          clear hvv
          go_upto_region 10 with fail
          clear c23 f23
          generalize wr.setCell ⟨mb, 23, none⟩ (.int .i64 (k : Int)) = W8 at *
          have HRM := hide (dat_range HD9.out)
          have HU56 := hide Tryd.underlying56
          have HML : Hid ((mch vv R.m.proc (R.kind : Int) (k : Int) R.code).length = 25) := mch_len (proc_len HD9.out.m.ok) _ _ _ _
          have HI56 : Hid ((Tryd.prog.info? 56).map (·.size) = some (mch vv R.m.proc (R.kind : Int) (k : Int) R.code).length) := by unfold Hid; rw [HML.out]; exact infoMch
          have HIA : Hid ((Tryd.prog.info? 56).map (·.size) = some (mch vv R.m.proc (R.kind : Int) (k : Int) R.code).toArray.size) := by unfold Hid; rw [List.size_toArray]; exact HI56.out
          have HONE : Hid (∀ u ∈ mch vv R.m.proc (R.kind : Int) (k : Int) R.code, u.oneCell' = true) := by unfold Hid; rw [← HVV.out]; exact mch_one _ _ _ _ _ _ _
          have HZ8 := hide (Z6.out.below (by rw [HSZ.out]; omega) HB9.out)
          have HTH : Hid (W8.there (w.heap.size + 1) 0 (mch vv R.m.proc (R.kind : Int) (k : Int) R.code).toArray.size) := by
            have := bl_there HZ8.out
            rw [HZL.out] at this
            unfold Hid
            rw [show (mch vv R.m.proc (R.kind : Int) (k : Int) R.code).toArray.size = (mch vv R.m.proc (R.kind : Int) (k : Int) R.code).length from List.size_toArray, HML.out]
            exact this
          refine wp_region_list ?_
          refine wpList_load_g (op := { dst := some 39, op := Go.Op.load 56 (Go.Operand.tmp 8), type := 56, pos := "ref.go:152", after := #[], guard := none }) (by rfl) 56 (.tmp 8) rfl mb (0) rfl (mch vv R.m.proc (R.kind : Int) (k : Int) R.code) _ HRM.out HU56.out rfl HI56.out ?_
          simp only [Act.put, List.setIfInBounds_toArray, List.set_cons_zero, List.set_cons_succ]
          refine wpList_tail (pre := [{ dst := some 40, op := Go.Op.move (Go.Operand.tmp 9), type := 40, pos := "ref.go:152", after := #[{ on := 2, ground := Go.Ground.gcOnly Go.Departure.lateStores }], guard := none }]) _ ?_
          intro tl htl
          have HTL := hide htl
          clear htl
          simp only [List.cons_append, List.nil_append]
          go_wp2_with fail
          have htl := HTL.out
          clear HTL
          subst htl
          refine wpList_store_mid (op := { dst := none, op := Go.Op.store 56 (Go.Operand.tmp 6) (Go.Operand.tmp 39), type := 0, pos := "ref.go:152", after := #[{ on := 0, ground := Go.Ground.data }, { on := 0, ground := Go.Ground.phase }, { on := 1, ground := Go.Ground.textOnly Go.Departure.lateStores }], guard := none }) rfl 56 (.tmp 6) (.tmp 39) rfl (w.heap.size + 1) 0 (mch vv R.m.proc (R.kind : Int) (k : Int) R.code).toArray rfl rfl HTH.out HIA.out (all_oneCell_toArray HONE.out) ?_
          simp only [Act.put, List.setIfInBounds_toArray, List.set_cons_zero, List.set_cons_succ]
          have HR6 : Hid ((W8.setCells (w.heap.size + 1) 0 (mch vv R.m.proc (R.kind : Int) (k : Int) R.code)).rangeAt (w.heap.size + 1) 0 (mch vv R.m.proc (R.kind : Int) (k : Int) R.code)) := bl_range (bl_setCells HZ8.out (by rw [HZL.out, HML.out]))
          have HBF : Hid (Below w.heap.size w (W8.setCells (w.heap.size + 1) 0 (mch vv R.m.proc (R.kind : Int) (k : Int) R.code))) := below_setCells (by omega) _ _ _ (chain HB0.out HB9.out)
          have HOF : Hid (POwn (W8.setCells (w.heap.size + 1) 0 (mch vv R.m.proc (R.kind : Int) (k : Int) R.code)) w.heap.size vv R.m.pages) := own_farCells (fun e => by have h1 := (World.ownsRow.lt HD9.out.m.own _ e).1; have h2 := HSZ.out; omega) _ _ _ (HD9.out.m.own.weaken HB0.out.size)
          have HUF : Hid (UOwn (W8.setCells (w.heap.size + 1) 0 (mch vv R.m.proc (R.kind : Int) (k : Int) R.code)) w.heap.size (.slice pa k pq) (pcs r0 k)) := by
            have h1 := HMB.out
            have h2 := HSZ.out
            have h3 := HD9.out.m.le
            exact (uown_farCells (fun e => by have h4 := (World.ownsRow.lt HO9.out _ e).1; omega) _ _ _ HO9.out).weaken (by omega)
          have HOKR := hide HD9.out.m.ok
          generalize W8.setCells (w.heap.size + 1) 0 (mch vv R.m.proc (R.kind : Int) (k : Int) R.code) = W9 at *
          go_wp2
          (try simp only [Exit.inBlock, Exit.then])
          refine bodyPost_ret (v := .tuple #[.agg (mch vv R.m.proc (R.kind : Int) (k : Int) R.code).toArray, .slice pa k pq]) (res_rrun _ W9 (w.heap.size + 1) _ _ rfl rfl HR6.out HML.out) rfl ?_
          exact ⟨vv, .slice pa k pq, by rw [HFIN.out.1, hst.out], by rw [HFIN.out.1]; exact HOF.out, by rw [HFIN.out.2]; exact HUF.out, by rw [HFIN.out.1]; exact HOKR.out, HBF.out⟩
end Go.Proofs.YtegkodgondlcmaaDoor
