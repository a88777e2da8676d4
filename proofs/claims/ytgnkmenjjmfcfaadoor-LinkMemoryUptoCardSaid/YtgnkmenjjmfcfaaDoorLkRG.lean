/-
  The document's Send and Copy.
-/
import Derived.Test.YtgnkmenjjmfcfaaDoorLkRF
import Derived.Test.YtgnkmenjjmfcfaaDoorLkRA
namespace Go.Proofs.YtgnkmenjjmfcfaaDoor
open Go.RowKit FerryCrc Q
set_option linter.unusedVariables false
set_option linter.unusedSimpArgs false
theorem rpost_app {w w5 w6 : World} {base rb : Nat} {va : Option Addr} {vc g' c' : Nat} {D : List Md} {y : Md} (h : RAt w base rb va vc D) (D5 : Below w.heap.size w w5) (k1 : MOwn w6 base (.slice (some ⟨g', 0, none⟩) (D.length + 1) c') (D ++ [y])) (k2 : w5.grownBy w6 (Value.slice va D.length vc).ownBlock) (k3 : (Value.slice va D.length vc).ownBlock = some g' ∨ w5.heap.size ≤ g') :
    Bk w6 rb [.slice va D.length vc] 28 ∧ Bk (w6.setCell ⟨rb, 0, none⟩ (.slice (some ⟨g', 0, none⟩) (D.length + 1) c')) rb [.slice (some ⟨g', 0, none⟩) (D.length + 1) c'] 28 ∧ RPost w (w6.setCell ⟨rb, 0, none⟩ (.slice (some ⟨g', 0, none⟩) (D.length + 1) c')) base rb va (D ++ [y]) := by
  have h5 := h.below D5
  have hb6 := step_box nmr h5.own h5.bk k2
  have hb7 : Bk (w6.setCell ⟨rb, 0, none⟩ (.slice (some ⟨g', 0, none⟩) (D.length + 1) c')) rb [.slice (some ⟨g', 0, none⟩) (D.length + 1) c'] 28 := hb6.set 0 _
  refine ⟨hb6, hb7, some ⟨g', 0, none⟩, c', ⟨?_, ?_, h.hb⟩, ?_, ?_⟩
  · rw [List.length_append, List.length_singleton]
    exact hb7
  · rw [List.length_append, List.length_singleton]
    exact k1.far (p := ⟨rb, 0, none⟩) (own_box nmr k1 hb6) _
  · have f1 : Frm (RW rb va) w w5 := Frm.ofBelow D5
    have f2 : Frm (RW rb va) w5 w6 := (frm_grown k2).mono (fun j _ e => .inr (by rw [ob] at e; exact e))
    have f3 := frm_setCell w6 ⟨rb, 0, none⟩ (.slice (some ⟨g', 0, none⟩) (D.length + 1) c')
    exact (f1.trans f2 (fun _ _ e => e)).trans f3 (fun j _ e => .inl e)
  · intro g e
    obtain rfl := Option.some.inj e
    rcases k3 with k3 | k3
    · rw [ob] at k3
      exact .inl k3
    · exact .inr (Nat.le_trans D5.size k3)
theorem rpost_nil {w w' : World} {base rb : Nat} {va : Option Addr} {vc : Nat} {D : List Md} (h : RAt w base rb va vc D) (hb : Below w.heap.size w w') : RPost w w' base rb va D := h.post hb
theorem sm_send {L : Lk} {D : List Md} (h : Sm L D) (f t : Int) (s : ByteArray) (he : sE f t s = 0) : Sm (sL L f t s) (D ++ [⟨f, t, s, false, false⟩]) := by
  unfold sL
  rw [if_pos he]
  refine sm_more h f t s false ?_
  unfold sE at he
  split at he
  · split at he
    · cases he
    · omega
  · cases he
set_option maxRecDepth 100000 in
set_option maxHeartbeats 2000000 in
theorem rsend_any {base rb : Nat} {va : Option Addr} {vc : Nat} {D : List Md} {L : Lk} (f t : Int) (s : ByteArray) (hf1 : -9223372036854775808 ≤ f) (hf2 : f ≤ 9223372036854775807) (ht1 : -9223372036854775808 ≤ t) (ht2 : t ≤ 9223372036854775807) (hs : s.size ≤ 9223372036854775807) (hS : Sm L D) (hn : L.n ≤ 2199023255552) {w : World} (h : RAt w base rb va vc D) :
    Calls Tryd.prog 24 #[.pointer (some ⟨rb, 0, none⟩), .agg #[.int .i64 f, .int .i64 t, .string s]] w fun e w' => e = .returned (.tuple #[.int .i64 (sN L f t s), .int .i64 (sE f t s : Nat)]) ∧ ∃ D', Sm (sL L f t s) D' ∧ RPost w w' base rb va D' := by
  obtain ⟨W, hW, B0, D0⟩ := box1 w [.int .i64 f, .int .i64 t, .string s] 41
  obtain ⟨q, hq⟩ : ∃ q, w.heap.size = q := ⟨_, rfl⟩
  rw [hq] at B0
  have HB0 := hide B0
  have HD := hide D0
  have HWD := hide hW
  have HQ := hide hq
  have HH := hide h
  have HBS : Hid (base ≤ w.heap.size) := by have h1 := h.bk.lt; have h2 := h.hb; unfold Hid; omega
  have hl := hS.len
  have a0 := B0.cell 0 rfl
  have a1 := B0.cell 1 rfl
  have a2 := B0.cell 2 rfl
  clear B0 D0 hW hq h
  by_cases ho : sOk f t = true
  · have HE1 : Hid (sE f t s = if s.size = 0 ∨ 4096 < s.size then 11 else 0) := by unfold Hid sE; rw [if_pos ho]
    have hft : (f = 0 ∧ t = 1) ∨ (f = 1 ∧ t = 0) := by
      unfold sOk at ho
      simp only [Bool.or_eq_true, Bool.and_eq_true, beq_iff_eq] at ho
      omega
    clear ho hf1 hf2 ht1 ht2
    rcases hft with ⟨rfl, rfl⟩ | ⟨rfl, rfl⟩
    · by_cases hz0 : s.size = 0
      · have HSM : Hid (Sm (sL L 0 1 s) D) := by unfold Hid sL; rw [if_neg (by rw [HE1.out, if_pos (.inl hz0)]; decide)]; exact hS
        rw [show sN L 0 1 s = 0 by unfold sN; rw [if_neg (by rw [HE1.out, if_pos (.inl hz0)]; decide)], show sE 0 1 s = 11 by rw [HE1.out, if_pos (.inl hz0)]]
        have g1 : (s.size : Int) < 1 := by omega
        clear hS hl HE1 hz0
        go_enter Tryd.func24, Tryd.ntmps24
        go_upto_region 1 with fail
        have hW := HWD.out
        have hq := HQ.out
        clear HWD HQ
        simp only [hW, hq]
        clear hW hq
        go_wp2
        go_ret2
        exact ⟨rfl, _, HSM.out, HH.out.post HD.out⟩
      · by_cases hz1 : 4096 < s.size
        · have HSM : Hid (Sm (sL L 0 1 s) D) := by unfold Hid sL; rw [if_neg (by rw [HE1.out, if_pos (.inr hz1)]; decide)]; exact hS
          rw [show sN L 0 1 s = 0 by unfold sN; rw [if_neg (by rw [HE1.out, if_pos (.inr hz1)]; decide)], show sE 0 1 s = 11 by rw [HE1.out, if_pos (.inr hz1)]]
          have g1 : ¬ (s.size : Int) < 1 := by omega
          have g2 : (4096 : Int) < (s.size : Int) := by omega
          clear hS hl HE1 hz0 hz1
          go_enter Tryd.func24, Tryd.ntmps24
          go_upto_region 1 with fail
          have hW := HWD.out
          have hq := HQ.out
          clear HWD HQ
          simp only [hW, hq]
          clear hW hq
          go_wp2
          go_ret2
          exact ⟨rfl, _, HSM.out, HH.out.post HD.out⟩
        · have hE : sE 0 1 s = 0 := by rw [HE1.out, if_neg (by omega)]
          have HSM : Hid (Sm (sL L 0 1 s) (D ++ [⟨0, 1, s, false, false⟩])) := sm_send hS 0 1 s hE
          rw [show sN L 0 1 s = (D.length : Int) + 1 by unfold sN; rw [if_pos hE, hl], hE]
          have hD : D.length ≤ 2199023255552 := by omega
          have g1 : ¬ (s.size : Int) < 1 := by omega
          have g2 : ¬ (4096 : Int) < (s.size : Int) := by omega
          clear hS hl HE1 hz0 hz1 hE
          go_enter Tryd.func24, Tryd.ntmps24
          go_upto_region 1 with fail
          have hW := HWD.out
          have hq := HQ.out
          clear HWD HQ
          simp only [hW, hq]
          clear hW hq
          go_upto_region 5 with fail
          clear a0 a1 a2
          refine wp_region_held_drew (S := fun _ => True) (by kernel_rfl) trivial (fun hHeld => ?_)
          have HBd : Hid (Below w.heap.size w W.drew) := HD.out.drew
          have HB0d : Hid (Bk W.drew q [.int .i64 0, .int .i64 1, .string s] 41) := HB0.out.below (Below.refl _ _).drew
          obtain ⟨wd, hwd⟩ : ∃ z, z = W.drew := ⟨_, rfl⟩
          rw [← hwd] at HBd HB0d ⊢
          clear hwd
          have r0 := (HH.out.below HBd.out).bk.cell 0 rfl
          have n0 := HB0d.out.cell 0 rfl
          have n1 := HB0d.out.cell 1 rfl
          have n2 := HB0d.out.cell 2 rfl
          refine wpAnyH_take (i := 0) (oi := { dst := some 32, op := Go.Op.move (Go.Operand.tmp 0), type := 33, pos := "ref.go:43", after := #[], guard := none }) (v := ?_) rfl (by kernel_rfl) (by kernel_rfl) (by kernel_rfl) (fun _ _ _ h => h) (Or.inl ⟨by rfl, ?_⟩) (by exact trivial) ?_
          rotate_left
          · intro w hSw
            go_simp
            try with_reducible rfl
          try simp only [Act.put, List.setIfInBounds_toArray, List.set_cons_zero, List.set_cons_succ]
          refine wpAnyH_take (i := 1) (oi := { dst := some 33, op := Go.Op.move (Go.Operand.tmp 0), type := 33, pos := "ref.go:43", after := #[], guard := none }) (v := ?_) rfl (by kernel_rfl) (by kernel_rfl) (by kernel_rfl) (fun _ _ _ h => h) (Or.inl ⟨by rfl, ?_⟩) (by exact trivial) ?_
          rotate_left
          · intro w hSw
            go_simp
            try with_reducible rfl
          try simp only [Act.put, List.setIfInBounds_toArray, List.set_cons_zero, List.set_cons_succ]
          refine wpAnyH_take (i := 2) (oi := { dst := some 34, op := Go.Op.nilCheck (Go.Operand.tmp 33), type := 0, pos := "ref.go:43", after := #[{ on := 1, ground := Go.Ground.data }], guard := none }) (v := ?_) rfl (by kernel_rfl) (by kernel_rfl) (by kernel_rfl) (fun _ _ _ h => h) (Or.inl ⟨by rfl, ?_⟩) (by exact trivial) ?_
          rotate_left
          · intro w hSw
            go_simp
            try with_reducible rfl
          try simp only [Act.put, List.setIfInBounds_toArray, List.set_cons_zero, List.set_cons_succ]
          refine wpAnyH_take (i := 3) (oi := { dst := some 35, op := Go.Op.fieldAddr 28 (Go.Operand.tmp 34) 0, type := 0, pos := "ref.go:43", after := #[{ on := 2, ground := Go.Ground.data }], guard := none }) (v := ?_) rfl (by kernel_rfl) (by kernel_rfl) (by kernel_rfl) (fun _ _ _ h => h) (Or.inl ⟨by rfl, ?_⟩) (by exact trivial) ?_
          rotate_left
          · intro w hSw
            go_simp
            try with_reducible rfl
          try simp only [Act.put, List.setIfInBounds_toArray, List.set_cons_zero, List.set_cons_succ]
          refine wpAnyH_ready (rs := [4, 5]) (by kernel_rfl) (by simp) ?_
          refine AllReadyH.cons (o := { dst := some 36, op := Go.Op.load 26 (Go.Operand.tmp 35), type := 26, pos := "ref.go:43", after := #[{ on := 3, ground := Go.Ground.data }], guard := none }) rfl (fun K hK => ?_) ?_
          · go_simp
            refine hK.out _ _ trivial (fun hHeld2 => ?_)
            clear hK K
            try simp only [Act.put, List.setIfInBounds_toArray, List.set_cons_zero, List.set_cons_succ]
            refine wpAnyH_ready (rs := [5]) (by kernel_rfl) (by simp) ?_
            refine AllReadyH.cons (o := { dst := some 37, op := Go.Op.load 41 (Go.Operand.tmp 3), type := 41, pos := "ref.go:43", after := #[], guard := none }) rfl (fun K hK => ?_) AllReadyH.nil
            go_simp
            refine hK.out _ _ trivial (fun hHeld2 => ?_)
            clear hK K
            try simp only [Act.put, List.setIfInBounds_toArray, List.set_cons_zero, List.set_cons_succ]
            refine wpAnyH_take (i := 6) (oi := { dst := some 38, op := Go.Op.build 83 #[(0, Go.Operand.tmp 37)], type := 83, pos := "ref.go:43", after := #[{ on := 5, ground := Go.Ground.data }], guard := none }) (v := ?_) rfl (by kernel_rfl) (by kernel_rfl) (by kernel_rfl) (fun _ _ _ h => h) (Or.inl ⟨by rfl, ?_⟩) (by exact trivial) ?_
            rotate_left
            · intro w hSw
              go_simp
              try with_reducible rfl
            try simp only [Act.put, List.setIfInBounds_toArray, List.set_cons_zero, List.set_cons_succ]
            refine wpAnyH_ready (rs := [7]) (by kernel_rfl) (by simp) ?_
            refine AllReadyH.cons (o := { dst := some 39, op := Go.Op.buildSlice 26 1 #[(0, Go.Operand.tmp 38)], type := 26, pos := "ref.go:43", after := #[{ on := 6, ground := Go.Ground.data }], guard := none }) rfl (fun K hK => ?_) AllReadyH.nil
            go_simp
            refine hK.out _ _ trivial (fun hHeld2 => ?_)
            clear hK K
            try simp only [Act.put, List.setIfInBounds_toArray, List.set_cons_zero, List.set_cons_succ]
            obtain ⟨w5, hw5, B5', D5⟩ := box1 wd [.int .i64 0, .int .i64 1, .string s, .bool false, .bool false] 83
            obtain ⟨g5, hg5⟩ : ∃ g, wd.heap.size = g := ⟨_, rfl⟩
            rw [hg5] at B5'
            simp only [hw5, hg5]
            have B5 := hide B5'
            have HB5 := hide (chain HBd.out D5)
            have HM5 := hide ((HH.out.below HB5.out).own)
            clear hw5 hg5 B5' D5
            refine wpAnyH_ready (rs := [8]) (by kernel_rfl) (by simp) ?_
            refine AllReadyH.cons (o := { dst := some 40, op := Go.Op.call { callee := Go.Callee.builtin Go.Builtin.append, args := #[Go.Operand.tmp 36, Go.Operand.tmp 39], argTypes := #[26, 26] }, type := 26, pos := "ref.go:43", after := #[{ on := 4, ground := Go.Ground.data }, { on := 7, ground := Go.Ground.data }], guard := none }) rfl (fun K hK => ?_) AllReadyH.nil
            refine step_m5 rfl (.tmp 36) (.tmp 39) rfl base (.slice va D.length vc) D rfl HM5.out g5 1 ⟨0, 1, s, false, false⟩ rfl B5.out (by omega) (by have h1 := HB5.out.size; have h2 := HBS.out; omega) ?_
            intro g' c' w6 k1 k2 k3
            have HA := rpost_app HH.out HB5.out k1 k2 k3
            refine hK.out _ _ trivial (fun hHeld3 => ?_)
            clear hK K
            try simp only [Act.put, List.setIfInBounds_toArray, List.set_cons_zero, List.set_cons_succ]
            have HP := hide HA.2.2
            have HK := hide HA.2.1
            have r6 := HA.1.cell 0 rfl
            have p6 := HA.1.frozen 0
            clear HA k1 k2 k3
            refine wpAnyH_take (i := 9) (oi := { dst := some 41, op := Go.Op.nilCheck (Go.Operand.tmp 32), type := 0, pos := "ref.go:43", after := #[{ on := 0, ground := Go.Ground.data }, { on := 0, ground := Go.Ground.phase }, { on := 1, ground := Go.Ground.phase }, { on := 2, ground := Go.Ground.phase }, { on := 3, ground := Go.Ground.phase }, { on := 4, ground := Go.Ground.phase }, { on := 5, ground := Go.Ground.phase }, { on := 6, ground := Go.Ground.phase }, { on := 7, ground := Go.Ground.phase }, { on := 8, ground := Go.Ground.phase }], guard := none }) (v := ?_) rfl (by kernel_rfl) (by kernel_rfl) (by kernel_rfl) (fun _ _ _ h => h) (Or.inl ⟨by rfl, ?_⟩) (by exact trivial) ?_
            rotate_left
            · intro w hSw
              go_simp
              try with_reducible rfl
            try simp only [Act.put, List.setIfInBounds_toArray, List.set_cons_zero, List.set_cons_succ]
            refine wpAnyH_take (i := 10) (oi := { dst := some 42, op := Go.Op.fieldAddr 28 (Go.Operand.tmp 41) 0, type := 0, pos := "ref.go:43", after := #[{ on := 9, ground := Go.Ground.data }, { on := 0, ground := Go.Ground.phase }, { on := 1, ground := Go.Ground.phase }, { on := 2, ground := Go.Ground.phase }, { on := 3, ground := Go.Ground.phase }, { on := 4, ground := Go.Ground.phase }, { on := 5, ground := Go.Ground.phase }, { on := 6, ground := Go.Ground.phase }, { on := 7, ground := Go.Ground.phase }, { on := 8, ground := Go.Ground.phase }], guard := none }) (v := ?_) rfl (by kernel_rfl) (by kernel_rfl) (by kernel_rfl) (fun _ _ _ h => h) (Or.inl ⟨by rfl, ?_⟩) (by exact trivial) ?_
            rotate_left
            · intro w hSw
              go_simp
              try with_reducible rfl
            try simp only [Act.put, List.setIfInBounds_toArray, List.set_cons_zero, List.set_cons_succ]
            refine wpAnyH_ready (rs := [11]) (by kernel_rfl) (by simp) ?_
            refine AllReadyH.cons (o := { dst := none, op := Go.Op.store 26 (Go.Operand.tmp 42) (Go.Operand.tmp 40), type := 0, pos := "ref.go:43", after := #[{ on := 10, ground := Go.Ground.data }, { on := 8, ground := Go.Ground.data }, { on := 8, ground := Go.Ground.chain }, { on := 0, ground := Go.Ground.phase }, { on := 1, ground := Go.Ground.phase }, { on := 2, ground := Go.Ground.phase }, { on := 3, ground := Go.Ground.phase }, { on := 4, ground := Go.Ground.phase }, { on := 5, ground := Go.Ground.phase }, { on := 6, ground := Go.Ground.phase }, { on := 7, ground := Go.Ground.phase }, { on := 8, ground := Go.Ground.phase }], guard := none }) rfl (fun K hK => ?_) AllReadyH.nil
            go_simp
            refine hK.out _ _ trivial (fun hHeld4 => ?_)
            clear hK K
            try simp only [Act.put, List.setIfInBounds_toArray, List.set_cons_zero, List.set_cons_succ]
            refine wpAnyH_done (by kernel_rfl) ?_ _
            have e7 := HK.out.cell 0 rfl
            clear r0 r6 p6 n0 n1 n2
            go_wp2
            go_ret2
            exact ⟨rfl, _, HSM.out, HP.out⟩
          refine AllReadyH.cons (o := { dst := some 37, op := Go.Op.load 41 (Go.Operand.tmp 3), type := 41, pos := "ref.go:43", after := #[], guard := none }) rfl (fun K hK => ?_) ?_
          · go_simp
            refine hK.out _ _ trivial (fun hHeld2 => ?_)
            clear hK K
            try simp only [Act.put, List.setIfInBounds_toArray, List.set_cons_zero, List.set_cons_succ]
            refine wpAnyH_take (i := 6) (oi := { dst := some 38, op := Go.Op.build 83 #[(0, Go.Operand.tmp 37)], type := 83, pos := "ref.go:43", after := #[{ on := 5, ground := Go.Ground.data }], guard := none }) (v := ?_) rfl (by kernel_rfl) (by kernel_rfl) (by kernel_rfl) (fun _ _ _ h => h) (Or.inl ⟨by rfl, ?_⟩) (by exact trivial) ?_
            rotate_left
            · intro w hSw
              go_simp
              try with_reducible rfl
            try simp only [Act.put, List.setIfInBounds_toArray, List.set_cons_zero, List.set_cons_succ]
            refine wpAnyH_ready (rs := [4, 7]) (by kernel_rfl) (by simp) ?_
            refine AllReadyH.cons (o := { dst := some 36, op := Go.Op.load 26 (Go.Operand.tmp 35), type := 26, pos := "ref.go:43", after := #[{ on := 3, ground := Go.Ground.data }], guard := none }) rfl (fun K hK => ?_) ?_
            · go_simp
              refine hK.out _ _ trivial (fun hHeld2 => ?_)
              clear hK K
              try simp only [Act.put, List.setIfInBounds_toArray, List.set_cons_zero, List.set_cons_succ]
              refine wpAnyH_ready (rs := [7]) (by kernel_rfl) (by simp) ?_
              refine AllReadyH.cons (o := { dst := some 39, op := Go.Op.buildSlice 26 1 #[(0, Go.Operand.tmp 38)], type := 26, pos := "ref.go:43", after := #[{ on := 6, ground := Go.Ground.data }], guard := none }) rfl (fun K hK => ?_) AllReadyH.nil
              go_simp
              refine hK.out _ _ trivial (fun hHeld2 => ?_)
              clear hK K
              try simp only [Act.put, List.setIfInBounds_toArray, List.set_cons_zero, List.set_cons_succ]
              obtain ⟨w5, hw5, B5', D5⟩ := box1 wd [.int .i64 0, .int .i64 1, .string s, .bool false, .bool false] 83
              obtain ⟨g5, hg5⟩ : ∃ g, wd.heap.size = g := ⟨_, rfl⟩
              rw [hg5] at B5'
              simp only [hw5, hg5]
              have B5 := hide B5'
              have HB5 := hide (chain HBd.out D5)
              have HM5 := hide ((HH.out.below HB5.out).own)
              clear hw5 hg5 B5' D5
              refine wpAnyH_ready (rs := [8]) (by kernel_rfl) (by simp) ?_
              refine AllReadyH.cons (o := { dst := some 40, op := Go.Op.call { callee := Go.Callee.builtin Go.Builtin.append, args := #[Go.Operand.tmp 36, Go.Operand.tmp 39], argTypes := #[26, 26] }, type := 26, pos := "ref.go:43", after := #[{ on := 4, ground := Go.Ground.data }, { on := 7, ground := Go.Ground.data }], guard := none }) rfl (fun K hK => ?_) AllReadyH.nil
              refine step_m5 rfl (.tmp 36) (.tmp 39) rfl base (.slice va D.length vc) D rfl HM5.out g5 1 ⟨0, 1, s, false, false⟩ rfl B5.out (by omega) (by have h1 := HB5.out.size; have h2 := HBS.out; omega) ?_
              intro g' c' w6 k1 k2 k3
              have HA := rpost_app HH.out HB5.out k1 k2 k3
              refine hK.out _ _ trivial (fun hHeld3 => ?_)
              clear hK K
              try simp only [Act.put, List.setIfInBounds_toArray, List.set_cons_zero, List.set_cons_succ]
              have HP := hide HA.2.2
              have HK := hide HA.2.1
              have r6 := HA.1.cell 0 rfl
              have p6 := HA.1.frozen 0
              clear HA k1 k2 k3
              refine wpAnyH_take (i := 9) (oi := { dst := some 41, op := Go.Op.nilCheck (Go.Operand.tmp 32), type := 0, pos := "ref.go:43", after := #[{ on := 0, ground := Go.Ground.data }, { on := 0, ground := Go.Ground.phase }, { on := 1, ground := Go.Ground.phase }, { on := 2, ground := Go.Ground.phase }, { on := 3, ground := Go.Ground.phase }, { on := 4, ground := Go.Ground.phase }, { on := 5, ground := Go.Ground.phase }, { on := 6, ground := Go.Ground.phase }, { on := 7, ground := Go.Ground.phase }, { on := 8, ground := Go.Ground.phase }], guard := none }) (v := ?_) rfl (by kernel_rfl) (by kernel_rfl) (by kernel_rfl) (fun _ _ _ h => h) (Or.inl ⟨by rfl, ?_⟩) (by exact trivial) ?_
              rotate_left
              · intro w hSw
                go_simp
                try with_reducible rfl
              try simp only [Act.put, List.setIfInBounds_toArray, List.set_cons_zero, List.set_cons_succ]
              refine wpAnyH_take (i := 10) (oi := { dst := some 42, op := Go.Op.fieldAddr 28 (Go.Operand.tmp 41) 0, type := 0, pos := "ref.go:43", after := #[{ on := 9, ground := Go.Ground.data }, { on := 0, ground := Go.Ground.phase }, { on := 1, ground := Go.Ground.phase }, { on := 2, ground := Go.Ground.phase }, { on := 3, ground := Go.Ground.phase }, { on := 4, ground := Go.Ground.phase }, { on := 5, ground := Go.Ground.phase }, { on := 6, ground := Go.Ground.phase }, { on := 7, ground := Go.Ground.phase }, { on := 8, ground := Go.Ground.phase }], guard := none }) (v := ?_) rfl (by kernel_rfl) (by kernel_rfl) (by kernel_rfl) (fun _ _ _ h => h) (Or.inl ⟨by rfl, ?_⟩) (by exact trivial) ?_
              rotate_left
              · intro w hSw
                go_simp
                try with_reducible rfl
              try simp only [Act.put, List.setIfInBounds_toArray, List.set_cons_zero, List.set_cons_succ]
              refine wpAnyH_ready (rs := [11]) (by kernel_rfl) (by simp) ?_
              refine AllReadyH.cons (o := { dst := none, op := Go.Op.store 26 (Go.Operand.tmp 42) (Go.Operand.tmp 40), type := 0, pos := "ref.go:43", after := #[{ on := 10, ground := Go.Ground.data }, { on := 8, ground := Go.Ground.data }, { on := 8, ground := Go.Ground.chain }, { on := 0, ground := Go.Ground.phase }, { on := 1, ground := Go.Ground.phase }, { on := 2, ground := Go.Ground.phase }, { on := 3, ground := Go.Ground.phase }, { on := 4, ground := Go.Ground.phase }, { on := 5, ground := Go.Ground.phase }, { on := 6, ground := Go.Ground.phase }, { on := 7, ground := Go.Ground.phase }, { on := 8, ground := Go.Ground.phase }], guard := none }) rfl (fun K hK => ?_) AllReadyH.nil
              go_simp
              refine hK.out _ _ trivial (fun hHeld4 => ?_)
              clear hK K
              try simp only [Act.put, List.setIfInBounds_toArray, List.set_cons_zero, List.set_cons_succ]
              refine wpAnyH_done (by kernel_rfl) ?_ _
              have e7 := HK.out.cell 0 rfl
              clear r0 r6 p6 n0 n1 n2
              go_wp2
              go_ret2
              exact ⟨rfl, _, HSM.out, HP.out⟩
            refine AllReadyH.cons (o := { dst := some 39, op := Go.Op.buildSlice 26 1 #[(0, Go.Operand.tmp 38)], type := 26, pos := "ref.go:43", after := #[{ on := 6, ground := Go.Ground.data }], guard := none }) rfl (fun K hK => ?_) ?_
            · go_simp
              refine hK.out _ _ trivial (fun hHeld2 => ?_)
              clear hK K
              try simp only [Act.put, List.setIfInBounds_toArray, List.set_cons_zero, List.set_cons_succ]
              obtain ⟨w5, hw5, B5', D5⟩ := box1 wd [.int .i64 0, .int .i64 1, .string s, .bool false, .bool false] 83
              obtain ⟨g5, hg5⟩ : ∃ g, wd.heap.size = g := ⟨_, rfl⟩
              rw [hg5] at B5'
              simp only [hw5, hg5]
              have B5 := hide B5'
              have HB5 := hide (chain HBd.out D5)
              have HM5 := hide ((HH.out.below HB5.out).own)
              clear hw5 hg5 B5' D5
              replace r0 := (HH.out.below HB5.out).bk.cell 0 rfl
              refine wpAnyH_ready (rs := [4]) (by kernel_rfl) (by simp) ?_
              refine AllReadyH.cons (o := { dst := some 36, op := Go.Op.load 26 (Go.Operand.tmp 35), type := 26, pos := "ref.go:43", after := #[{ on := 3, ground := Go.Ground.data }], guard := none }) rfl (fun K hK => ?_) AllReadyH.nil
              go_simp
              refine hK.out _ _ trivial (fun hHeld2 => ?_)
              clear hK K
              try simp only [Act.put, List.setIfInBounds_toArray, List.set_cons_zero, List.set_cons_succ]
              refine wpAnyH_ready (rs := [8]) (by kernel_rfl) (by simp) ?_
              refine AllReadyH.cons (o := { dst := some 40, op := Go.Op.call { callee := Go.Callee.builtin Go.Builtin.append, args := #[Go.Operand.tmp 36, Go.Operand.tmp 39], argTypes := #[26, 26] }, type := 26, pos := "ref.go:43", after := #[{ on := 4, ground := Go.Ground.data }, { on := 7, ground := Go.Ground.data }], guard := none }) rfl (fun K hK => ?_) AllReadyH.nil
              refine step_m5 rfl (.tmp 36) (.tmp 39) rfl base (.slice va D.length vc) D rfl HM5.out g5 1 ⟨0, 1, s, false, false⟩ rfl B5.out (by omega) (by have h1 := HB5.out.size; have h2 := HBS.out; omega) ?_
              intro g' c' w6 k1 k2 k3
              have HA := rpost_app HH.out HB5.out k1 k2 k3
              refine hK.out _ _ trivial (fun hHeld3 => ?_)
              clear hK K
              try simp only [Act.put, List.setIfInBounds_toArray, List.set_cons_zero, List.set_cons_succ]
              have HP := hide HA.2.2
              have HK := hide HA.2.1
              have r6 := HA.1.cell 0 rfl
              have p6 := HA.1.frozen 0
              clear HA k1 k2 k3
              refine wpAnyH_take (i := 9) (oi := { dst := some 41, op := Go.Op.nilCheck (Go.Operand.tmp 32), type := 0, pos := "ref.go:43", after := #[{ on := 0, ground := Go.Ground.data }, { on := 0, ground := Go.Ground.phase }, { on := 1, ground := Go.Ground.phase }, { on := 2, ground := Go.Ground.phase }, { on := 3, ground := Go.Ground.phase }, { on := 4, ground := Go.Ground.phase }, { on := 5, ground := Go.Ground.phase }, { on := 6, ground := Go.Ground.phase }, { on := 7, ground := Go.Ground.phase }, { on := 8, ground := Go.Ground.phase }], guard := none }) (v := ?_) rfl (by kernel_rfl) (by kernel_rfl) (by kernel_rfl) (fun _ _ _ h => h) (Or.inl ⟨by rfl, ?_⟩) (by exact trivial) ?_
              rotate_left
              · intro w hSw
                go_simp
                try with_reducible rfl
              try simp only [Act.put, List.setIfInBounds_toArray, List.set_cons_zero, List.set_cons_succ]
              refine wpAnyH_take (i := 10) (oi := { dst := some 42, op := Go.Op.fieldAddr 28 (Go.Operand.tmp 41) 0, type := 0, pos := "ref.go:43", after := #[{ on := 9, ground := Go.Ground.data }, { on := 0, ground := Go.Ground.phase }, { on := 1, ground := Go.Ground.phase }, { on := 2, ground := Go.Ground.phase }, { on := 3, ground := Go.Ground.phase }, { on := 4, ground := Go.Ground.phase }, { on := 5, ground := Go.Ground.phase }, { on := 6, ground := Go.Ground.phase }, { on := 7, ground := Go.Ground.phase }, { on := 8, ground := Go.Ground.phase }], guard := none }) (v := ?_) rfl (by kernel_rfl) (by kernel_rfl) (by kernel_rfl) (fun _ _ _ h => h) (Or.inl ⟨by rfl, ?_⟩) (by exact trivial) ?_
              rotate_left
              · intro w hSw
                go_simp
                try with_reducible rfl
              try simp only [Act.put, List.setIfInBounds_toArray, List.set_cons_zero, List.set_cons_succ]
              refine wpAnyH_ready (rs := [11]) (by kernel_rfl) (by simp) ?_
              refine AllReadyH.cons (o := { dst := none, op := Go.Op.store 26 (Go.Operand.tmp 42) (Go.Operand.tmp 40), type := 0, pos := "ref.go:43", after := #[{ on := 10, ground := Go.Ground.data }, { on := 8, ground := Go.Ground.data }, { on := 8, ground := Go.Ground.chain }, { on := 0, ground := Go.Ground.phase }, { on := 1, ground := Go.Ground.phase }, { on := 2, ground := Go.Ground.phase }, { on := 3, ground := Go.Ground.phase }, { on := 4, ground := Go.Ground.phase }, { on := 5, ground := Go.Ground.phase }, { on := 6, ground := Go.Ground.phase }, { on := 7, ground := Go.Ground.phase }, { on := 8, ground := Go.Ground.phase }], guard := none }) rfl (fun K hK => ?_) AllReadyH.nil
              go_simp
              refine hK.out _ _ trivial (fun hHeld4 => ?_)
              clear hK K
              try simp only [Act.put, List.setIfInBounds_toArray, List.set_cons_zero, List.set_cons_succ]
              refine wpAnyH_done (by kernel_rfl) ?_ _
              have e7 := HK.out.cell 0 rfl
              clear r0 r6 p6 n0 n1 n2
              go_wp2
              go_ret2
              exact ⟨rfl, _, HSM.out, HP.out⟩
            exact AllReadyH.nil
          exact AllReadyH.nil
    · by_cases hz0 : s.size = 0
      · have HSM : Hid (Sm (sL L 1 0 s) D) := by unfold Hid sL; rw [if_neg (by rw [HE1.out, if_pos (.inl hz0)]; decide)]; exact hS
        rw [show sN L 1 0 s = 0 by unfold sN; rw [if_neg (by rw [HE1.out, if_pos (.inl hz0)]; decide)], show sE 1 0 s = 11 by rw [HE1.out, if_pos (.inl hz0)]]
        have g1 : (s.size : Int) < 1 := by omega
        clear hS hl HE1 hz0
        go_enter Tryd.func24, Tryd.ntmps24
        go_upto_region 1 with fail
        have hW := HWD.out
        have hq := HQ.out
        clear HWD HQ
        simp only [hW, hq]
        clear hW hq
        go_wp2
        go_ret2
        exact ⟨rfl, _, HSM.out, HH.out.post HD.out⟩
      · by_cases hz1 : 4096 < s.size
        · have HSM : Hid (Sm (sL L 1 0 s) D) := by unfold Hid sL; rw [if_neg (by rw [HE1.out, if_pos (.inr hz1)]; decide)]; exact hS
          rw [show sN L 1 0 s = 0 by unfold sN; rw [if_neg (by rw [HE1.out, if_pos (.inr hz1)]; decide)], show sE 1 0 s = 11 by rw [HE1.out, if_pos (.inr hz1)]]
          have g1 : ¬ (s.size : Int) < 1 := by omega
          have g2 : (4096 : Int) < (s.size : Int) := by omega
          clear hS hl HE1 hz0 hz1
          go_enter Tryd.func24, Tryd.ntmps24
          go_upto_region 1 with fail
          have hW := HWD.out
          have hq := HQ.out
          clear HWD HQ
          simp only [hW, hq]
          clear hW hq
          go_wp2
          go_ret2
          exact ⟨rfl, _, HSM.out, HH.out.post HD.out⟩
        · have hE : sE 1 0 s = 0 := by rw [HE1.out, if_neg (by omega)]
          have HSM : Hid (Sm (sL L 1 0 s) (D ++ [⟨1, 0, s, false, false⟩])) := sm_send hS 1 0 s hE
          rw [show sN L 1 0 s = (D.length : Int) + 1 by unfold sN; rw [if_pos hE, hl], hE]
          have hD : D.length ≤ 2199023255552 := by omega
          have g1 : ¬ (s.size : Int) < 1 := by omega
          have g2 : ¬ (4096 : Int) < (s.size : Int) := by omega
          clear hS hl HE1 hz0 hz1 hE
          go_enter Tryd.func24, Tryd.ntmps24
          go_upto_region 1 with fail
          have hW := HWD.out
          have hq := HQ.out
          clear HWD HQ
          simp only [hW, hq]
          clear hW hq
          go_upto_region 5 with fail
          clear a0 a1 a2
          refine wp_region_held_drew (S := fun _ => True) (by kernel_rfl) trivial (fun hHeld => ?_)
          have HBd : Hid (Below w.heap.size w W.drew) := HD.out.drew
          have HB0d : Hid (Bk W.drew q [.int .i64 1, .int .i64 0, .string s] 41) := HB0.out.below (Below.refl _ _).drew
          obtain ⟨wd, hwd⟩ : ∃ z, z = W.drew := ⟨_, rfl⟩
          rw [← hwd] at HBd HB0d ⊢
          clear hwd
          have r0 := (HH.out.below HBd.out).bk.cell 0 rfl
          have n0 := HB0d.out.cell 0 rfl
          have n1 := HB0d.out.cell 1 rfl
          have n2 := HB0d.out.cell 2 rfl
          refine wpAnyH_take (i := 0) (oi := { dst := some 32, op := Go.Op.move (Go.Operand.tmp 0), type := 33, pos := "ref.go:43", after := #[], guard := none }) (v := ?_) rfl (by kernel_rfl) (by kernel_rfl) (by kernel_rfl) (fun _ _ _ h => h) (Or.inl ⟨by rfl, ?_⟩) (by exact trivial) ?_
          rotate_left
          · intro w hSw
            go_simp
            try with_reducible rfl
          try simp only [Act.put, List.setIfInBounds_toArray, List.set_cons_zero, List.set_cons_succ]
          refine wpAnyH_take (i := 1) (oi := { dst := some 33, op := Go.Op.move (Go.Operand.tmp 0), type := 33, pos := "ref.go:43", after := #[], guard := none }) (v := ?_) rfl (by kernel_rfl) (by kernel_rfl) (by kernel_rfl) (fun _ _ _ h => h) (Or.inl ⟨by rfl, ?_⟩) (by exact trivial) ?_
          rotate_left
          · intro w hSw
            go_simp
            try with_reducible rfl
          try simp only [Act.put, List.setIfInBounds_toArray, List.set_cons_zero, List.set_cons_succ]
          refine wpAnyH_take (i := 2) (oi := { dst := some 34, op := Go.Op.nilCheck (Go.Operand.tmp 33), type := 0, pos := "ref.go:43", after := #[{ on := 1, ground := Go.Ground.data }], guard := none }) (v := ?_) rfl (by kernel_rfl) (by kernel_rfl) (by kernel_rfl) (fun _ _ _ h => h) (Or.inl ⟨by rfl, ?_⟩) (by exact trivial) ?_
          rotate_left
          · intro w hSw
            go_simp
            try with_reducible rfl
          try simp only [Act.put, List.setIfInBounds_toArray, List.set_cons_zero, List.set_cons_succ]
          refine wpAnyH_take (i := 3) (oi := { dst := some 35, op := Go.Op.fieldAddr 28 (Go.Operand.tmp 34) 0, type := 0, pos := "ref.go:43", after := #[{ on := 2, ground := Go.Ground.data }], guard := none }) (v := ?_) rfl (by kernel_rfl) (by kernel_rfl) (by kernel_rfl) (fun _ _ _ h => h) (Or.inl ⟨by rfl, ?_⟩) (by exact trivial) ?_
          rotate_left
          · intro w hSw
            go_simp
            try with_reducible rfl
          try simp only [Act.put, List.setIfInBounds_toArray, List.set_cons_zero, List.set_cons_succ]
          refine wpAnyH_ready (rs := [4, 5]) (by kernel_rfl) (by simp) ?_
          refine AllReadyH.cons (o := { dst := some 36, op := Go.Op.load 26 (Go.Operand.tmp 35), type := 26, pos := "ref.go:43", after := #[{ on := 3, ground := Go.Ground.data }], guard := none }) rfl (fun K hK => ?_) ?_
          · go_simp
            refine hK.out _ _ trivial (fun hHeld2 => ?_)
            clear hK K
            try simp only [Act.put, List.setIfInBounds_toArray, List.set_cons_zero, List.set_cons_succ]
            refine wpAnyH_ready (rs := [5]) (by kernel_rfl) (by simp) ?_
            refine AllReadyH.cons (o := { dst := some 37, op := Go.Op.load 41 (Go.Operand.tmp 3), type := 41, pos := "ref.go:43", after := #[], guard := none }) rfl (fun K hK => ?_) AllReadyH.nil
            go_simp
            refine hK.out _ _ trivial (fun hHeld2 => ?_)
            clear hK K
            try simp only [Act.put, List.setIfInBounds_toArray, List.set_cons_zero, List.set_cons_succ]
            refine wpAnyH_take (i := 6) (oi := { dst := some 38, op := Go.Op.build 83 #[(0, Go.Operand.tmp 37)], type := 83, pos := "ref.go:43", after := #[{ on := 5, ground := Go.Ground.data }], guard := none }) (v := ?_) rfl (by kernel_rfl) (by kernel_rfl) (by kernel_rfl) (fun _ _ _ h => h) (Or.inl ⟨by rfl, ?_⟩) (by exact trivial) ?_
            rotate_left
            · intro w hSw
              go_simp
              try with_reducible rfl
            try simp only [Act.put, List.setIfInBounds_toArray, List.set_cons_zero, List.set_cons_succ]
            refine wpAnyH_ready (rs := [7]) (by kernel_rfl) (by simp) ?_
            refine AllReadyH.cons (o := { dst := some 39, op := Go.Op.buildSlice 26 1 #[(0, Go.Operand.tmp 38)], type := 26, pos := "ref.go:43", after := #[{ on := 6, ground := Go.Ground.data }], guard := none }) rfl (fun K hK => ?_) AllReadyH.nil
            go_simp
            refine hK.out _ _ trivial (fun hHeld2 => ?_)
            clear hK K
            try simp only [Act.put, List.setIfInBounds_toArray, List.set_cons_zero, List.set_cons_succ]
            obtain ⟨w5, hw5, B5', D5⟩ := box1 wd [.int .i64 1, .int .i64 0, .string s, .bool false, .bool false] 83
            obtain ⟨g5, hg5⟩ : ∃ g, wd.heap.size = g := ⟨_, rfl⟩
            rw [hg5] at B5'
            simp only [hw5, hg5]
            have B5 := hide B5'
            have HB5 := hide (chain HBd.out D5)
            have HM5 := hide ((HH.out.below HB5.out).own)
            clear hw5 hg5 B5' D5
            refine wpAnyH_ready (rs := [8]) (by kernel_rfl) (by simp) ?_
            refine AllReadyH.cons (o := { dst := some 40, op := Go.Op.call { callee := Go.Callee.builtin Go.Builtin.append, args := #[Go.Operand.tmp 36, Go.Operand.tmp 39], argTypes := #[26, 26] }, type := 26, pos := "ref.go:43", after := #[{ on := 4, ground := Go.Ground.data }, { on := 7, ground := Go.Ground.data }], guard := none }) rfl (fun K hK => ?_) AllReadyH.nil
            refine step_m5 rfl (.tmp 36) (.tmp 39) rfl base (.slice va D.length vc) D rfl HM5.out g5 1 ⟨1, 0, s, false, false⟩ rfl B5.out (by omega) (by have h1 := HB5.out.size; have h2 := HBS.out; omega) ?_
            intro g' c' w6 k1 k2 k3
            have HA := rpost_app HH.out HB5.out k1 k2 k3
            refine hK.out _ _ trivial (fun hHeld3 => ?_)
            clear hK K
            try simp only [Act.put, List.setIfInBounds_toArray, List.set_cons_zero, List.set_cons_succ]
            have HP := hide HA.2.2
            have HK := hide HA.2.1
            have r6 := HA.1.cell 0 rfl
            have p6 := HA.1.frozen 0
            clear HA k1 k2 k3
            refine wpAnyH_take (i := 9) (oi := { dst := some 41, op := Go.Op.nilCheck (Go.Operand.tmp 32), type := 0, pos := "ref.go:43", after := #[{ on := 0, ground := Go.Ground.data }, { on := 0, ground := Go.Ground.phase }, { on := 1, ground := Go.Ground.phase }, { on := 2, ground := Go.Ground.phase }, { on := 3, ground := Go.Ground.phase }, { on := 4, ground := Go.Ground.phase }, { on := 5, ground := Go.Ground.phase }, { on := 6, ground := Go.Ground.phase }, { on := 7, ground := Go.Ground.phase }, { on := 8, ground := Go.Ground.phase }], guard := none }) (v := ?_) rfl (by kernel_rfl) (by kernel_rfl) (by kernel_rfl) (fun _ _ _ h => h) (Or.inl ⟨by rfl, ?_⟩) (by exact trivial) ?_
            rotate_left
            · intro w hSw
              go_simp
              try with_reducible rfl
            try simp only [Act.put, List.setIfInBounds_toArray, List.set_cons_zero, List.set_cons_succ]
            refine wpAnyH_take (i := 10) (oi := { dst := some 42, op := Go.Op.fieldAddr 28 (Go.Operand.tmp 41) 0, type := 0, pos := "ref.go:43", after := #[{ on := 9, ground := Go.Ground.data }, { on := 0, ground := Go.Ground.phase }, { on := 1, ground := Go.Ground.phase }, { on := 2, ground := Go.Ground.phase }, { on := 3, ground := Go.Ground.phase }, { on := 4, ground := Go.Ground.phase }, { on := 5, ground := Go.Ground.phase }, { on := 6, ground := Go.Ground.phase }, { on := 7, ground := Go.Ground.phase }, { on := 8, ground := Go.Ground.phase }], guard := none }) (v := ?_) rfl (by kernel_rfl) (by kernel_rfl) (by kernel_rfl) (fun _ _ _ h => h) (Or.inl ⟨by rfl, ?_⟩) (by exact trivial) ?_
            rotate_left
            · intro w hSw
              go_simp
              try with_reducible rfl
            try simp only [Act.put, List.setIfInBounds_toArray, List.set_cons_zero, List.set_cons_succ]
            refine wpAnyH_ready (rs := [11]) (by kernel_rfl) (by simp) ?_
            refine AllReadyH.cons (o := { dst := none, op := Go.Op.store 26 (Go.Operand.tmp 42) (Go.Operand.tmp 40), type := 0, pos := "ref.go:43", after := #[{ on := 10, ground := Go.Ground.data }, { on := 8, ground := Go.Ground.data }, { on := 8, ground := Go.Ground.chain }, { on := 0, ground := Go.Ground.phase }, { on := 1, ground := Go.Ground.phase }, { on := 2, ground := Go.Ground.phase }, { on := 3, ground := Go.Ground.phase }, { on := 4, ground := Go.Ground.phase }, { on := 5, ground := Go.Ground.phase }, { on := 6, ground := Go.Ground.phase }, { on := 7, ground := Go.Ground.phase }, { on := 8, ground := Go.Ground.phase }], guard := none }) rfl (fun K hK => ?_) AllReadyH.nil
            go_simp
            refine hK.out _ _ trivial (fun hHeld4 => ?_)
            clear hK K
            try simp only [Act.put, List.setIfInBounds_toArray, List.set_cons_zero, List.set_cons_succ]
            refine wpAnyH_done (by kernel_rfl) ?_ _
            have e7 := HK.out.cell 0 rfl
            clear r0 r6 p6 n0 n1 n2
            go_wp2
            go_ret2
            exact ⟨rfl, _, HSM.out, HP.out⟩
          refine AllReadyH.cons (o := { dst := some 37, op := Go.Op.load 41 (Go.Operand.tmp 3), type := 41, pos := "ref.go:43", after := #[], guard := none }) rfl (fun K hK => ?_) ?_
          · go_simp
            refine hK.out _ _ trivial (fun hHeld2 => ?_)
            clear hK K
            try simp only [Act.put, List.setIfInBounds_toArray, List.set_cons_zero, List.set_cons_succ]
            refine wpAnyH_take (i := 6) (oi := { dst := some 38, op := Go.Op.build 83 #[(0, Go.Operand.tmp 37)], type := 83, pos := "ref.go:43", after := #[{ on := 5, ground := Go.Ground.data }], guard := none }) (v := ?_) rfl (by kernel_rfl) (by kernel_rfl) (by kernel_rfl) (fun _ _ _ h => h) (Or.inl ⟨by rfl, ?_⟩) (by exact trivial) ?_
            rotate_left
            · intro w hSw
              go_simp
              try with_reducible rfl
            try simp only [Act.put, List.setIfInBounds_toArray, List.set_cons_zero, List.set_cons_succ]
            refine wpAnyH_ready (rs := [4, 7]) (by kernel_rfl) (by simp) ?_
            refine AllReadyH.cons (o := { dst := some 36, op := Go.Op.load 26 (Go.Operand.tmp 35), type := 26, pos := "ref.go:43", after := #[{ on := 3, ground := Go.Ground.data }], guard := none }) rfl (fun K hK => ?_) ?_
            · go_simp
              refine hK.out _ _ trivial (fun hHeld2 => ?_)
              clear hK K
              try simp only [Act.put, List.setIfInBounds_toArray, List.set_cons_zero, List.set_cons_succ]
              refine wpAnyH_ready (rs := [7]) (by kernel_rfl) (by simp) ?_
              refine AllReadyH.cons (o := { dst := some 39, op := Go.Op.buildSlice 26 1 #[(0, Go.Operand.tmp 38)], type := 26, pos := "ref.go:43", after := #[{ on := 6, ground := Go.Ground.data }], guard := none }) rfl (fun K hK => ?_) AllReadyH.nil
              go_simp
              refine hK.out _ _ trivial (fun hHeld2 => ?_)
              clear hK K
              try simp only [Act.put, List.setIfInBounds_toArray, List.set_cons_zero, List.set_cons_succ]
              obtain ⟨w5, hw5, B5', D5⟩ := box1 wd [.int .i64 1, .int .i64 0, .string s, .bool false, .bool false] 83
              obtain ⟨g5, hg5⟩ : ∃ g, wd.heap.size = g := ⟨_, rfl⟩
              rw [hg5] at B5'
              simp only [hw5, hg5]
              have B5 := hide B5'
              have HB5 := hide (chain HBd.out D5)
              have HM5 := hide ((HH.out.below HB5.out).own)
              clear hw5 hg5 B5' D5
              refine wpAnyH_ready (rs := [8]) (by kernel_rfl) (by simp) ?_
              refine AllReadyH.cons (o := { dst := some 40, op := Go.Op.call { callee := Go.Callee.builtin Go.Builtin.append, args := #[Go.Operand.tmp 36, Go.Operand.tmp 39], argTypes := #[26, 26] }, type := 26, pos := "ref.go:43", after := #[{ on := 4, ground := Go.Ground.data }, { on := 7, ground := Go.Ground.data }], guard := none }) rfl (fun K hK => ?_) AllReadyH.nil
              refine step_m5 rfl (.tmp 36) (.tmp 39) rfl base (.slice va D.length vc) D rfl HM5.out g5 1 ⟨1, 0, s, false, false⟩ rfl B5.out (by omega) (by have h1 := HB5.out.size; have h2 := HBS.out; omega) ?_
              intro g' c' w6 k1 k2 k3
              have HA := rpost_app HH.out HB5.out k1 k2 k3
              refine hK.out _ _ trivial (fun hHeld3 => ?_)
              clear hK K
              try simp only [Act.put, List.setIfInBounds_toArray, List.set_cons_zero, List.set_cons_succ]
              have HP := hide HA.2.2
              have HK := hide HA.2.1
              have r6 := HA.1.cell 0 rfl
              have p6 := HA.1.frozen 0
              clear HA k1 k2 k3
              refine wpAnyH_take (i := 9) (oi := { dst := some 41, op := Go.Op.nilCheck (Go.Operand.tmp 32), type := 0, pos := "ref.go:43", after := #[{ on := 0, ground := Go.Ground.data }, { on := 0, ground := Go.Ground.phase }, { on := 1, ground := Go.Ground.phase }, { on := 2, ground := Go.Ground.phase }, { on := 3, ground := Go.Ground.phase }, { on := 4, ground := Go.Ground.phase }, { on := 5, ground := Go.Ground.phase }, { on := 6, ground := Go.Ground.phase }, { on := 7, ground := Go.Ground.phase }, { on := 8, ground := Go.Ground.phase }], guard := none }) (v := ?_) rfl (by kernel_rfl) (by kernel_rfl) (by kernel_rfl) (fun _ _ _ h => h) (Or.inl ⟨by rfl, ?_⟩) (by exact trivial) ?_
              rotate_left
              · intro w hSw
                go_simp
                try with_reducible rfl
              try simp only [Act.put, List.setIfInBounds_toArray, List.set_cons_zero, List.set_cons_succ]
              refine wpAnyH_take (i := 10) (oi := { dst := some 42, op := Go.Op.fieldAddr 28 (Go.Operand.tmp 41) 0, type := 0, pos := "ref.go:43", after := #[{ on := 9, ground := Go.Ground.data }, { on := 0, ground := Go.Ground.phase }, { on := 1, ground := Go.Ground.phase }, { on := 2, ground := Go.Ground.phase }, { on := 3, ground := Go.Ground.phase }, { on := 4, ground := Go.Ground.phase }, { on := 5, ground := Go.Ground.phase }, { on := 6, ground := Go.Ground.phase }, { on := 7, ground := Go.Ground.phase }, { on := 8, ground := Go.Ground.phase }], guard := none }) (v := ?_) rfl (by kernel_rfl) (by kernel_rfl) (by kernel_rfl) (fun _ _ _ h => h) (Or.inl ⟨by rfl, ?_⟩) (by exact trivial) ?_
              rotate_left
              · intro w hSw
                go_simp
                try with_reducible rfl
              try simp only [Act.put, List.setIfInBounds_toArray, List.set_cons_zero, List.set_cons_succ]
              refine wpAnyH_ready (rs := [11]) (by kernel_rfl) (by simp) ?_
              refine AllReadyH.cons (o := { dst := none, op := Go.Op.store 26 (Go.Operand.tmp 42) (Go.Operand.tmp 40), type := 0, pos := "ref.go:43", after := #[{ on := 10, ground := Go.Ground.data }, { on := 8, ground := Go.Ground.data }, { on := 8, ground := Go.Ground.chain }, { on := 0, ground := Go.Ground.phase }, { on := 1, ground := Go.Ground.phase }, { on := 2, ground := Go.Ground.phase }, { on := 3, ground := Go.Ground.phase }, { on := 4, ground := Go.Ground.phase }, { on := 5, ground := Go.Ground.phase }, { on := 6, ground := Go.Ground.phase }, { on := 7, ground := Go.Ground.phase }, { on := 8, ground := Go.Ground.phase }], guard := none }) rfl (fun K hK => ?_) AllReadyH.nil
              go_simp
              refine hK.out _ _ trivial (fun hHeld4 => ?_)
              clear hK K
              try simp only [Act.put, List.setIfInBounds_toArray, List.set_cons_zero, List.set_cons_succ]
              refine wpAnyH_done (by kernel_rfl) ?_ _
              have e7 := HK.out.cell 0 rfl
              clear r0 r6 p6 n0 n1 n2
              go_wp2
              go_ret2
              exact ⟨rfl, _, HSM.out, HP.out⟩
            refine AllReadyH.cons (o := { dst := some 39, op := Go.Op.buildSlice 26 1 #[(0, Go.Operand.tmp 38)], type := 26, pos := "ref.go:43", after := #[{ on := 6, ground := Go.Ground.data }], guard := none }) rfl (fun K hK => ?_) ?_
            · go_simp
              refine hK.out _ _ trivial (fun hHeld2 => ?_)
              clear hK K
              try simp only [Act.put, List.setIfInBounds_toArray, List.set_cons_zero, List.set_cons_succ]
              obtain ⟨w5, hw5, B5', D5⟩ := box1 wd [.int .i64 1, .int .i64 0, .string s, .bool false, .bool false] 83
              obtain ⟨g5, hg5⟩ : ∃ g, wd.heap.size = g := ⟨_, rfl⟩
              rw [hg5] at B5'
              simp only [hw5, hg5]
              have B5 := hide B5'
              have HB5 := hide (chain HBd.out D5)
              have HM5 := hide ((HH.out.below HB5.out).own)
              clear hw5 hg5 B5' D5
              replace r0 := (HH.out.below HB5.out).bk.cell 0 rfl
              refine wpAnyH_ready (rs := [4]) (by kernel_rfl) (by simp) ?_
              refine AllReadyH.cons (o := { dst := some 36, op := Go.Op.load 26 (Go.Operand.tmp 35), type := 26, pos := "ref.go:43", after := #[{ on := 3, ground := Go.Ground.data }], guard := none }) rfl (fun K hK => ?_) AllReadyH.nil
              go_simp
              refine hK.out _ _ trivial (fun hHeld2 => ?_)
              clear hK K
              try simp only [Act.put, List.setIfInBounds_toArray, List.set_cons_zero, List.set_cons_succ]
              refine wpAnyH_ready (rs := [8]) (by kernel_rfl) (by simp) ?_
              refine AllReadyH.cons (o := { dst := some 40, op := Go.Op.call { callee := Go.Callee.builtin Go.Builtin.append, args := #[Go.Operand.tmp 36, Go.Operand.tmp 39], argTypes := #[26, 26] }, type := 26, pos := "ref.go:43", after := #[{ on := 4, ground := Go.Ground.data }, { on := 7, ground := Go.Ground.data }], guard := none }) rfl (fun K hK => ?_) AllReadyH.nil
              refine step_m5 rfl (.tmp 36) (.tmp 39) rfl base (.slice va D.length vc) D rfl HM5.out g5 1 ⟨1, 0, s, false, false⟩ rfl B5.out (by omega) (by have h1 := HB5.out.size; have h2 := HBS.out; omega) ?_
              intro g' c' w6 k1 k2 k3
              have HA := rpost_app HH.out HB5.out k1 k2 k3
              refine hK.out _ _ trivial (fun hHeld3 => ?_)
              clear hK K
              try simp only [Act.put, List.setIfInBounds_toArray, List.set_cons_zero, List.set_cons_succ]
              have HP := hide HA.2.2
              have HK := hide HA.2.1
              have r6 := HA.1.cell 0 rfl
              have p6 := HA.1.frozen 0
              clear HA k1 k2 k3
              refine wpAnyH_take (i := 9) (oi := { dst := some 41, op := Go.Op.nilCheck (Go.Operand.tmp 32), type := 0, pos := "ref.go:43", after := #[{ on := 0, ground := Go.Ground.data }, { on := 0, ground := Go.Ground.phase }, { on := 1, ground := Go.Ground.phase }, { on := 2, ground := Go.Ground.phase }, { on := 3, ground := Go.Ground.phase }, { on := 4, ground := Go.Ground.phase }, { on := 5, ground := Go.Ground.phase }, { on := 6, ground := Go.Ground.phase }, { on := 7, ground := Go.Ground.phase }, { on := 8, ground := Go.Ground.phase }], guard := none }) (v := ?_) rfl (by kernel_rfl) (by kernel_rfl) (by kernel_rfl) (fun _ _ _ h => h) (Or.inl ⟨by rfl, ?_⟩) (by exact trivial) ?_
              rotate_left
              · intro w hSw
                go_simp
                try with_reducible rfl
              try simp only [Act.put, List.setIfInBounds_toArray, List.set_cons_zero, List.set_cons_succ]
              refine wpAnyH_take (i := 10) (oi := { dst := some 42, op := Go.Op.fieldAddr 28 (Go.Operand.tmp 41) 0, type := 0, pos := "ref.go:43", after := #[{ on := 9, ground := Go.Ground.data }, { on := 0, ground := Go.Ground.phase }, { on := 1, ground := Go.Ground.phase }, { on := 2, ground := Go.Ground.phase }, { on := 3, ground := Go.Ground.phase }, { on := 4, ground := Go.Ground.phase }, { on := 5, ground := Go.Ground.phase }, { on := 6, ground := Go.Ground.phase }, { on := 7, ground := Go.Ground.phase }, { on := 8, ground := Go.Ground.phase }], guard := none }) (v := ?_) rfl (by kernel_rfl) (by kernel_rfl) (by kernel_rfl) (fun _ _ _ h => h) (Or.inl ⟨by rfl, ?_⟩) (by exact trivial) ?_
              rotate_left
              · intro w hSw
                go_simp
                try with_reducible rfl
              try simp only [Act.put, List.setIfInBounds_toArray, List.set_cons_zero, List.set_cons_succ]
              refine wpAnyH_ready (rs := [11]) (by kernel_rfl) (by simp) ?_
              refine AllReadyH.cons (o := { dst := none, op := Go.Op.store 26 (Go.Operand.tmp 42) (Go.Operand.tmp 40), type := 0, pos := "ref.go:43", after := #[{ on := 10, ground := Go.Ground.data }, { on := 8, ground := Go.Ground.data }, { on := 8, ground := Go.Ground.chain }, { on := 0, ground := Go.Ground.phase }, { on := 1, ground := Go.Ground.phase }, { on := 2, ground := Go.Ground.phase }, { on := 3, ground := Go.Ground.phase }, { on := 4, ground := Go.Ground.phase }, { on := 5, ground := Go.Ground.phase }, { on := 6, ground := Go.Ground.phase }, { on := 7, ground := Go.Ground.phase }, { on := 8, ground := Go.Ground.phase }], guard := none }) rfl (fun K hK => ?_) AllReadyH.nil
              go_simp
              refine hK.out _ _ trivial (fun hHeld4 => ?_)
              clear hK K
              try simp only [Act.put, List.setIfInBounds_toArray, List.set_cons_zero, List.set_cons_succ]
              refine wpAnyH_done (by kernel_rfl) ?_ _
              have e7 := HK.out.cell 0 rfl
              clear r0 r6 p6 n0 n1 n2
              go_wp2
              go_ret2
              exact ⟨rfl, _, HSM.out, HP.out⟩
            exact AllReadyH.nil
          exact AllReadyH.nil
  · have hE : sE f t s = 12 := by unfold sE; rw [if_neg ho]
    have HSM : Hid (Sm (sL L f t s) D) := by unfold Hid sL; rw [if_neg (by rw [hE]; decide)]; exact hS
    rw [show sN L f t s = 0 by unfold sN; rw [if_neg (by rw [hE]; decide)], hE]
    have hno : ¬ ((f = 0 ∧ t = 1) ∨ (f = 1 ∧ t = 0)) := fun x => ho (by
      unfold sOk
      simp only [Bool.or_eq_true, Bool.and_eq_true, beq_iff_eq]
      exact x)
    by_cases hw : wrap64 (f + t) = 1
    · have b1 : (wrap64 (f + t) != 1) = false := by rw [hw]; rfl
      have b2 : (f != 0) = true := by
        rw [bne_iff_ne]
        intro e
        subst e
        unfold wrap64 at hw
        omega
      have b3 : (f != 1) = true := by
        rw [bne_iff_ne]
        intro e
        subst e
        unfold wrap64 at hw
        omega
      clear ho hE hno hw hf1 hf2 ht1 ht2 hS hl
      go_enter Tryd.func24, Tryd.ntmps24
      go_upto_region 1 with fail
      have hW := HWD.out
      have hq := HQ.out
      clear HWD HQ
      simp only [hW, hq]
      clear hW hq
      go_wp2
      go_ret2
      exact ⟨rfl, _, HSM.out, HH.out.post HD.out⟩
    · have b1 : (wrap64 (f + t) != 1) = true := by rw [bne_iff_ne]; exact hw
      clear ho hE hno hw hf1 hf2 ht1 ht2 hS hl
      go_enter Tryd.func24, Tryd.ntmps24
      go_upto_region 1 with fail
      have hW := HWD.out
      have hq := HQ.out
      clear HWD HQ
      simp only [hW, hq]
      clear hW hq
      go_wp2
      go_ret2
      exact ⟨rfl, _, HSM.out, HH.out.post HD.out⟩
end Go.Proofs.YtgnkmenjjmfcfaaDoor
