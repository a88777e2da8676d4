/-
  Walk of the law ChunkNotes.
-/
import Derived.Test.YtdbciciljeainaaDoorCkKnown
import Derived.Test.YtdbciciljeainaaDoorCkDGet
import Derived.Deep.RegionHeld3
namespace Go.Proofs.YtdbciciljeainaaDoor.chunkNotes
open Go.RowKit FerryCrc
set_option linter.unusedVariables false
set_option linter.unusedSimpArgs false

theorem nt_neq (x0 x1 x2 x3 x4 x5 x6 x7 x8 : Int) (x9 : ByteArray) (w : World) : (binOp .eql 26 (.agg #[.int .i64 x0, .int .i64 x1, .int .i64 x2, .int .i64 x3, .int .i64 x4, .int .i64 x5, .int .i64 x6, .int .i64 x7, .int .u32 x8, .string x9]) (.agg #[.int .i64 x0, .int .i64 x1, .int .i64 x2, .int .i64 x3, .int .i64 x4, .int .i64 x5, .int .i64 x6, .int .i64 x7, .int .u32 x8, .string x9])).run Tryd.prog w = .ok (.bool true) w := by
  go_simp
theorem chk_le (n : Nt) : chk n ≤ 20 := by
  unfold chk
  repeat' split
  all_goals decide
theorem getE_le (l : List Nat) : getE l ≤ 20 := by
  unfold getE
  repeat' split
  all_goals first | decide | exact chk_le _
theorem er10_of {w : World} {E : Nat → Addr} (h : Errs w E) : Er10 w E := ⟨h.er7, h.v1, h.v5, h.v6⟩

set_option maxRecDepth 100000 in
set_option maxHeartbeats 4000000 in
theorem law (n : Nt) (s : ByteArray) (w : World) {E : Nat → Addr} (he : Errs w E) (ok : n.Ok ∧ 0 ≤ n.sum ∧ n.sum < 4294967296) (hs : s.size ≤ 140737488351232) :
    Calls Tryd.prog 3 #[.agg n.cells.toArray, .string s] w fun e w' => e = .returned (.bool true) ∧ Below w.heap.size w w' := by
  obtain ⟨ok, s0, s1⟩ := ok
  have HOK := hide (And.intro ok (And.intro s0 s1))
  obtain ⟨k, pt, b, r, m, st, ix, tt, sm, d⟩ := n
  clear s0 s1
  obtain ⟨W, hW, B0, D0⟩ := box1 w [.int .i64 k, .int .i64 pt, .int .i64 b, .int .i64 r, .int .i64 m, .int .i64 st, .int .i64 ix, .int .i64 tt, .int .u32 sm, .string d] 26
  obtain ⟨g, hg⟩ : ∃ g, w.heap.size = g := ⟨_, rfl⟩
  rw [hg] at B0
  have HB := hide B0
  have HD := hide D0
  have HEr := hide (he.below D0)
  have HWD := hide hW
  have HGG := hide hg
  have HSZ := hide hs
  have heql := nt_neq
  have hgt : Tryd.prog.eqGuardType Tryd.prog.depth 26 = false := by kernel_rfl
  clear B0 D0 hW he hg hs ok
  show Calls Tryd.prog 3 #[.agg #[.int .i64 k, .int .i64 pt, .int .i64 b, .int .i64 r, .int .i64 m, .int .i64 st, .int .i64 ix, .int .i64 tt, .int .u32 sm, .string d], .string s] w _
  go_enter Tryd.func3, Tryd.ntmps3
  go_upto_region 1 with fail
  have hW := HWD.out
  have hg := HGG.out
  clear HWD HGG
  simp only [hW, hg]
  clear hW hg
  go_wp2_with fail
  refine Calls.mono (known_any (er10_of HEr.out)) ?_
  rintro e w1 ⟨rfl, b1⟩
  replace HB := hide (HB.out.below b1)
  replace HD := hide (chain HD.out b1)
  replace HEr := hide (HEr.out.below b1)
  clear b1
  have HPU := hide (put_any k pt b r m st ix tt sm d HEr.out.er7 HOK.out.1.d1 HOK.out.1.t1 HOK.out.1.t2 HOK.out.2.1 HOK.out.2.2)
  have HRP := hide (fun wx => rput_any (w := wx) k pt b r m st ix tt sm d HOK.out.1.d1 HOK.out.1.t1 HOK.out.1.t2 HOK.out.2.1 HOK.out.2.2)
  have HRC := hide (fun wx => rcheck_any k pt b r m st ix tt sm d wx HOK.out.1.d1 HOK.out.1.t1 HOK.out.1.t2)
  have HCH := hide (fun wx (h : Errs wx E) => check_any k pt b r m st ix tt sm d h.er7 HOK.out.1.d1 HOK.out.1.t1 HOK.out.1.t2)
  have HR20 := hide (chk_le ⟨k, pt, b, r, m, st, ix, tt, sm, d⟩)
  obtain ⟨R, hR⟩ : ∃ x, chk ⟨k, pt, b, r, m, st, ix, tt, sm, d⟩ = x := ⟨_, rfl⟩
  obtain ⟨V, hV⟩ : ∃ x, putS ⟨k, pt, b, r, m, st, ix, tt, sm, d⟩ = x := ⟨_, rfl⟩
  rw [hR] at HPU HRP HRC HCH HR20
  rw [hV] at HPU HRP
  clear hR hV HOK
  have c0 := HB.out.cell 0 rfl
  have c1 := HB.out.cell 1 rfl
  have c2 := HB.out.cell 2 rfl
  have c3 := HB.out.cell 3 rfl
  have c4 := HB.out.cell 4 rfl
  have c5 := HB.out.cell 5 rfl
  have c6 := HB.out.cell 6 rfl
  have c7 := HB.out.cell 7 rfl
  have c8 := HB.out.cell 8 rfl
  have c9 := HB.out.cell 9 rfl
  go_wp2_with fail
  refine Calls.mono HPU.out ?_
  rintro e w2 ⟨rfl, b1⟩
  replace HB := hide (HB.out.below b1)
  replace HD := hide (chain HD.out b1)
  replace HEr := hide (HEr.out.below b1)
  clear b1 HPU c0 c1 c2 c3 c4 c5 c6 c7 c8 c9
  have c0 := HB.out.cell 0 rfl
  have c1 := HB.out.cell 1 rfl
  have c2 := HB.out.cell 2 rfl
  have c3 := HB.out.cell 3 rfl
  have c4 := HB.out.cell 4 rfl
  have c5 := HB.out.cell 5 rfl
  have c6 := HB.out.cell 6 rfl
  have c7 := HB.out.cell 7 rfl
  have c8 := HB.out.cell 8 rfl
  have c9 := HB.out.cell 9 rfl
  go_wp2_with fail
  refine Calls.mono (HRP.out _) ?_
  rintro e w4 ⟨rfl, b1⟩
  replace HB := hide (HB.out.below b1)
  replace HD := hide (chain HD.out b1)
  replace HEr := hide (HEr.out.below b1)
  clear b1 HRP c0 c1 c2 c3 c4 c5 c6 c7 c8 c9
  go_upto_region 5 with fail
  have HSB : Hid (∀ wz, Below w4.heap.size w4 wz → wz.cell? ⟨g, 0, none⟩ = some (.int .i64 k) ∧ wz.cell? ⟨g, 1, none⟩ = some (.int .i64 pt) ∧ wz.cell? ⟨g, 2, none⟩ = some (.int .i64 b) ∧ wz.cell? ⟨g, 3, none⟩ = some (.int .i64 r) ∧ wz.cell? ⟨g, 4, none⟩ = some (.int .i64 m) ∧ wz.cell? ⟨g, 5, none⟩ = some (.int .i64 st) ∧ wz.cell? ⟨g, 6, none⟩ = some (.int .i64 ix) ∧ wz.cell? ⟨g, 7, none⟩ = some (.int .i64 tt) ∧ wz.cell? ⟨g, 8, none⟩ = some (.int .u32 sm) ∧ wz.cell? ⟨g, 9, none⟩ = some (.string d)) := fun wz hb => ⟨(HB.out.below hb).cell 0 rfl, (HB.out.below hb).cell 1 rfl, (HB.out.below hb).cell 2 rfl, (HB.out.below hb).cell 3 rfl, (HB.out.below hb).cell 4 rfl, (HB.out.below hb).cell 5 rfl, (HB.out.below hb).cell 6 rfl, (HB.out.below hb).cell 7 rfl, (HB.out.below hb).cell 8 rfl, (HB.out.below hb).cell 9 rfl⟩
  go_cut [39] from 23 to 39 (fun v wz => v = .bool false ∧ Hid (Below w4.heap.size w4 wz))
  case first =>
    have dR : ((R : Int) != (R : Int)) = false := by simp
    refine wp_region_held_drew (S := fun wz => wz.cell? ⟨g, 0, none⟩ = some (.int .i64 k) ∧ wz.cell? ⟨g, 1, none⟩ = some (.int .i64 pt) ∧ wz.cell? ⟨g, 2, none⟩ = some (.int .i64 b) ∧ wz.cell? ⟨g, 3, none⟩ = some (.int .i64 r) ∧ wz.cell? ⟨g, 4, none⟩ = some (.int .i64 m) ∧ wz.cell? ⟨g, 5, none⟩ = some (.int .i64 st) ∧ wz.cell? ⟨g, 6, none⟩ = some (.int .i64 ix) ∧ wz.cell? ⟨g, 7, none⟩ = some (.int .i64 tt) ∧ wz.cell? ⟨g, 8, none⟩ = some (.int .u32 sm) ∧ wz.cell? ⟨g, 9, none⟩ = some (.string d)) (by kernel_rfl) (HSB.out _ (Below.refl _ _).drew) (fun hHeld => ?_)
    have HY : Hid (Below w4.heap.size w4 w4.drew) := (Below.refl _ _).drew
    obtain ⟨wd, hwd⟩ : ∃ z, z = w4.drew := ⟨_, rfl⟩
    rw [← hwd] at HY ⊢
    clear hwd hHeld
    have hHeld := HSB.out _ HY.out
    refine wpAnyH_take (i := 0) (oi := { dst := some 23, op := Go.Op.move (Go.Operand.tmp 5), type := 9, pos := "law.go:50", after := #[], guard := none }) (v := ?_) rfl (by kernel_rfl) (by kernel_rfl) (by kernel_rfl) (fun _ _ _ h => h) (Or.inl ⟨by rfl, ?_⟩) (by assumption) ?_
    rotate_left
    · intro w hSw
      obtain ⟨q0, q1, q2, q3, q4, q5, q6, q7, q8, q9⟩ := hSw
      go_simp
      try with_reducible rfl
    simp only [Act.put, List.setIfInBounds_toArray, List.set_cons_zero, List.set_cons_succ]
    refine wpAnyH_take (i := 1) (oi := { dst := some 24, op := Go.Op.move (Go.Operand.tmp 7), type := 9, pos := "law.go:50", after := #[], guard := none }) (v := ?_) rfl (by kernel_rfl) (by kernel_rfl) (by kernel_rfl) (fun _ _ _ h => h) (Or.inl ⟨by rfl, ?_⟩) (by assumption) ?_
    rotate_left
    · intro w hSw
      obtain ⟨q0, q1, q2, q3, q4, q5, q6, q7, q8, q9⟩ := hSw
      go_simp
      try with_reducible rfl
    simp only [Act.put, List.setIfInBounds_toArray, List.set_cons_zero, List.set_cons_succ]
    refine wpAnyH_take (i := 2) (oi := { dst := some 25, op := Go.Op.binOp Go.BinOp.neq 9 (Go.Operand.tmp 23) (Go.Operand.tmp 24) 9, type := 4, pos := "law.go:50", after := #[{ on := 0, ground := Go.Ground.data }, { on := 1, ground := Go.Ground.data }], guard := none }) (v := ?_) rfl (by kernel_rfl) (by kernel_rfl) (by kernel_rfl) (fun _ _ _ h => h) (Or.inl ⟨by rfl, ?_⟩) (by assumption) ?_
    rotate_left
    · intro w hSw
      obtain ⟨q0, q1, q2, q3, q4, q5, q6, q7, q8, q9⟩ := hSw
      go_simp
      try with_reducible rfl
    simp only [Act.put, List.setIfInBounds_toArray, List.set_cons_zero, List.set_cons_succ]
    refine wpAnyH_take (i := 3) (oi := { dst := some 26, op := Go.Op.move (Go.Operand.tmp 25), type := 4, pos := "law.go:50", after := #[{ on := 2, ground := Go.Ground.data }], guard := none }) (v := ?_) rfl (by kernel_rfl) (by kernel_rfl) (by kernel_rfl) (fun _ _ _ h => h) (Or.inl ⟨by rfl, ?_⟩) (by assumption) ?_
    rotate_left
    · intro w hSw
      obtain ⟨q0, q1, q2, q3, q4, q5, q6, q7, q8, q9⟩ := hSw
      go_simp
      try with_reducible rfl
    simp only [Act.put, List.setIfInBounds_toArray, List.set_cons_zero, List.set_cons_succ]
    refine wpAnyH_take (i := 4) (oi := { dst := some 27, op := Go.Op.move (Go.Operand.tmp 6), type := 29, pos := "law.go:50", after := #[{ on := 3, ground := Go.Ground.guard }], guard := some (3, false) }) (v := ?_) rfl (by kernel_rfl) (by kernel_rfl) (by kernel_rfl) (fun _ _ _ h => h) (Or.inl ⟨by rfl, ?_⟩) (by assumption) ?_
    rotate_left
    · intro w hSw
      obtain ⟨q0, q1, q2, q3, q4, q5, q6, q7, q8, q9⟩ := hSw
      go_simp
      try with_reducible rfl
    simp only [Act.put, List.setIfInBounds_toArray, List.set_cons_zero, List.set_cons_succ]
    refine wpAnyH_take (i := 6) (oi := { dst := some 29, op := Go.Op.move (Go.Operand.tmp 8), type := 3, pos := "law.go:50", after := #[{ on := 3, ground := Go.Ground.guard }], guard := some (3, false) }) (v := ?_) rfl (by kernel_rfl) (by kernel_rfl) (by kernel_rfl) (fun _ _ _ h => h) (Or.inl ⟨by rfl, ?_⟩) (by assumption) ?_
    rotate_left
    · intro w hSw
      obtain ⟨q0, q1, q2, q3, q4, q5, q6, q7, q8, q9⟩ := hSw
      go_simp
      try with_reducible rfl
    simp only [Act.put, List.setIfInBounds_toArray, List.set_cons_zero, List.set_cons_succ]
    refine wpAnyH_ready (rs := [5]) (by kernel_rfl) (by simp) ?_
    refine AllReadyH.cons (o := { dst := some 28, op := Go.Op.call { callee := Go.Callee.value (Go.Operand.func 10), args := #[Go.Operand.tmp 27], argTypes := #[29] }, type := 3, pos := "law.go:50", after := #[{ on := 4, ground := Go.Ground.data }, { on := 3, ground := Go.Ground.chain }, { on := 3, ground := Go.Ground.guard }], guard := some (3, false) }) rfl (fun K hK => ?_) ?_
    · go_simp
      go_at_call 10
      with_reducible refine Calls.mono (lcode_any (HEr.out.below HY.out) R HR20.out) ?_
      rintro e y1 ⟨rfl, b1⟩
      replace HY := hide (chain HY.out b1)
      clear b1
      try dsimp only
      refine hK.out _ _ (HSB.out _ HY.out) (fun hHeld1 => ?_)
      clear hK K
      try simp only [Act.put, List.setIfInBounds_toArray, List.set_cons_zero, List.set_cons_succ]
      refine wpAnyH_take (i := 7) (oi := { dst := some 30, op := Go.Op.binOp Go.BinOp.neq 3 (Go.Operand.tmp 28) (Go.Operand.tmp 29) 3, type := 4, pos := "law.go:50", after := #[{ on := 5, ground := Go.Ground.data }, { on := 6, ground := Go.Ground.data }, { on := 3, ground := Go.Ground.guard }], guard := some (3, false) }) (v := ?_) rfl (by kernel_rfl) (by kernel_rfl) (by kernel_rfl) (fun _ _ _ h => h) (Or.inl ⟨by rfl, ?_⟩) (by assumption) ?_
      rotate_left
      · intro w hSw
        obtain ⟨q0, q1, q2, q3, q4, q5, q6, q7, q8, q9⟩ := hSw
        go_simp
        try with_reducible rfl
      simp only [Act.put, List.setIfInBounds_toArray, List.set_cons_zero, List.set_cons_succ]
      refine wpAnyH_take (i := 8) (oi := { dst := some 31, op := Go.Op.pick (Go.Operand.tmp 26) (Go.Operand.const (Go.Value.bool true)) (Go.Operand.tmp 30), type := 4, pos := "law.go:50", after := #[{ on := 3, ground := Go.Ground.data }, { on := 7, ground := Go.Ground.data }], guard := none }) (v := ?_) rfl (by kernel_rfl) (by kernel_rfl) (by kernel_rfl) (fun _ _ _ h => h) (Or.inl ⟨by rfl, ?_⟩) (by assumption) ?_
      rotate_left
      · intro w hSw
        obtain ⟨q0, q1, q2, q3, q4, q5, q6, q7, q8, q9⟩ := hSw
        go_simp
        try with_reducible rfl
      simp only [Act.put, List.setIfInBounds_toArray, List.set_cons_zero, List.set_cons_succ]
      refine wpAnyH_take (i := 9) (oi := { dst := some 32, op := Go.Op.move (Go.Operand.tmp 31), type := 4, pos := "law.go:50", after := #[{ on := 8, ground := Go.Ground.data }, { on := 5, ground := Go.Ground.chain }], guard := none }) (v := ?_) rfl (by kernel_rfl) (by kernel_rfl) (by kernel_rfl) (fun _ _ _ h => h) (Or.inl ⟨by rfl, ?_⟩) (by assumption) ?_
      rotate_left
      · intro w hSw
        obtain ⟨q0, q1, q2, q3, q4, q5, q6, q7, q8, q9⟩ := hSw
        go_simp
        try with_reducible rfl
      simp only [Act.put, List.setIfInBounds_toArray, List.set_cons_zero, List.set_cons_succ]
      refine wpAnyH_take (i := 10) (oi := { dst := some 33, op := Go.Op.load 26 (Go.Operand.tmp 2), type := 26, pos := "law.go:50", after := #[{ on := 9, ground := Go.Ground.guard }], guard := some (9, false) }) (v := ?_) rfl (by kernel_rfl) (by kernel_rfl) (by kernel_rfl) (fun _ _ _ h => h) (Or.inl ⟨by rfl, ?_⟩) (by assumption) ?_
      rotate_left
      · intro w hSw
        obtain ⟨q0, q1, q2, q3, q4, q5, q6, q7, q8, q9⟩ := hSw
        go_simp
        try with_reducible rfl
      simp only [Act.put, List.setIfInBounds_toArray, List.set_cons_zero, List.set_cons_succ]
      refine wpAnyH_take (i := 13) (oi := { dst := some 36, op := Go.Op.load 26 (Go.Operand.tmp 2), type := 26, pos := "law.go:50", after := #[{ on := 9, ground := Go.Ground.guard }], guard := some (9, false) }) (v := ?_) rfl (by kernel_rfl) (by kernel_rfl) (by kernel_rfl) (fun _ _ _ h => h) (Or.inl ⟨by rfl, ?_⟩) (by assumption) ?_
      rotate_left
      · intro w hSw
        obtain ⟨q0, q1, q2, q3, q4, q5, q6, q7, q8, q9⟩ := hSw
        go_simp
        try with_reducible rfl
      simp only [Act.put, List.setIfInBounds_toArray, List.set_cons_zero, List.set_cons_succ]
      refine wpAnyH_ready (rs := [11]) (by kernel_rfl) (by simp) ?_
      refine AllReadyH.cons (o := { dst := some 34, op := Go.Op.call { callee := Go.Callee.value (Go.Operand.func 11), args := #[Go.Operand.tmp 33], argTypes := #[26] }, type := 29, pos := "law.go:50", after := #[{ on := 10, ground := Go.Ground.data }, { on := 9, ground := Go.Ground.chain }, { on := 9, ground := Go.Ground.guard }], guard := some (9, false) }) rfl (fun K hK => ?_) ?_
      · go_simp
        go_at_call 11
        with_reducible refine Calls.mono (HCH.out y1 (HEr.out.below HY.out)) ?_
        rintro e y2 ⟨rfl, b2⟩
        replace HY := hide (chain HY.out b2)
        clear b2
        try dsimp only
        refine hK.out _ _ (HSB.out _ HY.out) (fun hHeld2 => ?_)
        clear hK K
        try simp only [Act.put, List.setIfInBounds_toArray, List.set_cons_zero, List.set_cons_succ]
        refine wpAnyH_ready (rs := [12]) (by kernel_rfl) (by simp) ?_
        refine AllReadyH.cons (o := { dst := some 35, op := Go.Op.call { callee := Go.Callee.value (Go.Operand.func 10), args := #[Go.Operand.tmp 34], argTypes := #[29] }, type := 3, pos := "law.go:50", after := #[{ on := 11, ground := Go.Ground.data }, { on := 11, ground := Go.Ground.chain }, { on := 9, ground := Go.Ground.guard }], guard := some (9, false) }) rfl (fun K hK => ?_) ?_
        · go_simp
          go_at_call 10
          with_reducible refine Calls.mono (lcode_any (HEr.out.below HY.out) R HR20.out) ?_
          rintro e y3 ⟨rfl, b3⟩
          replace HY := hide (chain HY.out b3)
          clear b3
          try dsimp only
          refine hK.out _ _ (HSB.out _ HY.out) (fun hHeld3 => ?_)
          clear hK K
          try simp only [Act.put, List.setIfInBounds_toArray, List.set_cons_zero, List.set_cons_succ]
          refine wpAnyH_ready (rs := [14]) (by kernel_rfl) (by simp) ?_
          refine AllReadyH.cons (o := { dst := some 37, op := Go.Op.call { callee := Go.Callee.value (Go.Operand.func 12), args := #[Go.Operand.tmp 36], argTypes := #[26] }, type := 3, pos := "law.go:50", after := #[{ on := 13, ground := Go.Ground.data }, { on := 12, ground := Go.Ground.chain }, { on := 9, ground := Go.Ground.guard }], guard := some (9, false) }) rfl (fun K hK => ?_) ?_
          · go_simp
            go_at_call 12
            with_reducible refine Calls.mono (HRC.out y3) ?_
            rintro e y4 ⟨rfl, b4⟩
            replace HY := hide (chain HY.out b4)
            clear b4
            try dsimp only
            refine hK.out _ _ (HSB.out _ HY.out) (fun hHeld4 => ?_)
            clear hK K
            try simp only [Act.put, List.setIfInBounds_toArray, List.set_cons_zero, List.set_cons_succ]
            refine wpAnyH_take (i := 15) (oi := { dst := some 38, op := Go.Op.binOp Go.BinOp.neq 3 (Go.Operand.tmp 35) (Go.Operand.tmp 37) 3, type := 4, pos := "law.go:50", after := #[{ on := 12, ground := Go.Ground.data }, { on := 14, ground := Go.Ground.data }, { on := 9, ground := Go.Ground.guard }], guard := some (9, false) }) (v := ?_) rfl (by kernel_rfl) (by kernel_rfl) (by kernel_rfl) (fun _ _ _ h => h) (Or.inl ⟨by rfl, ?_⟩) (by assumption) ?_
            rotate_left
            · intro w hSw
              obtain ⟨q0, q1, q2, q3, q4, q5, q6, q7, q8, q9⟩ := hSw
              go_simp
              try with_reducible rfl
            simp only [Act.put, List.setIfInBounds_toArray, List.set_cons_zero, List.set_cons_succ]
            refine wpAnyH_take (i := 16) (oi := { dst := some 39, op := Go.Op.pick (Go.Operand.tmp 32) (Go.Operand.const (Go.Value.bool true)) (Go.Operand.tmp 38), type := 4, pos := "law.go:50", after := #[{ on := 9, ground := Go.Ground.data }, { on := 15, ground := Go.Ground.data }], guard := none }) (v := ?_) rfl (by kernel_rfl) (by kernel_rfl) (by kernel_rfl) (fun _ _ _ h => h) (Or.inl ⟨by rfl, ?_⟩) (by assumption) ?_
            rotate_left
            · intro w hSw
              obtain ⟨q0, q1, q2, q3, q4, q5, q6, q7, q8, q9⟩ := hSw
              go_simp
              try with_reducible rfl
            simp only [Act.put, List.setIfInBounds_toArray, List.set_cons_zero, List.set_cons_succ]
            refine wpAnyH_done (by kernel_rfl) ?_ _
            clear hHeld
            go_wp2
            go_meet
            case rel => exact ⟨rfl, HY.out⟩
          exact AllReadyH.nil
        exact AllReadyH.nil
      exact AllReadyH.nil
    exact AllReadyH.nil
  case rest =>
  obtain ⟨rfl, K3⟩ := hcut
  obtain ⟨wz, hwz⟩ : ∃ z, z = wc := ⟨_, rfl⟩
  subst hwz
  replace HD := hide (chain HD.out K3.out)
  replace HEr := hide (HEr.out.below K3.out)
  clear K3 HSB HCH HRC HR20 HB
  obtain ⟨XE, hXE⟩ : ∃ x, getE (bytesOf s) = x := ⟨_, rfl⟩
  obtain ⟨M, hM⟩ : ∃ x, getN (bytesOf s) = x := ⟨_, rfl⟩
  have HGT := hide (get_any s (er10_of HEr.out) HSZ.out)
  have HRG := hide (fun wx => rget_any (w := wx) s HSZ.out)
  have HXL := hide (getE_le (bytesOf s))
  rw [hXE] at HGT HRG HXL
  rw [hM] at HGT HRG
  clear hXE hM
  obtain ⟨m0, m1, m2, m3, m4, m5, m6, m7, m8, m9⟩ := M
  replace HGT : Hid (Calls Tryd.prog 13 #[.string s] wz fun e w' => e = .returned (.tuple #[.agg #[.int .i64 m0, .int .i64 m1, .int .i64 m2, .int .i64 m3, .int .i64 m4, .int .i64 m5, .int .i64 m6, .int .i64 m7, .int .u32 m8, .string m9], erv E XE]) ∧ Below wz.heap.size wz w') := HGT
  replace HRG : Hid (∀ wx, Calls Tryd.prog 14 #[.string s] wx fun e w' => e = .returned (.tuple #[.agg #[.int .i64 m0, .int .i64 m1, .int .i64 m2, .int .i64 m3, .int .i64 m4, .int .i64 m5, .int .i64 m6, .int .i64 m7, .int .u32 m8, .string m9], .int .i64 (XE : Int)]) ∧ Below wx.heap.size wx w') := HRG
  go_wp2_with fail
  refine Calls.mono HGT.out ?_
  rintro e w5 ⟨rfl, b1⟩
  replace HD := hide (chain HD.out b1)
  replace HEr := hide (HEr.out.below b1)
  clear b1 HGT
  obtain ⟨W6, hW6, B6, D6⟩ := box1 w5 [.int .i64 m0, .int .i64 m1, .int .i64 m2, .int .i64 m3, .int .i64 m4, .int .i64 m5, .int .i64 m6, .int .i64 m7, .int .u32 m8, .string m9] 26
  obtain ⟨h, hh⟩ : ∃ h, w5.heap.size = h := ⟨_, rfl⟩
  rw [hh] at B6
  have HB6 := hide B6
  have HW6 := hide hW6
  have HHH := hide hh
  replace HD := hide (chain HD.out D6)
  replace HEr := hide (HEr.out.below D6)
  clear B6 D6 hW6 hh
  go_upto_region 8 with fail
  have hW6 := HW6.out
  have hh := HHH.out
  clear HW6 HHH
  simp only [hW6, hh]
  clear hW6 hh
  go_wp2_with fail
  refine Calls.mono (HRG.out _) ?_
  rintro e w7 ⟨rfl, b1⟩
  replace HB6 := hide (HB6.out.below b1)
  replace HD := hide (chain HD.out b1)
  replace HEr := hide (HEr.out.below b1)
  clear b1 HRG
  obtain ⟨W8, hW8, B8, D8⟩ := box1 w7 [.int .i64 m0, .int .i64 m1, .int .i64 m2, .int .i64 m3, .int .i64 m4, .int .i64 m5, .int .i64 m6, .int .i64 m7, .int .u32 m8, .string m9] 26
  obtain ⟨h8, hh8⟩ : ∃ h, w7.heap.size = h := ⟨_, rfl⟩
  rw [hh8] at B8
  have HB8 := hide B8
  have HW8 := hide hW8
  have HHH8 := hide hh8
  replace HB6 := hide (HB6.out.below D8)
  replace HD := hide (chain HD.out D8)
  replace HEr := hide (HEr.out.below D8)
  clear B8 D8 hW8 hh8
  go_upto_region 9 with fail
  have hW8 := HW8.out
  have hh8 := HHH8.out
  clear HW8 HHH8
  simp only [hW8, hh8]
  clear hW8 hh8
  have c0 := HB6.out.cell 0 rfl
  have c1 := HB6.out.cell 1 rfl
  have c2 := HB6.out.cell 2 rfl
  have c3 := HB6.out.cell 3 rfl
  have c4 := HB6.out.cell 4 rfl
  have c5 := HB6.out.cell 5 rfl
  have c6 := HB6.out.cell 6 rfl
  have c7 := HB6.out.cell 7 rfl
  have c8 := HB6.out.cell 8 rfl
  have c9 := HB6.out.cell 9 rfl
  have e0 := HB8.out.cell 0 rfl
  have e1 := HB8.out.cell 1 rfl
  have e2 := HB8.out.cell 2 rfl
  have e3 := HB8.out.cell 3 rfl
  have e4 := HB8.out.cell 4 rfl
  have e5 := HB8.out.cell 5 rfl
  have e6 := HB8.out.cell 6 rfl
  have e7 := HB8.out.cell 7 rfl
  have e8 := HB8.out.cell 8 rfl
  have e9 := HB8.out.cell 9 rfl
  have HLC := hide (lcode_any HEr.out XE HXL.out)
  go_wp2_with fail
  refine Calls.mono HLC.out ?_
  rintro e w9 ⟨rfl, b1⟩
  replace HD := hide (chain HD.out b1)
  clear b1 HLC c0 c1 c2 c3 c4 c5 c6 c7 c8 c9 e0 e1 e2 e3 e4 e5 e6 e7 e8 e9
  go_wp2
  go_ret
  exact ⟨rfl, HD.out⟩
end Go.Proofs.YtdbciciljeainaaDoor.chunkNotes
