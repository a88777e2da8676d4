/-
  The document's find and Look.
-/
import Derived.Test.YtgnkmenjjmfcfaaDoorLkR
namespace Go.Proofs.YtgnkmenjjmfcfaaDoor
open Go.RowKit FerryCrc Q
set_option linter.unusedVariables false
set_option linter.unusedSimpArgs false

def fI (L : Lk) (N : Int) : Int := if fE L N = 0 then N - 1 else -1
theorem mget {w : World} {base : Nat} {va : Option Addr} {vc k : Nat} {D : List Md} {n : Nat} {f t : Int} {s : ByteArray} {sp st : Bool} (h : MOwn w base (.slice va n vc) D) (hd : D[k]? = some ⟨f, t, s, sp, st⟩) : ∃ g, va = some ⟨g, 0, none⟩ ∧ w.cell? ⟨g, k * 5, none⟩ = some (.int .i64 f) ∧ w.cell? ⟨g, k * 5 + 1, none⟩ = some (.int .i64 t) ∧ w.cell? ⟨g, k * 5 + 2, none⟩ = some (.string s) ∧ w.cell? ⟨g, k * 5 + 3, none⟩ = some (.bool sp) ∧ w.cell? ⟨g, k * 5 + 4, none⟩ = some (.bool st) := by
  have hk := (List.getElem?_eq_some_iff.1 hd).1
  have hr := own_rcs h
  obtain ⟨g, e⟩ := lown_some h (i := k) (by have := hr.size; omega)
  subst e
  obtain ⟨b, o, e, hc⟩ := hr.at m55 (by decide) hd
  simp only [Option.some.injEq, Addr.mk.injEq, and_true] at e
  obtain ⟨rfl, rfl⟩ := e
  have c0 := hc 0 _ rfl
  have c1 := hc 1 _ rfl
  have c2 := hc 2 _ rfl
  have c3 := hc 3 _ rfl
  have c4 := hc 4 _ rfl
  simp only [Nat.zero_add, Nat.add_zero] at c0 c1 c2 c3 c4
  exact ⟨g, rfl, c0, c1, c2, c3, c4⟩
set_option maxRecDepth 100000 in
set_option maxHeartbeats 2000000 in
theorem rfind_any {base rb : Nat} {va : Option Addr} {vc : Nat} {D : List Md} {L : Lk} (N : Int) (hN1 : -9223372036854775808 ≤ N) (hN2 : N ≤ 9223372036854775807) (ok : ∀ k x, L.M k = some x → 1 ≤ k ∧ k ≤ (L.n : Int)) (hS : Sm L D) (hn : L.n ≤ 4611686018427387904) {w : World} (h : RAt w base rb va vc D) :
    Calls Tryd.prog 40 #[.pointer (some ⟨rb, 0, none⟩), .int .i64 N] w fun e w' => e = .returned (.int .i64 (fI L N)) ∧ Below w.heap.size w w' := by
  have c0 := h.bk.cell 0 rfl
  have hl := hS.len
  by_cases hE : fE L N = 0
  · obtain ⟨k, rfl, hk1, f, t, s, sp, hd, -, -, -⟩ := sm_there hS ok hE
    obtain ⟨g, rfl, d0, d1, d2, d3, d4⟩ := mget h.own hd
    have HI : Hid (fI L ((k : Int) + 1) = (k : Int)) := by unfold Hid fI; rw [if_pos hE]; omega
    rw [HI.out]
    have f1 : ¬ (k : Int) + 1 < 1 := by omega
    have f2 : ¬ (D.length : Int) < (k : Int) + 1 := by omega
    have f3 : (k : Int) < (D.length : Int) := by omega
    have f4 : ¬ (k : Int) < 0 := by omega
    clear hd hE hS ok hl hk1 h
    go_enter Tryd.func40, Tryd.ntmps40
    go_wp2
    go_ret
    exact ⟨ret_int (by omega), Below.refl _ _⟩
  · obtain ⟨hc, -, -⟩ := sm_not hS hE
    have HI : Hid (fI L N = -1) := by unfold Hid fI; rw [if_neg hE]
    rw [HI.out]
    rcases hc with hc | hc | ⟨k, rfl, hk1, ⟨f, t, s, sp, st⟩, hd, hst⟩
    · clear hE hS ok hl h
      go_enter Tryd.func40, Tryd.ntmps40
      go_wp2
      go_ret
      exact ⟨rfl, Below.refl _ _⟩
    · have f1 : ¬ N < 1 := by omega
      have f2 : (D.length : Int) < N := by omega
      clear hE hS ok hl h hc
      go_enter Tryd.func40, Tryd.ntmps40
      go_wp2
      go_ret
      exact ⟨rfl, Below.refl _ _⟩
    · dsimp only at hst
      subst hst
      obtain ⟨g, rfl, d0, d1, d2, d3, d4⟩ := mget h.own hd
      have f1 : ¬ (k : Int) + 1 < 1 := by omega
      have f2 : ¬ (D.length : Int) < (k : Int) + 1 := by omega
      have f3 : (k : Int) < (D.length : Int) := by omega
      have f4 : ¬ (k : Int) < 0 := by omega
      clear hd hE hS ok hl hk1 h
      go_enter Tryd.func40, Tryd.ntmps40
      go_wp2
      go_ret
      exact ⟨rfl, Below.refl _ _⟩
set_option maxRecDepth 100000 in
set_option maxHeartbeats 2000000 in
theorem rlook_any {base rb : Nat} {va : Option Addr} {vc : Nat} {D : List Md} {L : Lk} (N : Int) (hN1 : -9223372036854775808 ≤ N) (hN2 : N ≤ 9223372036854775807) (ok : ∀ k x, L.M k = some x → 1 ≤ k ∧ k ≤ (L.n : Int)) (hS : Sm L D) (hn : L.n ≤ 4611686018427387904) {w : World} (h : RAt w base rb va vc D) :
    Calls Tryd.prog 26 #[.pointer (some ⟨rb, 0, none⟩), .int .i64 N] w fun e w' => e = .returned (.tuple #[(fv L N).a, .bool (fv L N).sp, .int .i64 (fE L N : Nat)]) ∧ Below w.heap.size w w' := by
  have HF := hide (fun (w' : World) (D1 : Below w.heap.size w w') => rfind_any N hN1 hN2 ok hS hn (h.below D1))
  obtain ⟨W, hW, B0, D0⟩ := box1 w [.int .i64 0, .int .i64 0, .string ⟨#[]⟩] 41
  obtain ⟨q, hq⟩ : ∃ q, w.heap.size = q := ⟨_, rfl⟩
  have HQ0 : Hid (w.heap.size ≤ q) := Nat.le_of_eq hq
  rw [hq] at B0
  have HB0 := hide B0
  have HD := hide D0
  have HWD := hide hW
  have HQ := hide hq
  have HH := hide h
  have hl := hS.len
  clear B0 D0 hW hq h
  by_cases hE : fE L N = 0
  · obtain ⟨k, rfl, hk1, f, t, s, sp, hd, hfv, -, -⟩ := sm_there hS ok hE
    have HI : Hid (fI L ((k : Int) + 1) = (k : Int)) := by unfold Hid fI; rw [if_pos hE]; omega
    rw [HI.out] at HF
    rw [hfv, hE]
    dsimp only [Lt.a]
    obtain ⟨g, rfl, -⟩ := mget HH.out.own hd
    have HC := hide (fun (w' : World) (D1 : Below w.heap.size w w') => mget ((HH.out.below D1).own) hd)
    have f3 : (k : Int) < (D.length : Int) := by omega
    have f4 : ¬ (k : Int) < 0 := by omega
    clear hE hfv hd hS ok hl
    go_enter Tryd.func26, Tryd.ntmps26
    go_upto_region 1 with fail
    have hW := HWD.out
    have hq := HQ.out
    clear HWD HQ
    simp only [hW, hq]
    clear hW hq
    go_wp2_with fail
    refine Calls.mono (HF.out W HD.out) ?_
    rintro e W1 ⟨rfl, b⟩
    replace HD := hide (chain HD.out b)
    replace HB0 := hide (HB0.out.below b)
    clear b HF hN1 hN2
    go_upto_region 4 with fail
    refine wp_region_held_drew (S := fun wz => Hid (Below w.heap.size w wz)) (by kernel_rfl) (hide (HD.out.drew)) (fun hHeld => ?_)
    have X0 : Hid (Below w.heap.size w W1.drew) := HD.out.drew
    replace HB0 := hide (HB0.out.below (Below.refl _ _).drew)
    obtain ⟨wd, hwd⟩ : ∃ z, z = W1.drew := ⟨_, rfl⟩
    rw [← hwd] at X0 HB0 hHeld ⊢
    clear hwd
    refine wpAnyH_take (i := 0) (oi := { dst := some 14, op := Go.Op.move (Go.Operand.tmp 0), type := 33, pos := "ref.go:53", after := #[], guard := none }) (v := ?_) rfl (by kernel_rfl) (by kernel_rfl) (by kernel_rfl) (fun _ _ _ h => h) (Or.inl ⟨by rfl, ?_⟩) (by assumption) ?_
    rotate_left
    · intro w hSw
      go_simp
      try with_reducible rfl
    try simp only [Act.put, List.setIfInBounds_toArray, List.set_cons_zero, List.set_cons_succ]
    refine wpAnyH_take (i := 1) (oi := { dst := some 15, op := Go.Op.nilCheck (Go.Operand.tmp 14), type := 0, pos := "ref.go:53", after := #[{ on := 0, ground := Go.Ground.data }], guard := none }) (v := ?_) rfl (by kernel_rfl) (by kernel_rfl) (by kernel_rfl) (fun _ _ _ h => h) (Or.inl ⟨by rfl, ?_⟩) (by assumption) ?_
    rotate_left
    · intro w hSw
      go_simp
      try with_reducible rfl
    try simp only [Act.put, List.setIfInBounds_toArray, List.set_cons_zero, List.set_cons_succ]
    refine wpAnyH_take (i := 2) (oi := { dst := some 16, op := Go.Op.fieldAddr 28 (Go.Operand.tmp 15) 0, type := 0, pos := "ref.go:53", after := #[{ on := 1, ground := Go.Ground.data }], guard := none }) (v := ?_) rfl (by kernel_rfl) (by kernel_rfl) (by kernel_rfl) (fun _ _ _ h => h) (Or.inl ⟨by rfl, ?_⟩) (by assumption) ?_
    rotate_left
    · intro w hSw
      go_simp
      try with_reducible rfl
    try simp only [Act.put, List.setIfInBounds_toArray, List.set_cons_zero, List.set_cons_succ]
    refine wpAnyH_take (i := 3) (oi := { dst := some 17, op := Go.Op.load 26 (Go.Operand.tmp 16), type := 26, pos := "ref.go:53", after := #[{ on := 2, ground := Go.Ground.data }], guard := none }) (v := ?_) rfl (by kernel_rfl) (by kernel_rfl) (by kernel_rfl) (fun _ _ _ h => h) (Or.inl ⟨by rfl, ?_⟩) (by assumption) ?_
    rotate_left
    · intro w hSw
      have r0 := (HH.out.below hSw.out).bk.cell 0 rfl
      go_simp
      try with_reducible rfl
    try simp only [Act.put, List.setIfInBounds_toArray, List.set_cons_zero, List.set_cons_succ]
    refine wpAnyH_take (i := 4) (oi := { dst := some 18, op := Go.Op.move (Go.Operand.tmp 7), type := 3, pos := "ref.go:53", after := #[], guard := none }) (v := ?_) rfl (by kernel_rfl) (by kernel_rfl) (by kernel_rfl) (fun _ _ _ h => h) (Or.inl ⟨by rfl, ?_⟩) (by assumption) ?_
    rotate_left
    · intro w hSw
      go_simp
      try with_reducible rfl
    try simp only [Act.put, List.setIfInBounds_toArray, List.set_cons_zero, List.set_cons_succ]
    refine wpAnyH_take (i := 5) (oi := { dst := some 19, op := Go.Op.indexAddr 26 (Go.Operand.tmp 17) (Go.Operand.tmp 18), type := 0, pos := "ref.go:53", after := #[{ on := 3, ground := Go.Ground.data }, { on := 4, ground := Go.Ground.data }], guard := none }) (v := ?_) rfl (by kernel_rfl) (by kernel_rfl) (by kernel_rfl) (fun _ _ _ h => h) (Or.inl ⟨by rfl, ?_⟩) (by assumption) ?_
    rotate_left
    · intro w hSw
      go_simp
      try with_reducible rfl
    try simp only [Act.put, List.setIfInBounds_toArray, List.set_cons_zero, List.set_cons_succ]
    refine wpAnyH_take (i := 6) (oi := { dst := some 20, op := Go.Op.fieldAddr 83 (Go.Operand.tmp 19) 0, type := 0, pos := "ref.go:53", after := #[{ on := 5, ground := Go.Ground.data }], guard := none }) (v := ?_) rfl (by kernel_rfl) (by kernel_rfl) (by kernel_rfl) (fun _ _ _ h => h) (Or.inl ⟨by rfl, ?_⟩) (by assumption) ?_
    rotate_left
    · intro w hSw
      go_simp
      try with_reducible rfl
    try simp only [Act.put, List.setIfInBounds_toArray, List.set_cons_zero, List.set_cons_succ]
    refine wpAnyH_take (i := 7) (oi := { dst := some 21, op := Go.Op.load 41 (Go.Operand.tmp 20), type := 41, pos := "ref.go:53", after := #[{ on := 6, ground := Go.Ground.data }], guard := none }) (v := ?_) rfl (by kernel_rfl) (by kernel_rfl) (by kernel_rfl) (fun _ _ _ h => h) (Or.inl ⟨by rfl, ?_⟩) (by assumption) ?_
    rotate_left
    · intro w hSw
      obtain ⟨g1, e1, d0, d1, d2, d3, d4⟩ := HC.out _ hSw.out
      simp only [Option.some.injEq, Addr.mk.injEq, and_true] at e1
      subst e1
      go_simp
      try with_reducible rfl
    try simp only [Act.put, List.setIfInBounds_toArray, List.set_cons_zero, List.set_cons_succ]
    refine wpAnyH_take (i := 8) (oi := { dst := some 22, op := Go.Op.move (Go.Operand.tmp 0), type := 33, pos := "ref.go:53", after := #[{ on := 16, ground := Go.Ground.gcOnly Go.Departure.lateStores }], guard := none }) (v := ?_) rfl (by kernel_rfl) (by kernel_rfl) (by kernel_rfl) (fun _ _ _ h => h) (Or.inl ⟨by rfl, ?_⟩) (by assumption) ?_
    rotate_left
    · intro w hSw
      go_simp
      try with_reducible rfl
    try simp only [Act.put, List.setIfInBounds_toArray, List.set_cons_zero, List.set_cons_succ]
    refine wpAnyH_take (i := 9) (oi := { dst := some 23, op := Go.Op.nilCheck (Go.Operand.tmp 22), type := 0, pos := "ref.go:53", after := #[{ on := 8, ground := Go.Ground.data }, { on := 16, ground := Go.Ground.gcOnly Go.Departure.lateStores }], guard := none }) (v := ?_) rfl (by kernel_rfl) (by kernel_rfl) (by kernel_rfl) (fun _ _ _ h => h) (Or.inl ⟨by rfl, ?_⟩) (by assumption) ?_
    rotate_left
    · intro w hSw
      go_simp
      try with_reducible rfl
    try simp only [Act.put, List.setIfInBounds_toArray, List.set_cons_zero, List.set_cons_succ]
    refine wpAnyH_take (i := 10) (oi := { dst := some 24, op := Go.Op.fieldAddr 28 (Go.Operand.tmp 23) 0, type := 0, pos := "ref.go:53", after := #[{ on := 9, ground := Go.Ground.data }, { on := 16, ground := Go.Ground.gcOnly Go.Departure.lateStores }], guard := none }) (v := ?_) rfl (by kernel_rfl) (by kernel_rfl) (by kernel_rfl) (fun _ _ _ h => h) (Or.inl ⟨by rfl, ?_⟩) (by assumption) ?_
    rotate_left
    · intro w hSw
      go_simp
      try with_reducible rfl
    try simp only [Act.put, List.setIfInBounds_toArray, List.set_cons_zero, List.set_cons_succ]
    refine wpAnyH_take (i := 11) (oi := { dst := some 25, op := Go.Op.load 26 (Go.Operand.tmp 24), type := 26, pos := "ref.go:53", after := #[{ on := 10, ground := Go.Ground.data }, { on := 16, ground := Go.Ground.gcOnly Go.Departure.lateStores }], guard := none }) (v := ?_) rfl (by kernel_rfl) (by kernel_rfl) (by kernel_rfl) (fun _ _ _ h => h) (Or.inl ⟨by rfl, ?_⟩) (by assumption) ?_
    rotate_left
    · intro w hSw
      have r0 := (HH.out.below hSw.out).bk.cell 0 rfl
      go_simp
      try with_reducible rfl
    try simp only [Act.put, List.setIfInBounds_toArray, List.set_cons_zero, List.set_cons_succ]
    refine wpAnyH_take (i := 12) (oi := { dst := some 26, op := Go.Op.move (Go.Operand.tmp 7), type := 3, pos := "ref.go:53", after := #[{ on := 16, ground := Go.Ground.gcOnly Go.Departure.lateStores }], guard := none }) (v := ?_) rfl (by kernel_rfl) (by kernel_rfl) (by kernel_rfl) (fun _ _ _ h => h) (Or.inl ⟨by rfl, ?_⟩) (by assumption) ?_
    rotate_left
    · intro w hSw
      go_simp
      try with_reducible rfl
    try simp only [Act.put, List.setIfInBounds_toArray, List.set_cons_zero, List.set_cons_succ]
    refine wpAnyH_take (i := 13) (oi := { dst := some 27, op := Go.Op.indexAddr 26 (Go.Operand.tmp 25) (Go.Operand.tmp 26), type := 0, pos := "ref.go:53", after := #[{ on := 11, ground := Go.Ground.data }, { on := 12, ground := Go.Ground.data }, { on := 16, ground := Go.Ground.gcOnly Go.Departure.lateStores }], guard := none }) (v := ?_) rfl (by kernel_rfl) (by kernel_rfl) (by kernel_rfl) (fun _ _ _ h => h) (Or.inl ⟨by rfl, ?_⟩) (by assumption) ?_
    rotate_left
    · intro w hSw
      go_simp
      try with_reducible rfl
    try simp only [Act.put, List.setIfInBounds_toArray, List.set_cons_zero, List.set_cons_succ]
    refine wpAnyH_take (i := 14) (oi := { dst := some 28, op := Go.Op.fieldAddr 83 (Go.Operand.tmp 27) 1, type := 0, pos := "ref.go:53", after := #[{ on := 13, ground := Go.Ground.data }, { on := 16, ground := Go.Ground.gcOnly Go.Departure.lateStores }], guard := none }) (v := ?_) rfl (by kernel_rfl) (by kernel_rfl) (by kernel_rfl) (fun _ _ _ h => h) (Or.inl ⟨by rfl, ?_⟩) (by assumption) ?_
    rotate_left
    · intro w hSw
      go_simp
      try with_reducible rfl
    try simp only [Act.put, List.setIfInBounds_toArray, List.set_cons_zero, List.set_cons_succ]
    refine wpAnyH_take (i := 15) (oi := { dst := some 29, op := Go.Op.load 4 (Go.Operand.tmp 28), type := 4, pos := "ref.go:53", after := #[{ on := 14, ground := Go.Ground.data }, { on := 16, ground := Go.Ground.gcOnly Go.Departure.lateStores }], guard := none }) (v := ?_) rfl (by kernel_rfl) (by kernel_rfl) (by kernel_rfl) (fun _ _ _ h => h) (Or.inl ⟨by rfl, ?_⟩) (by assumption) ?_
    rotate_left
    · intro w hSw
      obtain ⟨g1, e1, d0, d1, d2, d3, d4⟩ := HC.out _ hSw.out
      simp only [Option.some.injEq, Addr.mk.injEq, and_true] at e1
      subst e1
      go_simp
      try with_reducible rfl
    try simp only [Act.put, List.setIfInBounds_toArray, List.set_cons_zero, List.set_cons_succ]
    refine wpAnyH_ready (rs := [16]) (by kernel_rfl) (by simp) ?_
    refine AllReadyH.cons (o := { dst := none, op := Go.Op.store 41 (Go.Operand.tmp 4) (Go.Operand.tmp 21), type := 0, pos := "ref.go:53", after := #[{ on := 7, ground := Go.Ground.data }, { on := 0, ground := Go.Ground.phase }, { on := 1, ground := Go.Ground.phase }, { on := 2, ground := Go.Ground.phase }, { on := 3, ground := Go.Ground.phase }, { on := 4, ground := Go.Ground.phase }, { on := 5, ground := Go.Ground.phase }, { on := 6, ground := Go.Ground.phase }, { on := 7, ground := Go.Ground.phase }, { on := 8, ground := Go.Ground.textOnly Go.Departure.lateStores }, { on := 9, ground := Go.Ground.textOnly Go.Departure.lateStores }, { on := 10, ground := Go.Ground.textOnly Go.Departure.lateStores }, { on := 11, ground := Go.Ground.textOnly Go.Departure.lateStores }, { on := 12, ground := Go.Ground.textOnly Go.Departure.lateStores }, { on := 13, ground := Go.Ground.textOnly Go.Departure.lateStores }, { on := 14, ground := Go.Ground.textOnly Go.Departure.lateStores }, { on := 15, ground := Go.Ground.textOnly Go.Departure.lateStores }], guard := none }) rfl (fun K hK => ?_) AllReadyH.nil
    have n0 := HB0.out.cell 0 rfl
    have n1 := HB0.out.cell 1 rfl
    have n2 := HB0.out.cell 2 rfl
    have p0 := HB0.out.frozen 0
    have p1 := HB0.out.frozen 1
    have p2 := HB0.out.frozen 2
    obtain ⟨W2, hW2, Y1, Y2⟩ := put3 HB0.out rfl f t s
    go_simp
    try simp only [hW2]
    have XN := hide (Y2 _ _ HQ0.out X0.out)
    refine hK.out _ _ XN (fun hHeld2 => ?_)
    clear hK K
    try simp only [Act.put, List.setIfInBounds_toArray, List.set_cons_zero, List.set_cons_succ]
    refine wpAnyH_take (i := 17) (oi := { dst := some 5, op := Go.Op.assign (Go.Operand.tmp 29), type := 4, pos := "ref.go:53", after := #[{ on := 15, ground := Go.Ground.data }, { on := 16, ground := Go.Ground.chain }, { on := 0, ground := Go.Ground.phase }, { on := 1, ground := Go.Ground.phase }, { on := 2, ground := Go.Ground.phase }, { on := 3, ground := Go.Ground.phase }, { on := 4, ground := Go.Ground.phase }, { on := 5, ground := Go.Ground.phase }, { on := 6, ground := Go.Ground.phase }, { on := 7, ground := Go.Ground.phase }, { on := 8, ground := Go.Ground.phase }, { on := 9, ground := Go.Ground.phase }, { on := 10, ground := Go.Ground.phase }, { on := 11, ground := Go.Ground.phase }, { on := 12, ground := Go.Ground.phase }, { on := 13, ground := Go.Ground.phase }, { on := 14, ground := Go.Ground.phase }, { on := 15, ground := Go.Ground.phase }, { on := 16, ground := Go.Ground.phase }], guard := none }) (v := ?_) rfl (by kernel_rfl) (by kernel_rfl) (by kernel_rfl) (fun _ _ _ h => h) (Or.inl ⟨by rfl, ?_⟩) (by assumption) ?_
    rotate_left
    · intro w hSw
      go_simp
      try with_reducible rfl
    try simp only [Act.put, List.setIfInBounds_toArray, List.set_cons_zero, List.set_cons_succ]
    refine wpAnyH_take (i := 18) (oi := { dst := some 6, op := Go.Op.assign (Go.Operand.const (Go.Value.int Go.IntKind.i64 0)), type := 3, pos := "ref.go:53", after := #[{ on := 17, ground := Go.Ground.chain }, { on := 0, ground := Go.Ground.phase }, { on := 1, ground := Go.Ground.phase }, { on := 2, ground := Go.Ground.phase }, { on := 3, ground := Go.Ground.phase }, { on := 4, ground := Go.Ground.phase }, { on := 5, ground := Go.Ground.phase }, { on := 6, ground := Go.Ground.phase }, { on := 7, ground := Go.Ground.phase }, { on := 8, ground := Go.Ground.phase }, { on := 9, ground := Go.Ground.phase }, { on := 10, ground := Go.Ground.phase }, { on := 11, ground := Go.Ground.phase }, { on := 12, ground := Go.Ground.phase }, { on := 13, ground := Go.Ground.phase }, { on := 14, ground := Go.Ground.phase }, { on := 15, ground := Go.Ground.phase }, { on := 16, ground := Go.Ground.phase }, { on := 17, ground := Go.Ground.phase }], guard := none }) (v := ?_) rfl (by kernel_rfl) (by kernel_rfl) (by kernel_rfl) (fun _ _ _ h => h) (Or.inl ⟨by rfl, ?_⟩) (by assumption) ?_
    rotate_left
    · intro w hSw
      go_simp
      try with_reducible rfl
    try simp only [Act.put, List.setIfInBounds_toArray, List.set_cons_zero, List.set_cons_succ]
    refine wpAnyH_done (by kernel_rfl) ?_ _
    have e0 := Y1.cell 0 rfl
    have e1 := Y1.cell 1 rfl
    have e2 := Y1.cell 2 rfl
    clear n0 n1 n2 p0 p1 p2
    go_wp2
    refine bodyPost_ret (v := .tuple #[.agg #[.int .i64 f, .int .i64 t, .string s], .bool sp, .int .i64 0]) (by simp [results, Tryd.results26, go_sem, e0, e1, e2]) rfl ?_
    exact ⟨rfl, XN.out⟩
  · obtain ⟨-, h17, hz⟩ := sm_not hS hE
    have HI : Hid (fI L N = -1) := by unfold Hid fI; rw [if_neg hE]
    rw [HI.out] at HF
    rw [hz, h17]
    dsimp only [Lt.a, zLt]
    clear hE hz h17 hS ok hl
    go_enter Tryd.func26, Tryd.ntmps26
    go_upto_region 1 with fail
    have hW := HWD.out
    have hq := HQ.out
    clear HWD HQ
    simp only [hW, hq]
    clear hW hq
    go_wp2_with fail
    refine Calls.mono (HF.out W HD.out) ?_
    rintro e W1 ⟨rfl, b⟩
    replace HD := hide (chain HD.out b)
    replace HB0 := hide (HB0.out.below b)
    clear b HF hN1 hN2
    have n0 := HB0.out.cell 0 rfl
    have n1 := HB0.out.cell 1 rfl
    have n2 := HB0.out.cell 2 rfl
    have p0 := HB0.out.frozen 0
    have p1 := HB0.out.frozen 1
    have p2 := HB0.out.frozen 2
    obtain ⟨W2, hW2, Y1, Y2⟩ := put3 HB0.out rfl 0 0 ⟨#[]⟩
    have XN := hide (Y2 _ _ HQ0.out HD.out)
    have e0 := Y1.cell 0 rfl
    have e1 := Y1.cell 1 rfl
    have e2 := Y1.cell 2 rfl
    go_wp2
    try simp only [hW2]
    refine bodyPost_ret (v := .tuple #[.agg #[.int .i64 0, .int .i64 0, .string ⟨#[]⟩], .bool false, .int .i64 17]) (by simp [results, Tryd.results26, go_sem, e0, e1, e2]) rfl ?_
    exact ⟨rfl, XN.out⟩
end Go.Proofs.YtgnkmenjjmfcfaaDoor
