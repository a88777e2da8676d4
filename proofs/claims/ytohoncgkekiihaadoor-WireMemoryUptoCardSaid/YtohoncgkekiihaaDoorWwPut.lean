/-
  The writer of package wire: puts that are refused, puts into a writer that is spoilt, texts and flags.
-/
import Derived.Test.YtohoncgkekiihaaDoorWFixed
import Derived.Test.YtohoncgkekiihaaDoorWOpen0
namespace Go.Proofs.YtohoncgkekiihaaDoor
open Go.RowKit FerryCrc
set_option linter.unusedVariables false
set_option linter.unusedSimpArgs false

/-- What a put leaves: the writer's bytes, and what spoils it. -/
def PPut (w : World) (b : Nat) (v : Value) (sp : Value) (L : List Nat) (e : Ending) (w' : World) : Prop :=
  e = .returned (.tuple #[]) ∧ ∃ v', Wr w' b v' sp L ∧ Frm (WS b v) w w' ∧ NewB w v v'
theorem pput_same {w w' : World} {b : Nat} {v sp : Value} {L : List Nat} {e : Ending} (h : Wr w b v sp L) (he : e = .returned (.tuple #[])) (hb : Below w.heap.size w w') : PPut w b v sp L e w' :=
  ⟨he, v, h.below hb, Frm.ofBelow hb, NewB.refl _ _⟩
/-- The writer is spoilt. -/
theorem Wr.spoil {w : World} {b : Nat} {v sp : Value} {L : List Nat} (h : Wr w b v sp L) (s : Value) : Wr (w.setCell ⟨b, 1, none⟩ s) b v s L ∧ Frm (WS b v) w (w.setCell ⟨b, 1, none⟩ s) := by
  refine ⟨⟨⟨by rw [World.cell?_setCell_other _ _ _ _ (by simp)]; exact h.two.c0, World.cell?_setCell_same _ _ _ h.two.c1, by rw [World.frozen?_setCell]; exact h.two.f0, by rw [World.frozen?_setCell]; exact h.two.f1⟩, ownsRow_setCell_below h.own (by show b < b + 1; omega) _, h.small⟩, (frm_setCell w ⟨b, 1, none⟩ s).mono (fun j _ t => .inl t)⟩

/-- Where an append of a string's bytes to a slice of one's own lies. -/
theorem str_lies (w : World) (base : Nat) (ty : TypeId) (v : Value) (L : List Nat) (hown : Own w base v L) (s : ByteArray) (hb : L.length + s.size ≤ 140737488355328) (v' : Value) (w' : World)
    (hr : (Builtin.append_ #[23, 9] ty #[v, .string s]).run Tryd.prog w = .ok v' w') : NewB w v v' := by
  obtain ⟨i, hi, hz, hsize, hby⟩ := info_parts info8
  have ht := Tryd.underlying23
  have hu := Tryd.underlying9
  rcases hown.2 with ⟨rfl, hn⟩ | ⟨g, cap, cur, rfl, hbg, hg, hnc, hcm, hcs, htake⟩
  · by_cases hm : s.size = 0
    · have hf := Lib.run_firstCells_string (P := Tryd.prog) w 1 s
      rw [hm] at hf
      have h2 : (Builtin.append_ #[23, 9] ty #[.slice none 0 0, .string s]).run Tryd.prog w = .ok (.slice none 0 0) w := by
        simp [Builtin.append_, run_underlying ht, run_underlying hu, sizeOf, typeInfo, hi, hsize, Builtin.lenOf, hm, hf]
      rw [h2] at hr
      cases hr
      exact NewB.refl _ _
    · have h2 := run_append_nil_string (P := Tryd.prog) w 23 9 ty 5 i (.int .u8 0) ht hu hi hz s (by omega) (by omega) (by rw [hby]; omega)
      rw [h2] at hr
      cases hr
      intro k hk
      simp only [Value.ownBlock, Option.some.injEq] at hk
      exact .inr (by omega)
  · by_cases hroom : L.length + s.size ≤ cap
    · have hcs' : cur.size = cap := by simpa using hcs
      have h2 := Lib.run_append_room_string (P := Tryd.prog) w 23 9 ty 5 i ht hu hi hsize g L.length cap cur hg s hroom (by omega)
      rw [h2] at hr
      cases hr
      exact fun k hk => .inl hk
    · have holds : ∀ j u, (L.map bv)[j]? = some u → w.cell? ((⟨g, 0, none⟩ : Addr).add j) = some u := World.ownsRow.cells hown (g := g) rfl
      have h2 := Lib.run_append_grow_string (P := Tryd.prog) w 23 9 ty 5 i (.int .u8 0) ht hu hi hz ⟨g, 0, none⟩ L.length cap (L.map bv) (by rw [hsize]; simp) holds s (by omega) (by omega) (by rw [hby]; exact growslice_fits (by omega) (by omega))
      rw [h2] at hr
      cases hr
      intro k hk
      simp only [Value.ownBlock, Option.some.injEq] at hk
      exact .inr (by omega)
/-- append of a string's bytes to a slice of one's own, and where it lies. -/
theorem append_str2 {w : World} {ops : Array Oper} {rest : List Oper} {o : Oper} {act : Act} {Q : Exit → Act → World → Prop} (hgd : o.guard = none) (sl x : Operand)
    (ho : o.op = .call { callee := .builtin .append, args := #[sl, x], argTypes := #[23, 9] })
    (base : Nat) (v : Value) (xs : List Nat) (hs : act.eval sl = v) (hown : Own w base v xs) (s : ByteArray) (hx : act.eval x = .string s)
    (h63 : xs.length + s.size ≤ 140737488355328) (hbase : base ≤ w.heap.size)
    (h : ∀ v' w', Own w' base v' (xs ++ bytesOf s) → Frm (fun k => v.ownBlock = some k) w w' → NewB w v v' → wpList Tryd.prog ops Q rest (act.put o.dst v') w') : wpList Tryd.prog ops Q (o :: rest) act w := by
  obtain ⟨i0, hi, hz0, hz1, hz2⟩ := info_parts info8
  refine wpList_plain hgd fun K hK => ?_
  obtain ⟨v', w', hr, h2, h3, h4⟩ := Lib.run_append_own_string (P := Tryd.prog) w base 23 9 o.type 5 i0 Tryd.underlying23 Tryd.underlying9 hi hz0 hz1 hz2 v xs.length (xs.map bv) hown s (by unfold maxLen; omega) h63 hbase
  have hn := str_lies w base o.type v xs hown s h63 v' w' hr
  unfold Oper.wp execOp
  simp only [ho, resolve, invoke, builtin, Sem.run_bind, Sem.run_pure, Result.andThen_ok, List.map_toArray, List.map_cons, List.map_nil, hs, hx, hr]
  refine hK _ _ (h v' w' ?_ (frm_grown h3) hn)
  unfold Own
  rw [List.length_append, List.map_append, bytesOf_len, ← strCells_eq]
  exact h2

set_option maxRecDepth 100000 in
theorem wnum_sp (b : Nat) (v : Value) (x : Addr) (L : List Nat) (n wd : Int) (w : World) (hw : Wr w b v (sent x) L) :
    Calls Tryd.prog 75 #[.pointer (some ⟨b, 0, none⟩), .int .i64 n, .int .i64 wd] w fun e w' => e = .returned (.tuple #[]) ∧ w = w' := by
  have h1 := hw.two.c1
  unfold sent at h1
  clear hw
  go_enter Tryd.func75, Tryd.ntmps75
  go_wp2
  (try simp only [Exit.inBlock, Exit.then])
  refine bodyPost_ret (v := .tuple #[]) (results_none rfl _ _ _) rfl ?_
  exact ⟨rfl, rfl⟩

set_option maxRecDepth 100000 in
theorem raw_sp (b : Nat) (v : Value) (x : Addr) (L : List Nat) (a : Option Addr) (m c : Nat) (w : World) (hw : Wr w b v (sent x) L) :
    Calls Tryd.prog 66 #[.pointer (some ⟨b, 0, none⟩), .slice a m c] w fun e w' => e = .returned (.tuple #[]) ∧ w = w' := by
  have h1 := hw.two.c1
  unfold sent at h1
  clear hw
  go_enter Tryd.func66, Tryd.ntmps66
  go_wp2
  go_end0
  exact ⟨rfl, rfl⟩

set_option maxRecDepth 100000 in
theorem fits_sp (b : Nat) (v : Value) (x : Addr) (L : List Nat) (n : Int) (w : World) (hw : Wr w b v (sent x) L) :
    Calls Tryd.prog 76 #[.pointer (some ⟨b, 0, none⟩), .int .i64 n] w fun e w' => e = .returned (.bool false) ∧ w = w' := by
  have h1 := hw.two.c1
  unfold sent at h1
  clear hw
  go_enter Tryd.func76, Tryd.ntmps76
  go_wp2
  go_ret
  exact ⟨rfl, rfl⟩

set_option maxRecDepth 100000 in
theorem fits_long (b : Nat) (v : Value) (E : Nat → Addr) (L : List Nat) (n : Int) (w : World) (hw : Wr w b v .nilIface L) (he : w.cell? ⟨5, 0, none⟩ = some (sent (E 5))) (hn : 65535 < n) :
    Calls Tryd.prog 76 #[.pointer (some ⟨b, 0, none⟩), .int .i64 n] w fun e w' => e = .returned (.bool false) ∧ w' = w.setCell ⟨b, 1, none⟩ (sent (E 5)) := by
  have h1 := hw.two.c1
  have f1 := hw.two.f1
  have HW := hide hw
  unfold sent at he ⊢
  clear hw
  have hk : (w.setCell ⟨b, 1, none⟩ (.iface 172 (.pointer (some (E 5))))).cell? ⟨b, 1, none⟩ = some (.iface 172 (.pointer (some (E 5)))) := World.cell?_setCell_same _ _ _ h1
  go_enter Tryd.func76, Tryd.ntmps76
  go_wp2
  go_ret
  exact ⟨rfl, rfl⟩

set_option maxRecDepth 100000 in
theorem wnum_bad (b : Nat) (v : Value) (E : Nat → Addr) (L : List Nat) (n : Int) (wd : Nat) (w : World) (hw : Wr w b v .nilIface L) (he : w.cell? ⟨4, 0, none⟩ = some (sent (E 4))) (hwd : wd ≤ 4) (hn : n < 0 ∨ (256 : Int) ^ wd ≤ n) :
    Calls Tryd.prog 75 #[.pointer (some ⟨b, 0, none⟩), .int .i64 n, .int .i64 (wd : Int)] w fun e w' => e = .returned (.tuple #[]) ∧ w' = w.setCell ⟨b, 1, none⟩ (sent (E 4)) := by
  have h1 := hw.two.c1
  have f1 := hw.two.f1
  unfold sent at he ⊢
  clear hw
  have hw8 : IntKind.i64.wrap (8 * (wd : Int)) = ((8 * wd : Nat) : Int) := by rw [IntKind.wrap_i64]; omega
  by_cases h0 : n < 0
  · go_enter Tryd.func75, Tryd.ntmps75
    go_wp2
    (try simp only [Exit.inBlock, Exit.then])
    refine bodyPost_ret (v := .tuple #[]) (results_none rfl _ _ _) rfl ?_
    exact ⟨rfl, rfl⟩
  · have hz : ((n / 2 ^ (8 * wd)) != 0) = true := by
      obtain ⟨m, rfl⟩ : ∃ m : Nat, n = (m : Int) := ⟨n.toNat, by omega⟩
      have hm : 256 ^ wd ≤ m := by
        rcases hn with hn | hn
        · omega
        · exact_mod_cast hn
      have hp : 0 < m / 256 ^ wd := Nat.div_pos hm (Nat.pow_pos (by decide))
      have : ((m : Int) / 2 ^ (8 * wd)) = ((m / 256 ^ wd : Nat) : Int) := by rw [← pow256]; simp
      rw [this]
      generalize m / 256 ^ wd = y at hp
      simp
      omega
    have HZ := hide hz
    obtain ⟨y, hy⟩ : ∃ y, n / 2 ^ (8 * wd) = y := ⟨_, rfl⟩
    rw [hy] at hz
    clear hn
    go_enter Tryd.func75, Tryd.ntmps75
    go_wp2
    (try simp only [Exit.inBlock, Exit.then])
    refine bodyPost_ret (v := .tuple #[]) (results_none rfl _ _ _) rfl ?_
    exact ⟨rfl, rfl⟩

/-- What spoils a writer: the error of number k, or nothing. -/
def spv (E : Nat → Addr) (k : Nat) : Value := if k = 0 then .nilIface else sent (E k)
/-- What a put comes to: an error's number, or bytes. -/
def nput (n : Int) (wd : Nat) : Nat × List Nat := if n < 0 ∨ (256 : Int) ^ wd ≤ n then (4, []) else (0, be n.toNat wd)
def tput (s : List Nat) : Nat × List Nat := if 65535 < s.length then (5, []) else (0, be s.length 2 ++ s)
def rput (t : Int) (l : List Nat) : Nat × List Nat := if t < 1 ∨ 255 < t then (3, []) else if 65535 < l.length then (5, []) else (0, encR t.toNat l)
/-- Behind it: the writer's error and bytes. -/
def aft (k : Nat) (L : List Nat) (o : Nat × List Nat) : Nat × List Nat := if k = 0 then (o.1, L ++ o.2) else (k, L)

theorem wnum_all (b : Nat) (v : Value) (E : Nat → Addr) (k : Nat) (L : List Nat) (n : Int) (wd : Nat) (w : World) (hw : Wr w b v (spv E k) L) (he : Errs w E) (hwd : wd ≤ 4) (hl : L.length + 4 ≤ 140737488355328) :
    Calls Tryd.prog 75 #[.pointer (some ⟨b, 0, none⟩), .int .i64 n, .int .i64 (wd : Int)] w fun e w' => PPut w b v (spv E (aft k L (nput n wd)).1) (aft k L (nput n wd)).2 e w' := by
  unfold aft
  by_cases hk : k = 0
  · subst hk
    rw [if_pos rfl]
    have hw0 : Wr w b v .nilIface L := hw
    by_cases hn : n < 0 ∨ (256 : Int) ^ wd ≤ n
    · unfold nput
      rw [if_pos hn]
      refine Calls.mono (wnum_bad b v E L n wd w hw0 he.v4 hwd hn) ?_
      rintro e w' ⟨h1, rfl⟩
      refine ⟨h1, v, ?_, (hw0.spoil _).2, NewB.refl _ _⟩
      show Wr _ b v (sent (E 4)) (L ++ [])
      rw [List.append_nil]
      exact (hw0.spoil _).1
    · unfold nput
      rw [if_neg hn]
      obtain ⟨m, rfl⟩ : ∃ m : Nat, n = (m : Int) := ⟨n.toNat, by omega⟩
      have hm : m < 256 ^ wd := by
        have h2 : ¬ (256 : Int) ^ wd ≤ (m : Int) := fun h => hn (.inr h)
        have h3 : ((256 ^ wd : Nat) : Int) = (256 : Int) ^ wd := by simp
        omega
      exact Calls.mono (wnumber_any b v L m wd w hw0 hwd hm (by omega)) (fun e w' h => h)
  · rw [if_neg hk]
    have hw0 : Wr w b v (sent (E k)) L := by unfold spv at hw; rw [if_neg hk] at hw; exact hw
    refine Calls.mono (wnum_sp b v (E k) L n wd w hw0) ?_
    rintro e w' ⟨h1, rfl⟩
    exact pput_same hw h1 (Below.refl _ _)

set_option maxRecDepth 100000 in
theorem wU8_all (b : Nat) (v : Value) (E : Nat → Addr) (k : Nat) (L : List Nat) (n : Int) (w : World) (hw : Wr w b v (spv E k) L) (he : Errs w E) (hl : L.length + 4 ≤ 140737488355328) :
    Calls Tryd.prog 62 #[.pointer (some ⟨b, 0, none⟩), .int .i64 n] w fun e w' => PPut w b v (spv E (aft k L (nput n 1)).1) (aft k L (nput n 1)).2 e w' := by
  have HC := hide (wnum_all b v E k L n 1 w hw he (by decide) hl)
  clear hw he
  go_enter Tryd.func62, Tryd.ntmps62
  go_wp2_with fail
  refine Calls.mono HC.out ?_
  rintro e w1 ⟨rfl, h⟩
  have H := hide h
  clear h
  go_wp2
  go_end0
  exact ⟨rfl, H.out⟩
set_option maxRecDepth 100000 in
theorem wU16_all (b : Nat) (v : Value) (E : Nat → Addr) (k : Nat) (L : List Nat) (n : Int) (w : World) (hw : Wr w b v (spv E k) L) (he : Errs w E) (hl : L.length + 4 ≤ 140737488355328) :
    Calls Tryd.prog 37 #[.pointer (some ⟨b, 0, none⟩), .int .i64 n] w fun e w' => PPut w b v (spv E (aft k L (nput n 2)).1) (aft k L (nput n 2)).2 e w' := by
  have HC := hide (wnum_all b v E k L n 2 w hw he (by decide) hl)
  clear hw he
  go_enter Tryd.func37, Tryd.ntmps37
  go_wp2_with fail
  refine Calls.mono HC.out ?_
  rintro e w1 ⟨rfl, h⟩
  have H := hide h
  clear h
  go_wp2
  go_end0
  exact ⟨rfl, H.out⟩
set_option maxRecDepth 100000 in
theorem wU32_all (b : Nat) (v : Value) (E : Nat → Addr) (k : Nat) (L : List Nat) (n : Int) (w : World) (hw : Wr w b v (spv E k) L) (he : Errs w E) (hl : L.length + 4 ≤ 140737488355328) :
    Calls Tryd.prog 64 #[.pointer (some ⟨b, 0, none⟩), .int .i64 n] w fun e w' => PPut w b v (spv E (aft k L (nput n 4)).1) (aft k L (nput n 4)).2 e w' := by
  have HC := hide (wnum_all b v E k L n 4 w hw he (by decide) hl)
  clear hw he
  go_enter Tryd.func64, Tryd.ntmps64
  go_wp2_with fail
  refine Calls.mono HC.out ?_
  rintro e w1 ⟨rfl, h⟩
  have H := hide h
  clear h
  go_wp2
  go_end0
  exact ⟨rfl, H.out⟩
set_option maxRecDepth 100000 in
theorem wFlag_all (b : Nat) (v : Value) (E : Nat → Addr) (k : Nat) (L : List Nat) (f : Bool) (w : World) (hw : Wr w b v (spv E k) L) (he : Errs w E) (hl : L.length + 4 ≤ 140737488355328) :
    Calls Tryd.prog 65 #[.pointer (some ⟨b, 0, none⟩), .bool f] w fun e w' => PPut w b v (spv E (aft k L (nput (if f then 1 else 0) 1)).1) (aft k L (nput (if f then 1 else 0) 1)).2 e w' := by
  have HC := hide (wU8_all b v E k L (if f then 1 else 0) w hw he hl)
  clear hw he
  cases f
  all_goals
    go_enter Tryd.func65, Tryd.ntmps65
    go_wp2_with fail
    refine Calls.mono HC.out ?_
    rintro e w1 ⟨rfl, h⟩
    have H := hide h
    clear h
    go_wp2
    go_end0
    exact ⟨rfl, H.out⟩

theorem wRaw_all (b : Nat) (v : Value) (E : Nat → Addr) (k : Nat) (L : List Nat) (a : Option Addr) (m c : Nat) (l : List Nat) (w : World) (hw : Wr w b v (spv E k) L) (hx : Bts w a m c l) (hl : L.length + m ≤ 140737488355328) :
    Calls Tryd.prog 66 #[.pointer (some ⟨b, 0, none⟩), .slice a m c] w fun e w' => PPut w b v (spv E (aft k L (0, l)).1) (aft k L (0, l)).2 e w' := by
  unfold aft
  by_cases hk : k = 0
  · subst hk
    rw [if_pos rfl]
    exact Calls.mono (raw_any b v L a m c l w hw hx hl) (fun e w' h => h)
  · rw [if_neg hk]
    have hw0 : Wr w b v (sent (E k)) L := by unfold spv at hw; rw [if_neg hk] at hw; exact hw
    refine Calls.mono (raw_sp b v (E k) L a m c w hw0) ?_
    rintro e w' ⟨h1, rfl⟩
    exact pput_same hw h1 (Below.refl _ _)

set_option maxRecDepth 100000 in
set_option maxHeartbeats 400000 in
theorem wText_all (b : Nat) (v : Value) (E : Nat → Addr) (k : Nat) (L : List Nat) (S : ByteArray) (w : World) (hw : Wr w b v (spv E k) L) (he : Errs w E) (hl : L.length + 4 + S.size ≤ 140737488355328) :
    Calls Tryd.prog 68 #[.pointer (some ⟨b, 0, none⟩), .string S] w fun e w' => PPut w b v (spv E (aft k L (tput (bytesOf S))).1) (aft k L (tput (bytesOf S))).2 e w' := by
  unfold aft
  have hsz := bytesOf_len S
  by_cases hk : k = 0
  · subst hk
    rw [if_pos rfl]
    have hw0 : Wr w b v .nilIface L := hw
    by_cases hn : 65535 < S.size
    · unfold tput
      rw [if_pos (by rw [hsz]; exact hn)]
      have HC := hide (fits_long b v E L (S.size : Int) w hw0 he.v5 (by omega))
      have HS := hide (hw0.spoil (sent (E 5)))
      clear hw hw0 he
      go_enter Tryd.func68, Tryd.ntmps68
      go_wp2_with fail
      refine Calls.mono HC.out ?_
      rintro e w1 ⟨rfl, rfl⟩
      go_wp2
      (try simp only [Exit.inBlock, Exit.then])
      refine bodyPost_ret (v := .tuple #[]) (results_none rfl _ _ _) rfl ?_
      refine ⟨rfl, v, ?_, HS.out.2, NewB.refl _ _⟩
      show Wr _ b v (sent (E 5)) (L ++ [])
      rw [List.append_nil]
      exact HS.out.1
    · unfold tput
      rw [if_neg (by rw [hsz]; exact hn), hsz]
      have HC := hide (fits_ok b v L S.size w hw0 (by omega))
      have HN := hide (wnumber_any b v L S.size 2 w hw0 (by decide) (by omega) (by omega))
      have HSZ := hide hsz
      obtain ⟨n, hn2⟩ : ∃ n, S.size = n := ⟨_, rfl⟩
      rw [hn2] at HC HN hl ⊢
      have HNE := hide hn2
      clear hw hw0 he hsz hn hn2
      go_enter Tryd.func68, Tryd.ntmps68
      go_wp2_with fail
      have e1 : (S.size : Int) = (n : Int) := by have := HNE.out; omega
      rw [e1]
      refine Calls.mono HC.out ?_
      rintro e w1 ⟨rfl, rfl⟩
      go_wp2_with fail
      refine Calls.mono HN.out ?_
      rintro e w1 ⟨rfl, v1, q1, q2, q3⟩
      have HW1 := hide q1
      have HF1 := hide q2
      have HN1 := hide q3
      have h0 := q1.two.c0
      have hbl : b + 1 ≤ w1.heap.size := q1.lt
      have HLN : Hid ((L ++ be n 2).length + S.size ≤ 140737488355328) := by unfold Hid; rw [List.length_append, be_len, HNE.out]; omega
      clear q1 q2 q3
      go_wp2_with (refine append_str2 rfl (.tmp 17) (.tmp 18) rfl (b + 1) v1 _ rfl HW1.out.own S rfl HLN.out hbl ?_; intro v' w2 ho hf hnb; obtain ⟨a', n', c', rfl⟩ := ho.sl; have HO := hide ho; have HF := hide hf; have HNB := hide hnb; clear ho hf hnb; have ht := HW1.out.two.frm HF.out (fun e => by have := (HW1.out.blk b e).1; omega); have k0 := ht.c0; have k1 := ht.f0; clear ht)
      go_end0
      obtain ⟨p1, p2⟩ := HW1.out.put HO.out HF.out (fun c hc => by
        rcases List.mem_append.1 hc with h | h
        · exact HW1.out.small c h
        · exact bytesOf_lt S c h) HNB.out
      refine ⟨rfl, _, ?_, ws_trans HF1.out p2 HN1.out, HN1.out.trans HNB.out HF1.out.size⟩
      show Wr _ b _ .nilIface (L ++ (be n 2 ++ bytesOf S))
      rw [← List.append_assoc]
      exact p1
  · rw [if_neg hk]
    have hw0 : Wr w b v (sent (E k)) L := by unfold spv at hw; rw [if_neg hk] at hw; exact hw
    have HC := hide (fits_sp b v (E k) L (S.size : Int) w hw0)
    have HW := hide hw
    clear hw hw0 he
    go_enter Tryd.func68, Tryd.ntmps68
    go_wp2_with fail
    refine Calls.mono HC.out ?_
    rintro e w1 ⟨rfl, rfl⟩
    go_wp2
    (try simp only [Exit.inBlock, Exit.then])
    refine bodyPost_ret (v := .tuple #[]) (results_none rfl _ _ _) rfl ?_
    exact pput_same HW.out rfl (Below.refl _ _)

set_option maxRecDepth 100000 in
set_option maxHeartbeats 400000 in
theorem wRecord_all (b : Nat) (v : Value) (E : Nat → Addr) (k : Nat) (L : List Nat) (tag : Int) (a : Option Addr) (m c : Nat) (l : List Nat) (w : World) (hw : Wr w b v (spv E k) L) (he : Errs w E) (hx : Bts w a m c l) (hfar : Far a m b v) (hl : L.length + 4 + m ≤ 140737488355328) :
    Calls Tryd.prog 38 #[.pointer (some ⟨b, 0, none⟩), .int .i64 tag, .slice a m c] w fun e w' => PPut w b v (spv E (aft k L (rput tag l)).1) (aft k L (rput tag l)).2 e w' := by
  unfold aft
  have hsz := hx.size
  by_cases hk : k = 0
  · subst hk
    rw [if_pos rfl]
    have hw0 : Wr w b v .nilIface L := hw
    unfold rput
    by_cases ht : tag < 1 ∨ 255 < tag
    · rw [if_pos ht]
      have HS := hide (hw0.spoil (sent (E 3)))
      have HC := hide (fits_sp b v (E 3) L (m : Int) (w.setCell ⟨b, 1, none⟩ (sent (E 3))) HS.out.1)
      have h1 := hw0.two.c1
      have f1 := hw0.two.f1
      have h3 := he.v3
      unfold sent at h3 HC
      have key : tag < 1 ∨ ¬ tag < 1 ∧ 255 < tag := by omega
      clear hw hw0 he hx hfar ht
      rcases key with key | ⟨key0, key⟩
      all_goals
        go_enter Tryd.func38, Tryd.ntmps38
        go_wp2_with fail
        refine Calls.mono HC.out ?_
        rintro e w1 ⟨rfl, rfl⟩
        go_wp2
        (try simp only [Exit.inBlock, Exit.then])
        refine bodyPost_ret (v := .tuple #[]) (results_none rfl _ _ _) rfl ?_
        refine ⟨rfl, v, ?_, HS.out.2, NewB.refl _ _⟩
        show Wr _ b v (sent (E 3)) (L ++ [])
        rw [List.append_nil]
        exact HS.out.1
    · rw [if_neg ht]
      obtain ⟨t, rfl⟩ : ∃ t : Nat, tag = (t : Int) := ⟨tag.toNat, by omega⟩
      by_cases hn : 65535 < l.length
      · rw [if_pos hn]
        have HC := hide (fits_long b v E L (m : Int) w hw0 he.v5 (by omega))
        have HS := hide (hw0.spoil (sent (E 5)))
        have h1 := hw0.two.c1
        have d1 : ¬ (t : Int) < 1 := by omega
        have d2 : ¬ (255 : Int) < (t : Int) := by omega
        have d3 : ¬ 255 < t := by omega
        have d4 : ¬ t < 1 := by omega
        have d5 : ¬ t = 0 := by omega
        clear hw hw0 he hx hfar ht
        go_enter Tryd.func38, Tryd.ntmps38
        go_wp2_with fail
        refine Calls.mono HC.out ?_
        rintro e w1 ⟨rfl, rfl⟩
        go_wp2
        (try simp only [Exit.inBlock, Exit.then])
        refine bodyPost_ret (v := .tuple #[]) (results_none rfl _ _ _) rfl ?_
        refine ⟨rfl, v, ?_, HS.out.2, NewB.refl _ _⟩
        show Wr _ b v (sent (E 5)) (L ++ [])
        rw [List.append_nil]
        exact HS.out.1
      · rw [if_neg hn]
        exact Calls.mono (record_any b v L t a m c l w hw0 hx hfar (by omega) (by omega) (by omega) (by omega)) (fun e w' h => h)
  · rw [if_neg hk]
    have hw0 : Wr w b v (sent (E k)) L := by unfold spv at hw; rw [if_neg hk] at hw; exact hw
    have HC := hide (fits_sp b v (E k) L (m : Int) w hw0)
    have HW := hide hw
    have h1 := hw0.two.c1
    unfold sent at h1
    clear hw hw0 he hx hfar
    go_enter Tryd.func38, Tryd.ntmps38
    go_wp2_with fail
    refine Calls.mono HC.out ?_
    rintro e w1 ⟨rfl, rfl⟩
    go_wp2
    (try simp only [Exit.inBlock, Exit.then])
    refine bodyPost_ret (v := .tuple #[]) (results_none rfl _ _ _) rfl ?_
    exact pput_same HW.out rfl (Below.refl _ _)

set_option maxRecDepth 100000 in
theorem wSize_any (b : Nat) (v sp : Value) (L : List Nat) (w : World) (hw : Wr w b v sp L) (hl : L.length ≤ 140737488355328) :
    Calls Tryd.prog 70 #[.pointer (some ⟨b, 0, none⟩)] w fun e w' => e = .returned (.int .i64 (L.length : Int)) ∧ w = w' := by
  have h0 := hw.two.c0
  obtain ⟨a, c, rfl, hb⟩ := hw.own.shown hl hw.small
  clear hw hb
  generalize L.length = n at *
  go_enter Tryd.func70, Tryd.ntmps70
  go_wp2
  go_ret
  exact ⟨rfl, rfl⟩

/-- What Done answers. -/
def PDone (w : World) (E : Nat → Addr) (k : Nat) (L : List Nat) (e : Ending) (w' : World) : Prop :=
  ∃ v ev, e = .returned (.tuple #[v, ev]) ∧ IsErr w' E ev k (if k = 0 then -1 else (L.length : Int)) ∧ Own w' w.heap.size v (if k = 0 then L else []) ∧ Below w.heap.size w w'
set_option maxRecDepth 100000 in
theorem wDone_all (b : Nat) (v : Value) (E : Nat → Addr) (k : Nat) (L : List Nat) (w : World) (hw : Wr w b v (spv E k) L) (hk20 : k ≤ 20) (hl : L.length ≤ 140737488355328) :
    Calls Tryd.prog 39 #[.pointer (some ⟨b, 0, none⟩)] w fun e w' => PDone w E k L e w' := by
  unfold PDone
  by_cases hk : k = 0
  · subst hk
    rw [if_pos rfl, if_pos rfl]
    refine Calls.mono (done_ok b v L w hw hl) ?_
    rintro e w' ⟨h1, h2, h3⟩
    exact ⟨_, _, h1, .inl ⟨rfl, rfl, rfl⟩, h2, h3⟩
  · rw [if_neg hk, if_neg hk]
    have hw0 : Wr w b v (sent (E k)) L := by unfold spv at hw; rw [if_neg hk] at hw; exact hw
    have HC := hide (wSize_any b v _ L w.drew (hw0.below (Below.refl _ _).drew) hl)
    have h1 := hw0.two.c1
    unfold sent at h1
    clear hw hw0
    go_enter Tryd.func39, Tryd.ntmps39
    go_wp2
    go_region_held3 (fun wz => wz.cell? ⟨b, 1, none⟩ = some (.iface 172 (.pointer (some (E k))))) (first | exact h1 | exact hold2) (first
      | (go_at_call 70; refine HC.out.mono ?_; rintro e w2 ⟨rfl, rfl⟩)
      | (go_at_call 54; refine (placed_any (E k) _ _).mono ?_; rintro e w2 ⟨ev, rfl, ha, hb2⟩; have hold2 : w2.cell? ⟨b, 1, none⟩ = some (.iface 172 (.pointer (some (E k)))) := cell_below (w := w.drew) h1 hb2; have HA := hide ha; have HB2 := hide hb2; clear ha hb2))
    go_wp2
    go_ret2
    exact ⟨_, ev, rfl, at_isErr HA.out (by omega) hk20, ⟨rfl, .inl ⟨rfl, rfl⟩⟩, (Below.refl _ _).drew.trans HB2.out⟩
end Go.Proofs.YtohoncgkekiihaaDoor
