/-
  The writer of package wire: what it holds, and what its calls do.
-/
import Derived.Test.YtdbciciljeainaaGreatDoorWrBase
namespace FerryCrc
/-- The digits of n to the base 256, the highest of k first. -/
def be (n : Nat) : Nat → List Nat
  | 0 => []
  | k + 1 => n / 256 ^ k % 256 :: be n k
theorem be_len (n k : Nat) : (be n k).length = k := by
  induction k with
  | zero => rfl
  | succ k ih => simp [be, ih]
theorem be_small (n k : Nat) : ∀ c ∈ be n k, c < 256 := by
  induction k with
  | zero => intro c hc; simp [be] at hc
  | succ k ih =>
    intro c hc
    rcases List.mem_cons.1 hc with rfl | hc
    · exact Nat.mod_lt _ (by decide)
    · exact ih c hc
theorem be_at (n k j : Nat) (h : j < k) : (be n k)[k - 1 - j]? = some (n / 256 ^ j % 256) := by
  induction k with
  | zero => omega
  | succ k ih =>
    by_cases e : j = k
    · subst e
      rw [show j + 1 - 1 - j = 0 by omega]
      rfl
    · rw [show k + 1 - 1 - j = (k - 1 - j) + 1 by omega]
      exact ih (by omega)
theorem be_take (n k j : Nat) (h : j < k) : (be n k).take (k - j) = (be n k).take (k - (j + 1)) ++ [n / 256 ^ j % 256] := by
  have := be_at n k j h
  rw [show k - j = (k - (j + 1)) + 1 by omega, List.take_add_one, show k - (j + 1) = k - 1 - j by omega, this]
  rfl
end FerryCrc
namespace Go.Proofs.YtdbciciljeainaaGreatDoor
open Go.RowKit FerryCrc
set_option linter.unusedVariables false
set_option linter.unusedSimpArgs false

/-- A writer: its two fields, the bytes that it holds. -/
structure Wr (w : World) (b : Nat) (v sp : Value) (L : List Nat) : Prop where
  two : Two w b v sp
  own : Own w (b + 1) v L
  small : ∀ c ∈ L, c < 256
/-- The blocks that a call on a writer may write to. -/
def WS (b : Nat) (v : Value) : Nat → Prop := fun k => k = b ∨ v.ownBlock = some k
/-- What the writer holds now lies where it lay, or in new memory. -/
def NewB (w : World) (v v' : Value) : Prop := ∀ k, v'.ownBlock = some k → v.ownBlock = some k ∨ w.heap.size ≤ k
theorem NewB.refl (w : World) (v : Value) : NewB w v v := fun _ h => .inl h
theorem NewB.trans {w w1 : World} {v v1 v2 : Value} (h : NewB w v v1) (k : NewB w1 v1 v2) (hs : w.heap.size ≤ w1.heap.size) : NewB w v v2 := fun j hj => by
  rcases k j hj with e | e
  · exact h j e
  · exact .inr (by omega)
theorem ws_trans {w w1 w2 : World} {b : Nat} {v v1 : Value} (h : Frm (WS b v) w w1) (k : Frm (WS b v1) w1 w2) (hn : NewB w v v1) : Frm (WS b v) w w2 :=
  h.trans k (fun j hj t => by
    rcases t with t | t
    · exact .inl t
    · rcases hn j t with e | e
      · exact .inr e
      · omega)
theorem Wr.lt {w : World} {b : Nat} {v sp : Value} {L : List Nat} (h : Wr w b v sp L) : b < w.heap.size := block_lt_of_cell h.two.c0
theorem Wr.blk {w : World} {b : Nat} {v sp : Value} {L : List Nat} (h : Wr w b v sp L) (k : Nat) (hk : v.ownBlock = some k) : b < k ∧ k < w.heap.size := by
  have := World.ownsRow.lt h.own k hk
  omega
theorem Wr.frm {S : Nat → Prop} {w w' : World} {b : Nat} {v sp : Value} {L : List Nat} (h : Wr w b v sp L) (hf : Frm S w w') (hb : ¬ S b) (hv : ∀ k, v.ownBlock = some k → ¬ S k) : Wr w' b v sp L :=
  ⟨h.two.frm hf hb, h.own.frm hf hv, h.small⟩
theorem Wr.below {w w' : World} {b : Nat} {v sp : Value} {L : List Nat} (h : Wr w b v sp L) (hb : Below w.heap.size w w') : Wr w' b v sp L :=
  h.frm (S := fun _ => False) (Frm.ofBelow hb) (fun h => h) (fun _ _ h => h)
/-- Behind an append and the store of its answer. -/
theorem Wr.put {w w1 : World} {b : Nat} {v v' : Value} {L L' : List Nat} (h : Wr w b v .nilIface L) (ho : Own w1 (b + 1) v' L') (hf : Frm (fun k => v.ownBlock = some k) w w1) (hs : ∀ c ∈ L', c < 256) (hn : NewB w v v') :
    Wr (w1.setCell ⟨b, 0, none⟩ v') b v' .nilIface L' ∧ Frm (WS b v) w (w1.setCell ⟨b, 0, none⟩ v') := by
  have hb : ¬ (v.ownBlock = some b) := fun e => by have := (h.blk b e).1; omega
  have ht := h.two.frm hf hb
  refine ⟨⟨⟨World.cell?_setCell_same _ _ _ ht.c0, by rw [World.cell?_setCell_other _ _ _ _ (by simp)]; exact ht.c1, by rw [World.frozen?_setCell]; exact ht.f0, by rw [World.frozen?_setCell]; exact ht.f1⟩, ?_, hs⟩, ?_⟩
  · exact ownsRow_setCell_below ho (by show b < b + 1; omega) _
  · exact (hf.mono (T := WS b v) (fun j _ t => .inr t)).trans (frm_setCell w1 ⟨b, 0, none⟩ v') (fun j _ t => .inl t)

set_option maxRecDepth 100000 in
theorem newWriter_any (w : World) :
    Calls Tryz.prog 40 #[] w fun e w' => e = .returned (.pointer (some ⟨w.heap.size, 0, none⟩)) ∧ Wr w' w.heap.size (.slice none 0 0) .nilIface [] ∧ Below w.heap.size w w' := by
  go_enter Tryz.func40, Tryz.ntmps40
  go_wp2
  go_ret
  refine ⟨rfl, ⟨two_alloc _ _ _ _, ?_, fun c hc => by simp at hc⟩, (Below.refl _ _).alloc (Nat.le_refl _) _⟩
  exact ⟨rfl, .inl ⟨rfl, rfl⟩⟩

set_option maxRecDepth 100000 in
theorem raw_any (b : Nat) (v : Value) (L : List Nat) (a : Option Addr) (m c : Nat) (l : List Nat) (w : World) (hw : Wr w b v .nilIface L) (hx : Bts w a m c l) (hl : L.length + m ≤ 140737488355328) :
    Calls Tryz.prog 44 #[.pointer (some ⟨b, 0, none⟩), .slice a m c] w fun e w' => e = .returned (.tuple #[]) ∧ ∃ v', Wr w' b v' .nilIface (L ++ l) ∧ Frm (WS b v) w w' ∧ NewB w v v' := by
  have h0 := hw.two.c0
  have h1 := hw.two.c1
  have HW := hide hw
  have HX := hide hx
  have hbl : b + 1 ≤ w.heap.size := hw.lt
  clear hw hx
  go_enter Tryz.func44, Tryz.ntmps44
  go_wp2_with (refine append_lie rfl (.tmp 13) (.tmp 14) rfl (b + 1) v L rfl HW.out.own a m c l rfl HX.out hl hbl ?_; intro v' w1 ho hf hn; obtain ⟨a', n', c', rfl⟩ := ho.sl; have HO := hide ho; have HF := hide hf; have HN := hide hn; clear ho hf hn; have ht := HW.out.two.frm HF.out (fun e => by have := (HW.out.blk b e).1; omega); have k0 := ht.c0; have k1 := ht.f0; clear ht)
  go_end0
  have hsm : ∀ c ∈ L ++ l, c < 256 := fun c hc => by
    rcases List.mem_append.1 hc with h | h
    · exact HW.out.small c h
    · exact HX.out.small c h
  obtain ⟨p1, p2⟩ := HW.out.put HO.out HF.out hsm HN.out
  exact ⟨rfl, _, p1, p2, HN.out⟩

theorem be_one (n : Nat) (h : n < 256) : be n 1 = [n] := by
  show [n / 256 ^ 0 % 256] = [n]
  rw [Nat.pow_zero, Nat.div_one, Nat.mod_eq_of_lt h]
theorem pow256 (j : Nat) : (2 : Nat) ^ (8 * j) = 256 ^ j := by rw [Nat.pow_mul]
theorem one_byte (w : World) (c : Nat) (hc : c < 256) (t : TypeId) : Bts (w.alloc (.cells #[.int .u8 (c : Int)] t)) (some ⟨w.heap.size, 0, none⟩) 1 1 [c] := by
  refine ⟨rfl, by decide, by decide, fun x hx => by rw [List.mem_singleton.1 hx]; exact hc, fun e => by simp at e, fun k hk => ?_⟩
  obtain rfl : k = 0 := by omega
  refine ⟨_, _, rfl, c, rfl, ?_⟩
  rw [World.cell?_alloc_at _ _ _ _ rfl]
  rfl

set_option maxRecDepth 100000 in
theorem wnumber_any (b : Nat) (v : Value) (L : List Nat) (n width : Nat) (w : World) (hw : Wr w b v .nilIface L) (hwd : width ≤ 4) (hn : n < 256 ^ width) (hl : L.length + width ≤ 140737488355328) :
    Calls Tryz.prog 62 #[.pointer (some ⟨b, 0, none⟩), .int .i64 (n : Int), .int .i64 (width : Int)] w fun e w' => e = .returned (.tuple #[]) ∧ ∃ v', Wr w' b v' .nilIface (L ++ be n width) ∧ Frm (WS b v) w w' ∧ NewB w v v' := by
  have h1 := hw.two.c1
  have HW := hide hw
  have hn0 : ¬ (n : Int) < 0 := by omega
  have hw8 : IntKind.i64.wrap (8 * (width : Int)) = ((8 * width : Nat) : Int) := by rw [IntKind.wrap_i64]; omega
  have hz : (n : Int) / 2 ^ (8 * width) = 0 := by
    have : ((n / 2 ^ (8 * width) : Nat) : Int) = 0 := by rw [pow256, Nat.div_eq_of_lt hn]; rfl
    simpa using this
  clear hw
  go_enter Tryz.func62, Tryz.ntmps62
  go_wp2
  go_loopw [6] (fun i wr => ∃ (j : Nat) (v' : Value), j ≤ width ∧ i = .int .i64 ((j : Int) - 1) ∧ Hid (Wr wr b v' .nilIface (L ++ (be n width).take (width - j))) ∧ Hid (Frm (WS b v) w wr) ∧ Hid (NewB w v v')) (fun i _ => (intOf i + 1).toNat)
  case atStart => exact ⟨width, v, Nat.le_refl _, rfl, by rw [Nat.sub_self, List.take_zero, List.append_nil]; exact HW.out, Frm.refl _ _, NewB.refl _ _⟩
  case round =>
    obtain ⟨j, v', hj, rfl, HWR, HFR, HNR⟩ := hrel
    by_cases hj0 : j = 0
    · subst hj0
      go_wp2
      go_end0
      refine ⟨rfl, v', ?_, HFR.out, HNR.out⟩
      have := HWR.out
      rw [Nat.sub_zero, List.take_of_length_le (by rw [be_len]; exact Nat.le_refl _)] at this
      exact this
    · obtain ⟨i, rfl⟩ : ∃ i, j = i + 1 := ⟨j - 1, by omega⟩
      have e1 : ((i + 1 : Nat) : Int) - 1 = (i : Int) := by omega
      rw [e1]
      have hi0 : (0 : Int) ≤ (i : Int) := by omega
      have hi8 : IntKind.i64.wrap (8 * (i : Int)) = ((8 * i : Nat) : Int) := by rw [IntKind.wrap_i64]; omega
      have k0 := HWR.out.two.c0
      have hto : (8 * (i : Int)).toNat = 8 * i := by omega
      obtain ⟨d, hd⟩ : ∃ d, n / 256 ^ i % 256 = d := ⟨_, rfl⟩
      have hd8 : d < 256 := by rw [← hd]; exact Nat.mod_lt _ (by decide)
      have hby : IntKind.u8.wrap ((n : Int) / 2 ^ (8 * i)) = (d : Int) := by
        have e : (n : Int) / 2 ^ (8 * i) = ((n / 2 ^ (8 * i) : Nat) : Int) := by simp
        rw [e, IntKind.wrap_u8, ← hd, pow256]
        omega
      have HT := hide (be_take n width i (by omega))
      rw [hd] at HT
      have HL : Hid ((L ++ (be n width).take (width - (i + 1))).length + 1 ≤ 140737488355328) := by
        unfold Hid
        rw [List.length_append, List.length_take, be_len]
        have : min (width - (i + 1)) width ≤ width - (i + 1) := Nat.min_le_left _ _
        omega
      have HW1 : Hid (Wr ((wr.alloc (.cells #[.int .u8 (d : Int)] 5)).drew) b v' .nilIface (L ++ (be n width).take (width - (i + 1)))) := HWR.out.below ((Below.refl _ _).alloc (Nat.le_refl _) _).drew
      have HX1 : Hid (Bts ((wr.alloc (.cells #[.int .u8 (d : Int)] 5)).drew) (some ⟨wr.heap.size, 0, none⟩) 1 1 [d]) := (one_byte wr d hd8 _).below (Below.refl _ _).drew
      have HB1 : Hid (Below wr.heap.size wr ((wr.alloc (.cells #[.int .u8 (d : Int)] 5)).drew)) := ((Below.refl _ _).alloc (Nat.le_refl _) _).drew
      have k0d := HW1.out.two.c0
      have k0a : (wr.alloc (.cells #[.int .u8 (d : Int)] 5)).cell? ⟨b, 0, none⟩ = some v' := k0d
      clear hd
      go_wp2
      go_region_law (refine step_lie rfl (.tmp 35) (.tmp 41) rfl (b + 1) v' (L ++ (be n width).take (width - (i + 1))) (by simp [Act.eval]) HW1.out.own ⟨wr.heap.size, 0, none⟩ 1 1 [d] (by simp [Act.eval]) HX1.out (by decide) HL.out HW1.out.lt ?_; intro v2 w2 ho hf hn; obtain ⟨a', n', c', rfl⟩ := ho.sl; have HO := hide ho; have HF := hide hf; have HN := hide hn; clear ho hf hn; have ht := HW1.out.two.frm HF.out (fun e => by have := (HW1.out.blk b e).1; omega); have k0 := ht.c0; have k1 := ht.f0; clear ht)
      all_goals go_wp2
      all_goals refine ⟨?_, by first | (simp [intOf]; done) | (simp [intOf]; omega)⟩
      all_goals
        obtain ⟨p1, p2⟩ := HW1.out.put HO.out HF.out (fun c hc => by
          rcases List.mem_append.1 hc with h | h
          · exact HW1.out.small c h
          · rw [List.mem_singleton.1 h]; exact hd8) HN.out
        have hn2 : NewB wr v' (.slice a' n' c') := fun k hk => by
          rcases HN.out k hk with h | h
          · exact .inl h
          · exact .inr (Nat.le_trans HB1.out.size h)
        refine ⟨i, _, by omega, by first | rfl | go_num, ?_, ws_trans HFR.out ((Frm.ofBelow HB1.out).trans p2 (fun j _ t => t)) HNR.out, HNR.out.trans hn2 HFR.out.size⟩
        rw [HT.out, ← List.append_assoc]
        exact p1
end Go.Proofs.YtdbciciljeainaaGreatDoor
