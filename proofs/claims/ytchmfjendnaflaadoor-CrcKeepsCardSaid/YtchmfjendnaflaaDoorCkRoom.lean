/-
  The law's mark and room; lists that others are appended to behind their end.
-/
import Derived.Test.YtchmfjendnaflaaDoorCkMark
namespace Go.Proofs.YtchmfjendnaflaaDoor
open Go.RowKit FerryCrc
set_option linter.unusedVariables false
set_option linter.unusedSimpArgs false

set_option maxRecDepth 100000 in
theorem mark_any (i j : Nat) (w : World) (hi : i ≤ 1000) (hj : j ≤ 140737488355328) :
    Calls Tryd.prog 36 #[.int .i64 (i : Int), .int .i64 (j : Int)] w fun e w' => e = .returned (.int .u8 (((17 * i + 5 * j + 3) % 256 : Nat) : Int)) ∧ w = w' := by
  obtain ⟨A, hA⟩ : ∃ A, 17 * i = A := ⟨_, rfl⟩
  obtain ⟨Bq, hB⟩ : ∃ Bq, 5 * j = Bq := ⟨_, rfl⟩
  obtain ⟨C, hC⟩ : ∃ C, A + Bq = C := ⟨_, rfl⟩
  obtain ⟨D, hD⟩ : ∃ D, C + 3 = D := ⟨_, rfl⟩
  have e1 : 17 * (i : Int) = (A : Int) := by omega
  have e1w : IntKind.i64.wrap (A : Int) = (A : Int) := by rw [IntKind.wrap_i64]; omega
  have e2 : 5 * (j : Int) = (Bq : Int) := by omega
  have e2w : IntKind.i64.wrap (Bq : Int) = (Bq : Int) := by rw [IntKind.wrap_i64]; omega
  have e3 : (A : Int) + (Bq : Int) = (C : Int) := by omega
  have e3w : IntKind.i64.wrap (C : Int) = (C : Int) := by rw [IntKind.wrap_i64]; omega
  have e4 : (C : Int) + 3 = (D : Int) := by omega
  have e4w : IntKind.i64.wrap (D : Int) = (D : Int) := by rw [IntKind.wrap_i64]; omega
  have e5 : IntKind.u8.wrap (D : Int) = (((17 * i + 5 * j + 3) % 256 : Nat) : Int) := by rw [IntKind.wrap_u8]; omega
  generalize (17 * i + 5 * j + 3) % 256 = x at *
  clear hA hB hC hD
  go_enter Tryd.func36, Tryd.ntmps36
  go_wp2
  go_ret
  exact ⟨rfl, rfl⟩

/-- What lies behind the bytes that room lays. -/
def spare : List Nat := (List.range 80).map (fun i => 200 + i % 50)
theorem spare_len : spare.length = 80 := by decide
theorem spare_small : ∀ c ∈ spare, c < 256 := by decide
theorem spare_at {i : Nat} (h : i < 80) : spare[i]? = some (200 + i % 50) := by simp [spare, h]

set_option maxRecDepth 100000 in
set_option maxHeartbeats 400000 in
theorem room_any (a : Option Addr) (n c : Nat) (l : List Nat) (w : World) (hs : Bts w a n c l) (hm : n ≤ 140737488354000) :
    Calls Tryd.prog 11 #[.slice a n c] w fun e w' => ∃ g c', e = .returned (.slice (some ⟨g, 0, none⟩) (n + 80) c') ∧ Own w' w.heap.size (.slice (some ⟨g, 0, none⟩) (n + 80) c') (l ++ spare) ∧ Below w.heap.size w w' := by
  have HS := hide hs
  have HZ := hide hs.size
  have HA : Hid (Below w.heap.size w (w.alloc (.cells #[] 5))) := (Below.refl _ _).alloc (Nat.le_refl _) _
  have HO := hide (own_empty w)
  clear hs
  go_enter Tryd.func11, Tryd.ntmps11
  go_wp2_with (refine append_lie rfl (.tmp 5) (.tmp 6) rfl w.heap.size (.slice (some ⟨w.heap.size, 0, none⟩) 0 0) [] rfl HO.out a n c l rfl (HS.out.below HA.out) (by simp; omega) HA.out.size ?_; intro v1 w1 ho hf hq; rw [List.nil_append] at ho; have HO1 := hide ho; have HB1 := hide (HA.out.trans (hf.below HA.out.size (fun j e => (World.ownsRow.lt HO.out j e).1))); clear ho hf hq)
  go_loopw [3, 4] (fun v i wr => ∃ k : Nat, k ≤ 80 ∧ i = .int .i64 (k : Int) ∧ Hid (Own wr w.heap.size v (l ++ spare.take k)) ∧ Hid (Below w.heap.size w wr)) (fun _ i _ => 80 - (intOf i).toNat)
  case atStart => exact ⟨0, by omega, rfl, by rw [List.take_zero, List.append_nil]; exact HO1, HB1⟩
  case round =>
    obtain ⟨k, hk, rfl, HOk, HBk⟩ := hrel
    by_cases hlt : k < 80
    · have hk3 : (k : Int) < 80 := by omega
      obtain ⟨x, hx⟩ : ∃ x, k % 50 = x := ⟨_, rfl⟩
      obtain ⟨y, hy⟩ : ∃ y, 200 + x = y := ⟨_, rfl⟩
      have e1 : (k : Int).tmod 50 = (x : Int) := by rw [Int.tmod_eq_emod_of_nonneg (by omega)]; omega
      have e2 : 200 + (x : Int) = (y : Int) := by omega
      have e2w : IntKind.i64.wrap (y : Int) = (y : Int) := by rw [IntKind.wrap_i64]; omega
      have e3 : IntKind.u8.wrap (y : Int) = (y : Int) := by rw [IntKind.wrap_u8]; omega
      have HTK : Hid (spare.take (k + 1) = spare.take k ++ [y]) := by unfold Hid; rw [List.take_add_one, spare_at hlt, hx, hy]; rfl
      have HY : Hid (y < 256) := by unfold Hid; omega
      have HAk : Hid (Below wr.heap.size wr (wr.alloc (.cells #[.int .u8 (y : Int)] 5))) := (Below.refl _ _).alloc (Nat.le_refl _) _
      have HOA := hide (HOk.out.below HAk.out)
      have HXC : Hid ((wr.alloc (.cells #[.int .u8 (y : Int)] 5)).cell? ⟨wr.heap.size, 0, none⟩ = some (.int .u8 (y : Int))) := (World.cell?_alloc_at _ _ _ _ rfl).trans rfl
      have HLL : Hid ((l ++ spare.take k).length + 1 ≤ 140737488355328) := by unfold Hid; rw [List.length_append, List.length_take, HZ.out, spare_len]; omega
      have HBW : Hid (w.heap.size ≤ (wr.alloc (.cells #[.int .u8 (y : Int)] 5)).heap.size) := Nat.le_trans HBk.out.size HAk.out.size
      clear hx hy
      go_wp2_with (refine append_bk rfl (.tmp 12) (.tmp 17) rfl w.heap.size u3 _ rfl HOA.out wr.heap.size y rfl HXC.out HLL.out HBW.out ?_; intro v4 w4 ho4 hg4; have HO4 := hide ho4; have HG4 := hide hg4; clear ho4 hg4)
      refine ⟨⟨k + 1, by omega, by first | rfl | simp, ?_, ?_⟩, by simp [intOf]; omega⟩
      · unfold Hid; rw [HTK.out, ← List.append_assoc]; exact HO4.out
      · exact (chain HBk.out HAk.out).trans ((grw_frm HG4.out).below HBW.out (fun b e => (World.ownsRow.lt HOA.out b e).1))
    · obtain rfl : k = 80 := by omega
      rw [List.take_of_length_le (by rw [spare_len]; exact Nat.le_refl _)] at HOk
      obtain ⟨g, c', e, _, _⟩ := own_some HOk.out (show (l ++ spare).length = n + 80 by rw [List.length_append, HZ.out, spare_len]) (by omega)
      subst e
      go_wp2
      go_ret
      exact ⟨g, c', rfl, HOk.out, HBk.out⟩

/-- A list is as it was where cells behind its end are written. -/
theorem own_setCells {base g m c : Nat} {l : List Nat} : ∀ (vs : List Value) (off : Nat) (w : World), Own w base (.slice (some ⟨g, 0, none⟩) m c) l → l.length = m → m ≤ off → Own (w.setCells g off vs) base (.slice (some ⟨g, 0, none⟩) m c) l
  | [], off, w, h, _, _ => h
  | v :: vs, off, w, h, hl, ho => by
    subst hl
    have h2 := (World.ownsRow.stored h off v).1
    rw [List.set_eq_of_length_le (by rw [List.length_map]; exact ho)] at h2
    exact own_setCells vs (off + 1) (w.setCell ⟨g, off, none⟩ v) h2 rfl (by omega)
theorem frm_setCells (g : Nat) : ∀ (vs : List Value) (off : Nat) (w : World), Frm (fun k => k = g) w (w.setCells g off vs)
  | [], off, w => Frm.refl _ _
  | v :: vs, off, w => (frm_setCell w ⟨g, off, none⟩ v).trans (frm_setCells g vs (off + 1) _) (fun _ _ t => t)
end Go.Proofs.YtchmfjendnaflaaDoor
