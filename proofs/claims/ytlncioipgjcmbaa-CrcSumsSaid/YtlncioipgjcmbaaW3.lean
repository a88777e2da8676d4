/- Walk of moveOn: by the table it moves the register on as the bits do. -/
import Derived.Test.YtlncioipgjcmbaaW2
namespace Go.Proofs.Ytlncioipgjcmbaa
open Go.RowKit FerryCrc

/-- The bytes that a slice shows in a world. -/
structure Bts (w : World) (a : Option Addr) (len : Nat) (l : List Nat) : Prop where
  size : l.length = len
  most : len ≤ 140737488355328
  small : ∀ c ∈ l, c < 256
  cell : ∀ k, k < len → ∃ b off, a = some ⟨b, off, none⟩ ∧ ∃ c, l[k]? = some c ∧ w.cell? ⟨b, off + k, none⟩ = some (.int .u8 (c : Int))

theorem Bts.below {w w' : World} {a : Option Addr} {len : Nat} {l : List Nat} (h : Bts w a len l) (hb : Below w.heap.size w w') : Bts w' a len l :=
  ⟨h.size, h.most, h.small, fun k hk => by
    obtain ⟨b, off, ha, c, hl, hc⟩ := h.cell k hk
    refine ⟨b, off, ha, c, hl, ?_⟩
    rw [hb.cell (p := ⟨b, off + k, none⟩) (block_lt_of_cell hc)]
    exact hc⟩

theorem mvs_next {r k c : Nat} {l : List Nat} (hl : l[k]? = some c) : mvs r (l.take (k + 1)) = mv (mvs r (l.take k)) c := by
  rw [List.take_add_one, hl]
  exact mvs_snoc _ _ _

theorem mvs_upto_lt {r k : Nat} {l : List Nat} (h : r < 4294967296) (hl : ∀ c ∈ l, c < 256) : mvs r (l.take k) < 4294967296 :=
  mvs_lt h (fun c hc => hl c (List.mem_of_mem_take hc))

theorem val_tab {x i : Nat} (hx : x < 4294967296) (hi : i < 256) : bits .xor .u32 (tab i : Nat) ((x : Int) / 256) = ((tab i ^^^ x / 256 : Nat) : Int) := by
  have h := u32_xor_nat (tab i) (x / 256) (bitsN_lt (by omega)) (by omega)
  rw [← h]
  congr 1
theorem idx_xor (x c : Nat) (hc : c < 256) : ∃ i : Nat, bits .xor .u8 ((x : Int) % 256) (c : Int) = (i : Int) ∧ i < 256 ∧ i = x % 256 ^^^ c := by
  refine ⟨x % 256 ^^^ c, ?_, Nat.xor_lt_two_pow (n := 8) (by omega) hc, rfl⟩
  have := u8_xor_nat (x % 256) c (by omega) hc
  rw [← this]
  congr 1
set_option maxRecDepth 100000 in
theorem moveOn_any (r : Nat) (a : Option Addr) (len cap : Nat) (l : List Nat) (w : World) (h : r < 4294967296) (hs : Bts w a len l) :
    Calls Try.prog 11 #[.int .u32 (r : Int), .slice a len cap] w fun e w' => e = .returned (.int .u32 (mvs r l : Nat)) ∧ Below w.heap.size w w' := by
  have hz := zero31
  have hT1 := Tb_size 256
  have hT2 := Tb_one 256
  have hT3 := hide (Tb_at 256 (Nat.le_refl _))
  have hT0 := Tb_size 0
  have HC := table_any w
  have hm := hs.most
  generalize Tb 256 = T at *
  generalize Tb 0 = T0 at *
  have HCC := hide HC
  clear HC
  go_enter Try.func11, Try.ntmps11
  go_wp2_with (first | (go_at_call 12; refine HCC.out.mono ?_; rintro e w1 ⟨rfl, hb1⟩) | (refine wpList_store_row rfl 31 (.tmp 5) (.tmp 8) rfl _ T rfl rfl 31 T0 (heap_alloc_new _ _) (by rw [hT1]; exact info31) (by rw [hT1, hT0]) hT2 ?_; rw [World.setRow_alloc_new]))
  have hs2 := hs.below hb1
  have hend := (Below.alloc hb1 hb1.size (.cells T 31))
  have HE := hide hend
  clear hend hs hb1 HCC hz hT0
  go_loop [0, 11] (fun t i => ∃ k : Nat, k ≤ len ∧ i = .int .i64 k ∧ t = .int .u32 (mvs r (l.take k) : Nat)) (fun _ i => len - (intOf i).toNat)
  case atStart => exact ⟨0, by omega, rfl, rfl⟩
  case round =>
    obtain ⟨k, hk, rfl, rfl⟩ := hrel
    have hx := mvs_upto_lt (k := k) h hs2.small
    by_cases hlt : k < len
    · obtain ⟨b, off, rfl, c, hl, hc⟩ := hs2.cell k hlt
      have hc8 : c < 256 := hs2.small c (List.mem_of_getElem? hl)
      have HS := hide (mvs_next (r := r) hl)
      have hblt := block_lt_of_cell hc
      clear hl hs2
      generalize mvs r (l.take k) = x at *
      obtain ⟨i, hi, hi8, hie⟩ := idx_xor x c hc8
      have HI := hide hie
      clear hie
      have hti : T[i]'(by omega) = .int .u32 (tab i : Nat) := (Array.getElem?_eq_some_iff.1 (hT3.out i hi8)).2
      go_wp2
      go_round
      case rel => exact ⟨k + 1, by omega, by go_num, by rw [HS.out, ← tab_way, ← HI.out, val_tab hx hi8]⟩
      case measure => simp [intOf]; omega
    · have hk8 : k = len := by omega
      subst hk8
      go_wp2
      go_ret
      exact ⟨ret_int (by rw [List.take_of_length_le (by rw [hs2.size]; exact Nat.le_refl _)]), HE.out⟩
end Go.Proofs.Ytlncioipgjcmbaa
