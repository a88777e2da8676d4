/-
  The document's Out and In.
-/
import Derived.Test.YtbekdbgnpcbklaaDoorPgBack
namespace Go.Proofs.YtbekdbgnpcbklaaDoor
open Go.RowKit FerryCrc
set_option linter.unusedVariables false

/-- A slice of bytes of one's own as a string, whatever its form. -/
theorem own_string_any {w : World} {base : Nat} {v : Value} {L : List Nat} (h : Own w base v L) (hs : ∀ c ∈ L, c < 256) :
    (convert 63 9 v).run Tryd.prog w = .ok (.string (str L)) w := by
  rcases h.2 with ⟨rfl, hn⟩ | ⟨g, cap, cur, rfl, hg, hh, hnc, hcm, hcs, htake⟩
  · obtain rfl : L = [] := List.length_eq_zero_iff.1 hn
    exact run_convert_bytes_nil (P := Tryd.prog) w 63 5 Tryd.underlying63 Tryd.underlying5 0 0 9 Tryd.underlying9
  · have := run_convert_bytes_back (P := Tryd.prog) w 63 9 5 ⟨g, 0, none⟩ cap (L.map UInt8.ofNat) Tryd.underlying63 Tryd.underlying5 Tryd.underlying9 (fun j hj => by
      have hj' : j < L.length := by simpa using hj
      have hc := World.ownsRow.cellAt h j (by omega)
      rw [add_none, Nat.zero_add, hc]
      have hlt := hs L[j] (List.getElem_mem hj')
      simp [hj', bv]
      omega)
    rw [List.length_map] at this
    exact this

theorem bts_one (w : World) (c : Nat) (hc : c < 256) (t : TypeId) : Bts (w.alloc (.cells #[.int .u8 (c : Int)] t)) (some ⟨w.heap.size, 0, none⟩) 1 1 [c] := by
  refine ⟨rfl, by decide, by decide, fun x hx => by rw [List.mem_singleton.1 hx]; exact hc, fun e => by simp at e, fun k hk => ?_⟩
  obtain rfl : k = 0 := by omega
  refine ⟨_, _, rfl, c, rfl, ?_⟩
  rw [World.cell?_alloc_at _ _ _ _ rfl]
  rfl
theorem Own.below' {w w' : World} {base : Nat} {v : Value} {L : List Nat} (h : Own w base v L) (hb : Below w.heap.size w w') : Own w' base v L := by
  refine ⟨h.1, ?_⟩
  rcases h.2 with e | ⟨g, cap, cur, e, hg, hh, r⟩
  · exact .inl e
  · refine .inr ⟨g, cap, cur, e, hg, ?_, r⟩
    rw [hb.block g (Array.getElem?_eq_some_iff.1 hh).1]
    exact hh

set_option maxRecDepth 100000 in
set_option maxHeartbeats 1000000 in
theorem refOut_any (a : Option Addr) (len cap : Nat) (l : List Pg) (n N : Nat) (w : World) (hs : Pgs w a len cap l) (hn : n < 4294967296) (hN : N < 9223372036854775808) (hlen : len ≤ 67108864) :
    Calls Tryd.prog 8 #[.slice a len cap, .int .u32 (n : Int), .int .i64 (N : Int)] w fun e w' => ∃ f : Nat, e = .returned (.tuple #[.string (str (if f = 0 then rdB l n N else [])), .int .i64 (f : Int), .int .i64 0]) ∧ RF (fun a => bfault l a 0) n N f ∧ f ≤ 6 ∧ Below w.heap.size w w' := by
  have HS := hide hs
  have hm := hs.most
  clear hs
  go_enter Tryd.func8, Tryd.ntmps8
  go_wp2
  go_loopw [9, 10] (fun b i wr => ∃ k : Nat, k ≤ N ∧ k ≤ 4294967296 ∧ i = .int .i64 (k : Int) ∧ Hid (Own wr w.heap.size b (rdB l n k)) ∧ Hid (∀ j, j < k → bfault l (n + j) 0 = 0) ∧ Hid (Below w.heap.size w wr)) (fun _ i _ => N - (intOf i).toNat)
  case atStart => exact ⟨0, by omega, by omega, rfl, World.ownsRow_nil _ _ _ _, fun j hj => by omega, Below.refl _ _⟩
  case round =>
    obtain ⟨k, hk, hk32, rfl, hown, hz, hb⟩ := hrel
    by_cases hlt : k < N
    · have HSR := hide (HS.out.below hb.out)
      obtain ⟨m, hmn⟩ : ∃ m, n + k = m := ⟨_, rfl⟩
      have e0 : (n : Int) + (k : Int) = (m : Int) := by omega
      have H1 := hide (refByte_any a len cap l m 0 wr HSR.out (by omega) (by decide))
      obtain ⟨f, hf⟩ : ∃ f, bfault l m 0 = f := ⟨_, rfl⟩
      have HF := hide hf
      have HM := hide hmn
      rw [hf] at H1
      have hf6 : f ≤ 6 := by rw [← hf]; exact bfault_le l m 0 (by decide)
      by_cases hf0 : f = 0
      · subst hf0
        have hq : m / 64 < len := by
          unfold bfault at hf
          split at hf
          · omega
          · rename_i p hp
            rw [← HS.out.size]
            exact (List.getElem?_eq_some_iff.1 hp).1
        have H2 := hide (refAt_any a len cap l m wr HSR.out (by omega) hq)
        have HR : Hid (rdB l n (k + 1) = rdB l n k ++ [byteAt l m]) := by unfold Hid; rw [rdB_succ, hmn]
        have HL : Hid (byteAt l m < 256) := byteAt_lt HS.out.ok m
        have hm32 : m < 4294967296 := by omega
        clear hf hmn
        generalize byteAt l m = c at *
        go_wp2_with fail
        refine Calls.mono H1.out ?_
        rintro e w' ⟨rfl, rfl⟩
        go_wp2_with fail
        refine Calls.mono H2.out ?_
        rintro e w' ⟨rfl, rfl⟩
        have HLK : Hid ((rdB l n k).length = k) := rdB_len l n k
        go_wp2_with (at_builtin; refine append_bts rfl (.tmp 28) (.tmp 35) rfl w.heap.size _ (rdB l n k) rfl (hown.out.below' ((Below.refl _ _).alloc (Nat.le_refl _) _)) (some ⟨wr.heap.size, 0, none⟩) 1 1 [c] rfl (bts_one wr c HL.out _) (by rw [HLK.out]; omega) (by simp; have := hb.out.size; omega) ?_; intro v' w1 hown1 hgrow1 _)
        have hb1 : Hid (Below w.heap.size w w1) := (hb.out.alloc hb.out.size _).grown hgrow1 (by simp; have := hb.out.size; omega) (fun j e => (World.ownsRow.lt hown.out j e).1)
        go_roundw
        case rel =>
          refine ⟨k + 1, by omega, by have := HM.out; omega, by go_num, by rw [HR.out]; exact hown1, fun j hj => ?_, hb1⟩
          by_cases e : j = k
          · subst e; rw [HM.out]; exact HF.out
          · exact hz.out j (by omega)
        case measure => simp [intOf]; omega
      · have hd : ((f : Int) != 0) = true := by simp; omega
        clear hf
        go_wp2_with fail
        refine Calls.mono H1.out ?_
        rintro e w' ⟨rfl, rfl⟩
        go_wp2
        go_ret3
        refine ⟨f, by rw [if_neg hf0]; rfl, .inr ⟨k, hlt, hz.out, ?_, hf0⟩, hf6, hb.out⟩
        show f = bfault l (n + k) 0
        rw [HM.out]
        exact HF.out.symm
    · obtain rfl : k = N := by omega
      have hst := own_string_any hown.out (rdB_lt HS.out.ok n k)
      go_wp2
      go_ret3
      exact ⟨0, by rw [if_pos rfl]; rfl, .inl ⟨rfl, hz.out⟩, by decide, hb.out⟩
set_option maxRecDepth 100000 in
theorem refOut_bad (a : Option Addr) (len cap n : Nat) (N : Int) (w : World) (h : N < 0) :
    Calls Tryd.prog 8 #[.slice a len cap, .int .u32 (n : Int), .int .i64 N] w fun e w' => e = .returned (.tuple #[.string (str []), .int .i64 0, .int .i64 12]) ∧ w = w' := by
  go_enter Tryd.func8, Tryd.ntmps8
  go_wp2
  go_ret3
  exact ⟨rfl, rfl⟩

/-- The document's fault and the program's are one where the list ends at 2^32. -/
theorem bflt_short {l : List Pg} (h : l.length ≤ 67108864) (a k : Nat) : bflt l a k = bfault l a k := by
  unfold bflt
  split
  · exact (bfault_none (List.getElem?_eq_none (by omega))).symm
  · rfl
end Go.Proofs.YtbekdbgnpcbklaaDoor
