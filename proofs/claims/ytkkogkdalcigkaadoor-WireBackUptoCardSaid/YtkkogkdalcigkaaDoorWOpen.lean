/-
  The law's own open: a new cursor over bytes that are written over behind the call.
-/
import Derived.Test.YtkkogkdalcigkaaDoorWOpenR
import Derived.Test.YtkkogkdalcigkaaDoorLow
import Derived.Deep.CutBlock
import Derived.Deep.DeepCutAuto
import Derived.Deep.Cut
namespace Go.Proofs.YtkkogkdalcigkaaDoor
open Go.RowKit FerryCrc
set_option linter.unusedVariables false
set_option linter.unusedSimpArgs false

theorem wp_onlyN {P : Program} {c : Code} {Q : Exit → Act → World → Prop} {a : Act} {w : World} (h : Code.wp P c (OnlyN (fun a w => Q .normal a w)) a w) : Code.wp P c Q a w :=
  Code.wp_mono (fun e a w h => by cases e <;> first | exact h | exact (h : False).elim) h

set_option maxRecDepth 100000 in
set_option maxHeartbeats 1000000 in
theorem open_any (B : Nat) (v1 v2 : Value) (cs ds : List Nat) (S : ByteArray) (w : World) (h : Csr w B v1 v2 cs ds) (h1 : cs.length + 1 ≤ 17592186044416) (h2 : ds.length + 1 ≤ 17592186044416) (hS : S.size ≤ 140737488351232) :
    Calls Tryd.prog 10 #[.pointer (some ⟨B, 0, none⟩), .string S] w fun e w' => e = .returned (.bool true) ∧ ∃ v1' v2' C G D, Csr w' B v1' v2' (cs ++ [C]) (ds ++ [D]) ∧ Cur w' C G S.size 0 S.size (bytesOf S) ∧ w.heap.size ≤ C ∧ w.heap.size ≤ G ∧ G < w'.heap.size ∧
      Frm (fun k => k = B ∨ v1.ownBlock = some k ∨ v2.ownBlock = some k) w w' ∧ (∀ k, v1'.ownBlock = some k → v1.ownBlock = some k ∨ (w.heap.size ≤ k ∧ k ≠ C ∧ k ≠ G)) ∧ (∀ k, v2'.ownBlock = some k → v2.ownBlock = some k ∨ (w.heap.size ≤ k ∧ k ≠ C ∧ k ≠ G)) := by
  have H := hide h
  have hsz : (bytesOf S).length = S.size := bytesOf_len S
  have HSL := hide (bytesOf_lt S)
  have HST := hide (str_bytesOf S)
  obtain ⟨n, hn⟩ : ∃ n, S.size = n := ⟨_, rfl⟩
  rw [hn] at hS hsz ⊢
  have HZ := hide hsz
  have hn1 : IntKind.i64.wrap ((n : Int) + 1) = ((n + 1 : Nat) : Int) := by rw [IntKind.wrap_i64]; omega
  have HL2 : Hid (([] ++ bytesOf S).length + 1 ≤ 140737488355328) := by unfold Hid; rw [List.nil_append, HZ.out]; omega
  have HLL : Hid (([] ++ bytesOf S ++ [55]).length = n + 1) := by unfold Hid; rw [List.nil_append, List.length_append, HZ.out]; rfl
  clear h hsz
  go_enter Tryd.func10, Tryd.ntmps10
  go_wp2_with (first
    | (at_make; refine make_cap rfl (.const (.int .i64 0)) (.tmp 10) rfl _ (n + 1) rfl rfl (by first | rfl | omega | simp) (by omega) ?_; intro w1 ho hb; have HO1 := hide ho; have HB1 := hide hb; clear ho hb)
    | (refine append_str rfl (.tmp 11) (.tmp 12) rfl w.heap.size _ [] rfl HO1.out S rfl (by rw [hn]; simp; omega) HB1.out.size ?_; intro v2' w2 ho hf; have HO2 := hide ho; have HB2 := hide (HB1.out.trans (hf.below HB1.out.size (fun k e => (World.ownsRow.lt HO1.out k e).1))); clear ho hf; have HA2 : Hid (Below w2.heap.size w2 (w2.alloc (.cells #[.int .u8 55] 5))) := (Below.refl _ _).alloc (Nat.le_refl _) _; have HO2a := hide (HO2.out.frm (S := fun _ => False) (Frm.ofBelow HA2.out) (fun _ _ h => h)))
    | (refine append_lie rfl (.tmp 13) (.tmp 14) rfl w.heap.size v2' _ rfl HO2a.out _ 1 1 [55] rfl (one_byte w2 55 (by decide) _) HL2.out (chain HB2.out HA2.out).size ?_; intro v3 w3 ho hf hq; obtain ⟨g3, c3, rfl, hg3, hc3⟩ := own_some ho HLL.out (by omega); have HO3 := hide ho; have HG3 := hide hg3; have hc3' : n ≤ c3 := Nat.le_of_succ_le hc3; have hc4 : (n : Int) ≤ (c3 : Int) := Int.ofNat_le.2 hc3'; have HB3 := hide ((chain HB2.out HA2.out).trans (hf.below (chain HB2.out HA2.out).size (fun k e => (World.ownsRow.lt HO2.out k e).1))); clear ho hf hq hg3))
  have HLS : Hid (∀ c ∈ [] ++ bytesOf S ++ [55], c < 256) := by
    intro c hc
    rw [List.nil_append] at hc
    rcases List.mem_append.1 hc with hc | hc
    · exact HSL.out c hc
    · rw [List.mem_singleton.1 hc]; decide
  have HX3 := hide (HO3.out.bts HLL.out (by omega) HLS.out)
  have HX3n : Hid (Bts w3 (some ⟨g3, 0, none⟩) n c3 (bytesOf S)) := by
    have := HX3.out.take n (by omega)
    rw [List.nil_append, List.take_left' HZ.out] at this
    exact this
  refine Calls.mono (copen_any _ n c3 (bytesOf S) w3 HX3n.out) ?_
  rintro e w4 ⟨C, hC, rfl, hk, hb⟩
  have HC4 := hide hC
  have HK4 := hide hk
  have HB4 := hide (chain HB3.out hb)
  have HO4 := hide (HO3.out.frm (S := fun _ => False) (Frm.ofBelow hb) (fun _ _ h => h))
  have s1 := bts_string (HX3n.out.below hb)
  rw [HST.out] at s1
  have HLT : Hid (g3 < w3.heap.size) := (World.ownsRow.lt HO3.out _ rfl).2
  have k55 : w4.cell? ⟨g3, n, none⟩ = some (.int .u8 55) := by
    obtain ⟨b', off', ha, c', hl, hc⟩ := (HX3.out.below hb).cell n (by omega)
    simp only [Option.some.injEq, Addr.mk.injEq, and_true] at ha
    obtain ⟨rfl, rfl⟩ := ha
    rw [List.nil_append, List.getElem?_append_right (by rw [HZ.out]; exact Nat.le_refl _), HZ.out, Nat.sub_self] at hl
    simp only [List.getElem?_cons_zero, Option.some.injEq] at hl
    rw [Nat.zero_add] at hc
    rw [hc, ← hl]
    rfl
  clear hC hk hb HO1 HO2 HB1 HB2 HO3 HX3
  go_upto_block 0 with fail
  clear s1 k55
  go_cut [7] from 8 to 48 (fun v wx => ∃ l', Hid (l'.length = n + 1) ∧ Hid (Own wx w.heap.size (.slice (some ⟨g3, 0, none⟩) (n + 1) c3) l') ∧ Hid (Frm (fun j => j = g3) w4 wx))
  case first =>
    go_wp2_with fail
    go_loopw [7] (fun i wr => ∃ (k : Nat) (l' : List Nat), k ≤ n + 1 ∧ i = .int .i64 (k : Int) ∧ Hid (l'.length = n + 1) ∧ Hid (Own wr w.heap.size (.slice (some ⟨g3, 0, none⟩) (n + 1) c3) l') ∧ Hid (Frm (fun j => j = g3) w4 wr)) (fun i _ => n + 1 - (intOf i).toNat)
    case atStart => exact ⟨0, _, by omega, rfl, HLL, HO4, Frm.refl _ _⟩
    case round =>
      obtain ⟨k, l', hk, rfl, HL', HOR, HFR⟩ := hrel
      by_cases hlt : k < n + 1
      · obtain ⟨x, hx⟩ : ∃ x, l'[k]? = some x := ⟨_, List.getElem?_eq_getElem (by rw [HL'.out]; exact hlt)⟩
        have kk := HOR.out.cellAt HL'.out k x hx
        have kf := HOR.out.frozenAt HL'.out k
        have HS := hide (HOR.out.stored HL'.out k 44)
        have hk1 : (k : Int) < (n : Int) + 1 := by omega
        clear hx
        go_wp2
        refine ⟨⟨k + 1, l'.set k 44, by omega, by first | rfl | simp, ?_, HS, HFR.out.trans (frm_setCell wr ⟨g3, k, none⟩ _) (fun j _ t => t)⟩, by simp [intOf]; omega⟩
        unfold Hid
        rw [List.length_set, HL'.out]
      · obtain rfl : k = n + 1 := by omega
        go_wp2
        go_meet
        exact ⟨l', HL', HOR, HFR⟩
  case rest =>
    obtain ⟨l', HL', HOR, HFR⟩ := hcut
    have HK5 := hide (HK4.out.frm HFR.out (fun e => by have := HLT.out; have := HC4.out; omega) (fun e => by have := HLT.out; omega))
    have HB5 := hide (HB4.out.trans (HFR.out.below HB4.out.size (fun j e => by have := HG3.out; omega)))
    go_wp2_with fail
    refine wp_onlyN ?_
    refine r9 _ _ _ _ _ _ _ _ _ _ _ _ _ _ _ _ _ _ _ _ _ _ _ _ _ _ _ _ _ _ _ _ _ _ _ _ _ _ _ _ _ _ _ hn hS h1 h2 H HB5 HK5 (by have := HC4.out; have := HB3.out.size; omega) HB3.out.size (by have h8 := HK5.out.lt; have h9 := HC4.out; omega) _ ?hf
    case hf =>
    unfold Hid
    intro y49 y50 y51 y52 y53 y54 y55 y56 y57 y58 y59 y60 y61 y62 y63 y64 y65 y66 y67 y68 y69 y70 w' hfin
    have HFIN := hide hfin
    clear hfin
    go_wp2
    go_ret
    exact ⟨rfl, HFIN.out⟩
end Go.Proofs.YtkkogkdalcigkaaDoor
