/-
  Walks of the document's Seal and Open.
-/
import Derived.Test.YtdbciciljeainaaDoorRefSum
import Derived.Test.YtdbciciljeainaaDoorSeal
import Derived.Test.YtdbciciljeainaaDoorEqual
namespace Go.Proofs.YtdbciciljeainaaDoor
open Go.RowKit FerryCrc

theorem one_bts (w : World) (x : Nat) (hx : x < 256) : Bts (w.alloc (.cells #[.int .u8 (x : Int)] 5)) (some ⟨w.heap.size, 0, none⟩) 1 1 [x] := by
  refine ⟨rfl, by decide, by decide, by simpa using hx, fun e => by simp at e, fun k hk => ?_⟩
  obtain rfl : k = 0 := by omega
  exact ⟨w.heap.size, 0, rfl, x, rfl, by rw [World.cell?_alloc_at _ _ _ _ rfl]; rfl⟩

theorem Own.alloc {w : World} {base : Nat} {v : Value} {L : List Nat} (h : Own w base v L) (o : Obj) : Own (w.alloc o) base v L := World.ownsRow.alloc h o

set_option maxRecDepth 100000 in
theorem refSeal_any (a : Option Addr) (len cap : Nat) (l : List Nat) (w : World) (hs : Bts w a len cap l) (hr : len ≤ 140737488355320) :
    Calls Tryd.prog 62 #[.slice a len cap] w fun e w' => ∃ g c, e = .returned (.slice (some ⟨g, 0, none⟩) (len + 4) c) ∧ Own w' w.heap.size (.slice (some ⟨g, 0, none⟩) (len + 4) c) (sealOf l) ∧ Below w.heap.size w w' := by
  have hown := own_empty w
  have hs1 := hs.below ((Below.refl _ _).alloc (Nat.le_refl _) (.cells #[] 5))
  have hsum := sumOf_lt hs.small
  go_enter Tryd.func62, Tryd.ntmps62
  go_wp2_with (at_builtin; refine append_bts rfl (.tmp 6) (.tmp 7) rfl w.heap.size (.slice (some ⟨w.heap.size, 0, none⟩) 0 0) [] rfl hown a len cap l rfl hs1 (by simp; omega) (by simp) ?_; intro v' w1 hown1 hgrow1 hnil1)
  have hne : v' ≠ .slice none 0 0 := fun e => by simpa using (hnil1.1 e).1
  rw [List.nil_append] at hown1
  have hb1 : Below w.heap.size w w1 := ((Below.refl _ _).alloc (Nat.le_refl _) (.cells #[] 5)).grown hgrow1 (by simp) (by intro k e; simp [Value.ownBlock] at e; omega)
  have HS1 := hide (hs.below hb1)
  have HL := hide hs.size
  have HN := hide hne
  clear hs hs1 hown hgrow1 hnil1 hne
  go_wp2_with (go_at_call 76; refine (refSum_any a len cap l w1 HS1.out).mono ?_; rintro e w' ⟨rfl, rfl⟩)
  have HQ : Hid (sealOf l = l ++ le4 (sumOf l)) := rfl
  generalize sumOf l = s at *
  go_loopw [3, 5] (fun v i wr => ∃ k : Nat, k ≤ 4 ∧ i = .int .i64 k ∧ Below w.heap.size w wr ∧ v ≠ .slice none 0 0 ∧ Own wr w.heap.size v (l ++ (le4 s).take k)) (fun _ i _ => 4 - (intOf i).toNat)
  case atStart => exact ⟨0, by omega, rfl, hb1, HN.out, by simpa using hown1⟩
  case round =>
    obtain ⟨k, hk, rfl, hbw, hvn, hownk⟩ := hrel
    by_cases hlt : k < 4
    · obtain ⟨x, hx, hx8, hxv⟩ : ∃ x : Nat, (le4 s)[k]? = some x ∧ x < 256 ∧ ((s : Int) / 2 ^ (8 * k) % 256) = (x : Int) := by
        match k, hlt with
        | 0, _ => exact ⟨s % 256, rfl, by omega, by omega⟩
        | 1, _ => exact ⟨s / 256 % 256, rfl, by omega, by omega⟩
        | 2, _ => exact ⟨s / 65536 % 256, rfl, by omega, by omega⟩
        | 3, _ => exact ⟨s / 16777216 % 256, rfl, by omega, by omega⟩
      have HT : Hid (l ++ (le4 s).take (k + 1) = (l ++ (le4 s).take k) ++ [x]) := by unfold Hid; rw [take_next hx, List.append_assoc]
      have hlen : (l ++ (le4 s).take k).length ≤ 140737488355324 := by rw [List.length_append, List.length_take, HL.out]; omega
      have HX := hide hx
      clear hx
      have h1 := one_bts wr x hx8
      have ho := hownk.alloc (.cells #[.int .u8 (x : Int)] 5)
      have HO := hide ho
      have HV := hide hvn
      have HB := hide hbw
      have H1 := hide h1
      clear ho hvn hownk hbw h1
      generalize l ++ (le4 s).take k = L at *
      go_wp2_with (at_builtin; refine append_bts rfl (.tmp 15) (.tmp 21) rfl w.heap.size _ L rfl HO.out (some ⟨wr.heap.size, 0, none⟩) 1 1 [x] rfl H1.out (by omega) (by have := HB.out.size; simp; omega) ?_; intro v2 w2 hown2 hgrow2 hnil2)
      have hb2 : Below w.heap.size w w2 := (HB.out.alloc HB.out.size _).grown hgrow2 (by have := HB.out.size; simp; omega) (fun k e => (World.ownsRow.lt HO.out k e).1)
      have hv2 : v2 ≠ .slice none 0 0 := fun e => absurd (hnil2.1 e).2 (by decide)
      go_roundw
      case rel => exact ⟨k + 1, by omega, by go_num, hb2, hv2, by rw [HT.out]; exact hown2⟩
      case measure => simp [intOf]; omega
    · have hk4 : k = 4 := by omega
      subst hk4
      have e4 : l ++ (le4 s).take 4 = sealOf l := by rw [HQ.out]; rfl
      rw [e4] at hownk
      obtain ⟨g, c, hv, hg⟩ := own_form hownk hvn
      rw [sealOf_length, HL.out] at hv
      subst hv
      clear e4 hvn
      go_wp2
      go_ret
      exact ⟨g, c, rfl, hownk, hbw⟩

theorem refOpen_short (a : Option Addr) (len cap : Nat) (w : World) (hl : len < 4) :
    Calls Tryd.prog 44 #[.slice a len cap] w fun e w' => e = .returned (.tuple #[.slice none 0 0, .int .i64 1]) ∧ w = w' := by
  go_enter Tryd.func44, Tryd.ntmps44
  go_wp2
  go_ret2
  exact ⟨rfl, rfl⟩

theorem le4_at {s k : Nat} (h : k < 4) : ∃ x : Nat, (le4 s)[k]? = some x ∧ x < 256 ∧ ((s : Int) / 2 ^ (8 * k) % 256) = (x : Int) := by
  match k, h with
  | 0, _ => exact ⟨s % 256, rfl, by omega, by omega⟩
  | 1, _ => exact ⟨s / 256 % 256, rfl, by omega, by omega⟩
  | 2, _ => exact ⟨s / 65536 % 256, rfl, by omega, by omega⟩
  | 3, _ => exact ⟨s / 16777216 % 256, rfl, by omega, by omega⟩

set_option maxRecDepth 100000 in
theorem refOpen_any (a : Option Addr) (len cap : Nat) (l : List Nat) (w : World) (hs : Bts w a len cap l) (hl : 4 ≤ len) :
    Calls Tryd.prog 44 #[.slice a len cap] w fun e w' => Below w.heap.size w w' ∧
      ((Good l ∧ ∃ g c, e = .returned (.tuple #[.slice (some ⟨g, 0, none⟩) (len - 4) c, .int .i64 0]) ∧ Own w' w.heap.size (.slice (some ⟨g, 0, none⟩) (len - 4) c) (l.take (len - 4))) ∨
       (¬ Good l ∧ e = .returned (.tuple #[.slice none 0 0, .int .i64 6]))) := by
  have hm := hs.most
  have hfit := hs.fit
  obtain ⟨b, off, rfl, _⟩ := hs.cell 0 (by omega)
  have hA := hs.take (len - 4) (by omega)
  have hB := hs.drop (len - 4) (by omega)
  rw [show len - (len - 4) = 4 by omega] at hB
  have HG : Hid (Good l ↔ l.drop (len - 4) = le4 (sumOf (l.take (len - 4)))) := by
    unfold Hid Good
    rw [hs.size]
    constructor
    · intro h; exact num4_inj hB.size hB.small h.symm
    · intro h; rw [h, num4_le4 (sumOf_lt hA.small)]
  have H1 := hide (fun wx (hx : Bts wx (some ⟨b, off, none⟩) (len - 4) cap (l.take (len - 4))) => refSum_any (some ⟨b, off, none⟩) (len - 4) cap (l.take (len - 4)) wx hx)
  generalize l.take (len - 4) = la at *
  generalize l.drop (len - 4) = lb at *
  clear hs
  generalize hn : len - 4 = n at *
  obtain rfl : len = n + 4 := by omega
  clear hn hl
  have HA := hide hA
  have HB := hide hB
  have hAs := hide hA.size
  clear hA hB
  go_enter Tryd.func44, Tryd.ntmps44
  go_wp2_with (go_at_call 76; refine (H1.out _ HA.out).mono ?_; rintro e w' ⟨rfl, rfl⟩)
  generalize sumOf la = s at *
  go_loopw [6] (fun i wr => ∃ k : Nat, k ≤ 4 ∧ i = .int .i64 k ∧ Below w.heap.size w wr ∧ lb.take k = (le4 s).take k) (fun i _ => 4 - (intOf i).toNat)
  case atStart => exact ⟨0, by omega, rfl, Below.refl _ _, rfl⟩
  case round =>
    obtain ⟨k, hk, rfl, hbw, heq⟩ := hrel
    have HQ := hide heq
    have HBW := hide hbw
    clear heq hbw
    by_cases hlt : k < 4
    · obtain ⟨x, hx, hx8, hxv⟩ := le4_at (s := s) hlt
      obtain ⟨b', o', e, y, hy, cy⟩ := (HB.out.below HBW.out).cell k hlt
      simp only [Option.some.injEq, Addr.mk.injEq, and_true] at e
      obtain ⟨rfl, rfl⟩ := e
      have HX := hide hx
      have HY := hide hy
      clear hx hy
      rw [Nat.add_assoc] at cy
      by_cases hxy : y = x
      · subst hxy
        go_wp2
        go_region
        all_goals go_wp2
        all_goals go_roundw
        case rel => exact ⟨k + 1, by omega, by go_num, HBW.out.drew, by rw [take_next HX.out, take_next HY.out, HQ.out]⟩
        case measure => simp [intOf]; omega
      · have hne : ((y : Int) != (x : Int)) = true := by simp; omega
        go_wp2
        go_region
        all_goals go_wp2
        all_goals go_ret2
        all_goals exact ⟨HBW.out.drew, .inr ⟨fun h => hxy (by have h2 := HG.out.1 h; have h3 := HY.out; rw [h2, HX.out] at h3; exact (Option.some.inj h3).symm), rfl⟩⟩
    · have hk4 : k = 4 := by omega
      subst hk4
      have hgood : Good l := HG.out.2 (by
        have h := HQ.out
        rw [List.take_of_length_le (by rw [HB.out.size]; exact Nat.le_refl _), List.take_of_length_le (show (le4 s).length ≤ 4 by simp [le4])] at h
        exact h)
      have HGD := hide hgood
      clear hgood
      have hown := own_empty wr
      have hs1 := (HA.out.below HBW.out).below ((Below.refl _ _).alloc (Nat.le_refl _) (.cells #[] 5))
      go_wp2_with (at_builtin; refine append_bts rfl (.tmp 33) (.tmp 36) rfl wr.heap.size (.slice (some ⟨wr.heap.size, 0, none⟩) 0 0) [] rfl hown (some ⟨b, off, none⟩) n cap la rfl hs1 (by simp; omega) (by simp) ?_; intro v' w1 hown1 hgrow1 hnil1)
      have hne : v' ≠ .slice none 0 0 := fun e => by simpa using (hnil1.1 e).1
      rw [List.nil_append] at hown1
      have hb1 : Below wr.heap.size wr w1 := ((Below.refl _ _).alloc (Nat.le_refl _) (.cells #[] 5)).grown hgrow1 (by simp) (by intro k e; simp [Value.ownBlock] at e; omega)
      obtain ⟨g, c, hv, hg⟩ := own_form hown1 hne
      rw [hAs.out] at hv
      subst hv
      go_ret2
      exact ⟨chain HBW.out hb1, .inl ⟨HGD.out, g, c, rfl, hown1.weaken HBW.out.size⟩⟩
end Go.Proofs.YtdbciciljeainaaDoor
