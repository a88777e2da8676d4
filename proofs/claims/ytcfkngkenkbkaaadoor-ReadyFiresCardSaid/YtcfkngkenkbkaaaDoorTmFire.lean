/-
  timer's Fire, Drop and Find.
-/
import Derived.Test.YtcfkngkenkbkaaaDoorTmFns
namespace Go.Proofs.YtcfkngkenkbkaaaDoor
open Classical
open Go.RowKit
set_option linter.unusedVariables false
set_option linter.unusedSimpArgs false

/-- Two lists of one's own that share no block. -/
def Sep (u v : Value) : Prop := u.ownBlock = none ∨ u.ownBlock ≠ v.ownBlock
theorem Sep.symm {u v : Value} (h : Sep u v) : Sep v u := by
  rcases h with h | h
  · cases hv : v.ownBlock with
    | none => exact .inl hv
    | some g => exact .inr (by rw [h, hv]; simp)
  · exact .inr (Ne.symm h)
theorem sep_nil (v : Value) : Sep (.slice none 0 0) v := .inl rfl
/-- One of them was appended to. -/
theorem Sep.next {w : World} {u v : Value} {g n c : Nat} (h : Sep u v) (hv : ∀ k, v.ownBlock = some k → k < w.heap.size) (hat : u.ownBlock = some g ∨ g = w.heap.size) : Sep (.slice (some ⟨g, 0, none⟩) n c) v := by
  refine .inr fun e => ?_
  have e' : v.ownBlock = some g := e.symm
  rcases hat with hat | rfl
  · rcases h with h | h
    · rw [h] at hat; cases hat
    · exact h (hat.trans e'.symm)
  · exact absurd (hv _ e') (Nat.lt_irrefl _)

def fireE (l : List Tm) [Decidable (Form l 8)] : Nat := if Form l 8 then 0 else 9
def fireP (l : List Tm) (now : Int) [Decidable (Form l 8)] : List Int := if Form l 8 then (fired l now).map Tm.proc else []
def fireL (l : List Tm) (now : Int) [Decidable (Form l 8)] : List Tm := if Form l 8 then left l now else []
theorem fired_take (l : List Tm) (now : Int) {k : Nat} {t : Tm} (ht : l[k]? = some t) : fired (l.take (k + 1)) now = fired (l.take k) now ++ (if decide (t.due ≤ now) then [t] else []) := by
  unfold fired
  rw [List.take_add_one, ht, List.filter_append]
  congr 1
  simp [List.filter_cons]
theorem left_take (l : List Tm) (now : Int) {k : Nat} {t : Tm} (ht : l[k]? = some t) : left (l.take (k + 1)) now = left (l.take k) now ++ (if !decide (t.due ≤ now) then [t] else []) := by
  unfold left
  rw [List.take_add_one, ht, List.filter_append]
  congr 1
  simp [List.filter_cons]
theorem fired_len (l : List Tm) (now : Int) : (fired l now).length ≤ l.length := List.length_filter_le _ _
theorem left_len (l : List Tm) (now : Int) : (left l now).length ≤ l.length := List.length_filter_le _ _

set_option maxRecDepth 100000 in
set_option maxHeartbeats 4000000 in
theorem tfire_any {w : World} {E : Nat → Addr} (he : Er3 w E) (a : Option Addr) (len cap : Nat) (l : List Tm) (hs : Tms w a len cap l) (now : Int) (hm : len ≤ 9223372036854775807) :
    Calls Tryd.prog 40 #[.slice a len cap, .int .i64 now] w fun e w' => ∃ x y v, e = .returned (.tuple #[x, y, v]) ∧ Bare E v (fireE l) ∧ IOwn w' w.heap.size x (fireP l now) ∧ TOwn w' w.heap.size y (fireL l now) ∧ Below w.heap.size w w' := by
  have HS := hide hs
  have hl := hs.size
  have HE := hide he
  have HI := hide infoTimer
  have HJ := hide infoInt
  clear hs he
  go_enter Tryd.func40, Tryd.ntmps40
  go_wp2_with fail
  refine Calls.mono (inForm_any w a len cap l HS.out 8 (by omega) hm) ?_
  rintro e w1 ⟨rfl, b1⟩
  have B1 := hide b1
  clear b1
  by_cases hf : Form l 8
  case neg =>
    have d1 : decide (Form l 8) = false := decide_eq_false hf
    have HA : Hid (fireE l = 9 ∧ fireP l now = [] ∧ fireL l now = []) := ⟨by unfold fireE; rw [if_neg hf], by unfold fireP; rw [if_neg hf], by unfold fireL; rw [if_neg hf]⟩
    have v9 := (HE.out.below B1.out).v9
    rw [d1]
    clear hf d1
    go_wp2
    go_quiet (fail)
    go_wp2
    go_ret3
    exact ⟨_, _, _, rfl, by rw [HA.out.1]; exact bare_sent E 9 (by decide) (by decide), by rw [HA.out.2.1]; exact iown_nil _ _, by rw [HA.out.2.2]; exact town_nil _ _, drewN_below B1.out nq⟩
  have d1 : decide (Form l 8) = true := decide_eq_true hf
  have h8 := hf.2.1.few hf.1
  have HA : Hid (fireE l = 0 ∧ fireP l now = (fired l now).map Tm.proc ∧ fireL l now = left l now) := ⟨by unfold fireE; rw [if_pos hf], by unfold fireP; rw [if_pos hf], by unfold fireL; rw [if_pos hf]⟩
  rw [d1]
  clear hf d1
  go_wp2
  go_loopw [7, 8, 17] (fun o r i wr => ∃ k : Nat, k ≤ len ∧ i = .int .i64 (k : Int) ∧ Hid (IOwn wr w1.heap.size o ((fired (l.take k) now).map Tm.proc)) ∧ Hid (TOwn wr w1.heap.size r (left (l.take k) now)) ∧ Hid (Sep o r) ∧ Hid (Below w1.heap.size w1 wr)) (fun _ _ i _ => len - (intOf i).toNat)
  case atStart => exact ⟨0, by omega, rfl, iown_nil _ _, town_nil _ _, sep_nil _, Below.refl _ _⟩
  case round =>
    obtain ⟨k, hk, rfl, hio, hto, hsep, hb⟩ := hrel
    by_cases hlt : k < len
    · obtain ⟨t, ht⟩ : ∃ p, l[k]? = some p := ⟨_, List.getElem?_eq_getElem (by rw [hl]; exact hlt)⟩
      obtain ⟨b, off, rfl, hr⟩ := (HS.out.below (chain B1.out hb.out)).at tm2 (by decide) ht
      have r0 := hr 0 _ rfl
      have r1 := hr 1 _ rfl
      simp only [Nat.add_zero] at r0
      have HF := hide (fired_take l now ht)
      have HL := hide (left_take l now ht)
      have LF : Hid ((fired (l.take k) now).length ≤ k) := Nat.le_trans (fired_len _ _) (by rw [List.length_take]; omega)
      have LL : Hid ((left (l.take k) now).length ≤ k) := Nat.le_trans (left_len _ _) (by rw [List.length_take]; omega)
      have hk1 : (k : Int) < (len : Int) := by omega
      have X1 := new_below wr (.cells #[.int .i64 t.proc, .int .i64 t.due] 68)
      clear hr ht
      by_cases hd : t.due ≤ now
      · have d0 : decide (t.due ≤ now) = true := decide_eq_true hd
        rw [d0] at HF HL
        have X2 := new_below (wr.alloc (.cells #[.int .i64 t.proc, .int .i64 t.due] 68)) (.cells #[.int .i64 t.proc] 3)
        have HB2 := hide (chain (chain hb.out X1) X2)
        have O2 := hide (ownsRow_below (ownsRow_below hio.out X1) X2)
        have T2 := hide (ownsRow_below (ownsRow_below hto.out X1) X2)
        clear hd X1 X2 hio hto
        go_wp2_with (at_builtin; refine append_rec rfl (.tmp 25) (.tmp 28) 23 3 rfl Tryd.underlying23 HJ.out (by decide) w1.heap.size _ _ _ rfl O2.out (wr.heap.size + 1) 1 (ci t.proc) rfl rfl (fun i u hu => by rw [World.cell?_alloc_at _ _ _ _ (by simp)]; simpa [ci] using hu) (fun u hu => ci_one [t.proc] u (by simpa using hu)) (by have := LF.out; rw [List.length_map]; unfold maxLen; omega) (by have := LF.out; rw [List.length_map]; omega) HB2.out.size ?_; intro g7 c7 w7 ho7 hg7 hat7 hlt7)
        have D7 := hide (HB2.out.grown hg7 HB2.out.size (fun k' hk' => (O2.out.lt k' hk').1))
        have O7 : Hid (IOwn w7 w1.heap.size (.slice (some ⟨g7, 0, none⟩) ((fired (l.take k) now).length + 1) c7) ((fired (l.take (k + 1)) now).map Tm.proc)) := by
          unfold Hid
          rw [HF.out]
          simpa [IOwn] using ho7
        have T7 : Hid (TOwn w7 w1.heap.size u8 (left (l.take (k + 1)) now)) := by
          unfold Hid
          rw [show left (l.take (k + 1)) now = left (l.take k) now by rw [HL.out]; simp]
          exact T2.out.kept hg7 hsep.out.symm
        have S7 := hide (hsep.out.next (n := (fired (l.take k) now).length + 1) (c := c7) (fun q hq => (T2.out.lt q hq).2) hat7)
        clear ho7 hg7 hat7 O2 T2
        go_wp2
        go_roundw
        case rel => exact ⟨k + 1, by omega, by go_num, O7.out, T7.out, S7.out, D7.out⟩
        case measure => simp [intOf]; omega
      · have d0 : decide (t.due ≤ now) = false := decide_eq_false hd
        rw [d0] at HF HL
        have X2 := new_below (wr.alloc (.cells #[.int .i64 t.proc, .int .i64 t.due] 68)) (.cells #[.int .i64 t.proc, .int .i64 t.due] 68)
        have HB2 := hide (chain (chain hb.out X1) X2)
        have O2 := hide (ownsRow_below (ownsRow_below hio.out X1) X2)
        have T2 := hide (ownsRow_below (ownsRow_below hto.out X1) X2)
        clear hd X1 X2 hio hto
        go_wp2_with (at_builtin; refine append_rec rfl (.tmp 30) (.tmp 32) 24 68 rfl Tryd.underlying24 HI.out (by decide) w1.heap.size _ _ _ rfl T2.out (wr.heap.size + 1) 1 t.cells rfl rfl (fun i u hu => by rw [World.cell?_alloc_at _ _ _ _ (by simp)]; simpa [Tm.cells] using hu) (fun u hu => tm_one [t] u (by simpa using hu)) (by have := LL.out; unfold maxLen; omega) (by have := LL.out; omega) HB2.out.size ?_; intro g7 c7 w7 ho7 hg7 hat7 hlt7)
        have D7 := hide (HB2.out.grown hg7 HB2.out.size (fun k' hk' => (T2.out.lt k' hk').1))
        have T7 : Hid (TOwn w7 w1.heap.size (.slice (some ⟨g7, 0, none⟩) ((left (l.take k) now).length + 1) c7) (left (l.take (k + 1)) now)) := by
          unfold Hid
          rw [HL.out]
          simpa [TOwn] using ho7
        have O7 : Hid (IOwn w7 w1.heap.size u7 ((fired (l.take (k + 1)) now).map Tm.proc)) := by
          unfold Hid
          rw [show fired (l.take (k + 1)) now = fired (l.take k) now by rw [HF.out]; simp]
          exact O2.out.kept hg7 hsep.out
        have S7 := hide (hsep.out.symm.next (n := (left (l.take k) now).length + 1) (c := c7) (fun q hq => (O2.out.lt q hq).2) hat7).symm
        clear ho7 hg7 hat7 O2 T2
        go_wp2
        go_roundw
        case rel => exact ⟨k + 1, by omega, by go_num, O7.out, T7.out, S7.out, D7.out⟩
        case measure => simp [intOf]; omega
    · obtain rfl : k = len := by omega
      have HR : Hid (l.take k = l) := by unfold Hid; rw [← hl, List.take_length]
      rw [HR.out] at hio hto
      have IOw := hide (ownsRow_weaken hio.out B1.out.size)
      have TO := hide (ownsRow_weaken hto.out B1.out.size)
      have BB := hide (chain B1.out hb.out)
      clear hio hto
      go_wp2
      go_ret3
      exact ⟨_, _, _, rfl, by rw [HA.out.1]; exact bare_nil E, by rw [HA.out.2.1]; exact IOw.out, by rw [HA.out.2.2]; exact TO.out, BB.out⟩

def dropE (l : List Tm) [Decidable (Form l 8)] : Nat := if Form l 8 then 0 else 9
def dropL (l : List Tm) (p : Int) [Decidable (Form l 8)] : List Tm := if Form l 8 then others l p else []
def dropB (l : List Tm) (p : Int) [Decidable (Form l 8)] : Bool := if Form l 8 then decide ((others l p).length < l.length) else false
set_option maxRecDepth 100000 in
set_option maxHeartbeats 4000000 in
theorem tdrop_any {w : World} {E : Nat → Addr} (he : Er3 w E) (a : Option Addr) (len cap : Nat) (l : List Tm) (hs : Tms w a len cap l) (p : Int) (hm : len ≤ 9223372036854775807) :
    Calls Tryd.prog 60 #[.slice a len cap, .int .i64 p] w fun e w' => ∃ x q v, e = .returned (.tuple #[x, .bool q, v]) ∧ q = dropB l p ∧ Bare E v (dropE l) ∧ TOwn w' w.heap.size x (dropL l p) ∧ Below w.heap.size w w' := by
  have HS := hide hs
  have hl := hs.size
  have HE := hide he
  clear hs he
  go_enter Tryd.func60, Tryd.ntmps60
  go_wp2_with fail
  refine Calls.mono (inForm_any w a len cap l HS.out 8 (by omega) hm) ?_
  rintro e w1 ⟨rfl, b1⟩
  have B1 := hide b1
  clear b1
  by_cases hf : Form l 8
  case neg =>
    have d1 : decide (Form l 8) = false := decide_eq_false hf
    have HA : Hid (dropE l = 9 ∧ dropL l p = [] ∧ dropB l p = false) := ⟨by unfold dropE; rw [if_neg hf], by unfold dropL; rw [if_neg hf], by unfold dropB; rw [if_neg hf]⟩
    have v9 := (HE.out.below B1.out).v9
    rw [d1]
    clear hf d1
    go_wp2
    go_quiet (fail)
    go_wp2
    go_ret3
    exact ⟨_, _, _, rfl, HA.out.2.2.symm, by rw [HA.out.1]; exact bare_sent E 9 (by decide) (by decide), by rw [HA.out.2.1]; exact town_nil _ _, drewN_below B1.out nq⟩
  have d1 : decide (Form l 8) = true := decide_eq_true hf
  have h8 := hf.2.1.few hf.1
  have HA : Hid (dropE l = 0 ∧ dropL l p = others l p ∧ dropB l p = decide ((others l p).length < l.length)) := ⟨by unfold dropE; rw [if_pos hf], by unfold dropL; rw [if_pos hf], by unfold dropB; rw [if_pos hf]⟩
  rw [d1]
  clear hf d1
  go_wp2_with fail
  refine Calls.mono (without_any w1 a len cap l (HS.out.below B1.out) p (by omega)) ?_
  rintro e w2 ⟨v2, rfl, h2, b2⟩
  obtain ⟨a2, c2, rfl, _⟩ := town_tms h2
  have O2 := hide (ownsRow_weaken h2 B1.out.size)
  have B2 := hide (chain B1.out b2)
  clear h2 b2
  go_wp2
  go_ret3
  exact ⟨_, _, _, rfl, by rw [HA.out.2.2, hl], by rw [HA.out.1]; exact bare_nil E, by rw [HA.out.2.1]; exact O2.out, B2.out⟩

/-- When a process's timer is due. -/
def findT (l : List Tm) (p : Int) : Option Tm := l.find? fun t => t.proc == p
def findD (l : List Tm) (p : Int) : Int := (findT l p).elim 0 Tm.due
theorem findT_no {l : List Tm} {p : Int} (h : ∀ (j : Nat) (t : Tm), l[j]? = some t → t.proc ≠ p) : findT l p = none := List.find?_eq_none.2 fun t ht => by
  obtain ⟨j, hj⟩ := List.mem_iff_getElem?.1 ht
  simpa using h j t hj
theorem findT_at : ∀ {l : List Tm} {p : Int} {k : Nat} {t : Tm}, l[k]? = some t → t.proc = p → (∀ (j : Nat) (u : Tm), j < k → l[j]? = some u → u.proc ≠ p) → findT l p = some t
  | [], p, k, t, hk, _, _ => by simp at hk
  | x :: l, p, k, t, hk, hp, hall => by
    unfold findT
    cases k with
    | zero =>
      simp at hk
      subst hk
      rw [List.find?_cons_of_pos (by simpa using hp)]
    | succ k =>
      have h0 := hall 0 x (by omega) rfl
      rw [List.find?_cons_of_neg (by simpa using h0)]
      exact findT_at (by simpa using hk) hp (fun j u hj hu => hall (j + 1) u (by omega) (by simpa using hu))
set_option maxRecDepth 100000 in
set_option maxHeartbeats 4000000 in
theorem tfind_any (w : World) (a : Option Addr) (len cap : Nat) (l : List Tm) (hs : Tms w a len cap l) (p : Int) (hm : len ≤ 9223372036854775807) :
    Calls Tryd.prog 52 #[.slice a len cap, .int .i64 p] w fun e w' => e = .returned (.tuple #[.int .i64 (findD l p), .bool (findT l p).isSome]) ∧ Below w.heap.size w w' := by
  have HS := hide hs
  have hl := hs.size
  clear hs
  go_enter Tryd.func52, Tryd.ntmps52
  go_wp2
  go_loopw [10] (fun i wr => ∃ k : Nat, k ≤ len ∧ i = .int .i64 (k : Int) ∧ Hid (∀ j t, j < k → l[j]? = some t → t.proc ≠ p) ∧ Hid (Below w.heap.size w wr)) (fun i _ => len - (intOf i).toNat)
  case atStart => exact ⟨0, by omega, rfl, fun j q hj => by omega, Below.refl _ _⟩
  case round =>
    obtain ⟨k, hk, rfl, hall, hb⟩ := hrel
    by_cases hlt : k < len
    · obtain ⟨t, ht⟩ : ∃ p, l[k]? = some p := ⟨_, List.getElem?_eq_getElem (by rw [hl]; exact hlt)⟩
      obtain ⟨b, off, rfl, hr⟩ := (HS.out.below hb.out).at tm2 (by decide) ht
      have r0 := hr 0 _ rfl
      have r1 := hr 1 _ rfl
      simp only [Nat.add_zero] at r0
      have HB := hide (hb.out.alloc hb.out.size (.cells #[.int .i64 t.proc, .int .i64 t.due] 68))
      have HT := hide ht
      have hk1 : (k : Int) < (len : Int) := by omega
      clear hr ht
      by_cases hp : t.proc = p
      · have HF := hide (findT_at HT.out hp hall.out)
        have d0 : (t.proc == p) = true := by simp [hp]
        clear hp
        go_wp2
        go_ret2
        exact ⟨by unfold findD; rw [HF.out]; rfl, HB.out⟩
      · have d0 : (t.proc == p) = false := by simp [hp]
        have HN := hide hp
        clear hp
        go_wp2
        go_roundw
        case rel =>
          refine ⟨k + 1, by omega, by go_num, fun j q hj hq => ?_, HB.out⟩
          by_cases e : j = k
          · subst e
            rw [HT.out] at hq
            obtain rfl := Option.some.inj hq
            exact HN.out
          · exact hall.out j q (by omega) hq
        case measure => simp [intOf]; omega
    · obtain rfl : k = len := by omega
      have HF := hide (findT_no (l := l) (p := p) (fun j t hj => hall.out j t (by rw [← hl]; exact (List.getElem?_eq_some_iff.1 hj).1) hj))
      go_wp2
      go_ret2
      exact ⟨by unfold findD; rw [HF.out]; rfl, hb.out⟩
end Go.Proofs.YtcfkngkenkbkaaaDoor
