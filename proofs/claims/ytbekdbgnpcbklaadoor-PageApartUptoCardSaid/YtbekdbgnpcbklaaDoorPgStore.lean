/-
  Store and Poke of the program, put and Store of the document.
-/
import Derived.Test.YtbekdbgnpcbklaaDoorPgPut
namespace Go.Proofs.YtbekdbgnpcbklaaDoor
open Go.RowKit FerryCrc
set_option linter.unusedVariables false

/-- The pages with a number stored. -/
def stored (l : List Pg) (n s v : Nat) : List Pg := upd l (inR n s) (byt v s n) (isQ (n / 64))
/-- What Store answers. -/
def stv (l : List Pg) (n s v : Nat) : List Pg := if nfault l n s 1 = 0 then stored l n s v else []
theorem stored_len (l : List Pg) (n s v : Nat) : (stored l n s v).length = l.length := upd_len _ _ _ _
theorem stored_ok {l : List Pg} (h : Oks l) (n s v : Nat) : Oks (stored l n s v) := upd_ok h (fun a _ => byt_lt _ _ _ _)
theorem pown_nil (w : World) (base : Nat) : POwn w base (.slice none 0 0) [] := World.ownsRow_nil _ _ _ _

set_option maxRecDepth 100000 in
theorem store_any (a : Option Addr) (len cap : Nat) (l : List Pg) (n s v : Nat) (w : World) (hs : Pgs w a len cap l) (hn : n < 4294967296) (hz : Sized s) (hv : v < 4294967296) :
    Calls Tryd.prog 9 #[.slice a len cap, .int .u32 (n : Int), .int .i64 (s : Int), .int .u32 (v : Int)] w fun e w' => ∃ x, e = .returned (.tuple #[x, .int .i64 ((nfault l n s 1 : Nat) : Int), .nilIface]) ∧ POwn w' w.heap.size x (stv l n s v) ∧ Below w.heap.size w w' := by
  have H1 := hide (numberFault_any a len cap l n s 1 2 w hs hn (.inr (.inl ⟨rfl, rfl⟩)) hz)
  by_cases h0 : nfault l n s 1 = 0
  · obtain ⟨ha, p, hp, _⟩ := nfault_zero h0
    have hq : n / 64 < l.length := (List.getElem?_eq_some_iff.1 hp).1
    obtain rfl := hs.size
    have H2 := hide (copy_any a _ cap l w hs)
    have HP := hide (fun w' g base ho => put_any g l.length base l n s v w' ho hs.ok hs.most hq hn hz ha hv)
    have HV : Hid (stv l n s v = stored l n s v) := by unfold Hid stv; rw [if_pos h0]
    rw [h0] at H1 ⊢
    clear hs hp hq ha h0 hz hv hn
    go_enter Tryd.func9, Tryd.ntmps9
    go_wp2_with fail
    refine Calls.mono H1.out ?_
    rintro e w' ⟨rfl, rfl⟩
    go_wp2_with fail
    refine Calls.mono H2.out ?_
    rintro e w1 ⟨g, rfl, hg, ho, hb⟩
    have HG := hide hg
    have HO := hide ho
    have HB := hide hb
    clear hg ho hb
    go_wp2_with fail
    refine Calls.mono (HP.out w1 g _ HO.out) ?_
    rintro e w2 ⟨rfl, ho, hb⟩
    have HO2 := hide ho
    have HB2 := hide (HB.out.trans (hb.mono HG.out))
    clear ho hb HO HB
    go_wp2
    go_ret3
    refine ⟨_, rfl, ?_, HB2.out⟩
    rw [HV.out]
    unfold POwn
    rw [stored_len]
    have := HO2.out
    unfold POwn at this
    rw [upd_len] at this
    exact this
  · have hd : ((nfault l n s 1 : Nat) : Int) ≠ 0 := by omega
    have hd1 : (((nfault l n s 1 : Nat) : Int) != 0) = true := by simpa using hd
    have HV : Hid (stv l n s v = []) := by unfold Hid stv; rw [if_neg h0]
    clear hs hd h0
    generalize nfault l n s 1 = f at *
    go_enter Tryd.func9, Tryd.ntmps9
    go_wp2_with fail
    refine Calls.mono H1.out ?_
    rintro e w' ⟨rfl, rfl⟩
    go_wp2
    go_ret3
    exact ⟨_, rfl, by rw [HV.out]; exact pown_nil _ _, Below.refl _ _⟩
set_option maxRecDepth 100000 in
theorem store_bad {w : World} {A : Addr} (h12 : w.cell? ⟨0, 0, none⟩ = some (sent A)) (a : Option Addr) (len cap n : Nat) (s : Int) (v : Nat) (h1 : ¬ s = 1) (h2 : ¬ s = 2) (h4 : ¬ s = 4) :
    Calls Tryd.prog 9 #[.slice a len cap, .int .u32 (n : Int), .int .i64 s, .int .u32 (v : Int)] w fun e w' => e = .returned (.tuple #[.slice none 0 0, .int .i64 0, sent A]) ∧ Below w.heap.size w w' := by
  have H1 := hide (numberFault_bad h12 a len cap n s 2 h1 h2 h4)
  clear h12 h1 h2 h4
  unfold sent at *
  go_enter Tryd.func9, Tryd.ntmps9
  go_wp2_with fail
  refine Calls.mono H1.out ?_
  rintro e w' ⟨rfl, hb⟩
  go_wp2
  go_ret3
  exact ⟨rfl, hb⟩

/-- What a list of one's own is behind Poke. -/
def pkv (l : List Pg) (n s v : Nat) : List Pg := if nfault l n s 1 = 0 then stored l n s v else l
end Go.Proofs.YtbekdbgnpcbklaaDoor
