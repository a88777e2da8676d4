/-
  Store and Poke of the program, put and Store of the document.
-/
import Derived.Test.YteopkgjkbhcicaaDoorPgPut
namespace Go.Proofs.YteopkgjkbhcicaaDoor
open Go.RowKit FerryCrc
set_option linter.unusedVariables false

/-- The pages with a number stored. -/
def stored (l : List Pg) (n s v : Nat) : List Pg := upd l (inR n s) (byt v s n) (isQ (n / 64))
/-- What Store answers. -/
def stv (l : List Pg) (n s v : Nat) : List Pg := if nfault l n s 1 = 0 then stored l n s v else []
theorem stored_len (l : List Pg) (n s v : Nat) : (stored l n s v).length = l.length := upd_len _ _ _ _
theorem stored_ok {l : List Pg} (h : Oks l) (n s v : Nat) : Oks (stored l n s v) := upd_ok h (fun a _ => byt_lt _ _ _ _)
theorem pown_nil (w : World) (base : Nat) : POwn w base (.slice none 0 0) [] := World.ownsRow_nil _ _ _ _

/-- What a list of one's own is behind Poke. -/
def pkv (l : List Pg) (n s v : Nat) : List Pg := if nfault l n s 1 = 0 then stored l n s v else l
set_option maxRecDepth 100000 in
theorem poke_any (g cap base : Nat) (l : List Pg) (n s v : Nat) (w : World) (ho : POwn w base (.slice (some ⟨g, 0, none⟩) l.length cap) l) (ok : Oks l) (hm : l.length ≤ 1759218604391) (hn : n < 4294967296) (hz : Sized s) (hv : v < 4294967296) :
    Calls Tryd.prog 42 #[.slice (some ⟨g, 0, none⟩) l.length cap, .int .u32 (n : Int), .int .i64 (s : Int), .int .u32 (v : Int)] w fun e w' => e = .returned (.tuple #[.int .i64 ((nfault l n s 1 : Nat) : Int), .nilIface]) ∧ POwn w' base (.slice (some ⟨g, 0, none⟩) l.length cap) (pkv l n s v) ∧ Oth (some g) w w' := by
  obtain ⟨a0, c0, e0, hs, _⟩ := ho.pgs ok hm
  simp only [Value.slice.injEq, true_and] at e0
  obtain ⟨rfl, rfl⟩ := e0
  have H1 := hide (numberFault_any _ _ _ l n s 1 2 w hs hn (.inr (.inl ⟨rfl, rfl⟩)) hz)
  by_cases h0 : nfault l n s 1 = 0
  · obtain ⟨ha, p, hp, _⟩ := nfault_zero h0
    have hq : n / 64 < l.length := (List.getElem?_eq_some_iff.1 hp).1
    have HP := hide (put_any g cap base l n s v w ho ok hm hq hn hz ha hv)
    have HV : Hid (pkv l n s v = stored l n s v) := by unfold Hid pkv; rw [if_pos h0]
    rw [h0] at H1 ⊢
    clear hs hp hq ha h0 hz hv hn
    go_enter Tryd.func42, Tryd.ntmps42
    go_wp2_with fail
    refine Calls.mono H1.out ?_
    rintro e w' ⟨rfl, rfl⟩
    go_wp2_with fail
    refine Calls.mono HP.out ?_
    rintro e w2 ⟨rfl, ho2, hb⟩
    have HO2 := hide ho2
    have HB2 := hide hb
    clear ho2 hb
    go_wp2
    go_ret2
    exact ⟨rfl, by rw [HV.out]; exact HO2.out, HB2.out⟩
  · have hd : ((nfault l n s 1 : Nat) : Int) ≠ 0 := by omega
    have hd1 : (((nfault l n s 1 : Nat) : Int) != 0) = true := by simpa using hd
    have HV : Hid (pkv l n s v = l) := by unfold Hid pkv; rw [if_neg h0]
    have HO := hide ho
    clear hs hd h0 ho
    generalize nfault l n s 1 = f at *
    go_enter Tryd.func42, Tryd.ntmps42
    go_wp2_with fail
    refine Calls.mono H1.out ?_
    rintro e w' ⟨rfl, rfl⟩
    go_wp2
    go_ret2
    exact ⟨rfl, by rw [HV.out]; exact HO.out, Oth.refl _ _⟩
end Go.Proofs.YteopkgjkbhcicaaDoor
