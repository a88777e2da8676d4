/-
  Poke of a list of one's own, whatever its form.
-/
import Derived.Test.YteopkgjkbhcicaaDoorPgStore
namespace Go.Proofs.YteopkgjkbhcicaaDoor
open Go.RowKit FerryCrc
set_option linter.unusedVariables false

set_option maxRecDepth 100000 in
theorem poke_own {base : Nat} {x : Value} {l : List Pg} (n s v : Nat) (w : World) (ho : POwn w base x l) (ok : Oks l) (hm : l.length ≤ 1759218604391) (hn : n < 4294967296) (hz : Sized s) (hv : v < 4294967296) :
    Calls Tryd.prog 42 #[x, .int .u32 (n : Int), .int .i64 (s : Int), .int .u32 (v : Int)] w fun e w' => e = .returned (.tuple #[.int .i64 ((nfault l n s 1 : Nat) : Int), .nilIface]) ∧ POwn w' base x (pkv l n s v) ∧ Oth x.ownBlock w w' := by
  obtain ⟨a, c, rfl, hpg, hform⟩ := ho.pgs ok hm
  rcases hform with ⟨rfl, rfl⟩ | ⟨g, rfl, hg⟩
  · have H1 := hide (numberFault_any _ _ _ [] n s 1 2 w hpg hn (.inr (.inl ⟨rfl, rfl⟩)) hz)
    have h0 : ¬ nfault [] n s 1 = 0 := fun h => by
      obtain ⟨_, p, hp, _⟩ := nfault_zero h
      simp at hp
    have hd : ((nfault [] n s 1 : Nat) : Int) ≠ 0 := by omega
    have hd1 : (((nfault [] n s 1 : Nat) : Int) != 0) = true := by simpa using hd
    have HV : Hid (pkv [] n s v = []) := by unfold Hid pkv; rw [if_neg h0]
    have HO := hide ho
    clear hpg hd h0 ho
    generalize nfault [] n s 1 = f at *
    go_enter Tryd.func42, Tryd.ntmps42
    go_wp2_with fail
    refine Calls.mono H1.out ?_
    rintro e w' ⟨rfl, rfl⟩
    go_wp2
    go_ret2
    exact ⟨rfl, by rw [HV.out]; exact HO.out, Oth.refl _ _⟩
  · refine (poke_any g c base l n s v w ho ok hm hn hz hv).mono ?_
    rintro e w' ⟨rfl, h1, h2⟩
    exact ⟨rfl, h1, h2⟩
theorem pkv_len (l : List Pg) (n s v : Nat) : (pkv l n s v).length = l.length := by unfold pkv; split; exact stored_len _ _ _ _; rfl
end Go.Proofs.YteopkgjkbhcicaaDoor
