/-
  Walk of the law AluRing.
-/
import Derived.Test.YtbdhlpbddddpeaaDoorAlu
namespace Go.Proofs.YtbdhlpbddddpeaaDoor.aluRing
open Go.RowKit FerryAlu

/-- The law's own do answers so. -/
def Does (w : World) (op : Int) (b c r : Int) : Prop := Calls Tryd.prog 11 #[.int .i64 op, .int .u32 b, .int .u32 c] w fun e w' => e = .returned (.int .u32 r) ∧ w = w'

set_option maxRecDepth 100000 in
set_option maxHeartbeats 400000 in
theorem walk (w : World) (a b c s p t u v x y z n o e : Nat) 
    (h_m35 : Hid (Does w 9 3 5 15))
    (h_s01 : Hid (Does w 2 0 1 4294967295))
    (h_add : Hid (Does w 1 a b s))
    (h_add2 : Hid (Does w 1 b a s))
    (h_sub : Hid (Does w 2 s b a))
    (h_mul : Hid (Does w 9 a b p))
    (h_mul2 : Hid (Does w 9 b a p))
    (h_msc : Hid (Does w 9 s c t))
    (h_mac : Hid (Does w 9 a c u))
    (h_mbc : Hid (Does w 9 b c v))
    (h_auv : Hid (Does w 1 u v t))
    (h_mpc : Hid (Does w 9 p c x))
    (h_mav : Hid (Does w 9 a v x))
    (h_asc : Hid (Does w 1 s c y))
    (h_abc : Hid (Does w 1 b c z))
    (h_aaz : Hid (Does w 1 a z y))
    (h_and : Hid (Does w 3 a b n))
    (h_or : Hid (Does w 4 a b o))
    (h_xor : Hid (Does w 5 a b e))
    (h_ano : Hid (Does w 1 n o s))
    (h_son : Hid (Does w 2 o n e))
    (h_xeb : Hid (Does w 5 e b a))
    (h_ane : Hid (Does w 3 n e 0)) :
    Calls Tryd.prog 4 #[.int .u32 (a : Int), .int .u32 (b : Int), .int .u32 (c : Int)] w fun e w' => e = .returned (.bool true) ∧ w = w' := by
  go_enter Tryd.func4, Tryd.ntmps4
  go_wp2_with fail
  refine Calls.mono h_m35.out ?_
  rintro e w' ⟨rfl, rfl⟩
  go_wp2_with fail
  refine Calls.mono h_s01.out ?_
  rintro e w' ⟨rfl, rfl⟩
  go_wp2_with fail
  refine Calls.mono h_add.out ?_
  rintro e w' ⟨rfl, rfl⟩
  go_wp2_with fail
  refine Calls.mono h_add2.out ?_
  rintro e w' ⟨rfl, rfl⟩
  go_wp2_with fail
  refine Calls.mono h_sub.out ?_
  rintro e w' ⟨rfl, rfl⟩
  go_wp2_with fail
  refine Calls.mono h_mul.out ?_
  rintro e w' ⟨rfl, rfl⟩
  go_wp2_with fail
  refine Calls.mono h_mul2.out ?_
  rintro e w' ⟨rfl, rfl⟩
  go_wp2_with fail
  refine Calls.mono h_msc.out ?_
  rintro e w' ⟨rfl, rfl⟩
  go_wp2_with fail
  refine Calls.mono h_mac.out ?_
  rintro e w' ⟨rfl, rfl⟩
  go_wp2_with fail
  refine Calls.mono h_mbc.out ?_
  rintro e w' ⟨rfl, rfl⟩
  go_wp2_with fail
  refine Calls.mono h_auv.out ?_
  rintro e w' ⟨rfl, rfl⟩
  go_wp2_with fail
  refine Calls.mono h_mul.out ?_
  rintro e w' ⟨rfl, rfl⟩
  go_wp2_with fail
  refine Calls.mono h_mpc.out ?_
  rintro e w' ⟨rfl, rfl⟩
  go_wp2_with fail
  refine Calls.mono h_mbc.out ?_
  rintro e w' ⟨rfl, rfl⟩
  go_wp2_with fail
  refine Calls.mono h_mav.out ?_
  rintro e w' ⟨rfl, rfl⟩
  go_wp2_with fail
  refine Calls.mono h_asc.out ?_
  rintro e w' ⟨rfl, rfl⟩
  go_wp2_with fail
  refine Calls.mono h_abc.out ?_
  rintro e w' ⟨rfl, rfl⟩
  go_wp2_with fail
  refine Calls.mono h_aaz.out ?_
  rintro e w' ⟨rfl, rfl⟩
  go_wp2_with fail
  refine Calls.mono h_and.out ?_
  rintro e w' ⟨rfl, rfl⟩
  go_wp2_with fail
  refine Calls.mono h_or.out ?_
  rintro e w' ⟨rfl, rfl⟩
  go_wp2_with fail
  refine Calls.mono h_xor.out ?_
  rintro e w' ⟨rfl, rfl⟩
  go_wp2_with fail
  refine Calls.mono h_ano.out ?_
  rintro e w' ⟨rfl, rfl⟩
  go_wp2_with fail
  refine Calls.mono h_son.out ?_
  rintro e w' ⟨rfl, rfl⟩
  go_wp2_with fail
  refine Calls.mono h_xeb.out ?_
  rintro e w' ⟨rfl, rfl⟩
  go_wp2_with fail
  refine Calls.mono h_ane.out ?_
  rintro e w' ⟨rfl, rfl⟩
  go_wp2
  go_ret
  exact ⟨rfl, rfl⟩

theorem law (a b c : Nat) (w : World) (ha : a < 4294967296) (hb : b < 4294967296) (hc : c < 4294967296) :
    Calls Tryd.prog 4 #[.int .u32 (a : Int), .int .u32 (b : Int), .int .u32 (c : Int)] w fun e w' => e = .returned (.bool true) ∧ Below w.heap.size w w' := by
  have l : ∀ n : Nat, n % 4294967296 < 4294967296 := fun n => Nat.mod_lt _ (by decide)
  have hand : a &&& b < 4294967296 := Nat.and_lt_two_pow (n := 32) a hb
  have hor : a ||| b < 4294967296 := Nat.or_lt_two_pow (n := 32) ha hb
  have hxor : a ^^^ b < 4294967296 := Nat.xor_lt_two_pow (n := 32) ha hb
  have o1 := or_is a b
  have o2 := sum_is a b
  have g : ∀ {op x y r r' : Int}, Does w op x y r → r = r' → Does w op x y r' := fun h e => e ▸ h
  refine (walk w a b c ((a + b) % 4294967296) (a * b % 4294967296) ((a + b) % 4294967296 * c % 4294967296) (a * c % 4294967296) (b * c % 4294967296) (a * b % 4294967296 * c % 4294967296) (((a + b) % 4294967296 + c) % 4294967296) ((b + c) % 4294967296) (a &&& b) (a ||| b) (a ^^^ b)
    (do_of (do_mul 3 5 w (by decide) (by decide))) (do_of (do_sub 0 1 w (by decide) (by decide)))
    (do_of (do_add a b w ha hb)) (g (do_of (do_add b a w hb ha)) ?_) (g (do_of (do_sub _ b w (l _) hb)) ?_) (do_of (do_mul a b w ha hb)) (g (do_of (do_mul b a w hb ha)) ?_)
    (do_of (do_mul _ c w (l _) hc)) (do_of (do_mul a c w ha hc)) (do_of (do_mul b c w hb hc)) (g (do_of (do_add _ _ w (l _) (l _))) ?_)
    (do_of (do_mul _ c w (l _) hc)) (g (do_of (do_mul a _ w ha (l _))) ?_) (do_of (do_add _ c w (l _) hc)) (do_of (do_add b c w hb hc)) (g (do_of (do_add a _ w ha (l _))) ?_)
    (do_of (do_and a b w ha hb)) (do_of (do_or a b w ha hb)) (do_of (do_xor a b w ha hb)) (g (do_of (do_add _ _ w hand hor)) ?_) (g (do_of (do_sub _ _ w hor hand)) ?_) (g (do_of (do_xor _ b w hxor hb)) ?_) (g (do_of (do_and _ _ w hand hxor)) ?_)).mono fun e w' h => ⟨h.1, h.2 ▸ Below.refl _ _⟩
  · rw [Nat.add_comm]
  · congr 1; omega
  · rw [Nat.mul_comm]
  · congr 1
    rw [← Nat.add_mod, ← Nat.add_mul]
    conv => rhs; rw [Nat.mul_mod, Nat.mod_mod, ← Nat.mul_mod]
  · congr 1
    conv => rhs; rw [Nat.mul_mod, Nat.mod_mod, ← Nat.mul_mod]
    conv => lhs; rw [Nat.mul_mod, Nat.mod_mod, ← Nat.mul_mod]
    rw [Nat.mul_assoc]
  · congr 1; omega
  · congr 1; omega
  · congr 1; omega
  · rw [xor_xor]
  · rw [and_xor]; rfl
end Go.Proofs.YtbdhlpbddddpeaaDoor.aluRing
