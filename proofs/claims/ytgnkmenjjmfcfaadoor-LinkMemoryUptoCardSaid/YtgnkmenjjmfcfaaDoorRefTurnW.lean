/-
  Walk of the document's Turn.
-/
import Derived.Test.YtgnkmenjjmfcfaaDoorBase
import Derived.BigRegion
namespace Go.Proofs.YtgnkmenjjmfcfaaDoor
open Go.RowKit FerryCrc

/-- The burst lies within the bytes. -/
def Fits (len pos mask : Nat) : Prop := ∀ i, i < 32 → mask.testBit i = true → pos + i < 8 * len

theorem val_flip {x p : Nat} (hx : x < 256) : bits .xor .u8 (x : Int) (2 ^ (p % 8) % 256) = ((x ^^^ 2 ^ (p % 8) : Nat) : Int) := by
  have h8 : 2 ^ (p % 8) < 256 := pow_lt8 p
  have e : ((2 : Int) ^ (p % 8) % 256) = ((2 ^ (p % 8) : Nat) : Int) := by
    have : ((2 ^ (p % 8) : Nat) : Int) = (2 : Int) ^ (p % 8) := by simp
    rw [← this]
    generalize 2 ^ (p % 8) = q at h8
    omega
  rw [e]
  exact u8_xor_nat x _ hx h8

theorem own_flip {w : World} {base g len c x p : Nat} {t : List Nat} (h : Own w base (.slice (some ⟨g, 0, none⟩) len c) t) (hl : t.length = len) (hx : t[p / 8]? = some x) (hx8 : x < 256) :
    Own (w.setCell ⟨g, p / 8, none⟩ (.int .u8 (bits .xor .u8 (x : Int) (2 ^ (p % 8) % 256)))).drew base (.slice (some ⟨g, 0, none⟩) len c) (flipB t p) := by
  subst hl
  rw [val_flip hx8]
  have := (World.ownsRow.stored h (p / 8) (bv (x ^^^ 2 ^ (p % 8)))).1
  unfold Own
  rw [flip_length]
  unfold flipB
  rw [hx, List.map_set]
  exact this.drew

end Go.Proofs.YtgnkmenjjmfcfaaDoor
