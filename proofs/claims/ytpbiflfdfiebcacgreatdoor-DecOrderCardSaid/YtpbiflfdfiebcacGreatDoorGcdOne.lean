/- nat.Gcd where the lesser number has one limb at most. -/
import Derived.Test.YtpbiflfdfiebcacGreatDoorDivOne
import Derived.Deep.RegionWith
namespace Go.Proofs.YtpbiflfdfiebcacGreatDoor
open Go.RowKit Lim

theorem gcd_step (a b : Int) (ha : 0 ≤ a) (hb : 0 ≤ b) : Int.gcd b (a % b) = Int.gcd a b := by
  obtain ⟨a, rfl⟩ := Int.eq_ofNat_of_zero_le ha
  obtain ⟨b, rfl⟩ := Int.eq_ofNat_of_zero_le hb
  show Nat.gcd b ((a : Int) % (b : Int)).natAbs = Nat.gcd a b
  rw [show ((a : Int) % (b : Int)).natAbs = a % b from rfl, Nat.gcd_comm b, Nat.gcd_comm a b]
  exact (Nat.gcd_rec b a).symm

theorem Row.keep {w w' : World} {g : Nat} {l : List Int} (h : Row w g l) (hb : Below w.heap.size w w') : Row w' g l := by
  unfold Row at *
  rw [hb.block g (Array.getElem?_eq_some_iff.1 h).1]; exact h
theorem gcd_one {x y d left : Int} (hx : 0 ≤ x) (hd : 0 < d) (hy : y = d) (hl : left = x % d) : (Int.gcd d left : Int) = Int.gcd x y := by
  subst hy hl; rw [gcd_step x y hx (by omega)]
theorem gcd_bound (d left : Int) (hd : 0 < d) (h1 : d < 18446744073709551616) : ((Int.gcd d left : Nat) : Int) < 18446744073709551616 := by
  have : Int.gcd d left ≤ d.natAbs := Nat.gcd_le_left _ (by omega)
  omega

end Go.Proofs.YtpbiflfdfiebcacGreatDoor
