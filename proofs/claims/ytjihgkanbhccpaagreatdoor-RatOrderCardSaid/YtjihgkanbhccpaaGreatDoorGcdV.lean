/- nat.Gcd, told by values; and what it is worth. -/
import Derived.Test.YtjihgkanbhccpaaGreatDoorNm
import Derived.Test.YtjihgkanbhccpaaGreatDoorGcdN
namespace Go.Proofs.YtjihgkanbhccpaaGreatDoor
open Go.RowKit Lim

theorem nGcd {w : World} {ao ao' : Option Addr} {n c n' c' : Nat} {x y : Int} (h : NatA w ao n c x) (h' : NatA w ao' n' c' y) (hn : n ≤ 274877906944) (hn' : n' ≤ 274877906944) :
    Calls Tryz.prog 89 #[.slice ao n c, .slice ao' n' c'] w fun e w' => ∃ a k d, e = .returned (.slice a k d) ∧ NatO w' a k d (Int.gcd x y : Nat) ∧ k ≤ n + n' + 1 ∧ Below w.heap.size w w' := by
  obtain ⟨b, o, l, h1, h2, h3, h4, rfl⟩ := h.ex
  obtain ⟨b', o', l', h1', h2', h3', h4', rfl⟩ := h'.ex
  refine (gcd_any ao n c b o ao' n' c' b' o' l l' w h1 h1' h2 h2' hn hn' h3 h3' h4 h4').mono ?_
  rintro e w' hg
  obtain ⟨v, r, rfl, hnw, hI, hlen, hB⟩ := hg.ex
  obtain ⟨a, d, rfl, hO⟩ := hnw.o hI
  exact ⟨a, _, d, rfl, hO, hlen, hB⟩
theorem gcd_left {x y : Int} : x % (Int.gcd x y : Nat) = 0 := Int.emod_eq_zero_of_dvd (Int.gcd_dvd_left x y)
theorem gcd_right {x y : Int} : y % (Int.gcd x y : Nat) = 0 := Int.emod_eq_zero_of_dvd (Int.gcd_dvd_right x y)
theorem gcd_parts {x y : Int} (h : ((Int.gcd x y : Nat) : Int) ≠ 0) : ((Int.gcd (x / (Int.gcd x y : Nat)) (y / (Int.gcd x y : Nat)) : Nat) : Int) = 1 := by
  rw [Int.gcd_ediv_gcd_ediv_gcd (by omega)]
  rfl
theorem gcd_scaled {x y z : Int} (hz : 0 ≤ z) : ((Int.gcd (x * z) (y * z) : Nat) : Int) = (Int.gcd x y : Nat) * z := by
  rw [Int.gcd_mul_right, Int.natCast_mul, Int.natAbs_of_nonneg hz]
theorem gcd_zero_both {x y : Int} (h : ((Int.gcd x y : Nat) : Int) = 0) : x = 0 ∧ y = 0 := by
  have : Int.gcd x y = 0 := by omega
  exact Int.gcd_eq_zero_iff.1 this
end Go.Proofs.YtjihgkanbhccpaaGreatDoor
