/- dec.Basis tells so many ten-thousandths. -/
import Derived.Test.YtpbiflfdfiebcabGreatDoorDec3
namespace Go.Proofs.YtpbiflfdfiebcabGreatDoor
open Go.RowKit Lim

set_option maxHeartbeats 2000000 in
set_option maxRecDepth 100000 in
theorem dBasis {w : World} {x : Int} (h0 : 0 ≤ x) (h1 : x < 18446744073709551616) :
    Calls Tryz.prog 26 #[.int .u64 x] w fun e w' => ∃ a k d, e = .returned (.agg #[.slice a k d]) ∧ NatO w' a k d (U36 / 10000 * x) ∧ k ≤ 60 ∧ Below w.heap.size w w' := by
  have B0 := below_alloc w (.cells #[.slice none 0 0] 34)
  have S0 := slot_new w (.slice none 0 0) 34
  go_enter Tryz.func26, Tryz.ntmps26
  go_wp2_with fail
  refine dUnit.mono ?_
  rintro e w1 ⟨a1, k1, d1, rfl, hO1, hk1, hB⟩
  have S0 := S0.keep hB
  have B0 := joinB B0 hB
  clear hB
  go_wp2_with fail
  refine (nOf (x := 10000) (by decide) (by decide)).mono ?_
  rintro e w2 ⟨a2, k2, d2, rfl, hO2, hk2, hB⟩
  have S0 := S0.keep hB
  have hO1 := hO1.keep hB
  have B0 := joinB B0 hB
  clear hB
  go_wp2_with fail
  refine (nDiv hO1.a hO2.a (by omega) (by omega) (by decide)).mono ?_
  rintro e w3 ⟨a3, k3, d3, a4, k4, d4, rfl, hO3, hO4, hk3, hk4, hB⟩
  have S0 := S0.keep hB
  have B0 := joinB B0 hB
  clear hB hO1 hO2 hO4
  go_wp2_with fail
  refine (dTimes hO3.a (by omega) h0 h1).mono ?_
  rintro e w5 ⟨a', k', d', rfl, hO', hk', hB⟩
  have S1 := S0.keep hB
  have c1 := S1.cell
  have f1 := S1.free
  have S2 := S1.put (.slice a' k' d')
  have hOz := hO'.put S1 not_int (.slice a' k' d')
  have HB := belowPut B0 hB (g := w.heap.size) (Nat.le_refl _) (.slice a' k' d')
  clear hO3 hO' hB S0 S1 B0
  go_wp2
  refine bodyPost_ret (ret_dec rfl rfl S2) rfl ?_
  exact ⟨a', k', d', rfl, hOz, by omega, HB⟩
end Go.Proofs.YtpbiflfdfiebcabGreatDoor
