/- Several texts, joined: Ref2b. -/
import Derived.Test.YtlbndpkdkdgggaaGreatDoorJrl
import Derived.Test.YtlbndpkdkdgggaaGreatDoorJrm
import Derived.Test.YtlbndpkdkdgggaaGreatDoorJrb
namespace Go.Proofs.YtlbndpkdkdgggaaGreatDoor
open Go.RowKit Lim

set_option maxHeartbeats 4000000 in
set_option maxRecDepth 100000 in
theorem eAdd {w : World} {ao ao' : Option Addr} {n c n' c' : Nat} {x y : Int} (h : NatA w ao n c x) (h' : NatA w ao' n' c' y) (hn : n ≤ 137438953472) (hn' : n' ≤ 137438953472) :
    Calls Tryz.prog 72 #[.agg #[.slice ao n c], .agg #[.slice ao' n' c']] w fun e w' => ∃ a k d, e = .returned (.agg #[.slice a k d]) ∧ NatO w' a k d (x + y) ∧ k ≤ 2 * n + 2 * n' + 1 ∧ Below w.heap.size w w' := by
  have B0 := below3 w (.cells #[.slice ao n c] 35) (.cells #[.slice ao' n' c'] 35) (.cells #[.slice none 0 0] 35)
  have S0 := slot_last3 w (.cells #[.slice ao n c] 35) (.cells #[.slice ao' n' c'] 35) (.slice none 0 0) 35
  have h := h.keep B0
  have h' := h'.keep B0
  go_enter Tryz.func72, Tryz.ntmps72
  go_wp2_with fail
  refine (rAdd h h' hn hn').mono ?_
  rintro e w1 ⟨a, k, d, rfl, hO, hk, hB⟩
  have S1 := S0.keep hB
  have c1 := S1.cell
  have f1 := S1.free
  have S2 := S1.put (.slice a k d)
  have hO1 := hO.put S1 not_int (.slice a k d)
  have HB := belowPut B0 hB (g := w.heap.size + 1 + 1) (by omega) (.slice a k d)
  clear h h' hO hB S0 S1 B0
  go_wp2
  refine bodyPost_ret (ret_dec rfl rfl S2) rfl ?_
  exact ⟨a, k, d, rfl, hO1, hk, HB⟩
set_option maxHeartbeats 4000000 in
set_option maxRecDepth 100000 in
theorem eOfNat {w : World} {ao : Option Addr} {n c : Nat} {x : Int} (h : NatA w ao n c x) (hn : n ≤ 137438953472) :
    Calls Tryz.prog 106 #[.slice ao n c] w fun e w' => ∃ a k d, e = .returned (.agg #[.slice a k d]) ∧ NatO w' a k d (x * U36) ∧ k ≤ 2 * n + 76 ∧ Below w.heap.size w w' := by
  have B0 := below_alloc w (.cells #[.slice none 0 0] 35)
  have S0 := slot_new w (.slice none 0 0) 35
  have h := h.keep B0
  go_enter Tryz.func106, Tryz.ntmps106
  go_wp2_with fail
  refine eOne.mono ?_
  rintro e w1 ⟨a, k, d, rfl, hO, hk, hB⟩
  have h := h.keep hB
  have S0 := S0.keep hB
  have B0 := joinB B0 hB
  clear hB
  go_wp2_with fail
  refine (rMul h hO.a hn (by omega)).mono ?_
  rintro e w2 ⟨a', k', d', rfl, hO', hk', hB⟩
  have S1 := S0.keep hB
  have c1 := S1.cell
  have f1 := S1.free
  have S2 := S1.put (.slice a' k' d')
  have hO1 := hO'.put S1 not_int (.slice a' k' d')
  have HB := belowPut B0 hB (g := w.heap.size) (Nat.le_refl _) (.slice a' k' d')
  clear h hO hO' hB S0 S1 B0
  go_wp2
  refine bodyPost_ret (ret_dec rfl rfl S2) rfl ?_
  exact ⟨a', k', d', rfl, hO1, by omega, HB⟩
set_option maxHeartbeats 4000000 in
set_option maxRecDepth 100000 in
theorem eOf {w : World} {x : Int} (h0 : 0 ≤ x) (h1 : x < 18446744073709551616) :
    Calls Tryz.prog 73 #[.int .u64 x] w fun e w' => ∃ a k d, e = .returned (.agg #[.slice a k d]) ∧ NatO w' a k d (x * U36) ∧ k ≤ 80 ∧ Below w.heap.size w w' := by
  have B0 := below_alloc w (.cells #[.slice none 0 0] 35)
  have S0 := slot_new w (.slice none 0 0) 35
  go_enter Tryz.func73, Tryz.ntmps73
  go_wp2_with fail
  refine (rOf h0 h1).mono ?_
  rintro e w1 ⟨a, k, d, rfl, hO, hk, hB⟩
  have S0 := S0.keep hB
  have B0 := joinB B0 hB
  clear hB
  go_wp2_with fail
  refine (eOfNat hO.a (by omega)).mono ?_
  rintro e w2 ⟨a', k', d', rfl, hO', hk', hB⟩
  have S1 := S0.keep hB
  have c1 := S1.cell
  have f1 := S1.free
  have S2 := S1.put (.slice a' k' d')
  have hO1 := hO'.put S1 not_int (.slice a' k' d')
  have HB := belowPut B0 hB (g := w.heap.size) (Nat.le_refl _) (.slice a' k' d')
  clear hO hO' hB S0 S1 B0
  go_wp2
  refine bodyPost_ret (ret_dec rfl rfl S2) rfl ?_
  exact ⟨a', k', d', rfl, hO1, by omega, HB⟩
end Go.Proofs.YtlbndpkdkdgggaaGreatDoor
