/- Package dec: quotients with each of their answers; gleanhelp.Dec. -/
import Derived.Test.YtjihgkanbhccpaaGreatDoorJxc
import Derived.Test.YtjihgkanbhccpaaGreatDoorJya
namespace Go.Proofs.YtjihgkanbhccpaaGreatDoor
open Go.RowKit Lim

theorem rnd_up {p z : Int} (hz : z ≠ 0) : rnd true p z = upV p z := by
  unfold rnd upV
  rw [if_neg hz]
  by_cases h : p % z = 0 <;> simp [h]
theorem dMulDivV {w : World} {ao0 : Option Addr} {n0 c0 : Nat} {x0 : Int} {ao1 : Option Addr} {n1 c1 : Nat} {x1 : Int} {ao2 : Option Addr} {n2 c2 : Nat} {x2 : Int} (h0 : NatA w ao0 n0 c0 x0) (hn0 : n0 ≤ 274877906944) (h1 : NatA w ao1 n1 c1 x1) (hn1 : n1 ≤ 274877906944) (h2 : NatA w ao2 n2 c2 x2) (hn2 : n2 ≤ 274877906944) :
    Calls Tryz.prog 35 #[.agg #[.slice ao0 n0 c0], .agg #[.slice ao1 n1 c1], .agg #[.slice ao2 n2 c2]] w fun e w' => ∃ a k d, e = .returned (.tuple #[.agg #[.slice a k d], .int .i64 (decE x2)]) ∧ NatO w' a k d (x0 * x1 / x2) ∧ k ≤ n0 + n1 + 2 ∧ Below w.heap.size w w' := by
  unfold decE
  by_cases hz : x2 = 0
  · have e2 : x0 * x1 / x2 = 0 := by rw [hz]; simp
    rw [if_pos hz, e2]
    refine (dMulDivZ h0 hn0 h1 hn1 h2 hn2 hz).mono ?_
    rintro e w' ⟨rfl, hB⟩
    exact ⟨none, 0, 0, rfl, natO_nil _, Nat.zero_le _, hB⟩
  · rw [if_neg hz]
    exact dMulDiv h0 hn0 h1 hn1 h2 hn2 hz
theorem dMulDivUpV {w : World} {ao0 : Option Addr} {n0 c0 : Nat} {x0 : Int} {ao1 : Option Addr} {n1 c1 : Nat} {x1 : Int} {ao2 : Option Addr} {n2 c2 : Nat} {x2 : Int} (h0 : NatA w ao0 n0 c0 x0) (hn0 : n0 ≤ 274877906944) (h1 : NatA w ao1 n1 c1 x1) (hn1 : n1 ≤ 274877906944) (h2 : NatA w ao2 n2 c2 x2) (hn2 : n2 ≤ 274877906944) :
    Calls Tryz.prog 106 #[.agg #[.slice ao0 n0 c0], .agg #[.slice ao1 n1 c1], .agg #[.slice ao2 n2 c2]] w fun e w' => ∃ a k d, e = .returned (.tuple #[.agg #[.slice a k d], .int .i64 (decE x2)]) ∧ NatO w' a k d (upV (x0 * x1) x2) ∧ k ≤ n0 + n1 + 2 ∧ Below w.heap.size w w' := by
  by_cases hz : x2 = 0
  · have e1 : decE x2 = 21 := by unfold decE; rw [if_pos hz]
    have e2 : upV (x0 * x1) x2 = 0 := by unfold upV; rw [if_pos hz]
    rw [e1, e2]
    refine (dMulDivUpZ h0 hn0 h1 hn1 h2 hn2 hz).mono ?_
    rintro e w' ⟨rfl, hB⟩
    exact ⟨none, 0, 0, rfl, natO_nil _, Nat.zero_le _, hB⟩
  · have e1 : decE x2 = 0 := by unfold decE; rw [if_neg hz]
    rw [e1, ← rnd_up hz]
    exact dMulDivUp h0 hn0 h1 hn1 h2 hn2 hz
theorem dQuoV {w : World} {ao0 : Option Addr} {n0 c0 : Nat} {x0 : Int} {ao1 : Option Addr} {n1 c1 : Nat} {x1 : Int} (h0 : NatA w ao0 n0 c0 x0) (hn0 : n0 ≤ 274877906944) (h1 : NatA w ao1 n1 c1 x1) (hn1 : n1 ≤ 274877906944) :
    Calls Tryz.prog 34 #[.agg #[.slice ao0 n0 c0], .agg #[.slice ao1 n1 c1]] w fun e w' => ∃ a k d, e = .returned (.tuple #[.agg #[.slice a k d], .int .i64 (decE x1)]) ∧ NatO w' a k d (x0 * U36 / x1) ∧ k ≤ n0 + 40 ∧ Below w.heap.size w w' := by
  unfold decE
  by_cases hz : x1 = 0
  · have e2 : x0 * U36 / x1 = 0 := by rw [hz]; simp
    rw [if_pos hz, e2]
    refine (dQuoZ h0 hn0 h1 hn1 hz).mono ?_
    rintro e w' ⟨rfl, hB⟩
    exact ⟨none, 0, 0, rfl, natO_nil _, Nat.zero_le _, hB⟩
  · rw [if_neg hz]
    exact dQuo h0 hn0 h1 hn1 hz
theorem dOverV {w : World} {ao0 : Option Addr} {n0 c0 : Nat} {x0 y : Int} (h0 : NatA w ao0 n0 c0 x0) (hn0 : n0 ≤ 274877906944) (g0 : 0 ≤ y) (g1 : y < 18446744073709551616) :
    Calls Tryz.prog 107 #[.agg #[.slice ao0 n0 c0], .int .u64 y] w fun e w' => ∃ a k d, e = .returned (.tuple #[.agg #[.slice a k d], .int .i64 (decE y)]) ∧ NatO w' a k d (x0 / y) ∧ k ≤ n0 + 3 ∧ Below w.heap.size w w' := by
  unfold decE
  by_cases hz : y = 0
  · have e2 : x0 / y = 0 := by rw [hz]; simp
    rw [if_pos hz, e2]
    clear e2 g0 g1
    subst hz
    refine (dOverZ h0 hn0).mono ?_
    rintro e w' ⟨rfl, hB⟩
    exact ⟨none, 0, 0, rfl, natO_nil _, Nat.zero_le _, hB⟩
  · rw [if_neg hz]
    exact dOver h0 hn0 g0 g1 hz
set_option maxHeartbeats 1000000 in
set_option maxRecDepth 100000 in
theorem hDec {w : World} {ao ao' : Option Addr} {n c n' c' : Nat} {x y : Int} (h : NatO w ao n c x) (h' : NatO w ao' n' c' y) (hn : n ≤ 4398046511104) (hn' : n' ≤ 4398046511104) :
    Calls Tryz.prog 36 #[.agg #[.slice ao n c], .agg #[.slice ao' n' c']] w fun e w' => e = .returned (.bool (decide (x = y))) ∧ Below w.heap.size w w' := by
  have B0 := below2 w (.cells #[.slice ao n c] 46) (.cells #[.slice ao' n' c'] 46)
  have h := h.keep B0
  have h' := h'.keep B0
  go_enter Tryz.func36, Tryz.ntmps36
  go_wp2_with fail
  refine (nSame h h' hn hn').mono ?_
  rintro e w1 ⟨rfl, hB⟩
  go_wp2
  go_ret
  exact ⟨rfl, joinB B0 hB⟩
end Go.Proofs.YtjihgkanbhccpaaGreatDoor
