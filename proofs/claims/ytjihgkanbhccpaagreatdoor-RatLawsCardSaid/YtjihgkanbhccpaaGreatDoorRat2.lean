/- Package rat: made, reduced, tested. -/
import Derived.Test.YtjihgkanbhccpaaGreatDoorRat1
namespace Go.Proofs.YtjihgkanbhccpaaGreatDoor
open Go.RowKit Lim

/-- the reduced fraction of x / y -/
def rn (x y : Int) : Int := x / (Int.gcd x y : Nat)
def rd (x y : Int) : Int := y / (Int.gcd x y : Nat)
set_option maxHeartbeats 1000000 in
set_option maxRecDepth 100000 in
theorem qPlus {w : World} {ao ao' : Option Addr} {n c n' c' : Nat} {x y : Int} (h : NatA w ao n c x) (h' : NatA w ao' n' c' y) (hn : n ≤ 1099511627776) (hn' : n' ≤ 1099511627776) :
    Calls Tryz.prog 79 #[.slice ao n c, .slice ao' n' c'] w fun e w' => ∃ a k d, e = .returned (.tuple #[.slice a k d, .int .i64 0]) ∧ NatO w' a k d (x + y) ∧ k ≤ n + n' + 1 ∧ Below w.heap.size w w' := by
  go_enter Tryz.func79, Tryz.ntmps79
  go_wp2_with fail
  refine (nAdd h h' hn hn').mono ?_
  rintro e w1 ⟨a, k, d, rfl, O1, hk, hB⟩
  go_wp2
  go_ret2
  exact ⟨a, k, d, rfl, O1, hk, hB⟩
set_option maxHeartbeats 2000000 in
set_option maxRecDepth 100000 in
theorem qLowest {w : World} {a0 b0 : Option Addr} {n0 c0 m0 d0 : Nat} {x0 y0 : Int} (h0 : NatA w a0 n0 c0 x0) (e0 : NatA w b0 m0 d0 y0) (hn0 : n0 ≤ 34359738368) (hm0 : m0 ≤ 34359738368) :
    Calls Tryz.prog 78 #[.agg #[.slice a0 n0 c0, .slice b0 m0 d0]] w fun e w' => ∃ a k d a' k' d', e = .returned (.agg #[.slice a k d, .slice a' k' d']) ∧ NatO w' a k d (rn (cn x0 y0) (cd y0)) ∧ NatO w' a' k' d' (rd (cn x0 y0) (cd y0)) ∧ k ≤ n0 ∧ k' ≤ m0 + 1 ∧ Below w.heap.size w w' := by
  have B0 := below2 w (.cells #[.slice a0 n0 c0, .slice b0 m0 d0] 30) (.cells #[.slice none 0 0, .slice none 0 0] 30)
  have SP := (box_new w [.slice a0 n0 c0, .slice b0 m0 d0] 30).keep (below_alloc _ (.cells #[.slice none 0 0, .slice none 0 0] 30))
  have S0 := box_new (w.alloc (.cells #[.slice a0 n0 c0, .slice b0 m0 d0] 30)) [.slice none 0 0, .slice none 0 0] 30
  rw [show (w.alloc (.cells #[.slice a0 n0 c0, .slice b0 m0 d0] 30)).heap.size = w.heap.size + 1 by simp] at S0
  replace h0 := h0.keep B0
  replace e0 := e0.keep B0
  obtain ⟨p1, p2, p3, p4⟩ := SP.cells2
  have hld := load_rat SP
  go_enter Tryz.func78, Tryz.ntmps78
  go_wp2_with fail
  refine (qCounted h0 e0 (by omega) (by omega)).mono ?_
  rintro e w1 ⟨A0, K0, D0, B0', L0, M0, rfl, C0, E0, hK0, hL0, hB⟩
  replace S0 := S0.keep hB
  replace B0 := joinB B0 hB
  clear hB p1 p2 p3 p4 hld SP h0 e0
  have BA := below_alloc w1 (.cells #[.slice A0 K0 D0, .slice B0' L0 M0] 30)
  have SX := box_new w1 [.slice A0 K0 D0, .slice B0' L0 M0] 30
  replace S0 := S0.keep BA
  replace C0 := C0.keep BA
  replace E0 := E0.keep BA
  replace B0 := joinB B0 BA
  obtain ⟨p1, p2, p3, p4⟩ := SX.cells2
  go_wp2_with fail
  refine (qReduced C0 E0 (by omega) (by omega) (cd_ne _)).mono ?_
  rintro e w2 ⟨a, k, d, a', k', d', rfl, O1, O2, hk, hk', hB⟩
  replace S0 := S0.keep hB
  replace B0 := joinB B0 hB
  obtain ⟨c1, c2, f1, f2⟩ := S0.cells2
  have S2 := S0.put2 (.slice a k d) (.slice a' k' d')
  have P1 := O1.put2 S0 (.slice a k d) (.slice a' k' d')
  have P2 := O2.put2 S0 (.slice a k d) (.slice a' k' d')
  have HB := below_put2 B0 (g := w.heap.size + 1) (by omega) (.slice a k d) (.slice a' k' d')
  clear hB O1 O2 S0 B0 SX C0 E0 BA p1 p2 p3 p4
  go_wp2
  refine bodyPost_ret (ret_rat rfl rfl S2) rfl ?_
  exact ⟨a, k, d, a', k', d', rfl, P1, P2, by omega, by omega, HB⟩
set_option maxHeartbeats 2000000 in
set_option maxRecDepth 100000 in
theorem qFloor {w : World} {a0 b0 : Option Addr} {n0 c0 m0 d0 : Nat} {x0 y0 : Int} (h0 : NatA w a0 n0 c0 x0) (e0 : NatA w b0 m0 d0 y0) (hn0 : n0 ≤ 34359738368) (hm0 : m0 ≤ 34359738368) :
    Calls Tryz.prog 20 #[.agg #[.slice a0 n0 c0, .slice b0 m0 d0]] w fun e w' => ∃ a k d, e = .returned (.slice a k d) ∧ NatO w' a k d (cn x0 y0 / cd y0) ∧ k ≤ n0 ∧ Below w.heap.size w w' := by
  have B0 := below_alloc w (.cells #[.slice a0 n0 c0, .slice b0 m0 d0] 30)
  have SP := box_new w [.slice a0 n0 c0, .slice b0 m0 d0] 30
  replace h0 := h0.keep B0
  replace e0 := e0.keep B0
  obtain ⟨p1, p2, p3, p4⟩ := SP.cells2
  go_enter Tryz.func20, Tryz.ntmps20
  go_wp2_with fail
  refine (qCounted h0 e0 (by omega) (by omega)).mono ?_
  rintro e w1 ⟨A0, K0, D0, B0', L0, M0, rfl, C0, E0, hK0, hL0, hB⟩
  replace B0 := joinB B0 hB
  clear hB p1 p2 p3 p4 SP h0 e0
  have BA := below_alloc w1 (.cells #[.slice A0 K0 D0, .slice B0' L0 M0] 30)
  have SX := box_new w1 [.slice A0 K0 D0, .slice B0' L0 M0] 30
  replace C0 := C0.keep BA
  replace E0 := E0.keep BA
  replace B0 := joinB B0 BA
  obtain ⟨p1, p2, p3, p4⟩ := SX.cells2
  go_wp2_with fail
  refine (qQuot C0 E0 (by omega) (by omega) (cd_ne _)).mono ?_
  rintro e w2 ⟨a, k, d, rfl, O1, hk, hB⟩
  go_wp2
  go_ret
  exact ⟨a, k, d, rfl, O1, by omega, joinB B0 hB⟩
set_option maxHeartbeats 1000000 in
set_option maxRecDepth 100000 in
theorem qOf {w : World} {ao ao' : Option Addr} {n c n' c' : Nat} {x y : Int} (h : NatA w ao n c x) (h' : NatA w ao' n' c' y) (hn : n ≤ 274877906944) (hn' : n' ≤ 274877906944) (hne : y ≠ 0) :
    Calls Tryz.prog 38 #[.slice ao n c, .slice ao' n' c'] w fun e w' => ∃ a k d a' k' d', e = .returned (.tuple #[.agg #[.slice a k d, .slice a' k' d'], .int .i64 0]) ∧ NatO w' a k d (rn x y) ∧ NatO w' a' k' d' (rd x y) ∧ k ≤ n ∧ k' ≤ n' ∧ Below w.heap.size w w' := by
  have hm : bitLen y.toNat ≠ 0 := fun e => hne ((bitLen_zero y h'.nonneg).1 e)
  have HNE := (show Hid _ from hne)
  clear hne
  have B0 := below_alloc w (.cells #[.slice none 0 0, .slice none 0 0] 30)
  have S0 := box_new w [.slice none 0 0, .slice none 0 0] 30
  replace h := h.keep B0
  replace h' := h'.keep B0
  have t := nBits h' (by omega)
  generalize bitLen y.toNat = m at *
  obtain ⟨j, rfl⟩ : ∃ j, m = j + 1 := ⟨m - 1, by omega⟩
  clear hm
  go_enter Tryz.func38, Tryz.ntmps38
  go_wp2_with fail
  refine t.mono ?_
  rintro e w1 ⟨rfl, hB⟩
  replace h := h.keep hB
  replace h' := h'.keep hB
  replace S0 := S0.keep hB
  replace B0 := joinB B0 hB
  clear hB t
  go_wp2_with fail
  refine (qReduced h h' (by omega) (by omega) HNE.out).mono ?_
  rintro e w2 ⟨a, k, d, a', k', d', rfl, O1, O2, hk, hk', hB⟩
  replace S0 := S0.keep hB
  replace B0 := joinB B0 hB
  obtain ⟨c1, c2, f1, f2⟩ := S0.cells2
  have S2 := S0.put2 (.slice a k d) (.slice a' k' d')
  have P1 := O1.put2 S0 (.slice a k d) (.slice a' k' d')
  have P2 := O2.put2 S0 (.slice a k d) (.slice a' k' d')
  have HB := below_put2 B0 (g := w.heap.size) (by omega) (.slice a k d) (.slice a' k' d')
  clear hB O1 O2 S0 B0 h h'
  go_wp2
  refine bodyPost_ret (ret_rat_tmp rfl rfl rfl S2) rfl ?_
  exact ⟨a, k, d, a', k', d', rfl, P1, P2, by omega, by omega, HB⟩
set_option maxHeartbeats 1000000 in
set_option maxRecDepth 100000 in
theorem qOfZ {w : World} {v : Value} {ao' : Option Addr} {n' c' : Nat} {y : Int} (h' : NatA w ao' n' c' y) (hn' : n' ≤ 274877906944) (hz : y = 0) :
    Calls Tryz.prog 38 #[v, .slice ao' n' c'] w fun e w' => e = .returned (.tuple #[.agg #[.slice none 0 0, .slice none 0 0], .int .i64 30]) ∧ Below w.heap.size w w' := by
  have hm := (bitLen_zero y h'.nonneg).2 hz
  have B0 := below_alloc w (.cells #[.slice none 0 0, .slice none 0 0] 30)
  have S0 := box_new w [.slice none 0 0, .slice none 0 0] 30
  replace h' := h'.keep B0
  have t := nBits h' (by omega)
  rw [hm] at t
  clear hm hz
  go_enter Tryz.func38, Tryz.ntmps38
  go_wp2_with fail
  refine t.mono ?_
  rintro e w1 ⟨rfl, hB⟩
  replace S0 := S0.keep hB
  replace B0 := joinB B0 hB
  obtain ⟨c1, c2, f1, f2⟩ := S0.cells2
  have S2 := S0.put2 (.slice none 0 0) (.slice none 0 0)
  have HB := below_put2 B0 (g := w.heap.size) (by omega) (.slice none 0 0) (.slice none 0 0)
  clear hB S0 B0 h' t
  go_wp2
  refine bodyPost_ret (ret_rat_tmp rfl rfl rfl S2) rfl ?_
  exact ⟨rfl, HB⟩
end Go.Proofs.YtjihgkanbhccpaaGreatDoor
