/- gleanhelp.Ints, over lists of numbers. -/
import Derived.Test.YtplminnejheceaaPgTk
namespace Go.Proofs.Ytplminnejheceaa
namespace Pg
open Go.RowKit Go.Lib
attribute [local go_sem] Oper.semAt_some
theorem IntV.at {w : World} {B p n c : Nat} {l : List Int} (h : IntV w B (.slice (some ⟨p, 0, none⟩) n c) l) {i : Nat} {x : Int} (hi : l[i]? = some x) : w.cell? ⟨p, i, none⟩ = some (.int .i64 x) := by
  obtain ⟨b, c', e, _, hR⟩ := h.ex
  cases e
  exact hR.cell (by rw [List.getElem?_map, hi]; rfl)
set_option maxHeartbeats 1000000 in
set_option maxRecDepth 100000 in
theorem place_by (k : Int) (n : Nat) (hn : 0 < n) (hn2 : n ≤ 2147483648) (w : World) :
    Calls Try.prog 37 #[.int .i64 k, .int .i64 n] w fun e w' => ∃ m : Nat, m < n ∧ e = .returned (.int .i64 m) ∧ w' = w := by
  have h0 : ¬ ((n : Int) = 0) := by omega
  have h1 : ¬ ((n : Int) = -1) := by omega
  have b1 := Int.lt_tmod_of_pos k (show (0 : Int) < n by omega)
  have b2 := Int.tmod_lt_of_pos k (show (0 : Int) < n by omega)
  obtain ⟨r, hr⟩ : ∃ r, Int.tmod k n = r := ⟨_, rfl⟩
  rw [hr] at b1 b2
  have b3 : -2147483648 ≤ r ∧ r ≤ 2147483648 := by omega
  by_cases hneg : r < 0
  · go_enter Try.func37, Try.ntmps37
    go_wp2
    go_ret
    exact ⟨(r + n).toNat, by omega, by rw [Int.toNat_of_nonneg (by omega)]; rfl, rfl⟩
  · go_enter Try.func37, Try.ntmps37
    go_wp2
    go_ret
    exact ⟨r.toNat, by omega, by rw [Int.toNat_of_nonneg (by omega)]; rfl, rfl⟩
end Pg
end Go.Proofs.Ytplminnejheceaa
