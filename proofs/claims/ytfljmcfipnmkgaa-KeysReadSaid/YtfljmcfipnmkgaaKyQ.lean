/- gleanlaw7.begins; the order of bytes, and of numbers. -/
import Derived.Test.YtfljmcfipnmkgaaKyP
namespace Go.Proofs.Ytfljmcfipnmkgaa
namespace Ky
open Go.RowKit Go.Lib Pg
attribute [local go_sem] Oper.semAt_some
set_option maxHeartbeats 2000000 in
set_option maxRecDepth 100000 in
theorem begins_any {w : World} {ka pa : Option Addr} {n c m d : Nat} {k p : List Int} (hk : By w (.slice ka n c) k) (hp : By w (.slice pa m d) p) (hm : m ≤ 1000000000) :
    Calls Try.prog 19 #[.slice ka n c, .slice pa m d] w fun e w' => e = .returned (.bool (decide (p <+: k))) ∧ Below w.heap.size w w' := by
  obtain ⟨lk, hnc, _⟩ := By.lens hk
  obtain ⟨lp, hmd, _⟩ := By.lens hp
  by_cases h : m ≤ n
  · have hk2 := By.take hk m h
    have e : decide (p <+: k) = decide (k.take m = p) := by
      rw [decide_eq_decide, List.prefix_iff_eq_take, lp]
      exact ⟨fun h => h.symm, fun h => h.symm⟩
    have u1 := bytes_any hk2 hp (by rw [List.length_take]; omega) (by omega)
    rw [e]
    have h1 : (m : Int) ≤ n := by omega
    have h2 : (m : Int) ≤ c := by omega
    clear hk hp hk2 e
    go_enter Try.func19, Try.ntmps19
    go_wp2_with (go_at_call 9; refine u1.mono ?_; rintro e w1 ⟨rfl, b1⟩)
    go_ret
    exact ⟨rfl, b1⟩
  · have e : decide (p <+: k) = false := decide_eq_false (fun h' => h (by have := h'.length_le; omega))
    rw [e]
    have h1 : ¬ ((m : Int) ≤ n) := by omega
    clear hk hp e
    go_enter Try.func19, Try.ntmps19
    go_wp2
    go_ret
    exact ⟨rfl, Below.refl _ _⟩
end Ky
end Go.Proofs.Ytfljmcfipnmkgaa
