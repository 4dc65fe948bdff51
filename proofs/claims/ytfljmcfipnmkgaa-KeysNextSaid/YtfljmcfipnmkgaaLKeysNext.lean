/- gleanlaw7.KeysNext: what is above all that begin so. -/
import Derived.Test.YtfljmcfipnmkgaaKyN2
namespace Go.Proofs.Ytfljmcfipnmkgaa
namespace Ky
open Go.RowKit Go.Lib Pg
attribute [local go_sem] Oper.semAt_some
set_option maxHeartbeats 4000000 in
set_option maxRecDepth 100000 in
theorem keysNext_walk {w : World} {ba ca : Option Addr} {bn bc cn cc : Nat} {lb lc : List Int} {a n : Int} (hb : By w (.slice ba bn bc) lb) (_ : lb.length ≤ 140737488355328) (hc : By w (.slice ca cn cc) lc) (_ : lc.length ≤ 140737488355328) (ha : U64 a) (_ : U64 n) :
    Calls Try.prog 6 #[.slice ba bn bc, .slice ca cn cc, .int .u64 a, .int .u64 n] w fun e w' => e = .returned (.bool true) ∧ Below w.heap.size w w' := by
  by_cases h1 : bn ≤ 500
  · by_cases h2 : cn ≤ 500
    · by_cases hN : nxt lb = []
      · exact kn_nil hb hc ha h1 h2 hN
      · by_cases hP : lb <+: lc
        · exact kn_pre hb hc ha h1 h2 hN hP
        · by_cases hQ : Lt lc lb
          · exact kn_low hb hc ha h1 h2 hN hP hQ
          · exact kn_high hb hc ha h1 h2 hN hP hQ
    · have t1 := kknown_any (w := w)
      have g1 : ¬ ((500 : Int) < bn) := by omega
      have g2 : (500 : Int) < cn := by omega
      clear hb hc ha h1 h2
      go_enter Try.func6, Try.ntmps6
      go_wp2_with (go_at_call 7; refine t1.mono ?_; rintro e w1 ⟨rfl, B1⟩)
      go_ret
      exact ⟨rfl, B1⟩
  · have t1 := kknown_any (w := w)
    have g1 : (500 : Int) < bn := by omega
    clear hb hc ha h1
    go_enter Try.func6, Try.ntmps6
    go_wp2_with (go_at_call 7; refine t1.mono ?_; rintro e w1 ⟨rfl, B1⟩)
    go_ret
    exact ⟨rfl, B1⟩
end Ky
end Go.Proofs.Ytfljmcfipnmkgaa
