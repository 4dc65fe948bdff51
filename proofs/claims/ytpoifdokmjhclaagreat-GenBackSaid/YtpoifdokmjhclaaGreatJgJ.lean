/- Several texts, joined: SdC, MgA, MgP. -/
import Derived.Test.YtpoifdokmjhclaaGreatJgI
import Derived.Test.YtpoifdokmjhclaaGreatJgk
import Derived.Test.YtpoifdokmjhclaaGreatJgl
import Derived.LoopN
namespace Go.Proofs.YtpoifdokmjhclaaGreat
namespace Sd
open Go.RowKit Go.Lib Pg Lim Gl Kv Bk Pw
attribute [local go_sem] Oper.semAt_some
set_option maxRecDepth 100000
set_option linter.unusedSimpArgs false
set_option linter.unusedVariables false
set_option maxHeartbeats 2000000
theorem user_any {w : World} {x : Int} {r : Bool} (hr : decide (16 ≤ x) = r) : Calls Tryz.prog 83 #[.int .u64 x] w fun e w' => e = .returned (.bool r) ∧ Below w.heap.size w w' := by
  have BB := Below.refl w.heap.size w
  refine gc_enter (n := 5) Tryz.func83 rfl (by kernel_rfl) (by kernel_rfl) ?_
  refine gc_seq ?_
  refine gc_reg ?_
  refine t 2 (.bool false) ?_
  refine gl_nil ?_
  refine ge_then ?_
  refine gc_seq ?_
  refine gc_reg ?_
  refine t 3 (.int .u64 x) ?_
  by_cases c1 : (16 : Int) ≤ x
  · refine tq 4 (.bool (decide ((16 : Int) ≤ x))) (.bool true) (congrArg Value.bool (decide_eq_true c1)) ?_
    refine t 2 (.bool true) ?_
    refine gl_nil ?_
    refine ge_then ?_
    refine gc_ret ?_
    refine ge_ret (.bool true) (rs1 2 (by kernel_rfl) (by kernel_rfl)) ?_
    exact ⟨by rw [← hr]; simp; omega, BB⟩
  · refine tq 4 (.bool (decide ((16 : Int) ≤ x))) (.bool false) (congrArg Value.bool (decide_eq_false c1)) ?_
    refine t 2 (.bool false) ?_
    refine gl_nil ?_
    refine ge_then ?_
    refine gc_ret ?_
    refine ge_ret (.bool false) (rs1 2 (by kernel_rfl) (by kernel_rfl)) ?_
    exact ⟨by rw [← hr]; simp; omega, BB⟩
end Sd
end Go.Proofs.YtpoifdokmjhclaaGreat

namespace Go.Proofs.YtpoifdokmjhclaaGreat
namespace Mg
open Go.RowKit Go.Lib Pg Lim Gl
/-- a number in the words of its fields -/
def In8 (x : Int) : Prop := 0 ≤ x ∧ x < 18446744073709551616
abbrev St := Int × List Int
def rU (m : Nat) (s : St) : Int × St := (rdV 0 (pFix m s.2) s.1, rdE (pFix m s.2) s.1, rdL (pFix m s.2) s.1 s.2)
theorem rU_fwd (m : Nat) (x : Int) (r : List Int) (h0 : 0 ≤ x) (h1 : x < 256 ^ m) : rU m (0, be m x ++ r) = (x, 0, r) := by
  have hl := be_length m x
  have hp : pFix m (be m x ++ r) = .inr (x, m) := by
    unfold pFix
    rw [if_pos (by rw [List.length_append]; omega), List.take_left' hl, be_val m h0, Int.emod_eq_of_lt h0 h1]
  simp only [rU, hp, rdV, rdE, rdL, if_pos]
  rw [List.drop_left' hl]
theorem rU_inv {m : Nat} {s : St} {x : Int} {s' : St} (e : rU m s = (x, s')) (ho : Octets s.2) : (Octets s'.2 ∧ 0 ≤ x ∧ x < 256 ^ m) ∧ (s'.1 = 0 → s.1 = 0 ∧ s.2 = be m x ++ s'.2) := by
  obtain ⟨err, l⟩ := s
  have hp : (0 : Int) < 256 ^ m := Int.pow_pos (by decide)
  simp only [rU, Prod.mk.injEq] at e
  obtain ⟨e1, e2⟩ := e
  subst e2
  simp only at e1 ⊢
  by_cases he : err = 0
  · subst he
    by_cases hm : m ≤ l.length
    · have hq : pFix m l = .inr (bval (l.take m), m) := by unfold pFix; rw [if_pos hm]
      simp only [hq, rdV, rdE, rdL, if_pos] at e1 ⊢
      subst e1
      have hot : Octets (l.take m) := fun y hy => ho y (List.mem_of_mem_take hy)
      refine ⟨⟨fun y hy => ho y (List.mem_of_mem_drop hy), ?_⟩, fun _ => ⟨trivial, ?_⟩⟩
      · have h := be_take ho hm
        have h2 := (bval_bound hot).1
        have h3 := be_val m h2
        rw [h] at h3
        have h4 := Int.emod_lt_of_pos (bval (l.take m)) hp
        rw [← h3] at h4
        exact ⟨h2, h4⟩
      · rw [be_take ho hm, List.take_append_drop]
    · have hq : pFix m l = .inl 40 := by unfold pFix; rw [if_neg hm]
      simp only [hq, rdV, rdE, rdL, if_pos] at e1 ⊢
      subst e1
      exact ⟨⟨ho, Int.le_refl _, hp⟩, fun h => absurd h (by decide)⟩
  · rw [rdV_bad he] at e1
    subst e1
    rw [rdE_bad he, rdL_bad he]
    exact ⟨⟨ho, Int.le_refl _, hp⟩, fun h => absurd h he⟩
end Mg
end Go.Proofs.YtpoifdokmjhclaaGreat

namespace Go.Proofs.YtpoifdokmjhclaaGreat
namespace Mg
open Go.RowKit Go.Lib Pg Lim Gl
theorem oct_app {a b : List Int} (ha : Octets a) (hb : Octets b) : Octets (a ++ b) := fun y hy => (List.mem_append.1 hy).elim (ha y) (hb y)
theorem p8 : (256 : Int) ^ 8 = 18446744073709551616 := by decide
theorem r8 {x : Int} {r : List Int} (h : In8 x) : rU 8 (0, be 8 x ++ r) = (x, 0, r) := rU_fwd 8 x r h.1 (by rw [p8]; exact h.2)
end Mg
end Go.Proofs.YtpoifdokmjhclaaGreat
