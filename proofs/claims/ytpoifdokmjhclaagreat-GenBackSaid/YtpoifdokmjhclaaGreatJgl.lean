/- Several texts, joined: EncP, EncQ, EncR, EncS, RcO, RcM, RcN, EncM, RcT, RcRd. -/
import Derived.Test.YtpoifdokmjhclaaGreatJgk
import Derived.Test.YtpoifdokmjhclaaGreatJgb
namespace Go.Proofs.YtpoifdokmjhclaaGreat
open Go.RowKit Lim

end Go.Proofs.YtpoifdokmjhclaaGreat

namespace Go.Proofs.YtpoifdokmjhclaaGreat
open Go.RowKit Lim

end Go.Proofs.YtpoifdokmjhclaaGreat

namespace Go.Proofs.YtpoifdokmjhclaaGreat
open Go.RowKit Lim

end Go.Proofs.YtpoifdokmjhclaaGreat

namespace Go.Proofs.YtpoifdokmjhclaaGreat
open Go.RowKit Lim

end Go.Proofs.YtpoifdokmjhclaaGreat

namespace Go.Proofs.YtpoifdokmjhclaaGreat
namespace Rc
open Go.RowKit Go.Lib Pg Lim
attribute [local go_sem] Oper.semAt_some
end Rc
end Go.Proofs.YtpoifdokmjhclaaGreat

namespace Go.Proofs.YtpoifdokmjhclaaGreat
namespace Rc
open Go.RowKit Go.Lib Pg Lim
attribute [local go_sem] Oper.semAt_some
end Rc
end Go.Proofs.YtpoifdokmjhclaaGreat

namespace Go.Proofs.YtpoifdokmjhclaaGreat
namespace Rc
open Go.RowKit Go.Lib Pg Lim
theorem endE_zero {err : Int} {l : List Int} (h : endE err l = 0) : err = 0 ∧ l = [] := by
  unfold endE at h
  split at h
  · rename_i he
    split at h
    · rename_i hl
      exact ⟨he, List.eq_nil_of_length_eq_zero hl⟩
    · exact absurd h (by decide)
  · exact absurd h (by assumption)
/-- what is read whole is laid again as it was -/
theorem ones (ks : List (Nat × Nat)) (l : List Int) (ho : Octets l) (hnd : (ks.map Prod.snd).Nodup) (h : endE (thr rnx ks (0, l, fun _ => 0)).1 (thr rnx ks (0, l, fun _ => 0)).2.1 = 0) : thr (pnx (thr rnx ks (0, l, fun _ => 0)).2.2) ks [] = l := by
  obtain ⟨h1, h2⟩ := endE_zero h
  have := thr_one ks l (fun _ => 0) ho hnd h1 []
  rw [h2, List.append_nil, List.nil_append] at this
  exact this
end Rc
end Go.Proofs.YtpoifdokmjhclaaGreat

namespace Go.Proofs.YtpoifdokmjhclaaGreat
open Go.RowKit Lim

end Go.Proofs.YtpoifdokmjhclaaGreat

namespace Go.Proofs.YtpoifdokmjhclaaGreat
namespace Rc
open Go.RowKit Go.Lib Pg Lim
attribute [local go_sem] Oper.semAt_some
end Rc
end Go.Proofs.YtpoifdokmjhclaaGreat

namespace Go.Proofs.YtpoifdokmjhclaaGreat
namespace Rc
open Go.RowKit Go.Lib Pg Lim Gl
/-- what a record's reading gives -/
def outR (s : RSt) : Int := if endE s.1 s.2.1 = 0 then 0 else 80
def outX (s : RSt) : Nat → Int := if endE s.1 s.2.1 = 0 then s.2.2 else fun _ => 0
theorem out_of {s : RSt} {xs : Nat → Int} {r : Int} (h1 : endE s.1 s.2.1 = 0 → r = 0 ∧ xs = s.2.2) (h2 : endE s.1 s.2.1 ≠ 0 → r = 80 ∧ xs = fun _ => 0) : xs = outX s ∧ r = outR s := by
  unfold outX outR
  by_cases h : endE s.1 s.2.1 = 0
  · rw [if_pos h, if_pos h]; exact ⟨(h1 h).2, (h1 h).1⟩
  · rw [if_neg h, if_neg h]; exact ⟨(h2 h).2, (h2 h).1⟩
def stParams (l : List Int) : RSt := thr rnx [(0, 0), (0, 1), (0, 2), (0, 3), (0, 4), (0, 5), (0, 6), (0, 7), (0, 8), (0, 9)] (0, l, fun _ => 0)
theorem outParams {w w' : World} {s : RSt} {e : Ending} (h : FinR w kd_Params 10 mkA s e w') : e = .returned (.tuple #[.agg #[.int .u64 (outX s 0), .int .u64 (outX s 1), .int .u64 (outX s 2), .int .u64 (outX s 3), .int .u64 (outX s 4), .int .u64 (outX s 5), .int .u64 (outX s 6), .int .u64 (outX s 7), .int .u64 (outX s 8), .int .u64 (outX s 9)], .int .i64 (outR s)]) ∧ Below w.heap.size w w' := by
  obtain ⟨⟨cs, xs, r, rfl, h1, h2, h3, h4⟩, B⟩ := h
  obtain ⟨e1, e2⟩ := out_of h3 h4
  subst e1 e2
  have q0 := (h2 0).1 rfl
  have q1 := (h2 1).1 rfl
  have q2 := (h2 2).1 rfl
  have q3 := (h2 3).1 rfl
  have q4 := (h2 4).1 rfl
  have q5 := (h2 5).1 rfl
  have q6 := (h2 6).1 rfl
  have q7 := (h2 7).1 rfl
  have q8 := (h2 8).1 rfl
  have q9 := (h2 9).1 rfl
  have ecs : cs = [.int .u64 (outX s 0), .int .u64 (outX s 1), .int .u64 (outX s 2), .int .u64 (outX s 3), .int .u64 (outX s 4), .int .u64 (outX s 5), .int .u64 (outX s 6), .int .u64 (outX s 7), .int .u64 (outX s 8), .int .u64 (outX s 9)] := by
    refine List.ext_getElem? fun i => ?_
    rcases Nat.lt_or_ge i 10 with hi | hi
    · match i, hi with
      | 0, _ => exact q0
      | 1, _ => exact q1
      | 2, _ => exact q2
      | 3, _ => exact q3
      | 4, _ => exact q4
      | 5, _ => exact q5
      | 6, _ => exact q6
      | 7, _ => exact q7
      | 8, _ => exact q8
      | 9, _ => exact q9
      | n + 10, h => exact absurd h (by omega)
    · rw [List.getElem?_eq_none (by omega), List.getElem?_eq_none hi]
  subst ecs
  exact ⟨rfl, B⟩
theorem oParams {w : World} {bb n c : Nat} {ao : Option Addr} {l : List Int} (A : ByA w bb ao n c l) (hn : n ≤ 1000000000) : Calls Tryz.prog 145 #[.slice ao n c] w fun e w' => e = .returned (.tuple #[.agg #[.int .u64 (outX (stParams l) 0), .int .u64 (outX (stParams l) 1), .int .u64 (outX (stParams l) 2), .int .u64 (outX (stParams l) 3), .int .u64 (outX (stParams l) 4), .int .u64 (outX (stParams l) 5), .int .u64 (outX (stParams l) 6), .int .u64 (outX (stParams l) 7), .int .u64 (outX (stParams l) 8), .int .u64 (outX (stParams l) 9)], .int .i64 (outR (stParams l))]) ∧ Below w.heap.size w w' := by
  refine (Params_any A hn (by obtain ⟨o, h1, _⟩ := A.ex; exact h1)).mono ?_
  intro e w' h
  exact outParams h
theorem outChain {w w' : World} {s : RSt} {e : Ending} (h : FinR w kd_Chain 2 mkA s e w') : e = .returned (.tuple #[.agg #[.int .u64 (outX s 0), .int .u64 (outX s 1)], .int .i64 (outR s)]) ∧ Below w.heap.size w w' := by
  obtain ⟨⟨cs, xs, r, rfl, h1, h2, h3, h4⟩, B⟩ := h
  obtain ⟨e1, e2⟩ := out_of h3 h4
  subst e1 e2
  have q0 := (h2 0).1 rfl
  have q1 := (h2 1).1 rfl
  have ecs : cs = [.int .u64 (outX s 0), .int .u64 (outX s 1)] := by
    refine List.ext_getElem? fun i => ?_
    rcases Nat.lt_or_ge i 2 with hi | hi
    · match i, hi with
      | 0, _ => exact q0
      | 1, _ => exact q1
      | n + 2, h => exact absurd h (by omega)
    · rw [List.getElem?_eq_none (by omega), List.getElem?_eq_none hi]
  subst ecs
  exact ⟨rfl, B⟩
def stPool (l : List Int) : RSt := thr rnx [(2, 0)] (0, l, fun _ => 0)
theorem outPool {w w' : World} {s : RSt} {e : Ending} (h : FinR w kd_Pool 1 mkA s e w') : ∃ a0 n0 c0, e = .returned (.tuple #[.agg #[.slice a0 n0 c0], .int .i64 (outR s)]) ∧ (NatW w' w.heap.size a0 n0 c0 (outX s 0) ∧ n0 ≤ 510) ∧ Below w.heap.size w w' := by
  obtain ⟨⟨cs, xs, r, rfl, h1, h2, h3, h4⟩, B⟩ := h
  obtain ⟨e1, e2⟩ := out_of h3 h4
  subst e1 e2
  obtain ⟨a0, n0, c0, q0, y0, z0⟩ := (h2 0).2.2 rfl
  have ecs : cs = [.slice a0 n0 c0] := by
    refine List.ext_getElem? fun i => ?_
    rcases Nat.lt_or_ge i 1 with hi | hi
    · match i, hi with
      | 0, _ => exact q0
      | n + 1, h => exact absurd h (by omega)
    · rw [List.getElem?_eq_none (by omega), List.getElem?_eq_none hi]
  subst ecs
  exact ⟨a0, n0, c0, rfl, ⟨y0, by omega⟩, B⟩
theorem oPool {w : World} {bb n c : Nat} {ao : Option Addr} {l : List Int} (A : ByA w bb ao n c l) (hn : n ≤ 1000000000) : Calls Tryz.prog 339 #[.slice ao n c] w fun e w' => ∃ a0 n0 c0, e = .returned (.tuple #[.agg #[.slice a0 n0 c0], .int .i64 (outR (stPool l))]) ∧ (NatW w' w.heap.size a0 n0 c0 (outX (stPool l) 0) ∧ n0 ≤ 510) ∧ Below w.heap.size w w' := by
  refine (Pool_any A hn (by obtain ⟨o, h1, _⟩ := A.ex; exact h1)).mono ?_
  intro e w' h
  exact outPool h
def stAccount (l : List Int) : RSt := thr rnx [(0, 0), (0, 1)] (0, l, fun _ => 0)
theorem outAccount {w w' : World} {s : RSt} {e : Ending} (h : FinR w kd_Account 2 mkA s e w') : e = .returned (.tuple #[.agg #[.int .u64 (outX s 0), .int .u64 (outX s 1)], .int .i64 (outR s)]) ∧ Below w.heap.size w w' := by
  obtain ⟨⟨cs, xs, r, rfl, h1, h2, h3, h4⟩, B⟩ := h
  obtain ⟨e1, e2⟩ := out_of h3 h4
  subst e1 e2
  have q0 := (h2 0).1 rfl
  have q1 := (h2 1).1 rfl
  have ecs : cs = [.int .u64 (outX s 0), .int .u64 (outX s 1)] := by
    refine List.ext_getElem? fun i => ?_
    rcases Nat.lt_or_ge i 2 with hi | hi
    · match i, hi with
      | 0, _ => exact q0
      | 1, _ => exact q1
      | n + 2, h => exact absurd h (by omega)
    · rw [List.getElem?_eq_none (by omega), List.getElem?_eq_none hi]
  subst ecs
  exact ⟨rfl, B⟩
theorem oAccount {w : World} {bb n c : Nat} {ao : Option Addr} {l : List Int} (A : ByA w bb ao n c l) (hn : n ≤ 1000000000) : Calls Tryz.prog 41 #[.slice ao n c] w fun e w' => e = .returned (.tuple #[.agg #[.int .u64 (outX (stAccount l) 0), .int .u64 (outX (stAccount l) 1)], .int .i64 (outR (stAccount l))]) ∧ Below w.heap.size w w' := by
  refine (Account_any A hn (by obtain ⟨o, h1, _⟩ := A.ex; exact h1)).mono ?_
  intro e w' h
  exact outAccount h
def stVal (l : List Int) : RSt := thr rnx [(0, 0), (0, 1), (2, 2), (1, 3), (0, 4), (1, 5), (0, 6), (2, 7), (2, 8), (2, 9)] (0, l, fun _ => 0)
theorem outVal {w w' : World} {s : RSt} {e : Ending} (h : FinR w kd_Val 10 mkA s e w') : ∃ a2 n2 c2 a7 n7 c7 a8 n8 c8 a9 n9 c9, e = .returned (.tuple #[.agg #[.int .u64 (outX s 0), .int .u64 (outX s 1), .slice a2 n2 c2, .bool (outX s 3 == 1), .int .u64 (outX s 4), .bool (outX s 5 == 1), .int .u64 (outX s 6), .slice a7 n7 c7, .slice a8 n8 c8, .slice a9 n9 c9], .int .i64 (outR s)]) ∧ (NatW w' w.heap.size a2 n2 c2 (outX s 2) ∧ n2 ≤ 510) ∧ (NatW w' w.heap.size a7 n7 c7 (outX s 7) ∧ n7 ≤ 510) ∧ (NatW w' w.heap.size a8 n8 c8 (outX s 8) ∧ n8 ≤ 510) ∧ (NatW w' w.heap.size a9 n9 c9 (outX s 9) ∧ n9 ≤ 510) ∧ Below w.heap.size w w' := by
  obtain ⟨⟨cs, xs, r, rfl, h1, h2, h3, h4⟩, B⟩ := h
  obtain ⟨e1, e2⟩ := out_of h3 h4
  subst e1 e2
  have q0 := (h2 0).1 rfl
  have q1 := (h2 1).1 rfl
  obtain ⟨a2, n2, c2, q2, y2, z2⟩ := (h2 2).2.2 rfl
  obtain ⟨t3, q3, y3⟩ := (h2 3).2.1 rfl
  have y3 : (outX s 3 == 1) = t3 := by rw [y3]; cases t3 <;> rfl
  rw [← y3] at q3
  have q4 := (h2 4).1 rfl
  obtain ⟨t5, q5, y5⟩ := (h2 5).2.1 rfl
  have y5 : (outX s 5 == 1) = t5 := by rw [y5]; cases t5 <;> rfl
  rw [← y5] at q5
  have q6 := (h2 6).1 rfl
  obtain ⟨a7, n7, c7, q7, y7, z7⟩ := (h2 7).2.2 rfl
  obtain ⟨a8, n8, c8, q8, y8, z8⟩ := (h2 8).2.2 rfl
  obtain ⟨a9, n9, c9, q9, y9, z9⟩ := (h2 9).2.2 rfl
  have ecs : cs = [.int .u64 (outX s 0), .int .u64 (outX s 1), .slice a2 n2 c2, .bool (outX s 3 == 1), .int .u64 (outX s 4), .bool (outX s 5 == 1), .int .u64 (outX s 6), .slice a7 n7 c7, .slice a8 n8 c8, .slice a9 n9 c9] := by
    refine List.ext_getElem? fun i => ?_
    rcases Nat.lt_or_ge i 10 with hi | hi
    · match i, hi with
      | 0, _ => exact q0
      | 1, _ => exact q1
      | 2, _ => exact q2
      | 3, _ => exact q3
      | 4, _ => exact q4
      | 5, _ => exact q5
      | 6, _ => exact q6
      | 7, _ => exact q7
      | 8, _ => exact q8
      | 9, _ => exact q9
      | n + 10, h => exact absurd h (by omega)
    · rw [List.getElem?_eq_none (by omega), List.getElem?_eq_none hi]
  subst ecs
  exact ⟨a2, n2, c2, a7, n7, c7, a8, n8, c8, a9, n9, c9, rfl, ⟨y2, by omega⟩, ⟨y7, by omega⟩, ⟨y8, by omega⟩, ⟨y9, by omega⟩, B⟩
theorem oVal {w : World} {bb n c : Nat} {ao : Option Addr} {l : List Int} (A : ByA w bb ao n c l) (hn : n ≤ 1000000000) : Calls Tryz.prog 43 #[.slice ao n c] w fun e w' => ∃ a2 n2 c2 a7 n7 c7 a8 n8 c8 a9 n9 c9, e = .returned (.tuple #[.agg #[.int .u64 (outX (stVal l) 0), .int .u64 (outX (stVal l) 1), .slice a2 n2 c2, .bool (outX (stVal l) 3 == 1), .int .u64 (outX (stVal l) 4), .bool (outX (stVal l) 5 == 1), .int .u64 (outX (stVal l) 6), .slice a7 n7 c7, .slice a8 n8 c8, .slice a9 n9 c9], .int .i64 (outR (stVal l))]) ∧ (NatW w' w.heap.size a2 n2 c2 (outX (stVal l) 2) ∧ n2 ≤ 510) ∧ (NatW w' w.heap.size a7 n7 c7 (outX (stVal l) 7) ∧ n7 ≤ 510) ∧ (NatW w' w.heap.size a8 n8 c8 (outX (stVal l) 8) ∧ n8 ≤ 510) ∧ (NatW w' w.heap.size a9 n9 c9 (outX (stVal l) 9) ∧ n9 ≤ 510) ∧ Below w.heap.size w w' := by
  refine (Val_any A hn (by obtain ⟨o, h1, _⟩ := A.ex; exact h1)).mono ?_
  intro e w' h
  exact outVal h
def stHistory (l : List Int) : RSt := thr rnx [(2, 0), (0, 1)] (0, l, fun _ => 0)
theorem outHistory {w w' : World} {s : RSt} {e : Ending} (h : FinR w kd_History 2 mkA s e w') : ∃ a0 n0 c0, e = .returned (.tuple #[.agg #[.slice a0 n0 c0, .int .u64 (outX s 1)], .int .i64 (outR s)]) ∧ (NatW w' w.heap.size a0 n0 c0 (outX s 0) ∧ n0 ≤ 510) ∧ Below w.heap.size w w' := by
  obtain ⟨⟨cs, xs, r, rfl, h1, h2, h3, h4⟩, B⟩ := h
  obtain ⟨e1, e2⟩ := out_of h3 h4
  subst e1 e2
  obtain ⟨a0, n0, c0, q0, y0, z0⟩ := (h2 0).2.2 rfl
  have q1 := (h2 1).1 rfl
  have ecs : cs = [.slice a0 n0 c0, .int .u64 (outX s 1)] := by
    refine List.ext_getElem? fun i => ?_
    rcases Nat.lt_or_ge i 2 with hi | hi
    · match i, hi with
      | 0, _ => exact q0
      | 1, _ => exact q1
      | n + 2, h => exact absurd h (by omega)
    · rw [List.getElem?_eq_none (by omega), List.getElem?_eq_none hi]
  subst ecs
  exact ⟨a0, n0, c0, rfl, ⟨y0, by omega⟩, B⟩
theorem oHistory {w : World} {bb n c : Nat} {ao : Option Addr} {l : List Int} (A : ByA w bb ao n c l) (hn : n ≤ 1000000000) : Calls Tryz.prog 220 #[.slice ao n c] w fun e w' => ∃ a0 n0 c0, e = .returned (.tuple #[.agg #[.slice a0 n0 c0, .int .u64 (outX (stHistory l) 1)], .int .i64 (outR (stHistory l))]) ∧ (NatW w' w.heap.size a0 n0 c0 (outX (stHistory l) 0) ∧ n0 ≤ 510) ∧ Below w.heap.size w w' := by
  refine (History_any A hn (by obtain ⟨o, h1, _⟩ := A.ex; exact h1)).mono ?_
  intro e w' h
  exact outHistory h
end Rc
end Go.Proofs.YtpoifdokmjhclaaGreat
