/- A region that may go several ways, with one end. -/
import Derived.Test.YtpbiflfdfiebcabGreatDoorDec2
namespace Go.Proofs.YtpbiflfdfiebcabGreatDoor
open Go.RowKit Lim

theorem wp_mid {P : Program} {c : Code} {K : Act → World → Prop} {Q' : Exit → Act → World → Prop} {a : Act} {w : World} (R : Act → World → Prop)
    (h1 : Code.wp P c (Exit.then R (fun _ _ _ => False)) a w) (h2 : ∀ a' w', R a' w' → K a' w') : Code.wp P c (Exit.then K Q') a w :=
  Code.wp_mono (fun e a' w' h => by cases e <;> first | exact h2 _ _ h | exact h.elim) h1
/-- one end: a new variable g, and what three calls gave -/
theorem mid3 {P : Program} {c : Code} {K : Act → World → Prop} {Q' : Exit → Act → World → Prop} {a : Act} {w : World} {T : Nat → Option Addr → Nat → Nat → Option Addr → Nat → Nat → Option Addr → Nat → Nat → Act}
    (F : Nat → Option Addr → Nat → Nat → World → Prop)
    (h1 : Code.wp P c (Exit.then (fun a' w' => ∃ g a1 k1 d1 a2 k2 d2 a3 k3 d3, a' = T g a1 k1 d1 a2 k2 d2 a3 k3 d3 ∧ F g a3 k3 d3 w') (fun _ _ _ => False)) a w)
    (h2 : ∀ g a1 k1 d1 a2 k2 d2 a3 k3 d3 w', F g a3 k3 d3 w' → K (T g a1 k1 d1 a2 k2 d2 a3 k3 d3) w') : Code.wp P c (Exit.then K Q') a w :=
  wp_mid _ h1 fun _ w' ⟨g, a1, k1, d1, a2, k2, d2, a3, k3, d3, e, hF⟩ => e ▸ h2 g a1 k1 d1 a2 k2 d2 a3 k3 d3 w' hF
/-- one end: a new variable g, and what at most four calls gave -/
theorem mid4 {P : Program} {c : Code} {K : Act → World → Prop} {Q' : Exit → Act → World → Prop} {a : Act} {w : World} {T : Nat → Option Addr → Nat → Nat → Option Addr → Nat → Nat → Option Addr → Nat → Nat → Option Addr → Nat → Nat → Act}
    (F : Nat → Option Addr → Nat → Nat → Option Addr → Nat → Nat → Option Addr → Nat → Nat → Option Addr → Nat → Nat → World → Prop)
    (h1 : Code.wp P c (Exit.then (fun a' w' => ∃ g a1 k1 d1 a2 k2 d2 a3 k3 d3 a4 k4 d4, a' = T g a1 k1 d1 a2 k2 d2 a3 k3 d3 a4 k4 d4 ∧ F g a1 k1 d1 a2 k2 d2 a3 k3 d3 a4 k4 d4 w') (fun _ _ _ => False)) a w)
    (h2 : ∀ g a1 k1 d1 a2 k2 d2 a3 k3 d3 a4 k4 d4 w', F g a1 k1 d1 a2 k2 d2 a3 k3 d3 a4 k4 d4 w' → K (T g a1 k1 d1 a2 k2 d2 a3 k3 d3 a4 k4 d4) w') : Code.wp P c (Exit.then K Q') a w :=
  wp_mid _ h1 fun _ w' ⟨g, a1, k1, d1, a2, k2, d2, a3, k3, d3, a4, k4, d4, e, hF⟩ => e ▸ h2 g a1 k1 d1 a2 k2 d2 a3 k3 d3 a4 k4 d4 w' hF
theorem slotA {w : World} {ao : Option Addr} {n c : Nat} {x : Int} (_h : NatA w ao n c x) (v : Value) (t : TypeId) : Slot (w.alloc (.cells #[v] t)) w.heap.size v t := slot_new w v t
theorem atW {P : Program} {f : FuncId} {args : Array Value} {w : World} {Q : Ending → World → Prop} {ao : Option Addr} {n c : Nat} {x : Int} (_h : NatA w ao n c x) (h : Calls P f args w Q) : Calls P f args w Q := h
theorem someNat : ∃ _n : Nat, True := ⟨0, trivial⟩
theorem someAddr : ∃ _a : Option Addr, True := ⟨none, trivial⟩
theorem step_call {P : Program} {ops : Array Oper} {o : Oper} {a : Act} {w : World} {K : Act → World → Prop} {Q : Exit → Act → World → Prop} {E : Prop} {f : FuncId} {args : Array Value}
    (hw : Region.wanted o (yielded ops a.tmps) = true) (hrun : (execOp a.eval o).run P w = .ok (.enter f args) w)
    (hc : Calls P f args w fun
      | .returned v, w'' => K (a.put o.dst v) w''
      | .panicked chain, w'' => Q (.panic chain) a w''
      | .outgrown, _ => LetsOut Q) :
    if Region.wanted o (yielded ops a.tmps) = true then Oper.wp P o a w K Q else E := by
  rw [if_pos hw]
  unfold Oper.wp
  rw [hrun]
  exact hc
end Go.Proofs.YtpbiflfdfiebcabGreatDoor
