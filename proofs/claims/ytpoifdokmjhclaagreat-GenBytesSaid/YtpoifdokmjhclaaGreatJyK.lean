/- Several texts, joined: GnF. -/
import Derived.Test.YtpoifdokmjhclaaGreatJyd
import Derived.Defers
namespace Go.Proofs.YtpoifdokmjhclaaGreat
namespace Gl
open Go.RowKit Go.Lib Pg
section
variable {P : Program} {n : Nat} {ds : List Deferred} {ops : Array Oper} {rest : List Oper} {o : Oper} {l : Fr} {w : World} {Q : Exit → Act → World → Prop}
/-- a call is deferred -/
theorem td (d : Deferred) (h : GL P n (d :: ds) ops Q rest l w) (hg : gd ops l o = some true := by kernel_rfl) (hc : chk n l o none = true := by kernel_rfl) (hrun : (execOp (evL l) o).run P w = .ok (.defer d) w := by kernel_rfl) : GL P n ds ops Q (o :: rest) l w := ⟨fun a r =>
  BigFrame.wpList_want (gd_want r hg) fun K hK => by
    unfold Oper.wp
    rw [chk_ex hc r, hrun, Oper.upon_defer, (chk_d hc).1]
    exact hK _ _ (h.out _ ⟨r.size, by show d :: a.defers = d :: ds; rw [r.dfs], r.get⟩)⟩
theorem enR {fn : Func} {vs : List Value} (hn : fn.ntmps = n) (hs : Nat.ble vs.length n = true) : Rd n [] (en 0 vs) { tmps := vs.toArray ++ Array.replicate (fn.ntmps - vs.toArray.size) undef, defers := [] } := by
  have hs := Nat.le_of_ble_eq_true hs
  refine ⟨?_, rfl, fun k v hk => ?_⟩
  · simp
    omega
  · obtain ⟨_, h2⟩ := lk_en vs 0 k v hk
    rw [Nat.sub_zero] at h2
    have hlt := (List.getElem?_eq_some_iff.1 h2).1
    rw [Array.getElem?_append_left (by simpa using hlt)]
    simpa using h2
/-- a function that defers -/
theorem gc_enterF {f : FuncId} {fn : Func} {c : Code} {vs : List Value} {R : Ending → World → Prop} (hf : P.funcs[f]? = some fn) (hb : fn.body = some c) (h : GC P n [] c (bodyPostD P fn R) (en 0 vs) w) (hn : fn.ntmps = n := by kernel_rfl) (hs : Nat.ble vs.length n = true := by kernel_rfl) : Calls P f vs.toArray w R :=
  calls_of_wp_defers hf hb (h.out _ (enR hn hs))
/-- a function that was deferred -/
theorem gc_enterG {f : FuncId} {fn : Func} {c : Code} {vs : List Value} {u : FrameMode} {R : Ending → World → Prop} (hf : P.funcs[f]? = some fn) (hb : fn.body = some c) (h : GC P n [] c (bodyPost P fn R) (en 0 vs) w) (hn : fn.ntmps = n := by kernel_rfl) (hs : Nat.ble vs.length n = true := by kernel_rfl) : CallsD P f vs.toArray u w fun e u' w' => u' = u ∧ R e w' :=
  callsD_of_wp hf hb (h.out _ (enR hn hs))
/-- the end of a function with one deferred call -/
theorem ge_retF {fn : Func} {R R' : Ending → World → Prop} {fv : Fn} {cap dargs args : Array Value} {f : FuncId} (hi : (invoke (.fn fv cap) dargs).run P w = .ok (.enter f args) w) (hc : CallsD P f args .returning w fun e u' w' => u' = .returning ∧ R' e w')
    (h : ∀ e w', R' e w' → ∃ x v, e = .returned x ∧ (∀ a, Rd n [] l a → (results fn a.tmps).run P w' = .ok v w') ∧ R (.returned v) w') : GE n [⟨.fn fv cap, dargs⟩] (bodyPostD P fn R) .ret l w := ⟨fun a r => by
  show Leaves P fn a.tmps R a.defers .returning w
  rw [r.dfs]
  refine ⟨by simp, fv, cap, f, args, rfl, hi, hc.mono ?_⟩
  rintro e u' w' ⟨rfl, h'⟩
  obtain ⟨x, v, rfl, hr, hR⟩ := h e w' h'
  exact ⟨v, hr { a with defers := [] } ⟨r.size, rfl, r.get⟩, hR⟩⟩
end
end Gl
end Go.Proofs.YtpoifdokmjhclaaGreat
