/- The same, where the last operation z, a store that waits for all others, may undo what held. -/
import Derived.Test.YtplminnejheceaaPgSp
namespace Go.Proofs.Ytplminnejheceaa
namespace Pg
open Go.RowKit Go.Lib
section
variable {F : Fence} {n : Nat} {P : Program} {ops : Array Oper} {Q : Exit → Act → World → Prop} {md : Region.Mode} {S : World → Prop} {z : Nat}
/-- whatever order is picked, and S holds behind every step but z -/
def inZ (F : Fence) (n : Nat) (P : Program) (md : Region.Mode) (ops : Array Oper) (Q : Exit → Act → World → Prop) (S : World → Prop) (z : Nat) : Nat → Array Bool → Act → World → Prop
  | 0, listed, a, w => Region.ready md ops listed = [] ∧ Q .normal a w
  | fuel + 1, listed, a, w =>
    (Region.ready md ops listed = [] → Q .normal a w) ∧
    ∀ i ∈ Region.ready md ops listed, wpOpIn F n P ops Q i (fun a' w' => (i = z ∨ S w') ∧ inZ F n P md ops Q S z fuel (listed.setIfInBounds i true) a' w') a w
theorem any_of_inZ : ∀ (fuel : Nat) (listed : Array Bool) (a : Act) (w : World), inZ F n P md ops Q S z fuel listed a w → wpAnyIn F n P md ops Q fuel listed a w
  | 0, _, _, _, h => h
  | fuel + 1, _, _, _, h => ⟨h.1, fun i hi => wpOpIn_mono (fun a' w' h' => any_of_inZ fuel _ a' w' h'.2) (h.2 i hi)⟩
/-- z waits for i -/
def waits (md : Region.Mode) (ops : Array Oper) (z i : Nat) : Bool := decide (z ≠ i) && (ops.getD z default).after.any fun e => Region.binds md e && decide (e.on = i)
theorem inZ_first {i : Nat} {oi : Oper} {v : Value} (hz : waits md ops z i = true) (hF : ∀ f, F.fn f) (ht : tame ops = true) (hi : ops[i]? = some oi)
    (hQ : ∀ c a w, Q (.panic c) (a.put oi.dst v) w → Q (.panic c) a w) :
    ∀ (fuel : Nat) (listed : Array Bool) (a : Act) (w : World),
      (∀ j oj, ops[j]? = some oj → j ≠ i → listed.getD j true = false → (∀ e ∈ oj.after, Region.binds md e = true → e.on ≠ i) → oi.apart ops oj = true) →
      i ∈ Region.ready md ops listed → YieldsIf P ops S oi v a → S w →
      inZ F n P md ops Q S z fuel (listed.setIfInBounds i true) (a.put oi.dst v) w → inZ F n P md ops Q S z (fuel + 1) listed a w := by
  intro fuel
  induction fuel with
  | zero =>
    intro listed a w _ hr hy hS H
    refine ⟨fun h => (by rw [h] at hr; cases hr), fun j hj => ?_⟩
    by_cases hji : j = i
    · subst hji; exact yields_in hF ht hi hy hS ⟨.inr hS, H⟩
    · have := ready_mono hj hji
      rw [H.1] at this
      cases this
  | succ fuel ih =>
    intro listed a w hfree hr hy hS H
    refine ⟨fun h => (by rw [h] at hr; cases hr), fun j hj => ?_⟩
    by_cases hji : j = i
    · subst hji; exact yields_in hF ht hi hy hS ⟨.inr hS, H⟩
    · have h1 := H.2 j (ready_mono hj hji)
      obtain ⟨hjun, oj, hoj, hall⟩ := mem_ready.1 hj
      have hnot : ∀ e ∈ oj.after, Region.binds md e = true → e.on ≠ i := fun e he hb heq => by
        have h1 := hall e he hb
        have h0 := (mem_ready.1 hr).1
        rw [heq] at h1
        rcases Nat.lt_or_ge i listed.size with h' | h'
        · simp [h'] at h0 h1; rw [h0] at h1; cases h1
        · simp [Array.getElem?_eq_none h'] at h1
      have hjz : j ≠ z := fun e => by
        subst e
        unfold waits at hz
        rw [Bool.and_eq_true, Array.any_eq_true] at hz
        obtain ⟨_, k, hk, h2⟩ := hz
        have eo : ops.getD j default = oj := by
          rw [Array.getD_eq_getD_getElem?, hoj]; rfl
        simp only [eo] at hk h2
        rw [Bool.and_eq_true, decide_eq_true_eq] at h2
        exact hnot _ (Array.getElem_mem hk) h2.1 h2.2
      have h2 := put_in hF ht hoj (hfree j oj hoj hji hjun hnot) (tame_at ht hi).2 hQ hy h1
      have hfree' : ∀ k ok, ops[k]? = some ok → k ≠ i → (listed.setIfInBounds j true).getD k true = false →
          (∀ e ∈ ok.after, Region.binds md e = true → e.on ≠ i) → oi.apart ops ok = true := fun k ok hk hki hun hno => by
        refine hfree k ok hk hki ?_ hno
        by_cases hjk : j = k
        · subst hjk; exact hjun
        · rw [getD_set_ne true hjk] at hun; exact hun
      refine wpOpIn_mono (fun a' w' h3 => ?_) h2
      have hS' := h3.2.1.resolve_left hjz
      refine ⟨.inr hS', ih (listed.setIfInBounds j true) a' w' hfree' (ready_mono hr (Ne.symm hji)) h3.1 hS' ?_⟩
      rw [Array.setIfInBounds_comm _ _ hji]
      exact h3.2.2
end
section
variable {ops : Array Oper} {Q : Exit → Act → World → Prop} {S : World → Prop} {z fuel : Nat} {listed : Array Bool} {a : Act} {w : World} {l n : Nat}
theorem iz_start {id : Nat} (hm : Try.prog.follows .mixedOrders = true) (h : inZ (Fence.wide.inRound l) n Try.prog .any ops Q S z ops.size (Array.replicate ops.size false) a w.drew) : (Code.region id ops true).wpIn (Fence.wide.inRound l) n Try.prog Q a w :=
  wpIn_region_any hm (any_of_inZ _ _ _ _ h)
theorem iz_take (i : Nat) (d : Option Tmp) (v : Value) (hz : waits .any ops z i = true) (ht : tame ops = true) (hc : rgChk ops listed a i d = true) (hy : ∀ w', S w' → (execOp a.eval (ops.getD i default)).run Try.prog w' = .ok (.value v) w')
    (hQ : ∀ c a w, Q (.panic c) (a.put d v) w → Q (.panic c) a w) (hS : S w)
    (h : inZ (Fence.wide.inRound l) n Try.prog .any ops Q S z fuel (listed.setIfInBounds i true) (a.put d v) w) : inZ (Fence.wide.inRound l) n Try.prog .any ops Q S z (fuel + 1) listed a w := by
  simp only [rgChk, Bool.and_eq_true, decide_eq_true_eq] at hc
  obtain ⟨⟨⟨⟨⟨_, h2⟩, h3⟩, h4⟩, h5⟩, h6⟩ := hc
  subst h6
  exact inZ_first hz (fun _ => trivial) ht (at_getD h4) hQ fuel listed a w (Region.free_spec (at_getD h4) h2) (by simpa using h3) (.inl ⟨h5, hy⟩) hS h
theorem iz_load (i : Nat) (d : Option Tmp) (v : Value) (T : TypeId) (k g o : Nat) (hz : waits .any ops z i = true) (ht : tame ops = true) (hc : rgChk ops listed a i d = true) (ho : (ops.getD i default).op = .load T (.tmp k)) (hp : a.eval (.tmp k) = .pointer (some ⟨g, o, none⟩))
    (hl : ∀ w', S w' → (loadVar T ⟨g, o, none⟩).run Try.prog w' = .ok v w')
    (hQ : ∀ c a w, Q (.panic c) (a.put d v) w → Q (.panic c) a w) (hS : S w)
    (h : inZ (Fence.wide.inRound l) n Try.prog .any ops Q S z fuel (listed.setIfInBounds i true) (a.put d v) w) : inZ (Fence.wide.inRound l) n Try.prog .any ops Q S z (fuel + 1) listed a w :=
  iz_take i d v hz ht hc (fun w' hS' => run_lp k ho hp (hl w' hS')) hQ hS h
theorem iz_call (i : Nat) (d : Option Tmp) (f : FuncId) (args : Array Value) {Qc : Ending → World → Prop} (ht : tame ops = true) (hc : rgLone ops listed a i d = true) (hrun : (execOp a.eval (ops.getD i default)).run Try.prog w = .ok (.enter f args) w)
    (hcall : Calls Try.prog f args w Qc) (hk : ∀ e w', Qc e w' → ∃ v, e = .returned v ∧ S w' ∧ inZ (Fence.wide.inRound l) n Try.prog .any ops Q S z fuel (listed.setIfInBounds i true) (a.put d v) w') :
    inZ (Fence.wide.inRound l) n Try.prog .any ops Q S z (fuel + 1) listed a w := by
  simp only [rgLone, Bool.and_eq_true, decide_eq_true_eq] at hc
  obtain ⟨⟨⟨h3, h4⟩, h5⟩, h6⟩ := hc
  subst h6
  refine ⟨fun h0 => absurd (h3 ▸ h0) (by simp), fun j hj => ?_⟩
  rw [h3] at hj
  obtain rfl : j = i := by simpa using hj
  unfold wpOpIn
  rw [at_getD h4]
  simp only [h5, if_true, Oper.wpIn]
  refine ⟨fun _ _ => trivial, ?_⟩
  rw [Oper.semAt_eq _ _ _ (tame_at ht (at_getD h4)).1, hrun]
  refine ⟨fun h => (by cases h), CallsIn.inRound l (callsIn_wide.2 (hcall.mono fun e w' he => ?_))⟩
  obtain ⟨v, rfl, hS', hw⟩ := hk e w' he
  exact ⟨.inr hS', hw⟩
theorem iz_val (i : Nat) (d : Option Tmp) (v : Value) (w1 : World) (ht : tame ops = true) (hc : rgLone ops listed a i d = true) (hrun : (execOp a.eval (ops.getD i default)).run Try.prog w = .ok (.value v) w1) (hS : S w1)
    (h : inZ (Fence.wide.inRound l) n Try.prog .any ops Q S z fuel (listed.setIfInBounds i true) (a.put d v) w1) :
    inZ (Fence.wide.inRound l) n Try.prog .any ops Q S z (fuel + 1) listed a w := by
  simp only [rgLone, Bool.and_eq_true, decide_eq_true_eq] at hc
  obtain ⟨⟨⟨h3, h4⟩, h5⟩, h6⟩ := hc
  subst h6
  refine ⟨fun h0 => absurd (h3 ▸ h0) (by simp), fun j hj => ?_⟩
  rw [h3] at hj
  obtain rfl : j = i := by simpa using hj
  unfold wpOpIn
  rw [at_getD h4]
  simp only [h5, if_true, Oper.wpIn]
  refine ⟨fun _ _ => trivial, ?_⟩
  rw [Oper.semAt_eq _ _ _ (tame_at ht (at_getD h4)).1, hrun]
  exact ⟨.inr hS, h⟩
theorem iz_last (w1 : World) (ht : tame ops = true) (hc : rgLone ops listed a z none = true) (hrun : (execOp a.eval (ops.getD z default)).run Try.prog w = .ok .skip w1)
    (h : inZ (Fence.wide.inRound l) n Try.prog .any ops Q S z fuel (listed.setIfInBounds z true) a w1) :
    inZ (Fence.wide.inRound l) n Try.prog .any ops Q S z (fuel + 1) listed a w := by
  simp only [rgLone, Bool.and_eq_true, decide_eq_true_eq] at hc
  obtain ⟨⟨⟨h3, h4⟩, h5⟩, h6⟩ := hc
  refine ⟨fun h0 => absurd (h3 ▸ h0) (by simp), fun j hj => ?_⟩
  rw [h3] at hj
  obtain rfl : j = z := by simpa using hj
  unfold wpOpIn
  rw [at_getD h4]
  simp only [h5, if_true, Oper.wpIn]
  refine ⟨fun _ _ => trivial, ?_⟩
  rw [Oper.semAt_eq _ _ _ (tame_at ht (at_getD h4)).1, hrun]
  refine ⟨by simp, ?_⟩
  rw [h6]
  exact h
theorem iz_done (hr : Region.ready .any ops listed = []) (h : Q .normal a w) : inZ (Fence.wide.inRound l) n Try.prog .any ops Q S z fuel listed a w := by
  cases fuel with
  | zero => exact ⟨hr, h⟩
  | succ k => exact ⟨fun _ => h, by rw [hr]; simp⟩
end
end Pg
end Go.Proofs.Ytplminnejheceaa
