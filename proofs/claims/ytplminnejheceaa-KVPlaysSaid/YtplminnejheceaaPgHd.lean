/- A drawn region within a round, at the widest fence, step by step: what holds of every world at hand is taken first. -/
import Derived.Test.YtplminnejheceaaPgIa
namespace Go.Proofs.Ytplminnejheceaa
namespace Pg
open Go.RowKit Go.Lib
section
variable {F : Fence} {n : Nat} {P : Program} {ops : Array Oper} {Q : Exit → Act → World → Prop} {md : Region.Mode} {S : World → Prop}
/-- whatever order is picked, and S holds behind every step -/
def inH (F : Fence) (n : Nat) (P : Program) (md : Region.Mode) (ops : Array Oper) (Q : Exit → Act → World → Prop) (S : World → Prop) : Nat → Array Bool → Act → World → Prop
  | 0, listed, a, w => Region.ready md ops listed = [] ∧ Q .normal a w
  | fuel + 1, listed, a, w =>
    (Region.ready md ops listed = [] → Q .normal a w) ∧
    ∀ i ∈ Region.ready md ops listed, wpOpIn F n P ops Q i (fun a' w' => S w' ∧ inH F n P md ops Q S fuel (listed.setIfInBounds i true) a' w') a w
theorem any_of_inH : ∀ (fuel : Nat) (listed : Array Bool) (a : Act) (w : World), inH F n P md ops Q S fuel listed a w → wpAnyIn F n P md ops Q fuel listed a w
  | 0, _, _, _, h => h
  | fuel + 1, _, _, _, h => ⟨h.1, fun i hi => wpOpIn_mono (fun a' w' h' => any_of_inH fuel _ a' w' h'.2) (h.2 i hi)⟩
/-- no operation is a defer or a select -/
def tame (ops : Array Oper) : Bool := ops.all fun o => match o.op with | .defer _ => false | .select .. => false | _ => true
theorem tame_at (h : tame ops = true) {j : Nat} {o : Oper} (hj : ops[j]? = some o) : (∀ c, o.op ≠ .defer c) ∧ (∀ cs b, o.op ≠ .select cs b) := by
  unfold tame at h
  rw [Array.all_eq_true] at h
  obtain ⟨hl, rfl⟩ := Array.getElem?_eq_some_iff.1 hj
  have := h j hl
  refine ⟨fun c e => ?_, fun cs b e => ?_⟩
  · rw [e] at this; simp at this
  · rw [e] at this; simp at this
theorem yields_in {i : Nat} {o : Oper} {v : Value} {a : Act} (hF : ∀ f, F.fn f) (ht : tame ops = true) (hi : ops[i]? = some o) (hy : YieldsIf P ops S o v a) {K : Act → World → Prop} {w : World} (hS : S w) (h : K (a.put o.dst v) w) : wpOpIn F n P ops Q i K a w := by
  unfold wpOpIn
  simp only [hi]
  rcases hy with ⟨hw, hv⟩ | ⟨hw, rfl⟩
  · simp only [hw, if_true, Oper.wpIn, Oper.semAt_eq F.round a.eval o (tame_at ht hi).1, hv w hS, Oper.uponIn]
    exact ⟨fun f _ => hF f, h⟩
  · simp only [hw, Bool.false_eq_true, if_false]; exact ⟨fun f _ => hF f, h⟩
theorem put_in {j : Nat} {oi oj : Oper} {v : Value} (hF : ∀ f, F.fn f) (ht : tame ops = true) (hj : ops[j]? = some oj) (hap : oi.apart ops oj = true) (hsi : ∀ cs b, oi.op ≠ .select cs b)
    (hQ : ∀ c a w, Q (.panic c) (a.put oi.dst v) w → Q (.panic c) a w) {K : Act → World → Prop} {a : Act} {w : World}
    (hy : YieldsIf P ops S oi v a) (h : wpOpIn F n P ops Q j K (a.put oi.dst v) w) :
    wpOpIn F n P ops Q j (fun a' w' => YieldsIf P ops S oi v a' ∧ K (a'.put oi.dst v) w') a w := by
  obtain ⟨h1, h2, h3⟩ := Oper.apart_spec hap
  obtain ⟨hd, hsj⟩ := tame_at ht hj
  have keep : ∀ (a : Act), YieldsIf P ops S oi v a → ∀ u, YieldsIf P ops S oi v (a.put oj.dst u) := fun a hy u =>
    hy.of_same (execOp_put oi hsi a oj.dst u h3) (wanted_put oi a oj.dst u h3)
  have keepD : ∀ d, YieldsIf P ops S oi v { a with defers := d :: a.defers } := fun d => hy.of_same rfl rfl
  unfold wpOpIn at *
  simp only [hj] at *
  rw [wanted_put oj a oi.dst v h1] at h
  split
  · rename_i hw
    simp only [hw, if_true] at h
    unfold Oper.wpIn at *
    refine ⟨fun f _ => hF f, ?_⟩
    have h := h.2
    rw [Oper.semAt_eq _ _ _ hd, execOp_put oj hsj a oi.dst v h1] at h
    rw [Oper.semAt_eq _ _ _ hd]
    generalize (execOp a.eval oj).run P w = r at *
    cases r with
    | ok x w' =>
      cases x <;> simp only [Oper.uponIn] at h ⊢
      case value u => exact ⟨keep a hy u, by rw [← Act.put_comm a v u h2]; exact h⟩
      case skip => exact ⟨keep a hy _, by rw [← Act.put_comm a v undef h2]; exact h⟩
      case defer d =>
        refine ⟨keep _ (keepD d) _, ?_⟩
        rw [← Act.put_comm _ v undef h2, ← Act.put_defers]
        exact h
      case enter f args =>
        refine ⟨h.1, CallsIn.mono h.2 fun e w'' he => ?_⟩
        cases e with
        | returned u => exact ⟨keep a hy u, by rw [← Act.put_comm a v u h2]; exact he⟩
        | panicked c => exact hQ _ _ _ he
        | outgrown => exact he
      case row row args => exact ⟨h.1, RowsIn.mono h.2 fun u w'' he => ⟨keep a hy u, by rw [← Act.put_comm a v u h2]; exact he⟩⟩
      case round l f tmps assign body =>
        refine ⟨h.1, RoundIn.mono h.2 fun e w'' he => ?_⟩
        cases e with
        | returned u => exact ⟨keep a hy u, by rw [← Act.put_comm a v u h2]; exact he⟩
        | panicked c => exact hQ _ _ _ he
        | outgrown => exact he
    | halt x w' =>
      cases x <;> simp only [Oper.uponIn] at h ⊢
      case panic u => exact hQ _ _ _ h
  · rename_i hw
    simp only [hw] at h
    exact ⟨fun f _ => hF f, keep a hy _, by rw [← Act.put_comm a v undef h2]; exact h.2⟩
theorem inH_first {i : Nat} {oi : Oper} {v : Value} (hF : ∀ f, F.fn f) (ht : tame ops = true) (hi : ops[i]? = some oi)
    (hQ : ∀ c a w, Q (.panic c) (a.put oi.dst v) w → Q (.panic c) a w) :
    ∀ (fuel : Nat) (listed : Array Bool) (a : Act) (w : World),
      (∀ j oj, ops[j]? = some oj → j ≠ i → listed.getD j true = false → (∀ e ∈ oj.after, Region.binds md e = true → e.on ≠ i) → oi.apart ops oj = true) →
      i ∈ Region.ready md ops listed → YieldsIf P ops S oi v a → S w →
      inH F n P md ops Q S fuel (listed.setIfInBounds i true) (a.put oi.dst v) w → inH F n P md ops Q S (fuel + 1) listed a w := by
  intro fuel
  induction fuel with
  | zero =>
    intro listed a w _ hr hy hS H
    refine ⟨fun h => (by rw [h] at hr; cases hr), fun j hj => ?_⟩
    by_cases hji : j = i
    · subst hji; exact yields_in hF ht hi hy hS ⟨hS, H⟩
    · have := ready_mono hj hji
      rw [H.1] at this
      cases this
  | succ fuel ih =>
    intro listed a w hfree hr hy hS H
    refine ⟨fun h => (by rw [h] at hr; cases hr), fun j hj => ?_⟩
    by_cases hji : j = i
    · subst hji; exact yields_in hF ht hi hy hS ⟨hS, H⟩
    · have h1 := H.2 j (ready_mono hj hji)
      obtain ⟨hjun, oj, hoj, hall⟩ := mem_ready.1 hj
      have hnot : ∀ e ∈ oj.after, Region.binds md e = true → e.on ≠ i := fun e he hb heq => by
        have h1 := hall e he hb
        have h0 := (mem_ready.1 hr).1
        rw [heq] at h1
        rcases Nat.lt_or_ge i listed.size with h' | h'
        · simp [h'] at h0 h1; rw [h0] at h1; cases h1
        · simp [Array.getElem?_eq_none h'] at h1
      have h2 := put_in hF ht hoj (hfree j oj hoj hji hjun hnot) (tame_at ht hi).2 hQ hy h1
      have hfree' : ∀ k ok, ops[k]? = some ok → k ≠ i → (listed.setIfInBounds j true).getD k true = false →
          (∀ e ∈ ok.after, Region.binds md e = true → e.on ≠ i) → oi.apart ops ok = true := fun k ok hk hki hun hno => by
        refine hfree k ok hk hki ?_ hno
        by_cases hjk : j = k
        · subst hjk; exact hjun
        · rw [getD_set_ne true hjk] at hun; exact hun
      refine wpOpIn_mono (fun a' w' h3 => ⟨h3.2.1, ih (listed.setIfInBounds j true) a' w' hfree' (ready_mono hr (Ne.symm hji)) h3.1 h3.2.1 ?_⟩) h2
      rw [Array.setIfInBounds_comm _ _ hji]
      exact h3.2.2
end
section
variable {ops : Array Oper} {Q : Exit → Act → World → Prop} {S : World → Prop} {fuel : Nat} {listed : Array Bool} {a : Act} {w : World} {l n : Nat}
theorem ih_start {id : Nat} (hm : Try.prog.follows .mixedOrders = true) (h : inH (Fence.wide.inRound l) n Try.prog .any ops Q S ops.size (Array.replicate ops.size false) a w.drew) : (Code.region id ops true).wpIn (Fence.wide.inRound l) n Try.prog Q a w :=
  wpIn_region_any hm (any_of_inH _ _ _ _ h)
theorem ih_take (i : Nat) (d : Option Tmp) (v : Value) (ht : tame ops = true) (hc : rgChk ops listed a i d = true) (hy : ∀ w', S w' → (execOp a.eval (ops.getD i default)).run Try.prog w' = .ok (.value v) w')
    (hQ : ∀ c a w, Q (.panic c) (a.put d v) w → Q (.panic c) a w) (hS : S w)
    (h : inH (Fence.wide.inRound l) n Try.prog .any ops Q S fuel (listed.setIfInBounds i true) (a.put d v) w) : inH (Fence.wide.inRound l) n Try.prog .any ops Q S (fuel + 1) listed a w := by
  simp only [rgChk, Bool.and_eq_true, decide_eq_true_eq] at hc
  obtain ⟨⟨⟨⟨⟨_, h2⟩, h3⟩, h4⟩, h5⟩, h6⟩ := hc
  subst h6
  exact inH_first (fun _ => trivial) ht (at_getD h4) hQ fuel listed a w (Region.free_spec (at_getD h4) h2) (by simpa using h3) (.inl ⟨h5, hy⟩) hS h
theorem ih_load (i : Nat) (d : Option Tmp) (v : Value) (T : TypeId) (k g o : Nat) (ht : tame ops = true) (hc : rgChk ops listed a i d = true) (ho : (ops.getD i default).op = .load T (.tmp k)) (hp : a.eval (.tmp k) = .pointer (some ⟨g, o, none⟩))
    (hl : ∀ w', S w' → (loadVar T ⟨g, o, none⟩).run Try.prog w' = .ok v w')
    (hQ : ∀ c a w, Q (.panic c) (a.put d v) w → Q (.panic c) a w) (hS : S w)
    (h : inH (Fence.wide.inRound l) n Try.prog .any ops Q S fuel (listed.setIfInBounds i true) (a.put d v) w) : inH (Fence.wide.inRound l) n Try.prog .any ops Q S (fuel + 1) listed a w :=
  ih_take i d v ht hc (fun w' hS' => run_lp k ho hp (hl w' hS')) hQ hS h
theorem ih_call (i : Nat) (d : Option Tmp) (f : FuncId) (args : Array Value) {Qc : Ending → World → Prop} (ht : tame ops = true) (hc : rgLone ops listed a i d = true) (hrun : (execOp a.eval (ops.getD i default)).run Try.prog w = .ok (.enter f args) w)
    (hcall : Calls Try.prog f args w Qc) (hk : ∀ e w', Qc e w' → ∃ v, e = .returned v ∧ S w' ∧ inH (Fence.wide.inRound l) n Try.prog .any ops Q S fuel (listed.setIfInBounds i true) (a.put d v) w') :
    inH (Fence.wide.inRound l) n Try.prog .any ops Q S (fuel + 1) listed a w := by
  simp only [rgLone, Bool.and_eq_true, decide_eq_true_eq] at hc
  obtain ⟨⟨⟨h3, h4⟩, h5⟩, h6⟩ := hc
  subst h6
  refine ⟨fun h0 => absurd (h3 ▸ h0) (by simp), fun j hj => ?_⟩
  rw [h3] at hj
  obtain rfl : j = i := by simpa using hj
  unfold wpOpIn
  rw [at_getD h4]
  simp only [h5, if_true, Oper.wpIn]
  refine ⟨fun _ _ => trivial, ?_⟩
  rw [Oper.semAt_eq _ _ _ (tame_at ht (at_getD h4)).1, hrun]
  refine ⟨fun h => (by cases h), CallsIn.inRound l (callsIn_wide.2 (hcall.mono fun e w' he => ?_))⟩
  obtain ⟨v, rfl, hS', hw⟩ := hk e w' he
  exact ⟨hS', hw⟩
theorem ih_yield (i : Nat) (d : Option Tmp) (l2 : Nat) (args : Array Value) {R : Ending → World → Prop} (ht : tame ops = true) (hc : rgLone ops listed a i d = true) (hrun : (execOp a.eval (ops.getD i default)).run Try.prog w = (Instr.yield l2 args).run Try.prog w)
    (hy : YieldAt Fence.wide 0 Try.prog l2 args w R) (hk : ∀ e w', R e w' → ∃ v, e = .returned v ∧ S w' ∧ inH (Fence.wide.inRound l) n Try.prog .any ops Q S fuel (listed.setIfInBounds i true) (a.put d v) w') :
    inH (Fence.wide.inRound l) n Try.prog .any ops Q S (fuel + 1) listed a w := by
  simp only [rgLone, Bool.and_eq_true, decide_eq_true_eq] at hc
  obtain ⟨⟨⟨h3, h4⟩, h5⟩, h6⟩ := hc
  subst h6
  obtain ⟨fn, tmps, assign, body, hy, hR⟩ := hy
  refine ⟨fun h0 => absurd (h3 ▸ h0) (by simp), fun j hj => ?_⟩
  rw [h3] at hj
  obtain rfl : j = i := by simpa using hj
  unfold wpOpIn
  rw [at_getD h4]
  simp only [h5, if_true, Oper.wpIn]
  refine ⟨fun _ _ => trivial, ?_⟩
  rw [Oper.semAt_eq _ _ _ (tame_at ht (at_getD h4)).1, hrun, hy]
  have hR2 : RoundIn (Fence.wide.inRound l) (n - 1) Try.prog l2 fn tmps assign body w R := ⟨hR.1, fun c cs _ => hR.2 c cs (fun _ h => by cases h)⟩
  refine ⟨fun h => (by cases h), hR2.mono fun e w' he => ?_⟩
  obtain ⟨v, rfl, hS', hw⟩ := hk e w' he
  exact ⟨hS', hw⟩
theorem ih_done (hr : Region.ready .any ops listed = []) (h : Q .normal a w) : inH (Fence.wide.inRound l) n Try.prog .any ops Q S fuel listed a w := by
  cases fuel with
  | zero => exact ⟨hr, h⟩
  | succ k => exact ⟨fun _ => h, by rw [hr]; simp⟩
theorem ih_turn {S' : World → Prop} (hs : ∀ w, S' w → S w) : ∀ {fuel : Nat} {listed : Array Bool} {a : Act} {w : World}, inH (Fence.wide.inRound l) n Try.prog .any ops Q S' fuel listed a w → inH (Fence.wide.inRound l) n Try.prog .any ops Q S fuel listed a w
  | 0, _, _, _, h => h
  | _ + 1, _, _, _, h => ⟨h.1, fun i hi => wpOpIn_mono (fun _ _ h' => ⟨hs _ h'.1, ih_turn hs h'.2⟩) (h.2 i hi)⟩
end
end Pg
end Go.Proofs.Ytplminnejheceaa
