/- A region that draws its order, step by step. -/
import Derived.Test.YtplminnejheceaaPgU
import Derived.Deep.RegionHeld3
import Derived.Deep.RegionWith
namespace Go.Proofs.Ytplminnejheceaa
namespace Pg
open Go.RowKit Go.Lib
section
variable {ops : Array Oper} {Q : Exit → Act → World → Prop} {S : World → Prop} {fuel : Nat} {listed : Array Bool} {a : Act} {w : World}

/-- operation i may be taken first, is wanted, and writes d -/
def rgChk (ops : Array Oper) (listed : Array Bool) (a : Act) (i : Nat) (d : Option Tmp) : Bool :=
  Region.noSelect ops && Region.free .any ops listed i && (Region.ready .any ops listed).contains i && decide (i < ops.size) && Region.wanted (ops.getD i default) (yielded ops a.tmps) && decide ((ops.getD i default).dst = d)
/-- operation i may be taken first, is passed over by its guard, and would write d -/
def rgNot (ops : Array Oper) (listed : Array Bool) (a : Act) (i : Nat) (d : Option Tmp) : Bool :=
  Region.noSelect ops && Region.free .any ops listed i && (Region.ready .any ops listed).contains i && decide (i < ops.size) && !Region.wanted (ops.getD i default) (yielded ops a.tmps) && decide ((ops.getD i default).dst = d)
/-- operation i alone may come up, is wanted, and writes d -/
def rgLone (ops : Array Oper) (listed : Array Bool) (a : Act) (i : Nat) (d : Option Tmp) : Bool :=
  decide (Region.ready .any ops listed = [i]) && decide (i < ops.size) && Region.wanted (ops.getD i default) (yielded ops a.tmps) && decide ((ops.getD i default).dst = d)
theorem at_getD {i : Nat} (h : i < ops.size) : ops[i]? = some (ops.getD i default) := by
  simp [Array.getD, h]
theorem rg_take (i : Nat) (d : Option Tmp) (v : Value) (hc : rgChk ops listed a i d = true) (hy : ∀ w', S w' → (execOp a.eval (ops.getD i default)).run Try.prog w' = .ok (.value v) w')
    (hQ : ∀ c a w, Q (.panic c) (a.put d v) w → Q (.panic c) a w) (hS : S w)
    (h : wpAnyH Try.prog .any ops Q S fuel (listed.setIfInBounds i true) (a.put d v) w) : wpAnyH Try.prog .any ops Q S (fuel + 1) listed a w := by
  simp only [rgChk, Bool.and_eq_true, decide_eq_true_eq] at hc
  obtain ⟨⟨⟨⟨⟨h1, h2⟩, h3⟩, h4⟩, h5⟩, h6⟩ := hc
  subst h6
  exact wpAnyH_take (at_getD h4) h1 h2 h3 hQ (.inl ⟨h5, hy⟩) hS h
theorem rg_eq (i : Nat) (d : Option Tmp) (v v' : Value) (hv : v = v') (hc : rgChk ops listed a i d = true) (hy : ∀ w', S w' → (execOp a.eval (ops.getD i default)).run Try.prog w' = .ok (.value v) w')
    (hQ : ∀ c a w, Q (.panic c) (a.put d v') w → Q (.panic c) a w) (hS : S w)
    (h : wpAnyH Try.prog .any ops Q S fuel (listed.setIfInBounds i true) (a.put d v') w) : wpAnyH Try.prog .any ops Q S (fuel + 1) listed a w := by
  subst hv
  exact rg_take i d v hc hy hQ hS h
theorem rg_skip (i : Nat) (d : Option Tmp) (hc : rgNot ops listed a i d = true) (hQ : ∀ c a w, Q (.panic c) (a.put d undef) w → Q (.panic c) a w) (hS : S w)
    (h : wpAnyH Try.prog .any ops Q S fuel (listed.setIfInBounds i true) (a.put d undef) w) : wpAnyH Try.prog .any ops Q S (fuel + 1) listed a w := by
  simp only [rgNot, Bool.and_eq_true, decide_eq_true_eq, Bool.not_eq_true'] at hc
  obtain ⟨⟨⟨⟨⟨h1, h2⟩, h3⟩, h4⟩, h5⟩, h6⟩ := hc
  subst h6
  exact wpAnyH_take (at_getD h4) h1 h2 h3 hQ (.inr ⟨h5, rfl⟩) hS h
theorem rg_load (i : Nat) (d : Option Tmp) (v : Value) (T : TypeId) (k g o : Nat) (hc : rgChk ops listed a i d = true) (ho : (ops.getD i default).op = .load T (.tmp k)) (hp : a.eval (.tmp k) = .pointer (some ⟨g, o, none⟩))
    (hl : ∀ w', S w' → (loadVar T ⟨g, o, none⟩).run Try.prog w' = .ok v w')
    (hQ : ∀ c a w, Q (.panic c) (a.put d v) w → Q (.panic c) a w) (hS : S w)
    (h : wpAnyH Try.prog .any ops Q S fuel (listed.setIfInBounds i true) (a.put d v) w) : wpAnyH Try.prog .any ops Q S (fuel + 1) listed a w :=
  rg_take i d v hc (fun w' hS' => by
    have := hl w' hS'
    simp only [execOp, ho, hp]
    simp [Instr.loadAt, Instr.sureAddr, Result.andThen, this]) hQ hS h
theorem rg_call (i : Nat) (d : Option Tmp) (f : FuncId) (args : Array Value) {Qc : Ending → World → Prop} (hc : rgLone ops listed a i d = true) (hrun : (execOp a.eval (ops.getD i default)).run Try.prog w = .ok (.enter f args) w)
    (hcall : Calls Try.prog f args w Qc) (hk : ∀ e w', Qc e w' → ∃ v, e = .returned v ∧ S w' ∧ wpAnyH Try.prog .any ops Q S fuel (listed.setIfInBounds i true) (a.put d v) w') :
    wpAnyH Try.prog .any ops Q S (fuel + 1) listed a w := by
  simp only [rgLone, Bool.and_eq_true, decide_eq_true_eq] at hc
  obtain ⟨⟨⟨h3, h4⟩, h5⟩, h6⟩ := hc
  subst h6
  refine wpAnyH_all h3 (by simp) fun j hj => ?_
  obtain rfl : j = i := by simpa using hj
  refine wpOp_step (at_getD h4) fun K hK => ?_
  rw [if_pos h5]
  unfold Oper.wp
  rw [hrun]
  refine hcall.mono fun e w' he => ?_
  obtain ⟨v, rfl, hS', hw⟩ := hk e w' he
  exact hK _ _ ⟨hS', hw⟩
theorem rg_done (hr : Region.ready .any ops listed = []) (h : Q .normal a w) : wpAnyH Try.prog .any ops Q S fuel listed a w := wpAnyH_done hr h fuel
theorem rg_start {id : Nat} (hm : Try.prog.follows .mixedOrders = true) (hS : S w.drew) (h : wpAnyH Try.prog .any ops Q S ops.size (Array.replicate ops.size false) a w.drew) : (Code.region id ops true).wp Try.prog Q a w :=
  wp_region_held_drew hm hS fun _ => h
end
/-- the frame with these slots put -/
def putAll (a : Act) : List (Option Tmp × Value) → Act
  | [] => a
  | p :: l => putAll (a.put p.1 p.2) l
section
variable {ops : Array Oper} {Q : Exit → Act → World → Prop} {S : World → Prop} {fuel : Nat} {listed : Array Bool} {a : Act} {w : World}
theorem rg_mid {X : Type} {id : Nat} {K : Act → World → Prop} {Q' : Exit → Act → World → Prop} (upd : X → List (Option Tmp × Value)) (F : X → World → Prop) (S : World → Prop) (hm : Try.prog.follows .mixedOrders = true) (hS : S w.drew)
    (h1 : wpAnyH Try.prog .any ops (Exit.then (fun a' w' => ∃ x, a' = putAll a (upd x) ∧ F x w') (fun _ _ _ => False)) S ops.size (Array.replicate ops.size false) a w.drew)
    (h2 : ∀ x w', F x w' → K (putAll a (upd x)) w') : (Code.region id ops true).wp Try.prog (Exit.then K Q') a w :=
  Code.wp_mono (fun e a' w' h => by
    cases e <;> first
      | (obtain ⟨x, rfl, hF⟩ := h; exact h2 x w' hF)
      | exact h.elim) (wp_region_held_drew (S := S) hm hS fun _ => h1)
def rgWant (ops : Array Oper) (a : Act) (i : Nat) (d : Option Tmp) : Bool :=
  decide (i < ops.size) && Region.wanted (ops.getD i default) (yielded ops a.tmps) && decide ((ops.getD i default).dst = d)
theorem rg_ready (rs : List Nat) (hr : Region.ready .any ops listed = rs) (hne : rs ≠ []) (h : AllReadyH Try.prog .any ops Q S fuel listed a w rs) : wpAnyH Try.prog .any ops Q S (fuel + 1) listed a w := wpAnyH_ready hr hne h
theorem ar_nil : AllReadyH Try.prog .any ops Q S fuel listed a w [] := AllReadyH.nil
theorem ar_call {rs : List Nat} (i : Nat) (d : Option Tmp) (f : FuncId) (args : Array Value) {Qc : Ending → World → Prop} (hc : rgWant ops a i d = true) (hrun : (execOp a.eval (ops.getD i default)).run Try.prog w = .ok (.enter f args) w)
    (hcall : Calls Try.prog f args w Qc) (hk : ∀ e w', Qc e w' → ∃ v, e = .returned v ∧ S w' ∧ wpAnyH Try.prog .any ops Q S fuel (listed.setIfInBounds i true) (a.put d v) w')
    (hs : AllReadyH Try.prog .any ops Q S fuel listed a w rs) : AllReadyH Try.prog .any ops Q S fuel listed a w (i :: rs) := by
  simp only [rgWant, Bool.and_eq_true, decide_eq_true_eq] at hc
  obtain ⟨⟨h4, h5⟩, h6⟩ := hc
  subst h6
  refine AllReadyH.cons (at_getD h4) (fun K hK => ?_) hs
  rw [if_pos h5]
  unfold Oper.wp
  rw [hrun]
  refine hcall.mono fun e w' he => ?_
  obtain ⟨v, rfl, hS', hw⟩ := hk e w' he
  exact hK.out _ _ hS' fun _ => hw
theorem ar_val {rs : List Nat} (i : Nat) (d : Option Tmp) (v : Value) (w1 : World) (hc : rgWant ops a i d = true) (hrun : (execOp a.eval (ops.getD i default)).run Try.prog w = .ok (.value v) w1)
    (hS1 : S w1) (h : wpAnyH Try.prog .any ops Q S fuel (listed.setIfInBounds i true) (a.put d v) w1)
    (hs : AllReadyH Try.prog .any ops Q S fuel listed a w rs) : AllReadyH Try.prog .any ops Q S fuel listed a w (i :: rs) := by
  simp only [rgWant, Bool.and_eq_true, decide_eq_true_eq] at hc
  obtain ⟨⟨h4, h5⟩, h6⟩ := hc
  subst h6
  refine AllReadyH.cons (at_getD h4) (fun K hK => ?_) hs
  rw [if_pos h5]
  unfold Oper.wp
  rw [hrun]
  show K (a.put (ops.getD i default).dst v) w1
  exact hK.out _ _ hS1 fun _ => h
theorem ar_void {rs : List Nat} (i : Nat) (w1 : World) (hc : rgWant ops a i none = true) (hrun : (execOp a.eval (ops.getD i default)).run Try.prog w = .ok .skip w1)
    (hS1 : S w1) (h : wpAnyH Try.prog .any ops Q S fuel (listed.setIfInBounds i true) (a.put none undef) w1)
    (hs : AllReadyH Try.prog .any ops Q S fuel listed a w rs) : AllReadyH Try.prog .any ops Q S fuel listed a w (i :: rs) := by
  simp only [rgWant, Bool.and_eq_true, decide_eq_true_eq] at hc
  obtain ⟨⟨h4, h5⟩, h6⟩ := hc
  refine AllReadyH.cons (at_getD h4) (fun K hK => ?_) hs
  rw [if_pos h5]
  unfold Oper.wp
  rw [hrun]
  show K (a.put (ops.getD i default).dst undef) w1
  rw [h6]
  exact hK.out _ _ hS1 fun _ => h
end
theorem run_ix {a : Act} {w : World} {op : Oper} {T : TypeId} {x y k n c b : Nat} (ho : op.op = .indexAddr T (.tmp x) (.tmp y)) (hT : Try.prog.underlying T = some (.slice 87)) (hx : a.eval (.tmp x) = .slice (some ⟨b, 0, none⟩) n c) {z : Int} (hy : a.eval (.tmp y) = .int .i64 z) (hz : z = (k : Int)) (hk : k < n) : (execOp a.eval op).run Try.prog w = .ok (.value (.pointer (some ⟨b, k, none⟩))) w := by
  subst hz
  have h1 : (k : Int) < n := by omega
  have h2 : ¬ ((k : Int) < 0) := by omega
  obtain ⟨i0, hi, hz0, hs0, hb0⟩ := info_parts (P := Try.prog) (show (Try.prog.info? 87).map (fun i => (i.zero, i.size, i.bytes)) = some (some (.slice none 0 0), 1, 24) by kernel_rfl)
  simp only [execOp, ho, hx, hy]
  go_simp
theorem ld_pp {w : World} {g o : Nat} {v : Value} (c : w.cell? ⟨g, o, none⟩ = some v) : (loadVar 84 ⟨g, o, none⟩).run Try.prog w = .ok v w := by go_simp
theorem ld_p {w : World} {g o : Nat} {v : Value} (c : w.cell? ⟨g, o, none⟩ = some v) : (loadVar 87 ⟨g, o, none⟩).run Try.prog w = .ok v w := by go_simp
theorem ld_e {w : World} {g : Nat} {v u : Value} (c : w.cell? ⟨g, 0, none⟩ = some v) (d : w.cell? ⟨g, 1, none⟩ = some u) : (loadVar 90 ⟨g, 0, none⟩).run Try.prog w = .ok (.agg #[v, u]) w := by go_simp
theorem run_lp {a : Act} {w : World} {o : Oper} {T : TypeId} (k : Nat) {g off : Nat} {v : Value} (ho : o.op = .load T (.tmp k)) (hp : a.eval (.tmp k) = .pointer (some ⟨g, off, none⟩)) (hl : (loadVar T ⟨g, off, none⟩).run Try.prog w = .ok v w) : (execOp a.eval o).run Try.prog w = .ok (.value v) w := by
  simp only [execOp, ho, hp]
  simp [Instr.loadAt, Instr.sureAddr, Result.andThen, hl]
theorem run_sp {a : Act} {w : World} {o : Oper} (k q : Nat) {g off n c : Nat} {u : Value} {ao : Option Addr} (ho : o.op = .store 87 (.tmp k) (.tmp q)) (hp : a.eval (.tmp k) = .pointer (some ⟨g, off, none⟩)) (hq : a.eval (.tmp q) = .slice ao n c) (hc : w.cell? ⟨g, off, none⟩ = some u) (hf : w.frozen? ⟨g, off, none⟩ = false) :
    (execOp a.eval o).run Try.prog w = .ok .skip (w.setCell ⟨g, off, none⟩ (.slice ao n c)) := by
  simp only [execOp, ho, hp, hq]
  go_simp
theorem run_bs {a : Act} {w : World} {o : Oper} {k : Nat} {kv vv : Value} (ho : o.op = .buildSlice 87 1 #[(0, .tmp k)]) (hk : a.eval (.tmp k) = .agg #[kv, vv]) : (execOp a.eval o).run Try.prog w = .ok (.value (.slice (some ⟨w.heap.size, 0, none⟩) 1 1)) (w.alloc (.cells #[kv, vv] 90)) := by
  have hk' : a.tmps[k]?.getD undef = .agg #[kv, vv] := by simpa [Act.eval] using hk
  simp only [execOp, ho]
  go_simp
theorem run_bs2 {a : Act} {w : World} {o : Oper} {x y : Nat} {ao bo : Option Addr} {n c m d : Nat} (ho : o.op = .buildSlice 84 2 #[(0, .tmp x), (1, .tmp y)]) (hx : a.eval (.tmp x) = .slice ao n c) (hy : a.eval (.tmp y) = .slice bo m d) : (execOp a.eval o).run Try.prog w = .ok (.value (.slice (some ⟨w.heap.size, 0, none⟩) 2 2)) (w.alloc (.cells #[.slice ao n c, .slice bo m d] 87)) := by
  have hx' : a.tmps[x]?.getD undef = .slice ao n c := by simpa [Act.eval] using hx
  have hy' : a.tmps[y]?.getD undef = .slice bo m d := by simpa [Act.eval] using hy
  simp only [execOp, ho]
  go_simp
end Pg
end Go.Proofs.Ytplminnejheceaa
