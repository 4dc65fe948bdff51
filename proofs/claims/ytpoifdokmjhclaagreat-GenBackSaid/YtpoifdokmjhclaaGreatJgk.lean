/- Several texts, joined: GlA, GlB, GlC, RcB2, RcC, RcD2, RcE2, RcF, RcG2, RcH2, RcI2, EncF, EncG, EncI, RcJ, RcK, RcL, EncJ, EncK, RefB2, EncL. -/
import Derived.Test.YtpoifdokmjhclaaGreatJga
import Derived.Deep.RegionHeld3
import Derived.Deep.RegionWith
import Derived.Deep.WholeRow
import Derived.Deep.MidRow
import Derived.Deep.LoopGhost
import Derived.BigFrame
import Derived.Test.YtpoifdokmjhclaaGreatJgj
import Derived.Test.YtpoifdokmjhclaaGreatJgb
import Derived.Lib.SlBytesConst
namespace Go.Proofs.YtpoifdokmjhclaaGreat
namespace Gl
open Go.RowKit Go.Lib Pg
abbrev Fr := List (Nat × Value)
def lk : Fr → Nat → Option Value
  | [], _ => none
  | p :: r, k => bif Nat.beq p.1 k then some p.2 else lk r k
def evL (l : Fr) : Operand → Value
  | .tmp k => (lk l k).getD undef
  | .const v => v
  | .global g => .pointer (some ⟨g, 0, none⟩)
  | .func f => .func (.func f) #[] #[]
def kn (l : Fr) : Operand → Bool
  | .tmp k => (lk l k).isSome
  | _ => true
/-- a frame of n temporaries, of which l tells some -/
structure Rd (n : Nat) (ds : List Deferred) (l : Fr) (a : Act) : Prop where
  size : a.tmps.size = n
  dfs : a.defers = ds
  get : ∀ k v, lk l k = some v → a.tmps[k]? = some v
theorem Rd.ev {n : Nat} {ds : List Deferred} {l : Fr} {a : Act} (h : Rd n ds l a) (x : Operand) (hk : kn l x = true) : a.eval x = evL l x := by
  cases x with
  | tmp k =>
    cases hl : lk l k with
    | none => simp [kn, hl] at hk
    | some v => simp [Act.eval, evL, hl, h.get k v hl]
  | const v => rfl
  | global g => rfl
  | func f => rfl
def pt (l : Fr) : Option Nat → Value → Fr
  | some d, v => (d, v) :: l
  | none, _ => l
theorem Rd.put {n : Nat} {ds : List Deferred} {l : Fr} {a : Act} (h : Rd n ds l a) (d : Option Nat) (v : Value) (hd : ∀ k, d = some k → k < n) : Rd n ds (pt l d v) (a.put d v) := by
  cases d with
  | none => exact h
  | some d =>
    have hd := hd d rfl
    refine ⟨by simpa [Act.put] using h.size, h.dfs, fun k u hu => ?_⟩
    simp only [pt, lk] at hu
    by_cases e : d = k
    · subst e
      simp at hu
      subst hu
      simp [Act.put, h.size, hd]
    · have e' : Nat.beq d k = false := by
        cases hb : Nat.beq d k with
        | false => rfl
        | true => exact absurd (Nat.eq_of_beq_eq_true hb) e
      rw [e'] at hu
      simp only [Act.put, Array.getElem?_setIfInBounds, if_neg e]
      exact h.get k u hu
/-- l' is told by l -/
def sub (l' l : Fr) : Prop := ∀ k v, lk l' k = some v → lk l k = some v
theorem lk_mem {l : Fr} {k : Nat} {v : Value} (h : lk l k = some v) : (k, v) ∈ l := by
  induction l with
  | nil => cases h
  | cons p r ih =>
    simp only [lk] at h
    cases hb : Nat.beq p.1 k with
    | true =>
      rw [hb] at h
      have := Nat.eq_of_beq_eq_true hb
      simp at h
      subst h; subst this
      exact List.mem_cons_self
    | false => rw [hb] at h; exact List.mem_cons_of_mem _ (ih h)
theorem sub_of {l' l : Fr} (h : l'.map (fun p => lk l p.1) = l'.map (fun p => some p.2)) : sub l' l := fun k v hk => by
  have hm := lk_mem hk
  have := List.map_inj_left.1 h (k, v) hm
  exact this
theorem Rd.sub {n : Nat} {ds : List Deferred} {l l' : Fr} {a : Act} (h : Rd n ds l a) (hs : sub l' l) : Rd n ds l' a := ⟨h.size, h.dfs, fun k v hk => h.get k v (hs k v hk)⟩
def opnds : Op → List Operand
  | .call c => (match c.callee with | .value f => [f] | .invoke r _ => [r] | .builtin _ => []) ++ c.args.toList
  | .build _ ps => ps.toList.map (·.2)
  | .buildSlice _ _ ps => ps.toList.map (·.2)
  | o => o.operands.toList
theorem mem_opnds {o : Op} {x : Operand} (h : x ∈ o.operands) : x ∈ opnds o := by
  cases o <;> first
    | (simpa [opnds] using h)
    | (simp only [Op.operands] at h; simpa [opnds] using h)
    | (rename_i c
       simp only [Op.operands, Call.operands] at h
       unfold opnds
       cases hc : c.callee <;> simp [hc] at h ⊢ <;> exact h)
def notSel : Op → Bool
  | .select _ _ => false
  | _ => true
def inB (n : Nat) : Option Nat → Bool
  | none => true
  | some d => Nat.blt d n
/-- the guard: known, and told -/
def gd (ops : Array Oper) (l : Fr) (o : Oper) : Option Bool :=
  match o.guard with
  | none => some true
  | some (j, b) => match (ops[j]?).bind (·.dst) with
    | none => some false
    | some s => match lk l s with
      | none => none
      | some (.bool c) => some (c == b)
      | some _ => some false
def chk (n : Nat) (l : Fr) (o : Oper) (d : Option Nat) : Bool := (opnds o.op).all (kn l) && decide (o.dst = d) && inB n d && notSel o.op
theorem chk_d {n : Nat} {l : Fr} {o : Oper} {d : Option Nat} (h : chk n l o d = true) : o.dst = d ∧ ∀ k, d = some k → k < n := by
  simp only [chk, Bool.and_eq_true, decide_eq_true_eq] at h
  refine ⟨h.1.1.2, fun k e => ?_⟩
  subst e
  have := h.1.2
  simp only [inB, Nat.blt] at this
  exact Nat.le_of_ble_eq_true this
theorem chk_ex {n : Nat} {ds : List Deferred} {l : Fr} {o : Oper} {d : Option Nat} {a : Act} (h : chk n l o d = true) (r : Rd n ds l a) : execOp a.eval o = execOp (evL l) o := by
  simp only [chk, Bool.and_eq_true, List.all_eq_true] at h
  exact execOp_congr o (fun cs b e => by have := h.2; rw [e] at this; cases this) fun x hx => r.ev x (h.1.1.1 x (mem_opnds hx))
theorem gd_want {n : Nat} {ds : List Deferred} {l : Fr} {ops : Array Oper} {o : Oper} {a : Act} {t : Bool} (r : Rd n ds l a) (h : gd ops l o = some t) : Region.wanted o (yielded ops a.tmps) = t := by
  unfold gd at h
  unfold Region.wanted
  cases hg : o.guard with
  | none => rw [hg] at h; simpa using h
  | some p =>
    obtain ⟨j, b⟩ := p
    rw [hg] at h
    simp only at h ⊢
    unfold yielded
    cases hs : (ops[j]?).bind (·.dst) with
    | none => rw [hs] at h; simp at h; subst h; simp
    | some s =>
      rw [hs] at h
      simp only at h
      cases hv : lk l s with
      | none => rw [hv] at h; cases h
      | some v =>
        rw [hv] at h
        have hx := r.get s v hv
        simp only [Option.bind_some, hx]
        cases v <;> simp_all
section
variable {P : Program} {n : Nat} {ds : List Deferred} {ops : Array Oper} {rest : List Oper} {o o1 o2 : Oper} {l : Fr} {w w1 : World} {Q Q' : Exit → Act → World → Prop} {K : Act → World → Prop}
structure GL (P : Program) (n : Nat) (ds : List Deferred) (ops : Array Oper) (Q : Exit → Act → World → Prop) (rest : List Oper) (l : Fr) (w : World) : Prop where
  out : ∀ a, Rd n ds l a → wpList P ops Q rest a w
structure GC (P : Program) (n : Nat) (ds : List Deferred) (c : Code) (Q : Exit → Act → World → Prop) (l : Fr) (w : World) : Prop where
  out : ∀ a, Rd n ds l a → c.wp P Q a w
structure GE (n : Nat) (ds : List Deferred) (Q : Exit → Act → World → Prop) (e : Exit) (l : Fr) (w : World) : Prop where
  out : ∀ a, Rd n ds l a → Q e a w
theorem gc_fr {c : Code} (l' : Fr) (h : l'.map (fun p => lk l p.1) = l'.map (fun p => some p.2)) (k : GC P n ds c Q l' w) : GC P n ds c Q l w := ⟨fun a r => k.out a (r.sub (sub_of h))⟩
theorem gl_val (d : Option Nat) (v : Value) (hg : gd ops l o = some true) (hc : chk n l o d = true) (hrun : (execOp (evL l) o).run P w = .ok (.value v) w1) (h : GL P n ds ops Q rest (pt l d v) w1) : GL P n ds ops Q (o :: rest) l w := ⟨fun a r =>
  BigFrame.wpList_want (gd_want r hg) fun K hK => by
    unfold Oper.wp
    rw [chk_ex hc r, hrun]
    show K (a.put o.dst v) w1
    rw [(chk_d hc).1]
    exact hK _ _ (h.out _ (r.put d v (chk_d hc).2))⟩
theorem gl_void (hg : gd ops l o = some true) (hc : chk n l o none = true) (hrun : (execOp (evL l) o).run P w = .ok .skip w1) (h : GL P n ds ops Q rest l w1) : GL P n ds ops Q (o :: rest) l w := ⟨fun a r =>
  BigFrame.wpList_want (gd_want r hg) fun K hK => by
    unfold Oper.wp
    rw [chk_ex hc r, hrun]
    show K (a.put o.dst undef) w1
    rw [(chk_d hc).1]
    exact hK _ _ (h.out _ r)⟩
theorem gl_not (d : Option Nat) (hg : gd ops l o = some false) (hd : (decide (o.dst = d) && inB n d) = true) (h : GL P n ds ops Q rest (pt l d undef) w) : GL P n ds ops Q (o :: rest) l w := ⟨fun a r => by
  simp only [Bool.and_eq_true, decide_eq_true_eq] at hd
  refine wpList_skip (gd_want r hg) ?_
  rw [hd.1]
  refine h.out _ (r.put d undef fun k e => ?_)
  subst e
  have := hd.2
  simp only [inB, Nat.blt] at this
  exact Nat.le_of_ble_eq_true this⟩
theorem gl_callx (d : Option Nat) (f : FuncId) (args : Array Value) (hg : gd ops l o = some true) (hc : chk n l o d = true) (hrun : (execOp (evL l) o).run P w = .ok (.enter f args) w) {Qc : Ending → World → Prop} (hcall : Calls P f args w Qc) (h : ∀ e w', Qc e w' → ∃ v, e = .returned v ∧ GL P n ds ops Q rest (pt l d v) w') : GL P n ds ops Q (o :: rest) l w := ⟨fun a r =>
  BigFrame.wpList_want (gd_want r hg) fun K hK => by
    unfold Oper.wp
    rw [chk_ex hc r, hrun, Oper.upon_enter]
    refine hcall.mono ?_
    intro e w' hq
    obtain ⟨v, rfl, hv⟩ := h e w' hq
    show K (a.put o.dst v) w'
    rw [(chk_d hc).1]
    exact hK _ _ (hv.out _ (r.put d v (chk_d hc).2))⟩
theorem gl_nil (h : GE n ds Q .normal l w) : GL P n ds ops Q [] l w := ⟨fun a r => wpList_nil (h.out a r)⟩
-- the same, short
theorem t (d : Nat) (v : Value) (h : GL P n ds ops Q rest ((d, v) :: l) w) (hg : gd ops l o = some true := by kernel_rfl) (hc : chk n l o (some d) = true := by kernel_rfl) (hrun : (execOp (evL l) o).run P w = .ok (.value v) w := by kernel_rfl) : GL P n ds ops Q (o :: rest) l w := gl_val (some d) v hg hc hrun h
theorem tr (d : Nat) (v : Value) (hrun : (execOp (evL l) o).run P w = .ok (.value v) w) (h : GL P n ds ops Q rest ((d, v) :: l) w) (hg : gd ops l o = some true := by kernel_rfl) (hc : chk n l o (some d) = true := by kernel_rfl) : GL P n ds ops Q (o :: rest) l w := gl_val (some d) v hg hc hrun h
theorem tq (d : Nat) (v v' : Value) (hv : v = v') (h : GL P n ds ops Q rest ((d, v') :: l) w) (hg : gd ops l o = some true := by kernel_rfl) (hc : chk n l o (some d) = true := by kernel_rfl) (hrun : (execOp (evL l) o).run P w = .ok (.value v) w := by kernel_rfl) : GL P n ds ops Q (o :: rest) l w := by
  subst hv; exact gl_val (some d) v hg hc hrun h
theorem tw (d : Nat) (v : Value) (w1 : World) (hrun : (execOp (evL l) o).run P w = .ok (.value v) w1) (h : GL P n ds ops Q rest ((d, v) :: l) w1) (hg : gd ops l o = some true := by kernel_rfl) (hc : chk n l o (some d) = true := by kernel_rfl) : GL P n ds ops Q (o :: rest) l w := gl_val (some d) v hg hc hrun h
theorem tv (w1 : World) (hrun : (execOp (evL l) o).run P w = .ok .skip w1) (h : GL P n ds ops Q rest l w1) (hg : gd ops l o = some true := by kernel_rfl) (hc : chk n l o none = true := by kernel_rfl) : GL P n ds ops Q (o :: rest) l w := gl_void hg hc hrun h
theorem tn (d : Nat) (h : GL P n ds ops Q rest ((d, undef) :: l) w) (hg : gd ops l o = some false := by kernel_rfl) (hd : (decide (o.dst = some d) && inB n (some d)) = true := by kernel_rfl) : GL P n ds ops Q (o :: rest) l w := gl_not (some d) hg hd h
theorem tc (d : Nat) (f : FuncId) (args : Array Value) {Qc : Ending → World → Prop} (hcall : Calls P f args w Qc) (h : ∀ e w', Qc e w' → ∃ v, e = .returned v ∧ GL P n ds ops Q rest ((d, v) :: l) w') (hg : gd ops l o = some true := by kernel_rfl) (hc : chk n l o (some d) = true := by kernel_rfl) (hrun : (execOp (evL l) o).run P w = .ok (.enter f args) w := by kernel_rfl) : GL P n ds ops Q (o :: rest) l w := gl_callx (some d) f args hg hc hrun hcall h
-- code
theorem gc_seq {x y : Code} (h : GC P n ds x (Exit.then (y.wp P Q) Q) l w) : GC P n ds (x.seq y) Q l w := ⟨fun a r => wp_seq (h.out a r)⟩
theorem gc_reg {id : Nat} {c : List Oper} (h : GL P n ds c.toArray Q c l w) : GC P n ds (Code.region id c.toArray false) Q l w := ⟨fun a r => wp_region_lit (h.out a r)⟩
theorem gc_yes {c : Operand} {x y : Code} (h : GC P n ds x Q l w) (hk : kn l c = true := by kernel_rfl) (hc : evL l c = .bool true := by kernel_rfl) : GC P n ds (Code.cond c x y) Q l w := ⟨fun a r => wp_cond_true ((r.ev c hk).trans hc) (h.out a r)⟩
theorem gc_no {c : Operand} {x y : Code} (h : GC P n ds y Q l w) (hk : kn l c = true := by kernel_rfl) (hc : evL l c = .bool false := by kernel_rfl) : GC P n ds (Code.cond c x y) Q l w := ⟨fun a r => wp_cond_false ((r.ev c hk).trans hc) (h.out a r)⟩
theorem gc_skip (h : GE n ds Q .normal l w) : GC P n ds Code.skip Q l w := ⟨fun a r => wp_skip (h.out a r)⟩
theorem gc_ret (h : GE n ds Q .ret l w) : GC P n ds Code.ret Q l w := ⟨fun a r => wp_ret (h.out a r)⟩
theorem gc_exit {id : Nat} (h : GE n ds Q (.exit id) l w) : GC P n ds (Code.exit id) Q l w := ⟨fun a r => wp_exit (h.out a r)⟩
theorem gc_block {id : Nat} {c : Code} (h : GC P n ds c (Exit.inBlock id Q) l w) : GC P n ds (Code.block id c) Q l w := ⟨fun a r => wp_block (h.out a r)⟩
theorem ge_then {y : Code} (h : GC P n ds y Q l w) : GE n ds (Exit.then (y.wp P Q) Q') .normal l w := ⟨fun a r => h.out a r⟩
theorem ge_tr (h : GE n ds Q' .ret l w) : GE n ds (Exit.then K Q') .ret l w := ⟨fun a r => h.out a r⟩
theorem ge_tx {id : Nat} (h : GE n ds Q' (.exit id) l w) : GE n ds (Exit.then K Q') (.exit id) l w := ⟨fun a r => h.out a r⟩
theorem ge_bn {id : Nat} (h : GE n ds Q .normal l w) : GE n ds (Exit.inBlock id Q) .normal l w := ⟨fun a r => h.out a r⟩
theorem ge_br {id : Nat} (h : GE n ds Q .ret l w) : GE n ds (Exit.inBlock id Q) .ret l w := ⟨fun a r => h.out a r⟩
theorem ge_bx {id : Nat} (h : GE n ds Q .normal l w) : GE n ds (Exit.inBlock id Q) (.exit id) l w := ⟨fun a r => by
  show if id = id then Q .normal a w else Q (.exit id) a w
  rw [if_pos rfl]; exact h.out a r⟩
/-- a loop told by a state s -/
theorem gc_loop {σ : Type} {c : Code} (μ : σ → Nat) (fr : σ → Fr) (F : σ → World → Prop) (s : σ) (hF : F s w) (hl : (fr s).map (fun p => lk l p.1) = (fr s).map (fun p => some p.2))
    (round : ∀ s w, F s w → GC P n ds c (Exit.then (fun a' w' => ∃ s', μ s' < μ s ∧ Rd n ds (fr s') a' ∧ F s' w') Q) (fr s) w) : GC P n ds (Code.loop c) Q l w := ⟨fun a r => by
  refine wp_loop_ghost (fun m a w => ∃ s, μ s = m ∧ Rd n ds (fr s) a ∧ F s w) (μ s) ⟨s, rfl, r.sub (sub_of hl), hF⟩ ?_
  rintro m a w ⟨s, rfl, hr, hF⟩
  refine wp_mono ((round s w hF).out a hr) ?_
  intro e a' w' h
  cases e with
  | normal =>
    obtain ⟨s', h1, h2, h3⟩ := h
    exact ⟨μ s', h1, s', rfl, h2, h3⟩
  | _ => exact h⟩
theorem ge_round {σ : Type} {μ : σ → Nat} {fr : σ → Fr} {F : σ → World → Prop} {m : Nat} (s' : σ) (hm : μ s' < m) (hF : F s' w) (hl : (fr s').map (fun p => lk l p.1) = (fr s').map (fun p => some p.2)) : GE n ds (Exit.then (fun a' w' => ∃ s', μ s' < m ∧ Rd n ds (fr s') a' ∧ F s' w') Q) .normal l w := ⟨fun _ r => ⟨s', hm, r.sub (sub_of hl), hF⟩⟩
/-- where ways come together -/
theorem gc_join {σ : Type} {x y : Code} (fr : σ → Fr) (F : σ → World → Prop) (h1 : GC P n ds x (Exit.then (fun a' w' => ∃ s, Rd n ds (fr s) a' ∧ F s w') Q) l w) (h2 : ∀ s w', F s w' → GC P n ds y Q (fr s) w') : GC P n ds (x.seq y) Q l w := ⟨fun a r => wp_seq (wp_mono (h1.out a r) fun e a' w' h => by
  cases e with
  | normal => obtain ⟨s, hr, hF⟩ := h; exact (h2 s w' hF).out a' hr
  | _ => exact h)⟩
theorem ge_join {σ : Type} {fr : σ → Fr} {F : σ → World → Prop} (s : σ) (hF : F s w) (hl : (fr s).map (fun p => lk l p.1) = (fr s).map (fun p => some p.2)) : GE n ds (Exit.then (fun a' w' => ∃ s, Rd n ds (fr s) a' ∧ F s w') Q) .normal l w := ⟨fun _ r => ⟨s, r.sub (sub_of hl), hF⟩⟩
def en : Nat → List Value → Fr
  | _, [] => []
  | i, v :: r => (i, v) :: en (i + 1) r
theorem lk_en : ∀ (vs : List Value) (i k : Nat) (v : Value), lk (en i vs) k = some v → i ≤ k ∧ vs[k - i]? = some v
  | [], _, _, _, h => by cases h
  | u :: r, i, k, v, h => by
    simp only [en, lk] at h
    cases hb : Nat.beq i k with
    | true =>
      rw [hb] at h
      have := Nat.eq_of_beq_eq_true hb
      subst this
      simp at h
      subst h
      exact ⟨Nat.le_refl _, by simp⟩
    | false =>
      rw [hb] at h
      obtain ⟨h1, h2⟩ := lk_en r (i + 1) k v h
      refine ⟨by omega, ?_⟩
      have : k - i = (k - (i + 1)) + 1 := by omega
      rw [this, List.getElem?_cons_succ]
      exact h2
theorem gc_enter {f : FuncId} {fn : Func} {c : Code} {vs : List Value} {R : Ending → World → Prop} (hf : P.funcs[f]? = some fn) (hb : fn.body = some c) (hn : fn.ntmps = n) (hs : Nat.ble vs.length n = true) (h : GC P n [] c (bodyPost P fn R) (en 0 vs) w) : Calls P f vs.toArray w R := by
  have hs := Nat.le_of_ble_eq_true hs
  refine calls_of_wp hf hb (h.out _ ⟨?_, rfl, fun k v hk => ?_⟩)
  · simp
    omega
  · obtain ⟨_, h2⟩ := lk_en vs 0 k v hk
    rw [Nat.sub_zero] at h2
    have hlt := (List.getElem?_eq_some_iff.1 h2).1
    rw [Array.getElem?_append_left (by simpa using hlt)]
    simpa using h2
theorem ge_ret {fn : Func} {R : Ending → World → Prop} (v : Value) (hr : ∀ a, Rd n [] l a → (results fn a.tmps).run P w = .ok v w) (hR : R (.returned v) w) : GE n [] (bodyPost P fn R) .ret l w := ⟨fun a r => bodyPost_ret (hr a r) r.dfs hR⟩
theorem ge_end {fn : Func} {R : Ending → World → Prop} (v : Value) (hr : ∀ a, Rd n [] l a → (results fn a.tmps).run P w = .ok v w) (hR : R (.returned v) w) : GE n [] (bodyPost P fn R) .normal l w := ⟨fun a r => ⟨r.dfs, v, hr a r, hR⟩⟩
theorem Rd.gD {a : Act} (r : Rd n ds l a) {k : Nat} {v : Value} (h : lk l k = some v) : a.tmps.getD k undef = v := by
  rw [Array.getD_eq_getD_getElem?, r.get k v h]; rfl
theorem rs1 {fn : Func} (k : Nat) {v : Value} (h : fn.results = #[.tmp k]) (hv : lk l k = some v) (a : Act) (r : Rd n [] l a) : (results fn a.tmps).run P w = .ok v w := by
  have := r.gD hv
  simp at this
  simp [results, h, this]
theorem rs0 {fn : Func} (h : fn.results = #[]) (a : Act) (_ : Rd n [] l a) : (results fn a.tmps).run P w = .ok (.tuple #[]) w := by
  simp [results, h]
theorem rs2 {fn : Func} (j k : Nat) {u v : Value} (h : fn.results = #[.tmp j, .tmp k]) (hu : lk l j = some u) (hv : lk l k = some v) (a : Act) (r : Rd n [] l a) : (results fn a.tmps).run P w = .ok (.tuple #[u, v]) w := by
  have h1 := r.gD hu
  have h2 := r.gD hv
  simp at h1 h2
  simp [results, h, h1, h2]
theorem rsc {fn : Func} (j : Nat) {T : TypeId} {g : Nat} {u : Value} (h : fn.results = #[.cell j T]) (hu : lk l j = some (.pointer (some ⟨g, 0, none⟩))) (hl : (loadVar T ⟨g, 0, none⟩).run P w = .ok u w) (a : Act) (r : Rd n [] l a) : (results fn a.tmps).run P w = .ok u w := by
  have h1 := r.gD hu
  simp at h1
  simp [results, h, h1, asAddr, hl]
theorem rsct {fn : Func} (j k : Nat) {T : TypeId} {g : Nat} {u v : Value} (h : fn.results = #[.cell j T, .tmp k]) (hu : lk l j = some (.pointer (some ⟨g, 0, none⟩))) (hv : lk l k = some v) (hl : (loadVar T ⟨g, 0, none⟩).run P w = .ok u w) (a : Act) (r : Rd n [] l a) : (results fn a.tmps).run P w = .ok (.tuple #[u, v]) w := by
  have h1 := r.gD hu
  have h2 := r.gD hv
  simp at h1 h2
  simp [results, h, h1, h2, asAddr, hl]
end
end Gl
end Go.Proofs.YtpoifdokmjhclaaGreat

namespace Go.Proofs.YtpoifdokmjhclaaGreat
namespace Gl
open Go.RowKit Go.Lib Pg
section
variable {P : Program} {ops : Array Oper} {Q : Exit → Act → World → Prop} {md : Region.Mode} {S : World → Prop} {Z : Nat → Bool}
/-- whatever order is picked, and S holds behind every step that is not late -/
def wpAnyZ (P : Program) (md : Region.Mode) (ops : Array Oper) (Q : Exit → Act → World → Prop) (S : World → Prop) (Z : Nat → Bool) : Nat → Array Bool → Act → World → Prop
  | 0, listed, a, w => Region.ready md ops listed = [] ∧ Q .normal a w
  | fuel + 1, listed, a, w =>
    (Region.ready md ops listed = [] → Q .normal a w) ∧
    ∀ i ∈ Region.ready md ops listed, wpOp P ops Q i (fun a' w' => (Z i = true ∨ S w' ∨ w' = w) ∧ wpAnyZ P md ops Q S Z fuel (listed.setIfInBounds i true) a' w') a w
theorem wpAnyZ_held (fuel : Nat) : ∀ (listed : Array Bool) (a : Act) (w : World), wpAnyZ P md ops Q S Z fuel listed a w → wpAnyH P md ops Q (fun _ => True) fuel listed a w := by
  induction fuel with
  | zero => exact fun _ _ _ h => h
  | succ fuel ih => exact fun _ _ _ h => ⟨h.1, fun i hi => wpOp_mono (fun a' w' h' => ⟨trivial, ih _ a' w' h'.2⟩) (h.2 i hi)⟩
/-- every late operation waits for i -/
def lateWait (ops : Array Oper) (Z : Nat → Bool) (i : Nat) : Bool := (List.range ops.size).all fun z => !Z z || (decide (z ≠ i) && (ops.getD z default).after.any fun e => Region.binds .any e && decide (e.on = i))
/-- what holds ahead of i holds as long as i waits -/
theorem late_keep {i : Nat} (hz : lateWait ops Z i = true) (j : Nat) (oj : Oper) (hoj : ops[j]? = some oj) (hnot : ∀ e ∈ oj.after, Region.binds .any e = true → e.on ≠ i) (w w' : World) (h : Z j = true ∨ S w' ∨ w' = w) (hS : S w) : S w' := by
  have hjZ : ¬ Z j = true := fun e => by
    have hlt : j < ops.size := (Array.getElem?_eq_some_iff.1 hoj).1
    have h2 := List.all_eq_true.1 hz j (List.mem_range.2 hlt)
    rw [e] at h2
    simp only [Bool.not_true, Bool.false_or, Bool.and_eq_true, decide_eq_true_eq] at h2
    have eo : ops.getD j default = oj := by
      rw [Array.getD_eq_getD_getElem?, hoj]; rfl
    have h3 := h2.2
    rw [eo, Array.any_eq_true] at h3
    obtain ⟨k, hk, h4⟩ := h3
    rw [Bool.and_eq_true, decide_eq_true_eq] at h4
    exact hnot _ (Array.getElem_mem hk) h4.1 h4.2
  rcases h.resolve_left hjZ with h | h
  · exact h
  · rw [h]; exact hS
theorem wpAnyZ_first {i : Nat} {oi : Oper} {v : Value} {S0 : World → Prop} (hk : ∀ (j : Nat) (oj : Oper), ops[j]? = some oj → (∀ e ∈ oj.after, Region.binds .any e = true → e.on ≠ i) → ∀ w w' : World, (Z j = true ∨ S w' ∨ w' = w) → S0 w → S0 w') (hi : ops[i]? = some oi) (hsel : ∀ (j : Nat) (o : Oper) cs b, ops[j]? = some o → o.op ≠ .select cs b)
    (hQ : ∀ c a w, Q (.panic c) (a.put oi.dst v) w → Q (.panic c) a w) :
    ∀ (fuel : Nat) (listed : Array Bool) (a : Act) (w : World),
      (∀ j oj, ops[j]? = some oj → j ≠ i → listed.getD j true = false → (∀ e ∈ oj.after, Region.binds .any e = true → e.on ≠ i) → oi.apart ops oj = true) →
      i ∈ Region.ready .any ops listed → YieldsIf P ops S0 oi v a → S0 w →
      wpAnyZ P .any ops Q S Z fuel (listed.setIfInBounds i true) (a.put oi.dst v) w → wpAnyZ P .any ops Q S Z (fuel + 1) listed a w := by
  intro fuel
  induction fuel with
  | zero =>
    intro listed a w _ hr hy hS H
    refine ⟨fun h => (by rw [h] at hr; cases hr), fun j hj => ?_⟩
    by_cases hji : j = i
    · subst hji; exact hy.wpOp hi hS ⟨.inr (.inr rfl), H⟩
    · have := ready_mono hj hji
      rw [H.1] at this
      cases this
  | succ fuel ih =>
    intro listed a w hfree hr hy hS H
    refine ⟨fun h => (by rw [h] at hr; cases hr), fun j hj => ?_⟩
    by_cases hji : j = i
    · subst hji; exact hy.wpOp hi hS ⟨.inr (.inr rfl), H⟩
    · have h1 := H.2 j (ready_mono hj hji)
      obtain ⟨hjun, oj, hoj, hall⟩ := mem_ready.1 hj
      have hnot : ∀ e ∈ oj.after, Region.binds .any e = true → e.on ≠ i := fun e he hb heq => by
        have h1 := hall e he hb
        have h0 := (mem_ready.1 hr).1
        rw [heq] at h1
        rcases Nat.lt_or_ge i listed.size with h' | h'
        · simp [h'] at h0 h1; rw [h0] at h1; cases h1
        · simp [Array.getElem?_eq_none h'] at h1
      have h2 := wpOp_putIf hoj (hfree j oj hoj hji hjun hnot) (fun cs b => hsel i oi cs b hi) (fun cs b => hsel j oj cs b hoj) hQ hy h1
      have hfree' : ∀ k ok, ops[k]? = some ok → k ≠ i → (listed.setIfInBounds j true).getD k true = false →
          (∀ e ∈ ok.after, Region.binds .any e = true → e.on ≠ i) → oi.apart ops ok = true := fun k ok hk hki hun hno => by
        refine hfree k ok hk hki ?_ hno
        by_cases hjk : j = k
        · subst hjk; exact hjun
        · rw [getD_set_ne true hjk] at hun; exact hun
      refine wpOp_mono (fun a' w' h3 => ?_) h2
      refine ⟨h3.2.1, ih (listed.setIfInBounds j true) a' w' hfree' (ready_mono hr (Ne.symm hji)) h3.1 (hk j oj hoj hnot w w' h3.2.1 hS) ?_⟩
      rw [Array.setIfInBounds_comm _ _ hji]
      exact h3.2.2
end
theorem at_getD {ops : Array Oper} {i : Nat} (h : i < ops.size) : ops[i]? = some (ops.getD i default) := by
  simp [Array.getD, h]
/-- the listed ones as a list -/
def hasL : List Nat → Nat → Bool
  | [], _ => false
  | p :: r, k => bif Nat.beq p k then true else hasL r k
def arr (n : Nat) (L : List Nat) : Array Bool := ((List.range n).map (hasL L)).toArray
theorem beq_ne {a b : Nat} (h : a ≠ b) : Nat.beq a b = false := by
  cases hb : Nat.beq a b with
  | false => rfl
  | true => exact absurd (Nat.eq_of_beq_eq_true hb) h
theorem arr_get (n : Nat) (L : List Nat) (j : Nat) (d : Bool) : (arr n L).getD j d = if j < n then hasL L j else d := by
  by_cases h : j < n
  · simp [arr, h]
  · simp [arr, h]
theorem arr_nil (n : Nat) : arr n [] = Array.replicate n false := by
  apply Array.ext
  · simp [arr]
  · intro i h1 h2
    simp [arr, hasL]
theorem arr_cons {n i : Nat} (L : List Nat) (_h : i < n) : (arr n L).setIfInBounds i true = arr n (i :: L) := by
  apply Array.ext
  · simp [arr]
  · intro j h1 h2
    have h3 : j < (arr n L).size := by simpa using h1
    rw [Array.getElem_setIfInBounds h3]
    by_cases e : i = j
    · subst e
      simp [arr, hasL]
    · simp [arr, hasL, e, beq_ne e]
def rdyL (ops : Array Oper) (L : List Nat) (i : Nat) : Bool := match ops[i]? with
  | none => false
  | some o => !hasL L i && o.after.toList.all fun e => !Region.binds .any e || (Nat.blt e.on ops.size && hasL L e.on)
theorem rdyL_iff {ops : Array Oper} {L : List Nat} {i : Nat} : rdyL ops L i = true ↔ i ∈ Region.ready .any ops (arr ops.size L) := by
  rw [mem_ready]
  unfold rdyL
  cases ho : ops[i]? with
  | none => simp
  | some o =>
    have hlt : i < ops.size := (Array.getElem?_eq_some_iff.1 ho).1
    simp only [Bool.and_eq_true, Bool.not_eq_true', List.all_eq_true, Bool.or_eq_true, Option.some.injEq, exists_eq_left', arr_get, if_pos hlt]
    constructor
    · rintro ⟨h1, h2⟩
      refine ⟨h1, fun e he hb => ?_⟩
      rcases h2 e (by simpa using he) with h | h
      · rw [hb] at h; cases h
      · have := Nat.le_of_ble_eq_true h.1
        rw [if_pos (by omega)]
        exact h.2
    · rintro ⟨h1, h2⟩
      refine ⟨h1, fun e he => ?_⟩
      cases hb : Region.binds .any e with
      | false => exact .inl rfl
      | true =>
        right
        have h3 := h2 e (by simpa using he) hb
        by_cases h4 : e.on < ops.size
        · rw [if_pos h4] at h3
          exact ⟨by simp only [Nat.blt]; exact Nat.ble_eq_true_of_le h4, h3⟩
        · rw [if_neg h4] at h3; cases h3
def readyL (ops : Array Oper) (L : List Nat) : List Nat := (List.range ops.size).filter (rdyL ops L)
theorem readyL_eq (ops : Array Oper) (L : List Nat) : Region.ready .any ops (arr ops.size L) = readyL ops L := by
  have hm : ∀ j, j ∈ Region.ready .any ops (arr ops.size L) ↔ rdyL ops L j = true := fun j => rdyL_iff.symm
  unfold Region.ready at hm ⊢
  unfold readyL
  refine List.filter_congr fun j hj => ?_
  have := hm j
  rw [List.mem_filter] at this
  simp only [hj, true_and] at this
  exact Bool.eq_iff_iff.2 this
def edge (o : Oper) (i : Nat) : Bool := o.after.toList.any fun e => Region.binds .any e && Nat.beq e.on i
def freeS (ops : Array Oper) (i : Nat) : Bool := match ops[i]? with
  | none => false
  | some oi => (List.range ops.size).all fun j => Nat.beq j i || match ops[j]? with
      | some oj => edge oj i || edge oi j || oi.apart ops oj
      | none => true
def okR (ops : Array Oper) (_Z : Nat → Bool) : Bool := Region.noSelect ops && (List.range ops.size).all (freeS ops)
theorem okR_free {ops : Array Oper} {Z : Nat → Bool} (h : okR ops Z = true) {i : Nat} {L : List Nat} {oi : Oper} (hi : ops[i]? = some oi) (hr : rdyL ops L i = true) (j : Nat) (oj : Oper) (hj : ops[j]? = some oj) (hne : j ≠ i) (hun : (arr ops.size L).getD j true = false) (hno : ∀ e ∈ oj.after, Region.binds .any e = true → e.on ≠ i) : oi.apart ops oj = true := by
  simp only [okR, Bool.and_eq_true, List.all_eq_true, List.mem_range] at h
  have hlt : i < ops.size := (Array.getElem?_eq_some_iff.1 hi).1
  have hjl : j < ops.size := (Array.getElem?_eq_some_iff.1 hj).1
  have h1 := h.2 i hlt
  simp only [freeS, hi, List.all_eq_true, List.mem_range] at h1
  have h2 := h1 j hjl
  rw [beq_ne hne, hj] at h2
  simp only [Bool.false_or, Bool.or_eq_true] at h2
  rcases h2 with (h2 | h2) | h2
  · simp only [edge, List.any_eq_true, Bool.and_eq_true] at h2
    obtain ⟨e, he, hb, ho⟩ := h2
    exact absurd (Nat.eq_of_beq_eq_true ho) (hno e (by simpa using he) hb)
  · simp only [edge, List.any_eq_true, Bool.and_eq_true] at h2
    obtain ⟨e, he, hb, ho⟩ := h2
    have e1 := Nat.eq_of_beq_eq_true ho
    obtain ⟨-, o', ho', hall⟩ := mem_ready.1 (rdyL_iff.1 hr)
    rw [hi] at ho'
    cases ho'
    have h3 := hall e (by simpa using he) hb
    rw [e1, arr_get, if_pos hjl] at h3
    rw [arr_get, if_pos hjl] at hun
    rw [h3] at hun
    cases hun
  · exact h2
theorem okR_sel {ops : Array Oper} {Z : Nat → Bool} (h : okR ops Z = true) : Region.noSelect ops = true := by
  simp only [okR, Bool.and_eq_true] at h
  exact h.1
def zchk (n : Nat) (l : Fr) (ops : Array Oper) (L : List Nat) (i : Nat) (d : Option Nat) : Bool := rdyL ops L i && Nat.blt i ops.size && chk n l (ops.getD i default) d
theorem blt_lt {a b : Nat} (h : Nat.blt a b = true) : a < b := Nat.le_of_ble_eq_true h
section
variable {P : Program} {n : Nat} {ds : List Deferred} {ops : Array Oper} {Q : Exit → Act → World → Prop} {S : World → Prop} {Z : Nat → Bool} {fuel : Nat} {L : List Nat} {l : Fr} {w : World}
/-- the region goes on, with S -/
structure GZ (P : Program) (n : Nat) (ds : List Deferred) (ops : Array Oper) (Q : Exit → Act → World → Prop) (S : World → Prop) (Z : Nat → Bool) (fuel : Nat) (L : List Nat) (l : Fr) (w : World) : Prop where
  out : okR ops Z = true → S w → ∀ a, Rd n ds l a → wpAnyZ P .any ops Q S Z fuel (arr ops.size L) a w
/-- the region goes on, late -/
structure GY (P : Program) (n : Nat) (ds : List Deferred) (ops : Array Oper) (Q : Exit → Act → World → Prop) (S : World → Prop) (Z : Nat → Bool) (fuel : Nat) (L : List Nat) (l : Fr) (w : World) : Prop where
  out : okR ops Z = true → ∀ a, Rd n ds l a → wpAnyZ P .any ops Q S Z fuel (arr ops.size L) a w
theorem gz_late (h : GY P n ds ops Q S Z fuel L l w) : GZ P n ds ops Q S Z fuel L l w := ⟨fun ok _ => h.out ok⟩
theorem gc_draw {id : Nat} (S : World → Prop) (Z : Nat → Bool) (hS : S w.drew) (h : GZ P n ds ops Q S Z ops.size [] l w.drew) (hm : P.follows .mixedOrders = true := by kernel_rfl) (ok : okR ops Z = true := by kernel_rfl) : GC P n ds (Code.region id ops true) Q l w := ⟨fun a r =>
  wp_region_held_drew (S := fun _ => True) hm trivial fun _ => wpAnyZ_held _ _ _ _ (by have := h.out ok hS a r; rw [arr_nil] at this; exact this)⟩
theorem gz_take (i : Nat) (d : Option Nat) (v : Value) (hy : ∀ w', S w' → (execOp (evL l) (ops.getD i default)).run P w' = .ok (.value v) w') (hz : lateWait ops Z i = true) (hc : zchk n l ops L i d = true) (hg : gd ops l (ops.getD i default) = some true) (hQ : ∀ c a w, Q (.panic c) (a.put d v) w → Q (.panic c) a w)
    (h : GZ P n ds ops Q S Z fuel (i :: L) (pt l d v) w) : GZ P n ds ops Q S Z (fuel + 1) L l w := ⟨fun ok hS a r => by
  simp only [zchk, Bool.and_eq_true] at hc
  obtain ⟨⟨h3, h4⟩, h5⟩ := hc
  have h4 := blt_lt h4
  obtain ⟨h6, h7⟩ := chk_d h5
  refine wpAnyZ_first (v := v) (late_keep hz) (at_getD h4) (Region.noSelect_spec (okR_sel ok)) (by rw [h6]; exact hQ) fuel _ a w (okR_free ok (at_getD h4) h3) (rdyL_iff.1 h3) (.inl ⟨gd_want r hg, fun w' hS' => by rw [chk_ex h5 r]; exact hy w' hS'⟩) hS ?_
  rw [h6, arr_cons L h4]
  exact h.out ok hS _ (r.put d v h7)⟩
/-- what minds no world comes first, whatever is late -/
theorem zp (i d : Nat) (v : Value) (h : GZ P n ds ops Q S Z fuel (i :: L) ((d, v) :: l) w) (hc : zchk n l ops L i (some d) = true := by kernel_rfl) (hg : gd ops l (ops.getD i default) = some true := by kernel_rfl) (hQ : ∀ c a w, Q (.panic c) (a.put (some d) v) w → Q (.panic c) a w := by exact fun _ _ _ h => h) (hrun : ∀ w', (execOp (evL l) (ops.getD i default)).run P w' = .ok (.value v) w' := by exact fun _ => by kernel_rfl) : GZ P n ds ops Q S Z (fuel + 1) L l w := ⟨fun ok hS a r => by
  simp only [zchk, Bool.and_eq_true] at hc
  obtain ⟨⟨h3, h4⟩, h5⟩ := hc
  have h4 := blt_lt h4
  obtain ⟨h6, h7⟩ := chk_d h5
  refine wpAnyZ_first (v := v) (S0 := fun _ => True) (fun _ _ _ _ _ _ _ _ => trivial) (at_getD h4) (Region.noSelect_spec (okR_sel ok)) (by rw [h6]; exact hQ) fuel _ a w (okR_free ok (at_getD h4) h3) (rdyL_iff.1 h3) (.inl ⟨gd_want r hg, fun w' _ => by rw [chk_ex h5 r]; exact hrun w'⟩) trivial ?_
  rw [h6, arr_cons L h4]
  exact h.out ok hS _ (r.put (some d) v h7)⟩
theorem gz_done (h : GE n ds Q .normal l w) (hr : readyL ops L = [] := by kernel_rfl) : GZ P n ds ops Q S Z fuel L l w := ⟨fun _ _ a r => by
  have hr := (readyL_eq ops L).trans hr
  cases fuel with
  | zero => exact ⟨hr, h.out a r⟩
  | succ _ => exact ⟨fun _ => h.out a r, by rw [hr]; simp⟩⟩
theorem gy_done (h : GE n ds Q .normal l w) (hr : readyL ops L = [] := by kernel_rfl) : GY P n ds ops Q S Z fuel L l w := ⟨fun _ a r => by
  have hr := (readyL_eq ops L).trans hr
  cases fuel with
  | zero => exact ⟨hr, h.out a r⟩
  | succ _ => exact ⟨fun _ => h.out a r, by rw [hr]; simp⟩⟩
/-- those that may come next -/
structure GA (P : Program) (n : Nat) (ds : List Deferred) (ops : Array Oper) (Q : Exit → Act → World → Prop) (S : World → Prop) (Z : Nat → Bool) (fuel : Nat) (L : List Nat) (l : Fr) (w : World) (rs : List Nat) : Prop where
  out : okR ops Z = true → S w → ∀ a, Rd n ds l a → ∀ i ∈ rs, wpOp P ops Q i (fun a' w' => (Z i = true ∨ S w' ∨ w' = w) ∧ wpAnyZ P .any ops Q S Z fuel ((arr ops.size L).setIfInBounds i true) a' w') a w
theorem gz_ready (rs : List Nat) (h : GA P n ds ops Q S Z fuel L l w rs) (hr : readyL ops L = rs := by kernel_rfl) (hne : rs ≠ [] := by decide) : GZ P n ds ops Q S Z (fuel + 1) L l w := ⟨fun ok hS a r =>
  ⟨fun h0 => absurd (((readyL_eq ops L).trans hr).symm.trans h0) hne, fun i hi => h.out ok hS a r i (by rw [← hr, ← readyL_eq]; exact hi)⟩⟩
theorem ga_nil : GA P n ds ops Q S Z fuel L l w [] := ⟨fun _ _ _ _ _ h => by cases h⟩
def achk (n : Nat) (l : Fr) (ops : Array Oper) (i : Nat) (d : Option Nat) : Bool := Nat.blt i ops.size && chk n l (ops.getD i default) d
theorem ga_cons {rs : List Nat} (i : Nat) (h : okR ops Z = true → S w → ∀ a, Rd n ds l a → wpOp P ops Q i (fun a' w' => (Z i = true ∨ S w' ∨ w' = w) ∧ wpAnyZ P .any ops Q S Z fuel ((arr ops.size L).setIfInBounds i true) a' w') a w) (hs : GA P n ds ops Q S Z fuel L l w rs) : GA P n ds ops Q S Z fuel L l w (i :: rs) := ⟨fun ok hS a r j hj => by
  rcases List.mem_cons.1 hj with rfl | hj
  · exact h ok hS a r
  · exact hs.out ok hS a r j hj⟩
theorem ga_call {rs : List Nat} (i : Nat) (d : Option Nat) (f : FuncId) (args : Array Value) {Qc : Ending → World → Prop} (hcall : Calls P f args w Qc) (hk : ∀ e w', Qc e w' → ∃ v, e = .returned v ∧ S w' ∧ GZ P n ds ops Q S Z fuel (i :: L) (pt l d v) w')
    (hs : GA P n ds ops Q S Z fuel L l w rs) (hc : achk n l ops i d = true := by kernel_rfl) (hg : gd ops l (ops.getD i default) = some true := by kernel_rfl) (hrun : (execOp (evL l) (ops.getD i default)).run P w = .ok (.enter f args) w := by kernel_rfl) : GA P n ds ops Q S Z fuel L l w (i :: rs) := by
  simp only [achk, Bool.and_eq_true] at hc
  obtain ⟨h4, h5⟩ := hc
  have h4 := blt_lt h4
  obtain ⟨h6, h7⟩ := chk_d h5
  refine ga_cons i (fun ok _ a r => wpOp_step (at_getD h4) fun K hK => ?_) hs
  rw [if_pos (gd_want r hg)]
  unfold Oper.wp
  rw [chk_ex h5 r, hrun]
  refine hcall.mono fun e w' he => ?_
  obtain ⟨v, rfl, hS', hw⟩ := hk e w' he
  show K (a.put (ops.getD i default).dst v) w'
  rw [h6]
  refine hK _ _ ⟨.inr (.inl hS'), ?_⟩
  rw [arr_cons L h4]
  exact hw.out ok hS' _ (r.put d v h7)
theorem ga_val {rs : List Nat} (i : Nat) (d : Option Nat) (v : Value) (w1 : World) (hrun : (execOp (evL l) (ops.getD i default)).run P w = .ok (.value v) w1) (hS1 : S w1) (h : GZ P n ds ops Q S Z fuel (i :: L) (pt l d v) w1)
    (hs : GA P n ds ops Q S Z fuel L l w rs) (hc : achk n l ops i d = true := by kernel_rfl) (hg : gd ops l (ops.getD i default) = some true := by kernel_rfl) : GA P n ds ops Q S Z fuel L l w (i :: rs) := by
  simp only [achk, Bool.and_eq_true] at hc
  obtain ⟨h4, h5⟩ := hc
  have h4 := blt_lt h4
  obtain ⟨h6, h7⟩ := chk_d h5
  refine ga_cons i (fun ok _ a r => wpOp_step (at_getD h4) fun K hK => ?_) hs
  rw [if_pos (gd_want r hg)]
  unfold Oper.wp
  rw [chk_ex h5 r, hrun]
  show K (a.put (ops.getD i default).dst v) w1
  rw [h6]
  refine hK _ _ ⟨.inr (.inl hS1), ?_⟩
  rw [arr_cons L h4]
  exact h.out ok hS1 _ (r.put d v h7)
theorem ga_void {rs : List Nat} (i : Nat) (w1 : World) (hrun : (execOp (evL l) (ops.getD i default)).run P w = .ok .skip w1) (hS1 : S w1) (h : GZ P n ds ops Q S Z fuel (i :: L) l w1)
    (hs : GA P n ds ops Q S Z fuel L l w rs) (hc : achk n l ops i none = true := by kernel_rfl) (hg : gd ops l (ops.getD i default) = some true := by kernel_rfl) : GA P n ds ops Q S Z fuel L l w (i :: rs) := by
  simp only [achk, Bool.and_eq_true] at hc
  obtain ⟨h4, h5⟩ := hc
  have h4 := blt_lt h4
  obtain ⟨h6, h7⟩ := chk_d h5
  refine ga_cons i (fun ok _ a r => wpOp_step (at_getD h4) fun K hK => ?_) hs
  rw [if_pos (gd_want r hg)]
  unfold Oper.wp
  rw [chk_ex h5 r, hrun]
  show K (a.put (ops.getD i default).dst undef) w1
  rw [h6]
  refine hK _ _ ⟨.inr (.inl hS1), ?_⟩
  rw [arr_cons L h4]
  exact h.out ok hS1 _ r
-- late ones, each alone
theorem yv (i : Nat) (w1 : World) (hrun : (execOp (evL l) (ops.getD i default)).run P w = .ok .skip w1) (h : GY P n ds ops Q S Z fuel (i :: L) l w1) (hr : readyL ops L = [i] := by kernel_rfl) (hc : achk n l ops i none = true := by kernel_rfl) (hg : gd ops l (ops.getD i default) = some true := by kernel_rfl) (hZ : Z i = true := by rfl) : GY P n ds ops Q S Z (fuel + 1) L l w := ⟨fun ok a r => by
  simp only [achk, Bool.and_eq_true] at hc
  obtain ⟨h4, h5⟩ := hc
  have h4 := blt_lt h4
  obtain ⟨h6, h7⟩ := chk_d h5
  have hr := (readyL_eq ops L).trans hr
  refine ⟨fun h0 => (by rw [hr] at h0; cases h0), fun j hj => ?_⟩
  obtain rfl : j = i := by rw [hr] at hj; simpa using hj
  refine wpOp_step (at_getD h4) fun K hK => ?_
  rw [if_pos (gd_want r hg)]
  unfold Oper.wp
  rw [chk_ex h5 r, hrun]
  show K (a.put (ops.getD j default).dst undef) w1
  rw [h6]
  refine hK _ _ ⟨.inl hZ, ?_⟩
  rw [arr_cons L h4]
  exact h.out ok _ r⟩
theorem yt (i d : Nat) (v : Value) (h : GY P n ds ops Q S Z fuel (i :: L) ((d, v) :: l) w) (hr : readyL ops L = [i] := by kernel_rfl) (hc : achk n l ops i (some d) = true := by kernel_rfl) (hg : gd ops l (ops.getD i default) = some true := by kernel_rfl) (hZ : Z i = true := by rfl) (hrun : (execOp (evL l) (ops.getD i default)).run P w = .ok (.value v) w := by kernel_rfl) : GY P n ds ops Q S Z (fuel + 1) L l w := ⟨fun ok a r => by
  simp only [achk, Bool.and_eq_true] at hc
  obtain ⟨h4, h5⟩ := hc
  have h4 := blt_lt h4
  obtain ⟨h6, h7⟩ := chk_d h5
  have hr := (readyL_eq ops L).trans hr
  refine ⟨fun h0 => (by rw [hr] at h0; cases h0), fun j hj => ?_⟩
  obtain rfl : j = i := by rw [hr] at hj; simpa using hj
  refine wpOp_step (at_getD h4) fun K hK => ?_
  rw [if_pos (gd_want r hg)]
  unfold Oper.wp
  rw [chk_ex h5 r, hrun]
  show K (a.put (ops.getD j default).dst v) w
  rw [h6]
  refine hK _ _ ⟨.inl hZ, ?_⟩
  rw [arr_cons L h4]
  exact h.out ok _ (r.put (some d) v h7)⟩
-- the same, short
theorem z (i d : Nat) (v : Value) (h : GZ P n ds ops Q S Z fuel (i :: L) ((d, v) :: l) w) (hz : lateWait ops Z i = true := by kernel_rfl) (hc : zchk n l ops L i (some d) = true := by kernel_rfl) (hg : gd ops l (ops.getD i default) = some true := by kernel_rfl) (hQ : ∀ c a w, Q (.panic c) (a.put (some d) v) w → Q (.panic c) a w := by exact fun _ _ _ h => h) (hrun : ∀ w', S w' → (execOp (evL l) (ops.getD i default)).run P w' = .ok (.value v) w' := by exact fun _ _ => by kernel_rfl) : GZ P n ds ops Q S Z (fuel + 1) L l w := gz_take i (some d) v hrun hz hc hg hQ h
theorem zr (i d : Nat) (v : Value) (hrun : ∀ w', S w' → (execOp (evL l) (ops.getD i default)).run P w' = .ok (.value v) w') (h : GZ P n ds ops Q S Z fuel (i :: L) ((d, v) :: l) w) (hz : lateWait ops Z i = true := by kernel_rfl) (hc : zchk n l ops L i (some d) = true := by kernel_rfl) (hg : gd ops l (ops.getD i default) = some true := by kernel_rfl) (hQ : ∀ c a w, Q (.panic c) (a.put (some d) v) w → Q (.panic c) a w := by exact fun _ _ _ h => h) : GZ P n ds ops Q S Z (fuel + 1) L l w := gz_take i (some d) v hrun hz hc hg hQ h
theorem zc (i d : Nat) (f : FuncId) (args : Array Value) {Qc : Ending → World → Prop} (hcall : Calls P f args w Qc) (hk : ∀ e w', Qc e w' → ∃ v, e = .returned v ∧ S w' ∧ GZ P n ds ops Q S Z fuel (i :: L) ((d, v) :: l) w') (hr : readyL ops L = [i] := by kernel_rfl) (hc : achk n l ops i (some d) = true := by kernel_rfl) (hg : gd ops l (ops.getD i default) = some true := by kernel_rfl) (hrun : (execOp (evL l) (ops.getD i default)).run P w = .ok (.enter f args) w := by kernel_rfl) : GZ P n ds ops Q S Z (fuel + 1) L l w := gz_ready [i] (ga_call i (some d) f args hcall hk ga_nil hc hg hrun) hr (by simp)
theorem zw (i d : Nat) (v : Value) (w1 : World) (hrun : (execOp (evL l) (ops.getD i default)).run P w = .ok (.value v) w1) (hS1 : S w1) (h : GZ P n ds ops Q S Z fuel (i :: L) ((d, v) :: l) w1) (hr : readyL ops L = [i] := by kernel_rfl) (hc : achk n l ops i (some d) = true := by kernel_rfl) (hg : gd ops l (ops.getD i default) = some true := by kernel_rfl) : GZ P n ds ops Q S Z (fuel + 1) L l w := gz_ready [i] (ga_val i (some d) v w1 hrun hS1 h ga_nil hc hg) hr (by simp)
theorem zv (i : Nat) (w1 : World) (hrun : (execOp (evL l) (ops.getD i default)).run P w = .ok .skip w1) (hS1 : S w1) (h : GZ P n ds ops Q S Z fuel (i :: L) l w1) (hr : readyL ops L = [i] := by kernel_rfl) (hc : achk n l ops i none = true := by kernel_rfl) (hg : gd ops l (ops.getD i default) = some true := by kernel_rfl) : GZ P n ds ops Q S Z (fuel + 1) L l w := gz_ready [i] (ga_void i w1 hrun hS1 h ga_nil hc hg) hr (by simp)
end
end Gl
end Go.Proofs.YtpoifdokmjhclaaGreat

namespace Go.Proofs.YtpoifdokmjhclaaGreat
namespace Gl
open Go.RowKit Go.Lib Pg
abbrev pg (g : Nat) : Value := .pointer (some ⟨g, 0, none⟩)
abbrev pq (g o : Nat) : Value := .pointer (some ⟨g, o, none⟩)
abbrev sg (n g : Nat) : Value := .slice (some ⟨g, 0, none⟩) n n
def rowT (P : Program) (T : TypeId) (n : Nat) : Bool := (match P.underlying T with | some d => d.isRow | none => false) && ((P.info? T).map (·.size) == some n)
theorem l1 {P : Program} {w : World} {g : Nat} {cs : List Value} {t T : TypeId} {v : Value} (X : Blk w g cs t) (o : Nat) (hv : cs[o]? = some v := by rfl) (ha : ∀ w, (isAgg T).run P w = .ok false w := by exact fun _ => by kernel_rfl) : (loadVar T ⟨g, o, none⟩).run P w = .ok v w := by
  have h := X.cell hv
  simp [loadVar, ha, h]
theorem lr {P : Program} {w : World} {g : Nat} {cs vs : List Value} {t T : TypeId} (X : Blk w g cs t) (o : Nat) (hr : (cs.drop o).take vs.length = vs := by rfl) (hc : rowT P T vs.length = true := by kernel_rfl) : (loadVar T ⟨g, o, none⟩).run P w = .ok (.agg vs.toArray) w := by
  simp only [rowT, Bool.and_eq_true, beq_iff_eq] at hc
  obtain ⟨h1, h2⟩ := hc
  cases hu : P.underlying T with
  | none => rw [hu] at h1; cases h1
  | some d =>
    rw [hu] at h1
    refine run_loadVar_mid w g o T vs d (fun j v hv => ?_) hu h1 h2
    refine X.cell ?_
    rw [← hr] at hv
    rw [List.getElem?_take] at hv
    split at hv
    · rw [List.getElem?_drop] at hv; exact hv
    · cases hv
/-- cells set within a list -/
def spl (cs : List Value) (o : Nat) (vs : List Value) : List Value := cs.take o ++ vs ++ cs.drop (o + vs.length)
theorem setCells_heap (b : Nat) : ∀ (vs : List Value) (o : Nat) (w : World) (k : Nat), k ≠ b → (w.setCells b o vs).heap[k]? = w.heap[k]?
  | [], _, _, _, _ => rfl
  | v :: r, o, w, k, h => by
    rw [World.setCells, setCells_heap b r (o + 1) _ k h, Below.heap_setCell w ⟨b, o, none⟩ v k h]
theorem setCells_size (b : Nat) : ∀ (vs : List Value) (o : Nat) (w : World), (w.setCells b o vs).heap.size = w.heap.size
  | [], _, _ => rfl
  | v :: r, o, w => by rw [World.setCells, setCells_size b r (o + 1)]; simp [World.setCell]
theorem setCells_rest (b : Nat) : ∀ (vs : List Value) (o : Nat) (w : World), (w.setCells b o vs).os = w.os ∧ (w.setCells b o vs).tape = w.tape ∧ (w.setCells b o vs).output = w.output
  | [], _, _ => ⟨rfl, rfl, rfl⟩
  | v :: r, o, w => by rw [World.setCells]; exact setCells_rest b r (o + 1) _
theorem blk_setCells {t : TypeId} {g : Nat} : ∀ (vs : List Value) (o : Nat) (cs : List Value) (w : World), Blk w g cs t → o + vs.length ≤ cs.length → Blk (w.setCells g o vs) g (spl cs o vs) t
  | [], o, cs, w, X, _ => by simpa [World.setCells, spl] using X
  | v :: r, o, cs, w, X, h => by
    rw [World.setCells]
    have h' : o + 1 + r.length ≤ (cs.set o v).length := by simp at h ⊢; omega
    have := blk_setCells r (o + 1) (cs.set o v) _ (X.setCell (i := o) v) h'
    have e : spl (cs.set o v) (o + 1) r = spl cs o (v :: r) := by
      simp only [List.length_cons] at h
      unfold spl
      rw [List.drop_set_of_lt (by omega), List.take_set, List.take_add_one, List.set_append]
      have hl : (cs.take o).length = o := by rw [List.length_take]; omega
      rw [hl, if_neg (by omega), Nat.sub_self]
      obtain ⟨y, hy⟩ : ∃ y, cs[o]? = some y := ⟨_, List.getElem?_eq_getElem (by omega)⟩
      rw [hy]
      simp
      omega
    rw [e] at this
    exact this
theorem run_st {P : Program} {w : World} {g o : Nat} {cs : List Value} {t T : TypeId} {x : Value} {vs : List Value} (X : Blk w g cs t) (hx : x.cells.toList = vs) (hi : ((P.info? T).map (·.size) == some vs.length) = true) (h1 : vs.all (·.oneCell') = true) (hb : o + vs.length ≤ cs.length) : (storeVar T ⟨g, o, none⟩ x).run P w = .ok () (w.setCells g o vs) := by
  have := run_storeCells_cells (P := P) g o vs 0 w (fun j hj => by
      have := X.cell (i := o + j) (List.getElem?_eq_getElem (by omega))
      simpa using (by rw [this]; rfl : (w.cell? ⟨g, o + j, none⟩).isSome = true)) (fun j _ => by simpa using X.free (o + j))
    (fun v hv => List.all_eq_true.1 h1 v hv)
  cases hq : P.info? T with
  | none => rw [hq] at hi; cases hi
  | some i =>
    rw [hq] at hi
    have hs : i.size = vs.length := by simpa using hi
    have hz : x.cells.size = i.size := by rw [hs, ← hx]; simp
    simp only [Nat.add_zero] at this
    simp [storeVar, sizeOf, typeInfo, hq, hz, hx, this]
section
variable {P : Program} {n : Nat} {ds : List Deferred} {ops : Array Oper} {rest : List Oper} {o o1 o2 : Oper} {l : Fr} {w w1 : World} {Q Q' : Exit → Act → World → Prop} {K : Act → World → Prop} {S : World → Prop} {Z : Nat → Bool} {fuel : Nat} {L : List Nat}
theorem run_sto {ρ : Operand → Value} {g off : Nat} {cs vs : List Value} {t : TypeId} {x : Value} (X : Blk w g cs t) (hst : ∃ T p q, o.op = .store T p q ∧ ρ p = .pointer (some ⟨g, off, none⟩) ∧ ρ q = x ∧ ((P.info? T).map (·.size) == some vs.length) = true) (hx : x.cells.toList = vs) (h1 : vs.all (·.oneCell') = true) (hb : Nat.ble (off + vs.length) cs.length = true) : (execOp ρ o).run P w = .ok .skip (w.setCells g off vs) := by
  obtain ⟨T, p, q, h, hp, hq, hi⟩ := hst
  simp only [execOp, h, hp, hq, Instr.storeAt, Instr.sureAddr, Sem.run_bind, Sem.run_pure, Result.andThen_ok, run_st X hx hi h1 (Nat.le_of_ble_eq_true hb)]
theorem chg_setCells (g off : Nat) (vs : List Value) : Chg (· = g) w (w.setCells g off vs) := ⟨(setCells_rest g vs off w).1, (setCells_rest g vs off w).2.1, (setCells_rest g vs off w).2.2, by rw [setCells_size]; exact Nat.le_refl _, fun b _ hb => setCells_heap g vs off w b hb⟩
theorem run_ld1 {ρ : Operand → Value} {g off : Nat} {v : Value} {cs : List Value} {t : TypeId} (X : Blk w g cs t) (hv : cs[off]? = some v) (ho : ∃ T p, o.op = .load T p ∧ ρ p = .pointer (some ⟨g, off, none⟩) ∧ ∀ w, (isAgg T).run P w = .ok false w) : (execOp ρ o).run P w = .ok (.value v) w := by
  obtain ⟨T, p, h, hp, ha⟩ := ho
  have := l1 (P := P) (T := T) X off hv ha
  simp only [execOp, h, hp]
  simp [Instr.loadAt, Instr.sureAddr, Result.andThen, this]
theorem run_ldr {ρ : Operand → Value} {g off : Nat} {cs vs : List Value} {t : TypeId} (X : Blk w g cs t) (hr : (cs.drop off).take vs.length = vs) (ho : ∃ T p, o.op = .load T p ∧ ρ p = .pointer (some ⟨g, off, none⟩) ∧ rowT P T vs.length = true) : (execOp ρ o).run P w = .ok (.value (.agg vs.toArray)) w := by
  obtain ⟨T, p, h, hp, ha⟩ := ho
  have := lr (P := P) (T := T) X off hr ha
  simp only [execOp, h, hp]
  simp [Instr.loadAt, Instr.sureAddr, Result.andThen, this]
theorem tl (d : Nat) (v : Value) {g : Nat} {cs : List Value} {t : TypeId} (X : Blk w g cs t) (off : Nat) (h : GL P n ds ops Q rest ((d, v) :: l) w) (hv : cs[off]? = some v := by rfl) (ho : ∃ T p, o.op = .load T p ∧ evL l p = .pointer (some ⟨g, off, none⟩) ∧ ∀ w, (isAgg T).run P w = .ok false w := by exact ⟨_, _, rfl, by kernel_rfl, fun _ => by kernel_rfl⟩) (hg : gd ops l o = some true := by kernel_rfl) (hc : chk n l o (some d) = true := by kernel_rfl) : GL P n ds ops Q (o :: rest) l w := gl_val (some d) v hg hc (run_ld1 X hv ho) h
theorem tlr (d : Nat) (vs : List Value) {g : Nat} {cs : List Value} {t : TypeId} (X : Blk w g cs t) (off : Nat) (h : GL P n ds ops Q rest ((d, .agg vs.toArray) :: l) w) (hr : (cs.drop off).take vs.length = vs := by rfl) (ho : ∃ T p, o.op = .load T p ∧ evL l p = .pointer (some ⟨g, off, none⟩) ∧ rowT P T vs.length = true := by exact ⟨_, _, rfl, by kernel_rfl, by kernel_rfl⟩) (hg : gd ops l o = some true := by kernel_rfl) (hc : chk n l o (some d) = true := by kernel_rfl) : GL P n ds ops Q (o :: rest) l w := gl_val (some d) _ hg hc (run_ldr X hr ho) h
theorem zl (i d : Nat) (v : Value) {g : Nat} {cs : List Value} {t : TypeId} (X : ∀ w', S w' → Blk w' g cs t) (off : Nat) (h : GZ P n ds ops Q S Z fuel (i :: L) ((d, v) :: l) w) (hv : cs[off]? = some v := by rfl) (ho : ∃ T p, (ops.getD i default).op = .load T p ∧ evL l p = .pointer (some ⟨g, off, none⟩) ∧ ∀ w, (isAgg T).run P w = .ok false w := by exact ⟨_, _, rfl, by kernel_rfl, fun _ => by kernel_rfl⟩) (hz : lateWait ops Z i = true := by kernel_rfl) (hc : zchk n l ops L i (some d) = true := by kernel_rfl) (hg : gd ops l (ops.getD i default) = some true := by kernel_rfl) (hQ : ∀ c a w, Q (.panic c) (a.put (some d) v) w → Q (.panic c) a w := by exact fun _ _ _ h => h) : GZ P n ds ops Q S Z (fuel + 1) L l w := gz_take i (some d) v (fun w' hS' => run_ld1 (X w' hS') hv ho) hz hc hg hQ h
theorem zlr (i d : Nat) (vs : List Value) {g : Nat} {cs : List Value} {t : TypeId} (X : ∀ w', S w' → Blk w' g cs t) (off : Nat) (h : GZ P n ds ops Q S Z fuel (i :: L) ((d, .agg vs.toArray) :: l) w) (hr : (cs.drop off).take vs.length = vs := by rfl) (ho : ∃ T p, (ops.getD i default).op = .load T p ∧ evL l p = .pointer (some ⟨g, off, none⟩) ∧ rowT P T vs.length = true := by exact ⟨_, _, rfl, by kernel_rfl, by kernel_rfl⟩) (hz : lateWait ops Z i = true := by kernel_rfl) (hc : zchk n l ops L i (some d) = true := by kernel_rfl) (hg : gd ops l (ops.getD i default) = some true := by kernel_rfl) (hQ : ∀ c a w, Q (.panic c) (a.put (some d) (.agg vs.toArray)) w → Q (.panic c) a w := by exact fun _ _ _ h => h) : GZ P n ds ops Q S Z (fuel + 1) L l w := gz_take i (some d) _ (fun w' hS' => run_ldr (X w' hS') hr ho) hz hc hg hQ h
/-- a variable is made -/
theorem ta (d : Nat) (vs : List Value) (T : TypeId) (mk : Nat → Value) (h : ∀ w1 g, Blk w1 g vs T → w.heap.size ≤ g → Below w.heap.size w w1 → GL P n ds ops Q rest ((d, mk g) :: l) w1) (hg : gd ops l o = some true := by kernel_rfl) (hc : chk n l o (some d) = true := by kernel_rfl) (hrun : (execOp (evL l) o).run P w = .ok (.value (mk w.heap.size)) (w.alloc (.cells vs.toArray T)) := by kernel_rfl) : GL P n ds ops Q (o :: rest) l w :=
  gl_val (some d) _ hg hc hrun (h _ _ (blk_new w vs T) (Nat.le_refl _) (below_alloc w _))
/-- cells of a variable are written -/
theorem ts {g : Nat} {cs : List Value} {t : TypeId} (X : Blk w g cs t) (off : Nat) (x : Value) (vs cs' : List Value) (h : ∀ w1, Blk w1 g cs' t → Chg (· = g) w w1 → GL P n ds ops Q rest l w1) (hx : x.cells.toList = vs := by rfl) (h1 : vs.all (·.oneCell') = true := by rfl) (hb : Nat.ble (off + vs.length) cs.length = true := by rfl) (he : spl cs off vs = cs' := by rfl) (hst : ∃ T p q, o.op = .store T p q ∧ evL l p = .pointer (some ⟨g, off, none⟩) ∧ evL l q = x ∧ ((P.info? T).map (·.size) == some vs.length) = true := by exact ⟨_, _, _, rfl, by kernel_rfl, by kernel_rfl, by kernel_rfl⟩) (hg : gd ops l o = some true := by kernel_rfl) (hc : chk n l o none = true := by kernel_rfl) : GL P n ds ops Q (o :: rest) l w := by
  refine gl_void hg hc (run_sto X hst hx h1 hb) (h _ ?_ (chg_setCells g off vs))
  rw [← he]
  exact blk_setCells vs off cs w X (Nat.le_of_ble_eq_true hb)
theorem za (i d : Nat) (vs : List Value) (T : TypeId) (mk : Nat → Value) (h : ∀ w1 g, Blk w1 g vs T → w.heap.size ≤ g → Below w.heap.size w w1 → S w1 ∧ GZ P n ds ops Q S Z fuel (i :: L) ((d, mk g) :: l) w1) (hr : readyL ops L = [i] := by kernel_rfl) (hg : gd ops l (ops.getD i default) = some true := by kernel_rfl) (hc : achk n l ops i (some d) = true := by kernel_rfl) (hrun : (execOp (evL l) (ops.getD i default)).run P w = .ok (.value (mk w.heap.size)) (w.alloc (.cells vs.toArray T)) := by kernel_rfl) : GZ P n ds ops Q S Z (fuel + 1) L l w := by
  have H := h _ _ (blk_new w vs T) (Nat.le_refl _) (below_alloc w _)
  exact zw i d _ _ hrun H.1 H.2 hr hc hg
theorem zaa {rs : List Nat} (i d : Nat) (vs : List Value) (T : TypeId) (mk : Nat → Value) (h : ∀ w1 g, Blk w1 g vs T → w.heap.size ≤ g → Below w.heap.size w w1 → S w1 ∧ GZ P n ds ops Q S Z fuel (i :: L) ((d, mk g) :: l) w1) (hs : GA P n ds ops Q S Z fuel L l w rs) (hg : gd ops l (ops.getD i default) = some true := by kernel_rfl) (hc : achk n l ops i (some d) = true := by kernel_rfl) (hrun : (execOp (evL l) (ops.getD i default)).run P w = .ok (.value (mk w.heap.size)) (w.alloc (.cells vs.toArray T)) := by kernel_rfl) : GA P n ds ops Q S Z fuel L l w (i :: rs) := by
  have H := h _ _ (blk_new w vs T) (Nat.le_refl _) (below_alloc w _)
  exact ga_val i (some d) _ _ hrun H.1 H.2 hs hc hg
theorem zs (i : Nat) {g : Nat} {cs : List Value} {t : TypeId} (X : Blk w g cs t) (off : Nat) (x : Value) (vs cs' : List Value) (h : ∀ w1, Blk w1 g cs' t → Chg (· = g) w w1 → S w1 ∧ GZ P n ds ops Q S Z fuel (i :: L) l w1) (hx : x.cells.toList = vs := by rfl) (h1 : vs.all (·.oneCell') = true := by rfl) (hb : Nat.ble (off + vs.length) cs.length = true := by rfl) (he : spl cs off vs = cs' := by rfl) (hst : ∃ T p q, (ops.getD i default).op = .store T p q ∧ evL l p = .pointer (some ⟨g, off, none⟩) ∧ evL l q = x ∧ ((P.info? T).map (·.size) == some vs.length) = true := by exact ⟨_, _, _, rfl, by kernel_rfl, by kernel_rfl, by kernel_rfl⟩) (hr : readyL ops L = [i] := by kernel_rfl) (hg : gd ops l (ops.getD i default) = some true := by kernel_rfl) (hc : achk n l ops i none = true := by kernel_rfl) : GZ P n ds ops Q S Z (fuel + 1) L l w := by
  have Y := blk_setCells vs off cs w X (Nat.le_of_ble_eq_true hb)
  rw [he] at Y
  have H := h _ Y (chg_setCells g off vs)
  exact zv i _ (run_sto X hst hx h1 hb) H.1 H.2 hr hc hg
theorem ys (i : Nat) {g : Nat} {cs : List Value} {t : TypeId} (X : Blk w g cs t) (off : Nat) (x : Value) (vs cs' : List Value) (h : ∀ w1, Blk w1 g cs' t → Chg (· = g) w w1 → GY P n ds ops Q S Z fuel (i :: L) l w1) (hx : x.cells.toList = vs := by rfl) (h1 : vs.all (·.oneCell') = true := by rfl) (hb : Nat.ble (off + vs.length) cs.length = true := by rfl) (he : spl cs off vs = cs' := by rfl) (hst : ∃ T p q, (ops.getD i default).op = .store T p q ∧ evL l p = .pointer (some ⟨g, off, none⟩) ∧ evL l q = x ∧ ((P.info? T).map (·.size) == some vs.length) = true := by exact ⟨_, _, _, rfl, by kernel_rfl, by kernel_rfl, by kernel_rfl⟩) (hr : readyL ops L = [i] := by kernel_rfl) (hg : gd ops l (ops.getD i default) = some true := by kernel_rfl) (hc : achk n l ops i none = true := by kernel_rfl) (hZ : Z i = true := by rfl) : GY P n ds ops Q S Z (fuel + 1) L l w := by
  have Y := blk_setCells vs off cs w X (Nat.le_of_ble_eq_true hb)
  rw [he] at Y
  exact yv i _ (run_sto X hst hx h1 hb) (h _ Y (chg_setCells g off vs)) hr hc hg hZ
end
theorem wi {z : Int} (h : -9223372036854775808 ≤ z ∧ z < 9223372036854775808) : Value.int .i64 (IntKind.i64.wrap z) = .int .i64 z := by rw [IntKind.wrap_i64]; congr 1; omega
theorem wu {z : Int} (h : 0 ≤ z ∧ z < 18446744073709551616) : Value.int .u64 (IntKind.u64.wrap z) = .int .u64 z := by rw [IntKind.wrap_u64]; congr 1; omega
theorem congr_v {P : Program} {ρ : Operand → Value} {o : Oper} {w : World} {v v' : Value} (e : v = v') (h : (execOp ρ o).run P w = .ok (.value v) w) : (execOp ρ o).run P w = .ok (.value v') w := e ▸ h
def slT (P : Program) (T : TypeId) (sz : Nat) : Bool := match P.underlying T with
  | some (.slice e) => (P.info? e).map (·.size) == some sz
  | _ => false
theorem run_ixs {P : Program} {ρ : Operand → Value} {o : Oper} {w : World} (sz b off n c k : Nat) (hk : k < n) (ho : ∃ T x y, o.op = .indexAddr T x y ∧ slT P T sz = true ∧ ρ x = .slice (some ⟨b, off, none⟩) n c ∧ ρ y = .int .i64 (k : Int) := by exact ⟨_, _, _, rfl, by kernel_rfl, by kernel_rfl, by kernel_rfl⟩) : (execOp ρ o).run P w = .ok (.value (.pointer (some ⟨b, off + k * sz, none⟩))) w := by
  obtain ⟨T, x, y, h1, h2, h5, h6⟩ := ho
  have h7 : (k : Int) < n := by omega
  have h8 : ¬ ((k : Int) < 0) := by omega
  unfold slT at h2
  cases hu : P.underlying T with
  | none => rw [hu] at h2; cases h2
  | some d =>
    rw [hu] at h2
    cases d with
    | slice e =>
      simp only [beq_iff_eq] at h2
      cases hi : P.info? e with
      | none => rw [hi] at h2; cases h2
      | some i =>
        rw [hi] at h2
        simp at h2
        simp only [execOp, h1, h5, h6]
        go_simp
        simp [sizeOf, typeInfo, hi, h2]
    | _ => cases h2
/-- what a store of a new variable leaves of what was there -/
theorem belowC {w0 w w1 : World} {g : Nat} (B : Below w0.heap.size w0 w) (C : Chg (· = g) w w1) (h : w0.heap.size ≤ g) : Below w0.heap.size w0 w1 := B.trans (C.below (fun b e => by have e' : b = g := e; omega) B.size)
end Gl
end Go.Proofs.YtpoifdokmjhclaaGreat

namespace Go.Proofs.YtpoifdokmjhclaaGreat
namespace Rc
open Go.RowKit Go.Lib Pg Gl
attribute [local go_sem] Oper.semAt_some
set_option maxRecDepth 100000
def thr {σ : Type} (nx : Nat → Nat → σ → σ) (l : List (Nat × Nat)) (s : σ) : σ := l.foldl (fun s p => nx p.1 p.2 s) s
theorem HC.okt {σ : Type} {Inv : σ → World → Prop} {G : Nat → Prop} {rb : Nat} {f1 f2 f3 : FuncId} {c : Value} {nx : Nat → Nat → σ → σ} {kd : Nat → Nat} {ok : σ → Prop} (H : HC σ Inv G rb f1 f2 f3 c nx kd ok) (l : List (Nat × Nat)) : ∀ s, ok (thr nx l s) → ok s := by
  induction l with
  | nil => exact fun _ h => h
  | cons o l ih => exact fun s h => H.oks _ _ _ (ih _ h)
abbrev hq (f1 f2 f3 : FuncId) (c : Value) : List Value := [.func (.func f1) #[] #[c], .func (.func f2) #[] #[c], .func (.func f3) #[] #[c]]
theorem run_cvL {ev : Operand → Value} {w : World} {o : Oper} {x y : Operand} {f : FuncId} {v c : Value} {T : Array TypeId} (ho : o.op = .call { callee := .value x, args := #[y], argTypes := T }) (hx : ev x = .func (.func f) #[] #[c]) (hy : ev y = v) (he : ∀ args w, (callFunc f args).run Tryz.prog w = .ok (.enter f args) w) : (execOp ev o).run Tryz.prog w = .ok (.enter f #[v, c]) w := by
  have h9 := he #[v, c] w
  simp only [execOp, ho]
  go_simp
/-- on the way through a record's fields: R is left -/
structure Oi {σ : Type} (Inv : σ → World → Prop) (G : Nat → Prop) (rb : Nat) (f1 f2 f3 : FuncId) (c : Value) (nx : Nat → Nat → σ → σ) (kd : Nat → Nat) (ok : σ → Prop) (w0 : World) (gb : Nat) (R : List (Nat × Nat)) (s : σ) (w : World) : Prop where
  H : HC σ Inv G rb f1 f2 f3 c nx kd ok
  I : Inv s w
  C : Chg G w0 w
  X : Blk w gb (hq f1 f2 f3 c) 216
  ng : ¬ G gb
  hk : ∀ p ∈ R, kd p.2 = p.1
  hok : ok (thr nx R s)
section
variable {σ : Type} {Inv : σ → World → Prop} {G : Nat → Prop} {rb : Nat} {f1 f2 f3 : FuncId} {c : Value} {nx : Nat → Nat → σ → σ} {kd : Nat → Nat} {ok : σ → Prop} {s : σ} {w0 w v : World} {gb : Nat} {R : List (Nat × Nat)}
theorem Oi.start (H : HC σ Inv G rb f1 f2 f3 c nx kd ok) (hI : Inv s w) (hk : ∀ p ∈ R, kd p.2 = p.1) (hok : ok (thr nx R s)) (X : Blk v gb (hq f1 f2 f3 c) 216) (hg : w.heap.size ≤ gb) (B : Below w.heap.size w v) : Oi Inv G rb f1 f2 f3 c nx kd ok w gb R s v :=
  ⟨H, H.keep _ _ _ hI B, Chg.of B, X, fun h => by have := H.old s w _ hI h; omega, hk, hok⟩
theorem Oi.below (O : Oi Inv G rb f1 f2 f3 c nx kd ok w0 gb R s w) (B : Below w.heap.size w v) : Oi Inv G rb f1 f2 f3 c nx kd ok w0 gb R s v :=
  ⟨O.H, O.H.keep _ _ _ O.I B, O.C.trans (Chg.of (F := G) B) (fun _ _ h => h), O.X.keep B, O.ng, O.hk, O.hok⟩
theorem Oi.drew (O : Oi Inv G rb f1 f2 f3 c nx kd ok w0 gb R s w) : Oi Inv G rb f1 f2 f3 c nx kd ok w0 gb R s w.drew := O.below (belowD' w)
theorem Oi.new (O : Oi Inv G rb f1 f2 f3 c nx kd ok w0 gb R s w) {g : Nat} (hg : w.heap.size ≤ g) (B : Below w.heap.size w v) : Oi Inv G rb f1 f2 f3 c nx kd ok w0 gb R s v ∧ ¬ G g :=
  ⟨O.below B, fun h => by have := O.H.old s w _ O.I h; omega⟩
theorem thr_take {k : Nat} (offs : List Nat) (hR : R.take offs.length = offs.map fun o => (k, o)) : thr nx R s = thr nx (R.drop offs.length) (offs.foldl (fun s o => nx k o s) s) := by
  conv => lhs; rw [← List.take_append_drop offs.length R, hR]
  simp only [thr, List.foldl_append, List.foldl_map]
theorem Oi.next {k : Nat} (O : Oi Inv G rb f1 f2 f3 c nx kd ok w0 gb R s w) (offs : List Nat) (hR : R.take offs.length = offs.map fun o => (k, o)) : (∀ o ∈ offs, kd o = k) ∧ ok (offs.foldl (fun s o => nx k o s) s) ∧ (Inv (offs.foldl (fun s o => nx k o s) s) v → Chg G w v → Oi Inv G rb f1 f2 f3 c nx kd ok w0 gb (R.drop offs.length) (offs.foldl (fun s o => nx k o s) s) v) := by
  have hok := O.hok
  rw [thr_take offs hR] at hok
  exact ⟨fun o ho => O.hk (k, o) (List.mem_of_mem_take (hR ▸ List.mem_map.2 ⟨o, ho, rfl⟩)), O.H.okt _ _ hok, fun I C => ⟨O.H, I, O.C.trans C (fun _ _ h => h), O.X.chg C O.ng, O.ng, fun p hp => O.hk p (List.mem_of_mem_drop hp), hok⟩⟩
theorem Oi.tru (o : Nat) (O : Oi Inv G rb f1 f2 f3 c nx kd ok w0 gb R s w) (hR : R.take 1 = [(1, o)] := by rfl) : Calls Tryz.prog f2 #[pq rb o, c] w fun e w' => e = .returned (.tuple #[]) ∧ Oi Inv G rb f1 f2 f3 c nx kd ok w0 gb (R.drop 1) (nx 1 o s) w' := by
  have h1 := (O.next (v := w) [o] hR).1
  have h2 := (O.next (v := w) [o] hR).2.1
  refine (O.H.t s w o O.I h2 (h1 o (List.mem_singleton.2 rfl))).mono ?_
  rintro e w' ⟨rfl, I, C⟩
  exact ⟨rfl, (O.next [o] hR).2.2 I C⟩
theorem Oi.numbers (offs : List Nat) {n sb : Nat} (O : Oi Inv G rb f1 f2 f3 c nx kd ok w0 gb R s w) (N : ¬ G sb) (X : Blk w sb (offs.map fun o => .pointer (some ⟨rb, o, none⟩)) 111) (hR : R.take offs.length = offs.map (fun o => (0, o)) := by rfl) (hn : offs.length = n := by rfl) (h2 : n ≤ 1000 := by decide) : Calls Tryz.prog 116 #[.agg (hq f1 f2 f3 c).toArray, sg n sb] w fun e w' => e = .returned (.tuple #[]) ∧ Oi Inv G rb f1 f2 f3 c nx kd ok w0 gb (R.drop offs.length) (offs.foldl (fun s o => nx 0 o s) s) w' := by
  refine (numbers_any O.H O.I X N (O.next (v := w) offs hR).1 (O.next (v := w) offs hR).2.1 hn h2).mono ?_
  rintro e w' ⟨rfl, I, C⟩
  exact ⟨rfl, (O.next offs hR).2.2 I C⟩
theorem Oi.decimals (offs : List Nat) {n sb : Nat} (O : Oi Inv G rb f1 f2 f3 c nx kd ok w0 gb R s w) (N : ¬ G sb) (X : Blk w sb (offs.map fun o => .pointer (some ⟨rb, o, none⟩)) 212) (hR : R.take offs.length = offs.map (fun o => (2, o)) := by rfl) (hn : offs.length = n := by rfl) (h2 : n ≤ 1000 := by decide) : Calls Tryz.prog 120 #[.agg (hq f1 f2 f3 c).toArray, sg n sb] w fun e w' => e = .returned (.tuple #[]) ∧ Oi Inv G rb f1 f2 f3 c nx kd ok w0 gb (R.drop offs.length) (offs.foldl (fun s o => nx 2 o s) s) w' := by
  refine (decimals_any O.H O.I X N (O.next (v := w) offs hR).1 (O.next (v := w) offs hR).2.1 hn h2).mono ?_
  rintro e w' ⟨rfl, I, C⟩
  exact ⟨rfl, (O.next offs hR).2.2 I C⟩
theorem ofParams_any (H : HC σ Inv G rb f1 f2 f3 c nx kd ok) (hI : Inv s w) (hkd : ∀ p ∈ [(0, 0), (0, 1), (0, 2), (0, 3), (0, 4), (0, 5), (0, 6), (0, 7), (0, 8), (0, 9)], kd p.2 = p.1) (hok : ok (thr nx [(0, 0), (0, 1), (0, 2), (0, 3), (0, 4), (0, 5), (0, 6), (0, 7), (0, 8), (0, 9)] s)) : Calls Tryz.prog 128 #[.pointer (some ⟨rb, 0, none⟩), .agg #[.func (.func f1) #[] #[c], .func (.func f2) #[] #[c], .func (.func f3) #[] #[c]]] w (FinH σ Inv G (thr nx [(0, 0), (0, 1), (0, 2), (0, 3), (0, 4), (0, 5), (0, 6), (0, 7), (0, 8), (0, 9)] s) w) := by
  refine gc_enter (n := 37) Tryz.func128 rfl (by kernel_rfl) (by kernel_rfl) ?_
  refine gc_seq ?_
  refine gc_reg ?_
  refine ta 3 (hq f1 f2 f3 c) 216 (pg) ?_
  intro v1 g2 Xg2 hg2 B
  have O := Oi.start H hI hkd hok Xg2 hg2 B
  clear Xg2 B H hI hkd hok
  refine gl_nil ?_
  refine ge_then ?_
  replace O := O.drew
  refine gc_draw (fun w' => Blk w' g2 (hq f1 f2 f3 c) 216) (fun _ => false) O.X ?_
  refine zlr 0 4 (hq f1 f2 f3 c) (fun _ h => h) 0 ?_
  refine z 1 5 (pg rb) ?_
  refine z 2 6 (pg rb) ?_
  refine z 3 7 (pg rb) ?_
  refine z 4 8 (pg rb) ?_
  refine z 5 9 (pg rb) ?_
  refine z 6 10 (pq rb 1) ?_
  refine z 7 11 (pg rb) ?_
  refine z 8 12 (pg rb) ?_
  refine z 9 13 (pq rb 2) ?_
  refine z 10 14 (pg rb) ?_
  refine z 11 15 (pg rb) ?_
  refine z 12 16 (pq rb 3) ?_
  refine z 13 17 (pg rb) ?_
  refine z 14 18 (pg rb) ?_
  refine z 15 19 (pq rb 4) ?_
  refine z 16 20 (pg rb) ?_
  refine z 17 21 (pg rb) ?_
  refine z 18 22 (pq rb 5) ?_
  refine z 19 23 (pg rb) ?_
  refine z 20 24 (pg rb) ?_
  refine z 21 25 (pq rb 6) ?_
  refine z 22 26 (pg rb) ?_
  refine z 23 27 (pg rb) ?_
  refine z 24 28 (pq rb 7) ?_
  refine z 25 29 (pg rb) ?_
  refine z 26 30 (pg rb) ?_
  refine z 27 31 (pq rb 8) ?_
  refine z 28 32 (pg rb) ?_
  refine z 29 33 (pg rb) ?_
  refine z 30 34 (pq rb 9) ?_
  refine za 31 35 [pg rb, pq rb 1, pq rb 2, pq rb 3, pq rb 4, pq rb 5, pq rb 6, pq rb 7, pq rb 8, pq rb 9] 111 (sg 10) ?_
  intro v3 g4 Xg4 hg4 B
  obtain ⟨O, N⟩ := O.new hg4 B
  refine ⟨O.X, ?_⟩
  refine zc 32 36 116 #[.agg (hq f1 f2 f3 c).toArray, sg 10 g4] (O.numbers [0, 1, 2, 3, 4, 5, 6, 7, 8, 9] N Xg4) ?_
  rintro _ v5 ⟨rfl, O⟩
  clear Xg4 N
  refine ⟨_, rfl, O.X, ?_⟩
  refine gz_done ?_
  refine ge_end (.tuple #[]) (rs0 (by kernel_rfl)) ?_
  exact ⟨rfl, O.I, O.C⟩
theorem ofChain_any (H : HC σ Inv G rb f1 f2 f3 c nx kd ok) (hI : Inv s w) (hkd : ∀ p ∈ [(0, 0), (0, 1)], kd p.2 = p.1) (hok : ok (thr nx [(0, 0), (0, 1)] s)) : Calls Tryz.prog 130 #[.pointer (some ⟨rb, 0, none⟩), .agg #[.func (.func f1) #[] #[c], .func (.func f2) #[] #[c], .func (.func f3) #[] #[c]]] w (FinH σ Inv G (thr nx [(0, 0), (0, 1)] s) w) := by
  refine gc_enter (n := 13) Tryz.func130 rfl (by kernel_rfl) (by kernel_rfl) ?_
  refine gc_seq ?_
  refine gc_reg ?_
  refine ta 3 (hq f1 f2 f3 c) 216 (pg) ?_
  intro v1 g2 Xg2 hg2 B
  have O := Oi.start H hI hkd hok Xg2 hg2 B
  clear Xg2 B H hI hkd hok
  refine gl_nil ?_
  refine ge_then ?_
  replace O := O.drew
  refine gc_draw (fun w' => Blk w' g2 (hq f1 f2 f3 c) 216) (fun _ => false) O.X ?_
  refine zlr 0 4 (hq f1 f2 f3 c) (fun _ h => h) 0 ?_
  refine z 1 5 (pg rb) ?_
  refine z 2 6 (pg rb) ?_
  refine z 3 7 (pg rb) ?_
  refine z 4 8 (pg rb) ?_
  refine z 5 9 (pg rb) ?_
  refine z 6 10 (pq rb 1) ?_
  refine za 7 11 [pg rb, pq rb 1] 111 (sg 2) ?_
  intro v3 g4 Xg4 hg4 B
  obtain ⟨O, N⟩ := O.new hg4 B
  refine ⟨O.X, ?_⟩
  refine zc 8 12 116 #[.agg (hq f1 f2 f3 c).toArray, sg 2 g4] (O.numbers [0, 1] N Xg4) ?_
  rintro _ v5 ⟨rfl, O⟩
  clear Xg4 N
  refine ⟨_, rfl, O.X, ?_⟩
  refine gz_done ?_
  refine ge_end (.tuple #[]) (rs0 (by kernel_rfl)) ?_
  exact ⟨rfl, O.I, O.C⟩
theorem ofPool_any (H : HC σ Inv G rb f1 f2 f3 c nx kd ok) (hI : Inv s w) (hkd : ∀ p ∈ [(2, 0)], kd p.2 = p.1) (hok : ok (thr nx [(2, 0)] s)) : Calls Tryz.prog 363 #[.pointer (some ⟨rb, 0, none⟩), .agg #[.func (.func f1) #[] #[c], .func (.func f2) #[] #[c], .func (.func f3) #[] #[c]]] w (FinH σ Inv G (thr nx [(2, 0)] s) w) := by
  refine gc_enter (n := 8) Tryz.func363 rfl (by kernel_rfl) (by kernel_rfl) ?_
  refine gc_seq ?_
  refine gc_reg ?_
  refine ta 3 (hq f1 f2 f3 c) 216 (pg) ?_
  intro v1 g2 Xg2 hg2 B
  have O := Oi.start H hI hkd hok Xg2 hg2 B
  clear Xg2 B H hI hkd hok
  refine gl_nil ?_
  refine ge_then ?_
  refine gc_reg ?_
  refine tlr 4 (hq f1 f2 f3 c) O.X 0 ?_
  refine t 5 (pg rb) ?_
  refine ta 6 [pg rb] 212 (sg 1) ?_
  intro v3 g4 Xg4 hg4 B
  obtain ⟨O, N⟩ := O.new hg4 B
  refine tc 7 120 #[.agg (hq f1 f2 f3 c).toArray, sg 1 g4] (O.decimals [0] N Xg4) ?_
  rintro _ v5 ⟨rfl, O⟩
  refine ⟨_, rfl, ?_⟩
  clear Xg4 N
  refine gl_nil ?_
  refine ge_end (.tuple #[]) (rs0 (by kernel_rfl)) ?_
  exact ⟨rfl, O.I, O.C⟩
theorem ofAccount_any (H : HC σ Inv G rb f1 f2 f3 c nx kd ok) (hI : Inv s w) (hkd : ∀ p ∈ [(0, 0), (0, 1)], kd p.2 = p.1) (hok : ok (thr nx [(0, 0), (0, 1)] s)) : Calls Tryz.prog 74 #[.pointer (some ⟨rb, 0, none⟩), .agg #[.func (.func f1) #[] #[c], .func (.func f2) #[] #[c], .func (.func f3) #[] #[c]]] w (FinH σ Inv G (thr nx [(0, 0), (0, 1)] s) w) := by
  refine gc_enter (n := 13) Tryz.func74 rfl (by kernel_rfl) (by kernel_rfl) ?_
  refine gc_seq ?_
  refine gc_reg ?_
  refine ta 3 (hq f1 f2 f3 c) 216 (pg) ?_
  intro v1 g2 Xg2 hg2 B
  have O := Oi.start H hI hkd hok Xg2 hg2 B
  clear Xg2 B H hI hkd hok
  refine gl_nil ?_
  refine ge_then ?_
  replace O := O.drew
  refine gc_draw (fun w' => Blk w' g2 (hq f1 f2 f3 c) 216) (fun _ => false) O.X ?_
  refine zlr 0 4 (hq f1 f2 f3 c) (fun _ h => h) 0 ?_
  refine z 1 5 (pg rb) ?_
  refine z 2 6 (pg rb) ?_
  refine z 3 7 (pg rb) ?_
  refine z 4 8 (pg rb) ?_
  refine z 5 9 (pg rb) ?_
  refine z 6 10 (pq rb 1) ?_
  refine za 7 11 [pg rb, pq rb 1] 111 (sg 2) ?_
  intro v3 g4 Xg4 hg4 B
  obtain ⟨O, N⟩ := O.new hg4 B
  refine ⟨O.X, ?_⟩
  refine zc 8 12 116 #[.agg (hq f1 f2 f3 c).toArray, sg 2 g4] (O.numbers [0, 1] N Xg4) ?_
  rintro _ v5 ⟨rfl, O⟩
  clear Xg4 N
  refine ⟨_, rfl, O.X, ?_⟩
  refine gz_done ?_
  refine ge_end (.tuple #[]) (rs0 (by kernel_rfl)) ?_
  exact ⟨rfl, O.I, O.C⟩
theorem ofVal_any (H : HC σ Inv G rb f1 f2 f3 c nx kd ok) (hI : Inv s w) (hkd : ∀ p ∈ [(0, 0), (0, 1), (2, 2), (1, 3), (0, 4), (1, 5), (0, 6), (2, 7), (2, 8), (2, 9)], kd p.2 = p.1) (hok : ok (thr nx [(0, 0), (0, 1), (2, 2), (1, 3), (0, 4), (1, 5), (0, 6), (2, 7), (2, 8), (2, 9)] s)) : Calls Tryz.prog 77 #[.pointer (some ⟨rb, 0, none⟩), .agg #[.func (.func f1) #[] #[c], .func (.func f2) #[] #[c], .func (.func f3) #[] #[c]]] w (FinH σ Inv G (thr nx [(0, 0), (0, 1), (2, 2), (1, 3), (0, 4), (1, 5), (0, 6), (2, 7), (2, 8), (2, 9)] s) w) := by
  refine gc_enter (n := 55) Tryz.func77 rfl (by kernel_rfl) (by kernel_rfl) ?_
  refine gc_seq ?_
  refine gc_reg ?_
  refine ta 3 (hq f1 f2 f3 c) 216 (pg) ?_
  intro v1 g2 Xg2 hg2 B
  have O := Oi.start H hI hkd hok Xg2 hg2 B
  clear Xg2 B H hI hkd hok
  refine gl_nil ?_
  refine ge_then ?_
  refine gc_seq ?_
  replace O := O.drew
  refine gc_draw (fun w' => Blk w' g2 (hq f1 f2 f3 c) 216) (fun _ => false) O.X ?_
  refine zlr 0 4 (hq f1 f2 f3 c) (fun _ h => h) 0 ?_
  refine z 1 5 (pg rb) ?_
  refine z 2 6 (pg rb) ?_
  refine z 3 7 (pg rb) ?_
  refine z 4 8 (pg rb) ?_
  refine z 5 9 (pg rb) ?_
  refine z 6 10 (pq rb 1) ?_
  refine za 7 11 [pg rb, pq rb 1] 111 (sg 2) ?_
  intro v3 g4 Xg4 hg4 B
  obtain ⟨O, N⟩ := O.new hg4 B
  refine ⟨O.X, ?_⟩
  refine zc 8 12 116 #[.agg (hq f1 f2 f3 c).toArray, sg 2 g4] (O.numbers [0, 1] N Xg4) ?_
  rintro _ v5 ⟨rfl, O⟩
  clear Xg4 N
  refine ⟨_, rfl, O.X, ?_⟩
  refine gz_done ?_
  refine ge_then ?_
  refine gc_fr [(0, pg rb), (3, pg g2)] (by kernel_rfl) ?_
  refine gc_seq ?_
  replace O := O.drew
  refine gc_draw (fun w' => Blk w' g2 (hq f1 f2 f3 c) 216) (fun _ => false) O.X ?_
  refine zlr 0 13 (hq f1 f2 f3 c) (fun _ h => h) 0 ?_
  refine z 1 14 (pg rb) ?_
  refine z 2 15 (pg rb) ?_
  refine z 3 16 (pq rb 2) ?_
  refine za 4 17 [pq rb 2] 212 (sg 1) ?_
  intro v6 g7 Xg7 hg7 B
  obtain ⟨O, N⟩ := O.new hg7 B
  refine ⟨O.X, ?_⟩
  refine zc 5 18 120 #[.agg (hq f1 f2 f3 c).toArray, sg 1 g7] (O.decimals [2] N Xg7) ?_
  rintro _ v8 ⟨rfl, O⟩
  clear Xg7 N
  refine ⟨_, rfl, O.X, ?_⟩
  refine gz_done ?_
  refine ge_then ?_
  refine gc_seq ?_
  replace O := O.drew
  refine gc_draw (fun w' => Blk w' g2 (hq f1 f2 f3 c) 216) (fun _ => false) O.X ?_
  refine z 0 19 (pq g2 1) ?_
  refine zl 1 20 (.func (.func f2) #[] #[c]) (fun _ h => h) 1 ?_
  refine z 2 21 (pg rb) ?_
  refine z 3 22 (pg rb) ?_
  refine z 4 23 (pq rb 3) ?_
  refine zc 5 24 f2 #[pq rb 3, c] (O.tru 3) ?_ (hrun := run_cvL rfl (by kernel_rfl) (by kernel_rfl) O.H.e2)
  rintro _ v9 ⟨rfl, O⟩
  refine ⟨_, rfl, O.X, ?_⟩
  refine gz_done ?_
  refine ge_then ?_
  refine gc_fr [(0, pg rb), (3, pg g2)] (by kernel_rfl) ?_
  refine gc_seq ?_
  replace O := O.drew
  refine gc_draw (fun w' => Blk w' g2 (hq f1 f2 f3 c) 216) (fun _ => false) O.X ?_
  refine zlr 0 25 (hq f1 f2 f3 c) (fun _ h => h) 0 ?_
  refine z 1 26 (pg rb) ?_
  refine z 2 27 (pg rb) ?_
  refine z 3 28 (pq rb 4) ?_
  refine za 4 29 [pq rb 4] 111 (sg 1) ?_
  intro v10 g11 Xg11 hg11 B
  obtain ⟨O, N⟩ := O.new hg11 B
  refine ⟨O.X, ?_⟩
  refine zc 5 30 116 #[.agg (hq f1 f2 f3 c).toArray, sg 1 g11] (O.numbers [4] N Xg11) ?_
  rintro _ v12 ⟨rfl, O⟩
  clear Xg11 N
  refine ⟨_, rfl, O.X, ?_⟩
  refine gz_done ?_
  refine ge_then ?_
  refine gc_seq ?_
  replace O := O.drew
  refine gc_draw (fun w' => Blk w' g2 (hq f1 f2 f3 c) 216) (fun _ => false) O.X ?_
  refine z 0 31 (pq g2 1) ?_
  refine zl 1 32 (.func (.func f2) #[] #[c]) (fun _ h => h) 1 ?_
  refine z 2 33 (pg rb) ?_
  refine z 3 34 (pg rb) ?_
  refine z 4 35 (pq rb 5) ?_
  refine zc 5 36 f2 #[pq rb 5, c] (O.tru 5) ?_ (hrun := run_cvL rfl (by kernel_rfl) (by kernel_rfl) O.H.e2)
  rintro _ v13 ⟨rfl, O⟩
  refine ⟨_, rfl, O.X, ?_⟩
  refine gz_done ?_
  refine ge_then ?_
  refine gc_fr [(0, pg rb), (3, pg g2)] (by kernel_rfl) ?_
  refine gc_seq ?_
  replace O := O.drew
  refine gc_draw (fun w' => Blk w' g2 (hq f1 f2 f3 c) 216) (fun _ => false) O.X ?_
  refine zlr 0 37 (hq f1 f2 f3 c) (fun _ h => h) 0 ?_
  refine z 1 38 (pg rb) ?_
  refine z 2 39 (pg rb) ?_
  refine z 3 40 (pq rb 6) ?_
  refine za 4 41 [pq rb 6] 111 (sg 1) ?_
  intro v14 g15 Xg15 hg15 B
  obtain ⟨O, N⟩ := O.new hg15 B
  refine ⟨O.X, ?_⟩
  refine zc 5 42 116 #[.agg (hq f1 f2 f3 c).toArray, sg 1 g15] (O.numbers [6] N Xg15) ?_
  rintro _ v16 ⟨rfl, O⟩
  clear Xg15 N
  refine ⟨_, rfl, O.X, ?_⟩
  refine gz_done ?_
  refine ge_then ?_
  replace O := O.drew
  refine gc_draw (fun w' => Blk w' g2 (hq f1 f2 f3 c) 216) (fun _ => false) O.X ?_
  refine zlr 0 43 (hq f1 f2 f3 c) (fun _ h => h) 0 ?_
  refine z 1 44 (pg rb) ?_
  refine z 2 45 (pg rb) ?_
  refine z 3 46 (pq rb 7) ?_
  refine z 4 47 (pg rb) ?_
  refine z 5 48 (pg rb) ?_
  refine z 6 49 (pq rb 8) ?_
  refine z 7 50 (pg rb) ?_
  refine z 8 51 (pg rb) ?_
  refine z 9 52 (pq rb 9) ?_
  refine za 10 53 [pq rb 7, pq rb 8, pq rb 9] 212 (sg 3) ?_
  intro v17 g18 Xg18 hg18 B
  obtain ⟨O, N⟩ := O.new hg18 B
  refine ⟨O.X, ?_⟩
  refine zc 11 54 120 #[.agg (hq f1 f2 f3 c).toArray, sg 3 g18] (O.decimals [7, 8, 9] N Xg18) ?_
  rintro _ v19 ⟨rfl, O⟩
  clear Xg18 N
  refine ⟨_, rfl, O.X, ?_⟩
  refine gz_done ?_
  refine ge_end (.tuple #[]) (rs0 (by kernel_rfl)) ?_
  exact ⟨rfl, O.I, O.C⟩
theorem ofDelegation_any (H : HC σ Inv G rb f1 f2 f3 c nx kd ok) (hI : Inv s w) (hkd : ∀ p ∈ [(2, 0), (0, 1), (2, 2)], kd p.2 = p.1) (hok : ok (thr nx [(2, 0), (0, 1), (2, 2)] s)) : Calls Tryz.prog 341 #[.pointer (some ⟨rb, 0, none⟩), .agg #[.func (.func f1) #[] #[c], .func (.func f2) #[] #[c], .func (.func f3) #[] #[c]]] w (FinH σ Inv G (thr nx [(2, 0), (0, 1), (2, 2)] s) w) := by
  refine gc_enter (n := 22) Tryz.func341 rfl (by kernel_rfl) (by kernel_rfl) ?_
  refine gc_seq ?_
  refine gc_reg ?_
  refine ta 3 (hq f1 f2 f3 c) 216 (pg) ?_
  intro v1 g2 Xg2 hg2 B
  have O := Oi.start H hI hkd hok Xg2 hg2 B
  clear Xg2 B H hI hkd hok
  refine gl_nil ?_
  refine ge_then ?_
  refine gc_seq ?_
  replace O := O.drew
  refine gc_draw (fun w' => Blk w' g2 (hq f1 f2 f3 c) 216) (fun _ => false) O.X ?_
  refine zlr 0 4 (hq f1 f2 f3 c) (fun _ h => h) 0 ?_
  refine z 1 5 (pg rb) ?_
  refine z 2 6 (pg rb) ?_
  refine z 3 7 (pg rb) ?_
  refine za 4 8 [pg rb] 212 (sg 1) ?_
  intro v3 g4 Xg4 hg4 B
  obtain ⟨O, N⟩ := O.new hg4 B
  refine ⟨O.X, ?_⟩
  refine zc 5 9 120 #[.agg (hq f1 f2 f3 c).toArray, sg 1 g4] (O.decimals [0] N Xg4) ?_
  rintro _ v5 ⟨rfl, O⟩
  clear Xg4 N
  refine ⟨_, rfl, O.X, ?_⟩
  refine gz_done ?_
  refine ge_then ?_
  refine gc_seq ?_
  replace O := O.drew
  refine gc_draw (fun w' => Blk w' g2 (hq f1 f2 f3 c) 216) (fun _ => false) O.X ?_
  refine zlr 0 10 (hq f1 f2 f3 c) (fun _ h => h) 0 ?_
  refine z 1 11 (pg rb) ?_
  refine z 2 12 (pg rb) ?_
  refine z 3 13 (pq rb 1) ?_
  refine za 4 14 [pq rb 1] 111 (sg 1) ?_
  intro v6 g7 Xg7 hg7 B
  obtain ⟨O, N⟩ := O.new hg7 B
  refine ⟨O.X, ?_⟩
  refine zc 5 15 116 #[.agg (hq f1 f2 f3 c).toArray, sg 1 g7] (O.numbers [1] N Xg7) ?_
  rintro _ v8 ⟨rfl, O⟩
  clear Xg7 N
  refine ⟨_, rfl, O.X, ?_⟩
  refine gz_done ?_
  refine ge_then ?_
  refine gc_fr [(0, pg rb), (3, pg g2)] (by kernel_rfl) ?_
  replace O := O.drew
  refine gc_draw (fun w' => Blk w' g2 (hq f1 f2 f3 c) 216) (fun _ => false) O.X ?_
  refine zlr 0 16 (hq f1 f2 f3 c) (fun _ h => h) 0 ?_
  refine z 1 17 (pg rb) ?_
  refine z 2 18 (pg rb) ?_
  refine z 3 19 (pq rb 2) ?_
  refine za 4 20 [pq rb 2] 212 (sg 1) ?_
  intro v9 g10 Xg10 hg10 B
  obtain ⟨O, N⟩ := O.new hg10 B
  refine ⟨O.X, ?_⟩
  refine zc 5 21 120 #[.agg (hq f1 f2 f3 c).toArray, sg 1 g10] (O.decimals [2] N Xg10) ?_
  rintro _ v11 ⟨rfl, O⟩
  clear Xg10 N
  refine ⟨_, rfl, O.X, ?_⟩
  refine gz_done ?_
  refine ge_end (.tuple #[]) (rs0 (by kernel_rfl)) ?_
  exact ⟨rfl, O.I, O.C⟩
theorem ofHistory_any (H : HC σ Inv G rb f1 f2 f3 c nx kd ok) (hI : Inv s w) (hkd : ∀ p ∈ [(2, 0), (0, 1)], kd p.2 = p.1) (hok : ok (thr nx [(2, 0), (0, 1)] s)) : Calls Tryz.prog 263 #[.pointer (some ⟨rb, 0, none⟩), .agg #[.func (.func f1) #[] #[c], .func (.func f2) #[] #[c], .func (.func f3) #[] #[c]]] w (FinH σ Inv G (thr nx [(2, 0), (0, 1)] s) w) := by
  refine gc_enter (n := 16) Tryz.func263 rfl (by kernel_rfl) (by kernel_rfl) ?_
  refine gc_seq ?_
  refine gc_reg ?_
  refine ta 3 (hq f1 f2 f3 c) 216 (pg) ?_
  intro v1 g2 Xg2 hg2 B
  have O := Oi.start H hI hkd hok Xg2 hg2 B
  clear Xg2 B H hI hkd hok
  refine gl_nil ?_
  refine ge_then ?_
  refine gc_seq ?_
  replace O := O.drew
  refine gc_draw (fun w' => Blk w' g2 (hq f1 f2 f3 c) 216) (fun _ => false) O.X ?_
  refine zlr 0 4 (hq f1 f2 f3 c) (fun _ h => h) 0 ?_
  refine z 1 5 (pg rb) ?_
  refine z 2 6 (pg rb) ?_
  refine z 3 7 (pg rb) ?_
  refine za 4 8 [pg rb] 212 (sg 1) ?_
  intro v3 g4 Xg4 hg4 B
  obtain ⟨O, N⟩ := O.new hg4 B
  refine ⟨O.X, ?_⟩
  refine zc 5 9 120 #[.agg (hq f1 f2 f3 c).toArray, sg 1 g4] (O.decimals [0] N Xg4) ?_
  rintro _ v5 ⟨rfl, O⟩
  clear Xg4 N
  refine ⟨_, rfl, O.X, ?_⟩
  refine gz_done ?_
  refine ge_then ?_
  replace O := O.drew
  refine gc_draw (fun w' => Blk w' g2 (hq f1 f2 f3 c) 216) (fun _ => false) O.X ?_
  refine zlr 0 10 (hq f1 f2 f3 c) (fun _ h => h) 0 ?_
  refine z 1 11 (pg rb) ?_
  refine z 2 12 (pg rb) ?_
  refine z 3 13 (pq rb 1) ?_
  refine za 4 14 [pq rb 1] 111 (sg 1) ?_
  intro v6 g7 Xg7 hg7 B
  obtain ⟨O, N⟩ := O.new hg7 B
  refine ⟨O.X, ?_⟩
  refine zc 5 15 116 #[.agg (hq f1 f2 f3 c).toArray, sg 1 g7] (O.numbers [1] N Xg7) ?_
  rintro _ v8 ⟨rfl, O⟩
  clear Xg7 N
  refine ⟨_, rfl, O.X, ?_⟩
  refine gz_done ?_
  refine ge_end (.tuple #[]) (rs0 (by kernel_rfl)) ?_
  exact ⟨rfl, O.I, O.C⟩
end
end Rc
end Go.Proofs.YtpoifdokmjhclaaGreat

namespace Go.Proofs.YtpoifdokmjhclaaGreat
namespace Rc
open Go.RowKit Go.Lib Pg
attribute [local go_sem] Oper.semAt_some
/-- a number as a record holds it -/
def fit (V : Int) : Int := if (natB V).length < 256 then V else 0
theorem fit_len (V : Int) : (natB (fit V)).length < 256 := by
  unfold fit
  split
  · assumption
  · rw [natB_0]; decide
/-- a field's bytes -/
def enc1 : Nat → Int → List Int
  | 0, x => be 8 x
  | 1, x => be 1 x
  | _, x => cntd 1 (natB (fit x))
theorem But.chg {g : Nat} {w w' : World} (h : But g w w') : Chg (· = g) w w' := ⟨h.os, h.tape, h.output, h.size, fun b hb hne => h.block b hb hne⟩
set_option maxHeartbeats 2000000 in
set_option maxRecDepth 100000 in
theorem fitting_any {w : World} {ao : Option Addr} {n c : Nat} {V : Int} (h : NatA w ao n c V) (hn : n ≤ 1000000) :
    Calls Tryz.prog 167 #[.agg #[.slice ao n c]] w fun e w' => ∃ a1 n1 c1, e = .returned (.agg #[.slice a1 n1 c1]) ∧ NatA w' a1 n1 c1 (fit V) ∧ n1 ≤ 1000000 ∧ Below w.heap.size w w' := by
  have b1 := below_alloc w (.cells #[.slice ao n c] 55)
  have b2 := below_alloc (w.alloc (.cells #[.slice ao n c] 55)) (.cells #[.slice none 0 0] 55)
  have b3 := below_alloc ((w.alloc (.cells #[.slice ao n c] 55)).alloc (.cells #[.slice none 0 0] 55)) (.cells Tryz.zeroCells80 80)
  have s1 := size_al w (.cells #[.slice ao n c] 55)
  have s2 := size_al (w.alloc (.cells #[.slice ao n c] 55)) (.cells #[.slice none 0 0] 55)
  have x1 := ((blk_new w [.slice ao n c] 55).keep b2).keep b3
  have x2 := (blk_new (w.alloc (.cells #[.slice ao n c] 55)) [.slice none 0 0] 55).keep b3
  have X := wrNew ((w.alloc (.cells #[.slice ao n c] 55)).alloc (.cells #[.slice none 0 0] 55))
  rw [s2, s1] at X
  rw [s1] at x2
  obtain ⟨W3, hW3⟩ : ∃ W3, Hid ((((w.alloc (.cells #[.slice ao n c] 55)).alloc (.cells #[.slice none 0 0] 55)).alloc (.cells Tryz.zeroCells80 80)) = W3) := ⟨_, rfl⟩
  have BZ := joinB (joinB b1 b2) b3
  rw [hW3.out] at BZ x1 x2 X
  have HB3 := hid3 BZ
  have HX1 := hid3 x1
  have HX2 := hid3 x2
  have HX := hid3 X
  have HN := hid3 (h.keep BZ)
  have HNw := hid3 h
  have HG1 := hid3 (show ¬ (w.heap.size = w.heap.size + 1 + 1) by omega)
  have HG2 := hid3 (show ¬ (w.heap.size + 1 = w.heap.size + 1 + 1) by omega)
  clear b1 b2 s1 s2 x1 x2 b3 X h BZ
  by_cases hf : (natB V).length < 256
  · have HE := hid3 (show natE V 0 = 0 by unfold natE; rw [if_pos hf])
    have HF := hid3 (show fit V = V by unfold fit; rw [if_pos hf])
    have HL := hid3 (show (natL V 0 []).length ≤ 17592186044416 by
      unfold natL wrote
      rw [if_pos hf, if_pos rfl]
      simp [cntd, be_length]
      omega)
    clear hf
    go_enter Tryz.func167, Tryz.ntmps167
    go_wp2_with fail
    rw [hW3.out]
    refine (wrDec HX.out HN.out (by omega) (by simp; omega)).mono ?_
    rintro e' w4 ⟨rfl, X4, B4⟩
    rw [HE.out] at X4
    go_wp2_with fail
    refine (wrOut X4 HL.out).mono ?_
    rintro e' w5 ⟨rfl, -, B5⟩
    have k1 := HX1.out.chg (But.chg B4) HG1.out
    have k2 := HX2.out.chg (But.chg B4) HG2.out
    have d1 := (k1.keep B5).cell (i := 0) rfl
    have d2 := (k2.keep B5).cell (i := 0) rfl
    have f2 := (k2.keep B5).free 0
    have BB := hid3 ((B4.below HB3.out (by omega) (Nat.le_refl _)).trans (B5.mono (by have := HB3.out.size; have := B4.size; omega)))
    have S9 := hid3 (show Slot _ _ _ _ from ⟨((k2.keep B5).setCell (i := 0) (.slice ao n c)).blk⟩)
    clear k1 k2 X4 B4 B5
    go_wp2
    refine bodyPost_ret (ret_dec rfl rfl S9.out) rfl ?_
    refine ⟨ao, n, c, rfl, ?_, hn, ?_⟩
    · rw [HF.out]
      exact HNw.out.keep (BB.out.setCell (Nat.le_succ _) _)
    · exact BB.out.setCell (Nat.le_succ _) _
  · have HE := hid3 (show natE V 0 = 42 by unfold natE; rw [if_neg hf]; rfl)
    have HF := hid3 (show fit V = 0 by unfold fit; rw [if_neg hf])
    clear hf
    go_enter Tryz.func167, Tryz.ntmps167
    go_wp2_with fail
    rw [hW3.out]
    refine (wrDec HX.out HN.out (by omega) (by simp; omega)).mono ?_
    rintro e' w4 ⟨rfl, X4, B4⟩
    rw [HE.out] at X4
    go_wp2_with fail
    refine (wrOutE X4 (by decide)).mono ?_
    rintro e' w5 ⟨rfl, B5⟩
    have k1 := HX1.out.chg (But.chg B4) HG1.out
    have k2 := HX2.out.chg (But.chg B4) HG2.out
    have d1 := (k1.keep B5).cell (i := 0) rfl
    have d2 := (k2.keep B5).cell (i := 0) rfl
    have f2 := (k2.keep B5).free 0
    have BB := hid3 ((B4.below HB3.out (by omega) (Nat.le_refl _)).trans (B5.mono (by have := HB3.out.size; have := B4.size; omega)))
    have S9 := hid3 (show Slot _ _ _ _ from ⟨((k2.keep B5).setCell (i := 0) (.slice none 0 0)).blk⟩)
    clear k1 k2 X4 B4 B5
    go_wp2
    refine bodyPost_ret (ret_dec rfl rfl S9.out) rfl ?_
    refine ⟨none, 0, 0, rfl, ?_, by decide, ?_⟩
    · rw [HF.out]
      exact (natO_nil _).a
    · exact BB.out.setCell (Nat.le_succ _) _
end Rc
end Go.Proofs.YtpoifdokmjhclaaGreat

namespace Go.Proofs.YtpoifdokmjhclaaGreat
namespace Rc
open Go.RowKit Go.Lib Pg Gl
attribute [local go_sem] Oper.semAt_some
set_option maxRecDepth 100000
theorem enc1_len (k : Nat) (x : Int) : (enc1 k x).length ≤ 300 := by
  unfold enc1
  split
  · rw [be_length]; decide
  · rw [be_length]; decide
  · have := fit_len x
    simp only [cntd, List.length_append, be_length]
    omega
/-- a field laid behind what there is -/
def pnx (xs : Nat → Int) (k o : Nat) (L : List Int) : List Int := L ++ enc1 k (xs o)
theorem pnx_len (xs : Nat → Int) (l : List (Nat × Nat)) : ∀ L : List Int, (thr (pnx xs) l L).length ≤ L.length + 300 * l.length := by
  induction l with
  | nil => intro L; simp [thr]
  | cons p l ih =>
    intro L
    have h := ih (pnx xs p.1 p.2 L)
    have h2 := enc1_len p.1 (xs p.2)
    have e : thr (pnx xs) (p :: l) L = thr (pnx xs) l (pnx xs p.1 p.2 L) := rfl
    rw [e]
    simp only [pnx, List.length_append] at h
    simp only [List.length_cons]
    simp only [pnx]
    omega
def okL (L : List Int) : Prop := L.length ≤ 1000000000000
structure PI (w0 : World) (bw rb : Nat) (cs : List Value) (T : TypeId) (L : List Int) (w : World) : Prop where
  wr : WrA w bw 0 L
  bel : Below w0.heap.size w0 w
  blk : Blk w rb cs T
  hb : w0.heap.size ≤ bw
  ne : rb ≠ bw
/-- a record's cells and what they are worth -/
def FldP (w0 : World) (kd : Nat → Nat) (cs : List Value) (xs : Nat → Int) : Prop := ∀ o, (kd o = 0 → cs[o]? = some (.int .u64 (xs o))) ∧ (kd o = 1 → ∃ b : Bool, cs[o]? = some (.bool b) ∧ xs o = if b then 1 else 0) ∧ (kd o = 2 → ∃ ao n c, cs[o]? = some (.slice ao n c) ∧ NatA w0 ao n c (xs o) ∧ n ≤ 1000000)
theorem PI.step {w0 w w' : World} {bw rb : Nat} {cs : List Value} {T : TypeId} {L L' : List Int} (h : PI w0 bw rb cs T L w) (X : WrA w' bw 0 L') (B : But bw w w') : PI w0 bw rb cs T L' w' :=
  ⟨X, B.below h.bel h.hb (Nat.le_refl _), h.blk.chg (But.chg B) (fun e => h.ne e), h.hb, h.ne⟩
def kd_Params (o : Nat) : Nat := ([0, 0, 0, 0, 0, 0, 0, 0, 0, 0] : List Nat).getD o 9
def kd_Chain (o : Nat) : Nat := ([0, 0] : List Nat).getD o 9
def kd_Pool (o : Nat) : Nat := ([2] : List Nat).getD o 9
def kd_Account (o : Nat) : Nat := ([0, 0] : List Nat).getD o 9
def kd_Val (o : Nat) : Nat := ([0, 0, 2, 1, 0, 1, 0, 2, 2, 2] : List Nat).getD o 9
def kd_Delegation (o : Nat) : Nat := ([2, 0, 2] : List Nat).getD o 9
def kd_History (o : Nat) : Nat := ([2, 0] : List Nat).getD o 9
/-- a function that is like another -/
structure Lk (f : FuncId) (g : Func) : Prop where
  ex : ∃ fn, Tryz.prog.funcs[f]? = some fn ∧ fn.body = g.body ∧ fn.ntmps = g.ntmps ∧ fn.results = g.results
  en : ∀ args w, (callFunc f args).run Tryz.prog w = .ok (.enter f args) w
theorem drop_one {cs : List Value} {o : Nat} {v : Value} (h : cs[o]? = some v) : (cs.drop o).take [v].length = [v] := by
  rw [List.getElem?_eq_some_iff] at h
  obtain ⟨h1, rfl⟩ := h
  rw [List.drop_eq_getElem_cons h1]
  rfl
section
variable {w w0 : World} {f f1 f2 f3 : FuncId} {bw rb o : Nat} {L : List Int} {cs : List Value} {T : TypeId}
theorem pn_any (K : Lk f Tryz.f162) {x : Int} (R : Blk w rb cs T) (c : cs[o]? = some (.int .u64 x)) (X : WrA w bw 0 L) (hL : L.length ≤ 1000000000000) : Calls Tryz.prog f #[pq rb o, pg bw] w fun e w' => e = .returned (.tuple #[]) ∧ WrA w' bw 0 (L ++ enc1 0 x) ∧ But bw w w' := by
  obtain ⟨⟨fn, hf, hb, hn, hr⟩, -⟩ := K
  refine gc_enter (n := 7) hf (hb.trans rfl) hn (by kernel_rfl) ?_
  refine gc_reg ?_
  refine t 3 (pq rb o) ?_
  refine t 4 (pq rb o) ?_
  refine tl 5 (.int .u64 x) R o ?_ (hv := c)
  refine tc 6 53 #[pg bw, .int .u64 x] (wrU64 X (by omega)) ?_
  rintro _ v ⟨rfl, X, B⟩
  refine ⟨_, rfl, ?_⟩
  refine gl_nil ?_
  refine ge_end (.tuple #[]) (rs0 hr) ?_
  exact ⟨rfl, X, B⟩
theorem pt_any (K : Lk f Tryz.f163) {x : Bool} {y : Int} (hy : (if x then (1 : Int) else 0) = y) (R : Blk w rb cs T) (c : cs[o]? = some (.bool x)) (X : WrA w bw 0 L) (hL : L.length ≤ 1000000000000) : Calls Tryz.prog f #[pq rb o, pg bw] w fun e w' => e = .returned (.tuple #[]) ∧ WrA w' bw 0 (L ++ enc1 1 y) ∧ But bw w w' := by
  subst hy
  obtain ⟨⟨fn, hf, hb, hn, hr⟩, -⟩ := K
  refine gc_enter (n := 7) hf (hb.trans rfl) hn (by kernel_rfl) ?_
  refine gc_reg ?_
  refine t 3 (pq rb o) ?_
  refine t 4 (pq rb o) ?_
  refine tl 5 (.bool x) R o ?_ (hv := c)
  refine tc 6 164 #[pg bw, .bool x] (wrBool X (by omega)) ?_
  rintro _ v ⟨rfl, X, B⟩
  refine ⟨_, rfl, ?_⟩
  refine gl_nil ?_
  refine ge_end (.tuple #[]) (rs0 hr) ?_
  exact ⟨rfl, X, B⟩
theorem pd_any (K : Lk f Tryz.f165) {ao : Option Addr} {n c : Nat} {V : Int} (R : Blk w rb cs T) (cc : cs[o]? = some (.slice ao n c)) (hV : NatA w ao n c V) (hn' : n ≤ 1000000) (X : WrA w bw 0 L) (hL : L.length ≤ 1000000000000) : Calls Tryz.prog f #[pq rb o, pg bw] w fun e w' => e = .returned (.tuple #[]) ∧ WrA w' bw 0 (L ++ enc1 2 V) ∧ But bw w w' := by
  obtain ⟨⟨fn, hf, hb, hn, hr⟩, -⟩ := K
  refine gc_enter (n := 8) hf (hb.trans rfl) hn (by kernel_rfl) ?_
  refine gc_reg ?_
  refine t 3 (pq rb o) ?_
  refine t 4 (pq rb o) ?_
  refine tlr 5 [.slice ao n c] R o ?_ (hr := drop_one cc)
  refine tc 6 167 #[.agg #[.slice ao n c]] (fitting_any hV hn') ?_
  rintro _ v ⟨a1, n1, c1, rfl, N1, hn1, B1⟩
  refine ⟨_, rfl, ?_⟩
  refine tc 7 166 #[pg bw, .agg #[.slice a1 n1 c1]] (wrDec (X.keep B1) N1 (by omega) (by omega)) ?_
  rintro _ v2 ⟨rfl, X2, B2⟩
  refine ⟨_, rfl, ?_⟩
  have hE : natE (fit V) 0 = 0 := by unfold natE; rw [if_pos (fit_len V)]
  have hL2 : natL (fit V) 0 L = L ++ enc1 2 V := by unfold natL wrote; rw [if_pos (fit_len V), if_pos rfl]; rfl
  rw [hE, hL2] at X2
  refine gl_nil ?_
  refine ge_end (.tuple #[]) (rs0 hr) ?_
  exact ⟨rfl, X2, (But.of B1).trans B2⟩
theorem hc_any (L1 : Lk f1 Tryz.f162) (L2 : Lk f2 Tryz.f163) (L3 : Lk f3 Tryz.f165) {kd : Nat → Nat} {xs : Nat → Int} (F : FldP w0 kd cs xs) : HC (List Int) (PI w0 bw rb cs T) (· = bw) rb f1 f2 f3 (.pointer (some ⟨bw, 0, none⟩)) (pnx xs) kd okL where
  oks := fun k o L h => by
    unfold okL pnx at *
    rw [List.length_append] at h
    omega
  keep := fun L w w' h B => ⟨h.wr.keep B, h.bel.trans (B.mono h.bel.size), h.blk.keep B, h.hb, h.ne⟩
  old := fun L w b h e => by have e' : b = bw := e; subst e'; exact h.wr.lt
  e1 := L1.en
  e2 := L2.en
  e3 := L3.en
  u := fun L w o h hok hk => by
    have hl : L.length ≤ 1000000000000 := by unfold okL pnx at hok; rw [List.length_append] at hok; omega
    refine (pn_any L1 h.blk ((F o).1 hk) h.wr hl).mono ?_
    rintro e w' ⟨rfl, X, B⟩
    exact ⟨rfl, h.step X B, But.chg B⟩
  t := fun L w o h hok hk => by
    have hl : L.length ≤ 1000000000000 := by unfold okL pnx at hok; rw [List.length_append] at hok; omega
    obtain ⟨b, hb, hx⟩ := (F o).2.1 hk
    refine (pt_any L2 hx.symm h.blk hb h.wr hl).mono ?_
    rintro e w' ⟨rfl, X, B⟩
    exact ⟨rfl, h.step X B, But.chg B⟩
  d := fun L w o h hok hk => by
    have hl : L.length ≤ 1000000000000 := by unfold okL pnx at hok; rw [List.length_append] at hok; omega
    obtain ⟨ao, n, c, hb, hV, hn⟩ := (F o).2.2 hk
    refine (pd_any L3 h.blk hb (hV.keep h.bel) hn h.wr hl).mono ?_
    rintro e w' ⟨rfl, X, B⟩
    exact ⟨rfl, h.step X B, But.chg B⟩
end
end Rc
end Go.Proofs.YtpoifdokmjhclaaGreat

namespace Go.Proofs.YtpoifdokmjhclaaGreat
namespace Rc
open Go.RowKit Go.Lib Pg Gl
attribute [local go_sem] Oper.semAt_some
set_option maxRecDepth 100000
theorem fl_Params {w : World} {x0 : Int} {x1 : Int} {x2 : Int} {x3 : Int} {x4 : Int} {x5 : Int} {x6 : Int} {x7 : Int} {x8 : Int} {x9 : Int} : FldP w kd_Params [.int .u64 x0, .int .u64 x1, .int .u64 x2, .int .u64 x3, .int .u64 x4, .int .u64 x5, .int .u64 x6, .int .u64 x7, .int .u64 x8, .int .u64 x9] (fun o => ([x0, x1, x2, x3, x4, x5, x6, x7, x8, x9] : List Int).getD o 0) := fun o => match o with
    | 0 => ⟨fun _ => rfl, fun h => absurd h (by decide), fun h => absurd h (by decide)⟩
    | 1 => ⟨fun _ => rfl, fun h => absurd h (by decide), fun h => absurd h (by decide)⟩
    | 2 => ⟨fun _ => rfl, fun h => absurd h (by decide), fun h => absurd h (by decide)⟩
    | 3 => ⟨fun _ => rfl, fun h => absurd h (by decide), fun h => absurd h (by decide)⟩
    | 4 => ⟨fun _ => rfl, fun h => absurd h (by decide), fun h => absurd h (by decide)⟩
    | 5 => ⟨fun _ => rfl, fun h => absurd h (by decide), fun h => absurd h (by decide)⟩
    | 6 => ⟨fun _ => rfl, fun h => absurd h (by decide), fun h => absurd h (by decide)⟩
    | 7 => ⟨fun _ => rfl, fun h => absurd h (by decide), fun h => absurd h (by decide)⟩
    | 8 => ⟨fun _ => rfl, fun h => absurd h (by decide), fun h => absurd h (by decide)⟩
    | 9 => ⟨fun _ => rfl, fun h => absurd h (by decide), fun h => absurd h (by decide)⟩
    | k + 10 => ⟨fun h => absurd h (by simp [kd_Params]), fun h => absurd h (by simp [kd_Params]), fun h => absurd h (by simp [kd_Params])⟩
theorem fl_Chain {w : World} {x0 : Int} {x1 : Int} : FldP w kd_Chain [.int .u64 x0, .int .u64 x1] (fun o => ([x0, x1] : List Int).getD o 0) := fun o => match o with
    | 0 => ⟨fun _ => rfl, fun h => absurd h (by decide), fun h => absurd h (by decide)⟩
    | 1 => ⟨fun _ => rfl, fun h => absurd h (by decide), fun h => absurd h (by decide)⟩
    | k + 2 => ⟨fun h => absurd h (by simp [kd_Chain]), fun h => absurd h (by simp [kd_Chain]), fun h => absurd h (by simp [kd_Chain])⟩
theorem fl_Pool {w : World} {a0 : Option Addr} {n0 c0 : Nat} {x0 : Int} (h0 : NatA w a0 n0 c0 x0) (m0 : n0 ≤ 1000000) : FldP w kd_Pool [.slice a0 n0 c0] (fun o => ([x0] : List Int).getD o 0) := fun o => match o with
    | 0 => ⟨fun h => absurd h (by decide), fun h => absurd h (by decide), fun _ => ⟨a0, n0, c0, rfl, h0, m0⟩⟩
    | k + 1 => ⟨fun h => absurd h (by simp [kd_Pool]), fun h => absurd h (by simp [kd_Pool]), fun h => absurd h (by simp [kd_Pool])⟩
theorem fl_Account {w : World} {x0 : Int} {x1 : Int} : FldP w kd_Account [.int .u64 x0, .int .u64 x1] (fun o => ([x0, x1] : List Int).getD o 0) := fun o => match o with
    | 0 => ⟨fun _ => rfl, fun h => absurd h (by decide), fun h => absurd h (by decide)⟩
    | 1 => ⟨fun _ => rfl, fun h => absurd h (by decide), fun h => absurd h (by decide)⟩
    | k + 2 => ⟨fun h => absurd h (by simp [kd_Account]), fun h => absurd h (by simp [kd_Account]), fun h => absurd h (by simp [kd_Account])⟩
theorem fl_Val {w : World} {x0 : Int} {x1 : Int} {a2 : Option Addr} {n2 c2 : Nat} {x2 : Int} {b3 : Bool} {x4 : Int} {b5 : Bool} {x6 : Int} {a7 : Option Addr} {n7 c7 : Nat} {x7 : Int} {a8 : Option Addr} {n8 c8 : Nat} {x8 : Int} {a9 : Option Addr} {n9 c9 : Nat} {x9 : Int} (h2 : NatA w a2 n2 c2 x2) (m2 : n2 ≤ 1000000) (h7 : NatA w a7 n7 c7 x7) (m7 : n7 ≤ 1000000) (h8 : NatA w a8 n8 c8 x8) (m8 : n8 ≤ 1000000) (h9 : NatA w a9 n9 c9 x9) (m9 : n9 ≤ 1000000) : FldP w kd_Val [.int .u64 x0, .int .u64 x1, .slice a2 n2 c2, .bool b3, .int .u64 x4, .bool b5, .int .u64 x6, .slice a7 n7 c7, .slice a8 n8 c8, .slice a9 n9 c9] (fun o => ([x0, x1, x2, (if b3 then 1 else 0), x4, (if b5 then 1 else 0), x6, x7, x8, x9] : List Int).getD o 0) := fun o => match o with
    | 0 => ⟨fun _ => rfl, fun h => absurd h (by decide), fun h => absurd h (by decide)⟩
    | 1 => ⟨fun _ => rfl, fun h => absurd h (by decide), fun h => absurd h (by decide)⟩
    | 2 => ⟨fun h => absurd h (by decide), fun h => absurd h (by decide), fun _ => ⟨a2, n2, c2, rfl, h2, m2⟩⟩
    | 3 => ⟨fun h => absurd h (by decide), fun _ => ⟨b3, rfl, rfl⟩, fun h => absurd h (by decide)⟩
    | 4 => ⟨fun _ => rfl, fun h => absurd h (by decide), fun h => absurd h (by decide)⟩
    | 5 => ⟨fun h => absurd h (by decide), fun _ => ⟨b5, rfl, rfl⟩, fun h => absurd h (by decide)⟩
    | 6 => ⟨fun _ => rfl, fun h => absurd h (by decide), fun h => absurd h (by decide)⟩
    | 7 => ⟨fun h => absurd h (by decide), fun h => absurd h (by decide), fun _ => ⟨a7, n7, c7, rfl, h7, m7⟩⟩
    | 8 => ⟨fun h => absurd h (by decide), fun h => absurd h (by decide), fun _ => ⟨a8, n8, c8, rfl, h8, m8⟩⟩
    | 9 => ⟨fun h => absurd h (by decide), fun h => absurd h (by decide), fun _ => ⟨a9, n9, c9, rfl, h9, m9⟩⟩
    | k + 10 => ⟨fun h => absurd h (by simp [kd_Val]), fun h => absurd h (by simp [kd_Val]), fun h => absurd h (by simp [kd_Val])⟩
theorem fl_Delegation {w : World} {a0 : Option Addr} {n0 c0 : Nat} {x0 : Int} {x1 : Int} {a2 : Option Addr} {n2 c2 : Nat} {x2 : Int} (h0 : NatA w a0 n0 c0 x0) (m0 : n0 ≤ 1000000) (h2 : NatA w a2 n2 c2 x2) (m2 : n2 ≤ 1000000) : FldP w kd_Delegation [.slice a0 n0 c0, .int .u64 x1, .slice a2 n2 c2] (fun o => ([x0, x1, x2] : List Int).getD o 0) := fun o => match o with
    | 0 => ⟨fun h => absurd h (by decide), fun h => absurd h (by decide), fun _ => ⟨a0, n0, c0, rfl, h0, m0⟩⟩
    | 1 => ⟨fun _ => rfl, fun h => absurd h (by decide), fun h => absurd h (by decide)⟩
    | 2 => ⟨fun h => absurd h (by decide), fun h => absurd h (by decide), fun _ => ⟨a2, n2, c2, rfl, h2, m2⟩⟩
    | k + 3 => ⟨fun h => absurd h (by simp [kd_Delegation]), fun h => absurd h (by simp [kd_Delegation]), fun h => absurd h (by simp [kd_Delegation])⟩
theorem fl_History {w : World} {a0 : Option Addr} {n0 c0 : Nat} {x0 : Int} {x1 : Int} (h0 : NatA w a0 n0 c0 x0) (m0 : n0 ≤ 1000000) : FldP w kd_History [.slice a0 n0 c0, .int .u64 x1] (fun o => ([x0, x1] : List Int).getD o 0) := fun o => match o with
    | 0 => ⟨fun h => absurd h (by decide), fun h => absurd h (by decide), fun _ => ⟨a0, n0, c0, rfl, h0, m0⟩⟩
    | 1 => ⟨fun _ => rfl, fun h => absurd h (by decide), fun h => absurd h (by decide)⟩
    | k + 2 => ⟨fun h => absurd h (by simp [kd_History]), fun h => absurd h (by simp [kd_History]), fun h => absurd h (by simp [kd_History])⟩
theorem ta_wr {n : Nat} {ds : List Deferred} {ops : Array Oper} {rest : List Oper} {o : Oper} {l : Fr} {w : World} {Q : Exit → Act → World → Prop} (d : Nat) (h : ∀ w1 g, WrA w1 g 0 [] → w.heap.size ≤ g → Below w.heap.size w w1 → GL Tryz.prog n ds ops Q rest ((d, pg g) :: l) w1) (hg : gd ops l o = some true := by kernel_rfl) (hc : chk n l o (some d) = true := by kernel_rfl) (hrun : (execOp (evL l) o).run Tryz.prog w = .ok (.value (pg w.heap.size)) (w.alloc (.cells Tryz.zeroCells80 80)) := by kernel_rfl) : GL Tryz.prog n ds ops Q (o :: rest) l w := gl_val (some d) _ hg hc hrun (h _ _ (wrNew w) (Nat.le_refl _) (below_alloc w _))
theorem put_Params {w : World} {x0 : Int} {x1 : Int} {x2 : Int} {x3 : Int} {x4 : Int} {x5 : Int} {x6 : Int} {x7 : Int} {x8 : Int} {x9 : Int} :
    Calls Tryz.prog 127 #[.agg #[.int .u64 x0, .int .u64 x1, .int .u64 x2, .int .u64 x3, .int .u64 x4, .int .u64 x5, .int .u64 x6, .int .u64 x7, .int .u64 x8, .int .u64 x9], .func (.func 128) #[] #[]] w fun e w' => ∃ b n, e = .returned (.slice (some ⟨b, 0, none⟩) n n) ∧ n = (thr (pnx (fun o => ([x0, x1, x2, x3, x4, x5, x6, x7, x8, x9] : List Int).getD o 0)) [(0, 0), (0, 1), (0, 2), (0, 3), (0, 4), (0, 5), (0, 6), (0, 7), (0, 8), (0, 9)] []).length ∧ Box w' b ((thr (pnx (fun o => ([x0, x1, x2, x3, x4, x5, x6, x7, x8, x9] : List Int).getD o 0)) [(0, 0), (0, 1), (0, 2), (0, 3), (0, 4), (0, 5), (0, 6), (0, 7), (0, 8), (0, 9)] []).map (Value.int .u8)) 5 ∧ w.heap.size ≤ b ∧ Below w.heap.size w w' := by
  refine gc_enter (n := 19) Tryz.func127 rfl (by kernel_rfl) (by kernel_rfl) ?_
  refine gc_seq ?_
  refine gc_reg ?_
  refine ta 2 [.int .u64 x0, .int .u64 x1, .int .u64 x2, .int .u64 x3, .int .u64 x4, .int .u64 x5, .int .u64 x6, .int .u64 x7, .int .u64 x8, .int .u64 x9] 24 (pg) ?_
  intro v1 g1 X1 q1 B1
  refine t 4 (.slice none 0 0) ?_
  refine gl_nil ?_
  refine ge_then ?_
  refine gc_seq ?_
  refine gc_reg ?_
  refine ta_wr 5 ?_
  intro v2 g2 X2 q2 B2
  refine gl_nil ?_
  refine ge_then ?_
  refine gc_seq ?_
  refine gc_reg ?_
  refine t 8 (.func (.func 128) #[] #[]) ?_
  refine t 9 (.func (.func 162) #[] #[pg g2]) ?_
  refine t 10 (.func (.func 163) #[] #[pg g2]) ?_
  refine t 11 (.func (.func 165) #[] #[pg g2]) ?_
  refine t 12 (.agg (hq 162 163 165 (pg g2)).toArray) ?_
  have l1 := X1.lt
  have hlen := pnx_len (fun o => ([x0, x1, x2, x3, x4, x5, x6, x7, x8, x9] : List Int).getD o 0) [(0, 0), (0, 1), (0, 2), (0, 3), (0, 4), (0, 5), (0, 6), (0, 7), (0, 8), (0, 9)] []
  refine tc 13 128 #[pg g1, .agg (hq 162 163 165 (pg g2)).toArray] (ofParams_any (hc_any ⟨⟨_, Tryz.func162, rfl, rfl, rfl⟩, fun _ _ => by kernel_rfl⟩ ⟨⟨_, Tryz.func163, rfl, rfl, rfl⟩, fun _ _ => by kernel_rfl⟩ ⟨⟨_, Tryz.func165, rfl, rfl, rfl⟩, fun _ _ => by kernel_rfl⟩ (fl_Params (x0 := x0) (x1 := x1) (x2 := x2) (x3 := x3) (x4 := x4) (x5 := x5) (x6 := x6) (x7 := x7) (x8 := x8) (x9 := x9) (w := w))) (s := []) ⟨X2, joinB B1 B2, X1.keep B2, Nat.le_trans B1.size q2, by omega⟩ (by decide) (Nat.le_trans hlen (by decide))) ?_
  rintro _ v3 ⟨rfl, I, C⟩
  generalize thr (pnx (fun o => ([x0, x1, x2, x3, x4, x5, x6, x7, x8, x9] : List Int).getD o 0)) [(0, 0), (0, 1), (0, 2), (0, 3), (0, 4), (0, 5), (0, 6), (0, 7), (0, 8), (0, 9)] [] = M at *
  refine ⟨_, rfl, ?_⟩
  refine gl_nil ?_
  refine ge_then ?_
  refine gc_seq ?_
  refine gc_reg ?_
  refine tc 15 34 #[pg g2] (wrOut I.wr (Nat.le_trans hlen (by decide))) ?_
  rintro _ v4 ⟨rfl, X4, B4⟩
  refine ⟨_, rfl, ?_⟩
  refine t 14 (.tuple #[sg M.length v3.heap.size, .int .i64 0]) ?_
  refine t 16 (sg M.length v3.heap.size) ?_
  refine t 17 (.int .i64 0) ?_
  refine t 6 (sg M.length v3.heap.size) ?_
  refine t 7 (.int .i64 0) ?_
  refine gl_nil ?_
  refine ge_then ?_
  refine gc_seq ?_
  refine gc_reg ?_
  refine t 18 (sg M.length v3.heap.size) ?_
  refine t 4 (sg M.length v3.heap.size) ?_
  refine gl_nil ?_
  refine ge_then ?_
  refine gc_ret ?_
  refine ge_ret (sg M.length v3.heap.size) (rs1 4 (by kernel_rfl) (by kernel_rfl)) ?_
  exact ⟨_, _, rfl, rfl, X4, I.bel.size, joinB I.bel B4⟩
theorem put_Chain {w : World} {x0 : Int} {x1 : Int} :
    Calls Tryz.prog 129 #[.agg #[.int .u64 x0, .int .u64 x1], .func (.func 130) #[] #[]] w fun e w' => ∃ b n, e = .returned (.slice (some ⟨b, 0, none⟩) n n) ∧ n = (thr (pnx (fun o => ([x0, x1] : List Int).getD o 0)) [(0, 0), (0, 1)] []).length ∧ Box w' b ((thr (pnx (fun o => ([x0, x1] : List Int).getD o 0)) [(0, 0), (0, 1)] []).map (Value.int .u8)) 5 ∧ w.heap.size ≤ b ∧ Below w.heap.size w w' := by
  refine gc_enter (n := 19) Tryz.func129 rfl (by kernel_rfl) (by kernel_rfl) ?_
  refine gc_seq ?_
  refine gc_reg ?_
  refine ta 2 [.int .u64 x0, .int .u64 x1] 138 (pg) ?_
  intro v1 g1 X1 q1 B1
  refine t 4 (.slice none 0 0) ?_
  refine gl_nil ?_
  refine ge_then ?_
  refine gc_seq ?_
  refine gc_reg ?_
  refine ta_wr 5 ?_
  intro v2 g2 X2 q2 B2
  refine gl_nil ?_
  refine ge_then ?_
  refine gc_seq ?_
  refine gc_reg ?_
  refine t 8 (.func (.func 130) #[] #[]) ?_
  refine t 9 (.func (.func 168) #[] #[pg g2]) ?_
  refine t 10 (.func (.func 169) #[] #[pg g2]) ?_
  refine t 11 (.func (.func 170) #[] #[pg g2]) ?_
  refine t 12 (.agg (hq 168 169 170 (pg g2)).toArray) ?_
  have l1 := X1.lt
  have hlen := pnx_len (fun o => ([x0, x1] : List Int).getD o 0) [(0, 0), (0, 1)] []
  refine tc 13 130 #[pg g1, .agg (hq 168 169 170 (pg g2)).toArray] (ofChain_any (hc_any ⟨⟨_, Tryz.func168, rfl, rfl, rfl⟩, fun _ _ => by kernel_rfl⟩ ⟨⟨_, Tryz.func169, rfl, rfl, rfl⟩, fun _ _ => by kernel_rfl⟩ ⟨⟨_, Tryz.func170, rfl, rfl, rfl⟩, fun _ _ => by kernel_rfl⟩ (fl_Chain (x0 := x0) (x1 := x1) (w := w))) (s := []) ⟨X2, joinB B1 B2, X1.keep B2, Nat.le_trans B1.size q2, by omega⟩ (by decide) (Nat.le_trans hlen (by decide))) ?_
  rintro _ v3 ⟨rfl, I, C⟩
  generalize thr (pnx (fun o => ([x0, x1] : List Int).getD o 0)) [(0, 0), (0, 1)] [] = M at *
  refine ⟨_, rfl, ?_⟩
  refine gl_nil ?_
  refine ge_then ?_
  refine gc_seq ?_
  refine gc_reg ?_
  refine tc 15 34 #[pg g2] (wrOut I.wr (Nat.le_trans hlen (by decide))) ?_
  rintro _ v4 ⟨rfl, X4, B4⟩
  refine ⟨_, rfl, ?_⟩
  refine t 14 (.tuple #[sg M.length v3.heap.size, .int .i64 0]) ?_
  refine t 16 (sg M.length v3.heap.size) ?_
  refine t 17 (.int .i64 0) ?_
  refine t 6 (sg M.length v3.heap.size) ?_
  refine t 7 (.int .i64 0) ?_
  refine gl_nil ?_
  refine ge_then ?_
  refine gc_seq ?_
  refine gc_reg ?_
  refine t 18 (sg M.length v3.heap.size) ?_
  refine t 4 (sg M.length v3.heap.size) ?_
  refine gl_nil ?_
  refine ge_then ?_
  refine gc_ret ?_
  refine ge_ret (sg M.length v3.heap.size) (rs1 4 (by kernel_rfl) (by kernel_rfl)) ?_
  exact ⟨_, _, rfl, rfl, X4, I.bel.size, joinB I.bel B4⟩
theorem put_Pool {w : World} {a0 : Option Addr} {n0 c0 : Nat} {x0 : Int} (h0 : NatA w a0 n0 c0 x0) (m0 : n0 ≤ 1000000) :
    Calls Tryz.prog 362 #[.agg #[.slice a0 n0 c0], .func (.func 363) #[] #[]] w fun e w' => ∃ b n, e = .returned (.slice (some ⟨b, 0, none⟩) n n) ∧ n = (thr (pnx (fun o => ([x0] : List Int).getD o 0)) [(2, 0)] []).length ∧ Box w' b ((thr (pnx (fun o => ([x0] : List Int).getD o 0)) [(2, 0)] []).map (Value.int .u8)) 5 ∧ w.heap.size ≤ b ∧ Below w.heap.size w w' := by
  refine gc_enter (n := 19) Tryz.func362 rfl (by kernel_rfl) (by kernel_rfl) ?_
  refine gc_seq ?_
  refine gc_reg ?_
  refine ta 2 [.slice a0 n0 c0] 55 (pg) ?_
  intro v1 g1 X1 q1 B1
  refine t 4 (.slice none 0 0) ?_
  refine gl_nil ?_
  refine ge_then ?_
  refine gc_seq ?_
  refine gc_reg ?_
  refine ta_wr 5 ?_
  intro v2 g2 X2 q2 B2
  refine gl_nil ?_
  refine ge_then ?_
  refine gc_seq ?_
  refine gc_reg ?_
  refine t 8 (.func (.func 363) #[] #[]) ?_
  refine t 9 (.func (.func 382) #[] #[pg g2]) ?_
  refine t 10 (.func (.func 383) #[] #[pg g2]) ?_
  refine t 11 (.func (.func 384) #[] #[pg g2]) ?_
  refine t 12 (.agg (hq 382 383 384 (pg g2)).toArray) ?_
  have l1 := X1.lt
  have hlen := pnx_len (fun o => ([x0] : List Int).getD o 0) [(2, 0)] []
  refine tc 13 363 #[pg g1, .agg (hq 382 383 384 (pg g2)).toArray] (ofPool_any (hc_any ⟨⟨_, Tryz.func382, rfl, rfl, rfl⟩, fun _ _ => by kernel_rfl⟩ ⟨⟨_, Tryz.func383, rfl, rfl, rfl⟩, fun _ _ => by kernel_rfl⟩ ⟨⟨_, Tryz.func384, rfl, rfl, rfl⟩, fun _ _ => by kernel_rfl⟩ (fl_Pool h0 m0 (w := w))) (s := []) ⟨X2, joinB B1 B2, X1.keep B2, Nat.le_trans B1.size q2, by omega⟩ (by decide) (Nat.le_trans hlen (by decide))) ?_
  rintro _ v3 ⟨rfl, I, C⟩
  generalize thr (pnx (fun o => ([x0] : List Int).getD o 0)) [(2, 0)] [] = M at *
  refine ⟨_, rfl, ?_⟩
  refine gl_nil ?_
  refine ge_then ?_
  refine gc_seq ?_
  refine gc_reg ?_
  refine tc 15 34 #[pg g2] (wrOut I.wr (Nat.le_trans hlen (by decide))) ?_
  rintro _ v4 ⟨rfl, X4, B4⟩
  refine ⟨_, rfl, ?_⟩
  refine t 14 (.tuple #[sg M.length v3.heap.size, .int .i64 0]) ?_
  refine t 16 (sg M.length v3.heap.size) ?_
  refine t 17 (.int .i64 0) ?_
  refine t 6 (sg M.length v3.heap.size) ?_
  refine t 7 (.int .i64 0) ?_
  refine gl_nil ?_
  refine ge_then ?_
  refine gc_seq ?_
  refine gc_reg ?_
  refine t 18 (sg M.length v3.heap.size) ?_
  refine t 4 (sg M.length v3.heap.size) ?_
  refine gl_nil ?_
  refine ge_then ?_
  refine gc_ret ?_
  refine ge_ret (sg M.length v3.heap.size) (rs1 4 (by kernel_rfl) (by kernel_rfl)) ?_
  exact ⟨_, _, rfl, rfl, X4, I.bel.size, joinB I.bel B4⟩
theorem put_Account {w : World} {x0 : Int} {x1 : Int} :
    Calls Tryz.prog 172 #[.agg #[.int .u64 x0, .int .u64 x1], .func (.func 74) #[] #[]] w fun e w' => ∃ b n, e = .returned (.slice (some ⟨b, 0, none⟩) n n) ∧ n = (thr (pnx (fun o => ([x0, x1] : List Int).getD o 0)) [(0, 0), (0, 1)] []).length ∧ Box w' b ((thr (pnx (fun o => ([x0, x1] : List Int).getD o 0)) [(0, 0), (0, 1)] []).map (Value.int .u8)) 5 ∧ w.heap.size ≤ b ∧ Below w.heap.size w w' := by
  refine gc_enter (n := 19) Tryz.func172 rfl (by kernel_rfl) (by kernel_rfl) ?_
  refine gc_seq ?_
  refine gc_reg ?_
  refine ta 2 [.int .u64 x0, .int .u64 x1] 50 (pg) ?_
  intro v1 g1 X1 q1 B1
  refine t 4 (.slice none 0 0) ?_
  refine gl_nil ?_
  refine ge_then ?_
  refine gc_seq ?_
  refine gc_reg ?_
  refine ta_wr 5 ?_
  intro v2 g2 X2 q2 B2
  refine gl_nil ?_
  refine ge_then ?_
  refine gc_seq ?_
  refine gc_reg ?_
  refine t 8 (.func (.func 74) #[] #[]) ?_
  refine t 9 (.func (.func 212) #[] #[pg g2]) ?_
  refine t 10 (.func (.func 213) #[] #[pg g2]) ?_
  refine t 11 (.func (.func 214) #[] #[pg g2]) ?_
  refine t 12 (.agg (hq 212 213 214 (pg g2)).toArray) ?_
  have l1 := X1.lt
  have hlen := pnx_len (fun o => ([x0, x1] : List Int).getD o 0) [(0, 0), (0, 1)] []
  refine tc 13 74 #[pg g1, .agg (hq 212 213 214 (pg g2)).toArray] (ofAccount_any (hc_any ⟨⟨_, Tryz.func212, rfl, rfl, rfl⟩, fun _ _ => by kernel_rfl⟩ ⟨⟨_, Tryz.func213, rfl, rfl, rfl⟩, fun _ _ => by kernel_rfl⟩ ⟨⟨_, Tryz.func214, rfl, rfl, rfl⟩, fun _ _ => by kernel_rfl⟩ (fl_Account (x0 := x0) (x1 := x1) (w := w))) (s := []) ⟨X2, joinB B1 B2, X1.keep B2, Nat.le_trans B1.size q2, by omega⟩ (by decide) (Nat.le_trans hlen (by decide))) ?_
  rintro _ v3 ⟨rfl, I, C⟩
  generalize thr (pnx (fun o => ([x0, x1] : List Int).getD o 0)) [(0, 0), (0, 1)] [] = M at *
  refine ⟨_, rfl, ?_⟩
  refine gl_nil ?_
  refine ge_then ?_
  refine gc_seq ?_
  refine gc_reg ?_
  refine tc 15 34 #[pg g2] (wrOut I.wr (Nat.le_trans hlen (by decide))) ?_
  rintro _ v4 ⟨rfl, X4, B4⟩
  refine ⟨_, rfl, ?_⟩
  refine t 14 (.tuple #[sg M.length v3.heap.size, .int .i64 0]) ?_
  refine t 16 (sg M.length v3.heap.size) ?_
  refine t 17 (.int .i64 0) ?_
  refine t 6 (sg M.length v3.heap.size) ?_
  refine t 7 (.int .i64 0) ?_
  refine gl_nil ?_
  refine ge_then ?_
  refine gc_seq ?_
  refine gc_reg ?_
  refine t 18 (sg M.length v3.heap.size) ?_
  refine t 4 (sg M.length v3.heap.size) ?_
  refine gl_nil ?_
  refine ge_then ?_
  refine gc_ret ?_
  refine ge_ret (sg M.length v3.heap.size) (rs1 4 (by kernel_rfl) (by kernel_rfl)) ?_
  exact ⟨_, _, rfl, rfl, X4, I.bel.size, joinB I.bel B4⟩
theorem put_Val {w : World} {x0 : Int} {x1 : Int} {a2 : Option Addr} {n2 c2 : Nat} {x2 : Int} {b3 : Bool} {x4 : Int} {b5 : Bool} {x6 : Int} {a7 : Option Addr} {n7 c7 : Nat} {x7 : Int} {a8 : Option Addr} {n8 c8 : Nat} {x8 : Int} {a9 : Option Addr} {n9 c9 : Nat} {x9 : Int} (h2 : NatA w a2 n2 c2 x2) (m2 : n2 ≤ 1000000) (h7 : NatA w a7 n7 c7 x7) (m7 : n7 ≤ 1000000) (h8 : NatA w a8 n8 c8 x8) (m8 : n8 ≤ 1000000) (h9 : NatA w a9 n9 c9 x9) (m9 : n9 ≤ 1000000) :
    Calls Tryz.prog 249 #[.agg #[.int .u64 x0, .int .u64 x1, .slice a2 n2 c2, .bool b3, .int .u64 x4, .bool b5, .int .u64 x6, .slice a7 n7 c7, .slice a8 n8 c8, .slice a9 n9 c9], .func (.func 77) #[] #[]] w fun e w' => ∃ b n, e = .returned (.slice (some ⟨b, 0, none⟩) n n) ∧ n = (thr (pnx (fun o => ([x0, x1, x2, (if b3 then 1 else 0), x4, (if b5 then 1 else 0), x6, x7, x8, x9] : List Int).getD o 0)) [(0, 0), (0, 1), (2, 2), (1, 3), (0, 4), (1, 5), (0, 6), (2, 7), (2, 8), (2, 9)] []).length ∧ Box w' b ((thr (pnx (fun o => ([x0, x1, x2, (if b3 then 1 else 0), x4, (if b5 then 1 else 0), x6, x7, x8, x9] : List Int).getD o 0)) [(0, 0), (0, 1), (2, 2), (1, 3), (0, 4), (1, 5), (0, 6), (2, 7), (2, 8), (2, 9)] []).map (Value.int .u8)) 5 ∧ w.heap.size ≤ b ∧ Below w.heap.size w w' := by
  refine gc_enter (n := 19) Tryz.func249 rfl (by kernel_rfl) (by kernel_rfl) ?_
  refine gc_seq ?_
  refine gc_reg ?_
  refine ta 2 [.int .u64 x0, .int .u64 x1, .slice a2 n2 c2, .bool b3, .int .u64 x4, .bool b5, .int .u64 x6, .slice a7 n7 c7, .slice a8 n8 c8, .slice a9 n9 c9] 57 (pg) ?_
  intro v1 g1 X1 q1 B1
  refine t 4 (.slice none 0 0) ?_
  refine gl_nil ?_
  refine ge_then ?_
  refine gc_seq ?_
  refine gc_reg ?_
  refine ta_wr 5 ?_
  intro v2 g2 X2 q2 B2
  refine gl_nil ?_
  refine ge_then ?_
  refine gc_seq ?_
  refine gc_reg ?_
  refine t 8 (.func (.func 77) #[] #[]) ?_
  refine t 9 (.func (.func 307) #[] #[pg g2]) ?_
  refine t 10 (.func (.func 308) #[] #[pg g2]) ?_
  refine t 11 (.func (.func 309) #[] #[pg g2]) ?_
  refine t 12 (.agg (hq 307 308 309 (pg g2)).toArray) ?_
  have l1 := X1.lt
  have hlen := pnx_len (fun o => ([x0, x1, x2, (if b3 then 1 else 0), x4, (if b5 then 1 else 0), x6, x7, x8, x9] : List Int).getD o 0) [(0, 0), (0, 1), (2, 2), (1, 3), (0, 4), (1, 5), (0, 6), (2, 7), (2, 8), (2, 9)] []
  refine tc 13 77 #[pg g1, .agg (hq 307 308 309 (pg g2)).toArray] (ofVal_any (hc_any ⟨⟨_, Tryz.func307, rfl, rfl, rfl⟩, fun _ _ => by kernel_rfl⟩ ⟨⟨_, Tryz.func308, rfl, rfl, rfl⟩, fun _ _ => by kernel_rfl⟩ ⟨⟨_, Tryz.func309, rfl, rfl, rfl⟩, fun _ _ => by kernel_rfl⟩ (fl_Val h2 m2 h7 m7 h8 m8 h9 m9 (x0 := x0) (x1 := x1) (b3 := b3) (x4 := x4) (b5 := b5) (x6 := x6) (w := w))) (s := []) ⟨X2, joinB B1 B2, X1.keep B2, Nat.le_trans B1.size q2, by omega⟩ (by decide) (Nat.le_trans hlen (by decide))) ?_
  rintro _ v3 ⟨rfl, I, C⟩
  generalize thr (pnx (fun o => ([x0, x1, x2, (if b3 then 1 else 0), x4, (if b5 then 1 else 0), x6, x7, x8, x9] : List Int).getD o 0)) [(0, 0), (0, 1), (2, 2), (1, 3), (0, 4), (1, 5), (0, 6), (2, 7), (2, 8), (2, 9)] [] = M at *
  refine ⟨_, rfl, ?_⟩
  refine gl_nil ?_
  refine ge_then ?_
  refine gc_seq ?_
  refine gc_reg ?_
  refine tc 15 34 #[pg g2] (wrOut I.wr (Nat.le_trans hlen (by decide))) ?_
  rintro _ v4 ⟨rfl, X4, B4⟩
  refine ⟨_, rfl, ?_⟩
  refine t 14 (.tuple #[sg M.length v3.heap.size, .int .i64 0]) ?_
  refine t 16 (sg M.length v3.heap.size) ?_
  refine t 17 (.int .i64 0) ?_
  refine t 6 (sg M.length v3.heap.size) ?_
  refine t 7 (.int .i64 0) ?_
  refine gl_nil ?_
  refine ge_then ?_
  refine gc_seq ?_
  refine gc_reg ?_
  refine t 18 (sg M.length v3.heap.size) ?_
  refine t 4 (sg M.length v3.heap.size) ?_
  refine gl_nil ?_
  refine ge_then ?_
  refine gc_ret ?_
  refine ge_ret (sg M.length v3.heap.size) (rs1 4 (by kernel_rfl) (by kernel_rfl)) ?_
  exact ⟨_, _, rfl, rfl, X4, I.bel.size, joinB I.bel B4⟩
theorem put_Delegation {w : World} {a0 : Option Addr} {n0 c0 : Nat} {x0 : Int} {x1 : Int} {a2 : Option Addr} {n2 c2 : Nat} {x2 : Int} (h0 : NatA w a0 n0 c0 x0) (m0 : n0 ≤ 1000000) (h2 : NatA w a2 n2 c2 x2) (m2 : n2 ≤ 1000000) :
    Calls Tryz.prog 340 #[.agg #[.slice a0 n0 c0, .int .u64 x1, .slice a2 n2 c2], .func (.func 341) #[] #[]] w fun e w' => ∃ b n, e = .returned (.slice (some ⟨b, 0, none⟩) n n) ∧ n = (thr (pnx (fun o => ([x0, x1, x2] : List Int).getD o 0)) [(2, 0), (0, 1), (2, 2)] []).length ∧ Box w' b ((thr (pnx (fun o => ([x0, x1, x2] : List Int).getD o 0)) [(2, 0), (0, 1), (2, 2)] []).map (Value.int .u8)) 5 ∧ w.heap.size ≤ b ∧ Below w.heap.size w w' := by
  refine gc_enter (n := 19) Tryz.func340 rfl (by kernel_rfl) (by kernel_rfl) ?_
  refine gc_seq ?_
  refine gc_reg ?_
  refine ta 2 [.slice a0 n0 c0, .int .u64 x1, .slice a2 n2 c2] 181 (pg) ?_
  intro v1 g1 X1 q1 B1
  refine t 4 (.slice none 0 0) ?_
  refine gl_nil ?_
  refine ge_then ?_
  refine gc_seq ?_
  refine gc_reg ?_
  refine ta_wr 5 ?_
  intro v2 g2 X2 q2 B2
  refine gl_nil ?_
  refine ge_then ?_
  refine gc_seq ?_
  refine gc_reg ?_
  refine t 8 (.func (.func 341) #[] #[]) ?_
  refine t 9 (.func (.func 365) #[] #[pg g2]) ?_
  refine t 10 (.func (.func 366) #[] #[pg g2]) ?_
  refine t 11 (.func (.func 367) #[] #[pg g2]) ?_
  refine t 12 (.agg (hq 365 366 367 (pg g2)).toArray) ?_
  have l1 := X1.lt
  have hlen := pnx_len (fun o => ([x0, x1, x2] : List Int).getD o 0) [(2, 0), (0, 1), (2, 2)] []
  refine tc 13 341 #[pg g1, .agg (hq 365 366 367 (pg g2)).toArray] (ofDelegation_any (hc_any ⟨⟨_, Tryz.func365, rfl, rfl, rfl⟩, fun _ _ => by kernel_rfl⟩ ⟨⟨_, Tryz.func366, rfl, rfl, rfl⟩, fun _ _ => by kernel_rfl⟩ ⟨⟨_, Tryz.func367, rfl, rfl, rfl⟩, fun _ _ => by kernel_rfl⟩ (fl_Delegation h0 m0 h2 m2 (x1 := x1) (w := w))) (s := []) ⟨X2, joinB B1 B2, X1.keep B2, Nat.le_trans B1.size q2, by omega⟩ (by decide) (Nat.le_trans hlen (by decide))) ?_
  rintro _ v3 ⟨rfl, I, C⟩
  generalize thr (pnx (fun o => ([x0, x1, x2] : List Int).getD o 0)) [(2, 0), (0, 1), (2, 2)] [] = M at *
  refine ⟨_, rfl, ?_⟩
  refine gl_nil ?_
  refine ge_then ?_
  refine gc_seq ?_
  refine gc_reg ?_
  refine tc 15 34 #[pg g2] (wrOut I.wr (Nat.le_trans hlen (by decide))) ?_
  rintro _ v4 ⟨rfl, X4, B4⟩
  refine ⟨_, rfl, ?_⟩
  refine t 14 (.tuple #[sg M.length v3.heap.size, .int .i64 0]) ?_
  refine t 16 (sg M.length v3.heap.size) ?_
  refine t 17 (.int .i64 0) ?_
  refine t 6 (sg M.length v3.heap.size) ?_
  refine t 7 (.int .i64 0) ?_
  refine gl_nil ?_
  refine ge_then ?_
  refine gc_seq ?_
  refine gc_reg ?_
  refine t 18 (sg M.length v3.heap.size) ?_
  refine t 4 (sg M.length v3.heap.size) ?_
  refine gl_nil ?_
  refine ge_then ?_
  refine gc_ret ?_
  refine ge_ret (sg M.length v3.heap.size) (rs1 4 (by kernel_rfl) (by kernel_rfl)) ?_
  exact ⟨_, _, rfl, rfl, X4, I.bel.size, joinB I.bel B4⟩
theorem put_History {w : World} {a0 : Option Addr} {n0 c0 : Nat} {x0 : Int} {x1 : Int} (h0 : NatA w a0 n0 c0 x0) (m0 : n0 ≤ 1000000) :
    Calls Tryz.prog 264 #[.agg #[.slice a0 n0 c0, .int .u64 x1], .func (.func 263) #[] #[]] w fun e w' => ∃ b n, e = .returned (.slice (some ⟨b, 0, none⟩) n n) ∧ n = (thr (pnx (fun o => ([x0, x1] : List Int).getD o 0)) [(2, 0), (0, 1)] []).length ∧ Box w' b ((thr (pnx (fun o => ([x0, x1] : List Int).getD o 0)) [(2, 0), (0, 1)] []).map (Value.int .u8)) 5 ∧ w.heap.size ≤ b ∧ Below w.heap.size w w' := by
  refine gc_enter (n := 19) Tryz.func264 rfl (by kernel_rfl) (by kernel_rfl) ?_
  refine gc_seq ?_
  refine gc_reg ?_
  refine ta 2 [.slice a0 n0 c0, .int .u64 x1] 272 (pg) ?_
  intro v1 g1 X1 q1 B1
  refine t 4 (.slice none 0 0) ?_
  refine gl_nil ?_
  refine ge_then ?_
  refine gc_seq ?_
  refine gc_reg ?_
  refine ta_wr 5 ?_
  intro v2 g2 X2 q2 B2
  refine gl_nil ?_
  refine ge_then ?_
  refine gc_seq ?_
  refine gc_reg ?_
  refine t 8 (.func (.func 263) #[] #[]) ?_
  refine t 9 (.func (.func 317) #[] #[pg g2]) ?_
  refine t 10 (.func (.func 318) #[] #[pg g2]) ?_
  refine t 11 (.func (.func 319) #[] #[pg g2]) ?_
  refine t 12 (.agg (hq 317 318 319 (pg g2)).toArray) ?_
  have l1 := X1.lt
  have hlen := pnx_len (fun o => ([x0, x1] : List Int).getD o 0) [(2, 0), (0, 1)] []
  refine tc 13 263 #[pg g1, .agg (hq 317 318 319 (pg g2)).toArray] (ofHistory_any (hc_any ⟨⟨_, Tryz.func317, rfl, rfl, rfl⟩, fun _ _ => by kernel_rfl⟩ ⟨⟨_, Tryz.func318, rfl, rfl, rfl⟩, fun _ _ => by kernel_rfl⟩ ⟨⟨_, Tryz.func319, rfl, rfl, rfl⟩, fun _ _ => by kernel_rfl⟩ (fl_History h0 m0 (x1 := x1) (w := w))) (s := []) ⟨X2, joinB B1 B2, X1.keep B2, Nat.le_trans B1.size q2, by omega⟩ (by decide) (Nat.le_trans hlen (by decide))) ?_
  rintro _ v3 ⟨rfl, I, C⟩
  generalize thr (pnx (fun o => ([x0, x1] : List Int).getD o 0)) [(2, 0), (0, 1)] [] = M at *
  refine ⟨_, rfl, ?_⟩
  refine gl_nil ?_
  refine ge_then ?_
  refine gc_seq ?_
  refine gc_reg ?_
  refine tc 15 34 #[pg g2] (wrOut I.wr (Nat.le_trans hlen (by decide))) ?_
  rintro _ v4 ⟨rfl, X4, B4⟩
  refine ⟨_, rfl, ?_⟩
  refine t 14 (.tuple #[sg M.length v3.heap.size, .int .i64 0]) ?_
  refine t 16 (sg M.length v3.heap.size) ?_
  refine t 17 (.int .i64 0) ?_
  refine t 6 (sg M.length v3.heap.size) ?_
  refine t 7 (.int .i64 0) ?_
  refine gl_nil ?_
  refine ge_then ?_
  refine gc_seq ?_
  refine gc_reg ?_
  refine t 18 (sg M.length v3.heap.size) ?_
  refine t 4 (sg M.length v3.heap.size) ?_
  refine gl_nil ?_
  refine ge_then ?_
  refine gc_ret ?_
  refine ge_ret (sg M.length v3.heap.size) (rs1 4 (by kernel_rfl) (by kernel_rfl)) ?_
  exact ⟨_, _, rfl, rfl, X4, I.bel.size, joinB I.bel B4⟩
end Rc
end Go.Proofs.YtpoifdokmjhclaaGreat

namespace Go.Proofs.YtpoifdokmjhclaaGreat
namespace Rc
open Go.RowKit Go.Lib Pg Lim
attribute [local go_sem] Oper.semAt_some
/-- the normal list of x, in a block from B on -/
structure NatW (w : World) (B : Nat) (ao : Option Addr) (n c : Nat) (x : Int) : Prop where
  ex : ∃ b o l, l.length = n ∧ n ≤ c ∧ IsN l x ∧ At w ao b o l ∧ B ≤ b
theorem natW_nil (w : World) (B : Nat) : NatW w B none 0 0 0 := ⟨B, 0, [], rfl, Nat.le_refl _, isN_nil, ⟨.inl rfl, fun i hi => by simp at hi⟩, Nat.le_refl _⟩
theorem NatW.low {w : World} {B B' n c : Nat} {ao : Option Addr} {x : Int} (h : NatW w B ao n c x) (hB : B' ≤ B) : NatW w B' ao n c x := by
  obtain ⟨b, o, l, h1, h2, h3, h4, h5⟩ := h.ex
  exact ⟨b, o, l, h1, h2, h3, h4, Nat.le_trans hB h5⟩
theorem NatW.off {w w' : World} {B n c : Nat} {ao : Option Addr} {x : Int} (h : NatW w B ao n c x) (_hs : w.heap.size ≤ w'.heap.size) (hw : ∀ b, B ≤ b → b < w.heap.size → w'.heap[b]? = w.heap[b]?) : NatW w' B ao n c x := by
  obtain ⟨b, o, l, h1, h2, h3, h4, h5⟩ := h.ex
  refine ⟨b, o, l, h1, h2, h3, ⟨h4.loc, fun i hi => ?_⟩, h5⟩
  have hc := h4.cell i hi
  rw [World.cell?_of_block (w := w) (hw b h5 (cell_lt hc))]
  exact hc
theorem newV_w {w w' : World} {v : Value} {r : List Int} {x : Int} {B : Nat} (h : NewV w w' v r) (hI : IsN r x) (hB : B ≤ w.heap.size) : ∃ a c, v = .slice a r.length c ∧ NatW w' B a r.length c x := by
  obtain ⟨ao, b, o, c, e, h1, h2, h3, h4⟩ := h.is
  exact ⟨ao, c, e, b, o, r, rfl, h1, hI, h3, Nat.le_trans hB h2⟩
set_option maxRecDepth 100000 in
theorem raNaturalW {w : World} {g b : Nat} {l : List Int} (h : RdA w g b 0 l) :
    Calls Tryz.prog 204 #[.pointer (some ⟨g, 0, none⟩)] w fun e w' => ∃ v, e = .returned (.tuple #[v, .int .i64 (rdE (pNat l) 0)]) ∧ ∃ l1, RdA w' g b 0 l1 ∧ But g w w' ∧ ∀ x k, pNat l = .inr (x, k) → l1 = l.drop k ∧ ∃ ao n c, v = .slice ao n c ∧ NatW w' w.heap.size ao n c x ∧ n ≤ 255 := by
  have hcn := cntOf_eq (m := 1) h
  by_cases hl : 1 ≤ l.length
  · have t := raNum (m := 1) h hl (by decide)
    have hN := cntOf_lt h hl
    rw [show (256 : Int) ^ 1 = 256 by decide] at hN
    rw [← hcn] at t
    have HO := (show Hid _ from h.oct)
    by_cases hs : 1 + cntOf 1 l ≤ l.length
    · by_cases hz : 0 < cntOf 1 l ∧ nth (l.drop 1) 0 = 0
      · have hp : pNat l = .inl 41 := by unfold pNat; rw [if_pos hl, if_pos hs, if_pos hz]
        have HR : Hid (rdE (pNat l) 0 = 41) := by show _ = _; rw [hp]; rfl
        have HP := (show Hid _ from hp)
        have HZ := (show Hid _ from hz)
        clear hp h hz hcn
        generalize cntOf 1 l = N at *
        go_enter Tryz.func204, Tryz.ntmps204
        go_wp2_with fail
        refine t.mono ?_
        rintro e w1 ⟨rfl, h1, h2⟩
        have t2 := raTake (m := N) h1 (by rw [List.length_drop]; omega)
        clear t
        go_wp2_with fail
        refine t2.mono ?_
        rintro e w2 ⟨ao, rfl, hA, h3, h4⟩
        obtain ⟨o, k1, k2, k3, k4, k5⟩ := hA.ex
        have t3 := from_no ao N N b o _ w2 k1 HZ.out.1 k5 (by rw [nth_take HZ.out.1]; exact HZ.out.2)
        clear t2 k1 k2 k3 k4 k5 hA
        go_wp2_with fail
        refine t3.mono ?_
        rintro e w3 ⟨rfl, rfl⟩
        clear t3
        go_wp2
        go_ret2
        exact ⟨_, by rw [HR.out]; rfl, _, h3, h2.trans h4, fun x k e => by rw [HP.out] at e; cases e⟩
      · have hp : pNat l = .inr (bval ((l.drop 1).take (cntOf 1 l)), 1 + cntOf 1 l) := by unfold pNat; rw [if_pos hl, if_pos hs, if_neg hz]
        have HR : Hid (rdE (pNat l) 0 = 0) := by show _ = _; rw [hp]; rfl
        have HP := (show Hid _ from hp)
        have HZ := (show Hid _ from hz)
        clear hp h hz hcn
        generalize cntOf 1 l = N at *
        go_enter Tryz.func204, Tryz.ntmps204
        go_wp2_with fail
        refine t.mono ?_
        rintro e w1 ⟨rfl, h1, h2⟩
        have t2 := raTake (m := N) h1 (by rw [List.length_drop]; omega)
        clear t
        go_wp2_with fail
        refine t2.mono ?_
        rintro e w2 ⟨ao, rfl, hA, h3, h4⟩
        obtain ⟨o, k1, k2, k3, k4, k5⟩ := hA.ex
        have t3 := from_yes ao N N b o _ w2 k1 (by omega) k4 k5 (fun hpos e0 => HZ.out ⟨hpos, by rw [nth_take hpos] at e0; exact e0⟩)
        clear t2 k1 k2 k3 k4 k5 hA
        go_wp2_with fail
        refine t3.mono ?_
        rintro e w3 ⟨v, r, rfl, k1, k2, k3, k4⟩
        obtain ⟨a', c', rfl, hO⟩ := newV_w k1 k2 (show w.heap.size ≤ w2.heap.size from (h2.trans h4).size)
        have HOO := (show Hid _ from hO)
        have HK := (show Hid _ from k4)
        clear t3 k1 k2 k4 hO
        go_wp2
        go_ret2
        exact ⟨_, by rw [HR.out]; rfl, _, h3.keep HK.out, (h2.trans h4).trans (But.of HK.out), fun x k e => by
          rw [HP.out] at e
          cases e
          exact ⟨by rw [List.drop_drop], _, _, _, rfl, HOO.out, by omega⟩⟩
    · have hp : pNat l = .inl 40 := by unfold pNat; rw [if_pos hl, if_neg hs]
      have HR : Hid (rdE (pNat l) 0 = 40) := by show _ = _; rw [hp]; rfl
      have HP := (show Hid _ from hp)
      clear hp h hcn
      generalize cntOf 1 l = N at *
      go_enter Tryz.func204, Tryz.ntmps204
      go_wp2_with fail
      refine t.mono ?_
      rintro e w1 ⟨rfl, h1, h2⟩
      have t2 := raTakeS (m := N) h1 (by rw [List.length_drop]; omega)
      clear t hs
      go_wp2_with fail
      refine t2.mono ?_
      rintro e w2 ⟨rfl, rfl⟩
      clear t2
      go_wp2
      go_ret2
      exact ⟨_, by rw [HR.out]; rfl, _, h1, h2, fun x k e => by rw [HP.out] at e; cases e⟩
  · have t := raNumS (m := 1) h (by omega)
    have hp : pNat l = .inl 40 := by unfold pNat; rw [if_neg hl]
    have HR : Hid (rdE (pNat l) 0 = 40) := by show _ = _; rw [hp]; rfl
    have HP := (show Hid _ from hp)
    have HH := (show Hid _ from h)
    clear hp h hl hcn
    go_enter Tryz.func204, Tryz.ntmps204
    go_wp2_with fail
    refine t.mono ?_
    rintro e w1 ⟨rfl, rfl⟩
    clear t
    go_wp2
    go_ret2
    exact ⟨_, by rw [HR.out]; rfl, _, HH.out, But.refl _ _, fun x k e => by rw [HP.out] at e; cases e⟩
set_option maxRecDepth 100000 in
theorem rdNatW {w : World} {g b : Nat} {err : Int} {l : List Int} (h : RdA w g b err l) :
    Calls Tryz.prog 156 #[.pointer (some ⟨g, 0, none⟩)] w fun e w' => ∃ ao n c, e = .returned (.slice ao n c) ∧ NatW w' w.heap.size ao n c (rdV 0 (pNat l) err) ∧ n ≤ 255 ∧ RdA w' g b (rdE (pNat l) err) (rdL (pNat l) err l) ∧ But g w w' := by
  have t := enNa (z := (0 : Int)) (p := pNat l) (V := fun x v w' => ∃ ao n c, v = .slice ao n c ∧ NatW w' w.heap.size ao n c x ∧ n ≤ 255) h (fun _ => pNat_ne) (fun w' => ⟨none, 0, 0, rfl, natW_nil w' w.heap.size, by decide⟩) (fun e => by subst e; exact raNaturalW h)
  clear h
  generalize rdV 0 (pNat l) err = V at *
  generalize rdE (pNat l) err = E at *
  generalize rdL (pNat l) err l = R at *
  go_enter Tryz.func156, Tryz.ntmps156
  go_wp2_with fail
  refine t.mono ?_
  rintro e w1 ⟨v, rfl, ⟨ao, n, c, rfl, k3, k4⟩, k1, k2⟩
  clear t
  go_wp2
  go_ret
  exact ⟨ao, n, c, rfl, k3, k4, k1, k2⟩
set_option maxRecDepth 100000 in
theorem rdDecW {w : World} {g b : Nat} {err : Int} {l : List Int} (h : RdA w g b err l) :
    Calls Tryz.prog 115 #[.pointer (some ⟨g, 0, none⟩)] w fun e w' => ∃ ao n c, e = .returned (.agg #[.slice ao n c]) ∧ NatW w' w.heap.size ao n c (rdV 0 (pNat l) err) ∧ n ≤ 255 ∧ RdA w' g b (rdE (pNat l) err) (rdL (pNat l) err l) ∧ But g w w' := by
  have HB := (show Hid _ from below_alloc w (.cells #[.slice none 0 0] 55))
  have S0 := slot_new w (.slice none 0 0) 55
  have hg : w.heap.size ≠ g := by have := h.lt; omega
  have HG := (show Hid _ from hg)
  have t := rdNatW (h.keep HB.out)
  clear h hg
  generalize rdV 0 (pNat l) err = V at *
  generalize rdE (pNat l) err = E at *
  generalize rdL (pNat l) err l = R at *
  go_enter Tryz.func115, Tryz.ntmps115
  go_wp2_with fail
  refine t.mono ?_
  rintro e w1 ⟨ao, n, c, rfl, k3, k4, k1, k2⟩
  have S1 := S0.but k2 HG.out
  have c1 := S1.cell
  have f1 := S1.free
  have S2 := S1.put (.slice ao n c)
  have HO := (show Hid (NatW (w1.setCell ⟨w.heap.size, 0, none⟩ (.slice ao n c)) w.heap.size ao n c V) from (k3.off (w' := w1.setCell ⟨w.heap.size, 0, none⟩ (.slice ao n c)) (by rw [size_set]; exact Nat.le_refl _) (fun b hb _ => Below.heap_setCell _ _ _ b (by have := size_al w (.cells #[.slice none 0 0] 55); show b ≠ w.heap.size; omega))).low HB.out.size)
  have HR := (show Hid _ from k1.put (u := .slice ao n c) S1 HG.out (fun x e => by cases e))
  have HW := (show Hid _ from ((But.of (g := g) HB.out).trans k2).put (Nat.le_refl _) (.slice ao n c))
  clear t S0 S1 k1 k2 k3 HB HG
  go_wp2
  refine bodyPost_ret (ret_dec rfl rfl S2) rfl ?_
  exact ⟨ao, n, c, rfl, HO.out, k4, HR.out, HW.out⟩
end Rc
end Go.Proofs.YtpoifdokmjhclaaGreat

namespace Go.Proofs.YtpoifdokmjhclaaGreat
namespace Rc
open Go.RowKit Go.Lib Pg Gl
attribute [local go_sem] Oper.semAt_some
set_option maxRecDepth 100000
abbrev RSt := Int × List Int × (Nat → Int)
def pBoolI (l : List Int) : Int ⊕ Int × Nat := match pBool l with
  | .inl e => .inl e
  | .inr p => .inr ((if p.1 then 1 else 0), p.2)
/-- what is read of a field -/
def p1 : Nat → List Int → Int ⊕ Int × Nat
  | 0, l => pFix 8 l
  | 1, l => pBoolI l
  | _, l => pNat l
theorem pBoolI_E (l : List Int) (err : Int) : rdE (pBoolI l) err = rdE (pBool l) err := by
  unfold rdE pBoolI
  cases pBool l <;> rfl
theorem pBoolI_L (l m : List Int) (err : Int) : rdL (pBoolI l) err m = rdL (pBool l) err m := by
  unfold rdL pBoolI
  cases pBool l <;> rfl
theorem pBoolI_V (l : List Int) (err : Int) : rdV 0 (pBoolI l) err = if rdV false (pBool l) err then 1 else 0 := by
  unfold rdV pBoolI
  by_cases h : err = 0
  · rw [if_pos h, if_pos h]
    cases pBool l <;> rfl
  · rw [if_neg h, if_neg h]
    rfl
def rnx (k o : Nat) (s : RSt) : RSt := (rdE (p1 k s.2.1) s.1, rdL (p1 k s.2.1) s.1 s.2.1, fun i => if i = o then rdV 0 (p1 k s.2.1) s.1 else s.2.2 i)
def FldR (w : World) (B : Nat) (kd : Nat → Nat) (cs : List Value) (xs : Nat → Int) : Prop := ∀ o, (kd o = 0 → cs[o]? = some (.int .u64 (xs o))) ∧ (kd o = 1 → ∃ b : Bool, cs[o]? = some (.bool b) ∧ xs o = if b then 1 else 0) ∧ (kd o = 2 → ∃ ao n c, cs[o]? = some (.slice ao n c) ∧ NatW w B ao n c (xs o) ∧ n ≤ 255)
theorem FldR.off {w w' : World} {B : Nat} {kd : Nat → Nat} {cs : List Value} {xs : Nat → Int} (h : FldR w B kd cs xs) (hs : w.heap.size ≤ w'.heap.size) (hw : ∀ b, B ≤ b → b < w.heap.size → w'.heap[b]? = w.heap[b]?) : FldR w' B kd cs xs := fun o => ⟨(h o).1, (h o).2.1, fun hk => by
  obtain ⟨ao, n, c, h1, h2, h3⟩ := (h o).2.2 hk
  exact ⟨ao, n, c, h1, h2.off hs hw, h3⟩⟩
structure RI (w0 : World) (B g b vb rb : Nat) (kd : Nat → Nat) (len : Nat) (T vt : TypeId) (s : RSt) (w : World) : Prop where
  rd : RdA w g b s.1 s.2.1
  var : Blk w vb [.pointer (some ⟨g, 0, none⟩)] vt
  rc : ∃ cs, cs.length = len ∧ Blk w rb cs T ∧ FldR w B kd cs s.2.2
  bel : Below w0.heap.size w0 w
  s1 : rb ≠ g
  s2 : vb ≠ g
  s3 : vb ≠ rb
  s4 : b ≠ rb
  g1 : g < B
  r1 : rb < B
  g0 : w0.heap.size ≤ g
  r0 : w0.heap.size ≤ rb
theorem spl_one {cs : List Value} {o : Nat} {v : Value} (h : o < cs.length) : spl cs o [v] = cs.set o v := by
  simp only [spl]
  rw [List.set_eq_take_append_cons_drop, if_pos h, List.append_assoc]
  rfl
/-- one field more is read -/
theorem RI.step {w0 w w1 w' : World} {B g b vb rb len o k : Nat} {kd : Nat → Nat} {T vt : TypeId} {s : RSt} {e1 : Int} {l1 : List Int} {v : Value} {x : Int} {cs : List Value} (h : RI w0 B g b vb rb kd len T vt s w) (hcl : cs.length = len) (hF : FldR w B kd cs s.2.2) (ho : kd o = k) (hl : o < len) (X : RdA w1 g b e1 l1) (hB : But g w w1) (Y : Blk w' rb (spl cs o [v]) T) (C : Chg (· = rb) w1 w') (hv : (k = 0 ∧ v = .int .u64 x) ∨ (k = 1 ∧ ∃ t : Bool, v = .bool t ∧ x = if t then 1 else 0) ∨ (k = 2 ∧ ∃ ao n c, v = .slice ao n c ∧ NatW w1 B ao n c x ∧ n ≤ 255)) :
    RI w0 B g b vb rb kd len T vt (e1, l1, fun i => if i = o then x else s.2.2 i) w' ∧ Chg (fun y => y = g ∨ y = rb) w w' := by
  have hS : But rb w1 w' := ⟨C.os, C.tape, C.output, C.size, fun b hb hne => C.same b hb hne⟩
  have h1 := h.s1
  have h3 := h.g1
  have h4 := h.r1
  have hc1 : Chg (· = g) w w1 := But.chg hB
  rw [spl_one (by omega)] at Y
  have b1 : Below w0.heap.size w0 w1 := hB.below h.bel h.g0 (Nat.le_refl _)
  have off1 : ∀ y, B ≤ y → y < w.heap.size → w1.heap[y]? = w.heap[y]? := fun y hy hy2 => hB.block y hy2 (by omega)
  have off2 : ∀ y, B ≤ y → y < w1.heap.size → w'.heap[y]? = w1.heap[y]? := fun y hy hy2 => hS.block y hy2 (by omega)
  refine ⟨⟨X.offW (fun e => h1 e.symm) h.s4 hS, (h.var.chg hc1 h.s2).chg C h.s3, ⟨cs.set o v, by rw [List.length_set]; exact hcl, Y, ?_⟩, hS.below b1 h.r0 (Nat.le_refl _), h.s1, h.s2, h.s3, h.s4, h.g1, h.r1, h.g0, h.r0⟩, (hc1.mono (fun _ _ e => .inl e)).trans C (fun _ _ e => .inr e)⟩
  have hF1 := hF.off hB.size off1
  intro i
  by_cases hi : i = o
  · subst hi
    have hget : (cs.set i v)[i]? = some v := by rw [List.getElem?_set_self (by omega)]
    rw [hget]
    simp only [if_true]
    refine ⟨fun hk => ?_, fun hk => ?_, fun hk => ?_⟩
    · rcases hv with ⟨_, e⟩ | ⟨e, _⟩ | ⟨e, _⟩
      · rw [e]
      · omega
      · omega
    · rcases hv with ⟨e, _⟩ | ⟨_, t, e, e2⟩ | ⟨e, _⟩
      · omega
      · exact ⟨t, by rw [e], e2⟩
      · omega
    · rcases hv with ⟨e, _⟩ | ⟨e, _⟩ | ⟨_, ao, n, c, e, e2, e3⟩
      · omega
      · omega
      · exact ⟨ao, n, c, by rw [e], e2.off hS.size off2, e3⟩
  · have hget : (cs.set o v)[i]? = cs[i]? := by rw [List.getElem?_set_ne (fun e => hi e.symm)]
    simp only [if_neg hi]
    rw [hget]
    exact (hF1.off hS.size off2) i
theorem kl_any (ks : List Nat) {o k : Nat} (h : ks.getD o 9 = k) (hk : k ≠ 9) : o < ks.length := by
  by_cases ho : o < ks.length
  · exact ho
  · exfalso
    rw [List.getD_eq_getElem?_getD, List.getElem?_eq_none (by omega)] at h
    exact hk h.symm
section
variable {w : World} {f f1 f2 f3 : FuncId} {g b vb rb o : Nat} {err : Int} {l : List Int} {cs : List Value} {T vt : TypeId}
theorem rn_any (K : Lk f Tryz.f238) (X : RdA w g b err l) (V : Blk w vb [.pointer (some ⟨g, 0, none⟩)] vt) (R : Blk w rb cs T) (hr' : rb ≠ g) (ho : o < cs.length) : Calls Tryz.prog f #[pq rb o, pg vb] w fun e w' => e = .returned (.tuple #[]) ∧ ∃ w1, Blk w' rb (spl cs o [.int .u64 (rdV 0 (p1 0 l) err)]) T ∧ Chg (· = rb) w1 w' ∧ RdA w1 g b (rdE (p1 0 l) err) (rdL (p1 0 l) err l) ∧ But g w w1 := by
  obtain ⟨⟨fn, hf, hb, hn, hr⟩, -⟩ := K
  refine gc_enter (n := 7) hf (hb.trans rfl) hn (by kernel_rfl) ?_
  refine gc_reg ?_
  refine t 3 (pq rb o) ?_
  refine tl 4 (pg g) V 0 ?_
  refine tc 5 48 #[pg g] (rdU64 X) ?_
  rintro _ w1 ⟨rfl, X, B⟩
  refine ⟨_, rfl, ?_⟩
  refine t 6 (pq rb o) ?_
  refine ts (R.chg (But.chg B) hr') o (.int .u64 (rdV 0 (p1 0 l) err)) [.int .u64 (rdV 0 (p1 0 l) err)] _ ?_ (hb := Nat.ble_eq_true_of_le ho)
  intro w2 Y C
  refine gl_nil ?_
  refine ge_end (.tuple #[]) (rs0 hr) ?_
  exact ⟨rfl, w1, Y, C, X, B⟩
theorem rt_any (K : Lk f Tryz.f239) (X : RdA w g b err l) (V : Blk w vb [.pointer (some ⟨g, 0, none⟩)] vt) (R : Blk w rb cs T) (hr' : rb ≠ g) (ho : o < cs.length) : Calls Tryz.prog f #[pq rb o, pg vb] w fun e w' => e = .returned (.tuple #[]) ∧ ∃ w1, Blk w' rb (spl cs o [.bool (rdV false (pBool l) err)]) T ∧ Chg (· = rb) w1 w' ∧ RdA w1 g b (rdE (p1 1 l) err) (rdL (p1 1 l) err l) ∧ But g w w1 := by
  obtain ⟨⟨fn, hf, hb, hn, hr⟩, -⟩ := K
  refine gc_enter (n := 7) hf (hb.trans rfl) hn (by kernel_rfl) ?_
  refine gc_reg ?_
  refine t 3 (pq rb o) ?_
  refine tl 4 (pg g) V 0 ?_
  refine tc 5 113 #[pg g] (rdBool X) ?_
  rintro _ w1 ⟨rfl, X, B⟩
  refine ⟨_, rfl, ?_⟩
  refine t 6 (pq rb o) ?_
  refine ts (R.chg (But.chg B) hr') o (.bool (rdV false (pBool l) err)) [.bool (rdV false (pBool l) err)] _ ?_ (hb := Nat.ble_eq_true_of_le ho)
  intro w2 Y C
  refine gl_nil ?_
  refine ge_end (.tuple #[]) (rs0 hr) ?_
  exact ⟨rfl, w1, Y, C, by show RdA w1 g b (rdE (pBoolI l) err) (rdL (pBoolI l) err l); rw [pBoolI_E, pBoolI_L]; exact X, B⟩
theorem rd_any (K : Lk f Tryz.f240) (X : RdA w g b err l) (V : Blk w vb [.pointer (some ⟨g, 0, none⟩)] vt) (R : Blk w rb cs T) (hr' : rb ≠ g) (ho : o < cs.length) : Calls Tryz.prog f #[pq rb o, pg vb] w fun e w' => e = .returned (.tuple #[]) ∧ ∃ w1 ao n c, Blk w' rb (spl cs o [.slice ao n c]) T ∧ Chg (· = rb) w1 w' ∧ NatW w1 w.heap.size ao n c (rdV 0 (p1 2 l) err) ∧ n ≤ 255 ∧ RdA w1 g b (rdE (p1 2 l) err) (rdL (p1 2 l) err l) ∧ But g w w1 := by
  obtain ⟨⟨fn, hf, hb, hn, hr⟩, -⟩ := K
  refine gc_enter (n := 7) hf (hb.trans rfl) hn (by kernel_rfl) ?_
  refine gc_reg ?_
  refine t 3 (pq rb o) ?_
  refine tl 4 (pg g) V 0 ?_
  refine tc 5 115 #[pg g] (rdDecW X) ?_
  rintro _ w1 ⟨a1, n1, d1, rfl, N, hn1, X, B⟩
  refine ⟨_, rfl, ?_⟩
  refine t 6 (pq rb o) ?_
  refine ts (R.chg (But.chg B) hr') o (.agg #[.slice a1 n1 d1]) [.slice a1 n1 d1] _ ?_ (hb := Nat.ble_eq_true_of_le ho)
  intro w2 Y C
  refine gl_nil ?_
  refine ge_end (.tuple #[]) (rs0 hr) ?_
  exact ⟨rfl, w1, a1, n1, d1, Y, C, N, hn1, X, B⟩
theorem rhc_any {w0 : World} {B : Nat} (ks : List Nat) (L1 : Lk f1 Tryz.f238) (L2 : Lk f2 Tryz.f239) (L3 : Lk f3 Tryz.f240) : HC RSt (fun s w => RI w0 B g b vb rb (fun o => ks.getD o 9) ks.length T vt s w ∧ B ≤ w.heap.size) (fun y => y = g ∨ y = rb) rb f1 f2 f3 (.pointer (some ⟨vb, 0, none⟩)) rnx (fun o => ks.getD o 9) (fun _ => True) where
  oks := fun _ _ _ _ => trivial
  keep := fun s w w' h Bl => by
    obtain ⟨h, hB⟩ := h
    obtain ⟨cs, h1, h2, h3⟩ := h.rc
    exact ⟨⟨h.rd.keep Bl, h.var.keep Bl, ⟨cs, h1, h2.keep Bl, h3.off Bl.size (fun y _ hy => Bl.block y hy)⟩, h.bel.trans (Bl.mono h.bel.size), h.s1, h.s2, h.s3, h.s4, h.g1, h.r1, h.g0, h.r0⟩, Nat.le_trans hB Bl.size⟩
  old := fun s w y h e => by
    have := h.1.g1
    have := h.1.r1
    have := h.2
    rcases e with e | e <;> omega
  e1 := L1.en
  e2 := L2.en
  e3 := L3.en
  u := fun s w o h _ hk => by
    obtain ⟨h, hB⟩ := h
    obtain ⟨cs, h1, h2, h3⟩ := h.rc
    have ho := kl_any ks hk (by decide)
    refine (rn_any L1 h.rd h.var h2 h.s1 (by omega)).mono ?_
    rintro e w' ⟨rfl, w1, Y, C, X, Bu⟩
    obtain ⟨r1, r2⟩ := h.step h1 h3 hk ho X Bu Y C (.inl ⟨rfl, rfl⟩)
    exact ⟨rfl, ⟨r1, Nat.le_trans hB r2.size⟩, r2⟩
  t := fun s w o h _ hk => by
    obtain ⟨h, hB⟩ := h
    obtain ⟨cs, h1, h2, h3⟩ := h.rc
    have ho := kl_any ks hk (by decide)
    refine (rt_any L2 h.rd h.var h2 h.s1 (by omega)).mono ?_
    rintro e w' ⟨rfl, w1, Y, C, X, Bu⟩
    obtain ⟨r1, r2⟩ := h.step h1 h3 hk ho X Bu Y C (x := rdV 0 (p1 1 s.2.1) s.1) (.inr (.inl ⟨rfl, _, rfl, pBoolI_V _ _⟩))
    exact ⟨rfl, ⟨r1, Nat.le_trans hB r2.size⟩, r2⟩
  d := fun s w o h _ hk => by
    obtain ⟨h, hB⟩ := h
    obtain ⟨cs, h1, h2, h3⟩ := h.rc
    have ho := kl_any ks hk (by decide)
    refine (rd_any L3 h.rd h.var h2 h.s1 (by omega)).mono ?_
    rintro e w' ⟨rfl, w1, a1, n1, c1, Y, C, hN, hn, X, Bu⟩
    obtain ⟨r1, r2⟩ := h.step h1 h3 hk ho X Bu Y C (x := rdV 0 (p1 2 s.2.1) s.1) (.inr (.inr ⟨rfl, _, _, _, rfl, hN.low hB, hn⟩))
    exact ⟨rfl, ⟨r1, Nat.le_trans hB r2.size⟩, r2⟩
end
end Rc
end Go.Proofs.YtpoifdokmjhclaaGreat

namespace Go.Proofs.YtpoifdokmjhclaaGreat
namespace Rc
open Go.RowKit Go.Lib Pg Gl
attribute [local go_sem] Oper.semAt_some
set_option maxRecDepth 100000
theorem rdL_len {α : Type} (p : Int ⊕ α × Nat) (err : Int) (l : List Int) : (rdL p err l).length ≤ l.length := by
  unfold rdL
  split
  · cases p
    · exact Nat.le_refl _
    · simp
  · exact Nat.le_refl _
theorem thr_len (ks : List (Nat × Nat)) : ∀ s : RSt, (thr rnx ks s).2.1.length ≤ s.2.1.length := by
  induction ks with
  | nil => intro s; exact Nat.le_refl _
  | cons p ks ih =>
    intro s
    have e : thr rnx (p :: ks) s = thr rnx ks (rnx p.1 p.2 s) := rfl
    rw [e]
    exact Nat.le_trans (ih _) (rdL_len _ _ _)
/-- how a record's reading ends -/
structure FinR (w : World) (kd : Nat → Nat) (len : Nat) (mk : List Value → Value) (s : RSt) (e : Ending) (w' : World) : Prop where
  ex : ∃ cs xs r, e = .returned (.tuple #[mk cs, .int .i64 r]) ∧ cs.length = len ∧ FldR w' w.heap.size kd cs xs ∧ (endE s.1 s.2.1 = 0 → r = 0 ∧ xs = s.2.2) ∧ (endE s.1 s.2.1 ≠ 0 → r = 80 ∧ xs = fun _ => 0)
  bel : Below w.heap.size w w'
theorem FldR.low {w : World} {B B' : Nat} {kd : Nat → Nat} {cs : List Value} {xs : Nat → Int} (h : FldR w B kd cs xs) (hB : B' ≤ B) : FldR w B' kd cs xs := fun o => ⟨(h o).1, (h o).2.1, fun hk => by
  obtain ⟨ao, n, c, h1, h2, h3⟩ := (h o).2.2 hk
  exact ⟨ao, n, c, h1, h2.low hB, h3⟩⟩
def mkA (cs : List Value) : Value := .agg cs.toArray
/-- what a variable of such fields begins with -/
def zk : Nat → Value
  | 0 => .int .u64 0
  | 1 => .bool false
  | _ => .slice none 0 0
abbrev zs (ks : List Nat) : List Value := ks.map zk
theorem fld0 (ks : List Nat) (w : World) (B : Nat) : FldR w B (fun o => ks.getD o 9) (zs ks) (fun _ => 0) := by
  intro o
  have h : ∀ k, k ≠ 9 → ks.getD o 9 = k → (zs ks)[o]? = some (zk k) := by
    intro k hk h
    have ho := kl_any ks h hk
    rw [List.getD_eq_getElem?_getD, List.getElem?_eq_getElem ho] at h
    rw [List.getElem?_map, List.getElem?_eq_getElem ho]
    exact congrArg (fun x => some (zk x)) h
  exact ⟨fun k => h 0 (by decide) k, fun k => ⟨false, h 1 (by decide) k, rfl⟩, fun k => ⟨none, 0, 0, h 2 (by decide) k, natW_nil _ _, by decide⟩⟩
theorem fld_one {w : World} {B : Nat} {ks : List Nat} {cs : List Value} {xs : Nat → Int} (F : FldR w B (fun o => ks.getD o 9) cs xs) (hc : cs.length = ks.length) (hk : ∀ k ∈ ks, k < 3) : cs.all (·.oneCell') = true := by
  rw [List.all_eq_true]
  intro v hv
  obtain ⟨o, ho, rfl⟩ := List.mem_iff_getElem.1 hv
  have hlt := hk (ks[o]'(by omega)) (List.getElem_mem _)
  have hd : ks.getD o 9 = ks[o]'(by omega) := by rw [List.getD_eq_getElem?_getD, List.getElem?_eq_getElem (by omega)]; rfl
  have hg := List.getElem?_eq_getElem ho
  obtain ⟨h0, h1, h2⟩ := F o
  rw [hg] at h0 h1 h2
  rcases (show ks[o]'(by omega) = 0 ∨ ks[o]'(by omega) = 1 ∨ ks[o]'(by omega) = 2 by omega) with e | e | e
  · rw [Option.some.inj (h0 (hd.trans e))]; rfl
  · obtain ⟨b, hb, -⟩ := h1 (hd.trans e)
    rw [Option.some.inj hb]; rfl
  · obtain ⟨a, n, c, hb, -⟩ := h2 (hd.trans e)
    rw [Option.some.inj hb]; rfl
theorem rd_len (ks : List (Nat × Nat)) {l : List Int} {n : Nat} (hn : n ≤ 1000000000) (hl : l.length = n) : (thr rnx ks (0, l, fun _ => (0 : Int))).2.1.length ≤ 9223372036854775807 := by
  have h : (thr rnx ks (0, l, fun _ => (0 : Int))).2.1.length ≤ l.length := thr_len ks (0, l, fun _ => (0 : Int))
  omega
section
variable {w v1 v2 v3 v4 v5 v6 v7 v8 v9 : World} {g g1 g2 g3 g5 b' B : Nat} {T vt : TypeId} {l : List Int} {ks : List Nat} {cs : List Value} {st : RSt}
/-- ahead of the hands -/
theorem rd_pre (X1 : Blk v1 g1 (zs ks) T) (h1 : w.heap.size ≤ g1) (B1 : Below w.heap.size w v1) (X2 : Blk v2 g2 (zs ks) T) (h2 : v1.heap.size ≤ g2) (B2 : Below v1.heap.size v1 v2) (X3 : Blk v3 g3 (zs ks) T) (h3 : v2.heap.size ≤ g3) (B3 : Below v2.heap.size v2 v3) (X4 : RdA v4 g b' 0 l) (hg : v3.heap.size ≤ g) (hb : v3.heap.size ≤ b') (hb2 : b' < v4.heap.size) (B4 : Below v3.heap.size v3 v4) (h5 : v4.heap.size ≤ g5) (B5 : Below v4.heap.size v4 v5) (Y : Blk v6 g5 [.pointer (some ⟨g, 0, none⟩)] vt) (C : Chg (· = g5) v5 v6) :
    (RI w v6.heap.size g b' g5 g2 (fun o => ks.getD o 9) ks.length T vt (0, l, fun _ => (0 : Int)) v6 ∧ v6.heap.size ≤ v6.heap.size) ∧ Blk v6 g1 (zs ks) T ∧ Blk v6 g3 (zs ks) T ∧ g1 ≠ g ∧ g1 ≠ g2 ∧ g3 ≠ g ∧ g3 ≠ g2 ∧ w.heap.size ≤ g1 ∧ g1 < v6.heap.size := by
  have a1 := X1.lt
  have a2 := X2.lt
  have a3 := X3.lt
  have a4 := X4.lt
  have s1 := B1.size
  have s2 := B2.size
  have s3 := B3.size
  have s4 := B4.size
  have s5 := B5.size
  have s6 := C.size
  have hC := joinB B4 B5
  have hS : But g5 v5 v6 := ⟨C.os, C.tape, C.output, C.size, fun b hb hne => C.same b hb hne⟩
  refine ⟨⟨⟨(X4.keep B5).offW (by omega) (by omega) hS, Y, ⟨_, by simp, ((X2.keep B3).keep hC).chg C (show g2 ≠ g5 by omega), fld0 ks _ _⟩, belowC (joinB (joinB (joinB B1 B2) B3) hC) C (by omega), by omega, by omega, by omega, by omega, by omega, by omega, by omega, by omega⟩, Nat.le_refl _⟩, (((X1.keep B2).keep B3).keep hC).chg C (show g1 ≠ g5 by omega), (X3.keep hC).chg C (show g3 ≠ g5 by omega), by omega, by omega, by omega, by omega, by omega, by omega⟩
theorem rd_mid (K1 : Blk v6 g1 (zs ks) T) (K3 : Blk v6 g3 (zs ks) T) (n1 : g1 ≠ g) (n2 : g1 ≠ g2) (n3 : g3 ≠ g) (n4 : g3 ≠ g2) (C : Chg (fun y => y = g ∨ y = g2) v6 v7) (R : Blk v7 g2 cs T) (n5 : g2 ≠ g) (C7 : But g v7 v8) : Blk v8 g1 (zs ks) T ∧ Blk v8 g2 cs T ∧ Blk v8 g3 (zs ks) T :=
  ⟨(K1.chg C (fun h => h.elim n1 n2)).chg (But.chg C7) n1, R.chg (But.chg C7) n5, (K3.chg C (fun h => h.elim n3 n4)).chg (But.chg C7) n3⟩
theorem rd_fin (I : RI w B g b' g5 g2 (fun o => ks.getD o 9) ks.length T vt st v7) (C7 : But g v7 v8) (C : Chg (· = g1) v8 v9) (h1 : w.heap.size ≤ g1) (h2 : g1 < B) {xs : Nat → Int} (F : FldR v7 B (fun o => ks.getD o 9) cs xs) : FldR v9 w.heap.size (fun o => ks.getD o 9) cs xs ∧ Below w.heap.size w v9 := by
  have := I.g1
  refine ⟨((F.off C7.size (fun y hy hy2 => C7.block y hy2 (by omega))).off C.size (fun y hy hy2 => C.same y hy2 (fun e => by have e' : y = g1 := e; omega))).low (by omega), belowC (C7.below I.bel I.g0 (Nat.le_refl _)) C h1⟩
end
theorem ls1 {cs : List Value} (h : cs.length = 1) : ∃ y0, cs = [y0] := match cs, h with
  | [y0], _ => ⟨y0, rfl⟩
theorem ls2 {cs : List Value} (h : cs.length = 2) : ∃ y0 y1, cs = [y0, y1] := match cs, h with
  | [y0, y1], _ => ⟨y0, y1, rfl⟩
theorem ls10 {cs : List Value} (h : cs.length = 10) : ∃ y0 y1 y2 y3 y4 y5 y6 y7 y8 y9, cs = [y0, y1, y2, y3, y4, y5, y6, y7, y8, y9] := match cs, h with
  | [y0, y1, y2, y3, y4, y5, y6, y7, y8, y9], _ => ⟨y0, y1, y2, y3, y4, y5, y6, y7, y8, y9, rfl⟩
theorem read_Params {w : World} {bb n c : Nat} {ao : Option Addr} {l : List Int} (A : ByA w bb ao n c l) (hn : n ≤ 1000000000) (hl : l.length = n) :
    Calls Tryz.prog 191 #[.slice ao n c, .func (.func 128) #[] #[]] w (FinR w kd_Params 10 mkA (thr rnx [(0, 0), (0, 1), (0, 2), (0, 3), (0, 4), (0, 5), (0, 6), (0, 7), (0, 8), (0, 9)] (0, l, fun _ => (0 : Int)))) := by
  refine gc_enter (n := 22) Tryz.func191 rfl (by kernel_rfl) (by kernel_rfl) ?_
  refine gc_seq ?_
  refine gc_reg ?_
  refine ta 4 (zs [0, 0, 0, 0, 0, 0, 0, 0, 0, 0]) 24 (pg) ?_
  intro v1 g1 X1 h1 B1
  refine t 5 (.int .i64 0) ?_
  refine gl_nil ?_
  refine ge_then ?_
  refine gc_seq ?_
  refine gc_reg ?_
  refine ta 6 (zs [0, 0, 0, 0, 0, 0, 0, 0, 0, 0]) 24 (pg) ?_
  intro v2 g2 X2 h2 B2
  refine ta 7 (zs [0, 0, 0, 0, 0, 0, 0, 0, 0, 0]) 24 (pg) ?_
  intro v3 g3 X3 h3 B3
  refine gl_nil ?_
  refine ge_then ?_
  refine gc_seq ?_
  refine gc_reg ?_
  refine t 9 (.slice ao n c) ?_
  refine tc 10 44 #[.slice ao n c] (rdNew2 (A.keep (joinB (joinB B1 B2) B3)) (by omega)) ?_
  rintro _ v4 ⟨g, b', rfl, ⟨hg, hb', hb2⟩, X4, B4⟩
  refine ⟨_, rfl, ?_⟩
  refine ta 8 [.pointer none] 105 (pg) ?_
  intro v5 g5 X5 h5 B5
  refine ts X5 0 (pg g) [pg g] [pg g] ?_
  intro v6 Y C
  obtain ⟨I, K1, K3, n1, n2, n3, n4, n5, n6⟩ := rd_pre X1 h1 B1 X2 h2 B2 X3 h3 B3 X4 hg hb' hb2 B4 h5 B5 Y C
  refine gl_nil ?_
  refine ge_then ?_
  refine gc_seq ?_
  refine gc_reg ?_
  refine t 11 (.func (.func 128) #[] #[]) ?_
  refine t 12 (.func (.func 238) #[] #[pg g5]) ?_
  refine t 13 (.func (.func 239) #[] #[pg g5]) ?_
  refine t 14 (.func (.func 240) #[] #[pg g5]) ?_
  refine t 15 (.agg (hq 238 239 240 (pg g5)).toArray) ?_
  refine tc 16 128 #[pg g2, .agg (hq 238 239 240 (pg g5)).toArray] (ofParams_any (rhc_any [0, 0, 0, 0, 0, 0, 0, 0, 0, 0] ⟨⟨_, Tryz.func238, rfl, rfl, rfl⟩, fun _ _ => by kernel_rfl⟩ ⟨⟨_, Tryz.func239, rfl, rfl, rfl⟩, fun _ _ => by kernel_rfl⟩ ⟨⟨_, Tryz.func240, rfl, rfl, rfl⟩, fun _ _ => by kernel_rfl⟩) I (by decide) trivial) ?_
  rintro _ v7 ⟨rfl, ⟨I, -⟩, C⟩
  refine ⟨_, rfl, ?_⟩
  obtain ⟨cs, hc, R, F⟩ := I.rc
  obtain ⟨y0, y1, y2, y3, y4, y5, y6, y7, y8, y9, rfl⟩ := ls10 hc
  refine gl_nil ?_
  refine ge_then ?_
  refine gc_seq ?_
  refine gc_seq ?_
  refine gc_reg ?_
  refine tl 17 (pg g) I.var 0 ?_
  refine tc 18 49 #[pg g] (rdEnd I.rd (rd_len _ hn hl)) ?_
  rintro _ v8 ⟨rfl, -, B7⟩
  refine ⟨_, rfl, ?_⟩
  obtain ⟨K1, K2, K3⟩ := rd_mid K1 K3 n1 n2 n3 n4 C R I.s1 B7
  generalize thr rnx [(0, 0), (0, 1), (0, 2), (0, 3), (0, 4), (0, 5), (0, 6), (0, 7), (0, 8), (0, 9)] (0, l, fun _ => (0 : Int)) = st at *
  by_cases hE : endE st.1 st.2.1 = 0
  · refine tq 19 (.bool (endE st.1 st.2.1 != 0)) (.bool false) (congrArg Value.bool (bne_eq_false_iff_eq.2 hE)) ?_
    refine gl_nil ?_
    refine ge_then ?_
    refine gc_no ?_
    refine gc_skip ?_
    refine ge_then ?_
    refine gc_seq ?_
    refine gc_reg ?_
    refine tlr 21 [y0, y1, y2, y3, y4, y5, y6, y7, y8, y9] K2 0 ?_
    refine ts K1 0 (.agg ([y0, y1, y2, y3, y4, y5, y6, y7, y8, y9]).toArray) [y0, y1, y2, y3, y4, y5, y6, y7, y8, y9] [y0, y1, y2, y3, y4, y5, y6, y7, y8, y9] ?_ (h1 := fld_one F hc (by decide))
    intro v9 Y C
    refine t 5 (.int .i64 0) ?_
    refine gl_nil ?_
    refine ge_then ?_
    refine gc_ret ?_
    refine ge_ret (.tuple #[.agg ([y0, y1, y2, y3, y4, y5, y6, y7, y8, y9]).toArray, .int .i64 0]) (rsct 4 5 (T := 24) (by kernel_rfl) (by kernel_rfl) (by kernel_rfl) (lr Y 0)) ?_
    obtain ⟨F, B⟩ := rd_fin I B7 C n5 n6 F
    exact ⟨⟨_, _, 0, rfl, rfl, F, fun _ => ⟨rfl, rfl⟩, fun h => absurd hE h⟩, B⟩
  · refine tq 19 (.bool (endE st.1 st.2.1 != 0)) (.bool true) (congrArg Value.bool (bne_iff_ne.2 hE)) ?_
    refine gl_nil ?_
    refine ge_then ?_
    refine gc_yes ?_
    refine gc_seq ?_
    refine gc_reg ?_
    refine tlr 20 (zs [0, 0, 0, 0, 0, 0, 0, 0, 0, 0]) K3 0 ?_
    refine ts K1 0 (.agg ((zs [0, 0, 0, 0, 0, 0, 0, 0, 0, 0])).toArray) (zs [0, 0, 0, 0, 0, 0, 0, 0, 0, 0]) (zs [0, 0, 0, 0, 0, 0, 0, 0, 0, 0]) ?_
    intro v9 Y C
    refine t 5 (.int .i64 80) ?_
    refine gl_nil ?_
    refine ge_then ?_
    refine gc_ret ?_
    refine ge_tr ?_
    refine ge_ret (.tuple #[.agg ((zs [0, 0, 0, 0, 0, 0, 0, 0, 0, 0])).toArray, .int .i64 80]) (rsct 4 5 (T := 24) (by kernel_rfl) (by kernel_rfl) (by kernel_rfl) (lr Y 0)) ?_
    obtain ⟨F, B⟩ := rd_fin I B7 C n5 n6 (fld0 [0, 0, 0, 0, 0, 0, 0, 0, 0, 0] _ _)
    exact ⟨⟨_, _, 80, rfl, rfl, F, fun h => absurd h hE, fun _ => ⟨rfl, rfl⟩⟩, B⟩
theorem read_Pool {w : World} {bb n c : Nat} {ao : Option Addr} {l : List Int} (A : ByA w bb ao n c l) (hn : n ≤ 1000000000) (hl : l.length = n) :
    Calls Tryz.prog 364 #[.slice ao n c, .func (.func 363) #[] #[]] w (FinR w kd_Pool 1 mkA (thr rnx [(2, 0)] (0, l, fun _ => (0 : Int)))) := by
  refine gc_enter (n := 22) Tryz.func364 rfl (by kernel_rfl) (by kernel_rfl) ?_
  refine gc_seq ?_
  refine gc_reg ?_
  refine ta 4 (zs [2]) 55 (pg) ?_
  intro v1 g1 X1 h1 B1
  refine t 5 (.int .i64 0) ?_
  refine gl_nil ?_
  refine ge_then ?_
  refine gc_seq ?_
  refine gc_reg ?_
  refine ta 6 (zs [2]) 55 (pg) ?_
  intro v2 g2 X2 h2 B2
  refine ta 7 (zs [2]) 55 (pg) ?_
  intro v3 g3 X3 h3 B3
  refine gl_nil ?_
  refine ge_then ?_
  refine gc_seq ?_
  refine gc_reg ?_
  refine t 9 (.slice ao n c) ?_
  refine tc 10 44 #[.slice ao n c] (rdNew2 (A.keep (joinB (joinB B1 B2) B3)) (by omega)) ?_
  rintro _ v4 ⟨g, b', rfl, ⟨hg, hb', hb2⟩, X4, B4⟩
  refine ⟨_, rfl, ?_⟩
  refine ta 8 [.pointer none] 105 (pg) ?_
  intro v5 g5 X5 h5 B5
  refine ts X5 0 (pg g) [pg g] [pg g] ?_
  intro v6 Y C
  obtain ⟨I, K1, K3, n1, n2, n3, n4, n5, n6⟩ := rd_pre X1 h1 B1 X2 h2 B2 X3 h3 B3 X4 hg hb' hb2 B4 h5 B5 Y C
  refine gl_nil ?_
  refine ge_then ?_
  refine gc_seq ?_
  refine gc_reg ?_
  refine t 11 (.func (.func 363) #[] #[]) ?_
  refine t 12 (.func (.func 385) #[] #[pg g5]) ?_
  refine t 13 (.func (.func 386) #[] #[pg g5]) ?_
  refine t 14 (.func (.func 387) #[] #[pg g5]) ?_
  refine t 15 (.agg (hq 385 386 387 (pg g5)).toArray) ?_
  refine tc 16 363 #[pg g2, .agg (hq 385 386 387 (pg g5)).toArray] (ofPool_any (rhc_any [2] ⟨⟨_, Tryz.func385, rfl, rfl, rfl⟩, fun _ _ => by kernel_rfl⟩ ⟨⟨_, Tryz.func386, rfl, rfl, rfl⟩, fun _ _ => by kernel_rfl⟩ ⟨⟨_, Tryz.func387, rfl, rfl, rfl⟩, fun _ _ => by kernel_rfl⟩) I (by decide) trivial) ?_
  rintro _ v7 ⟨rfl, ⟨I, -⟩, C⟩
  refine ⟨_, rfl, ?_⟩
  obtain ⟨cs, hc, R, F⟩ := I.rc
  obtain ⟨y0, rfl⟩ := ls1 hc
  refine gl_nil ?_
  refine ge_then ?_
  refine gc_seq ?_
  refine gc_seq ?_
  refine gc_reg ?_
  refine tl 17 (pg g) I.var 0 ?_
  refine tc 18 49 #[pg g] (rdEnd I.rd (rd_len _ hn hl)) ?_
  rintro _ v8 ⟨rfl, -, B7⟩
  refine ⟨_, rfl, ?_⟩
  obtain ⟨K1, K2, K3⟩ := rd_mid K1 K3 n1 n2 n3 n4 C R I.s1 B7
  generalize thr rnx [(2, 0)] (0, l, fun _ => (0 : Int)) = st at *
  by_cases hE : endE st.1 st.2.1 = 0
  · refine tq 19 (.bool (endE st.1 st.2.1 != 0)) (.bool false) (congrArg Value.bool (bne_eq_false_iff_eq.2 hE)) ?_
    refine gl_nil ?_
    refine ge_then ?_
    refine gc_no ?_
    refine gc_skip ?_
    refine ge_then ?_
    refine gc_seq ?_
    refine gc_reg ?_
    refine tlr 21 [y0] K2 0 ?_
    refine ts K1 0 (.agg ([y0]).toArray) [y0] [y0] ?_ (h1 := fld_one F hc (by decide))
    intro v9 Y C
    refine t 5 (.int .i64 0) ?_
    refine gl_nil ?_
    refine ge_then ?_
    refine gc_ret ?_
    refine ge_ret (.tuple #[.agg ([y0]).toArray, .int .i64 0]) (rsct 4 5 (T := 55) (by kernel_rfl) (by kernel_rfl) (by kernel_rfl) (lr Y 0)) ?_
    obtain ⟨F, B⟩ := rd_fin I B7 C n5 n6 F
    exact ⟨⟨_, _, 0, rfl, rfl, F, fun _ => ⟨rfl, rfl⟩, fun h => absurd hE h⟩, B⟩
  · refine tq 19 (.bool (endE st.1 st.2.1 != 0)) (.bool true) (congrArg Value.bool (bne_iff_ne.2 hE)) ?_
    refine gl_nil ?_
    refine ge_then ?_
    refine gc_yes ?_
    refine gc_seq ?_
    refine gc_reg ?_
    refine tlr 20 (zs [2]) K3 0 ?_
    refine ts K1 0 (.agg ((zs [2])).toArray) (zs [2]) (zs [2]) ?_
    intro v9 Y C
    refine t 5 (.int .i64 80) ?_
    refine gl_nil ?_
    refine ge_then ?_
    refine gc_ret ?_
    refine ge_tr ?_
    refine ge_ret (.tuple #[.agg ((zs [2])).toArray, .int .i64 80]) (rsct 4 5 (T := 55) (by kernel_rfl) (by kernel_rfl) (by kernel_rfl) (lr Y 0)) ?_
    obtain ⟨F, B⟩ := rd_fin I B7 C n5 n6 (fld0 [2] _ _)
    exact ⟨⟨_, _, 80, rfl, rfl, F, fun h => absurd h hE, fun _ => ⟨rfl, rfl⟩⟩, B⟩
theorem read_Account {w : World} {bb n c : Nat} {ao : Option Addr} {l : List Int} (A : ByA w bb ao n c l) (hn : n ≤ 1000000000) (hl : l.length = n) :
    Calls Tryz.prog 73 #[.slice ao n c, .func (.func 74) #[] #[]] w (FinR w kd_Account 2 mkA (thr rnx [(0, 0), (0, 1)] (0, l, fun _ => (0 : Int)))) := by
  refine gc_enter (n := 22) Tryz.func73 rfl (by kernel_rfl) (by kernel_rfl) ?_
  refine gc_seq ?_
  refine gc_reg ?_
  refine ta 4 (zs [0, 0]) 50 (pg) ?_
  intro v1 g1 X1 h1 B1
  refine t 5 (.int .i64 0) ?_
  refine gl_nil ?_
  refine ge_then ?_
  refine gc_seq ?_
  refine gc_reg ?_
  refine ta 6 (zs [0, 0]) 50 (pg) ?_
  intro v2 g2 X2 h2 B2
  refine ta 7 (zs [0, 0]) 50 (pg) ?_
  intro v3 g3 X3 h3 B3
  refine gl_nil ?_
  refine ge_then ?_
  refine gc_seq ?_
  refine gc_reg ?_
  refine t 9 (.slice ao n c) ?_
  refine tc 10 44 #[.slice ao n c] (rdNew2 (A.keep (joinB (joinB B1 B2) B3)) (by omega)) ?_
  rintro _ v4 ⟨g, b', rfl, ⟨hg, hb', hb2⟩, X4, B4⟩
  refine ⟨_, rfl, ?_⟩
  refine ta 8 [.pointer none] 105 (pg) ?_
  intro v5 g5 X5 h5 B5
  refine ts X5 0 (pg g) [pg g] [pg g] ?_
  intro v6 Y C
  obtain ⟨I, K1, K3, n1, n2, n3, n4, n5, n6⟩ := rd_pre X1 h1 B1 X2 h2 B2 X3 h3 B3 X4 hg hb' hb2 B4 h5 B5 Y C
  refine gl_nil ?_
  refine ge_then ?_
  refine gc_seq ?_
  refine gc_reg ?_
  refine t 11 (.func (.func 74) #[] #[]) ?_
  refine t 12 (.func (.func 111) #[] #[pg g5]) ?_
  refine t 13 (.func (.func 112) #[] #[pg g5]) ?_
  refine t 14 (.func (.func 114) #[] #[pg g5]) ?_
  refine t 15 (.agg (hq 111 112 114 (pg g5)).toArray) ?_
  refine tc 16 74 #[pg g2, .agg (hq 111 112 114 (pg g5)).toArray] (ofAccount_any (rhc_any [0, 0] ⟨⟨_, Tryz.func111, rfl, rfl, rfl⟩, fun _ _ => by kernel_rfl⟩ ⟨⟨_, Tryz.func112, rfl, rfl, rfl⟩, fun _ _ => by kernel_rfl⟩ ⟨⟨_, Tryz.func114, rfl, rfl, rfl⟩, fun _ _ => by kernel_rfl⟩) I (by decide) trivial) ?_
  rintro _ v7 ⟨rfl, ⟨I, -⟩, C⟩
  refine ⟨_, rfl, ?_⟩
  obtain ⟨cs, hc, R, F⟩ := I.rc
  obtain ⟨y0, y1, rfl⟩ := ls2 hc
  refine gl_nil ?_
  refine ge_then ?_
  refine gc_seq ?_
  refine gc_seq ?_
  refine gc_reg ?_
  refine tl 17 (pg g) I.var 0 ?_
  refine tc 18 49 #[pg g] (rdEnd I.rd (rd_len _ hn hl)) ?_
  rintro _ v8 ⟨rfl, -, B7⟩
  refine ⟨_, rfl, ?_⟩
  obtain ⟨K1, K2, K3⟩ := rd_mid K1 K3 n1 n2 n3 n4 C R I.s1 B7
  generalize thr rnx [(0, 0), (0, 1)] (0, l, fun _ => (0 : Int)) = st at *
  by_cases hE : endE st.1 st.2.1 = 0
  · refine tq 19 (.bool (endE st.1 st.2.1 != 0)) (.bool false) (congrArg Value.bool (bne_eq_false_iff_eq.2 hE)) ?_
    refine gl_nil ?_
    refine ge_then ?_
    refine gc_no ?_
    refine gc_skip ?_
    refine ge_then ?_
    refine gc_seq ?_
    refine gc_reg ?_
    refine tlr 21 [y0, y1] K2 0 ?_
    refine ts K1 0 (.agg ([y0, y1]).toArray) [y0, y1] [y0, y1] ?_ (h1 := fld_one F hc (by decide))
    intro v9 Y C
    refine t 5 (.int .i64 0) ?_
    refine gl_nil ?_
    refine ge_then ?_
    refine gc_ret ?_
    refine ge_ret (.tuple #[.agg ([y0, y1]).toArray, .int .i64 0]) (rsct 4 5 (T := 50) (by kernel_rfl) (by kernel_rfl) (by kernel_rfl) (lr Y 0)) ?_
    obtain ⟨F, B⟩ := rd_fin I B7 C n5 n6 F
    exact ⟨⟨_, _, 0, rfl, rfl, F, fun _ => ⟨rfl, rfl⟩, fun h => absurd hE h⟩, B⟩
  · refine tq 19 (.bool (endE st.1 st.2.1 != 0)) (.bool true) (congrArg Value.bool (bne_iff_ne.2 hE)) ?_
    refine gl_nil ?_
    refine ge_then ?_
    refine gc_yes ?_
    refine gc_seq ?_
    refine gc_reg ?_
    refine tlr 20 (zs [0, 0]) K3 0 ?_
    refine ts K1 0 (.agg ((zs [0, 0])).toArray) (zs [0, 0]) (zs [0, 0]) ?_
    intro v9 Y C
    refine t 5 (.int .i64 80) ?_
    refine gl_nil ?_
    refine ge_then ?_
    refine gc_ret ?_
    refine ge_tr ?_
    refine ge_ret (.tuple #[.agg ((zs [0, 0])).toArray, .int .i64 80]) (rsct 4 5 (T := 50) (by kernel_rfl) (by kernel_rfl) (by kernel_rfl) (lr Y 0)) ?_
    obtain ⟨F, B⟩ := rd_fin I B7 C n5 n6 (fld0 [0, 0] _ _)
    exact ⟨⟨_, _, 80, rfl, rfl, F, fun h => absurd h hE, fun _ => ⟨rfl, rfl⟩⟩, B⟩
theorem read_Val {w : World} {bb n c : Nat} {ao : Option Addr} {l : List Int} (A : ByA w bb ao n c l) (hn : n ≤ 1000000000) (hl : l.length = n) :
    Calls Tryz.prog 76 #[.slice ao n c, .func (.func 77) #[] #[]] w (FinR w kd_Val 10 mkA (thr rnx [(0, 0), (0, 1), (2, 2), (1, 3), (0, 4), (1, 5), (0, 6), (2, 7), (2, 8), (2, 9)] (0, l, fun _ => (0 : Int)))) := by
  refine gc_enter (n := 22) Tryz.func76 rfl (by kernel_rfl) (by kernel_rfl) ?_
  refine gc_seq ?_
  refine gc_reg ?_
  refine ta 4 (zs [0, 0, 2, 1, 0, 1, 0, 2, 2, 2]) 57 (pg) ?_
  intro v1 g1 X1 h1 B1
  refine t 5 (.int .i64 0) ?_
  refine gl_nil ?_
  refine ge_then ?_
  refine gc_seq ?_
  refine gc_reg ?_
  refine ta 6 (zs [0, 0, 2, 1, 0, 1, 0, 2, 2, 2]) 57 (pg) ?_
  intro v2 g2 X2 h2 B2
  refine ta 7 (zs [0, 0, 2, 1, 0, 1, 0, 2, 2, 2]) 57 (pg) ?_
  intro v3 g3 X3 h3 B3
  refine gl_nil ?_
  refine ge_then ?_
  refine gc_seq ?_
  refine gc_reg ?_
  refine t 9 (.slice ao n c) ?_
  refine tc 10 44 #[.slice ao n c] (rdNew2 (A.keep (joinB (joinB B1 B2) B3)) (by omega)) ?_
  rintro _ v4 ⟨g, b', rfl, ⟨hg, hb', hb2⟩, X4, B4⟩
  refine ⟨_, rfl, ?_⟩
  refine ta 8 [.pointer none] 105 (pg) ?_
  intro v5 g5 X5 h5 B5
  refine ts X5 0 (pg g) [pg g] [pg g] ?_
  intro v6 Y C
  obtain ⟨I, K1, K3, n1, n2, n3, n4, n5, n6⟩ := rd_pre X1 h1 B1 X2 h2 B2 X3 h3 B3 X4 hg hb' hb2 B4 h5 B5 Y C
  refine gl_nil ?_
  refine ge_then ?_
  refine gc_seq ?_
  refine gc_reg ?_
  refine t 11 (.func (.func 77) #[] #[]) ?_
  refine t 12 (.func (.func 117) #[] #[pg g5]) ?_
  refine t 13 (.func (.func 118) #[] #[pg g5]) ?_
  refine t 14 (.func (.func 119) #[] #[pg g5]) ?_
  refine t 15 (.agg (hq 117 118 119 (pg g5)).toArray) ?_
  refine tc 16 77 #[pg g2, .agg (hq 117 118 119 (pg g5)).toArray] (ofVal_any (rhc_any [0, 0, 2, 1, 0, 1, 0, 2, 2, 2] ⟨⟨_, Tryz.func117, rfl, rfl, rfl⟩, fun _ _ => by kernel_rfl⟩ ⟨⟨_, Tryz.func118, rfl, rfl, rfl⟩, fun _ _ => by kernel_rfl⟩ ⟨⟨_, Tryz.func119, rfl, rfl, rfl⟩, fun _ _ => by kernel_rfl⟩) I (by decide) trivial) ?_
  rintro _ v7 ⟨rfl, ⟨I, -⟩, C⟩
  refine ⟨_, rfl, ?_⟩
  obtain ⟨cs, hc, R, F⟩ := I.rc
  obtain ⟨y0, y1, y2, y3, y4, y5, y6, y7, y8, y9, rfl⟩ := ls10 hc
  refine gl_nil ?_
  refine ge_then ?_
  refine gc_seq ?_
  refine gc_seq ?_
  refine gc_reg ?_
  refine tl 17 (pg g) I.var 0 ?_
  refine tc 18 49 #[pg g] (rdEnd I.rd (rd_len _ hn hl)) ?_
  rintro _ v8 ⟨rfl, -, B7⟩
  refine ⟨_, rfl, ?_⟩
  obtain ⟨K1, K2, K3⟩ := rd_mid K1 K3 n1 n2 n3 n4 C R I.s1 B7
  generalize thr rnx [(0, 0), (0, 1), (2, 2), (1, 3), (0, 4), (1, 5), (0, 6), (2, 7), (2, 8), (2, 9)] (0, l, fun _ => (0 : Int)) = st at *
  by_cases hE : endE st.1 st.2.1 = 0
  · refine tq 19 (.bool (endE st.1 st.2.1 != 0)) (.bool false) (congrArg Value.bool (bne_eq_false_iff_eq.2 hE)) ?_
    refine gl_nil ?_
    refine ge_then ?_
    refine gc_no ?_
    refine gc_skip ?_
    refine ge_then ?_
    refine gc_seq ?_
    refine gc_reg ?_
    refine tlr 21 [y0, y1, y2, y3, y4, y5, y6, y7, y8, y9] K2 0 ?_
    refine ts K1 0 (.agg ([y0, y1, y2, y3, y4, y5, y6, y7, y8, y9]).toArray) [y0, y1, y2, y3, y4, y5, y6, y7, y8, y9] [y0, y1, y2, y3, y4, y5, y6, y7, y8, y9] ?_ (h1 := fld_one F hc (by decide))
    intro v9 Y C
    refine t 5 (.int .i64 0) ?_
    refine gl_nil ?_
    refine ge_then ?_
    refine gc_ret ?_
    refine ge_ret (.tuple #[.agg ([y0, y1, y2, y3, y4, y5, y6, y7, y8, y9]).toArray, .int .i64 0]) (rsct 4 5 (T := 57) (by kernel_rfl) (by kernel_rfl) (by kernel_rfl) (lr Y 0)) ?_
    obtain ⟨F, B⟩ := rd_fin I B7 C n5 n6 F
    exact ⟨⟨_, _, 0, rfl, rfl, F, fun _ => ⟨rfl, rfl⟩, fun h => absurd hE h⟩, B⟩
  · refine tq 19 (.bool (endE st.1 st.2.1 != 0)) (.bool true) (congrArg Value.bool (bne_iff_ne.2 hE)) ?_
    refine gl_nil ?_
    refine ge_then ?_
    refine gc_yes ?_
    refine gc_seq ?_
    refine gc_reg ?_
    refine tlr 20 (zs [0, 0, 2, 1, 0, 1, 0, 2, 2, 2]) K3 0 ?_
    refine ts K1 0 (.agg ((zs [0, 0, 2, 1, 0, 1, 0, 2, 2, 2])).toArray) (zs [0, 0, 2, 1, 0, 1, 0, 2, 2, 2]) (zs [0, 0, 2, 1, 0, 1, 0, 2, 2, 2]) ?_
    intro v9 Y C
    refine t 5 (.int .i64 80) ?_
    refine gl_nil ?_
    refine ge_then ?_
    refine gc_ret ?_
    refine ge_tr ?_
    refine ge_ret (.tuple #[.agg ((zs [0, 0, 2, 1, 0, 1, 0, 2, 2, 2])).toArray, .int .i64 80]) (rsct 4 5 (T := 57) (by kernel_rfl) (by kernel_rfl) (by kernel_rfl) (lr Y 0)) ?_
    obtain ⟨F, B⟩ := rd_fin I B7 C n5 n6 (fld0 [0, 0, 2, 1, 0, 1, 0, 2, 2, 2] _ _)
    exact ⟨⟨_, _, 80, rfl, rfl, F, fun h => absurd h hE, fun _ => ⟨rfl, rfl⟩⟩, B⟩
theorem read_History {w : World} {bb n c : Nat} {ao : Option Addr} {l : List Int} (A : ByA w bb ao n c l) (hn : n ≤ 1000000000) (hl : l.length = n) :
    Calls Tryz.prog 262 #[.slice ao n c, .func (.func 263) #[] #[]] w (FinR w kd_History 2 mkA (thr rnx [(2, 0), (0, 1)] (0, l, fun _ => (0 : Int)))) := by
  refine gc_enter (n := 22) Tryz.func262 rfl (by kernel_rfl) (by kernel_rfl) ?_
  refine gc_seq ?_
  refine gc_reg ?_
  refine ta 4 (zs [2, 0]) 272 (pg) ?_
  intro v1 g1 X1 h1 B1
  refine t 5 (.int .i64 0) ?_
  refine gl_nil ?_
  refine ge_then ?_
  refine gc_seq ?_
  refine gc_reg ?_
  refine ta 6 (zs [2, 0]) 272 (pg) ?_
  intro v2 g2 X2 h2 B2
  refine ta 7 (zs [2, 0]) 272 (pg) ?_
  intro v3 g3 X3 h3 B3
  refine gl_nil ?_
  refine ge_then ?_
  refine gc_seq ?_
  refine gc_reg ?_
  refine t 9 (.slice ao n c) ?_
  refine tc 10 44 #[.slice ao n c] (rdNew2 (A.keep (joinB (joinB B1 B2) B3)) (by omega)) ?_
  rintro _ v4 ⟨g, b', rfl, ⟨hg, hb', hb2⟩, X4, B4⟩
  refine ⟨_, rfl, ?_⟩
  refine ta 8 [.pointer none] 105 (pg) ?_
  intro v5 g5 X5 h5 B5
  refine ts X5 0 (pg g) [pg g] [pg g] ?_
  intro v6 Y C
  obtain ⟨I, K1, K3, n1, n2, n3, n4, n5, n6⟩ := rd_pre X1 h1 B1 X2 h2 B2 X3 h3 B3 X4 hg hb' hb2 B4 h5 B5 Y C
  refine gl_nil ?_
  refine ge_then ?_
  refine gc_seq ?_
  refine gc_reg ?_
  refine t 11 (.func (.func 263) #[] #[]) ?_
  refine t 12 (.func (.func 314) #[] #[pg g5]) ?_
  refine t 13 (.func (.func 315) #[] #[pg g5]) ?_
  refine t 14 (.func (.func 316) #[] #[pg g5]) ?_
  refine t 15 (.agg (hq 314 315 316 (pg g5)).toArray) ?_
  refine tc 16 263 #[pg g2, .agg (hq 314 315 316 (pg g5)).toArray] (ofHistory_any (rhc_any [2, 0] ⟨⟨_, Tryz.func314, rfl, rfl, rfl⟩, fun _ _ => by kernel_rfl⟩ ⟨⟨_, Tryz.func315, rfl, rfl, rfl⟩, fun _ _ => by kernel_rfl⟩ ⟨⟨_, Tryz.func316, rfl, rfl, rfl⟩, fun _ _ => by kernel_rfl⟩) I (by decide) trivial) ?_
  rintro _ v7 ⟨rfl, ⟨I, -⟩, C⟩
  refine ⟨_, rfl, ?_⟩
  obtain ⟨cs, hc, R, F⟩ := I.rc
  obtain ⟨y0, y1, rfl⟩ := ls2 hc
  refine gl_nil ?_
  refine ge_then ?_
  refine gc_seq ?_
  refine gc_seq ?_
  refine gc_reg ?_
  refine tl 17 (pg g) I.var 0 ?_
  refine tc 18 49 #[pg g] (rdEnd I.rd (rd_len _ hn hl)) ?_
  rintro _ v8 ⟨rfl, -, B7⟩
  refine ⟨_, rfl, ?_⟩
  obtain ⟨K1, K2, K3⟩ := rd_mid K1 K3 n1 n2 n3 n4 C R I.s1 B7
  generalize thr rnx [(2, 0), (0, 1)] (0, l, fun _ => (0 : Int)) = st at *
  by_cases hE : endE st.1 st.2.1 = 0
  · refine tq 19 (.bool (endE st.1 st.2.1 != 0)) (.bool false) (congrArg Value.bool (bne_eq_false_iff_eq.2 hE)) ?_
    refine gl_nil ?_
    refine ge_then ?_
    refine gc_no ?_
    refine gc_skip ?_
    refine ge_then ?_
    refine gc_seq ?_
    refine gc_reg ?_
    refine tlr 21 [y0, y1] K2 0 ?_
    refine ts K1 0 (.agg ([y0, y1]).toArray) [y0, y1] [y0, y1] ?_ (h1 := fld_one F hc (by decide))
    intro v9 Y C
    refine t 5 (.int .i64 0) ?_
    refine gl_nil ?_
    refine ge_then ?_
    refine gc_ret ?_
    refine ge_ret (.tuple #[.agg ([y0, y1]).toArray, .int .i64 0]) (rsct 4 5 (T := 272) (by kernel_rfl) (by kernel_rfl) (by kernel_rfl) (lr Y 0)) ?_
    obtain ⟨F, B⟩ := rd_fin I B7 C n5 n6 F
    exact ⟨⟨_, _, 0, rfl, rfl, F, fun _ => ⟨rfl, rfl⟩, fun h => absurd hE h⟩, B⟩
  · refine tq 19 (.bool (endE st.1 st.2.1 != 0)) (.bool true) (congrArg Value.bool (bne_iff_ne.2 hE)) ?_
    refine gl_nil ?_
    refine ge_then ?_
    refine gc_yes ?_
    refine gc_seq ?_
    refine gc_reg ?_
    refine tlr 20 (zs [2, 0]) K3 0 ?_
    refine ts K1 0 (.agg ((zs [2, 0])).toArray) (zs [2, 0]) (zs [2, 0]) ?_
    intro v9 Y C
    refine t 5 (.int .i64 80) ?_
    refine gl_nil ?_
    refine ge_then ?_
    refine gc_ret ?_
    refine ge_tr ?_
    refine ge_ret (.tuple #[.agg ((zs [2, 0])).toArray, .int .i64 80]) (rsct 4 5 (T := 272) (by kernel_rfl) (by kernel_rfl) (by kernel_rfl) (lr Y 0)) ?_
    obtain ⟨F, B⟩ := rd_fin I B7 C n5 n6 (fld0 [2, 0] _ _)
    exact ⟨⟨_, _, 80, rfl, rfl, F, fun h => absurd h hE, fun _ => ⟨rfl, rfl⟩⟩, B⟩
end Rc
end Go.Proofs.YtpoifdokmjhclaaGreat

namespace Go.Proofs.YtpoifdokmjhclaaGreat
namespace Rc
open Go.RowKit Go.Lib Pg Gl
attribute [local go_sem] Oper.semAt_some
set_option maxRecDepth 100000
theorem PutParams_any {w : World} {x0 : Int} {x1 : Int} {x2 : Int} {x3 : Int} {x4 : Int} {x5 : Int} {x6 : Int} {x7 : Int} {x8 : Int} {x9 : Int} :
    Calls Tryz.prog 88 #[.agg #[.int .u64 x0, .int .u64 x1, .int .u64 x2, .int .u64 x3, .int .u64 x4, .int .u64 x5, .int .u64 x6, .int .u64 x7, .int .u64 x8, .int .u64 x9]] w fun e w' => ∃ b n, e = .returned (.slice (some ⟨b, 0, none⟩) n n) ∧ n = (thr (pnx (fun o => ([x0, x1, x2, x3, x4, x5, x6, x7, x8, x9] : List Int).getD o 0)) [(0, 0), (0, 1), (0, 2), (0, 3), (0, 4), (0, 5), (0, 6), (0, 7), (0, 8), (0, 9)] []).length ∧ Box w' b ((thr (pnx (fun o => ([x0, x1, x2, x3, x4, x5, x6, x7, x8, x9] : List Int).getD o 0)) [(0, 0), (0, 1), (0, 2), (0, 3), (0, 4), (0, 5), (0, 6), (0, 7), (0, 8), (0, 9)] []).map (Value.int .u8)) 5 ∧ w.heap.size ≤ b ∧ Below w.heap.size w w' := by
  refine gc_enter (n := 5) Tryz.func88 rfl (by kernel_rfl) (by kernel_rfl) ?_
  refine gc_seq ?_
  refine gc_reg ?_
  refine ta 1 [.int .u64 x0, .int .u64 x1, .int .u64 x2, .int .u64 x3, .int .u64 x4, .int .u64 x5, .int .u64 x6, .int .u64 x7, .int .u64 x8, .int .u64 x9] 24 (pg) ?_
  intro v1 g1 X1 q1 B1
  refine t 2 (.slice none 0 0) ?_
  refine gl_nil ?_
  refine ge_then ?_
  refine gc_seq ?_
  refine gc_reg ?_
  refine tlr 3 [.int .u64 x0, .int .u64 x1, .int .u64 x2, .int .u64 x3, .int .u64 x4, .int .u64 x5, .int .u64 x6, .int .u64 x7, .int .u64 x8, .int .u64 x9] X1 0 ?_
  refine tc 4 127 #[.agg #[.int .u64 x0, .int .u64 x1, .int .u64 x2, .int .u64 x3, .int .u64 x4, .int .u64 x5, .int .u64 x6, .int .u64 x7, .int .u64 x8, .int .u64 x9], .func (.func 128) #[] #[]] (put_Params) ?_
  rintro _ v2 ⟨b, n, rfl, hn, X, hb, B2⟩
  refine ⟨_, rfl, ?_⟩
  refine t 2 (.slice (some ⟨b, 0, none⟩) n n) ?_
  refine gl_nil ?_
  refine ge_then ?_
  refine gc_ret ?_
  refine ge_ret (.slice (some ⟨b, 0, none⟩) n n) (rs1 2 (by kernel_rfl) (by kernel_rfl)) ?_
  exact ⟨b, n, rfl, hn, X, Nat.le_trans B1.size hb, joinB B1 B2⟩
theorem Params_any {w : World} {bb n c : Nat} {ao : Option Addr} {l : List Int} (A : ByA w bb ao n c l) (hn : n ≤ 1000000000) (hl : l.length = n) :
    Calls Tryz.prog 145 #[.slice ao n c] w (FinR w kd_Params 10 mkA (thr rnx [(0, 0), (0, 1), (0, 2), (0, 3), (0, 4), (0, 5), (0, 6), (0, 7), (0, 8), (0, 9)] (0, l, fun _ => (0 : Int)))) := by
  refine gc_enter (n := 8) Tryz.func145 rfl (by kernel_rfl) (by kernel_rfl) ?_
  refine gc_seq ?_
  refine gc_reg ?_
  refine ta 2 (zs [0, 0, 0, 0, 0, 0, 0, 0, 0, 0]) 24 (pg) ?_
  intro v1 g1 X1 q1 B1
  refine t 3 (.int .i64 0) ?_
  refine gl_nil ?_
  refine ge_then ?_
  refine gc_seq ?_
  refine gc_reg ?_
  refine t 4 (.slice ao n c) ?_
  refine tc 5 191 #[.slice ao n c, .func (.func 128) #[] #[]] (read_Params (A.keep B1) hn hl) ?_
  rintro _ v2 ⟨⟨cs, xs, r, rfl, hc, F, h3, h4⟩, B2⟩
  refine ⟨_, rfl, ?_⟩
  obtain ⟨y0, y1, y2, y3, y4, y5, y6, y7, y8, y9, rfl⟩ := ls10 hc
  have l1 := X1.lt
  refine t 6 (.agg ([y0, y1, y2, y3, y4, y5, y6, y7, y8, y9]).toArray) ?_
  refine t 7 (.int .i64 r) ?_
  refine ts (X1.keep B2) 0 (.agg ([y0, y1, y2, y3, y4, y5, y6, y7, y8, y9]).toArray) [y0, y1, y2, y3, y4, y5, y6, y7, y8, y9] [y0, y1, y2, y3, y4, y5, y6, y7, y8, y9] ?_ (h1 := fld_one (ks := [0, 0, 0, 0, 0, 0, 0, 0, 0, 0]) F hc (by decide))
  intro v3 Y C
  refine t 3 (.int .i64 r) ?_
  refine gl_nil ?_
  refine ge_then ?_
  refine gc_ret ?_
  refine ge_ret (.tuple #[.agg ([y0, y1, y2, y3, y4, y5, y6, y7, y8, y9]).toArray, .int .i64 r]) (rsct 2 3 (T := 24) (by kernel_rfl) (by kernel_rfl) (by kernel_rfl) (lr Y 0)) ?_
  exact ⟨⟨_, xs, r, rfl, rfl, (F.off C.size (fun y hy hy2 => C.same y hy2 (fun e => by have e' : y = g1 := e; omega))).low B1.size, h3, h4⟩, belowC (joinB B1 B2) C q1⟩
theorem PutChain_any {w : World} {x0 : Int} {x1 : Int} :
    Calls Tryz.prog 89 #[.agg #[.int .u64 x0, .int .u64 x1]] w fun e w' => ∃ b n, e = .returned (.slice (some ⟨b, 0, none⟩) n n) ∧ n = (thr (pnx (fun o => ([x0, x1] : List Int).getD o 0)) [(0, 0), (0, 1)] []).length ∧ Box w' b ((thr (pnx (fun o => ([x0, x1] : List Int).getD o 0)) [(0, 0), (0, 1)] []).map (Value.int .u8)) 5 ∧ w.heap.size ≤ b ∧ Below w.heap.size w w' := by
  refine gc_enter (n := 5) Tryz.func89 rfl (by kernel_rfl) (by kernel_rfl) ?_
  refine gc_seq ?_
  refine gc_reg ?_
  refine ta 1 [.int .u64 x0, .int .u64 x1] 138 (pg) ?_
  intro v1 g1 X1 q1 B1
  refine t 2 (.slice none 0 0) ?_
  refine gl_nil ?_
  refine ge_then ?_
  refine gc_seq ?_
  refine gc_reg ?_
  refine tlr 3 [.int .u64 x0, .int .u64 x1] X1 0 ?_
  refine tc 4 129 #[.agg #[.int .u64 x0, .int .u64 x1], .func (.func 130) #[] #[]] (put_Chain) ?_
  rintro _ v2 ⟨b, n, rfl, hn, X, hb, B2⟩
  refine ⟨_, rfl, ?_⟩
  refine t 2 (.slice (some ⟨b, 0, none⟩) n n) ?_
  refine gl_nil ?_
  refine ge_then ?_
  refine gc_ret ?_
  refine ge_ret (.slice (some ⟨b, 0, none⟩) n n) (rs1 2 (by kernel_rfl) (by kernel_rfl)) ?_
  exact ⟨b, n, rfl, hn, X, Nat.le_trans B1.size hb, joinB B1 B2⟩
theorem PutPool_any {w : World} {a0 : Option Addr} {n0 c0 : Nat} {x0 : Int} (h0 : NatA w a0 n0 c0 x0) (m0 : n0 ≤ 1000000) :
    Calls Tryz.prog 337 #[.agg #[.slice a0 n0 c0]] w fun e w' => ∃ b n, e = .returned (.slice (some ⟨b, 0, none⟩) n n) ∧ n = (thr (pnx (fun o => ([x0] : List Int).getD o 0)) [(2, 0)] []).length ∧ Box w' b ((thr (pnx (fun o => ([x0] : List Int).getD o 0)) [(2, 0)] []).map (Value.int .u8)) 5 ∧ w.heap.size ≤ b ∧ Below w.heap.size w w' := by
  refine gc_enter (n := 5) Tryz.func337 rfl (by kernel_rfl) (by kernel_rfl) ?_
  refine gc_seq ?_
  refine gc_reg ?_
  refine ta 1 [.slice a0 n0 c0] 55 (pg) ?_
  intro v1 g1 X1 q1 B1
  refine t 2 (.slice none 0 0) ?_
  refine gl_nil ?_
  refine ge_then ?_
  refine gc_seq ?_
  refine gc_reg ?_
  refine tlr 3 [.slice a0 n0 c0] X1 0 ?_
  refine tc 4 362 #[.agg #[.slice a0 n0 c0], .func (.func 363) #[] #[]] (put_Pool (h0.keep B1) m0) ?_
  rintro _ v2 ⟨b, n, rfl, hn, X, hb, B2⟩
  refine ⟨_, rfl, ?_⟩
  refine t 2 (.slice (some ⟨b, 0, none⟩) n n) ?_
  refine gl_nil ?_
  refine ge_then ?_
  refine gc_ret ?_
  refine ge_ret (.slice (some ⟨b, 0, none⟩) n n) (rs1 2 (by kernel_rfl) (by kernel_rfl)) ?_
  exact ⟨b, n, rfl, hn, X, Nat.le_trans B1.size hb, joinB B1 B2⟩
theorem Pool_any {w : World} {bb n c : Nat} {ao : Option Addr} {l : List Int} (A : ByA w bb ao n c l) (hn : n ≤ 1000000000) (hl : l.length = n) :
    Calls Tryz.prog 339 #[.slice ao n c] w (FinR w kd_Pool 1 mkA (thr rnx [(2, 0)] (0, l, fun _ => (0 : Int)))) := by
  refine gc_enter (n := 8) Tryz.func339 rfl (by kernel_rfl) (by kernel_rfl) ?_
  refine gc_seq ?_
  refine gc_reg ?_
  refine ta 2 (zs [2]) 55 (pg) ?_
  intro v1 g1 X1 q1 B1
  refine t 3 (.int .i64 0) ?_
  refine gl_nil ?_
  refine ge_then ?_
  refine gc_seq ?_
  refine gc_reg ?_
  refine t 4 (.slice ao n c) ?_
  refine tc 5 364 #[.slice ao n c, .func (.func 363) #[] #[]] (read_Pool (A.keep B1) hn hl) ?_
  rintro _ v2 ⟨⟨cs, xs, r, rfl, hc, F, h3, h4⟩, B2⟩
  refine ⟨_, rfl, ?_⟩
  obtain ⟨y0, rfl⟩ := ls1 hc
  have l1 := X1.lt
  refine t 6 (.agg ([y0]).toArray) ?_
  refine t 7 (.int .i64 r) ?_
  refine ts (X1.keep B2) 0 (.agg ([y0]).toArray) [y0] [y0] ?_ (h1 := fld_one (ks := [2]) F hc (by decide))
  intro v3 Y C
  refine t 3 (.int .i64 r) ?_
  refine gl_nil ?_
  refine ge_then ?_
  refine gc_ret ?_
  refine ge_ret (.tuple #[.agg ([y0]).toArray, .int .i64 r]) (rsct 2 3 (T := 55) (by kernel_rfl) (by kernel_rfl) (by kernel_rfl) (lr Y 0)) ?_
  exact ⟨⟨_, xs, r, rfl, rfl, (F.off C.size (fun y hy hy2 => C.same y hy2 (fun e => by have e' : y = g1 := e; omega))).low B1.size, h3, h4⟩, belowC (joinB B1 B2) C q1⟩
theorem PutAccount_any {w : World} {x0 : Int} {x1 : Int} :
    Calls Tryz.prog 132 #[.agg #[.int .u64 x0, .int .u64 x1]] w fun e w' => ∃ b n, e = .returned (.slice (some ⟨b, 0, none⟩) n n) ∧ n = (thr (pnx (fun o => ([x0, x1] : List Int).getD o 0)) [(0, 0), (0, 1)] []).length ∧ Box w' b ((thr (pnx (fun o => ([x0, x1] : List Int).getD o 0)) [(0, 0), (0, 1)] []).map (Value.int .u8)) 5 ∧ w.heap.size ≤ b ∧ Below w.heap.size w w' := by
  refine gc_enter (n := 5) Tryz.func132 rfl (by kernel_rfl) (by kernel_rfl) ?_
  refine gc_seq ?_
  refine gc_reg ?_
  refine ta 1 [.int .u64 x0, .int .u64 x1] 50 (pg) ?_
  intro v1 g1 X1 q1 B1
  refine t 2 (.slice none 0 0) ?_
  refine gl_nil ?_
  refine ge_then ?_
  refine gc_seq ?_
  refine gc_reg ?_
  refine tlr 3 [.int .u64 x0, .int .u64 x1] X1 0 ?_
  refine tc 4 172 #[.agg #[.int .u64 x0, .int .u64 x1], .func (.func 74) #[] #[]] (put_Account) ?_
  rintro _ v2 ⟨b, n, rfl, hn, X, hb, B2⟩
  refine ⟨_, rfl, ?_⟩
  refine t 2 (.slice (some ⟨b, 0, none⟩) n n) ?_
  refine gl_nil ?_
  refine ge_then ?_
  refine gc_ret ?_
  refine ge_ret (.slice (some ⟨b, 0, none⟩) n n) (rs1 2 (by kernel_rfl) (by kernel_rfl)) ?_
  exact ⟨b, n, rfl, hn, X, Nat.le_trans B1.size hb, joinB B1 B2⟩
theorem Account_any {w : World} {bb n c : Nat} {ao : Option Addr} {l : List Int} (A : ByA w bb ao n c l) (hn : n ≤ 1000000000) (hl : l.length = n) :
    Calls Tryz.prog 41 #[.slice ao n c] w (FinR w kd_Account 2 mkA (thr rnx [(0, 0), (0, 1)] (0, l, fun _ => (0 : Int)))) := by
  refine gc_enter (n := 8) Tryz.func41 rfl (by kernel_rfl) (by kernel_rfl) ?_
  refine gc_seq ?_
  refine gc_reg ?_
  refine ta 2 (zs [0, 0]) 50 (pg) ?_
  intro v1 g1 X1 q1 B1
  refine t 3 (.int .i64 0) ?_
  refine gl_nil ?_
  refine ge_then ?_
  refine gc_seq ?_
  refine gc_reg ?_
  refine t 4 (.slice ao n c) ?_
  refine tc 5 73 #[.slice ao n c, .func (.func 74) #[] #[]] (read_Account (A.keep B1) hn hl) ?_
  rintro _ v2 ⟨⟨cs, xs, r, rfl, hc, F, h3, h4⟩, B2⟩
  refine ⟨_, rfl, ?_⟩
  obtain ⟨y0, y1, rfl⟩ := ls2 hc
  have l1 := X1.lt
  refine t 6 (.agg ([y0, y1]).toArray) ?_
  refine t 7 (.int .i64 r) ?_
  refine ts (X1.keep B2) 0 (.agg ([y0, y1]).toArray) [y0, y1] [y0, y1] ?_ (h1 := fld_one (ks := [0, 0]) F hc (by decide))
  intro v3 Y C
  refine t 3 (.int .i64 r) ?_
  refine gl_nil ?_
  refine ge_then ?_
  refine gc_ret ?_
  refine ge_ret (.tuple #[.agg ([y0, y1]).toArray, .int .i64 r]) (rsct 2 3 (T := 50) (by kernel_rfl) (by kernel_rfl) (by kernel_rfl) (lr Y 0)) ?_
  exact ⟨⟨_, xs, r, rfl, rfl, (F.off C.size (fun y hy hy2 => C.same y hy2 (fun e => by have e' : y = g1 := e; omega))).low B1.size, h3, h4⟩, belowC (joinB B1 B2) C q1⟩
theorem PutVal_any {w : World} {x0 : Int} {x1 : Int} {a2 : Option Addr} {n2 c2 : Nat} {x2 : Int} {b3 : Bool} {x4 : Int} {b5 : Bool} {x6 : Int} {a7 : Option Addr} {n7 c7 : Nat} {x7 : Int} {a8 : Option Addr} {n8 c8 : Nat} {x8 : Int} {a9 : Option Addr} {n9 c9 : Nat} {x9 : Int} (h2 : NatA w a2 n2 c2 x2) (m2 : n2 ≤ 1000000) (h7 : NatA w a7 n7 c7 x7) (m7 : n7 ≤ 1000000) (h8 : NatA w a8 n8 c8 x8) (m8 : n8 ≤ 1000000) (h9 : NatA w a9 n9 c9 x9) (m9 : n9 ≤ 1000000) :
    Calls Tryz.prog 199 #[.agg #[.int .u64 x0, .int .u64 x1, .slice a2 n2 c2, .bool b3, .int .u64 x4, .bool b5, .int .u64 x6, .slice a7 n7 c7, .slice a8 n8 c8, .slice a9 n9 c9]] w fun e w' => ∃ b n, e = .returned (.slice (some ⟨b, 0, none⟩) n n) ∧ n = (thr (pnx (fun o => ([x0, x1, x2, (if b3 then 1 else 0), x4, (if b5 then 1 else 0), x6, x7, x8, x9] : List Int).getD o 0)) [(0, 0), (0, 1), (2, 2), (1, 3), (0, 4), (1, 5), (0, 6), (2, 7), (2, 8), (2, 9)] []).length ∧ Box w' b ((thr (pnx (fun o => ([x0, x1, x2, (if b3 then 1 else 0), x4, (if b5 then 1 else 0), x6, x7, x8, x9] : List Int).getD o 0)) [(0, 0), (0, 1), (2, 2), (1, 3), (0, 4), (1, 5), (0, 6), (2, 7), (2, 8), (2, 9)] []).map (Value.int .u8)) 5 ∧ w.heap.size ≤ b ∧ Below w.heap.size w w' := by
  refine gc_enter (n := 5) Tryz.func199 rfl (by kernel_rfl) (by kernel_rfl) ?_
  refine gc_seq ?_
  refine gc_reg ?_
  refine ta 1 [.int .u64 x0, .int .u64 x1, .slice a2 n2 c2, .bool b3, .int .u64 x4, .bool b5, .int .u64 x6, .slice a7 n7 c7, .slice a8 n8 c8, .slice a9 n9 c9] 57 (pg) ?_
  intro v1 g1 X1 q1 B1
  refine t 2 (.slice none 0 0) ?_
  refine gl_nil ?_
  refine ge_then ?_
  refine gc_seq ?_
  refine gc_reg ?_
  refine tlr 3 [.int .u64 x0, .int .u64 x1, .slice a2 n2 c2, .bool b3, .int .u64 x4, .bool b5, .int .u64 x6, .slice a7 n7 c7, .slice a8 n8 c8, .slice a9 n9 c9] X1 0 ?_
  refine tc 4 249 #[.agg #[.int .u64 x0, .int .u64 x1, .slice a2 n2 c2, .bool b3, .int .u64 x4, .bool b5, .int .u64 x6, .slice a7 n7 c7, .slice a8 n8 c8, .slice a9 n9 c9], .func (.func 77) #[] #[]] (put_Val (h2.keep B1) m2 (h7.keep B1) m7 (h8.keep B1) m8 (h9.keep B1) m9) ?_
  rintro _ v2 ⟨b, n, rfl, hn, X, hb, B2⟩
  refine ⟨_, rfl, ?_⟩
  refine t 2 (.slice (some ⟨b, 0, none⟩) n n) ?_
  refine gl_nil ?_
  refine ge_then ?_
  refine gc_ret ?_
  refine ge_ret (.slice (some ⟨b, 0, none⟩) n n) (rs1 2 (by kernel_rfl) (by kernel_rfl)) ?_
  exact ⟨b, n, rfl, hn, X, Nat.le_trans B1.size hb, joinB B1 B2⟩
theorem Val_any {w : World} {bb n c : Nat} {ao : Option Addr} {l : List Int} (A : ByA w bb ao n c l) (hn : n ≤ 1000000000) (hl : l.length = n) :
    Calls Tryz.prog 43 #[.slice ao n c] w (FinR w kd_Val 10 mkA (thr rnx [(0, 0), (0, 1), (2, 2), (1, 3), (0, 4), (1, 5), (0, 6), (2, 7), (2, 8), (2, 9)] (0, l, fun _ => (0 : Int)))) := by
  refine gc_enter (n := 8) Tryz.func43 rfl (by kernel_rfl) (by kernel_rfl) ?_
  refine gc_seq ?_
  refine gc_reg ?_
  refine ta 2 (zs [0, 0, 2, 1, 0, 1, 0, 2, 2, 2]) 57 (pg) ?_
  intro v1 g1 X1 q1 B1
  refine t 3 (.int .i64 0) ?_
  refine gl_nil ?_
  refine ge_then ?_
  refine gc_seq ?_
  refine gc_reg ?_
  refine t 4 (.slice ao n c) ?_
  refine tc 5 76 #[.slice ao n c, .func (.func 77) #[] #[]] (read_Val (A.keep B1) hn hl) ?_
  rintro _ v2 ⟨⟨cs, xs, r, rfl, hc, F, h3, h4⟩, B2⟩
  refine ⟨_, rfl, ?_⟩
  obtain ⟨y0, y1, y2, y3, y4, y5, y6, y7, y8, y9, rfl⟩ := ls10 hc
  have l1 := X1.lt
  refine t 6 (.agg ([y0, y1, y2, y3, y4, y5, y6, y7, y8, y9]).toArray) ?_
  refine t 7 (.int .i64 r) ?_
  refine ts (X1.keep B2) 0 (.agg ([y0, y1, y2, y3, y4, y5, y6, y7, y8, y9]).toArray) [y0, y1, y2, y3, y4, y5, y6, y7, y8, y9] [y0, y1, y2, y3, y4, y5, y6, y7, y8, y9] ?_ (h1 := fld_one (ks := [0, 0, 2, 1, 0, 1, 0, 2, 2, 2]) F hc (by decide))
  intro v3 Y C
  refine t 3 (.int .i64 r) ?_
  refine gl_nil ?_
  refine ge_then ?_
  refine gc_ret ?_
  refine ge_ret (.tuple #[.agg ([y0, y1, y2, y3, y4, y5, y6, y7, y8, y9]).toArray, .int .i64 r]) (rsct 2 3 (T := 57) (by kernel_rfl) (by kernel_rfl) (by kernel_rfl) (lr Y 0)) ?_
  exact ⟨⟨_, xs, r, rfl, rfl, (F.off C.size (fun y hy hy2 => C.same y hy2 (fun e => by have e' : y = g1 := e; omega))).low B1.size, h3, h4⟩, belowC (joinB B1 B2) C q1⟩
theorem PutDelegation_any {w : World} {a0 : Option Addr} {n0 c0 : Nat} {x0 : Int} {x1 : Int} {a2 : Option Addr} {n2 c2 : Nat} {x2 : Int} (h0 : NatA w a0 n0 c0 x0) (m0 : n0 ≤ 1000000) (h2 : NatA w a2 n2 c2 x2) (m2 : n2 ≤ 1000000) :
    Calls Tryz.prog 291 #[.agg #[.slice a0 n0 c0, .int .u64 x1, .slice a2 n2 c2]] w fun e w' => ∃ b n, e = .returned (.slice (some ⟨b, 0, none⟩) n n) ∧ n = (thr (pnx (fun o => ([x0, x1, x2] : List Int).getD o 0)) [(2, 0), (0, 1), (2, 2)] []).length ∧ Box w' b ((thr (pnx (fun o => ([x0, x1, x2] : List Int).getD o 0)) [(2, 0), (0, 1), (2, 2)] []).map (Value.int .u8)) 5 ∧ w.heap.size ≤ b ∧ Below w.heap.size w w' := by
  refine gc_enter (n := 5) Tryz.func291 rfl (by kernel_rfl) (by kernel_rfl) ?_
  refine gc_seq ?_
  refine gc_reg ?_
  refine ta 1 [.slice a0 n0 c0, .int .u64 x1, .slice a2 n2 c2] 181 (pg) ?_
  intro v1 g1 X1 q1 B1
  refine t 2 (.slice none 0 0) ?_
  refine gl_nil ?_
  refine ge_then ?_
  refine gc_seq ?_
  refine gc_reg ?_
  refine tlr 3 [.slice a0 n0 c0, .int .u64 x1, .slice a2 n2 c2] X1 0 ?_
  refine tc 4 340 #[.agg #[.slice a0 n0 c0, .int .u64 x1, .slice a2 n2 c2], .func (.func 341) #[] #[]] (put_Delegation (h0.keep B1) m0 (h2.keep B1) m2) ?_
  rintro _ v2 ⟨b, n, rfl, hn, X, hb, B2⟩
  refine ⟨_, rfl, ?_⟩
  refine t 2 (.slice (some ⟨b, 0, none⟩) n n) ?_
  refine gl_nil ?_
  refine ge_then ?_
  refine gc_ret ?_
  refine ge_ret (.slice (some ⟨b, 0, none⟩) n n) (rs1 2 (by kernel_rfl) (by kernel_rfl)) ?_
  exact ⟨b, n, rfl, hn, X, Nat.le_trans B1.size hb, joinB B1 B2⟩
theorem PutHistory_any {w : World} {a0 : Option Addr} {n0 c0 : Nat} {x0 : Int} {x1 : Int} (h0 : NatA w a0 n0 c0 x0) (m0 : n0 ≤ 1000000) :
    Calls Tryz.prog 221 #[.agg #[.slice a0 n0 c0, .int .u64 x1]] w fun e w' => ∃ b n, e = .returned (.slice (some ⟨b, 0, none⟩) n n) ∧ n = (thr (pnx (fun o => ([x0, x1] : List Int).getD o 0)) [(2, 0), (0, 1)] []).length ∧ Box w' b ((thr (pnx (fun o => ([x0, x1] : List Int).getD o 0)) [(2, 0), (0, 1)] []).map (Value.int .u8)) 5 ∧ w.heap.size ≤ b ∧ Below w.heap.size w w' := by
  refine gc_enter (n := 5) Tryz.func221 rfl (by kernel_rfl) (by kernel_rfl) ?_
  refine gc_seq ?_
  refine gc_reg ?_
  refine ta 1 [.slice a0 n0 c0, .int .u64 x1] 272 (pg) ?_
  intro v1 g1 X1 q1 B1
  refine t 2 (.slice none 0 0) ?_
  refine gl_nil ?_
  refine ge_then ?_
  refine gc_seq ?_
  refine gc_reg ?_
  refine tlr 3 [.slice a0 n0 c0, .int .u64 x1] X1 0 ?_
  refine tc 4 264 #[.agg #[.slice a0 n0 c0, .int .u64 x1], .func (.func 263) #[] #[]] (put_History (h0.keep B1) m0) ?_
  rintro _ v2 ⟨b, n, rfl, hn, X, hb, B2⟩
  refine ⟨_, rfl, ?_⟩
  refine t 2 (.slice (some ⟨b, 0, none⟩) n n) ?_
  refine gl_nil ?_
  refine ge_then ?_
  refine gc_ret ?_
  refine ge_ret (.slice (some ⟨b, 0, none⟩) n n) (rs1 2 (by kernel_rfl) (by kernel_rfl)) ?_
  exact ⟨b, n, rfl, hn, X, Nat.le_trans B1.size hb, joinB B1 B2⟩
theorem History_any {w : World} {bb n c : Nat} {ao : Option Addr} {l : List Int} (A : ByA w bb ao n c l) (hn : n ≤ 1000000000) (hl : l.length = n) :
    Calls Tryz.prog 220 #[.slice ao n c] w (FinR w kd_History 2 mkA (thr rnx [(2, 0), (0, 1)] (0, l, fun _ => (0 : Int)))) := by
  refine gc_enter (n := 8) Tryz.func220 rfl (by kernel_rfl) (by kernel_rfl) ?_
  refine gc_seq ?_
  refine gc_reg ?_
  refine ta 2 (zs [2, 0]) 272 (pg) ?_
  intro v1 g1 X1 q1 B1
  refine t 3 (.int .i64 0) ?_
  refine gl_nil ?_
  refine ge_then ?_
  refine gc_seq ?_
  refine gc_reg ?_
  refine t 4 (.slice ao n c) ?_
  refine tc 5 262 #[.slice ao n c, .func (.func 263) #[] #[]] (read_History (A.keep B1) hn hl) ?_
  rintro _ v2 ⟨⟨cs, xs, r, rfl, hc, F, h3, h4⟩, B2⟩
  refine ⟨_, rfl, ?_⟩
  obtain ⟨y0, y1, rfl⟩ := ls2 hc
  have l1 := X1.lt
  refine t 6 (.agg ([y0, y1]).toArray) ?_
  refine t 7 (.int .i64 r) ?_
  refine ts (X1.keep B2) 0 (.agg ([y0, y1]).toArray) [y0, y1] [y0, y1] ?_ (h1 := fld_one (ks := [2, 0]) F hc (by decide))
  intro v3 Y C
  refine t 3 (.int .i64 r) ?_
  refine gl_nil ?_
  refine ge_then ?_
  refine gc_ret ?_
  refine ge_ret (.tuple #[.agg ([y0, y1]).toArray, .int .i64 r]) (rsct 2 3 (T := 272) (by kernel_rfl) (by kernel_rfl) (by kernel_rfl) (lr Y 0)) ?_
  exact ⟨⟨_, xs, r, rfl, rfl, (F.off C.size (fun y hy hy2 => C.same y hy2 (fun e => by have e' : y = g1 := e; omega))).low B1.size, h3, h4⟩, belowC (joinB B1 B2) C q1⟩
end Rc
end Go.Proofs.YtpoifdokmjhclaaGreat

namespace Go.Proofs.YtpoifdokmjhclaaGreat
open Go.RowKit Lim

end Go.Proofs.YtpoifdokmjhclaaGreat

namespace Go.Proofs.YtpoifdokmjhclaaGreat
open Go.RowKit Lim

/-- a step of a script: its five cells, and what lies behind its two lists -/
structure Stp where
  what : Int
  num : Int
  na : Option Addr
  nn : Nat
  nc : Nat
  V : Int
  ba : Option Addr
  bn : Nat
  bc : Nat
  bb : Nat
  bl : List Int
  most : Int
end Go.Proofs.YtpoifdokmjhclaaGreat

namespace Go.Proofs.YtpoifdokmjhclaaGreat
open Go.RowKit Lim

theorem be_bval {l : List Int} (h : Octets l) : be l.length (bval l) = l := by
  refine bval_inj (be_oct _ _) h (be_length _ _) ?_
  have hb := bval_bound h
  rw [be_val _ hb.1, Int.emod_eq_of_lt hb.1 hb.2]
theorem be_take {l : List Int} (h : Octets l) {m : Nat} (hm : m ≤ l.length) : be m (bval (l.take m)) = l.take m := by
  have := be_bval (l := l.take m) (fun x hx => h x (List.mem_of_mem_take hx))
  rwa [List.length_take, Nat.min_eq_left hm] at this
/-- a part was read of L: with an error nothing is taken; without one, what is laid again is what was taken -/
def One (err' : Int) (L L' : List Int) (laid : List Int → Prop) : Prop := (err' ≠ 0 ∧ L' = L) ∨ (err' = 0 ∧ ∃ k, k ≤ L.length ∧ laid (L.take k) ∧ L' = L.drop k)
theorem one_fix {L : List Int} (h : Octets L) (m : Nat) : One (rdE (pFix m L) 0) L (rdL (pFix m L) 0 L) (fun t => be m (rdV 0 (pFix m L) 0) = t) := by
  by_cases hm : m ≤ L.length
  · have e : pFix m L = .inr (bval (L.take m), m) := by unfold pFix; rw [if_pos hm]
    rw [e]
    exact .inr ⟨rfl, m, hm, be_take h hm, rfl⟩
  · have e : pFix m L = .inl 40 := by unfold pFix; rw [if_neg hm]
    rw [e]
    exact .inl ⟨by decide, rfl⟩
theorem one_bool {L : List Int} (h : Octets L) : One (rdE (pBool L) 0) L (rdL (pBool L) 0 L) (fun t => be 1 (if rdV false (pBool L) 0 then 1 else 0) = t) := by
  by_cases hm : 1 ≤ L.length
  · by_cases hx : 1 < bval (L.take 1)
    · have e : pBool L = .inl 41 := by unfold pBool; rw [if_pos hm, if_pos hx]
      rw [e]
      exact .inl ⟨by decide, rfl⟩
    · have e : pBool L = .inr (bval (L.take 1) == 1, 1) := by unfold pBool; rw [if_pos hm, if_neg hx]
      rw [e]
      refine .inr ⟨rfl, 1, hm, ?_, rfl⟩
      have hbt := be_take h hm
      have h0 := (bval_bound (l := L.take 1) (fun x hx => h x (List.mem_of_mem_take hx))).1
      show be 1 (if (bval (L.take 1) == 1) = true then 1 else 0) = L.take 1
      generalize L.take 1 = M at *
      by_cases h1 : bval M = 1
      · rw [h1] at hbt ⊢
        exact hbt
      · rw [show bval M = 0 by omega] at hbt ⊢
        exact hbt
  · have e : pBool L = .inl 40 := by unfold pBool; rw [if_neg hm]
    rw [e]
    exact .inl ⟨by decide, rfl⟩
theorem cntOf_nn {m : Nat} {L : List Int} (h : Octets L) : ((cntOf m L : Nat) : Int) = bval (L.take m) := by
  unfold cntOf
  rw [Int.toNat_of_nonneg (bval_bound (fun x hx => h x (List.mem_of_mem_take hx))).1]
theorem cnt_lay {m : Nat} {L : List Int} (h : Octets L) (hm : m ≤ L.length) (hc : m + cntOf m L ≤ L.length) : cntd m ((L.drop m).take (cntOf m L)) = L.take (m + cntOf m L) := by
  unfold cntd
  have e : (((L.drop m).take (cntOf m L)).length : Int) = bval (L.take m) := by
    rw [List.length_take, List.length_drop, Nat.min_eq_left (by omega)]
    exact cntOf_nn h
  rw [e, be_take h hm, List.take_add]
theorem one_nat {L : List Int} (h : Octets L) : One (rdE (pNat L) 0) L (rdL (pNat L) 0 L) (fun t => natE (rdV 0 (pNat L) 0) 0 = 0 ∧ ∀ K, natL (rdV 0 (pNat L) 0) 0 K = K ++ t) := by
  by_cases hm : 1 ≤ L.length
  · by_cases hc : 1 + cntOf 1 L ≤ L.length
    · by_cases hz : 0 < cntOf 1 L ∧ nth (L.drop 1) 0 = 0
      · have e : pNat L = .inl 41 := by unfold pNat; rw [if_pos hm, if_pos hc, if_pos hz]
        rw [e]
        exact .inl ⟨by decide, rfl⟩
      · have e : pNat L = .inr (bval ((L.drop 1).take (cntOf 1 L)), 1 + cntOf 1 L) := by unfold pNat; rw [if_pos hm, if_pos hc, if_neg hz]
        have hcl := cnt_lay h hm hc
        have hlt : ((cntOf 1 L : Nat) : Int) < 256 := by
          have := (bval_bound (l := L.take 1) (fun x hx => h x (List.mem_of_mem_take hx))).2
          rw [List.length_take, Nat.min_eq_left hm] at this
          rw [cntOf_nn h]
          simpa using this
        have hoct : Octets ((L.drop 1).take (cntOf 1 L)) := fun x hx => h x (List.mem_of_mem_drop (List.mem_of_mem_take hx))
        have hlen : ((L.drop 1).take (cntOf 1 L)).length = cntOf 1 L := by rw [List.length_take, List.length_drop]; omega
        have hB : natB (bval ((L.drop 1).take (cntOf 1 L))) = (L.drop 1).take (cntOf 1 L) := natB_unique (bval_bound hoct).1 ⟨hoct, fun hne => by
          have hpos : 0 < cntOf 1 L := by
            rcases Nat.eq_zero_or_pos (cntOf 1 L) with h0 | h0
            · exact absurd (by rw [h0]; simp) hne
            · exact h0
          rw [nth_take hpos]
          exact fun h0 => hz ⟨hpos, h0⟩, rfl⟩
        rw [e]
        refine .inr ⟨rfl, _, hc, ?_, rfl⟩
        show natE (bval ((L.drop 1).take (cntOf 1 L))) 0 = 0 ∧ ∀ K, natL (bval ((L.drop 1).take (cntOf 1 L))) 0 K = K ++ L.take (1 + cntOf 1 L)
        unfold natE natL
        rw [hB, if_pos (by omega)]
        refine ⟨rfl, fun K => ?_⟩
        rw [if_pos (by omega), hcl]
        rfl
    · have e : pNat L = .inl 40 := by unfold pNat; rw [if_pos hm, if_neg hc]
      rw [e]
      exact .inl ⟨by decide, rfl⟩
  · have e : pNat L = .inl 40 := by unfold pNat; rw [if_neg hm]
    rw [e]
    exact .inl ⟨by decide, rfl⟩
end Go.Proofs.YtpoifdokmjhclaaGreat

namespace Go.Proofs.YtpoifdokmjhclaaGreat
namespace Rc
open Go.RowKit Go.Lib Pg Lim
/-- a field that was read, laid again -/
theorem one1 {l : List Int} (h : Octets l) (k : Nat) (he : rdE (p1 k l) 0 = 0) : enc1 k (rdV 0 (p1 k l) 0) ++ rdL (p1 k l) 0 l = l ∧ ∃ m, rdL (p1 k l) 0 l = l.drop m := by
  match k with
  | 0 =>
    rcases one_fix h 8 with ⟨h1, _⟩ | ⟨_, m, h2, h3, h4⟩
    · exact absurd he h1
    · show be 8 (rdV 0 (pFix 8 l) 0) ++ rdL (pFix 8 l) 0 l = l ∧ ∃ m, rdL (pFix 8 l) 0 l = l.drop m
      rw [h3, h4]
      exact ⟨List.take_append_drop m l, m, rfl⟩
  | 1 =>
    have he' : rdE (pBool l) 0 = 0 := by rw [← pBoolI_E]; exact he
    rcases one_bool h with ⟨h1, _⟩ | ⟨_, m, h2, h3, h4⟩
    · exact absurd he' h1
    · show be 1 (rdV 0 (pBoolI l) 0) ++ rdL (pBoolI l) 0 l = l ∧ ∃ m, rdL (pBoolI l) 0 l = l.drop m
      rw [pBoolI_V, pBoolI_L, h3, h4]
      exact ⟨List.take_append_drop m l, m, rfl⟩
  | k + 2 =>
    rcases one_nat h with ⟨h1, _⟩ | ⟨_, m, h2, ⟨h3, h5⟩, h4⟩
    · exact absurd he h1
    · show cntd 1 (natB (fit (rdV 0 (pNat l) 0))) ++ rdL (pNat l) 0 l = l ∧ ∃ m, rdL (pNat l) 0 l = l.drop m
      have hf : (natB (rdV 0 (pNat l) 0)).length < 256 := by
        unfold natE at h3
        split at h3
        · assumption
        · exact absurd h3 (by decide)
      have e := h5 []
      unfold natL wrote at e
      rw [if_pos hf, if_pos rfl] at e
      unfold fit
      rw [if_pos hf]
      simp only [List.nil_append] at e
      rw [e, h4]
      exact ⟨List.take_append_drop m l, m, rfl⟩
theorem thr_cons {σ : Type} (nx : Nat → Nat → σ → σ) (p : Nat × Nat) (ks : List (Nat × Nat)) (s : σ) : thr nx (p :: ks) s = thr nx ks (nx p.1 p.2 s) := rfl
theorem thr_bad (ks : List (Nat × Nat)) : ∀ s : RSt, s.1 ≠ 0 → (thr rnx ks s).1 = s.1 := by
  induction ks with
  | nil => intro s _; rfl
  | cons p ks ih =>
    intro s hs
    have e : (rnx p.1 p.2 s).1 = s.1 := rdE_bad hs
    rw [thr_cons, ih _ (by rw [e]; exact hs), e]
theorem thr_place (ks : List (Nat × Nat)) (o : Nat) : ∀ s : RSt, o ∉ ks.map Prod.snd → (thr rnx ks s).2.2 o = s.2.2 o := by
  induction ks with
  | nil => intro s _; rfl
  | cons p ks ih =>
    intro s ho
    rw [List.map_cons, List.mem_cons, not_or] at ho
    rw [thr_cons, ih _ ho.2]
    show (if o = p.2 then _ else _) = _
    rw [if_neg ho.1]
theorem octets_drop {l : List Int} (h : Octets l) (m : Nat) : Octets (l.drop m) := fun x hx => h x (List.mem_of_mem_drop hx)
/-- a record that was read, laid again -/
theorem thr_one (ks : List (Nat × Nat)) : ∀ (l : List Int) (xs : Nat → Int), Octets l → (ks.map Prod.snd).Nodup → (thr rnx ks (0, l, xs)).1 = 0 → ∀ L, thr (pnx (thr rnx ks (0, l, xs)).2.2) ks L ++ (thr rnx ks (0, l, xs)).2.1 = L ++ l := by
  induction ks with
  | nil => intro l xs _ _ _ L; rfl
  | cons p ks ih =>
    intro l xs ho hnd he L
    rw [List.map_cons, List.nodup_cons] at hnd
    rw [thr_cons] at he
    have e1 : rdE (p1 p.1 l) 0 = 0 := by
      by_cases hz : rdE (p1 p.1 l) 0 = 0
      · exact hz
      · exact absurd ((thr_bad ks (rnx p.1 p.2 (0, l, xs)) hz).symm.trans he) hz
    obtain ⟨h1, m, h2⟩ := one1 ho p.1 e1
    have es : rnx p.1 p.2 (0, l, xs) = (0, rdL (p1 p.1 l) 0 l, fun i => if i = p.2 then rdV 0 (p1 p.1 l) 0 else xs i) := by
      show (rdE (p1 p.1 l) 0, _, _) = _
      rw [e1]
    have e0 : thr rnx (p :: ks) (0, l, xs) = thr rnx ks (0, rdL (p1 p.1 l) 0 l, fun i => if i = p.2 then rdV 0 (p1 p.1 l) 0 else xs i) := by rw [thr_cons, es]
    rw [es] at he
    rw [e0]
    have ih' := ih _ _ (by rw [h2]; exact octets_drop ho m) hnd.2 he
    rw [thr_cons, ih']
    have ev : (thr rnx ks (0, rdL (p1 p.1 l) 0 l, fun i => if i = p.2 then rdV 0 (p1 p.1 l) 0 else xs i)).2.2 p.2 = rdV 0 (p1 p.1 l) 0 := by
      rw [thr_place ks p.2 _ hnd.1]
      show (if p.2 = p.2 then _ else _) = _
      rw [if_pos rfl]
    show (L ++ enc1 p.1 _) ++ _ = L ++ l
    rw [ev, List.append_assoc, h1]
/-- a field that was laid, read -/
def rng : Nat → Int → Prop
  | 0, x => 0 ≤ x ∧ x < 18446744073709551616
  | 1, x => x = 0 ∨ x = 1
  | _, x => 0 ≤ x
end Rc
end Go.Proofs.YtpoifdokmjhclaaGreat

namespace Go.Proofs.YtpoifdokmjhclaaGreat
namespace Rc
open Go.RowKit Go.Lib Pg
attribute [local go_sem] Oper.semAt_some
theorem enc1_oct (k : Nat) (x : Int) : Octets (enc1 k x) := by
  unfold enc1
  split
  · exact be_oct _ _
  · exact be_oct _ _
  · intro y hy
    rcases List.mem_append.1 hy with h | h
    · exact be_oct _ _ y h
    · exact natB_oct _ y h
theorem thr_oct (xs : Nat → Int) (ks : List (Nat × Nat)) : ∀ L, Octets L → Octets (thr (pnx xs) ks L) := by
  induction ks with
  | nil => exact fun _ h => h
  | cons p ks ih =>
    intro L h
    rw [thr_cons]
    refine ih _ ?_
    intro y hy
    rcases List.mem_append.1 hy with h1 | h1
    · exact h y h1
    · exact enc1_oct _ _ y h1
/-- bytes that were laid, as a list -/
theorem box_bya {w : World} {b n : Nat} {M : List Int} (h : Box w b (M.map (Value.int .u8)) 5) (hn : n = M.length) (ho : Octets M) (hl : M.length ≤ 1000000) : ByA w b (some ⟨b, 0, none⟩) n n M :=
  ⟨0, hn.symm, Nat.le_refl _, ⟨by omega, fun e => by cases e⟩, ho, h.atB⟩
end Rc
end Go.Proofs.YtpoifdokmjhclaaGreat

namespace Go.Proofs.YtpoifdokmjhclaaGreat
namespace Rc
open Go.RowKit Go.Lib Pg
attribute [local go_sem] Oper.semAt_some
end Rc
end Go.Proofs.YtpoifdokmjhclaaGreat

namespace Go.Proofs.YtpoifdokmjhclaaGreat
open Go.RowKit Lim

/-- the bytes of a step; none: it is too long -/
def stB (s : Stp) : Option (List Int) :=
  if s.what = 0 then some (be 1 (s.num % 256))
  else if s.what = 1 then some (be 4 (s.num % 4294967296))
  else if s.what = 2 then some (be 8 s.num)
  else if s.what = 3 then some (be 1 (if s.num % 2 == 1 then 1 else 0))
  else if s.what = 4 ∨ s.what = 5 then (if (natB s.V).length < 256 then some (cntd 1 (natB s.V)) else none)
  else if s.what = 6 then some (cntd 4 s.bl)
  else some []
/-- one step more -/
def stO (s : Stp) (o : Option (List Int)) : Option (List Int) := o.bind fun L => (stB s).map (L ++ ·)
/-- the bytes of a script -/
def laid (ss : List Stp) : Option (List Int) := ss.foldl (fun o s => stO s o) (some [])
end Go.Proofs.YtpoifdokmjhclaaGreat

namespace Go.Proofs.YtpoifdokmjhclaaGreat
open Go.RowKit Lim

end Go.Proofs.YtpoifdokmjhclaaGreat

namespace Go.Proofs.YtpoifdokmjhclaaGreat
open Go.RowKit Lim

end Go.Proofs.YtpoifdokmjhclaaGreat

namespace Go.Proofs.YtpoifdokmjhclaaGreat
open Go.RowKit Lim

end Go.Proofs.YtpoifdokmjhclaaGreat
