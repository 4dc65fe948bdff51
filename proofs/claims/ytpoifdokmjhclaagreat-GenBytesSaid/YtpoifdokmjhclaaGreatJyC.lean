/- Several texts, joined: DiA. -/
import Derived.Test.YtpoifdokmjhclaaGreatJyB
namespace Go.Proofs.YtpoifdokmjhclaaGreat
namespace Di
open Go.RowKit Go.Lib Pg Lim Gl Kv Bk Pw Sd
set_option maxRecDepth 100000
set_option linter.unusedVariables false
/-- the widest fence, in a round or not -/
abbrev Fe (r : Option Nat) : Fence := { Fence.wide with round := r }
section
variable {P : Program} {ops : Array Oper} {Q : Exit → Act → World → Prop} {r : Option Nat}
theorem calls_fe {f : FuncId} {args : Array Value} {w : World} {R : Ending → World → Prop} (h : Calls P f args w R) : CallsIn (Fe r) 0 P f args w R := (callsIn_wide (n := 0)).2 h
theorem rows_fe {row : String} {args : Array Value} {w : World} {R : Value → World → Prop} (h : Rows P row args w R) : RowsIn (Fe r) 0 P row args w R := fun c cs _ =>
  let ⟨v, w', hr, s⟩ := h c cs
  ⟨v, w', hr, stepsIn_wide.2 s⟩
theorem op_fe {o : Oper} {a : Act} {w : World} {K : Act → World → Prop} (ht : ∀ c, o.op ≠ .defer c) (h : o.wp P a w K Q) : o.wpIn (Fe r) 0 P a w K Q := by
  unfold Oper.wp at h
  refine ⟨fun _ _ => trivial, ?_⟩
  rw [Oper.semAt_eq _ _ _ ht]
  generalize (execOp a.eval o).run P w = x at h ⊢
  cases x with
  | ok x w' =>
    cases x <;> simp only [Oper.upon, Oper.uponIn] at h ⊢
    case value => exact h
    case skip => exact h
    case defer => exact h
    case enter => exact ⟨fun q => by simp [Fence.wide] at q, calls_fe h⟩
    case row => exact ⟨fun q => by simp [Fence.wide] at q, rows_fe h⟩
  | halt x w' => cases x <;> simp only [Oper.upon, Oper.uponIn] at h ⊢ <;> exact h
theorem wpop_fe {i : Nat} {a : Act} {w : World} {K : Act → World → Prop} (ht : tame ops = true) (hq : ¬ LetsOut Q) (h : wpOp P ops Q i K a w) : wpOpIn (Fe r) 0 P ops Q i K a w := by
  unfold wpOp at h
  unfold wpOpIn
  cases ho : ops[i]? with
  | none => simp only [ho] at h ⊢; exact h
  | some o =>
    simp only [ho] at h ⊢
    split
    · rename_i hw
      rw [if_pos hw] at h
      exact op_fe (tame_at ht ho).1 (h.resolve_right fun q => hq q.2)
    · rename_i hw
      rw [if_neg hw] at h
      exact ⟨fun _ _ => trivial, h⟩
theorem any_fe {md : Region.Mode} (ht : tame ops = true) (hq : ¬ LetsOut Q) : ∀ (fuel : Nat) (listed : Array Bool) (a : Act) (w : World), wpAny P md ops Q fuel listed a w → wpAnyIn (Fe r) 0 P md ops Q fuel listed a w
  | 0, _, _, _, h => h
  | fuel + 1, _, _, _, h => ⟨h.1, fun i hi => wpop_fe ht hq (wpOp_mono (fun a' w' h' => any_fe ht hq fuel _ a' w' h') (h.2 i hi))⟩
def tameL (l : List Oper) : Bool := l.all fun o => match o.op with | .defer _ => false | _ => true
theorem list_fe (hq : ¬ LetsOut Q) : ∀ (l : List Oper) (a : Act) (w : World), tameL l = true → wpList P ops Q l a w → wpListIn (Fe r) 0 P ops Q l a w
  | [], _, _, _, h => h
  | o :: l, a, w, ht, h => by
    have ht' : (match o.op with | .defer _ => false | _ => true) = true ∧ tameL l = true := by simpa [tameL] using ht
    unfold wpList at h
    unfold wpListIn
    split
    · rename_i hw
      rw [if_pos hw] at h
      have h := h.resolve_right fun q => hq q.2
      exact op_fe (fun c e => by have := ht'.1; rw [e] at this; cases this) (Oper.wp_mono (fun a' w' h' => list_fe hq l a' w' ht'.2 h') h)
    · rename_i hw
      rw [if_neg hw] at h
      exact ⟨fun _ _ => trivial, list_fe hq l _ w ht'.2 h⟩
end
/-- code in a round of loop lo -/
structure GR (lo : Nat) (n : Nat) (ds : List Deferred) (c : Code) (Q : Exit → Act → World → Prop) (l : Fr) (w : World) : Prop where
  out : ∀ a, Rd n ds l a → c.wpIn (Fence.wide.inRound lo) 0 Tryz.prog Q a w
section
variable {lo n : Nat} {ds : List Deferred} {Q Q' : Exit → Act → World → Prop} {l : Fr} {w : World}
theorem gr_fr {c : Code} (l' : Fr) (h : l'.map (fun p => lk l p.1) = l'.map (fun p => some p.2)) (k : GR lo n ds c Q l' w) : GR lo n ds c Q l w := ⟨fun a r => k.out a (r.sub (sub_of h))⟩
theorem gr_seq {x y : Code} (h : GR lo n ds x (Exit.then (y.wpIn (Fence.wide.inRound lo) 0 Tryz.prog Q) Q) l w) : GR lo n ds (x.seq y) Q l w := ⟨fun a r => wpIn_seq (h.out a r)⟩
theorem gr_reg {id : Nat} {c : List Oper} (h : GL Tryz.prog n ds c.toArray Q c l w) (hq : ¬ LetsOut Q := by exact fun ⟨_, _, h⟩ => h) (ht : tameL c = true := by kernel_rfl) : GR lo n ds (Code.region id c.toArray false) Q l w := ⟨fun a r => wpIn_region_lit (F := Fence.wide.inRound lo) (list_fe hq c a w ht (h.out a r))⟩
theorem gr_draw {id : Nat} {ops : Array Oper} (S : World → Prop) (Z : Nat → Bool) (hS : S w.drew) (h : GZ Tryz.prog n ds ops Q S Z ops.size [] l w.drew) (hm : Tryz.prog.follows .mixedOrders = true := by kernel_rfl) (ok : okR ops Z = true := by kernel_rfl) (hq : ¬ LetsOut Q := by exact fun ⟨_, _, h⟩ => h) (ht : tame ops = true := by kernel_rfl) : GR lo n ds (Code.region id ops true) Q l w := ⟨fun a r =>
  wpIn_region_any (F := Fence.wide.inRound lo) hm (any_fe ht hq _ _ _ _ (wpAny_of_held _ _ _ _ (wpAnyZ_held _ _ _ _ (by have := h.out ok hS a r; rw [arr_nil] at this; exact this))))⟩
theorem gr_yes {c : Operand} {x y : Code} (h : GR lo n ds x Q l w) (hk : kn l c = true := by kernel_rfl) (hc : evL l c = .bool true := by kernel_rfl) : GR lo n ds (Code.cond c x y) Q l w := ⟨fun a r => wpIn_cond_true ((r.ev c hk).trans hc) (h.out a r)⟩
theorem gr_no {c : Operand} {x y : Code} (h : GR lo n ds y Q l w) (hk : kn l c = true := by kernel_rfl) (hc : evL l c = .bool false := by kernel_rfl) : GR lo n ds (Code.cond c x y) Q l w := ⟨fun a r => wpIn_cond_false ((r.ev c hk).trans hc) (h.out a r)⟩
theorem gr_skip (h : GE n ds Q .normal l w) : GR lo n ds Code.skip Q l w := ⟨fun a r => wpIn_skip (h.out a r)⟩
theorem gr_exit {id : Nat} (h : GE n ds Q (.exit id) l w) : GR lo n ds (Code.exit id) Q l w := ⟨fun a r => wpIn_exit (h.out a r)⟩
theorem gr_block {id : Nat} {c : Code} (h : GR lo n ds c (Exit.inBlock id Q) l w) : GR lo n ds (Code.block id c) Q l w := ⟨fun a r => wpIn_block (h.out a r)⟩
theorem gr_join {σ : Type} {x y : Code} (fr : σ → Fr) (F : σ → World → Prop) (h1 : GR lo n ds x (Exit.then (fun a' w' => ∃ s, Rd n ds (fr s) a' ∧ F s w') Q) l w) (h2 : ∀ s w', F s w' → GR lo n ds y Q (fr s) w') : GR lo n ds (x.seq y) Q l w := ⟨fun a r => wpIn_seq (wpIn_mono (h1.out a r) fun e a' w' h => by
  cases e with
  | normal => obtain ⟨s, hr, hF⟩ := h; exact (h2 s w' hF).out a' hr
  | _ => exact h)⟩
theorem gr_then {y : Code} (h : GR lo n ds y Q l w) : GE n ds (Exit.then (y.wpIn (Fence.wide.inRound lo) 0 Tryz.prog Q) Q') .normal l w := ⟨fun a r => h.out a r⟩
end
/-- a plain region, of which one operation calls yield -/
structure GI (n : Nat) (ds : List Deferred) (ops : Array Oper) (Q : Exit → Act → World → Prop) (rest : List Oper) (l : Fr) (w : World) : Prop where
  out : ∀ a, Rd n ds l a → wpListIn Fence.wide 0 Tryz.prog ops Q rest a w
section
variable {n : Nat} {ds : List Deferred} {ops : Array Oper} {rest : List Oper} {o : Oper} {Q Q' : Exit → Act → World → Prop} {l : Fr} {w : World}
theorem gc_regI {id : Nat} {c : List Oper} (h : GI n ds c.toArray Q c l w) : GC Tryz.prog n ds (Code.region id c.toArray false) Q l w := ⟨fun a r => wpIn_wide.1 (wpIn_region_lit (n := 0) (h.out a r))⟩
theorem gi_gl (h : GL Tryz.prog n ds ops Q rest l w) (hq : ¬ LetsOut Q := by exact fun ⟨_, _, h⟩ => h) (ht : tameL rest = true := by kernel_rfl) : GI n ds ops Q rest l w := ⟨fun a r => list_fe (r := none) hq rest a w ht (h.out a r)⟩
theorem gi_val (d : Option Nat) (v : Value) (hg : gd ops l o = some true) (hc : chk n l o d = true) (hrun : (execOp (evL l) o).run Tryz.prog w = .ok (.value v) w) (h : GI n ds ops Q rest (pt l d v) w) : GI n ds ops Q (o :: rest) l w := ⟨fun a r => by
  unfold wpListIn
  rw [if_pos (gd_want r hg)]
  refine ⟨fun _ _ => trivial, ?_⟩
  show o.uponIn _ _ _ _ _ _ ((o.semAt none a.eval).run Tryz.prog w)
  rw [Oper.semAt_none, chk_ex hc r, hrun]
  show wpListIn Fence.wide 0 Tryz.prog ops Q rest (a.put o.dst v) w
  rw [(chk_d hc).1]
  exact h.out _ (r.put d v (chk_d hc).2)⟩
theorem it (d : Nat) (v : Value) (h : GI n ds ops Q rest ((d, v) :: l) w) (hg : gd ops l o = some true := by kernel_rfl) (hc : chk n l o (some d) = true := by kernel_rfl) (hrun : (execOp (evL l) o).run Tryz.prog w = .ok (.value v) w := by kernel_rfl) : GI n ds ops Q (o :: rest) l w := gi_val (some d) v hg hc hrun h
theorem itl (d : Nat) (v : Value) {g : Nat} {cs : List Value} {t : TypeId} (X : Blk w g cs t) (off : Nat) (h : GI n ds ops Q rest ((d, v) :: l) w) (hv : cs[off]? = some v := by rfl) (ho : ∃ T p, o.op = .load T p ∧ evL l p = .pointer (some ⟨g, off, none⟩) ∧ ∀ w, (isAgg T).run Tryz.prog w = .ok false w := by exact ⟨_, _, rfl, by kernel_rfl, fun _ => by kernel_rfl⟩) (hg : gd ops l o = some true := by kernel_rfl) (hc : chk n l o (some d) = true := by kernel_rfl) : GI n ds ops Q (o :: rest) l w := gi_val (some d) v hg hc (run_ld1 X hv ho) h
theorem itlr (d : Nat) (vs : List Value) {g : Nat} {cs : List Value} {t : TypeId} (X : Blk w g cs t) (off : Nat) (h : GI n ds ops Q rest ((d, .agg vs.toArray) :: l) w) (hr : (cs.drop off).take vs.length = vs := by rfl) (ho : ∃ T p, o.op = .load T p ∧ evL l p = .pointer (some ⟨g, off, none⟩) ∧ rowT Tryz.prog T vs.length = true := by exact ⟨_, _, rfl, by kernel_rfl, by kernel_rfl⟩) (hg : gd ops l o = some true := by kernel_rfl) (hc : chk n l o (some d) = true := by kernel_rfl) : GI n ds ops Q (o :: rest) l w := gi_val (some d) (.agg vs.toArray) hg hc (run_ldr X hr ho) h
theorem run_yl {ρ : Operand → Value} {lo : Nat} {a b : Value} {r : Result Next} (hy : (Instr.yield lo #[a, b]).run Tryz.prog w = r) (ho : ∃ f x y ts, o.op = .call ⟨.value f, #[x, y], ts⟩ ∧ ρ f = .func (.yield lo) #[] #[] ∧ ρ x = a ∧ ρ y = b) : (execOp ρ o).run Tryz.prog w = r := by
  obtain ⟨f, x, y, ts, h, h1, h2, h3⟩ := ho
  simp only [execOp, h]
  go_simp
theorem it_yield (d lo : Nat) {a b : Value} {Qc : Ending → World → Prop} (hy : YieldAt Fence.wide 0 Tryz.prog lo #[a, b] w Qc) (h : ∀ e w', Qc e w' → ∃ v, e = .returned v ∧ GI n ds ops Q rest ((d, v) :: l) w') (hg : gd ops l o = some true := by kernel_rfl) (hc : chk n l o (some d) = true := by kernel_rfl) (ho : ∃ f x y ts, o.op = .call ⟨.value f, #[x, y], ts⟩ ∧ evL l f = .func (.yield lo) #[] #[] ∧ evL l x = a ∧ evL l y = b := by exact ⟨_, _, _, _, rfl, by kernel_rfl, by kernel_rfl, by kernel_rfl⟩) : GI n ds ops Q (o :: rest) l w := ⟨fun ac r => by
  obtain ⟨fn, tmps, asn, body, hr, R⟩ := hy
  unfold wpListIn
  rw [if_pos (gd_want r hg)]
  refine ⟨fun _ _ => trivial, ?_⟩
  show o.uponIn _ _ _ _ _ _ ((o.semAt none ac.eval).run Tryz.prog w)
  rw [Oper.semAt_none, chk_ex hc r, run_yl hr ho]
  refine ⟨fun q => by simp [Fence.wide] at q, R.mono ?_⟩
  intro e w' hq
  obtain ⟨v, rfl, hv⟩ := h e w' hq
  show wpListIn Fence.wide 0 Tryz.prog ops Q rest (ac.put o.dst v) w'
  rw [(chk_d hc).1]
  exact hv.out _ (r.put (some d) v (chk_d hc).2)⟩
end
end Di
end Go.Proofs.YtpoifdokmjhclaaGreat
