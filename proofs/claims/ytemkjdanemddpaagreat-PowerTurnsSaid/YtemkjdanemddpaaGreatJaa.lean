/- Several texts, joined: Pg0, GlA, GlB, GlC, SoA, SoB, SoC, SoD. -/
import Derived.Test.YtemkjdanemddpaaGreatChecked
import Derived.WalkKit
import Derived.WalkSpells
import Derived.WalkLawsBesides
import Derived.Lib.SliceRun
import Derived.Lib.AppendZerosOnto
import Derived.Lib.Overlaps
import Derived.Lib.Bytealg
import Derived.Lib.JoinLaws
import Derived.Laws.Externs
import Derived.Laws.CopyRow
import Derived.Laws.CopyOwn
import Derived.Laws.Tables
import Derived.Laws.NewBlocks
import Derived.Laws.IdiomCopy
import Derived.Deep.RegionHeld3
import Derived.Deep.RegionLaw
import Derived.Deep.QuietTactic
import Derived.BigQuiet
import Derived.WalkSmall
import Derived.Shelf.RegionOpenPlain
import Derived.OneCell
import Derived.Deep.RegionWith
import Derived.Deep.WholeRow
import Derived.Deep.MidRow
import Derived.Deep.LoopGhost
import Derived.BigFrame
namespace Go.Proofs.YtemkjdanemddpaaGreat
namespace Pg
open Go.RowKit

theorem lt_of_block {w : World} {g : Nat} {o : Obj} (h : w.heap[g]? = some o) : g < w.heap.size := (Array.getElem?_eq_some_iff.1 h).1
theorem cell_lt {w : World} {b o : Nat} {v : Value} (h : w.cell? ⟨b, o, none⟩ = some v) : b < w.heap.size := by
  unfold World.cell? at h
  cases hh : w.heap[b]? with
  | none => simp [hh] at h
  | some ob => exact lt_of_block hh
/-- block g holds just cs, of type t -/
structure Blk (w : World) (g : Nat) (cs : List Value) (t : TypeId) : Prop where
  blk : w.heap[g]? = some (.cells cs.toArray t (0, 0))
theorem Blk.lt {w : World} {g : Nat} {cs : List Value} {t : TypeId} (h : Blk w g cs t) : g < w.heap.size := lt_of_block h.blk
theorem Blk.cell {w : World} {g : Nat} {cs : List Value} {t : TypeId} (h : Blk w g cs t) {i : Nat} {v : Value} (hi : cs[i]? = some v) : w.cell? ⟨g, i, none⟩ = some v := by
  simp only [World.cell?, h.blk]
  simpa using hi
theorem Blk.free {w : World} {g : Nat} {cs : List Value} {t : TypeId} (h : Blk w g cs t) (i : Nat) : w.frozen? ⟨g, i, none⟩ = false := by
  simp [World.frozen?, h.blk]
theorem Blk.keep {w w' : World} {g : Nat} {cs : List Value} {t : TypeId} (h : Blk w g cs t) (hb : Below w.heap.size w w') : Blk w' g cs t := ⟨by rw [hb.block g h.lt]; exact h.blk⟩
theorem Blk.keepB {B : Nat} {w w' : World} {g : Nat} {cs : List Value} {t : TypeId} (h : Blk w g cs t) (hb : Below B w w') (hg : g < B) : Blk w' g cs t := ⟨by rw [hb.block g hg]; exact h.blk⟩
theorem Blk.drew {w : World} {g : Nat} {cs : List Value} {t : TypeId} (h : Blk w g cs t) : Blk w.drew g cs t := ⟨h.blk⟩
theorem blk_new (w : World) (cs : List Value) (t : TypeId) : Blk (w.alloc (.cells cs.toArray t)) w.heap.size cs t := ⟨by
  show (w.heap.push _)[w.heap.size]? = _
  rw [Array.getElem?_push_size]⟩
theorem Blk.row {w : World} {g : Nat} {cs : List Value} (ds : List Value) {t : TypeId} (h : Blk w g cs t) : Blk (w.setRow g ds.toArray) g ds t := ⟨by rw [setRow_heap w g _ _ _ _ h.blk]⟩
theorem Blk.same {w w' : World} {g : Nat} {cs : List Value} {t : TypeId} (h : Blk w g cs t) (hb : w'.heap[g]? = w.heap[g]?) : Blk w' g cs t := ⟨by rw [hb]; exact h.blk⟩
theorem Blk.eq {w : World} {g : Nat} {cs ds : List Value} {t u : TypeId} (h : Blk w g cs t) (h' : Blk w g ds u) : cs = ds ∧ t = u := by
  have := h.blk.symm.trans h'.blk
  simp at this
  exact this
theorem Blk.setCell {w : World} {g : Nat} {cs : List Value} {t : TypeId} (h : Blk w g cs t) {i : Nat} (v : Value) : Blk (w.setCell ⟨g, i, none⟩ v) g (cs.set i v) t := ⟨by
  have := h.blk
  simp only [World.setCell, Array.getElem?_modify, if_true, this]
  simp⟩
theorem Blk.off {w : World} {g g' : Nat} {cs : List Value} {t : TypeId} (h : Blk w g cs t) (hne : g ≠ g') {i : Nat} (v : Value) : Blk (w.setCell ⟨g', i, none⟩ v) g cs t := ⟨by rw [Below.heap_setCell w _ v g hne]; exact h.blk⟩
theorem below_alloc (w : World) (o : Obj) : Below w.heap.size w (w.alloc o) := (Below.refl _ _).alloc (Nat.le_refl _) _
theorem joinB {w wa w' : World} (b : Below w.heap.size w wa) (h : Below wa.heap.size wa w') : Below w.heap.size w w' := b.trans (h.mono b.size)
/-- what is changed lies in F, or is new -/
structure Chg (F : Nat → Prop) (w w' : World) : Prop where
  os : w'.os = w.os
  tape : w'.tape = w.tape
  output : w'.output = w.output
  size : w.heap.size ≤ w'.heap.size
  same : ∀ b, b < w.heap.size → ¬ F b → w'.heap[b]? = w.heap[b]?
theorem Chg.refl (F : Nat → Prop) (w : World) : Chg F w w := ⟨rfl, rfl, rfl, Nat.le_refl _, fun _ _ _ => rfl⟩
theorem Chg.of {F : Nat → Prop} {w w' : World} (h : Below w.heap.size w w') : Chg F w w' := ⟨h.os, h.tape, h.output, h.size, fun b hb _ => h.block b hb⟩
theorem Chg.nothing {w w' : World} (h : Chg (fun _ => False) w w') : Below w.heap.size w w' := ⟨h.os, h.tape, h.output, h.size, fun b hb => h.same b hb id⟩
theorem Chg.below {F : Nat → Prop} {B : Nat} {w w' : World} (h : Chg F w w') (hF : ∀ b, F b → B ≤ b) (hB : B ≤ w.heap.size) : Below B w w' := ⟨h.os, h.tape, h.output, h.size, fun b hb => h.same b (by omega) fun f => by have := hF b f; omega⟩
theorem Chg.trans {F F' : Nat → Prop} {w w1 w2 : World} (h : Chg F w w1) (h' : Chg F' w1 w2) (hF : ∀ b, b < w.heap.size → F' b → F b) : Chg F w w2 :=
  ⟨h'.os.trans h.os, h'.tape.trans h.tape, h'.output.trans h.output, Nat.le_trans h.size h'.size, fun b hb hf => (h'.same b (Nat.lt_of_lt_of_le hb h.size) fun f => hf (hF b hb f)).trans (h.same b hb hf)⟩
theorem Chg.mono {F F' : Nat → Prop} {w w1 : World} (h : Chg F w w1) (hF : ∀ b, b < w.heap.size → F b → F' b) : Chg F' w w1 := ⟨h.os, h.tape, h.output, h.size, fun b hb hf => h.same b hb fun f => hf (hF b hb f)⟩
theorem Chg.drew {F : Nat → Prop} {w w' : World} (h : Chg F w w') : Chg F w w'.drew := ⟨h.os, h.tape, h.output, h.size, h.same⟩
theorem Chg.row {F : Nat → Prop} {w w' : World} (h : Chg F w w') {g : Nat} (hg : F g ∨ w.heap.size ≤ g) (ds : Array Value) : Chg F w (w'.setRow g ds) :=
  ⟨h.os, h.tape, h.output, by simpa [World.setRow] using h.size, fun b hb hf => by
    have hne : b ≠ g := fun e => by subst e; rcases hg with f | f; exact hf f; omega
    exact (setRow_other w' g b ds hne).trans (h.same b hb hf)⟩
theorem Chg.cell {F : Nat → Prop} {w w' : World} (h : Chg F w w') {g i : Nat} (hg : F g ∨ w.heap.size ≤ g) (v : Value) : Chg F w (w'.setCell ⟨g, i, none⟩ v) :=
  ⟨h.os, h.tape, h.output, by simpa [World.setCell] using h.size, fun b hb hf => by
    have hne : b ≠ g := fun e => by subst e; rcases hg with f | f; exact hf f; omega
    exact (Below.heap_setCell w' _ v b hne).trans (h.same b hb hf)⟩
theorem Chg.alloc {F : Nat → Prop} {w w' : World} (h : Chg F w w') (o : Obj) : Chg F w (w'.alloc o) := h.trans (Chg.of (F := fun _ => False) (below_alloc w' o)) (fun _ _ f => f.elim)
theorem Blk.chg {F : Nat → Prop} {w w' : World} {g : Nat} {cs : List Value} {t : TypeId} (h : Blk w g cs t) (hc : Chg F w w') (hg : ¬ F g) : Blk w' g cs t := ⟨by rw [hc.same g h.lt hg]; exact h.blk⟩

/-- the stretch of a list from o on, laid over by cs -/
theorem splice_def {α : Type} (L : List α) (o : Nat) (cs : List α) : splice L o cs = L.take o ++ cs ++ L.drop (o + cs.length) := by simp [splice]
theorem run_copyK {P : Program} (w : World) (dT sT ty elem : TypeId) (k g o dLen dCap : Nat) (a : Addr) (sLen sCap : Nat) (L cs : List Value) (t : TypeId)
    (hu : P.underlying dT = some (.slice elem)) (hs : (P.info? elem).map (·.size) = some k)
    (hg : Blk w g L t) (m : Nat) (hm : Nat.min sLen dLen = m) (hn : cs.length = m * k)
    (hsrc : ∀ j v, cs[j]? = some v → w.cell? (a.add j) = some v) (hfit : o + cs.length ≤ L.length) (h1 : ∀ v ∈ cs, v.oneCell' = true) :
    (Builtin.copy_ #[dT, sT] ty #[.slice (some ⟨g, o, none⟩) dLen dCap, .slice (some a) sLen sCap]).run P w =
      .ok (goInt m) (w.setRow g (splice L o cs).toArray) := by
  have hl := run_loadCells_list (P := P) w a cs hsrc
  have hst := run_storeCells_at P g o t cs 0 L.toArray w hg.blk (by simpa using hfit) h1
  cases hq : P.info? elem with
  | none => simp [hq] at hs
  | some i =>
    have hi : i.size = k := by simpa [hq] using hs
    simp [Builtin.copy_, run_underlying hu, Builtin.lenOf, Builtin.firstCells, sizeOf, typeInfo, hq, hi, hm, ← hn, hl, hst, splice_def]
theorem run_clearK {P : Program} (w : World) (T ty elem : TypeId) (z : Value) (k g o n c : Nat) (L : List Value) (t : TypeId) (hu : P.underlying T = some (.slice elem)) (hv : ∀ w, (zeroValue elem).run P w = .ok z w)
    (hz : z.cells.size = k) (h1 : ∀ v ∈ z.cells, v.oneCell' = true) (hg : Blk w g L t) (hn : 0 < n) (hk : 0 < k) (hfit : o + n * k ≤ L.length) :
    (Builtin.clear_ #[T] ty #[.slice (some ⟨g, o, none⟩) n c]).run P w = .ok (.tuple #[]) (w.setRow g (splice L o (Builtin.zeroCells z.cells n).toList).toArray) := by
  have hlen : (Builtin.zeroCells z.cells n).toList.length = n * k := by simp [Builtin.zeroCells, hz]
  have hone : ∀ v ∈ (Builtin.zeroCells z.cells n).toList, v.oneCell' = true := by
    intro v hv
    simp [Builtin.zeroCells] at hv
    obtain ⟨i, hi, rfl⟩ := hv
    have : i % z.cells.size < z.cells.size := Nat.mod_lt _ (by omega)
    rw [show z.cells[i % z.cells.size]! = z.cells[i % z.cells.size] from getElem!_pos z.cells _ this]
    exact h1 _ (Array.getElem_mem this)
  have hst := run_storeCells_at P g o t (Builtin.zeroCells z.cells n).toList 0 L.toArray w hg.blk (by rw [hlen]; simpa using hfit) hone
  obtain ⟨m, rfl⟩ : ∃ m, n = m + 1 := ⟨n - 1, by omega⟩
  simp only [Nat.add_zero] at hst
  simp [Builtin.clear_, run_underlying hu, hv, hst, splice_def]
theorem splice_at {α : Type} (A B C D : List α) (k : Nat) (hk : A.length = k) (hB : B.length = C.length) : splice (A ++ B ++ D) k C = A ++ C ++ D := by
  subst hk
  have h1 : (A ++ B ++ D).take A.length = A := by rw [List.append_assoc, List.take_left]
  have h2 : (A ++ B ++ D).drop (A.length + C.length) = D := by
    rw [← hB, ← List.length_append, List.drop_left]
  rw [splice_def, h1, h2]
/-- room is made at place i for vs, and vs is laid there -/
theorem shift_eq {α : Type} (xs sp vs : List α) (i : Nat) (hi : i ≤ xs.length) (hc : vs.length ≤ sp.length) :
    splice (splice (xs ++ sp) (i + vs.length) (xs.drop i)) i vs = xs.take i ++ vs ++ xs.drop i ++ sp.drop vs.length := by
  obtain ⟨A, B, hA, rfl, rfl⟩ : ∃ A B, A.length = i ∧ xs = A ++ B ∧ i = A.length := ⟨xs.take i, xs.drop i, by simp; omega, by simp, by simp; omega⟩
  have e1 : (A ++ B).drop A.length = B := by simp
  have e2 : (A ++ B).take A.length = A := by simp
  rw [e1, e2]
  have h1 : A ++ B ++ sp = (A ++ (B ++ sp).take vs.length) ++ ((B ++ sp).drop vs.length).take B.length ++ sp.drop vs.length := by
    have h2 : ((B ++ sp).drop vs.length).take B.length ++ sp.drop vs.length = (B ++ sp).drop vs.length := by
      have h3 : sp.drop vs.length = ((B ++ sp).drop vs.length).drop B.length := by
        rw [List.drop_drop, Nat.add_comm, ← List.drop_drop]; simp
      rw [h3, List.take_append_drop]
    rw [List.append_assoc, List.append_assoc (A ++ _), h2, List.append_assoc, List.take_append_drop]
  rw [h1, splice_at (A ++ (B ++ sp).take vs.length) _ B _ (A.length + vs.length) (by simp; omega) (by simp; omega), List.append_assoc (A ++ _), splice_at A _ vs _ A.length rfl (by simp; omega), List.append_assoc (A ++ vs)]
/-- a builtin whose run is known, in a region that draws -/
theorem step_bi {P : Program} {ops : Array Oper} {o : Oper} {a : Act} {w : World} {K : Act → World → Prop} {Q : Exit → Act → World → Prop} {E : Prop} (hg : o.guard = none) {v : Value} {w' : World}
    (hr : (execOp a.eval o).run P w = .ok (.value v) w') (hK : K (a.put o.dst v) w') : if Region.wanted o (yielded ops a.tmps) = true then Oper.wp P o a w K Q else E := by
  rw [if_pos (by simp [Region.wanted, hg])]
  unfold Oper.wp
  rw [hr]
  exact hK
theorem exec_app {P : Program} {o : Oper} {a : Act} {w : World} (d s : Operand) (t t' : TypeId) (ho : o.op = .call { callee := .builtin .append, args := #[d, s], argTypes := #[t, t'] }) (v u : Value) (hd : a.eval d = v) (hs : a.eval s = u) {v' : Value} {w' : World}
    (hr : (Builtin.append_ #[t, t'] o.type #[v, u]).run P w = .ok v' w') : (execOp a.eval o).run P w = .ok (.value v') w' := by
  simp only [execOp, ho, resolve, invoke, builtin, Sem.run_bind, Sem.run_pure, Result.andThen_ok, List.map_toArray, List.map_cons, List.map_nil, hd, hs, hr]
theorem step_app {P : Program} {ops : Array Oper} {o : Oper} {a : Act} {w : World} {K : Act → World → Prop} {Q : Exit → Act → World → Prop} {E : Prop} (hg : o.guard = none) (d s : Operand) (t t' : TypeId) (ho : o.op = .call { callee := .builtin .append, args := #[d, s], argTypes := #[t, t'] }) (v u : Value) (hd : a.eval d = v) (hs : a.eval s = u) {v' : Value} {w' : World}
    (hr : (Builtin.append_ #[t, t'] o.type #[v, u]).run P w = .ok v' w') (hK : K (a.put o.dst v') w') : if Region.wanted o (yielded ops a.tmps) = true then Oper.wp P o a w K Q else E := step_bi hg (exec_app d s t t' ho v u hd hs hr) hK
end Pg
end Go.Proofs.YtemkjdanemddpaaGreat

namespace Go.Proofs.YtemkjdanemddpaaGreat
namespace Gl
open Go.RowKit Go.Lib Pg
abbrev Fr := List (Nat × Value)
def lk : Fr → Nat → Option Value
  | [], _ => none
  | p :: r, k => bif Nat.beq p.1 k then some p.2 else lk r k
def evL (l : Fr) : Operand → Value
  | .tmp k => (lk l k).getD undef
  | .const v => v
  | .global g => .pointer (some ⟨g, 0, none⟩)
  | .func f => .func (.func f) #[] #[]
def kn (l : Fr) : Operand → Bool
  | .tmp k => (lk l k).isSome
  | _ => true
/-- a frame of n temporaries, of which l tells some -/
structure Rd (n : Nat) (ds : List Deferred) (l : Fr) (a : Act) : Prop where
  size : a.tmps.size = n
  dfs : a.defers = ds
  get : ∀ k v, lk l k = some v → a.tmps[k]? = some v
theorem Rd.ev {n : Nat} {ds : List Deferred} {l : Fr} {a : Act} (h : Rd n ds l a) (x : Operand) (hk : kn l x = true) : a.eval x = evL l x := by
  cases x with
  | tmp k =>
    cases hl : lk l k with
    | none => simp [kn, hl] at hk
    | some v => simp [Act.eval, evL, hl, h.get k v hl]
  | const v => rfl
  | global g => rfl
  | func f => rfl
def pt (l : Fr) : Option Nat → Value → Fr
  | some d, v => (d, v) :: l
  | none, _ => l
theorem Rd.put {n : Nat} {ds : List Deferred} {l : Fr} {a : Act} (h : Rd n ds l a) (d : Option Nat) (v : Value) (hd : ∀ k, d = some k → k < n) : Rd n ds (pt l d v) (a.put d v) := by
  cases d with
  | none => exact h
  | some d =>
    have hd := hd d rfl
    refine ⟨by simpa [Act.put] using h.size, h.dfs, fun k u hu => ?_⟩
    simp only [pt, lk] at hu
    by_cases e : d = k
    · subst e
      simp at hu
      subst hu
      simp [Act.put, h.size, hd]
    · have e' : Nat.beq d k = false := by
        cases hb : Nat.beq d k with
        | false => rfl
        | true => exact absurd (Nat.eq_of_beq_eq_true hb) e
      rw [e'] at hu
      simp only [Act.put, Array.getElem?_setIfInBounds, if_neg e]
      exact h.get k u hu
/-- l' is told by l -/
def sub (l' l : Fr) : Prop := ∀ k v, lk l' k = some v → lk l k = some v
theorem lk_mem {l : Fr} {k : Nat} {v : Value} (h : lk l k = some v) : (k, v) ∈ l := by
  induction l with
  | nil => cases h
  | cons p r ih =>
    simp only [lk] at h
    cases hb : Nat.beq p.1 k with
    | true =>
      rw [hb] at h
      have := Nat.eq_of_beq_eq_true hb
      simp at h
      subst h; subst this
      exact List.mem_cons_self
    | false => rw [hb] at h; exact List.mem_cons_of_mem _ (ih h)
theorem sub_of {l' l : Fr} (h : l'.map (fun p => lk l p.1) = l'.map (fun p => some p.2)) : sub l' l := fun k v hk => by
  have hm := lk_mem hk
  have := List.map_inj_left.1 h (k, v) hm
  exact this
theorem Rd.sub {n : Nat} {ds : List Deferred} {l l' : Fr} {a : Act} (h : Rd n ds l a) (hs : sub l' l) : Rd n ds l' a := ⟨h.size, h.dfs, fun k v hk => h.get k v (hs k v hk)⟩
def opnds : Op → List Operand
  | .call c => (match c.callee with | .value f => [f] | .invoke r _ => [r] | .builtin _ => []) ++ c.args.toList
  | .build _ ps => ps.toList.map (·.2)
  | .buildSlice _ _ ps => ps.toList.map (·.2)
  | o => o.operands.toList
theorem mem_opnds {o : Op} {x : Operand} (h : x ∈ o.operands) : x ∈ opnds o := by
  cases o <;> first
    | (simpa [opnds] using h)
    | (simp only [Op.operands] at h; simpa [opnds] using h)
    | (rename_i c
       simp only [Op.operands, Call.operands] at h
       unfold opnds
       cases hc : c.callee <;> simp [hc] at h ⊢ <;> exact h)
def notSel : Op → Bool
  | .select _ _ => false
  | _ => true
def inB (n : Nat) : Option Nat → Bool
  | none => true
  | some d => Nat.blt d n
/-- the guard: known, and told -/
def gd (ops : Array Oper) (l : Fr) (o : Oper) : Option Bool :=
  match o.guard with
  | none => some true
  | some (j, b) => match (ops[j]?).bind (·.dst) with
    | none => some false
    | some s => match lk l s with
      | none => none
      | some (.bool c) => some (c == b)
      | some _ => some false
def chk (n : Nat) (l : Fr) (o : Oper) (d : Option Nat) : Bool := (opnds o.op).all (kn l) && decide (o.dst = d) && inB n d && notSel o.op
theorem chk_d {n : Nat} {l : Fr} {o : Oper} {d : Option Nat} (h : chk n l o d = true) : o.dst = d ∧ ∀ k, d = some k → k < n := by
  simp only [chk, Bool.and_eq_true, decide_eq_true_eq] at h
  refine ⟨h.1.1.2, fun k e => ?_⟩
  subst e
  have := h.1.2
  simp only [inB, Nat.blt] at this
  exact Nat.le_of_ble_eq_true this
theorem chk_ex {n : Nat} {ds : List Deferred} {l : Fr} {o : Oper} {d : Option Nat} {a : Act} (h : chk n l o d = true) (r : Rd n ds l a) : execOp a.eval o = execOp (evL l) o := by
  simp only [chk, Bool.and_eq_true, List.all_eq_true] at h
  exact execOp_congr o (fun cs b e => by have := h.2; rw [e] at this; cases this) fun x hx => r.ev x (h.1.1.1 x (mem_opnds hx))
theorem gd_want {n : Nat} {ds : List Deferred} {l : Fr} {ops : Array Oper} {o : Oper} {a : Act} {t : Bool} (r : Rd n ds l a) (h : gd ops l o = some t) : Region.wanted o (yielded ops a.tmps) = t := by
  unfold gd at h
  unfold Region.wanted
  cases hg : o.guard with
  | none => rw [hg] at h; simpa using h
  | some p =>
    obtain ⟨j, b⟩ := p
    rw [hg] at h
    simp only at h ⊢
    unfold yielded
    cases hs : (ops[j]?).bind (·.dst) with
    | none => rw [hs] at h; simp at h; subst h; simp
    | some s =>
      rw [hs] at h
      simp only at h
      cases hv : lk l s with
      | none => rw [hv] at h; cases h
      | some v =>
        rw [hv] at h
        have hx := r.get s v hv
        simp only [Option.bind_some, hx]
        cases v <;> simp_all
section
variable {P : Program} {n : Nat} {ds : List Deferred} {ops : Array Oper} {rest : List Oper} {o o1 o2 : Oper} {l : Fr} {w w1 : World} {Q Q' : Exit → Act → World → Prop} {K : Act → World → Prop}
structure GL (P : Program) (n : Nat) (ds : List Deferred) (ops : Array Oper) (Q : Exit → Act → World → Prop) (rest : List Oper) (l : Fr) (w : World) : Prop where
  out : ∀ a, Rd n ds l a → wpList P ops Q rest a w
structure GC (P : Program) (n : Nat) (ds : List Deferred) (c : Code) (Q : Exit → Act → World → Prop) (l : Fr) (w : World) : Prop where
  out : ∀ a, Rd n ds l a → c.wp P Q a w
structure GE (n : Nat) (ds : List Deferred) (Q : Exit → Act → World → Prop) (e : Exit) (l : Fr) (w : World) : Prop where
  out : ∀ a, Rd n ds l a → Q e a w
theorem gc_fr {c : Code} (l' : Fr) (h : l'.map (fun p => lk l p.1) = l'.map (fun p => some p.2)) (k : GC P n ds c Q l' w) : GC P n ds c Q l w := ⟨fun a r => k.out a (r.sub (sub_of h))⟩
theorem gl_val (d : Option Nat) (v : Value) (hg : gd ops l o = some true) (hc : chk n l o d = true) (hrun : (execOp (evL l) o).run P w = .ok (.value v) w1) (h : GL P n ds ops Q rest (pt l d v) w1) : GL P n ds ops Q (o :: rest) l w := ⟨fun a r =>
  BigFrame.wpList_want (gd_want r hg) fun K hK => by
    unfold Oper.wp
    rw [chk_ex hc r, hrun]
    show K (a.put o.dst v) w1
    rw [(chk_d hc).1]
    exact hK _ _ (h.out _ (r.put d v (chk_d hc).2))⟩
theorem gl_void (hg : gd ops l o = some true) (hc : chk n l o none = true) (hrun : (execOp (evL l) o).run P w = .ok .skip w1) (h : GL P n ds ops Q rest l w1) : GL P n ds ops Q (o :: rest) l w := ⟨fun a r =>
  BigFrame.wpList_want (gd_want r hg) fun K hK => by
    unfold Oper.wp
    rw [chk_ex hc r, hrun]
    show K (a.put o.dst undef) w1
    rw [(chk_d hc).1]
    exact hK _ _ (h.out _ r)⟩
theorem gl_not (d : Option Nat) (hg : gd ops l o = some false) (hd : (decide (o.dst = d) && inB n d) = true) (h : GL P n ds ops Q rest (pt l d undef) w) : GL P n ds ops Q (o :: rest) l w := ⟨fun a r => by
  simp only [Bool.and_eq_true, decide_eq_true_eq] at hd
  refine wpList_skip (gd_want r hg) ?_
  rw [hd.1]
  refine h.out _ (r.put d undef fun k e => ?_)
  subst e
  have := hd.2
  simp only [inB, Nat.blt] at this
  exact Nat.le_of_ble_eq_true this⟩
theorem gl_callx (d : Option Nat) (f : FuncId) (args : Array Value) (hg : gd ops l o = some true) (hc : chk n l o d = true) (hrun : (execOp (evL l) o).run P w = .ok (.enter f args) w) {Qc : Ending → World → Prop} (hcall : Calls P f args w Qc) (h : ∀ e w', Qc e w' → ∃ v, e = .returned v ∧ GL P n ds ops Q rest (pt l d v) w') : GL P n ds ops Q (o :: rest) l w := ⟨fun a r =>
  BigFrame.wpList_want (gd_want r hg) fun K hK => by
    unfold Oper.wp
    rw [chk_ex hc r, hrun, Oper.upon_enter]
    refine hcall.mono ?_
    intro e w' hq
    obtain ⟨v, rfl, hv⟩ := h e w' hq
    show K (a.put o.dst v) w'
    rw [(chk_d hc).1]
    exact hK _ _ (hv.out _ (r.put d v (chk_d hc).2))⟩
theorem gl_nil (h : GE n ds Q .normal l w) : GL P n ds ops Q [] l w := ⟨fun a r => wpList_nil (h.out a r)⟩
-- the same, short
theorem t (d : Nat) (v : Value) (h : GL P n ds ops Q rest ((d, v) :: l) w) (hg : gd ops l o = some true := by kernel_rfl) (hc : chk n l o (some d) = true := by kernel_rfl) (hrun : (execOp (evL l) o).run P w = .ok (.value v) w := by kernel_rfl) : GL P n ds ops Q (o :: rest) l w := gl_val (some d) v hg hc hrun h
theorem tr (d : Nat) (v : Value) (hrun : (execOp (evL l) o).run P w = .ok (.value v) w) (h : GL P n ds ops Q rest ((d, v) :: l) w) (hg : gd ops l o = some true := by kernel_rfl) (hc : chk n l o (some d) = true := by kernel_rfl) : GL P n ds ops Q (o :: rest) l w := gl_val (some d) v hg hc hrun h
theorem tq (d : Nat) (v v' : Value) (hv : v = v') (h : GL P n ds ops Q rest ((d, v') :: l) w) (hg : gd ops l o = some true := by kernel_rfl) (hc : chk n l o (some d) = true := by kernel_rfl) (hrun : (execOp (evL l) o).run P w = .ok (.value v) w := by kernel_rfl) : GL P n ds ops Q (o :: rest) l w := by
  subst hv; exact gl_val (some d) v hg hc hrun h
theorem tw (d : Nat) (v : Value) (w1 : World) (hrun : (execOp (evL l) o).run P w = .ok (.value v) w1) (h : GL P n ds ops Q rest ((d, v) :: l) w1) (hg : gd ops l o = some true := by kernel_rfl) (hc : chk n l o (some d) = true := by kernel_rfl) : GL P n ds ops Q (o :: rest) l w := gl_val (some d) v hg hc hrun h
theorem tv (w1 : World) (hrun : (execOp (evL l) o).run P w = .ok .skip w1) (h : GL P n ds ops Q rest l w1) (hg : gd ops l o = some true := by kernel_rfl) (hc : chk n l o none = true := by kernel_rfl) : GL P n ds ops Q (o :: rest) l w := gl_void hg hc hrun h
theorem tn (d : Nat) (h : GL P n ds ops Q rest ((d, undef) :: l) w) (hg : gd ops l o = some false := by kernel_rfl) (hd : (decide (o.dst = some d) && inB n (some d)) = true := by kernel_rfl) : GL P n ds ops Q (o :: rest) l w := gl_not (some d) hg hd h
theorem tc (d : Nat) (f : FuncId) (args : Array Value) {Qc : Ending → World → Prop} (hcall : Calls P f args w Qc) (h : ∀ e w', Qc e w' → ∃ v, e = .returned v ∧ GL P n ds ops Q rest ((d, v) :: l) w') (hg : gd ops l o = some true := by kernel_rfl) (hc : chk n l o (some d) = true := by kernel_rfl) (hrun : (execOp (evL l) o).run P w = .ok (.enter f args) w := by kernel_rfl) : GL P n ds ops Q (o :: rest) l w := gl_callx (some d) f args hg hc hrun hcall h
-- code
theorem gc_seq {x y : Code} (h : GC P n ds x (Exit.then (y.wp P Q) Q) l w) : GC P n ds (x.seq y) Q l w := ⟨fun a r => wp_seq (h.out a r)⟩
theorem gc_reg {id : Nat} {c : List Oper} (h : GL P n ds c.toArray Q c l w) : GC P n ds (Code.region id c.toArray false) Q l w := ⟨fun a r => wp_region_lit (h.out a r)⟩
theorem gc_yes {c : Operand} {x y : Code} (h : GC P n ds x Q l w) (hk : kn l c = true := by kernel_rfl) (hc : evL l c = .bool true := by kernel_rfl) : GC P n ds (Code.cond c x y) Q l w := ⟨fun a r => wp_cond_true ((r.ev c hk).trans hc) (h.out a r)⟩
theorem gc_no {c : Operand} {x y : Code} (h : GC P n ds y Q l w) (hk : kn l c = true := by kernel_rfl) (hc : evL l c = .bool false := by kernel_rfl) : GC P n ds (Code.cond c x y) Q l w := ⟨fun a r => wp_cond_false ((r.ev c hk).trans hc) (h.out a r)⟩
theorem gc_skip (h : GE n ds Q .normal l w) : GC P n ds Code.skip Q l w := ⟨fun a r => wp_skip (h.out a r)⟩
theorem gc_ret (h : GE n ds Q .ret l w) : GC P n ds Code.ret Q l w := ⟨fun a r => wp_ret (h.out a r)⟩
theorem gc_exit {id : Nat} (h : GE n ds Q (.exit id) l w) : GC P n ds (Code.exit id) Q l w := ⟨fun a r => wp_exit (h.out a r)⟩
theorem gc_block {id : Nat} {c : Code} (h : GC P n ds c (Exit.inBlock id Q) l w) : GC P n ds (Code.block id c) Q l w := ⟨fun a r => wp_block (h.out a r)⟩
theorem ge_then {y : Code} (h : GC P n ds y Q l w) : GE n ds (Exit.then (y.wp P Q) Q') .normal l w := ⟨fun a r => h.out a r⟩
theorem ge_tr (h : GE n ds Q' .ret l w) : GE n ds (Exit.then K Q') .ret l w := ⟨fun a r => h.out a r⟩
theorem ge_tx {id : Nat} (h : GE n ds Q' (.exit id) l w) : GE n ds (Exit.then K Q') (.exit id) l w := ⟨fun a r => h.out a r⟩
theorem ge_bn {id : Nat} (h : GE n ds Q .normal l w) : GE n ds (Exit.inBlock id Q) .normal l w := ⟨fun a r => h.out a r⟩
theorem ge_br {id : Nat} (h : GE n ds Q .ret l w) : GE n ds (Exit.inBlock id Q) .ret l w := ⟨fun a r => h.out a r⟩
theorem ge_bx {id : Nat} (h : GE n ds Q .normal l w) : GE n ds (Exit.inBlock id Q) (.exit id) l w := ⟨fun a r => by
  show if id = id then Q .normal a w else Q (.exit id) a w
  rw [if_pos rfl]; exact h.out a r⟩
theorem ge_by {id id' : Nat} (h : GE n ds Q (.exit id') l w) (hne : id' ≠ id := by decide) : GE n ds (Exit.inBlock id Q) (.exit id') l w := ⟨fun a r => by
  show if id' = id then Q .normal a w else Q (.exit id') a w
  rw [if_neg hne]; exact h.out a r⟩
/-- a loop told by a state s -/
theorem gc_loop {σ : Type} {c : Code} (μ : σ → Nat) (fr : σ → Fr) (F : σ → World → Prop) (s : σ) (hF : F s w) (hl : (fr s).map (fun p => lk l p.1) = (fr s).map (fun p => some p.2))
    (round : ∀ s w, F s w → GC P n ds c (Exit.then (fun a' w' => ∃ s', μ s' < μ s ∧ Rd n ds (fr s') a' ∧ F s' w') Q) (fr s) w) : GC P n ds (Code.loop c) Q l w := ⟨fun a r => by
  refine wp_loop_ghost (fun m a w => ∃ s, μ s = m ∧ Rd n ds (fr s) a ∧ F s w) (μ s) ⟨s, rfl, r.sub (sub_of hl), hF⟩ ?_
  rintro m a w ⟨s, rfl, hr, hF⟩
  refine wp_mono ((round s w hF).out a hr) ?_
  intro e a' w' h
  cases e with
  | normal =>
    obtain ⟨s', h1, h2, h3⟩ := h
    exact ⟨μ s', h1, s', rfl, h2, h3⟩
  | _ => exact h⟩
theorem ge_round {σ : Type} {μ : σ → Nat} {fr : σ → Fr} {F : σ → World → Prop} {m : Nat} (s' : σ) (hm : μ s' < m) (hF : F s' w) (hl : (fr s').map (fun p => lk l p.1) = (fr s').map (fun p => some p.2)) : GE n ds (Exit.then (fun a' w' => ∃ s', μ s' < m ∧ Rd n ds (fr s') a' ∧ F s' w') Q) .normal l w := ⟨fun _ r => ⟨s', hm, r.sub (sub_of hl), hF⟩⟩
/-- where ways come together -/
theorem gc_join {σ : Type} {x y : Code} (fr : σ → Fr) (F : σ → World → Prop) (h1 : GC P n ds x (Exit.then (fun a' w' => ∃ s, Rd n ds (fr s) a' ∧ F s w') Q) l w) (h2 : ∀ s w', F s w' → GC P n ds y Q (fr s) w') : GC P n ds (x.seq y) Q l w := ⟨fun a r => wp_seq (wp_mono (h1.out a r) fun e a' w' h => by
  cases e with
  | normal => obtain ⟨s, hr, hF⟩ := h; exact (h2 s w' hF).out a' hr
  | _ => exact h)⟩
theorem ge_join {σ : Type} {fr : σ → Fr} {F : σ → World → Prop} (s : σ) (hF : F s w) (hl : (fr s).map (fun p => lk l p.1) = (fr s).map (fun p => some p.2)) : GE n ds (Exit.then (fun a' w' => ∃ s, Rd n ds (fr s) a' ∧ F s w') Q) .normal l w := ⟨fun _ r => ⟨s, r.sub (sub_of hl), hF⟩⟩
def en : Nat → List Value → Fr
  | _, [] => []
  | i, v :: r => (i, v) :: en (i + 1) r
theorem lk_en : ∀ (vs : List Value) (i k : Nat) (v : Value), lk (en i vs) k = some v → i ≤ k ∧ vs[k - i]? = some v
  | [], _, _, _, h => by cases h
  | u :: r, i, k, v, h => by
    simp only [en, lk] at h
    cases hb : Nat.beq i k with
    | true =>
      rw [hb] at h
      have := Nat.eq_of_beq_eq_true hb
      subst this
      simp at h
      subst h
      exact ⟨Nat.le_refl _, by simp⟩
    | false =>
      rw [hb] at h
      obtain ⟨h1, h2⟩ := lk_en r (i + 1) k v h
      refine ⟨by omega, ?_⟩
      have : k - i = (k - (i + 1)) + 1 := by omega
      rw [this, List.getElem?_cons_succ]
      exact h2
theorem gc_enter {f : FuncId} {fn : Func} {c : Code} {vs : List Value} {R : Ending → World → Prop} (hf : P.funcs[f]? = some fn) (hb : fn.body = some c) (hn : fn.ntmps = n) (hs : Nat.ble vs.length n = true) (h : GC P n [] c (bodyPost P fn R) (en 0 vs) w) : Calls P f vs.toArray w R := by
  have hs := Nat.le_of_ble_eq_true hs
  refine calls_of_wp hf hb (h.out _ ⟨?_, rfl, fun k v hk => ?_⟩)
  · simp
    omega
  · obtain ⟨_, h2⟩ := lk_en vs 0 k v hk
    rw [Nat.sub_zero] at h2
    have hlt := (List.getElem?_eq_some_iff.1 h2).1
    rw [Array.getElem?_append_left (by simpa using hlt)]
    simpa using h2
theorem ge_ret {fn : Func} {R : Ending → World → Prop} (v : Value) (hr : ∀ a, Rd n [] l a → (results fn a.tmps).run P w = .ok v w) (hR : R (.returned v) w) : GE n [] (bodyPost P fn R) .ret l w := ⟨fun a r => bodyPost_ret (hr a r) r.dfs hR⟩
theorem ge_end {fn : Func} {R : Ending → World → Prop} (v : Value) (hr : ∀ a, Rd n [] l a → (results fn a.tmps).run P w = .ok v w) (hR : R (.returned v) w) : GE n [] (bodyPost P fn R) .normal l w := ⟨fun a r => ⟨r.dfs, v, hr a r, hR⟩⟩
theorem Rd.gD {a : Act} (r : Rd n ds l a) {k : Nat} {v : Value} (h : lk l k = some v) : a.tmps.getD k undef = v := by
  rw [Array.getD_eq_getD_getElem?, r.get k v h]; rfl
theorem rs1 {fn : Func} (k : Nat) {v : Value} (h : fn.results = #[.tmp k]) (hv : lk l k = some v) (a : Act) (r : Rd n [] l a) : (results fn a.tmps).run P w = .ok v w := by
  have := r.gD hv
  simp at this
  simp [results, h, this]
theorem rs0 {fn : Func} (h : fn.results = #[]) (a : Act) (_ : Rd n [] l a) : (results fn a.tmps).run P w = .ok (.tuple #[]) w := by
  simp [results, h]
theorem rs2 {fn : Func} (j k : Nat) {u v : Value} (h : fn.results = #[.tmp j, .tmp k]) (hu : lk l j = some u) (hv : lk l k = some v) (a : Act) (r : Rd n [] l a) : (results fn a.tmps).run P w = .ok (.tuple #[u, v]) w := by
  have h1 := r.gD hu
  have h2 := r.gD hv
  simp at h1 h2
  simp [results, h, h1, h2]
theorem rsc {fn : Func} (j : Nat) {T : TypeId} {g : Nat} {u : Value} (h : fn.results = #[.cell j T]) (hu : lk l j = some (.pointer (some ⟨g, 0, none⟩))) (hl : (loadVar T ⟨g, 0, none⟩).run P w = .ok u w) (a : Act) (r : Rd n [] l a) : (results fn a.tmps).run P w = .ok u w := by
  have h1 := r.gD hu
  simp at h1
  simp [results, h, h1, asAddr, hl]
end
end Gl
end Go.Proofs.YtemkjdanemddpaaGreat

namespace Go.Proofs.YtemkjdanemddpaaGreat
namespace Gl
open Go.RowKit Go.Lib Pg
section
variable {P : Program} {ops : Array Oper} {Q : Exit → Act → World → Prop} {md : Region.Mode} {S : World → Prop} {Z : Nat → Bool}
/-- whatever order is picked, and S holds behind every step that is not late -/
def wpAnyZ (P : Program) (md : Region.Mode) (ops : Array Oper) (Q : Exit → Act → World → Prop) (S : World → Prop) (Z : Nat → Bool) : Nat → Array Bool → Act → World → Prop
  | 0, listed, a, w => Region.ready md ops listed = [] ∧ Q .normal a w
  | fuel + 1, listed, a, w =>
    (Region.ready md ops listed = [] → Q .normal a w) ∧
    ∀ i ∈ Region.ready md ops listed, wpOp P ops Q i (fun a' w' => (Z i = true ∨ S w' ∨ w' = w) ∧ wpAnyZ P md ops Q S Z fuel (listed.setIfInBounds i true) a' w') a w
theorem wpAnyZ_held (fuel : Nat) : ∀ (listed : Array Bool) (a : Act) (w : World), wpAnyZ P md ops Q S Z fuel listed a w → wpAnyH P md ops Q (fun _ => True) fuel listed a w := by
  induction fuel with
  | zero => exact fun _ _ _ h => h
  | succ fuel ih => exact fun _ _ _ h => ⟨h.1, fun i hi => wpOp_mono (fun a' w' h' => ⟨trivial, ih _ a' w' h'.2⟩) (h.2 i hi)⟩
/-- every late operation waits for i -/
def lateWait (ops : Array Oper) (Z : Nat → Bool) (i : Nat) : Bool := (List.range ops.size).all fun z => !Z z || (decide (z ≠ i) && (ops.getD z default).after.any fun e => Region.binds .any e && decide (e.on = i))
/-- what holds ahead of i holds as long as i waits -/
theorem late_keep {i : Nat} (hz : lateWait ops Z i = true) (j : Nat) (oj : Oper) (hoj : ops[j]? = some oj) (hnot : ∀ e ∈ oj.after, Region.binds .any e = true → e.on ≠ i) (w w' : World) (h : Z j = true ∨ S w' ∨ w' = w) (hS : S w) : S w' := by
  have hjZ : ¬ Z j = true := fun e => by
    have hlt : j < ops.size := (Array.getElem?_eq_some_iff.1 hoj).1
    have h2 := List.all_eq_true.1 hz j (List.mem_range.2 hlt)
    rw [e] at h2
    simp only [Bool.not_true, Bool.false_or, Bool.and_eq_true, decide_eq_true_eq] at h2
    have eo : ops.getD j default = oj := by
      rw [Array.getD_eq_getD_getElem?, hoj]; rfl
    have h3 := h2.2
    rw [eo, Array.any_eq_true] at h3
    obtain ⟨k, hk, h4⟩ := h3
    rw [Bool.and_eq_true, decide_eq_true_eq] at h4
    exact hnot _ (Array.getElem_mem hk) h4.1 h4.2
  rcases h.resolve_left hjZ with h | h
  · exact h
  · rw [h]; exact hS
theorem wpAnyZ_first {i : Nat} {oi : Oper} {v : Value} {S0 : World → Prop} (hk : ∀ (j : Nat) (oj : Oper), ops[j]? = some oj → (∀ e ∈ oj.after, Region.binds .any e = true → e.on ≠ i) → ∀ w w' : World, (Z j = true ∨ S w' ∨ w' = w) → S0 w → S0 w') (hi : ops[i]? = some oi) (hsel : ∀ (j : Nat) (o : Oper) cs b, ops[j]? = some o → o.op ≠ .select cs b)
    (hQ : ∀ c a w, Q (.panic c) (a.put oi.dst v) w → Q (.panic c) a w) :
    ∀ (fuel : Nat) (listed : Array Bool) (a : Act) (w : World),
      (∀ j oj, ops[j]? = some oj → j ≠ i → listed.getD j true = false → (∀ e ∈ oj.after, Region.binds .any e = true → e.on ≠ i) → oi.apart ops oj = true) →
      i ∈ Region.ready .any ops listed → YieldsIf P ops S0 oi v a → S0 w →
      wpAnyZ P .any ops Q S Z fuel (listed.setIfInBounds i true) (a.put oi.dst v) w → wpAnyZ P .any ops Q S Z (fuel + 1) listed a w := by
  intro fuel
  induction fuel with
  | zero =>
    intro listed a w _ hr hy hS H
    refine ⟨fun h => (by rw [h] at hr; cases hr), fun j hj => ?_⟩
    by_cases hji : j = i
    · subst hji; exact hy.wpOp hi hS ⟨.inr (.inr rfl), H⟩
    · have := ready_mono hj hji
      rw [H.1] at this
      cases this
  | succ fuel ih =>
    intro listed a w hfree hr hy hS H
    refine ⟨fun h => (by rw [h] at hr; cases hr), fun j hj => ?_⟩
    by_cases hji : j = i
    · subst hji; exact hy.wpOp hi hS ⟨.inr (.inr rfl), H⟩
    · have h1 := H.2 j (ready_mono hj hji)
      obtain ⟨hjun, oj, hoj, hall⟩ := mem_ready.1 hj
      have hnot : ∀ e ∈ oj.after, Region.binds .any e = true → e.on ≠ i := fun e he hb heq => by
        have h1 := hall e he hb
        have h0 := (mem_ready.1 hr).1
        rw [heq] at h1
        rcases Nat.lt_or_ge i listed.size with h' | h'
        · simp [h'] at h0 h1; rw [h0] at h1; cases h1
        · simp [Array.getElem?_eq_none h'] at h1
      have h2 := wpOp_putIf hoj (hfree j oj hoj hji hjun hnot) (fun cs b => hsel i oi cs b hi) (fun cs b => hsel j oj cs b hoj) hQ hy h1
      have hfree' : ∀ k ok, ops[k]? = some ok → k ≠ i → (listed.setIfInBounds j true).getD k true = false →
          (∀ e ∈ ok.after, Region.binds .any e = true → e.on ≠ i) → oi.apart ops ok = true := fun k ok hk hki hun hno => by
        refine hfree k ok hk hki ?_ hno
        by_cases hjk : j = k
        · subst hjk; exact hjun
        · rw [getD_set_ne true hjk] at hun; exact hun
      refine wpOp_mono (fun a' w' h3 => ?_) h2
      refine ⟨h3.2.1, ih (listed.setIfInBounds j true) a' w' hfree' (ready_mono hr (Ne.symm hji)) h3.1 (hk j oj hoj hnot w w' h3.2.1 hS) ?_⟩
      rw [Array.setIfInBounds_comm _ _ hji]
      exact h3.2.2
end
theorem at_getD {ops : Array Oper} {i : Nat} (h : i < ops.size) : ops[i]? = some (ops.getD i default) := by
  simp [Array.getD, h]
/-- the listed ones as a list -/
def hasL : List Nat → Nat → Bool
  | [], _ => false
  | p :: r, k => bif Nat.beq p k then true else hasL r k
def arr (n : Nat) (L : List Nat) : Array Bool := ((List.range n).map (hasL L)).toArray
theorem beq_ne {a b : Nat} (h : a ≠ b) : Nat.beq a b = false := by
  cases hb : Nat.beq a b with
  | false => rfl
  | true => exact absurd (Nat.eq_of_beq_eq_true hb) h
theorem arr_get (n : Nat) (L : List Nat) (j : Nat) (d : Bool) : (arr n L).getD j d = if j < n then hasL L j else d := by
  by_cases h : j < n
  · simp [arr, h]
  · simp [arr, h]
theorem arr_nil (n : Nat) : arr n [] = Array.replicate n false := by
  apply Array.ext
  · simp [arr]
  · intro i h1 h2
    simp [arr, hasL]
theorem arr_cons {n i : Nat} (L : List Nat) (_h : i < n) : (arr n L).setIfInBounds i true = arr n (i :: L) := by
  apply Array.ext
  · simp [arr]
  · intro j h1 h2
    have h3 : j < (arr n L).size := by simpa using h1
    rw [Array.getElem_setIfInBounds h3]
    by_cases e : i = j
    · subst e
      simp [arr, hasL]
    · simp [arr, hasL, e, beq_ne e]
def rdyL (ops : Array Oper) (L : List Nat) (i : Nat) : Bool := match ops[i]? with
  | none => false
  | some o => !hasL L i && o.after.toList.all fun e => !Region.binds .any e || (Nat.blt e.on ops.size && hasL L e.on)
theorem rdyL_iff {ops : Array Oper} {L : List Nat} {i : Nat} : rdyL ops L i = true ↔ i ∈ Region.ready .any ops (arr ops.size L) := by
  rw [mem_ready]
  unfold rdyL
  cases ho : ops[i]? with
  | none => simp
  | some o =>
    have hlt : i < ops.size := (Array.getElem?_eq_some_iff.1 ho).1
    simp only [Bool.and_eq_true, Bool.not_eq_true', List.all_eq_true, Bool.or_eq_true, Option.some.injEq, exists_eq_left', arr_get, if_pos hlt]
    constructor
    · rintro ⟨h1, h2⟩
      refine ⟨h1, fun e he hb => ?_⟩
      rcases h2 e (by simpa using he) with h | h
      · rw [hb] at h; cases h
      · have := Nat.le_of_ble_eq_true h.1
        rw [if_pos (by omega)]
        exact h.2
    · rintro ⟨h1, h2⟩
      refine ⟨h1, fun e he => ?_⟩
      cases hb : Region.binds .any e with
      | false => exact .inl rfl
      | true =>
        right
        have h3 := h2 e (by simpa using he) hb
        by_cases h4 : e.on < ops.size
        · rw [if_pos h4] at h3
          exact ⟨by simp only [Nat.blt]; exact Nat.ble_eq_true_of_le h4, h3⟩
        · rw [if_neg h4] at h3; cases h3
def readyL (ops : Array Oper) (L : List Nat) : List Nat := (List.range ops.size).filter (rdyL ops L)
theorem readyL_eq (ops : Array Oper) (L : List Nat) : Region.ready .any ops (arr ops.size L) = readyL ops L := by
  have hm : ∀ j, j ∈ Region.ready .any ops (arr ops.size L) ↔ rdyL ops L j = true := fun j => rdyL_iff.symm
  unfold Region.ready at hm ⊢
  unfold readyL
  refine List.filter_congr fun j hj => ?_
  have := hm j
  rw [List.mem_filter] at this
  simp only [hj, true_and] at this
  exact Bool.eq_iff_iff.2 this
def edge (o : Oper) (i : Nat) : Bool := o.after.toList.any fun e => Region.binds .any e && Nat.beq e.on i
def freeS (ops : Array Oper) (i : Nat) : Bool := match ops[i]? with
  | none => false
  | some oi => (List.range ops.size).all fun j => Nat.beq j i || match ops[j]? with
      | some oj => edge oj i || edge oi j || oi.apart ops oj
      | none => true
def okR (ops : Array Oper) (_Z : Nat → Bool) : Bool := Region.noSelect ops && (List.range ops.size).all (freeS ops)
theorem okR_free {ops : Array Oper} {Z : Nat → Bool} (h : okR ops Z = true) {i : Nat} {L : List Nat} {oi : Oper} (hi : ops[i]? = some oi) (hr : rdyL ops L i = true) (j : Nat) (oj : Oper) (hj : ops[j]? = some oj) (hne : j ≠ i) (hun : (arr ops.size L).getD j true = false) (hno : ∀ e ∈ oj.after, Region.binds .any e = true → e.on ≠ i) : oi.apart ops oj = true := by
  simp only [okR, Bool.and_eq_true, List.all_eq_true, List.mem_range] at h
  have hlt : i < ops.size := (Array.getElem?_eq_some_iff.1 hi).1
  have hjl : j < ops.size := (Array.getElem?_eq_some_iff.1 hj).1
  have h1 := h.2 i hlt
  simp only [freeS, hi, List.all_eq_true, List.mem_range] at h1
  have h2 := h1 j hjl
  rw [beq_ne hne, hj] at h2
  simp only [Bool.false_or, Bool.or_eq_true] at h2
  rcases h2 with (h2 | h2) | h2
  · simp only [edge, List.any_eq_true, Bool.and_eq_true] at h2
    obtain ⟨e, he, hb, ho⟩ := h2
    exact absurd (Nat.eq_of_beq_eq_true ho) (hno e (by simpa using he) hb)
  · simp only [edge, List.any_eq_true, Bool.and_eq_true] at h2
    obtain ⟨e, he, hb, ho⟩ := h2
    have e1 := Nat.eq_of_beq_eq_true ho
    obtain ⟨-, o', ho', hall⟩ := mem_ready.1 (rdyL_iff.1 hr)
    rw [hi] at ho'
    cases ho'
    have h3 := hall e (by simpa using he) hb
    rw [e1, arr_get, if_pos hjl] at h3
    rw [arr_get, if_pos hjl] at hun
    rw [h3] at hun
    cases hun
  · exact h2
theorem okR_sel {ops : Array Oper} {Z : Nat → Bool} (h : okR ops Z = true) : Region.noSelect ops = true := by
  simp only [okR, Bool.and_eq_true] at h
  exact h.1
def zchk (n : Nat) (l : Fr) (ops : Array Oper) (L : List Nat) (i : Nat) (d : Option Nat) : Bool := rdyL ops L i && Nat.blt i ops.size && chk n l (ops.getD i default) d
def znot (n : Nat) (ops : Array Oper) (L : List Nat) (i : Nat) (d : Option Nat) : Bool := rdyL ops L i && Nat.blt i ops.size && decide ((ops.getD i default).dst = d) && inB n d
theorem blt_lt {a b : Nat} (h : Nat.blt a b = true) : a < b := Nat.le_of_ble_eq_true h
section
variable {P : Program} {n : Nat} {ds : List Deferred} {ops : Array Oper} {Q : Exit → Act → World → Prop} {S : World → Prop} {Z : Nat → Bool} {fuel : Nat} {L : List Nat} {l : Fr} {w : World}
/-- the region goes on, with S -/
structure GZ (P : Program) (n : Nat) (ds : List Deferred) (ops : Array Oper) (Q : Exit → Act → World → Prop) (S : World → Prop) (Z : Nat → Bool) (fuel : Nat) (L : List Nat) (l : Fr) (w : World) : Prop where
  out : okR ops Z = true → S w → ∀ a, Rd n ds l a → wpAnyZ P .any ops Q S Z fuel (arr ops.size L) a w
/-- the region goes on, late -/
structure GY (P : Program) (n : Nat) (ds : List Deferred) (ops : Array Oper) (Q : Exit → Act → World → Prop) (S : World → Prop) (Z : Nat → Bool) (fuel : Nat) (L : List Nat) (l : Fr) (w : World) : Prop where
  out : okR ops Z = true → ∀ a, Rd n ds l a → wpAnyZ P .any ops Q S Z fuel (arr ops.size L) a w
theorem gz_late (h : GY P n ds ops Q S Z fuel L l w) : GZ P n ds ops Q S Z fuel L l w := ⟨fun ok _ => h.out ok⟩
theorem gc_draw {id : Nat} (S : World → Prop) (Z : Nat → Bool) (hS : S w.drew) (h : GZ P n ds ops Q S Z ops.size [] l w.drew) (hm : P.follows .mixedOrders = true := by kernel_rfl) (ok : okR ops Z = true := by kernel_rfl) : GC P n ds (Code.region id ops true) Q l w := ⟨fun a r =>
  wp_region_held_drew (S := fun _ => True) hm trivial fun _ => wpAnyZ_held _ _ _ _ (by have := h.out ok hS a r; rw [arr_nil] at this; exact this)⟩
theorem gz_take (i : Nat) (d : Option Nat) (v : Value) (hy : ∀ w', S w' → (execOp (evL l) (ops.getD i default)).run P w' = .ok (.value v) w') (hz : lateWait ops Z i = true) (hc : zchk n l ops L i d = true) (hg : gd ops l (ops.getD i default) = some true) (hQ : ∀ c a w, Q (.panic c) (a.put d v) w → Q (.panic c) a w)
    (h : GZ P n ds ops Q S Z fuel (i :: L) (pt l d v) w) : GZ P n ds ops Q S Z (fuel + 1) L l w := ⟨fun ok hS a r => by
  simp only [zchk, Bool.and_eq_true] at hc
  obtain ⟨⟨h3, h4⟩, h5⟩ := hc
  have h4 := blt_lt h4
  obtain ⟨h6, h7⟩ := chk_d h5
  refine wpAnyZ_first (v := v) (late_keep hz) (at_getD h4) (Region.noSelect_spec (okR_sel ok)) (by rw [h6]; exact hQ) fuel _ a w (okR_free ok (at_getD h4) h3) (rdyL_iff.1 h3) (.inl ⟨gd_want r hg, fun w' hS' => by rw [chk_ex h5 r]; exact hy w' hS'⟩) hS ?_
  rw [h6, arr_cons L h4]
  exact h.out ok hS _ (r.put d v h7)⟩
/-- what minds no world comes first, whatever is late -/
theorem zp (i d : Nat) (v : Value) (h : GZ P n ds ops Q S Z fuel (i :: L) ((d, v) :: l) w) (hc : zchk n l ops L i (some d) = true := by kernel_rfl) (hg : gd ops l (ops.getD i default) = some true := by kernel_rfl) (hQ : ∀ c a w, Q (.panic c) (a.put (some d) v) w → Q (.panic c) a w := by exact fun _ _ _ h => h) (hrun : ∀ w', (execOp (evL l) (ops.getD i default)).run P w' = .ok (.value v) w' := by exact fun _ => by kernel_rfl) : GZ P n ds ops Q S Z (fuel + 1) L l w := ⟨fun ok hS a r => by
  simp only [zchk, Bool.and_eq_true] at hc
  obtain ⟨⟨h3, h4⟩, h5⟩ := hc
  have h4 := blt_lt h4
  obtain ⟨h6, h7⟩ := chk_d h5
  refine wpAnyZ_first (v := v) (S0 := fun _ => True) (fun _ _ _ _ _ _ _ _ => trivial) (at_getD h4) (Region.noSelect_spec (okR_sel ok)) (by rw [h6]; exact hQ) fuel _ a w (okR_free ok (at_getD h4) h3) (rdyL_iff.1 h3) (.inl ⟨gd_want r hg, fun w' _ => by rw [chk_ex h5 r]; exact hrun w'⟩) trivial ?_
  rw [h6, arr_cons L h4]
  exact h.out ok hS _ (r.put (some d) v h7)⟩
theorem gz_skip (i : Nat) (d : Option Nat) (hz : lateWait ops Z i = true) (hc : znot n ops L i d = true) (hg : gd ops l (ops.getD i default) = some false) (hQ : ∀ c a w, Q (.panic c) (a.put d undef) w → Q (.panic c) a w)
    (h : GZ P n ds ops Q S Z fuel (i :: L) (pt l d undef) w) : GZ P n ds ops Q S Z (fuel + 1) L l w := ⟨fun ok hS a r => by
  simp only [znot, Bool.and_eq_true, decide_eq_true_eq] at hc
  obtain ⟨⟨⟨h3, h4⟩, h6⟩, h7⟩ := hc
  have h4 := blt_lt h4
  refine wpAnyZ_first (v := undef) (late_keep hz) (at_getD h4) (Region.noSelect_spec (okR_sel ok)) (by rw [h6]; exact hQ) fuel _ a w (okR_free ok (at_getD h4) h3) (rdyL_iff.1 h3) (.inr ⟨gd_want r hg, rfl⟩) hS ?_
  rw [h6, arr_cons L h4]
  refine h.out ok hS _ (r.put d undef fun k e => ?_)
  subst e
  simp only [inB, Nat.blt] at h7
  exact Nat.le_of_ble_eq_true h7⟩
theorem gz_done (h : GE n ds Q .normal l w) (hr : readyL ops L = [] := by kernel_rfl) : GZ P n ds ops Q S Z fuel L l w := ⟨fun _ _ a r => by
  have hr := (readyL_eq ops L).trans hr
  cases fuel with
  | zero => exact ⟨hr, h.out a r⟩
  | succ _ => exact ⟨fun _ => h.out a r, by rw [hr]; simp⟩⟩
theorem gy_done (h : GE n ds Q .normal l w) (hr : readyL ops L = [] := by kernel_rfl) : GY P n ds ops Q S Z fuel L l w := ⟨fun _ a r => by
  have hr := (readyL_eq ops L).trans hr
  cases fuel with
  | zero => exact ⟨hr, h.out a r⟩
  | succ _ => exact ⟨fun _ => h.out a r, by rw [hr]; simp⟩⟩
/-- those that may come next -/
structure GA (P : Program) (n : Nat) (ds : List Deferred) (ops : Array Oper) (Q : Exit → Act → World → Prop) (S : World → Prop) (Z : Nat → Bool) (fuel : Nat) (L : List Nat) (l : Fr) (w : World) (rs : List Nat) : Prop where
  out : okR ops Z = true → S w → ∀ a, Rd n ds l a → ∀ i ∈ rs, wpOp P ops Q i (fun a' w' => (Z i = true ∨ S w' ∨ w' = w) ∧ wpAnyZ P .any ops Q S Z fuel ((arr ops.size L).setIfInBounds i true) a' w') a w
theorem gz_ready (rs : List Nat) (h : GA P n ds ops Q S Z fuel L l w rs) (hr : readyL ops L = rs := by kernel_rfl) (hne : rs ≠ [] := by decide) : GZ P n ds ops Q S Z (fuel + 1) L l w := ⟨fun ok hS a r =>
  ⟨fun h0 => absurd (((readyL_eq ops L).trans hr).symm.trans h0) hne, fun i hi => h.out ok hS a r i (by rw [← hr, ← readyL_eq]; exact hi)⟩⟩
theorem ga_nil : GA P n ds ops Q S Z fuel L l w [] := ⟨fun _ _ _ _ _ h => by cases h⟩
def achk (n : Nat) (l : Fr) (ops : Array Oper) (i : Nat) (d : Option Nat) : Bool := Nat.blt i ops.size && chk n l (ops.getD i default) d
theorem ga_cons {rs : List Nat} (i : Nat) (h : okR ops Z = true → S w → ∀ a, Rd n ds l a → wpOp P ops Q i (fun a' w' => (Z i = true ∨ S w' ∨ w' = w) ∧ wpAnyZ P .any ops Q S Z fuel ((arr ops.size L).setIfInBounds i true) a' w') a w) (hs : GA P n ds ops Q S Z fuel L l w rs) : GA P n ds ops Q S Z fuel L l w (i :: rs) := ⟨fun ok hS a r j hj => by
  rcases List.mem_cons.1 hj with rfl | hj
  · exact h ok hS a r
  · exact hs.out ok hS a r j hj⟩
theorem ga_call {rs : List Nat} (i : Nat) (d : Option Nat) (f : FuncId) (args : Array Value) {Qc : Ending → World → Prop} (hcall : Calls P f args w Qc) (hk : ∀ e w', Qc e w' → ∃ v, e = .returned v ∧ S w' ∧ GZ P n ds ops Q S Z fuel (i :: L) (pt l d v) w')
    (hs : GA P n ds ops Q S Z fuel L l w rs) (hc : achk n l ops i d = true := by kernel_rfl) (hg : gd ops l (ops.getD i default) = some true := by kernel_rfl) (hrun : (execOp (evL l) (ops.getD i default)).run P w = .ok (.enter f args) w := by kernel_rfl) : GA P n ds ops Q S Z fuel L l w (i :: rs) := by
  simp only [achk, Bool.and_eq_true] at hc
  obtain ⟨h4, h5⟩ := hc
  have h4 := blt_lt h4
  obtain ⟨h6, h7⟩ := chk_d h5
  refine ga_cons i (fun ok _ a r => wpOp_step (at_getD h4) fun K hK => ?_) hs
  rw [if_pos (gd_want r hg)]
  unfold Oper.wp
  rw [chk_ex h5 r, hrun]
  refine hcall.mono fun e w' he => ?_
  obtain ⟨v, rfl, hS', hw⟩ := hk e w' he
  show K (a.put (ops.getD i default).dst v) w'
  rw [h6]
  refine hK _ _ ⟨.inr (.inl hS'), ?_⟩
  rw [arr_cons L h4]
  exact hw.out ok hS' _ (r.put d v h7)
-- late ones, each alone
theorem yv (i : Nat) (w1 : World) (hrun : (execOp (evL l) (ops.getD i default)).run P w = .ok .skip w1) (h : GY P n ds ops Q S Z fuel (i :: L) l w1) (hr : readyL ops L = [i] := by kernel_rfl) (hc : achk n l ops i none = true := by kernel_rfl) (hg : gd ops l (ops.getD i default) = some true := by kernel_rfl) (hZ : Z i = true := by rfl) : GY P n ds ops Q S Z (fuel + 1) L l w := ⟨fun ok a r => by
  simp only [achk, Bool.and_eq_true] at hc
  obtain ⟨h4, h5⟩ := hc
  have h4 := blt_lt h4
  obtain ⟨h6, h7⟩ := chk_d h5
  have hr := (readyL_eq ops L).trans hr
  refine ⟨fun h0 => (by rw [hr] at h0; cases h0), fun j hj => ?_⟩
  obtain rfl : j = i := by rw [hr] at hj; simpa using hj
  refine wpOp_step (at_getD h4) fun K hK => ?_
  rw [if_pos (gd_want r hg)]
  unfold Oper.wp
  rw [chk_ex h5 r, hrun]
  show K (a.put (ops.getD j default).dst undef) w1
  rw [h6]
  refine hK _ _ ⟨.inl hZ, ?_⟩
  rw [arr_cons L h4]
  exact h.out ok _ r⟩
theorem yt (i d : Nat) (v : Value) (h : GY P n ds ops Q S Z fuel (i :: L) ((d, v) :: l) w) (hr : readyL ops L = [i] := by kernel_rfl) (hc : achk n l ops i (some d) = true := by kernel_rfl) (hg : gd ops l (ops.getD i default) = some true := by kernel_rfl) (hZ : Z i = true := by rfl) (hrun : (execOp (evL l) (ops.getD i default)).run P w = .ok (.value v) w := by kernel_rfl) : GY P n ds ops Q S Z (fuel + 1) L l w := ⟨fun ok a r => by
  simp only [achk, Bool.and_eq_true] at hc
  obtain ⟨h4, h5⟩ := hc
  have h4 := blt_lt h4
  obtain ⟨h6, h7⟩ := chk_d h5
  have hr := (readyL_eq ops L).trans hr
  refine ⟨fun h0 => (by rw [hr] at h0; cases h0), fun j hj => ?_⟩
  obtain rfl : j = i := by rw [hr] at hj; simpa using hj
  refine wpOp_step (at_getD h4) fun K hK => ?_
  rw [if_pos (gd_want r hg)]
  unfold Oper.wp
  rw [chk_ex h5 r, hrun]
  show K (a.put (ops.getD j default).dst v) w
  rw [h6]
  refine hK _ _ ⟨.inl hZ, ?_⟩
  rw [arr_cons L h4]
  exact h.out ok _ (r.put (some d) v h7)⟩
-- the same, short
theorem z (i d : Nat) (v : Value) (h : GZ P n ds ops Q S Z fuel (i :: L) ((d, v) :: l) w) (hz : lateWait ops Z i = true := by kernel_rfl) (hc : zchk n l ops L i (some d) = true := by kernel_rfl) (hg : gd ops l (ops.getD i default) = some true := by kernel_rfl) (hQ : ∀ c a w, Q (.panic c) (a.put (some d) v) w → Q (.panic c) a w := by exact fun _ _ _ h => h) (hrun : ∀ w', S w' → (execOp (evL l) (ops.getD i default)).run P w' = .ok (.value v) w' := by exact fun _ _ => by kernel_rfl) : GZ P n ds ops Q S Z (fuel + 1) L l w := gz_take i (some d) v hrun hz hc hg hQ h
theorem zr (i d : Nat) (v : Value) (hrun : ∀ w', S w' → (execOp (evL l) (ops.getD i default)).run P w' = .ok (.value v) w') (h : GZ P n ds ops Q S Z fuel (i :: L) ((d, v) :: l) w) (hz : lateWait ops Z i = true := by kernel_rfl) (hc : zchk n l ops L i (some d) = true := by kernel_rfl) (hg : gd ops l (ops.getD i default) = some true := by kernel_rfl) (hQ : ∀ c a w, Q (.panic c) (a.put (some d) v) w → Q (.panic c) a w := by exact fun _ _ _ h => h) : GZ P n ds ops Q S Z (fuel + 1) L l w := gz_take i (some d) v hrun hz hc hg hQ h
theorem zq (i d : Nat) (v v' : Value) (hv : v = v') (h : GZ P n ds ops Q S Z fuel (i :: L) ((d, v') :: l) w) (hz : lateWait ops Z i = true := by kernel_rfl) (hc : zchk n l ops L i (some d) = true := by kernel_rfl) (hg : gd ops l (ops.getD i default) = some true := by kernel_rfl) (hQ : ∀ c a w, Q (.panic c) (a.put (some d) v') w → Q (.panic c) a w := by exact fun _ _ _ h => h) (hrun : ∀ w', S w' → (execOp (evL l) (ops.getD i default)).run P w' = .ok (.value v) w' := by exact fun _ _ => by kernel_rfl) : GZ P n ds ops Q S Z (fuel + 1) L l w := by
  subst hv; exact gz_take i (some d) v hrun hz hc hg hQ h
theorem zn (i d : Nat) (h : GZ P n ds ops Q S Z fuel (i :: L) ((d, undef) :: l) w) (hz : lateWait ops Z i = true := by kernel_rfl) (hc : znot n ops L i (some d) = true := by kernel_rfl) (hg : gd ops l (ops.getD i default) = some false := by kernel_rfl) (hQ : ∀ c a w, Q (.panic c) (a.put (some d) undef) w → Q (.panic c) a w := by exact fun _ _ _ h => h) : GZ P n ds ops Q S Z (fuel + 1) L l w := gz_skip i (some d) hz hc hg hQ h
theorem zc (i d : Nat) (f : FuncId) (args : Array Value) {Qc : Ending → World → Prop} (hcall : Calls P f args w Qc) (hk : ∀ e w', Qc e w' → ∃ v, e = .returned v ∧ S w' ∧ GZ P n ds ops Q S Z fuel (i :: L) ((d, v) :: l) w') (hr : readyL ops L = [i] := by kernel_rfl) (hc : achk n l ops i (some d) = true := by kernel_rfl) (hg : gd ops l (ops.getD i default) = some true := by kernel_rfl) (hrun : (execOp (evL l) (ops.getD i default)).run P w = .ok (.enter f args) w := by kernel_rfl) : GZ P n ds ops Q S Z (fuel + 1) L l w := gz_ready [i] (ga_call i (some d) f args hcall hk ga_nil hc hg hrun) hr (by simp)
end
end Gl
end Go.Proofs.YtemkjdanemddpaaGreat

namespace Go.Proofs.YtemkjdanemddpaaGreat
namespace Gl
open Go.RowKit Go.Lib Pg
abbrev pg (g : Nat) : Value := .pointer (some ⟨g, 0, none⟩)
abbrev pq (g o : Nat) : Value := .pointer (some ⟨g, o, none⟩)
abbrev sg (n g : Nat) : Value := .slice (some ⟨g, 0, none⟩) n n
def rowT (P : Program) (T : TypeId) (n : Nat) : Bool := (match P.underlying T with | some d => d.isRow | none => false) && ((P.info? T).map (·.size) == some n)
theorem l1 {P : Program} {w : World} {g : Nat} {cs : List Value} {t T : TypeId} {v : Value} (X : Blk w g cs t) (o : Nat) (hv : cs[o]? = some v := by rfl) (ha : ∀ w, (isAgg T).run P w = .ok false w := by exact fun _ => by kernel_rfl) : (loadVar T ⟨g, o, none⟩).run P w = .ok v w := by
  have h := X.cell hv
  simp [loadVar, ha, h]
theorem lr {P : Program} {w : World} {g : Nat} {cs vs : List Value} {t T : TypeId} (X : Blk w g cs t) (o : Nat) (hr : (cs.drop o).take vs.length = vs := by rfl) (hc : rowT P T vs.length = true := by kernel_rfl) : (loadVar T ⟨g, o, none⟩).run P w = .ok (.agg vs.toArray) w := by
  simp only [rowT, Bool.and_eq_true, beq_iff_eq] at hc
  obtain ⟨h1, h2⟩ := hc
  cases hu : P.underlying T with
  | none => rw [hu] at h1; cases h1
  | some d =>
    rw [hu] at h1
    refine run_loadVar_mid w g o T vs d (fun j v hv => ?_) hu h1 h2
    refine X.cell ?_
    rw [← hr] at hv
    rw [List.getElem?_take] at hv
    split at hv
    · rw [List.getElem?_drop] at hv; exact hv
    · cases hv
/-- cells set within a list -/
def spl (cs : List Value) (o : Nat) (vs : List Value) : List Value := cs.take o ++ vs ++ cs.drop (o + vs.length)
theorem setCells_heap (b : Nat) : ∀ (vs : List Value) (o : Nat) (w : World) (k : Nat), k ≠ b → (w.setCells b o vs).heap[k]? = w.heap[k]?
  | [], _, _, _, _ => rfl
  | v :: r, o, w, k, h => by
    rw [World.setCells, setCells_heap b r (o + 1) _ k h, Below.heap_setCell w ⟨b, o, none⟩ v k h]
theorem setCells_size (b : Nat) : ∀ (vs : List Value) (o : Nat) (w : World), (w.setCells b o vs).heap.size = w.heap.size
  | [], _, _ => rfl
  | v :: r, o, w => by rw [World.setCells, setCells_size b r (o + 1)]; simp [World.setCell]
theorem setCells_rest (b : Nat) : ∀ (vs : List Value) (o : Nat) (w : World), (w.setCells b o vs).os = w.os ∧ (w.setCells b o vs).tape = w.tape ∧ (w.setCells b o vs).output = w.output
  | [], _, _ => ⟨rfl, rfl, rfl⟩
  | v :: r, o, w => by rw [World.setCells]; exact setCells_rest b r (o + 1) _
theorem blk_setCells {t : TypeId} {g : Nat} : ∀ (vs : List Value) (o : Nat) (cs : List Value) (w : World), Blk w g cs t → o + vs.length ≤ cs.length → Blk (w.setCells g o vs) g (spl cs o vs) t
  | [], o, cs, w, X, _ => by simpa [World.setCells, spl] using X
  | v :: r, o, cs, w, X, h => by
    rw [World.setCells]
    have h' : o + 1 + r.length ≤ (cs.set o v).length := by simp at h ⊢; omega
    have := blk_setCells r (o + 1) (cs.set o v) _ (X.setCell (i := o) v) h'
    have e : spl (cs.set o v) (o + 1) r = spl cs o (v :: r) := by
      simp only [List.length_cons] at h
      unfold spl
      rw [List.drop_set_of_lt (by omega), List.take_set, List.take_add_one, List.set_append]
      have hl : (cs.take o).length = o := by rw [List.length_take]; omega
      rw [hl, if_neg (by omega), Nat.sub_self]
      obtain ⟨y, hy⟩ : ∃ y, cs[o]? = some y := ⟨_, List.getElem?_eq_getElem (by omega)⟩
      rw [hy]
      simp
      omega
    rw [e] at this
    exact this
theorem run_st {P : Program} {w : World} {g o : Nat} {cs : List Value} {t T : TypeId} {x : Value} {vs : List Value} (X : Blk w g cs t) (hx : x.cells.toList = vs) (hi : ((P.info? T).map (·.size) == some vs.length) = true) (h1 : vs.all (·.oneCell') = true) (hb : o + vs.length ≤ cs.length) : (storeVar T ⟨g, o, none⟩ x).run P w = .ok () (w.setCells g o vs) := by
  have := run_storeCells_cells (P := P) g o vs 0 w (fun j hj => by
      have := X.cell (i := o + j) (List.getElem?_eq_getElem (by omega))
      simpa using (by rw [this]; rfl : (w.cell? ⟨g, o + j, none⟩).isSome = true)) (fun j _ => by simpa using X.free (o + j))
    (fun v hv => List.all_eq_true.1 h1 v hv)
  cases hq : P.info? T with
  | none => rw [hq] at hi; cases hi
  | some i =>
    rw [hq] at hi
    have hs : i.size = vs.length := by simpa using hi
    have hz : x.cells.size = i.size := by rw [hs, ← hx]; simp
    simp only [Nat.add_zero] at this
    simp [storeVar, sizeOf, typeInfo, hq, hz, hx, this]
section
variable {P : Program} {n : Nat} {ds : List Deferred} {ops : Array Oper} {rest : List Oper} {o o1 o2 : Oper} {l : Fr} {w w1 : World} {Q Q' : Exit → Act → World → Prop} {K : Act → World → Prop} {S : World → Prop} {Z : Nat → Bool} {fuel : Nat} {L : List Nat}
theorem run_sto {ρ : Operand → Value} {g off : Nat} {cs vs : List Value} {t : TypeId} {x : Value} (X : Blk w g cs t) (hst : ∃ T p q, o.op = .store T p q ∧ ρ p = .pointer (some ⟨g, off, none⟩) ∧ ρ q = x ∧ ((P.info? T).map (·.size) == some vs.length) = true) (hx : x.cells.toList = vs) (h1 : vs.all (·.oneCell') = true) (hb : Nat.ble (off + vs.length) cs.length = true) : (execOp ρ o).run P w = .ok .skip (w.setCells g off vs) := by
  obtain ⟨T, p, q, h, hp, hq, hi⟩ := hst
  simp only [execOp, h, hp, hq, Instr.storeAt, Instr.sureAddr, Sem.run_bind, Sem.run_pure, Result.andThen_ok, run_st X hx hi h1 (Nat.le_of_ble_eq_true hb)]
theorem chg_setCells (g off : Nat) (vs : List Value) : Chg (· = g) w (w.setCells g off vs) := ⟨(setCells_rest g vs off w).1, (setCells_rest g vs off w).2.1, (setCells_rest g vs off w).2.2, by rw [setCells_size]; exact Nat.le_refl _, fun b _ hb => setCells_heap g vs off w b hb⟩
theorem run_ld1 {ρ : Operand → Value} {g off : Nat} {v : Value} {cs : List Value} {t : TypeId} (X : Blk w g cs t) (hv : cs[off]? = some v) (ho : ∃ T p, o.op = .load T p ∧ ρ p = .pointer (some ⟨g, off, none⟩) ∧ ∀ w, (isAgg T).run P w = .ok false w) : (execOp ρ o).run P w = .ok (.value v) w := by
  obtain ⟨T, p, h, hp, ha⟩ := ho
  have := l1 (P := P) (T := T) X off hv ha
  simp only [execOp, h, hp]
  simp [Instr.loadAt, Instr.sureAddr, Result.andThen, this]
theorem run_ldr {ρ : Operand → Value} {g off : Nat} {cs vs : List Value} {t : TypeId} (X : Blk w g cs t) (hr : (cs.drop off).take vs.length = vs) (ho : ∃ T p, o.op = .load T p ∧ ρ p = .pointer (some ⟨g, off, none⟩) ∧ rowT P T vs.length = true) : (execOp ρ o).run P w = .ok (.value (.agg vs.toArray)) w := by
  obtain ⟨T, p, h, hp, ha⟩ := ho
  have := lr (P := P) (T := T) X off hr ha
  simp only [execOp, h, hp]
  simp [Instr.loadAt, Instr.sureAddr, Result.andThen, this]
theorem tl (d : Nat) (v : Value) {g : Nat} {cs : List Value} {t : TypeId} (X : Blk w g cs t) (off : Nat) (h : GL P n ds ops Q rest ((d, v) :: l) w) (hv : cs[off]? = some v := by rfl) (ho : ∃ T p, o.op = .load T p ∧ evL l p = .pointer (some ⟨g, off, none⟩) ∧ ∀ w, (isAgg T).run P w = .ok false w := by exact ⟨_, _, rfl, by kernel_rfl, fun _ => by kernel_rfl⟩) (hg : gd ops l o = some true := by kernel_rfl) (hc : chk n l o (some d) = true := by kernel_rfl) : GL P n ds ops Q (o :: rest) l w := gl_val (some d) v hg hc (run_ld1 X hv ho) h
theorem tlr (d : Nat) (vs : List Value) {g : Nat} {cs : List Value} {t : TypeId} (X : Blk w g cs t) (off : Nat) (h : GL P n ds ops Q rest ((d, .agg vs.toArray) :: l) w) (hr : (cs.drop off).take vs.length = vs := by rfl) (ho : ∃ T p, o.op = .load T p ∧ evL l p = .pointer (some ⟨g, off, none⟩) ∧ rowT P T vs.length = true := by exact ⟨_, _, rfl, by kernel_rfl, by kernel_rfl⟩) (hg : gd ops l o = some true := by kernel_rfl) (hc : chk n l o (some d) = true := by kernel_rfl) : GL P n ds ops Q (o :: rest) l w := gl_val (some d) _ hg hc (run_ldr X hr ho) h
theorem zl (i d : Nat) (v : Value) {g : Nat} {cs : List Value} {t : TypeId} (X : ∀ w', S w' → Blk w' g cs t) (off : Nat) (h : GZ P n ds ops Q S Z fuel (i :: L) ((d, v) :: l) w) (hv : cs[off]? = some v := by rfl) (ho : ∃ T p, (ops.getD i default).op = .load T p ∧ evL l p = .pointer (some ⟨g, off, none⟩) ∧ ∀ w, (isAgg T).run P w = .ok false w := by exact ⟨_, _, rfl, by kernel_rfl, fun _ => by kernel_rfl⟩) (hz : lateWait ops Z i = true := by kernel_rfl) (hc : zchk n l ops L i (some d) = true := by kernel_rfl) (hg : gd ops l (ops.getD i default) = some true := by kernel_rfl) (hQ : ∀ c a w, Q (.panic c) (a.put (some d) v) w → Q (.panic c) a w := by exact fun _ _ _ h => h) : GZ P n ds ops Q S Z (fuel + 1) L l w := gz_take i (some d) v (fun w' hS' => run_ld1 (X w' hS') hv ho) hz hc hg hQ h
/-- a variable is made -/
theorem ta (d : Nat) (vs : List Value) (T : TypeId) (mk : Nat → Value) (h : ∀ w1 g, Blk w1 g vs T → w.heap.size ≤ g → Below w.heap.size w w1 → GL P n ds ops Q rest ((d, mk g) :: l) w1) (hg : gd ops l o = some true := by kernel_rfl) (hc : chk n l o (some d) = true := by kernel_rfl) (hrun : (execOp (evL l) o).run P w = .ok (.value (mk w.heap.size)) (w.alloc (.cells vs.toArray T)) := by kernel_rfl) : GL P n ds ops Q (o :: rest) l w :=
  gl_val (some d) _ hg hc hrun (h _ _ (blk_new w vs T) (Nat.le_refl _) (below_alloc w _))
/-- cells of a variable are written -/
theorem ts {g : Nat} {cs : List Value} {t : TypeId} (X : Blk w g cs t) (off : Nat) (x : Value) (vs cs' : List Value) (h : ∀ w1, Blk w1 g cs' t → Chg (· = g) w w1 → GL P n ds ops Q rest l w1) (hx : x.cells.toList = vs := by rfl) (h1 : vs.all (·.oneCell') = true := by rfl) (hb : Nat.ble (off + vs.length) cs.length = true := by rfl) (he : spl cs off vs = cs' := by rfl) (hst : ∃ T p q, o.op = .store T p q ∧ evL l p = .pointer (some ⟨g, off, none⟩) ∧ evL l q = x ∧ ((P.info? T).map (·.size) == some vs.length) = true := by exact ⟨_, _, _, rfl, by kernel_rfl, by kernel_rfl, by kernel_rfl⟩) (hg : gd ops l o = some true := by kernel_rfl) (hc : chk n l o none = true := by kernel_rfl) : GL P n ds ops Q (o :: rest) l w := by
  refine gl_void hg hc (run_sto X hst hx h1 hb) (h _ ?_ (chg_setCells g off vs))
  rw [← he]
  exact blk_setCells vs off cs w X (Nat.le_of_ble_eq_true hb)
theorem ys (i : Nat) {g : Nat} {cs : List Value} {t : TypeId} (X : Blk w g cs t) (off : Nat) (x : Value) (vs cs' : List Value) (h : ∀ w1, Blk w1 g cs' t → Chg (· = g) w w1 → GY P n ds ops Q S Z fuel (i :: L) l w1) (hx : x.cells.toList = vs := by rfl) (h1 : vs.all (·.oneCell') = true := by rfl) (hb : Nat.ble (off + vs.length) cs.length = true := by rfl) (he : spl cs off vs = cs' := by rfl) (hst : ∃ T p q, (ops.getD i default).op = .store T p q ∧ evL l p = .pointer (some ⟨g, off, none⟩) ∧ evL l q = x ∧ ((P.info? T).map (·.size) == some vs.length) = true := by exact ⟨_, _, _, rfl, by kernel_rfl, by kernel_rfl, by kernel_rfl⟩) (hr : readyL ops L = [i] := by kernel_rfl) (hg : gd ops l (ops.getD i default) = some true := by kernel_rfl) (hc : achk n l ops i none = true := by kernel_rfl) (hZ : Z i = true := by rfl) : GY P n ds ops Q S Z (fuel + 1) L l w := by
  have Y := blk_setCells vs off cs w X (Nat.le_of_ble_eq_true hb)
  rw [he] at Y
  exact yv i _ (run_sto X hst hx h1 hb) (h _ Y (chg_setCells g off vs)) hr hc hg hZ
end
theorem wi {z : Int} (h : -9223372036854775808 ≤ z ∧ z < 9223372036854775808) : Value.int .i64 (IntKind.i64.wrap z) = .int .i64 z := by rw [IntKind.wrap_i64]; congr 1; omega
theorem wu {z : Int} (h : 0 ≤ z ∧ z < 18446744073709551616) : Value.int .u64 (IntKind.u64.wrap z) = .int .u64 z := by rw [IntKind.wrap_u64]; congr 1; omega
theorem congr_v {P : Program} {ρ : Operand → Value} {o : Oper} {w : World} {v v' : Value} (e : v = v') (h : (execOp ρ o).run P w = .ok (.value v) w) : (execOp ρ o).run P w = .ok (.value v') w := e ▸ h
def slT (P : Program) (T : TypeId) (sz : Nat) : Bool := match P.underlying T with
  | some (.slice e) => (P.info? e).map (·.size) == some sz
  | _ => false
theorem run_ixs {P : Program} {ρ : Operand → Value} {o : Oper} {w : World} (sz b off n c k : Nat) (hk : k < n) (ho : ∃ T x y, o.op = .indexAddr T x y ∧ slT P T sz = true ∧ ρ x = .slice (some ⟨b, off, none⟩) n c ∧ ρ y = .int .i64 (k : Int) := by exact ⟨_, _, _, rfl, by kernel_rfl, by kernel_rfl, by kernel_rfl⟩) : (execOp ρ o).run P w = .ok (.value (.pointer (some ⟨b, off + k * sz, none⟩))) w := by
  obtain ⟨T, x, y, h1, h2, h5, h6⟩ := ho
  have h7 : (k : Int) < n := by omega
  have h8 : ¬ ((k : Int) < 0) := by omega
  unfold slT at h2
  cases hu : P.underlying T with
  | none => rw [hu] at h2; cases h2
  | some d =>
    rw [hu] at h2
    cases d with
    | slice e =>
      simp only [beq_iff_eq] at h2
      cases hi : P.info? e with
      | none => rw [hi] at h2; cases h2
      | some i =>
        rw [hi] at h2
        simp at h2
        simp only [execOp, h1, h5, h6]
        go_simp
        simp [sizeOf, typeInfo, hi, h2]
    | _ => cases h2
/-- what a store of a new variable leaves of what was there -/
theorem belowC {w0 w w1 : World} {g : Nat} (B : Below w0.heap.size w0 w) (C : Chg (· = g) w w1) (h : w0.heap.size ≤ g) : Below w0.heap.size w0 w1 := B.trans (C.below (fun b e => by have e' : b = g := e; omega) B.size)
end Gl
end Go.Proofs.YtemkjdanemddpaaGreat

namespace Go.Proofs.YtemkjdanemddpaaGreat
namespace So
set_option linter.unusedVariables false
set_option maxHeartbeats 1000000
/-- two places swapped -/
def sw (f : Nat → Int) (i j : Nat) : Nat → Int := fun k => if k = i then f j else if k = j then f i else f k
/-- the values from a on, up to b -/
def seg (a b : Nat) (f : Nat → Int) : List Int := (List.range' a (b - a)).map f
/-- within a to b the same values, in whatever order; outside nothing has changed -/
structure Pm (a b : Nat) (f g : Nat → Int) : Prop where
  out : ∀ k, k < a ∨ b ≤ k → g k = f k
  per : (seg a b g).Perm (seg a b f)
def Srt (a b : Nat) (f : Nat → Int) : Prop := ∀ i j, a ≤ i → i ≤ j → j < b → f i ≤ f j
section
variable {a b m i j k : Nat} {f g h : Nat → Int}
theorem Pm.refl : Pm a b f f := ⟨fun _ _ => rfl, List.Perm.refl _⟩
theorem Pm.trans (p : Pm a b f g) (q : Pm a b g h) : Pm a b f h := ⟨fun k hk => (q.out k hk).trans (p.out k hk), q.per.trans p.per⟩
theorem sw_l : sw f i j i = f j := if_pos rfl
theorem sw_r : sw f i j j = f i := by
  unfold sw
  by_cases e : j = i
  · rw [if_pos e, e]
  · rw [if_neg e, if_pos rfl]
theorem sw_o (h1 : k ≠ i) (h2 : k ≠ j) : sw f i j k = f k := by unfold sw; rw [if_neg h1, if_neg h2]
theorem sw_same : sw f i i = f := funext fun k => by
  unfold sw
  split
  · rename_i e; rw [e]
  · rfl
theorem in_seg : k ∈ List.range' a (b - a) ↔ a ≤ k ∧ k < b := by
  rw [List.mem_range'_1]
  omega
theorem map_out {l : List Nat} (h : ∀ k ∈ l, g k = f k) : l.map g = l.map f := List.map_congr_left h
theorem Pm.sw (hi : a ≤ i ∧ i < b) (hj : a ≤ j ∧ j < b) : Pm a b f (sw f i j) := by
  by_cases e : i = j
  · subst e; rw [sw_same]; exact Pm.refl
  refine ⟨fun k hk => sw_o (by omega) (by omega), ?_⟩
  have nd : (List.range' a (b - a)).Nodup := List.nodup_range'
  have p1 := List.perm_cons_erase (in_seg.2 hi)
  have hj2 : j ∈ (List.range' a (b - a)).erase i := (List.Nodup.mem_erase_iff nd).2 ⟨fun x => e x.symm, in_seg.2 hj⟩
  have p2 := List.perm_cons_erase hj2
  have p := p1.trans (List.Perm.cons i p2)
  have nd2 := nd.erase i
  have hr : (((List.range' a (b - a)).erase i).erase j).map (So.sw f i j) = (((List.range' a (b - a)).erase i).erase j).map f := map_out fun k hk => by
    obtain ⟨h1, h2⟩ := (List.Nodup.mem_erase_iff nd2).1 hk
    obtain ⟨h3, _⟩ := (List.Nodup.mem_erase_iff nd).1 h2
    exact sw_o h3 h1
  refine (p.map (So.sw f i j)).trans (List.Perm.trans ?_ (p.map f).symm)
  simp only [List.map_cons, sw_l, sw_r, hr]
  exact List.Perm.swap _ _ _
theorem seg_split (h1 : a ≤ m) (h2 : m ≤ b) : seg a b f = seg a m f ++ seg m b f := by
  unfold seg
  rw [← List.map_append]
  congr 1
  have := List.range'_append_1 (s := a) (m := m - a) (n := b - m)
  rw [show a + (m - a) = m by omega, show m - a + (b - m) = b - a by omega] at this
  exact this.symm
theorem seg_out (h : ∀ k, a ≤ k → k < b → g k = f k) : seg a b g = seg a b f := map_out fun k hk => by
  have := in_seg.1 hk
  exact h k this.1 this.2
theorem Pm.mono {c d : Nat} (p : Pm a b f g) (hab : a ≤ b) (hc : c ≤ a) (hd : b ≤ d) : Pm c d f g := by
  refine ⟨fun k hk => p.out k (by omega), ?_⟩
  rw [seg_split (f := g) hc (by omega : a ≤ d), seg_split (f := g) hab hd, seg_split (f := f) hc (by omega : a ≤ d), seg_split (f := f) hab hd]
  rw [seg_out (a := c) (b := a) (f := f) (g := g) (fun k h1 h2 => p.out k (.inl h2)), seg_out (a := b) (b := d) (f := f) (g := g) (fun k h1 h2 => p.out k (.inr h1))]
  exact (List.Perm.append_left _ (List.Perm.append_right _ p.per))
theorem seg_mem {v : Int} : v ∈ seg a b f ↔ ∃ k, a ≤ k ∧ k < b ∧ f k = v := by
  unfold seg
  rw [List.mem_map]
  constructor
  · rintro ⟨k, hk, e⟩
    have := in_seg.1 hk
    exact ⟨k, this.1, this.2, e⟩
  · rintro ⟨k, h1, h2, e⟩
    exact ⟨k, in_seg.2 ⟨h1, h2⟩, e⟩
/-- what holds of all values holds of them in another order -/
theorem Pm.all {P : Int → Prop} (p : Pm a b f g) (h : ∀ k, a ≤ k → k < b → P (f k)) : ∀ k, a ≤ k → k < b → P (g k) := fun k h1 h2 => by
  have hm := p.per.mem_iff.1 (seg_mem.2 ⟨k, h1, h2, rfl⟩)
  obtain ⟨q, h3, h4, e⟩ := seg_mem.1 hm
  rw [← e]
  exact h q h3 h4
theorem srt_join (h1 : a ≤ m) (h2 : m < b) (l : Srt a m f) (r : Srt (m + 1) b f) (hl : ∀ k, a ≤ k → k < m → f k ≤ f m) (hr : ∀ k, m < k → k < b → f m ≤ f k) : Srt a b f := fun i j hi hij hj => by
  rcases Nat.lt_trichotomy i m with c | c | c
  · rcases Nat.lt_trichotomy j m with d | d | d
    · exact l i j hi hij d
    · subst d; exact hl i hi c
    · exact Int.le_trans (hl i hi c) (hr j d hj)
  · subst c
    rcases Nat.eq_or_lt_of_le hij with d | d
    · subst d; exact Int.le_refl _
    · exact hr j d hj
  · exact r i j c hij hj
theorem srt_one (h : b ≤ a + 1) : Srt a b f := fun i j hi hij hj => by
  have : i = j := by omega
  subst this
  exact Int.le_refl _
theorem Srt.sub {c d : Nat} (h : Srt a b f) (hc : a ≤ c) (hd : d ≤ b) : Srt c d f := fun i j hi hij hj => h i j (by omega) hij (by omega)
/-- one more, where it stands at the end -/
theorem Srt.snoc (h : Srt a b f) (hb : ∀ k, a ≤ k → k < b → f k ≤ f b) : Srt a (b + 1) f := fun i j hi hij hj => by
  rcases Nat.lt_or_ge j b with c | c
  · exact h i j hi hij c
  · obtain rfl : j = b := by omega
    rcases Nat.eq_or_lt_of_le hij with d | d
    · subst d; exact Int.le_refl _
    · exact hb i hi d
/-- insertion: sorted from a to i but for the place j, which is below all behind it -/
structure Ins (a i j : Nat) (f : Nat → Int) : Prop where
  le : a ≤ j ∧ j ≤ i
  lo : Srt a j f
  hi : Srt (j + 1) (i + 1) f
  up : ∀ k, j < k → k ≤ i → f j ≤ f k
  ov : ∀ p q, a ≤ p → p < j → j < q → q ≤ i → f p ≤ f q
theorem Ins.start (h : Srt a i f) (hi : a ≤ i) : Ins a i i f := ⟨⟨hi, Nat.le_refl _⟩, h, srt_one (by omega), fun k h1 h2 => by omega, fun p q h1 h2 h3 h4 => by omega⟩
theorem Ins.done (h : Ins a i j f) (hd : j = a ∨ f (j - 1) ≤ f j) : Srt a (i + 1) f := by
  refine srt_join h.le.1 (by have := h.le.2; omega) h.lo h.hi (fun k h1 h2 => ?_) (fun k h1 h2 => h.up k h1 (by omega))
  rcases hd with d | d
  · omega
  · exact Int.le_trans (h.lo k (j - 1) h1 (by omega) (by omega)) d
theorem Ins.step (h : Ins a i j f) (ha : a < j) (hl : f j < f (j - 1)) : Ins a i (j - 1) (sw f j (j - 1)) := by
  have hj := h.le.2
  have e1 : sw f j (j - 1) j = f (j - 1) := sw_l
  have e2 : sw f j (j - 1) (j - 1) = f j := sw_r
  have eo : ∀ k, k ≠ j → k ≠ j - 1 → sw f j (j - 1) k = f k := fun k h1 h2 => sw_o h1 h2
  refine ⟨⟨by omega, by omega⟩, fun p q h1 h2 h3 => ?_, fun p q h1 h2 h3 => ?_, fun k h1 h2 => ?_, fun p q h1 h2 h3 h4 => ?_⟩
  · rw [eo p (by omega) (by omega), eo q (by omega) (by omega)]
    exact h.lo p q h1 h2 (by omega)
  · by_cases c : p = j
    · subst c
      rw [e1]
      by_cases d : q = p
      · subst d; rw [e1]; exact Int.le_refl _
      · rw [eo q d (by omega)]
        exact h.ov (p - 1) q (by omega) (by omega) (by omega) (by omega)
    · rw [eo p c (by omega), eo q (by omega) (by omega)]
      exact h.hi p q (by omega) h2 h3
  · rw [e2]
    by_cases c : k = j
    · subst c; rw [e1]; omega
    · rw [eo k c (by omega)]
      exact h.up k (by omega) h2
  · rw [eo p (by omega) (by omega)]
    by_cases c : q = j
    · subst c; rw [e1]; exact h.lo p (q - 1) h1 (by omega) (by omega)
    · rw [eo q c (by omega)]
      exact h.ov p q h1 (by omega) (by omega) h4
end
end So
end Go.Proofs.YtemkjdanemddpaaGreat

namespace Go.Proofs.YtemkjdanemddpaaGreat
namespace So
set_option linter.unusedVariables false
set_option maxHeartbeats 1000000
section
variable {a b m i j k : Nat} {f g h : Nat → Int}
/-- a partition under way: below i what is less than the first, behind j what is not -/
structure Pt (a b i j : Nat) (f : Nat → Int) : Prop where
  bd : a < i ∧ i ≤ j + 1 ∧ j < b
  lo : ∀ k, a < k → k < i → f k < f a
  hi : ∀ k, j < k → k < b → f a ≤ f k
theorem Pt.start (h : a < b) : Pt a b (a + 1) (b - 1) f := ⟨by omega, fun k _ _ => by omega, fun k _ _ => by omega⟩
theorem Pt.inc (p : Pt a b i j f) (hij : i ≤ j) (h : f i < f a) : Pt a b (i + 1) j f := ⟨by have := p.bd; omega, fun k h1 h2 => by
  rcases Nat.lt_or_ge k i with c | c
  · exact p.lo k h1 c
  · obtain rfl : k = i := by omega
    exact h, p.hi⟩
theorem Pt.dec (p : Pt a b i j f) (hij : i ≤ j) (h : f a ≤ f j) : Pt a b i (j - 1) f := ⟨by have := p.bd; omega, p.lo, fun k h1 h2 => by
  rcases Nat.lt_or_ge j k with c | c
  · exact p.hi k c h2
  · obtain rfl : k = j := by omega
    exact h⟩
theorem Pt.swp (p : Pt a b i j f) (hij : i ≤ j) (h1 : f a ≤ f i) (h2 : f j < f a) : Pt a b (i + 1) (j - 1) (sw f i j) := by
  have hb := p.bd
  have hne : i ≠ j := fun e => by subst e; omega
  have ea : sw f i j a = f a := sw_o (by omega) (by omega)
  refine ⟨by omega, fun k c1 c2 => ?_, fun k c1 c2 => ?_⟩
  · rw [ea]
    by_cases e : k = i
    · subst e; rw [sw_l]; exact h2
    · rw [sw_o e (by omega)]; exact p.lo k c1 (by omega)
  · rw [ea]
    by_cases e : k = j
    · subst e; rw [sw_r]; exact h1
    · rw [sw_o (by omega) e]; exact p.hi k (by omega) c2
theorem Pt.done (p : Pt a b i j f) (hji : j < i) : (a ≤ j ∧ j < b) ∧ (∀ k, a ≤ k → k < j → sw f j a k < sw f j a j) ∧ ∀ k, j < k → k < b → sw f j a j ≤ sw f j a k := by
  have hb := p.bd
  refine ⟨by omega, fun k c1 c2 => ?_, fun k c1 c2 => ?_⟩
  · rw [sw_l]
    by_cases e : k = a
    · subst e; rw [sw_r]; exact p.lo j (by omega) (by omega)
    · rw [sw_o (by omega) e]; exact p.lo k (by omega) (by omega)
  · rw [sw_l, sw_o (by omega) (by omega)]
    exact p.hi k c1 c2
/-- a partition by what equals the first, which is the least -/
structure Pe (a b i j : Nat) (f : Nat → Int) : Prop where
  bd : a < i ∧ i ≤ j + 1 ∧ j < b
  lo : ∀ k, a ≤ k → k < i → f k ≤ f a
  hi : ∀ k, j < k → k < b → f a < f k
theorem Pe.start (h : a < b) : Pe a b (a + 1) (b - 1) f := ⟨by omega, fun k h1 h2 => by
  obtain rfl : k = a := by omega
  exact Int.le_refl _, fun k _ _ => by omega⟩
theorem Pe.inc (p : Pe a b i j f) (hij : i ≤ j) (h : f i ≤ f a) : Pe a b (i + 1) j f := ⟨by have := p.bd; omega, fun k h1 h2 => by
  rcases Nat.lt_or_ge k i with c | c
  · exact p.lo k h1 c
  · obtain rfl : k = i := by omega
    exact h, p.hi⟩
theorem Pe.dec (p : Pe a b i j f) (hij : i ≤ j) (h : f a < f j) : Pe a b i (j - 1) f := ⟨by have := p.bd; omega, p.lo, fun k h1 h2 => by
  rcases Nat.lt_or_ge j k with c | c
  · exact p.hi k c h2
  · obtain rfl : k = j := by omega
    exact h⟩
theorem Pe.swp (p : Pe a b i j f) (hij : i ≤ j) (h1 : f a < f i) (h2 : f j ≤ f a) : Pe a b (i + 1) (j - 1) (sw f i j) := by
  have hb := p.bd
  have hne : i ≠ j := fun e => by subst e; omega
  have ea : sw f i j a = f a := sw_o (by omega) (by omega)
  refine ⟨by omega, fun k c1 c2 => ?_, fun k c1 c2 => ?_⟩
  · rw [ea]
    by_cases e : k = i
    · subst e; rw [sw_l]; exact h2
    · rw [sw_o e (by omega)]; exact p.lo k c1 (by omega)
  · rw [ea]
    by_cases e : k = j
    · subst e; rw [sw_r]; exact h1
    · rw [sw_o (by omega) e]; exact p.hi k (by omega) c2
/-- what is left: whoever sorts from a to b has sorted from c to d -/
def Rest (c d a b : Nat) (f : Nat → Int) : Prop := ∀ g, Pm a b f g → Srt a b g → Srt c d g
theorem rest_all : Rest a b a b f := fun _ _ h => h
theorem Rest.pm {c d : Nat} (r : Rest c d a b f) (p : Pm a b f g) : Rest c d a b g := fun h q s => r h (p.trans q) s
/-- the left one is sorted: the right one is left -/
theorem Rest.right {c d : Nat} (r : Rest c d a b f) (h1 : a ≤ m ∧ m < b) (hl : ∀ k, a ≤ k → k < m → f k < f m) (hr : ∀ k, m < k → k < b → f m ≤ f k) (p : Pm a m f g) (s : Srt a m g) : Rest c d (m + 1) b g := fun h q t => by
  have e1 : ∀ k, a ≤ k → k ≤ m → h k = g k := fun k c1 c2 => q.out k (.inl (by omega))
  have em : h m = f m := (e1 m h1.1 (Nat.le_refl _)).trans (p.out m (.inr (Nat.le_refl _)))
  refine r h ((p.mono h1.1 (Nat.le_refl _) (by omega)).trans (q.mono (by omega) (by omega) (Nat.le_refl _))) (srt_join h1.1 h1.2 (fun i j c1 c2 c3 => ?_) t (fun k c1 c2 => ?_) (fun k c1 c2 => ?_))
  · rw [e1 i c1 (by omega), e1 j (by omega) (by omega)]
    exact s i j c1 c2 c3
  · rw [e1 k c1 (by omega), em]
    exact Int.le_of_lt (p.all (P := fun v => v < f m) hl k c1 c2)
  · rw [em]
    refine q.all (P := fun v => f m ≤ v) (fun k c3 c4 => ?_) k c1 c2
    rw [p.out k (.inr (by omega))]
    exact hr k (by omega) c4
/-- the right one is sorted: the left one is left -/
theorem Rest.left {c d : Nat} (r : Rest c d a b f) (h1 : a ≤ m ∧ m < b) (hl : ∀ k, a ≤ k → k < m → f k < f m) (hr : ∀ k, m < k → k < b → f m ≤ f k) (p : Pm (m + 1) b f g) (s : Srt (m + 1) b g) : Rest c d a m g := fun h q t => by
  have e1 : ∀ k, m ≤ k → h k = g k := fun k c1 => q.out k (.inr c1)
  have em : h m = f m := (e1 m (Nat.le_refl _)).trans (p.out m (.inl (Nat.lt_succ_self _)))
  refine r h ((p.mono (by omega) (by omega) (Nat.le_refl _)).trans (q.mono h1.1 (Nat.le_refl _) (by omega))) (srt_join h1.1 h1.2 t (fun i j c1 c2 c3 => ?_) (fun k c1 c2 => ?_) (fun k c1 c2 => ?_))
  · rw [e1 i (by omega), e1 j (by omega)]
    exact s i j c1 c2 c3
  · rw [em]
    refine Int.le_of_lt (q.all (P := fun v => v < f m) (fun k c3 c4 => ?_) k c1 c2)
    rw [p.out k (.inl (by omega))]
    exact hl k c3 c4
  · rw [em, e1 k (by omega)]
    exact p.all (P := fun v => f m ≤ v) (fun k c3 c4 => hr k (by omega) c4) k c1 c2
/-- the least ones stand at the beginning: those behind are left -/
theorem Rest.skip {c d : Nat} (r : Rest c d a b f) (h1 : a ≤ m ∧ m ≤ b) {v : Int} (hl : ∀ k, a ≤ k → k < m → f k = v) (hr : ∀ k, m ≤ k → k < b → v ≤ f k) : Rest c d m b f := fun h q t => by
  have e1 : ∀ k, k < m → h k = f k := fun k c1 => q.out k (.inl c1)
  refine r h (q.mono h1.2 h1.1 (Nat.le_refl _)) fun i j c1 c2 c3 => ?_
  rcases Nat.lt_or_ge i m with c4 | c4
  · rw [e1 i c4, hl i c1 c4]
    rcases Nat.lt_or_ge j m with c5 | c5
    · rw [e1 j c5, hl j (by omega) c5]
      exact Int.le_refl _
    · exact q.all (P := fun x => v ≤ x) hr j c5 c3
  · exact t i j c4 c2 c3
/-- a heap from lo on; r alone may be too small -/
structure Hp (o lo hi r : Nat) (f : Nat → Int) : Prop where
  ok : ∀ i c, lo ≤ i → i ≠ r → (c = 2 * i + 1 ∨ c = 2 * i + 2) → c < hi → f (o + c) ≤ f (o + i)
  up : ∀ q c, lo ≤ q → (r = 2 * q + 1 ∨ r = 2 * q + 2) → (c = 2 * r + 1 ∨ c = 2 * r + 2) → c < hi → f (o + c) ≤ f (o + q)
variable {o lo hi r : Nat}
/-- the whole is a heap -/
def Heap (o lo hi : Nat) (f : Nat → Int) : Prop := ∀ i c, lo ≤ i → (c = 2 * i + 1 ∨ c = 2 * i + 2) → c < hi → f (o + c) ≤ f (o + i)
theorem Hp.start (h : Heap o (lo + 1) hi f) : Hp o lo hi lo f := ⟨fun i c h1 h2 h3 h4 => h i c (by omega) h3 h4, fun q c h1 h2 => by omega⟩
theorem Hp.done (h : Hp o lo hi r f) (hd : ∀ c, (c = 2 * r + 1 ∨ c = 2 * r + 2) → c < hi → f (o + c) ≤ f (o + r)) : Heap o lo hi f := fun i c h1 h2 h3 => by
  by_cases e : i = r
  · subst e; exact hd c h2 h3
  · exact h.ok i c h1 e h2 h3
theorem Hp.step {c : Nat} (h : Hp o lo hi r f) (hr : lo ≤ r) (hc : (c = 2 * r + 1 ∨ c = 2 * r + 2) ∧ c < hi) (hm : ∀ d, (d = 2 * r + 1 ∨ d = 2 * r + 2) → d < hi → f (o + d) ≤ f (o + c)) (hl : f (o + r) < f (o + c)) : Hp o lo hi c (sw f (o + r) (o + c)) := by
  have er : sw f (o + r) (o + c) (o + r) = f (o + c) := sw_l
  have ec : sw f (o + r) (o + c) (o + c) = f (o + r) := sw_r
  have eo : ∀ k, k ≠ r → k ≠ c → sw f (o + r) (o + c) (o + k) = f (o + k) := fun k h1 h2 => sw_o (by omega) (by omega)
  refine ⟨fun i d h1 h2 h3 h4 => ?_, fun q d h1 h2 h3 h4 => ?_⟩
  · by_cases e : i = r
    · subst e
      rw [er]
      by_cases e2 : d = c
      · subst e2; rw [ec]; exact Int.le_of_lt hl
      · rw [eo d (by omega) e2]; exact hm d h3 h4
    · rw [eo i e h2]
      by_cases e3 : d = r
      · subst e3; rw [er]; exact h.up i c h1 h3 hc.1 hc.2
      · rw [eo d e3 (by omega)]; exact h.ok i d h1 e h3 h4
  · have hq : q = r := by omega
    subst hq
    rw [er, eo d (by omega) (by omega)]
    exact h.ok c d (by omega) (by omega) h3 h4
theorem Heap.top (h : Heap o 0 hi f) : ∀ k, k < hi → f (o + k) ≤ f o := fun k => by
  induction k using Nat.strongRecOn with
  | ind k ih =>
    intro hk
    rcases Nat.eq_zero_or_pos k with e | e
    · subst e; exact Int.le_refl _
    · have h1 := h ((k - 1) / 2) k (Nat.zero_le _) (by omega) hk
      exact Int.le_trans h1 (ih ((k - 1) / 2) (by omega) (by omega))
end
end So
end Go.Proofs.YtemkjdanemddpaaGreat

namespace Go.Proofs.YtemkjdanemddpaaGreat
namespace So
open Go.RowKit Go.Lib Pg Gl
set_option linter.unusedVariables false
set_option linter.unusedSimpArgs false
set_option maxHeartbeats 1000000
def cs (N : Nat) (f : Nat → Int) : List Value := (List.range N).map fun k => .int .u64 (f k)
def pu (f : Nat → Int) (i : Nat) (x : Int) : Nat → Int := fun k => if k = i then x else f k
section
variable {N k i j : Nat} {f : Nat → Int} {x : Int}
theorem cs_len : (cs N f).length = N := by simp [cs]
theorem cs_at (h : k < N) : (cs N f)[k]? = some (.int .u64 (f k)) := by simp [cs, h]
theorem cs_fit (h : k < N) : Nat.ble (k + 1) (cs N f).length = true := by
  rw [cs_len]
  exact Nat.ble_eq_true_of_le h
theorem cs_put (h : k < N) : spl (cs N f) k [.int .u64 x] = cs N (pu f k x) := by
  unfold spl
  apply List.ext_getElem?
  intro q
  simp only [List.append_assoc, List.length_singleton]
  rcases Nat.lt_trichotomy q k with c | c | c
  · rw [List.getElem?_append_left (by simp [cs_len]; omega), List.getElem?_take_of_lt c]
    by_cases d : q < N
    · rw [cs_at d, cs_at d]; unfold pu; rw [if_neg (by omega)]
    · omega
  · subst c
    rw [List.getElem?_append_right (by simp [cs_len]; omega), cs_at h]
    simp [cs_len, pu, Nat.min_eq_left (Nat.le_of_lt h)]
  · rw [List.getElem?_append_right (by simp [cs_len]; omega)]
    have e1 : (List.take k (cs N f)).length = k := by simp [cs_len]; omega
    rw [e1, List.getElem?_append_right (by simp; omega)]
    simp only [List.length_singleton, List.getElem?_drop]
    rw [show k + 1 + (q - k - 1) = q by omega]
    by_cases d : q < N
    · rw [cs_at d, cs_at d]; unfold pu; rw [if_neg (by omega)]
    · rw [List.getElem?_eq_none (by rw [cs_len]; omega), List.getElem?_eq_none (by rw [cs_len]; omega)]
theorem pu_sw : pu (pu f i (f j)) j (f i) = sw f i j := funext fun k => by
  unfold pu sw
  by_cases e : k = j
  · rw [if_pos e]
    by_cases e2 : k = i
    · rw [if_pos e2, ← e, e2]
    · rw [if_neg e2, if_pos e]
  · rw [if_neg e]
    by_cases e2 : k = i
    · rw [if_pos e2, if_pos e2]
    · rw [if_neg e2, if_neg e2, if_neg e]
theorem cs_sw (h : j < N) : spl (cs N (pu f i (f j))) j [.int .u64 (f i)] = cs N (sw f i j) := by rw [cs_put h, pu_sw]
end
/-- the block holds f; nothing else that was there has changed -/
structure Sr (w : World) (g N : Nat) (w' : World) (f : Nat → Int) : Prop where
  blk : Blk w' g (cs N f) 31
  chg : Chg (· = g) w w'
section
variable {w w1 w2 : World} {g N : Nat} {f h : Nat → Int}
theorem sr_of (X : Blk w g (cs N f) 31) : Sr w g N w f := ⟨X, Chg.of (Below.refl _ _)⟩
theorem Sr.keep (r : Sr w g N w1 f) (b : Below w1.heap.size w1 w2) : Sr w g N w2 f := ⟨r.blk.keep b, r.chg.trans (Chg.of (F := fun _ => False) b) (fun _ _ x => x.elim)⟩
theorem Sr.drew (r : Sr w g N w1 f) : Sr w g N w1.drew f := r.keep (Below.refl _ _).drew
theorem Sr.put (r : Sr w g N w1 f) (c : Chg (· = g) w1 w2) (Y : Blk w2 g (cs N h) 31) : Sr w g N w2 h := ⟨Y, r.chg.trans c (fun _ _ x => x)⟩
theorem Sr.call (r : Sr w g N w1 f) (q : Sr w1 g N w2 h) : Sr w g N w2 h := ⟨q.blk, r.chg.trans q.chg (fun _ _ x => x)⟩
end
end So
end Go.Proofs.YtemkjdanemddpaaGreat

namespace Go.Proofs.YtemkjdanemddpaaGreat
namespace So
open Go.RowKit Go.Lib Pg Gl
set_option maxRecDepth 100000
set_option linter.unusedVariables false
set_option linter.unusedSimpArgs false
set_option maxHeartbeats 4000000
theorem nan_any {w : World} {x : Int} : Calls Tryz.prog 127 #[.int .u64 x] w fun e w' => e = .returned (.bool false) ∧ Below w.heap.size w w' := by
  have BB := Below.refl w.heap.size w
  refine gc_enter (n := 6) Tryz.func127 rfl (by kernel_rfl) (by kernel_rfl) ?_
  refine gc_seq ?_
  refine gc_reg ?_
  refine t 2 (.bool false) ?_
  refine gl_nil ?_
  refine ge_then ?_
  refine gc_seq ?_
  refine gc_reg ?_
  refine t 3 (.int .u64 x) ?_
  refine t 4 (.int .u64 x) ?_
  refine tq 5 (.bool ((x : Int) != x)) (.bool false) (congrArg Value.bool (bne_self_eq_false _)) ?_
  refine t 2 (.bool false) ?_
  refine gl_nil ?_
  refine ge_then ?_
  refine gc_ret ?_
  refine ge_ret (.bool false) (rs1 2 (by kernel_rfl) (by kernel_rfl)) ?_
  exact ⟨rfl, BB⟩
theorem less_any {w : World} {x y : Int} : Calls Tryz.prog 104 #[.int .u64 x, .int .u64 y] w fun e w' => e = .returned (.bool (decide (x < y))) ∧ Below w.heap.size w w' := by
  have BB := Below.refl w.heap.size w
  refine gc_enter (n := 17) Tryz.func104 rfl (by kernel_rfl) (by kernel_rfl) ?_
  refine gc_seq ?_
  refine gc_reg ?_
  refine t 4 (.bool false) ?_
  refine gl_nil ?_
  refine ge_then ?_
  refine gc_seq ?_
  refine gc_reg ?_
  refine t 5 (.int .u64 x) ?_
  refine tc 6 127 #[.int .u64 x] (nan_any) ?_
  rintro _ v1 ⟨rfl, B⟩
  refine ⟨_, rfl, ?_⟩
  replace BB := joinB BB B
  clear B
  refine t 7 (.bool false) ?_
  refine tn 8 ?_
  refine tn 9 ?_
  refine tn 10 ?_
  refine t 11 (.bool false) ?_
  refine t 12 (.bool false) ?_
  refine t 13 (.int .u64 x) ?_
  refine t 14 (.int .u64 y) ?_
  refine t 15 (.bool (decide (x < y))) ?_
  refine t 16 (.bool (decide (x < y))) ?_
  refine t 4 (.bool (decide (x < y))) ?_
  refine gl_nil ?_
  refine ge_then ?_
  refine gc_fr [(4, .bool (decide (x < y)))] (by kernel_rfl) ?_
  refine gc_ret ?_
  refine ge_ret (.bool (decide (x < y))) (rs1 4 (by kernel_rfl) (by kernel_rfl)) ?_
  exact ⟨rfl, BB⟩
structure SoE (w : World) (g N a b : Nat) (f : Nat → Int) (e : Ending) (w' : World) : Prop where
  ex : ∃ h, e = .returned (.tuple #[]) ∧ Sr w g N w' h ∧ Pm a b f h ∧ Srt a b h
theorem insertion_any {w : World} {g N n c a b : Nat} {f : Nat → Int} (X : Blk w g (cs N f) 31) (hn : n ≤ N) (hN : n ≤ 1000000000) (hb : b ≤ n) (ha : a ≤ n) : Calls Tryz.prog 98 #[.slice (some ⟨g, 0, none⟩) n c, .int .i64 (a : Int), .int .i64 (b : Int)] w (SoE w g N a b f) := by
  have R := sr_of X
  refine gc_enter (n := 49) Tryz.func98 rfl (by kernel_rfl) (by kernel_rfl) ?_
  refine gc_seq ?_
  refine gc_reg ?_
  refine t 8 (.int .i64 (a : Int)) ?_
  refine tq 9 (.int .i64 (IntKind.i64.wrap ((a : Int) + 1))) (.int .i64 ((a + 1 : Nat) : Int)) ((wi (by omega)).trans (congrArg (Value.int .i64) (by omega))) ?_
  refine t 6 (.int .i64 ((a + 1 : Nat) : Int)) ?_
  refine gl_nil ?_
  refine ge_then ?_
  refine gc_block ?_
  refine gc_loop (fun s => b - s.1) (fun (s : Nat × (Nat → Int)) => [(0, .slice (some ⟨g, 0, none⟩) n c), (1, .int .i64 (a : Int)), (2, .int .i64 (b : Int)), (6, .int .i64 (s.1 : Int))]) (fun s w' => Sr w g N w' s.2 ∧ (a + 1 ≤ s.1 ∧ (a < b → s.1 ≤ b)) ∧ Srt a s.1 s.2 ∧ Pm a b f s.2) ((a + 1, f) : Nat × (Nat → Int)) ⟨R, ⟨by show a + 1 ≤ a + 1; omega, fun h => by show a + 1 ≤ b; omega⟩, srt_one (by show a + 1 ≤ a + 1; omega), Pm.refl⟩ (by kernel_rfl) ?_
  clear R
  rintro ⟨i, f1⟩ v1 ⟨R, ⟨hi, hib⟩, hs, hp⟩
  dsimp only at R hi hib hs hp
  refine gc_seq ?_
  refine gc_seq ?_
  refine gc_reg ?_
  refine t 10 (.int .i64 (i : Int)) ?_
  refine t 11 (.int .i64 (b : Int)) ?_
  by_cases c2 : (i : Int) < (b : Int)
  · refine tq 12 (.bool (decide ((i : Int) < (b : Int)))) (.bool true) (congrArg Value.bool (decide_eq_true c2)) ?_
    refine gl_nil ?_
    refine ge_then ?_
    refine gc_yes ?_
    refine gc_skip ?_
    refine ge_then ?_
    refine gc_seq ?_
    refine gc_block ?_
    refine gc_seq ?_
    refine gc_reg ?_
    refine t 15 (.int .i64 (i : Int)) ?_
    refine t 7 (.int .i64 (i : Int)) ?_
    refine gl_nil ?_
    refine ge_then ?_
    refine gc_block ?_
    refine gc_loop (fun s => s.1 - a) (fun (s : Nat × (Nat → Int)) => [(0, .slice (some ⟨g, 0, none⟩) n c), (1, .int .i64 (a : Int)), (2, .int .i64 (b : Int)), (6, .int .i64 (i : Int)), (7, .int .i64 (s.1 : Int))]) (fun s w' => Sr w g N w' s.2 ∧ Ins a i s.1 s.2 ∧ Pm a b f s.2) ((i, f1) : Nat × (Nat → Int)) ⟨R, Ins.start hs (by omega), hp⟩ (by kernel_rfl) ?_
    clear R
    rintro ⟨j, f2⟩ v3 ⟨R, hI, hp2⟩
    dsimp only at R hI hp2
    have hle := hI.le
    refine gc_seq ?_
    refine gc_seq ?_
    replace R := R.drew
    refine gc_draw (fun w' => Blk w' g (cs N f2) 31) (fun _ => false) R.blk ?_
    refine z 0 16 (.int .i64 (j : Int)) ?_
    refine z 1 17 (.int .i64 (a : Int)) ?_
    by_cases c4 : (a : Int) < (j : Int)
    · refine zq 2 18 (.bool (decide ((a : Int) < (j : Int)))) (.bool true) (congrArg Value.bool (decide_eq_true c4)) ?_
      refine z 3 19 (.bool true) ?_
      refine z 4 20 (.slice (some ⟨g, 0, none⟩) n c) ?_
      refine z 5 21 (.int .i64 (j : Int)) ?_
      refine zr 6 22 (pq g j) (fun _ _ => congr_v (by simp) (run_ixs 1 g 0 n c j (by omega))) ?_
      refine zl 7 23 (.int .u64 (f2 j)) (fun _ h => h) j (hv := cs_at (by omega)) ?_
      refine z 8 24 (.slice (some ⟨g, 0, none⟩) n c) ?_
      refine z 9 25 (.int .i64 (j : Int)) ?_
      refine zq 10 26 (.int .i64 (IntKind.i64.wrap ((j : Int) - 1))) (.int .i64 ((j - 1 : Nat) : Int)) ((wi (by omega)).trans (congrArg (Value.int .i64) (by omega))) ?_
      refine zr 11 27 (pq g (j - 1)) (fun _ _ => congr_v (by simp) (run_ixs 1 g 0 n c (j - 1) (by omega))) ?_
      refine zl 12 28 (.int .u64 (f2 (j - 1))) (fun _ h => h) (j - 1) (hv := cs_at (by omega)) ?_
      refine zc 13 29 104 #[.int .u64 (f2 j), .int .u64 (f2 (j - 1))] (less_any) ?_
      rintro _ v5 ⟨rfl, B⟩
      replace R := R.keep B
      clear B
      refine ⟨_, rfl, R.blk, ?_⟩
      refine z 14 30 (.bool (decide (f2 j < f2 (j - 1)))) ?_
      refine gz_done ?_
      refine ge_then ?_
      refine gc_fr [(0, .slice (some ⟨g, 0, none⟩) n c), (1, .int .i64 (a : Int)), (2, .int .i64 (b : Int)), (6, .int .i64 (i : Int)), (7, .int .i64 (j : Int)), (16, .int .i64 (j : Int)), (17, .int .i64 (a : Int)), (18, .bool true), (19, .bool true), (20, .slice (some ⟨g, 0, none⟩) n c), (21, .int .i64 (j : Int)), (22, pq g j), (23, .int .u64 (f2 j)), (24, .slice (some ⟨g, 0, none⟩) n c), (25, .int .i64 (j : Int)), (26, .int .i64 ((j - 1 : Nat) : Int)), (27, pq g (j - 1)), (28, .int .u64 (f2 (j - 1))), (29, .bool (decide (f2 j < f2 (j - 1)))), (30, .bool (decide (f2 j < f2 (j - 1))))] (by kernel_rfl) ?_
      rcases Bool.eq_false_or_eq_true (decide (f2 j < f2 (j - 1))) with b6 | b6
      · have d7 : f2 j < f2 (j - 1) := of_decide_eq_true b6
        refine gc_yes (hc := congrArg Value.bool b6) ?_
        refine gc_skip ?_
        refine ge_then ?_
        refine gc_seq ?_
        refine gc_block ?_
        replace R := R.drew
        refine gc_draw (fun w' => Blk w' g (cs N f2) 31) (fun i => decide (14 ≤ i)) R.blk ?_
        refine zp 0 33 (.slice (some ⟨g, 0, none⟩) n c) ?_
        refine zp 1 34 (.int .i64 (j : Int)) ?_
        refine zp 2 35 (.slice (some ⟨g, 0, none⟩) n c) ?_
        refine zp 3 36 (.int .i64 (j : Int)) ?_
        refine zp 4 37 (.int .i64 ((j - 1 : Nat) : Int)) ?_ (hrun := fun _ => congr_v (v := .int .i64 (IntKind.i64.wrap ((j : Int) - 1))) ((wi (by omega)).trans (congrArg (Value.int .i64) (by omega))) (by kernel_rfl))
        refine zp 5 38 (.slice (some ⟨g, 0, none⟩) n c) ?_
        refine zp 6 39 (.int .i64 (j : Int)) ?_
        refine zp 7 40 (.int .i64 ((j - 1 : Nat) : Int)) ?_ (hrun := fun _ => congr_v (v := .int .i64 (IntKind.i64.wrap ((j : Int) - 1))) ((wi (by omega)).trans (congrArg (Value.int .i64) (by omega))) (by kernel_rfl))
        refine zp 8 41 (pq g (j - 1)) ?_ (hrun := fun _ => congr_v (by simp) (run_ixs 1 g 0 n c (j - 1) (by omega)))
        refine zl 9 42 (.int .u64 (f2 (j - 1))) (fun _ h => h) (j - 1) (hv := cs_at (by omega)) ?_
        refine zp 10 43 (.slice (some ⟨g, 0, none⟩) n c) ?_
        refine zp 11 44 (.int .i64 (j : Int)) ?_
        refine zp 12 45 (pq g j) ?_ (hrun := fun _ => congr_v (by simp) (run_ixs 1 g 0 n c j (by omega)))
        refine zl 13 46 (.int .u64 (f2 j)) (fun _ h => h) j (hv := cs_at (by omega)) ?_
        refine gz_late ?_
        refine yt 14 47 (pq g j) ?_ (hrun := congr_v (by simp) (run_ixs 1 g 0 n c j (by omega)))
        refine ys 15 R.blk j (.int .u64 (f2 (j - 1))) [.int .u64 (f2 (j - 1))] (cs N (pu f2 j (f2 (j - 1)))) ?_ (hb := cs_fit (by omega)) (he := cs_put (by omega))
        intro v8 Y C
        replace R := R.put C Y
        clear Y C
        refine yt 16 48 (pq g (j - 1)) ?_ (hrun := congr_v (by simp) (run_ixs 1 g 0 n c (j - 1) (by omega)))
        refine ys 17 R.blk (j - 1) (.int .u64 (f2 j)) [.int .u64 (f2 j)] (cs N (sw f2 j (j - 1))) ?_ (hb := cs_fit (by omega)) (he := cs_sw (by omega))
        intro v9 Y C
        replace R := R.put C Y
        clear Y C
        refine gy_done ?_
        refine ge_bn ?_
        refine ge_then ?_
        refine gc_fr [(0, .slice (some ⟨g, 0, none⟩) n c), (1, .int .i64 (a : Int)), (2, .int .i64 (b : Int)), (6, .int .i64 (i : Int)), (7, .int .i64 (j : Int)), (16, .int .i64 (j : Int)), (17, .int .i64 (a : Int)), (18, .bool true), (19, .bool true), (20, .slice (some ⟨g, 0, none⟩) n c), (21, .int .i64 (j : Int)), (22, pq g j), (23, .int .u64 (f2 j)), (24, .slice (some ⟨g, 0, none⟩) n c), (25, .int .i64 (j : Int)), (26, .int .i64 ((j - 1 : Nat) : Int)), (27, pq g (j - 1)), (28, .int .u64 (f2 (j - 1))), (29, .bool (decide (f2 j < f2 (j - 1)))), (30, .bool (decide (f2 j < f2 (j - 1)))), (33, .slice (some ⟨g, 0, none⟩) n c), (34, .int .i64 (j : Int)), (35, .slice (some ⟨g, 0, none⟩) n c), (36, .int .i64 (j : Int)), (37, .int .i64 ((j - 1 : Nat) : Int)), (38, .slice (some ⟨g, 0, none⟩) n c), (39, .int .i64 (j : Int)), (40, .int .i64 ((j - 1 : Nat) : Int)), (41, pq g (j - 1)), (42, .int .u64 (f2 (j - 1))), (43, .slice (some ⟨g, 0, none⟩) n c), (44, .int .i64 (j : Int)), (45, pq g j), (46, .int .u64 (f2 j)), (47, pq g j), (48, pq g (j - 1))] (by kernel_rfl) ?_
        refine gc_reg ?_
        refine t 31 (.int .i64 (j : Int)) ?_
        refine tq 32 (.int .i64 (IntKind.i64.wrap ((j : Int) - 1))) (.int .i64 ((j - 1 : Nat) : Int)) ((wi (by omega)).trans (congrArg (Value.int .i64) (by omega))) ?_
        refine t 7 (.int .i64 ((j - 1 : Nat) : Int)) ?_
        refine gl_nil ?_
        exact ge_round (j - 1, (sw f2 j (j - 1))) (by show j - 1 - a < j - a; omega) ⟨R, hI.step (by omega) d7, hp2.trans (Pm.sw ⟨by omega, by omega⟩ ⟨by omega, by omega⟩)⟩ (by kernel_rfl)
      · have d10 : f2 (j - 1) ≤ f2 j := Int.not_lt.1 (of_decide_eq_false b6)
        refine gc_no (hc := congrArg Value.bool b6) ?_
        refine gc_exit ?_
        refine ge_tx ?_
        refine ge_tx ?_
        refine ge_bx ?_
        refine ge_bn ?_
        refine ge_then ?_
        have hd2 := hI.done (.inr d10)
        refine gc_reg ?_
        refine t 13 (.int .i64 (i : Int)) ?_
        refine tq 14 (.int .i64 (IntKind.i64.wrap ((i : Int) + 1))) (.int .i64 ((i + 1 : Nat) : Int)) ((wi (by omega)).trans (congrArg (Value.int .i64) (by omega))) ?_
        refine t 6 (.int .i64 ((i + 1 : Nat) : Int)) ?_
        refine gl_nil ?_
        exact ge_round (i + 1, f2) (by show b - (i + 1) < b - i; omega) ⟨R, ⟨by show a + 1 ≤ i + 1; omega, fun _ => by show i + 1 ≤ b; omega⟩, hd2, hp2⟩ (by kernel_rfl)
    · refine zq 2 18 (.bool (decide ((a : Int) < (j : Int)))) (.bool false) (congrArg Value.bool (decide_eq_false c4)) ?_
      refine z 3 19 (.bool false) ?_
      refine zn 4 20 ?_
      refine zn 5 21 ?_
      refine zn 6 22 ?_
      refine zn 7 23 ?_
      refine zn 8 24 ?_
      refine zn 9 25 ?_
      refine zn 10 26 ?_
      refine zn 11 27 ?_
      refine zn 12 28 ?_
      refine zn 13 29 ?_
      refine z 14 30 (.bool false) ?_
      refine gz_done ?_
      refine ge_then ?_
      refine gc_fr [(0, .slice (some ⟨g, 0, none⟩) n c), (1, .int .i64 (a : Int)), (2, .int .i64 (b : Int)), (6, .int .i64 (i : Int)), (7, .int .i64 (j : Int)), (16, .int .i64 (j : Int)), (17, .int .i64 (a : Int)), (18, .bool false), (19, .bool false), (20, undef), (21, undef), (22, undef), (23, undef), (24, undef), (25, undef), (26, undef), (27, undef), (28, undef), (29, undef), (30, .bool false)] (by kernel_rfl) ?_
      refine gc_no ?_
      refine gc_exit ?_
      refine ge_tx ?_
      refine ge_tx ?_
      refine ge_bx ?_
      refine ge_bn ?_
      refine ge_then ?_
      have hd2 := hI.done (.inl (by omega))
      refine gc_reg ?_
      refine t 13 (.int .i64 (i : Int)) ?_
      refine tq 14 (.int .i64 (IntKind.i64.wrap ((i : Int) + 1))) (.int .i64 ((i + 1 : Nat) : Int)) ((wi (by omega)).trans (congrArg (Value.int .i64) (by omega))) ?_
      refine t 6 (.int .i64 ((i + 1 : Nat) : Int)) ?_
      refine gl_nil ?_
      exact ge_round (i + 1, f2) (by show b - (i + 1) < b - i; omega) ⟨R, ⟨by show a + 1 ≤ i + 1; omega, fun _ => by show i + 1 ≤ b; omega⟩, hd2, hp2⟩ (by kernel_rfl)
  · refine tq 12 (.bool (decide ((i : Int) < (b : Int)))) (.bool false) (congrArg Value.bool (decide_eq_false c2)) ?_
    refine gl_nil ?_
    refine ge_then ?_
    refine gc_no ?_
    refine gc_exit ?_
    refine ge_tx ?_
    refine ge_tx ?_
    refine ge_bx ?_
    refine ge_end (.tuple #[]) (rs0 (by kernel_rfl)) ?_
    exact ⟨_, rfl, R, hp, fun i2 j2 h1 h2 h3 => hs i2 j2 h1 h2 (by omega)⟩
end So
end Go.Proofs.YtemkjdanemddpaaGreat
