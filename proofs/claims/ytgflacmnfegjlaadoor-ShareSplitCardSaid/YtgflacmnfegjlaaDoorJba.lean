/- Several texts, joined: Pg0, XwZ, XwY, XwX. -/
import Derived.Test.YtgflacmnfegjlaaDoorChecked
import Derived.WalkKit
import Derived.WalkSpells
import Derived.WalkLawsBesides
import Derived.Lib.SliceRun
import Derived.Lib.AppendZerosOnto
import Derived.Lib.Overlaps
import Derived.Lib.Bytealg
import Derived.Lib.JoinLaws
import Derived.Laws.Externs
import Derived.Laws.CopyRow
import Derived.Laws.CopyOwn
import Derived.Laws.Tables
import Derived.Laws.NewBlocks
import Derived.Laws.IdiomCopy
import Derived.Deep.RegionHeld3
import Derived.Deep.RegionLaw
import Derived.Deep.QuietTactic
import Derived.BigQuiet
import Derived.WalkSmall
import Derived.Shelf.RegionOpenPlain
import Derived.OneCell
import Derived.Deep.RegionWith
import Derived.Deep.WholeRow
import Derived.Deep.MidRow
import Derived.BigFrame
namespace Go.Proofs.YtgflacmnfegjlaaDoor
namespace Pg
open Go.RowKit

theorem lt_of_block {w : World} {g : Nat} {o : Obj} (h : w.heap[g]? = some o) : g < w.heap.size := (Array.getElem?_eq_some_iff.1 h).1
theorem cell_lt {w : World} {b o : Nat} {v : Value} (h : w.cell? ⟨b, o, none⟩ = some v) : b < w.heap.size := by
  unfold World.cell? at h
  cases hh : w.heap[b]? with
  | none => simp [hh] at h
  | some ob => exact lt_of_block hh
/-- block g holds just cs, of type t -/
structure Blk (w : World) (g : Nat) (cs : List Value) (t : TypeId) : Prop where
  blk : w.heap[g]? = some (.cells cs.toArray t (0, 0))
theorem Blk.lt {w : World} {g : Nat} {cs : List Value} {t : TypeId} (h : Blk w g cs t) : g < w.heap.size := lt_of_block h.blk
theorem Blk.cell {w : World} {g : Nat} {cs : List Value} {t : TypeId} (h : Blk w g cs t) {i : Nat} {v : Value} (hi : cs[i]? = some v) : w.cell? ⟨g, i, none⟩ = some v := by
  simp only [World.cell?, h.blk]
  simpa using hi
theorem Blk.free {w : World} {g : Nat} {cs : List Value} {t : TypeId} (h : Blk w g cs t) (i : Nat) : w.frozen? ⟨g, i, none⟩ = false := by
  simp [World.frozen?, h.blk]
theorem Blk.keep {w w' : World} {g : Nat} {cs : List Value} {t : TypeId} (h : Blk w g cs t) (hb : Below w.heap.size w w') : Blk w' g cs t := ⟨by rw [hb.block g h.lt]; exact h.blk⟩
theorem Blk.keepB {B : Nat} {w w' : World} {g : Nat} {cs : List Value} {t : TypeId} (h : Blk w g cs t) (hb : Below B w w') (hg : g < B) : Blk w' g cs t := ⟨by rw [hb.block g hg]; exact h.blk⟩
theorem Blk.drew {w : World} {g : Nat} {cs : List Value} {t : TypeId} (h : Blk w g cs t) : Blk w.drew g cs t := ⟨h.blk⟩
theorem blk_new (w : World) (cs : List Value) (t : TypeId) : Blk (w.alloc (.cells cs.toArray t)) w.heap.size cs t := ⟨by
  show (w.heap.push _)[w.heap.size]? = _
  rw [Array.getElem?_push_size]⟩
theorem Blk.row {w : World} {g : Nat} {cs : List Value} (ds : List Value) {t : TypeId} (h : Blk w g cs t) : Blk (w.setRow g ds.toArray) g ds t := ⟨by rw [setRow_heap w g _ _ _ _ h.blk]⟩
theorem Blk.other {w : World} {g g' : Nat} {cs : List Value} {t : TypeId} (h : Blk w g cs t) (hne : g ≠ g') (ds : Array Value) : Blk (w.setRow g' ds) g cs t := ⟨by rw [setRow_other w g' g ds hne]; exact h.blk⟩
theorem Blk.same {w w' : World} {g : Nat} {cs : List Value} {t : TypeId} (h : Blk w g cs t) (hb : w'.heap[g]? = w.heap[g]?) : Blk w' g cs t := ⟨by rw [hb]; exact h.blk⟩
theorem Blk.eq {w : World} {g : Nat} {cs ds : List Value} {t u : TypeId} (h : Blk w g cs t) (h' : Blk w g ds u) : cs = ds ∧ t = u := by
  have := h.blk.symm.trans h'.blk
  simp at this
  exact this
theorem Blk.setCell {w : World} {g : Nat} {cs : List Value} {t : TypeId} (h : Blk w g cs t) {i : Nat} (v : Value) : Blk (w.setCell ⟨g, i, none⟩ v) g (cs.set i v) t := ⟨by
  have := h.blk
  simp only [World.setCell, Array.getElem?_modify, if_true, this]
  simp⟩
theorem Blk.off {w : World} {g g' : Nat} {cs : List Value} {t : TypeId} (h : Blk w g cs t) (hne : g ≠ g') {i : Nat} (v : Value) : Blk (w.setCell ⟨g', i, none⟩ v) g cs t := ⟨by rw [Below.heap_setCell w _ v g hne]; exact h.blk⟩
theorem below_alloc (w : World) (o : Obj) : Below w.heap.size w (w.alloc o) := (Below.refl _ _).alloc (Nat.le_refl _) _
theorem joinB {w wa w' : World} (b : Below w.heap.size w wa) (h : Below wa.heap.size wa w') : Below w.heap.size w w' := b.trans (h.mono b.size)
theorem below_row {B g : Nat} {w w' : World} (h : Below B w w') (hB : B ≤ g) (ds : Array Value) : Below B w (w'.setRow g ds) :=
  h.trans ⟨rfl, rfl, rfl, by simp [World.setRow], fun k hk => setRow_other w' g k ds (by omega)⟩

/-- what is changed lies in F, or is new -/
structure Chg (F : Nat → Prop) (w w' : World) : Prop where
  os : w'.os = w.os
  tape : w'.tape = w.tape
  output : w'.output = w.output
  size : w.heap.size ≤ w'.heap.size
  same : ∀ b, b < w.heap.size → ¬ F b → w'.heap[b]? = w.heap[b]?
theorem Chg.refl (F : Nat → Prop) (w : World) : Chg F w w := ⟨rfl, rfl, rfl, Nat.le_refl _, fun _ _ _ => rfl⟩
theorem Chg.of {F : Nat → Prop} {w w' : World} (h : Below w.heap.size w w') : Chg F w w' := ⟨h.os, h.tape, h.output, h.size, fun b hb _ => h.block b hb⟩
theorem Chg.nothing {w w' : World} (h : Chg (fun _ => False) w w') : Below w.heap.size w w' := ⟨h.os, h.tape, h.output, h.size, fun b hb => h.same b hb id⟩
theorem Chg.below {F : Nat → Prop} {B : Nat} {w w' : World} (h : Chg F w w') (hF : ∀ b, F b → B ≤ b) (hB : B ≤ w.heap.size) : Below B w w' := ⟨h.os, h.tape, h.output, h.size, fun b hb => h.same b (by omega) fun f => by have := hF b f; omega⟩
theorem Chg.trans {F F' : Nat → Prop} {w w1 w2 : World} (h : Chg F w w1) (h' : Chg F' w1 w2) (hF : ∀ b, b < w.heap.size → F' b → F b) : Chg F w w2 :=
  ⟨h'.os.trans h.os, h'.tape.trans h.tape, h'.output.trans h.output, Nat.le_trans h.size h'.size, fun b hb hf => (h'.same b (Nat.lt_of_lt_of_le hb h.size) fun f => hf (hF b hb f)).trans (h.same b hb hf)⟩
theorem Chg.mono {F F' : Nat → Prop} {w w1 : World} (h : Chg F w w1) (hF : ∀ b, b < w.heap.size → F b → F' b) : Chg F' w w1 := ⟨h.os, h.tape, h.output, h.size, fun b hb hf => h.same b hb fun f => hf (hF b hb f)⟩
theorem Chg.drew {F : Nat → Prop} {w w' : World} (h : Chg F w w') : Chg F w w'.drew := ⟨h.os, h.tape, h.output, h.size, h.same⟩
theorem Chg.row {F : Nat → Prop} {w w' : World} (h : Chg F w w') {g : Nat} (hg : F g ∨ w.heap.size ≤ g) (ds : Array Value) : Chg F w (w'.setRow g ds) :=
  ⟨h.os, h.tape, h.output, by simpa [World.setRow] using h.size, fun b hb hf => by
    have hne : b ≠ g := fun e => by subst e; rcases hg with f | f; exact hf f; omega
    exact (setRow_other w' g b ds hne).trans (h.same b hb hf)⟩
theorem Chg.cell {F : Nat → Prop} {w w' : World} (h : Chg F w w') {g i : Nat} (hg : F g ∨ w.heap.size ≤ g) (v : Value) : Chg F w (w'.setCell ⟨g, i, none⟩ v) :=
  ⟨h.os, h.tape, h.output, by simpa [World.setCell] using h.size, fun b hb hf => by
    have hne : b ≠ g := fun e => by subst e; rcases hg with f | f; exact hf f; omega
    exact (Below.heap_setCell w' _ v b hne).trans (h.same b hb hf)⟩
theorem Chg.alloc {F : Nat → Prop} {w w' : World} (h : Chg F w w') (o : Obj) : Chg F w (w'.alloc o) := h.trans (Chg.of (F := fun _ => False) (below_alloc w' o)) (fun _ _ f => f.elim)
theorem Blk.chg {F : Nat → Prop} {w w' : World} {g : Nat} {cs : List Value} {t : TypeId} (h : Blk w g cs t) (hc : Chg F w w') (hg : ¬ F g) : Blk w' g cs t := ⟨by rw [hc.same g h.lt hg]; exact h.blk⟩

/-- the stretch of a list from o on, laid over by cs -/
theorem splice_def {α : Type} (L : List α) (o : Nat) (cs : List α) : splice L o cs = L.take o ++ cs ++ L.drop (o + cs.length) := by simp [splice]
theorem run_copyK {P : Program} (w : World) (dT sT ty elem : TypeId) (k g o dLen dCap : Nat) (a : Addr) (sLen sCap : Nat) (L cs : List Value) (t : TypeId)
    (hu : P.underlying dT = some (.slice elem)) (hs : (P.info? elem).map (·.size) = some k)
    (hg : Blk w g L t) (m : Nat) (hm : Nat.min sLen dLen = m) (hn : cs.length = m * k)
    (hsrc : ∀ j v, cs[j]? = some v → w.cell? (a.add j) = some v) (hfit : o + cs.length ≤ L.length) (h1 : ∀ v ∈ cs, v.oneCell' = true) :
    (Builtin.copy_ #[dT, sT] ty #[.slice (some ⟨g, o, none⟩) dLen dCap, .slice (some a) sLen sCap]).run P w =
      .ok (goInt m) (w.setRow g (splice L o cs).toArray) := by
  have hl := run_loadCells_list (P := P) w a cs hsrc
  have hst := run_storeCells_at P g o t cs 0 L.toArray w hg.blk (by simpa using hfit) h1
  cases hq : P.info? elem with
  | none => simp [hq] at hs
  | some i =>
    have hi : i.size = k := by simpa [hq] using hs
    simp [Builtin.copy_, run_underlying hu, Builtin.lenOf, Builtin.firstCells, sizeOf, typeInfo, hq, hi, hm, ← hn, hl, hst, splice_def]
theorem run_clearK {P : Program} (w : World) (T ty elem : TypeId) (z : Value) (k g o n c : Nat) (L : List Value) (t : TypeId) (hu : P.underlying T = some (.slice elem)) (hv : ∀ w, (zeroValue elem).run P w = .ok z w)
    (hz : z.cells.size = k) (h1 : ∀ v ∈ z.cells, v.oneCell' = true) (hg : Blk w g L t) (hn : 0 < n) (hk : 0 < k) (hfit : o + n * k ≤ L.length) :
    (Builtin.clear_ #[T] ty #[.slice (some ⟨g, o, none⟩) n c]).run P w = .ok (.tuple #[]) (w.setRow g (splice L o (Builtin.zeroCells z.cells n).toList).toArray) := by
  have hlen : (Builtin.zeroCells z.cells n).toList.length = n * k := by simp [Builtin.zeroCells, hz]
  have hone : ∀ v ∈ (Builtin.zeroCells z.cells n).toList, v.oneCell' = true := by
    intro v hv
    simp [Builtin.zeroCells] at hv
    obtain ⟨i, hi, rfl⟩ := hv
    have : i % z.cells.size < z.cells.size := Nat.mod_lt _ (by omega)
    rw [show z.cells[i % z.cells.size]! = z.cells[i % z.cells.size] from getElem!_pos z.cells _ this]
    exact h1 _ (Array.getElem_mem this)
  have hst := run_storeCells_at P g o t (Builtin.zeroCells z.cells n).toList 0 L.toArray w hg.blk (by rw [hlen]; simpa using hfit) hone
  obtain ⟨m, rfl⟩ : ∃ m, n = m + 1 := ⟨n - 1, by omega⟩
  simp only [Nat.add_zero] at hst
  simp [Builtin.clear_, run_underlying hu, hv, hst, splice_def]
theorem splice_at {α : Type} (A B C D : List α) (k : Nat) (hk : A.length = k) (hB : B.length = C.length) : splice (A ++ B ++ D) k C = A ++ C ++ D := by
  subst hk
  have h1 : (A ++ B ++ D).take A.length = A := by rw [List.append_assoc, List.take_left]
  have h2 : (A ++ B ++ D).drop (A.length + C.length) = D := by
    rw [← hB, ← List.length_append, List.drop_left]
  rw [splice_def, h1, h2]
/-- room is made at place i for vs, and vs is laid there -/
theorem shift_eq {α : Type} (xs sp vs : List α) (i : Nat) (hi : i ≤ xs.length) (hc : vs.length ≤ sp.length) :
    splice (splice (xs ++ sp) (i + vs.length) (xs.drop i)) i vs = xs.take i ++ vs ++ xs.drop i ++ sp.drop vs.length := by
  obtain ⟨A, B, hA, rfl, rfl⟩ : ∃ A B, A.length = i ∧ xs = A ++ B ∧ i = A.length := ⟨xs.take i, xs.drop i, by simp; omega, by simp, by simp; omega⟩
  have e1 : (A ++ B).drop A.length = B := by simp
  have e2 : (A ++ B).take A.length = A := by simp
  rw [e1, e2]
  have h1 : A ++ B ++ sp = (A ++ (B ++ sp).take vs.length) ++ ((B ++ sp).drop vs.length).take B.length ++ sp.drop vs.length := by
    have h2 : ((B ++ sp).drop vs.length).take B.length ++ sp.drop vs.length = (B ++ sp).drop vs.length := by
      have h3 : sp.drop vs.length = ((B ++ sp).drop vs.length).drop B.length := by
        rw [List.drop_drop, Nat.add_comm, ← List.drop_drop]; simp
      rw [h3, List.take_append_drop]
    rw [List.append_assoc, List.append_assoc (A ++ _), h2, List.append_assoc, List.take_append_drop]
  rw [h1, splice_at (A ++ (B ++ sp).take vs.length) _ B _ (A.length + vs.length) (by simp; omega) (by simp; omega), List.append_assoc (A ++ _), splice_at A _ vs _ A.length rfl (by simp; omega), List.append_assoc (A ++ vs)]
/-- a builtin whose run is known, in a region that draws -/
theorem step_bi {P : Program} {ops : Array Oper} {o : Oper} {a : Act} {w : World} {K : Act → World → Prop} {Q : Exit → Act → World → Prop} {E : Prop} (hg : o.guard = none) {v : Value} {w' : World}
    (hr : (execOp a.eval o).run P w = .ok (.value v) w') (hK : K (a.put o.dst v) w') : if Region.wanted o (yielded ops a.tmps) = true then Oper.wp P o a w K Q else E := by
  rw [if_pos (by simp [Region.wanted, hg])]
  unfold Oper.wp
  rw [hr]
  exact hK
theorem list_bi {P : Program} {ops : Array Oper} {rest : List Oper} {o : Oper} {a : Act} {w : World} {Q : Exit → Act → World → Prop} (hg : o.guard = none) {v : Value} {w' : World}
    (hr : (execOp a.eval o).run P w = .ok (.value v) w') (hK : wpList P ops Q rest (a.put o.dst v) w') : wpList P ops Q (o :: rest) a w :=
  wpList_plain hg fun K hK' => by
    unfold Oper.wp
    rw [hr]
    exact hK' _ _ hK
theorem exec_copy {P : Program} {o : Oper} {a : Act} {w : World} (d s : Operand) (t t' : TypeId) (ho : o.op = .call { callee := .builtin .copy, args := #[d, s], argTypes := #[t, t'] }) (v u : Value) (hd : a.eval d = v) (hs : a.eval s = u) {v' : Value} {w' : World}
    (hr : (Builtin.copy_ #[t, t'] o.type #[v, u]).run P w = .ok v' w') : (execOp a.eval o).run P w = .ok (.value v') w' := by
  simp only [execOp, ho, resolve, invoke, builtin, Sem.run_bind, Sem.run_pure, Result.andThen_ok, List.map_toArray, List.map_cons, List.map_nil, hd, hs, hr]
theorem exec_app {P : Program} {o : Oper} {a : Act} {w : World} (d s : Operand) (t t' : TypeId) (ho : o.op = .call { callee := .builtin .append, args := #[d, s], argTypes := #[t, t'] }) (v u : Value) (hd : a.eval d = v) (hs : a.eval s = u) {v' : Value} {w' : World}
    (hr : (Builtin.append_ #[t, t'] o.type #[v, u]).run P w = .ok v' w') : (execOp a.eval o).run P w = .ok (.value v') w' := by
  simp only [execOp, ho, resolve, invoke, builtin, Sem.run_bind, Sem.run_pure, Result.andThen_ok, List.map_toArray, List.map_cons, List.map_nil, hd, hs, hr]
theorem exec_clear {P : Program} {o : Oper} {a : Act} {w : World} (d : Operand) (t : TypeId) (ho : o.op = .call { callee := .builtin .clear, args := #[d], argTypes := #[t] }) (v : Value) (hd : a.eval d = v) {v' : Value} {w' : World}
    (hr : (Builtin.clear_ #[t] o.type #[v]).run P w = .ok v' w') : (execOp a.eval o).run P w = .ok (.value v') w' := by
  simp only [execOp, ho, resolve, invoke, builtin, Sem.run_bind, Sem.run_pure, Result.andThen_ok, List.map_toArray, List.map_cons, List.map_nil, hd, hr]
theorem step_copy {P : Program} {ops : Array Oper} {o : Oper} {a : Act} {w : World} {K : Act → World → Prop} {Q : Exit → Act → World → Prop} {E : Prop} (hg : o.guard = none) (d s : Operand) (t t' : TypeId) (ho : o.op = .call { callee := .builtin .copy, args := #[d, s], argTypes := #[t, t'] }) (v u : Value) (hd : a.eval d = v) (hs : a.eval s = u) {v' : Value} {w' : World}
    (hr : (Builtin.copy_ #[t, t'] o.type #[v, u]).run P w = .ok v' w') (hK : K (a.put o.dst v') w') : if Region.wanted o (yielded ops a.tmps) = true then Oper.wp P o a w K Q else E := step_bi hg (exec_copy d s t t' ho v u hd hs hr) hK
theorem step_app {P : Program} {ops : Array Oper} {o : Oper} {a : Act} {w : World} {K : Act → World → Prop} {Q : Exit → Act → World → Prop} {E : Prop} (hg : o.guard = none) (d s : Operand) (t t' : TypeId) (ho : o.op = .call { callee := .builtin .append, args := #[d, s], argTypes := #[t, t'] }) (v u : Value) (hd : a.eval d = v) (hs : a.eval s = u) {v' : Value} {w' : World}
    (hr : (Builtin.append_ #[t, t'] o.type #[v, u]).run P w = .ok v' w') (hK : K (a.put o.dst v') w') : if Region.wanted o (yielded ops a.tmps) = true then Oper.wp P o a w K Q else E := step_bi hg (exec_app d s t t' ho v u hd hs hr) hK
end Pg
end Go.Proofs.YtgflacmnfegjlaaDoor

namespace Go.Proofs.YtgflacmnfegjlaaDoor
namespace Pg
open Go.RowKit Go.Lib
section
variable {ops : Array Oper} {Q : Exit → Act → World → Prop} {S : World → Prop} {fuel : Nat} {listed : Array Bool} {a : Act} {w : World}

/-- operation i may be taken first, is wanted, and writes d -/
def rgChk (ops : Array Oper) (listed : Array Bool) (a : Act) (i : Nat) (d : Option Tmp) : Bool :=
  Region.noSelect ops && Region.free .any ops listed i && (Region.ready .any ops listed).contains i && decide (i < ops.size) && Region.wanted (ops.getD i default) (yielded ops a.tmps) && decide ((ops.getD i default).dst = d)
/-- operation i may be taken first, is passed over by its guard, and would write d -/
def rgNot (ops : Array Oper) (listed : Array Bool) (a : Act) (i : Nat) (d : Option Tmp) : Bool :=
  Region.noSelect ops && Region.free .any ops listed i && (Region.ready .any ops listed).contains i && decide (i < ops.size) && !Region.wanted (ops.getD i default) (yielded ops a.tmps) && decide ((ops.getD i default).dst = d)
/-- operation i alone may come up, is wanted, and writes d -/
def rgLone (ops : Array Oper) (listed : Array Bool) (a : Act) (i : Nat) (d : Option Tmp) : Bool :=
  decide (Region.ready .any ops listed = [i]) && decide (i < ops.size) && Region.wanted (ops.getD i default) (yielded ops a.tmps) && decide ((ops.getD i default).dst = d)
theorem at_getD {i : Nat} (h : i < ops.size) : ops[i]? = some (ops.getD i default) := by
  simp [Array.getD, h]
theorem rg_take (i : Nat) (d : Option Tmp) (v : Value) (hc : rgChk ops listed a i d = true) (hy : ∀ w', S w' → (execOp a.eval (ops.getD i default)).run Tryd.prog w' = .ok (.value v) w')
    (hQ : ∀ c a w, Q (.panic c) (a.put d v) w → Q (.panic c) a w) (hS : S w)
    (h : wpAnyH Tryd.prog .any ops Q S fuel (listed.setIfInBounds i true) (a.put d v) w) : wpAnyH Tryd.prog .any ops Q S (fuel + 1) listed a w := by
  simp only [rgChk, Bool.and_eq_true, decide_eq_true_eq] at hc
  obtain ⟨⟨⟨⟨⟨h1, h2⟩, h3⟩, h4⟩, h5⟩, h6⟩ := hc
  subst h6
  exact wpAnyH_take (at_getD h4) h1 h2 h3 hQ (.inl ⟨h5, hy⟩) hS h
theorem rg_eq (i : Nat) (d : Option Tmp) (v v' : Value) (hv : v = v') (hc : rgChk ops listed a i d = true) (hy : ∀ w', S w' → (execOp a.eval (ops.getD i default)).run Tryd.prog w' = .ok (.value v) w')
    (hQ : ∀ c a w, Q (.panic c) (a.put d v') w → Q (.panic c) a w) (hS : S w)
    (h : wpAnyH Tryd.prog .any ops Q S fuel (listed.setIfInBounds i true) (a.put d v') w) : wpAnyH Tryd.prog .any ops Q S (fuel + 1) listed a w := by
  subst hv
  exact rg_take i d v hc hy hQ hS h
theorem rg_skip (i : Nat) (d : Option Tmp) (hc : rgNot ops listed a i d = true) (hQ : ∀ c a w, Q (.panic c) (a.put d undef) w → Q (.panic c) a w) (hS : S w)
    (h : wpAnyH Tryd.prog .any ops Q S fuel (listed.setIfInBounds i true) (a.put d undef) w) : wpAnyH Tryd.prog .any ops Q S (fuel + 1) listed a w := by
  simp only [rgNot, Bool.and_eq_true, decide_eq_true_eq, Bool.not_eq_true'] at hc
  obtain ⟨⟨⟨⟨⟨h1, h2⟩, h3⟩, h4⟩, h5⟩, h6⟩ := hc
  subst h6
  exact wpAnyH_take (at_getD h4) h1 h2 h3 hQ (.inr ⟨h5, rfl⟩) hS h
theorem rg_load (i : Nat) (d : Option Tmp) (v : Value) (T : TypeId) (k g o : Nat) (hc : rgChk ops listed a i d = true) (ho : (ops.getD i default).op = .load T (.tmp k)) (hp : a.eval (.tmp k) = .pointer (some ⟨g, o, none⟩))
    (hl : ∀ w', S w' → (loadVar T ⟨g, o, none⟩).run Tryd.prog w' = .ok v w')
    (hQ : ∀ c a w, Q (.panic c) (a.put d v) w → Q (.panic c) a w) (hS : S w)
    (h : wpAnyH Tryd.prog .any ops Q S fuel (listed.setIfInBounds i true) (a.put d v) w) : wpAnyH Tryd.prog .any ops Q S (fuel + 1) listed a w :=
  rg_take i d v hc (fun w' hS' => by
    have := hl w' hS'
    simp only [execOp, ho, hp]
    simp [Instr.loadAt, Instr.sureAddr, Result.andThen, this]) hQ hS h
theorem rg_call (i : Nat) (d : Option Tmp) (f : FuncId) (args : Array Value) {Qc : Ending → World → Prop} (hc : rgLone ops listed a i d = true) (hrun : (execOp a.eval (ops.getD i default)).run Tryd.prog w = .ok (.enter f args) w)
    (hcall : Calls Tryd.prog f args w Qc) (hk : ∀ e w', Qc e w' → ∃ v, e = .returned v ∧ S w' ∧ wpAnyH Tryd.prog .any ops Q S fuel (listed.setIfInBounds i true) (a.put d v) w') :
    wpAnyH Tryd.prog .any ops Q S (fuel + 1) listed a w := by
  simp only [rgLone, Bool.and_eq_true, decide_eq_true_eq] at hc
  obtain ⟨⟨⟨h3, h4⟩, h5⟩, h6⟩ := hc
  subst h6
  refine wpAnyH_all h3 (by simp) fun j hj => ?_
  obtain rfl : j = i := by simpa using hj
  refine wpOp_step (at_getD h4) fun K hK => ?_
  rw [if_pos h5]
  unfold Oper.wp
  rw [hrun]
  refine hcall.mono fun e w' he => ?_
  obtain ⟨v, rfl, hS', hw⟩ := hk e w' he
  exact hK _ _ ⟨hS', hw⟩
theorem rg_done (hr : Region.ready .any ops listed = []) (h : Q .normal a w) : wpAnyH Tryd.prog .any ops Q S fuel listed a w := wpAnyH_done hr h fuel
theorem rg_start {id : Nat} (hm : Tryd.prog.follows .mixedOrders = true) (hS : S w.drew) (h : wpAnyH Tryd.prog .any ops Q S ops.size (Array.replicate ops.size false) a w.drew) : (Code.region id ops true).wp Tryd.prog Q a w :=
  wp_region_held_drew hm hS fun _ => h
end
/-- the frame with these slots put -/
def putAll (a : Act) : List (Option Tmp × Value) → Act
  | [] => a
  | p :: l => putAll (a.put p.1 p.2) l
section
variable {ops : Array Oper} {Q : Exit → Act → World → Prop} {S : World → Prop} {fuel : Nat} {listed : Array Bool} {a : Act} {w : World}
theorem rg_mid {X : Type} {id : Nat} {K : Act → World → Prop} {Q' : Exit → Act → World → Prop} (upd : X → List (Option Tmp × Value)) (F : X → World → Prop) (S : World → Prop) (hm : Tryd.prog.follows .mixedOrders = true) (hS : S w.drew)
    (h1 : wpAnyH Tryd.prog .any ops (Exit.then (fun a' w' => ∃ x, a' = putAll a (upd x) ∧ F x w') (fun _ _ _ => False)) S ops.size (Array.replicate ops.size false) a w.drew)
    (h2 : ∀ x w', F x w' → K (putAll a (upd x)) w') : (Code.region id ops true).wp Tryd.prog (Exit.then K Q') a w :=
  Code.wp_mono (fun e a' w' h => by
    cases e <;> first
      | (obtain ⟨x, rfl, hF⟩ := h; exact h2 x w' hF)
      | exact h.elim) (wp_region_held_drew (S := S) hm hS fun _ => h1)
def rgWant (ops : Array Oper) (a : Act) (i : Nat) (d : Option Tmp) : Bool :=
  decide (i < ops.size) && Region.wanted (ops.getD i default) (yielded ops a.tmps) && decide ((ops.getD i default).dst = d)
theorem rg_ready (rs : List Nat) (hr : Region.ready .any ops listed = rs) (hne : rs ≠ []) (h : AllReadyH Tryd.prog .any ops Q S fuel listed a w rs) : wpAnyH Tryd.prog .any ops Q S (fuel + 1) listed a w := wpAnyH_ready hr hne h
theorem ar_nil : AllReadyH Tryd.prog .any ops Q S fuel listed a w [] := AllReadyH.nil
theorem ar_call {rs : List Nat} (i : Nat) (d : Option Tmp) (f : FuncId) (args : Array Value) {Qc : Ending → World → Prop} (hc : rgWant ops a i d = true) (hrun : (execOp a.eval (ops.getD i default)).run Tryd.prog w = .ok (.enter f args) w)
    (hcall : Calls Tryd.prog f args w Qc) (hk : ∀ e w', Qc e w' → ∃ v, e = .returned v ∧ S w' ∧ wpAnyH Tryd.prog .any ops Q S fuel (listed.setIfInBounds i true) (a.put d v) w')
    (hs : AllReadyH Tryd.prog .any ops Q S fuel listed a w rs) : AllReadyH Tryd.prog .any ops Q S fuel listed a w (i :: rs) := by
  simp only [rgWant, Bool.and_eq_true, decide_eq_true_eq] at hc
  obtain ⟨⟨h4, h5⟩, h6⟩ := hc
  subst h6
  refine AllReadyH.cons (at_getD h4) (fun K hK => ?_) hs
  rw [if_pos h5]
  unfold Oper.wp
  rw [hrun]
  refine hcall.mono fun e w' he => ?_
  obtain ⟨v, rfl, hS', hw⟩ := hk e w' he
  exact hK.out _ _ hS' fun _ => hw
theorem ar_val {rs : List Nat} (i : Nat) (d : Option Tmp) (v : Value) (w1 : World) (hc : rgWant ops a i d = true) (hrun : (execOp a.eval (ops.getD i default)).run Tryd.prog w = .ok (.value v) w1)
    (hS1 : S w1) (h : wpAnyH Tryd.prog .any ops Q S fuel (listed.setIfInBounds i true) (a.put d v) w1)
    (hs : AllReadyH Tryd.prog .any ops Q S fuel listed a w rs) : AllReadyH Tryd.prog .any ops Q S fuel listed a w (i :: rs) := by
  simp only [rgWant, Bool.and_eq_true, decide_eq_true_eq] at hc
  obtain ⟨⟨h4, h5⟩, h6⟩ := hc
  subst h6
  refine AllReadyH.cons (at_getD h4) (fun K hK => ?_) hs
  rw [if_pos h5]
  unfold Oper.wp
  rw [hrun]
  show K (a.put (ops.getD i default).dst v) w1
  exact hK.out _ _ hS1 fun _ => h
theorem ar_void {rs : List Nat} (i : Nat) (w1 : World) (hc : rgWant ops a i none = true) (hrun : (execOp a.eval (ops.getD i default)).run Tryd.prog w = .ok .skip w1)
    (hS1 : S w1) (h : wpAnyH Tryd.prog .any ops Q S fuel (listed.setIfInBounds i true) (a.put none undef) w1)
    (hs : AllReadyH Tryd.prog .any ops Q S fuel listed a w rs) : AllReadyH Tryd.prog .any ops Q S fuel listed a w (i :: rs) := by
  simp only [rgWant, Bool.and_eq_true, decide_eq_true_eq] at hc
  obtain ⟨⟨h4, h5⟩, h6⟩ := hc
  refine AllReadyH.cons (at_getD h4) (fun K hK => ?_) hs
  rw [if_pos h5]
  unfold Oper.wp
  rw [hrun]
  show K (a.put (ops.getD i default).dst undef) w1
  rw [h6]
  exact hK.out _ _ hS1 fun _ => h
end
theorem run_lp {a : Act} {w : World} {o : Oper} {T : TypeId} (k : Nat) {g off : Nat} {v : Value} (ho : o.op = .load T (.tmp k)) (hp : a.eval (.tmp k) = .pointer (some ⟨g, off, none⟩)) (hl : (loadVar T ⟨g, off, none⟩).run Tryd.prog w = .ok v w) : (execOp a.eval o).run Tryd.prog w = .ok (.value v) w := by
  simp only [execOp, ho, hp]
  simp [Instr.loadAt, Instr.sureAddr, Result.andThen, hl]
end Pg
end Go.Proofs.YtgflacmnfegjlaaDoor

namespace Go.Proofs.YtgflacmnfegjlaaDoor
namespace Pg
open Go.RowKit Go.Lib
section
variable {P : Program} {ops : Array Oper} {Q : Exit → Act → World → Prop} {md : Region.Mode} {S : World → Prop} {Z : Nat → Bool}
/-- whatever order is picked, and S holds behind every step that is not late -/
def wpAnyZ (P : Program) (md : Region.Mode) (ops : Array Oper) (Q : Exit → Act → World → Prop) (S : World → Prop) (Z : Nat → Bool) : Nat → Array Bool → Act → World → Prop
  | 0, listed, a, w => Region.ready md ops listed = [] ∧ Q .normal a w
  | fuel + 1, listed, a, w =>
    (Region.ready md ops listed = [] → Q .normal a w) ∧
    ∀ i ∈ Region.ready md ops listed, wpOp P ops Q i (fun a' w' => (Z i = true ∨ S w') ∧ wpAnyZ P md ops Q S Z fuel (listed.setIfInBounds i true) a' w') a w
theorem wpAnyZ_held (fuel : Nat) : ∀ (listed : Array Bool) (a : Act) (w : World), wpAnyZ P md ops Q S Z fuel listed a w → wpAnyH P md ops Q (fun _ => True) fuel listed a w := by
  induction fuel with
  | zero => exact fun _ _ _ h => h
  | succ fuel ih => exact fun _ _ _ h => ⟨h.1, fun i hi => wpOp_mono (fun a' w' h' => ⟨trivial, ih _ a' w' h'.2⟩) (h.2 i hi)⟩
/-- every late operation waits for i -/
def lateWait (ops : Array Oper) (Z : Nat → Bool) (i : Nat) : Bool := (List.range ops.size).all fun z => !Z z || (decide (z ≠ i) && (ops.getD z default).after.any fun e => Region.binds .any e && decide (e.on = i))
theorem wpAnyZ_first {i : Nat} {oi : Oper} {v : Value} (hz : lateWait ops Z i = true) (hi : ops[i]? = some oi) (hsel : ∀ (j : Nat) (o : Oper) cs b, ops[j]? = some o → o.op ≠ .select cs b)
    (hQ : ∀ c a w, Q (.panic c) (a.put oi.dst v) w → Q (.panic c) a w) :
    ∀ (fuel : Nat) (listed : Array Bool) (a : Act) (w : World),
      (∀ j oj, ops[j]? = some oj → j ≠ i → listed.getD j true = false → (∀ e ∈ oj.after, Region.binds .any e = true → e.on ≠ i) → oi.apart ops oj = true) →
      i ∈ Region.ready .any ops listed → YieldsIf P ops S oi v a → S w →
      wpAnyZ P .any ops Q S Z fuel (listed.setIfInBounds i true) (a.put oi.dst v) w → wpAnyZ P .any ops Q S Z (fuel + 1) listed a w := by
  intro fuel
  induction fuel with
  | zero =>
    intro listed a w _ hr hy hS H
    refine ⟨fun h => (by rw [h] at hr; cases hr), fun j hj => ?_⟩
    by_cases hji : j = i
    · subst hji; exact hy.wpOp hi hS ⟨.inr hS, H⟩
    · have := ready_mono hj hji
      rw [H.1] at this
      cases this
  | succ fuel ih =>
    intro listed a w hfree hr hy hS H
    refine ⟨fun h => (by rw [h] at hr; cases hr), fun j hj => ?_⟩
    by_cases hji : j = i
    · subst hji; exact hy.wpOp hi hS ⟨.inr hS, H⟩
    · have h1 := H.2 j (ready_mono hj hji)
      obtain ⟨hjun, oj, hoj, hall⟩ := mem_ready.1 hj
      have hnot : ∀ e ∈ oj.after, Region.binds .any e = true → e.on ≠ i := fun e he hb heq => by
        have h1 := hall e he hb
        have h0 := (mem_ready.1 hr).1
        rw [heq] at h1
        rcases Nat.lt_or_ge i listed.size with h' | h'
        · simp [h'] at h0 h1; rw [h0] at h1; cases h1
        · simp [Array.getElem?_eq_none h'] at h1
      have hjZ : ¬ Z j = true := fun e => by
        have hlt : j < ops.size := (Array.getElem?_eq_some_iff.1 hoj).1
        have h2 := List.all_eq_true.1 hz j (List.mem_range.2 hlt)
        rw [e] at h2
        simp only [Bool.not_true, Bool.false_or, Bool.and_eq_true, decide_eq_true_eq] at h2
        have eo : ops.getD j default = oj := by
          rw [Array.getD_eq_getD_getElem?, hoj]; rfl
        have h3 := h2.2
        rw [eo, Array.any_eq_true] at h3
        obtain ⟨k, hk, h4⟩ := h3
        rw [Bool.and_eq_true, decide_eq_true_eq] at h4
        exact hnot _ (Array.getElem_mem hk) h4.1 h4.2
      have h2 := wpOp_putIf hoj (hfree j oj hoj hji hjun hnot) (fun cs b => hsel i oi cs b hi) (fun cs b => hsel j oj cs b hoj) hQ hy h1
      have hfree' : ∀ k ok, ops[k]? = some ok → k ≠ i → (listed.setIfInBounds j true).getD k true = false →
          (∀ e ∈ ok.after, Region.binds .any e = true → e.on ≠ i) → oi.apart ops ok = true := fun k ok hk hki hun hno => by
        refine hfree k ok hk hki ?_ hno
        by_cases hjk : j = k
        · subst hjk; exact hjun
        · rw [getD_set_ne true hjk] at hun; exact hun
      refine wpOp_mono (fun a' w' h3 => ?_) h2
      have hS' := h3.2.1.resolve_left hjZ
      refine ⟨.inr hS', ih (listed.setIfInBounds j true) a' w' hfree' (ready_mono hr (Ne.symm hji)) h3.1 hS' ?_⟩
      rw [Array.setIfInBounds_comm _ _ hji]
      exact h3.2.2
end
section
variable {ops : Array Oper} {Q : Exit → Act → World → Prop} {S : World → Prop} {Z : Nat → Bool} {fuel : Nat} {listed : Array Bool} {a : Act} {w : World}
theorem rz_start {id : Nat} (S : World → Prop) (Z : Nat → Bool) (hm : Tryd.prog.follows .mixedOrders = true) (h : wpAnyZ Tryd.prog .any ops Q S Z ops.size (Array.replicate ops.size false) a w.drew) : (Code.region id ops true).wp Tryd.prog Q a w :=
  wp_region_held_drew (S := fun _ => True) hm trivial fun _ => wpAnyZ_held _ _ _ _ h
theorem rz_take (i : Nat) (d : Option Tmp) (v : Value) (hz : lateWait ops Z i = true) (hc : rgChk ops listed a i d = true) (hy : ∀ w', S w' → (execOp a.eval (ops.getD i default)).run Tryd.prog w' = .ok (.value v) w')
    (hQ : ∀ c a w, Q (.panic c) (a.put d v) w → Q (.panic c) a w) (hS : S w)
    (h : wpAnyZ Tryd.prog .any ops Q S Z fuel (listed.setIfInBounds i true) (a.put d v) w) : wpAnyZ Tryd.prog .any ops Q S Z (fuel + 1) listed a w := by
  simp only [rgChk, Bool.and_eq_true, decide_eq_true_eq] at hc
  obtain ⟨⟨⟨⟨⟨h1, h2⟩, h3⟩, h4⟩, h5⟩, h6⟩ := hc
  subst h6
  exact wpAnyZ_first hz (at_getD h4) (Region.noSelect_spec h1) hQ fuel listed a w (Region.free_spec (at_getD h4) h2) (by simpa using h3) (.inl ⟨h5, hy⟩) hS h
theorem rz_load (i : Nat) (d : Option Tmp) (v : Value) (T : TypeId) (k g o : Nat) (hz : lateWait ops Z i = true) (hc : rgChk ops listed a i d = true) (ho : (ops.getD i default).op = .load T (.tmp k)) (hp : a.eval (.tmp k) = .pointer (some ⟨g, o, none⟩))
    (hl : ∀ w', S w' → (loadVar T ⟨g, o, none⟩).run Tryd.prog w' = .ok v w')
    (hQ : ∀ c a w, Q (.panic c) (a.put d v) w → Q (.panic c) a w) (hS : S w)
    (h : wpAnyZ Tryd.prog .any ops Q S Z fuel (listed.setIfInBounds i true) (a.put d v) w) : wpAnyZ Tryd.prog .any ops Q S Z (fuel + 1) listed a w :=
  rz_take i d v hz hc (fun w' hS' => run_lp k ho hp (hl w' hS')) hQ hS h
theorem rz_call (i : Nat) (d : Option Tmp) (f : FuncId) (args : Array Value) {Qc : Ending → World → Prop} (hc : rgLone ops listed a i d = true) (hrun : (execOp a.eval (ops.getD i default)).run Tryd.prog w = .ok (.enter f args) w)
    (hcall : Calls Tryd.prog f args w Qc) (hk : ∀ e w', Qc e w' → ∃ v, e = .returned v ∧ (Z i = true ∨ S w') ∧ wpAnyZ Tryd.prog .any ops Q S Z fuel (listed.setIfInBounds i true) (a.put d v) w') :
    wpAnyZ Tryd.prog .any ops Q S Z (fuel + 1) listed a w := by
  simp only [rgLone, Bool.and_eq_true, decide_eq_true_eq] at hc
  obtain ⟨⟨⟨h3, h4⟩, h5⟩, h6⟩ := hc
  subst h6
  refine ⟨fun h0 => (by rw [h3] at h0; cases h0), fun j hj => ?_⟩
  obtain rfl : j = i := by rw [h3] at hj; simpa using hj
  refine wpOp_step (at_getD h4) fun K hK => ?_
  rw [if_pos h5]
  unfold Oper.wp
  rw [hrun]
  refine hcall.mono fun e w' he => ?_
  obtain ⟨v, rfl, hS', hw⟩ := hk e w' he
  exact hK _ _ ⟨hS', hw⟩
theorem rz_val (i : Nat) (d : Option Tmp) (v : Value) (w1 : World) (hc : rgLone ops listed a i d = true) (hrun : (execOp a.eval (ops.getD i default)).run Tryd.prog w = .ok (.value v) w1)
    (hS : Z i = true ∨ S w1) (h : wpAnyZ Tryd.prog .any ops Q S Z fuel (listed.setIfInBounds i true) (a.put d v) w1) : wpAnyZ Tryd.prog .any ops Q S Z (fuel + 1) listed a w := by
  simp only [rgLone, Bool.and_eq_true, decide_eq_true_eq] at hc
  obtain ⟨⟨⟨h3, h4⟩, h5⟩, h6⟩ := hc
  subst h6
  refine ⟨fun h0 => (by rw [h3] at h0; cases h0), fun j hj => ?_⟩
  obtain rfl : j = i := by rw [h3] at hj; simpa using hj
  refine wpOp_step (at_getD h4) fun K hK => ?_
  rw [if_pos h5]
  unfold Oper.wp
  rw [hrun]
  exact hK _ _ ⟨hS, h⟩
theorem rz_void (i : Nat) (w1 : World) (hc : rgLone ops listed a i none = true) (hrun : (execOp a.eval (ops.getD i default)).run Tryd.prog w = .ok .skip w1)
    (hS : Z i = true ∨ S w1) (h : wpAnyZ Tryd.prog .any ops Q S Z fuel (listed.setIfInBounds i true) (a.put none undef) w1) : wpAnyZ Tryd.prog .any ops Q S Z (fuel + 1) listed a w := by
  simp only [rgLone, Bool.and_eq_true, decide_eq_true_eq] at hc
  obtain ⟨⟨⟨h3, h4⟩, h5⟩, h6⟩ := hc
  refine ⟨fun h0 => (by rw [h3] at h0; cases h0), fun j hj => ?_⟩
  obtain rfl : j = i := by rw [h3] at hj; simpa using hj
  refine wpOp_step (at_getD h4) fun K hK => ?_
  rw [if_pos h5]
  unfold Oper.wp
  rw [hrun]
  show K (a.put (ops.getD j default).dst undef) w1
  rw [h6]
  exact hK _ _ ⟨hS, h⟩
theorem rz_done (hr : Region.ready .any ops listed = []) (h : Q .normal a w) : ∀ fuel, wpAnyZ Tryd.prog .any ops Q S Z fuel listed a w
  | 0 => ⟨hr, h⟩
  | _ + 1 => ⟨fun _ => h, by rw [hr]; simp⟩
end
end Pg
end Go.Proofs.YtgflacmnfegjlaaDoor

namespace Go.Proofs.YtgflacmnfegjlaaDoor
namespace Pg
open Go.RowKit Go.Lib
attribute [local go_sem] Oper.semAt_some
/-- nothing yet -/
abbrev ud : Value := undef
theorem wp_frame {c : Code} {Q : Exit → Act → World → Prop} {a a' : Act} {w : World} (h : a = a') (k : c.wp Tryd.prog Q a' w) : c.wp Tryd.prog Q a w := by subst h; exact k
section
variable {ops : Array Oper} {rest : List Oper} {o o1 o2 : Oper} {a : Act} {w w1 : World} {Q Q' : Exit → Act → World → Prop} {K : Act → World → Prop}
theorem wp_then (h : K a w) : (Exit.then K Q') .normal a w := h
theorem wp_skip_then (h : K a w) : Code.skip.wp Tryd.prog (Exit.then K Q') a w := wp_skip h
theorem ret_then (h : Q' .ret a w) : (Exit.then K Q') .ret a w := h
theorem ret_block {id : Nat} (h : Q .ret a w) : (Exit.inBlock id Q) .ret a w := h
theorem wp_thenB {id : Nat} (h : K a w) : (Exit.inBlock id (Exit.then K Q')) .normal a w := h
theorem wp_skip_thenB {id : Nat} (h : K a w) : Code.skip.wp Tryd.prog (Exit.inBlock id (Exit.then K Q')) a w := wp_skip (Q := Exit.inBlock id (Exit.then K Q')) h
theorem wl_frame0 {a' : Act} (h : a = a') (k : wpList Tryd.prog ops Q rest a' w) : wpList Tryd.prog ops Q rest a w := by subst h; exact k
theorem wl_val0 (d : Option Tmp) (v : Value) (hg : o.guard = none) (hd : o.dst = d) (hrun : (execOp a.eval o).run Tryd.prog w = .ok (.value v) w1) (h : wpList Tryd.prog ops Q rest (a.put d v) w1) : wpList Tryd.prog ops Q (o :: rest) a w :=
  wpList_plain hg fun K hK => by
    unfold Oper.wp
    rw [hrun]
    subst hd
    exact hK _ _ h
theorem wl_take0 (d : Option Tmp) (v : Value) (hg : o.guard = none) (hd : o.dst = d) (hrun : (execOp a.eval o).run Tryd.prog w = .ok (.value v) w) (h : wpList Tryd.prog ops Q rest (a.put d v) w) : wpList Tryd.prog ops Q (o :: rest) a w := wl_val0 d v hg hd hrun h
theorem wl_eq0 (d : Option Tmp) (v v' : Value) (hv : v = v') (hg : o.guard = none) (hd : o.dst = d) (hrun : (execOp a.eval o).run Tryd.prog w = .ok (.value v) w) (h : wpList Tryd.prog ops Q rest (a.put d v') w) : wpList Tryd.prog ops Q (o :: rest) a w := by
  subst hv; exact wl_val0 d v hg hd hrun h
theorem wl_skip0 (hg : o.guard = none) (hd : o.dst = none) (hrun : (execOp a.eval o).run Tryd.prog w = .ok .skip w1) (h : wpList Tryd.prog ops Q rest (a.put none undef) w1) : wpList Tryd.prog ops Q (o :: rest) a w :=
  wpList_plain hg fun K hK => by
    unfold Oper.wp
    rw [hrun]
    show K (a.put o.dst undef) w1
    rw [hd]
    exact hK _ _ h
theorem wl_call0 (d : Option Tmp) (f : FuncId) (args : Array Value) (hg : o.guard = none) (hd : o.dst = d) (hrun : (execOp a.eval o).run Tryd.prog w = .ok (.enter f args) w) {Qc : Ending → World → Prop} (hc : Calls Tryd.prog f args w Qc) (h : ∀ e w', Qc e w' → ∃ v, e = .returned v ∧ wpList Tryd.prog ops Q rest (a.put d v) w') : wpList Tryd.prog ops Q (o :: rest) a w :=
  wpList_plain hg fun K hK => by
    unfold Oper.wp
    rw [hrun, Oper.upon_enter]
    refine hc.mono ?_
    intro e w' hq
    obtain ⟨v, rfl, hv⟩ := h e w' hq
    subst hd
    exact hK _ _ hv
theorem wg_val0 (d : Option Tmp) (v : Value) (hw : Region.wanted o (yielded ops a.tmps) = true) (hd : o.dst = d) (hrun : (execOp a.eval o).run Tryd.prog w = .ok (.value v) w1) (h : wpList Tryd.prog ops Q rest (a.put d v) w1) : wpList Tryd.prog ops Q (o :: rest) a w :=
  BigFrame.wpList_want hw fun K hK => by
    unfold Oper.wp
    rw [hrun]
    subst hd
    exact hK _ _ h
theorem wg_take0 (d : Option Tmp) (v : Value) (hw : Region.wanted o (yielded ops a.tmps) = true) (hd : o.dst = d) (hrun : (execOp a.eval o).run Tryd.prog w = .ok (.value v) w) (h : wpList Tryd.prog ops Q rest (a.put d v) w) : wpList Tryd.prog ops Q (o :: rest) a w := wg_val0 d v hw hd hrun h
theorem wg_eq0 (d : Option Tmp) (v v' : Value) (hv : v = v') (hw : Region.wanted o (yielded ops a.tmps) = true) (hd : o.dst = d) (hrun : (execOp a.eval o).run Tryd.prog w = .ok (.value v) w) (h : wpList Tryd.prog ops Q rest (a.put d v') w) : wpList Tryd.prog ops Q (o :: rest) a w := by
  subst hv; exact wg_val0 d v hw hd hrun h
theorem wg_not0 (d : Option Tmp) (hw : Region.wanted o (yielded ops a.tmps) = false) (hd : o.dst = d) (h : wpList Tryd.prog ops Q rest (a.put d undef) w) : wpList Tryd.prog ops Q (o :: rest) a w := by
  subst hd; exact wpList_skip hw h
theorem wg_call0 (d : Option Tmp) (f : FuncId) (args : Array Value) (hw : Region.wanted o (yielded ops a.tmps) = true) (hd : o.dst = d) (hrun : (execOp a.eval o).run Tryd.prog w = .ok (.enter f args) w) {Qc : Ending → World → Prop} (hc : Calls Tryd.prog f args w Qc) (h : ∀ e w', Qc e w' → ∃ v, e = .returned v ∧ wpList Tryd.prog ops Q rest (a.put d v) w') : wpList Tryd.prog ops Q (o :: rest) a w :=
  BigFrame.wpList_want hw fun K hK => by
    unfold Oper.wp
    rw [hrun, Oper.upon_enter]
    refine hc.mono ?_
    intro e w' hq
    obtain ⟨v, rfl, hv⟩ := h e w' hq
    subst hd
    exact hK _ _ hv
/-- a list is built -/
theorem wl_list0 (d : Nat) (vs : List Value) (e : TypeId) (hg : o.guard = none) (hd : o.dst = some d) (hrun : ∀ w, (execOp a.eval o).run Tryd.prog w = .ok (.value (.slice (some ⟨w.heap.size, 0, none⟩) vs.length vs.length)) (w.alloc (.cells vs.toArray e)))
    (h : ∀ w' g, Blk w' g vs e → w.heap.size ≤ g → Below w.heap.size w w' → wpList Tryd.prog ops Q rest (a.put (some d) (.slice (some ⟨g, 0, none⟩) vs.length vs.length)) w') : wpList Tryd.prog ops Q (o :: rest) a w :=
  wl_val0 (some d) _ hg hd (hrun w) (h _ _ (blk_new w vs e) (Nat.le_refl _) (below_alloc w _))
/-- a variable is made and gets its value -/
theorem wl_new0 (d q : Nat) (T : TypeId) (zs vs : List Value) (h1 : o1.op = .alloc T) (hd1 : o1.dst = some d) (hg1 : o1.guard = none) (h2 : o2.op = .store T (.tmp d) (.tmp q)) (hd2 : o2.dst = none) (hg2 : o2.guard = none)
    (hz : ∀ w, (Instr.alloc T true (.tuple #[])).run Tryd.prog w = .ok (.pointer (some ⟨w.heap.size, 0, none⟩)) (w.alloc (.cells zs.toArray T)))
    (hp : ∀ g, (a.put (some d) (.pointer (some ⟨g, 0, none⟩))).eval (.tmp d) = .pointer (some ⟨g, 0, none⟩)) (hq : ∀ g, (a.put (some d) (.pointer (some ⟨g, 0, none⟩))).eval (.tmp q) = .agg vs.toArray)
    (hi : (Tryd.prog.info? T).map (·.size) = some vs.toArray.size) (hs : zs.toArray.size = vs.toArray.size) (hone : vs.toArray.all (·.oneCell') = true)
    (h : ∀ w' g, Blk w' g vs T → w.heap.size ≤ g → Below w.heap.size w w' → wpList Tryd.prog ops Q rest ((a.put (some d) (.pointer (some ⟨g, 0, none⟩))).put none undef) w') : wpList Tryd.prog ops Q (o1 :: o2 :: rest) a w := by
  refine wl_val0 (some d) (.pointer (some ⟨w.heap.size, 0, none⟩)) hg1 hd1 (w1 := w.alloc (.cells zs.toArray T)) ?_ ?_
  · simp only [execOp, h1, Sem.run_bind, hz, Result.andThen_ok, Sem.run_pure]
  · refine wl_skip0 hg2 hd2 (w1 := w.alloc (.cells vs.toArray T)) ?_ (h _ _ (blk_new w vs T) (Nat.le_refl _) (below_alloc w _))
    simp only [execOp, h2, hp, hq, Sem.run_bind, run_storeAt_new w T zs.toArray vs.toArray hi hs hone, Result.andThen_ok, Sem.run_pure]
/-- a variable is made -/
theorem wl_alloc0 (d : Nat) (T : TypeId) (zs : List Value) (h1 : o.op = .alloc T) (hd : o.dst = some d) (hg : o.guard = none)
    (hz : ∀ w, (Instr.alloc T true (.tuple #[])).run Tryd.prog w = .ok (.pointer (some ⟨w.heap.size, 0, none⟩)) (w.alloc (.cells zs.toArray T)))
    (h : ∀ w' g, Blk w' g zs T → w.heap.size ≤ g → Below w.heap.size w w' → wpList Tryd.prog ops Q rest (a.put (some d) (.pointer (some ⟨g, 0, none⟩))) w') : wpList Tryd.prog ops Q (o :: rest) a w := by
  refine wl_val0 (some d) (.pointer (some ⟨w.heap.size, 0, none⟩)) hg hd (w1 := w.alloc (.cells zs.toArray T)) ?_ (h _ _ (blk_new w zs T) (Nat.le_refl _) (below_alloc w _))
  simp only [execOp, h1, Sem.run_bind, hz, Result.andThen_ok, Sem.run_pure]
/-- an argument gets its variable -/
theorem wl_box0 (d q : Nat) (T : TypeId) (vs : List Value) (h1 : o.op = .box T (.tmp q)) (hd : o.dst = some d) (hg : o.guard = none) (hq : a.eval (.tmp q) = .agg vs.toArray)
    (hb : ∀ w, (Instr.box T (.agg vs.toArray)).run Tryd.prog w = .ok (.pointer (some ⟨w.heap.size, 0, none⟩)) (w.alloc (.cells vs.toArray T)))
    (h : ∀ w' g, Blk w' g vs T → w.heap.size ≤ g → Below w.heap.size w w' → wpList Tryd.prog ops Q rest (a.put (some d) (.pointer (some ⟨g, 0, none⟩))) w') : wpList Tryd.prog ops Q (o :: rest) a w := by
  refine wl_val0 (some d) (.pointer (some ⟨w.heap.size, 0, none⟩)) hg hd (w1 := w.alloc (.cells vs.toArray T)) ?_ (h _ _ (blk_new w vs T) (Nat.le_refl _) (below_alloc w _))
  simp only [execOp, h1, hq, Sem.run_bind, hb, Result.andThen_ok, Sem.run_pure]
/-- one cell of a variable is written over -/
theorem wl_set0 (p q : Nat) (T : TypeId) {g i : Nat} {cs : List Value} {t : TypeId} {u v : Value} (X : Blk w g cs t) (hu : cs[i]? = some u) (h1 : o.op = .store T (.tmp p) (.tmp q)) (hd : o.dst = none) (hg : o.guard = none) (hp : a.eval (.tmp p) = .pointer (some ⟨g, i, none⟩)) (hq : a.eval (.tmp q) = .agg #[v])
    (hs : ∀ w : World, w.cell? ⟨g, i, none⟩ = some u → w.frozen? ⟨g, i, none⟩ = false → (Instr.storeAt T (.pointer (some ⟨g, i, none⟩)) (.agg #[v])).run Tryd.prog w = .ok () (w.setCell ⟨g, i, none⟩ v))
    (h : wpList Tryd.prog ops Q rest (a.put none undef) (w.setCell ⟨g, i, none⟩ v)) : wpList Tryd.prog ops Q (o :: rest) a w := by
  refine wl_skip0 hg hd (w1 := w.setCell ⟨g, i, none⟩ v) ?_ h
  simp only [execOp, h1, hp, hq, Sem.run_bind, hs w (X.cell hu) (X.free i), Result.andThen_ok, Sem.run_pure]
theorem run_set (p q : Nat) (T : TypeId) {g i : Nat} {cs : List Value} {t : TypeId} {u v : Value} (X : Blk w g cs t) (hu : cs[i]? = some u) (h1 : o.op = .store T (.tmp p) (.tmp q)) (hp : a.eval (.tmp p) = .pointer (some ⟨g, i, none⟩)) (hq : a.eval (.tmp q) = .agg #[v])
    (hs : ∀ w : World, w.cell? ⟨g, i, none⟩ = some u → w.frozen? ⟨g, i, none⟩ = false → (Instr.storeAt T (.pointer (some ⟨g, i, none⟩)) (.agg #[v])).run Tryd.prog w = .ok () (w.setCell ⟨g, i, none⟩ v)) : (execOp a.eval o).run Tryd.prog w = .ok .skip (w.setCell ⟨g, i, none⟩ v) := by
  simp only [execOp, h1, hp, hq, Sem.run_bind, hs w (X.cell hu) (X.free i), Result.andThen_ok, Sem.run_pure]
theorem rz_set {S : World → Prop} {Z : Nat → Bool} {fuel : Nat} {listed : Array Bool} (n p q : Nat) (T : TypeId) {g i : Nat} {cs : List Value} {t : TypeId} (u v : Value) (X : Blk w g cs t) (hu : cs[i]? = some u) (hc : rgLone ops listed a n none = true) (h1 : (ops.getD n default).op = .store T (.tmp p) (.tmp q)) (hp : a.eval (.tmp p) = .pointer (some ⟨g, i, none⟩)) (hq : a.eval (.tmp q) = .agg #[v])
    (hs : ∀ w : World, w.cell? ⟨g, i, none⟩ = some u → w.frozen? ⟨g, i, none⟩ = false → (Instr.storeAt T (.pointer (some ⟨g, i, none⟩)) (.agg #[v])).run Tryd.prog w = .ok () (w.setCell ⟨g, i, none⟩ v)) (hZ : Z n = true)
    (h : ∀ w1, w.setCell ⟨g, i, none⟩ v = w1 → wpAnyZ Tryd.prog .any ops Q S Z fuel (listed.setIfInBounds n true) (a.put none undef) w1) : wpAnyZ Tryd.prog .any ops Q S Z (fuel + 1) listed a w :=
  rz_void n _ hc (run_set p q T X hu h1 hp hq hs) (.inl hZ) (h _ rfl)
theorem rg_set {S : World → Prop} {fuel : Nat} {listed : Array Bool} (n p q : Nat) (T : TypeId) {g i : Nat} {cs : List Value} {t : TypeId} (u v : Value) (X : Blk w g cs t) (hu : cs[i]? = some u) (hr : Region.ready .any ops listed = [n]) (hc : rgWant ops a n none = true) (h1 : (ops.getD n default).op = .store T (.tmp p) (.tmp q)) (hp : a.eval (.tmp p) = .pointer (some ⟨g, i, none⟩)) (hq : a.eval (.tmp q) = .agg #[v])
    (hs : ∀ w : World, w.cell? ⟨g, i, none⟩ = some u → w.frozen? ⟨g, i, none⟩ = false → (Instr.storeAt T (.pointer (some ⟨g, i, none⟩)) (.agg #[v])).run Tryd.prog w = .ok () (w.setCell ⟨g, i, none⟩ v)) (hS : S (w.setCell ⟨g, i, none⟩ v))
    (h : ∀ w1, w.setCell ⟨g, i, none⟩ v = w1 → wpAnyH Tryd.prog .any ops Q S fuel (listed.setIfInBounds n true) (a.put none undef) w1) : wpAnyH Tryd.prog .any ops Q S (fuel + 1) listed a w :=
  rg_ready [n] hr (by simp) (ar_void n _ hc (run_set p q T X hu h1 hp hq hs) hS (h _ rfl) ar_nil)
theorem ar_new {S : World → Prop} {fuel : Nat} {listed : Array Bool} {rs : List Nat} (i d : Nat) (T : TypeId) (zs : List Value) (hc : rgWant ops a i (some d) = true) (h1 : (ops.getD i default).op = .alloc T)
    (hz : ∀ w, (Instr.alloc T true (.tuple #[])).run Tryd.prog w = .ok (.pointer (some ⟨w.heap.size, 0, none⟩)) (w.alloc (.cells zs.toArray T)))
    (h : ∀ w' g, Blk w' g zs T → w.heap.size ≤ g → Below w.heap.size w w' → S w' ∧ wpAnyH Tryd.prog .any ops Q S fuel (listed.setIfInBounds i true) (a.put (some d) (.pointer (some ⟨g, 0, none⟩))) w')
    (hs : AllReadyH Tryd.prog .any ops Q S fuel listed a w rs) : AllReadyH Tryd.prog .any ops Q S fuel listed a w (i :: rs) :=
  have k := h _ _ (blk_new w zs T) (Nat.le_refl _) (below_alloc w _)
  ar_val i (some d) _ _ hc (by simp only [execOp, h1, Sem.run_bind, hz, Result.andThen_ok, Sem.run_pure]) k.1 k.2 hs
theorem wl_setq0 (p q : Nat) (T : TypeId) {g i : Nat} {cs : List Value} {t : TypeId} (u v : Value) (X : Blk w g cs t) (hu : cs[i]? = some u) (h1 : o.op = .store T (.tmp p) (.tmp q)) (hd : o.dst = none) (hg : o.guard = none) (hp : a.eval (.tmp p) = .pointer (some ⟨g, i, none⟩)) (hq : a.eval (.tmp q) = .agg #[v])
    (hs : ∀ w : World, w.cell? ⟨g, i, none⟩ = some u → w.frozen? ⟨g, i, none⟩ = false → (Instr.storeAt T (.pointer (some ⟨g, i, none⟩)) (.agg #[v])).run Tryd.prog w = .ok () (w.setCell ⟨g, i, none⟩ v))
    (h : ∀ w1, w.setCell ⟨g, i, none⟩ v = w1 → wpList Tryd.prog ops Q rest (a.put none undef) w1) : wpList Tryd.prog ops Q (o :: rest) a w := wl_set0 p q T X hu h1 hd hg hp hq hs (h _ rfl)
end
/-- where the ways of a stretch of code come together -/
structure CutW (a : Act) (slots : List Nat) (F : World → Prop) (a' : Act) (w' : World) : Prop where
  ex : ∃ x : Nat → Value, a' = putAll a (slots.map fun i => (some i, x i)) ∧ F w'
theorem wp_cutw {c d : Code} {a : Act} {w : World} {Q : Exit → Act → World → Prop} (slots : List Nat) (F : World → Prop) (h1 : c.wp Tryd.prog (Exit.then (CutW a slots F) (fun _ _ _ => False)) a w) (h2 : ∀ (x : Nat → Value) w', F w' → d.wp Tryd.prog Q (putAll a (slots.map fun i => (some i, x i))) w') : (Code.seq c d).wp Tryd.prog Q a w :=
  wp_seq (Code.wp_mono (fun e a' w' h => by
    cases e <;> first
      | (obtain ⟨x, rfl, hF⟩ := h; exact h2 x w' hF)
      | exact h.elim) h1)
theorem cutw_end {a a' : Act} {w : World} {F : World → Prop} {slots : List Nat} (h : a' = putAll a (slots.map fun i => (some i, a'.tmps.getD i undef))) (hF : F w) : CutW a slots F a' w := ⟨fun i => a'.tmps.getD i undef, h, hF⟩
/-- the same, with what some slots hold behind it told -/
structure CutV (a : Act) (slots : List Nat) (upd : List (Option Tmp × Value)) (F : World → Prop) (a' : Act) (w' : World) : Prop where
  ex : ∃ x : Nat → Value, a' = putAll (putAll a (slots.map fun i => (some i, x i))) upd ∧ F w'
theorem wp_cutv {c d : Code} {a : Act} {w : World} {Q : Exit → Act → World → Prop} (slots : List Nat) (upd : List (Option Tmp × Value)) (F : World → Prop) (h1 : c.wp Tryd.prog (Exit.then (CutV a slots upd F) (fun _ _ _ => False)) a w) (h2 : ∀ (x : Nat → Value) w', F w' → d.wp Tryd.prog Q (putAll (putAll a (slots.map fun i => (some i, x i))) upd) w') : (Code.seq c d).wp Tryd.prog Q a w :=
  wp_seq (Code.wp_mono (fun e a' w' h => by
    cases e <;> first
      | (obtain ⟨x, rfl, hF⟩ := h; exact h2 x w' hF)
      | exact h.elim) h1)
theorem cutv_end {a a' : Act} {w : World} {F : World → Prop} {slots : List Nat} {upd : List (Option Tmp × Value)} (h : a' = putAll (putAll a (slots.map fun i => (some i, a'.tmps.getD i undef))) upd) (hF : F w) : CutV a slots upd F a' w := ⟨fun i => a'.tmps.getD i undef, h, hF⟩
/-- the rest of a region that keeps its order: nothing looks into it -/
structure WL (ops : Array Oper) (Q : Exit → Act → World → Prop) (l : List Oper) (a : Act) (w : World) : Prop where
  out : wpList Tryd.prog ops Q l a w
section
variable {ops : Array Oper} {rest : List Oper} {o o1 o2 : Oper} {a : Act} {w w1 : World} {Q Q' : Exit → Act → World → Prop} {K : Act → World → Prop}
theorem wl_start {id : Nat} {l : List Oper} (h : WL l.toArray Q l a w) : (Code.region id l.toArray false).wp Tryd.prog Q a w := wp_region_lit h.out
theorem wl_nil (h : Q .normal a w) : WL ops Q [] a w := ⟨wpList_nil h⟩
theorem wl_frame {a' : Act} (h : a = a') (k : WL ops Q rest a' w) : WL ops Q rest a w := ⟨wl_frame0 h k.out⟩
theorem wl_val (d : Option Tmp) (v : Value) (hg : o.guard = none) (hd : o.dst = d) (hrun : (execOp a.eval o).run Tryd.prog w = .ok (.value v) w1) (h : WL ops Q rest (a.put d v) w1) : WL ops Q (o :: rest) a w := ⟨wl_val0 d v hg hd hrun h.out⟩
theorem wl_take (d : Option Tmp) (v : Value) (hg : o.guard = none) (hd : o.dst = d) (hrun : (execOp a.eval o).run Tryd.prog w = .ok (.value v) w) (h : WL ops Q rest (a.put d v) w) : WL ops Q (o :: rest) a w := ⟨wl_take0 d v hg hd hrun h.out⟩
theorem wl_eq (d : Option Tmp) (v v' : Value) (hv : v = v') (hg : o.guard = none) (hd : o.dst = d) (hrun : (execOp a.eval o).run Tryd.prog w = .ok (.value v) w) (h : WL ops Q rest (a.put d v') w) : WL ops Q (o :: rest) a w := ⟨wl_eq0 d v v' hv hg hd hrun h.out⟩
theorem wl_skip (hg : o.guard = none) (hd : o.dst = none) (hrun : (execOp a.eval o).run Tryd.prog w = .ok .skip w1) (h : WL ops Q rest (a.put none undef) w1) : WL ops Q (o :: rest) a w := ⟨wl_skip0 hg hd hrun h.out⟩
theorem wl_call (d : Option Tmp) (f : FuncId) (args : Array Value) (hg : o.guard = none) (hd : o.dst = d) (hrun : (execOp a.eval o).run Tryd.prog w = .ok (.enter f args) w) {Qc : Ending → World → Prop} (hc : Calls Tryd.prog f args w Qc) (h : ∀ e w', Qc e w' → ∃ v, e = .returned v ∧ WL ops Q rest (a.put d v) w') : WL ops Q (o :: rest) a w := ⟨wl_call0 d f args hg hd hrun hc (fun e w' hq => have ⟨v, he, hv⟩ := h e w' hq; ⟨v, he, hv.out⟩)⟩
theorem wg_val (d : Option Tmp) (v : Value) (hw : Region.wanted o (yielded ops a.tmps) = true) (hd : o.dst = d) (hrun : (execOp a.eval o).run Tryd.prog w = .ok (.value v) w1) (h : WL ops Q rest (a.put d v) w1) : WL ops Q (o :: rest) a w := ⟨wg_val0 d v hw hd hrun h.out⟩
theorem wg_take (d : Option Tmp) (v : Value) (hw : Region.wanted o (yielded ops a.tmps) = true) (hd : o.dst = d) (hrun : (execOp a.eval o).run Tryd.prog w = .ok (.value v) w) (h : WL ops Q rest (a.put d v) w) : WL ops Q (o :: rest) a w := ⟨wg_take0 d v hw hd hrun h.out⟩
theorem wg_eq (d : Option Tmp) (v v' : Value) (hv : v = v') (hw : Region.wanted o (yielded ops a.tmps) = true) (hd : o.dst = d) (hrun : (execOp a.eval o).run Tryd.prog w = .ok (.value v) w) (h : WL ops Q rest (a.put d v') w) : WL ops Q (o :: rest) a w := ⟨wg_eq0 d v v' hv hw hd hrun h.out⟩
theorem wg_not (d : Option Tmp) (hw : Region.wanted o (yielded ops a.tmps) = false) (hd : o.dst = d) (h : WL ops Q rest (a.put d undef) w) : WL ops Q (o :: rest) a w := ⟨wg_not0 d hw hd h.out⟩
theorem wg_call (d : Option Tmp) (f : FuncId) (args : Array Value) (hw : Region.wanted o (yielded ops a.tmps) = true) (hd : o.dst = d) (hrun : (execOp a.eval o).run Tryd.prog w = .ok (.enter f args) w) {Qc : Ending → World → Prop} (hc : Calls Tryd.prog f args w Qc) (h : ∀ e w', Qc e w' → ∃ v, e = .returned v ∧ WL ops Q rest (a.put d v) w') : WL ops Q (o :: rest) a w := ⟨wg_call0 d f args hw hd hrun hc (fun e w' hq => have ⟨v, he, hv⟩ := h e w' hq; ⟨v, he, hv.out⟩)⟩
theorem wl_list (d : Nat) (vs : List Value) (e : TypeId) (hg : o.guard = none) (hd : o.dst = some d) (hrun : ∀ w, (execOp a.eval o).run Tryd.prog w = .ok (.value (.slice (some ⟨w.heap.size, 0, none⟩) vs.length vs.length)) (w.alloc (.cells vs.toArray e)))
    (h : ∀ w' g, Blk w' g vs e → w.heap.size ≤ g → Below w.heap.size w w' → WL ops Q rest (a.put (some d) (.slice (some ⟨g, 0, none⟩) vs.length vs.length)) w') : WL ops Q (o :: rest) a w := ⟨wl_list0 d vs e hg hd hrun (fun w' g X hg B => (h w' g X hg B).out)⟩
theorem wl_new (d q : Nat) (T : TypeId) (zs vs : List Value) (h1 : o1.op = .alloc T) (hd1 : o1.dst = some d) (hg1 : o1.guard = none) (h2 : o2.op = .store T (.tmp d) (.tmp q)) (hd2 : o2.dst = none) (hg2 : o2.guard = none)
    (hz : ∀ w, (Instr.alloc T true (.tuple #[])).run Tryd.prog w = .ok (.pointer (some ⟨w.heap.size, 0, none⟩)) (w.alloc (.cells zs.toArray T)))
    (hp : ∀ g, (a.put (some d) (.pointer (some ⟨g, 0, none⟩))).eval (.tmp d) = .pointer (some ⟨g, 0, none⟩)) (hq : ∀ g, (a.put (some d) (.pointer (some ⟨g, 0, none⟩))).eval (.tmp q) = .agg vs.toArray)
    (hi : (Tryd.prog.info? T).map (·.size) = some vs.toArray.size) (hs : zs.toArray.size = vs.toArray.size) (hone : vs.toArray.all (·.oneCell') = true)
    (h : ∀ w' g, Blk w' g vs T → w.heap.size ≤ g → Below w.heap.size w w' → WL ops Q rest ((a.put (some d) (.pointer (some ⟨g, 0, none⟩))).put none undef) w') : WL ops Q (o1 :: o2 :: rest) a w := ⟨wl_new0 d q T zs vs h1 hd1 hg1 h2 hd2 hg2 hz hp hq hi hs hone (fun w' g X hg B => (h w' g X hg B).out)⟩
theorem wl_alloc (d : Nat) (T : TypeId) (zs : List Value) (h1 : o.op = .alloc T) (hd : o.dst = some d) (hg : o.guard = none)
    (hz : ∀ w, (Instr.alloc T true (.tuple #[])).run Tryd.prog w = .ok (.pointer (some ⟨w.heap.size, 0, none⟩)) (w.alloc (.cells zs.toArray T)))
    (h : ∀ w' g, Blk w' g zs T → w.heap.size ≤ g → Below w.heap.size w w' → WL ops Q rest (a.put (some d) (.pointer (some ⟨g, 0, none⟩))) w') : WL ops Q (o :: rest) a w := ⟨wl_alloc0 d T zs h1 hd hg hz (fun w' g X hg B => (h w' g X hg B).out)⟩
theorem wl_box (d q : Nat) (T : TypeId) (vs : List Value) (h1 : o.op = .box T (.tmp q)) (hd : o.dst = some d) (hg : o.guard = none) (hq : a.eval (.tmp q) = .agg vs.toArray)
    (hb : ∀ w, (Instr.box T (.agg vs.toArray)).run Tryd.prog w = .ok (.pointer (some ⟨w.heap.size, 0, none⟩)) (w.alloc (.cells vs.toArray T)))
    (h : ∀ w' g, Blk w' g vs T → w.heap.size ≤ g → Below w.heap.size w w' → WL ops Q rest (a.put (some d) (.pointer (some ⟨g, 0, none⟩))) w') : WL ops Q (o :: rest) a w := ⟨wl_box0 d q T vs h1 hd hg hq hb (fun w' g X hg B => (h w' g X hg B).out)⟩
theorem wl_set (p q : Nat) (T : TypeId) {g i : Nat} {cs : List Value} {t : TypeId} {u v : Value} (X : Blk w g cs t) (hu : cs[i]? = some u) (h1 : o.op = .store T (.tmp p) (.tmp q)) (hd : o.dst = none) (hg : o.guard = none) (hp : a.eval (.tmp p) = .pointer (some ⟨g, i, none⟩)) (hq : a.eval (.tmp q) = .agg #[v])
    (hs : ∀ w : World, w.cell? ⟨g, i, none⟩ = some u → w.frozen? ⟨g, i, none⟩ = false → (Instr.storeAt T (.pointer (some ⟨g, i, none⟩)) (.agg #[v])).run Tryd.prog w = .ok () (w.setCell ⟨g, i, none⟩ v))
    (h : WL ops Q rest (a.put none undef) (w.setCell ⟨g, i, none⟩ v)) : WL ops Q (o :: rest) a w := ⟨wl_set0 p q T X hu h1 hd hg hp hq hs h.out⟩
theorem wl_set' (p q : Nat) (T : TypeId) {g i : Nat} {cs : List Value} {t : TypeId} (u v : Value) (X : Blk w g cs t) (hu : cs[i]? = some u) (h1 : o.op = .store T (.tmp p) (.tmp q)) (hd : o.dst = none) (hg : o.guard = none) (hp : a.eval (.tmp p) = .pointer (some ⟨g, i, none⟩)) (hq : a.eval (.tmp q) = .agg #[v])
    (hs : ∀ w : World, w.cell? ⟨g, i, none⟩ = some u → w.frozen? ⟨g, i, none⟩ = false → (Instr.storeAt T (.pointer (some ⟨g, i, none⟩)) (.agg #[v])).run Tryd.prog w = .ok () (w.setCell ⟨g, i, none⟩ v))
    (h : ∀ w1, w.setCell ⟨g, i, none⟩ v = w1 → WL ops Q rest (a.put none undef) w1) : WL ops Q (o :: rest) a w := ⟨wl_setq0 p q T u v X hu h1 hd hg hp hq hs (fun w1 e => (h w1 e).out)⟩
end
/-- a struct variable, or a part of one, loaded -/
theorem ld_all {w : World} {g : Nat} {cs : List Value} {t T : TypeId} {d : TypeDesc} (h : Blk w g cs t) (hu : Tryd.prog.underlying T = some d) (hd : d.isRow = true) (hi : (Tryd.prog.info? T).map (·.size) = some cs.length) : (loadVar T ⟨g, 0, none⟩).run Tryd.prog w = .ok (.agg cs.toArray) w :=
  run_loadVar_mid w g 0 T cs d (fun j v hv => by rw [Nat.zero_add]; exact h.cell hv) hu hd hi
end Pg
end Go.Proofs.YtgflacmnfegjlaaDoor
