/- Several texts, joined: Pg0, PgR, PgI, PgD, PgC, PgE, PgT, PgM, PgS, PgP, PgQ. -/
import Derived.Test.YtjnjkgakdnjlmaaChecked
import Derived.WalkKit
import Derived.WalkSpells
import Derived.WalkLawsBesides
import Derived.Lib.SliceRun
import Derived.Lib.AppendZerosOnto
import Derived.Lib.Overlaps
import Derived.Lib.Bytealg
import Derived.Lib.JoinLaws
import Derived.Laws.Externs
import Derived.Laws.CopyRow
import Derived.Laws.CopyOwn
import Derived.Laws.Tables
import Derived.Laws.NewBlocks
import Derived.Laws.IdiomCopy
import Derived.Deep.RegionHeld3
import Derived.Deep.RegionLaw
import Derived.Deep.QuietTactic
import Derived.BigQuiet
import Derived.WalkSmall
import Derived.Shelf.RegionOpenPlain
import Derived.OneCell
import Derived.Lib.BytesEntry
import Derived.WalkMore
namespace Go.Proofs.Ytjnjkgakdnjlmaa
namespace Pg
open Go.RowKit

theorem lt_of_block {w : World} {g : Nat} {o : Obj} (h : w.heap[g]? = some o) : g < w.heap.size := (Array.getElem?_eq_some_iff.1 h).1
theorem cell_lt {w : World} {b o : Nat} {v : Value} (h : w.cell? ⟨b, o, none⟩ = some v) : b < w.heap.size := by
  unfold World.cell? at h
  cases hh : w.heap[b]? with
  | none => simp [hh] at h
  | some ob => exact lt_of_block hh
/-- block g holds just cs, of type t -/
structure Blk (w : World) (g : Nat) (cs : List Value) (t : TypeId) : Prop where
  blk : w.heap[g]? = some (.cells cs.toArray t (0, 0))
theorem Blk.lt {w : World} {g : Nat} {cs : List Value} {t : TypeId} (h : Blk w g cs t) : g < w.heap.size := lt_of_block h.blk
theorem Blk.cell {w : World} {g : Nat} {cs : List Value} {t : TypeId} (h : Blk w g cs t) {i : Nat} {v : Value} (hi : cs[i]? = some v) : w.cell? ⟨g, i, none⟩ = some v := by
  simp only [World.cell?, h.blk]
  simpa using hi
theorem Blk.free {w : World} {g : Nat} {cs : List Value} {t : TypeId} (h : Blk w g cs t) (i : Nat) : w.frozen? ⟨g, i, none⟩ = false := by
  simp [World.frozen?, h.blk]
theorem Blk.keep {w w' : World} {g : Nat} {cs : List Value} {t : TypeId} (h : Blk w g cs t) (hb : Below w.heap.size w w') : Blk w' g cs t := ⟨by rw [hb.block g h.lt]; exact h.blk⟩
theorem Blk.keepB {B : Nat} {w w' : World} {g : Nat} {cs : List Value} {t : TypeId} (h : Blk w g cs t) (hb : Below B w w') (hg : g < B) : Blk w' g cs t := ⟨by rw [hb.block g hg]; exact h.blk⟩
theorem Blk.drew {w : World} {g : Nat} {cs : List Value} {t : TypeId} (h : Blk w g cs t) : Blk w.drew g cs t := ⟨h.blk⟩
theorem blk_new (w : World) (cs : List Value) (t : TypeId) : Blk (w.alloc (.cells cs.toArray t)) w.heap.size cs t := ⟨by
  show (w.heap.push _)[w.heap.size]? = _
  rw [Array.getElem?_push_size]⟩
theorem Blk.row {w : World} {g : Nat} {cs : List Value} (ds : List Value) {t : TypeId} (h : Blk w g cs t) : Blk (w.setRow g ds.toArray) g ds t := ⟨by rw [setRow_heap w g _ _ _ _ h.blk]⟩
theorem Blk.other {w : World} {g g' : Nat} {cs : List Value} {t : TypeId} (h : Blk w g cs t) (hne : g ≠ g') (ds : Array Value) : Blk (w.setRow g' ds) g cs t := ⟨by rw [setRow_other w g' g ds hne]; exact h.blk⟩
theorem Blk.same {w w' : World} {g : Nat} {cs : List Value} {t : TypeId} (h : Blk w g cs t) (hb : w'.heap[g]? = w.heap[g]?) : Blk w' g cs t := ⟨by rw [hb]; exact h.blk⟩
theorem Blk.eq {w : World} {g : Nat} {cs ds : List Value} {t u : TypeId} (h : Blk w g cs t) (h' : Blk w g ds u) : cs = ds ∧ t = u := by
  have := h.blk.symm.trans h'.blk
  simp at this
  exact this
theorem Blk.setCell {w : World} {g : Nat} {cs : List Value} {t : TypeId} (h : Blk w g cs t) {i : Nat} (v : Value) : Blk (w.setCell ⟨g, i, none⟩ v) g (cs.set i v) t := ⟨by
  have := h.blk
  simp only [World.setCell, Array.getElem?_modify, if_true, this]
  simp⟩
theorem Blk.off {w : World} {g g' : Nat} {cs : List Value} {t : TypeId} (h : Blk w g cs t) (hne : g ≠ g') {i : Nat} (v : Value) : Blk (w.setCell ⟨g', i, none⟩ v) g cs t := ⟨by rw [Below.heap_setCell w _ v g hne]; exact h.blk⟩
theorem below_alloc (w : World) (o : Obj) : Below w.heap.size w (w.alloc o) := (Below.refl _ _).alloc (Nat.le_refl _) _
theorem joinB {w wa w' : World} (b : Below w.heap.size w wa) (h : Below wa.heap.size wa w') : Below w.heap.size w w' := b.trans (h.mono b.size)
theorem below_row {B g : Nat} {w w' : World} (h : Below B w w') (hB : B ≤ g) (ds : Array Value) : Below B w (w'.setRow g ds) :=
  h.trans ⟨rfl, rfl, rfl, by simp [World.setRow], fun k hk => setRow_other w' g k ds (by omega)⟩

/-- what is changed lies in F, or is new -/
structure Chg (F : Nat → Prop) (w w' : World) : Prop where
  os : w'.os = w.os
  tape : w'.tape = w.tape
  output : w'.output = w.output
  size : w.heap.size ≤ w'.heap.size
  same : ∀ b, b < w.heap.size → ¬ F b → w'.heap[b]? = w.heap[b]?
theorem Chg.refl (F : Nat → Prop) (w : World) : Chg F w w := ⟨rfl, rfl, rfl, Nat.le_refl _, fun _ _ _ => rfl⟩
theorem Chg.of {F : Nat → Prop} {w w' : World} (h : Below w.heap.size w w') : Chg F w w' := ⟨h.os, h.tape, h.output, h.size, fun b hb _ => h.block b hb⟩
theorem Chg.nothing {w w' : World} (h : Chg (fun _ => False) w w') : Below w.heap.size w w' := ⟨h.os, h.tape, h.output, h.size, fun b hb => h.same b hb id⟩
theorem Chg.below {F : Nat → Prop} {B : Nat} {w w' : World} (h : Chg F w w') (hF : ∀ b, F b → B ≤ b) (hB : B ≤ w.heap.size) : Below B w w' := ⟨h.os, h.tape, h.output, h.size, fun b hb => h.same b (by omega) fun f => by have := hF b f; omega⟩
theorem Chg.trans {F F' : Nat → Prop} {w w1 w2 : World} (h : Chg F w w1) (h' : Chg F' w1 w2) (hF : ∀ b, b < w.heap.size → F' b → F b) : Chg F w w2 :=
  ⟨h'.os.trans h.os, h'.tape.trans h.tape, h'.output.trans h.output, Nat.le_trans h.size h'.size, fun b hb hf => (h'.same b (Nat.lt_of_lt_of_le hb h.size) fun f => hf (hF b hb f)).trans (h.same b hb hf)⟩
theorem Chg.mono {F F' : Nat → Prop} {w w1 : World} (h : Chg F w w1) (hF : ∀ b, b < w.heap.size → F b → F' b) : Chg F' w w1 := ⟨h.os, h.tape, h.output, h.size, fun b hb hf => h.same b hb fun f => hf (hF b hb f)⟩
theorem Chg.drew {F : Nat → Prop} {w w' : World} (h : Chg F w w') : Chg F w w'.drew := ⟨h.os, h.tape, h.output, h.size, h.same⟩
theorem Chg.row {F : Nat → Prop} {w w' : World} (h : Chg F w w') {g : Nat} (hg : F g ∨ w.heap.size ≤ g) (ds : Array Value) : Chg F w (w'.setRow g ds) :=
  ⟨h.os, h.tape, h.output, by simpa [World.setRow] using h.size, fun b hb hf => by
    have hne : b ≠ g := fun e => by subst e; rcases hg with f | f; exact hf f; omega
    exact (setRow_other w' g b ds hne).trans (h.same b hb hf)⟩
theorem Chg.cell {F : Nat → Prop} {w w' : World} (h : Chg F w w') {g i : Nat} (hg : F g ∨ w.heap.size ≤ g) (v : Value) : Chg F w (w'.setCell ⟨g, i, none⟩ v) :=
  ⟨h.os, h.tape, h.output, by simpa [World.setCell] using h.size, fun b hb hf => by
    have hne : b ≠ g := fun e => by subst e; rcases hg with f | f; exact hf f; omega
    exact (Below.heap_setCell w' _ v b hne).trans (h.same b hb hf)⟩
theorem Chg.alloc {F : Nat → Prop} {w w' : World} (h : Chg F w w') (o : Obj) : Chg F w (w'.alloc o) := h.trans (Chg.of (F := fun _ => False) (below_alloc w' o)) (fun _ _ f => f.elim)
theorem Blk.chg {F : Nat → Prop} {w w' : World} {g : Nat} {cs : List Value} {t : TypeId} (h : Blk w g cs t) (hc : Chg F w w') (hg : ¬ F g) : Blk w' g cs t := ⟨by rw [hc.same g h.lt hg]; exact h.blk⟩

/-- the stretch of a list from o on, laid over by cs -/
theorem splice_def {α : Type} (L : List α) (o : Nat) (cs : List α) : splice L o cs = L.take o ++ cs ++ L.drop (o + cs.length) := by simp [splice]
theorem run_copyK {P : Program} (w : World) (dT sT ty elem : TypeId) (k g o dLen dCap : Nat) (a : Addr) (sLen sCap : Nat) (L cs : List Value) (t : TypeId)
    (hu : P.underlying dT = some (.slice elem)) (hs : (P.info? elem).map (·.size) = some k)
    (hg : Blk w g L t) (m : Nat) (hm : Nat.min sLen dLen = m) (hn : cs.length = m * k)
    (hsrc : ∀ j v, cs[j]? = some v → w.cell? (a.add j) = some v) (hfit : o + cs.length ≤ L.length) (h1 : ∀ v ∈ cs, v.oneCell' = true) :
    (Builtin.copy_ #[dT, sT] ty #[.slice (some ⟨g, o, none⟩) dLen dCap, .slice (some a) sLen sCap]).run P w =
      .ok (goInt m) (w.setRow g (splice L o cs).toArray) := by
  have hl := run_loadCells_list (P := P) w a cs hsrc
  have hst := run_storeCells_at P g o t cs 0 L.toArray w hg.blk (by simpa using hfit) h1
  cases hq : P.info? elem with
  | none => simp [hq] at hs
  | some i =>
    have hi : i.size = k := by simpa [hq] using hs
    simp [Builtin.copy_, run_underlying hu, Builtin.lenOf, Builtin.firstCells, sizeOf, typeInfo, hq, hi, hm, ← hn, hl, hst, splice_def]
theorem run_clearK {P : Program} (w : World) (T ty elem : TypeId) (z : Value) (k g o n c : Nat) (L : List Value) (t : TypeId) (hu : P.underlying T = some (.slice elem)) (hv : ∀ w, (zeroValue elem).run P w = .ok z w)
    (hz : z.cells.size = k) (h1 : ∀ v ∈ z.cells, v.oneCell' = true) (hg : Blk w g L t) (hn : 0 < n) (hk : 0 < k) (hfit : o + n * k ≤ L.length) :
    (Builtin.clear_ #[T] ty #[.slice (some ⟨g, o, none⟩) n c]).run P w = .ok (.tuple #[]) (w.setRow g (splice L o (Builtin.zeroCells z.cells n).toList).toArray) := by
  have hlen : (Builtin.zeroCells z.cells n).toList.length = n * k := by simp [Builtin.zeroCells, hz]
  have hone : ∀ v ∈ (Builtin.zeroCells z.cells n).toList, v.oneCell' = true := by
    intro v hv
    simp [Builtin.zeroCells] at hv
    obtain ⟨i, hi, rfl⟩ := hv
    have : i % z.cells.size < z.cells.size := Nat.mod_lt _ (by omega)
    rw [show z.cells[i % z.cells.size]! = z.cells[i % z.cells.size] from getElem!_pos z.cells _ this]
    exact h1 _ (Array.getElem_mem this)
  have hst := run_storeCells_at P g o t (Builtin.zeroCells z.cells n).toList 0 L.toArray w hg.blk (by rw [hlen]; simpa using hfit) hone
  obtain ⟨m, rfl⟩ : ∃ m, n = m + 1 := ⟨n - 1, by omega⟩
  simp only [Nat.add_zero] at hst
  simp [Builtin.clear_, run_underlying hu, hv, hst, splice_def]
theorem splice_at {α : Type} (A B C D : List α) (k : Nat) (hk : A.length = k) (hB : B.length = C.length) : splice (A ++ B ++ D) k C = A ++ C ++ D := by
  subst hk
  have h1 : (A ++ B ++ D).take A.length = A := by rw [List.append_assoc, List.take_left]
  have h2 : (A ++ B ++ D).drop (A.length + C.length) = D := by
    rw [← hB, ← List.length_append, List.drop_left]
  rw [splice_def, h1, h2]
/-- room is made at place i for vs, and vs is laid there -/
theorem shift_eq {α : Type} (xs sp vs : List α) (i : Nat) (hi : i ≤ xs.length) (hc : vs.length ≤ sp.length) :
    splice (splice (xs ++ sp) (i + vs.length) (xs.drop i)) i vs = xs.take i ++ vs ++ xs.drop i ++ sp.drop vs.length := by
  obtain ⟨A, B, hA, rfl, rfl⟩ : ∃ A B, A.length = i ∧ xs = A ++ B ∧ i = A.length := ⟨xs.take i, xs.drop i, by simp; omega, by simp, by simp; omega⟩
  have e1 : (A ++ B).drop A.length = B := by simp
  have e2 : (A ++ B).take A.length = A := by simp
  rw [e1, e2]
  have h1 : A ++ B ++ sp = (A ++ (B ++ sp).take vs.length) ++ ((B ++ sp).drop vs.length).take B.length ++ sp.drop vs.length := by
    have h2 : ((B ++ sp).drop vs.length).take B.length ++ sp.drop vs.length = (B ++ sp).drop vs.length := by
      have h3 : sp.drop vs.length = ((B ++ sp).drop vs.length).drop B.length := by
        rw [List.drop_drop, Nat.add_comm, ← List.drop_drop]; simp
      rw [h3, List.take_append_drop]
    rw [List.append_assoc, List.append_assoc (A ++ _), h2, List.append_assoc, List.take_append_drop]
  rw [h1, splice_at (A ++ (B ++ sp).take vs.length) _ B _ (A.length + vs.length) (by simp; omega) (by simp; omega), List.append_assoc (A ++ _), splice_at A _ vs _ A.length rfl (by simp; omega), List.append_assoc (A ++ vs)]
/-- a builtin whose run is known, in a region that draws -/
theorem step_bi {P : Program} {ops : Array Oper} {o : Oper} {a : Act} {w : World} {K : Act → World → Prop} {Q : Exit → Act → World → Prop} {E : Prop} (hg : o.guard = none) {v : Value} {w' : World}
    (hr : (execOp a.eval o).run P w = .ok (.value v) w') (hK : K (a.put o.dst v) w') : if Region.wanted o (yielded ops a.tmps) = true then Oper.wp P o a w K Q else E := by
  rw [if_pos (by simp [Region.wanted, hg])]
  unfold Oper.wp
  rw [hr]
  exact hK
theorem list_bi {P : Program} {ops : Array Oper} {rest : List Oper} {o : Oper} {a : Act} {w : World} {Q : Exit → Act → World → Prop} (hg : o.guard = none) {v : Value} {w' : World}
    (hr : (execOp a.eval o).run P w = .ok (.value v) w') (hK : wpList P ops Q rest (a.put o.dst v) w') : wpList P ops Q (o :: rest) a w :=
  wpList_plain hg fun K hK' => by
    unfold Oper.wp
    rw [hr]
    exact hK' _ _ hK
theorem exec_copy {P : Program} {o : Oper} {a : Act} {w : World} (d s : Operand) (t t' : TypeId) (ho : o.op = .call { callee := .builtin .copy, args := #[d, s], argTypes := #[t, t'] }) (v u : Value) (hd : a.eval d = v) (hs : a.eval s = u) {v' : Value} {w' : World}
    (hr : (Builtin.copy_ #[t, t'] o.type #[v, u]).run P w = .ok v' w') : (execOp a.eval o).run P w = .ok (.value v') w' := by
  simp only [execOp, ho, resolve, invoke, builtin, Sem.run_bind, Sem.run_pure, Result.andThen_ok, List.map_toArray, List.map_cons, List.map_nil, hd, hs, hr]
theorem exec_app {P : Program} {o : Oper} {a : Act} {w : World} (d s : Operand) (t t' : TypeId) (ho : o.op = .call { callee := .builtin .append, args := #[d, s], argTypes := #[t, t'] }) (v u : Value) (hd : a.eval d = v) (hs : a.eval s = u) {v' : Value} {w' : World}
    (hr : (Builtin.append_ #[t, t'] o.type #[v, u]).run P w = .ok v' w') : (execOp a.eval o).run P w = .ok (.value v') w' := by
  simp only [execOp, ho, resolve, invoke, builtin, Sem.run_bind, Sem.run_pure, Result.andThen_ok, List.map_toArray, List.map_cons, List.map_nil, hd, hs, hr]
theorem exec_clear {P : Program} {o : Oper} {a : Act} {w : World} (d : Operand) (t : TypeId) (ho : o.op = .call { callee := .builtin .clear, args := #[d], argTypes := #[t] }) (v : Value) (hd : a.eval d = v) {v' : Value} {w' : World}
    (hr : (Builtin.clear_ #[t] o.type #[v]).run P w = .ok v' w') : (execOp a.eval o).run P w = .ok (.value v') w' := by
  simp only [execOp, ho, resolve, invoke, builtin, Sem.run_bind, Sem.run_pure, Result.andThen_ok, List.map_toArray, List.map_cons, List.map_nil, hd, hr]
theorem step_copy {P : Program} {ops : Array Oper} {o : Oper} {a : Act} {w : World} {K : Act → World → Prop} {Q : Exit → Act → World → Prop} {E : Prop} (hg : o.guard = none) (d s : Operand) (t t' : TypeId) (ho : o.op = .call { callee := .builtin .copy, args := #[d, s], argTypes := #[t, t'] }) (v u : Value) (hd : a.eval d = v) (hs : a.eval s = u) {v' : Value} {w' : World}
    (hr : (Builtin.copy_ #[t, t'] o.type #[v, u]).run P w = .ok v' w') (hK : K (a.put o.dst v') w') : if Region.wanted o (yielded ops a.tmps) = true then Oper.wp P o a w K Q else E := step_bi hg (exec_copy d s t t' ho v u hd hs hr) hK
theorem step_app {P : Program} {ops : Array Oper} {o : Oper} {a : Act} {w : World} {K : Act → World → Prop} {Q : Exit → Act → World → Prop} {E : Prop} (hg : o.guard = none) (d s : Operand) (t t' : TypeId) (ho : o.op = .call { callee := .builtin .append, args := #[d, s], argTypes := #[t, t'] }) (v u : Value) (hd : a.eval d = v) (hs : a.eval s = u) {v' : Value} {w' : World}
    (hr : (Builtin.append_ #[t, t'] o.type #[v, u]).run P w = .ok v' w') (hK : K (a.put o.dst v') w') : if Region.wanted o (yielded ops a.tmps) = true then Oper.wp P o a w K Q else E := step_bi hg (exec_app d s t t' ho v u hd hs hr) hK
end Pg
end Go.Proofs.Ytjnjkgakdnjlmaa

namespace Go.Proofs.Ytjnjkgakdnjlmaa
namespace Pg
open Go.RowKit Go.Lib

/-- block b holds n elements of k cells each, xs, and room for c -/
structure Rw (w : World) (E : TypeId) (k b n c : Nat) (xs : List Value) : Prop where
  ex : ∃ sp, Blk w b (xs ++ sp) E ∧ xs.length = n * k ∧ (xs ++ sp).length = c * k ∧ n ≤ c ∧ c ≤ maxLen
theorem Rw.lt {w : World} {E : TypeId} {k b n c : Nat} {xs : List Value} (h : Rw w E k b n c xs) : b < w.heap.size := by
  obtain ⟨sp, h, _⟩ := h.ex; exact h.lt
theorem Rw.same {w w' : World} {E : TypeId} {k b n c : Nat} {xs : List Value} (h : Rw w E k b n c xs) (hb : w'.heap[b]? = w.heap[b]?) : Rw w' E k b n c xs := by
  obtain ⟨sp, h, h'⟩ := h.ex; exact ⟨sp, h.same hb, h'⟩
theorem Rw.keep {w w' : World} {E : TypeId} {k b n c : Nat} {xs : List Value} (h : Rw w E k b n c xs) (hb : Below w.heap.size w w') : Rw w' E k b n c xs := h.same (hb.block b h.lt)
theorem Rw.chg {F : Nat → Prop} {w w' : World} {E : TypeId} {k b n c : Nat} {xs : List Value} (h : Rw w E k b n c xs) (hb : Chg F w w') (hg : ¬ F b) : Rw w' E k b n c xs := h.same (hb.same b h.lt hg)
theorem Rw.drew {w : World} {E : TypeId} {k b n c : Nat} {xs : List Value} (h : Rw w E k b n c xs) : Rw w.drew E k b n c xs := h.same rfl
theorem Rw.len {w : World} {E : TypeId} {k b n c : Nat} {xs : List Value} (h : Rw w E k b n c xs) : xs.length = n * k := by
  obtain ⟨sp, h, h', _⟩ := h.ex; exact h'
theorem Rw.le {w : World} {E : TypeId} {k b n c : Nat} {xs : List Value} (h : Rw w E k b n c xs) : n ≤ c ∧ c ≤ maxLen := by
  obtain ⟨sp, h, _, _, h'⟩ := h.ex; exact h'
theorem Rw.cell {w : World} {E : TypeId} {k b n c : Nat} {xs : List Value} (h : Rw w E k b n c xs) {i : Nat} {v : Value} (hi : xs[i]? = some v) : w.cell? ⟨b, i, none⟩ = some v := by
  obtain ⟨sp, h, _⟩ := h.ex
  exact h.cell (by rw [List.getElem?_append_left (List.getElem?_eq_some_iff.1 hi).1]; exact hi)
theorem Rw.free {w : World} {E : TypeId} {k b n c : Nat} {xs : List Value} (h : Rw w E k b n c xs) (i : Nat) : w.frozen? ⟨b, i, none⟩ = false := by
  obtain ⟨sp, h, _⟩ := h.ex; exact h.free i
theorem Rw.kind {w : World} {E : TypeId} {k b n c : Nat} {xs : List Value} (h : Rw w E k b n c xs) : ∃ cs, Blk w b cs E := by
  obtain ⟨sp, h, _⟩ := h.ex; exact ⟨_, h⟩
theorem Rw.set {w : World} {E : TypeId} {k b n c : Nat} {xs : List Value} (h : Rw w E k b n c xs) (i : Nat) (hi : i < xs.length) (v : Value) : Rw (w.setCell ⟨b, i, none⟩ v) E k b n c (xs.set i v) := by
  obtain ⟨sp, h, h1, h2, h3⟩ := h.ex
  refine ⟨sp, ?_, by simpa using h1, by simpa using h2, h3⟩
  have := h.setCell (i := i) v
  rwa [List.set_append_left _ _ hi] at this
theorem blk_rw {w : World} {E : TypeId} {k b n : Nat} {xs : List Value} (h : Blk w b xs E) (hx : xs.length = n * k) (hn : n ≤ maxLen) : Rw w E k b n n xs := ⟨[], by simpa using h, hx, by simpa using hx, Nat.le_refl _, hn⟩
/-- fewer elements of the same block -/
theorem Rw.front {w : World} {E : TypeId} {k b n c : Nat} {xs : List Value} (h : Rw w E k b n c xs) {m : Nat} (hm : m ≤ n) : Rw w E k b m c (xs.take (m * k)) := by
  obtain ⟨sp, h, h1, h2, h3, h4⟩ := h.ex
  have hk : m * k ≤ n * k := Nat.mul_le_mul_right _ hm
  refine ⟨xs.drop (m * k) ++ sp, by rw [← List.append_assoc, List.take_append_drop]; exact h, by rw [List.length_take]; omega, by rw [← List.append_assoc, List.take_append_drop]; exact h2, by omega, h4⟩

/-- more elements of the same block -/
theorem Rw.more {w : World} {E : TypeId} {k b n c : Nat} {xs : List Value} (h : Rw w E k b n c xs) {m : Nat} (hm : n + m ≤ c) : ∃ s, s.length = m * k ∧ Rw w E k b (n + m) c (xs ++ s) := by
  obtain ⟨sp, h, h1, h2, h3, h4⟩ := h.ex
  have h5 : n * k + m * k ≤ c * k := by rw [← Nat.add_mul]; exact Nat.mul_le_mul_right _ hm
  rw [List.length_append] at h2
  refine ⟨sp.take (m * k), by rw [List.length_take]; omega, sp.drop (m * k), ?_, ?_, ?_, hm, h4⟩
  · rw [List.append_assoc, List.take_append_drop]; exact h
  · rw [List.length_append, List.length_take, Nat.add_mul]; omega
  · rw [List.append_assoc, List.take_append_drop, List.length_append]; exact h2
theorem Rw.to {w : World} {E : TypeId} {k b n c : Nat} {xs ys : List Value} (h : Rw w E k b n c xs) (e : xs = ys) : Rw w E k b n c ys := e ▸ h

section
variable {P : Program} {w : World} {T E : TypeId} {k bytes : Nat} {z : Value}
/-- what a slice's type says -/
structure Kd (P : Program) (T E : TypeId) (k bytes : Nat) (z : Value) : Prop where
  und : P.underlying T = some (.slice E)
  inf : (P.info? E).map (fun i => (i.zero, i.size, i.bytes)) = some (some z, k, bytes)
  zs : z.cells.size = k
  z1 : ∀ v ∈ z.cells, v.oneCell' = true
  k0 : 0 < k
theorem Kd.size (h : Kd P T E k bytes z) : (P.info? E).map (·.size) = some k := by
  obtain ⟨i, hi, hz, hs, hb⟩ := info_parts h.inf
  rw [hi]; simp [hs]
theorem Kd.sizeOf (h : Kd P T E k bytes z) (w : World) : (Go.sizeOf E).run P w = .ok k w := by
  obtain ⟨i, hi, hz, hs, hb⟩ := info_parts h.inf
  simp [Go.sizeOf, typeInfo, hi, hs]
theorem Kd.zero (h : Kd P T E k bytes z) (w : World) : (zeroValue E).run P w = .ok z w := by
  obtain ⟨i, hi, hz, hs, hb⟩ := info_parts h.inf
  simp [zeroValue, typeInfo, hi, hz]
theorem new_row (w : World) (E : TypeId) (zc : Array Value) (k n c : Nat) (xs : List Value) (hz : zc.size = k) (hx : xs.length = n * k) (hn : n ≤ c) (hc : c ≤ maxLen) :
    Rw (w.drew.alloc (.cells (xs.toArray ++ Builtin.zeroCells zc (c - n)) E)) E k w.heap.size n c xs :=
  ⟨(Builtin.zeroCells zc (c - n)).toList, ⟨by
    have := (blk_new w.drew (xs ++ (Builtin.zeroCells zc (c - n)).toList) E).blk
    rw [show (xs ++ (Builtin.zeroCells zc (c - n)).toList).toArray = xs.toArray ++ Builtin.zeroCells zc (c - n) by apply Array.ext'; simp] at this ⊢
    exact this⟩, hx, by
    rw [List.length_append, hx, Array.length_toList, size_zeroCells, hz, ← Nat.add_mul]; congr 1; omega, hn, hc⟩
/-- append of m elements that lie at a -/
theorem app_row (H : Kd P T E k bytes z) (ty : TypeId) {b n c : Nat} {xs : List Value} (R : Rw w E k b n c xs) (a : Addr) (m cc : Nat) (news : List Value) (hl : news.length = m * k) (hnews : ∀ j u, news[j]? = some u → w.cell? (a.add j) = some u) (h1 : ∀ u ∈ news, u.oneCell' = true)
    (hbig : (n + m) * bytes ≤ 140737488355328) (hm : n + m ≤ 140737488355328) :
    ∃ b' c' w', (Builtin.append_ #[T, T] ty #[.slice (some ⟨b, 0, none⟩) n c, .slice (some a) m cc]).run P w = .ok (.slice (some ⟨b', 0, none⟩) (n + m) c') w' ∧ (b' = b ∨ b' = w.heap.size) ∧ Rw w' E k b' (n + m) c' (xs ++ news) ∧ Chg (· = b) w w' := by
  obtain ⟨i, hi, hz, hs, hb⟩ := info_parts H.inf
  obtain ⟨sp, hB, hx, hc, hnc, hcm⟩ := R.ex
  subst hs hb
  have hmx : n + m ≤ maxLen := by simp only [maxLen]; omega
  by_cases hroom : n + m ≤ c
  · have hfit : n * i.size + news.length ≤ (xs ++ sp).toArray.size := by
      rw [List.size_toArray, hc, hl, ← Nat.add_mul]; exact Nat.mul_le_mul_right _ hroom
    have hr := run_append_room (P := P) w T ty E i H.und hi b n c (xs ++ sp).toArray hB.blk a m cc news hl hnews h1 hroom hfit
    refine ⟨b, c, _, hr, .inl rfl, ⟨sp.drop news.length, ?_, by rw [List.length_append, hx, hl, Nat.add_mul], ?_, hroom, hcm⟩, (Chg.refl (· = b) w).row (g := b) (.inl rfl) _⟩
    · have := hB.row (xs ++ news ++ sp.drop news.length)
      have e : (xs ++ sp).toArray.toList.take (n * i.size) ++ news ++ (xs ++ sp).toArray.toList.drop (n * i.size + news.length) = xs ++ news ++ sp.drop news.length := by
        rw [show (xs ++ sp).toArray.toList = xs ++ sp from rfl, ← hx, List.take_left, ← List.drop_drop, List.drop_left]
      rw [e]; exact this
    · have h2 : xs.length + sp.length = c * i.size := by rw [← List.length_append]; exact hc
      have h3 : n * i.size + m * i.size ≤ c * i.size := by rw [← Nat.add_mul]; exact Nat.mul_le_mul_right _ hroom
      rw [List.length_append, List.length_append, List.length_drop]; omega
  · have holds : ∀ j u, xs[j]? = some u → w.cell? ((⟨b, 0, none⟩ : Addr).add j) = some u := fun j u hj => by rw [Addr.add_lit, Nat.zero_add]; exact R.cell hj
    have hr := run_append_grow (P := P) w T ty E i z H.und hi hz ⟨b, 0, none⟩ n c xs hx holds a m cc news hl hnews (by omega) (by omega) (growslice_fits (by omega) hbig)
    refine ⟨w.heap.size, _, _, hr, .inr rfl, ?_, (Chg.refl _ w).drew.alloc _⟩
    have := new_row w E z.cells i.size (n + m) (grownCap w (n + m) c E) (xs ++ news) H.zs (by rw [List.length_append, hx, hl, Nat.add_mul]) (grownCap_ge w _ _ _) (grownCap_le_maxLen w _ _ _ hmx)
    simpa using this
theorem app_nil (H : Kd P T E k bytes z) (ty : TypeId) (a : Addr) (m cc : Nat) (news : List Value) (hl : news.length = m * k) (hnews : ∀ j u, news[j]? = some u → w.cell? (a.add j) = some u)
    (h0 : 0 < m) (hbig : m * bytes ≤ 140737488355328) (hm : m ≤ 140737488355328) :
    ∃ c' w', (Builtin.append_ #[T, T] ty #[.slice none 0 0, .slice (some a) m cc]).run P w = .ok (.slice (some ⟨w.heap.size, 0, none⟩) m c') w' ∧ Rw w' E k w.heap.size m c' news ∧ Below w.heap.size w w' := by
  obtain ⟨i, hi, hz, hs, hb⟩ := info_parts H.inf
  subst hs hb
  have hr := run_append_nil (P := P) w T ty E i z H.und hi hz a m cc news hl hnews h0 (by omega) (by omega)
  refine ⟨_, _, hr, ?_, ?_⟩
  · exact new_row w E z.cells i.size m (grownCap w m 0 E) news H.zs hl (grownCap_ge w _ _ _) (grownCap_le_maxLen w _ _ _ (by simp only [maxLen]; omega))
  · exact (Below.refl _ w).trans ⟨rfl, rfl, rfl, by simp, fun b hb => by
      have := (below_alloc w.drew (.cells (news.toArray ++ Builtin.zeroCells z.cells (grownCap w m 0 E - m)) E)).block b hb
      exact this⟩
/-- append of m noughts where there is no room for them -/
theorem app_zeros (H : Kd P T E k bytes z) (tn ty : TypeId) (hn : P.underlying tn = some (.int .i64)) {b n c : Nat} {xs : List Value} (R : Rw w E k b n c xs) (m : Nat) (h0 : 0 < m) (hc : c < n + m) (hbig : (n + m) * bytes ≤ 140737488355328) (hm : n + m ≤ 140737488355328) :
    ∃ c' w', (Builtin.append_ #[T, tn] ty #[.slice (some ⟨b, 0, none⟩) n c, .int .i64 m]).run P w = .ok (.slice (some ⟨w.heap.size, 0, none⟩) (n + m) c') w' ∧ Rw w' E k w.heap.size (n + m) c' (xs ++ (Builtin.zeroCells z.cells m).toList) ∧ Below w.heap.size w w' := by
  obtain ⟨i, hi, hz, hs, hb⟩ := info_parts H.inf
  have hx := R.len
  subst hs hb
  have hold : (Builtin.firstCells i.size n (.slice (some ⟨b, 0, none⟩) n c)).run P w.drew = .ok xs.toArray w.drew :=
    run_firstCells_some w.drew i.size n ⟨b, 0, none⟩ n c xs hx (fun j v hj => by rw [Addr.add_lit, Nat.zero_add]; exact R.cell hj)
  have hm' : m * i.bytes ≤ (n + m) * i.bytes := Nat.mul_le_mul_right _ (by omega)
  have hr := run_append_grow_zeros w T tn ty E i z .i64 .i64 H.und hn hi hz (some ⟨b, 0, none⟩) n c xs hold m h0 H.k0 hc (by omega) (by omega) (growslice_fits hc hbig)
  refine ⟨_, _, hr, ?_, ?_⟩
  · have := new_row w E z.cells i.size (n + m) (grownCap w (n + m) c E) (xs ++ (Builtin.zeroCells z.cells m).toList) H.zs (by rw [List.length_append, hx, Array.length_toList, size_zeroCells, H.zs, Nat.add_mul]) (grownCap_ge w _ _ _) (grownCap_le_maxLen w _ _ _ (by simp only [maxLen]; omega))
    rw [show (xs ++ (Builtin.zeroCells z.cells m).toList).toArray = xs.toArray ++ Builtin.zeroCells z.cells m by apply Array.ext'; simp] at this
    exact this
  · exact ⟨rfl, rfl, rfl, by simp, fun b hb => (below_alloc w.drew (.cells (xs.toArray ++ Builtin.zeroCells z.cells m ++ Builtin.zeroCells z.cells (grownCap w (n + m) c E - (n + m))) E)).block b hb⟩
theorem app_zeros_nil (H : Kd P T E k bytes z) (tn ty : TypeId) (hn : P.underlying tn = some (.int .i64)) (m : Nat) (h0 : 0 < m) (hbig : m * bytes ≤ 140737488355328) (hm : m ≤ 140737488355328) :
    ∃ c' w', (Builtin.append_ #[T, tn] ty #[.slice none 0 0, .int .i64 m]).run P w = .ok (.slice (some ⟨w.heap.size, 0, none⟩) m c') w' ∧ Rw w' E k w.heap.size m c' (Builtin.zeroCells z.cells m).toList ∧ Below w.heap.size w w' := by
  obtain ⟨i, hi, hz, hs, hb⟩ := info_parts H.inf
  subst hs hb
  have hr := run_append_nil_zeros w T tn ty E i z .i64 .i64 H.und hn hi hz m h0 H.k0 (by omega) (by omega)
  refine ⟨_, _, hr, ?_, ?_⟩
  · have := new_row w E z.cells i.size m (grownCap w m 0 E) (Builtin.zeroCells z.cells m).toList H.zs (by rw [Array.length_toList, size_zeroCells, H.zs]) (grownCap_ge w _ _ _) (grownCap_le_maxLen w _ _ _ (by simp only [maxLen]; omega))
    simpa using this
  · exact ⟨rfl, rfl, rfl, by simp, fun b hb => (below_alloc w.drew (.cells (Builtin.zeroCells z.cells m ++ Builtin.zeroCells z.cells (grownCap w m 0 E - m)) E)).block b hb⟩
/-- copy into a stretch of a row -/
theorem copy_row (H : Kd P T E k bytes z) (ty : TypeId) {g n c : Nat} {xs : List Value} (R : Rw w E k g n c xs) (o dLen dCap : Nat) (a : Addr) (sLen sCap : Nat) (cs : List Value) (m : Nat) (hm : Nat.min sLen dLen = m) (hn : cs.length = m * k)
    (hsrc : ∀ j v, cs[j]? = some v → w.cell? (a.add j) = some v) (hfit : o + cs.length ≤ xs.length) (h1 : ∀ v ∈ cs, v.oneCell' = true) :
    ∃ w', (Builtin.copy_ #[T, T] ty #[.slice (some ⟨g, o, none⟩) dLen dCap, .slice (some a) sLen sCap]).run P w = .ok (goInt m) w' ∧ Rw w' E k g n c (splice xs o cs) ∧ Chg (· = g) w w' := by
  obtain ⟨sp, hB, hx, hc, hnc, hcm⟩ := R.ex
  have hr := run_copyK (P := P) w T T ty E k g o dLen dCap a sLen sCap (xs ++ sp) cs E H.und H.size hB m hm hn hsrc (by rw [List.length_append]; omega) h1
  have e : splice (xs ++ sp) o cs = splice xs o cs ++ sp := by
    rw [splice_def, splice_def, List.take_append_of_le_length (by omega), List.drop_append_of_le_length (by omega), List.append_assoc, List.append_assoc, List.append_assoc]
  have hl := length_splice xs o cs hfit
  refine ⟨_, hr, ⟨sp, by rw [e]; exact hB.row _, by rw [hl]; exact hx, by rw [List.length_append, hl, ← List.length_append]; exact hc, hnc, hcm⟩, (Chg.refl (· = g) w).row (g := g) (.inl rfl) _⟩
/-- append where there is room: in place -/
theorem app_room (H : Kd P T E k bytes z) (ty : TypeId) {b n c : Nat} {xs : List Value} (R : Rw w E k b n c xs) (a : Addr) (m cc : Nat) (news : List Value) (hl : news.length = m * k) (hnews : ∀ j u, news[j]? = some u → w.cell? (a.add j) = some u) (h1 : ∀ u ∈ news, u.oneCell' = true) (hroom : n + m ≤ c) :
    ∃ w', (Builtin.append_ #[T, T] ty #[.slice (some ⟨b, 0, none⟩) n c, .slice (some a) m cc]).run P w = .ok (.slice (some ⟨b, 0, none⟩) (n + m) c) w' ∧ Rw w' E k b (n + m) c (xs ++ news) ∧ Chg (· = b) w w' := by
  obtain ⟨i, hi, hz, hs, hb⟩ := info_parts H.inf
  obtain ⟨sp, hB, hx, hc, hnc, hcm⟩ := R.ex
  subst hs hb
  have hfit : n * i.size + news.length ≤ (xs ++ sp).toArray.size := by
    rw [List.size_toArray, hc, hl, ← Nat.add_mul]; exact Nat.mul_le_mul_right _ hroom
  have hr := run_append_room (P := P) w T ty E i H.und hi b n c (xs ++ sp).toArray hB.blk a m cc news hl hnews h1 hroom hfit
  refine ⟨_, hr, ⟨sp.drop news.length, ?_, by rw [List.length_append, hx, hl, Nat.add_mul], ?_, hroom, hcm⟩, (Chg.refl (· = b) w).row (g := b) (.inl rfl) _⟩
  · have := hB.row (xs ++ news ++ sp.drop news.length)
    have e : (xs ++ sp).toArray.toList.take (n * i.size) ++ news ++ (xs ++ sp).toArray.toList.drop (n * i.size + news.length) = xs ++ news ++ sp.drop news.length := by
      rw [show (xs ++ sp).toArray.toList = xs ++ sp from rfl, ← hx, List.take_left, ← List.drop_drop, List.drop_left]
    rw [e]; exact this
  · have h2 : xs.length + sp.length = c * i.size := by rw [← List.length_append]; exact hc
    have h3 : n * i.size + m * i.size ≤ c * i.size := by rw [← Nat.add_mul]; exact Nat.mul_le_mul_right _ hroom
    rw [List.length_append, List.length_append, List.length_drop]; omega
/-- clear behind a row's elements -/
theorem clear_row (H : Kd P T E k bytes z) (ty : TypeId) {g n c : Nat} {xs : List Value} (R : Rw w E k g n c xs) (m cc : Nat) (hm : 0 < m) (hroom : n + m ≤ c) :
    ∃ w', (Builtin.clear_ #[T] ty #[.slice (some ⟨g, n * k, none⟩) m cc]).run P w = .ok (.tuple #[]) w' ∧ Rw w' E k g n c xs ∧ Chg (· = g) w w' := by
  obtain ⟨sp, hB, hx, hc, hnc, hcm⟩ := R.ex
  have h3 : n * k + m * k ≤ c * k := by rw [← Nat.add_mul]; exact Nat.mul_le_mul_right _ hroom
  have hr := run_clearK (P := P) w T ty E z k g (n * k) m cc (xs ++ sp) E H.und H.zero H.zs H.z1 hB hm H.k0 (by omega)
  have e : splice (xs ++ sp) (n * k) (Builtin.zeroCells z.cells m).toList = xs ++ ((Builtin.zeroCells z.cells m).toList ++ sp.drop (Builtin.zeroCells z.cells m).toList.length) := by
    rw [splice_def, ← hx, List.take_left, ← List.drop_drop, List.drop_left, List.append_assoc]
  have hl : ((Builtin.zeroCells z.cells m).toList).length = m * k := by rw [Array.length_toList, size_zeroCells, H.zs]
  refine ⟨_, hr, ⟨_, by rw [e]; exact hB.row _, hx, ?_, hnc, hcm⟩, (Chg.refl (· = g) w).row (g := g) (.inl rfl) _⟩
  rw [List.length_append] at hc ⊢
  rw [List.length_append, List.length_drop, hl]
  omega
end
end Pg
end Go.Proofs.Ytjnjkgakdnjlmaa

namespace Go.Proofs.Ytjnjkgakdnjlmaa
namespace Pg
open Go.RowKit Go.Lib
theorem KE : Kd Try.prog 66 65 2 48 (.agg #[.slice none 0 0, .slice none 0 0]) := ⟨by kernel_rfl, by kernel_rfl, rfl, by simp [Value.cells, Value.oneCell'], by decide⟩
theorem KP : Kd Try.prog 59 66 1 24 (.slice none 0 0) := ⟨by kernel_rfl, by kernel_rfl, rfl, by simp [Value.cells, Value.oneCell'], by decide⟩
theorem under_int : Try.prog.underlying 3 = some (.int .i64) := by kernel_rfl
theorem mixed : Try.prog.follows .mixedOrders = true := by kernel_rfl

section
variable {w : World} {b n c i vb : Nat} {xs : List Value} {e1 e2 : Value}
set_option maxHeartbeats 1000000 in
set_option maxRecDepth 100000 in
theorem insE_end (R : Rw w 65 2 b n c xs) (hV : Blk w vb [e1, e2] 65) (hn : n ≤ 1000000000) (h2 : ∀ v ∈ [e1, e2], v.oneCell' = true) :
    Calls Try.prog 46 #[.slice (some ⟨b, 0, none⟩) n c, .int .i64 n, .slice (some ⟨vb, 0, none⟩) 1 1] w fun e w' => ∃ b' c', e = .returned (.slice (some ⟨b', 0, none⟩) (n + 1) c') ∧ (b' = b ∨ w.heap.size ≤ b') ∧ Rw w' 65 2 b' (n + 1) c' (xs ++ [e1, e2]) ∧ Chg (· = b) w w' := by
  obtain ⟨b', c', W, hr, hb', hR, hC⟩ := app_row KE 66 R ⟨vb, 0, none⟩ 1 1 [e1, e2] rfl (fun j u hj => by rw [Addr.add_lit, Nat.zero_add]; exact hV.cell hj) h2 (by omega) (by omega)
  have hcm := R.le
  simp only [maxLen] at hcm
  have hcm1 := hcm.1
  have hcm2 := hcm.2
  clear hcm R hV h2
  go_enter Try.func46, Try.ntmps46
  go_wp2_with (at_builtin; refine Lib.wpList_append_run _ rfl _ _ _ _ rfl _ _ rfl rfl _ _ hr ?_)
  all_goals (
    go_ret
    exact ⟨b', c', rfl, hb'.imp id (fun e => by omega), hR, hC⟩)
set_option maxHeartbeats 1000000 in
set_option maxRecDepth 100000 in
theorem insE_nil (hV : Blk w vb [e1, e2] 65) :
    Calls Try.prog 46 #[.slice none 0 0, .int .i64 0, .slice (some ⟨vb, 0, none⟩) 1 1] w fun e w' => ∃ c', e = .returned (.slice (some ⟨w.heap.size, 0, none⟩) 1 c') ∧ Rw w' 65 2 w.heap.size 1 c' [e1, e2] ∧ Below w.heap.size w w' := by
  obtain ⟨c', W, hr, hR, hC⟩ := app_nil (w := w) KE 66 ⟨vb, 0, none⟩ 1 1 [e1, e2] rfl (fun j u hj => by rw [Addr.add_lit, Nat.zero_add]; exact hV.cell hj) (by decide) (by decide) (by decide)
  clear hV
  go_enter Try.func46, Try.ntmps46
  go_wp2_with (at_builtin; refine Lib.wpList_append_run _ rfl _ _ _ _ rfl _ _ rfl rfl _ _ hr ?_)
  go_ret
  exact ⟨c', rfl, hR, hC⟩
set_option maxHeartbeats 1000000 in
set_option maxRecDepth 100000 in
theorem insE_shift (R : Rw w 65 2 b n c xs) (hV : Blk w vb [e1, e2] 65) (hvb : vb ≠ b) (hi : i < n) (hroom : n + 1 ≤ c) (h1 : ∀ v ∈ xs, v.oneCell' = true) (h2 : ∀ v ∈ [e1, e2], v.oneCell' = true) :
    Calls Try.prog 46 #[.slice (some ⟨b, 0, none⟩) n c, .int .i64 i, .slice (some ⟨vb, 0, none⟩) 1 1] w fun e w' => e = .returned (.slice (some ⟨b, 0, none⟩) (n + 1) c) ∧ Rw w' 65 2 b (n + 1) c (xs.take (i * 2) ++ [e1, e2] ++ xs.drop (i * 2)) ∧ Chg (· = b) w w' := by
  have hx := R.len
  have hcm := R.le
  simp only [maxLen] at hcm
  have hcm1 := hcm.1
  have hcm2 := hcm.2
  have hcd : ∃ cs, Blk w b cs 65 ∧ cs.length = c * 2 := by
    obtain ⟨sp, h, _, h', _⟩ := R.ex
    exact ⟨_, h, h'⟩
  have hov : ∀ (lb cb : Nat), (callFunc 58 #[.slice (some ⟨vb, 0, none⟩) 1 1, .slice (some ⟨b, (i + 1) * 2, none⟩) lb cb]).run Try.prog w = .ok (.value (.bool false)) w := fun lb cb => by
    obtain ⟨cs, h, hl⟩ := hcd
    rw [run_callFunc_extern Try.func58 (by kernel_rfl) (by kernel_rfl) (by kernel_rfl) (e := Extern.SlicesOverlaps.overlaps #[66, 66] #[4]) (by kernel_rfl),
      Lib.run_overlaps_apart w 66 4 65 KE.und 2 KE.sizeOf ⟨vb, 0, none⟩ ⟨b, (i + 1) * 2, none⟩ 1 1 lb cb hvb 65 65 2 (c * 2) (by simp [World.shape?, hV.blk]) (by simp [World.shape?, h.blk]; simpa using hl) (by omega) (hV.free _) (hV.free _)]
    rfl
  have hdl : (xs.drop (i * 2)).length = (n - i) * 2 := by rw [List.length_drop, hx]; omega
  obtain ⟨s, hs, R'⟩ := R.drew.more (m := 1) hroom
  obtain ⟨W1, hr1, R1, C1⟩ := copy_row (w := w.drew) KE 3 R' ((i + 1) * 2) (n - i) (c - (i + 1)) ⟨b, i * 2, none⟩ (n + 1 - i) (c - i) (xs.drop (i * 2)) (n - i) (by simp only [Nat.min_def]; split <;> omega) hdl
    (fun j v hj => by
      rw [List.getElem?_drop] at hj
      rw [Addr.add_lit]
      exact R.cell (w := w) (by simpa using hj)) (by rw [hdl, R'.len]; omega) (fun v hv => h1 v (List.mem_of_mem_drop hv))
  have hV1 : Blk W1 vb [e1, e2] 65 := hV.drew.chg C1 hvb
  obtain ⟨W2, hr2, R2, C2⟩ := copy_row (w := W1) KE 3 R1 (i * 2) (n + 1 - i) (c - i) ⟨vb, 0, none⟩ 1 1 [e1, e2] 1 (by simp only [Nat.min_def]; split <;> omega) rfl
    (fun j v hj => by rw [Addr.add_lit, Nat.zero_add]; exact hV1.cell hj) (by rw [R1.len]; simp; omega) h2
  have hfin : splice (splice (xs ++ s) ((i + 1) * 2) (xs.drop (i * 2))) (i * 2) [e1, e2] = xs.take (i * 2) ++ [e1, e2] ++ xs.drop (i * 2) := by
    have h := shift_eq xs s [e1, e2] (i * 2) (by omega) (by simp [hs])
    have q0 : s.drop ([e1, e2] : List Value).length = [] := List.drop_of_length_le (by simp [hs])
    rw [q0, List.append_nil] at h
    simpa [Nat.add_mul] using h
  have R3 := R2.to hfin
  have C3 : Chg (· = b) w W2 := ((Chg.refl _ w).drew.trans C1 (fun _ _ h => h)).trans C2 (fun _ _ h => h)
  have hz2 : ¬ ((i : Int) = (n : Int)) := by omega
  have hw1 : IntKind.i64.wrap ((i : Int) + 1) = (i : Int) + 1 := by rw [IntKind.wrap_i64]; omega
  have hb1 : (0 : Int) ≤ (i : Int) + 1 := by omega
  have hin : i ≤ n := by omega
  have htn : ((i : Int) + 1).toNat = i + 1 := by omega
  have hb2 : ¬ (c = i + 1) := by omega
  have hb3 : (i : Int) ≤ (n : Int) + 1 := by omega
  have hb4 : ¬ (c = i) := by omega
  clear hcm R hcd R' R1 R2 C1 C2 hfin hV hV1 hs hdl h1 h2
  have mixed := mixed
  go_enter Try.func46, Try.ntmps46
  go_wp2_with (simp only [hov])
  go_region
  go_wp2
  go_ret
  exact ⟨rfl, R3, C3⟩
set_option maxHeartbeats 1000000 in
set_option maxRecDepth 100000 in
theorem insE_grow (R : Rw w 65 2 b n c xs) (hV : Blk w vb [e1, e2] 65) (hi : i < n) (hroom : c < n + 1) (hn : n ≤ 1000000000) (h1 : ∀ v ∈ xs, v.oneCell' = true) (h2 : ∀ v ∈ [e1, e2], v.oneCell' = true) :
    Calls Try.prog 46 #[.slice (some ⟨b, 0, none⟩) n c, .int .i64 i, .slice (some ⟨vb, 0, none⟩) 1 1] w fun e w' => ∃ c', e = .returned (.slice (some ⟨w.heap.size, 0, none⟩) (n + 1) c') ∧ Rw w' 65 2 w.heap.size (n + 1) c' (xs.take (i * 2) ++ [e1, e2] ++ xs.drop (i * 2)) ∧ Below w.heap.size w w' := by
  have hx := R.len
  have hcm := R.le
  simp only [maxLen] at hcm
  have hcm1 := hcm.1
  have hcm2 := hcm.2
  have hblt := R.lt
  have hvlt := hV.lt
  obtain ⟨c', W1, hr1, R1, B1⟩ := app_zeros KE 3 66 under_int (R.front (m := i) (by omega)) (n + 1 - i) (by omega) (by omega) (by omega) (by omega)
  rw [show ((n + 1 - i : Nat) : Int) = (n : Int) + 1 - (i : Int) by omega, show i + (n + 1 - i) = n + 1 by omega] at hr1
  rw [show i + (n + 1 - i) = n + 1 by omega] at R1
  have hcx := R1.le
  simp only [maxLen] at hcx
  have hcx1 := hcx.1
  have hcx2 := hcx.2
  have hV1 : Blk W1 vb [e1, e2] 65 := hV.keep B1
  obtain ⟨W2, hr2, R2, C2⟩ := copy_row (w := W1) KE 3 R1 (i * 2) (n + 1 - i) (c' - i) ⟨vb, 0, none⟩ 1 1 [e1, e2] 1 (by simp only [Nat.min_def]; split <;> omega) rfl
    (fun j v hj => by rw [Addr.add_lit, Nat.zero_add]; exact hV1.cell hj) (by rw [R1.len]; simp; omega) h2
  have hdl : (xs.drop (i * 2)).length = (n - i) * 2 := by rw [List.length_drop, hx]; omega
  have Rb : Rw W2.drew 65 2 b n c xs := ((R.keep B1).chg C2 (by show ¬ b = w.heap.size; omega)).drew
  obtain ⟨W3, hr3, R3, C3⟩ := copy_row (w := W2.drew) KE 3 R2.drew ((i + 1) * 2) (n - i) (c' - (i + 1)) ⟨b, i * 2, none⟩ (n - i) (c - i) (xs.drop (i * 2)) (n - i) (by simp) hdl
    (fun j v hj => by
      rw [List.getElem?_drop] at hj
      rw [Addr.add_lit]
      exact Rb.cell (by simpa using hj)) (by rw [hdl, R2.len]; omega) (fun v hv => h1 v (List.mem_of_mem_drop hv))
  have hfin : splice (splice (xs.take (i * 2) ++ (Builtin.zeroCells (.agg #[.slice none 0 0, .slice none 0 0] : Value).cells (n + 1 - i)).toList) (i * 2) [e1, e2]) ((i + 1) * 2) (xs.drop (i * 2)) = xs.take (i * 2) ++ [e1, e2] ++ xs.drop (i * 2) := by
    have hA : (xs.take (i * 2)).length = i * 2 := by rw [List.length_take, hx]; omega
    generalize hZ : (Builtin.zeroCells (.agg #[.slice none 0 0, .slice none 0 0] : Value).cells (n + 1 - i)).toList = Z
    have hZl : Z.length = (n + 1 - i) * 2 := by rw [← hZ, Array.length_toList, size_zeroCells]; rfl
    have q1 : xs.take (i * 2) ++ Z = xs.take (i * 2) ++ Z.take 2 ++ Z.drop 2 := by rw [List.append_assoc, List.take_append_drop]
    rw [q1, splice_at _ (Z.take 2) [e1, e2] _ _ hA (by rw [List.length_take]; simp; omega)]
    have q2 := splice_at (xs.take (i * 2) ++ [e1, e2]) (Z.drop 2) (xs.drop (i * 2)) [] ((i + 1) * 2) (by rw [List.length_append, hA]; simp <;> omega) (by rw [List.length_drop, hZl, hdl]; omega)
    simpa using q2
  have R4 := R3.to hfin
  have hBl : Below w.heap.size w W3 := by
    have k2 : Below w.heap.size W1 W2 := C2.below (fun b hb => by omega) (B1.size)
    have k3 : Below w.heap.size W2.drew W3 := C3.below (fun b hb => by omega) (by have := B1.size; have := C2.size; show w.heap.size ≤ W2.heap.size; omega)
    exact (B1.trans k2).trans ((⟨rfl, rfl, rfl, Nat.le_refl _, fun _ _ => rfl⟩ : Below w.heap.size W2 W2.drew).trans k3)
  have hz2 : ¬ ((i : Int) = (n : Int)) := by omega
  have hw1 : IntKind.i64.wrap ((i : Int) + 1) = (i : Int) + 1 := by rw [IntKind.wrap_i64]; omega
  have hb1 : (0 : Int) ≤ (i : Int) + 1 := by omega
  have hin : i ≤ n := by omega
  have htn : ((i : Int) + 1).toNat = i + 1 := by omega
  have hb2 : ¬ (c' = i + 1) := by omega
  have hb2' : i + 1 ≤ n + 1 := by omega
  have hb3 : (i : Int) ≤ (n : Int) + 1 := by omega
  have hb4 : ¬ (c' = i) := by omega
  have hb5 : ¬ (c = i) := by omega
  clear hcm hcx R R1 R2 R3 Rb C2 C3 B1 hfin hV hV1 hdl h1 h2
  have mixed := mixed
  go_enter Try.func46, Try.ntmps46
  go_wp2_with (at_builtin; refine Lib.wpList_append_run _ rfl _ _ _ _ rfl _ _ rfl rfl _ _ hr1 ?_)
  go_region
  go_wp2
  go_ret
  exact ⟨c', rfl, R4, hBl⟩
/-- slices.Insert of one element -/
theorem insE (R : Rw w 65 2 b n c xs) (hV : Blk w vb [e1, e2] 65) (hvb : vb ≠ b) (hi : i ≤ n) (hn : n ≤ 1000000000) (h1 : ∀ v ∈ xs, v.oneCell' = true) (h2 : ∀ v ∈ [e1, e2], v.oneCell' = true) :
    Calls Try.prog 46 #[.slice (some ⟨b, 0, none⟩) n c, .int .i64 i, .slice (some ⟨vb, 0, none⟩) 1 1] w fun e w' => ∃ b' c', e = .returned (.slice (some ⟨b', 0, none⟩) (n + 1) c') ∧ (b' = b ∨ w.heap.size ≤ b') ∧ Rw w' 65 2 b' (n + 1) c' (xs.take (i * 2) ++ [e1, e2] ++ xs.drop (i * 2)) ∧ Chg (· = b) w w' := by
  by_cases h : i = n
  · subst h
    refine (insE_end R hV hn h2).mono ?_
    rintro e w' ⟨b', c', rfl, hb, hR, hC⟩
    exact ⟨b', c', rfl, hb, hR.to (by rw [List.take_of_length_le (by rw [R.len]; omega), List.drop_of_length_le (by rw [R.len]; omega), List.append_nil]), hC⟩
  · by_cases hr : n + 1 ≤ c
    · refine (insE_shift R hV hvb (by omega) hr h1 h2).mono ?_
      rintro e w' ⟨rfl, hR, hC⟩
      exact ⟨b, c, rfl, .inl rfl, hR, hC⟩
    · refine (insE_grow R hV (by omega) (by omega) hn h1 h2).mono ?_
      rintro e w' ⟨c', rfl, hR, hC⟩
      exact ⟨_, c', rfl, .inr (Nat.le_refl _), hR, Chg.of hC⟩
end

section
variable {w : World} {b n c i vb : Nat} {xs : List Value} {e1 : Value}
set_option maxHeartbeats 1000000 in
set_option maxRecDepth 100000 in
theorem insP_end (R : Rw w 66 1 b n c xs) (hV : Blk w vb [e1] 66) (hn : n ≤ 1000000000) (h2 : ∀ v ∈ [e1], v.oneCell' = true) :
    Calls Try.prog 60 #[.slice (some ⟨b, 0, none⟩) n c, .int .i64 n, .slice (some ⟨vb, 0, none⟩) 1 1] w fun e w' => ∃ b' c', e = .returned (.slice (some ⟨b', 0, none⟩) (n + 1) c') ∧ (b' = b ∨ w.heap.size ≤ b') ∧ Rw w' 66 1 b' (n + 1) c' (xs ++ [e1]) ∧ Chg (· = b) w w' := by
  obtain ⟨b', c', W, hr, hb', hR, hC⟩ := app_row KP 59 R ⟨vb, 0, none⟩ 1 1 [e1] rfl (fun j u hj => by rw [Addr.add_lit, Nat.zero_add]; exact hV.cell hj) h2 (by omega) (by omega)
  have hcm := R.le
  simp only [maxLen] at hcm
  have hcm1 := hcm.1
  have hcm2 := hcm.2
  clear hcm R hV h2
  go_enter Try.func60, Try.ntmps60
  go_wp2_with (at_builtin; refine Lib.wpList_append_run _ rfl _ _ _ _ rfl _ _ rfl rfl _ _ hr ?_)
  all_goals (
    go_ret
    exact ⟨b', c', rfl, hb'.imp id (fun e => by omega), hR, hC⟩)
set_option maxHeartbeats 1000000 in
set_option maxRecDepth 100000 in
theorem insP_nil (hV : Blk w vb [e1] 66) :
    Calls Try.prog 60 #[.slice none 0 0, .int .i64 0, .slice (some ⟨vb, 0, none⟩) 1 1] w fun e w' => ∃ c', e = .returned (.slice (some ⟨w.heap.size, 0, none⟩) 1 c') ∧ Rw w' 66 1 w.heap.size 1 c' [e1] ∧ Below w.heap.size w w' := by
  obtain ⟨c', W, hr, hR, hC⟩ := app_nil (w := w) KP 59 ⟨vb, 0, none⟩ 1 1 [e1] rfl (fun j u hj => by rw [Addr.add_lit, Nat.zero_add]; exact hV.cell hj) (by decide) (by decide) (by decide)
  clear hV
  go_enter Try.func60, Try.ntmps60
  go_wp2_with (at_builtin; refine Lib.wpList_append_run _ rfl _ _ _ _ rfl _ _ rfl rfl _ _ hr ?_)
  go_ret
  exact ⟨c', rfl, hR, hC⟩
set_option maxHeartbeats 1000000 in
set_option maxRecDepth 100000 in
theorem insP_shift (R : Rw w 66 1 b n c xs) (hV : Blk w vb [e1] 66) (hvb : vb ≠ b) (hi : i < n) (hroom : n + 1 ≤ c) (h1 : ∀ v ∈ xs, v.oneCell' = true) (h2 : ∀ v ∈ [e1], v.oneCell' = true) :
    Calls Try.prog 60 #[.slice (some ⟨b, 0, none⟩) n c, .int .i64 i, .slice (some ⟨vb, 0, none⟩) 1 1] w fun e w' => e = .returned (.slice (some ⟨b, 0, none⟩) (n + 1) c) ∧ Rw w' 66 1 b (n + 1) c (xs.take (i * 1) ++ [e1] ++ xs.drop (i * 1)) ∧ Chg (· = b) w w' := by
  have hx := R.len
  have hcm := R.le
  simp only [maxLen] at hcm
  have hcm1 := hcm.1
  have hcm2 := hcm.2
  have hcd : ∃ cs, Blk w b cs 66 ∧ cs.length = c * 1 := by
    obtain ⟨sp, h, _, h', _⟩ := R.ex
    exact ⟨_, h, h'⟩
  have hov : ∀ (lb cb : Nat), (callFunc 71 #[.slice (some ⟨vb, 0, none⟩) 1 1, .slice (some ⟨b, i + 1, none⟩) lb cb]).run Try.prog w = .ok (.value (.bool false)) w := fun lb cb => by
    obtain ⟨cs, h, hl⟩ := hcd
    rw [run_callFunc_extern Try.func71 (by kernel_rfl) (by kernel_rfl) (by kernel_rfl) (e := Extern.SlicesOverlaps.overlaps #[59, 59] #[4]) (by kernel_rfl),
      Lib.run_overlaps_apart w 59 4 66 KP.und 1 KP.sizeOf ⟨vb, 0, none⟩ ⟨b, i + 1, none⟩ 1 1 lb cb hvb 66 66 1 (c * 1) (by simp [World.shape?, hV.blk]) (by simp [World.shape?, h.blk]; simpa using hl) (by omega) (hV.free _) (hV.free _)]
    rfl
  have hdl : (xs.drop (i * 1)).length = (n - i) * 1 := by rw [List.length_drop, hx]; omega
  obtain ⟨s, hs, R'⟩ := R.drew.more (m := 1) hroom
  obtain ⟨W1, hr1, R1, C1⟩ := copy_row (w := w.drew) KP 3 R' (i + 1) (n - i) (c - (i + 1)) ⟨b, i, none⟩ (n + 1 - i) (c - i) (xs.drop (i * 1)) (n - i) (by simp only [Nat.min_def]; split <;> omega) hdl
    (fun j v hj => by
      rw [List.getElem?_drop] at hj
      rw [Addr.add_lit]
      exact R.cell (w := w) (by simpa using hj)) (by rw [hdl, R'.len]; omega) (fun v hv => h1 v (List.mem_of_mem_drop hv))
  have hV1 : Blk W1 vb [e1] 66 := hV.drew.chg C1 hvb
  obtain ⟨W2, hr2, R2, C2⟩ := copy_row (w := W1) KP 3 R1 (i) (n + 1 - i) (c - i) ⟨vb, 0, none⟩ 1 1 [e1] 1 (by simp only [Nat.min_def]; split <;> omega) rfl
    (fun j v hj => by rw [Addr.add_lit, Nat.zero_add]; exact hV1.cell hj) (by rw [R1.len]; simp; omega) h2
  have hfin : splice (splice (xs ++ s) (i + 1) (xs.drop (i * 1))) (i) [e1] = xs.take (i * 1) ++ [e1] ++ xs.drop (i * 1) := by
    have h := shift_eq xs s [e1] (i * 1) (by omega) (by simp [hs])
    have q0 : s.drop ([e1] : List Value).length = [] := List.drop_of_length_le (by simp [hs])
    rw [q0, List.append_nil] at h
    simpa [Nat.add_mul] using h
  have R3 := R2.to hfin
  have C3 : Chg (· = b) w W2 := ((Chg.refl _ w).drew.trans C1 (fun _ _ h => h)).trans C2 (fun _ _ h => h)
  have hz2 : ¬ ((i : Int) = (n : Int)) := by omega
  have hw1 : IntKind.i64.wrap ((i : Int) + 1) = (i : Int) + 1 := by rw [IntKind.wrap_i64]; omega
  have hb1 : (0 : Int) ≤ (i : Int) + 1 := by omega
  have hin : i ≤ n := by omega
  have htn : ((i : Int) + 1).toNat = i + 1 := by omega
  have hb2 : ¬ (c = i + 1) := by omega
  have hb3 : (i : Int) ≤ (n : Int) + 1 := by omega
  have hb4 : ¬ (c = i) := by omega
  clear hcm R hcd R' R1 R2 C1 C2 hfin hV hV1 hs hdl h1 h2
  have mixed := mixed
  go_enter Try.func60, Try.ntmps60
  go_wp2_with (simp only [hov])
  go_region
  go_wp2
  go_ret
  exact ⟨rfl, R3, C3⟩
set_option maxHeartbeats 1000000 in
set_option maxRecDepth 100000 in
theorem insP_grow (R : Rw w 66 1 b n c xs) (hV : Blk w vb [e1] 66) (hi : i < n) (hroom : c < n + 1) (hn : n ≤ 1000000000) (h1 : ∀ v ∈ xs, v.oneCell' = true) (h2 : ∀ v ∈ [e1], v.oneCell' = true) :
    Calls Try.prog 60 #[.slice (some ⟨b, 0, none⟩) n c, .int .i64 i, .slice (some ⟨vb, 0, none⟩) 1 1] w fun e w' => ∃ c', e = .returned (.slice (some ⟨w.heap.size, 0, none⟩) (n + 1) c') ∧ Rw w' 66 1 w.heap.size (n + 1) c' (xs.take (i * 1) ++ [e1] ++ xs.drop (i * 1)) ∧ Below w.heap.size w w' := by
  have hx := R.len
  have hcm := R.le
  simp only [maxLen] at hcm
  have hcm1 := hcm.1
  have hcm2 := hcm.2
  have hblt := R.lt
  have hvlt := hV.lt
  obtain ⟨c', W1, hr1, R1, B1⟩ := app_zeros KP 3 59 under_int (R.front (m := i) (by omega)) (n + 1 - i) (by omega) (by omega) (by omega) (by omega)
  rw [show ((n + 1 - i : Nat) : Int) = (n : Int) + 1 - (i : Int) by omega, show i + (n + 1 - i) = n + 1 by omega] at hr1
  rw [show i + (n + 1 - i) = n + 1 by omega] at R1
  have hcx := R1.le
  simp only [maxLen] at hcx
  have hcx1 := hcx.1
  have hcx2 := hcx.2
  have hV1 : Blk W1 vb [e1] 66 := hV.keep B1
  obtain ⟨W2, hr2, R2, C2⟩ := copy_row (w := W1) KP 3 R1 (i) (n + 1 - i) (c' - i) ⟨vb, 0, none⟩ 1 1 [e1] 1 (by simp only [Nat.min_def]; split <;> omega) rfl
    (fun j v hj => by rw [Addr.add_lit, Nat.zero_add]; exact hV1.cell hj) (by rw [R1.len]; simp; omega) h2
  have hdl : (xs.drop (i * 1)).length = (n - i) * 1 := by rw [List.length_drop, hx]; omega
  have Rb : Rw W2.drew 66 1 b n c xs := ((R.keep B1).chg C2 (by show ¬ b = w.heap.size; omega)).drew
  obtain ⟨W3, hr3, R3, C3⟩ := copy_row (w := W2.drew) KP 3 R2.drew (i + 1) (n - i) (c' - (i + 1)) ⟨b, i, none⟩ (n - i) (c - i) (xs.drop (i * 1)) (n - i) (by simp) hdl
    (fun j v hj => by
      rw [List.getElem?_drop] at hj
      rw [Addr.add_lit]
      exact Rb.cell (by simpa using hj)) (by rw [hdl, R2.len]; omega) (fun v hv => h1 v (List.mem_of_mem_drop hv))
  have hfin : splice (splice (xs.take (i * 1) ++ (Builtin.zeroCells (.slice none 0 0 : Value).cells (n + 1 - i)).toList) (i) [e1]) (i + 1) (xs.drop (i * 1)) = xs.take (i * 1) ++ [e1] ++ xs.drop (i * 1) := by
    have hA : (xs.take (i * 1)).length = i := by rw [List.length_take, hx]; omega
    generalize hZ : (Builtin.zeroCells (.slice none 0 0 : Value).cells (n + 1 - i)).toList = Z
    have hZl : Z.length = (n + 1 - i) * 1 := by rw [← hZ, Array.length_toList, size_zeroCells]; rfl
    have q1 : xs.take (i * 1) ++ Z = xs.take (i * 1) ++ Z.take 1 ++ Z.drop 1 := by rw [List.append_assoc, List.take_append_drop]
    rw [q1, splice_at _ (Z.take 1) [e1] _ _ hA (by rw [List.length_take]; simp; omega)]
    have q2 := splice_at (xs.take (i * 1) ++ [e1]) (Z.drop 1) (xs.drop (i * 1)) [] (i + 1) (by rw [List.length_append, hA]; simp <;> omega) (by rw [List.length_drop, hZl, hdl]; omega)
    simpa using q2
  have R4 := R3.to hfin
  have hBl : Below w.heap.size w W3 := by
    have k2 : Below w.heap.size W1 W2 := C2.below (fun b hb => by omega) (B1.size)
    have k3 : Below w.heap.size W2.drew W3 := C3.below (fun b hb => by omega) (by have := B1.size; have := C2.size; show w.heap.size ≤ W2.heap.size; omega)
    exact (B1.trans k2).trans ((⟨rfl, rfl, rfl, Nat.le_refl _, fun _ _ => rfl⟩ : Below w.heap.size W2 W2.drew).trans k3)
  have hz2 : ¬ ((i : Int) = (n : Int)) := by omega
  have hw1 : IntKind.i64.wrap ((i : Int) + 1) = (i : Int) + 1 := by rw [IntKind.wrap_i64]; omega
  have hb1 : (0 : Int) ≤ (i : Int) + 1 := by omega
  have hin : i ≤ n := by omega
  have htn : ((i : Int) + 1).toNat = i + 1 := by omega
  have hb2 : ¬ (c' = i + 1) := by omega
  have hb2' : i + 1 ≤ n + 1 := by omega
  have hb3 : (i : Int) ≤ (n : Int) + 1 := by omega
  have hb4 : ¬ (c' = i) := by omega
  have hb5 : ¬ (c = i) := by omega
  clear hcm hcx R R1 R2 R3 Rb C2 C3 B1 hfin hV hV1 hdl h1 h2
  have mixed := mixed
  go_enter Try.func60, Try.ntmps60
  go_wp2_with (at_builtin; refine Lib.wpList_append_run _ rfl _ _ _ _ rfl _ _ rfl rfl _ _ hr1 ?_)
  go_region
  go_wp2
  go_ret
  exact ⟨c', rfl, R4, hBl⟩
/-- slices.Insert of one element -/
theorem insP (R : Rw w 66 1 b n c xs) (hV : Blk w vb [e1] 66) (hvb : vb ≠ b) (hi : i ≤ n) (hn : n ≤ 1000000000) (h1 : ∀ v ∈ xs, v.oneCell' = true) (h2 : ∀ v ∈ [e1], v.oneCell' = true) :
    Calls Try.prog 60 #[.slice (some ⟨b, 0, none⟩) n c, .int .i64 i, .slice (some ⟨vb, 0, none⟩) 1 1] w fun e w' => ∃ b' c', e = .returned (.slice (some ⟨b', 0, none⟩) (n + 1) c') ∧ (b' = b ∨ w.heap.size ≤ b') ∧ Rw w' 66 1 b' (n + 1) c' (xs.take (i * 1) ++ [e1] ++ xs.drop (i * 1)) ∧ Chg (· = b) w w' := by
  by_cases h : i = n
  · subst h
    refine (insP_end R hV hn h2).mono ?_
    rintro e w' ⟨b', c', rfl, hb, hR, hC⟩
    exact ⟨b', c', rfl, hb, hR.to (by rw [List.take_of_length_le (by rw [R.len]; omega), List.drop_of_length_le (by rw [R.len]; omega), List.append_nil]), hC⟩
  · by_cases hr : n + 1 ≤ c
    · refine (insP_shift R hV hvb (by omega) hr h1 h2).mono ?_
      rintro e w' ⟨rfl, hR, hC⟩
      exact ⟨b, c, rfl, .inl rfl, hR, hC⟩
    · refine (insP_grow R hV (by omega) (by omega) hn h1 h2).mono ?_
      rintro e w' ⟨c', rfl, hR, hC⟩
      exact ⟨_, c', rfl, .inr (Nat.le_refl _), hR, Chg.of hC⟩
end
end Pg
end Go.Proofs.Ytjnjkgakdnjlmaa

namespace Go.Proofs.Ytjnjkgakdnjlmaa
namespace Pg
open Go.RowKit Go.Lib

section
variable {w : World} {b n c i : Nat} {xs : List Value}
set_option maxHeartbeats 1000000 in
set_option maxRecDepth 100000 in
theorem delE_mid (R : Rw w 65 2 b n c xs) (hi : i < n) (hne : c ≠ i + 1) (h1 : ∀ v ∈ xs, v.oneCell' = true) :
    Calls Try.prog 48 #[.slice (some ⟨b, 0, none⟩) n c, .int .i64 i, .int .i64 (i + 1)] w fun e w' => e = .returned (.slice (some ⟨b, 0, none⟩) (n - 1) c) ∧ Rw w' 65 2 b (n - 1) c (xs.take (i * 2) ++ xs.drop ((i + 1) * 2)) ∧ Chg (· = b) w w' := by
  have hx := R.len
  have hcm := R.le
  simp only [maxLen] at hcm
  have hcm1 := hcm.1
  have hcm2 := hcm.2
  have hdl : (xs.drop ((i + 1) * 2)).length = (n - (i + 1)) * 2 := by rw [List.length_drop, hx]; omega
  obtain ⟨W1, hr1, R1, C1⟩ := app_room KE 66 (R.drew.front (m := i) (by omega)) ⟨b, (i + 1) * 2, none⟩ (n - (i + 1)) (c - (i + 1)) (xs.drop ((i + 1) * 2)) hdl
    (fun j v hj => by
      rw [List.getElem?_drop] at hj
      rw [Addr.add_lit]
      exact R.drew.cell (by simpa using hj)) (fun v hv => h1 v (List.mem_of_mem_drop hv)) (by omega)
  rw [show i + (n - (i + 1)) = n - 1 by omega] at R1
  obtain ⟨W2, hr2, R2, C2⟩ := clear_row KE 0 R1 (n - (n - 1)) (c - (n - 1)) (by omega) (by omega)
  have C3 : Chg (· = b) w W2 := ((Chg.refl _ w).drew.trans C1 (fun _ _ h => h)).trans C2 (fun _ _ h => h)
  obtain ⟨q, hq⟩ : ∃ q, n = i + 1 + q := ⟨n - (i + 1), by omega⟩
  subst hq
  rw [show i + 1 + q - (i + 1) = q by omega] at hr1
  rw [show i + 1 + q - 1 = i + q by omega] at hr2 R2 ⊢
  have hz2 : ¬ ((i : Int) = (i : Int) + 1) := by omega
  have hin : i ≤ i + 1 + q := by omega
  have hb2 : ¬ (c = i + 1) := hne
  have hb1 : (0 : Int) ≤ (i : Int) + 1 := by omega
  have hic : i ≤ c := by omega
  have htn : ((i : Int) + 1).toNat = i + 1 := by omega
  have hb6 : ¬ (c = i + q) := by omega
  have hb7 : (i : Int) + 1 ≤ ((i + 1 + q : Nat) : Int) := by omega
  have hb8 : i + 1 ≤ i + 1 + q := by omega
  have hb7b : (i : Int) + 1 ≤ (i : Int) + 1 + (q : Int) := by omega
  have hb9 : ((i + 1 + q : Nat) : Int) ≤ (c : Int) := by omega
  clear hcm R R1 C1 C2 hdl h1
  have mixed := mixed
  go_enter Try.func48, Try.ntmps48
  go_wp2
  go_region_law_o (refine step_app rfl (.tmp 22) (.tmp 25) 66 66 rfl _ _ (by simp [Act.eval, Act.put]) (by simp [Act.eval, Act.put]) hr1 ?_)
  go_wp2
  go_ret
  exact ⟨rfl, R2, C3⟩
set_option maxHeartbeats 1000000 in
set_option maxRecDepth 100000 in
theorem delE_last (R : Rw w 65 2 b (i + 1) (i + 1) xs) :
    Calls Try.prog 48 #[.slice (some ⟨b, 0, none⟩) (i + 1) (i + 1), .int .i64 i, .int .i64 (i + 1)] w fun e w' => e = .returned (.slice (some ⟨b, 0, none⟩) i (i + 1)) ∧ Rw w' 65 2 b i (i + 1) (xs.take (i * 2)) ∧ Chg (· = b) w w' := by
  have hcm := R.le
  simp only [maxLen] at hcm
  have hcm2 := hcm.2
  obtain ⟨W1, hr1, R1, C1⟩ := app_room KE 66 (R.drew.front (m := i) (by omega)) ⟨b, 0, none⟩ 0 0 [] (by simp) (fun j v hj => by simp at hj) (fun v hv => by simp at hv) (by omega)
  rw [Nat.add_zero] at R1 hr1
  rw [List.append_nil] at R1
  obtain ⟨W2, hr2, R2, C2⟩ := clear_row KE 0 R1 1 1 (by omega) (by omega)
  have C3 : Chg (· = b) w W2 := ((Chg.refl _ w).drew.trans C1 (fun _ _ h => h)).trans C2 (fun _ _ h => h)
  have hz2 : ¬ ((i : Int) = (i : Int) + 1) := by omega
  have hin : i ≤ i + 1 := by omega
  have hb1 : (0 : Int) ≤ (i : Int) + 1 := by omega
  have htn : ((i : Int) + 1).toNat = i + 1 := by omega
  have e1 : i + 1 - i = 1 := by omega
  have hii : (i : Int) ≤ (i : Int) + 1 := by omega
  clear hcm R R1 C1 C2
  have mixed := mixed
  go_enter Try.func48, Try.ntmps48
  go_wp2
  go_region_law_o (refine step_app rfl (.tmp 22) (.tmp 25) 66 66 rfl _ _ (by simp [Act.eval, Act.put]) (by simp [Act.eval, Act.put]) hr1 ?_)
  go_wp2
  go_ret
  exact ⟨rfl, R2, C3⟩
/-- slices.Delete of one element -/
theorem delE (R : Rw w 65 2 b n c xs) (hi : i < n) (h1 : ∀ v ∈ xs, v.oneCell' = true) :
    Calls Try.prog 48 #[.slice (some ⟨b, 0, none⟩) n c, .int .i64 i, .int .i64 (i + 1)] w fun e w' => e = .returned (.slice (some ⟨b, 0, none⟩) (n - 1) c) ∧ Rw w' 65 2 b (n - 1) c (xs.take (i * 2) ++ xs.drop ((i + 1) * 2)) ∧ Chg (· = b) w w' := by
  by_cases h : c = i + 1
  · have hl := R.le
    obtain rfl : n = i + 1 := by omega
    subst h
    refine (delE_last R).mono ?_
    rintro e w' ⟨rfl, hR, hC⟩
    exact ⟨by simp, hR.to (by rw [List.drop_of_length_le (by rw [R.len]; omega), List.append_nil]), hC⟩
  · exact delE_mid R hi h h1
end

section
variable {w : World} {b n c i : Nat} {xs : List Value}
set_option maxHeartbeats 1000000 in
set_option maxRecDepth 100000 in
theorem delP_mid (R : Rw w 66 1 b n c xs) (hi : i < n) (hne : c ≠ i + 1) (h1 : ∀ v ∈ xs, v.oneCell' = true) :
    Calls Try.prog 49 #[.slice (some ⟨b, 0, none⟩) n c, .int .i64 i, .int .i64 (i + 1)] w fun e w' => e = .returned (.slice (some ⟨b, 0, none⟩) (n - 1) c) ∧ Rw w' 66 1 b (n - 1) c (xs.take (i * 1) ++ xs.drop ((i + 1) * 1)) ∧ Chg (· = b) w w' := by
  have hx := R.len
  have hcm := R.le
  simp only [maxLen] at hcm
  have hcm1 := hcm.1
  have hcm2 := hcm.2
  have hdl : (xs.drop ((i + 1) * 1)).length = (n - (i + 1)) * 1 := by rw [List.length_drop, hx]; omega
  obtain ⟨W1, hr1, R1, C1⟩ := app_room KP 59 (R.drew.front (m := i) (by omega)) ⟨b, i + 1, none⟩ (n - (i + 1)) (c - (i + 1)) (xs.drop ((i + 1) * 1)) hdl
    (fun j v hj => by
      rw [List.getElem?_drop] at hj
      rw [Addr.add_lit]
      exact R.drew.cell (by simpa using hj)) (fun v hv => h1 v (List.mem_of_mem_drop hv)) (by omega)
  rw [show i + (n - (i + 1)) = n - 1 by omega] at R1
  obtain ⟨W2, hr2, R2, C2⟩ := clear_row KP 0 R1 (n - (n - 1)) (c - (n - 1)) (by omega) (by omega)
  have C3 : Chg (· = b) w W2 := ((Chg.refl _ w).drew.trans C1 (fun _ _ h => h)).trans C2 (fun _ _ h => h)
  obtain ⟨q, hq⟩ : ∃ q, n = i + 1 + q := ⟨n - (i + 1), by omega⟩
  subst hq
  rw [show i + 1 + q - (i + 1) = q by omega] at hr1
  rw [show i + 1 + q - 1 = i + q by omega] at hr2 R2 ⊢
  simp only [Nat.mul_one] at hr2
  have hz2 : ¬ ((i : Int) = (i : Int) + 1) := by omega
  have hin : i ≤ i + 1 + q := by omega
  have hb2 : ¬ (c = i + 1) := hne
  have hb1 : (0 : Int) ≤ (i : Int) + 1 := by omega
  have hic : i ≤ c := by omega
  have htn : ((i : Int) + 1).toNat = i + 1 := by omega
  have hb6 : ¬ (c = i + q) := by omega
  have hb7 : (i : Int) + 1 ≤ ((i + 1 + q : Nat) : Int) := by omega
  have hb8 : i + 1 ≤ i + 1 + q := by omega
  have hb7b : (i : Int) + 1 ≤ (i : Int) + 1 + (q : Int) := by omega
  have hb9 : ((i + 1 + q : Nat) : Int) ≤ (c : Int) := by omega
  clear hcm R R1 C1 C2 hdl h1
  have mixed := mixed
  go_enter Try.func49, Try.ntmps49
  go_wp2
  go_region_law_o (refine step_app rfl (.tmp 22) (.tmp 25) 59 59 rfl _ _ (by simp [Act.eval, Act.put]) (by simp [Act.eval, Act.put]) hr1 ?_)
  go_wp2
  go_ret
  exact ⟨rfl, R2, C3⟩
set_option maxHeartbeats 1000000 in
set_option maxRecDepth 100000 in
theorem delP_last (R : Rw w 66 1 b (i + 1) (i + 1) xs) :
    Calls Try.prog 49 #[.slice (some ⟨b, 0, none⟩) (i + 1) (i + 1), .int .i64 i, .int .i64 (i + 1)] w fun e w' => e = .returned (.slice (some ⟨b, 0, none⟩) i (i + 1)) ∧ Rw w' 66 1 b i (i + 1) (xs.take (i * 1)) ∧ Chg (· = b) w w' := by
  have hcm := R.le
  simp only [maxLen] at hcm
  have hcm2 := hcm.2
  obtain ⟨W1, hr1, R1, C1⟩ := app_room KP 59 (R.drew.front (m := i) (by omega)) ⟨b, 0, none⟩ 0 0 [] (by simp) (fun j v hj => by simp at hj) (fun v hv => by simp at hv) (by omega)
  rw [Nat.add_zero] at R1 hr1
  rw [List.append_nil] at R1
  obtain ⟨W2, hr2, R2, C2⟩ := clear_row KP 0 R1 1 1 (by omega) (by omega)
  have C3 : Chg (· = b) w W2 := ((Chg.refl _ w).drew.trans C1 (fun _ _ h => h)).trans C2 (fun _ _ h => h)
  simp only [Nat.mul_one] at hr2
  have hz2 : ¬ ((i : Int) = (i : Int) + 1) := by omega
  have hin : i ≤ i + 1 := by omega
  have hb1 : (0 : Int) ≤ (i : Int) + 1 := by omega
  have htn : ((i : Int) + 1).toNat = i + 1 := by omega
  have e1 : i + 1 - i = 1 := by omega
  have hii : (i : Int) ≤ (i : Int) + 1 := by omega
  clear hcm R R1 C1 C2
  have mixed := mixed
  go_enter Try.func49, Try.ntmps49
  go_wp2
  go_region_law_o (refine step_app rfl (.tmp 22) (.tmp 25) 59 59 rfl _ _ (by simp [Act.eval, Act.put]) (by simp [Act.eval, Act.put]) hr1 ?_)
  go_wp2
  go_ret
  exact ⟨rfl, R2, C3⟩
/-- slices.Delete of one element -/
theorem delP (R : Rw w 66 1 b n c xs) (hi : i < n) (h1 : ∀ v ∈ xs, v.oneCell' = true) :
    Calls Try.prog 49 #[.slice (some ⟨b, 0, none⟩) n c, .int .i64 i, .int .i64 (i + 1)] w fun e w' => e = .returned (.slice (some ⟨b, 0, none⟩) (n - 1) c) ∧ Rw w' 66 1 b (n - 1) c (xs.take (i * 1) ++ xs.drop ((i + 1) * 1)) ∧ Chg (· = b) w w' := by
  by_cases h : c = i + 1
  · have hl := R.le
    obtain rfl : n = i + 1 := by omega
    subst h
    refine (delP_last R).mono ?_
    rintro e w' ⟨rfl, hR, hC⟩
    exact ⟨by simp, hR.to (by rw [List.drop_of_length_le (by rw [R.len]; omega), List.append_nil]), hC⟩
  · exact delP_mid R hi h h1
end
end Pg
end Go.Proofs.Ytjnjkgakdnjlmaa

namespace Go.Proofs.Ytjnjkgakdnjlmaa
namespace Pg
open Go.RowKit Go.Lib

def Oct (l : List Int) : Prop := ∀ x ∈ l, 0 ≤ x ∧ x < 256
/-- the slice v holds the bytes l -/
structure By (w : World) (v : Value) (l : List Int) : Prop where
  ex : ∃ ao c, v = .slice ao l.length c ∧ l.length ≤ c ∧ c ≤ 9223372036854775807 ∧ (ao = none → c = 0) ∧ Oct l ∧ (l = [] ∨ ∃ b o, ao = some ⟨b, o, none⟩ ∧ b < w.heap.size ∧ ∀ i x, l[i]? = some x → w.cell? ⟨b, o + i, none⟩ = some (.int .u8 x))
theorem By.keep {w w' : World} {v : Value} {l : List Int} (h : By w v l) (hb : Below w.heap.size w w') : By w' v l := by
  obtain ⟨ao, c, h1, h2, h3, h4, h5, h6⟩ := h.ex
  refine ⟨ao, c, h1, h2, h3, h4, h5, h6.imp id ?_⟩
  rintro ⟨b, o, e, hlt, hc⟩
  exact ⟨b, o, e, Nat.lt_of_lt_of_le hlt hb.size, fun i x hi => by rw [hb.cell (p := ⟨b, o + i, none⟩) hlt]; exact hc i x hi⟩
theorem By.drew {w : World} {v : Value} {l : List Int} (h : By w v l) : By w.drew v l := h.keep ⟨rfl, rfl, rfl, Nat.le_refl _, fun _ _ => rfl⟩
theorem By.oct {w : World} {v : Value} {l : List Int} (h : By w v l) : Oct l := by
  obtain ⟨ao, c, h1, h2, h3, h4, h5, h6⟩ := h.ex; exact h5
theorem By.nil (w : World) : By w (.slice none 0 0) [] := ⟨none, 0, rfl, by decide, by decide, fun _ => rfl, fun _ h => by simp at h, .inl rfl⟩
/-- v holds the bytes l in a block of its own, which is one of D -/
structure OB (w : World) (D : Nat → Prop) (v : Value) (l : List Int) : Prop where
  oct : Oct l
  ex : (v = .slice none 0 0 ∧ l = []) ∨ ∃ b c, v = .slice (some ⟨b, 0, none⟩) l.length c ∧ D b ∧ Rw w 5 1 b l.length c (l.map (Value.int .u8))
theorem OB.by {w : World} {D : Nat → Prop} {v : Value} {l : List Int} (h : OB w D v l) : By w v l := by
  rcases h.ex with ⟨rfl, rfl⟩ | ⟨b, c, rfl, hd, hR⟩
  · exact By.nil w
  · have hl := hR.le
    simp only [maxLen] at hl
    exact ⟨_, c, rfl, by omega, by omega, (fun e => by cases e), h.oct, .inr ⟨b, 0, rfl, hR.lt, fun i x hi => by rw [Nat.zero_add]; exact hR.cell (by simp [hi])⟩⟩
theorem OB.mono {w : World} {D D' : Nat → Prop} {v : Value} {l : List Int} (h : OB w D v l) (hD : ∀ b, b < w.heap.size → D b → D' b) : OB w D' v l := by
  refine ⟨h.oct, h.ex.imp id ?_⟩
  rintro ⟨b, c, e, hd, hR⟩
  exact ⟨b, c, e, hD b hR.lt hd, hR⟩
theorem OB.same {w w' : World} {D : Nat → Prop} {v : Value} {l : List Int} (h : OB w D v l) (hD : ∀ b, b < w.heap.size → D b → w'.heap[b]? = w.heap[b]?) : OB w' D v l := by
  refine ⟨h.oct, h.ex.imp id ?_⟩
  rintro ⟨b, c, e, hd, hR⟩
  exact ⟨b, c, e, hd, hR.same (hD b hR.lt hd)⟩
theorem OB.keep {w w' : World} {D : Nat → Prop} {v : Value} {l : List Int} (h : OB w D v l) (hb : Below w.heap.size w w') : OB w' D v l := h.same fun b hb' _ => hb.block b hb'
theorem OB.one {w : World} {D : Nat → Prop} {v : Value} {l : List Int} (h : OB w D v l) : v.oneCell' = true := by
  rcases h.ex with ⟨rfl, rfl⟩ | ⟨b, c, rfl, hd, hR⟩ <;> rfl

/-- the order of bytes -/
def cmpB : List Int → List Int → Int
  | [], [] => 0
  | [], _ :: _ => -1
  | _ :: _, [] => 1
  | x :: a, y :: b => if x < y then -1 else if y < x then 1 else cmpB a b
theorem u8_lt {x y : Int} (hx : 0 ≤ x ∧ x < 256) (hy : 0 ≤ y ∧ y < 256) : (UInt8.ofNat x.toNat < UInt8.ofNat y.toNat) ↔ x < y := by
  rw [UInt8.lt_iff_toNat_lt, UInt8.toNat_ofNat_of_lt' (by show x.toNat < 256; omega), UInt8.toNat_ofNat_of_lt' (by show y.toNat < 256; omega)]
  omega
theorem compare_cmpB : ∀ (l l' : List Int), Oct l → Oct l' → compareBytes (bytesOf l) (bytesOf l') = cmpB l l'
  | [], [], _, _ => rfl
  | [], _ :: _, _, _ => rfl
  | _ :: _, [], _, _ => rfl
  | x :: a, y :: b, h, h' => by
    have ih := compare_cmpB a b (fun z hz => h z (List.mem_cons_of_mem _ hz)) (fun z hz => h' z (List.mem_cons_of_mem _ hz))
    have hx := h x List.mem_cons_self
    have hy := h' y List.mem_cons_self
    show (if UInt8.ofNat x.toNat < UInt8.ofNat y.toNat then _ else if UInt8.ofNat y.toNat < UInt8.ofNat x.toNat then _ else compareBytes (bytesOf a) (bytesOf b)) = _
    rw [cmpB]
    simp only [u8_lt hx hy, u8_lt hy hx, ih]
theorem run_bytesOf {P : Program} {w : World} {v : Value} {l : List Int} (h : By w v l) : (Extern.Bytes.bytesOf v).run P w = .ok ⟨(bytesOf l).toArray⟩ w := by
  obtain ⟨ao, c, rfl, h2, h3, h4, h5, h6⟩ := h.ex
  cases ao with
  | none =>
    have : l = [] := List.eq_nil_of_length_eq_zero (by have := h4 rfl; omega)
    subst this
    rfl
  | some a =>
    rcases h6 with rfl | ⟨b, o, e, hlt, hc⟩
    · rfl
    · cases e
      have := run_loadBytesX (P := P) w l ⟨b, o, none⟩ .empty (fun j x hj => by rw [Addr.add_lit]; exact hc j x hj)
      show (Extern.Bytes.loadBytes ⟨b, o, none⟩ l.length .empty).run P w = _
      rw [this]
      congr 1
      apply ByteArray.ext
      simp
set_option maxHeartbeats 1000000 in
set_option maxRecDepth 100000 in
theorem compare_any {w : World} {v v' : Value} {l l' : List Int} (h : By w v l) (h' : By w v' l') :
    Calls Try.prog 55 #[v, v'] w fun e w' => e = .returned (.int .i64 (cmpB l l')) ∧ w' = w := by
  have hr : (callFunc 69 #[v, v']).run Try.prog w = .ok (.value (.int .i64 (cmpB l l'))) w := by
    rw [run_callFunc_extern Try.func69 (by kernel_rfl) (by kernel_rfl) (by kernel_rfl) (e := Extern.BytealgCompare.compare) (by kernel_rfl)]
    have : (Extern.BytealgCompare.compare #[v, v']).run Try.prog w = .ok (.int .i64 (cmpB l l')) w := by
      change Sem.run Try.prog (do pure (goInt (Extern.BytealgCompare.cmp (← Extern.Bytes.bytesOf v) (← Extern.Bytes.bytesOf v')))) w = _
      simp only [Sem.run_bind, run_bytesOf h, run_bytesOf h', Sem.run_pure, Result.andThen]
      rw [cmp_eq, compare_cmpB l l' h.oct h'.oct]
      rfl
    rw [this]; rfl
  clear h h'
  generalize cmpB l l' = x at *
  go_enter Try.func55, Try.ntmps55
  go_wp2_with (simp only [hr])
  go_ret
  exact ⟨rfl, rfl⟩
theorem KB : Kd Try.prog 33 5 1 1 (.int .u8 0) := ⟨by kernel_rfl, by kernel_rfl, rfl, by simp [Value.cells, Value.oneCell'], by decide⟩
theorem blk_cell {w : World} {a : Addr} {v : Value} (h : w.cell? a = some v) (o : Obj) : (w.alloc o).cell? a = some v := by
  have hlt : a.block < w.heap.size := by
    unfold World.cell? at h
    cases hh : w.heap[a.block]? with
    | none => simp [hh] at h
    | some ob => exact lt_of_block hh
  rw [(below_alloc w o).cell hlt]; exact h
theorem map_u8 (l : List Int) : ∀ v ∈ l.map (Value.int .u8), v.oneCell' = true := by
  intro v hv
  obtain ⟨x, _, rfl⟩ := List.mem_map.1 hv
  rfl
set_option maxHeartbeats 1000000 in
set_option maxRecDepth 100000 in
/-- bytes.Clone -/
theorem clone_any {w : World} {v : Value} {l : List Int} (h : By w v l) (hbig : l.length ≤ 1000000000) :
    Calls Try.prog 33 #[v] w fun e w' => ∃ v', e = .returned v' ∧ OB w' (w.heap.size ≤ ·) v' l ∧ Below w.heap.size w w' := by
  have ho := h.oct
  obtain ⟨ao, c, rfl, h2, h3, h4, h5, h6⟩ := h.ex
  cases ao with
  | none =>
    have hl : l = [] := List.eq_nil_of_length_eq_zero (by have := h4 rfl; omega)
    subst hl
    have hnil := fun (w : World) (a : Option Addr) (n c : Nat) => Go.Lib.run_eql_slice_nil (P := Try.prog) w 33 _ a n c 0 0 KB.und
    go_enter Try.func33, Try.ntmps33
    go_wp2
    go_ret
    exact ⟨_, rfl, ⟨ho, .inl ⟨rfl, rfl⟩⟩, Below.refl _ _⟩
  | some a =>
    have R0 : Rw (w.alloc (.cells #[] 5)) 5 1 w.heap.size 0 0 [] := blk_rw (blk_new w [] _) rfl (by decide)
    have hc0 : ∀ j u, (l.map (Value.int .u8))[j]? = some u → (w.alloc (.cells #[] 5)).cell? (a.add j) = some u := fun j u hj => by
      rcases h6 with rfl | ⟨b, o, e, hlt, hc⟩
      · simp at hj
      · cases e
        rw [List.getElem?_map] at hj
        obtain ⟨x, hx, rfl⟩ := Option.map_eq_some_iff.1 hj
        exact blk_cell (by rw [Addr.add_lit]; exact hc j x hx) _
    obtain ⟨b', c', W, hr, hb', hR, hC⟩ := app_row KB 33 R0 a l.length c (l.map (Value.int .u8)) (by simp) hc0 (map_u8 l) (by omega) (by omega)
    rw [Nat.zero_add] at hr hR
    have hB : Below w.heap.size w W := (below_alloc w (.cells #[] 5)).trans (hC.below (fun b hb => by omega) (below_alloc w _).size)
    have hb2 : w.heap.size ≤ b' := by rcases hb' with e | e; omega; rw [World.size_alloc] at e; omega
    have hF : OB W (w.heap.size ≤ ·) (.slice (some ⟨b', 0, none⟩) l.length c') l := ⟨ho, .inr ⟨b', c', rfl, hb2, hR.to (by simp)⟩⟩
    clear R0 hc0 h6 h hR hC h5 hb'
    have hnil := fun (w : World) (a : Option Addr) (n c : Nat) => Go.Lib.run_eql_slice_nil (P := Try.prog) w 33 _ a n c 0 0 KB.und
    go_enter Try.func33, Try.ntmps33
    go_wp2_with (at_builtin; refine Lib.wpList_append_run _ rfl _ _ _ _ rfl _ _ rfl rfl _ _ hr ?_)
    go_ret
    exact ⟨_, rfl, hF, hB⟩
set_option maxHeartbeats 1000000 in
set_option maxRecDepth 100000 in
/-- gleanhelp.CopyBytes -/
theorem copyBytes_any {w : World} {v : Value} {l : List Int} (h : By w v l) (hbig : l.length ≤ 1000000000) :
    Calls Try.prog 11 #[v] w fun e w' => ∃ v', e = .returned v' ∧ OB w' (w.heap.size ≤ ·) v' l ∧ Below w.heap.size w w' := by
  have ho := h.oct
  obtain ⟨ao, c, rfl, h2, h3, h4, h5, h6⟩ := h.ex
  by_cases hl : l = []
  · subst hl
    have hr : (Builtin.append_ #[33, 33] 33 #[.slice none 0 0, .slice ao 0 c]).run Try.prog w = .ok (.slice none 0 0) w := by
      obtain ⟨i, hi, hz, hs, hb⟩ := info_parts KB.inf
      have : (Builtin.firstCells i.size 0 (.slice ao 0 c)).run Try.prog w = .ok #[] w := by
        cases ao with
        | none => rfl
        | some a => exact run_firstCells_some w i.size 0 a 0 c [] (by simp) (fun j v hj => by simp at hj)
      simp [Builtin.append_, run_underlying KB.und, sizeOf, typeInfo, hi, Builtin.lenOf, this]
    clear h6 h
    go_enter Try.func11, Try.ntmps11
    go_wp2_with (at_builtin; refine Lib.wpList_append_run _ rfl _ _ _ _ rfl _ _ rfl rfl _ _ hr ?_)
    go_ret
    exact ⟨_, rfl, ⟨ho, .inl ⟨rfl, rfl⟩⟩, Below.refl _ _⟩
  · obtain ⟨b, o, rfl, hlt, hc⟩ := h6.resolve_left hl
    obtain ⟨c', W, hr, hR, hB⟩ := app_nil (w := w) KB 33 ⟨b, o, none⟩ l.length c (l.map (Value.int .u8)) (by simp) (fun j u hj => by
        rw [List.getElem?_map] at hj
        obtain ⟨x, hx, rfl⟩ := Option.map_eq_some_iff.1 hj
        rw [Addr.add_lit]; exact hc j x hx) (List.length_pos_iff.2 hl) (by omega) (by omega)
    have hF : OB W (w.heap.size ≤ ·) (.slice (some ⟨w.heap.size, 0, none⟩) l.length c') l := ⟨ho, .inr ⟨_, c', rfl, Nat.le_refl _, hR⟩⟩
    clear h6 h hR h5 hc
    go_enter Try.func11, Try.ntmps11
    go_wp2_with (at_builtin; refine Lib.wpList_append_run _ rfl _ _ _ _ rfl _ _ rfl rfl _ _ hr ?_)
    go_ret
    exact ⟨_, rfl, hF, hB⟩
set_option maxHeartbeats 1000000 in
set_option maxRecDepth 100000 in
/-- slices.Clone of entries that lie at a -/
theorem cloneE {w : World} {a : Addr} {n c : Nat} {xs : List Value} (hn : n ≤ 1000000000) (hx : xs.length = n * 2) (hc : ∀ j v, xs[j]? = some v → w.cell? (a.add j) = some v) (h1 : ∀ v ∈ xs, v.oneCell' = true) :
    Calls Try.prog 42 #[.slice (some a) n c] w fun e w' => ∃ b' c', e = .returned (.slice (some ⟨b', 0, none⟩) n c') ∧ w.heap.size ≤ b' ∧ Rw w' 65 2 b' n c' xs ∧ Below w.heap.size w w' := by
  have R0 : Rw (w.alloc (.cells #[] 65)) 65 2 w.heap.size 0 0 [] := blk_rw (blk_new w [] _) rfl (by decide)
  obtain ⟨b', c', W, hr, hb', hR, hC⟩ := app_row KE 66 R0 a n c xs hx (fun j v hj => blk_cell (hc j v hj) _) h1 (by omega) (by omega)
  rw [Nat.zero_add] at hr hR
  rw [List.nil_append] at hR
  have hB : Below w.heap.size w W := (below_alloc w (.cells #[] 65)).trans (hC.below (fun b hb => by omega) (below_alloc w _).size)
  have hb2 : w.heap.size ≤ b' := by rcases hb' with e | e; omega; rw [World.size_alloc] at e; omega
  clear R0 hc h1 hC hb'
  have hnil := fun (w : World) (a : Option Addr) (n c : Nat) => Go.Lib.run_eql_slice_nil (P := Try.prog) w 66 _ a n c 0 0 KE.und
  go_enter Try.func42, Try.ntmps42
  go_wp2_with (at_builtin; refine Lib.wpList_append_run _ rfl _ _ _ _ rfl _ _ rfl rfl _ _ hr ?_)
  go_ret
  exact ⟨b', c', rfl, hb2, hR, hB⟩
set_option maxHeartbeats 1000000 in
set_option maxRecDepth 100000 in
/-- slices.Grow of nothing -/
theorem growE {w : World} {n : Nat} (h0 : 0 < n) (hn : n ≤ 1000000000) :
    Calls Try.prog 73 #[.slice none 0 0, .int .i64 n] w fun e w' => ∃ b' c', e = .returned (.slice (some ⟨b', 0, none⟩) 0 c') ∧ w.heap.size ≤ b' ∧ Rw w' 65 2 b' 0 c' [] ∧ Below w.heap.size w w' := by
  obtain ⟨c', W, hr, hR, hB⟩ := app_zeros_nil (w := w) KE 3 66 under_int n h0 (by omega) (by omega)
  have hR0 : Rw W 65 2 w.heap.size 0 c' [] := (hR.front (m := 0) (by omega)).to (by simp)
  have hn0 : ¬ ((n : Int) < 0) := by omega
  have hn1 : (0 : Int) < n := by omega
  clear hR
  go_enter Try.func73, Try.ntmps73
  go_wp2_with (at_builtin; refine Lib.wpList_append_run _ rfl _ _ _ _ rfl _ _ rfl rfl _ _ hr ?_)
  go_ret
  exact ⟨_, c', rfl, Nat.le_refl _, hR0, hB⟩
end Pg
end Go.Proofs.Ytjnjkgakdnjlmaa

namespace Go.Proofs.Ytjnjkgakdnjlmaa
namespace Pg
open Go.RowKit Go.Lib
set_option maxHeartbeats 2000000 in
set_option maxRecDepth 100000 in
theorem concatE {w : World} {vb b1 n1 c1 b2 n2 c2 : Nat} {xs ys : List Value} (hV : Blk w vb [.slice (some ⟨b1, 0, none⟩) n1 c1, .slice (some ⟨b2, 0, none⟩) n2 c2] 66)
    (R1 : Rw w 65 2 b1 n1 c1 xs) (R2 : Rw w 65 2 b2 n2 c2 ys) (h0 : 0 < n1 + n2) (hn1 : n1 ≤ 1000000) (hn2 : n2 ≤ 1000000) (h1 : ∀ v ∈ xs, v.oneCell' = true) (h2 : ∀ v ∈ ys, v.oneCell' = true) :
    Calls Try.prog 61 #[.slice (some ⟨vb, 0, none⟩) 2 2] w fun e w' => ∃ b' c', e = .returned (.slice (some ⟨b', 0, none⟩) (n1 + n2) c') ∧ w.heap.size ≤ b' ∧ Rw w' 65 2 b' (n1 + n2) c' (xs ++ ys) ∧ Below w.heap.size w w' := by
  have tG := growE (w := w) (n := n1 + n2) h0 (by omega)
  rw [show ((n1 + n2 : Nat) : Int) = (n1 : Int) + (n2 : Int) by omega] at tG
  have q0 := hV.cell (i := 0) rfl
  have q1 := hV.cell (i := 1) rfl
  go_enter Try.func61, Try.ntmps61
  go_wp2
  go_loopw [3, 11] (fun ts ti wr => wr = w ∧ ((ti = .int .i64 0 ∧ ts = .int .i64 0) ∨ (ti = .int .i64 1 ∧ ts = .int .i64 n1) ∨ (ti = .int .i64 2 ∧ ts = .int .i64 (n1 + n2)))) (fun _ ti _ => 2 - (intOf ti).toNat)
  case atStart => exact ⟨rfl, .inl ⟨rfl, rfl⟩⟩
  case round =>
    obtain ⟨rfl, ⟨rfl, rfl⟩ | ⟨rfl, rfl⟩ | ⟨rfl, rfl⟩⟩ := hrel
    · have hz : ¬ ((n1 : Int) < 0) := by omega
      go_wp2
      go_roundw
      case rel => exact ⟨trivial, .inr (.inl ⟨rfl, rfl⟩)⟩
      case measure => simp [intOf]
    · have hz : ¬ ((n1 : Int) + (n2 : Int) < 0) := by omega
      go_wp2
      go_roundw
      case rel => exact ⟨trivial, .inr (.inr ⟨rfl, rfl⟩)⟩
      case measure => simp [intOf]
    · rename World => W0
      go_wp2_with (go_at_call 73; refine tG.mono ?_; rintro e w1 ⟨b, c, rfl, hb, hR, hB⟩)
      clear tG
      have q0' := (hV.keep hB).cell (i := 0) rfl
      have q1' := (hV.keep hB).cell (i := 1) rfl
      have hBB := hB
      clear hB q0 q1
      go_loopw [6, 27] (fun ts ti wv => Below W0.heap.size W0 wv ∧ ∃ b c, W0.heap.size ≤ b ∧ ((ti = .int .i64 0 ∧ ts = .slice (some ⟨b, 0, none⟩) 0 c ∧ Rw wv 65 2 b 0 c []) ∨ (ti = .int .i64 1 ∧ ts = .slice (some ⟨b, 0, none⟩) n1 c ∧ Rw wv 65 2 b n1 c xs) ∨ (ti = .int .i64 2 ∧ ts = .slice (some ⟨b, 0, none⟩) (n1 + n2) c ∧ Rw wv 65 2 b (n1 + n2) c (xs ++ ys)))) (fun _ ti _ => 2 - (intOf ti).toNat)
      case atStart => exact ⟨hBB, b, c, hb, .inl ⟨rfl, rfl, hR⟩⟩
      case round =>
        clear hR hBB hb q0' q1'
        obtain ⟨hBl, b, c, hb, ⟨rfl, rfl, hR⟩ | ⟨rfl, rfl, hR⟩ | ⟨rfl, rfl, hR⟩⟩ := hrel
        · have q0 := (hV.keep hBl).cell (i := 0) rfl
          have S := R1.keep hBl
          obtain ⟨b', c', W, hr, hb', hR', hC⟩ := app_row KE 66 hR ⟨b1, 0, none⟩ n1 c1 xs R1.len (fun j u hj => by rw [Addr.add_lit, Nat.zero_add]; exact S.cell hj) h1 (by omega) (by omega)
          rw [Nat.zero_add] at hr hR'
          have hB2 : Below W0.heap.size W0 W := hBl.trans (hC.below (fun x hx => by omega) hBl.size)
          have hb2 : W0.heap.size ≤ b' := by
            have := hBl.size
            rcases hb' with e | e <;> omega
          clear hC hb' hR S
          go_wp2_with (at_builtin; refine Lib.wpList_append_run _ rfl _ _ _ _ rfl _ _ rfl rfl _ _ hr ?_)
          go_roundw
          case rel => exact ⟨hB2, b', c', hb2, .inr (.inl ⟨rfl, rfl, hR'⟩)⟩
          case measure => simp [intOf]
        · have q1 := (hV.keep hBl).cell (i := 1) rfl
          have S := R2.keep hBl
          obtain ⟨b', c', W, hr, hb', hR', hC⟩ := app_row KE 66 hR ⟨b2, 0, none⟩ n2 c2 ys R2.len (fun j u hj => by rw [Addr.add_lit, Nat.zero_add]; exact S.cell hj) h2 (by omega) (by omega)
          have hB2 : Below W0.heap.size W0 W := hBl.trans (hC.below (fun x hx => by omega) hBl.size)
          have hb2 : W0.heap.size ≤ b' := by
            have := hBl.size
            rcases hb' with e | e <;> omega
          clear hC hb' hR S
          go_wp2_with (at_builtin; refine Lib.wpList_append_run _ rfl _ _ _ _ rfl _ _ rfl rfl _ _ hr ?_)
          go_roundw
          case rel => exact ⟨hB2, b', c', hb2, .inr (.inr ⟨rfl, rfl, hR'⟩)⟩
          case measure => simp [intOf]
        · go_wp2
          go_ret
          exact ⟨b, c, rfl, hb, hR, hBl⟩
end Pg
end Go.Proofs.Ytjnjkgakdnjlmaa

namespace Go.Proofs.Ytjnjkgakdnjlmaa
namespace Pg

theorem cmpB_cases : ∀ (a b : List Int), cmpB a b = -1 ∨ cmpB a b = 0 ∨ cmpB a b = 1
  | [], [] => .inr (.inl rfl)
  | [], _ :: _ => .inl rfl
  | _ :: _, [] => .inr (.inr rfl)
  | x :: a, y :: b => by
    rw [cmpB]
    split
    · exact .inl rfl
    · split
      · exact .inr (.inr rfl)
      · exact cmpB_cases a b
theorem cmpB_refl : ∀ (a : List Int), cmpB a a = 0
  | [] => rfl
  | x :: a => by rw [cmpB, if_neg (by omega), if_neg (by omega)]; exact cmpB_refl a
theorem cmpB_eq : ∀ {a b : List Int}, cmpB a b = 0 → a = b
  | [], [], _ => rfl
  | [], _ :: _, h => by simp [cmpB] at h
  | _ :: _, [], h => by simp [cmpB] at h
  | x :: a, y :: b, h => by
    rw [cmpB] at h
    split at h
    · omega
    · split at h
      · omega
      · rw [cmpB_eq h, show x = y by omega]
theorem cmpB_swap : ∀ (a b : List Int), cmpB b a = - cmpB a b
  | [], [] => rfl
  | [], _ :: _ => rfl
  | _ :: _, [] => rfl
  | x :: a, y :: b => by
    rw [cmpB, cmpB]
    by_cases h1 : x < y
    · rw [if_neg (by omega), if_pos h1, if_pos h1]; rfl
    · by_cases h2 : y < x
      · rw [if_pos h2, if_neg h1, if_pos h2]
      · rw [if_neg h2, if_neg h1, if_neg h1, if_neg h2]; exact cmpB_swap a b
/-- a stands ahead of b -/
abbrev Lt (a b : List Int) : Prop := cmpB a b = -1
theorem Lt.trans : ∀ {a b c : List Int}, Lt a b → Lt b c → Lt a c
  | [], [], _, h, _ => by simp [Lt, cmpB] at h
  | [], _ :: _, [], _, h => by simp [Lt, cmpB] at h
  | [], _ :: _, _ :: _, _, _ => rfl
  | _ :: _, [], _, h, _ => by simp [Lt, cmpB] at h
  | _ :: _, _ :: _, [], _, h => by simp [Lt, cmpB] at h
  | x :: a, y :: b, z :: c, h, h' => by
    simp only [Lt] at h h' ⊢
    rw [cmpB] at h h' ⊢
    by_cases h1 : x < z
    · rw [if_pos h1]
    · rw [if_neg h1]
      split at h
      · split at h'
        · omega
        · split at h'
          · omega
          · omega
      · split at h
        · omega
        · split at h'
          · omega
          · split at h'
            · omega
            · rw [if_neg (by omega)]; exact Lt.trans (a := a) (b := b) (c := c) h h'
theorem lt_irrefl (a : List Int) : ¬ Lt a a := by simp [Lt, cmpB_refl]
theorem Lt.not {a b : List Int} (h : Lt a b) : ¬ Lt b a := fun h' => lt_irrefl a (h.trans h')
theorem lt_tri (a b : List Int) : Lt a b ∨ a = b ∨ Lt b a := by
  rcases cmpB_cases a b with h | h | h
  · exact .inl h
  · exact .inr (.inl (cmpB_eq h))
  · exact .inr (.inr (by simp only [Lt]; rw [cmpB_swap, h]))
theorem cmpB_lt {a b : List Int} (h : Lt a b) : cmpB a b = -1 := h
theorem cmpB_gt {a b : List Int} (h : Lt b a) : cmpB a b = 1 := by rw [cmpB_swap, cmpB_lt h]; rfl
theorem not_lt {a b : List Int} : ¬ Lt a b ↔ a = b ∨ Lt b a := by
  constructor
  · intro h
    rcases lt_tri a b with k | k | k
    · exact absurd k h
    · exact .inl k
    · exact .inr k
  · rintro (h | h)
    · subst h; exact lt_irrefl a
    · exact h.not
theorem Lt.of_le {a b c : List Int} (h : Lt a b) (h' : ¬ Lt c b) : Lt a c := by
  rcases not_lt.1 h' with k | k
  · subst k; exact h
  · exact h.trans k
theorem Lt.of_le' {a b c : List Int} (h : ¬ Lt b a) (h' : Lt b c) : Lt a c := by
  rcases not_lt.1 h with k | k
  · subst k; exact h'
  · exact k.trans h'

/-- how many at a list's front are ahead of k -/
def plc : List (List Int) → List Int → Nat
  | [], _ => 0
  | x :: l, k => if Lt x k then plc l k + 1 else 0
theorem plc_le : ∀ (l : List (List Int)) (k : List Int), plc l k ≤ l.length
  | [], _ => Nat.le_refl _
  | x :: l, k => by
    rw [plc]
    split
    · have := plc_le l k; simp; omega
    · simp
theorem plc_eq : ∀ {l : List (List Int)} {k : List Int} {i : Nat}, i ≤ l.length → (∀ j x, j < i → l[j]? = some x → Lt x k) → (∀ x, l[i]? = some x → ¬ Lt x k) → plc l k = i
  | [], _, i, h, _, _ => by simp at h; subst h; rfl
  | x :: l, k, 0, _, _, h3 => by rw [plc, if_neg (h3 x rfl)]
  | x :: l, k, i + 1, h1, h2, h3 => by
    rw [plc, if_pos (h2 0 x (by omega) rfl), plc_eq (l := l) (i := i) (by simpa using h1) (fun j y hj hy => h2 (j + 1) y (by omega) (by simpa using hy)) (fun y hy => h3 y (by simpa using hy))]
theorem plc_lt : ∀ {l : List (List Int)} {k : List Int} {j : Nat} {x : List Int}, j < plc l k → l[j]? = some x → Lt x k
  | [], _, _, _, h, _ => by simp [plc] at h
  | y :: l, k, j, x, h, hx => by
    rw [plc] at h
    split at h
    · cases j with
      | zero => simp at hx; subst hx; assumption
      | succ j => exact plc_lt (l := l) (j := j) (by omega) (by simpa using hx)
    · omega
theorem plc_ge : ∀ {l : List (List Int)} {k : List Int} {x : List Int}, l[plc l k]? = some x → ¬ Lt x k
  | [], _, _, h => by simp at h
  | y :: l, k, x, h => by
    rw [plc] at h
    split at h
    · exact plc_ge (l := l) (by simpa using h)
    · simp at h; subst h; assumption
/-- rising -/
def Srt (l : List (List Int)) : Prop := l.Pairwise Lt
theorem Srt.get {l : List (List Int)} (h : Srt l) {i j : Nat} {x y : List Int} (hij : i < j) (hi : l[i]? = some x) (hj : l[j]? = some y) : Lt x y := by
  obtain ⟨h1, rfl⟩ := List.getElem?_eq_some_iff.1 hi
  obtain ⟨h2, rfl⟩ := List.getElem?_eq_some_iff.1 hj
  exact List.pairwise_iff_getElem.1 h i j h1 h2 hij
/-- is k there, at its place? -/
def thr (l : List (List Int)) (k : List Int) : Bool := decide (l[plc l k]? = some k)
theorem thr_iff {l : List (List Int)} (h : Srt l) {k : List Int} : thr l k = true ↔ k ∈ l := by
  simp only [thr, decide_eq_true_eq]
  constructor
  · intro e; exact List.mem_of_getElem? e
  · intro e
    obtain ⟨j, hj⟩ := List.getElem?_of_mem e
    have : plc l k = j := plc_eq (by have := (List.getElem?_eq_some_iff.1 hj).1; omega) (fun i x hi hx => h.get hi hx hj) (fun x hx => by rw [hj] at hx; cases hx; exact lt_irrefl k)
    rw [this]; exact hj
end Pg
end Go.Proofs.Ytjnjkgakdnjlmaa

namespace Go.Proofs.Ytjnjkgakdnjlmaa
namespace Pg
open Go.RowKit Go.Lib

/-- an entry: its two values, and the bytes that they hold -/
structure En where
  kv : Value
  kl : List Int
  vv : Value
  vl : List Int
structure EnA (w : World) (D : Nat → Prop) (e : En) : Prop where
  k : OB w D e.kv e.kl
  v : OB w D e.vv e.vl
theorem EnA.keep {w w' : World} {D : Nat → Prop} {e : En} (h : EnA w D e) (hb : Below w.heap.size w w') : EnA w' D e := ⟨h.k.keep hb, h.v.keep hb⟩
theorem EnA.mono {w : World} {D D' : Nat → Prop} {e : En} (h : EnA w D e) (hD : ∀ b, b < w.heap.size → D b → D' b) : EnA w D' e := ⟨h.k.mono hD, h.v.mono hD⟩
theorem EnA.same {w w' : World} {D : Nat → Prop} {e : En} (h : EnA w D e) (hD : ∀ b, b < w.heap.size → D b → w'.heap[b]? = w.heap[b]?) : EnA w' D e := ⟨h.k.same hD, h.v.same hD⟩
/-- the cells of entries -/
def flat : List En → List Value
  | [] => []
  | e :: l => e.kv :: e.vv :: flat l
theorem flat_len : ∀ (l : List En), (flat l).length = l.length * 2
  | [] => rfl
  | e :: l => by simp [flat, flat_len l]; omega
theorem flat_append : ∀ (a b : List En), flat (a ++ b) = flat a ++ flat b
  | [], b => rfl
  | e :: a, b => by simp [flat, flat_append a b]
theorem flat_k : ∀ {l : List En} {i : Nat} {e : En}, l[i]? = some e → (flat l)[i * 2]? = some e.kv
  | [], _, _, h => by simp at h
  | x :: l, 0, e, h => by simp at h; subst h; rfl
  | x :: l, i + 1, e, h => by
    rw [show (i + 1) * 2 = i * 2 + 1 + 1 by omega, flat, List.getElem?_cons_succ, List.getElem?_cons_succ]
    exact flat_k (l := l) (by simpa using h)
theorem flat_v : ∀ {l : List En} {i : Nat} {e : En}, l[i]? = some e → (flat l)[i * 2 + 1]? = some e.vv
  | [], _, _, h => by simp at h
  | x :: l, 0, e, h => by simp at h; subst h; rfl
  | x :: l, i + 1, e, h => by
    rw [show (i + 1) * 2 + 1 = i * 2 + 1 + 1 + 1 by omega, flat, List.getElem?_cons_succ, List.getElem?_cons_succ]
    exact flat_v (l := l) (by simpa using h)
theorem flat_take : ∀ (l : List En) (i : Nat), (flat l).take (i * 2) = flat (l.take i)
  | [], i => by simp [flat]
  | x :: l, 0 => by simp [flat]
  | x :: l, i + 1 => by
    rw [show (i + 1) * 2 = i * 2 + 1 + 1 by omega, flat, List.take_succ_cons, List.take_succ_cons, flat_take l i, List.take_succ_cons, flat]
theorem flat_drop : ∀ (l : List En) (i : Nat), (flat l).drop (i * 2) = flat (l.drop i)
  | [], i => by simp [flat]
  | x :: l, 0 => by simp
  | x :: l, i + 1 => by
    rw [show (i + 1) * 2 = i * 2 + 1 + 1 by omega, flat, List.drop_succ_cons, List.drop_succ_cons, flat_drop l i, List.drop_succ_cons]
theorem flat_one {w : World} {D : Nat → Prop} : ∀ {l : List En}, (∀ e ∈ l, EnA w D e) → ∀ v ∈ flat l, v.oneCell' = true
  | [], _, v, h => by simp [flat] at h
  | x :: l, h, v, hv => by
    have hx := h x List.mem_cons_self
    rcases List.mem_cons.1 hv with rfl | hv
    · exact hx.k.one
    · rcases List.mem_cons.1 hv with rfl | hv
      · exact hx.v.one
      · exact flat_one (l := l) (fun e he => h e (List.mem_cons_of_mem _ he)) v hv
theorem flat_set_v : ∀ {l : List En} {i : Nat} {e : En} (u : Value) (ul : List Int), l[i]? = some e → (flat l).set (i * 2 + 1) u = flat (l.set i { e with vv := u, vl := ul })
  | [], _, _, _, _, h => by simp at h
  | x :: l, 0, e, u, ul, h => by simp at h; subst h; simp [flat]
  | x :: l, i + 1, e, u, ul, h => by
    rw [show (i + 1) * 2 + 1 = i * 2 + 1 + 1 + 1 by omega, flat, List.set_cons_succ, List.set_cons_succ, flat_set_v (l := l) u ul (by simpa using h), List.set_cons_succ, flat]
/-- keys -/
def kys (l : List En) : List (List Int) := l.map En.kl

/-- a page: its block, how many entries it has room for, and its entries -/
structure Pg where
  b : Nat
  c : Nat
  es : List En
def Pg.v (p : Pg) : Value := .slice (some ⟨p.b, 0, none⟩) p.es.length p.c
/-- a page in memory -/
structure PgA (w : World) (D : Nat → Prop) (p : Pg) : Prop where
  row : Rw w 65 2 p.b p.es.length p.c (flat p.es)
  ents : ∀ e ∈ p.es, EnA w D e
theorem PgA.keep {w w' : World} {D : Nat → Prop} {p : Pg} (h : PgA w D p) (hb : Below w.heap.size w w') : PgA w' D p := ⟨h.row.keep hb, fun e he => (h.ents e he).keep hb⟩
theorem PgA.one {w : World} {D : Nat → Prop} {p : Pg} (h : PgA w D p) : ∀ v ∈ flat p.es, v.oneCell' = true := flat_one h.ents

set_option maxHeartbeats 1000000 in
set_option maxRecDepth 100000 in
/-- an entry's key held against another -/
theorem cmpE {w : World} {kv vv v : Value} {l l' : List Int} (h : By w kv l) (h' : By w v l') :
    Calls Try.prog 57 #[.agg #[kv, vv], v] w fun e w' => e = .returned (.int .i64 (cmpB l l')) ∧ Below w.heap.size w w' := by
  have hb := below_alloc w (.cells #[kv, vv] 65)
  have tC := compare_any (h.keep hb) (h'.keep hb)
  have B := blk_new w [kv, vv] 65
  have q0 := B.cell (i := 0) rfl
  clear h h' B
  generalize cmpB l l' = x at *
  go_enter Try.func57, Try.ntmps57
  go_wp2_with (go_at_call 55; refine tC.mono ?_; rintro e w1 ⟨rfl, rfl⟩)
  go_ret
  exact ⟨rfl, hb⟩
end Pg
end Go.Proofs.Ytjnjkgakdnjlmaa

namespace Go.Proofs.Ytjnjkgakdnjlmaa
namespace Pg
open Go.RowKit Go.Lib
theorem half_run (w : World) (i j m : Nat) (hm : m = (i + j) / 2) : (binOp .shr 103 (.int .u64 ((i : Int) + (j : Int))) (.int .u64 1)).run Try.prog w = .ok (.int .u64 m) w := by
  have : ((i : Int) + (j : Int)).fdiv 2 = (m : Int) := by
    rw [Int.fdiv_eq_ediv_of_nonneg _ (by decide)]; omega
  simp [binOp, Op.shift, go_sem, this]
set_option maxHeartbeats 2000000 in
set_option maxRecDepth 100000 in
theorem bsE {w : World} {D : Nat → Prop} {p : Pg} {v : Value} {k : List Int} (A : PgA w D p) (S : Srt (kys p.es)) (h : By w v k) (hn : p.es.length ≤ 1000000) :
    Calls Try.prog 56 #[p.v, v, .func (.func 57) #[] #[]] w fun e w' => e = .returned (.tuple #[.int .i64 (plc (kys p.es) k), .bool (thr (kys p.es) k)]) ∧ Below w.heap.size w w' := by
  obtain ⟨b, c, es⟩ := p
  simp only [Pg.v] at *
  have hcm := A.row.le
  simp only [maxLen] at hcm
  have hcm1 := hcm.1
  have hcm2 := hcm.2
  obtain ⟨n, hnn⟩ : ∃ n, es.length = n := ⟨_, rfl⟩
  rw [hnn] at hn hcm1 ⊢
  go_enter Try.func56, Try.ntmps56
  go_wp2
  go_loopw [9, 10] (fun ti tj wr => ∃ i j : Nat, ti = .int .i64 i ∧ tj = .int .i64 j ∧ i ≤ j ∧ j ≤ n ∧ Hid (∀ q x, q < i → (kys es)[q]? = some x → Lt x k) ∧ Hid (∀ q x, j ≤ q → (kys es)[q]? = some x → ¬ Lt x k) ∧ Below w.heap.size w wr) (fun ti tj _ => (intOf tj).toNat - (intOf ti).toNat)
  case atStart => exact ⟨0, n, rfl, rfl, Nat.zero_le _, Nat.le_refl _, fun q x hq => by omega, fun q x hq hx => by
    have := (List.getElem?_eq_some_iff.1 hx).1
    simp [kys] at this
    omega, Below.refl _ _⟩
  case round =>
    obtain ⟨i, j, rfl, rfl, hij, hjn, H1, H2, hB⟩ := hrel
    by_cases hlt : i < j
    · obtain ⟨m, hm⟩ : ∃ m, m = (i + j) / 2 := ⟨_, rfl⟩
      have hm1 : i ≤ m := by omega
      have hm2 : m < j := by omega
      obtain ⟨e, he⟩ : ∃ e, es[m]? = some e := ⟨es[m], List.getElem?_eq_getElem (by omega)⟩
      have A' := A.keep hB
      have q0 := A'.row.cell (flat_k he)
      have q1 := A'.row.cell (flat_v he)
      have hw0 : IntKind.i64.wrap ((i : Int) + (j : Int)) = (i : Int) + (j : Int) := by rw [IntKind.wrap_i64]; omega
      have hm0 : ((i : Int) + (j : Int)) / 2 < n := by omega
      have hm3 : (0 : Int) ≤ ((i : Int) + (j : Int)) / 2 := by omega
      have hwm : IntKind.i64.wrap (((i : Int) + (j : Int)) / 2) = ((i : Int) + (j : Int)) / 2 := by rw [IntKind.wrap_i64]; omega
      have tC := cmpE (vv := e.vv) ((A'.ents e (List.mem_of_getElem? he)).k.by) (h.keep hB)
      have hk : (kys es)[m]? = some e.kl := by simp [kys, he]
      rw [hm] at q0 q1
      have HM : Hid (m = (i + j) / 2) := hm
      clear A' hm
      by_cases hc : Lt e.kl k
      · rw [cmpB_lt hc] at tC
        go_wp2_with (go_at_call 57; refine tC.mono ?_; rintro e' w1 ⟨rfl, hB1⟩)
        go_roundw
        case rel => exact ⟨m + 1, j, by have := HM.out; congr 1; omega, rfl, by omega, hjn, fun q x hq hx => by
          by_cases hqm : q = m
          · subst hqm; rw [hk] at hx; cases hx; exact hc
          · exact S.get (by omega) hx hk |>.trans hc, H2.out, joinB hB hB1⟩
        case measure => have := HM.out; simp [intOf]; omega
      · have hx0 : ¬ (cmpB e.kl k < 0) := by
          rcases cmpB_cases e.kl k with q | q | q
          · exact absurd q hc
          · rw [q]; decide
          · rw [q]; decide
        generalize cmpB e.kl k = x at tC hx0
        go_wp2_with (go_at_call 57; refine tC.mono ?_; rintro e' w1 ⟨rfl, hB1⟩)
        go_roundw
        case rel => exact ⟨i, m, rfl, by have := HM.out; congr 1; omega, by omega, by omega, H1.out, fun q x hq hx => by
          by_cases hqm : q = m
          · subst hqm; rw [hk] at hx; cases hx; exact hc
          · intro hxk
            exact hc ((S.get (by omega) hk hx).trans hxk), joinB hB hB1⟩
        case measure => have := HM.out; simp [intOf]; omega
    · have hie : i = j := by omega
      subst hie
      have hp : Hid (plc (kys es) k = i) := plc_eq (by simp [kys]; omega) (fun q x hq hx => H1.out q x hq hx) (fun x hx => H2.out i x (Nat.le_refl _) hx)
      have A' := A.keep hB
      by_cases hin : i < n
      · obtain ⟨e, he⟩ : ∃ e, es[i]? = some e := ⟨es[i], List.getElem?_eq_getElem (by omega)⟩
        have q0 := A'.row.cell (flat_k he)
        have q1 := A'.row.cell (flat_v he)
        have hk : (kys es)[i]? = some e.kl := by simp [kys, he]
        have tC := cmpE (vv := e.vv) ((A'.ents e (List.mem_of_getElem? he)).k.by) (h.keep hB)
        have hT : Hid (thr (kys es) k = (cmpB e.kl k == 0)) := by
          show _ = _
          unfold thr
          rw [hp.out, hk]
          by_cases q : e.kl = k
          · subst q; simp [cmpB_refl]
          · have : cmpB e.kl k ≠ 0 := fun z => q (cmpB_eq z)
            simp [q, this]
        have hin0 : (i : Int) < n := by omega
        generalize cmpB e.kl k = x at tC hT
        clear A'
        go_wp2_with (go_at_call 57; refine tC.mono ?_; rintro e' w1 ⟨rfl, hB1⟩)
        all_goals (
          go_ret2
          refine ⟨?_, joinB hB hB1⟩
          rw [hT.out, hp.out]
          rfl)
      · have hT : Hid (thr (kys es) k = false) := by
          show _ = _
          unfold thr
          rw [hp.out, List.getElem?_eq_none (by simp [kys]; omega)]
          rfl
        have hin0 : ¬ ((i : Int) < n) := by omega
        go_wp2
        go_ret2
        refine ⟨?_, hB⟩
        rw [hT.out, hp.out]
        rfl
set_option maxHeartbeats 1000000 in
set_option maxRecDepth 100000 in
theorem placeOf_any {w : World} {D : Nat → Prop} {p : Pg} {v : Value} {k : List Int} (A : PgA w D p) (S : Srt (kys p.es)) (h : By w v k) (hn : p.es.length ≤ 1000000) :
    Calls Try.prog 45 #[p.v, v] w fun e w' => e = .returned (.tuple #[.int .i64 (plc (kys p.es) k), .bool (thr (kys p.es) k)]) ∧ Below w.heap.size w w' := by
  have t := bsE A S h hn
  generalize plc (kys p.es) k = x at *
  generalize thr (kys p.es) k = y at *
  simp only [Pg.v] at *
  clear A S h
  go_enter Try.func45, Try.ntmps45
  go_wp2_with (go_at_call 56; refine t.mono ?_; rintro e' w1 ⟨rfl, hB1⟩)
  go_ret2
  exact ⟨rfl, hB1⟩
end Pg
end Go.Proofs.Ytjnjkgakdnjlmaa

namespace Go.Proofs.Ytjnjkgakdnjlmaa
namespace Pg
open Go.RowKit Go.Lib

/-- the map at block g: its own blocks are F's, its bytes lie in D's -/
structure MapA (w : World) (F D : Nat → Prop) (g : Nat) (L : List Pg) : Prop where
  top : ∃ pv, Blk w g [pv] 61 ∧ F g ∧ ((pv = .slice none 0 0 ∧ L = []) ∨ ∃ G C, pv = .slice (some ⟨G, 0, none⟩) L.length C ∧ F G ∧ Rw w 66 1 G L.length C (L.map Pg.v))
  pages : ∀ p ∈ L, PgA w D p ∧ F p.b
  apart : (L.map Pg.b).Nodup
  kind : ∀ b, F b → ∃ cs t, Blk w b cs t ∧ t ≠ 5
theorem MapA.lt {w : World} {F D : Nat → Prop} {g : Nat} {L : List Pg} (h : MapA w F D g L) {b : Nat} (hb : F b) : b < w.heap.size := by
  obtain ⟨cs, t, h, _⟩ := h.kind b hb
  exact h.lt
/-- what changes no block of the map's own and no list of bytes leaves the map -/
theorem MapA.same {w w' : World} {F D : Nat → Prop} {g : Nat} {L : List Pg} (h : MapA w F D g L) (h1 : ∀ b, F b → w'.heap[b]? = w.heap[b]?) (h2 : ∀ b, b < w.heap.size → D b → (∃ cs, Blk w b cs 5) → w'.heap[b]? = w.heap[b]?) : MapA w' F D g L := by
  obtain ⟨pv, hb, hg, hp⟩ := h.top
  have hob : ∀ {v : Value} {l : List Int}, OB w D v l → OB w' D v l := fun h => ⟨h.oct, h.ex.imp id (by
    rintro ⟨b, c, e, hd, hR⟩
    exact ⟨b, c, e, hd, hR.same (h2 b hR.lt hd hR.kind)⟩)⟩
  refine ⟨⟨pv, hb.same (h1 g hg), hg, hp.imp id ?_⟩, fun p hp => ?_, h.apart, fun b hb => ?_⟩
  · rintro ⟨G, C, e, hG, hR⟩
    exact ⟨G, C, e, hG, hR.same (h1 G hG)⟩
  · obtain ⟨hA, hF⟩ := h.pages p hp
    exact ⟨⟨hA.row.same (h1 _ hF), fun e he => ⟨hob (hA.ents e he).k, hob (hA.ents e he).v⟩⟩, hF⟩
  · obtain ⟨cs, t, hk, ht⟩ := h.kind b hb
    exact ⟨cs, t, hk.same (h1 b hb), ht⟩
theorem MapA.keep {w w' : World} {F D : Nat → Prop} {g : Nat} {L : List Pg} (h : MapA w F D g L) (hb : Below w.heap.size w w') : MapA w' F D g L := h.same (fun b hF => hb.block b (h.lt hF)) (fun b hl _ _ => hb.block b hl)
theorem MapA.drew {w : World} {F D : Nat → Prop} {g : Nat} {L : List Pg} (h : MapA w F D g L) : MapA w.drew F D g L := h.same (fun _ _ => rfl) (fun _ _ _ _ => rfl)
/-- what another map's call changes leaves this one -/
theorem MapA.chg {w w' : World} {F D F' : Nat → Prop} {g : Nat} {L : List Pg} (h : MapA w F D g L) (hc : Chg F' w w') (h1 : ∀ b, F' b → ¬ F b) (h2 : ∀ b, F' b → ∀ cs, ¬ Blk w b cs 5) : MapA w' F D g L :=
  h.same (fun b hF => hc.same b (h.lt hF) fun f => h1 b f hF) (fun b hl _ hk => hc.same b hl fun f => by obtain ⟨cs, k⟩ := hk; exact h2 b f cs k)
theorem MapA.noU {w : World} {F D : Nat → Prop} {g : Nat} {L : List Pg} (h : MapA w F D g L) {b : Nat} (hb : F b) (cs : List Value) : ¬ Blk w b cs 5 := fun k => by
  obtain ⟨cs', t, hk, ht⟩ := h.kind b hb
  exact ht (hk.eq k).2
theorem MapA.mono {w : World} {F D D' : Nat → Prop} {g : Nat} {L : List Pg} (h : MapA w F D g L) (hD : ∀ b, b < w.heap.size → D b → D' b) : MapA w F D' g L :=
  ⟨h.top, fun p hp => ⟨⟨(h.pages p hp).1.row, fun e he => ((h.pages p hp).1.ents e he).mono hD⟩, (h.pages p hp).2⟩, h.apart, h.kind⟩

/-- the pages' entries -/
def ens (L : List Pg) : List (List En) := L.map Pg.es
def fks (P : List (List En)) : List (List Int) := P.map fun es => (kys es).headD []
/-- how many at a list's front aren't above k -/
def plq : List (List Int) → List Int → Nat
  | [], _ => 0
  | x :: l, k => if Lt k x then 0 else plq l k + 1
theorem plq_le : ∀ (l : List (List Int)) (k : List Int), plq l k ≤ l.length
  | [], _ => Nat.le_refl _
  | x :: l, k => by
    rw [plq]
    split
    · simp
    · have := plq_le l k; simp; omega
theorem plq_eq : ∀ {l : List (List Int)} {k : List Int} {i : Nat}, i ≤ l.length → (∀ j x, j < i → l[j]? = some x → ¬ Lt k x) → (∀ x, l[i]? = some x → Lt k x) → plq l k = i
  | [], _, i, h, _, _ => by simp at h; subst h; rfl
  | x :: l, k, 0, _, _, h3 => by rw [plq, if_pos (h3 x rfl)]
  | x :: l, k, i + 1, h1, h2, h3 => by
    rw [plq, if_neg (h2 0 x (by omega) rfl), plq_eq (l := l) (i := i) (by simpa using h1) (fun j y hj hy => h2 (j + 1) y (by omega) (by simpa using hy)) (fun y hy => h3 y (by simpa using hy))]
theorem plq_lt : ∀ {l : List (List Int)} {k : List Int} {j : Nat} {x : List Int}, j < plq l k → l[j]? = some x → ¬ Lt k x
  | [], _, _, _, h, _ => by simp [plq] at h
  | y :: l, k, j, x, h, hx => by
    rw [plq] at h
    split at h
    · omega
    · cases j with
      | zero => simp at hx; subst hx; assumption
      | succ j => exact plq_lt (l := l) (j := j) (by omega) (by simpa using hx)
theorem plq_ge : ∀ {l : List (List Int)} {k : List Int} {x : List Int}, l[plq l k]? = some x → Lt k x
  | [], _, _, h => by simp at h
  | y :: l, k, x, h => by
    rw [plq] at h
    split at h
    · simp at h; subst h; assumption
    · exact plq_ge (l := l) (by simpa using h)
/-- the page to which a key belongs -/
def pgi (P : List (List En)) (k : List Int) : Nat := plq (fks P) k - 1
/-- no page is empty; keys rise, all over -/
structure Ord (P : List (List En)) : Prop where
  full : ∀ es ∈ P, es ≠ []
  rise : Srt (kys P.flatten)
theorem Ord.page {P : List (List En)} (h : Ord P) {i : Nat} {es : List En} (hi : P[i]? = some es) : Srt (kys es) := by
  have hm := List.mem_of_getElem? hi
  have : (kys es).Sublist (kys P.flatten) := (List.sublist_flatten_of_mem hm).map _
  exact h.rise.sublist this
theorem mem_head {es : List En} (h : es ≠ []) : ∃ e l, es = e :: l ∧ (kys es).headD [] = e.kl := by
  cases es with
  | nil => exact absurd rfl h
  | cons e l => exact ⟨e, l, rfl, rfl⟩
theorem Ord.heads : ∀ {P : List (List En)}, Ord P → Srt (fks P)
  | [], _ => List.Pairwise.nil
  | es :: P, h => by
    have h2 : Ord P := ⟨fun x hx => h.full x (List.mem_cons_of_mem _ hx), by
      have := h.rise
      simp only [Srt, kys, List.flatten_cons, List.map_append, List.pairwise_append] at this
      exact this.2.1⟩
    refine List.Pairwise.cons (fun x hx => ?_) (Ord.heads h2)
    obtain ⟨fs, hfs, rfl⟩ := List.mem_map.1 hx
    obtain ⟨e, l, rfl, he⟩ := mem_head (h.full es List.mem_cons_self)
    obtain ⟨f, m, rfl, hf⟩ := mem_head (h2.full fs hfs)
    show Lt e.kl f.kl
    have := h.rise
    simp only [Srt, kys, List.flatten_cons, List.map_append, List.pairwise_append] at this
    exact this.2.2 e.kl (by simp) f.kl (List.mem_map.2 ⟨f, List.mem_flatten.2 ⟨_, hfs, List.mem_cons_self⟩, rfl⟩)
end Pg
end Go.Proofs.Ytjnjkgakdnjlmaa

namespace Go.Proofs.Ytjnjkgakdnjlmaa
namespace Pg
open Go.RowKit Go.Lib

theorem ens_get {L : List Pg} {i : Nat} {p : Pg} (h : L[i]? = some p) : (ens L)[i]? = some p.es := by simp [ens, h]
theorem fks_get {L : List Pg} {i : Nat} {p : Pg} (h : L[i]? = some p) : (fks (ens L))[i]? = some ((kys p.es).headD []) := by simp [ens, fks, h]
/-- a page's first key -/
theorem MapA.head {w : World} {F D : Nat → Prop} {g : Nat} {L : List Pg} (A : MapA w F D g L) (O : Ord (ens L)) {i : Nat} {p : Pg} (h : L[i]? = some p) : ∃ kv, w.cell? ⟨p.b, 0, none⟩ = some kv ∧ By w kv ((kys p.es).headD []) := by
  have hp := List.mem_of_getElem? h
  have hm : p.es ∈ ens L := List.mem_map.2 ⟨p, hp, rfl⟩
  obtain ⟨e, l, he, hk⟩ := mem_head (O.full _ hm)
  obtain ⟨hA, _⟩ := A.pages p hp
  have q := hA.row.cell (i := 0) (v := e.kv) (by rw [he]; rfl)
  exact ⟨e.kv, q, by rw [hk]; exact (hA.ents e (by rw [he]; exact List.mem_cons_self)).k.by⟩
theorem MapA.rd {w : World} {F D : Nat → Prop} {g : Nat} {L : List Pg} (A : MapA w F D g L) : ∃ ao c, w.cell? ⟨g, 0, none⟩ = some (.slice ao L.length c) ∧ L.length ≤ c ∧ c ≤ 9223372036854775807 ∧ (∀ i p, L[i]? = some p → ∃ G, ao = some ⟨G, 0, none⟩ ∧ w.cell? ⟨G, i, none⟩ = some p.v) := by
  obtain ⟨pv, hb, hg, ⟨rfl, rfl⟩ | ⟨G, C, rfl, hG, hR⟩⟩ := A.top
  · exact ⟨_, _, hb.cell (i := 0) rfl, by decide, by decide, fun i p h => by simp at h⟩
  · have hl := hR.le
    simp only [maxLen] at hl
    exact ⟨_, C, hb.cell (i := 0) rfl, by omega, by omega, fun i p h => ⟨G, rfl, hR.cell (by simp [h])⟩⟩
set_option maxHeartbeats 2000000 in
set_option maxRecDepth 100000 in
theorem pageOf_any {w : World} {F D : Nat → Prop} {g : Nat} {L : List Pg} {v : Value} {k : List Int} (A : MapA w F D g L) (O : Ord (ens L)) (h : By w v k) (hn : L.length ≤ 1000000000) :
    Calls Try.prog 44 #[.pointer (some ⟨g, 0, none⟩), v] w fun e w' => e = .returned (.int .i64 (pgi (ens L) k)) ∧ Below w.heap.size w w' := by
  obtain ⟨ao, c, hc, hc1, hc2, hat⟩ := A.rd
  have hHs := O.heads
  obtain ⟨ks, hks⟩ : ∃ ks, Hid (fks (ens L) = ks) := ⟨_, rfl⟩
  rw [hks.out] at hHs
  obtain ⟨n, hnn⟩ : ∃ n, Hid (L.length = n) := ⟨_, rfl⟩
  rw [hnn.out] at hc hc1 hn
  have hkl : ks.length = n := by rw [← hks.out, ← hnn.out]; simp [fks, ens]
  have hbe : Below w.heap.size w w.drew := ⟨rfl, rfl, rfl, Nat.le_refl _, fun _ _ => rfl⟩
  have hcd : w.drew.cell? ⟨g, 0, none⟩ = some (.slice ao n c) := hc
  have hfin : ∀ (i : Nat), i ≤ n → (∀ q x, q < i → ks[q]? = some x → ¬ Lt k x) → (∀ q x, i ≤ q → ks[q]? = some x → Lt k x) → pgi (ens L) k = i - 1 := fun i hi h1 h2 => by
    unfold pgi
    rw [hks.out, plq_eq (i := i) (by omega) (fun j x hj hx => h1 j x hj hx) (fun x hx => h2 i x (Nat.le_refl _) hx)]
  have hfin : Hid _ := hfin
  have mixed := mixed
  go_enter Try.func44, Try.ntmps44
  go_wp2
  go_step3
  go_wp2
  go_region
  go_wp2
  go_step3
  go_wp2
  go_loopw [5, 6] (fun ti tj wr => ∃ i j : Nat, ti = .int .i64 i ∧ tj = .int .i64 j ∧ i ≤ j ∧ j ≤ n ∧ Hid (∀ q x, q < i → ks[q]? = some x → ¬ Lt k x) ∧ Hid (∀ q x, j ≤ q → ks[q]? = some x → Lt k x) ∧ Below w.heap.size w wr) (fun ti tj _ => (intOf tj).toNat - (intOf ti).toNat)
  case atStart => exact ⟨0, n, rfl, rfl, Nat.zero_le _, Nat.le_refl _, fun q x hq => by omega, fun q x hq hx => by
    have := (List.getElem?_eq_some_iff.1 hx).1
    omega, hbe⟩
  case round =>
    obtain ⟨i, j, rfl, rfl, hij, hjn, H1, H2, hB⟩ := hrel
    by_cases hlt : i < j
    · obtain ⟨m, hm⟩ : ∃ m, m = i + (j - i) / 2 := ⟨_, rfl⟩
      have hm1 : i ≤ m := by omega
      have hm2 : m < j := by omega
      obtain ⟨p, hp⟩ : ∃ p, L[m]? = some p := ⟨L[m]'(by have := hnn.out; omega), List.getElem?_eq_getElem _⟩
      have A' := A.keep hB
      have c0 : wr.cell? ⟨g, 0, none⟩ = some (.slice ao n c) := by
        rw [hB.cell (p := ⟨g, 0, none⟩) (by obtain ⟨_, hb, _⟩ := A.top; exact hb.lt)]; exact hc
      obtain ⟨G, rfl, cG⟩ := hat m p hp
      have cG' : wr.cell? ⟨G, m, none⟩ = some p.v := by
        rw [hB.cell (p := ⟨G, m, none⟩) (cell_lt cG)]; exact cG
      obtain ⟨kv, cK, bK⟩ := A'.head O hp
      have hkm : ks[m]? = some ((kys p.es).headD []) := by rw [← hks.out]; exact fks_get hp
      have hpe : 0 < p.es.length := by
        have := O.full p.es (List.mem_map.2 ⟨p, List.mem_of_getElem? hp, rfl⟩)
        exact List.length_pos_iff.2 this
      simp only [Pg.v] at cG'
      rw [hm] at cG'
      have tC := compare_any bK (h.keep hB)
      generalize (kys p.es).headD [] = kp at *
      have HM : Hid (m = i + (j - i) / 2) := hm
      have hz0 : (0 : Int) ≤ (i : Int) + ((j : Int) - (i : Int)) / 2 := by omega
      have hz1 : (i : Int) + ((j : Int) - (i : Int)) / 2 < n := by omega
      have hz2 : ((i : Int) + ((j : Int) - (i : Int)) / 2).toNat = i + (j - i) / 2 := by omega
      generalize p.es.length = pn at *
      clear A' hm bK
      rcases lt_tri kp k with hc | hc | hc
      · rw [cmpB_lt hc] at tC
        go_wp2_with (go_at_call 55; refine tC.mono ?_; rintro e' w1 ⟨rfl, rfl⟩)
        go_roundw
        case rel => exact ⟨m + 1, j, by have := HM.out; congr 1; omega, rfl, by omega, hjn, fun q x hq hx => by
          by_cases hqm : q = m
          · subst hqm; rw [hkm] at hx; cases hx; exact hc.not
          · exact ((hHs.get (by omega) hx hkm).trans hc).not, H2.out, hB⟩
        case measure => have := HM.out; simp [intOf]; omega
      · have hF := hfin.out (m + 1) (by omega) (fun q x hq hx => by
          subst hc
          by_cases hqm : q = m
          · subst hqm; rw [hkm] at hx; cases hx; exact lt_irrefl _
          · exact (hHs.get (by omega) hx hkm).not) (fun q x hq hx => by subst hc; exact hHs.get (by omega) hkm hx)
        have HF : Hid (pgi (ens L) k = m) := by show _ = _; rw [hF]; omega
        have HC : Hid (kp = k) := hc
        rw [hc, cmpB_refl] at tC
        have hx0 : (i : Int) + ((j : Int) - (i : Int)) / 2 + 1 - 1 = (i : Int) + ((j : Int) - (i : Int)) / 2 := by omega
        have hx1 : ¬ ((i : Int) + ((j : Int) - (i : Int)) / 2 < 0) := by omega
        clear hF hc
        go_wp2_with (go_at_call 55; refine tC.mono ?_; rintro e' w1 ⟨rfl, rfl⟩)
        simp only [Exit.noGoto_ret]
        go_ret
        refine ⟨?_, hB⟩
        rw [HF.out]
        have := HM.out
        show Ending.returned (Value.int .i64 ((i : Int) + ((j : Int) - (i : Int)) / 2)) = _
        rw [show (i : Int) + ((j : Int) - (i : Int)) / 2 = (m : Int) by omega]
      · rw [cmpB_gt hc] at tC
        go_wp2_with (go_at_call 55; refine tC.mono ?_; rintro e' w1 ⟨rfl, rfl⟩)
        go_roundw
        case rel => exact ⟨i, m, rfl, by have := HM.out; congr 1; omega, by omega, by omega, H1.out, fun q x hq hx => by
          by_cases hqm : q = m
          · subst hqm; rw [hkm] at hx; cases hx; exact hc
          · exact hc.trans (hHs.get (by omega) hkm hx), hB⟩
        case measure => have := HM.out; simp [intOf]; omega
    · have hie : i = j := by omega
      subst hie
      have HF : Hid (pgi (ens L) k = i - 1) := hfin.out i (by omega) H1.out H2.out
      by_cases hi0 : i = 0
      · subst hi0
        go_wp2
        try simp only [Exit.noGoto_ret]
        go_ret
        refine ⟨?_, hB⟩
        rw [HF.out]
        rfl
      · have hx1 : ¬ ((i : Int) - 1 < 0) := by omega
        have hx2 : (0 : Int) ≤ (i : Int) - 1 := by omega
        go_wp2
        try simp only [Exit.noGoto_ret]
        go_ret
        refine ⟨?_, hB⟩
        rw [HF.out]
        show Ending.returned (Value.int .i64 ((i : Int) - 1)) = _
        rw [show (i : Int) - 1 = ((i - 1 : Nat) : Int) by omega]
theorem pgi_lt {P : List (List En)} (h : P ≠ []) (k : List Int) : pgi P k < P.length := by
  have h1 := plq_le (fks P) k
  have h2 : 0 < P.length := List.length_pos_iff.2 h
  simp only [fks, List.length_map] at h1
  unfold pgi fks
  omega
set_option maxHeartbeats 1000000 in
set_option maxRecDepth 100000 in
theorem find_nil {w : World} {F D : Nat → Prop} {g : Nat} {v : Value} (A : MapA w F D g []) :
    Calls Try.prog 32 #[.pointer (some ⟨g, 0, none⟩), v] w fun e w' => e = .returned (.tuple #[.int .i64 0, .int .i64 0, .bool false]) ∧ w' = w := by
  obtain ⟨ao, c, hc, hc1, hc2, hat⟩ := A.rd
  simp only [List.length_nil] at hc
  clear A hat
  go_enter Try.func32, Try.ntmps32
  go_wp2
  go_ret3
  exact ⟨rfl, rfl⟩
set_option maxHeartbeats 1000000 in
set_option maxRecDepth 100000 in
theorem find_at {w : World} {F D : Nat → Prop} {g : Nat} {L : List Pg} {p : Pg} {v : Value} {k : List Int} (A : MapA w F D g L) (O : Ord (ens L)) (h : By w v k) (hn : L.length ≤ 1000000000) (hp : L[pgi (ens L) k]? = some p) (hs : p.es.length ≤ 1000000) :
    Calls Try.prog 32 #[.pointer (some ⟨g, 0, none⟩), v] w fun e w' => e = .returned (.tuple #[.int .i64 (pgi (ens L) k), .int .i64 (plc (kys p.es) k), .bool (thr (kys p.es) k)]) ∧ Below w.heap.size w w' := by
  have tP := pageOf_any A O h hn
  have hlt := (List.getElem?_eq_some_iff.1 hp).1
  have hpm := List.mem_of_getElem? hp
  have tF : ∀ w', Below w.heap.size w w' → Calls Try.prog 45 #[p.v, v] w' fun e w'' => e = .returned (.tuple #[.int .i64 (plc (kys p.es) k), .bool (thr (kys p.es) k)]) ∧ Below w'.heap.size w' w'' := fun w' hb =>
    placeOf_any ((A.pages p hpm).1.keep hb) (O.page (ens_get hp)) (h.keep hb) hs
  obtain ⟨ao, c, hc, hc1, hc2, hat⟩ := A.rd
  obtain ⟨G, rfl, cG⟩ := hat _ p hp
  have hgl := cell_lt hc
  have hGl := cell_lt cG
  generalize pgi (ens L) k = i at *
  generalize plc (kys p.es) k = x at *
  generalize thr (kys p.es) k = y at *
  obtain ⟨n, hnn⟩ : ∃ n, L.length = n := ⟨_, rfl⟩
  rw [hnn] at hc hc1 hlt
  have hz0 : ¬ ((n : Int) = 0) := by omega
  have hz1 : (i : Int) < n := by omega
  simp only [Pg.v] at *
  clear A O h hat hp hpm
  go_enter Try.func32, Try.ntmps32
  go_wp2_with (first | (go_at_call 44; refine tP.mono ?_; rintro e' w1 ⟨rfl, hB1⟩; have c1 : w1.cell? ⟨g, 0, none⟩ = some (.slice (some ⟨G, 0, none⟩) n c) := (hB1.cell (p := ⟨g, 0, none⟩) hgl).trans hc; have c2 : w1.cell? ⟨G, i, none⟩ = some (.slice (some ⟨p.b, 0, none⟩) p.es.length p.c) := (hB1.cell (p := ⟨G, i, none⟩) hGl).trans cG; have tF1 := tF w1 hB1; clear tP tF) | (go_at_call 45; refine tF1.mono ?_; rintro e' w2 ⟨rfl, hB2⟩))
  go_ret3
  exact ⟨rfl, joinB hB1 hB2⟩
end Pg
end Go.Proofs.Ytjnjkgakdnjlmaa
