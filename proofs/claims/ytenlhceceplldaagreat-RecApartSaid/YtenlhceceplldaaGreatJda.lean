/- Several texts, joined: Pg0, PgR. -/
import Derived.Test.YtenlhceceplldaaGreatChecked
import Derived.WalkKit
import Derived.WalkSpells
import Derived.WalkLawsBesides
import Derived.Lib.SliceRun
import Derived.Lib.AppendZerosOnto
import Derived.Lib.Overlaps
import Derived.Lib.Bytealg
import Derived.Lib.JoinLaws
import Derived.Laws.Externs
import Derived.Laws.CopyRow
import Derived.Laws.CopyOwn
import Derived.Laws.Tables
import Derived.Laws.NewBlocks
import Derived.Laws.IdiomCopy
import Derived.Deep.RegionHeld3
import Derived.Deep.RegionLaw
import Derived.Deep.QuietTactic
import Derived.BigQuiet
import Derived.WalkSmall
import Derived.Shelf.RegionOpenPlain
import Derived.OneCell
namespace Go.Proofs.YtenlhceceplldaaGreat
namespace Pg
open Go.RowKit

theorem lt_of_block {w : World} {g : Nat} {o : Obj} (h : w.heap[g]? = some o) : g < w.heap.size := (Array.getElem?_eq_some_iff.1 h).1
theorem cell_lt {w : World} {b o : Nat} {v : Value} (h : w.cell? ⟨b, o, none⟩ = some v) : b < w.heap.size := by
  unfold World.cell? at h
  cases hh : w.heap[b]? with
  | none => simp [hh] at h
  | some ob => exact lt_of_block hh
/-- block g holds just cs, of type t -/
structure Blk (w : World) (g : Nat) (cs : List Value) (t : TypeId) : Prop where
  blk : w.heap[g]? = some (.cells cs.toArray t (0, 0))
theorem Blk.lt {w : World} {g : Nat} {cs : List Value} {t : TypeId} (h : Blk w g cs t) : g < w.heap.size := lt_of_block h.blk
theorem Blk.cell {w : World} {g : Nat} {cs : List Value} {t : TypeId} (h : Blk w g cs t) {i : Nat} {v : Value} (hi : cs[i]? = some v) : w.cell? ⟨g, i, none⟩ = some v := by
  simp only [World.cell?, h.blk]
  simpa using hi
theorem Blk.free {w : World} {g : Nat} {cs : List Value} {t : TypeId} (h : Blk w g cs t) (i : Nat) : w.frozen? ⟨g, i, none⟩ = false := by
  simp [World.frozen?, h.blk]
theorem Blk.keep {w w' : World} {g : Nat} {cs : List Value} {t : TypeId} (h : Blk w g cs t) (hb : Below w.heap.size w w') : Blk w' g cs t := ⟨by rw [hb.block g h.lt]; exact h.blk⟩
theorem Blk.keepB {B : Nat} {w w' : World} {g : Nat} {cs : List Value} {t : TypeId} (h : Blk w g cs t) (hb : Below B w w') (hg : g < B) : Blk w' g cs t := ⟨by rw [hb.block g hg]; exact h.blk⟩
theorem Blk.drew {w : World} {g : Nat} {cs : List Value} {t : TypeId} (h : Blk w g cs t) : Blk w.drew g cs t := ⟨h.blk⟩
theorem blk_new (w : World) (cs : List Value) (t : TypeId) : Blk (w.alloc (.cells cs.toArray t)) w.heap.size cs t := ⟨by
  show (w.heap.push _)[w.heap.size]? = _
  rw [Array.getElem?_push_size]⟩
theorem Blk.row {w : World} {g : Nat} {cs : List Value} (ds : List Value) {t : TypeId} (h : Blk w g cs t) : Blk (w.setRow g ds.toArray) g ds t := ⟨by rw [setRow_heap w g _ _ _ _ h.blk]⟩
theorem Blk.other {w : World} {g g' : Nat} {cs : List Value} {t : TypeId} (h : Blk w g cs t) (hne : g ≠ g') (ds : Array Value) : Blk (w.setRow g' ds) g cs t := ⟨by rw [setRow_other w g' g ds hne]; exact h.blk⟩
theorem Blk.same {w w' : World} {g : Nat} {cs : List Value} {t : TypeId} (h : Blk w g cs t) (hb : w'.heap[g]? = w.heap[g]?) : Blk w' g cs t := ⟨by rw [hb]; exact h.blk⟩
theorem Blk.eq {w : World} {g : Nat} {cs ds : List Value} {t u : TypeId} (h : Blk w g cs t) (h' : Blk w g ds u) : cs = ds ∧ t = u := by
  have := h.blk.symm.trans h'.blk
  simp at this
  exact this
theorem Blk.setCell {w : World} {g : Nat} {cs : List Value} {t : TypeId} (h : Blk w g cs t) {i : Nat} (v : Value) : Blk (w.setCell ⟨g, i, none⟩ v) g (cs.set i v) t := ⟨by
  have := h.blk
  simp only [World.setCell, Array.getElem?_modify, if_true, this]
  simp⟩
theorem Blk.off {w : World} {g g' : Nat} {cs : List Value} {t : TypeId} (h : Blk w g cs t) (hne : g ≠ g') {i : Nat} (v : Value) : Blk (w.setCell ⟨g', i, none⟩ v) g cs t := ⟨by rw [Below.heap_setCell w _ v g hne]; exact h.blk⟩
theorem below_alloc (w : World) (o : Obj) : Below w.heap.size w (w.alloc o) := (Below.refl _ _).alloc (Nat.le_refl _) _
theorem joinB {w wa w' : World} (b : Below w.heap.size w wa) (h : Below wa.heap.size wa w') : Below w.heap.size w w' := b.trans (h.mono b.size)
theorem below_row {B g : Nat} {w w' : World} (h : Below B w w') (hB : B ≤ g) (ds : Array Value) : Below B w (w'.setRow g ds) :=
  h.trans ⟨rfl, rfl, rfl, by simp [World.setRow], fun k hk => setRow_other w' g k ds (by omega)⟩

/-- what is changed lies in F, or is new -/
structure Chg (F : Nat → Prop) (w w' : World) : Prop where
  os : w'.os = w.os
  tape : w'.tape = w.tape
  output : w'.output = w.output
  size : w.heap.size ≤ w'.heap.size
  same : ∀ b, b < w.heap.size → ¬ F b → w'.heap[b]? = w.heap[b]?
theorem Chg.refl (F : Nat → Prop) (w : World) : Chg F w w := ⟨rfl, rfl, rfl, Nat.le_refl _, fun _ _ _ => rfl⟩
theorem Chg.of {F : Nat → Prop} {w w' : World} (h : Below w.heap.size w w') : Chg F w w' := ⟨h.os, h.tape, h.output, h.size, fun b hb _ => h.block b hb⟩
theorem Chg.nothing {w w' : World} (h : Chg (fun _ => False) w w') : Below w.heap.size w w' := ⟨h.os, h.tape, h.output, h.size, fun b hb => h.same b hb id⟩
theorem Chg.below {F : Nat → Prop} {B : Nat} {w w' : World} (h : Chg F w w') (hF : ∀ b, F b → B ≤ b) (hB : B ≤ w.heap.size) : Below B w w' := ⟨h.os, h.tape, h.output, h.size, fun b hb => h.same b (by omega) fun f => by have := hF b f; omega⟩
theorem Chg.trans {F F' : Nat → Prop} {w w1 w2 : World} (h : Chg F w w1) (h' : Chg F' w1 w2) (hF : ∀ b, b < w.heap.size → F' b → F b) : Chg F w w2 :=
  ⟨h'.os.trans h.os, h'.tape.trans h.tape, h'.output.trans h.output, Nat.le_trans h.size h'.size, fun b hb hf => (h'.same b (Nat.lt_of_lt_of_le hb h.size) fun f => hf (hF b hb f)).trans (h.same b hb hf)⟩
theorem Chg.mono {F F' : Nat → Prop} {w w1 : World} (h : Chg F w w1) (hF : ∀ b, b < w.heap.size → F b → F' b) : Chg F' w w1 := ⟨h.os, h.tape, h.output, h.size, fun b hb hf => h.same b hb fun f => hf (hF b hb f)⟩
theorem Chg.drew {F : Nat → Prop} {w w' : World} (h : Chg F w w') : Chg F w w'.drew := ⟨h.os, h.tape, h.output, h.size, h.same⟩
theorem Chg.row {F : Nat → Prop} {w w' : World} (h : Chg F w w') {g : Nat} (hg : F g ∨ w.heap.size ≤ g) (ds : Array Value) : Chg F w (w'.setRow g ds) :=
  ⟨h.os, h.tape, h.output, by simpa [World.setRow] using h.size, fun b hb hf => by
    have hne : b ≠ g := fun e => by subst e; rcases hg with f | f; exact hf f; omega
    exact (setRow_other w' g b ds hne).trans (h.same b hb hf)⟩
theorem Chg.cell {F : Nat → Prop} {w w' : World} (h : Chg F w w') {g i : Nat} (hg : F g ∨ w.heap.size ≤ g) (v : Value) : Chg F w (w'.setCell ⟨g, i, none⟩ v) :=
  ⟨h.os, h.tape, h.output, by simpa [World.setCell] using h.size, fun b hb hf => by
    have hne : b ≠ g := fun e => by subst e; rcases hg with f | f; exact hf f; omega
    exact (Below.heap_setCell w' _ v b hne).trans (h.same b hb hf)⟩
theorem Chg.alloc {F : Nat → Prop} {w w' : World} (h : Chg F w w') (o : Obj) : Chg F w (w'.alloc o) := h.trans (Chg.of (F := fun _ => False) (below_alloc w' o)) (fun _ _ f => f.elim)
theorem Blk.chg {F : Nat → Prop} {w w' : World} {g : Nat} {cs : List Value} {t : TypeId} (h : Blk w g cs t) (hc : Chg F w w') (hg : ¬ F g) : Blk w' g cs t := ⟨by rw [hc.same g h.lt hg]; exact h.blk⟩

/-- the stretch of a list from o on, laid over by cs -/
theorem splice_def {α : Type} (L : List α) (o : Nat) (cs : List α) : splice L o cs = L.take o ++ cs ++ L.drop (o + cs.length) := by simp [splice]
theorem run_copyK {P : Program} (w : World) (dT sT ty elem : TypeId) (k g o dLen dCap : Nat) (a : Addr) (sLen sCap : Nat) (L cs : List Value) (t : TypeId)
    (hu : P.underlying dT = some (.slice elem)) (hs : (P.info? elem).map (·.size) = some k)
    (hg : Blk w g L t) (m : Nat) (hm : Nat.min sLen dLen = m) (hn : cs.length = m * k)
    (hsrc : ∀ j v, cs[j]? = some v → w.cell? (a.add j) = some v) (hfit : o + cs.length ≤ L.length) (h1 : ∀ v ∈ cs, v.oneCell' = true) :
    (Builtin.copy_ #[dT, sT] ty #[.slice (some ⟨g, o, none⟩) dLen dCap, .slice (some a) sLen sCap]).run P w =
      .ok (goInt m) (w.setRow g (splice L o cs).toArray) := by
  have hl := run_loadCells_list (P := P) w a cs hsrc
  have hst := run_storeCells_at P g o t cs 0 L.toArray w hg.blk (by simpa using hfit) h1
  cases hq : P.info? elem with
  | none => simp [hq] at hs
  | some i =>
    have hi : i.size = k := by simpa [hq] using hs
    simp [Builtin.copy_, run_underlying hu, Builtin.lenOf, Builtin.firstCells, sizeOf, typeInfo, hq, hi, hm, ← hn, hl, hst, splice_def]
theorem run_clearK {P : Program} (w : World) (T ty elem : TypeId) (z : Value) (k g o n c : Nat) (L : List Value) (t : TypeId) (hu : P.underlying T = some (.slice elem)) (hv : ∀ w, (zeroValue elem).run P w = .ok z w)
    (hz : z.cells.size = k) (h1 : ∀ v ∈ z.cells, v.oneCell' = true) (hg : Blk w g L t) (hn : 0 < n) (hk : 0 < k) (hfit : o + n * k ≤ L.length) :
    (Builtin.clear_ #[T] ty #[.slice (some ⟨g, o, none⟩) n c]).run P w = .ok (.tuple #[]) (w.setRow g (splice L o (Builtin.zeroCells z.cells n).toList).toArray) := by
  have hlen : (Builtin.zeroCells z.cells n).toList.length = n * k := by simp [Builtin.zeroCells, hz]
  have hone : ∀ v ∈ (Builtin.zeroCells z.cells n).toList, v.oneCell' = true := by
    intro v hv
    simp [Builtin.zeroCells] at hv
    obtain ⟨i, hi, rfl⟩ := hv
    have : i % z.cells.size < z.cells.size := Nat.mod_lt _ (by omega)
    rw [show z.cells[i % z.cells.size]! = z.cells[i % z.cells.size] from getElem!_pos z.cells _ this]
    exact h1 _ (Array.getElem_mem this)
  have hst := run_storeCells_at P g o t (Builtin.zeroCells z.cells n).toList 0 L.toArray w hg.blk (by rw [hlen]; simpa using hfit) hone
  obtain ⟨m, rfl⟩ : ∃ m, n = m + 1 := ⟨n - 1, by omega⟩
  simp only [Nat.add_zero] at hst
  simp [Builtin.clear_, run_underlying hu, hv, hst, splice_def]
theorem splice_at {α : Type} (A B C D : List α) (k : Nat) (hk : A.length = k) (hB : B.length = C.length) : splice (A ++ B ++ D) k C = A ++ C ++ D := by
  subst hk
  have h1 : (A ++ B ++ D).take A.length = A := by rw [List.append_assoc, List.take_left]
  have h2 : (A ++ B ++ D).drop (A.length + C.length) = D := by
    rw [← hB, ← List.length_append, List.drop_left]
  rw [splice_def, h1, h2]
/-- room is made at place i for vs, and vs is laid there -/
theorem shift_eq {α : Type} (xs sp vs : List α) (i : Nat) (hi : i ≤ xs.length) (hc : vs.length ≤ sp.length) :
    splice (splice (xs ++ sp) (i + vs.length) (xs.drop i)) i vs = xs.take i ++ vs ++ xs.drop i ++ sp.drop vs.length := by
  obtain ⟨A, B, hA, rfl, rfl⟩ : ∃ A B, A.length = i ∧ xs = A ++ B ∧ i = A.length := ⟨xs.take i, xs.drop i, by simp; omega, by simp, by simp; omega⟩
  have e1 : (A ++ B).drop A.length = B := by simp
  have e2 : (A ++ B).take A.length = A := by simp
  rw [e1, e2]
  have h1 : A ++ B ++ sp = (A ++ (B ++ sp).take vs.length) ++ ((B ++ sp).drop vs.length).take B.length ++ sp.drop vs.length := by
    have h2 : ((B ++ sp).drop vs.length).take B.length ++ sp.drop vs.length = (B ++ sp).drop vs.length := by
      have h3 : sp.drop vs.length = ((B ++ sp).drop vs.length).drop B.length := by
        rw [List.drop_drop, Nat.add_comm, ← List.drop_drop]; simp
      rw [h3, List.take_append_drop]
    rw [List.append_assoc, List.append_assoc (A ++ _), h2, List.append_assoc, List.take_append_drop]
  rw [h1, splice_at (A ++ (B ++ sp).take vs.length) _ B _ (A.length + vs.length) (by simp; omega) (by simp; omega), List.append_assoc (A ++ _), splice_at A _ vs _ A.length rfl (by simp; omega), List.append_assoc (A ++ vs)]
/-- a builtin whose run is known, in a region that draws -/
theorem step_bi {P : Program} {ops : Array Oper} {o : Oper} {a : Act} {w : World} {K : Act → World → Prop} {Q : Exit → Act → World → Prop} {E : Prop} (hg : o.guard = none) {v : Value} {w' : World}
    (hr : (execOp a.eval o).run P w = .ok (.value v) w') (hK : K (a.put o.dst v) w') : if Region.wanted o (yielded ops a.tmps) = true then Oper.wp P o a w K Q else E := by
  rw [if_pos (by simp [Region.wanted, hg])]
  unfold Oper.wp
  rw [hr]
  exact hK
theorem list_bi {P : Program} {ops : Array Oper} {rest : List Oper} {o : Oper} {a : Act} {w : World} {Q : Exit → Act → World → Prop} (hg : o.guard = none) {v : Value} {w' : World}
    (hr : (execOp a.eval o).run P w = .ok (.value v) w') (hK : wpList P ops Q rest (a.put o.dst v) w') : wpList P ops Q (o :: rest) a w :=
  wpList_plain hg fun K hK' => by
    unfold Oper.wp
    rw [hr]
    exact hK' _ _ hK
theorem exec_copy {P : Program} {o : Oper} {a : Act} {w : World} (d s : Operand) (t t' : TypeId) (ho : o.op = .call { callee := .builtin .copy, args := #[d, s], argTypes := #[t, t'] }) (v u : Value) (hd : a.eval d = v) (hs : a.eval s = u) {v' : Value} {w' : World}
    (hr : (Builtin.copy_ #[t, t'] o.type #[v, u]).run P w = .ok v' w') : (execOp a.eval o).run P w = .ok (.value v') w' := by
  simp only [execOp, ho, resolve, invoke, builtin, Sem.run_bind, Sem.run_pure, Result.andThen_ok, List.map_toArray, List.map_cons, List.map_nil, hd, hs, hr]
theorem exec_app {P : Program} {o : Oper} {a : Act} {w : World} (d s : Operand) (t t' : TypeId) (ho : o.op = .call { callee := .builtin .append, args := #[d, s], argTypes := #[t, t'] }) (v u : Value) (hd : a.eval d = v) (hs : a.eval s = u) {v' : Value} {w' : World}
    (hr : (Builtin.append_ #[t, t'] o.type #[v, u]).run P w = .ok v' w') : (execOp a.eval o).run P w = .ok (.value v') w' := by
  simp only [execOp, ho, resolve, invoke, builtin, Sem.run_bind, Sem.run_pure, Result.andThen_ok, List.map_toArray, List.map_cons, List.map_nil, hd, hs, hr]
theorem exec_clear {P : Program} {o : Oper} {a : Act} {w : World} (d : Operand) (t : TypeId) (ho : o.op = .call { callee := .builtin .clear, args := #[d], argTypes := #[t] }) (v : Value) (hd : a.eval d = v) {v' : Value} {w' : World}
    (hr : (Builtin.clear_ #[t] o.type #[v]).run P w = .ok v' w') : (execOp a.eval o).run P w = .ok (.value v') w' := by
  simp only [execOp, ho, resolve, invoke, builtin, Sem.run_bind, Sem.run_pure, Result.andThen_ok, List.map_toArray, List.map_cons, List.map_nil, hd, hr]
theorem step_copy {P : Program} {ops : Array Oper} {o : Oper} {a : Act} {w : World} {K : Act → World → Prop} {Q : Exit → Act → World → Prop} {E : Prop} (hg : o.guard = none) (d s : Operand) (t t' : TypeId) (ho : o.op = .call { callee := .builtin .copy, args := #[d, s], argTypes := #[t, t'] }) (v u : Value) (hd : a.eval d = v) (hs : a.eval s = u) {v' : Value} {w' : World}
    (hr : (Builtin.copy_ #[t, t'] o.type #[v, u]).run P w = .ok v' w') (hK : K (a.put o.dst v') w') : if Region.wanted o (yielded ops a.tmps) = true then Oper.wp P o a w K Q else E := step_bi hg (exec_copy d s t t' ho v u hd hs hr) hK
theorem step_app {P : Program} {ops : Array Oper} {o : Oper} {a : Act} {w : World} {K : Act → World → Prop} {Q : Exit → Act → World → Prop} {E : Prop} (hg : o.guard = none) (d s : Operand) (t t' : TypeId) (ho : o.op = .call { callee := .builtin .append, args := #[d, s], argTypes := #[t, t'] }) (v u : Value) (hd : a.eval d = v) (hs : a.eval s = u) {v' : Value} {w' : World}
    (hr : (Builtin.append_ #[t, t'] o.type #[v, u]).run P w = .ok v' w') (hK : K (a.put o.dst v') w') : if Region.wanted o (yielded ops a.tmps) = true then Oper.wp P o a w K Q else E := step_bi hg (exec_app d s t t' ho v u hd hs hr) hK
end Pg
end Go.Proofs.YtenlhceceplldaaGreat

namespace Go.Proofs.YtenlhceceplldaaGreat
namespace Pg
open Go.RowKit Go.Lib

/-- block b holds n elements of k cells each, xs, and room for c -/
structure Rw (w : World) (E : TypeId) (k b n c : Nat) (xs : List Value) : Prop where
  ex : ∃ sp, Blk w b (xs ++ sp) E ∧ xs.length = n * k ∧ (xs ++ sp).length = c * k ∧ n ≤ c ∧ c ≤ maxLen
theorem Rw.lt {w : World} {E : TypeId} {k b n c : Nat} {xs : List Value} (h : Rw w E k b n c xs) : b < w.heap.size := by
  obtain ⟨sp, h, _⟩ := h.ex; exact h.lt
theorem Rw.same {w w' : World} {E : TypeId} {k b n c : Nat} {xs : List Value} (h : Rw w E k b n c xs) (hb : w'.heap[b]? = w.heap[b]?) : Rw w' E k b n c xs := by
  obtain ⟨sp, h, h'⟩ := h.ex; exact ⟨sp, h.same hb, h'⟩
theorem Rw.keep {w w' : World} {E : TypeId} {k b n c : Nat} {xs : List Value} (h : Rw w E k b n c xs) (hb : Below w.heap.size w w') : Rw w' E k b n c xs := h.same (hb.block b h.lt)
theorem Rw.chg {F : Nat → Prop} {w w' : World} {E : TypeId} {k b n c : Nat} {xs : List Value} (h : Rw w E k b n c xs) (hb : Chg F w w') (hg : ¬ F b) : Rw w' E k b n c xs := h.same (hb.same b h.lt hg)
theorem Rw.drew {w : World} {E : TypeId} {k b n c : Nat} {xs : List Value} (h : Rw w E k b n c xs) : Rw w.drew E k b n c xs := h.same rfl
theorem Rw.len {w : World} {E : TypeId} {k b n c : Nat} {xs : List Value} (h : Rw w E k b n c xs) : xs.length = n * k := by
  obtain ⟨sp, h, h', _⟩ := h.ex; exact h'
theorem Rw.le {w : World} {E : TypeId} {k b n c : Nat} {xs : List Value} (h : Rw w E k b n c xs) : n ≤ c ∧ c ≤ maxLen := by
  obtain ⟨sp, h, _, _, h'⟩ := h.ex; exact h'
theorem Rw.cell {w : World} {E : TypeId} {k b n c : Nat} {xs : List Value} (h : Rw w E k b n c xs) {i : Nat} {v : Value} (hi : xs[i]? = some v) : w.cell? ⟨b, i, none⟩ = some v := by
  obtain ⟨sp, h, _⟩ := h.ex
  exact h.cell (by rw [List.getElem?_append_left (List.getElem?_eq_some_iff.1 hi).1]; exact hi)
theorem Rw.free {w : World} {E : TypeId} {k b n c : Nat} {xs : List Value} (h : Rw w E k b n c xs) (i : Nat) : w.frozen? ⟨b, i, none⟩ = false := by
  obtain ⟨sp, h, _⟩ := h.ex; exact h.free i
theorem Rw.kind {w : World} {E : TypeId} {k b n c : Nat} {xs : List Value} (h : Rw w E k b n c xs) : ∃ cs, Blk w b cs E := by
  obtain ⟨sp, h, _⟩ := h.ex; exact ⟨_, h⟩
theorem Rw.set {w : World} {E : TypeId} {k b n c : Nat} {xs : List Value} (h : Rw w E k b n c xs) (i : Nat) (hi : i < xs.length) (v : Value) : Rw (w.setCell ⟨b, i, none⟩ v) E k b n c (xs.set i v) := by
  obtain ⟨sp, h, h1, h2, h3⟩ := h.ex
  refine ⟨sp, ?_, by simpa using h1, by simpa using h2, h3⟩
  have := h.setCell (i := i) v
  rwa [List.set_append_left _ _ hi] at this
theorem blk_rw {w : World} {E : TypeId} {k b n : Nat} {xs : List Value} (h : Blk w b xs E) (hx : xs.length = n * k) (hn : n ≤ maxLen) : Rw w E k b n n xs := ⟨[], by simpa using h, hx, by simpa using hx, Nat.le_refl _, hn⟩
/-- fewer elements of the same block -/
theorem Rw.front {w : World} {E : TypeId} {k b n c : Nat} {xs : List Value} (h : Rw w E k b n c xs) {m : Nat} (hm : m ≤ n) : Rw w E k b m c (xs.take (m * k)) := by
  obtain ⟨sp, h, h1, h2, h3, h4⟩ := h.ex
  have hk : m * k ≤ n * k := Nat.mul_le_mul_right _ hm
  refine ⟨xs.drop (m * k) ++ sp, by rw [← List.append_assoc, List.take_append_drop]; exact h, by rw [List.length_take]; omega, by rw [← List.append_assoc, List.take_append_drop]; exact h2, by omega, h4⟩

/-- more elements of the same block -/
theorem Rw.more {w : World} {E : TypeId} {k b n c : Nat} {xs : List Value} (h : Rw w E k b n c xs) {m : Nat} (hm : n + m ≤ c) : ∃ s, s.length = m * k ∧ Rw w E k b (n + m) c (xs ++ s) := by
  obtain ⟨sp, h, h1, h2, h3, h4⟩ := h.ex
  have h5 : n * k + m * k ≤ c * k := by rw [← Nat.add_mul]; exact Nat.mul_le_mul_right _ hm
  rw [List.length_append] at h2
  refine ⟨sp.take (m * k), by rw [List.length_take]; omega, sp.drop (m * k), ?_, ?_, ?_, hm, h4⟩
  · rw [List.append_assoc, List.take_append_drop]; exact h
  · rw [List.length_append, List.length_take, Nat.add_mul]; omega
  · rw [List.append_assoc, List.take_append_drop, List.length_append]; exact h2
theorem Rw.to {w : World} {E : TypeId} {k b n c : Nat} {xs ys : List Value} (h : Rw w E k b n c xs) (e : xs = ys) : Rw w E k b n c ys := e ▸ h

section
variable {P : Program} {w : World} {T E : TypeId} {k bytes : Nat} {z : Value}
/-- what a slice's type says -/
structure Kd (P : Program) (T E : TypeId) (k bytes : Nat) (z : Value) : Prop where
  und : P.underlying T = some (.slice E)
  inf : (P.info? E).map (fun i => (i.zero, i.size, i.bytes)) = some (some z, k, bytes)
  zs : z.cells.size = k
  z1 : ∀ v ∈ z.cells, v.oneCell' = true
  k0 : 0 < k
theorem Kd.size (h : Kd P T E k bytes z) : (P.info? E).map (·.size) = some k := by
  obtain ⟨i, hi, hz, hs, hb⟩ := info_parts h.inf
  rw [hi]; simp [hs]
theorem Kd.sizeOf (h : Kd P T E k bytes z) (w : World) : (Go.sizeOf E).run P w = .ok k w := by
  obtain ⟨i, hi, hz, hs, hb⟩ := info_parts h.inf
  simp [Go.sizeOf, typeInfo, hi, hs]
theorem Kd.zero (h : Kd P T E k bytes z) (w : World) : (zeroValue E).run P w = .ok z w := by
  obtain ⟨i, hi, hz, hs, hb⟩ := info_parts h.inf
  simp [zeroValue, typeInfo, hi, hz]
theorem new_row (w : World) (E : TypeId) (zc : Array Value) (k n c : Nat) (xs : List Value) (hz : zc.size = k) (hx : xs.length = n * k) (hn : n ≤ c) (hc : c ≤ maxLen) :
    Rw (w.drew.alloc (.cells (xs.toArray ++ Builtin.zeroCells zc (c - n)) E)) E k w.heap.size n c xs :=
  ⟨(Builtin.zeroCells zc (c - n)).toList, ⟨by
    have := (blk_new w.drew (xs ++ (Builtin.zeroCells zc (c - n)).toList) E).blk
    rw [show (xs ++ (Builtin.zeroCells zc (c - n)).toList).toArray = xs.toArray ++ Builtin.zeroCells zc (c - n) by apply Array.ext'; simp] at this ⊢
    exact this⟩, hx, by
    rw [List.length_append, hx, Array.length_toList, size_zeroCells, hz, ← Nat.add_mul]; congr 1; omega, hn, hc⟩
/-- append of m elements that lie at a -/
theorem app_row (H : Kd P T E k bytes z) (ty : TypeId) {b n c : Nat} {xs : List Value} (R : Rw w E k b n c xs) (a : Addr) (m cc : Nat) (news : List Value) (hl : news.length = m * k) (hnews : ∀ j u, news[j]? = some u → w.cell? (a.add j) = some u) (h1 : ∀ u ∈ news, u.oneCell' = true)
    (hbig : (n + m) * bytes ≤ 140737488355328) (hm : n + m ≤ 140737488355328) :
    ∃ b' c' w', (Builtin.append_ #[T, T] ty #[.slice (some ⟨b, 0, none⟩) n c, .slice (some a) m cc]).run P w = .ok (.slice (some ⟨b', 0, none⟩) (n + m) c') w' ∧ (b' = b ∨ b' = w.heap.size) ∧ Rw w' E k b' (n + m) c' (xs ++ news) ∧ Chg (· = b) w w' := by
  obtain ⟨i, hi, hz, hs, hb⟩ := info_parts H.inf
  obtain ⟨sp, hB, hx, hc, hnc, hcm⟩ := R.ex
  subst hs hb
  have hmx : n + m ≤ maxLen := by simp only [maxLen]; omega
  by_cases hroom : n + m ≤ c
  · have hfit : n * i.size + news.length ≤ (xs ++ sp).toArray.size := by
      rw [List.size_toArray, hc, hl, ← Nat.add_mul]; exact Nat.mul_le_mul_right _ hroom
    have hr := run_append_room (P := P) w T ty E i H.und hi b n c (xs ++ sp).toArray hB.blk a m cc news hl hnews h1 hroom hfit
    refine ⟨b, c, _, hr, .inl rfl, ⟨sp.drop news.length, ?_, by rw [List.length_append, hx, hl, Nat.add_mul], ?_, hroom, hcm⟩, (Chg.refl (· = b) w).row (g := b) (.inl rfl) _⟩
    · have := hB.row (xs ++ news ++ sp.drop news.length)
      have e : (xs ++ sp).toArray.toList.take (n * i.size) ++ news ++ (xs ++ sp).toArray.toList.drop (n * i.size + news.length) = xs ++ news ++ sp.drop news.length := by
        rw [show (xs ++ sp).toArray.toList = xs ++ sp from rfl, ← hx, List.take_left, ← List.drop_drop, List.drop_left]
      rw [e]; exact this
    · have h2 : xs.length + sp.length = c * i.size := by rw [← List.length_append]; exact hc
      have h3 : n * i.size + m * i.size ≤ c * i.size := by rw [← Nat.add_mul]; exact Nat.mul_le_mul_right _ hroom
      rw [List.length_append, List.length_append, List.length_drop]; omega
  · have holds : ∀ j u, xs[j]? = some u → w.cell? ((⟨b, 0, none⟩ : Addr).add j) = some u := fun j u hj => by rw [Addr.add_lit, Nat.zero_add]; exact R.cell hj
    have hr := run_append_grow (P := P) w T ty E i z H.und hi hz ⟨b, 0, none⟩ n c xs hx holds a m cc news hl hnews (by omega) (by omega) (growslice_fits (by omega) hbig)
    refine ⟨w.heap.size, _, _, hr, .inr rfl, ?_, (Chg.refl _ w).drew.alloc _⟩
    have := new_row w E z.cells i.size (n + m) (grownCap w (n + m) c E) (xs ++ news) H.zs (by rw [List.length_append, hx, hl, Nat.add_mul]) (grownCap_ge w _ _ _) (grownCap_le_maxLen w _ _ _ hmx)
    simpa using this
theorem app_nil (H : Kd P T E k bytes z) (ty : TypeId) (a : Addr) (m cc : Nat) (news : List Value) (hl : news.length = m * k) (hnews : ∀ j u, news[j]? = some u → w.cell? (a.add j) = some u)
    (h0 : 0 < m) (hbig : m * bytes ≤ 140737488355328) (hm : m ≤ 140737488355328) :
    ∃ c' w', (Builtin.append_ #[T, T] ty #[.slice none 0 0, .slice (some a) m cc]).run P w = .ok (.slice (some ⟨w.heap.size, 0, none⟩) m c') w' ∧ Rw w' E k w.heap.size m c' news ∧ Below w.heap.size w w' := by
  obtain ⟨i, hi, hz, hs, hb⟩ := info_parts H.inf
  subst hs hb
  have hr := run_append_nil (P := P) w T ty E i z H.und hi hz a m cc news hl hnews h0 (by omega) (by omega)
  refine ⟨_, _, hr, ?_, ?_⟩
  · exact new_row w E z.cells i.size m (grownCap w m 0 E) news H.zs hl (grownCap_ge w _ _ _) (grownCap_le_maxLen w _ _ _ (by simp only [maxLen]; omega))
  · exact (Below.refl _ w).trans ⟨rfl, rfl, rfl, by simp, fun b hb => by
      have := (below_alloc w.drew (.cells (news.toArray ++ Builtin.zeroCells z.cells (grownCap w m 0 E - m)) E)).block b hb
      exact this⟩
/-- append of m noughts where there is no room for them -/
theorem app_zeros (H : Kd P T E k bytes z) (tn ty : TypeId) (hn : P.underlying tn = some (.int .i64)) {b n c : Nat} {xs : List Value} (R : Rw w E k b n c xs) (m : Nat) (h0 : 0 < m) (hc : c < n + m) (hbig : (n + m) * bytes ≤ 140737488355328) (hm : n + m ≤ 140737488355328) :
    ∃ c' w', (Builtin.append_ #[T, tn] ty #[.slice (some ⟨b, 0, none⟩) n c, .int .i64 m]).run P w = .ok (.slice (some ⟨w.heap.size, 0, none⟩) (n + m) c') w' ∧ Rw w' E k w.heap.size (n + m) c' (xs ++ (Builtin.zeroCells z.cells m).toList) ∧ Below w.heap.size w w' := by
  obtain ⟨i, hi, hz, hs, hb⟩ := info_parts H.inf
  have hx := R.len
  subst hs hb
  have hold : (Builtin.firstCells i.size n (.slice (some ⟨b, 0, none⟩) n c)).run P w.drew = .ok xs.toArray w.drew :=
    run_firstCells_some w.drew i.size n ⟨b, 0, none⟩ n c xs hx (fun j v hj => by rw [Addr.add_lit, Nat.zero_add]; exact R.cell hj)
  have hm' : m * i.bytes ≤ (n + m) * i.bytes := Nat.mul_le_mul_right _ (by omega)
  have hr := run_append_grow_zeros w T tn ty E i z .i64 .i64 H.und hn hi hz (some ⟨b, 0, none⟩) n c xs hold m h0 H.k0 hc (by omega) (by omega) (growslice_fits hc hbig)
  refine ⟨_, _, hr, ?_, ?_⟩
  · have := new_row w E z.cells i.size (n + m) (grownCap w (n + m) c E) (xs ++ (Builtin.zeroCells z.cells m).toList) H.zs (by rw [List.length_append, hx, Array.length_toList, size_zeroCells, H.zs, Nat.add_mul]) (grownCap_ge w _ _ _) (grownCap_le_maxLen w _ _ _ (by simp only [maxLen]; omega))
    rw [show (xs ++ (Builtin.zeroCells z.cells m).toList).toArray = xs.toArray ++ Builtin.zeroCells z.cells m by apply Array.ext'; simp] at this
    exact this
  · exact ⟨rfl, rfl, rfl, by simp, fun b hb => (below_alloc w.drew (.cells (xs.toArray ++ Builtin.zeroCells z.cells m ++ Builtin.zeroCells z.cells (grownCap w (n + m) c E - (n + m))) E)).block b hb⟩
theorem app_zeros_nil (H : Kd P T E k bytes z) (tn ty : TypeId) (hn : P.underlying tn = some (.int .i64)) (m : Nat) (h0 : 0 < m) (hbig : m * bytes ≤ 140737488355328) (hm : m ≤ 140737488355328) :
    ∃ c' w', (Builtin.append_ #[T, tn] ty #[.slice none 0 0, .int .i64 m]).run P w = .ok (.slice (some ⟨w.heap.size, 0, none⟩) m c') w' ∧ Rw w' E k w.heap.size m c' (Builtin.zeroCells z.cells m).toList ∧ Below w.heap.size w w' := by
  obtain ⟨i, hi, hz, hs, hb⟩ := info_parts H.inf
  subst hs hb
  have hr := run_append_nil_zeros w T tn ty E i z .i64 .i64 H.und hn hi hz m h0 H.k0 (by omega) (by omega)
  refine ⟨_, _, hr, ?_, ?_⟩
  · have := new_row w E z.cells i.size m (grownCap w m 0 E) (Builtin.zeroCells z.cells m).toList H.zs (by rw [Array.length_toList, size_zeroCells, H.zs]) (grownCap_ge w _ _ _) (grownCap_le_maxLen w _ _ _ (by simp only [maxLen]; omega))
    simpa using this
  · exact ⟨rfl, rfl, rfl, by simp, fun b hb => (below_alloc w.drew (.cells (Builtin.zeroCells z.cells m ++ Builtin.zeroCells z.cells (grownCap w m 0 E - m)) E)).block b hb⟩
/-- copy into a stretch of a row -/
theorem copy_row (H : Kd P T E k bytes z) (ty : TypeId) {g n c : Nat} {xs : List Value} (R : Rw w E k g n c xs) (o dLen dCap : Nat) (a : Addr) (sLen sCap : Nat) (cs : List Value) (m : Nat) (hm : Nat.min sLen dLen = m) (hn : cs.length = m * k)
    (hsrc : ∀ j v, cs[j]? = some v → w.cell? (a.add j) = some v) (hfit : o + cs.length ≤ xs.length) (h1 : ∀ v ∈ cs, v.oneCell' = true) :
    ∃ w', (Builtin.copy_ #[T, T] ty #[.slice (some ⟨g, o, none⟩) dLen dCap, .slice (some a) sLen sCap]).run P w = .ok (goInt m) w' ∧ Rw w' E k g n c (splice xs o cs) ∧ Chg (· = g) w w' := by
  obtain ⟨sp, hB, hx, hc, hnc, hcm⟩ := R.ex
  have hr := run_copyK (P := P) w T T ty E k g o dLen dCap a sLen sCap (xs ++ sp) cs E H.und H.size hB m hm hn hsrc (by rw [List.length_append]; omega) h1
  have e : splice (xs ++ sp) o cs = splice xs o cs ++ sp := by
    rw [splice_def, splice_def, List.take_append_of_le_length (by omega), List.drop_append_of_le_length (by omega), List.append_assoc, List.append_assoc, List.append_assoc]
  have hl := length_splice xs o cs hfit
  refine ⟨_, hr, ⟨sp, by rw [e]; exact hB.row _, by rw [hl]; exact hx, by rw [List.length_append, hl, ← List.length_append]; exact hc, hnc, hcm⟩, (Chg.refl (· = g) w).row (g := g) (.inl rfl) _⟩
/-- append where there is room: in place -/
theorem app_room (H : Kd P T E k bytes z) (ty : TypeId) {b n c : Nat} {xs : List Value} (R : Rw w E k b n c xs) (a : Addr) (m cc : Nat) (news : List Value) (hl : news.length = m * k) (hnews : ∀ j u, news[j]? = some u → w.cell? (a.add j) = some u) (h1 : ∀ u ∈ news, u.oneCell' = true) (hroom : n + m ≤ c) :
    ∃ w', (Builtin.append_ #[T, T] ty #[.slice (some ⟨b, 0, none⟩) n c, .slice (some a) m cc]).run P w = .ok (.slice (some ⟨b, 0, none⟩) (n + m) c) w' ∧ Rw w' E k b (n + m) c (xs ++ news) ∧ Chg (· = b) w w' := by
  obtain ⟨i, hi, hz, hs, hb⟩ := info_parts H.inf
  obtain ⟨sp, hB, hx, hc, hnc, hcm⟩ := R.ex
  subst hs hb
  have hfit : n * i.size + news.length ≤ (xs ++ sp).toArray.size := by
    rw [List.size_toArray, hc, hl, ← Nat.add_mul]; exact Nat.mul_le_mul_right _ hroom
  have hr := run_append_room (P := P) w T ty E i H.und hi b n c (xs ++ sp).toArray hB.blk a m cc news hl hnews h1 hroom hfit
  refine ⟨_, hr, ⟨sp.drop news.length, ?_, by rw [List.length_append, hx, hl, Nat.add_mul], ?_, hroom, hcm⟩, (Chg.refl (· = b) w).row (g := b) (.inl rfl) _⟩
  · have := hB.row (xs ++ news ++ sp.drop news.length)
    have e : (xs ++ sp).toArray.toList.take (n * i.size) ++ news ++ (xs ++ sp).toArray.toList.drop (n * i.size + news.length) = xs ++ news ++ sp.drop news.length := by
      rw [show (xs ++ sp).toArray.toList = xs ++ sp from rfl, ← hx, List.take_left, ← List.drop_drop, List.drop_left]
    rw [e]; exact this
  · have h2 : xs.length + sp.length = c * i.size := by rw [← List.length_append]; exact hc
    have h3 : n * i.size + m * i.size ≤ c * i.size := by rw [← Nat.add_mul]; exact Nat.mul_le_mul_right _ hroom
    rw [List.length_append, List.length_append, List.length_drop]; omega
/-- clear behind a row's elements -/
theorem clear_row (H : Kd P T E k bytes z) (ty : TypeId) {g n c : Nat} {xs : List Value} (R : Rw w E k g n c xs) (m cc : Nat) (hm : 0 < m) (hroom : n + m ≤ c) :
    ∃ w', (Builtin.clear_ #[T] ty #[.slice (some ⟨g, n * k, none⟩) m cc]).run P w = .ok (.tuple #[]) w' ∧ Rw w' E k g n c xs ∧ Chg (· = g) w w' := by
  obtain ⟨sp, hB, hx, hc, hnc, hcm⟩ := R.ex
  have h3 : n * k + m * k ≤ c * k := by rw [← Nat.add_mul]; exact Nat.mul_le_mul_right _ hroom
  have hr := run_clearK (P := P) w T ty E z k g (n * k) m cc (xs ++ sp) E H.und H.zero H.zs H.z1 hB hm H.k0 (by omega)
  have e : splice (xs ++ sp) (n * k) (Builtin.zeroCells z.cells m).toList = xs ++ ((Builtin.zeroCells z.cells m).toList ++ sp.drop (Builtin.zeroCells z.cells m).toList.length) := by
    rw [splice_def, ← hx, List.take_left, ← List.drop_drop, List.drop_left, List.append_assoc]
  have hl : ((Builtin.zeroCells z.cells m).toList).length = m * k := by rw [Array.length_toList, size_zeroCells, H.zs]
  refine ⟨_, hr, ⟨_, by rw [e]; exact hB.row _, hx, ?_, hnc, hcm⟩, (Chg.refl (· = g) w).row (g := g) (.inl rfl) _⟩
  rw [List.length_append] at hc ⊢
  rw [List.length_append, List.length_drop, hl]
  omega
end
end Pg
end Go.Proofs.YtenlhceceplldaaGreat
