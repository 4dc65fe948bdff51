/- Variables of one cell in memory: what they hold, and what is stored. -/
import Derived.Test.YtiglmhibnenhdaaGreatDoorNm
import Derived.OneCell
namespace Go.Proofs.YtiglmhibnenhdaaGreatDoor
open Go.RowKit Lim

/-- block g is a variable of one cell that holds v -/
structure Slot (w : World) (g : Nat) (v : Value) (t : TypeId) : Prop where
  blk : w.heap[g]? = some (.cells #[v] t (0, 0))
theorem Slot.cell {w : World} {g : Nat} {v : Value} {t : TypeId} (h : Slot w g v t) : w.cell? ⟨g, 0, none⟩ = some v := cell_of_one h.blk
theorem Slot.free {w : World} {g : Nat} {v : Value} {t : TypeId} (h : Slot w g v t) : w.frozen? ⟨g, 0, none⟩ = false := free_of_one h.blk
theorem Slot.lt {w : World} {g : Nat} {v : Value} {t : TypeId} (h : Slot w g v t) : g < w.heap.size := lt_of_block h.blk
theorem Slot.keep {w w' : World} {g : Nat} {v : Value} {t : TypeId} (h : Slot w g v t) (hb : Below w.heap.size w w') : Slot w' g v t := ⟨by rw [hb.block g h.lt]; exact h.blk⟩
theorem Slot.put {w : World} {g : Nat} {v : Value} {t : TypeId} (h : Slot w g v t) (u : Value) : Slot (w.setCell ⟨g, 0, none⟩ u) g u t := ⟨one_setCell h.blk⟩
theorem Slot.other {w : World} {g g' : Nat} {v : Value} {t : TypeId} (h : Slot w g v t) (hne : g ≠ g') (u : Value) : Slot (w.setCell ⟨g', 0, none⟩ u) g v t := ⟨by rw [Below.heap_setCell w _ u g hne]; exact h.blk⟩
theorem slot_new (w : World) (v : Value) (t : TypeId) : Slot (w.alloc (.cells #[v] t)) w.heap.size v t := ⟨by
  show (w.heap.push _)[w.heap.size]? = _
  rw [Array.getElem?_push_size]⟩
theorem Slot.alloc {w : World} {g : Nat} {v : Value} {t : TypeId} (h : Slot w g v t) (o : Obj) : Slot (w.alloc o) g v t := h.keep (below_alloc w o)
theorem slot_last2 (w : World) (o : Obj) (v : Value) (t : TypeId) : Slot ((w.alloc o).alloc (.cells #[v] t)) (w.heap.size + 1) v t := by
  have := slot_new (w.alloc o) v t
  rwa [show (w.alloc o).heap.size = w.heap.size + 1 by simp] at this
theorem slot_last3 (w : World) (o o' : Obj) (v : Value) (t : TypeId) : Slot (((w.alloc o).alloc o').alloc (.cells #[v] t)) (w.heap.size + 1 + 1) v t := by
  have := slot_last2 (w.alloc o) o' v t
  rwa [show (w.alloc o).heap.size = w.heap.size + 1 by simp] at this
theorem slot_last4 (w : World) (o o' o'' : Obj) (v : Value) (t : TypeId) : Slot ((((w.alloc o).alloc o').alloc o'').alloc (.cells #[v] t)) (w.heap.size + 1 + 1 + 1) v t := by
  have := slot_last3 (w.alloc o) o' o'' v t
  rwa [show (w.alloc o).heap.size = w.heap.size + 1 by simp] at this
theorem below2 (w : World) (o o' : Obj) : Below w.heap.size w ((w.alloc o).alloc o') := joinB (below_alloc w o) (below_alloc _ o')
theorem below3 (w : World) (o o' o'' : Obj) : Below w.heap.size w (((w.alloc o).alloc o').alloc o'') := joinB (below2 w o o') (below_alloc _ o'')
theorem below4 (w : World) (o o' o'' o3 : Obj) : Below w.heap.size w ((((w.alloc o).alloc o').alloc o'').alloc o3) := joinB (below3 w o o' o'') (below_alloc _ o3)
/-- what is stored into a variable that held a list's words turns no limb -/
theorem At.put {w : World} {ao : Option Addr} {b o g : Nat} {l : List Int} (k : At w ao b o l) {v : Value} {t : TypeId} (s : Slot w g v t) (hv : ∀ x, v ≠ .int .u64 x) (u : Value) : At (w.setCell ⟨g, 0, none⟩ u) ao b o l :=
  ⟨k.loc, fun i hi => by
    have hc := k.cell i hi
    by_cases e : b = g
    · subst e
      have h0 : o + i = 0 → False := fun e0 => by
        rw [e0, s.cell] at hc
        exact hv _ (Option.some.inj hc)
      have hs := s.blk
      simp only [World.cell?, hs] at hc
      have : o + i < 1 := by
        have := (Array.getElem?_eq_some_iff.1 hc).1
        simpa using this
      exact (h0 (by omega)).elim
    · rw [World.cell?_of_block (w := w) (Below.heap_setCell w _ u b e)]; exact hc⟩
theorem NatO.put {w : World} {ao : Option Addr} {n c g : Nat} {x : Int} (h : NatO w ao n c x) {v : Value} {t : TypeId} (s : Slot w g v t) (hv : ∀ x, v ≠ .int .u64 x) (u : Value) : NatO (w.setCell ⟨g, 0, none⟩ u) ao n c x := by
  obtain ⟨b, o, l, h1, h2, h3, h4⟩ := h.ex
  exact ⟨b, o, l, h1, h2, h3, h4.put s hv u⟩
theorem NatA.put {w : World} {ao : Option Addr} {n c g : Nat} {x : Int} (h : NatA w ao n c x) {v : Value} {t : TypeId} (s : Slot w g v t) (hv : ∀ x, v ≠ .int .u64 x) (u : Value) : NatA (w.setCell ⟨g, 0, none⟩ u) ao n c x := by
  obtain ⟨b, o, l, h1, h2, h3, h4, h5⟩ := h.ex
  exact ⟨b, o, l, h1, h2, h3, h4.put s hv u, h5⟩
theorem not_int {ao : Option Addr} {n c : Nat} : ∀ x, Value.slice ao n c ≠ .int .u64 x := fun _ h => by cases h
/-- behind a call made among new blocks, one of them stored: nothing old is changed -/
theorem belowPut {w W w1 : World} (b : Below w.heap.size w W) (h : Below W.heap.size W w1) {g : Nat} (hg : w.heap.size ≤ g) (u : Value) : Below w.heap.size w (w1.setCell ⟨g, 0, none⟩ u) := (joinB b h).setCell hg u
theorem Slot.drew {w : World} {g : Nat} {v : Value} {t : TypeId} (h : Slot w g v t) : Slot w.drew g v t := ⟨h.blk⟩
theorem NatA.drew {w : World} {ao : Option Addr} {n c : Nat} {x : Int} (h : NatA w ao n c x) : NatA w.drew ao n c x := by
  obtain ⟨b, o, l, h1, h2, h3, h4, h5⟩ := h.ex
  exact ⟨b, o, l, h1, h2, h3, h4.drew, h5⟩
theorem NatO.drew {w : World} {ao : Option Addr} {n c : Nat} {x : Int} (h : NatO w ao n c x) : NatO w.drew ao n c x := by
  obtain ⟨b, o, l, h1, h2, h3, h4⟩ := h.ex
  exact ⟨b, o, l, h1, h2, h3, h4.drew⟩
theorem info_dec : (Tryz.prog.info? 25).map (·.size) = some 1 := by kernel_rfl
theorem under_dec : ∃ f, Tryz.prog.underlying 25 = some (.struct f) := by
  cases h : Tryz.prog.underlying 25 with
  | none => exact absurd h (by have : (Tryz.prog.underlying 25).isSome = true := by kernel_rfl
                               intro e; rw [e] at this; simp at this)
  | some d =>
    have : (match Tryz.prog.underlying 25 with | some (.struct _) => true | _ => false) = true := by kernel_rfl
    rw [h] at this
    cases d <;> first | exact ⟨_, rfl⟩ | simp at this
theorem load_dec {w : World} {g : Nat} {v : Value} {t : TypeId} (s : Slot w g v t) : (loadVar 25 ⟨g, 0, none⟩).run Tryz.prog w = .ok (.agg #[v]) w := by
  obtain ⟨f, hu⟩ := under_dec
  exact run_loadVar_row w g t 25 #[v] (0, 0) _ s.blk hu rfl info_dec
theorem ret_dec {fn : Func} {p : Tmp} (h : fn.results = #[.cell p 25]) {tmps : Array Value} {w : World} {g : Nat} {v : Value} {t : TypeId} (hp : tmps.getD p undef = .pointer (some ⟨g, 0, none⟩)) (s : Slot w g v t) :
    (results fn tmps).run Tryz.prog w = .ok (.agg #[v]) w := by
  have hp' : tmps[p]?.getD undef = .pointer (some ⟨g, 0, none⟩) := by simpa using hp
  simp [results, h, hp', asAddr, load_dec s]
theorem ret_dec_tmp {fn : Func} {p u : Tmp} (h : fn.results = #[.cell p 25, .tmp u]) {tmps : Array Value} {w : World} {g : Nat} {v x : Value} {t : TypeId} (hp : tmps.getD p undef = .pointer (some ⟨g, 0, none⟩)) (hu : tmps.getD u undef = x) (s : Slot w g v t) :
    (results fn tmps).run Tryz.prog w = .ok (.tuple #[.agg #[v], x]) w := by
  have hp' : tmps[p]?.getD undef = .pointer (some ⟨g, 0, none⟩) := by simpa using hp
  have hu' : tmps[u]?.getD undef = x := by simpa using hu
  simp [results, h, hp', hu', asAddr, load_dec s]
theorem ret_tmp_dec {fn : Func} {p u : Tmp} (h : fn.results = #[.tmp u, .cell p 25]) {tmps : Array Value} {w : World} {g : Nat} {v x : Value} {t : TypeId} (hp : tmps.getD p undef = .pointer (some ⟨g, 0, none⟩)) (hu : tmps.getD u undef = x) (s : Slot w g v t) :
    (results fn tmps).run Tryz.prog w = .ok (.tuple #[x, .agg #[v]]) w := by
  have hp' : tmps[p]?.getD undef = .pointer (some ⟨g, 0, none⟩) := by simpa using hp
  have hu' : tmps[u]?.getD undef = x := by simpa using hu
  simp [results, h, hp', hu', asAddr, load_dec s]
end Go.Proofs.YtiglmhibnenhdaaGreatDoor
