/- Several texts, joined: PtA. -/
import Derived.Test.YtemkjdanemddpaaGreatJaf
import Derived.LoopN
namespace Go.Proofs.YtemkjdanemddpaaGreat
namespace Pt
open Go.RowKit Go.Lib Pg Gl So
set_option linter.unusedVariables false
set_option linter.unusedSimpArgs false
set_option maxHeartbeats 1000000
theorem gc_rds {P : Program} {n : Nat} {ds : List Deferred} {l : Fr} {w : World} {Q : Exit → Act → World → Prop} {c : Code} (k : Nat) (h : GC P n ds c (Exit.then (Code.rounds P c Q k) Q) l w) : GC P n ds (Code.loop c) Q l w := ⟨fun a r => wp_loop_rounds (k + 1) (h.out a r)⟩
/-- numbers in memory, wherever -/
structure Nu (w : World) (a : Option Addr) (n b o : Nat) (xs : Nat → Int) : Prop where
  ptr : 0 < n → a = some ⟨b, o, none⟩
  cell : ∀ i, i < n → w.cell? ⟨b, o + i * 1, none⟩ = some (.int .u64 (xs i))
/-- numbers in a list of their own, in a block from B on; what is spare are numbers too -/
structure UB (w : World) (B : Nat) (v : Value) (n : Nat) (f : Nat → Int) : Prop where
  ex : (v = .slice none 0 0 ∧ n = 0) ∨ ∃ b c, v = .slice (some ⟨b, 0, none⟩) n c ∧ B ≤ b ∧ Blk w b (cs c f) 31 ∧ n ≤ c ∧ c ≤ maxLen
section
variable {w w' : World} {B B' n b o : Nat} {v : Value} {f h : Nat → Int} {a : Option Addr} {x : Int}
theorem Nu.keep (u : Nu w a n b o f) (hb : Below w.heap.size w w') : Nu w' a n b o f := ⟨u.ptr, fun i hi => by
  have := u.cell i hi
  rw [World.cell?_of_block (w := w) (hb.block b (cell_lt this))]; exact this⟩
theorem Nu.drew (u : Nu w a n b o f) : Nu w.drew a n b o f := u.keep (Below.refl _ _).drew
theorem Nu.ext (u : Nu w a n b o f) (e : ∀ i, i < n → h i = f i) : Nu w a n b o h := ⟨u.ptr, fun i hi => by rw [e i hi]; exact u.cell i hi⟩
theorem UB.nil (w : World) (B : Nat) (f : Nat → Int) : UB w B (.slice none 0 0) 0 f := ⟨.inl ⟨rfl, rfl⟩⟩
theorem UB.shape (u : UB w B v n f) : ∃ ao c, v = .slice ao n c := by
  rcases u.ex with ⟨rfl, rfl⟩ | ⟨b, c, rfl, _⟩
  · exact ⟨none, 0, rfl⟩
  · exact ⟨_, c, rfl⟩
theorem UB.keep (u : UB w B v n f) (hb : Below w.heap.size w w') : UB w' B v n f := ⟨u.ex.imp id (fun ⟨b, c, e, h1, h2, h3⟩ => ⟨b, c, e, h1, h2.keep hb, h3⟩)⟩
theorem UB.drew (u : UB w B v n f) : UB w.drew B v n f := u.keep (Below.refl _ _).drew
theorem UB.low (u : UB w B v n f) (hB : B' ≤ B) : UB w B' v n f := ⟨u.ex.imp id (fun ⟨b, c, e, h1, h2⟩ => ⟨b, c, e, Nat.le_trans hB h1, h2⟩)⟩
theorem UB.nu {c : Nat} (u : UB w B (.slice a n c) n f) : ∃ b, Nu w a n b 0 f ∧ (0 < n → B ≤ b) := by
  rcases u.ex with ⟨e, rfl⟩ | ⟨b, c', e, h1, h2, h3, h4⟩
  · exact ⟨0, ⟨fun h => absurd h (by decide), fun i hi => absurd hi (by omega)⟩, fun h => absurd h (by decide)⟩
  · cases e
    refine ⟨b, ⟨fun _ => rfl, fun i hi => ?_⟩, fun _ => h1⟩
    rw [Nat.zero_add, Nat.mul_one]
    exact h2.cell (cs_at (by omega))
theorem zc (k : Nat) : (Builtin.zeroCells (Value.int .u64 0).cells k).toList = List.replicate k (.int .u64 0) := by
  refine List.ext_getElem (by simp [Builtin.zeroCells, Value.cells]) fun i h1 h2 => ?_
  simp [Builtin.zeroCells, Value.cells, Nat.mod_one]
/-- the numbers behind an append into new room -/
def gr (n : Nat) (f : Nat → Int) (x : Int) : Nat → Int := fun i => if i < n then f i else if i = n then x else 0
theorem gr_l {i : Nat} (hi : i < n) : gr n f x i = f i := if_pos hi
theorem gr_n : gr n f x n = x := by unfold gr; rw [if_neg (Nat.lt_irrefl _), if_pos rfl]
theorem cs_gr {c : Nat} (hc : n + 1 ≤ c) : ((List.range n).map (fun k => Value.int .u64 (f k)) ++ [.int .u64 x]) ++ List.replicate (c - (n + 1)) (.int .u64 0) = cs c (gr n f x) := by
  refine List.ext_getElem? fun i => ?_
  by_cases h1 : i < c
  · rw [cs_at h1]
    rcases Nat.lt_trichotomy i n with e | e | e
    · rw [List.getElem?_append_left (by simp; omega), List.getElem?_append_left (by simp; omega)]
      simp [e, gr_l e]
    · subst e
      rw [List.getElem?_append_left (by simp), List.getElem?_append_right (by simp)]
      simp [gr_n]
    · rw [List.getElem?_append_right (by simp; omega)]
      simp only [List.length_append, List.length_map, List.length_range, List.length_singleton]
      rw [List.getElem?_replicate, if_pos (by omega)]
      unfold gr
      rw [if_neg (by omega), if_neg (by omega)]
  · rw [List.getElem?_eq_none (by simp; omega), List.getElem?_eq_none (by rw [cs_len]; omega)]
theorem info_u64 : (Tryz.prog.info? 31).map (fun i => (i.zero, i.size, i.bytes)) = some (some (.int .u64 0), 1, 8) := by kernel_rfl
theorem und_su : Tryz.prog.underlying 40 = some (.slice 31) := by kernel_rfl
theorem add_cell {j : Nat} {u : Value} (h : w.cell? ⟨b, j, none⟩ = some u) : w.cell? ((⟨b, 0, none⟩ : Addr).add j) = some u := by
  by_cases e : j = 0
  · subst e; exact h
  · simpa [Addr.add, e] using h
/-- what an append leaves: lists of numbers from B on, and nothing else, may have changed -/
abbrev Ch (B : Nat) (w w' : World) : Prop := Chg (fun b => B ≤ b ∧ ∃ cs, Blk w b cs 31) w w'
theorem app_ub {g : Nat} (u : UB w B v n f) (X : Blk w g [.int .u64 x] 31) (hB : B ≤ w.heap.size) (hn : n ≤ 1000000) :
    ∃ a c w' f', (Builtin.append_ #[40, 40] 40 #[v, sg 1 g]).run Tryz.prog w = .ok (.slice a (n + 1) c) w' ∧ UB w' B (.slice a (n + 1) c) (n + 1) f' ∧ (∀ i, i < n → f' i = f i) ∧ f' n = x ∧ Ch B w w' := by
  obtain ⟨i0, hi, hz0, hz1, hz2⟩ := info_parts info_u64
  have hnews : ∀ j u, [Value.int .u64 x][j]? = some u → w.cell? ((⟨g, 0, none⟩ : Addr).add j) = some u := fun j u hj => by
    match j, hj with
    | 0, hj => cases hj; exact X.cell (i := 0) rfl
    | j + 1, hj => simp at hj
  rcases u.ex with ⟨rfl, rfl⟩ | ⟨b, c, rfl, h1, h2, h3, h4⟩
  · have hr := run_append_nil (P := Tryz.prog) w 40 40 31 i0 (.int .u64 0) und_su hi hz0 ⟨g, 0, none⟩ 1 1 [.int .u64 x] (by rw [hz1]; rfl) hnews (by decide) (by decide) (by rw [hz2]; decide)
    have hge := grownCap_ge w 1 0 31
    have hcm : grownCap w 1 0 31 ≤ maxLen := grownCap_le_maxLen w _ _ _ (by decide)
    have b := below_alloc w.drew (.cells ([Value.int .u64 x].toArray ++ Builtin.zeroCells (Value.int .u64 0).cells (grownCap w 1 0 31 - 1)) 31)
    refine ⟨_, _, _, gr 0 f x, hr, ⟨.inr ⟨_, _, rfl, hB, ?_, hge, hcm⟩⟩, fun i hi => absurd hi (Nat.not_lt_zero _), gr_n, Chg.of ⟨b.os, b.tape, b.output, b.size, b.block⟩⟩
    have e : (([Value.int .u64 x].toArray ++ Builtin.zeroCells (Value.int .u64 0).cells (grownCap w 1 0 31 - 1))) = (cs (grownCap w 1 0 31) (gr 0 f x)).toArray := by
      rw [← cs_gr (n := 0) hge]
      apply Array.ext'
      simp only [Array.toList_append, zc]
      rfl
    rw [e]
    exact blk_new w.drew _ _
  · by_cases hroom : n + 1 ≤ c
    · have hfit : n * i0.size + [Value.int .u64 x].length ≤ ((cs c f).toArray).size := by rw [hz1]; simp [cs_len]; omega
      have hr := run_append_room (P := Tryz.prog) w 40 40 31 i0 und_su hi b n c (cs c f).toArray h2.blk ⟨g, 0, none⟩ 1 1 [.int .u64 x] (by rw [hz1]; rfl) hnews (fun u hu => by rw [List.mem_singleton] at hu; subst hu; rfl) hroom hfit
      refine ⟨_, _, _, pu f n x, hr, ⟨.inr ⟨b, c, rfl, h1, ⟨?_⟩, hroom, h4⟩⟩, fun i hi => if_neg (by omega), if_pos rfl, ⟨rfl, rfl, rfl, by simp, fun k _ hk => setRow_other w b k _ (fun e => hk (by subst e; exact ⟨h1, _, h2⟩))⟩⟩
      rw [setRow_heap w b _ _ _ _ h2.blk, ← cs_put (f := f) (x := x) (show n < c by omega)]
      simp [spl, hz1]
    · obtain rfl : n = c := by omega
      have hr := run_append_grow (P := Tryz.prog) w 40 40 31 i0 (.int .u64 0) und_su hi hz0 ⟨b, 0, none⟩ n n (cs n f) (by rw [cs_len, hz1, Nat.mul_one]) (fun j u hj => add_cell (h2.cell hj)) ⟨g, 0, none⟩ 1 1 [.int .u64 x] (by rw [hz1]; rfl) hnews (by omega) (by omega) (growslice_fits (by omega) (by rw [hz2]; omega))
      have hge := grownCap_ge w (n + 1) n 31
      have hcm : grownCap w (n + 1) n 31 ≤ maxLen := grownCap_le_maxLen w _ _ _ (by unfold maxLen; omega)
      have bb := below_alloc w.drew (.cells ((cs n f).toArray ++ [Value.int .u64 x].toArray ++ Builtin.zeroCells (Value.int .u64 0).cells (grownCap w (n + 1) n 31 - (n + 1))) 31)
      refine ⟨_, _, _, gr n f x, hr, ⟨.inr ⟨_, _, rfl, hB, ?_, hge, hcm⟩⟩, fun i hi => gr_l hi, gr_n, Chg.of ⟨bb.os, bb.tape, bb.output, bb.size, bb.block⟩⟩
      have e : ((cs n f).toArray ++ [Value.int .u64 x].toArray ++ Builtin.zeroCells (Value.int .u64 0).cells (grownCap w (n + 1) n 31 - (n + 1))) = (cs (grownCap w (n + 1) n 31) (gr n f x)).toArray := by
        rw [← cs_gr (n := n) hge]
        apply Array.ext'
        simp only [Array.toList_append, zc]
        rfl
      rw [e]
      exact blk_new w.drew _ _
end
end Pt
end Go.Proofs.YtemkjdanemddpaaGreat
