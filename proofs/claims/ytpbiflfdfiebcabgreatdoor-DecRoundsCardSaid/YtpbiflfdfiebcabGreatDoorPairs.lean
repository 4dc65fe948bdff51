/- dec.pairs makes the table of the digits of 00 to 99. -/
import Derived.Test.YtpbiflfdfiebcabGreatDoorDec1
import Derived.Laws.Tables
import Derived.Laws.Rows
import Derived.Laws.CopyOwn
namespace Go.Proofs.YtpbiflfdfiebcabGreatDoor
open Go.RowKit Lim

/-- block g holds the bytes l -/
structure RowT (w : World) (g : Nat) (t : TypeId) (l : List Int) : Prop where
  blk : w.heap[g]? = some (.cells (l.map (Value.int .u8)).toArray t (0, 0))
theorem RowT.lt {w : World} {g : Nat} {t : TypeId} {l : List Int} (h : RowT w g t l) : g < w.heap.size := lt_of_block h.blk
theorem RowT.keep {w w' : World} {g : Nat} {t : TypeId} {l : List Int} (h : RowT w g t l) (hb : Below w.heap.size w w') : RowT w' g t l := ⟨by rw [hb.block g h.lt]; exact h.blk⟩
theorem RowT.cell {w : World} {g : Nat} {t : TypeId} {l : List Int} (h : RowT w g t l) {i : Nat} (hi : i < l.length) : w.cell? ⟨g, i, none⟩ = some (.int .u8 (nth l i)) := by
  simp [World.cell?, h.blk, hi, nth_eq hi]
theorem RowT.free {w : World} {g : Nat} {t : TypeId} {l : List Int} (h : RowT w g t l) (i : Nat) : w.frozen? ⟨g, i, none⟩ = false := by simp [World.frozen?, h.blk]
theorem RowT.set {w : World} {g : Nat} {t : TypeId} {l : List Int} (h : RowT w g t l) (i : Nat) (x : Int) : RowT (w.setCell ⟨g, i, none⟩ (.int .u8 x)) g t (l.set i x) := ⟨by
  have hb := h.blk
  simp only [World.setCell, Array.getElem?_modify, if_true, hb]
  simp⟩
theorem RowT.other {w : World} {g g' i : Nat} {t : TypeId} {l : List Int} (h : RowT w g t l) (hne : g ≠ g') (u : Value) : RowT (w.setCell ⟨g', i, none⟩ u) g t l := ⟨by rw [Below.heap_setCell w _ u g hne]; exact h.blk⟩
theorem RowT.drew {w : World} {g : Nat} {t : TypeId} {l : List Int} (h : RowT w g t l) : RowT w.drew g t l := ⟨h.blk⟩
theorem rowT_new (w : World) (t : TypeId) (l : List Int) : RowT (w.alloc (.cells (l.map (Value.int .u8)).toArray t)) w.heap.size t l := ⟨by
  show (w.heap.push _)[w.heap.size]? = _
  rw [Array.getElem?_push_size]⟩

/-- the digits of 00 to 99 -/
def pairL : Nat → List Int
  | 0 => []
  | k + 1 => pairL k ++ [48 + (k : Int) / 10, 48 + (k : Int) % 10]
theorem pairL_length (k : Nat) : (pairL k).length = 2 * k := by
  induction k with
  | zero => rfl
  | succ k ih => simp [pairL, ih]; omega
theorem pairL_nth {k i : Nat} (h : i < k) : nth (pairL k) (2 * i) = 48 + (i : Int) / 10 ∧ nth (pairL k) (2 * i + 1) = 48 + (i : Int) % 10 := by
  induction k with
  | zero => omega
  | succ k ih =>
    have hl := pairL_length k
    by_cases e : i = k
    · subst e
      rw [pairL, nth_append_right (by omega), nth_append_right (by omega), hl, Nat.sub_self, show 2 * i + 1 - 2 * i = 1 by omega]
      exact ⟨rfl, rfl⟩
    · rw [pairL, nth_append_left (by omega), nth_append_left (by omega)]
      exact ih (by omega)

set_option maxHeartbeats 4000000 in
set_option maxRecDepth 100000 in
theorem dPairs {w : World} : Calls Tryz.prog 141 #[] w fun e w' => e = .returned (.agg ((pairL 100).map (Value.int .u8)).toArray) ∧ Below w.heap.size w w' := by
  go_enter Tryz.func141, Tryz.ntmps141
  go_wp2
  have hz : Tryz.zeroCells141 = ((List.replicate 200 (0 : Int)).map (Value.int .u8)).toArray := by kernel_rfl
  rw [hz]
  have R1 := rowT_new (w.alloc (.cells ((List.replicate 200 (0 : Int)).map (Value.int .u8)).toArray 141)) 141 (List.replicate 200 0)
  rw [show (w.alloc (.cells ((List.replicate 200 (0 : Int)).map (Value.int .u8)).toArray 141)).heap.size = w.heap.size + 1 by simp] at R1
  have R0 := (rowT_new w 141 (List.replicate 200 0)).keep (below_alloc _ (.cells ((List.replicate 200 (0 : Int)).map (Value.int .u8)).toArray 141))
  have B0 := below2 w (.cells ((List.replicate 200 (0 : Int)).map (Value.int .u8)).toArray 141) (.cells ((List.replicate 200 (0 : Int)).map (Value.int .u8)).toArray 141)
  clear hz
  generalize (w.alloc (.cells ((List.replicate 200 (0 : Int)).map (Value.int .u8)).toArray 141)).alloc (.cells ((List.replicate 200 (0 : Int)).map (Value.int .u8)).toArray 141) = w0 at *
  go_loopw [3] (fun ti wr => ∃ k : Nat, k ≤ 100 ∧ ti = .int .i64 k ∧ RowT wr (w.heap.size + 1) 141 (pairL k ++ List.replicate (200 - 2 * k) 0) ∧ RowT wr w.heap.size 141 (List.replicate 200 0) ∧ Below w.heap.size w wr) (fun ti _ => 100 - (intOf ti).toNat)
  case atStart => exact ⟨0, by omega, rfl, R1, R0, B0⟩
  case round =>
    clear R1 R0 B0
    obtain ⟨k, hk, rfl, R1, R0, B0⟩ := hrel
    by_cases hlt : k < 100
    · have hkl : (k : Int) < 100 := by omega
      have hlen : (pairL k ++ List.replicate (200 - 2 * k) (0 : Int)).length = 200 := by rw [List.length_append, pairL_length, List.length_replicate]; omega
      have e0 : nth (pairL k ++ List.replicate (200 - 2 * k) (0 : Int)) (k * 2) = 0 := by
        rw [nth_append_right (by rw [pairL_length]; omega), nth_eq (by rw [pairL_length, List.length_replicate]; omega)]; simp
      have e1 : nth (pairL k ++ List.replicate (200 - 2 * k) (0 : Int)) (k * 2 + 1) = 0 := by
        rw [nth_append_right (by rw [pairL_length]; omega), nth_eq (by rw [pairL_length, List.length_replicate]; omega)]; simp
      have c1 := R1.cell (i := k * 2) (by rw [hlen]; omega)
      have c2 := R1.cell (i := k * 2 + 1) (by rw [hlen]; omega)
      rw [e0] at c1
      rw [e1] at c2
      have f1 := R1.free (k * 2)
      have f2 := R1.free (k * 2 + 1)
      have HR : Hid (RowT ((wr.setCell ⟨w.heap.size + 1, k * 2, none⟩ (.int .u8 (48 + (k : Int) / 10))).setCell ⟨w.heap.size + 1, k * 2 + 1, none⟩ (.int .u8 (48 + (k : Int) % 10))) (w.heap.size + 1) 141 (pairL (k + 1) ++ List.replicate (200 - 2 * (k + 1)) 0)) := by
        have := (R1.set (k * 2) (48 + (k : Int) / 10)).set (k * 2 + 1) (48 + (k : Int) % 10)
        have hs : ((pairL k ++ List.replicate (200 - 2 * k) (0 : Int)).set (k * 2) (48 + (k : Int) / 10)).set (k * 2 + 1) (48 + (k : Int) % 10) = pairL (k + 1) ++ List.replicate (200 - 2 * (k + 1)) 0 := by
          rw [show 200 - 2 * k = 200 - 2 * (k + 1) + 1 + 1 by omega, List.replicate_succ, List.replicate_succ, pairL]
          rw [show k * 2 = (pairL k).length by rw [pairL_length]; omega]
          rw [List.set_append_right _ _ (Nat.le_refl _), Nat.sub_self, List.set_cons_zero, List.set_append_right _ _ (by omega), Nat.add_sub_cancel_left, List.set_cons_succ, List.set_cons_zero]
          simp
        rw [hs] at this
        exact this
      have H0 : Hid (RowT ((wr.setCell ⟨w.heap.size + 1, k * 2, none⟩ (.int .u8 (48 + (k : Int) / 10))).setCell ⟨w.heap.size + 1, k * 2 + 1, none⟩ (.int .u8 (48 + (k : Int) % 10))) w.heap.size 141 (List.replicate 200 0)) := (R0.other (by omega) _).other (by omega) _
      have HB : Hid (Below w.heap.size w ((wr.setCell ⟨w.heap.size + 1, k * 2, none⟩ (.int .u8 (48 + (k : Int) / 10))).setCell ⟨w.heap.size + 1, k * 2 + 1, none⟩ (.int .u8 (48 + (k : Int) % 10)))) := (B0.setCell (p := ⟨w.heap.size + 1, k * 2, none⟩) (by show w.heap.size ≤ w.heap.size + 1; omega) _).setCell (p := ⟨w.heap.size + 1, k * 2 + 1, none⟩) (by show w.heap.size ≤ w.heap.size + 1; omega) _
      clear R1 R0 B0 e0 e1 hlen
      go_wp2
      go_roundw
      case rel => exact ⟨k + 1, by omega, by go_num, HR.out, H0.out, HB.out⟩
      case measure => simp [intOf]; omega
    · have hkn : k = 100 := by omega
      subst hkn
      rw [show pairL 100 ++ List.replicate (200 - 2 * 100) (0 : Int) = pairL 100 by simp] at R1
      have hsz : ((pairL 100).map (Value.int .u8)).toArray.size = 200 := by simp [pairL_length]
      have HB := (show Hid _ from B0)
      go_wp2_with (first
        | (refine wpList_load_row rfl 141 (.tmp 1) rfl (w.heap.size + 1) rfl 141 _ (0, 0) _ R1.blk Tryz.underlying141 rfl (by rw [hsz]; kernel_rfl) ?_)
        | (refine wpList_store_row rfl 141 (.tmp 0) (.tmp 18) rfl w.heap.size _ rfl rfl 141 _ R0.blk (by rw [hsz]; kernel_rfl) (by rw [hsz]; simp) (by simp [Value.oneCell']) ?_))
      have hrow := setRow_heap wr w.heap.size _ ((pairL 100).map (Value.int .u8)).toArray _ _ R0.blk
      refine bodyPost_ret (results_cell_row rfl _ _ w.heap.size 141 _ (0, 0) _ rfl hrow Tryz.underlying141 rfl (by rw [hsz]; kernel_rfl)) rfl ?_
      exact ⟨rfl, below_setRow HB.out (Nat.le_refl _) _⟩
end Go.Proofs.YtpbiflfdfiebcabGreatDoor
