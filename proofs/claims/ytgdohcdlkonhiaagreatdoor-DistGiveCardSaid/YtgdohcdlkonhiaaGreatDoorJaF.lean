/- Several texts, joined: Pairs, Split, Text, Shelf, App, Frac, Known, Places, Dec2, Mid, Dec4, DText. -/
import Derived.Test.YtgdohcdlkonhiaaGreatDoorJau
import Derived.Laws.Tables
import Derived.Laws.Rows
import Derived.Laws.CopyOwn
import Derived.Test.YtgdohcdlkonhiaaGreatDoorJaj
import Derived.Lib.AppendStr
import Derived.Shelf.Strings.Trim
import Derived.Shelf.LaysM
import Derived.Shelf.Strings.Search1
import Derived.Shelf.Strconv.AppendUint10
import Derived.Test.YtgdohcdlkonhiaaGreatDoorProg
import Derived.Test.YtgdohcdlkonhiaaGreatDoorJai
import Derived.Deep.RegionLaw
import Derived.Deep.RegionHeld3
namespace Go.Proofs.YtgdohcdlkonhiaaGreatDoor
open Go.RowKit Lim

/-- block g holds the bytes l -/
structure RowT (w : World) (g : Nat) (t : TypeId) (l : List Int) : Prop where
  blk : w.heap[g]? = some (.cells (l.map (Value.int .u8)).toArray t (0, 0))
theorem RowT.lt {w : World} {g : Nat} {t : TypeId} {l : List Int} (h : RowT w g t l) : g < w.heap.size := lt_of_block h.blk
theorem RowT.keep {w w' : World} {g : Nat} {t : TypeId} {l : List Int} (h : RowT w g t l) (hb : Below w.heap.size w w') : RowT w' g t l := ⟨by rw [hb.block g h.lt]; exact h.blk⟩
theorem RowT.cell {w : World} {g : Nat} {t : TypeId} {l : List Int} (h : RowT w g t l) {i : Nat} (hi : i < l.length) : w.cell? ⟨g, i, none⟩ = some (.int .u8 (nth l i)) := by
  simp [World.cell?, h.blk, hi, nth_eq hi]
theorem RowT.free {w : World} {g : Nat} {t : TypeId} {l : List Int} (h : RowT w g t l) (i : Nat) : w.frozen? ⟨g, i, none⟩ = false := by simp [World.frozen?, h.blk]
theorem RowT.set {w : World} {g : Nat} {t : TypeId} {l : List Int} (h : RowT w g t l) (i : Nat) (x : Int) : RowT (w.setCell ⟨g, i, none⟩ (.int .u8 x)) g t (l.set i x) := ⟨by
  have hb := h.blk
  simp only [World.setCell, Array.getElem?_modify, if_true, hb]
  simp⟩
theorem RowT.other {w : World} {g g' i : Nat} {t : TypeId} {l : List Int} (h : RowT w g t l) (hne : g ≠ g') (u : Value) : RowT (w.setCell ⟨g', i, none⟩ u) g t l := ⟨by rw [Below.heap_setCell w _ u g hne]; exact h.blk⟩
theorem RowT.drew {w : World} {g : Nat} {t : TypeId} {l : List Int} (h : RowT w g t l) : RowT w.drew g t l := ⟨h.blk⟩
theorem rowT_new (w : World) (t : TypeId) (l : List Int) : RowT (w.alloc (.cells (l.map (Value.int .u8)).toArray t)) w.heap.size t l := ⟨by
  show (w.heap.push _)[w.heap.size]? = _
  rw [Array.getElem?_push_size]⟩

/-- the digits of 00 to 99 -/
def pairL : Nat → List Int
  | 0 => []
  | k + 1 => pairL k ++ [48 + (k : Int) / 10, 48 + (k : Int) % 10]
theorem pairL_length (k : Nat) : (pairL k).length = 2 * k := by
  induction k with
  | zero => rfl
  | succ k ih => simp [pairL, ih]; omega
theorem pairL_nth {k i : Nat} (h : i < k) : nth (pairL k) (2 * i) = 48 + (i : Int) / 10 ∧ nth (pairL k) (2 * i + 1) = 48 + (i : Int) % 10 := by
  induction k with
  | zero => omega
  | succ k ih =>
    have hl := pairL_length k
    by_cases e : i = k
    · subst e
      rw [pairL, nth_append_right (by omega), nth_append_right (by omega), hl, Nat.sub_self, show 2 * i + 1 - 2 * i = 1 by omega]
      exact ⟨rfl, rfl⟩
    · rw [pairL, nth_append_left (by omega), nth_append_left (by omega)]
      exact ih (by omega)

set_option maxHeartbeats 4000000 in
set_option maxRecDepth 100000 in
theorem dPairs {w : World} : Calls Tryz.prog 137 #[] w fun e w' => e = .returned (.agg ((pairL 100).map (Value.int .u8)).toArray) ∧ Below w.heap.size w w' := by
  go_enter Tryz.func137, Tryz.ntmps137
  go_wp2
  have hz : Tryz.zeroCells219 = ((List.replicate 200 (0 : Int)).map (Value.int .u8)).toArray := by kernel_rfl
  rw [hz]
  have R1 := rowT_new (w.alloc (.cells ((List.replicate 200 (0 : Int)).map (Value.int .u8)).toArray 219)) 219 (List.replicate 200 0)
  rw [show (w.alloc (.cells ((List.replicate 200 (0 : Int)).map (Value.int .u8)).toArray 219)).heap.size = w.heap.size + 1 by simp] at R1
  have R0 := (rowT_new w 219 (List.replicate 200 0)).keep (below_alloc _ (.cells ((List.replicate 200 (0 : Int)).map (Value.int .u8)).toArray 219))
  have B0 := below2 w (.cells ((List.replicate 200 (0 : Int)).map (Value.int .u8)).toArray 219) (.cells ((List.replicate 200 (0 : Int)).map (Value.int .u8)).toArray 219)
  clear hz
  generalize (w.alloc (.cells ((List.replicate 200 (0 : Int)).map (Value.int .u8)).toArray 219)).alloc (.cells ((List.replicate 200 (0 : Int)).map (Value.int .u8)).toArray 219) = w0 at *
  go_loopw [3] (fun ti wr => ∃ k : Nat, k ≤ 100 ∧ ti = .int .i64 k ∧ RowT wr (w.heap.size + 1) 219 (pairL k ++ List.replicate (200 - 2 * k) 0) ∧ RowT wr w.heap.size 219 (List.replicate 200 0) ∧ Below w.heap.size w wr) (fun ti _ => 100 - (intOf ti).toNat)
  case atStart => exact ⟨0, by omega, rfl, R1, R0, B0⟩
  case round =>
    clear R1 R0 B0
    obtain ⟨k, hk, rfl, R1, R0, B0⟩ := hrel
    by_cases hlt : k < 100
    · have hkl : (k : Int) < 100 := by omega
      have hlen : (pairL k ++ List.replicate (200 - 2 * k) (0 : Int)).length = 200 := by rw [List.length_append, pairL_length, List.length_replicate]; omega
      have e0 : nth (pairL k ++ List.replicate (200 - 2 * k) (0 : Int)) (k * 2) = 0 := by
        rw [nth_append_right (by rw [pairL_length]; omega), nth_eq (by rw [pairL_length, List.length_replicate]; omega)]; simp
      have e1 : nth (pairL k ++ List.replicate (200 - 2 * k) (0 : Int)) (k * 2 + 1) = 0 := by
        rw [nth_append_right (by rw [pairL_length]; omega), nth_eq (by rw [pairL_length, List.length_replicate]; omega)]; simp
      have c1 := R1.cell (i := k * 2) (by rw [hlen]; omega)
      have c2 := R1.cell (i := k * 2 + 1) (by rw [hlen]; omega)
      rw [e0] at c1
      rw [e1] at c2
      have f1 := R1.free (k * 2)
      have f2 := R1.free (k * 2 + 1)
      have HR : Hid (RowT ((wr.setCell ⟨w.heap.size + 1, k * 2, none⟩ (.int .u8 (48 + (k : Int) / 10))).setCell ⟨w.heap.size + 1, k * 2 + 1, none⟩ (.int .u8 (48 + (k : Int) % 10))) (w.heap.size + 1) 219 (pairL (k + 1) ++ List.replicate (200 - 2 * (k + 1)) 0)) := by
        have := (R1.set (k * 2) (48 + (k : Int) / 10)).set (k * 2 + 1) (48 + (k : Int) % 10)
        have hs : ((pairL k ++ List.replicate (200 - 2 * k) (0 : Int)).set (k * 2) (48 + (k : Int) / 10)).set (k * 2 + 1) (48 + (k : Int) % 10) = pairL (k + 1) ++ List.replicate (200 - 2 * (k + 1)) 0 := by
          rw [show 200 - 2 * k = 200 - 2 * (k + 1) + 1 + 1 by omega, List.replicate_succ, List.replicate_succ, pairL]
          rw [show k * 2 = (pairL k).length by rw [pairL_length]; omega]
          rw [List.set_append_right _ _ (Nat.le_refl _), Nat.sub_self, List.set_cons_zero, List.set_append_right _ _ (by omega), Nat.add_sub_cancel_left, List.set_cons_succ, List.set_cons_zero]
          simp
        rw [hs] at this
        exact this
      have H0 : Hid (RowT ((wr.setCell ⟨w.heap.size + 1, k * 2, none⟩ (.int .u8 (48 + (k : Int) / 10))).setCell ⟨w.heap.size + 1, k * 2 + 1, none⟩ (.int .u8 (48 + (k : Int) % 10))) w.heap.size 219 (List.replicate 200 0)) := (R0.other (by omega) _).other (by omega) _
      have HB : Hid (Below w.heap.size w ((wr.setCell ⟨w.heap.size + 1, k * 2, none⟩ (.int .u8 (48 + (k : Int) / 10))).setCell ⟨w.heap.size + 1, k * 2 + 1, none⟩ (.int .u8 (48 + (k : Int) % 10)))) := (B0.setCell (p := ⟨w.heap.size + 1, k * 2, none⟩) (by show w.heap.size ≤ w.heap.size + 1; omega) _).setCell (p := ⟨w.heap.size + 1, k * 2 + 1, none⟩) (by show w.heap.size ≤ w.heap.size + 1; omega) _
      clear R1 R0 B0 e0 e1 hlen
      go_wp2
      go_roundw
      case rel => exact ⟨k + 1, by omega, by go_num, HR.out, H0.out, HB.out⟩
      case measure => simp [intOf]; omega
    · have hkn : k = 100 := by omega
      subst hkn
      rw [show pairL 100 ++ List.replicate (200 - 2 * 100) (0 : Int) = pairL 100 by simp] at R1
      have hsz : ((pairL 100).map (Value.int .u8)).toArray.size = 200 := by simp [pairL_length]
      have HB := (show Hid _ from B0)
      go_wp2_with (first
        | (refine wpList_load_row rfl 219 (.tmp 1) rfl (w.heap.size + 1) rfl 219 _ (0, 0) _ R1.blk Tryz.underlying219 rfl (by rw [hsz]; kernel_rfl) ?_)
        | (refine wpList_store_row rfl 219 (.tmp 0) (.tmp 18) rfl w.heap.size _ rfl rfl 219 _ R0.blk (by rw [hsz]; kernel_rfl) (by rw [hsz]; simp) (by simp [Value.oneCell']) ?_))
      have hrow := setRow_heap wr w.heap.size _ ((pairL 100).map (Value.int .u8)).toArray _ _ R0.blk
      refine bodyPost_ret (results_cell_row rfl _ _ w.heap.size 219 _ (0, 0) _ rfl hrow Tryz.underlying219 rfl (by rw [hsz]; kernel_rfl)) rfl ?_
      exact ⟨rfl, below_setRow HB.out (Nat.le_refl _) _⟩
end Go.Proofs.YtgdohcdlkonhiaaGreatDoor

namespace Go.Proofs.YtgdohcdlkonhiaaGreatDoor
open Go.RowKit Lim

/-- what groups are worth, the lowest first -/
def gval : List Int → Int
  | [] => 0
  | x :: l => x + 10000000000000000000 * gval l
def GroupsOk (l : List Int) : Prop := ∀ x ∈ l, 0 ≤ x ∧ x < 10000000000000000000
theorem gval_append (a b : List Int) : gval (a ++ b) = gval a + 10000000000000000000 ^ a.length * gval b := by
  induction a with
  | nil => simp [gval]
  | cons x a ih => simp only [List.cons_append, gval, ih, List.length_cons, Int.pow_succ]; grind
theorem gval_nonneg {l : List Int} (h : GroupsOk l) : 0 ≤ gval l := by
  induction l with
  | nil => simp [gval]
  | cons x l ih => have := h x List.mem_cons_self; have := ih fun y hy => h y (List.mem_cons_of_mem _ hy); simp only [gval]; omega

def lenOf : Value → Nat | .slice _ n _ => n | _ => 0
theorem under_u64s : Tryz.prog.underlying 23 = some (.slice 22) := by kernel_rfl

theorem own_len {w : World} {B : Nat} {e : TypeId} {v : Value} {n : Nat} {xs : List Value} (h : w.ownsRow B e 1 v n xs) : lenOf v = n := by
  rcases h.2 with ⟨rfl, h0⟩ | ⟨g', cap, cur, rfl, _⟩
  · simp [lenOf, h0]
  · rfl
theorem Mine.wr {b o n : Nat} {w w' : World} {B : Nat} {v : Value} {l : List Int} (h : Mine w B v l) (hw : Wr b o n w w') (hb : b < B) : Mine w' B v l := by
  obtain ⟨h1, h2⟩ := h
  refine ⟨h1, ?_⟩
  rcases h2 with h2 | ⟨g, cap, cur, rfl, hB1, hh, hr⟩
  · exact .inl h2
  · exact .inr ⟨g, cap, cur, rfl, hB1, by rw [hw.block g (by omega)]; exact hh, hr⟩
theorem Mine.mono {w : World} {B B' : Nat} {v : Value} {l : List Int} (h : Mine w B v l) (hB : B' ≤ B) : Mine w B' v l := by
  obtain ⟨h1, h2⟩ := h
  refine ⟨h1, ?_⟩
  rcases h2 with h2 | ⟨g, cap, cur, rfl, hB1, hr⟩
  · exact .inl h2
  · exact .inr ⟨g, cap, cur, rfl, by omega, hr⟩
/-- no more groups than limbs and a few -/
theorem groups_few {n k : Nat} {V R : Int} (h1 : 10000000000000000000 ^ k * R ≤ V) (hR : 1 ≤ R) (h2 : V < 18446744073709551616 ^ n) : k ≤ 2 * n := by
  by_cases c : k ≤ 2 * n
  · exact c
  · have e1 : (18446744073709551616 : Int) ^ n ≤ (4294967296 ^ 2) ^ n := by rw [show (4294967296 : Int) ^ 2 = 18446744073709551616 from rfl]; exact Int.le_refl _
    rw [← Int.pow_mul] at e1
    have e2 : (4294967296 : Int) ^ (2 * n) ≤ 4294967296 ^ k := by
      have : (4294967296 : Nat) ^ (2 * n) ≤ 4294967296 ^ k := Nat.pow_le_pow_right (by decide) (by omega)
      have a1 : ((4294967296 ^ (2 * n) : Nat) : Int) = (4294967296 : Int) ^ (2 * n) := by rw [Int.natCast_pow]; rfl
      have a2 : ((4294967296 ^ k : Nat) : Int) = (4294967296 : Int) ^ k := by rw [Int.natCast_pow]; rfl
      omega
    have e3 : (4294967296 : Int) ^ k ≤ 10000000000000000000 ^ k := by
      have : (4294967296 : Nat) ^ k ≤ 10000000000000000000 ^ k := Nat.pow_le_pow_left (by omega) _
      have a1 : ((4294967296 ^ k : Nat) : Int) = (4294967296 : Int) ^ k := by rw [Int.natCast_pow]; rfl
      have a2 : ((10000000000000000000 ^ k : Nat) : Int) = (10000000000000000000 : Int) ^ k := by rw [Int.natCast_pow]; rfl
      omega
    have e4 : (10000000000000000000 : Int) ^ k * 1 ≤ 10000000000000000000 ^ k * R := Int.mul_le_mul_of_nonneg_left hR (Int.le_of_lt (Int.pow_pos (by decide)))
    omega

set_option maxHeartbeats 2000000 in
set_option maxRecDepth 100000 in
theorem split_any (ao : Option Addr) (n c b o : Nat) (l : List Int) (w : World) (hl : l.length = n) (hc : n ≤ c) (hbig : n ≤ 1099511627776) (wl : Words l) (ha : At w ao b o l) :
    Calls Tryz.prog 129 #[.slice ao n c] w fun e w' => ∃ v g, e = .returned v ∧ Mine w' w.heap.size v g ∧ GroupsOk g ∧ gval g = val l ∧ (g ≠ [] → 0 < nth g (g.length - 1)) ∧ g.length ≤ 2 * n + 1 ∧ Below w.heap.size w w' := by
  obtain ⟨i0, hi, hz0, hz1, hz2⟩ := info_parts info_u64
  have hV := val_lt wl
  rw [hl] at hV
  go_enter Tryz.func129, Tryz.ntmps129
  go_wp2_with fail
  refine (norm_any ao n c b o l w hl hc hbig ha).mono ?_
  rintro e w1 ⟨rfl, hrow, hb1⟩
  have hn := nlen_le l
  have hnl := norm_length l
  have hI := isN_norm wl
  have hlt1 := hrow.lt
  go_wp2_with fail
  go_loopw [3, 4] (fun tg tr wr => ∃ (g lr : List Int) (N C : Nat), tr = .slice (some ⟨w.heap.size, 0, none⟩) N C ∧ Hid (N = lr.length) ∧ N ≤ C ∧ N ≤ n ∧ Hid (lenOf tg = g.length) ∧ Mine wr (w.heap.size + 1) tg g ∧ GroupsOk g ∧ Words lr ∧ Hid (nlen lr = lr.length) ∧ Hid (gval g + 10000000000000000000 ^ g.length * val lr = val l) ∧ Hid (g ≠ [] → val lr = 0 → 0 < nth g (g.length - 1)) ∧ At wr (some ⟨w.heap.size, 0, none⟩) w.heap.size 0 lr ∧ Free wr w.heap.size 0 N ∧ w.heap.size < wr.heap.size ∧ Below w.heap.size w wr) (fun tg _ _ => 2 * n + 2 - lenOf tg)
  case atStart => exact ⟨[], norm l, nlen l, nlen l, rfl, hnl.symm, Nat.le_refl _, by omega, rfl, World.ownsRow_nil _ _ _ _, fun x hx => by simp at hx, hI.1, hI.2.1, by show _ = _; simp [gval, val_norm], fun h => absurd rfl h, hrow.at, hrow.free _ _, hlt1, hb1⟩
  case round =>
    clear hrow hb1 hnl hI hlt1 hn
    obtain ⟨g, lr, N, C, rfl, hN, hNC, hNn, hlg, hmg, hgo, hwr, hnr, hval, htop, hat, hfr, hsz, hbe⟩ := hrel
    by_cases hlt : 0 < N
    · go_wp2_with fail
      refine (divideSmall_any (some ⟨w.heap.size, 0, none⟩) w.heap.size 0 N C 10000000000000000000 lr wr hN.out.symm (by omega) hNC (by decide) (by decide) hwr hat hfr).mono ?_
      rintro e w2 ⟨left, lz, rfl, hf0, hf1, hlz, hwz, hatz, hwr2, hvz⟩
      have hgl : g.length ≤ 2 * n := by
        have hn0 := hN.out
        have hp := val_pos hwr (by have := hnr.out; omega)
        have hg0 := gval_nonneg hgo
        have hv := hval.out
        exact groups_few (V := val l) (R := val lr) (by omega) (by omega) hV
      have hmg2 := hmg.wr hwr2 (by omega)
      have hown : w2.ownsRow (w.heap.size + 1) 22 1 _ g.length (g.map (Value.int .u64)) := hmg2
      have hsz2 : wr.heap.size ≤ w2.heap.size := Nat.le_of_eq hwr2.size.symm
      have hsz2' : w2.heap.size ≤ wr.heap.size := Nat.le_of_eq hwr2.size
      generalize hGL : g.length = G at *
      have HGL := (show Hid _ from hGL)
      clear hGL
      go_wp2_with (at_builtin; refine wpList_append_own _ rfl _ _ 23 rfl (w.heap.size + 1) 22 i0 (.int .u64 0) 1 8 under_u64s hi hz0 hz1 hz2 rfl (by decide) _ _ _ rfl (hown.alloc _) ⟨w2.heap.size, 0, none⟩ 1 1 [.int .u64 left] rfl rfl ?c1 ?c2 ?c3 ?c4 ?c5 ?_)
      case c1 => exact cell_one_new _ _ _
      case c2 => intro u hu; simp at hu; subst hu; rfl
      case c3 => unfold maxLen; omega
      case c4 => omega
      case c5 => simp; omega
      intro v' w3 hown' hgrow _
      have hB3 : Below (w.heap.size + 1) w2 w3 := ((Below.refl _ _).alloc (by omega) _).grown hgrow (by simp; omega) (own_ge hmg2)
      have hat3 := hatz.below hB3 (.inr (by omega))
      have hfr2 := hwr2.free hfr
      have hfr3 : Free w3 w.heap.size 0 N := fun i hi => by rw [hB3.frozen (p := ⟨w.heap.size, 0 + i, none⟩) (by show w.heap.size < _; omega)]; exact hfr2 i hi
      have hM : Mine w3 (w.heap.size + 1) v' (g ++ [left]) := by
        unfold Mine
        rw [List.length_append, HGL.out, List.map_append]; exact hown'
      have hlv := own_len hown'
      have hsz3 := hB3.size
      have HB : Below w.heap.size w w3 := (hbe.trans (hwr2.below (Nat.le_refl _))).trans (hB3.mono (by omega))
      have t3 := trim_any (some ⟨w.heap.size, 0, none⟩) N C lz w3 hlz hNC (by omega) hat3.cells
      have hz1 := nlen_le lz
      have hz2 := norm_length lz
      have hz3 := hat3.sub (nlen lz)
      have hz4 := nlen_norm lz
      have hz5 := val_norm lz
      have hz6 := hwz.norm
      rw [show lz.take (nlen lz) = norm lz from rfl] at hz3
      have hvl : 0 < val lr := val_pos hwr (by have := hnr.out; have := hN.out; omega)
      have HV : Hid (gval (g ++ [left]) + 10000000000000000000 ^ (g ++ [left]).length * val (norm lz) = val l) := by
        show _ = _
        rw [gval_append, List.length_append, hz5, ← hval.out, ← hvz, HGL.out, List.length_singleton, Int.pow_succ]
        simp only [gval]
        grind
      have HT : Hid ((g ++ [left]) ≠ [] → val (norm lz) = 0 → 0 < nth (g ++ [left]) ((g ++ [left]).length - 1)) := by
        intro _ h0
        rw [List.length_append, List.length_singleton, Nat.add_sub_cancel, nth_append_right (Nat.le_refl _), Nat.sub_self, nth_zero]
        rw [hz5] at h0
        rw [h0] at hvz
        omega
      have HL : Hid (lenOf v' = (g ++ [left]).length) := by show _ = _; rw [hlv, List.length_append, HGL.out]; rfl
      have HO : GroupsOk (g ++ [left]) := by
        intro x hx
        rcases List.mem_append.1 hx with e | e
        · exact hgo x e
        · simp at e; subst e; exact ⟨hf0, hf1⟩
      clear hown' hgrow hown hmg2 hmg hat3 hatz hwr2 hvz hat hfr hfr2 hval htop hbe hB3 hz5
      generalize nlen lz = K at *
      generalize norm lz = R at *
      go_wp2_with fail
      refine t3.mono ?_
      rintro e w6 ⟨rfl, rfl⟩
      go_wp2
      go_roundw
      case rel => exact ⟨g ++ [left], R, K, K, rfl, hz2.symm, Nat.le_refl _, by omega, HL, hM, HO, hz6, hz4, HV, HT, hz3, fun i hi => hfr3 i (by omega), by omega, HB⟩
      case measure =>
        rw [HL.out, hlg.out, List.length_append, HGL.out, List.length_singleton]
        omega
    · have hN0 : lr = [] := List.eq_nil_of_length_eq_zero (by have := hN.out; omega)
      subst hN0
      have hv := hval.out
      rw [show val [] = 0 from rfl, Int.mul_zero, Int.add_zero] at hv
      have ht := fun h => htop.out h rfl
      have hgl : g.length ≤ 2 * n + 1 := by
        have hg0 := gval_nonneg hgo
        by_cases h0 : g = []
        · subst h0; simp
        · have hne : g.length ≠ 0 := fun e => h0 (List.eq_nil_of_length_eq_zero e)
          have hlast := ht h0
          have hsp : g = g.take (g.length - 1) ++ [nth g (g.length - 1)] := by
            rw [← take_succ_nth (by omega), show g.length - 1 + 1 = g.length from by omega, List.take_of_length_le (Nat.le_refl _)]
          have hgv : gval g = gval (g.take (g.length - 1)) + 10000000000000000000 ^ (g.length - 1) * nth g (g.length - 1) := by
            conv => lhs; rw [hsp]
            rw [gval_append, List.length_take, Nat.min_eq_left (by omega)]; simp [gval]
          have h3 := gval_nonneg (l := g.take (g.length - 1)) (fun x hx => hgo x (List.mem_of_mem_take hx))
          have := groups_few (V := val l) (R := nth g (g.length - 1)) (k := g.length - 1) (by omega) (by omega) hV
          omega
      have hmg' : Mine wr w.heap.size _ g := hmg.mono (by omega)
      clear hval htop hlg hmg hN
      have HV := (show Hid _ from hv)
      clear hv
      go_wp2
      go_ret
      exact ⟨_, g, rfl, hmg', hgo, HV.out, ht, hgl, hbe⟩
end Go.Proofs.YtgdohcdlkonhiaaGreatDoor

namespace Go.Proofs.YtgdohcdlkonhiaaGreatDoor
open Go.RowKit Lim

/-- what AppendUint to nothing tells of u -/
def AppAt (u : Int) (wx : World) : Prop := Calls Tryz.prog 130 #[.slice none 0 0, .int .u64 u, .int .i64 10] wx fun e w' => ∃ v d, e = .returned v ∧ MineB w' wx.heap.size v d ∧ DigI d ∧ dvI d = u ∧ 0 < d.length ∧ d.length ≤ 20 ∧ nth d 0 ≠ 48 ∧ Below wx.heap.size wx w'

theorem under_string : Tryz.prog.underlying 9 = some .string := by kernel_rfl

theorem under_u8 : Tryz.prog.underlying 5 = some (.int .u8) := by kernel_rfl
theorem push_data (d : List Int) : ∀ r : ByteArray, (d.foldl (fun r n => r.push (UInt8.ofNat n.toNat)) r).data.toList = r.data.toList ++ d.map (fun n => UInt8.ofNat n.toNat) := by
  induction d with
  | nil => intro r; simp
  | cons c d ih => intro r; rw [List.foldl_cons, ih]; simp
theorem gval_drop {g : List Int} {i : Nat} (h : i < g.length) : gval (g.drop i) = nth g i + 10000000000000000000 * gval (g.drop (i + 1)) := by
  rw [List.drop_eq_getElem_cons h, gval, nth_eq h]
theorem MineB.open {w : World} {B : Nat} {v : Value} {l : List Int} (h : MineB w B v l) (hl : 0 < l.length) : ∃ g c, v = .slice (some ⟨g, 0, none⟩) l.length c ∧ l.length ≤ c ∧ B ≤ g ∧ AtB w (some ⟨g, 0, none⟩) g 0 l ∧ Free w g 0 l.length := by
  obtain ⟨_, h2⟩ := h
  rcases h2 with ⟨rfl, h0⟩ | ⟨g, cap, cur, rfl, hB, hh, hle, hmx, hsz, htk⟩
  · omega
  · refine ⟨g, cap, rfl, hle, hB, ⟨.inr rfl, fun i hi => ?_⟩, fun i hi => ?_⟩
    · have e : cur.toList[i]? = some (.int .u8 (nth l i)) := by
        have h1 : (cur.toList.take (l.length * 1))[i]? = some (.int .u8 (nth l i)) := by
          rw [htk, List.getElem?_map, List.getElem?_eq_getElem hi, nth_eq hi]; rfl
        rwa [Nat.mul_one, List.getElem?_take_of_lt hi] at h1
      simp only [World.cell?, hh]
      simpa using e
    · simp [World.frozen?, hh]

/-- the digits of a value: as a text is -/
structure TextOf (s : ByteArray) (n : Int) : Prop where
  bytes : ∃ d : List Int, s.data.toList.map (fun c => (c.toNat : Int)) = d ∧ DigI d ∧ dvI d = n ∧ 0 < d.length ∧ (d.length = 1 ∨ nth d 0 ≠ 48)

set_option maxHeartbeats 2000000 in
set_option maxRecDepth 100000 in
theorem text_any (ao : Option Addr) (n c b o : Nat) (l : List Int) (w : World) (hl : l.length = n) (hc : n ≤ c) (hbig : n ≤ 4294967296) (wl : Words l) (ha : At w ao b o l)
    (hApp : ∀ g, GroupsOk g → gval g = val l → g ≠ [] → 0 < nth g (g.length - 1) → ∀ wx, Below w.heap.size w wx → AppAt (nth g (g.length - 1)) wx) :
    Calls Tryz.prog 71 #[.slice ao n c] w fun e w' => ∃ s, e = .returned (.string s) ∧ TextOf s (val l) ∧ s.size ≤ 40 * n + 40 ∧ Below w.heap.size w w' := by
  go_enter Tryz.func71, Tryz.ntmps71
  go_wp2_with fail
  refine (split_any ao n c b o l w hl hc (by omega) wl ha).mono ?_
  rintro e w1 ⟨v, g, rfl, hmg, hgo, hgv, htop, hgl, hb1⟩
  obtain ⟨ag, cg, rfl, hgc, _, bg, hloc, hBg, hatg, _⟩ := hmg.open
  have hsz1 := hb1.size
  by_cases hg0 : g = []
  · subst hg0
    have hv0 : val l = 0 := by rw [← hgv]; rfl
    have HV0 := (show Hid _ from hv0)
    clear hgv hv0
    go_wp2
    go_ret
    refine ⟨_, rfl, ⟨[48], rfl, fun c hc => by rw [List.mem_singleton] at hc; subst hc; decide, by rw [HV0.out]; rfl, by simp, .inl rfl⟩, ?_, hb1⟩
    show 1 ≤ _; omega
  · have hgp : 0 < g.length := Nat.pos_of_ne_zero fun e => hg0 (List.eq_nil_of_length_eq_zero e)
    rcases hloc with e | rfl
    · exact absurd e hg0
    have tA := hApp g hgo hgv hg0 (htop hg0)
    have HGV := (show Hid _ from hgv)
    have hcell := hatg.cell (g.length - 1) (by omega)
    rw [Nat.zero_add] at hcell
    obtain ⟨m, hm⟩ : ∃ m, g.length = m + 1 := ⟨g.length - 1, by omega⟩
    rw [hm, Nat.add_sub_cancel] at hcell tA
    have HM := (show Hid _ from hm)
    rw [hm]
    have hu0 : (m : Int) < (m : Int) + 1 := by omega
    clear hgv htop hApp hm hgc
    have hmg1 : m + 1 ≤ 2 * n + 1 := by have := HM.out; omega
    generalize hU : nth g m = U at *
    have HU := (show Hid _ from hU)
    clear hU
    go_wp2_with fail
    have tB := tA w1 hb1
    unfold AppAt at tB
    clear tA
    refine tB.mono ?_
    rintro e w2 ⟨v2, d0, rfl, hm2, hd2, hdv2, hd20, hd21, hd22, hb2⟩
    have hsz2 := hb2.size
    have hat2 := hatg.keep hb2
    go_wp2_with fail
    go_loopw [5, 21] (fun tt ti wr => ∃ (k : Nat) (d : List Int), k ≤ m ∧ ti = .int .i64 k ∧ MineB wr w1.heap.size tt d ∧ DigI d ∧ Hid (dvI d = gval (g.drop (m - k))) ∧ 0 < d.length ∧ d.length ≤ 20 + 19 * k ∧ nth d 0 ≠ 48 ∧ Below w1.heap.size w1 wr) (fun _ ti _ => m - (intOf ti).toNat)
    case atStart => exact ⟨0, d0, Nat.zero_le _, rfl, hm2, hd2, by show _ = _; rw [hdv2, Nat.sub_zero, gval_drop (by have := HM.out; omega), List.drop_of_length_le (by have := HM.out; omega), HU.out]; simp [gval], hd20, by omega, hd22, hb2⟩
    case round =>
      clear hm2 hd2 hdv2 hd20 hd21 hd22 hb2 hat2
      obtain ⟨k, d, hk, rfl, hmd, hdd, hdv, hdl0, hdl1, hd48, hbe⟩ := hrel
      by_cases hlt : k < m
      · obtain ⟨h, hh⟩ : ∃ h : Nat, (m : Int) - 1 - k = h := ⟨m - 1 - k, by omega⟩
        have hh1 : (h : Int) < (m : Int) + 1 := by omega
        have hhm : m - k = h + 1 := by omega
        have hatw := hatg.below (hbe.mono (Nat.le_refl _)) (.inr (cell_lt hcell))
        have hcw := hatw.cell h (by have := HM.out; omega)
        rw [Nat.zero_add] at hcw
        have hgh := hgo (nth g h) (nth_mem (by have := HM.out; omega))
        have HD := hdv.out
        rw [hhm] at HD
        have HD : Hid (dvI d = gval (g.drop (h + 1))) := HD
        have HG : Hid (gval (g.drop (m - (k + 1))) = nth g h + 10000000000000000000 * gval (g.drop (h + 1))) := by
          show _ = _
          rw [show m - (k + 1) = h from by omega, gval_drop (by have := HM.out; omega)]
        have HX : Hid (nth g h = nth g h) := rfl
        generalize nth g h = x at *
        clear hatw hdv
        go_wp2_with (go_at_call 131; refine (appendGroup_any w1.heap.size _ d x _ hbe.size hmd (by omega) hgh.1 hgh.2).mono ?_; rintro e w5 ⟨v5, q, rfl, hm5, hq5, hql, hqv, hb5⟩)
        go_roundw
        case rel =>
          refine ⟨k + 1, d ++ q, by omega, by go_num, hm5, ?_, ?_, by simp; omega, by simp; omega, ?_, hbe.trans hb5⟩
          · intro c hc
            rcases List.mem_append.1 hc with e | e
            · exact hdd c e
            · exact hq5 c e
          · show _ = _
            rw [dvI_append, hql, hqv, HD.out, HG.out, show (10 : Int) ^ 19 = 10000000000000000000 from rfl]; grind
          · rw [nth_append_left hdl0]; exact hd48
        case measure => simp [intOf]; omega
      · have hkm : k = m := by omega
        subst hkm
        rw [Nat.sub_self, List.drop_zero] at hdv
        obtain ⟨gb, cb, rfl, hdc, hgb, hatd, _⟩ := hmd.open hdl0
        have hload := run_loadCells_list (P := Tryz.prog) wr ⟨gb, 0, none⟩ (d.map (Value.int .u8)) (fun j u hu => by
          rw [List.getElem?_map] at hu
          have hj : j < d.length := by
            rcases Nat.lt_or_ge j d.length with hj | hj
            · exact hj
            · rw [List.getElem?_eq_none hj] at hu; simp at hu
          rw [List.getElem?_eq_getElem hj] at hu
          simp at hu
          subst hu
          have := hatd.cell j hj
          rw [nth_eq hj] at this
          rw [← this]
          by_cases hj0 : j = 0
          · subst hj0; exact congrArg wr.cell? (by simp [Addr.add])
          · exact congrArg wr.cell? (by simp [Addr.add, hj0]))
        rw [List.length_map] at hload
        have hconv := (run_convert_bytes_string (P := Tryz.prog) wr 42 9 5 (some ⟨gb, 0, none⟩) d.length cb under_bytes under_u8 under_string).trans (run_bytesToString wr ⟨gb, 0, none⟩ d.length cb d hload)
        obtain ⟨S, hS⟩ : ∃ S, d.foldl (fun r n => r.push (UInt8.ofNat n.toNat)) ByteArray.empty = S := ⟨_, rfl⟩
        rw [hS] at hconv
        have HS := (show Hid _ from hS)
        clear hS hload
        have HB : Below w.heap.size w wr := hb1.trans (hbe.mono hsz1)
        go_wp2
        go_ret
        have e1 := push_data d ByteArray.empty
        rw [HS.out] at e1
        have e2 : S.data.toList.map (fun c => (c.toNat : Int)) = d := by
          rw [e1]
          simp only [show ByteArray.empty.data.toList = [] from rfl, List.nil_append, List.map_map]
          conv => rhs; rw [← List.map_id d]
          apply List.map_congr_left
          intro c hc
          have := hdd c hc
          simp [Function.comp, UInt8.toNat_ofNat']
          omega
        refine ⟨S, rfl, ⟨d, e2, hdd, by rw [hdv.out, HGV.out], hdl0, .inr hd48⟩, ?_, HB⟩
        have : S.size = d.length := by rw [← e2]; simp
        omega
end Go.Proofs.YtgdohcdlkonhiaaGreatDoor

namespace Go.Proofs
open Go.Shelf
def Tryz.lays162_ren : Go.Shelf.Ren := ⟨fun | 162 => 73 | 232 => 133 | 227 => 134 | 234 => 135 | 236 => 136 | 228 => 201 | 271 => 202 | 151 => 203 | 120 => 257 | 197 => 258 | 152 => 259 | 260 => 299 | 137 => 300 | 119 => 301 | 224 => 302 | 225 => 303 | 217 => 320 | 266 => 330 | n => n, fun | 9 => 9 | 4 => 4 | 3 => 3 | 5 => 5 | 117 => 214 | 116 => 213 | 0 => 0 | 124 => 217 | 21 => 21 | 105 => 283 | 46 => 242 | 119 => 166 | 139 => 382 | 138 => 381 | n => n, fun | 3 => 4 | 4 => 5 | n => n⟩
theorem Tryz.lays162 : Go.Proofs.Lays.n162 Tryz.prog Tryz.lays162_ren := {
  mixed := by kernel_rfl
  f119 := Tryz.func301.trans (congrArg some (by kernel_rfl))
  f120 := Tryz.func257.trans (congrArg some (by kernel_rfl))
  f137 := Tryz.func300.trans (congrArg some (by kernel_rfl))
  f151 := Tryz.func203.trans (congrArg some (by kernel_rfl))
  f152 := Tryz.func259.trans (congrArg some (by kernel_rfl))
  f162 := Tryz.func73.trans (congrArg some (by kernel_rfl))
  f197 := Tryz.func258.trans (congrArg some (by kernel_rfl))
  f217 := Tryz.func320.trans (congrArg some (by kernel_rfl))
  f224 := Tryz.func302.trans (congrArg some (by kernel_rfl))
  f225 := Tryz.func303.trans (congrArg some (by kernel_rfl))
  f227 := Tryz.func134.trans (congrArg some (by kernel_rfl))
  f228 := Tryz.func201.trans (congrArg some (by kernel_rfl))
  f232 := Tryz.func133.trans (congrArg some (by kernel_rfl))
  f234 := Tryz.func135.trans (congrArg some (by kernel_rfl))
  f236 := Tryz.func136.trans (congrArg some (by kernel_rfl))
  f260 := Tryz.func299.trans (congrArg some (by kernel_rfl))
  f266 := Tryz.func330.trans (congrArg some (by kernel_rfl))
  f271 := Tryz.func202.trans (congrArg some (by kernel_rfl))
  t0 := Tryz.underlying0
  a0 := Tryz.isAgg0
  z0 := Tryz.sizeOf0
  v0 := Tryz.zeroValue0
  t3 := Tryz.underlying3
  a3 := Tryz.isAgg3
  z3 := Tryz.sizeOf3
  v3 := Tryz.zeroValue3
  t4 := Tryz.underlying4
  a4 := Tryz.isAgg4
  z4 := Tryz.sizeOf4
  v4 := Tryz.zeroValue4
  t5 := Tryz.underlying5
  a5 := Tryz.isAgg5
  z5 := Tryz.sizeOf5
  v5 := Tryz.zeroValue5
  t9 := Tryz.underlying9
  a9 := Tryz.isAgg9
  z9 := Tryz.sizeOf9
  v9 := Tryz.zeroValue9
  t21 := Tryz.underlying21
  a21 := Tryz.isAgg21
  z21 := Tryz.sizeOf21
  v21 := Tryz.zeroValue21
  t46 := Tryz.underlying242
  a46 := Tryz.isAgg242
  z46 := Tryz.sizeOf242
  v46 := Tryz.zeroValue242
  t105 := Tryz.underlying283
  a105 := Tryz.isAgg283
  z105 := Tryz.sizeOf283
  v105 := Tryz.zeroValue283
  t116 := Tryz.underlying213
  a116 := Tryz.isAgg213
  z116 := Tryz.sizeOf213
  t117 := Tryz.underlying214
  a117 := Tryz.isAgg214
  z117 := Tryz.sizeOf214
  v117 := Tryz.zeroValue214
  t119 := Tryz.underlying166
  a119 := Tryz.isAgg166
  z119 := Tryz.sizeOf166
  t124 := Tryz.underlying217
  a124 := Tryz.isAgg217
  z124 := Tryz.sizeOf217
  v124 := Tryz.zeroValue217
  t138 := Tryz.underlying381
  a138 := Tryz.isAgg381
  z138 := Tryz.sizeOf381
  v138 := Tryz.zeroValue381
  t139 := Tryz.underlying382
  a139 := Tryz.isAgg382
  z139 := Tryz.sizeOf382
  v139 := Tryz.zeroValue382
  g3 := by kernel_rfl
  g4 := by kernel_rfl }
open Go.RowKit in
theorem Tryz.strings_TrimRight_one (s : ByteArray) (c : UInt8) (hc : c.toNat < 128) (w : World) (hs : s.size ≤ 9223372036854775807) :
    Calls Tryz.prog 73 #[.string s, .string ⟨#[c]⟩] w fun e w' => e = .returned (.string ⟨(Lib.trimRightB s.data.toList c).toArray⟩) ∧ w' = w := Any.strings_TrimRight_one Tryz.lays162 s c hc w hs
def Tryz.laysM288_ren : Go.Shelf.Ren := ⟨fun | 288 => 199 | 283 => 253 | 284 => 254 | 285 => 255 | 286 => 256 | 129 => 251 | 317 => 295 | 318 => 296 | 319 => 297 | 320 => 298 | 337 => 318 | 338 => 319 | n => n, fun | 37 => 42 | 53 => 22 | 3 => 3 | 4 => 4 | 9 => 9 | 171 => 327 | 0 => 0 | 173 => 329 | 212 => 359 | 51 => 360 | 5 => 5 | 20 => 20 | 213 => 361 | 46 => 242 | 232 => 391 | 233 => 392 | n => n, fun | 17 => 2 | 18 => 6 | 19 => 7 | n => n⟩
theorem Tryz.laysM288 : Go.Proofs.LaysM.n288 Tryz.prog Tryz.laysM288_ren := {
  mixed := by kernel_rfl
  f129 := Tryz.func251.trans (congrArg some (by kernel_rfl))
  f283 := Tryz.func253.trans (congrArg some (by kernel_rfl))
  f284 := Tryz.func254.trans (congrArg some (by kernel_rfl))
  f285 := Tryz.func255.trans (congrArg some (by kernel_rfl))
  f286 := Tryz.func256.trans (congrArg some (by kernel_rfl))
  f288 := Tryz.func199.trans (congrArg some (by kernel_rfl))
  f317 := Tryz.func295.trans (congrArg some (by kernel_rfl))
  f318 := Tryz.func296.trans (congrArg some (by kernel_rfl))
  f319 := Tryz.func297.trans (congrArg some (by kernel_rfl))
  f320 := Tryz.func298.trans (congrArg some (by kernel_rfl))
  f337 := Tryz.func318.trans (congrArg some (by kernel_rfl))
  f338 := Tryz.func319.trans (congrArg some (by kernel_rfl))
  t0 := Tryz.underlying0
  a0 := Tryz.isAgg0
  z0 := Tryz.sizeOf0
  v0 := Tryz.zeroValue0
  t3 := Tryz.underlying3
  a3 := Tryz.isAgg3
  z3 := Tryz.sizeOf3
  v3 := Tryz.zeroValue3
  t4 := Tryz.underlying4
  a4 := Tryz.isAgg4
  z4 := Tryz.sizeOf4
  v4 := Tryz.zeroValue4
  t5 := Tryz.underlying5
  a5 := Tryz.isAgg5
  z5 := Tryz.sizeOf5
  v5 := Tryz.zeroValue5
  t9 := Tryz.underlying9
  a9 := Tryz.isAgg9
  z9 := Tryz.sizeOf9
  v9 := Tryz.zeroValue9
  t20 := Tryz.underlying20
  a20 := Tryz.isAgg20
  z20 := Tryz.sizeOf20
  v20 := Tryz.zeroValue20
  t37 := Tryz.underlying42
  a37 := Tryz.isAgg42
  z37 := Tryz.sizeOf42
  v37 := Tryz.zeroValue42
  t46 := Tryz.underlying242
  a46 := Tryz.isAgg242
  z46 := Tryz.sizeOf242
  v46 := Tryz.zeroValue242
  t51 := Tryz.underlying360
  a51 := Tryz.isAgg360
  z51 := Tryz.sizeOf360
  v51 := Tryz.zeroValue360
  t53 := Tryz.underlying22
  a53 := Tryz.isAgg22
  z53 := Tryz.sizeOf22
  v53 := Tryz.zeroValue22
  t171 := Tryz.underlying327
  a171 := Tryz.isAgg327
  z171 := Tryz.sizeOf327
  v171 := Tryz.zeroValue327
  t173 := Tryz.underlying329
  a173 := Tryz.isAgg329
  z173 := Tryz.sizeOf329
  v173 := Tryz.zeroValue329
  t212 := Tryz.underlying359
  a212 := Tryz.isAgg359
  z212 := Tryz.sizeOf359
  v212 := Tryz.zeroValue359
  t213 := Tryz.underlying361
  a213 := Tryz.isAgg361
  z213 := Tryz.sizeOf361
  t232 := Tryz.underlying391
  a232 := Tryz.isAgg391
  z232 := Tryz.sizeOf391
  v232 := Tryz.zeroValue391
  t233 := Tryz.underlying392
  a233 := Tryz.isAgg392
  z233 := Tryz.sizeOf392
  v233 := Tryz.zeroValue392
  g17 := by kernel_rfl
  g18 := by kernel_rfl
  g19 := by kernel_rfl
  i0 := by kernel_rfl
  i3 := by kernel_rfl
  i4 := by kernel_rfl
  i5 := by kernel_rfl
  i9 := by kernel_rfl
  i20 := by kernel_rfl
  i37 := by kernel_rfl
  i46 := by kernel_rfl
  i51 := by kernel_rfl
  i53 := by kernel_rfl
  i171 := by kernel_rfl
  i173 := by kernel_rfl
  i212 := by kernel_rfl
  i232 := by kernel_rfl
  i233 := by kernel_rfl
  m17 := by kernel_rfl
  m18 := by kernel_rfl
  m19 := by kernel_rfl }
open Go.RowKit Go.Sort Go.Lib in
theorem Tryz.internal_strconv_AppendUint_10_small (B n u : Nat) (hu : u < 100) (sv : Value) (xs : List Value) (w : World) (hown : w.ownsRow B 5 1 sv n xs) (hBw : B ≤ w.heap.size) (hlim : n + 20 ≤ 140737488355328) :
    Calls Tryz.prog 199 #[sv, .int .u64 u, .int .i64 10] w fun e w' => ∃ v', e = .returned v' ∧ w'.ownsRow B 5 1 v' (n + (Lib.decDigits u).length) (xs ++ Lib.byteCells (Lib.decDigits u)) ∧ Below B w w' ∧ Lib.OthersKept 5 none w w' := Any.internal_strconv_AppendUint_10_small Tryz.laysM288 B n u hu sv xs w hown hBw hlim
end Go.Proofs

namespace Go.Proofs.YtgdohcdlkonhiaaGreatDoor
open Go.RowKit Lim

theorem u8_small {n : Nat} (h : n < 256) : (UInt8.ofNat n).toNat = n := by simp [Nat.mod_eq_of_lt h]
theorem dec_dig (u : Nat) : DigI ((Lib.decDigits u).map fun c => (c.toNat : Int)) ∧ dvI ((Lib.decDigits u).map fun c => (c.toNat : Int)) = u ∧ 0 < (Lib.decDigits u).length ∧ (0 < u → nth ((Lib.decDigits u).map fun c => (c.toNat : Int)) 0 ≠ 48) := by
  induction u using Nat.strongRecOn with
  | ind u ih =>
    by_cases h : u < 10
    · rw [Lib.decDigits, dif_pos h]
      have e : (UInt8.ofNat (48 + u)).toNat = 48 + u := u8_small (by omega)
      simp only [List.map_cons, List.map_nil, e]
      refine ⟨fun c hc => ?_, ?_, by simp, fun h0 => ?_⟩
      · rw [List.mem_singleton] at hc; omega
      · simp [dvI]; omega
      · rw [nth_zero]; omega
    · rw [Lib.decDigits, dif_neg h]
      obtain ⟨i1, i2, i3, i4⟩ := ih (u / 10) (by omega)
      have e : (UInt8.ofNat (48 + u % 10)).toNat = 48 + u % 10 := u8_small (by omega)
      simp only [List.map_append, List.map_cons, List.map_nil, e]
      refine ⟨i1.snoc (by omega) (by omega), ?_, by simp, fun _ => ?_⟩
      · rw [dvI_snoc, i2]; omega
      · rw [nth_append_left (by simpa using i3)]; exact i4 (by omega)
theorem byteCells_ints (l : List UInt8) : Lib.byteCells l = (l.map fun c => (c.toNat : Int)).map (Value.int .u8) := by
  simp [Lib.byteCells]

theorem app_post {u : Nat} {wx w' : World} {e : Ending} (h0 : 0 < u) (h20 : (Lib.decDigits u).length ≤ 20)
    (h : ∃ v', e = .returned v' ∧ w'.ownsRow wx.heap.size 5 1 v' (0 + (Lib.decDigits u).length) ([] ++ Lib.byteCells (Lib.decDigits u)) ∧ Below wx.heap.size wx w' ∧ Lib.OthersKept 5 none wx w') :
    ∃ v d, e = .returned v ∧ MineB w' wx.heap.size v d ∧ DigI d ∧ dvI d = (u : Int) ∧ 0 < d.length ∧ d.length ≤ 20 ∧ nth d 0 ≠ 48 ∧ Below wx.heap.size wx w' := by
  obtain ⟨v, rfl, h1, h2, _⟩ := h
  obtain ⟨d1, d2, d3, d4⟩ := dec_dig u
  refine ⟨v, _, rfl, ?_, d1, d2, by simpa using d3, by simpa using h20, d4 h0, h2⟩
  unfold MineB
  rw [← byteCells_ints, List.length_map]
  rw [Nat.zero_add, List.nil_append] at h1
  exact h1
theorem dec20 {u : Nat} (h : u < 18446744073709551616) : (Lib.decDigits u).length ≤ 20 := by
  by_cases h0 : u = 0
  · subst h0; rw [Lib.decDigits_one (by decide)]; simp
  · have := Lib.numDigits_eq u (by omega) h
    rw [Lib.decDigits_length]
    split at this <;> omega

set_option maxHeartbeats 1000000 in
set_option maxRecDepth 100000 in
theorem app_small (u : Nat) (h0 : 0 < u) (h1 : u < 100) (wx : World) : AppAt (u : Int) wx := by
  unfold AppAt
  have hown : wx.ownsRow wx.heap.size 5 1 (.slice none 0 0) 0 [] := World.ownsRow_nil _ _ _ _
  have t := Tryz.internal_strconv_AppendUint_10_small wx.heap.size 0 u h1 (.slice none 0 0) [] wx hown (Nat.le_refl _) (by decide)
  go_enter Tryz.func130, Tryz.ntmps130
  go_wp2_with fail
  refine t.mono ?_
  intro e w' h
  have hp := app_post h0 (dec20 (by omega)) h
  obtain ⟨v, d, rfl, r⟩ := hp
  go_wp2
  go_ret
  exact ⟨v, d, rfl, r⟩

end Go.Proofs.YtgdohcdlkonhiaaGreatDoor

namespace Go.Proofs.YtgdohcdlkonhiaaGreatDoor
open Go.RowKit Lim

/-- the last k decimal digits of x, as bytes -/
def digL : Nat → Int → List Int
  | 0, _ => []
  | k + 1, x => digL k (x / 10) ++ [48 + x % 10]
theorem digL_length (k : Nat) (x : Int) : (digL k x).length = k := by
  induction k generalizing x with
  | zero => rfl
  | succ k ih => simp [digL, ih]
theorem digL_dig {k : Nat} {x : Int} (h : 0 ≤ x) : DigI (digL k x) := by
  induction k generalizing x with
  | zero => intro c hc; simp [digL] at hc
  | succ k ih => exact (ih (by omega)).snoc (by omega) (by omega)
theorem digL_val {k : Nat} {x : Int} (h : 0 ≤ x) : dvI (digL k x) = x % 10 ^ k := by
  induction k generalizing x with
  | zero => simp [digL, dvI]
  | succ k ih =>
    rw [digL, dvI_snoc, ih (by omega), Int.pow_succ]
    have hp : (0 : Int) < 10 ^ k := Int.pow_pos (by decide)
    have e1 := Int.mul_ediv_add_emod (x / 10) (10 ^ k)
    have e2 := Int.mul_ediv_add_emod x 10
    have e3 := Int.emod_nonneg (x / 10) (show (10 : Int) ^ k ≠ 0 by omega)
    have e4 := Int.emod_lt_of_pos (x / 10) hp
    generalize x / 10 % 10 ^ k = r at *
    generalize hq : x / 10 / 10 ^ k = q at *
    generalize (10 : Int) ^ k = P at *
    have h5 : x = (10 * r + x % 10) + (P * 10) * q := by
      have : 10 * (P * q + r) + x % 10 = x := by rw [e1]; omega
      rw [← this]; rw [Int.mul_add]; have : 10 * (P * q) = P * 10 * q := by rw [← Int.mul_assoc, Int.mul_comm 10 P]
      omega
    conv => rhs; rw [h5]
    rw [Int.add_mul_emod_self_left, Int.emod_eq_of_lt (a := 10 * r + x % 10) (b := P * 10) (by omega) (by omega)]
    omega
theorem digL_split (k m : Nat) (x : Int) (h : 0 ≤ x) : digL (k + m) x = digL k (x / 10 ^ m) ++ digL m x := by
  induction m generalizing x with
  | zero => simp [digL]
  | succ m ih =>
    rw [Nat.add_succ, digL, ih _ (by omega), digL, List.append_assoc]
    congr 2
    rw [Int.pow_succ, Int.mul_comm, ← Int.ediv_ediv_of_nonneg (by decide)]
/-- two digits at once -/
theorem digL_two (k : Nat) (x : Int) : digL (k + 2) x = digL k (x / 100) ++ [48 + x % 100 / 10, 48 + x % 100 % 10] := by
  rw [digL, digL, List.append_assoc]
  have e1 : x / 10 / 10 = x / 100 := by omega
  have e2 : x / 10 % 10 = x % 100 / 10 := by omega
  have e3 : x % 10 = x % 100 % 10 := by omega
  rw [e1, e2, e3]; rfl
end Go.Proofs.YtgdohcdlkonhiaaGreatDoor

namespace Go.Proofs.YtgdohcdlkonhiaaGreatDoor
open Go.RowKit Lim

theorem dvI_bound {l : List Int} (h : DigI l) : 0 ≤ dvI l ∧ dvI l < 10 ^ l.length := by
  induction l with
  | nil => simp [dvI]
  | cons c l ih =>
    have hc := h c (by simp)
    have := ih fun x hx => h x (by simp [hx])
    have e : dvI (c :: l) = (c - 48) * 10 ^ l.length + dvI l := by rw [show c :: l = [c] ++ l from rfl, dvI_append]; simp [dvI]
    have hp : (0 : Int) < 10 ^ l.length := Int.pow_pos (by decide)
    have h1 : 0 ≤ (c - 48) * 10 ^ l.length := Int.mul_nonneg (by omega) (Int.le_of_lt hp)
    have h2 : (c - 48) * 10 ^ l.length ≤ 9 * 10 ^ l.length := Int.mul_le_mul_of_nonneg_right (by omega) (Int.le_of_lt hp)
    rw [e, List.length_cons, Int.pow_succ]; omega
theorem dvI_ge {l : List Int} (h : DigI l) (h0 : 0 < l.length) (h1 : nth l 0 ≠ 48) : 10 ^ (l.length - 1) ≤ dvI l := by
  cases l with
  | nil => simp at h0
  | cons c l =>
    rw [nth_zero] at h1
    have hc := h c (by simp)
    have hb := dvI_bound (l := l) fun x hx => h x (by simp [hx])
    have e : dvI (c :: l) = (c - 48) * 10 ^ l.length + dvI l := by rw [show c :: l = [c] ++ l from rfl, dvI_append]; simp [dvI]
    have hp : (0 : Int) < 10 ^ l.length := Int.pow_pos (by decide)
    have : 1 * 10 ^ l.length ≤ (c - 48) * 10 ^ l.length := Int.mul_le_mul_of_nonneg_right (by omega) (Int.le_of_lt hp)
    rw [e, List.length_cons, Nat.add_sub_cancel]; omega
theorem dvI_inj : ∀ {a b : List Int}, DigI a → DigI b → a.length = b.length → dvI a = dvI b → a = b
  | [], [], _, _, _, _ => rfl
  | x :: a, y :: b, ha, hb, hl, hv => by
    have ha' : DigI a := fun z hz => ha z (by simp [hz])
    have hb' : DigI b := fun z hz => hb z (by simp [hz])
    have hl' : a.length = b.length := by simpa using hl
    have h1 := dvI_bound ha'
    have h2 := dvI_bound hb'
    have e1 : dvI (x :: a) = (x - 48) * 10 ^ b.length + dvI a := by rw [show x :: a = [x] ++ a from rfl, dvI_append, hl']; simp [dvI]
    have e2 : dvI (y :: b) = (y - 48) * 10 ^ b.length + dvI b := by rw [show y :: b = [y] ++ b from rfl, dvI_append]; simp [dvI]
    rw [e1, e2] at hv
    rw [hl'] at h1
    have hp : (0 : Int) < 10 ^ b.length := Int.pow_pos (by decide)
    have e : x = y := by
      rcases Int.lt_trichotomy x y with c | c | c
      · have : (x - 48 + 1) * 10 ^ b.length ≤ (y - 48) * 10 ^ b.length := Int.mul_le_mul_of_nonneg_right (by omega) (Int.le_of_lt hp)
        rw [Int.add_mul] at this; omega
      · exact c
      · have : (y - 48 + 1) * 10 ^ b.length ≤ (x - 48) * 10 ^ b.length := Int.mul_le_mul_of_nonneg_right (by omega) (Int.le_of_lt hp)
        rw [Int.add_mul] at this; omega
    subst e
    rw [dvI_inj ha' hb' hl' (by omega)]
theorem dig_unique {a b : List Int} (ha : DigI a) (hb : DigI b) (h0 : 0 < a.length) (h1 : 0 < b.length) (ka : a.length = 1 ∨ nth a 0 ≠ 48) (kb : b.length = 1 ∨ nth b 0 ≠ 48) (hv : dvI a = dvI b) : a = b := by
  apply dvI_inj ha hb _ hv
  have key : ∀ {a b : List Int}, DigI a → DigI b → 0 < a.length → 0 < b.length → (b.length = 1 ∨ nth b 0 ≠ 48) → dvI a = dvI b → ¬ a.length < b.length := by
    intro a b ha hb h0 h1 kb hv hlt
    have h2 := (dvI_bound ha).2
    rcases kb with e | e
    · omega
    · have h3 := dvI_ge hb h1 e
      have := pow10_le (show a.length ≤ b.length - 1 by omega)
      omega
  have k1 := key ha hb h0 h1 kb hv
  have k2 := key hb ha h1 h0 ka hv.symm
  omega
/-- the text of a value, told by its digits -/
theorem text_is {S : ByteArray} {n : Int} (h : TextOf S n) (l : List UInt8) (hd : (l.map (fun c => (c.toNat : Int))).all (fun c => decide (48 ≤ c ∧ c ≤ 57)) = true) (hv : dvI (l.map (fun c => (c.toNat : Int))) = n) (h0 : 0 < l.length) (h1 : l.length = 1 ∨ nth (l.map (fun c => (c.toNat : Int))) 0 ≠ 48) : S = ⟨l.toArray⟩ := by
  obtain ⟨d, e, hdd, hdv, hd0, hd1⟩ := h.bytes
  have hD : DigI (l.map (fun c => (c.toNat : Int))) := fun c hc => by
    rw [List.all_eq_true] at hd; simpa using hd c hc
  have := dig_unique hdd hD hd0 (by simpa using h0) hd1 (by simpa using h1) (hdv.trans hv.symm)
  rw [← e] at this
  have h2 : S.data.toList = l := List.map_inj_right (fun a b hab => UInt8.toNat_inj.1 (by omega)) |>.1 this
  cases S with
  | mk arr => simp at h2; simp [← h2]
end Go.Proofs.YtgdohcdlkonhiaaGreatDoor

namespace Go.Proofs.YtgdohcdlkonhiaaGreatDoor
open Go.RowKit Lim

set_option maxHeartbeats 1000000 in
set_option maxRecDepth 100000 in
theorem nSmall {w : World} {ao : Option Addr} {n c : Nat} {x : Int} (h : NatO w ao n c x) (hn : n ≤ 1099511627776) (hx : x < 18446744073709551616) :
    Calls Tryz.prog 81 #[.slice ao n c] w fun e w' => e = .returned (.tuple #[.int .u64 x, .bool true]) ∧ Below w.heap.size w w' := by
  obtain ⟨b, o, l, h1, h2, h3, h4⟩ := h.ex
  have hnl : nlen l = n := h3.2.1.trans h1
  have hn1 : n ≤ 1 := by
    rcases Nat.lt_or_ge 1 n with e | e
    · have h5 := val_ge_of_nlen h3.1 (by omega)
      have h6 := pow_mono (show 1 ≤ nlen l - 1 by omega)
      rw [h3.2.2] at h5
      have h7 : (18446744073709551616 : Int) ^ 1 = 18446744073709551616 := by decide
      omega
    · exact e
  have t := trim_any ao n c l w h1 h2 (by omega) h4.cells
  rw [hnl] at t
  have hv := h3.2.2
  rcases (show n = 0 ∨ n = 1 by omega) with e | e
  · subst e
    obtain rfl : l = [] := List.eq_nil_of_length_eq_zero h1
    have hx0 : x = 0 := by rw [← hv]; rfl
    subst hx0
    clear hv hnl
    go_enter Tryz.func81, Tryz.ntmps81
    go_wp2_with fail
    refine t.mono ?_
    rintro e w' ⟨rfl, rfl⟩
    go_wp2
    go_ret2
    exact ⟨rfl, Below.refl _ _⟩
  · subst e
    obtain ⟨y, rfl⟩ : ∃ y, l = [y] := by
      match l, h1 with
      | [y], _ => exact ⟨y, rfl⟩
    have hy : y = x := by rw [← hv]; simp [val]
    subst hy
    have hc := h4.cell 0 (by simp)
    obtain rfl : ao = some ⟨b, o, none⟩ := by
      rcases h4.loc with e | e
      · simp at e
      · exact e
    rw [nth_zero, Nat.add_zero] at hc
    clear hv hnl h4 h3
    go_enter Tryz.func81, Tryz.ntmps81
    go_wp2_with fail
    refine t.mono ?_
    rintro e w' ⟨rfl, rfl⟩
    go_wp2
    go_ret2
    exact ⟨rfl, Below.refl _ _⟩

theorem pair_at (i : Nat) (h : i < 100) : ∀ j v, [Value.int .u8 (48 + (i : Int) / 10), Value.int .u8 (48 + (i : Int) % 10)][j]? = some v → ∀ (w : World) (gp : Nat), RowT w gp 219 (pairL 100) → w.cell? ((⟨gp, i * 2, none⟩ : Addr).add j) = some v := by
  intro j v hj w gp R
  have hl := pairL_length 100
  obtain ⟨p0, p1⟩ := pairL_nth h
  match j, hj with
  | 0, hj =>
    simp at hj; subst hj
    have := R.cell (i := 2 * i) (by omega)
    rw [p0] at this
    rw [← this]
    exact congrArg w.cell? (by simp [Addr.add, Nat.mul_comm])
  | 1, hj =>
    simp at hj; subst hj
    have := R.cell (i := 2 * i + 1) (by omega)
    rw [p1] at this
    rw [← this]
    exact congrArg w.cell? (by simp [Addr.add, Nat.mul_comm])
  | j + 2, hj => simp at hj
set_option maxRecDepth 100000 in
theorem slice36 (g E : Nat) (h : E ≤ 34) (W : World) : (Instr.sliceAt 218 (.pointer (some ⟨g, 0, none⟩)) (some (.int .i64 (E : Int))) none none).run Tryz.prog W = .ok (.slice (some ⟨g, E, none⟩) (36 - E) (36 - E)) W := by
  have hal : Tryz.prog.arrayLen 218 = 36 := by kernel_rfl
  have hel : Tryz.prog.elem 218 = 5 := by kernel_rfl
  have hu : Tryz.prog.underlying 218 = some (.array (Tryz.prog.arrayLen 218) (Tryz.prog.elem 218)) := by kernel_rfl
  have hs : (sizeOf 5).run Tryz.prog W = .ok 1 W := by kernel_rfl
  rw [run_sliceAt_array_l W 218 ⟨g, 0, none⟩ hu .i64 (E : Int) (by omega) (by rw [hal]; omega), hel, hs, hal]
  simp only [Result.andThen, slicedAt, Int.toNat_natCast, Nat.mul_one]
  rw [if_neg (by omega)]
  congr 3
  unfold Addr.add
  split <;> simp_all
set_option maxRecDepth 100000 in
theorem slice2 (g o : Nat) (W : World) : (Instr.sliceAt 93 (.pointer (some ⟨g, o, none⟩)) none none none).run Tryz.prog W = .ok (.slice (some ⟨g, o, none⟩) 2 2) W := by
  have hal : Tryz.prog.arrayLen 93 = 2 := by kernel_rfl
  have hel : Tryz.prog.elem 93 = 5 := by kernel_rfl
  have hu : Tryz.prog.underlying 93 = some (.array (Tryz.prog.arrayLen 93) (Tryz.prog.elem 93)) := by kernel_rfl
  have hs : (sizeOf 5).run Tryz.prog W = .ok 1 W := by kernel_rfl
  rw [run_sliceAt_array_all W 93 ⟨g, o, none⟩ hu, hel, hs, hal]
  simp [Result.andThen, slicedAt, Addr.add]
theorem info_b1 : (Tryz.prog.info? 5).map (·.size) = some 1 := by kernel_rfl
theorem write_step {l : List Int} {en k : Nat} {X : Nat} (hl : l.length = 36) (he : en ≤ 36) (hk : 2 * k + 2 ≤ en) :
    splice ((l.take (en - 2 * k) ++ digL (2 * k) X ++ l.drop en).map (Value.int .u8)) (en - 2 * k - 2) [Value.int .u8 (48 + (((X / 100 ^ k % 100 : Nat) : Nat) : Int) / 10), Value.int .u8 (48 + (((X / 100 ^ k % 100 : Nat) : Nat) : Int) % 10)]
      = (l.take (en - 2 * (k + 1)) ++ digL (2 * (k + 1)) X ++ l.drop en).map (Value.int .u8) := by
  have hX : (0 : Int) ≤ (X : Int) := by omega
  have e1 : digL (2 * (k + 1)) (X : Int) = [48 + (((X / 100 ^ k % 100 : Nat) : Nat) : Int) / 10, 48 + (((X / 100 ^ k % 100 : Nat) : Nat) : Int) % 10] ++ digL (2 * k) X := by
    rw [show 2 * (k + 1) = 2 + 2 * k by omega, digL_split 2 (2 * k) _ hX]
    congr 1
    rw [show (2 : Nat) = 0 + 2 from rfl, digL_two]
    have e2 : (X : Int) / 10 ^ (2 * k) = ((X / 100 ^ k : Nat) : Int) := by
      rw [Int.natCast_ediv]
      congr 1
      rw [Int.pow_mul]
      simp
    rw [e2]
    simp [digL]
  rw [e1]
  have hA : (l.take (en - 2 * k)).length = en - 2 * k := by simp; omega
  unfold splice
  simp only [List.map_append, List.append_assoc, List.map_cons, List.length_cons, List.length_nil, List.cons_append, List.nil_append]
  rw [List.take_append_of_le_length (by simp; omega), List.drop_append, List.drop_of_length_le (by simp; omega)]
  rw [← List.map_take, List.take_take, Nat.min_eq_left (by omega), show en - 2 * k - 2 = en - 2 * (k + 1) by omega]
  rw [List.length_map, hA, show en - 2 * (k + 1) + (0 + 1 + 1) - (en - 2 * k) = 0 by omega]
  simp
theorem step_copy_row {P : Program} {ops : Array Oper} {o : Oper} {a : Act} {w : World} {K : Act → World → Prop} {Q : Exit → Act → World → Prop} {E : Prop} (hgd : o.guard = none) (d s : Operand) (dT sT : TypeId)
    (ho : o.op = .call { callee := .builtin .copy, args := #[d, s], argTypes := #[dT, sT] }) (elem : TypeId) (hu : P.underlying dT = some (.slice elem)) (hsz : (P.info? elem).map (·.size) = some 1)
    (g off dLen dCap : Nat) (ad : Addr) (sLen sCap : Nat) (hd : a.eval d = .slice (some ⟨g, off, none⟩) dLen dCap) (hs : a.eval s = .slice (some ad) sLen sCap)
    (cur : List Value) (t : TypeId) (hg : w.heap[g]? = some (.cells cur.toArray t (0, 0))) (cs : List Value) (hn : cs.length = Nat.min sLen dLen)
    (hsrc : ∀ j v, cs[j]? = some v → w.cell? (ad.add j) = some v) (hfit : off + cs.length ≤ cur.length) (h1 : ∀ v ∈ cs, v.oneCell' = true)
    (h : ∀ w', Hid (w'.heap[g]? = some (.cells (splice cur off cs).toArray t (0, 0))) → Hid (∀ b, b ≠ g → w'.heap[b]? = w.heap[b]?) → Hid (∀ B w0, B ≤ g → Below B w0 w → Below B w0 w') → K (a.put o.dst (goInt cs.length)) w') :
    if Region.wanted o (yielded ops a.tmps) = true then Oper.wp P o a w K Q else E := by
  have hw : Region.wanted o (yielded ops a.tmps) = true := by simp [Region.wanted, hgd]
  rw [if_pos hw]
  have hrun := run_copy_row (P := P) w dT sT o.type elem g off dLen dCap ad sLen sCap cur.toArray t cs hu hsz hg hn hsrc (by simpa using hfit) h1
  unfold Oper.wp
  simp [execOp, ho, resolve, invoke, builtin, hd, hs, hrun, Result.andThen]
  exact h _ (show _ = _ by simpa [splice] using setRow_heap w g _ _ t _ hg) (fun b hb => setRow_other w g b _ hb) (fun B w0 h1 h2 => below_setRow h2 h1 _)

set_option maxHeartbeats 2000000 in
set_option maxRecDepth 100000 in
theorem dWrite {w : World} {ao : Option Addr} {n c gt gp : Nat} {X : Nat} {l : List Int} (en : Nat) (h : NatO w ao n c (X : Int)) (hn : n ≤ 1099511627776) (hx : X < 1000000000000000000) (T : RowT w gt 218 l) (hl : l.length = 36) (hen : 18 ≤ en) (hen2 : en ≤ 36) (Tb : RowT w gp 219 (pairL 100)) (hne : gt ≠ gp) :
    Calls Tryz.prog 138 #[.int .i64 en, .slice ao n c, .pointer (some ⟨gt, 0, none⟩), .pointer (some ⟨gp, 0, none⟩)] w fun e w' => e = .returned (.tuple #[]) ∧ RowT w' gt 218 (l.take (en - 18) ++ digL 18 X ++ l.drop en) ∧ (∀ B w0, B ≤ gt → Below B w0 w → Below B w0 w') ∧ (∀ b, b < w.heap.size → b ≠ gt → w'.heap[b]? = w.heap[b]?) := by
  go_enter Tryz.func138, Tryz.ntmps138
  go_wp2_with fail
  refine (nSmall h hn (by omega)).mono ?_
  rintro e w1 ⟨rfl, hB⟩
  have hlt := T.lt
  have T := T.keep hB
  have Tb := Tb.keep hB
  have HK : Hid (∀ b, b < w.heap.size → b ≠ gt → w1.heap[b]? = w.heap[b]?) := fun b hb _ => hB.block b hb
  have HBB : Hid (∀ B w0, B ≤ gt → Below B w0 w → Below B w0 w1) := fun B w0 h1 h2 => h2.trans (hB.mono (by omega))
  clear h hB
  go_wp2
  go_loopw [0, 6, 13] (fun te tx tk wr => ∃ k : Nat, k ≤ 9 ∧ tk = .int .i64 k ∧ te = .int .i64 ((en - 2 * k : Nat) : Int) ∧ tx = .int .u64 ((X / 100 ^ k : Nat) : Int) ∧ RowT wr gt 218 (l.take (en - 2 * k) ++ digL (2 * k) X ++ l.drop en) ∧ RowT wr gp 219 (pairL 100) ∧ (∀ B w0, B ≤ gt → Below B w0 w → Below B w0 wr) ∧ (∀ b, b < w.heap.size → b ≠ gt → wr.heap[b]? = w.heap[b]?)) (fun _ _ tk _ => 9 - (intOf tk).toNat)
  case atStart => exact ⟨0, by omega, rfl, rfl, by simp, by simpa [digL] using T, Tb, HBB.out, HK.out⟩
  case round =>
    clear T Tb HK HBB
    obtain ⟨k, hk, rfl, rfl, rfl, T, Tb, HBB, HK⟩ := hrel
    by_cases hlt9 : k < 9
    · have hs := write_step (X := X) hl hen2 (show 2 * k + 2 ≤ en by omega)
      have HS := (show Hid _ from hs)
      have hlen : (l.take (en - 2 * k) ++ digL (2 * k) X ++ l.drop en).length = 36 := by simp [digL_length]; omega
      have HBB := (show Hid _ from HBB)
      have HK := (show Hid _ from HK)
      have hdiv : X / 100 ^ k / 100 = X / 100 ^ (k + 1) := by rw [Nat.div_div_eq_div_mul, Nat.pow_succ]
      have HD := (show Hid _ from hdiv)
      have hYb : X / 100 ^ k < 1000000000000000000 := Nat.lt_of_le_of_lt (Nat.div_le_self _ _) hx
      clear hs hdiv
      generalize X / 100 ^ k = Y at *
      have hi : Y % 100 < 100 := Nat.mod_lt _ (by decide)
      have htm : (Y : Int).tmod 100 = ((Y % 100 : Nat) : Int) := by rw [Int.tmod_eq_emod_of_nonneg (by omega)]; omega
      generalize Y % 100 = i at *
      have hi0 : (i : Int) < 100 := by omega
      have hpa := fun j v (hj : [Value.int .u8 (48 + (i : Int) / 10), Value.int .u8 (48 + (i : Int) % 10)][j]? = some v) => pair_at i hi j v hj
      have HPA := (show Hid _ from hpa)
      clear hpa
      obtain ⟨E, hE⟩ : ∃ E, en - 2 * k = E + 2 := ⟨en - 2 * k - 2, by omega⟩
      have hE36 : E + 2 ≤ 36 := by omega
      have HE := (show Hid _ from hE)
      rw [hE]
      clear hE
      have hs36 := slice36 gt E (by omega)
      have hs2 := slice2 gp (i * 2)
      go_wp2_with fail
      go_region_law (refine step_copy_row rfl (.tmp 18) (.tmp 22) 42 42 rfl 5 under_bytes info_b1 gt E (36 - E) (36 - E) ⟨gp, i * 2, none⟩ 2 2 (by rfl) (by rfl) _ 218 T.drew.blk [Value.int .u8 (48 + (i : Int) / 10), Value.int .u8 (48 + (i : Int) % 10)] (by show 2 = Nat.min 2 (36 - E); exact (Nat.min_eq_left (by omega)).symm) (fun j v hj => HPA.out j v hj _ gp Tb.drew) (by rw [List.length_map, hlen]; show E + 2 ≤ 36; omega) (by simp [Value.oneCell']) ?_; intro w4 hg4 ho4 hb4)
      have T4 : RowT w4 gt 218 (l.take (en - 2 * (k + 1)) ++ digL (2 * (k + 1)) X ++ l.drop en) := ⟨by
        rw [← HS.out, show en - 2 * k - 2 = E by have := HE.out; omega]; exact hg4.out⟩
      have Tb4 : RowT w4 gp 219 (pairL 100) := ⟨by rw [ho4.out gp (fun e => hne e.symm)]; exact Tb.blk⟩
      have HT4 := (show Hid _ from T4)
      have HTb4 := (show Hid _ from Tb4)
      have htd : (Y : Int).tdiv 100 = ((Y / 100 : Nat) : Int) := by rw [Int.tdiv_eq_ediv_of_nonneg (by omega)]; omega
      have hY2b : Y / 100 < 1000000000000000000 := Nat.lt_of_le_of_lt (Nat.div_le_self _ _) hYb
      generalize hY2 : Y / 100 = Y2 at *
      have HY2 := (show Hid _ from hY2)
      clear hY2 T4 Tb4 T Tb hg4
      go_wp2
      go_roundw
      case rel => exact ⟨k + 1, by omega, by go_num, by rw [show en - 2 * (k + 1) = E by have := HE.out; omega], by rw [← HD.out], HT4.out, HTb4.out, fun B w0 h1 h2 => hb4.out B w0 h1 (HBB.out B w0 h1 h2).drew, fun b h1 h2 => (ho4.out b h2).trans (HK.out b h1 h2)⟩
      case measure => simp [intOf]; omega
    · have hk9 : k = 9 := by omega
      subst hk9
      have HBB := (show Hid _ from HBB)
      have HK := (show Hid _ from HK)
      go_wp2
      go_end0
      exact ⟨rfl, T, HBB.out, HK.out⟩

theorem NatO.over {w w' : World} {ao : Option Addr} {n c g : Nat} {x : Int} {t : TypeId} {l : List Int} (h : NatO w ao n c x) (T : RowT w g t l) (HK : ∀ b, b < w.heap.size → b ≠ g → w'.heap[b]? = w.heap[b]?) : NatO w' ao n c x := by
  obtain ⟨b, o, m, h1, h2, h3, h4⟩ := h.ex
  refine ⟨b, o, m, h1, h2, h3, h4.loc, fun i hi => ?_⟩
  have hc := h4.cell i hi
  have hb := cell_lt hc
  have hne : b ≠ g := by
    intro e
    subst e
    have hbk := T.blk
    simp only [World.cell?, hbk] at hc
    simp at hc
  rw [World.cell?_of_block (w := w) (HK b hb hne)]
  exact hc
theorem RowT.over {w w' : World} {g g' : Nat} {t : TypeId} {l : List Int} (h : RowT w g' t l) (hne : g' ≠ g) (HK : ∀ b, b < w.heap.size → b ≠ g → w'.heap[b]? = w.heap[b]?) : RowT w' g' t l := ⟨by rw [HK g' h.lt hne]; exact h.blk⟩
set_option maxRecDepth 100000 in
theorem slice36all (g : Nat) (W : World) : (Instr.sliceAt 218 (.pointer (some ⟨g, 0, none⟩)) none none none).run Tryz.prog W = .ok (.slice (some ⟨g, 0, none⟩) 36 36) W := by
  have hal : Tryz.prog.arrayLen 218 = 36 := by kernel_rfl
  have hel : Tryz.prog.elem 218 = 5 := by kernel_rfl
  have hu : Tryz.prog.underlying 218 = some (.array (Tryz.prog.arrayLen 218) (Tryz.prog.elem 218)) := by kernel_rfl
  have hs : (sizeOf 5).run Tryz.prog W = .ok 1 W := by kernel_rfl
  rw [run_sliceAt_array_all W 218 ⟨g, 0, none⟩ hu, hel, hs, hal]
  simp [Result.andThen, slicedAt, Addr.add]

theorem rowT_string {w : World} {g : Nat} {t : TypeId} {d : List Int} (R : RowT w g t d) (hl : d.length = 36) (hD : DigI d) : ∃ S : ByteArray, (convert 42 9 (.slice (some ⟨g, 0, none⟩) 36 36)).run Tryz.prog w = Result.ok (.string S) w ∧ S.data.toList.map (fun c => (c.toNat : Int)) = d := by
  have hload := run_loadCells_list (P := Tryz.prog) w ⟨g, 0, none⟩ (d.map (Value.int .u8)) (fun j u hu => by
    rw [List.getElem?_map] at hu
    have hj : j < d.length := by
      rcases Nat.lt_or_ge j d.length with hj | hj
      · exact hj
      · rw [List.getElem?_eq_none hj] at hu; simp at hu
    rw [List.getElem?_eq_getElem hj] at hu
    simp at hu
    subst hu
    have := R.cell hj
    rw [nth_eq hj] at this
    rw [← this]
    by_cases hj0 : j = 0
    · subst hj0; exact congrArg w.cell? (by simp [Addr.add])
    · exact congrArg w.cell? (by simp [Addr.add, hj0]))
  rw [List.length_map, hl] at hload
  have hconv := (run_convert_bytes_string (P := Tryz.prog) w 42 9 5 (some ⟨g, 0, none⟩) 36 36 under_bytes under_u8 under_string).trans (run_bytesToString w ⟨g, 0, none⟩ 36 36 d hload)
  refine ⟨_, hconv, ?_⟩
  rw [push_data d ByteArray.empty]
  simp only [show ByteArray.empty.data.toList = [] from rfl, List.nil_append, List.map_map]
  conv => rhs; rw [← List.map_id d]
  apply List.map_congr_left
  intro c hc
  have := hD c hc
  simp [Function.comp, UInt8.toNat_ofNat']
  omega

set_option maxHeartbeats 4000000 in
set_option maxRecDepth 100000 in
theorem dPlaces {w : World} {ao : Option Addr} {n c : Nat} {x : Int} (h : NatA w ao n c x) (hn : n ≤ 274877906944) (hx : x < U36) :
    Calls Tryz.prog 74 #[.agg #[.slice ao n c]] w fun e w' => ∃ S : ByteArray, e = .returned (.string S) ∧ S.data.toList.map (fun c => (c.toNat : Int)) = digL 36 x ∧ Below w.heap.size w w' := by
  have B0 := below2 w (.cells #[.slice ao n c] 26) (.cells ((List.replicate 36 (0 : Int)).map (Value.int .u8)).toArray 218)
  have R0 := rowT_new (w.alloc (.cells #[.slice ao n c] 26)) 218 (List.replicate 36 0)
  rw [show (w.alloc (.cells #[.slice ao n c] 26)).heap.size = w.heap.size + 1 by simp] at R0
  have P0 := (slot_new w (.slice ao n c) 26).alloc (.cells ((List.replicate 36 (0 : Int)).map (Value.int .u8)).toArray 218)
  have h := h.keep B0
  go_enter Tryz.func74, Tryz.ntmps74
  go_wp2_with fail
  change Calls _ _ _ ((w.alloc (.cells #[.slice ao n c] 26)).alloc (.cells ((List.replicate 36 (0 : Int)).map (Value.int .u8)).toArray 218)) _
  refine dPairs.mono ?_
  rintro e w1 ⟨rfl, hB⟩
  have R0 := R0.keep hB
  have P0 := P0.keep hB
  have h := h.keep hB
  have B0 := joinB B0 hB
  have hlt := R0.lt
  clear hB
  have hnew : (w1.alloc (.cells Tryz.zeroCells219 219)).heap[w1.heap.size]? = some (.cells Tryz.zeroCells219 219 (0, 0)) := heap_alloc_new w1 _
  have hz0 : Tryz.zeroCells219.size = 200 := by kernel_rfl
  have hsz : ((pairL 100).map (Value.int .u8)).toArray.size = 200 := by simp [pairL_length]
  have BA := below_alloc w1 (.cells Tryz.zeroCells219 219)
  have Tb : RowT ((w1.alloc (.cells Tryz.zeroCells219 219)).setRow w1.heap.size ((pairL 100).map (Value.int .u8)).toArray) w1.heap.size 219 (pairL 100) := ⟨setRow_heap _ _ _ _ _ _ hnew⟩
  have BS : Below w1.heap.size w1 ((w1.alloc (.cells Tryz.zeroCells219 219)).setRow w1.heap.size ((pairL 100).map (Value.int .u8)).toArray) := below_setRow BA (Nat.le_refl _) _
  have R0 := R0.keep BS
  have P0 := P0.keep BS
  have h := h.keep BS
  have B0 := joinB B0 BS
  have HN := (show Hid _ from hnew)
  have HZ := (show Hid _ from hz0)
  have HSZ := (show Hid _ from hsz)
  have HBS := (show Hid _ from BS.size)
  clear hnew hz0 hsz BA BS
  generalize hW2 : (w1.alloc (.cells Tryz.zeroCells219 219)).setRow w1.heap.size ((pairL 100).map (Value.int .u8)).toArray = w2 at *
  have HW2 := (show Hid _ from hW2)
  clear hW2
  go_wp2_with (refine wpList_store_row rfl 219 (.tmp 4) (.tmp 9) rfl w1.heap.size _ rfl rfl 219 _ HN.out (by rw [HSZ.out]; kernel_rfl) (by rw [HSZ.out, HZ.out]) (by simp [Value.oneCell']) ?_; rw [HW2.out])
  obtain ⟨X, hX⟩ : ∃ X : Nat, x = (X : Int) := ⟨x.toNat, by have := h.nonneg; omega⟩
  subst hX
  have hX36 : X < 1000000000000000000000000000000000000 := by have : U36 = 1000000000000000000000000000000000000 := by decide
                                                              omega
  have HXS := (show Hid _ from digL_split 18 18 (X : Int) (by omega))
  have q0 := P0.cell
  go_region_held3 (fun w' => w'.cell? ⟨w.heap.size, 0, none⟩ = some (.slice ao n c)) (first | exact (by assumption) | go_keep)
    (first
    | (go_at_call 139; refine (dTenTo 18 (by decide)).mono ?_; rintro e w3 ⟨a3, k3, d3, rfl, hO, hk3, hB⟩; have R0 := R0.drew.keep hB; have Tb := Tb.drew.keep hB; have P0 := P0.drew.keep hB; have q0 := P0.cell; have h := h.drew.keep hB; have B0 := joinB B0.drew hB; clear hB)
    | (go_at_call 128; refine (nDiv h hO.a (by omega) (by omega) (by decide)).mono ?_; rintro e w4 ⟨a4, k4, d4, a5, k5, d5, rfl, hO4, hO5, hk4, hk5, hB⟩; have R0 := R0.keep hB; have Tb := Tb.keep hB; have P0 := P0.keep hB; have q0 := P0.cell; have B0 := joinB B0 hB; clear hB h hO))
  all_goals (
    have hO4 := hO4.eqv (show (X : Int) / 10 ^ 18 = ((X / 1000000000000000000 : Nat) : Int) from by omega)
    have hO5 := hO5.eqv (show (X : Int) % 10 ^ 18 = ((X % 1000000000000000000 : Nat) : Int) from by omega)
    have hb1 : X / 1000000000000000000 < 1000000000000000000 := by omega
    have hb2 : X % 1000000000000000000 < 1000000000000000000 := by omega
    have HE1 : Hid ((X : Int) / 10 ^ 18 = ((X / 1000000000000000000 : Nat) : Int)) := by show _ = _; omega
    have HE2 : Hid (digL 18 (X : Int) = digL 18 ((X % 1000000000000000000 : Nat) : Int)) := by
      show _ = _
      apply dvI_inj (digL_dig (by omega)) (digL_dig (by omega)) (by simp [digL_length])
      rw [digL_val (by omega), digL_val (by omega)]
      omega
    generalize X / 1000000000000000000 = X1 at *
    generalize X % 1000000000000000000 = X2 at *
    have hgne : w.heap.size + 1 ≠ w1.heap.size := by omega
    have tW1 := dWrite 18 hO4 (by omega) hb1 R0 (by simp) (by decide) (by decide) Tb hgne
    go_wp2_with fail
    refine tW1.mono ?_
    rintro e w5 ⟨rfl, T5, HB5, HK5⟩
    have hO5 := hO5.over R0 HK5
    have Tb := Tb.over (fun e => hgne e.symm) HK5
    have B5 := HB5 w.heap.size w (by omega) B0
    clear tW1 R0 P0 q0 HB5 HK5 hO4 B0
    have tW2 := dWrite 36 hO5 (by omega) hb2 T5 (by simp [digL_length]) (by decide) (by decide) Tb hgne
    go_wp2_with fail
    refine tW2.mono ?_
    rintro e w6 ⟨rfl, T6, HB6, HK6⟩
    have B6 := HB6 w.heap.size w (by omega) B5
    clear tW2 hO5 Tb HB6 HK6 T5 B5)
  all_goals (
    have hL : (List.take (36 - 18) (List.take (18 - 18) (List.replicate 36 (0 : Int)) ++ digL 18 (X1 : Int) ++ List.drop 18 (List.replicate 36 0)) ++ digL 18 (X2 : Int) ++ List.drop 36 (List.take (18 - 18) (List.replicate 36 (0 : Int)) ++ digL 18 (X1 : Int) ++ List.drop 18 (List.replicate 36 0))) = digL 36 (X : Int) := by
      rw [HXS.out, HE1.out, HE2.out]
      have l1 : (digL 18 (X1 : Int)).length = 18 := digL_length _ _
      rw [List.take_append_of_le_length (by simp [l1]), List.drop_of_length_le (l := List.take (18 - 18) (List.replicate 36 (0 : Int)) ++ digL 18 (X1 : Int) ++ List.drop 18 (List.replicate 36 0)) (by simp [l1])]
      rw [show List.take (18 - 18) (List.replicate 36 (0 : Int)) = [] from rfl, List.nil_append, List.take_of_length_le (by omega), List.append_nil]
    rw [hL] at T6
    obtain ⟨S, hS1, hS2⟩ := rowT_string T6 (digL_length 36 _) (digL_dig (by omega))
    have hs36 := slice36all (w.heap.size + 1) w6
    clear hL T6
    go_wp2
    go_ret
    exact ⟨S, rfl, hS2, B6⟩)
end Go.Proofs.YtgdohcdlkonhiaaGreatDoor

namespace Go.Proofs.YtgdohcdlkonhiaaGreatDoor
open Go.RowKit Lim

end Go.Proofs.YtgdohcdlkonhiaaGreatDoor

namespace Go.Proofs.YtgdohcdlkonhiaaGreatDoor
open Go.RowKit Lim

end Go.Proofs.YtgdohcdlkonhiaaGreatDoor

namespace Go.Proofs.YtgdohcdlkonhiaaGreatDoor
open Go.RowKit Lim

end Go.Proofs.YtgdohcdlkonhiaaGreatDoor

namespace Go.Proofs.YtgdohcdlkonhiaaGreatDoor
open Go.RowKit Lim

/-- 36 places as bytes -/
def fr36 (r : Int) : List UInt8 := (digL 36 r).map fun c => UInt8.ofNat c.toNat
/-- what stands behind the whole part -/
def fracT (r : Int) : List UInt8 := if r = 0 then [] else 46 :: Lib.trimRightB (fr36 r) 48
structure DText (S : ByteArray) (x : Int) : Prop where
  ex : ∃ Sw : ByteArray, TextOf Sw (x / U36) ∧ S.data.toList = Sw.data.toList ++ fracT (x % U36)
theorem fr36_of {S : ByteArray} {r : Int} (h : S.data.toList.map (fun c => (c.toNat : Int)) = digL 36 r) : S.data.toList = fr36 r := by
  unfold fr36
  rw [← h, List.map_map]
  conv => lhs; rw [← List.map_id S.data.toList]
  apply List.map_congr_left
  intro c _
  simp [Function.comp]
/-- AppendUint of whatever a text's highest group can be, from w on -/
def AppAll (w : World) (x : Int) : Prop := ∀ g, GroupsOk g → gval g = x → g ≠ [] → 0 < nth g (g.length - 1) → ∀ wx, Below w.heap.size w wx → AppAt (nth g (g.length - 1)) wx
theorem AppAll.keep {w w' : World} {x : Int} (h : AppAll w x) (hb : Below w.heap.size w w') : AppAll w' x := fun g h1 h2 h3 h4 wx hx => h g h1 h2 h3 h4 wx (joinB hb hx)
theorem trimR_le (l : List UInt8) (c : UInt8) : (Lib.trimRightB l c).length ≤ l.length := by
  unfold Lib.trimRightB
  rw [List.length_reverse]
  have := (List.dropWhile_sublist (fun x => x == c) (l := l.reverse)).length_le
  rwa [List.length_reverse] at this
theorem fr36_length (r : Int) : (fr36 r).length = 36 := by unfold fr36; rw [List.length_map, digL_length]
theorem nText {w : World} {ao : Option Addr} {n c : Nat} {x : Int} (h : NatA w ao n c x) (hn : n ≤ 4294967296) (hA : AppAll w x) :
    Calls Tryz.prog 71 #[.slice ao n c] w fun e w' => ∃ s, e = .returned (.string s) ∧ TextOf s x ∧ s.size ≤ 40 * n + 40 ∧ Below w.heap.size w w' := by
  obtain ⟨b, o, l, h1, h2, h3, h4, rfl⟩ := h.ex
  exact text_any ao n c b o l w h1 h2 hn h3 h4 hA

set_option maxHeartbeats 4000000 in
set_option maxRecDepth 100000 in
theorem dText {w : World} {ao : Option Addr} {n c : Nat} {x : Int} (h : NatA w ao n c x) (hn : n ≤ 4294967000) (hA : AppAll w (x / U36)) :
    Calls Tryz.prog 25 #[.agg #[.slice ao n c]] w fun e w' => ∃ S : ByteArray, e = .returned (.string S) ∧ DText S x ∧ S.size ≤ 40 * n + 100 ∧ Below w.heap.size w w' := by
  have B0 := below_alloc w (.cells #[.slice ao n c] 26)
  have P0 := slot_new w (.slice ao n c) 26
  have h := h.keep B0
  have hA := hA.keep B0
  have q0 := P0.cell
  go_enter Tryz.func25, Tryz.ntmps25
  have hx0 := h.nonneg
  have hup := U36_pos
  have hr0 : 0 ≤ x % U36 := Int.emod_nonneg _ (by omega)
  have hr1 : x % U36 < U36 := Int.emod_lt_of_pos _ hup
  go_wp2_with fail
  refine (dTrunc h (by omega)).mono ?_
  rintro e w1 ⟨a1, k1, d1, a2, k2, d2, rfl, hO1, hO2, hk1, hk2, hB⟩
  have B0 := joinB B0 hB
  have hA := hA.keep hB
  clear hB h P0 q0
  have BA := below_alloc w1 (.cells #[.slice a2 k2 d2] 26)
  have SL := slot_new w1 (.slice a2 k2 d2) 26
  have hO1 := hO1.keep BA
  have hO2 := hO2.keep BA
  have hA := hA.keep BA
  have B0 := joinB B0 BA
  have tT := nText hO1.a (by omega) hA
  clear BA hA
  go_wp2_with fail
  refine tT.mono ?_
  rintro e w2 ⟨Sw, rfl, hSw, hSz, hB⟩
  have hO2 := hO2.keep hB
  have SL := SL.keep hB
  have B0 := joinB B0 hB
  have cL := SL.cell
  clear hB tT hO1
  have tZ := dZero hO2.a (by omega)
  generalize w1.heap.size = gL at *
  by_cases hz : x % U36 = 0
  · rw [decide_eq_true hz] at tZ
    have HZ := (show Hid _ from hz)
    clear hz
    go_wp2_with fail
    refine tZ.mono ?_
    rintro e w3 ⟨rfl, hB⟩
    go_wp2
    go_ret
    exact ⟨Sw, rfl, ⟨Sw, hSw, by rw [HZ.out]; simp [fracT]⟩, by omega, joinB B0 hB⟩
  · rw [decide_eq_false hz] at tZ
    have HZ := (show Hid _ from hz)
    clear hz
    go_wp2_with fail
    refine tZ.mono ?_
    rintro e w3 ⟨rfl, hB⟩
    have hO2 := hO2.keep hB
    have SL := SL.keep hB
    have B0 := joinB B0 hB
    have cL := SL.cell
    clear hB tZ
    go_wp2_with fail
    refine (dPlaces hO2.a (by omega) hr1).mono ?_
    rintro e w4 ⟨S, rfl, hS, hB⟩
    have hS36 := fr36_of hS
    have hsz : S.size = 36 := by
      have : (S.data.toList.map (fun c => (c.toNat : Int))).length = 36 := by rw [hS, digL_length]
      simpa using this
    have B0 := joinB B0 hB
    clear hB hS
    have tR := Tryz.strings_TrimRight_one S 48 (by decide) w4 (by omega)
    rw [hS36] at tR
    generalize hR : (⟨(Lib.trimRightB (fr36 (x % U36)) 48).toArray⟩ : ByteArray) = R at tR
    have hRs : R.size ≤ 36 := by
      have h1 := trimR_le (fr36 (x % U36)) 48
      rw [fr36_length] at h1
      rw [← hR]
      simpa [ByteArray.size] using h1
    have HR := (show Hid _ from hR)
    clear hS36 hR
    go_wp2_with fail
    refine tR.mono ?_
    rintro e w5 ⟨rfl, rfl⟩
    go_wp2_with fail
    go_ret
    refine ⟨_, rfl, ⟨Sw, hSw, ?_⟩, ?_, B0⟩
    · rw [fracT, if_neg HZ.out, ← HR.out]
      simp
    · show (Sw ++ (⟨#[46]⟩ : ByteArray) ++ R).size ≤ _
      rw [ByteArray.size_append, ByteArray.size_append]
      have : (⟨#[46]⟩ : ByteArray).size = 1 := rfl
      omega
end Go.Proofs.YtgdohcdlkonhiaaGreatDoor
