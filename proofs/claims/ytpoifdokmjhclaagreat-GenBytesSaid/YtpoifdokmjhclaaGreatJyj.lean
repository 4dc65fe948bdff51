/- Several texts, joined: KyF, KyG, KyH, KyI, KyJ, KyK, KyL, KyM, KyN, KyO, KyP, KyQ, KyR, KyS, KyU, KyV, KyW. -/
import Derived.Test.YtpoifdokmjhclaaGreatJyg
import Derived.Laws.Rows
import Derived.Laws.ResultCell
import Derived.Deep.WholeRow
import Derived.Laws.Bits64
import Derived.Test.YtpoifdokmjhclaaGreatJyf
import Derived.Laws.MakeOwn
import Derived.Laws.BitsLemmas
import Derived.Shelf.Abstract
import Derived.Shelf.RegionOpen
import Derived.OwnWalkIn
import Derived.TacticsInMore
import Derived.LoopNIn
import Derived.LoopIn
namespace Go.Proofs.YtpoifdokmjhclaaGreat
namespace Ky
open Go.RowKit Go.Lib Pg
attribute [local go_sem] Oper.semAt_some
/-- a kind's form: how many bytes, its two marks -/
def frms : List (Int × Int × Int) := [(0, 0, 0), (1, 112, 0), (1, 99, 0), (1, 109, 0), (9, 97, 0), (10, 118, 48), (18, 118, 100), (18, 118, 104), (18, 118, 115), (9, 116, 0), (17, 105, 0), (9, 98, 0), (9, 117, 0), (9, 114, 0), (17, 113, 0), (17, 101, 0), (17, 110, 0), (17, 107, 0)]
def frm (k : Int) : Int × Int × Int := if 0 ≤ k ∧ k < 18 then frms.getD k.toNat (0, 0, 0) else (0, 0, 0)
def fv (f : Int × Int × Int) : Value := .agg #[.int .i64 f.1, .int .u8 f.2.1, .int .u8 f.2.2]
def formsL : List Value := [.int .i64 0, .int .u8 0, .int .u8 0, .int .i64 1, .int .u8 112, .int .u8 0, .int .i64 1, .int .u8 99, .int .u8 0, .int .i64 1, .int .u8 109, .int .u8 0, .int .i64 9, .int .u8 97, .int .u8 0, .int .i64 10, .int .u8 118, .int .u8 48, .int .i64 18, .int .u8 118, .int .u8 100, .int .i64 18, .int .u8 118, .int .u8 104, .int .i64 18, .int .u8 118, .int .u8 115, .int .i64 9, .int .u8 116, .int .u8 0, .int .i64 17, .int .u8 105, .int .u8 0, .int .i64 9, .int .u8 98, .int .u8 0, .int .i64 9, .int .u8 117, .int .u8 0, .int .i64 9, .int .u8 114, .int .u8 0, .int .i64 17, .int .u8 113, .int .u8 0, .int .i64 17, .int .u8 101, .int .u8 0, .int .i64 17, .int .u8 110, .int .u8 0, .int .i64 17, .int .u8 107, .int .u8 0]
section
variable {ops : Array Oper} {rest : List Oper} {o : Oper} {a : Act} {w w1 : World} {Q : Exit → Act → World → Prop}
theorem wl_val (d : Option Tmp) (v : Value) (hg : o.guard = none) (hd : o.dst = d) (hrun : (execOp a.eval o).run Tryz.prog w = .ok (.value v) w1) (h : wpList Tryz.prog ops Q rest (a.put d v) w1) : wpList Tryz.prog ops Q (o :: rest) a w :=
  wpList_plain hg fun K hK => by
    unfold Oper.wp
    rw [hrun]
    subst hd
    exact hK _ _ h
theorem wl_take (d : Option Tmp) (v : Value) (hg : o.guard = none) (hd : o.dst = d) (hrun : (execOp a.eval o).run Tryz.prog w = .ok (.value v) w) (h : wpList Tryz.prog ops Q rest (a.put d v) w) : wpList Tryz.prog ops Q (o :: rest) a w := wl_val d v hg hd hrun h
theorem wl_skip (hg : o.guard = none) (hd : o.dst = none) (hrun : (execOp a.eval o).run Tryz.prog w = .ok .skip w1) (h : wpList Tryz.prog ops Q rest (a.put none undef) w1) : wpList Tryz.prog ops Q (o :: rest) a w :=
  wpList_plain hg fun K hK => by
    unfold Oper.wp
    rw [hrun]
    show K (a.put o.dst undef) w1
    rw [hd]
    exact hK _ _ h
theorem run_stnew {t : TypeId} {k q : Nat} {c c' : Array Value} (ho : o.op = .store t (.tmp k) (.tmp q)) (hp : a.eval (.tmp k) = .pointer (some ⟨w.heap.size, 0, none⟩)) (hq : a.eval (.tmp q) = .agg c') (hi : (Tryz.prog.info? t).map (·.size) = some c'.size) (hs : c.size = c'.size) (h1 : c'.all (·.oneCell') = true) : (execOp a.eval o).run Tryz.prog (w.alloc (.cells c t)) = .ok .skip (w.alloc (.cells c' t)) := by
  simp only [execOp, ho, hp, hq, Sem.run_bind, run_storeAt_new w t c c' hi hs h1, Result.andThen_ok, Sem.run_pure]
end
set_option maxHeartbeats 8000000 in
set_option maxRecDepth 100000 in
theorem forms_any {w : World} : Calls Tryz.prog 153 #[] w fun e w' => e = .returned (.agg #[.int .i64 0, .int .u8 0, .int .u8 0, .int .i64 1, .int .u8 112, .int .u8 0, .int .i64 1, .int .u8 99, .int .u8 0, .int .i64 1, .int .u8 109, .int .u8 0, .int .i64 9, .int .u8 97, .int .u8 0, .int .i64 10, .int .u8 118, .int .u8 48, .int .i64 18, .int .u8 118, .int .u8 100, .int .i64 18, .int .u8 118, .int .u8 104, .int .i64 18, .int .u8 118, .int .u8 115, .int .i64 9, .int .u8 116, .int .u8 0, .int .i64 17, .int .u8 105, .int .u8 0, .int .i64 9, .int .u8 98, .int .u8 0, .int .i64 9, .int .u8 117, .int .u8 0, .int .i64 9, .int .u8 114, .int .u8 0, .int .i64 17, .int .u8 113, .int .u8 0, .int .i64 17, .int .u8 101, .int .u8 0, .int .i64 17, .int .u8 110, .int .u8 0, .int .i64 17, .int .u8 107, .int .u8 0]) ∧ Below w.heap.size w w' := by
  go_enter Tryz.func153, Tryz.ntmps153
  refine wp_seq ?_
  refine wp_region_lit ?_
  refine wl_val (some 0) (.pointer (some ⟨w.heap.size, 0, none⟩)) rfl rfl (w1 := w.alloc (.cells #[.int .i64 0, .int .u8 0, .int .u8 0, .int .i64 0, .int .u8 0, .int .u8 0, .int .i64 0, .int .u8 0, .int .u8 0, .int .i64 0, .int .u8 0, .int .u8 0, .int .i64 0, .int .u8 0, .int .u8 0, .int .i64 0, .int .u8 0, .int .u8 0, .int .i64 0, .int .u8 0, .int .u8 0, .int .i64 0, .int .u8 0, .int .u8 0, .int .i64 0, .int .u8 0, .int .u8 0, .int .i64 0, .int .u8 0, .int .u8 0, .int .i64 0, .int .u8 0, .int .u8 0, .int .i64 0, .int .u8 0, .int .u8 0, .int .i64 0, .int .u8 0, .int .u8 0, .int .i64 0, .int .u8 0, .int .u8 0, .int .i64 0, .int .u8 0, .int .u8 0, .int .i64 0, .int .u8 0, .int .u8 0, .int .i64 0, .int .u8 0, .int .u8 0, .int .i64 0, .int .u8 0, .int .u8 0] 248)) (by kernel_rfl) ?_
  refine wpList_nil ?_
  refine wp_seq (x := Code.region 1 _ false) ?_
  refine wp_region_lit ?_
  refine wl_take (some 1) (.agg #[.int .u8 112, .int .u8 0]) rfl rfl (by kernel_rfl) ?_
  refine wl_take (some 2) (.agg #[.int .i64 1, .int .u8 112, .int .u8 0]) rfl rfl (by kernel_rfl) ?_
  refine wl_take (some 3) (.agg #[.int .u8 99, .int .u8 0]) rfl rfl (by kernel_rfl) ?_
  refine wl_take (some 4) (.agg #[.int .i64 1, .int .u8 99, .int .u8 0]) rfl rfl (by kernel_rfl) ?_
  refine wl_take (some 5) (.agg #[.int .u8 109, .int .u8 0]) rfl rfl (by kernel_rfl) ?_
  refine wl_take (some 6) (.agg #[.int .i64 1, .int .u8 109, .int .u8 0]) rfl rfl (by kernel_rfl) ?_
  refine wl_take (some 7) (.agg #[.int .u8 97, .int .u8 0]) rfl rfl (by kernel_rfl) ?_
  refine wl_take (some 8) (.agg #[.int .i64 9, .int .u8 97, .int .u8 0]) rfl rfl (by kernel_rfl) ?_
  refine wl_take (some 9) (.agg #[.int .u8 118, .int .u8 48]) rfl rfl (by kernel_rfl) ?_
  refine wl_take (some 10) (.agg #[.int .i64 10, .int .u8 118, .int .u8 48]) rfl rfl (by kernel_rfl) ?_
  refine wl_take (some 11) (.agg #[.int .u8 118, .int .u8 100]) rfl rfl (by kernel_rfl) ?_
  refine wl_take (some 12) (.agg #[.int .i64 18, .int .u8 118, .int .u8 100]) rfl rfl (by kernel_rfl) ?_
  refine wl_take (some 13) (.agg #[.int .u8 118, .int .u8 104]) rfl rfl (by kernel_rfl) ?_
  refine wl_take (some 14) (.agg #[.int .i64 18, .int .u8 118, .int .u8 104]) rfl rfl (by kernel_rfl) ?_
  refine wl_take (some 15) (.agg #[.int .u8 118, .int .u8 115]) rfl rfl (by kernel_rfl) ?_
  refine wl_take (some 16) (.agg #[.int .i64 18, .int .u8 118, .int .u8 115]) rfl rfl (by kernel_rfl) ?_
  refine wl_take (some 17) (.agg #[.int .u8 116, .int .u8 0]) rfl rfl (by kernel_rfl) ?_
  refine wl_take (some 18) (.agg #[.int .i64 9, .int .u8 116, .int .u8 0]) rfl rfl (by kernel_rfl) ?_
  refine wl_take (some 19) (.agg #[.int .u8 105, .int .u8 0]) rfl rfl (by kernel_rfl) ?_
  refine wl_take (some 20) (.agg #[.int .i64 17, .int .u8 105, .int .u8 0]) rfl rfl (by kernel_rfl) ?_
  refine wl_take (some 21) (.agg #[.int .u8 98, .int .u8 0]) rfl rfl (by kernel_rfl) ?_
  refine wl_take (some 22) (.agg #[.int .i64 9, .int .u8 98, .int .u8 0]) rfl rfl (by kernel_rfl) ?_
  refine wl_take (some 23) (.agg #[.int .u8 117, .int .u8 0]) rfl rfl (by kernel_rfl) ?_
  refine wl_take (some 24) (.agg #[.int .i64 9, .int .u8 117, .int .u8 0]) rfl rfl (by kernel_rfl) ?_
  refine wl_take (some 25) (.agg #[.int .u8 114, .int .u8 0]) rfl rfl (by kernel_rfl) ?_
  refine wl_take (some 26) (.agg #[.int .i64 9, .int .u8 114, .int .u8 0]) rfl rfl (by kernel_rfl) ?_
  refine wl_take (some 27) (.agg #[.int .u8 113, .int .u8 0]) rfl rfl (by kernel_rfl) ?_
  refine wl_take (some 28) (.agg #[.int .i64 17, .int .u8 113, .int .u8 0]) rfl rfl (by kernel_rfl) ?_
  refine wl_take (some 29) (.agg #[.int .u8 101, .int .u8 0]) rfl rfl (by kernel_rfl) ?_
  refine wl_take (some 30) (.agg #[.int .i64 17, .int .u8 101, .int .u8 0]) rfl rfl (by kernel_rfl) ?_
  refine wl_take (some 31) (.agg #[.int .u8 110, .int .u8 0]) rfl rfl (by kernel_rfl) ?_
  refine wl_take (some 32) (.agg #[.int .i64 17, .int .u8 110, .int .u8 0]) rfl rfl (by kernel_rfl) ?_
  refine wl_take (some 33) (.agg #[.int .u8 107, .int .u8 0]) rfl rfl (by kernel_rfl) ?_
  refine wl_take (some 34) (.agg #[.int .i64 17, .int .u8 107, .int .u8 0]) rfl rfl (by kernel_rfl) ?_
  refine wl_take (some 35) (.agg #[.int .i64 0, .int .u8 0, .int .u8 0, .int .i64 1, .int .u8 112, .int .u8 0, .int .i64 1, .int .u8 99, .int .u8 0, .int .i64 1, .int .u8 109, .int .u8 0, .int .i64 9, .int .u8 97, .int .u8 0, .int .i64 10, .int .u8 118, .int .u8 48, .int .i64 18, .int .u8 118, .int .u8 100, .int .i64 18, .int .u8 118, .int .u8 104, .int .i64 18, .int .u8 118, .int .u8 115, .int .i64 9, .int .u8 116, .int .u8 0, .int .i64 17, .int .u8 105, .int .u8 0, .int .i64 9, .int .u8 98, .int .u8 0, .int .i64 9, .int .u8 117, .int .u8 0, .int .i64 9, .int .u8 114, .int .u8 0, .int .i64 17, .int .u8 113, .int .u8 0, .int .i64 17, .int .u8 101, .int .u8 0, .int .i64 17, .int .u8 110, .int .u8 0, .int .i64 17, .int .u8 107, .int .u8 0]) rfl rfl (by kernel_rfl) ?_
  refine wl_skip rfl rfl (run_stnew (k := 0) (q := 35) (c' := #[.int .i64 0, .int .u8 0, .int .u8 0, .int .i64 1, .int .u8 112, .int .u8 0, .int .i64 1, .int .u8 99, .int .u8 0, .int .i64 1, .int .u8 109, .int .u8 0, .int .i64 9, .int .u8 97, .int .u8 0, .int .i64 10, .int .u8 118, .int .u8 48, .int .i64 18, .int .u8 118, .int .u8 100, .int .i64 18, .int .u8 118, .int .u8 104, .int .i64 18, .int .u8 118, .int .u8 115, .int .i64 9, .int .u8 116, .int .u8 0, .int .i64 17, .int .u8 105, .int .u8 0, .int .i64 9, .int .u8 98, .int .u8 0, .int .i64 9, .int .u8 117, .int .u8 0, .int .i64 9, .int .u8 114, .int .u8 0, .int .i64 17, .int .u8 113, .int .u8 0, .int .i64 17, .int .u8 101, .int .u8 0, .int .i64 17, .int .u8 110, .int .u8 0, .int .i64 17, .int .u8 107, .int .u8 0]) (by kernel_rfl) (by kernel_rfl) (by kernel_rfl) (by kernel_rfl) rfl (by kernel_rfl)) ?_
  refine wpList_nil ?_
  refine wp_ret ?_
  refine bodyPost_ret (results_cell_row rfl _ _ w.heap.size 248 _ _ (.array 18 204) (by kernel_rfl) (heap_alloc_new _ _) (by kernel_rfl) rfl (by kernel_rfl)) rfl ?_
  exact ⟨rfl, below_alloc _ _⟩
end Ky
end Go.Proofs.YtpoifdokmjhclaaGreat

namespace Go.Proofs.YtpoifdokmjhclaaGreat
namespace Ky
open Go.RowKit Go.Lib Pg
attribute [local go_sem] Oper.semAt_some
section
variable {ops : Array Oper} {rest : List Oper} {o : Oper} {a : Act} {w w1 : World} {Q : Exit → Act → World → Prop}
theorem wl_call (d : Option Tmp) (f : FuncId) (args : Array Value) (hg : o.guard = none) (hd : o.dst = d) (hrun : (execOp a.eval o).run Tryz.prog w = .ok (.enter f args) w) {Qc : Ending → World → Prop} (hc : Calls Tryz.prog f args w Qc) (h : ∀ e w', Qc e w' → ∃ v, e = .returned v ∧ wpList Tryz.prog ops Q rest (a.put d v) w') : wpList Tryz.prog ops Q (o :: rest) a w :=
  wpList_plain hg fun K hK => by
    unfold Oper.wp
    rw [hrun, Oper.upon_enter]
    refine hc.mono ?_
    intro e w' hq
    obtain ⟨v, rfl, hv⟩ := h e w' hq
    subst hd
    exact hK _ _ hv
end
theorem hid2 {p : Prop} (h : p) : Hid p := h
theorem formsL_toArray : formsL.toArray = #[.int .i64 0, .int .u8 0, .int .u8 0, .int .i64 1, .int .u8 112, .int .u8 0, .int .i64 1, .int .u8 99, .int .u8 0, .int .i64 1, .int .u8 109, .int .u8 0, .int .i64 9, .int .u8 97, .int .u8 0, .int .i64 10, .int .u8 118, .int .u8 48, .int .i64 18, .int .u8 118, .int .u8 100, .int .i64 18, .int .u8 118, .int .u8 104, .int .i64 18, .int .u8 118, .int .u8 115, .int .i64 9, .int .u8 116, .int .u8 0, .int .i64 17, .int .u8 105, .int .u8 0, .int .i64 9, .int .u8 98, .int .u8 0, .int .i64 9, .int .u8 117, .int .u8 0, .int .i64 9, .int .u8 114, .int .u8 0, .int .i64 17, .int .u8 113, .int .u8 0, .int .i64 17, .int .u8 101, .int .u8 0, .int .i64 17, .int .u8 110, .int .u8 0, .int .i64 17, .int .u8 107, .int .u8 0] := rfl
theorem forms_cells : ∀ k : Nat, k < 18 → formsL[k * 3]? = some (.int .i64 (frm k).1) ∧ formsL[k * 3 + 1]? = some (.int .u8 (frm k).2.1) ∧ formsL[k * 3 + 2]? = some (.int .u8 (frm k).2.2) := by
  intro k hk
  match k, hk with
  | 0, _ => exact ⟨rfl, rfl, rfl⟩
  | 1, _ => exact ⟨rfl, rfl, rfl⟩
  | 2, _ => exact ⟨rfl, rfl, rfl⟩
  | 3, _ => exact ⟨rfl, rfl, rfl⟩
  | 4, _ => exact ⟨rfl, rfl, rfl⟩
  | 5, _ => exact ⟨rfl, rfl, rfl⟩
  | 6, _ => exact ⟨rfl, rfl, rfl⟩
  | 7, _ => exact ⟨rfl, rfl, rfl⟩
  | 8, _ => exact ⟨rfl, rfl, rfl⟩
  | 9, _ => exact ⟨rfl, rfl, rfl⟩
  | 10, _ => exact ⟨rfl, rfl, rfl⟩
  | 11, _ => exact ⟨rfl, rfl, rfl⟩
  | 12, _ => exact ⟨rfl, rfl, rfl⟩
  | 13, _ => exact ⟨rfl, rfl, rfl⟩
  | 14, _ => exact ⟨rfl, rfl, rfl⟩
  | 15, _ => exact ⟨rfl, rfl, rfl⟩
  | 16, _ => exact ⟨rfl, rfl, rfl⟩
  | 17, _ => exact ⟨rfl, rfl, rfl⟩
  | n + 18, h => omega
theorem forms_at {w : World} {g k : Nat} (hb : Blk w g formsL 248) (h : k < 18) : w.cell? ⟨g, k * 3, none⟩ = some (.int .i64 (frm k).1) ∧ w.cell? ⟨g, k * 3 + 1, none⟩ = some (.int .u8 (frm k).2.1) ∧ w.cell? ⟨g, k * 3 + 2, none⟩ = some (.int .u8 (frm k).2.2) := by
  obtain ⟨a, b, c⟩ := forms_cells k h
  exact ⟨hb.cell a, hb.cell b, hb.cell c⟩
/-- the form's own cells, written over, and handed back -/
theorem row3 {w : World} {g : Nat} {x0 x1 x2 : Value} {t : TypeId} (h : Blk w g [x0, x1, x2] t) (y0 y1 y2 : Value) : Blk (((w.setCell ⟨g, 0, none⟩ y0).setCell ⟨g, 1, none⟩ y1).setCell ⟨g, 2, none⟩ y2) g [y0, y1, y2] t := ((h.setCell (i := 0) y0).setCell (i := 1) y1).setCell (i := 2) y2
theorem ld_f {w : World} {g : Nat} {x y z : Value} (h : Blk w g [x, y, z] 204) : (loadVar 204 ⟨g, 0, none⟩).run Tryz.prog w = .ok (.agg #[x, y, z]) w := by
  have c0 := h.cell (i := 0) rfl
  have c1 := h.cell (i := 1) rfl
  have c2 := h.cell (i := 2) rfl
  go_simp
theorem res_cell {fn : Func} {p : Tmp} {ty : TypeId} (h : fn.results = #[.cell p ty]) {tmps : Array Value} {w : World} {g : Nat} {v : Value} (hp : tmps.getD p undef = .pointer (some ⟨g, 0, none⟩)) (hl : (loadVar ty ⟨g, 0, none⟩).run Tryz.prog w = .ok v w) : (results fn tmps).run Tryz.prog w = .ok v w := by
  have hp' : tmps[p]?.getD undef = .pointer (some ⟨g, 0, none⟩) := by simpa using hp
  simp [results, h, hp', asAddr, hl]
theorem below3 {w W : World} {r : Nat} (h : Below r w W) (x y z : Value) : Below r w (((W.setCell ⟨r, 0, none⟩ x).setCell ⟨r, 1, none⟩ y).setCell ⟨r, 2, none⟩ z) :=
  ((h.setCell (Nat.le_refl _) _).setCell (Nat.le_refl _) _).setCell (Nat.le_refl _) _
set_option maxHeartbeats 8000000 in
set_option maxRecDepth 100000 in
theorem formOf_any {w : World} {k : Int} : Calls Tryz.prog 105 #[.int .i64 k] w fun e w' => e = .returned (fv (frm k)) ∧ Below w.heap.size w w' := by
  go_enter Tryz.func105, Tryz.ntmps105
  refine wp_seq ?_
  refine wp_region_lit ?_
  refine wl_val (some 2) (.pointer (some ⟨w.heap.size, 0, none⟩)) rfl rfl (w1 := w.alloc (.cells #[.int .i64 0, .int .u8 0, .int .u8 0] 204)) (by kernel_rfl) ?_
  refine wpList_nil ?_
  refine wp_seq (x := Code.region 1 _ false) ?_
  refine wp_region_lit ?_
  refine wl_call (some 4) 153 #[] rfl rfl (by kernel_rfl) forms_any ?_
  rintro e w1 ⟨rfl, B1⟩
  refine ⟨_, rfl, ?_⟩
  refine wl_val (some 3) (.pointer (some ⟨w1.heap.size, 0, none⟩)) rfl rfl (w1 := w1.alloc (.cells #[.int .i64 0, .int .u8 0, .int .u8 0, .int .i64 0, .int .u8 0, .int .u8 0, .int .i64 0, .int .u8 0, .int .u8 0, .int .i64 0, .int .u8 0, .int .u8 0, .int .i64 0, .int .u8 0, .int .u8 0, .int .i64 0, .int .u8 0, .int .u8 0, .int .i64 0, .int .u8 0, .int .u8 0, .int .i64 0, .int .u8 0, .int .u8 0, .int .i64 0, .int .u8 0, .int .u8 0, .int .i64 0, .int .u8 0, .int .u8 0, .int .i64 0, .int .u8 0, .int .u8 0, .int .i64 0, .int .u8 0, .int .u8 0, .int .i64 0, .int .u8 0, .int .u8 0, .int .i64 0, .int .u8 0, .int .u8 0, .int .i64 0, .int .u8 0, .int .u8 0, .int .i64 0, .int .u8 0, .int .u8 0, .int .i64 0, .int .u8 0, .int .u8 0, .int .i64 0, .int .u8 0, .int .u8 0] 248)) (by kernel_rfl) ?_
  refine wl_skip rfl rfl (run_stnew (k := 3) (q := 4) (c' := #[.int .i64 0, .int .u8 0, .int .u8 0, .int .i64 1, .int .u8 112, .int .u8 0, .int .i64 1, .int .u8 99, .int .u8 0, .int .i64 1, .int .u8 109, .int .u8 0, .int .i64 9, .int .u8 97, .int .u8 0, .int .i64 10, .int .u8 118, .int .u8 48, .int .i64 18, .int .u8 118, .int .u8 100, .int .i64 18, .int .u8 118, .int .u8 104, .int .i64 18, .int .u8 118, .int .u8 115, .int .i64 9, .int .u8 116, .int .u8 0, .int .i64 17, .int .u8 105, .int .u8 0, .int .i64 9, .int .u8 98, .int .u8 0, .int .i64 9, .int .u8 117, .int .u8 0, .int .i64 9, .int .u8 114, .int .u8 0, .int .i64 17, .int .u8 113, .int .u8 0, .int .i64 17, .int .u8 101, .int .u8 0, .int .i64 17, .int .u8 110, .int .u8 0, .int .i64 17, .int .u8 107, .int .u8 0]) (by kernel_rfl) (by kernel_rfl) (by kernel_rfl) (by kernel_rfl) rfl (by kernel_rfl)) ?_
  refine wpList_nil ?_
  rw [← formsL_toArray]
  have b0 := blk_new w [.int .i64 0, .int .u8 0, .int .u8 0] 204
  have c0 := below_alloc w (.cells #[.int .i64 0, .int .u8 0, .int .u8 0] 204)
  have b2 := blk_new w1 formsL 248
  have c2 := below_alloc w1 (.cells formsL.toArray 248)
  have B2 := joinB (joinB c0 B1) c2
  have b1 := (b0.keep B1).keep c2
  obtain ⟨r, hr⟩ : ∃ r, Hid (w.heap.size = r) := ⟨_, rfl⟩
  generalize w1.alloc (.cells formsL.toArray 248) = W at *
  generalize hg : w1.heap.size = g at *
  generalize Value.agg formsL.toArray = FV
  rw [hr.out] at b1 ⊢
  simp only [Act.put, List.setIfInBounds_toArray, List.set_cons_zero, List.set_cons_succ]
  have r0 := b1.cell (i := 0) rfl
  have r1 := b1.cell (i := 1) rfl
  have r2 := b1.cell (i := 2) rfl
  have f0 := b1.free 0
  have f1 := b1.free 1
  have f2 := b1.free 2
  have H1 := hid2 b1
  have H2 := hid2 B2
  have H3 := hid2 b2
  clear b0 c0 B1 c2 hg b1 B2 b2
  refine (show Code.wp _ _ _ _ _ from ?_)
  by_cases h0 : k < 0
  · have e0 : frm k = (0, 0, 0) := if_neg (by omega)
    rw [e0]
    go_wp2
    refine bodyPost_ret (res_cell rfl rfl (ld_f (row3 H1.out _ _ _))) rfl ?_
    exact ⟨rfl, below3 (by have := H2.out; rw [hr.out] at this; exact this) _ _ _⟩
  · by_cases h1 : k < 18
    · obtain ⟨n, rfl⟩ : ∃ n : Nat, k = n := ⟨k.toNat, by omega⟩
      obtain ⟨q0, q1, q2⟩ := forms_at H3.out (k := n) (by omega)
      go_wp2
      refine bodyPost_ret (res_cell rfl rfl (ld_f (row3 H1.out _ _ _))) rfl ?_
      exact ⟨rfl, below3 (by have := H2.out; rw [hr.out] at this; exact this) _ _ _⟩
    · have e0 : frm k = (0, 0, 0) := if_neg (by omega)
      rw [e0]
      go_wp2
      refine bodyPost_ret (res_cell rfl rfl (ld_f (row3 H1.out _ _ _))) rfl ?_
      exact ⟨rfl, below3 (by have := H2.out; rw [hr.out] at this; exact this) _ _ _⟩
end Ky
end Go.Proofs.YtpoifdokmjhclaaGreat

namespace Go.Proofs.YtpoifdokmjhclaaGreat
namespace Ky
open Go.RowKit Go.Lib Pg
attribute [local go_sem] Oper.semAt_some
/-- n bytes of x, the highest first -/
def be : Nat → Int → List Int
  | 0, _ => []
  | n + 1, x => x / 256 ^ n % 256 :: be n x
theorem be_length : ∀ (n : Nat) (x : Int), (be n x).length = n
  | 0, _ => rfl
  | n + 1, x => by rw [be, List.length_cons, be_length n x]
theorem be_take : ∀ (n j : Nat) (x : Int), j < n → (be n x).take (j + 1) = (be n x).take j ++ [x / 256 ^ (n - 1 - j) % 256]
  | 0, j, x, h => by omega
  | n + 1, 0, x, h => by simp [be]
  | n + 1, j + 1, x, h => by
    have ih := be_take n j x (by omega)
    rw [be, List.take_succ_cons, List.take_succ_cons, ih, List.cons_append]
    have e : n + 1 - 1 - (j + 1) = n - 1 - j := by omega
    rw [e]
/-- one more byte, which lies at p -/
theorem app_at {w : World} {B p : Nat} {v : Value} {l : List Int} {x : Int} (h : OB w (B ≤ ·) v l) (hB : B ≤ w.heap.size) (hl : l.length ≤ 1000000000) (hx : 0 ≤ x ∧ x < 256) (hp : w.cell? ⟨p, 0, none⟩ = some (.int .u8 x)) :
    ∃ v' w', (Builtin.append_ #[29, 29] 29 #[v, .slice (some ⟨p, 0, none⟩) 1 1]).run Tryz.prog w = .ok v' w' ∧ OB w' (B ≤ ·) v' (l ++ [x]) ∧ Below B w w' := by
  have ho : Oct (l ++ [x]) := fun y hy => by
    rcases List.mem_append.1 hy with hy | hy
    · exact h.oct y hy
    · simp at hy; subst hy; exact hx
  have hnews : ∀ j u, [Value.int .u8 x][j]? = some u → w.cell? ((⟨p, 0, none⟩ : Addr).add j) = some u := fun j u hj => by
    match j with
    | 0 => simp at hj; subst hj; exact hp
    | j + 1 => simp at hj
  rcases h.ex with ⟨rfl, rfl⟩ | ⟨b, c, rfl, hl2, hR⟩
  · obtain ⟨c', w', hr, hR, hw⟩ := app_nil (w := w) KB 29 ⟨p, 0, none⟩ 1 1 [.int .u8 x] rfl hnews (by decide) (by decide) (by decide)
    exact ⟨_, w', hr, ⟨ho, .inr ⟨_, c', rfl, hB, hR⟩⟩, hw.mono hB⟩
  · obtain ⟨b', c', w', hr, hb', hR', hw⟩ := app_row (w := w) KB 29 hR ⟨p, 0, none⟩ 1 1 [.int .u8 x] rfl hnews (by simp [Value.oneCell']) (by omega) (by omega)
    refine ⟨_, w', hr, ⟨ho, .inr ⟨b', c', by simp, ?_, by rw [List.map_append, List.length_append]; exact hR'⟩⟩, hw.below (fun x e => by have e' : x = b := e; omega) hB⟩
    rcases hb' with rfl | rfl
    · exact hl2
    · exact hB
theorem app_byte {w : World} {B : Nat} {v : Value} {l : List Int} {x : Int} (h : OB w (B ≤ ·) v l) (hB : B ≤ w.heap.size) (hl : l.length ≤ 1000000000) (hx : 0 ≤ x ∧ x < 256) :
    ∃ v' w', (Builtin.append_ #[29, 29] 29 #[v, .slice (some ⟨w.heap.size, 0, none⟩) 1 1]).run Tryz.prog (w.alloc (.cells #[.int .u8 x] 5)) = .ok v' w' ∧ OB w' (B ≤ ·) v' (l ++ [x]) ∧ Below B w w' := by
  have hb := below_alloc w (.cells #[.int .u8 x] 5)
  have hk := blk_new w [.int .u8 x] 5
  have ho : Oct (l ++ [x]) := fun y hy => by
    rcases List.mem_append.1 hy with hy | hy
    · exact h.oct y hy
    · simp at hy; subst hy; exact hx
  have hnews : ∀ j u, [Value.int .u8 x][j]? = some u → (w.alloc (.cells #[.int .u8 x] 5)).cell? ((⟨w.heap.size, 0, none⟩ : Addr).add j) = some u := fun j u hj => by
    match j with
    | 0 => exact hk.cell (i := 0) hj
    | j + 1 => simp at hj
  rcases h.ex with ⟨rfl, rfl⟩ | ⟨b, c, rfl, hl2, hR⟩
  · obtain ⟨c', w', hr, hR, hw⟩ := app_nil (w := w.alloc (.cells #[.int .u8 x] 5)) KB 29 ⟨w.heap.size, 0, none⟩ 1 1 [.int .u8 x] rfl hnews (by decide) (by decide) (by decide)
    exact ⟨_, w', hr, ⟨ho, .inr ⟨_, c', rfl, Nat.le_trans hB hb.size, hR⟩⟩, (hb.mono hB).trans (hw.mono (Nat.le_trans hB hb.size))⟩
  · obtain ⟨b', c', w', hr, hb', hR', hw⟩ := app_row (w := w.alloc (.cells #[.int .u8 x] 5)) KB 29 (hR.keep hb) ⟨w.heap.size, 0, none⟩ 1 1 [.int .u8 x] rfl hnews (by simp [Value.oneCell']) (by omega) (by omega)
    refine ⟨_, w', hr, ⟨ho, .inr ⟨b', c', by simp, ?_, by rw [List.map_append, List.length_append]; exact hR'⟩⟩, (hb.mono hB).trans (hw.below (fun x e => by have e' : x = b := e; omega) (Nat.le_trans hB hb.size))⟩
    rcases hb' with rfl | rfl
    · exact hl2
    · exact Nat.le_trans hB hb.size
theorem pow8 (h : Nat) : (256 : Int) ^ h = 2 ^ (8 * h) := by rw [Int.pow_mul]; rfl
theorem OB.sh {w : World} {D : Nat → Prop} {v : Value} {l : List Int} (h : OB w D v l) : ∃ ao c, v = .slice ao l.length c := by
  rcases h.ex with ⟨rfl, rfl⟩ | ⟨b, c, rfl, _⟩
  · exact ⟨none, 0, rfl⟩
  · exact ⟨_, c, rfl⟩
set_option maxHeartbeats 2000000 in
set_option maxRecDepth 100000 in
theorem appendNumber_any {w : World} {B : Nat} {x : Int} {v : Value} {L : List Int} (hM : OB w (B ≤ ·) v L) (hB : B ≤ w.heap.size) (hL : L.length ≤ 100000) :
    Calls Tryz.prog 110 #[v, .int .u64 x] w fun e w' => ∃ v', e = .returned v' ∧ OB w' (B ≤ ·) v' (L ++ be 8 x) ∧ Below B w w' := by
  have HM := hid2 hM
  have HBS := hid2 hB
  clear hM hB
  go_enter Tryz.func110, Tryz.ntmps110
  go_wp2_with fail
  go_loopw [0, 6] (fun tv ti wr => ∃ j : Nat, j ≤ 8 ∧ ti = .int .i64 j ∧ Hid (OB wr (B ≤ ·) tv (L ++ (be 8 x).take j)) ∧ Hid (Below B w wr)) (fun _ ti _ => 8 - (intOf ti).toNat)
  case atStart => exact ⟨0, Nat.zero_le _, rfl, by rw [List.take_zero, List.append_nil]; exact HM, Below.refl _ _⟩
  case round =>
    obtain ⟨j, hj, rfl, HMj, HBj⟩ := hrel
    by_cases hlt : j < 8
    · obtain ⟨h, hh⟩ : ∃ h : Nat, (7 : Int) - j = h := ⟨7 - j, by omega⟩
      have hh' : 8 - 1 - j = h := by omega
      have hh8 : h < 8 := by omega
      have HD : Hid ((be 8 x).take (j + 1) = (be 8 x).take j ++ [x / 2 ^ (8 * h) % 256]) := by
        show _ = _
        rw [be_take 8 j x hlt, hh', pow8]
      have hle : (L ++ (be 8 x).take j).length ≤ 1000000000 := by rw [List.length_append, List.length_take, be_length]; omega
      obtain ⟨v1, w1, hr, hO, hS⟩ := app_byte (x := x / 2 ^ (8 * h) % 256) HMj.out (Nat.le_trans HBS.out HBj.out.size) hle ⟨Int.emod_nonneg _ (by decide), Int.emod_lt_of_pos _ (by decide)⟩
      obtain ⟨az, cz, rfl⟩ := OB.sh HMj.out
      obtain ⟨a1, c1, rfl⟩ := OB.sh hO
      generalize hM : L ++ (be 8 x).take j = M at *
      generalize hq : M.length = q at *
      have HO := hid2 hO
      have HS := hid2 hS
      have HR := hid2 hr
      have HME := hid2 hM
      clear hO hS hr hle hM hq hh'
      have hr := HR.out
      go_wp2_with (at_builtin; refine Lib.wpList_append_run _ rfl _ _ _ _ rfl _ _ rfl rfl _ _ hr ?_; clear hr)
      go_roundw
      case rel =>
        refine ⟨j + 1, by omega, by go_num, ?_, HBj.out.trans HS.out⟩
        rw [HD.out, ← List.append_assoc, HME.out]
        have h9 := HO.out
        rw [show (M ++ [x / 2 ^ (8 * h) % 256]).length = M.length + 1 by simp] at h9
        exact h9
      case measure => simp [intOf]; omega
    · obtain rfl : j = 8 := by omega
      rw [List.take_of_length_le (by rw [be_length]; omega)] at HMj
      go_wp2
      go_ret
      exact ⟨_, rfl, HMj.out, HBj.out⟩
theorem not64 (n : Nat) (h : n < 2 ^ 64) : (2 ^ 64 - 1) ^^^ n = 2 ^ 64 - (n + 1) := by
  apply Nat.eq_of_testBit_eq
  intro i
  rw [Nat.testBit_xor, Nat.testBit_two_pow_sub_one, Nat.testBit_two_pow_sub_succ h]
  by_cases hi : i < 64
  · simp [hi]
  · have : n.testBit i = false := Nat.testBit_lt_two_pow (Nat.lt_of_lt_of_le h (Nat.pow_le_pow_right (by decide) (by omega)))
    simp [hi, this]
theorem not64i {a : Int} (h0 : 0 ≤ a) (h1 : a < 18446744073709551616) : bits .xor .u64 IntKind.u64.max a = 18446744073709551615 - a := by
  obtain ⟨n, rfl⟩ := Int.eq_ofNat_of_zero_le h0
  have e : IntKind.u64.max = ((18446744073709551615 : Nat) : Int) := by kernel_rfl
  rw [e, bits_xor_u64_nat _ _ (by omega) (by omega)]
  have := not64 n (by omega)
  rw [show (18446744073709551615 : Nat) = 2 ^ 64 - 1 by decide, this]
  omega
set_option maxHeartbeats 1000000 in
theorem turned_any {w : World} {k a : Int} (h0 : 0 ≤ a) (h1 : a < 18446744073709551616) : Calls Tryz.prog 109 #[.int .i64 k, .int .u64 a] w fun e w' => e = .returned (.int .u64 (if k = 10 then 18446744073709551615 - a else a)) ∧ w' = w := by
  by_cases h : k = 10
  · subst h
    rw [if_pos rfl]
    go_enter Tryz.func109, Tryz.ntmps109
    go_wp2
    go_ret
    refine ⟨?_, rfl⟩
    show Ending.returned (.int .u64 (bits .xor .u64 IntKind.u64.max a)) = _
    rw [not64i h0 h1]
  · rw [if_neg h]
    go_enter Tryz.func109, Tryz.ntmps109
    go_wp2
    go_ret
    exact ⟨rfl, rfl⟩
set_option maxHeartbeats 1000000 in
theorem usesA_any {w : World} {n x y : Int} : Calls Tryz.prog 106 #[.agg #[.int .i64 n, .int .u8 x, .int .u8 y]] w fun e w' => e = .returned (.bool (decide (8 < n))) ∧ Below w.heap.size w w' := by
  go_enter Tryz.func106, Tryz.ntmps106
  go_wp2
  go_ret
  exact ⟨rfl, below_alloc _ _⟩
set_option maxHeartbeats 1000000 in
theorem usesB_any {w : World} {n x y : Int} : Calls Tryz.prog 107 #[.agg #[.int .i64 n, .int .u8 x, .int .u8 y]] w fun e w' => e = .returned (.bool (decide (16 < n))) ∧ Below w.heap.size w w' := by
  go_enter Tryz.func107, Tryz.ntmps107
  go_wp2
  go_ret
  exact ⟨rfl, below_alloc _ _⟩
end Ky
end Go.Proofs.YtpoifdokmjhclaaGreat

namespace Go.Proofs.YtpoifdokmjhclaaGreat
namespace Ky
open Go.RowKit Go.Lib Pg
attribute [local go_sem] Oper.semAt_some
theorem belowD (w : World) : Below w.heap.size w w.drew := ⟨rfl, rfl, rfl, Nat.le_refl _, fun _ _ => rfl⟩
theorem mk_room {w : World} (n : Nat) (hn : n ≤ 1000) : ∃ w', (Instr.makeSlice 29 (.int .i64 0) (.int .i64 n)).run Tryz.prog w = .ok (.slice (some ⟨w.heap.size, 0, none⟩) 0 n) w' ∧ OB w' (w.heap.size ≤ ·) (.slice (some ⟨w.heap.size, 0, none⟩) 0 n) [] ∧ Below w.heap.size w w' := by
  obtain ⟨i, hi, hz0, hs, hb0⟩ := info_parts KB.inf
  have hrun := run_make (P := Tryz.prog) w 29 5 i (.int .u8 0) KB.und hi hz0 .i64 .i64 0 (n : Int) (by omega) (by omega) (by rw [hb0]; omega) (by omega)
  refine ⟨_, by simpa using hrun, ⟨fun _ h => by simp at h, .inr ⟨_, n, rfl, Nat.le_refl _, ⟨(madeCells (Value.int .u8 0).cells (n * i.size)).toList, ?_, rfl, ?_, Nat.zero_le _, by simp only [maxLen]; omega⟩⟩⟩, below_alloc w _⟩
  · exact ⟨by simp only [List.map_nil, List.nil_append, Array.toArray_toList]; exact heap_alloc_new _ _⟩
  · simp [size_madeCells, hs]
theorem run_mk0 {a : Act} {w w' : World} {o : Oper} {x n : Nat} {v : Value} (ho : o.op = .makeSlice 29 (.const (.int .i64 0)) (.tmp x)) (hx : a.eval (.tmp x) = .int .i64 n) (hr : (Instr.makeSlice 29 (.int .i64 0) (.int .i64 n)).run Tryz.prog w = .ok v w') : (execOp a.eval o).run Tryz.prog w = .ok (.value v) w' := by
  have h0 : a.eval (.const (.int .i64 0)) = .int .i64 0 := rfl
  simp only [execOp, ho, hx, h0]
  simp [hr, Result.andThen]
theorem run_b1 {a : Act} {w : World} {o : Oper} {x : Nat} {m : Int} (ho : o.op = .buildSlice 29 1 #[(0, .tmp x)]) (hx : a.eval (.tmp x) = .int .u8 m) : (execOp a.eval o).run Tryz.prog w = .ok (.value (.slice (some ⟨w.heap.size, 0, none⟩) 1 1)) (w.alloc (.cells #[.int .u8 m] 5)) := by
  have hx' : a.tmps[x]?.getD undef = .int .u8 m := by simpa [Act.eval] using hx
  simp only [execOp, ho]
  go_simp
theorem run_app {a : Act} {w w' : World} {o : Oper} {x y : Nat} {T ty : TypeId} {u v r : Value} (hty : o.type = ty) (ho : o.op = .call { callee := .builtin .append, args := #[.tmp x, .tmp y], argTypes := #[T, T] }) (hx : a.eval (.tmp x) = u) (hy : a.eval (.tmp y) = v) (hr : (Builtin.append_ #[T, T] ty #[u, v]).run Tryz.prog w = .ok r w') :
    (execOp a.eval o).run Tryz.prog w = .ok (.value r) w' := by
  subst hty
  unfold execOp
  simp only [ho, resolve, invoke, builtin, Sem.run_bind, Sem.run_pure, Result.andThen_ok, List.map_toArray, List.map_cons, List.map_nil, hx, hy, hr]
theorem ld_int {w : World} {g o : Nat} {v : Int} (c : w.cell? ⟨g, o, none⟩ = some (.int .i64 v)) : (loadVar 3 ⟨g, o, none⟩).run Tryz.prog w = .ok (.int .i64 v) w := by go_simp
theorem ld_u8 {w : World} {g o : Nat} {v : Int} (c : w.cell? ⟨g, o, none⟩ = some (.int .u8 v)) : (loadVar 5 ⟨g, o, none⟩).run Tryz.prog w = .ok (.int .u8 v) w := by go_simp
/-- what all keys of a form and a number have ahead of the second number -/
def mkb (f : Int × Int × Int) (a : Int) : List Int := [f.2.1] ++ (if 8 < f.1 then be 8 a else []) ++ (if f.2.2 = 0 then [] else [f.2.2])
set_option maxHeartbeats 4000000 in
set_option maxRecDepth 100000 in
theorem begin_any {w : World} {n : Nat} {m0 m1 a : Int} (hn : n ≤ 1000) (h0 : 0 ≤ m0 ∧ m0 < 256) (h1 : 0 ≤ m1 ∧ m1 < 256) :
    Calls Tryz.prog 108 #[.agg #[.int .i64 n, .int .u8 m0, .int .u8 m1], .int .u64 a] w fun e w' => ∃ v, e = .returned v ∧ OB w' (w.heap.size ≤ ·) v (mkb (n, m0, m1) a) ∧ Below w.heap.size w w' := by
  have H0 := hid2 h0
  have H1 := hid2 h1
  clear h0 h1
  go_enter Tryz.func108, Tryz.ntmps108
  go_wp2_with fail
  have kq := blk_new w [.int .i64 n, .int .u8 m0, .int .u8 m1] 204
  have bq := below_alloc w (.cells #[.int .i64 n, .int .u8 m0, .int .u8 m1] 204)
  have Xs : (w.alloc (.cells #[.int .i64 n, .int .u8 m0, .int .u8 m1] 204)).heap.size = w.heap.size + 1 := by simp
  generalize w.alloc (.cells #[.int .i64 n, .int .u8 m0, .int .u8 m1] 204) = X at *
  generalize hq : w.heap.size = q at *
  have hS := kq.drew
  refine rg_start (S := fun w' => Blk w' q [.int .i64 n, .int .u8 m0, .int .u8 m1] 204) (by kernel_rfl) hS ?_
  refine rg_take 0 (some 6) (.pointer (some ⟨q, 0, none⟩)) (by kernel_rfl) (fun _ _ => by kernel_rfl) (fun _ _ _ h => h) hS ?_
  refine rg_load 1 (some 7) (.int .i64 n) 3 6 q 0 (by kernel_rfl) (by kernel_rfl) (by kernel_rfl) (fun w' h => ld_int (h.cell (i := 0) rfl)) (fun _ _ _ h => h) hS ?_
  refine rg_take 3 (some 9) (.pointer (some ⟨q, 1, none⟩)) (by kernel_rfl) (fun _ _ => by kernel_rfl) (fun _ _ _ h => h) hS ?_
  refine rg_take 4 (some 10) (.pointer (some ⟨q, 1, none⟩)) (by kernel_rfl) (fun _ _ => by kernel_rfl) (fun _ _ _ h => h) hS ?_
  refine rg_load 5 (some 11) (.int .u8 m0) 5 10 q 1 (by kernel_rfl) (by kernel_rfl) (by kernel_rfl) (fun w' h => ld_u8 (h.cell (i := 1) rfl)) (fun _ _ _ h => h) hS ?_
  have Xd : X.drew.heap.size = q + 1 := Xs
  obtain ⟨w3, hr3, O3, b3⟩ := mk_room (w := X.drew) n hn
  have b4 := below_alloc w3 (.cells #[.int .u8 m0] 5)
  obtain ⟨v5, w5, hr5, O5, B5⟩ := app_at (B := q + 1) (p := w3.heap.size) (x := m0) ((O3.mono (D' := (q + 1 ≤ ·)) (fun b _ h => by omega)).keep b4) (by have := b3.size; have := b4.size; omega) (by simp) H0.out ((blk_new w3 [.int .u8 m0] 5).cell (i := 0) rfl)
  obtain ⟨a5, c5, rfl⟩ := OB.sh O5
  have k3 := hS.keep b3
  have k4 := k3.keep b4
  have k5 := k4.keepB B5 (by omega)
  have d5 : Below (q + 1) X w5 := ((belowD X).mono (Nat.le_of_eq Xs.symm)).trans (((joinB b3 b4).mono (Nat.le_of_eq Xd.symm)).trans B5)
  have b6 := below_alloc X.drew (.cells #[.int .u8 m0] 5)
  obtain ⟨w7, hr7, O7, b7⟩ := mk_room (w := X.drew.alloc (.cells #[.int .u8 m0] 5)) n hn
  obtain ⟨v8, w8, hr8, O8, B8⟩ := app_at (B := q + 1) (p := X.drew.heap.size) (x := m0) (O7.mono (D' := (q + 1 ≤ ·)) (fun b _ h => by have := b6.size; omega)) (by have := b6.size; have := b7.size; omega) (by simp) H0.out (((blk_new X.drew [.int .u8 m0] 5).keep b7).cell (i := 0) rfl)
  obtain ⟨a8, c8, rfl⟩ := OB.sh O8
  have k6 := hS.keep b6
  have k7 := k6.keep b7
  have k8 := k7.keepB B8 (by omega)
  have d8 : Below (q + 1) X w8 := ((belowD X).mono (Nat.le_of_eq Xs.symm)).trans (((joinB b6 b7).mono (Nat.le_of_eq Xd.symm)).trans B8)
  refine rg_ready [2, 6] (by kernel_rfl) (by simp) (ar_val 2 (some 8) (.slice (some ⟨X.drew.heap.size, 0, none⟩) 0 n) w3 (by kernel_rfl) (run_mk0 (x := 7) (by kernel_rfl) (by kernel_rfl) hr3) k3 ?_ (ar_val 6 (some 12) (.slice (some ⟨X.drew.heap.size, 0, none⟩) 1 1) (X.drew.alloc (.cells #[.int .u8 m0] 5)) (by kernel_rfl) (run_b1 (x := 11) (by kernel_rfl) (by kernel_rfl)) k6 ?_ ar_nil))
  · refine rg_ready [6] (by kernel_rfl) (by simp) (ar_val 6 (some 12) (.slice (some ⟨w3.heap.size, 0, none⟩) 1 1) (w3.alloc (.cells #[.int .u8 m0] 5)) (by kernel_rfl) (run_b1 (x := 11) (by kernel_rfl) (by kernel_rfl)) k4 ?_ ar_nil)
    refine rg_ready [7] (by kernel_rfl) (by simp) (ar_val 7 (some 13) (.slice a5 ([] ++ [m0]).length c5) w5 (by kernel_rfl) (run_app (x := 8) (y := 12) rfl (by kernel_rfl) (by kernel_rfl) (by kernel_rfl) hr5) k5 ?_ ar_nil)
    refine rg_take 8 (some 5) (.slice a5 ([] ++ [m0]).length c5) (by kernel_rfl) (fun _ _ => by kernel_rfl) (fun _ _ _ h => h) k5 ?_
    refine rg_done (by kernel_rfl) ?_
    simp only [Act.put, List.setIfInBounds_toArray, List.set_cons_zero, List.set_cons_succ]
    have HO := hid2 O5
    have HK := hid2 k5
    have HD := hid2 d5
    have hb0 : q + 1 ≤ w5.heap.size := by have := d5.size; omega
    have HQ := hid2 hq
    have HBQ := hid2 bq
    have HXS := hid2 Xs
    clear hS Xd hr3 O3 b3 b4 hr5 O5 B5 k3 k4 k5 d5 b6 hr7 O7 b7 hr8 O8 B8 k6 k7 k8 d8 kq bq hq Xs
    have q0 := HK.out.cell (i := 0) rfl
    have q1 := HK.out.cell (i := 1) rfl
    have q2 := HK.out.cell (i := 2) rfl
    have u1 := usesA_any (w := w5) (n := n) (x := m0) (y := m1)
    by_cases h8 : 8 < n
    · by_cases hm : m1 = 0
      · have HM : Hid (mkb ((n : Int), m0, m1) a = ([] ++ [m0]) ++ be 8 a) := by have h88 : ((8 : Int) < n) := (by omega); show _ = _; simp [mkb, h88, hm]
        have h8 : (8 : Int) < n := by omega
        rw [decide_eq_true h8] at u1
        subst hm
        go_wp2_with first
          | (go_at_call 106; refine u1.mono ?_; rintro e w6 ⟨rfl, b6⟩; have z6 := HK.out.keep b6; have p0 := z6.cell (i := 0) rfl; have p1 := z6.cell (i := 1) rfl; have p2 := z6.cell (i := 2) rfl; have D6 := HD.out.trans (b6.mono hb0); have O6 := HO.out.keep b6; have s6 : q + 1 ≤ w6.heap.size := Nat.le_trans hb0 b6.size)
          | (go_at_call 110; refine (appendNumber_any (x := a) O6 s6 (by simp)).mono ?_; rintro e w9 ⟨v9, rfl, O9, b9⟩; obtain ⟨a9, c9, rfl⟩ := OB.sh O9; have z9 := z6.keepB b9 (Nat.lt_succ_self q); have r1 := z9.cell (i := 1) rfl; have r2 := z9.cell (i := 2) rfl; have D9 := D6.trans b9; have s9 : q + 1 ≤ w9.heap.size := Nat.le_trans s6 b9.size)
        go_ret
        exact ⟨_, rfl, by rw [HM.out]; exact O9.mono (fun b _ h => by have := HQ.out; omega), by have h9 := D9; rw [HQ.out]; exact HBQ.out.trans (h9.mono (Nat.le_succ q))⟩
      · have HM : Hid (mkb ((n : Int), m0, m1) a = ([] ++ [m0]) ++ be 8 a ++ [m1]) := by have h88 : ((8 : Int) < n) := (by omega); show _ = _; simp [mkb, h88, hm]
        have h8 : (8 : Int) < n := by omega
        rw [decide_eq_true h8] at u1
        have hm0 : m1 ≠ 0 := hm
        go_wp2_with first
          | (go_at_call 106; refine u1.mono ?_; rintro e w6 ⟨rfl, b6⟩; have z6 := HK.out.keep b6; have p0 := z6.cell (i := 0) rfl; have p1 := z6.cell (i := 1) rfl; have p2 := z6.cell (i := 2) rfl; have D6 := HD.out.trans (b6.mono hb0); have O6 := HO.out.keep b6; have s6 : q + 1 ≤ w6.heap.size := Nat.le_trans hb0 b6.size)
          | (go_at_call 110; refine (appendNumber_any (x := a) O6 s6 (by simp)).mono ?_; rintro e w9 ⟨v9, rfl, O9, b9⟩; obtain ⟨a9, c9, rfl⟩ := OB.sh O9; have z9 := z6.keepB b9 (Nat.lt_succ_self q); have r1 := z9.cell (i := 1) rfl; have r2 := z9.cell (i := 2) rfl; have D9 := D6.trans b9; have s9 : q + 1 ≤ w9.heap.size := Nat.le_trans s6 b9.size; obtain ⟨v10, w10, hr10, O10, B10⟩ := app_byte (x := m1) O9 s9 (by simp [be_length]) H1.out; obtain ⟨a10, c10, rfl⟩ := OB.sh O10; replace O10 := hid2 O10; replace B10 := hid2 B10)
          | (at_builtin; refine Lib.wpList_append_run _ rfl _ _ _ _ rfl _ _ rfl rfl _ _ hr10 ?_; clear hr10)
        go_ret
        exact ⟨_, rfl, by rw [HM.out]; exact O10.out.mono (fun b _ h => by have := HQ.out; omega), by have h9 := D9.trans B10.out; rw [HQ.out]; exact HBQ.out.trans (h9.mono (Nat.le_succ q))⟩
    · by_cases hm : m1 = 0
      · have HM : Hid (mkb ((n : Int), m0, m1) a = ([] ++ [m0])) := by have h88 : ¬ ((8 : Int) < n) := (by omega); show _ = _; simp [mkb, h88, hm]
        have h8 : ¬ ((8 : Int) < n) := by omega
        rw [decide_eq_false h8] at u1
        subst hm
        go_wp2_with first
          | (go_at_call 106; refine u1.mono ?_; rintro e w6 ⟨rfl, b6⟩; have z6 := HK.out.keep b6; have p0 := z6.cell (i := 0) rfl; have p1 := z6.cell (i := 1) rfl; have p2 := z6.cell (i := 2) rfl; have D6 := HD.out.trans (b6.mono hb0); have O6 := HO.out.keep b6; have s6 : q + 1 ≤ w6.heap.size := Nat.le_trans hb0 b6.size)
        go_ret
        exact ⟨_, rfl, by rw [HM.out]; exact O6.mono (fun b _ h => by have := HQ.out; omega), by have h9 := D6; rw [HQ.out]; exact HBQ.out.trans (h9.mono (Nat.le_succ q))⟩
      · have HM : Hid (mkb ((n : Int), m0, m1) a = ([] ++ [m0]) ++ [m1]) := by have h88 : ¬ ((8 : Int) < n) := (by omega); show _ = _; simp [mkb, h88, hm]
        have h8 : ¬ ((8 : Int) < n) := by omega
        rw [decide_eq_false h8] at u1
        have hm0 : m1 ≠ 0 := hm
        go_wp2_with first
          | (go_at_call 106; refine u1.mono ?_; rintro e w6 ⟨rfl, b6⟩; have z6 := HK.out.keep b6; have p0 := z6.cell (i := 0) rfl; have p1 := z6.cell (i := 1) rfl; have p2 := z6.cell (i := 2) rfl; have D6 := HD.out.trans (b6.mono hb0); have O6 := HO.out.keep b6; have s6 : q + 1 ≤ w6.heap.size := Nat.le_trans hb0 b6.size; obtain ⟨v10, w10, hr10, O10, B10⟩ := app_byte (x := m1) O6 s6 (by simp) H1.out; obtain ⟨a10, c10, rfl⟩ := OB.sh O10; replace O10 := hid2 O10; replace B10 := hid2 B10)
          | (at_builtin; refine Lib.wpList_append_run _ rfl _ _ _ _ rfl _ _ rfl rfl _ _ hr10 ?_; clear hr10)
        go_ret
        exact ⟨_, rfl, by rw [HM.out]; exact O10.out.mono (fun b _ h => by have := HQ.out; omega), by have h9 := D6.trans B10.out; rw [HQ.out]; exact HBQ.out.trans (h9.mono (Nat.le_succ q))⟩
  · refine rg_ready [2] (by kernel_rfl) (by simp) (ar_val 2 (some 8) (.slice (some ⟨(X.drew.alloc (.cells #[.int .u8 m0] 5)).heap.size, 0, none⟩) 0 n) w7 (by kernel_rfl) (run_mk0 (x := 7) (by kernel_rfl) (by kernel_rfl) hr7) k7 ?_ ar_nil)
    refine rg_ready [7] (by kernel_rfl) (by simp) (ar_val 7 (some 13) (.slice a8 ([] ++ [m0]).length c8) w8 (by kernel_rfl) (run_app (x := 8) (y := 12) rfl (by kernel_rfl) (by kernel_rfl) (by kernel_rfl) hr8) k8 ?_ ar_nil)
    refine rg_take 8 (some 5) (.slice a8 ([] ++ [m0]).length c8) (by kernel_rfl) (fun _ _ => by kernel_rfl) (fun _ _ _ h => h) k8 ?_
    refine rg_done (by kernel_rfl) ?_
    simp only [Act.put, List.setIfInBounds_toArray, List.set_cons_zero, List.set_cons_succ]
    have HO := hid2 O8
    have HK := hid2 k8
    have HD := hid2 d8
    have hb0 : q + 1 ≤ w8.heap.size := by have := d8.size; omega
    have HQ := hid2 hq
    have HBQ := hid2 bq
    have HXS := hid2 Xs
    clear hS Xd hr3 O3 b3 b4 hr5 O5 B5 k3 k4 k5 d5 b6 hr7 O7 b7 hr8 O8 B8 k6 k7 k8 d8 kq bq hq Xs
    have q0 := HK.out.cell (i := 0) rfl
    have q1 := HK.out.cell (i := 1) rfl
    have q2 := HK.out.cell (i := 2) rfl
    have u1 := usesA_any (w := w8) (n := n) (x := m0) (y := m1)
    by_cases h8 : 8 < n
    · by_cases hm : m1 = 0
      · have HM : Hid (mkb ((n : Int), m0, m1) a = ([] ++ [m0]) ++ be 8 a) := by have h88 : ((8 : Int) < n) := (by omega); show _ = _; simp [mkb, h88, hm]
        have h8 : (8 : Int) < n := by omega
        rw [decide_eq_true h8] at u1
        subst hm
        go_wp2_with first
          | (go_at_call 106; refine u1.mono ?_; rintro e w6 ⟨rfl, b6⟩; have z6 := HK.out.keep b6; have p0 := z6.cell (i := 0) rfl; have p1 := z6.cell (i := 1) rfl; have p2 := z6.cell (i := 2) rfl; have D6 := HD.out.trans (b6.mono hb0); have O6 := HO.out.keep b6; have s6 : q + 1 ≤ w6.heap.size := Nat.le_trans hb0 b6.size)
          | (go_at_call 110; refine (appendNumber_any (x := a) O6 s6 (by simp)).mono ?_; rintro e w9 ⟨v9, rfl, O9, b9⟩; obtain ⟨a9, c9, rfl⟩ := OB.sh O9; have z9 := z6.keepB b9 (Nat.lt_succ_self q); have r1 := z9.cell (i := 1) rfl; have r2 := z9.cell (i := 2) rfl; have D9 := D6.trans b9; have s9 : q + 1 ≤ w9.heap.size := Nat.le_trans s6 b9.size)
        go_ret
        exact ⟨_, rfl, by rw [HM.out]; exact O9.mono (fun b _ h => by have := HQ.out; omega), by have h9 := D9; rw [HQ.out]; exact HBQ.out.trans (h9.mono (Nat.le_succ q))⟩
      · have HM : Hid (mkb ((n : Int), m0, m1) a = ([] ++ [m0]) ++ be 8 a ++ [m1]) := by have h88 : ((8 : Int) < n) := (by omega); show _ = _; simp [mkb, h88, hm]
        have h8 : (8 : Int) < n := by omega
        rw [decide_eq_true h8] at u1
        have hm0 : m1 ≠ 0 := hm
        go_wp2_with first
          | (go_at_call 106; refine u1.mono ?_; rintro e w6 ⟨rfl, b6⟩; have z6 := HK.out.keep b6; have p0 := z6.cell (i := 0) rfl; have p1 := z6.cell (i := 1) rfl; have p2 := z6.cell (i := 2) rfl; have D6 := HD.out.trans (b6.mono hb0); have O6 := HO.out.keep b6; have s6 : q + 1 ≤ w6.heap.size := Nat.le_trans hb0 b6.size)
          | (go_at_call 110; refine (appendNumber_any (x := a) O6 s6 (by simp)).mono ?_; rintro e w9 ⟨v9, rfl, O9, b9⟩; obtain ⟨a9, c9, rfl⟩ := OB.sh O9; have z9 := z6.keepB b9 (Nat.lt_succ_self q); have r1 := z9.cell (i := 1) rfl; have r2 := z9.cell (i := 2) rfl; have D9 := D6.trans b9; have s9 : q + 1 ≤ w9.heap.size := Nat.le_trans s6 b9.size; obtain ⟨v10, w10, hr10, O10, B10⟩ := app_byte (x := m1) O9 s9 (by simp [be_length]) H1.out; obtain ⟨a10, c10, rfl⟩ := OB.sh O10; replace O10 := hid2 O10; replace B10 := hid2 B10)
          | (at_builtin; refine Lib.wpList_append_run _ rfl _ _ _ _ rfl _ _ rfl rfl _ _ hr10 ?_; clear hr10)
        go_ret
        exact ⟨_, rfl, by rw [HM.out]; exact O10.out.mono (fun b _ h => by have := HQ.out; omega), by have h9 := D9.trans B10.out; rw [HQ.out]; exact HBQ.out.trans (h9.mono (Nat.le_succ q))⟩
    · by_cases hm : m1 = 0
      · have HM : Hid (mkb ((n : Int), m0, m1) a = ([] ++ [m0])) := by have h88 : ¬ ((8 : Int) < n) := (by omega); show _ = _; simp [mkb, h88, hm]
        have h8 : ¬ ((8 : Int) < n) := by omega
        rw [decide_eq_false h8] at u1
        subst hm
        go_wp2_with first
          | (go_at_call 106; refine u1.mono ?_; rintro e w6 ⟨rfl, b6⟩; have z6 := HK.out.keep b6; have p0 := z6.cell (i := 0) rfl; have p1 := z6.cell (i := 1) rfl; have p2 := z6.cell (i := 2) rfl; have D6 := HD.out.trans (b6.mono hb0); have O6 := HO.out.keep b6; have s6 : q + 1 ≤ w6.heap.size := Nat.le_trans hb0 b6.size)
        go_ret
        exact ⟨_, rfl, by rw [HM.out]; exact O6.mono (fun b _ h => by have := HQ.out; omega), by have h9 := D6; rw [HQ.out]; exact HBQ.out.trans (h9.mono (Nat.le_succ q))⟩
      · have HM : Hid (mkb ((n : Int), m0, m1) a = ([] ++ [m0]) ++ [m1]) := by have h88 : ¬ ((8 : Int) < n) := (by omega); show _ = _; simp [mkb, h88, hm]
        have h8 : ¬ ((8 : Int) < n) := by omega
        rw [decide_eq_false h8] at u1
        have hm0 : m1 ≠ 0 := hm
        go_wp2_with first
          | (go_at_call 106; refine u1.mono ?_; rintro e w6 ⟨rfl, b6⟩; have z6 := HK.out.keep b6; have p0 := z6.cell (i := 0) rfl; have p1 := z6.cell (i := 1) rfl; have p2 := z6.cell (i := 2) rfl; have D6 := HD.out.trans (b6.mono hb0); have O6 := HO.out.keep b6; have s6 : q + 1 ≤ w6.heap.size := Nat.le_trans hb0 b6.size; obtain ⟨v10, w10, hr10, O10, B10⟩ := app_byte (x := m1) O6 s6 (by simp) H1.out; obtain ⟨a10, c10, rfl⟩ := OB.sh O10; replace O10 := hid2 O10; replace B10 := hid2 B10)
          | (at_builtin; refine Lib.wpList_append_run _ rfl _ _ _ _ rfl _ _ rfl rfl _ _ hr10 ?_; clear hr10)
        go_ret
        exact ⟨_, rfl, by rw [HM.out]; exact O10.out.mono (fun b _ h => by have := HQ.out; omega), by have h9 := D6.trans B10.out; rw [HQ.out]; exact HBQ.out.trans (h9.mono (Nat.le_succ q))⟩
end Ky
end Go.Proofs.YtpoifdokmjhclaaGreat

namespace Go.Proofs.YtpoifdokmjhclaaGreat
namespace Ky
open Go.RowKit Go.Lib Pg
attribute [local go_sem] Oper.semAt_some
theorem eq50 (a b c d : Int) (w : World) : (Op.equalIn 9999 202 (.agg #[.int .u8 a, .int .u8 b]) (.agg #[.int .u8 c, .int .u8 d])).run Tryz.prog w = .ok (a == c && b == d) w := by
  rw [show (9999 : Nat) = 9998 + 1 from rfl, Op.equalIn]
  simp only [Sem.run_bind, run_underlying Tryz.underlying202, Result.andThen_ok]
  simp only [Std.Legacy.Range.forIn_eq_forIn_range', Std.Legacy.Range.size, Nat.sub_zero, Nat.add_sub_cancel, Nat.div_one, List.range'_succ, List.range'_zero, List.forIn_cons, List.forIn_nil]
  go_simp
  by_cases h1 : a = c <;> by_cases h2 : b = d <;> simp [h1, h2]
attribute [local go_sem] eq50
theorem frm_shape (k : Int) : ∃ (n : Nat) (m0 m1 : Int), frm k = ((n : Int), m0, m1) ∧ n ≤ 18 ∧ (0 ≤ m0 ∧ m0 < 256) ∧ (0 ≤ m1 ∧ m1 < 256) ∧ (n = 0 → m0 = 0 ∧ m1 = 0) := by
  by_cases h : 0 ≤ k ∧ k < 18
  · obtain ⟨j, rfl⟩ := Int.eq_ofNat_of_zero_le h.1
    have hj : j < 18 := by omega
    match j, hj with
    | 0, _ => exact ⟨0, 0, 0, rfl, by decide, by decide, by decide, fun _ => ⟨rfl, rfl⟩⟩
    | 1, _ => exact ⟨1, 112, 0, rfl, by decide, by decide, by decide, fun h => by omega⟩
    | 2, _ => exact ⟨1, 99, 0, rfl, by decide, by decide, by decide, fun h => by omega⟩
    | 3, _ => exact ⟨1, 109, 0, rfl, by decide, by decide, by decide, fun h => by omega⟩
    | 4, _ => exact ⟨9, 97, 0, rfl, by decide, by decide, by decide, fun h => by omega⟩
    | 5, _ => exact ⟨10, 118, 48, rfl, by decide, by decide, by decide, fun h => by omega⟩
    | 6, _ => exact ⟨18, 118, 100, rfl, by decide, by decide, by decide, fun h => by omega⟩
    | 7, _ => exact ⟨18, 118, 104, rfl, by decide, by decide, by decide, fun h => by omega⟩
    | 8, _ => exact ⟨18, 118, 115, rfl, by decide, by decide, by decide, fun h => by omega⟩
    | 9, _ => exact ⟨9, 116, 0, rfl, by decide, by decide, by decide, fun h => by omega⟩
    | 10, _ => exact ⟨17, 105, 0, rfl, by decide, by decide, by decide, fun h => by omega⟩
    | 11, _ => exact ⟨9, 98, 0, rfl, by decide, by decide, by decide, fun h => by omega⟩
    | 12, _ => exact ⟨9, 117, 0, rfl, by decide, by decide, by decide, fun h => by omega⟩
    | 13, _ => exact ⟨9, 114, 0, rfl, by decide, by decide, by decide, fun h => by omega⟩
    | 14, _ => exact ⟨17, 113, 0, rfl, by decide, by decide, by decide, fun h => by omega⟩
    | 15, _ => exact ⟨17, 101, 0, rfl, by decide, by decide, by decide, fun h => by omega⟩
    | 16, _ => exact ⟨17, 110, 0, rfl, by decide, by decide, by decide, fun h => by omega⟩
    | 17, _ => exact ⟨17, 107, 0, rfl, by decide, by decide, by decide, fun h => by omega⟩
    | j + 18, h => omega
  · exact ⟨0, 0, 0, if_neg h, by decide, by decide, by decide, fun _ => ⟨rfl, rfl⟩⟩
def tn (k a : Int) : Int := if k = 10 then 18446744073709551615 - a else a
def mkE (k a b : Int) : Bool := decide ((frm k).1 = 0) || (decide (a ≠ 0) && decide ((frm k).1 ≤ 8)) || (decide (b ≠ 0) && decide ((frm k).1 ≤ 16))
def mk (k a b : Int) : List Int := mkb (frm k) (tn k a) ++ (if 16 < (frm k).1 then be 8 b else [])
theorem mkb_len (f : Int × Int × Int) (a : Int) : (mkb f a).length ≤ 10 := by
  unfold mkb
  split <;> split <;> simp [be_length]
end Ky
end Go.Proofs.YtpoifdokmjhclaaGreat

namespace Go.Proofs.YtpoifdokmjhclaaGreat
namespace Ky
open Go.RowKit Go.Lib Pg
attribute [local go_sem] Oper.semAt_some eq50
theorem ob_new (w : World) (x : Int) (hx : 0 ≤ x ∧ x < 256) : OB (w.alloc (.cells #[.int .u8 x] 5)) (w.heap.size ≤ ·) (.slice (some ⟨w.heap.size, 0, none⟩) 1 1) [x] :=
  ⟨fun y hy => by simp at hy; subst hy; exact hx, .inr ⟨_, 1, rfl, Nat.le_refl _, blk_rw (n := 1) (blk_new w [.int .u8 x] 5) rfl (by decide)⟩⟩
theorem ob_nil (w : World) (D : Nat → Prop) : OB w D (.slice none 0 0) [] := ⟨fun _ h => by simp at h, .inl ⟨rfl, rfl⟩⟩
set_option maxHeartbeats 4000000 in
set_option maxRecDepth 100000 in
theorem of_any {w : World} {k : Int} : Calls Tryz.prog 194 #[.int .i64 k] w fun e w' => ∃ v, e = .returned (.tuple #[v, .int .i64 (if (frm k).1 = 0 then 70 else 0)]) ∧ OB w' (w.heap.size ≤ ·) v (if (frm k).1 = 0 then [] else [(frm k).2.1]) ∧ Below w.heap.size w w' := by
  obtain ⟨n, m0, m1, hf, hn, hm0, hm1, hz⟩ := frm_shape k
  have u1 := fun w => formOf_any (w := w) (k := k)
  rw [hf] at u1
  simp only [fv] at u1
  rw [hf]
  have HM0 := hid2 hm0
  by_cases hn0 : n = 0
  · subst hn0
    obtain ⟨z0, z1⟩ := hz rfl
    subst z0 z1
    simp only [show ((0 : Nat) : Int) = 0 from rfl] at u1 ⊢
    clear hf hm0 hm1
    go_enter Tryz.func194, Tryz.ntmps194
    go_wp2_with (go_at_call 105; refine (u1 _).mono ?_; rintro e w1 ⟨rfl, b1⟩)
    go_ret2
    exact ⟨_, rfl, ob_nil _ _, joinB b1 (below_alloc _ _)⟩
  · have nz0 : ¬ ((n : Int) = 0) := by omega
    have HZ := hid2 nz0
    simp only
    rw [if_neg nz0, if_neg nz0]
    clear hf hm0 hm1 hz hn0
    go_enter Tryz.func194, Tryz.ntmps194
    go_wp2_with (go_at_call 105; refine (u1 _).mono ?_; rintro e w1 ⟨rfl, b1⟩)
    go_ret2
    have al := below_alloc w1 (.cells #[.int .i64 (n : Int), .int .u8 m0, .int .u8 m1] 204)
    have O9 := ob_new (w1.alloc (.cells #[.int .i64 (n : Int), .int .u8 m0, .int .u8 m1] 204)) m0 HM0.out
    rw [show (w1.alloc (.cells #[.int .i64 (n : Int), .int .u8 m0, .int .u8 m1] 204)).heap.size = w1.heap.size + 1 by simp] at O9
    refine ⟨_, rfl, O9.mono (fun b _ h => ?_), joinB b1 (joinB al (below_alloc _ _))⟩
    have := b1.size
    omega
end Ky
end Go.Proofs.YtpoifdokmjhclaaGreat

namespace Go.Proofs.YtpoifdokmjhclaaGreat
namespace Ky
open Go.RowKit Go.Lib Pg
attribute [local go_sem] Oper.semAt_some eq50
/-- the number that bytes make, the highest first -/
def bv (l : List Int) : Int := l.foldl (fun n d => n * 256 + d) 0
theorem bv_snoc (l : List Int) (x : Int) : bv (l ++ [x]) = bv l * 256 + x := by simp [bv]
theorem bv_bound : ∀ (n : Nat) (l : List Int), Oct l → l.length = n → 0 ≤ bv l ∧ bv l < 256 ^ n
  | 0, l, _, h => by
    have : l = [] := List.eq_nil_of_length_eq_zero h
    subst this
    simp [bv]
  | n + 1, l, ho, h => by
    obtain ⟨l', x, rfl⟩ : ∃ l' x, l = l' ++ [x] := by
      have hne : l ≠ [] := fun e => by subst e; simp at h
      exact ⟨l.dropLast, l.getLast hne, (List.dropLast_concat_getLast hne).symm⟩
    rw [bv_snoc]
    have ih := bv_bound n l' (fun y hy => ho y (List.mem_append_left _ hy)) (by simpa using h)
    have hx := ho x (by simp)
    rw [Int.pow_succ]
    omega
theorem or64 (a b : Int) (h0 : 0 ≤ a) (h1 : a < 72057594037927936) (h2 : 0 ≤ b) (h3 : b < 256) : bits .or .u64 (IntKind.u64.wrap (a * 256)) b = a * 256 + b := by
  have e : IntKind.u64.wrap (a * 256) = a * 256 := by rw [IntKind.wrap_u64]; omega
  rw [e]
  exact bits_join .u64 64 (by decide) (fun n h0 h1 => by rw [IntKind.wrap_u64]; omega) 8 (a * 256) b (by omega) (by omega) (by omega) h2 (by omega) (by omega)
set_option maxHeartbeats 4000000 in
set_option maxRecDepth 100000 in
theorem numberAt_any {w : World} {ao : Option Addr} {n c : Nat} {l : List Int} (h : By w (.slice ao n c) l) (hl : l.length = n) (hn : 8 ≤ n) (hc : n ≤ c) :
    Calls Tryz.prog 248 #[.slice ao n c] w fun e w' => e = .returned (.int .u64 (bv (l.take 8))) ∧ w' = w := by
  have HB := hid2 h
  have HL := hid2 hl
  have hc8 : (8 : Int) ≤ c := by omega
  have ho : Oct l := h.oct
  obtain ⟨x0, hx0⟩ : ∃ x, l[0]? = some x := ⟨l[0]'(by omega), List.getElem?_eq_getElem _⟩
  obtain ⟨b, o, rfl, _⟩ := By.at h hx0
  clear h hl hx0
  go_enter Tryz.func248, Tryz.ntmps248
  go_wp2_with fail
  go_loopw [3, 9] (fun tv ti wr => ∃ k : Nat, k ≤ 8 ∧ ti = .int .i64 k ∧ tv = .int .u64 (bv (l.take k)) ∧ wr = w) (fun _ ti _ => 8 - (intOf ti).toNat)
  case atStart => exact ⟨0, Nat.zero_le _, rfl, rfl, rfl⟩
  case round =>
    obtain ⟨k, hk, rfl, rfl, rfl⟩ := hrel
    by_cases hlt : k < 8
    · obtain ⟨x, hx⟩ : ∃ x, l[k]? = some x := ⟨l[k]'(by have := HL.out; omega), List.getElem?_eq_getElem _⟩
      obtain ⟨b', o', e, cx⟩ := By.at HB.out hx
      cases e
      have hxb := ho x (List.mem_of_getElem? hx)
      have HT : Hid (bv (l.take (k + 1)) = bv (l.take k) * 256 + x) := by
        show _ = _
        rw [List.take_add_one, hx]
        exact bv_snoc _ _
      have hb := bv_bound k (l.take k) (fun y hy => ho y (List.mem_of_mem_take hy)) (by rw [List.length_take]; have := HL.out; omega)
      have hb2 : bv (l.take k) < 72057594037927936 := by
        have h9 : (256 : Int) ^ k ≤ 256 ^ 7 := by
          have : (256 : Nat) ^ k ≤ 256 ^ 7 := Nat.pow_le_pow_right (by decide) (by omega)
          exact_mod_cast this
        have : (256 : Int) ^ 7 = 72057594037927936 := by decide
        omega
      have ho4 := or64 (bv (l.take k)) x hb.1 hb2 hxb.1 hxb.2
      generalize bv (l.take k) = V at *
      have hk0 : (k : Int) < 8 := by omega
      clear hb hb2 hx
      go_wp2
      go_roundw
      case rel =>
        refine ⟨k + 1, by omega, by go_num, ?_, trivial⟩
        rw [HT.out]
      case measure => simp [intOf]; omega
    · obtain rfl : k = 8 := by omega
      go_wp2
      go_ret
      exact ⟨rfl, rfl⟩
def fIn (l : List Int) : Int × Int × Int := ((l.length : Int), (l[0]?).getD 0, if 9 < l.length ∧ l.length % 8 = 2 then (l[9]?).getD 0 else 0)
set_option maxHeartbeats 4000000 in
set_option maxRecDepth 100000 in
theorem formIn_any {w : World} {ao : Option Addr} {n c : Nat} {l : List Int} (h : By w (.slice ao n c) l) (hl : l.length = n) (hbig : n ≤ 1000000000) :
    Calls Tryz.prog 246 #[.slice ao n c] w fun e w' => e = .returned (fv (fIn l)) ∧ Below w.heap.size w w' := by
  have HL := hid2 hl
  by_cases h0 : n = 0
  · have e0 : fIn l = (0, 0, 0) := by
      have : l = [] := List.eq_nil_of_length_eq_zero (by omega)
      subst this
      simp [fIn]
    rw [e0]
    subst h0
    clear h hl
    go_enter Tryz.func246, Tryz.ntmps246
    go_wp2
    refine bodyPost_ret (res_cell rfl rfl (ld_f ((blk_new w [.int .i64 0, .int .u8 0, .int .u8 0] 204).keep (below_alloc _ _)))) rfl ?_
    exact ⟨rfl, joinB (below_alloc _ _) (below_alloc _ _)⟩
  · obtain ⟨x0, hx0⟩ : ∃ x, l[0]? = some x := ⟨l[0]'(by omega), List.getElem?_eq_getElem _⟩
    obtain ⟨b, o, rfl, c0⟩ := By.at h hx0
    have hn0 : (0 : Int) < n := by omega
    have hbl := cell_lt c0
    rw [Nat.add_zero] at c0
    by_cases h9 : 9 < n ∧ n % 8 = 2
    · obtain ⟨x9, hx9⟩ : ∃ x, l[9]? = some x := ⟨l[9]'(by omega), List.getElem?_eq_getElem _⟩
      obtain ⟨b', o', e, c9⟩ := By.at h hx9
      cases e
      have e0 : fIn l = ((n : Int), x0, x9) := by rw [fIn, hl, if_pos h9, hx0, hx9]; rfl
      rw [e0]
      have hn9 : (9 : Int) < n := by omega
      have hr : Int.tmod (n : Int) 8 = 2 := by rw [Int.tmod_eq_emod_of_nonneg (by omega)]; omega
      clear h hl hx0 hx9 e0 h9
      go_enter Tryz.func246, Tryz.ntmps246
      go_wp2
      refine bodyPost_ret (res_cell rfl rfl (ld_f ((blk_new w [.int .i64 (n : Int), .int .u8 x0, .int .u8 x9] 204).keep (below_alloc _ _)))) rfl ?_
      exact ⟨rfl, joinB (below_alloc _ _) (below_alloc _ _)⟩
    · have e0 : fIn l = ((n : Int), x0, 0) := by rw [fIn, hl, if_neg h9, hx0]; rfl
      rw [e0]
      clear h hl hx0 e0
      by_cases h9' : 9 < n
      · have hn9 : (9 : Int) < n := by omega
        obtain ⟨r, hr⟩ : ∃ r, Int.tmod (n : Int) 8 = r := ⟨_, rfl⟩
        have hr2 : ¬ r = 2 := by rw [← hr, Int.tmod_eq_emod_of_nonneg (by omega)]; omega
        clear h9
        go_enter Tryz.func246, Tryz.ntmps246
        go_wp2
        refine bodyPost_ret (res_cell rfl rfl (ld_f ((blk_new w [.int .i64 (n : Int), .int .u8 x0, .int .u8 0] 204).keep (below_alloc _ _)))) rfl ?_
        exact ⟨rfl, joinB (below_alloc _ _) (below_alloc _ _)⟩
      · have hn9 : ¬ ((9 : Int) < n) := by omega
        clear h9
        go_enter Tryz.func246, Tryz.ntmps246
        go_wp2
        refine bodyPost_ret (res_cell rfl rfl (ld_f ((blk_new w [.int .i64 (n : Int), .int .u8 x0, .int .u8 0] 204).keep (below_alloc _ _)))) rfl ?_
        exact ⟨rfl, joinB (below_alloc _ _) (below_alloc _ _)⟩
end Ky
end Go.Proofs.YtpoifdokmjhclaaGreat

namespace Go.Proofs.YtpoifdokmjhclaaGreat
namespace Ky
open Go.RowKit Go.Lib Pg
attribute [local go_sem] Oper.semAt_some eq50
theorem forms_idx : ∀ k : Nat, k < 18 → ∀ w, (Instr.index 248 (.agg #[.int .i64 0, .int .u8 0, .int .u8 0, .int .i64 1, .int .u8 112, .int .u8 0, .int .i64 1, .int .u8 99, .int .u8 0, .int .i64 1, .int .u8 109, .int .u8 0, .int .i64 9, .int .u8 97, .int .u8 0, .int .i64 10, .int .u8 118, .int .u8 48, .int .i64 18, .int .u8 118, .int .u8 100, .int .i64 18, .int .u8 118, .int .u8 104, .int .i64 18, .int .u8 118, .int .u8 115, .int .i64 9, .int .u8 116, .int .u8 0, .int .i64 17, .int .u8 105, .int .u8 0, .int .i64 9, .int .u8 98, .int .u8 0, .int .i64 9, .int .u8 117, .int .u8 0, .int .i64 9, .int .u8 114, .int .u8 0, .int .i64 17, .int .u8 113, .int .u8 0, .int .i64 17, .int .u8 101, .int .u8 0, .int .i64 17, .int .u8 110, .int .u8 0, .int .i64 17, .int .u8 107, .int .u8 0]) (.int .i64 k)).run Tryz.prog w = .ok (.agg #[.int .i64 (frm k).1, .int .u8 (frm k).2.1, .int .u8 (frm k).2.2]) w := by
  intro k hk w
  rcases (by omega : k = 0 ∨ k = 1 ∨ k = 2 ∨ k = 3 ∨ k = 4 ∨ k = 5 ∨ k = 6 ∨ k = 7 ∨ k = 8 ∨ k = 9 ∨ k = 10 ∨ k = 11 ∨ k = 12 ∨ k = 13 ∨ k = 14 ∨ k = 15 ∨ k = 16 ∨ k = 17) with rfl | rfl | rfl | rfl | rfl | rfl | rfl | rfl | rfl | rfl | rfl | rfl | rfl | rfl | rfl | rfl | rfl | rfl
  all_goals kernel_rfl
theorem forms_idx' {w : World} : Calls Tryz.prog 153 #[] w fun e w' => ∃ FA : Array Value, e = .returned (.agg FA) ∧ Hid (∀ k : Nat, k < 18 → ∀ w, (Instr.index 248 (.agg FA) (.int .i64 k)).run Tryz.prog w = .ok (.agg #[.int .i64 (frm k).1, .int .u8 (frm k).2.1, .int .u8 (frm k).2.2]) w) ∧ Below w.heap.size w w' :=
  forms_any.mono fun _ _ h => ⟨_, h.1, forms_idx, h.2⟩
set_option maxHeartbeats 4000000 in
set_option maxRecDepth 100000 in
theorem kindOf_any {w : World} {f0 f1 f2 : Int} : Calls Tryz.prog 247 #[.agg #[.int .i64 f0, .int .u8 f1, .int .u8 f2]] w fun e w' => (∃ r : Nat, e = .returned (.int .i64 r) ∧ ((r < 18 ∧ frm r = (f0, f1, f2)) ∨ (r = 0 ∧ ∀ j : Nat, j < 18 → frm j ≠ (f0, f1, f2)))) ∧ Below w.heap.size w w' := by
  go_enter Tryz.func247, Tryz.ntmps247
  go_wp2_with (go_at_call 153; refine forms_idx'.mono ?_; rintro e w1 ⟨FA, rfl, HI, b1⟩)
  have kq := (blk_new w [.int .i64 f0, .int .u8 f1, .int .u8 f2] 204).keep b1
  have B1 := joinB (below_alloc w (.cells #[.int .i64 f0, .int .u8 f1, .int .u8 f2] 204)) b1
  have HK := hid2 kq
  have HB1 := hid2 B1
  obtain ⟨q, hq⟩ : ∃ q, Hid (w.heap.size = q) := ⟨_, rfl⟩
  rw [hq.out] at HK ⊢
  clear kq B1 b1
  go_loopw [6] (fun ti wr => ∃ k : Nat, k ≤ 18 ∧ ti = .int .i64 k ∧ Hid (∀ j : Nat, j < k → frm j ≠ (f0, f1, f2)) ∧ Hid (Below w1.heap.size w1 wr)) (fun ti _ => 18 - (intOf ti).toNat)
  case atStart => exact ⟨0, Nat.zero_le _, rfl, fun j h => by omega, Below.refl _ _⟩
  case round =>
    obtain ⟨k, hk, rfl, HJ, HB⟩ := hrel
    by_cases hlt : k < 18
    · have hi := HI.out k hlt
      have hk0 : (k : Int) < 18 := by omega
      have kq := HK.out.keep HB.out
      have q0 := kq.cell (i := 0) rfl
      have q1 := kq.cell (i := 1) rfl
      have q2 := kq.cell (i := 2) rfl
      have hql := kq.lt
      obtain ⟨⟨p0, p1, p2⟩, hp⟩ : ∃ p, Hid (frm k = p) := ⟨_, rfl⟩
      rw [hp.out] at hi
      simp only at hi
      clear kq
      by_cases e0 : p0 = f0
      · by_cases e1 : p1 = f1
        · by_cases e2 : p2 = f2
          · subst e0 e1 e2
            go_wp2
            go_ret
            refine ⟨⟨k, rfl, .inl ⟨hlt, hp.out⟩⟩, ?_⟩
            exact HB1.out.trans ((joinB HB.out (below_alloc _ _)).mono HB1.out.size)
          · subst e0 e1
            have HN : Hid (frm k ≠ (p0, p1, f2)) := by show _ ≠ _; rw [hp.out]; intro e; cases e; exact e2 rfl
            go_wp2
            go_roundw
            case rel =>
              refine ⟨k + 1, by omega, by go_num, fun j hj => ?_, joinB HB.out (below_alloc _ _)⟩
              by_cases ej : j = k
              · subst ej; exact HN.out
              · exact HJ.out j (by omega)
            case measure => simp [intOf]; omega
        · subst e0
          have HN : Hid (frm k ≠ (p0, f1, f2)) := by show _ ≠ _; rw [hp.out]; intro e; cases e; exact e1 rfl
          go_wp2
          go_roundw
          case rel =>
            refine ⟨k + 1, by omega, by go_num, fun j hj => ?_, joinB HB.out (below_alloc _ _)⟩
            by_cases ej : j = k
            · subst ej; exact HN.out
            · exact HJ.out j (by omega)
          case measure => simp [intOf]; omega
      · have HN : Hid (frm k ≠ (f0, f1, f2)) := by show _ ≠ _; rw [hp.out]; intro e; cases e; exact e0 rfl
        go_wp2
        go_roundw
        case rel =>
          refine ⟨k + 1, by omega, by go_num, fun j hj => ?_, joinB HB.out (below_alloc _ _)⟩
          by_cases ej : j = k
          · subst ej; exact HN.out
          · exact HJ.out j (by omega)
        case measure => simp [intOf]; omega
    · obtain rfl : k = 18 := by omega
      go_wp2
      go_ret
      refine ⟨⟨0, rfl, .inr ⟨rfl, fun j hj => HJ.out j hj⟩⟩, ?_⟩
      exact HB1.out.trans (HB.out.mono HB1.out.size)
end Ky
end Go.Proofs.YtpoifdokmjhclaaGreat

namespace Go.Proofs.YtpoifdokmjhclaaGreat
namespace Ky
open Go.RowKit Go.Lib Pg
attribute [local go_sem] Oper.semAt_some eq50
theorem By.lens {w : World} {ao : Option Addr} {n c : Nat} {l : List Int} (h : By w (.slice ao n c) l) : l.length = n ∧ n ≤ c ∧ c ≤ 9223372036854775807 := by
  obtain ⟨ao', c', e, h2, h3, _⟩ := h.ex
  cases e
  exact ⟨rfl, h2, h3⟩
theorem By.drop {w : World} {b o n c : Nat} {l : List Int} (h : By w (.slice (some ⟨b, o, none⟩) n c) l) (j : Nat) (hj : j ≤ n) : By w (.slice (some ⟨b, o + j, none⟩) (n - j) (c - j)) (l.drop j) := by
  obtain ⟨hl, hc, hm⟩ := By.lens h
  obtain ⟨ao', c', e, h2, h3, h4, h5, h6⟩ := h.ex
  cases e
  refine ⟨some ⟨b, o + j, none⟩, c - j, by rw [List.length_drop], by rw [List.length_drop]; omega, by omega, (fun e => by cases e), fun x hx => h5 x (List.mem_of_mem_drop hx), ?_⟩
  rcases h6 with rfl | ⟨b', o', e, hlt, hcell⟩
  · exact .inl (by simp)
  · cases e
    refine .inr ⟨b, o + j, rfl, hlt, fun i x hi => ?_⟩
    rw [List.getElem?_drop] at hi
    have := hcell (j + i) x hi
    rw [show o + (j + i) = o + j + i by omega] at this
    exact this
theorem run_from1 {a : Act} {w : World} {op : Oper} {x n c b o : Nat} (ho : op.op = .slice 29 (.tmp x) (some (.const (.int .i64 1))) none none) (hx : a.eval (.tmp x) = .slice (some ⟨b, o, none⟩) n c) (hn : 1 ≤ n) (hc : 2 ≤ c) (hnc : n ≤ c) : (execOp a.eval op).run Tryz.prog w = .ok (.value (.slice (some ⟨b, o + 1, none⟩) (n - 1) (c - 1))) w := by
  have h1 : ¬ ((n : Int) < 1) := by omega
  have h2 : (1 : Int) ≤ n := by omega
  have h3 : ¬ (c - 1 = 0) := by omega
  have h4 : (n : Int) ≤ c := by omega
  have h5 : ¬ (c ≤ 1) := by omega
  have h6 : ¬ ((c : Int) = 1) := by omega
  have h7 : ¬ (c = 1) := by omega
  obtain ⟨i0, hi, hz0, hs0, hb0⟩ := info_parts (P := Tryz.prog) KB.inf
  simp only [execOp, ho, hx]
  go_simp
/-- what a key's bytes tell -/
def rdA (r : Nat) (l : List Int) : Int := if 8 < l.length then tn r (bv ((l.drop 1).take 8)) else 0
def rdB (l : List Int) : Int := if 16 < l.length then bv (l.drop (l.length - 8)) else 0
theorem frm_inj : ∀ i : Nat, i < 18 → ∀ j : Nat, j < 18 → frm i = frm j → i = j := by decide +kernel
theorem kindOf_yes {w : World} {f0 f1 f2 : Int} {r : Nat} (hr : r < 18) (h : frm r = (f0, f1, f2)) : Calls Tryz.prog 247 #[.agg #[.int .i64 f0, .int .u8 f1, .int .u8 f2]] w fun e w' => e = .returned (.int .i64 r) ∧ Below w.heap.size w w' := by
  refine kindOf_any.mono ?_
  rintro e w' ⟨⟨r', rfl, h'⟩, hb⟩
  rcases h' with ⟨h1, h2⟩ | ⟨rfl, h2⟩
  · have := frm_inj r' h1 r hr (h2.trans h.symm)
    subst this
    exact ⟨rfl, hb⟩
  · exact absurd h (h2 r hr)
theorem ld_key {w : World} {g : Nat} {x y z : Value} (h : Blk w g [x, y, z] 103) : (loadVar 103 ⟨g, 0, none⟩).run Tryz.prog w = .ok (.agg #[x, y, z]) w := by
  have c0 := h.cell (i := 0) rfl
  have c1 := h.cell (i := 1) rfl
  have c2 := h.cell (i := 2) rfl
  go_simp
theorem res_cell_tmp {fn : Func} {p u : Tmp} {ty : TypeId} (h : fn.results = #[.cell p ty, .tmp u]) {tmps : Array Value} {w : World} {g : Nat} {v x : Value} (hp : tmps.getD p undef = .pointer (some ⟨g, 0, none⟩)) (hu : tmps.getD u undef = x) (hl : (loadVar ty ⟨g, 0, none⟩).run Tryz.prog w = .ok v w) : (results fn tmps).run Tryz.prog w = .ok (.tuple #[v, x]) w := by
  rw [results_cell_tmp h, hp, hu]
  simp [asAddr, hl]
theorem frm_pos : ∀ r : Nat, r < 18 → 0 < r → 0 < (frm r).1 := by decide +kernel
theorem run_su64 {a : Act} {w : World} {o : Oper} (k q : Nat) {g off : Nat} {u : Value} {x : Int} (ho : o.op = .store 22 (.tmp k) (.tmp q)) (hp : a.eval (.tmp k) = .pointer (some ⟨g, off, none⟩)) (hq : a.eval (.tmp q) = .int .u64 x) (hc : w.cell? ⟨g, off, none⟩ = some u) (hf : w.frozen? ⟨g, off, none⟩ = false) :
    (execOp a.eval o).run Tryz.prog w = .ok .skip (w.setCell ⟨g, off, none⟩ (.int .u64 x)) := by
  simp only [execOp, ho, hp, hq]
  go_simp
set_option maxHeartbeats 8000000 in
set_option maxRecDepth 100000 in
theorem read_yes {w : World} {ao : Option Addr} {n c : Nat} {l : List Int} (h : By w (.slice ao n c) l) (hbig : n ≤ 1000000000) {r : Nat} (hr : r < 18) (hr0 : 0 < r) (hfr : frm r = fIn l) :
    Calls Tryz.prog 196 #[.slice ao n c] w fun e w' => e = .returned (.tuple #[.agg #[.int .i64 (r : Int), .int .u64 (rdA r l), .int .u64 (rdB l)], .int .i64 0]) ∧ Below w.heap.size w w' := by
  obtain ⟨hl, hnc, hcm⟩ := By.lens h
  have u1 := fun w' (hB : Below w.heap.size w w') => formIn_any (h.keep hB) hl hbig
  have hpos := frm_pos r hr hr0
  obtain ⟨⟨f0, f1, f2⟩, hf⟩ : ∃ f, Hid (fIn l = f) := ⟨_, rfl⟩
  have hf0 : f0 = (n : Int) := by have := hf.out; rw [fIn, hl] at this; cases this; rfl
  subst hf0
  rw [hf.out] at u1 hfr
  rw [hfr] at hpos
  simp only [fv] at u1 hpos
  have u2 := fun w' => kindOf_yes (w := w') hr hfr
  obtain ⟨x0, hx0⟩ : ∃ x, l[0]? = some x := ⟨l[0]'(by omega), List.getElem?_eq_getElem _⟩
  obtain ⟨b, o, rfl, _⟩ := By.at h hx0
  have HB := hid2 h
  have nr : ¬ ((r : Int) = 0) := by omega
  clear h hfr hx0
  by_cases h8 : 8 < n
  · by_cases h16 : 16 < n
    · have g8 : ((8 : Int) < n) := by omega
      have vA := fun w => usesA_any (w := w) (n := n) (x := f1) (y := f2)
      rw [decide_eq_true g8] at vA
      have g16 : ((16 : Int) < n) := by omega
      have vB := fun w => usesB_any (w := w) (n := n) (x := f1) (y := f2)
      rw [decide_eq_true g16] at vB
      have mA : True := trivial
      have mB : True := trivial
      have HRA : Hid (rdA r l = tn r (bv ((l.drop 1).take 8))) := by show _ = _; rw [rdA, if_pos (by omega)]
      have HRB : Hid (rdB l = bv ((l.drop (n - 8)).take 8)) := by show _ = _; rw [rdB, if_pos (by omega)]; rw [hl, List.take_of_length_le (by rw [List.length_drop]; omega)]
      rw [HRA.out, HRB.out]
      go_enter Tryz.func196, Tryz.ntmps196
      go_wp2_with first
        | (go_at_call 246; refine (u1 _ (below_alloc _ _)).mono ?_; rintro e w1 ⟨rfl, b1⟩)
        | (go_at_call 247; refine (u2 _).mono ?_; rintro e w2 ⟨rfl, b2⟩; have al := below_alloc w2 (.cells #[.int .i64 (r : Int), .int .u64 0, .int .u64 0] 103); have bf := joinB (below_alloc w1 (.cells #[.int .i64 (n : Int), .int .u8 f1, .int .u8 f2] 204)) b2; have kq2 := (((blk_new w [.int .i64 0, .int .u64 0, .int .u64 0] 103).keep b1).keep bf).keep al; have kf2 := ((blk_new w1 [.int .i64 (n : Int), .int .u8 f1, .int .u8 f2] 204).keep b2).keep al; have kp2 := blk_new w2 [.int .i64 (r : Int), .int .u64 0, .int .u64 0] 103; have BL2 := joinB (joinB (joinB (below_alloc w (.cells #[.int .i64 0, .int .u64 0, .int .u64 0] 103)) b1) bf) al; have lt1 : w.heap.size < w1.heap.size := Nat.lt_of_lt_of_le (by simp) b1.size; have lt2 : w1.heap.size < w2.heap.size := Nat.lt_of_lt_of_le (by simp) b2.size; have p0_2 := kp2.cell (i := 0) rfl; have p1_2 := kp2.cell (i := 1) rfl; have p2_2 := kp2.cell (i := 2) rfl; have g0_2 := kf2.cell (i := 0) rfl; have g1_2 := kf2.cell (i := 1) rfl; have g2_2 := kf2.cell (i := 2) rfl; have q0_2 := kq2.cell (i := 0) rfl; have q1_2 := kq2.cell (i := 1) rfl; have q2_2 := kq2.cell (i := 2) rfl; have y0_2 := kq2.free 0; have y1_2 := kq2.free 1; have y2_2 := kq2.free 2; have x0_2 := kp2.free 0; have x1_2 := kp2.free 1; have x2_2 := kp2.free 2; replace kp2 := hid2 kp2; replace kf2 := hid2 kf2; replace kq2 := hid2 kq2; replace BL2 := hid2 BL2; clear b1 b2 bf al)
        | (go_at_call 106; have gate := mA; clear gate; go_must (refine (vA _).mono ?_); clear mA; rintro e w3 ⟨rfl, b3⟩; have kp3 := kp2.out.keep b3; have kf3 := kf2.out.keep b3; have kq3 := kq2.out.keep b3; have BL3 := joinB BL2.out b3; have p0_3 := kp3.cell (i := 0) rfl; have p1_3 := kp3.cell (i := 1) rfl; have p2_3 := kp3.cell (i := 2) rfl; have g0_3 := kf3.cell (i := 0) rfl; have g1_3 := kf3.cell (i := 1) rfl; have g2_3 := kf3.cell (i := 2) rfl; have q0_3 := kq3.cell (i := 0) rfl; have q1_3 := kq3.cell (i := 1) rfl; have q2_3 := kq3.cell (i := 2) rfl; have y0_3 := kq3.free 0; have y1_3 := kq3.free 1; have y2_3 := kq3.free 2; have x0_3 := kp3.free 0; have x1_3 := kp3.free 1; have x2_3 := kp3.free 2; replace kp3 := hid2 kp3; replace kf3 := hid2 kf3; replace kq3 := hid2 kq3; replace BL3 := hid2 BL3; clear b3)
      have hS : w3.drew.cell? ⟨w2.heap.size, 0, none⟩ = some (.int .i64 (r : Int)) := kp3.out.drew.cell rfl
      have BY := (HB.out.keep BL3.out).drew
      have bb := bv_bound 8 ((l.drop 1).take 8) (fun y hy => HB.out.oct y (List.mem_of_mem_drop (List.mem_of_mem_take hy))) (by rw [List.length_take, List.length_drop]; omega)
      rw [show (256 : Int) ^ 8 = 18446744073709551616 by decide] at bb
      refine rg_start (S := fun w' => w'.cell? ⟨w2.heap.size, 0, none⟩ = some (.int .i64 (r : Int))) (by kernel_rfl) hS ?_
      refine rg_take 0 (some 17) (.pointer (some ⟨w2.heap.size, 0, none⟩)) (by kernel_rfl) (fun _ _ => by kernel_rfl) (fun _ _ _ h => h) hS ?_
      refine rg_load 1 (some 18) (.int .i64 (r : Int)) 3 17 w2.heap.size 0 (by kernel_rfl) (by kernel_rfl) (by kernel_rfl) (fun w' h => ld_int h) (fun _ _ _ h => h) hS ?_
      refine rg_take 2 (some 19) (.slice (some ⟨b, o, none⟩) n c) (by kernel_rfl) (fun _ _ => by kernel_rfl) (fun _ _ _ h => h) hS ?_
      refine rg_take 3 (some 20) (.slice (some ⟨b, o + 1, none⟩) (n - 1) (c - 1)) (by kernel_rfl) (fun _ _ => run_from1 (x := 19) (by kernel_rfl) (by kernel_rfl) (by omega) (by omega) hnc) (fun _ _ _ h => h) hS ?_
      refine rg_call 4 (some 21) 248 #[.slice (some ⟨b, o + 1, none⟩) (n - 1) (c - 1)] (by kernel_rfl) (by kernel_rfl) (numberAt_any (By.drop BY 1 (by omega)) (by rw [List.length_drop]; omega) (by omega) (by omega)) ?_
      rintro e' w4 ⟨rfl, rfl⟩
      refine ⟨_, rfl, hS, ?_⟩
      refine rg_call 5 (some 22) 109 #[.int .i64 (r : Int), .int .u64 (bv ((l.drop 1).take 8))] (by kernel_rfl) (by kernel_rfl) (turned_any bb.1 bb.2) ?_
      rintro e' w5 ⟨rfl, rfl⟩
      refine ⟨.int .u64 (tn r (bv ((l.drop 1).take 8))), rfl, hS, ?_⟩
      refine rg_take 6 (some 23) (.pointer (some ⟨w2.heap.size, 1, none⟩)) (by kernel_rfl) (fun _ _ => by kernel_rfl) (fun _ _ _ h => h) hS ?_
      refine rg_ready [7] (by kernel_rfl) (by simp) (ar_void 7 (w3.drew.setCell ⟨w2.heap.size, 1, none⟩ (.int .u64 (tn r (bv ((l.drop 1).take 8))))) (by kernel_rfl) (run_su64 23 22 (by kernel_rfl) (by kernel_rfl) (by kernel_rfl) (kp3.out.drew.cell (i := 1) rfl) (kp3.out.drew.free 1)) ((kp3.out.drew.setCell (i := 1) _).cell (i := 0) rfl) ?_ ar_nil)
      refine rg_done (by kernel_rfl) ?_
      simp only [Act.put, List.setIfInBounds_toArray, List.set_cons_zero, List.set_cons_succ]
      have kp5 : Blk (w3.drew.setCell ⟨w2.heap.size, 1, none⟩ (.int .u64 (tn r (bv ((l.drop 1).take 8))))) w2.heap.size [.int .i64 (r : Int), .int .u64 (tn r (bv ((l.drop 1).take 8))), .int .u64 0] 103 := kp3.out.drew.setCell (i := 1) _
      have kf5 := kf3.out.drew.off (g' := w2.heap.size) (by omega) (i := 1) (.int .u64 (tn r (bv ((l.drop 1).take 8))))
      have kq5 := kq3.out.drew.off (g' := w2.heap.size) (by omega) (i := 1) (.int .u64 (tn r (bv ((l.drop 1).take 8))))
      have BL5 := (joinB BL3.out (belowD w3)).setCell (p := ⟨w2.heap.size, 1, none⟩) (show w.heap.size ≤ w2.heap.size by omega) (.int .u64 (tn r (bv ((l.drop 1).take 8))))
      generalize hX5 : w3.drew.setCell ⟨w2.heap.size, 1, none⟩ (.int .u64 (tn r (bv ((l.drop 1).take 8)))) = X5 at *
      clear hX5
      generalize hAV : tn r (bv ((l.drop 1).take 8)) = AV at *
      have HAV := hid2 hAV
      clear hAV
      have p0_5 := kp5.cell (i := 0) rfl
      have p1_5 := kp5.cell (i := 1) rfl
      have p2_5 := kp5.cell (i := 2) rfl
      have g0_5 := kf5.cell (i := 0) rfl
      have g1_5 := kf5.cell (i := 1) rfl
      have g2_5 := kf5.cell (i := 2) rfl
      have q0_5 := kq5.cell (i := 0) rfl
      have q1_5 := kq5.cell (i := 1) rfl
      have q2_5 := kq5.cell (i := 2) rfl
      have y0_5 := kq5.free 0
      have y1_5 := kq5.free 1
      have y2_5 := kq5.free 2
      have x0_5 := kp5.free 0
      have x1_5 := kp5.free 1
      have x2_5 := kp5.free 2
      replace kp5 := hid2 kp5
      replace kf5 := hid2 kf5
      replace kq5 := hid2 kq5
      replace BL5 := hid2 BL5
      clear BY bb hS
      have HB8 := hid2 HB.out
      go_wp2_with first
        | (go_at_call 107; have gate := mB; clear gate; go_must (refine (vB _).mono ?_); clear mB; rintro e w6 ⟨rfl, b6⟩; have kp6 := kp5.out.keep b6; have kf6 := kf5.out.keep b6; have kq6 := kq5.out.keep b6; have BL6 := joinB BL5.out b6; have p0_6 := kp6.cell (i := 0) rfl; have p1_6 := kp6.cell (i := 1) rfl; have p2_6 := kp6.cell (i := 2) rfl; have g0_6 := kf6.cell (i := 0) rfl; have g1_6 := kf6.cell (i := 1) rfl; have g2_6 := kf6.cell (i := 2) rfl; have q0_6 := kq6.cell (i := 0) rfl; have q1_6 := kq6.cell (i := 1) rfl; have q2_6 := kq6.cell (i := 2) rfl; have y0_6 := kq6.free 0; have y1_6 := kq6.free 1; have y2_6 := kq6.free 2; have x0_6 := kp6.free 0; have x1_6 := kp6.free 1; have x2_6 := kp6.free 2; replace kp6 := hid2 kp6; replace kf6 := hid2 kf6; replace kq6 := hid2 kq6; replace BL6 := hid2 BL6; clear b6)
        | (go_at_call 248; refine (numberAt_any (By.drop (HB8.out.keep BL6.out) (n - 8) (by omega)) (by rw [List.length_drop]; omega) (by omega) (by omega)).mono ?_; rintro e w7 ⟨rfl, rfl⟩)
      refine bodyPost_ret (res_cell_tmp rfl rfl rfl (ld_key (row3 (kq6.out.off (g' := w2.heap.size) (by omega) (i := 2) _) _ _ _))) rfl ?_
      refine ⟨?_, below3 (BL6.out.setCell (p := ⟨w2.heap.size, 2, none⟩) (show w.heap.size ≤ w2.heap.size by omega) _) _ _ _⟩
      show Ending.returned (.tuple #[.agg #[.int .i64 (r : Int), .int .u64 AV, .int .u64 (bv ((l.drop (n - 8)).take 8))], .int .i64 0]) = _
      rw [← HAV.out]
    · have g8 : ((8 : Int) < n) := by omega
      have vA := fun w => usesA_any (w := w) (n := n) (x := f1) (y := f2)
      rw [decide_eq_true g8] at vA
      have g16 : ¬ ((16 : Int) < n) := by omega
      have vB := fun w => usesB_any (w := w) (n := n) (x := f1) (y := f2)
      rw [decide_eq_false g16] at vB
      have mA : True := trivial
      have mB : True := trivial
      have HRA : Hid (rdA r l = tn r (bv ((l.drop 1).take 8))) := by show _ = _; rw [rdA, if_pos (by omega)]
      have HRB : Hid (rdB l = 0) := by show _ = _; rw [rdB, if_neg (by omega)]
      rw [HRA.out, HRB.out]
      go_enter Tryz.func196, Tryz.ntmps196
      go_wp2_with first
        | (go_at_call 246; refine (u1 _ (below_alloc _ _)).mono ?_; rintro e w1 ⟨rfl, b1⟩)
        | (go_at_call 247; refine (u2 _).mono ?_; rintro e w2 ⟨rfl, b2⟩; have al := below_alloc w2 (.cells #[.int .i64 (r : Int), .int .u64 0, .int .u64 0] 103); have bf := joinB (below_alloc w1 (.cells #[.int .i64 (n : Int), .int .u8 f1, .int .u8 f2] 204)) b2; have kq2 := (((blk_new w [.int .i64 0, .int .u64 0, .int .u64 0] 103).keep b1).keep bf).keep al; have kf2 := ((blk_new w1 [.int .i64 (n : Int), .int .u8 f1, .int .u8 f2] 204).keep b2).keep al; have kp2 := blk_new w2 [.int .i64 (r : Int), .int .u64 0, .int .u64 0] 103; have BL2 := joinB (joinB (joinB (below_alloc w (.cells #[.int .i64 0, .int .u64 0, .int .u64 0] 103)) b1) bf) al; have lt1 : w.heap.size < w1.heap.size := Nat.lt_of_lt_of_le (by simp) b1.size; have lt2 : w1.heap.size < w2.heap.size := Nat.lt_of_lt_of_le (by simp) b2.size; have p0_2 := kp2.cell (i := 0) rfl; have p1_2 := kp2.cell (i := 1) rfl; have p2_2 := kp2.cell (i := 2) rfl; have g0_2 := kf2.cell (i := 0) rfl; have g1_2 := kf2.cell (i := 1) rfl; have g2_2 := kf2.cell (i := 2) rfl; have q0_2 := kq2.cell (i := 0) rfl; have q1_2 := kq2.cell (i := 1) rfl; have q2_2 := kq2.cell (i := 2) rfl; have y0_2 := kq2.free 0; have y1_2 := kq2.free 1; have y2_2 := kq2.free 2; have x0_2 := kp2.free 0; have x1_2 := kp2.free 1; have x2_2 := kp2.free 2; replace kp2 := hid2 kp2; replace kf2 := hid2 kf2; replace kq2 := hid2 kq2; replace BL2 := hid2 BL2; clear b1 b2 bf al)
        | (go_at_call 106; have gate := mA; clear gate; go_must (refine (vA _).mono ?_); clear mA; rintro e w3 ⟨rfl, b3⟩; have kp3 := kp2.out.keep b3; have kf3 := kf2.out.keep b3; have kq3 := kq2.out.keep b3; have BL3 := joinB BL2.out b3; have p0_3 := kp3.cell (i := 0) rfl; have p1_3 := kp3.cell (i := 1) rfl; have p2_3 := kp3.cell (i := 2) rfl; have g0_3 := kf3.cell (i := 0) rfl; have g1_3 := kf3.cell (i := 1) rfl; have g2_3 := kf3.cell (i := 2) rfl; have q0_3 := kq3.cell (i := 0) rfl; have q1_3 := kq3.cell (i := 1) rfl; have q2_3 := kq3.cell (i := 2) rfl; have y0_3 := kq3.free 0; have y1_3 := kq3.free 1; have y2_3 := kq3.free 2; have x0_3 := kp3.free 0; have x1_3 := kp3.free 1; have x2_3 := kp3.free 2; replace kp3 := hid2 kp3; replace kf3 := hid2 kf3; replace kq3 := hid2 kq3; replace BL3 := hid2 BL3; clear b3)
      have hS : w3.drew.cell? ⟨w2.heap.size, 0, none⟩ = some (.int .i64 (r : Int)) := kp3.out.drew.cell rfl
      have BY := (HB.out.keep BL3.out).drew
      have bb := bv_bound 8 ((l.drop 1).take 8) (fun y hy => HB.out.oct y (List.mem_of_mem_drop (List.mem_of_mem_take hy))) (by rw [List.length_take, List.length_drop]; omega)
      rw [show (256 : Int) ^ 8 = 18446744073709551616 by decide] at bb
      refine rg_start (S := fun w' => w'.cell? ⟨w2.heap.size, 0, none⟩ = some (.int .i64 (r : Int))) (by kernel_rfl) hS ?_
      refine rg_take 0 (some 17) (.pointer (some ⟨w2.heap.size, 0, none⟩)) (by kernel_rfl) (fun _ _ => by kernel_rfl) (fun _ _ _ h => h) hS ?_
      refine rg_load 1 (some 18) (.int .i64 (r : Int)) 3 17 w2.heap.size 0 (by kernel_rfl) (by kernel_rfl) (by kernel_rfl) (fun w' h => ld_int h) (fun _ _ _ h => h) hS ?_
      refine rg_take 2 (some 19) (.slice (some ⟨b, o, none⟩) n c) (by kernel_rfl) (fun _ _ => by kernel_rfl) (fun _ _ _ h => h) hS ?_
      refine rg_take 3 (some 20) (.slice (some ⟨b, o + 1, none⟩) (n - 1) (c - 1)) (by kernel_rfl) (fun _ _ => run_from1 (x := 19) (by kernel_rfl) (by kernel_rfl) (by omega) (by omega) hnc) (fun _ _ _ h => h) hS ?_
      refine rg_call 4 (some 21) 248 #[.slice (some ⟨b, o + 1, none⟩) (n - 1) (c - 1)] (by kernel_rfl) (by kernel_rfl) (numberAt_any (By.drop BY 1 (by omega)) (by rw [List.length_drop]; omega) (by omega) (by omega)) ?_
      rintro e' w4 ⟨rfl, rfl⟩
      refine ⟨_, rfl, hS, ?_⟩
      refine rg_call 5 (some 22) 109 #[.int .i64 (r : Int), .int .u64 (bv ((l.drop 1).take 8))] (by kernel_rfl) (by kernel_rfl) (turned_any bb.1 bb.2) ?_
      rintro e' w5 ⟨rfl, rfl⟩
      refine ⟨.int .u64 (tn r (bv ((l.drop 1).take 8))), rfl, hS, ?_⟩
      refine rg_take 6 (some 23) (.pointer (some ⟨w2.heap.size, 1, none⟩)) (by kernel_rfl) (fun _ _ => by kernel_rfl) (fun _ _ _ h => h) hS ?_
      refine rg_ready [7] (by kernel_rfl) (by simp) (ar_void 7 (w3.drew.setCell ⟨w2.heap.size, 1, none⟩ (.int .u64 (tn r (bv ((l.drop 1).take 8))))) (by kernel_rfl) (run_su64 23 22 (by kernel_rfl) (by kernel_rfl) (by kernel_rfl) (kp3.out.drew.cell (i := 1) rfl) (kp3.out.drew.free 1)) ((kp3.out.drew.setCell (i := 1) _).cell (i := 0) rfl) ?_ ar_nil)
      refine rg_done (by kernel_rfl) ?_
      simp only [Act.put, List.setIfInBounds_toArray, List.set_cons_zero, List.set_cons_succ]
      have kp5 : Blk (w3.drew.setCell ⟨w2.heap.size, 1, none⟩ (.int .u64 (tn r (bv ((l.drop 1).take 8))))) w2.heap.size [.int .i64 (r : Int), .int .u64 (tn r (bv ((l.drop 1).take 8))), .int .u64 0] 103 := kp3.out.drew.setCell (i := 1) _
      have kf5 := kf3.out.drew.off (g' := w2.heap.size) (by omega) (i := 1) (.int .u64 (tn r (bv ((l.drop 1).take 8))))
      have kq5 := kq3.out.drew.off (g' := w2.heap.size) (by omega) (i := 1) (.int .u64 (tn r (bv ((l.drop 1).take 8))))
      have BL5 := (joinB BL3.out (belowD w3)).setCell (p := ⟨w2.heap.size, 1, none⟩) (show w.heap.size ≤ w2.heap.size by omega) (.int .u64 (tn r (bv ((l.drop 1).take 8))))
      generalize hX5 : w3.drew.setCell ⟨w2.heap.size, 1, none⟩ (.int .u64 (tn r (bv ((l.drop 1).take 8)))) = X5 at *
      clear hX5
      generalize hAV : tn r (bv ((l.drop 1).take 8)) = AV at *
      have HAV := hid2 hAV
      clear hAV
      have p0_5 := kp5.cell (i := 0) rfl
      have p1_5 := kp5.cell (i := 1) rfl
      have p2_5 := kp5.cell (i := 2) rfl
      have g0_5 := kf5.cell (i := 0) rfl
      have g1_5 := kf5.cell (i := 1) rfl
      have g2_5 := kf5.cell (i := 2) rfl
      have q0_5 := kq5.cell (i := 0) rfl
      have q1_5 := kq5.cell (i := 1) rfl
      have q2_5 := kq5.cell (i := 2) rfl
      have y0_5 := kq5.free 0
      have y1_5 := kq5.free 1
      have y2_5 := kq5.free 2
      have x0_5 := kp5.free 0
      have x1_5 := kp5.free 1
      have x2_5 := kp5.free 2
      replace kp5 := hid2 kp5
      replace kf5 := hid2 kf5
      replace kq5 := hid2 kq5
      replace BL5 := hid2 BL5
      clear BY bb hS
      go_wp2_with (go_at_call 107; have gate := mB; clear gate; go_must (refine (vB _).mono ?_); clear mB; rintro e w6 ⟨rfl, b6⟩; have kp6 := kp5.out.keep b6; have kf6 := kf5.out.keep b6; have kq6 := kq5.out.keep b6; have BL6 := joinB BL5.out b6; have p0_6 := kp6.cell (i := 0) rfl; have p1_6 := kp6.cell (i := 1) rfl; have p2_6 := kp6.cell (i := 2) rfl; have g0_6 := kf6.cell (i := 0) rfl; have g1_6 := kf6.cell (i := 1) rfl; have g2_6 := kf6.cell (i := 2) rfl; have q0_6 := kq6.cell (i := 0) rfl; have q1_6 := kq6.cell (i := 1) rfl; have q2_6 := kq6.cell (i := 2) rfl; have y0_6 := kq6.free 0; have y1_6 := kq6.free 1; have y2_6 := kq6.free 2; have x0_6 := kp6.free 0; have x1_6 := kp6.free 1; have x2_6 := kp6.free 2; replace kp6 := hid2 kp6; replace kf6 := hid2 kf6; replace kq6 := hid2 kq6; replace BL6 := hid2 BL6; clear b6)
      refine bodyPost_ret (res_cell_tmp rfl rfl rfl (ld_key (row3 kq6.out _ _ _))) rfl ?_
      refine ⟨?_, below3 BL6.out _ _ _⟩
      show Ending.returned (.tuple #[.agg #[.int .i64 (r : Int), .int .u64 AV, .int .u64 0], .int .i64 0]) = _
      rw [← HAV.out]
  · have g8 : ¬ ((8 : Int) < n) := by omega
    have vA := fun w => usesA_any (w := w) (n := n) (x := f1) (y := f2)
    rw [decide_eq_false g8] at vA
    have g16 : ¬ ((16 : Int) < n) := by omega
    have vB := fun w => usesB_any (w := w) (n := n) (x := f1) (y := f2)
    rw [decide_eq_false g16] at vB
    have mA : True := trivial
    have mB : True := trivial
    have HRA : Hid (rdA r l = 0) := by show _ = _; rw [rdA, if_neg (by omega)]
    have HRB : Hid (rdB l = 0) := by show _ = _; rw [rdB, if_neg (by omega)]
    rw [HRA.out, HRB.out]
    go_enter Tryz.func196, Tryz.ntmps196
    go_wp2_with first
      | (go_at_call 246; refine (u1 _ (below_alloc _ _)).mono ?_; rintro e w1 ⟨rfl, b1⟩)
      | (go_at_call 247; refine (u2 _).mono ?_; rintro e w2 ⟨rfl, b2⟩; have al := below_alloc w2 (.cells #[.int .i64 (r : Int), .int .u64 0, .int .u64 0] 103); have bf := joinB (below_alloc w1 (.cells #[.int .i64 (n : Int), .int .u8 f1, .int .u8 f2] 204)) b2; have kq2 := (((blk_new w [.int .i64 0, .int .u64 0, .int .u64 0] 103).keep b1).keep bf).keep al; have kf2 := ((blk_new w1 [.int .i64 (n : Int), .int .u8 f1, .int .u8 f2] 204).keep b2).keep al; have kp2 := blk_new w2 [.int .i64 (r : Int), .int .u64 0, .int .u64 0] 103; have BL2 := joinB (joinB (joinB (below_alloc w (.cells #[.int .i64 0, .int .u64 0, .int .u64 0] 103)) b1) bf) al; have lt1 : w.heap.size < w1.heap.size := Nat.lt_of_lt_of_le (by simp) b1.size; have lt2 : w1.heap.size < w2.heap.size := Nat.lt_of_lt_of_le (by simp) b2.size; have p0_2 := kp2.cell (i := 0) rfl; have p1_2 := kp2.cell (i := 1) rfl; have p2_2 := kp2.cell (i := 2) rfl; have g0_2 := kf2.cell (i := 0) rfl; have g1_2 := kf2.cell (i := 1) rfl; have g2_2 := kf2.cell (i := 2) rfl; have q0_2 := kq2.cell (i := 0) rfl; have q1_2 := kq2.cell (i := 1) rfl; have q2_2 := kq2.cell (i := 2) rfl; have y0_2 := kq2.free 0; have y1_2 := kq2.free 1; have y2_2 := kq2.free 2; have x0_2 := kp2.free 0; have x1_2 := kp2.free 1; have x2_2 := kp2.free 2; replace kp2 := hid2 kp2; replace kf2 := hid2 kf2; replace kq2 := hid2 kq2; replace BL2 := hid2 BL2; clear b1 b2 bf al)
      | (go_at_call 106; have gate := mA; clear gate; go_must (refine (vA _).mono ?_); clear mA; rintro e w3 ⟨rfl, b3⟩; have kp3 := kp2.out.keep b3; have kf3 := kf2.out.keep b3; have kq3 := kq2.out.keep b3; have BL3 := joinB BL2.out b3; have p0_3 := kp3.cell (i := 0) rfl; have p1_3 := kp3.cell (i := 1) rfl; have p2_3 := kp3.cell (i := 2) rfl; have g0_3 := kf3.cell (i := 0) rfl; have g1_3 := kf3.cell (i := 1) rfl; have g2_3 := kf3.cell (i := 2) rfl; have q0_3 := kq3.cell (i := 0) rfl; have q1_3 := kq3.cell (i := 1) rfl; have q2_3 := kq3.cell (i := 2) rfl; have y0_3 := kq3.free 0; have y1_3 := kq3.free 1; have y2_3 := kq3.free 2; have x0_3 := kp3.free 0; have x1_3 := kp3.free 1; have x2_3 := kp3.free 2; replace kp3 := hid2 kp3; replace kf3 := hid2 kf3; replace kq3 := hid2 kq3; replace BL3 := hid2 BL3; clear b3)
      | (go_at_call 107; have gate := mB; clear gate; go_must (refine (vB _).mono ?_); clear mB; rintro e w6 ⟨rfl, b6⟩; have kp6 := kp3.out.keep b6; have kf6 := kf3.out.keep b6; have kq6 := kq3.out.keep b6; have BL6 := joinB BL3.out b6; have p0_6 := kp6.cell (i := 0) rfl; have p1_6 := kp6.cell (i := 1) rfl; have p2_6 := kp6.cell (i := 2) rfl; have g0_6 := kf6.cell (i := 0) rfl; have g1_6 := kf6.cell (i := 1) rfl; have g2_6 := kf6.cell (i := 2) rfl; have q0_6 := kq6.cell (i := 0) rfl; have q1_6 := kq6.cell (i := 1) rfl; have q2_6 := kq6.cell (i := 2) rfl; have y0_6 := kq6.free 0; have y1_6 := kq6.free 1; have y2_6 := kq6.free 2; have x0_6 := kp6.free 0; have x1_6 := kp6.free 1; have x2_6 := kp6.free 2; replace kp6 := hid2 kp6; replace kf6 := hid2 kf6; replace kq6 := hid2 kq6; replace BL6 := hid2 BL6; clear b6)
    refine bodyPost_ret (res_cell_tmp rfl rfl rfl (ld_key (row3 kq6.out _ _ _))) rfl ?_
    refine ⟨?_, below3 BL6.out _ _ _⟩
    rfl
end Ky
end Go.Proofs.YtpoifdokmjhclaaGreat

namespace Go.Proofs.YtpoifdokmjhclaaGreat
namespace Ky
open Go.RowKit Go.Lib Pg
attribute [local go_sem] Oper.semAt_some
end Ky
end Go.Proofs.YtpoifdokmjhclaaGreat

namespace Go.Proofs.YtpoifdokmjhclaaGreat
namespace Ky
open Go.RowKit Go.Lib Pg
attribute [local go_sem] Oper.semAt_some
theorem wli_val {F : Fence} {n : Nat} {ops : Array Oper} {Q : Exit → Act → World → Prop} {rest : List Oper} {o : Oper} {a : Act} {w w' : World} {v : Value} (hg : o.guard = none) (hF : ∀ f, F.fn f) (hs : o.semAt F.round a.eval = execOp a.eval o) (hrun : (execOp a.eval o).run Tryz.prog w = .ok (.value v) w') (h : wpListIn F n Tryz.prog ops Q rest (a.put o.dst v) w') : wpListIn F n Tryz.prog ops Q (o :: rest) a w :=
  wpListIn_plain hg fun K hK => by
    unfold Oper.wpIn
    rw [hs, hrun, Oper.uponIn_value]
    exact ⟨fun f _ => hF f, hK _ _ h⟩
end Ky
end Go.Proofs.YtpoifdokmjhclaaGreat

namespace Go.Proofs.YtpoifdokmjhclaaGreat
namespace Ky
open Go.RowKit Go.Lib Pg
attribute [local go_sem] Oper.semAt_some
end Ky
end Go.Proofs.YtpoifdokmjhclaaGreat

namespace Go.Proofs.YtpoifdokmjhclaaGreat
namespace Ky
open Go.RowKit Go.Lib Pg
end Ky
end Go.Proofs.YtpoifdokmjhclaaGreat

namespace Go.Proofs.YtpoifdokmjhclaaGreat
namespace Ky
open Go.RowKit Go.Lib Pg
attribute [local go_sem] Oper.semAt_some eq50
end Ky
end Go.Proofs.YtpoifdokmjhclaaGreat

namespace Go.Proofs.YtpoifdokmjhclaaGreat
namespace Ky
open Go.RowKit Go.Lib Pg
attribute [local go_sem] Oper.semAt_some eq50
end Ky
end Go.Proofs.YtpoifdokmjhclaaGreat

namespace Go.Proofs.YtpoifdokmjhclaaGreat
namespace Ky
open Go.RowKit Go.Lib Pg
attribute [local go_sem] Oper.semAt_some eq50
end Ky
end Go.Proofs.YtpoifdokmjhclaaGreat

namespace Go.Proofs.YtpoifdokmjhclaaGreat
namespace Ky
open Go.RowKit Go.Lib Pg
attribute [local go_sem] Oper.semAt_some eq50
end Ky
end Go.Proofs.YtpoifdokmjhclaaGreat
