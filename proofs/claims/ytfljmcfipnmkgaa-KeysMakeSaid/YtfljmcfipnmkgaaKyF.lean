/- keys.forms: the form of each kind. -/
import Derived.Test.YtfljmcfipnmkgaaKyNt
import Derived.Laws.Rows
import Derived.Laws.ResultCell
import Derived.Deep.WholeRow
namespace Go.Proofs.Ytfljmcfipnmkgaa
namespace Ky
open Go.RowKit Go.Lib Pg
attribute [local go_sem] Oper.semAt_some
/-- a kind's form: how many bytes, its two marks -/
def frms : List (Int × Int × Int) := [(0, 0, 0), (1, 112, 0), (1, 99, 0), (1, 109, 0), (9, 97, 0), (10, 118, 48), (18, 118, 100), (18, 118, 104), (18, 118, 115), (9, 116, 0), (17, 105, 0), (9, 98, 0), (9, 117, 0), (9, 114, 0), (17, 113, 0), (17, 101, 0), (17, 110, 0), (17, 107, 0)]
def frm (k : Int) : Int × Int × Int := if 0 ≤ k ∧ k < 18 then frms.getD k.toNat (0, 0, 0) else (0, 0, 0)
def fv (f : Int × Int × Int) : Value := .agg #[.int .i64 f.1, .int .u8 f.2.1, .int .u8 f.2.2]
def formsL : List Value := [.int .i64 0, .int .u8 0, .int .u8 0, .int .i64 1, .int .u8 112, .int .u8 0, .int .i64 1, .int .u8 99, .int .u8 0, .int .i64 1, .int .u8 109, .int .u8 0, .int .i64 9, .int .u8 97, .int .u8 0, .int .i64 10, .int .u8 118, .int .u8 48, .int .i64 18, .int .u8 118, .int .u8 100, .int .i64 18, .int .u8 118, .int .u8 104, .int .i64 18, .int .u8 118, .int .u8 115, .int .i64 9, .int .u8 116, .int .u8 0, .int .i64 17, .int .u8 105, .int .u8 0, .int .i64 9, .int .u8 98, .int .u8 0, .int .i64 9, .int .u8 117, .int .u8 0, .int .i64 9, .int .u8 114, .int .u8 0, .int .i64 17, .int .u8 113, .int .u8 0, .int .i64 17, .int .u8 101, .int .u8 0, .int .i64 17, .int .u8 110, .int .u8 0, .int .i64 17, .int .u8 107, .int .u8 0]
section
variable {ops : Array Oper} {rest : List Oper} {o : Oper} {a : Act} {w w1 : World} {Q : Exit → Act → World → Prop}
theorem wl_val (d : Option Tmp) (v : Value) (hg : o.guard = none) (hd : o.dst = d) (hrun : (execOp a.eval o).run Try.prog w = .ok (.value v) w1) (h : wpList Try.prog ops Q rest (a.put d v) w1) : wpList Try.prog ops Q (o :: rest) a w :=
  wpList_plain hg fun K hK => by
    unfold Oper.wp
    rw [hrun]
    subst hd
    exact hK _ _ h
theorem wl_take (d : Option Tmp) (v : Value) (hg : o.guard = none) (hd : o.dst = d) (hrun : (execOp a.eval o).run Try.prog w = .ok (.value v) w) (h : wpList Try.prog ops Q rest (a.put d v) w) : wpList Try.prog ops Q (o :: rest) a w := wl_val d v hg hd hrun h
theorem wl_skip (hg : o.guard = none) (hd : o.dst = none) (hrun : (execOp a.eval o).run Try.prog w = .ok .skip w1) (h : wpList Try.prog ops Q rest (a.put none undef) w1) : wpList Try.prog ops Q (o :: rest) a w :=
  wpList_plain hg fun K hK => by
    unfold Oper.wp
    rw [hrun]
    show K (a.put o.dst undef) w1
    rw [hd]
    exact hK _ _ h
theorem run_stnew {t : TypeId} {k q : Nat} {c c' : Array Value} (ho : o.op = .store t (.tmp k) (.tmp q)) (hp : a.eval (.tmp k) = .pointer (some ⟨w.heap.size, 0, none⟩)) (hq : a.eval (.tmp q) = .agg c') (hi : (Try.prog.info? t).map (·.size) = some c'.size) (hs : c.size = c'.size) (h1 : c'.all (·.oneCell') = true) : (execOp a.eval o).run Try.prog (w.alloc (.cells c t)) = .ok .skip (w.alloc (.cells c' t)) := by
  simp only [execOp, ho, hp, hq, Sem.run_bind, run_storeAt_new w t c c' hi hs h1, Result.andThen_ok, Sem.run_pure]
end
set_option maxHeartbeats 8000000 in
set_option maxRecDepth 100000 in
theorem forms_any {w : World} : Calls Try.prog 41 #[] w fun e w' => e = .returned (.agg #[.int .i64 0, .int .u8 0, .int .u8 0, .int .i64 1, .int .u8 112, .int .u8 0, .int .i64 1, .int .u8 99, .int .u8 0, .int .i64 1, .int .u8 109, .int .u8 0, .int .i64 9, .int .u8 97, .int .u8 0, .int .i64 10, .int .u8 118, .int .u8 48, .int .i64 18, .int .u8 118, .int .u8 100, .int .i64 18, .int .u8 118, .int .u8 104, .int .i64 18, .int .u8 118, .int .u8 115, .int .i64 9, .int .u8 116, .int .u8 0, .int .i64 17, .int .u8 105, .int .u8 0, .int .i64 9, .int .u8 98, .int .u8 0, .int .i64 9, .int .u8 117, .int .u8 0, .int .i64 9, .int .u8 114, .int .u8 0, .int .i64 17, .int .u8 113, .int .u8 0, .int .i64 17, .int .u8 101, .int .u8 0, .int .i64 17, .int .u8 110, .int .u8 0, .int .i64 17, .int .u8 107, .int .u8 0]) ∧ Below w.heap.size w w' := by
  go_enter Try.func41, Try.ntmps41
  refine wp_seq ?_
  refine wp_region_lit ?_
  refine wl_val (some 0) (.pointer (some ⟨w.heap.size, 0, none⟩)) rfl rfl (w1 := w.alloc (.cells #[.int .i64 0, .int .u8 0, .int .u8 0, .int .i64 0, .int .u8 0, .int .u8 0, .int .i64 0, .int .u8 0, .int .u8 0, .int .i64 0, .int .u8 0, .int .u8 0, .int .i64 0, .int .u8 0, .int .u8 0, .int .i64 0, .int .u8 0, .int .u8 0, .int .i64 0, .int .u8 0, .int .u8 0, .int .i64 0, .int .u8 0, .int .u8 0, .int .i64 0, .int .u8 0, .int .u8 0, .int .i64 0, .int .u8 0, .int .u8 0, .int .i64 0, .int .u8 0, .int .u8 0, .int .i64 0, .int .u8 0, .int .u8 0, .int .i64 0, .int .u8 0, .int .u8 0, .int .i64 0, .int .u8 0, .int .u8 0, .int .i64 0, .int .u8 0, .int .u8 0, .int .i64 0, .int .u8 0, .int .u8 0, .int .i64 0, .int .u8 0, .int .u8 0, .int .i64 0, .int .u8 0, .int .u8 0] 68)) (by kernel_rfl) ?_
  refine wpList_nil ?_
  refine wp_seq (x := Code.region 1 _ false) ?_
  refine wp_region_lit ?_
  refine wl_take (some 1) (.agg #[.int .u8 112, .int .u8 0]) rfl rfl (by kernel_rfl) ?_
  refine wl_take (some 2) (.agg #[.int .i64 1, .int .u8 112, .int .u8 0]) rfl rfl (by kernel_rfl) ?_
  refine wl_take (some 3) (.agg #[.int .u8 99, .int .u8 0]) rfl rfl (by kernel_rfl) ?_
  refine wl_take (some 4) (.agg #[.int .i64 1, .int .u8 99, .int .u8 0]) rfl rfl (by kernel_rfl) ?_
  refine wl_take (some 5) (.agg #[.int .u8 109, .int .u8 0]) rfl rfl (by kernel_rfl) ?_
  refine wl_take (some 6) (.agg #[.int .i64 1, .int .u8 109, .int .u8 0]) rfl rfl (by kernel_rfl) ?_
  refine wl_take (some 7) (.agg #[.int .u8 97, .int .u8 0]) rfl rfl (by kernel_rfl) ?_
  refine wl_take (some 8) (.agg #[.int .i64 9, .int .u8 97, .int .u8 0]) rfl rfl (by kernel_rfl) ?_
  refine wl_take (some 9) (.agg #[.int .u8 118, .int .u8 48]) rfl rfl (by kernel_rfl) ?_
  refine wl_take (some 10) (.agg #[.int .i64 10, .int .u8 118, .int .u8 48]) rfl rfl (by kernel_rfl) ?_
  refine wl_take (some 11) (.agg #[.int .u8 118, .int .u8 100]) rfl rfl (by kernel_rfl) ?_
  refine wl_take (some 12) (.agg #[.int .i64 18, .int .u8 118, .int .u8 100]) rfl rfl (by kernel_rfl) ?_
  refine wl_take (some 13) (.agg #[.int .u8 118, .int .u8 104]) rfl rfl (by kernel_rfl) ?_
  refine wl_take (some 14) (.agg #[.int .i64 18, .int .u8 118, .int .u8 104]) rfl rfl (by kernel_rfl) ?_
  refine wl_take (some 15) (.agg #[.int .u8 118, .int .u8 115]) rfl rfl (by kernel_rfl) ?_
  refine wl_take (some 16) (.agg #[.int .i64 18, .int .u8 118, .int .u8 115]) rfl rfl (by kernel_rfl) ?_
  refine wl_take (some 17) (.agg #[.int .u8 116, .int .u8 0]) rfl rfl (by kernel_rfl) ?_
  refine wl_take (some 18) (.agg #[.int .i64 9, .int .u8 116, .int .u8 0]) rfl rfl (by kernel_rfl) ?_
  refine wl_take (some 19) (.agg #[.int .u8 105, .int .u8 0]) rfl rfl (by kernel_rfl) ?_
  refine wl_take (some 20) (.agg #[.int .i64 17, .int .u8 105, .int .u8 0]) rfl rfl (by kernel_rfl) ?_
  refine wl_take (some 21) (.agg #[.int .u8 98, .int .u8 0]) rfl rfl (by kernel_rfl) ?_
  refine wl_take (some 22) (.agg #[.int .i64 9, .int .u8 98, .int .u8 0]) rfl rfl (by kernel_rfl) ?_
  refine wl_take (some 23) (.agg #[.int .u8 117, .int .u8 0]) rfl rfl (by kernel_rfl) ?_
  refine wl_take (some 24) (.agg #[.int .i64 9, .int .u8 117, .int .u8 0]) rfl rfl (by kernel_rfl) ?_
  refine wl_take (some 25) (.agg #[.int .u8 114, .int .u8 0]) rfl rfl (by kernel_rfl) ?_
  refine wl_take (some 26) (.agg #[.int .i64 9, .int .u8 114, .int .u8 0]) rfl rfl (by kernel_rfl) ?_
  refine wl_take (some 27) (.agg #[.int .u8 113, .int .u8 0]) rfl rfl (by kernel_rfl) ?_
  refine wl_take (some 28) (.agg #[.int .i64 17, .int .u8 113, .int .u8 0]) rfl rfl (by kernel_rfl) ?_
  refine wl_take (some 29) (.agg #[.int .u8 101, .int .u8 0]) rfl rfl (by kernel_rfl) ?_
  refine wl_take (some 30) (.agg #[.int .i64 17, .int .u8 101, .int .u8 0]) rfl rfl (by kernel_rfl) ?_
  refine wl_take (some 31) (.agg #[.int .u8 110, .int .u8 0]) rfl rfl (by kernel_rfl) ?_
  refine wl_take (some 32) (.agg #[.int .i64 17, .int .u8 110, .int .u8 0]) rfl rfl (by kernel_rfl) ?_
  refine wl_take (some 33) (.agg #[.int .u8 107, .int .u8 0]) rfl rfl (by kernel_rfl) ?_
  refine wl_take (some 34) (.agg #[.int .i64 17, .int .u8 107, .int .u8 0]) rfl rfl (by kernel_rfl) ?_
  refine wl_take (some 35) (.agg #[.int .i64 0, .int .u8 0, .int .u8 0, .int .i64 1, .int .u8 112, .int .u8 0, .int .i64 1, .int .u8 99, .int .u8 0, .int .i64 1, .int .u8 109, .int .u8 0, .int .i64 9, .int .u8 97, .int .u8 0, .int .i64 10, .int .u8 118, .int .u8 48, .int .i64 18, .int .u8 118, .int .u8 100, .int .i64 18, .int .u8 118, .int .u8 104, .int .i64 18, .int .u8 118, .int .u8 115, .int .i64 9, .int .u8 116, .int .u8 0, .int .i64 17, .int .u8 105, .int .u8 0, .int .i64 9, .int .u8 98, .int .u8 0, .int .i64 9, .int .u8 117, .int .u8 0, .int .i64 9, .int .u8 114, .int .u8 0, .int .i64 17, .int .u8 113, .int .u8 0, .int .i64 17, .int .u8 101, .int .u8 0, .int .i64 17, .int .u8 110, .int .u8 0, .int .i64 17, .int .u8 107, .int .u8 0]) rfl rfl (by kernel_rfl) ?_
  refine wl_skip rfl rfl (run_stnew (k := 0) (q := 35) (c' := #[.int .i64 0, .int .u8 0, .int .u8 0, .int .i64 1, .int .u8 112, .int .u8 0, .int .i64 1, .int .u8 99, .int .u8 0, .int .i64 1, .int .u8 109, .int .u8 0, .int .i64 9, .int .u8 97, .int .u8 0, .int .i64 10, .int .u8 118, .int .u8 48, .int .i64 18, .int .u8 118, .int .u8 100, .int .i64 18, .int .u8 118, .int .u8 104, .int .i64 18, .int .u8 118, .int .u8 115, .int .i64 9, .int .u8 116, .int .u8 0, .int .i64 17, .int .u8 105, .int .u8 0, .int .i64 9, .int .u8 98, .int .u8 0, .int .i64 9, .int .u8 117, .int .u8 0, .int .i64 9, .int .u8 114, .int .u8 0, .int .i64 17, .int .u8 113, .int .u8 0, .int .i64 17, .int .u8 101, .int .u8 0, .int .i64 17, .int .u8 110, .int .u8 0, .int .i64 17, .int .u8 107, .int .u8 0]) (by kernel_rfl) (by kernel_rfl) (by kernel_rfl) (by kernel_rfl) rfl (by kernel_rfl)) ?_
  refine wpList_nil ?_
  refine wp_ret ?_
  refine bodyPost_ret (results_cell_row rfl _ _ w.heap.size 68 _ _ (.array 18 52) (by kernel_rfl) (heap_alloc_new _ _) (by kernel_rfl) rfl (by kernel_rfl)) rfl ?_
  exact ⟨rfl, below_alloc _ _⟩
end Ky
end Go.Proofs.Ytfljmcfipnmkgaa
