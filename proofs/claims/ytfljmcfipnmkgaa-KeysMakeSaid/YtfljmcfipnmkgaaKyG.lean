/- keys.formOf. -/
import Derived.Test.YtfljmcfipnmkgaaKyF
namespace Go.Proofs.Ytfljmcfipnmkgaa
namespace Ky
open Go.RowKit Go.Lib Pg
attribute [local go_sem] Oper.semAt_some
section
variable {ops : Array Oper} {rest : List Oper} {o : Oper} {a : Act} {w w1 : World} {Q : Exit → Act → World → Prop}
theorem wl_call (d : Option Tmp) (f : FuncId) (args : Array Value) (hg : o.guard = none) (hd : o.dst = d) (hrun : (execOp a.eval o).run Try.prog w = .ok (.enter f args) w) {Qc : Ending → World → Prop} (hc : Calls Try.prog f args w Qc) (h : ∀ e w', Qc e w' → ∃ v, e = .returned v ∧ wpList Try.prog ops Q rest (a.put d v) w') : wpList Try.prog ops Q (o :: rest) a w :=
  wpList_plain hg fun K hK => by
    unfold Oper.wp
    rw [hrun, Oper.upon_enter]
    refine hc.mono ?_
    intro e w' hq
    obtain ⟨v, rfl, hv⟩ := h e w' hq
    subst hd
    exact hK _ _ hv
end
theorem hid2 {p : Prop} (h : p) : Hid p := h
theorem formsL_toArray : formsL.toArray = #[.int .i64 0, .int .u8 0, .int .u8 0, .int .i64 1, .int .u8 112, .int .u8 0, .int .i64 1, .int .u8 99, .int .u8 0, .int .i64 1, .int .u8 109, .int .u8 0, .int .i64 9, .int .u8 97, .int .u8 0, .int .i64 10, .int .u8 118, .int .u8 48, .int .i64 18, .int .u8 118, .int .u8 100, .int .i64 18, .int .u8 118, .int .u8 104, .int .i64 18, .int .u8 118, .int .u8 115, .int .i64 9, .int .u8 116, .int .u8 0, .int .i64 17, .int .u8 105, .int .u8 0, .int .i64 9, .int .u8 98, .int .u8 0, .int .i64 9, .int .u8 117, .int .u8 0, .int .i64 9, .int .u8 114, .int .u8 0, .int .i64 17, .int .u8 113, .int .u8 0, .int .i64 17, .int .u8 101, .int .u8 0, .int .i64 17, .int .u8 110, .int .u8 0, .int .i64 17, .int .u8 107, .int .u8 0] := rfl
theorem forms_cells : ∀ k : Nat, k < 18 → formsL[k * 3]? = some (.int .i64 (frm k).1) ∧ formsL[k * 3 + 1]? = some (.int .u8 (frm k).2.1) ∧ formsL[k * 3 + 2]? = some (.int .u8 (frm k).2.2) := by
  intro k hk
  match k, hk with
  | 0, _ => exact ⟨rfl, rfl, rfl⟩
  | 1, _ => exact ⟨rfl, rfl, rfl⟩
  | 2, _ => exact ⟨rfl, rfl, rfl⟩
  | 3, _ => exact ⟨rfl, rfl, rfl⟩
  | 4, _ => exact ⟨rfl, rfl, rfl⟩
  | 5, _ => exact ⟨rfl, rfl, rfl⟩
  | 6, _ => exact ⟨rfl, rfl, rfl⟩
  | 7, _ => exact ⟨rfl, rfl, rfl⟩
  | 8, _ => exact ⟨rfl, rfl, rfl⟩
  | 9, _ => exact ⟨rfl, rfl, rfl⟩
  | 10, _ => exact ⟨rfl, rfl, rfl⟩
  | 11, _ => exact ⟨rfl, rfl, rfl⟩
  | 12, _ => exact ⟨rfl, rfl, rfl⟩
  | 13, _ => exact ⟨rfl, rfl, rfl⟩
  | 14, _ => exact ⟨rfl, rfl, rfl⟩
  | 15, _ => exact ⟨rfl, rfl, rfl⟩
  | 16, _ => exact ⟨rfl, rfl, rfl⟩
  | 17, _ => exact ⟨rfl, rfl, rfl⟩
  | n + 18, h => omega
theorem forms_at {w : World} {g k : Nat} (hb : Blk w g formsL 68) (h : k < 18) : w.cell? ⟨g, k * 3, none⟩ = some (.int .i64 (frm k).1) ∧ w.cell? ⟨g, k * 3 + 1, none⟩ = some (.int .u8 (frm k).2.1) ∧ w.cell? ⟨g, k * 3 + 2, none⟩ = some (.int .u8 (frm k).2.2) := by
  obtain ⟨a, b, c⟩ := forms_cells k h
  exact ⟨hb.cell a, hb.cell b, hb.cell c⟩
/-- the form's own cells, written over, and handed back -/
theorem row3 {w : World} {g : Nat} {x0 x1 x2 : Value} {t : TypeId} (h : Blk w g [x0, x1, x2] t) (y0 y1 y2 : Value) : Blk (((w.setCell ⟨g, 0, none⟩ y0).setCell ⟨g, 1, none⟩ y1).setCell ⟨g, 2, none⟩ y2) g [y0, y1, y2] t := ((h.setCell (i := 0) y0).setCell (i := 1) y1).setCell (i := 2) y2
theorem ld_f {w : World} {g : Nat} {x y z : Value} (h : Blk w g [x, y, z] 52) : (loadVar 52 ⟨g, 0, none⟩).run Try.prog w = .ok (.agg #[x, y, z]) w := by
  have c0 := h.cell (i := 0) rfl
  have c1 := h.cell (i := 1) rfl
  have c2 := h.cell (i := 2) rfl
  go_simp
theorem res_cell {fn : Func} {p : Tmp} {ty : TypeId} (h : fn.results = #[.cell p ty]) {tmps : Array Value} {w : World} {g : Nat} {v : Value} (hp : tmps.getD p undef = .pointer (some ⟨g, 0, none⟩)) (hl : (loadVar ty ⟨g, 0, none⟩).run Try.prog w = .ok v w) : (results fn tmps).run Try.prog w = .ok v w := by
  have hp' : tmps[p]?.getD undef = .pointer (some ⟨g, 0, none⟩) := by simpa using hp
  simp [results, h, hp', asAddr, hl]
theorem below3 {w W : World} {r : Nat} (h : Below r w W) (x y z : Value) : Below r w (((W.setCell ⟨r, 0, none⟩ x).setCell ⟨r, 1, none⟩ y).setCell ⟨r, 2, none⟩ z) :=
  ((h.setCell (Nat.le_refl _) _).setCell (Nat.le_refl _) _).setCell (Nat.le_refl _) _
theorem Blk.heap {w : World} {g : Nat} {cs : List Value} {t : TypeId} (h : Blk w g cs t) : w.heap[g]? = some (.cells cs.toArray t) := h.blk
set_option maxHeartbeats 8000000 in
set_option maxRecDepth 100000 in
theorem formOf_any {w : World} {k : Int} : Calls Try.prog 28 #[.int .i64 k] w fun e w' => e = .returned (fv (frm k)) ∧ Below w.heap.size w w' := by
  go_enter Try.func28, Try.ntmps28
  refine wp_seq ?_
  refine wp_region_lit ?_
  refine wl_val (some 2) (.pointer (some ⟨w.heap.size, 0, none⟩)) rfl rfl (w1 := w.alloc (.cells #[.int .i64 0, .int .u8 0, .int .u8 0] 52)) (by kernel_rfl) ?_
  refine wpList_nil ?_
  refine wp_seq (x := Code.region 1 _ false) ?_
  refine wp_region_lit ?_
  refine wl_call (some 4) 41 #[] rfl rfl (by kernel_rfl) forms_any ?_
  rintro e w1 ⟨rfl, B1⟩
  refine ⟨_, rfl, ?_⟩
  refine wl_val (some 3) (.pointer (some ⟨w1.heap.size, 0, none⟩)) rfl rfl (w1 := w1.alloc (.cells #[.int .i64 0, .int .u8 0, .int .u8 0, .int .i64 0, .int .u8 0, .int .u8 0, .int .i64 0, .int .u8 0, .int .u8 0, .int .i64 0, .int .u8 0, .int .u8 0, .int .i64 0, .int .u8 0, .int .u8 0, .int .i64 0, .int .u8 0, .int .u8 0, .int .i64 0, .int .u8 0, .int .u8 0, .int .i64 0, .int .u8 0, .int .u8 0, .int .i64 0, .int .u8 0, .int .u8 0, .int .i64 0, .int .u8 0, .int .u8 0, .int .i64 0, .int .u8 0, .int .u8 0, .int .i64 0, .int .u8 0, .int .u8 0, .int .i64 0, .int .u8 0, .int .u8 0, .int .i64 0, .int .u8 0, .int .u8 0, .int .i64 0, .int .u8 0, .int .u8 0, .int .i64 0, .int .u8 0, .int .u8 0, .int .i64 0, .int .u8 0, .int .u8 0, .int .i64 0, .int .u8 0, .int .u8 0] 68)) (by kernel_rfl) ?_
  refine wl_skip rfl rfl (run_stnew (k := 3) (q := 4) (c' := #[.int .i64 0, .int .u8 0, .int .u8 0, .int .i64 1, .int .u8 112, .int .u8 0, .int .i64 1, .int .u8 99, .int .u8 0, .int .i64 1, .int .u8 109, .int .u8 0, .int .i64 9, .int .u8 97, .int .u8 0, .int .i64 10, .int .u8 118, .int .u8 48, .int .i64 18, .int .u8 118, .int .u8 100, .int .i64 18, .int .u8 118, .int .u8 104, .int .i64 18, .int .u8 118, .int .u8 115, .int .i64 9, .int .u8 116, .int .u8 0, .int .i64 17, .int .u8 105, .int .u8 0, .int .i64 9, .int .u8 98, .int .u8 0, .int .i64 9, .int .u8 117, .int .u8 0, .int .i64 9, .int .u8 114, .int .u8 0, .int .i64 17, .int .u8 113, .int .u8 0, .int .i64 17, .int .u8 101, .int .u8 0, .int .i64 17, .int .u8 110, .int .u8 0, .int .i64 17, .int .u8 107, .int .u8 0]) (by kernel_rfl) (by kernel_rfl) (by kernel_rfl) (by kernel_rfl) rfl (by kernel_rfl)) ?_
  refine wpList_nil ?_
  rw [← formsL_toArray]
  have b0 := blk_new w [.int .i64 0, .int .u8 0, .int .u8 0] 52
  have c0 := below_alloc w (.cells #[.int .i64 0, .int .u8 0, .int .u8 0] 52)
  have b2 := blk_new w1 formsL 68
  have c2 := below_alloc w1 (.cells formsL.toArray 68)
  have B2 := joinB (joinB c0 B1) c2
  have b1 := (b0.keep B1).keep c2
  obtain ⟨r, hr⟩ : ∃ r, Hid (w.heap.size = r) := ⟨_, rfl⟩
  generalize w1.alloc (.cells formsL.toArray 68) = W at *
  generalize hg : w1.heap.size = g at *
  generalize Value.agg formsL.toArray = FV
  rw [hr.out] at b1 ⊢
  simp only [Act.put, List.setIfInBounds_toArray, List.set_cons_zero, List.set_cons_succ]
  have r0 := b1.cell (i := 0) rfl
  have r1 := b1.cell (i := 1) rfl
  have r2 := b1.cell (i := 2) rfl
  have f0 := b1.free 0
  have f1 := b1.free 1
  have f2 := b1.free 2
  have H1 := hid2 b1
  have H2 := hid2 B2
  have H3 := hid2 b2
  clear b0 c0 B1 c2 hg b1 B2 b2
  refine (show Code.wp _ _ _ _ _ from ?_)
  by_cases h0 : k < 0
  · have e0 : frm k = (0, 0, 0) := if_neg (by omega)
    rw [e0]
    go_wp2
    refine bodyPost_ret (res_cell rfl rfl (ld_f (row3 H1.out _ _ _))) rfl ?_
    exact ⟨rfl, below3 (by have := H2.out; rw [hr.out] at this; exact this) _ _ _⟩
  · by_cases h1 : k < 18
    · obtain ⟨n, rfl⟩ : ∃ n : Nat, k = n := ⟨k.toNat, by omega⟩
      obtain ⟨q0, q1, q2⟩ := forms_at H3.out (k := n) (by omega)
      go_wp2
      refine bodyPost_ret (res_cell rfl rfl (ld_f (row3 H1.out _ _ _))) rfl ?_
      exact ⟨rfl, below3 (by have := H2.out; rw [hr.out] at this; exact this) _ _ _⟩
    · have e0 : frm k = (0, 0, 0) := if_neg (by omega)
      rw [e0]
      go_wp2
      refine bodyPost_ret (res_cell rfl rfl (ld_f (row3 H1.out _ _ _))) rfl ?_
      exact ⟨rfl, below3 (by have := H2.out; rw [hr.out] at this; exact this) _ _ _⟩
end Ky
end Go.Proofs.Ytfljmcfipnmkgaa
