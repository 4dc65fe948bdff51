/- Several texts, joined: RcU. -/
import Derived.Test.YtpoifdokmjhclaaGreatJym
import Derived.Test.YtpoifdokmjhclaaGreatJyd
namespace Go.Proofs.YtpoifdokmjhclaaGreat
namespace Rc
open Go.RowKit Go.Lib Pg Lim Gl
theorem mine0 {B : Nat} (w : World) : MineB w B (.slice none 0 0) [] := World.ownsRow_nil _ _ _ _
theorem len_0 : ([] : List Int).length ≤ 0 := Nat.le_refl 0
theorem len_app {L X : List Int} {a b : Nat} (h : L.length ≤ a) (h' : X.length ≤ b) : (L ++ X).length ≤ a + b := by rw [List.length_append]; omega
theorem len_u8 (xs : List Int) : (xs.flatMap (be 8)).length ≤ 8 * xs.length := by
  induction xs with
  | nil => exact Nat.le_refl _
  | cons x r ih => rw [List.flatMap_cons, List.length_append, be_length, List.length_cons]; omega
theorem len_d8 (x : Int) : (cntd 1 (natB (fit x))).length ≤ 256 := by
  have := fit_len x
  rw [cntd_len]; omega
theorem len_f8 (x : Int) : (be 1 x).length ≤ 1 := by rw [be_length]; exact Nat.le_refl _
set_option maxHeartbeats 2000000 in
set_option maxRecDepth 100000 in
theorem rPutParams {w : World} {x0 : Int} {x1 : Int} {x2 : Int} {x3 : Int} {x4 : Int} {x5 : Int} {x6 : Int} {x7 : Int} {x8 : Int} {x9 : Int}  :
    Calls Tryz.prog 36 #[.agg #[.int .u64 x0, .int .u64 x1, .int .u64 x2, .int .u64 x3, .int .u64 x4, .int .u64 x5, .int .u64 x6, .int .u64 x7, .int .u64 x8, .int .u64 x9]] w fun e w' => ∃ v, e = .returned v ∧ MineB w' w.heap.size v (thr (pnx (fun o => ([x0, x1, x2, x3, x4, x5, x6, x7, x8, x9] : List Int).getD o 0)) [(0, 0), (0, 1), (0, 2), (0, 3), (0, 4), (0, 5), (0, 6), (0, 7), (0, 8), (0, 9)] []) ∧ Below w.heap.size w w' := by
  have BB := Below.refl w.heap.size w
  refine gc_enter (n := 25) Tryz.func36 rfl (by kernel_rfl) (by kernel_rfl) ?_
  refine gc_seq ?_
  refine gc_reg ?_
  refine ta 1 [.int .u64 x0, .int .u64 x1, .int .u64 x2, .int .u64 x3, .int .u64 x4, .int .u64 x5, .int .u64 x6, .int .u64 x7, .int .u64 x8, .int .u64 x9] 24 (pg) ?_
  intro v1 g2 Xg2 hg2 B
  replace BB := joinB BB B
  clear B
  refine t 2 (.slice none 0 0) ?_
  refine gl_nil ?_
  refine ge_then ?_
  refine gc_seq ?_
  refine gc_reg ?_
  refine t 3 (pg g2) ?_
  refine tl 4 (.int .u64 x0) Xg2 0 ?_
  refine t 5 (pq g2 1) ?_
  refine tl 6 (.int .u64 x1) Xg2 1 ?_
  refine t 7 (pq g2 2) ?_
  refine tl 8 (.int .u64 x2) Xg2 2 ?_
  refine t 9 (pq g2 3) ?_
  refine tl 10 (.int .u64 x3) Xg2 3 ?_
  refine t 11 (pq g2 4) ?_
  refine tl 12 (.int .u64 x4) Xg2 4 ?_
  refine t 13 (pq g2 5) ?_
  refine tl 14 (.int .u64 x5) Xg2 5 ?_
  refine t 15 (pq g2 6) ?_
  refine tl 16 (.int .u64 x6) Xg2 6 ?_
  refine t 17 (pq g2 7) ?_
  refine tl 18 (.int .u64 x7) Xg2 7 ?_
  refine t 19 (pq g2 8) ?_
  refine tl 20 (.int .u64 x8) Xg2 8 ?_
  refine t 21 (pq g2 9) ?_
  refine tl 22 (.int .u64 x9) Xg2 9 ?_
  refine ta 23 [.int .u64 x0, .int .u64 x1, .int .u64 x2, .int .u64 x3, .int .u64 x4, .int .u64 x5, .int .u64 x6, .int .u64 x7, .int .u64 x8, .int .u64 x9] 22 (sg 10) ?_
  intro v3 g4 Xg4 hg4 B
  replace BB := joinB BB B
  replace Xg2 := Xg2.keep B
  clear B
  refine tc 24 55 #[.slice none 0 0, sg 10 g4] (ru8 (xs := [x0, x1, x2, x3, x4, x5, x6, x7, x8, x9]) (mine0 _) BB.size Xg4 (Nat.le_trans len_0 (Nat.le_of_ble_eq_true rfl)) (Nat.le_of_ble_eq_true rfl)) ?_
  rintro _ v6 ⟨Vm5, rfl, m5, Y⟩
  refine ⟨_, rfl, ?_⟩
  replace BB := Byt.below Y BB (Nat.le_refl _) (Nat.le_refl _)
  replace Xg2 := Blk.byt Xg2 Y (by decide)
  replace Xg4 := Blk.byt Xg4 Y (by decide)
  clear Y
  have bm5 := len_app len_0 (len_u8 [x0, x1, x2, x3, x4, x5, x6, x7, x8, x9])
  refine t 2 (Vm5) ?_
  refine gl_nil ?_
  refine ge_then ?_
  refine gc_fr [(2, Vm5)] (by kernel_rfl) ?_
  refine gc_ret ?_
  refine ge_ret (Vm5) (rs1 2 (by kernel_rfl) (by kernel_rfl)) ?_
  exact ⟨_, rfl, by simpa [thr, pnx, enc1] using m5, BB⟩
end Rc
end Go.Proofs.YtpoifdokmjhclaaGreat
