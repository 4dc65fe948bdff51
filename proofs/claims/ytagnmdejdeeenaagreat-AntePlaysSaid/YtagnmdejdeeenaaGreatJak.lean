/- Several texts, joined: RcI, EncF, EncG, EncI, RcJ, RcK, RcL, EncJ, EncK, RefB2, EncL, EncP, EncQ, EncR, EncS, RcO, RcM, RcN, EncM, RcT. -/
import Derived.Test.YtagnmdejdeeenaaGreatJaj
import Derived.Lib.SlBytesConst
import Derived.Test.YtagnmdejdeeenaaGreatJab
namespace Go.Proofs.YtagnmdejdeeenaaGreat
namespace Rc
open Go.RowKit Go.Lib Pg
attribute [local go_sem] Oper.semAt_some
set_option maxHeartbeats 2000000 in
set_option maxRecDepth 100000 in
theorem PutParams_any {w : World} {x0 : Int} {x1 : Int} {x2 : Int} {x3 : Int} {x4 : Int} {x5 : Int} {x6 : Int} {x7 : Int} {x8 : Int} {x9 : Int} :
    Calls Tryz.prog 19 #[.agg #[.int .u64 x0, .int .u64 x1, .int .u64 x2, .int .u64 x3, .int .u64 x4, .int .u64 x5, .int .u64 x6, .int .u64 x7, .int .u64 x8, .int .u64 x9]] w fun e w' => ∃ b n, e = .returned (.slice (some ⟨b, 0, none⟩) n n) ∧ n = (thr (pnx (fun o => ([x0, x1, x2, x3, x4, x5, x6, x7, x8, x9] : List Int).getD o 0)) [(0, 0), (0, 1), (0, 2), (0, 3), (0, 4), (0, 5), (0, 6), (0, 7), (0, 8), (0, 9)] []).length ∧ Box w' b ((thr (pnx (fun o => ([x0, x1, x2, x3, x4, x5, x6, x7, x8, x9] : List Int).getD o 0)) [(0, 0), (0, 1), (0, 2), (0, 3), (0, 4), (0, 5), (0, 6), (0, 7), (0, 8), (0, 9)] []).map (Value.int .u8)) 5 ∧ w.heap.size ≤ b ∧ Below w.heap.size w w' := by
  have b1 := below_alloc w (.cells #[.int .u64 x0, .int .u64 x1, .int .u64 x2, .int .u64 x3, .int .u64 x4, .int .u64 x5, .int .u64 x6, .int .u64 x7, .int .u64 x8, .int .u64 x9] 35)
  have U := put_Params (x0 := x0) (x1 := x1) (x2 := x2) (x3 := x3) (x4 := x4) (x5 := x5) (x6 := x6) (x7 := x7) (x8 := x8) (x9 := x9) (w := w.alloc (.cells #[.int .u64 x0, .int .u64 x1, .int .u64 x2, .int .u64 x3, .int .u64 x4, .int .u64 x5, .int .u64 x6, .int .u64 x7, .int .u64 x8, .int .u64 x9] 35))
  have HB := hid3 b1
  generalize thr (pnx (fun o => ([x0, x1, x2, x3, x4, x5, x6, x7, x8, x9] : List Int).getD o 0)) [(0, 0), (0, 1), (0, 2), (0, 3), (0, 4), (0, 5), (0, 6), (0, 7), (0, 8), (0, 9)] [] = M at *
  have HU := hid3 U
  clear U
  go_enter Tryz.func19, Tryz.ntmps19
  go_wp2_with fail
  refine HU.out.mono ?_
  rintro e' w1 ⟨b, n, rfl, hn, X, hb, B⟩
  have FF := hid3 (show n = M.length ∧ Box w1 b (M.map (Value.int .u8)) 5 ∧ w.heap.size ≤ b ∧ Below w.heap.size w w1 from ⟨hn, X, Nat.le_trans HB.out.size hb, joinB HB.out B⟩)
  clear hn X hb B HU HB
  go_wp2
  go_ret
  exact ⟨b, n, rfl, FF.out⟩
set_option maxHeartbeats 4000000 in
set_option maxRecDepth 100000 in
theorem Params_any {w : World} {bb n c : Nat} {ao : Option Addr} {l : List Int} (A : ByA w bb ao n c l) (hn : n ≤ 1000000000) (hl : l.length = n) :
    Calls Tryz.prog 101 #[.slice ao n c] w (FinR w kd_Params 10 mkA (thr rnx [(0, 0), (0, 1), (0, 2), (0, 3), (0, 4), (0, 5), (0, 6), (0, 7), (0, 8), (0, 9)] (0, l, fun _ => (0 : Int)))) := by
  have b1 := below_alloc w (.cells #[.int .u64 0, .int .u64 0, .int .u64 0, .int .u64 0, .int .u64 0, .int .u64 0, .int .u64 0, .int .u64 0, .int .u64 0, .int .u64 0] 35)
  have y1 := blk_new w [.int .u64 0, .int .u64 0, .int .u64 0, .int .u64 0, .int .u64 0, .int .u64 0, .int .u64 0, .int .u64 0, .int .u64 0, .int .u64 0] 35
  have z1 := size_al w (.cells #[.int .u64 0, .int .u64 0, .int .u64 0, .int .u64 0, .int .u64 0, .int .u64 0, .int .u64 0, .int .u64 0, .int .u64 0, .int .u64 0] 35)
  have U := read_Params (A.keep b1) hn hl
  generalize thr rnx [(0, 0), (0, 1), (0, 2), (0, 3), (0, 4), (0, 5), (0, 6), (0, 7), (0, 8), (0, 9)] (0, l, fun _ => (0 : Int)) = st at *
  obtain ⟨W1, hW1⟩ : ∃ W1, Hid (w.alloc (.cells #[.int .u64 0, .int .u64 0, .int .u64 0, .int .u64 0, .int .u64 0, .int .u64 0, .int .u64 0, .int .u64 0, .int .u64 0, .int .u64 0] 35) = W1) := ⟨_, rfl⟩
  rw [hW1.out] at b1 y1 z1 U
  have HU := hid3 U
  have HB := hid3 b1
  have HY := hid3 y1
  have HZ := hid3 z1
  clear A hl b1 y1 z1 U
  go_enter Tryz.func101, Tryz.ntmps101
  go_wp2_with fail
  rw [hW1.out]
  refine HU.out.mono ?_
  rintro e' w1 ⟨⟨cs, xs, r, rfl, h1, h2, h3, h4⟩, B⟩
  have q0 := (h2 0).1 rfl
  have q1 := (h2 1).1 rfl
  have q2 := (h2 2).1 rfl
  have q3 := (h2 3).1 rfl
  have q4 := (h2 4).1 rfl
  have q5 := (h2 5).1 rfl
  have q6 := (h2 6).1 rfl
  have q7 := (h2 7).1 rfl
  have q8 := (h2 8).1 rfl
  have q9 := (h2 9).1 rfl
  have ecs : cs = [.int .u64 (xs 0), .int .u64 (xs 1), .int .u64 (xs 2), .int .u64 (xs 3), .int .u64 (xs 4), .int .u64 (xs 5), .int .u64 (xs 6), .int .u64 (xs 7), .int .u64 (xs 8), .int .u64 (xs 9)] := by
    apply List.ext_getElem?
    intro i
    match i with
    | 0 => rw [q0]; rfl
    | 1 => rw [q1]; rfl
    | 2 => rw [q2]; rfl
    | 3 => rw [q3]; rfl
    | 4 => rw [q4]; rfl
    | 5 => rw [q5]; rfl
    | 6 => rw [q6]; rfl
    | 7 => rw [q7]; rfl
    | 8 => rw [q8]; rfl
    | 9 => rw [q9]; rfl
    | k + 10 => rw [List.getElem?_eq_none (by omega), List.getElem?_eq_none (by simp)]
  subst ecs
  have K1 := HY.out.keep B
  have BF := joinB HB.out B
  have u0 := K1.cell (i := 0) rfl
  have f0 := K1.free 0
  have u1 := K1.cell (i := 1) rfl
  have f1 := K1.free 1
  have u2 := K1.cell (i := 2) rfl
  have f2 := K1.free 2
  have u3 := K1.cell (i := 3) rfl
  have f3 := K1.free 3
  have u4 := K1.cell (i := 4) rfl
  have f4 := K1.free 4
  have u5 := K1.cell (i := 5) rfl
  have f5 := K1.free 5
  have u6 := K1.cell (i := 6) rfl
  have f6 := K1.free 6
  have u7 := K1.cell (i := 7) rfl
  have f7 := K1.free 7
  have u8 := K1.cell (i := 8) rfl
  have f8 := K1.free 8
  have u9 := K1.cell (i := 9) rfl
  have f9 := K1.free 9
  have KB := hid3 (show Blk ((((((((((w1.setCell ⟨w.heap.size, 0, none⟩ (.int .u64 (xs 0))).setCell ⟨w.heap.size, 1, none⟩ (.int .u64 (xs 1))).setCell ⟨w.heap.size, 2, none⟩ (.int .u64 (xs 2))).setCell ⟨w.heap.size, 3, none⟩ (.int .u64 (xs 3))).setCell ⟨w.heap.size, 4, none⟩ (.int .u64 (xs 4))).setCell ⟨w.heap.size, 5, none⟩ (.int .u64 (xs 5))).setCell ⟨w.heap.size, 6, none⟩ (.int .u64 (xs 6))).setCell ⟨w.heap.size, 7, none⟩ (.int .u64 (xs 7))).setCell ⟨w.heap.size, 8, none⟩ (.int .u64 (xs 8))).setCell ⟨w.heap.size, 9, none⟩ (.int .u64 (xs 9))) w.heap.size [.int .u64 (xs 0), .int .u64 (xs 1), .int .u64 (xs 2), .int .u64 (xs 3), .int .u64 (xs 4), .int .u64 (xs 5), .int .u64 (xs 6), .int .u64 (xs 7), .int .u64 (xs 8), .int .u64 (xs 9)] 35 from ((((((((((K1.setCell (i := 0) (.int .u64 (xs 0))).setCell (i := 1) (.int .u64 (xs 1))).setCell (i := 2) (.int .u64 (xs 2))).setCell (i := 3) (.int .u64 (xs 3))).setCell (i := 4) (.int .u64 (xs 4))).setCell (i := 5) (.int .u64 (xs 5))).setCell (i := 6) (.int .u64 (xs 6))).setCell (i := 7) (.int .u64 (xs 7))).setCell (i := 8) (.int .u64 (xs 8))).setCell (i := 9) (.int .u64 (xs 9))))
  have KC := hid3 (show Chg (fun x => x = w.heap.size) w1 ((((((((((w1.setCell ⟨w.heap.size, 0, none⟩ (.int .u64 (xs 0))).setCell ⟨w.heap.size, 1, none⟩ (.int .u64 (xs 1))).setCell ⟨w.heap.size, 2, none⟩ (.int .u64 (xs 2))).setCell ⟨w.heap.size, 3, none⟩ (.int .u64 (xs 3))).setCell ⟨w.heap.size, 4, none⟩ (.int .u64 (xs 4))).setCell ⟨w.heap.size, 5, none⟩ (.int .u64 (xs 5))).setCell ⟨w.heap.size, 6, none⟩ (.int .u64 (xs 6))).setCell ⟨w.heap.size, 7, none⟩ (.int .u64 (xs 7))).setCell ⟨w.heap.size, 8, none⟩ (.int .u64 (xs 8))).setCell ⟨w.heap.size, 9, none⟩ (.int .u64 (xs 9))) from (((((((((((Chg.refl (fun x => x = w.heap.size) w1).cell (g := w.heap.size) (i := 0) (.inl rfl) (.int .u64 (xs 0))).cell (g := w.heap.size) (i := 1) (.inl rfl) (.int .u64 (xs 1))).cell (g := w.heap.size) (i := 2) (.inl rfl) (.int .u64 (xs 2))).cell (g := w.heap.size) (i := 3) (.inl rfl) (.int .u64 (xs 3))).cell (g := w.heap.size) (i := 4) (.inl rfl) (.int .u64 (xs 4))).cell (g := w.heap.size) (i := 5) (.inl rfl) (.int .u64 (xs 5))).cell (g := w.heap.size) (i := 6) (.inl rfl) (.int .u64 (xs 6))).cell (g := w.heap.size) (i := 7) (.inl rfl) (.int .u64 (xs 7))).cell (g := w.heap.size) (i := 8) (.inl rfl) (.int .u64 (xs 8))).cell (g := w.heap.size) (i := 9) (.inl rfl) (.int .u64 (xs 9))))
  have FF := hid3 (show FinR w kd_Params 10 mkA st (.returned (.tuple #[.agg #[.int .u64 (xs 0), .int .u64 (xs 1), .int .u64 (xs 2), .int .u64 (xs 3), .int .u64 (xs 4), .int .u64 (xs 5), .int .u64 (xs 6), .int .u64 (xs 7), .int .u64 (xs 8), .int .u64 (xs 9)], .int .i64 r])) ((((((((((w1.setCell ⟨w.heap.size, 0, none⟩ (.int .u64 (xs 0))).setCell ⟨w.heap.size, 1, none⟩ (.int .u64 (xs 1))).setCell ⟨w.heap.size, 2, none⟩ (.int .u64 (xs 2))).setCell ⟨w.heap.size, 3, none⟩ (.int .u64 (xs 3))).setCell ⟨w.heap.size, 4, none⟩ (.int .u64 (xs 4))).setCell ⟨w.heap.size, 5, none⟩ (.int .u64 (xs 5))).setCell ⟨w.heap.size, 6, none⟩ (.int .u64 (xs 6))).setCell ⟨w.heap.size, 7, none⟩ (.int .u64 (xs 7))).setCell ⟨w.heap.size, 8, none⟩ (.int .u64 (xs 8))).setCell ⟨w.heap.size, 9, none⟩ (.int .u64 (xs 9))) from ⟨⟨[.int .u64 (xs 0), .int .u64 (xs 1), .int .u64 (xs 2), .int .u64 (xs 3), .int .u64 (xs 4), .int .u64 (xs 5), .int .u64 (xs 6), .int .u64 (xs 7), .int .u64 (xs 8), .int .u64 (xs 9)], xs, r, rfl, rfl, (h2.off KC.out.size (fun y hy hy2 => KC.out.same y hy2 (fun e => by have e' : y = w.heap.size := e; have := HZ.out; omega))).low HB.out.size, h3, h4⟩, ((((((((((BF.setCell (p := ⟨w.heap.size, 0, none⟩) (Nat.le_refl _) (.int .u64 (xs 0))).setCell (p := ⟨w.heap.size, 1, none⟩) (Nat.le_refl _) (.int .u64 (xs 1))).setCell (p := ⟨w.heap.size, 2, none⟩) (Nat.le_refl _) (.int .u64 (xs 2))).setCell (p := ⟨w.heap.size, 3, none⟩) (Nat.le_refl _) (.int .u64 (xs 3))).setCell (p := ⟨w.heap.size, 4, none⟩) (Nat.le_refl _) (.int .u64 (xs 4))).setCell (p := ⟨w.heap.size, 5, none⟩) (Nat.le_refl _) (.int .u64 (xs 5))).setCell (p := ⟨w.heap.size, 6, none⟩) (Nat.le_refl _) (.int .u64 (xs 6))).setCell (p := ⟨w.heap.size, 7, none⟩) (Nat.le_refl _) (.int .u64 (xs 7))).setCell (p := ⟨w.heap.size, 8, none⟩) (Nat.le_refl _) (.int .u64 (xs 8))).setCell (p := ⟨w.heap.size, 9, none⟩) (Nat.le_refl _) (.int .u64 (xs 9)))⟩)
  clear h1 h2 h3 h4 B K1 BF HU KC HY HB q0 q1 q2 q3 q4 q5 q6 q7 q8 q9
  simp only [mkA]
  go_wp2
  refine bodyPost_ret (ret_rc rfl rfl rfl (ld_Params (KB.out.cell (i := 0) rfl) (KB.out.cell (i := 1) rfl) (KB.out.cell (i := 2) rfl) (KB.out.cell (i := 3) rfl) (KB.out.cell (i := 4) rfl) (KB.out.cell (i := 5) rfl) (KB.out.cell (i := 6) rfl) (KB.out.cell (i := 7) rfl) (KB.out.cell (i := 8) rfl) (KB.out.cell (i := 9) rfl))) rfl ?_
  exact FF.out
set_option maxHeartbeats 2000000 in
set_option maxRecDepth 100000 in
theorem PutAccount_any {w : World} {x0 : Int} {x1 : Int} :
    Calls Tryz.prog 53 #[.agg #[.int .u64 x0, .int .u64 x1]] w fun e w' => ∃ b n, e = .returned (.slice (some ⟨b, 0, none⟩) n n) ∧ n = (thr (pnx (fun o => ([x0, x1] : List Int).getD o 0)) [(0, 0), (0, 1)] []).length ∧ Box w' b ((thr (pnx (fun o => ([x0, x1] : List Int).getD o 0)) [(0, 0), (0, 1)] []).map (Value.int .u8)) 5 ∧ w.heap.size ≤ b ∧ Below w.heap.size w w' := by
  have b1 := below_alloc w (.cells #[.int .u64 x0, .int .u64 x1] 52)
  have U := put_Account (x0 := x0) (x1 := x1) (w := w.alloc (.cells #[.int .u64 x0, .int .u64 x1] 52))
  have HB := hid3 b1
  generalize thr (pnx (fun o => ([x0, x1] : List Int).getD o 0)) [(0, 0), (0, 1)] [] = M at *
  have HU := hid3 U
  clear U
  go_enter Tryz.func53, Tryz.ntmps53
  go_wp2_with fail
  refine HU.out.mono ?_
  rintro e' w1 ⟨b, n, rfl, hn, X, hb, B⟩
  have FF := hid3 (show n = M.length ∧ Box w1 b (M.map (Value.int .u8)) 5 ∧ w.heap.size ≤ b ∧ Below w.heap.size w w1 from ⟨hn, X, Nat.le_trans HB.out.size hb, joinB HB.out B⟩)
  clear hn X hb B HU HB
  go_wp2
  go_ret
  exact ⟨b, n, rfl, FF.out⟩
set_option maxHeartbeats 4000000 in
set_option maxRecDepth 100000 in
theorem Account_any {w : World} {bb n c : Nat} {ao : Option Addr} {l : List Int} (A : ByA w bb ao n c l) (hn : n ≤ 1000000000) (hl : l.length = n) :
    Calls Tryz.prog 41 #[.slice ao n c] w (FinR w kd_Account 2 mkA (thr rnx [(0, 0), (0, 1)] (0, l, fun _ => (0 : Int)))) := by
  have b1 := below_alloc w (.cells #[.int .u64 0, .int .u64 0] 52)
  have y1 := blk_new w [.int .u64 0, .int .u64 0] 52
  have z1 := size_al w (.cells #[.int .u64 0, .int .u64 0] 52)
  have U := read_Account (A.keep b1) hn hl
  generalize thr rnx [(0, 0), (0, 1)] (0, l, fun _ => (0 : Int)) = st at *
  obtain ⟨W1, hW1⟩ : ∃ W1, Hid (w.alloc (.cells #[.int .u64 0, .int .u64 0] 52) = W1) := ⟨_, rfl⟩
  rw [hW1.out] at b1 y1 z1 U
  have HU := hid3 U
  have HB := hid3 b1
  have HY := hid3 y1
  have HZ := hid3 z1
  clear A hl b1 y1 z1 U
  go_enter Tryz.func41, Tryz.ntmps41
  go_wp2_with fail
  rw [hW1.out]
  refine HU.out.mono ?_
  rintro e' w1 ⟨⟨cs, xs, r, rfl, h1, h2, h3, h4⟩, B⟩
  have q0 := (h2 0).1 rfl
  have q1 := (h2 1).1 rfl
  have ecs : cs = [.int .u64 (xs 0), .int .u64 (xs 1)] := by
    apply List.ext_getElem?
    intro i
    match i with
    | 0 => rw [q0]; rfl
    | 1 => rw [q1]; rfl
    | k + 2 => rw [List.getElem?_eq_none (by omega), List.getElem?_eq_none (by simp)]
  subst ecs
  have K1 := HY.out.keep B
  have BF := joinB HB.out B
  have u0 := K1.cell (i := 0) rfl
  have f0 := K1.free 0
  have u1 := K1.cell (i := 1) rfl
  have f1 := K1.free 1
  have KB := hid3 (show Blk ((w1.setCell ⟨w.heap.size, 0, none⟩ (.int .u64 (xs 0))).setCell ⟨w.heap.size, 1, none⟩ (.int .u64 (xs 1))) w.heap.size [.int .u64 (xs 0), .int .u64 (xs 1)] 52 from ((K1.setCell (i := 0) (.int .u64 (xs 0))).setCell (i := 1) (.int .u64 (xs 1))))
  have KC := hid3 (show Chg (fun x => x = w.heap.size) w1 ((w1.setCell ⟨w.heap.size, 0, none⟩ (.int .u64 (xs 0))).setCell ⟨w.heap.size, 1, none⟩ (.int .u64 (xs 1))) from (((Chg.refl (fun x => x = w.heap.size) w1).cell (g := w.heap.size) (i := 0) (.inl rfl) (.int .u64 (xs 0))).cell (g := w.heap.size) (i := 1) (.inl rfl) (.int .u64 (xs 1))))
  have FF := hid3 (show FinR w kd_Account 2 mkA st (.returned (.tuple #[.agg #[.int .u64 (xs 0), .int .u64 (xs 1)], .int .i64 r])) ((w1.setCell ⟨w.heap.size, 0, none⟩ (.int .u64 (xs 0))).setCell ⟨w.heap.size, 1, none⟩ (.int .u64 (xs 1))) from ⟨⟨[.int .u64 (xs 0), .int .u64 (xs 1)], xs, r, rfl, rfl, (h2.off KC.out.size (fun y hy hy2 => KC.out.same y hy2 (fun e => by have e' : y = w.heap.size := e; have := HZ.out; omega))).low HB.out.size, h3, h4⟩, ((BF.setCell (p := ⟨w.heap.size, 0, none⟩) (Nat.le_refl _) (.int .u64 (xs 0))).setCell (p := ⟨w.heap.size, 1, none⟩) (Nat.le_refl _) (.int .u64 (xs 1)))⟩)
  clear h1 h2 h3 h4 B K1 BF HU KC HY HB q0 q1
  simp only [mkA]
  go_wp2
  refine bodyPost_ret (ret_rc rfl rfl rfl (ld_Account (KB.out.cell (i := 0) rfl) (KB.out.cell (i := 1) rfl))) rfl ?_
  exact FF.out
end Rc
end Go.Proofs.YtagnmdejdeeenaaGreat

namespace Go.Proofs.YtagnmdejdeeenaaGreat
open Go.RowKit Lim

end Go.Proofs.YtagnmdejdeeenaaGreat

namespace Go.Proofs.YtagnmdejdeeenaaGreat
open Go.RowKit Lim

/-- a step of a script: its five cells, and what lies behind its two lists -/
structure Stp where
  what : Int
  num : Int
  na : Option Addr
  nn : Nat
  nc : Nat
  V : Int
  ba : Option Addr
  bn : Nat
  bc : Nat
  bb : Nat
  bl : List Int
  most : Int
end Go.Proofs.YtagnmdejdeeenaaGreat

namespace Go.Proofs.YtagnmdejdeeenaaGreat
open Go.RowKit Lim

theorem be_bval {l : List Int} (h : Octets l) : be l.length (bval l) = l := by
  refine bval_inj (be_oct _ _) h (be_length _ _) ?_
  have hb := bval_bound h
  rw [be_val _ hb.1, Int.emod_eq_of_lt hb.1 hb.2]
theorem be_take {l : List Int} (h : Octets l) {m : Nat} (hm : m ≤ l.length) : be m (bval (l.take m)) = l.take m := by
  have := be_bval (l := l.take m) (fun x hx => h x (List.mem_of_mem_take hx))
  rwa [List.length_take, Nat.min_eq_left hm] at this
/-- a part was read of L: with an error nothing is taken; without one, what is laid again is what was taken -/
def One (err' : Int) (L L' : List Int) (laid : List Int → Prop) : Prop := (err' ≠ 0 ∧ L' = L) ∨ (err' = 0 ∧ ∃ k, k ≤ L.length ∧ laid (L.take k) ∧ L' = L.drop k)
theorem one_fix {L : List Int} (h : Octets L) (m : Nat) : One (rdE (pFix m L) 0) L (rdL (pFix m L) 0 L) (fun t => be m (rdV 0 (pFix m L) 0) = t) := by
  by_cases hm : m ≤ L.length
  · have e : pFix m L = .inr (bval (L.take m), m) := by unfold pFix; rw [if_pos hm]
    rw [e]
    exact .inr ⟨rfl, m, hm, be_take h hm, rfl⟩
  · have e : pFix m L = .inl 40 := by unfold pFix; rw [if_neg hm]
    rw [e]
    exact .inl ⟨by decide, rfl⟩
theorem one_bool {L : List Int} (h : Octets L) : One (rdE (pBool L) 0) L (rdL (pBool L) 0 L) (fun t => be 1 (if rdV false (pBool L) 0 then 1 else 0) = t) := by
  by_cases hm : 1 ≤ L.length
  · by_cases hx : 1 < bval (L.take 1)
    · have e : pBool L = .inl 41 := by unfold pBool; rw [if_pos hm, if_pos hx]
      rw [e]
      exact .inl ⟨by decide, rfl⟩
    · have e : pBool L = .inr (bval (L.take 1) == 1, 1) := by unfold pBool; rw [if_pos hm, if_neg hx]
      rw [e]
      refine .inr ⟨rfl, 1, hm, ?_, rfl⟩
      have hbt := be_take h hm
      have h0 := (bval_bound (l := L.take 1) (fun x hx => h x (List.mem_of_mem_take hx))).1
      show be 1 (if (bval (L.take 1) == 1) = true then 1 else 0) = L.take 1
      generalize L.take 1 = M at *
      by_cases h1 : bval M = 1
      · rw [h1] at hbt ⊢
        exact hbt
      · rw [show bval M = 0 by omega] at hbt ⊢
        exact hbt
  · have e : pBool L = .inl 40 := by unfold pBool; rw [if_neg hm]
    rw [e]
    exact .inl ⟨by decide, rfl⟩
theorem cntOf_nn {m : Nat} {L : List Int} (h : Octets L) : ((cntOf m L : Nat) : Int) = bval (L.take m) := by
  unfold cntOf
  rw [Int.toNat_of_nonneg (bval_bound (fun x hx => h x (List.mem_of_mem_take hx))).1]
theorem cnt_lay {m : Nat} {L : List Int} (h : Octets L) (hm : m ≤ L.length) (hc : m + cntOf m L ≤ L.length) : cntd m ((L.drop m).take (cntOf m L)) = L.take (m + cntOf m L) := by
  unfold cntd
  have e : (((L.drop m).take (cntOf m L)).length : Int) = bval (L.take m) := by
    rw [List.length_take, List.length_drop, Nat.min_eq_left (by omega)]
    exact cntOf_nn h
  rw [e, be_take h hm, List.take_add]
theorem one_nat {L : List Int} (h : Octets L) : One (rdE (pNat L) 0) L (rdL (pNat L) 0 L) (fun t => natE (rdV 0 (pNat L) 0) 0 = 0 ∧ ∀ K, natL (rdV 0 (pNat L) 0) 0 K = K ++ t) := by
  by_cases hm : 1 ≤ L.length
  · by_cases hc : 1 + cntOf 1 L ≤ L.length
    · by_cases hz : 0 < cntOf 1 L ∧ nth (L.drop 1) 0 = 0
      · have e : pNat L = .inl 41 := by unfold pNat; rw [if_pos hm, if_pos hc, if_pos hz]
        rw [e]
        exact .inl ⟨by decide, rfl⟩
      · have e : pNat L = .inr (bval ((L.drop 1).take (cntOf 1 L)), 1 + cntOf 1 L) := by unfold pNat; rw [if_pos hm, if_pos hc, if_neg hz]
        have hcl := cnt_lay h hm hc
        have hlt : ((cntOf 1 L : Nat) : Int) < 256 := by
          have := (bval_bound (l := L.take 1) (fun x hx => h x (List.mem_of_mem_take hx))).2
          rw [List.length_take, Nat.min_eq_left hm] at this
          rw [cntOf_nn h]
          simpa using this
        have hoct : Octets ((L.drop 1).take (cntOf 1 L)) := fun x hx => h x (List.mem_of_mem_drop (List.mem_of_mem_take hx))
        have hlen : ((L.drop 1).take (cntOf 1 L)).length = cntOf 1 L := by rw [List.length_take, List.length_drop]; omega
        have hB : natB (bval ((L.drop 1).take (cntOf 1 L))) = (L.drop 1).take (cntOf 1 L) := natB_unique (bval_bound hoct).1 ⟨hoct, fun hne => by
          have hpos : 0 < cntOf 1 L := by
            rcases Nat.eq_zero_or_pos (cntOf 1 L) with h0 | h0
            · exact absurd (by rw [h0]; simp) hne
            · exact h0
          rw [nth_take hpos]
          exact fun h0 => hz ⟨hpos, h0⟩, rfl⟩
        rw [e]
        refine .inr ⟨rfl, _, hc, ?_, rfl⟩
        show natE (bval ((L.drop 1).take (cntOf 1 L))) 0 = 0 ∧ ∀ K, natL (bval ((L.drop 1).take (cntOf 1 L))) 0 K = K ++ L.take (1 + cntOf 1 L)
        unfold natE natL
        rw [hB, if_pos (by omega)]
        refine ⟨rfl, fun K => ?_⟩
        rw [if_pos (by omega), hcl]
        rfl
    · have e : pNat L = .inl 40 := by unfold pNat; rw [if_pos hm, if_neg hc]
      rw [e]
      exact .inl ⟨by decide, rfl⟩
  · have e : pNat L = .inl 40 := by unfold pNat; rw [if_neg hm]
    rw [e]
    exact .inl ⟨by decide, rfl⟩
theorem ByA.front2 {w : World} {b : Nat} {ao : Option Addr} {n c : Nat} {l : List Int} (h : ByA w b ao n c l) {k : Nat} (hk : k ≤ n) : ByA w b ao k c (l.take k) := by
  obtain ⟨o, h1, h2, h3, h4, h5⟩ := h.ex
  refine ⟨o, by rw [List.length_take]; omega, by omega, h3, fun x hx => h4 x (List.mem_of_mem_take hx), ?_, fun i hi => ?_⟩
  · rcases h5.loc with e | e
    · exact .inl (by rw [e]; simp)
    · exact .inr e
  · rw [List.length_take] at hi
    rw [h5.cell i (by omega), nth_take (by omega)]
end Go.Proofs.YtagnmdejdeeenaaGreat

namespace Go.Proofs.YtagnmdejdeeenaaGreat
namespace Rc
open Go.RowKit Go.Lib Pg Lim
theorem cntd_len (m : Nat) (l : List Int) : (cntd m l).length = m + l.length := by
  unfold cntd
  rw [List.length_append, be_length]
theorem take_app {l r : List Int} {m : Nat} (h : l.length = m) : (l ++ r).take m = l ∧ (l ++ r).drop m = r := by
  subst h
  exact ⟨List.take_left, List.drop_left⟩
theorem back_fix (m : Nat) {x : Int} (hx : 0 ≤ x) (r : List Int) : pFix m (be m x ++ r) = .inr (x % 256 ^ m, m) ∧ (be m x ++ r).drop m = r := by
  have h := take_app (r := r) (be_length m x)
  refine ⟨?_, h.2⟩
  unfold pFix
  rw [if_pos (by rw [List.length_append, be_length]; omega), h.1, be_val m hx]
theorem cnt_app {m : Nat} {l r : List Int} (hl : (l.length : Int) < 256 ^ m) : cntOf m (cntd m l ++ r) = l.length := by
  unfold cntOf cntd
  rw [List.append_assoc, (take_app (be_length m _)).1, be_val m (by omega), Int.emod_eq_of_lt (by omega) hl]
  rfl
theorem cnt_drop (m : Nat) (l r : List Int) : (cntd m l ++ r).drop m = l ++ r := by
  unfold cntd
  rw [List.append_assoc, (take_app (be_length m _)).2]
theorem back_nat {V : Int} (hV : 0 ≤ V) (hl : (natB V).length < 256) (r : List Int) : pNat (cntd 1 (natB V) ++ r) = .inr (V, 1 + (natB V).length) ∧ (cntd 1 (natB V) ++ r).drop (1 + (natB V).length) = r := by
  have hc : cntOf 1 (cntd 1 (natB V) ++ r) = (natB V).length := cnt_app (by simpa using (by omega : ((natB V).length : Int) < 256))
  have hd := cnt_drop 1 (natB V) r
  have hB := natB_is hV
  refine ⟨?_, ?_⟩
  · unfold pNat
    rw [if_pos (by rw [List.length_append, cntd_len]; omega), hc, if_pos (by rw [List.length_append, cntd_len]; omega), hd, if_neg, (take_app rfl).1, hB.2.2]
    rintro ⟨h0, h1⟩
    have hne : natB V ≠ [] := fun e => by rw [e] at h0; simp at h0
    refine hB.2.1 hne ?_
    rw [← h1]
    cases hh : natB V with
    | nil => exact absurd hh hne
    | cons x t => rfl
  · rw [← List.drop_drop, hd, (take_app rfl).2]
theorem back_bool (x : Bool) (r : List Int) : pBool (be 1 (if x then 1 else 0) ++ r) = .inr (x, 1) ∧ (be 1 (if x then 1 else 0) ++ r).drop 1 = r := by
  cases x
  · exact ⟨rfl, rfl⟩
  · exact ⟨rfl, rfl⟩
/-- a field that was read, laid again -/
theorem one1 {l : List Int} (h : Octets l) (k : Nat) (he : rdE (p1 k l) 0 = 0) : enc1 k (rdV 0 (p1 k l) 0) ++ rdL (p1 k l) 0 l = l ∧ ∃ m, rdL (p1 k l) 0 l = l.drop m := by
  match k with
  | 0 =>
    rcases one_fix h 8 with ⟨h1, _⟩ | ⟨_, m, h2, h3, h4⟩
    · exact absurd he h1
    · show be 8 (rdV 0 (pFix 8 l) 0) ++ rdL (pFix 8 l) 0 l = l ∧ ∃ m, rdL (pFix 8 l) 0 l = l.drop m
      rw [h3, h4]
      exact ⟨List.take_append_drop m l, m, rfl⟩
  | 1 =>
    have he' : rdE (pBool l) 0 = 0 := by rw [← pBoolI_E]; exact he
    rcases one_bool h with ⟨h1, _⟩ | ⟨_, m, h2, h3, h4⟩
    · exact absurd he' h1
    · show be 1 (rdV 0 (pBoolI l) 0) ++ rdL (pBoolI l) 0 l = l ∧ ∃ m, rdL (pBoolI l) 0 l = l.drop m
      rw [pBoolI_V, pBoolI_L, h3, h4]
      exact ⟨List.take_append_drop m l, m, rfl⟩
  | k + 2 =>
    rcases one_nat h with ⟨h1, _⟩ | ⟨_, m, h2, ⟨h3, h5⟩, h4⟩
    · exact absurd he h1
    · show cntd 1 (natB (fit (rdV 0 (pNat l) 0))) ++ rdL (pNat l) 0 l = l ∧ ∃ m, rdL (pNat l) 0 l = l.drop m
      have hf : (natB (rdV 0 (pNat l) 0)).length < 256 := by
        unfold natE at h3
        split at h3
        · assumption
        · exact absurd h3 (by decide)
      have e := h5 []
      unfold natL wrote at e
      rw [if_pos hf, if_pos rfl] at e
      unfold fit
      rw [if_pos hf]
      simp only [List.nil_append] at e
      rw [e, h4]
      exact ⟨List.take_append_drop m l, m, rfl⟩
theorem thr_cons {σ : Type} (nx : Nat → Nat → σ → σ) (p : Nat × Nat) (ks : List (Nat × Nat)) (s : σ) : thr nx (p :: ks) s = thr nx ks (nx p.1 p.2 s) := rfl
theorem thr_bad (ks : List (Nat × Nat)) : ∀ s : RSt, s.1 ≠ 0 → (thr rnx ks s).1 = s.1 := by
  induction ks with
  | nil => intro s _; rfl
  | cons p ks ih =>
    intro s hs
    have e : (rnx p.1 p.2 s).1 = s.1 := rdE_bad hs
    rw [thr_cons, ih _ (by rw [e]; exact hs), e]
theorem thr_place (ks : List (Nat × Nat)) (o : Nat) : ∀ s : RSt, o ∉ ks.map Prod.snd → (thr rnx ks s).2.2 o = s.2.2 o := by
  induction ks with
  | nil => intro s _; rfl
  | cons p ks ih =>
    intro s ho
    rw [List.map_cons, List.mem_cons, not_or] at ho
    rw [thr_cons, ih _ ho.2]
    show (if o = p.2 then _ else _) = _
    rw [if_neg ho.1]
theorem octets_drop {l : List Int} (h : Octets l) (m : Nat) : Octets (l.drop m) := fun x hx => h x (List.mem_of_mem_drop hx)
/-- a record that was read, laid again -/
theorem thr_one (ks : List (Nat × Nat)) : ∀ (l : List Int) (xs : Nat → Int), Octets l → (ks.map Prod.snd).Nodup → (thr rnx ks (0, l, xs)).1 = 0 → ∀ L, thr (pnx (thr rnx ks (0, l, xs)).2.2) ks L ++ (thr rnx ks (0, l, xs)).2.1 = L ++ l := by
  induction ks with
  | nil => intro l xs _ _ _ L; rfl
  | cons p ks ih =>
    intro l xs ho hnd he L
    rw [List.map_cons, List.nodup_cons] at hnd
    rw [thr_cons] at he
    have e1 : rdE (p1 p.1 l) 0 = 0 := by
      by_cases hz : rdE (p1 p.1 l) 0 = 0
      · exact hz
      · exact absurd ((thr_bad ks (rnx p.1 p.2 (0, l, xs)) hz).symm.trans he) hz
    obtain ⟨h1, m, h2⟩ := one1 ho p.1 e1
    have es : rnx p.1 p.2 (0, l, xs) = (0, rdL (p1 p.1 l) 0 l, fun i => if i = p.2 then rdV 0 (p1 p.1 l) 0 else xs i) := by
      show (rdE (p1 p.1 l) 0, _, _) = _
      rw [e1]
    have e0 : thr rnx (p :: ks) (0, l, xs) = thr rnx ks (0, rdL (p1 p.1 l) 0 l, fun i => if i = p.2 then rdV 0 (p1 p.1 l) 0 else xs i) := by rw [thr_cons, es]
    rw [es] at he
    rw [e0]
    have ih' := ih _ _ (by rw [h2]; exact octets_drop ho m) hnd.2 he
    rw [thr_cons, ih']
    have ev : (thr rnx ks (0, rdL (p1 p.1 l) 0 l, fun i => if i = p.2 then rdV 0 (p1 p.1 l) 0 else xs i)).2.2 p.2 = rdV 0 (p1 p.1 l) 0 := by
      rw [thr_place ks p.2 _ hnd.1]
      show (if p.2 = p.2 then _ else _) = _
      rw [if_pos rfl]
    show (L ++ enc1 p.1 _) ++ _ = L ++ l
    rw [ev, List.append_assoc, h1]
/-- a field that was laid, read -/
def rng : Nat → Int → Prop
  | 0, x => 0 ≤ x ∧ x < 18446744073709551616
  | 1, x => x = 0 ∨ x = 1
  | _, x => 0 ≤ x
def fitk : Nat → Int → Int
  | 0, x => x
  | 1, x => x
  | _, x => fit x
theorem back1 (k : Nat) {x : Int} (hx : rng k x) (r : List Int) : ∃ m, p1 k (enc1 k x ++ r) = .inr (fitk k x, m) ∧ (enc1 k x ++ r).drop m = r := by
  match k, hx with
  | 0, hx =>
    obtain ⟨h1, h2⟩ := back_fix 8 hx.1 r
    refine ⟨8, ?_, h2⟩
    show pFix 8 (be 8 x ++ r) = _
    rw [h1, Int.emod_eq_of_lt hx.1 (by have := hx.2; simpa using this)]
    rfl
  | 1, hx =>
    have key : ∀ t : Bool, ∃ m, pBoolI (be 1 (if t then 1 else 0) ++ r) = .inr ((if t then 1 else 0), m) ∧ (be 1 (if t then 1 else 0) ++ r).drop m = r := fun t => by
      obtain ⟨h1, h2⟩ := back_bool t r
      refine ⟨1, ?_, h2⟩
      unfold pBoolI
      rw [h1]
    rcases hx with rfl | rfl
    · exact key false
    · exact key true
  | k + 2, hx =>
    have hV : 0 ≤ fit x := by
      unfold fit
      split
      · exact hx
      · decide
    obtain ⟨h1, h2⟩ := back_nat hV (fit_len x) r
    exact ⟨_, h1, h2⟩
/-- a record that was laid, read -/
theorem thr_back (xv : Nat → Int) (ks : List (Nat × Nat)) : ∀ (r : List Int) (xs : Nat → Int), (ks.map Prod.snd).Nodup → (∀ p ∈ ks, rng p.1 (xv p.2)) → ∃ ys, thr rnx ks (0, thr (pnx xv) ks [] ++ r, xs) = (0, r, ys) ∧ (∀ p ∈ ks, ys p.2 = fitk p.1 (xv p.2)) ∧ ∀ o, o ∉ ks.map Prod.snd → ys o = xs o := by
  have hL : ∀ (ks : List (Nat × Nat)) (L : List Int), thr (pnx xv) ks L = L ++ thr (pnx xv) ks [] := by
    intro ks
    induction ks with
    | nil => intro L; simp [thr]
    | cons p ks ih =>
      intro L
      rw [thr_cons, thr_cons, ih (pnx xv p.1 p.2 L), ih (pnx xv p.1 p.2 [])]
      simp [pnx, List.append_assoc]
  induction ks with
  | nil => exact fun r xs _ _ => ⟨xs, rfl, (fun p hp => by cases hp), fun _ _ => rfl⟩
  | cons p ks ih =>
    intro r xs hnd hr
    rw [List.map_cons, List.nodup_cons] at hnd
    obtain ⟨m, h1, h2⟩ := back1 p.1 (hr p List.mem_cons_self) (thr (pnx xv) ks [] ++ r)
    have el : thr (pnx xv) (p :: ks) [] ++ r = enc1 p.1 (xv p.2) ++ (thr (pnx xv) ks [] ++ r) := by
      rw [thr_cons, hL]
      simp [pnx, List.append_assoc]
    rw [el, thr_cons]
    have es : rnx p.1 p.2 (0, enc1 p.1 (xv p.2) ++ (thr (pnx xv) ks [] ++ r), xs) = (0, thr (pnx xv) ks [] ++ r, fun i => if i = p.2 then fitk p.1 (xv p.2) else xs i) := by
      show (rdE (p1 p.1 _) 0, rdL (p1 p.1 _) 0 _, fun i => if i = p.2 then rdV 0 (p1 p.1 _) 0 else xs i) = _
      rw [h1]
      show (_, List.drop m _, _) = _
      rw [h2]
      rfl
    rw [es]
    obtain ⟨ys, e1, e2, e3⟩ := ih r _ hnd.2 (fun q hq => hr q (List.mem_cons_of_mem _ hq))
    refine ⟨ys, e1, fun q hq => ?_, fun o ho => ?_⟩
    · rcases List.mem_cons.1 hq with rfl | hq
      · rw [e3 _ hnd.1]
        show (if q.2 = q.2 then _ else _) = _
        rw [if_pos rfl]
      · exact e2 q hq
    · rw [List.map_cons, List.mem_cons, not_or] at ho
      rw [e3 o ho.2]
      show (if o = p.2 then _ else _) = _
      rw [if_neg ho.1]
end Rc
end Go.Proofs.YtagnmdejdeeenaaGreat

namespace Go.Proofs.YtagnmdejdeeenaaGreat
namespace Rc
open Go.RowKit Go.Lib Pg
attribute [local go_sem] Oper.semAt_some
theorem enc1_oct (k : Nat) (x : Int) : Octets (enc1 k x) := by
  unfold enc1
  split
  · exact be_oct _ _
  · exact be_oct _ _
  · intro y hy
    rcases List.mem_append.1 hy with h | h
    · exact be_oct _ _ y h
    · exact natB_oct _ y h
theorem thr_oct (xs : Nat → Int) (ks : List (Nat × Nat)) : ∀ L, Octets L → Octets (thr (pnx xs) ks L) := by
  induction ks with
  | nil => exact fun _ h => h
  | cons p ks ih =>
    intro L h
    rw [thr_cons]
    refine ih _ ?_
    intro y hy
    rcases List.mem_append.1 hy with h1 | h1
    · exact h y h1
    · exact enc1_oct _ _ y h1
end Rc
end Go.Proofs.YtagnmdejdeeenaaGreat

namespace Go.Proofs.YtagnmdejdeeenaaGreat
namespace Rc
open Go.RowKit Go.Lib Pg
attribute [local go_sem] Oper.semAt_some
end Rc
end Go.Proofs.YtagnmdejdeeenaaGreat

namespace Go.Proofs.YtagnmdejdeeenaaGreat
open Go.RowKit Lim

/-- the bytes of a step; none: it is too long -/
def stB (s : Stp) : Option (List Int) :=
  if s.what = 0 then some (be 1 (s.num % 256))
  else if s.what = 1 then some (be 4 (s.num % 4294967296))
  else if s.what = 2 then some (be 8 s.num)
  else if s.what = 3 then some (be 1 (if s.num % 2 == 1 then 1 else 0))
  else if s.what = 4 ∨ s.what = 5 then (if (natB s.V).length < 256 then some (cntd 1 (natB s.V)) else none)
  else if s.what = 6 then some (cntd 4 s.bl)
  else some []
/-- one step more -/
def stO (s : Stp) (o : Option (List Int)) : Option (List Int) := o.bind fun L => (stB s).map (L ++ ·)
/-- the bytes of a script -/
def laid (ss : List Stp) : Option (List Int) := ss.foldl (fun o s => stO s o) (some [])
end Go.Proofs.YtagnmdejdeeenaaGreat

namespace Go.Proofs.YtagnmdejdeeenaaGreat
open Go.RowKit Lim

end Go.Proofs.YtagnmdejdeeenaaGreat

namespace Go.Proofs.YtagnmdejdeeenaaGreat
open Go.RowKit Lim

theorem MineB.shape {w : World} {B : Nat} {v : Value} {l : List Int} (h : MineB w B v l) : ∃ ao c, v = .slice ao l.length c := by
  rcases h.2 with ⟨rfl, h0⟩ | ⟨g, cap, cur, rfl, _⟩
  · exact ⟨none, 0, by rw [h0]⟩
  · exact ⟨_, _, rfl⟩
end Go.Proofs.YtagnmdejdeeenaaGreat

namespace Go.Proofs.YtagnmdejdeeenaaGreat
open Go.RowKit Lim

/-- only lists of bytes above B are changed -/
structure Byt (B : Nat) (w w' : World) : Prop where
  os : w'.os = w.os
  tape : w'.tape = w.tape
  output : w'.output = w.output
  size : w.heap.size ≤ w'.heap.size
  low : ∀ k : Nat, k < B → k < w.heap.size → w'.heap[k]? = w.heap[k]?
  typ : ∀ (k : Nat) (c : Array Value) (t : TypeId) (f : Nat × Nat), w.heap[k]? = some (Obj.cells c t f) → t ≠ 5 → w'.heap[k]? = w.heap[k]?
theorem Byt.of {B : Nat} {w w' : World} (h : Below w.heap.size w w') : Byt B w w' := ⟨h.os, h.tape, h.output, h.size, fun k _ hk => h.block k hk, fun k _ _ _ hc _ => h.block k (lt_of_block hc)⟩
theorem Byt.trans {B : Nat} {w w1 w2 : World} (h : Byt B w w1) (h' : Byt B w1 w2) : Byt B w w2 := ⟨h'.os.trans h.os, h'.tape.trans h.tape, h'.output.trans h.output, Nat.le_trans h.size h'.size,
  fun k hk hs => (h'.low k hk (Nat.lt_of_lt_of_le hs h.size)).trans (h.low k hk hs), fun k c t f hc ht => (h'.typ k c t f (by rw [h.typ k c t f hc ht]; exact hc) ht).trans (h.typ k c t f hc ht)⟩
theorem Byt.grown {B n : Nat} {w w' : World} {v : Value} {xs : List Value} (ho : w.ownsRow B 5 1 v n xs) (h : w.grownBy w' v.ownBlock) : Byt B w w' := by
  refine ⟨h.os, h.tape, h.output, h.size, fun k hk hs => h.block k hs fun e => ?_, fun k c t f hc ht => h.block k (lt_of_block hc) fun e => ?_⟩
  · have := (ho.lt k e.symm).1
    omega
  · rcases ho.2 with ⟨rfl, _⟩ | ⟨g, cap, cur, rfl, _, hh, _⟩
    · cases e
    · simp [Value.ownBlock] at e
      subst e
      rw [hh] at hc
      cases hc
      exact ht rfl
theorem Byt.below {B A : Nat} {w0 w w' : World} (h : Byt B w w') (b : Below A w0 w) (hA : A ≤ B) (hs : A ≤ w0.heap.size) : Below A w0 w' :=
  ⟨h.os.trans b.os, h.tape.trans b.tape, h.output.trans b.output, Nat.le_trans b.size h.size, fun k hk => (h.low k (by omega) (Nat.lt_of_lt_of_le (Nat.lt_of_lt_of_le hk hs) b.size)).trans (b.block k hk)⟩
set_option maxHeartbeats 2000000 in
set_option maxRecDepth 100000 in
theorem put_any {w : World} {B n : Nat} {x : Int} {v : Value} {L : List Int} (hM : MineB w B v L) (hB : B ≤ w.heap.size) (hn : n ≤ 8) (hL : L.length ≤ 1099511627776) :
    Calls Tryz.prog 91 #[v, .int .i64 n, .int .u64 x] w fun e w' => ∃ v', e = .returned v' ∧ MineB w' B v' (L ++ be n x) ∧ Byt B w w' := by
  obtain ⟨i0, hi, hz0, hz1, hz2⟩ := info_parts info_u8
  have HI : Hid (Tryz.prog.info? 5 = some i0 ∧ i0.zero = some (.int .u8 0) ∧ i0.size = 1 ∧ i0.bytes = 1) := ⟨hi, hz0, hz1, hz2⟩
  have HM := (show Hid _ from hM)
  have HBS := (show Hid _ from hB)
  have hn' : (n : Int) ≤ 8 := by omega
  clear hi hz0 hz1 hz2 hM hB
  go_enter Tryz.func91, Tryz.ntmps91
  go_wp2_with fail
  go_loopw [0, 7] (fun tv ti wr => ∃ j : Nat, j ≤ n ∧ ti = .int .i64 ((n : Int) - 1 - j) ∧ MineB wr B tv (L ++ (be n x).take j) ∧ Byt B w wr) (fun _ ti _ => (intOf ti + 1).toNat)
  case atStart => exact ⟨0, Nat.zero_le _, by simp, by rw [List.take_zero, List.append_nil]; exact HM.out, Byt.of (Below.refl _ _)⟩
  case round =>
    obtain ⟨j, hj, rfl, hMj, hBj⟩ := hrel
    by_cases hlt : j < n
    · obtain ⟨h, hh⟩ : ∃ h : Nat, (n : Int) - 1 - j = h := ⟨n - 1 - j, by omega⟩
      have hh' : n - 1 - j = h := by omega
      have hh8 : h < 8 := by omega
      have HD : Hid ((be n x).take (j + 1) = (be n x).take j ++ [x / 2 ^ (8 * h) % 256]) := by
        have e1 : (256 : Int) ^ h = 2 ^ (8 * h) := by rw [Int.pow_mul]; rfl
        show _ = _
        rw [take_succ_nth (by rw [be_length]; exact hlt), be_nth n x j hlt, hh', e1]
      obtain ⟨M, hMd⟩ : ∃ M, M = L ++ (be n x).take j := ⟨_, rfl⟩
      rw [← hMd] at hMj
      obtain ⟨q, hq⟩ : ∃ q, M.length = q := ⟨_, rfl⟩
      have hqL : q ≤ 1099511627776 + 8 := by
        have : M.length = L.length + ((be n x).take j).length := by rw [hMd, List.length_append]
        rw [List.length_take, be_length] at this
        omega
      have HMD := (show Hid _ from hMd)
      have HQ := (show Hid _ from hq)
      obtain ⟨az, cz, rfl⟩ := hMj.shape
      have hal := below_alloc wr (.cells #[.int .u8 (x / 2 ^ (8 * h) % 256)] 5)
      have hown : (wr.alloc (.cells #[.int .u8 (x / 2 ^ (8 * h) % 256)] 5)).ownsRow B 5 1 (.slice az M.length cz) M.length (M.map (Value.int .u8)) := mineB_keep hMj hal
      rw [hq] at hown ⊢
      have HBJ := (show Hid _ from hBj.trans (Byt.of hal))
      have HSZ : Hid (B ≤ (wr.alloc (.cells #[.int .u8 (x / 2 ^ (8 * h) % 256)] 5)).heap.size) := Nat.le_trans HBS.out (Nat.le_trans hBj.size hal.size)
      have hsrc : ∀ q u, [Value.int .u8 (x / 2 ^ (8 * h) % 256)][q]? = some u → (wr.alloc (.cells #[.int .u8 (x / 2 ^ (8 * h) % 256)] 5)).cell? ((⟨wr.heap.size, 0, none⟩ : Addr).add q) = some u := fun q u hu => by
        match q, hu with
        | 0, hu =>
          cases hu
          have hb := (box_new wr [Value.int .u8 (x / 2 ^ (8 * h) % 256)] 5).blk
          simp only [World.cell?, Addr.add, if_true, hb]
          rfl
        | q + 1, hu => simp at hu
      clear hMj hBj hal hh' hq hMd
      rw [hh]
      go_wp2_with (at_builtin; refine wpList_append_own _ rfl _ _ 66 rfl B 5 i0 (.int .u8 0) 1 1 under_bytes HI.out.1 HI.out.2.1 HI.out.2.2.1 HI.out.2.2.2 rfl (by decide) _ _ _ rfl hown ⟨wr.heap.size, 0, none⟩ 1 1 [Value.int .u8 (x / 2 ^ (8 * h) % 256)] rfl rfl ?c1 ?c2 ?c3 ?c4 ?c5 ?_)
      case c1 => exact hsrc
      case c2 => intro u hu; rw [List.mem_singleton] at hu; subst hu; rfl
      case c3 => unfold maxLen; omega
      case c4 => omega
      case c5 => exact HSZ.out
      intro v' w2 hown' hgrow _
      have HBY := (show Hid _ from HBJ.out.trans (Byt.grown hown hgrow))
      have HM2 : Hid (MineB w2 B v' (L ++ (be n x).take (j + 1))) := by
        show w2.ownsRow _ _ _ _ _ _
        have e : (L ++ (be n x).take (j + 1)) = M ++ [x / 2 ^ (8 * h) % 256] := by rw [HD.out, HMD.out, List.append_assoc]
        rw [e, List.length_append, HQ.out, List.map_append]
        exact hown'
      clear hown hown' hgrow hsrc
      go_wp2
      exact ⟨⟨j + 1, by omega, by go_num, HM2.out, HBY.out⟩, by simp [intOf]⟩
    · obtain rfl : j = n := by omega
      have HM2 : Hid (MineB wr B u0 (L ++ be j x)) := by
        have := hMj
        rw [List.take_of_length_le (by rw [be_length]; exact Nat.le_refl _)] at this
        exact this
      have HBY := (show Hid _ from hBj)
      have e1 : (j : Int) - 1 - j = -1 := by omega
      rw [e1]
      clear hMj hBj
      go_wp2
      go_ret
      exact ⟨_, rfl, HM2.out, HBY.out⟩
end Go.Proofs.YtagnmdejdeeenaaGreat

namespace Go.Proofs.YtagnmdejdeeenaaGreat
open Go.RowKit Lim

/-- the document's Reader: its bytes, its error -/
structure RfA (w : World) (g b : Nat) (err : Int) (l : List Int) : Prop where
  ex : ∃ ao n c, Box w g [.slice ao n c, .int .i64 err] 174 ∧ ByA w b ao n c l
theorem RfA.keep {w w' : World} {g b : Nat} {err : Int} {l : List Int} (h : RfA w g b err l) (hb : Below w.heap.size w w') : RfA w' g b err l := by
  obtain ⟨ao, n, c, h1, h2⟩ := h.ex
  exact ⟨ao, n, c, h1.keep hb, h2.keep hb⟩
theorem no_u8f (err : Int) (ao : Option Addr) (n c : Nat) : ∀ v ∈ [Value.slice ao n c, Value.int .i64 err], ∀ x, v ≠ .int .u8 x := fun v hv x e => by
  rcases List.mem_cons.1 hv with h | h
  · subst h; cases e
  · rw [List.mem_singleton] at h; subst h; cases e
theorem RfA.lt {w : World} {g b : Nat} {err : Int} {l : List Int} (h : RfA w g b err l) : g < w.heap.size := by
  obtain ⟨_, _, _, X, _⟩ := h.ex
  exact X.lt
theorem RfA.oct {w : World} {g b : Nat} {err : Int} {l : List Int} (h : RfA w g b err l) : Octets l := by
  obtain ⟨_, _, _, _, A⟩ := h.ex
  obtain ⟨o, _, _, _, h4, _⟩ := A.ex
  exact h4
theorem but_set (w : World) (g k : Nat) (v : Value) : But g w (w.setCell ⟨g, k, none⟩ v) := ⟨rfl, rfl, rfl, by rw [size_set]; exact Nat.le_refl _, fun _ _ h2 => Below.heap_setCell _ _ _ _ h2⟩
set_option maxRecDepth 100000 in
theorem rfTake {w : World} {g b m : Nat} {l : List Int} (h : RfA w g b 0 l) (hm : m ≤ l.length) :
    Calls Tryz.prog 130 #[.pointer (some ⟨g, 0, none⟩), .int .i64 m] w fun e w' => ∃ ao c, e = .returned (.slice ao m c) ∧ ByA w' b ao m c (l.take m) ∧ RfA w' g b 0 (l.drop m) ∧ But g w w' := by
  obtain ⟨ao, n, c, X, A⟩ := h.ex
  obtain ⟨o, h1, h2, ⟨h3, -⟩, -, -⟩ := A.ex
  have hmn : m ≤ n := by omega
  have H : But g w (w.setCell ⟨g, 0, none⟩ (.slice (restAt ao c m) (n - m) (c - m))) := but_set _ _ _ _
  have HR : Hid (∀ w', w' = w.setCell ⟨g, 0, none⟩ (.slice (restAt ao c m) (n - m) (c - m)) → ByA w' b ao m c (l.take m) ∧ RfA w' g b 0 (l.drop m) ∧ But g w w') := fun w' e => by
    subst e
    exact ⟨(A.front2 hmn).but X (no_u8f _ _ _ _) H, ⟨_, _, _, box_put0 X _, (A.rest hmn).but X (no_u8f _ _ _ _) H⟩, H⟩
  obtain ⟨c1, c2, c3, c4⟩ := X.two
  have hm0 : (m : Int) ≤ n := by omega
  have hm1 : (m : Int) ≤ c := by omega
  have hq : ((n : Int) < m) = False := eq_false (by omega)
  have hn9 : (c : Int) ≤ 9223372036854775807 := by omega
  clear X A h H
  go_enter Tryz.func130, Tryz.ntmps130
  go_wp2
  · subst h
    go_ret
    exact ⟨ao, c, rfl, HR.out _ (by unfold restAt; rw [if_pos rfl, Nat.sub_self])⟩
  · go_ret
    exact ⟨ao, c, rfl, HR.out _ (by unfold restAt; rw [if_neg (by assumption)])⟩
set_option maxRecDepth 100000 in
theorem rfTakeS {w : World} {g b m : Nat} {l : List Int} (h : RfA w g b 0 l) (hm : l.length < m) :
    Calls Tryz.prog 130 #[.pointer (some ⟨g, 0, none⟩), .int .i64 m] w fun e w' => e = .returned (.slice none 0 0) ∧ RfA w' g b 40 l ∧ But g w w' := by
  obtain ⟨ao, n, c, X, A⟩ := h.ex
  obtain ⟨o, h1, h2, ⟨h3, -⟩, -, -⟩ := A.ex
  have H : But g w (w.setCell ⟨g, 1, none⟩ (.int .i64 40)) := but_set _ _ _ _
  have HR : Hid (RfA (w.setCell ⟨g, 1, none⟩ (.int .i64 40)) g b 40 l ∧ But g w (w.setCell ⟨g, 1, none⟩ (.int .i64 40))) := ⟨⟨_, _, _, box_put1 X _, A.but X (no_u8f _ _ _ _) H⟩, H⟩
  obtain ⟨c1, c2, c3, c4⟩ := X.two
  have d2 := (box_put1 X (.int .i64 40)).two.2.1
  have hq : ((n : Int) < m) = True := eq_true (by omega)
  clear X A h H hm
  go_enter Tryz.func130, Tryz.ntmps130
  go_wp2
  go_ret
  exact ⟨rfl, HR.out⟩
set_option maxRecDepth 100000 in
theorem rfTakeE {w : World} {g b : Nat} {m err : Int} {l : List Int} (h : RfA w g b err l) (he : err ≠ 0) :
    Calls Tryz.prog 130 #[.pointer (some ⟨g, 0, none⟩), .int .i64 m] w fun e w' => e = .returned (.slice none 0 0) ∧ w' = w := by
  obtain ⟨ao, n, c, X, A⟩ := h.ex
  obtain ⟨c1, c2, c3, c4⟩ := X.two
  have hb1 : (err == 0) = false := beq_eq_false_iff_ne.2 he
  have hb2 : (err != 0) = true := bne_iff_ne.2 he
  clear X A h he
  go_enter Tryz.func130, Tryz.ntmps130
  go_wp2
  go_ret
  exact ⟨rfl, rfl⟩
set_option maxHeartbeats 2000000 in
set_option maxRecDepth 100000 in
theorem rfU {w : World} {g b m : Nat} {err : Int} {l : List Int} (h : RfA w g b err l) (h8 : m ≤ 8) :
    Calls Tryz.prog 95 #[.pointer (some ⟨g, 0, none⟩), .int .i64 m] w fun e w' => e = .returned (.int .u64 (rdV 0 (pFix m l) err)) ∧ RfA w' g b (rdE (pFix m l) err) (rdL (pFix m l) err l) ∧ But g w w' := by
  by_cases he : err = 0
  · subst he
    by_cases hm : m ≤ l.length
    · have hp : pFix m l = .inr (bval (l.take m), m) := by unfold pFix; rw [if_pos hm]
      rw [hp]
      show Calls Tryz.prog _ _ w fun e w' => e = .returned (.int .u64 (bval (l.take m))) ∧ RfA w' g b 0 (l.drop m) ∧ But g w w'
      have HO : Hid (Octets (l.take m)) := fun x hx => h.oct x (List.mem_of_mem_take hx)
      have hlm : (l.take m).length = m := by rw [List.length_take]; omega
      have t := rfTake h hm
      clear hp h
      generalize l.take m = d at *
      generalize l.drop m = r at *
      have h8' : (m : Int) ≤ 8 := by omega
      go_enter Tryz.func95, Tryz.ntmps95
      go_wp2_with fail
      refine t.mono ?_
      rintro e w1 ⟨ao, c, rfl, A1, R1, b1⟩
      have HR1 := (show Hid _ from R1)
      have HB1 := (show Hid _ from b1)
      obtain ⟨o, -, -, -, -, hA5⟩ := A1.ex
      have HA5 := (show Hid _ from hA5)
      clear t A1 R1 b1 hA5
      go_wp2_with fail
      go_loop [6, 7] (fun tx ti => ∃ k : Nat, k ≤ m ∧ ti = .int .i64 k ∧ tx = .int .u64 (bval (d.take k))) (fun _ ti => m - (intOf ti).toNat)
      case atStart => exact ⟨0, Nat.zero_le _, rfl, rfl⟩
      case round =>
        obtain ⟨k, hk, rfl, rfl⟩ := hrel
        by_cases hlt : k < m
        · have hkl : k < d.length := by omega
          have hcell := HA5.out.cell k hkl
          obtain rfl : ao = some ⟨b, o, none⟩ := by
            rcases HA5.out.loc with e | e
            · rw [e] at hkl; simp at hkl
            · exact e
          have hk0 : (k : Int) < m := by omega
          have hd := HO.out.nth k
          have HB := bval_bound (l := d.take k) (fun x hx => HO.out x (List.mem_of_mem_take hx))
          have hp : (256 : Int) ^ (d.take k).length ≤ 256 ^ 7 := pow256_mono (by rw [List.length_take]; omega)
          have hx1 : bval (d.take k) < 72057594037927936 := by
            have e7 : (256 : Int) ^ 7 = 72057594037927936 := by decide
            omega
          have hx0 := HB.1
          have hor := or8 (bval (d.take k)) (nth d k) hx0 hx1 hd.1 hd.2
          have HN : Hid (bval (d.take (k + 1)) = bval (d.take k) * 256 + nth d k) := by show _ = _; rw [take_succ_nth hkl, bval_snoc2]
          clear HB hp
          generalize bval (d.take k) = V at *
          generalize nth d k = D at *
          go_wp2
          go_round
          case rel => exact ⟨k + 1, by omega, by go_num, by rw [HN.out]⟩
          case measure => simp [intOf]; omega
        · obtain rfl : k = m := by omega
          have hdk : d.take k = d := List.take_of_length_le (by omega)
          rw [hdk]
          go_wp2
          go_ret
          exact ⟨rfl, HR1.out, HB1.out⟩
    · have hp : pFix m l = .inl 40 := by unfold pFix; rw [if_neg hm]
      rw [hp]
      show Calls Tryz.prog _ _ w fun e w' => e = .returned (.int .u64 0) ∧ RfA w' g b 40 l ∧ But g w w'
      have t := rfTakeS (m := m) h (by omega)
      clear hp h hm
      go_enter Tryz.func95, Tryz.ntmps95
      go_wp2_with fail
      refine t.mono ?_
      rintro e w1 ⟨rfl, R1, b1⟩
      have HR1 := (show Hid _ from R1)
      have HB1 := (show Hid _ from b1)
      clear t R1 b1
      go_wp2_with fail
      go_loop [6, 7] (fun tx ti => tx = .int .u64 0 ∧ ti = .int .i64 0) (fun _ _ => 0)
      case atStart => exact ⟨rfl, rfl⟩
      case round =>
        obtain ⟨rfl, rfl⟩ := hrel
        go_wp2
        go_ret
        exact ⟨rfl, HR1.out, HB1.out⟩
  · rw [rdV_bad he, rdE_bad he, rdL_bad he]
    have t := rfTakeE (m := (m : Int)) h he
    have HH := (show Hid _ from h)
    clear h he
    go_enter Tryz.func95, Tryz.ntmps95
    go_wp2_with fail
    refine t.mono ?_
    rintro e w1 ⟨rfl, hw1⟩
    subst hw1
    clear t
    go_wp2_with fail
    go_loop [6, 7] (fun tx ti => tx = .int .u64 0 ∧ ti = .int .i64 0) (fun _ _ => 0)
    case atStart => exact ⟨rfl, rfl⟩
    case round =>
      obtain ⟨rfl, rfl⟩ := hrel
      go_wp2
      go_ret
      exact ⟨rfl, HH.out, But.refl _ _⟩
set_option maxRecDepth 100000 in
theorem rfEnd {w : World} {g b : Nat} {err : Int} {l : List Int} (h : RfA w g b err l) :
    Calls Tryz.prog 131 #[.pointer (some ⟨g, 0, none⟩)] w fun e w' => e = .returned (.int .i64 (endE err l)) ∧ RfA w' g b (endE err l) l ∧ But g w w' := by
  obtain ⟨ao, n, c, X, A⟩ := h.ex
  obtain ⟨o, h1, h2, ⟨h3, -⟩, -, -⟩ := A.ex
  have H : But g w (w.setCell ⟨g, 1, none⟩ (.int .i64 43)) := but_set _ _ _ _
  have HR : Hid (RfA (w.setCell ⟨g, 1, none⟩ (.int .i64 43)) g b 43 l ∧ But g w (w.setCell ⟨g, 1, none⟩ (.int .i64 43))) := ⟨⟨_, _, _, box_put1 X _, A.but X (no_u8f _ _ _ _) H⟩, H⟩
  obtain ⟨c1, c2, c3, c4⟩ := X.two
  have d2 := (box_put1 X (.int .i64 43)).two.2.1
  have HH := (show Hid _ from h)
  by_cases he : err = 0
  · subst he
    by_cases hl : l.length = 0
    · have e : endE 0 l = 0 := by unfold endE; rw [if_pos rfl, if_pos hl]
      rw [e]
      have hn : n = 0 := by omega
      subst hn
      clear X A h H HR e hl d2
      go_enter Tryz.func131, Tryz.ntmps131
      go_wp2
      go_ret
      exact ⟨rfl, HH.out, But.refl _ _⟩
    · have e : endE 0 l = 43 := by unfold endE; rw [if_pos rfl, if_neg hl]
      rw [e]
      have hn : 0 < n := by omega
      clear X A h H e hl HH
      go_enter Tryz.func131, Tryz.ntmps131
      go_wp2
      go_ret
      exact ⟨rfl, HR.out⟩
  · have e : endE err l = err := by unfold endE; rw [if_neg he]
    rw [e]
    have hb1 : (err == 0) = false := beq_eq_false_iff_ne.2 he
    clear X A h H HR e he d2
    go_enter Tryz.func131, Tryz.ntmps131
    go_wp2
    go_ret
    exact ⟨rfl, HH.out, But.refl _ _⟩
end Go.Proofs.YtagnmdejdeeenaaGreat

namespace Go.Proofs.YtagnmdejdeeenaaGreat
open Go.RowKit Lim

end Go.Proofs.YtagnmdejdeeenaaGreat

namespace Go.Proofs.YtagnmdejdeeenaaGreat
open Go.RowKit Lim

end Go.Proofs.YtagnmdejdeeenaaGreat

namespace Go.Proofs.YtagnmdejdeeenaaGreat
open Go.RowKit Lim

end Go.Proofs.YtagnmdejdeeenaaGreat

namespace Go.Proofs.YtagnmdejdeeenaaGreat
namespace Rc
open Go.RowKit Go.Lib Pg Lim
attribute [local go_sem] Oper.semAt_some
end Rc
end Go.Proofs.YtagnmdejdeeenaaGreat

namespace Go.Proofs.YtagnmdejdeeenaaGreat
namespace Rc
open Go.RowKit Go.Lib Pg Lim
attribute [local go_sem] Oper.semAt_some
end Rc
end Go.Proofs.YtagnmdejdeeenaaGreat

namespace Go.Proofs.YtagnmdejdeeenaaGreat
namespace Rc
open Go.RowKit Go.Lib Pg Lim
theorem endE_zero {err : Int} {l : List Int} (h : endE err l = 0) : err = 0 ∧ l = [] := by
  unfold endE at h
  split at h
  · rename_i he
    split at h
    · rename_i hl
      exact ⟨he, List.eq_nil_of_length_eq_zero hl⟩
    · exact absurd h (by decide)
  · exact absurd h (by assumption)
/-- what is read whole is laid again as it was -/
theorem ones (ks : List (Nat × Nat)) (l : List Int) (ho : Octets l) (hnd : (ks.map Prod.snd).Nodup) (h : endE (thr rnx ks (0, l, fun _ => 0)).1 (thr rnx ks (0, l, fun _ => 0)).2.1 = 0) : thr (pnx (thr rnx ks (0, l, fun _ => 0)).2.2) ks [] = l := by
  obtain ⟨h1, h2⟩ := endE_zero h
  have := thr_one ks l (fun _ => 0) ho hnd h1 []
  rw [h2, List.append_nil, List.nil_append] at this
  exact this
end Rc
end Go.Proofs.YtagnmdejdeeenaaGreat

namespace Go.Proofs.YtagnmdejdeeenaaGreat
open Go.RowKit Lim

end Go.Proofs.YtagnmdejdeeenaaGreat

namespace Go.Proofs.YtagnmdejdeeenaaGreat
namespace Rc
open Go.RowKit Go.Lib Pg Lim
attribute [local go_sem] Oper.semAt_some
theorem Blk.byt {B : Nat} {w w' : World} {g : Nat} {cs : List Value} {t : TypeId} (h : Blk w g cs t) (b : Byt B w w') (ht : t ≠ 5) : Blk w' g cs t := ⟨by rw [b.typ g _ t _ h.blk ht]; exact h.blk⟩
set_option maxHeartbeats 2000000 in
set_option maxRecDepth 100000 in
theorem ru8 {w : World} {B lb : Nat} {v : Value} {L xs : List Int} (hM : MineB w B v L) (hB : B ≤ w.heap.size) (hX : Blk w lb (xs.map (Value.int .u64)) 22) (hL : L.length ≤ 1000000) (hx : xs.length ≤ 1000) :
    Calls Tryz.prog 51 #[v, .slice (some ⟨lb, 0, none⟩) xs.length xs.length] w fun e w' => ∃ v', e = .returned v' ∧ MineB w' B v' (L ++ xs.flatMap (be 8)) ∧ Byt B w w' := by
  have HM := hid3 hM
  have HB := hid3 hB
  have HX := hid3 hX
  have hlen : ∀ j, ((xs.take j).flatMap (be 8)).length ≤ 8 * xs.length := fun j => by
    rw [List.length_flatMap]
    have e : ∀ l : List Int, (l.map (fun a => (be 8 a).length)).sum = 8 * l.length := fun l => by
      induction l with
      | nil => rfl
      | cons a l ih => rw [List.map_cons, List.sum_cons, ih, be_length, List.length_cons]; omega
    rw [e, List.length_take]
    omega
  have HL := hid3 hlen
  obtain ⟨n, hn⟩ : ∃ n, xs.length = n := ⟨_, rfl⟩
  have HN := hid3 hn
  rw [hn]
  rw [hn] at hx
  clear hM hB hX hlen hn
  go_enter Tryz.func51, Tryz.ntmps51
  go_wp2_with fail
  go_loopw [0, 5] (fun tv ti wr => ∃ j : Nat, j ≤ n ∧ ti = .int .i64 j ∧ MineB wr B tv (L ++ (xs.take j).flatMap (be 8)) ∧ Byt B w wr) (fun _ ti _ => n - (intOf ti).toNat)
  case atStart => exact ⟨0, Nat.zero_le _, rfl, by rw [List.take_zero, List.flatMap_nil, List.append_nil]; exact HM.out, Byt.of (Below.refl _ _)⟩
  case round =>
    obtain ⟨j, hj, rfl, hMj, hBj⟩ := hrel
    by_cases hlt : j < n
    · have hlt' : (j : Int) < n := by omega
      obtain ⟨x, hxj⟩ : ∃ x, xs[j]? = some x := ⟨_, List.getElem?_eq_getElem (by rw [HN.out]; exact hlt)⟩
      have c1 := (Blk.byt HX.out hBj (by decide)).cell (i := j) (v := .int .u64 x) (by rw [List.getElem?_map, hxj]; rfl)
      have t := put_any (n := 8) (x := x) hMj (Nat.le_trans HB.out hBj.size) (by decide) (by
        have := HL.out j
        rw [List.length_append]
        rw [HN.out] at this
        omega)
      have HD : Hid ((L ++ (xs.take j).flatMap (be 8)) ++ be 8 x = L ++ (xs.take (j + 1)).flatMap (be 8)) := by
        show _ = _
        rw [List.take_add_one, hxj, List.flatMap_append, List.append_assoc]
        simp
      rw [HD.out] at t
      have HBj := hid3 hBj
      obtain ⟨M, hM⟩ : ∃ M, Hid (L ++ (xs.take (j + 1)).flatMap (be 8) = M) := ⟨_, rfl⟩
      rw [hM.out] at t
      clear hMj hBj hxj
      go_wp2_with fail
      refine t.mono ?_
      rintro e w2 ⟨v2, rfl, hm, hb⟩
      have FF := hid3 (show MineB w2 B v2 M ∧ Byt B w w2 from ⟨hm, HBj.out.trans hb⟩)
      clear hm hb t c1 HBj
      go_wp2
      refine ⟨⟨j + 1, by omega, by go_num, ?_, FF.out.2⟩, by simp [intOf]; omega⟩
      rw [hM.out]; exact FF.out.1
    · obtain rfl : j = n := by omega
      rw [← HN.out, List.take_length] at hMj
      have FF := hid3 (And.intro hMj hBj)
      clear hMj hBj
      go_wp2
      go_ret
      exact ⟨_, rfl, FF.out⟩
end Rc
end Go.Proofs.YtagnmdejdeeenaaGreat
