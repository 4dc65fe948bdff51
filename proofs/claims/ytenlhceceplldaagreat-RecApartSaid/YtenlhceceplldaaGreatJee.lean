/- Several texts, joined: RcI, RcJ, RcK, RcL. -/
import Derived.Test.YtenlhceceplldaaGreatJed
import Derived.Test.YtenlhceceplldaaGreatJca
namespace Go.Proofs.YtenlhceceplldaaGreat
namespace Rc
open Go.RowKit Go.Lib Pg
attribute [local go_sem] Oper.semAt_some
set_option maxHeartbeats 4000000 in
set_option maxRecDepth 100000 in
theorem read_Number {w : World} {bb n c : Nat} {ao : Option Addr} {l : List Int} (A : ByA w bb ao n c l) (hn : n ≤ 1000000000) (hl : l.length = n) :
    Calls Tryz.prog 97 #[.slice ao n c, .func (.func 67) #[] #[]] w (FinR w kd_Number 1 mkO (thr rnx [(0, 0)] (0, l, fun _ => (0 : Int)))) := by
  have b1 := below_alloc w (.cells #[.int .u64 0] 22)
  have z1 := size_al w (.cells #[.int .u64 0] 22)
  have y1 := blk_new w [.int .u64 0] 22
  obtain ⟨W3, hW3⟩ : ∃ W3, Hid (w.alloc (.cells #[.int .u64 0] 22) = W3) := ⟨_, rfl⟩
  rw [hW3.out] at b1 y1 z1
  have HN := hid3 (rdNew (A.keep b1) (by omega))
  have Y2 := hid3 y1
  have Z3 := hid3 z1
  have HBB := hid3 b1
  have HL := hid3 hl
  clear b1 z1 y1 A hl
  obtain ⟨st, hst⟩ : ∃ st, Hid (thr rnx [(0, 0)] (0, l, fun _ => (0 : Int)) = st) := ⟨_, rfl⟩
  have hsl : st.2.1.length ≤ n := by have h := thr_len [(0, 0)] (0, l, fun _ => (0 : Int)); rw [hst.out] at h; rw [HL.out] at h; exact h
  rw [hst.out]
  go_enter Tryz.func97, Tryz.ntmps97
  go_wp2_with fail
  rw [hW3.out]
  refine HN.out.mono ?_
  rintro e' w4 ⟨g, b', rfl, hg, hb', X4, B4⟩
  have b5 := below_alloc w4 (.cells #[.pointer (some ⟨g, 0, none⟩)] 198)
  have v5 := blk_new w4 [.pointer (some ⟨g, 0, none⟩)] 198
  have z5 := size_al w4 (.cells #[.pointer (some ⟨g, 0, none⟩)] 198)
  obtain ⟨W5, hW5⟩ : ∃ W5, Hid (w4.alloc (.cells #[.pointer (some ⟨g, 0, none⟩)] 198) = W5) := ⟨_, rfl⟩
  rw [hW5.out] at b5 v5 z5
  have hgl := X4.lt
  have hz3 := Z3.out
  have hz4 := B4.size
  have F0 : FldR W5 W5.heap.size kd_Number [.int .u64 0] (fun _ => 0) := fun o => match o with
    | 0 => ⟨fun _ => rfl, fun h => absurd h (by decide), fun h => absurd h (by decide)⟩
    | k + 1 => ⟨fun h => absurd h (by simp [kd_Number]), fun h => absurd h (by simp [kd_Number]), fun h => absurd h (by simp [kd_Number])⟩
  have U := ofNumber_any (rhc_Number (w0 := w) (B := W5.heap.size) (g := g) (b := b') (vb := w4.heap.size) (rb := w.heap.size) (T := 22) (vt := 198)) (s := (0, l, fun _ => (0 : Int))) (w := W5) ⟨⟨X4.keep b5, v5, ⟨_, rfl, (Y2.out.keep B4).keep b5, F0⟩, joinB (joinB HBB.out B4) b5, by omega, by omega, by omega, by omega, by omega, by omega, by omega, by omega⟩, Nat.le_refl _⟩ (by simp [kd_Number]) trivial
  rw [hst.out] at U
  have HU := hid3 U
  have HS := hid3 (show w.heap.size ≤ W5.heap.size ∧ w.heap.size ≤ g from ⟨by omega, by omega⟩)
  clear U b5 v5 z5 hgl hz3 hz4 F0 X4 B4 hg hb' HN Y2
  go_wp2_with fail
  rw [hW5.out]
  refine HU.out.mono ?_
  rintro e' w6 ⟨rfl, ⟨I6, hB6⟩, C6⟩
  have c6 := I6.var.cell (i := 0) rfl
  go_wp2_with fail
  refine (rdEnd I6.rd (by omega)).mono ?_
  rintro e' w7 ⟨rfl, X7, B7⟩
  obtain ⟨cs6, hl6, R6, F6⟩ := I6.rc
  obtain ⟨XS, hXS⟩ : ∃ XS, Hid (st.2.2 = XS) := ⟨_, rfl⟩
  rw [hXS.out] at F6
  have hF6 := hid3 F6
  have q0 := (F6 0).1 rfl
  have ecs : cs6 = [.int .u64 (XS 0)] := by
    apply List.ext_getElem?
    intro i
    match i with
    | 0 => rw [q0]; rfl
    | k + 1 => rw [List.getElem?_eq_none (by omega), List.getElem?_eq_none (by simp)]
  subst ecs
  have C7 := But.chg B7
  have K2 := R6.chg C7 I6.s1
  have BF := hid3 (B7.below I6.bel HS.out.2 (Nat.le_refl _))
  have hF7 := hid3 ((hF6.out.off (w' := w7) B7.size (fun y hy hy2 => B7.block y hy2 (by have := I6.g1; omega))))
  have v0 := K2.cell (i := 0) rfl
  clear K2 I6 C6 C7 B7 X7 R6 hl6 F6 c6 HU q0
  obtain ⟨E0, hE0⟩ : ∃ E0, Hid (endE st.1 st.2.1 = E0) := ⟨_, rfl⟩
  rw [hE0.out]
  by_cases hE : E0 = 0
  · subst hE
    go_wp2
    go_ret2
    exact ⟨⟨[.int .u64 (XS 0)], XS, 0, rfl, rfl, hF7.out.low HS.out.1, fun _ => ⟨rfl, hXS.out.symm⟩, fun h => absurd hE0.out h⟩, BF.out⟩
  · have hE1 : ¬ (E0 = 0) := hE
    go_wp2
    go_ret2
    exact ⟨⟨[.int .u64 0], fun _ => 0, 80, rfl, rfl, (fun o => match o with | 0 => ⟨fun _ => rfl, fun h => absurd h (by decide), fun h => absurd h (by decide)⟩ | k + 1 => ⟨fun h => absurd h (by simp [kd_Number]), fun h => absurd h (by simp [kd_Number]), fun h => absurd h (by simp [kd_Number])⟩), fun h => absurd (hE0.out.symm.trans h) hE1, fun _ => ⟨rfl, rfl⟩⟩, BF.out⟩
set_option maxHeartbeats 2000000 in
set_option maxRecDepth 100000 in
theorem PutParams_any {w : World} {x0 : Int} {x1 : Int} {x2 : Int} {x3 : Int} {x4 : Int} {x5 : Int} {x6 : Int} {x7 : Int} {x8 : Int} {x9 : Int} :
    Calls Tryz.prog 8 #[.agg #[.int .u64 x0, .int .u64 x1, .int .u64 x2, .int .u64 x3, .int .u64 x4, .int .u64 x5, .int .u64 x6, .int .u64 x7, .int .u64 x8, .int .u64 x9]] w fun e w' => ∃ b n, e = .returned (.slice (some ⟨b, 0, none⟩) n n) ∧ n = (thr (pnx (fun o => ([x0, x1, x2, x3, x4, x5, x6, x7, x8, x9] : List Int).getD o 0)) [(0, 0), (0, 1), (0, 2), (0, 3), (0, 4), (0, 5), (0, 6), (0, 7), (0, 8), (0, 9)] []).length ∧ Box w' b ((thr (pnx (fun o => ([x0, x1, x2, x3, x4, x5, x6, x7, x8, x9] : List Int).getD o 0)) [(0, 0), (0, 1), (0, 2), (0, 3), (0, 4), (0, 5), (0, 6), (0, 7), (0, 8), (0, 9)] []).map (Value.int .u8)) 5 ∧ w.heap.size ≤ b ∧ Below w.heap.size w w' := by
  have b1 := below_alloc w (.cells #[.int .u64 x0, .int .u64 x1, .int .u64 x2, .int .u64 x3, .int .u64 x4, .int .u64 x5, .int .u64 x6, .int .u64 x7, .int .u64 x8, .int .u64 x9] 24)
  have U := put_Params (x0 := x0) (x1 := x1) (x2 := x2) (x3 := x3) (x4 := x4) (x5 := x5) (x6 := x6) (x7 := x7) (x8 := x8) (x9 := x9) (w := w.alloc (.cells #[.int .u64 x0, .int .u64 x1, .int .u64 x2, .int .u64 x3, .int .u64 x4, .int .u64 x5, .int .u64 x6, .int .u64 x7, .int .u64 x8, .int .u64 x9] 24))
  have HB := hid3 b1
  generalize thr (pnx (fun o => ([x0, x1, x2, x3, x4, x5, x6, x7, x8, x9] : List Int).getD o 0)) [(0, 0), (0, 1), (0, 2), (0, 3), (0, 4), (0, 5), (0, 6), (0, 7), (0, 8), (0, 9)] [] = M at *
  have HU := hid3 U
  clear U
  go_enter Tryz.func8, Tryz.ntmps8
  go_wp2_with fail
  refine HU.out.mono ?_
  rintro e' w1 ⟨b, n, rfl, hn, X, hb, B⟩
  have FF := hid3 (show n = M.length ∧ Box w1 b (M.map (Value.int .u8)) 5 ∧ w.heap.size ≤ b ∧ Below w.heap.size w w1 from ⟨hn, X, Nat.le_trans HB.out.size hb, joinB HB.out B⟩)
  clear hn X hb B HU HB
  go_wp2
  go_ret
  exact ⟨b, n, rfl, FF.out⟩
set_option maxHeartbeats 4000000 in
set_option maxRecDepth 100000 in
theorem Params_any {w : World} {bb n c : Nat} {ao : Option Addr} {l : List Int} (A : ByA w bb ao n c l) (hn : n ≤ 1000000000) (hl : l.length = n) :
    Calls Tryz.prog 71 #[.slice ao n c] w (FinR w kd_Params 10 mkA (thr rnx [(0, 0), (0, 1), (0, 2), (0, 3), (0, 4), (0, 5), (0, 6), (0, 7), (0, 8), (0, 9)] (0, l, fun _ => (0 : Int)))) := by
  have b1 := below_alloc w (.cells #[.int .u64 0, .int .u64 0, .int .u64 0, .int .u64 0, .int .u64 0, .int .u64 0, .int .u64 0, .int .u64 0, .int .u64 0, .int .u64 0] 24)
  have y1 := blk_new w [.int .u64 0, .int .u64 0, .int .u64 0, .int .u64 0, .int .u64 0, .int .u64 0, .int .u64 0, .int .u64 0, .int .u64 0, .int .u64 0] 24
  have z1 := size_al w (.cells #[.int .u64 0, .int .u64 0, .int .u64 0, .int .u64 0, .int .u64 0, .int .u64 0, .int .u64 0, .int .u64 0, .int .u64 0, .int .u64 0] 24)
  have U := read_Params (A.keep b1) hn hl
  generalize thr rnx [(0, 0), (0, 1), (0, 2), (0, 3), (0, 4), (0, 5), (0, 6), (0, 7), (0, 8), (0, 9)] (0, l, fun _ => (0 : Int)) = st at *
  obtain ⟨W1, hW1⟩ : ∃ W1, Hid (w.alloc (.cells #[.int .u64 0, .int .u64 0, .int .u64 0, .int .u64 0, .int .u64 0, .int .u64 0, .int .u64 0, .int .u64 0, .int .u64 0, .int .u64 0] 24) = W1) := ⟨_, rfl⟩
  rw [hW1.out] at b1 y1 z1 U
  have HU := hid3 U
  have HB := hid3 b1
  have HY := hid3 y1
  have HZ := hid3 z1
  clear A hl b1 y1 z1 U
  go_enter Tryz.func71, Tryz.ntmps71
  go_wp2_with fail
  rw [hW1.out]
  refine HU.out.mono ?_
  rintro e' w1 ⟨⟨cs, xs, r, rfl, h1, h2, h3, h4⟩, B⟩
  have q0 := (h2 0).1 rfl
  have q1 := (h2 1).1 rfl
  have q2 := (h2 2).1 rfl
  have q3 := (h2 3).1 rfl
  have q4 := (h2 4).1 rfl
  have q5 := (h2 5).1 rfl
  have q6 := (h2 6).1 rfl
  have q7 := (h2 7).1 rfl
  have q8 := (h2 8).1 rfl
  have q9 := (h2 9).1 rfl
  have ecs : cs = [.int .u64 (xs 0), .int .u64 (xs 1), .int .u64 (xs 2), .int .u64 (xs 3), .int .u64 (xs 4), .int .u64 (xs 5), .int .u64 (xs 6), .int .u64 (xs 7), .int .u64 (xs 8), .int .u64 (xs 9)] := by
    apply List.ext_getElem?
    intro i
    match i with
    | 0 => rw [q0]; rfl
    | 1 => rw [q1]; rfl
    | 2 => rw [q2]; rfl
    | 3 => rw [q3]; rfl
    | 4 => rw [q4]; rfl
    | 5 => rw [q5]; rfl
    | 6 => rw [q6]; rfl
    | 7 => rw [q7]; rfl
    | 8 => rw [q8]; rfl
    | 9 => rw [q9]; rfl
    | k + 10 => rw [List.getElem?_eq_none (by omega), List.getElem?_eq_none (by simp)]
  subst ecs
  have K1 := HY.out.keep B
  have BF := joinB HB.out B
  have u0 := K1.cell (i := 0) rfl
  have f0 := K1.free 0
  have u1 := K1.cell (i := 1) rfl
  have f1 := K1.free 1
  have u2 := K1.cell (i := 2) rfl
  have f2 := K1.free 2
  have u3 := K1.cell (i := 3) rfl
  have f3 := K1.free 3
  have u4 := K1.cell (i := 4) rfl
  have f4 := K1.free 4
  have u5 := K1.cell (i := 5) rfl
  have f5 := K1.free 5
  have u6 := K1.cell (i := 6) rfl
  have f6 := K1.free 6
  have u7 := K1.cell (i := 7) rfl
  have f7 := K1.free 7
  have u8 := K1.cell (i := 8) rfl
  have f8 := K1.free 8
  have u9 := K1.cell (i := 9) rfl
  have f9 := K1.free 9
  have KB := hid3 (show Blk ((((((((((w1.setCell ⟨w.heap.size, 0, none⟩ (.int .u64 (xs 0))).setCell ⟨w.heap.size, 1, none⟩ (.int .u64 (xs 1))).setCell ⟨w.heap.size, 2, none⟩ (.int .u64 (xs 2))).setCell ⟨w.heap.size, 3, none⟩ (.int .u64 (xs 3))).setCell ⟨w.heap.size, 4, none⟩ (.int .u64 (xs 4))).setCell ⟨w.heap.size, 5, none⟩ (.int .u64 (xs 5))).setCell ⟨w.heap.size, 6, none⟩ (.int .u64 (xs 6))).setCell ⟨w.heap.size, 7, none⟩ (.int .u64 (xs 7))).setCell ⟨w.heap.size, 8, none⟩ (.int .u64 (xs 8))).setCell ⟨w.heap.size, 9, none⟩ (.int .u64 (xs 9))) w.heap.size [.int .u64 (xs 0), .int .u64 (xs 1), .int .u64 (xs 2), .int .u64 (xs 3), .int .u64 (xs 4), .int .u64 (xs 5), .int .u64 (xs 6), .int .u64 (xs 7), .int .u64 (xs 8), .int .u64 (xs 9)] 24 from ((((((((((K1.setCell (i := 0) (.int .u64 (xs 0))).setCell (i := 1) (.int .u64 (xs 1))).setCell (i := 2) (.int .u64 (xs 2))).setCell (i := 3) (.int .u64 (xs 3))).setCell (i := 4) (.int .u64 (xs 4))).setCell (i := 5) (.int .u64 (xs 5))).setCell (i := 6) (.int .u64 (xs 6))).setCell (i := 7) (.int .u64 (xs 7))).setCell (i := 8) (.int .u64 (xs 8))).setCell (i := 9) (.int .u64 (xs 9))))
  have KC := hid3 (show Chg (fun x => x = w.heap.size) w1 ((((((((((w1.setCell ⟨w.heap.size, 0, none⟩ (.int .u64 (xs 0))).setCell ⟨w.heap.size, 1, none⟩ (.int .u64 (xs 1))).setCell ⟨w.heap.size, 2, none⟩ (.int .u64 (xs 2))).setCell ⟨w.heap.size, 3, none⟩ (.int .u64 (xs 3))).setCell ⟨w.heap.size, 4, none⟩ (.int .u64 (xs 4))).setCell ⟨w.heap.size, 5, none⟩ (.int .u64 (xs 5))).setCell ⟨w.heap.size, 6, none⟩ (.int .u64 (xs 6))).setCell ⟨w.heap.size, 7, none⟩ (.int .u64 (xs 7))).setCell ⟨w.heap.size, 8, none⟩ (.int .u64 (xs 8))).setCell ⟨w.heap.size, 9, none⟩ (.int .u64 (xs 9))) from (((((((((((Chg.refl (fun x => x = w.heap.size) w1).cell (g := w.heap.size) (i := 0) (.inl rfl) (.int .u64 (xs 0))).cell (g := w.heap.size) (i := 1) (.inl rfl) (.int .u64 (xs 1))).cell (g := w.heap.size) (i := 2) (.inl rfl) (.int .u64 (xs 2))).cell (g := w.heap.size) (i := 3) (.inl rfl) (.int .u64 (xs 3))).cell (g := w.heap.size) (i := 4) (.inl rfl) (.int .u64 (xs 4))).cell (g := w.heap.size) (i := 5) (.inl rfl) (.int .u64 (xs 5))).cell (g := w.heap.size) (i := 6) (.inl rfl) (.int .u64 (xs 6))).cell (g := w.heap.size) (i := 7) (.inl rfl) (.int .u64 (xs 7))).cell (g := w.heap.size) (i := 8) (.inl rfl) (.int .u64 (xs 8))).cell (g := w.heap.size) (i := 9) (.inl rfl) (.int .u64 (xs 9))))
  have FF := hid3 (show FinR w kd_Params 10 mkA st (.returned (.tuple #[.agg #[.int .u64 (xs 0), .int .u64 (xs 1), .int .u64 (xs 2), .int .u64 (xs 3), .int .u64 (xs 4), .int .u64 (xs 5), .int .u64 (xs 6), .int .u64 (xs 7), .int .u64 (xs 8), .int .u64 (xs 9)], .int .i64 r])) ((((((((((w1.setCell ⟨w.heap.size, 0, none⟩ (.int .u64 (xs 0))).setCell ⟨w.heap.size, 1, none⟩ (.int .u64 (xs 1))).setCell ⟨w.heap.size, 2, none⟩ (.int .u64 (xs 2))).setCell ⟨w.heap.size, 3, none⟩ (.int .u64 (xs 3))).setCell ⟨w.heap.size, 4, none⟩ (.int .u64 (xs 4))).setCell ⟨w.heap.size, 5, none⟩ (.int .u64 (xs 5))).setCell ⟨w.heap.size, 6, none⟩ (.int .u64 (xs 6))).setCell ⟨w.heap.size, 7, none⟩ (.int .u64 (xs 7))).setCell ⟨w.heap.size, 8, none⟩ (.int .u64 (xs 8))).setCell ⟨w.heap.size, 9, none⟩ (.int .u64 (xs 9))) from ⟨⟨[.int .u64 (xs 0), .int .u64 (xs 1), .int .u64 (xs 2), .int .u64 (xs 3), .int .u64 (xs 4), .int .u64 (xs 5), .int .u64 (xs 6), .int .u64 (xs 7), .int .u64 (xs 8), .int .u64 (xs 9)], xs, r, rfl, rfl, (h2.off KC.out.size (fun y hy hy2 => KC.out.same y hy2 (fun e => by have e' : y = w.heap.size := e; have := HZ.out; omega))).low HB.out.size, h3, h4⟩, ((((((((((BF.setCell (p := ⟨w.heap.size, 0, none⟩) (Nat.le_refl _) (.int .u64 (xs 0))).setCell (p := ⟨w.heap.size, 1, none⟩) (Nat.le_refl _) (.int .u64 (xs 1))).setCell (p := ⟨w.heap.size, 2, none⟩) (Nat.le_refl _) (.int .u64 (xs 2))).setCell (p := ⟨w.heap.size, 3, none⟩) (Nat.le_refl _) (.int .u64 (xs 3))).setCell (p := ⟨w.heap.size, 4, none⟩) (Nat.le_refl _) (.int .u64 (xs 4))).setCell (p := ⟨w.heap.size, 5, none⟩) (Nat.le_refl _) (.int .u64 (xs 5))).setCell (p := ⟨w.heap.size, 6, none⟩) (Nat.le_refl _) (.int .u64 (xs 6))).setCell (p := ⟨w.heap.size, 7, none⟩) (Nat.le_refl _) (.int .u64 (xs 7))).setCell (p := ⟨w.heap.size, 8, none⟩) (Nat.le_refl _) (.int .u64 (xs 8))).setCell (p := ⟨w.heap.size, 9, none⟩) (Nat.le_refl _) (.int .u64 (xs 9)))⟩)
  clear h1 h2 h3 h4 B K1 BF HU KC HY HB q0 q1 q2 q3 q4 q5 q6 q7 q8 q9
  simp only [mkA]
  go_wp2
  refine bodyPost_ret (ret_rc rfl rfl rfl (ld_Params (KB.out.cell (i := 0) rfl) (KB.out.cell (i := 1) rfl) (KB.out.cell (i := 2) rfl) (KB.out.cell (i := 3) rfl) (KB.out.cell (i := 4) rfl) (KB.out.cell (i := 5) rfl) (KB.out.cell (i := 6) rfl) (KB.out.cell (i := 7) rfl) (KB.out.cell (i := 8) rfl) (KB.out.cell (i := 9) rfl))) rfl ?_
  exact FF.out
set_option maxHeartbeats 2000000 in
set_option maxRecDepth 100000 in
theorem PutChain_any {w : World} {x0 : Int} {x1 : Int} :
    Calls Tryz.prog 9 #[.agg #[.int .u64 x0, .int .u64 x1]] w fun e w' => ∃ b n, e = .returned (.slice (some ⟨b, 0, none⟩) n n) ∧ n = (thr (pnx (fun o => ([x0, x1] : List Int).getD o 0)) [(0, 0), (0, 1)] []).length ∧ Box w' b ((thr (pnx (fun o => ([x0, x1] : List Int).getD o 0)) [(0, 0), (0, 1)] []).map (Value.int .u8)) 5 ∧ w.heap.size ≤ b ∧ Below w.heap.size w w' := by
  have b1 := below_alloc w (.cells #[.int .u64 x0, .int .u64 x1] 26)
  have U := put_Chain (x0 := x0) (x1 := x1) (w := w.alloc (.cells #[.int .u64 x0, .int .u64 x1] 26))
  have HB := hid3 b1
  generalize thr (pnx (fun o => ([x0, x1] : List Int).getD o 0)) [(0, 0), (0, 1)] [] = M at *
  have HU := hid3 U
  clear U
  go_enter Tryz.func9, Tryz.ntmps9
  go_wp2_with fail
  refine HU.out.mono ?_
  rintro e' w1 ⟨b, n, rfl, hn, X, hb, B⟩
  have FF := hid3 (show n = M.length ∧ Box w1 b (M.map (Value.int .u8)) 5 ∧ w.heap.size ≤ b ∧ Below w.heap.size w w1 from ⟨hn, X, Nat.le_trans HB.out.size hb, joinB HB.out B⟩)
  clear hn X hb B HU HB
  go_wp2
  go_ret
  exact ⟨b, n, rfl, FF.out⟩
set_option maxHeartbeats 4000000 in
set_option maxRecDepth 100000 in
theorem Chain_any {w : World} {bb n c : Nat} {ao : Option Addr} {l : List Int} (A : ByA w bb ao n c l) (hn : n ≤ 1000000000) (hl : l.length = n) :
    Calls Tryz.prog 73 #[.slice ao n c] w (FinR w kd_Chain 2 mkA (thr rnx [(0, 0), (0, 1)] (0, l, fun _ => (0 : Int)))) := by
  have b1 := below_alloc w (.cells #[.int .u64 0, .int .u64 0] 26)
  have y1 := blk_new w [.int .u64 0, .int .u64 0] 26
  have z1 := size_al w (.cells #[.int .u64 0, .int .u64 0] 26)
  have U := read_Chain (A.keep b1) hn hl
  generalize thr rnx [(0, 0), (0, 1)] (0, l, fun _ => (0 : Int)) = st at *
  obtain ⟨W1, hW1⟩ : ∃ W1, Hid (w.alloc (.cells #[.int .u64 0, .int .u64 0] 26) = W1) := ⟨_, rfl⟩
  rw [hW1.out] at b1 y1 z1 U
  have HU := hid3 U
  have HB := hid3 b1
  have HY := hid3 y1
  have HZ := hid3 z1
  clear A hl b1 y1 z1 U
  go_enter Tryz.func73, Tryz.ntmps73
  go_wp2_with fail
  rw [hW1.out]
  refine HU.out.mono ?_
  rintro e' w1 ⟨⟨cs, xs, r, rfl, h1, h2, h3, h4⟩, B⟩
  have q0 := (h2 0).1 rfl
  have q1 := (h2 1).1 rfl
  have ecs : cs = [.int .u64 (xs 0), .int .u64 (xs 1)] := by
    apply List.ext_getElem?
    intro i
    match i with
    | 0 => rw [q0]; rfl
    | 1 => rw [q1]; rfl
    | k + 2 => rw [List.getElem?_eq_none (by omega), List.getElem?_eq_none (by simp)]
  subst ecs
  have K1 := HY.out.keep B
  have BF := joinB HB.out B
  have u0 := K1.cell (i := 0) rfl
  have f0 := K1.free 0
  have u1 := K1.cell (i := 1) rfl
  have f1 := K1.free 1
  have KB := hid3 (show Blk ((w1.setCell ⟨w.heap.size, 0, none⟩ (.int .u64 (xs 0))).setCell ⟨w.heap.size, 1, none⟩ (.int .u64 (xs 1))) w.heap.size [.int .u64 (xs 0), .int .u64 (xs 1)] 26 from ((K1.setCell (i := 0) (.int .u64 (xs 0))).setCell (i := 1) (.int .u64 (xs 1))))
  have KC := hid3 (show Chg (fun x => x = w.heap.size) w1 ((w1.setCell ⟨w.heap.size, 0, none⟩ (.int .u64 (xs 0))).setCell ⟨w.heap.size, 1, none⟩ (.int .u64 (xs 1))) from (((Chg.refl (fun x => x = w.heap.size) w1).cell (g := w.heap.size) (i := 0) (.inl rfl) (.int .u64 (xs 0))).cell (g := w.heap.size) (i := 1) (.inl rfl) (.int .u64 (xs 1))))
  have FF := hid3 (show FinR w kd_Chain 2 mkA st (.returned (.tuple #[.agg #[.int .u64 (xs 0), .int .u64 (xs 1)], .int .i64 r])) ((w1.setCell ⟨w.heap.size, 0, none⟩ (.int .u64 (xs 0))).setCell ⟨w.heap.size, 1, none⟩ (.int .u64 (xs 1))) from ⟨⟨[.int .u64 (xs 0), .int .u64 (xs 1)], xs, r, rfl, rfl, (h2.off KC.out.size (fun y hy hy2 => KC.out.same y hy2 (fun e => by have e' : y = w.heap.size := e; have := HZ.out; omega))).low HB.out.size, h3, h4⟩, ((BF.setCell (p := ⟨w.heap.size, 0, none⟩) (Nat.le_refl _) (.int .u64 (xs 0))).setCell (p := ⟨w.heap.size, 1, none⟩) (Nat.le_refl _) (.int .u64 (xs 1)))⟩)
  clear h1 h2 h3 h4 B K1 BF HU KC HY HB q0 q1
  simp only [mkA]
  go_wp2
  refine bodyPost_ret (ret_rc rfl rfl rfl (ld_Chain (KB.out.cell (i := 0) rfl) (KB.out.cell (i := 1) rfl))) rfl ?_
  exact FF.out
set_option maxHeartbeats 2000000 in
set_option maxRecDepth 100000 in
theorem PutPool_any {w : World} {a0 : Option Addr} {n0 c0 : Nat} {x0 : Int} (h0 : NatA w a0 n0 c0 x0) (m0 : n0 ≤ 1000000) :
    Calls Tryz.prog 10 #[.agg #[.slice a0 n0 c0]] w fun e w' => ∃ b n, e = .returned (.slice (some ⟨b, 0, none⟩) n n) ∧ n = (thr (pnx (fun o => ([x0] : List Int).getD o 0)) [(2, 0)] []).length ∧ Box w' b ((thr (pnx (fun o => ([x0] : List Int).getD o 0)) [(2, 0)] []).map (Value.int .u8)) 5 ∧ w.heap.size ≤ b ∧ Below w.heap.size w w' := by
  have b1 := below_alloc w (.cells #[.slice a0 n0 c0] 30)
  have U := put_Pool (h0.keep b1) m0 (w := w.alloc (.cells #[.slice a0 n0 c0] 30))
  have HB := hid3 b1
  generalize thr (pnx (fun o => ([x0] : List Int).getD o 0)) [(2, 0)] [] = M at *
  have HU := hid3 U
  clear U
  go_enter Tryz.func10, Tryz.ntmps10
  go_wp2_with fail
  refine HU.out.mono ?_
  rintro e' w1 ⟨b, n, rfl, hn, X, hb, B⟩
  have FF := hid3 (show n = M.length ∧ Box w1 b (M.map (Value.int .u8)) 5 ∧ w.heap.size ≤ b ∧ Below w.heap.size w w1 from ⟨hn, X, Nat.le_trans HB.out.size hb, joinB HB.out B⟩)
  clear hn X hb B HU HB
  go_wp2
  go_ret
  exact ⟨b, n, rfl, FF.out⟩
set_option maxHeartbeats 4000000 in
set_option maxRecDepth 100000 in
theorem Pool_any {w : World} {bb n c : Nat} {ao : Option Addr} {l : List Int} (A : ByA w bb ao n c l) (hn : n ≤ 1000000000) (hl : l.length = n) :
    Calls Tryz.prog 75 #[.slice ao n c] w (FinR w kd_Pool 1 mkA (thr rnx [(2, 0)] (0, l, fun _ => (0 : Int)))) := by
  have b1 := below_alloc w (.cells #[.slice none 0 0] 30)
  have y1 := blk_new w [.slice none 0 0] 30
  have z1 := size_al w (.cells #[.slice none 0 0] 30)
  have U := read_Pool (A.keep b1) hn hl
  generalize thr rnx [(2, 0)] (0, l, fun _ => (0 : Int)) = st at *
  obtain ⟨W1, hW1⟩ : ∃ W1, Hid (w.alloc (.cells #[.slice none 0 0] 30) = W1) := ⟨_, rfl⟩
  rw [hW1.out] at b1 y1 z1 U
  have HU := hid3 U
  have HB := hid3 b1
  have HY := hid3 y1
  have HZ := hid3 z1
  clear A hl b1 y1 z1 U
  go_enter Tryz.func75, Tryz.ntmps75
  go_wp2_with fail
  rw [hW1.out]
  refine HU.out.mono ?_
  rintro e' w1 ⟨⟨cs, xs, r, rfl, h1, h2, h3, h4⟩, B⟩
  obtain ⟨a0, n0, d0, q0, -, -⟩ := (h2 0).2.2 rfl
  have ecs : cs = [.slice a0 n0 d0] := by
    apply List.ext_getElem?
    intro i
    match i with
    | 0 => rw [q0]; rfl
    | k + 1 => rw [List.getElem?_eq_none (by omega), List.getElem?_eq_none (by simp)]
  subst ecs
  have K1 := HY.out.keep B
  have BF := joinB HB.out B
  have u0 := K1.cell (i := 0) rfl
  have f0 := K1.free 0
  have KB := hid3 (show Blk (w1.setCell ⟨w.heap.size, 0, none⟩ (.slice a0 n0 d0)) w.heap.size [.slice a0 n0 d0] 30 from (K1.setCell (i := 0) (.slice a0 n0 d0)))
  have KC := hid3 (show Chg (fun x => x = w.heap.size) w1 (w1.setCell ⟨w.heap.size, 0, none⟩ (.slice a0 n0 d0)) from ((Chg.refl (fun x => x = w.heap.size) w1).cell (g := w.heap.size) (i := 0) (.inl rfl) (.slice a0 n0 d0)))
  have FF := hid3 (show FinR w kd_Pool 1 mkA st (.returned (.tuple #[.agg #[.slice a0 n0 d0], .int .i64 r])) (w1.setCell ⟨w.heap.size, 0, none⟩ (.slice a0 n0 d0)) from ⟨⟨[.slice a0 n0 d0], xs, r, rfl, rfl, (h2.off KC.out.size (fun y hy hy2 => KC.out.same y hy2 (fun e => by have e' : y = w.heap.size := e; have := HZ.out; omega))).low HB.out.size, h3, h4⟩, (BF.setCell (p := ⟨w.heap.size, 0, none⟩) (Nat.le_refl _) (.slice a0 n0 d0))⟩)
  clear h1 h2 h3 h4 B K1 BF HU KC HY HB q0
  simp only [mkA]
  go_wp2
  refine bodyPost_ret (ret_rc rfl rfl rfl (ld_Pool (KB.out.cell (i := 0) rfl))) rfl ?_
  exact FF.out
set_option maxHeartbeats 2000000 in
set_option maxRecDepth 100000 in
theorem PutAccount_any {w : World} {x0 : Int} {x1 : Int} :
    Calls Tryz.prog 11 #[.agg #[.int .u64 x0, .int .u64 x1]] w fun e w' => ∃ b n, e = .returned (.slice (some ⟨b, 0, none⟩) n n) ∧ n = (thr (pnx (fun o => ([x0, x1] : List Int).getD o 0)) [(0, 0), (0, 1)] []).length ∧ Box w' b ((thr (pnx (fun o => ([x0, x1] : List Int).getD o 0)) [(0, 0), (0, 1)] []).map (Value.int .u8)) 5 ∧ w.heap.size ≤ b ∧ Below w.heap.size w w' := by
  have b1 := below_alloc w (.cells #[.int .u64 x0, .int .u64 x1] 32)
  have U := put_Account (x0 := x0) (x1 := x1) (w := w.alloc (.cells #[.int .u64 x0, .int .u64 x1] 32))
  have HB := hid3 b1
  generalize thr (pnx (fun o => ([x0, x1] : List Int).getD o 0)) [(0, 0), (0, 1)] [] = M at *
  have HU := hid3 U
  clear U
  go_enter Tryz.func11, Tryz.ntmps11
  go_wp2_with fail
  refine HU.out.mono ?_
  rintro e' w1 ⟨b, n, rfl, hn, X, hb, B⟩
  have FF := hid3 (show n = M.length ∧ Box w1 b (M.map (Value.int .u8)) 5 ∧ w.heap.size ≤ b ∧ Below w.heap.size w w1 from ⟨hn, X, Nat.le_trans HB.out.size hb, joinB HB.out B⟩)
  clear hn X hb B HU HB
  go_wp2
  go_ret
  exact ⟨b, n, rfl, FF.out⟩
set_option maxHeartbeats 4000000 in
set_option maxRecDepth 100000 in
theorem Account_any {w : World} {bb n c : Nat} {ao : Option Addr} {l : List Int} (A : ByA w bb ao n c l) (hn : n ≤ 1000000000) (hl : l.length = n) :
    Calls Tryz.prog 39 #[.slice ao n c] w (FinR w kd_Account 2 mkA (thr rnx [(0, 0), (0, 1)] (0, l, fun _ => (0 : Int)))) := by
  have b1 := below_alloc w (.cells #[.int .u64 0, .int .u64 0] 32)
  have y1 := blk_new w [.int .u64 0, .int .u64 0] 32
  have z1 := size_al w (.cells #[.int .u64 0, .int .u64 0] 32)
  have U := read_Account (A.keep b1) hn hl
  generalize thr rnx [(0, 0), (0, 1)] (0, l, fun _ => (0 : Int)) = st at *
  obtain ⟨W1, hW1⟩ : ∃ W1, Hid (w.alloc (.cells #[.int .u64 0, .int .u64 0] 32) = W1) := ⟨_, rfl⟩
  rw [hW1.out] at b1 y1 z1 U
  have HU := hid3 U
  have HB := hid3 b1
  have HY := hid3 y1
  have HZ := hid3 z1
  clear A hl b1 y1 z1 U
  go_enter Tryz.func39, Tryz.ntmps39
  go_wp2_with fail
  rw [hW1.out]
  refine HU.out.mono ?_
  rintro e' w1 ⟨⟨cs, xs, r, rfl, h1, h2, h3, h4⟩, B⟩
  have q0 := (h2 0).1 rfl
  have q1 := (h2 1).1 rfl
  have ecs : cs = [.int .u64 (xs 0), .int .u64 (xs 1)] := by
    apply List.ext_getElem?
    intro i
    match i with
    | 0 => rw [q0]; rfl
    | 1 => rw [q1]; rfl
    | k + 2 => rw [List.getElem?_eq_none (by omega), List.getElem?_eq_none (by simp)]
  subst ecs
  have K1 := HY.out.keep B
  have BF := joinB HB.out B
  have u0 := K1.cell (i := 0) rfl
  have f0 := K1.free 0
  have u1 := K1.cell (i := 1) rfl
  have f1 := K1.free 1
  have KB := hid3 (show Blk ((w1.setCell ⟨w.heap.size, 0, none⟩ (.int .u64 (xs 0))).setCell ⟨w.heap.size, 1, none⟩ (.int .u64 (xs 1))) w.heap.size [.int .u64 (xs 0), .int .u64 (xs 1)] 32 from ((K1.setCell (i := 0) (.int .u64 (xs 0))).setCell (i := 1) (.int .u64 (xs 1))))
  have KC := hid3 (show Chg (fun x => x = w.heap.size) w1 ((w1.setCell ⟨w.heap.size, 0, none⟩ (.int .u64 (xs 0))).setCell ⟨w.heap.size, 1, none⟩ (.int .u64 (xs 1))) from (((Chg.refl (fun x => x = w.heap.size) w1).cell (g := w.heap.size) (i := 0) (.inl rfl) (.int .u64 (xs 0))).cell (g := w.heap.size) (i := 1) (.inl rfl) (.int .u64 (xs 1))))
  have FF := hid3 (show FinR w kd_Account 2 mkA st (.returned (.tuple #[.agg #[.int .u64 (xs 0), .int .u64 (xs 1)], .int .i64 r])) ((w1.setCell ⟨w.heap.size, 0, none⟩ (.int .u64 (xs 0))).setCell ⟨w.heap.size, 1, none⟩ (.int .u64 (xs 1))) from ⟨⟨[.int .u64 (xs 0), .int .u64 (xs 1)], xs, r, rfl, rfl, (h2.off KC.out.size (fun y hy hy2 => KC.out.same y hy2 (fun e => by have e' : y = w.heap.size := e; have := HZ.out; omega))).low HB.out.size, h3, h4⟩, ((BF.setCell (p := ⟨w.heap.size, 0, none⟩) (Nat.le_refl _) (.int .u64 (xs 0))).setCell (p := ⟨w.heap.size, 1, none⟩) (Nat.le_refl _) (.int .u64 (xs 1)))⟩)
  clear h1 h2 h3 h4 B K1 BF HU KC HY HB q0 q1
  simp only [mkA]
  go_wp2
  refine bodyPost_ret (ret_rc rfl rfl rfl (ld_Account (KB.out.cell (i := 0) rfl) (KB.out.cell (i := 1) rfl))) rfl ?_
  exact FF.out
set_option maxHeartbeats 2000000 in
set_option maxRecDepth 100000 in
theorem PutVal_any {w : World} {x0 : Int} {x1 : Int} {a2 : Option Addr} {n2 c2 : Nat} {x2 : Int} {b3 : Bool} {x4 : Int} {b5 : Bool} {x6 : Int} {a7 : Option Addr} {n7 c7 : Nat} {x7 : Int} {a8 : Option Addr} {n8 c8 : Nat} {x8 : Int} {a9 : Option Addr} {n9 c9 : Nat} {x9 : Int} (h2 : NatA w a2 n2 c2 x2) (m2 : n2 ≤ 1000000) (h7 : NatA w a7 n7 c7 x7) (m7 : n7 ≤ 1000000) (h8 : NatA w a8 n8 c8 x8) (m8 : n8 ≤ 1000000) (h9 : NatA w a9 n9 c9 x9) (m9 : n9 ≤ 1000000) :
    Calls Tryz.prog 12 #[.agg #[.int .u64 x0, .int .u64 x1, .slice a2 n2 c2, .bool b3, .int .u64 x4, .bool b5, .int .u64 x6, .slice a7 n7 c7, .slice a8 n8 c8, .slice a9 n9 c9]] w fun e w' => ∃ b n, e = .returned (.slice (some ⟨b, 0, none⟩) n n) ∧ n = (thr (pnx (fun o => ([x0, x1, x2, (if b3 then 1 else 0), x4, (if b5 then 1 else 0), x6, x7, x8, x9] : List Int).getD o 0)) [(0, 0), (0, 1), (2, 2), (1, 3), (0, 4), (1, 5), (0, 6), (2, 7), (2, 8), (2, 9)] []).length ∧ Box w' b ((thr (pnx (fun o => ([x0, x1, x2, (if b3 then 1 else 0), x4, (if b5 then 1 else 0), x6, x7, x8, x9] : List Int).getD o 0)) [(0, 0), (0, 1), (2, 2), (1, 3), (0, 4), (1, 5), (0, 6), (2, 7), (2, 8), (2, 9)] []).map (Value.int .u8)) 5 ∧ w.heap.size ≤ b ∧ Below w.heap.size w w' := by
  have b1 := below_alloc w (.cells #[.int .u64 x0, .int .u64 x1, .slice a2 n2 c2, .bool b3, .int .u64 x4, .bool b5, .int .u64 x6, .slice a7 n7 c7, .slice a8 n8 c8, .slice a9 n9 c9] 34)
  have U := put_Val (h2.keep b1) m2 (h7.keep b1) m7 (h8.keep b1) m8 (h9.keep b1) m9 (x0 := x0) (x1 := x1) (x4 := x4) (x6 := x6) (b3 := b3) (b5 := b5) (w := w.alloc (.cells #[.int .u64 x0, .int .u64 x1, .slice a2 n2 c2, .bool b3, .int .u64 x4, .bool b5, .int .u64 x6, .slice a7 n7 c7, .slice a8 n8 c8, .slice a9 n9 c9] 34))
  have HB := hid3 b1
  generalize thr (pnx (fun o => ([x0, x1, x2, (if b3 then 1 else 0), x4, (if b5 then 1 else 0), x6, x7, x8, x9] : List Int).getD o 0)) [(0, 0), (0, 1), (2, 2), (1, 3), (0, 4), (1, 5), (0, 6), (2, 7), (2, 8), (2, 9)] [] = M at *
  have HU := hid3 U
  clear U
  go_enter Tryz.func12, Tryz.ntmps12
  go_wp2_with fail
  refine HU.out.mono ?_
  rintro e' w1 ⟨b, n, rfl, hn, X, hb, B⟩
  have FF := hid3 (show n = M.length ∧ Box w1 b (M.map (Value.int .u8)) 5 ∧ w.heap.size ≤ b ∧ Below w.heap.size w w1 from ⟨hn, X, Nat.le_trans HB.out.size hb, joinB HB.out B⟩)
  clear hn X hb B HU HB
  go_wp2
  go_ret
  exact ⟨b, n, rfl, FF.out⟩
set_option maxHeartbeats 4000000 in
set_option maxRecDepth 100000 in
theorem Val_any {w : World} {bb n c : Nat} {ao : Option Addr} {l : List Int} (A : ByA w bb ao n c l) (hn : n ≤ 1000000000) (hl : l.length = n) :
    Calls Tryz.prog 40 #[.slice ao n c] w (FinR w kd_Val 10 mkA (thr rnx [(0, 0), (0, 1), (2, 2), (1, 3), (0, 4), (1, 5), (0, 6), (2, 7), (2, 8), (2, 9)] (0, l, fun _ => (0 : Int)))) := by
  have b1 := below_alloc w (.cells #[.int .u64 0, .int .u64 0, .slice none 0 0, .bool false, .int .u64 0, .bool false, .int .u64 0, .slice none 0 0, .slice none 0 0, .slice none 0 0] 34)
  have y1 := blk_new w [.int .u64 0, .int .u64 0, .slice none 0 0, .bool false, .int .u64 0, .bool false, .int .u64 0, .slice none 0 0, .slice none 0 0, .slice none 0 0] 34
  have z1 := size_al w (.cells #[.int .u64 0, .int .u64 0, .slice none 0 0, .bool false, .int .u64 0, .bool false, .int .u64 0, .slice none 0 0, .slice none 0 0, .slice none 0 0] 34)
  have U := read_Val (A.keep b1) hn hl
  generalize thr rnx [(0, 0), (0, 1), (2, 2), (1, 3), (0, 4), (1, 5), (0, 6), (2, 7), (2, 8), (2, 9)] (0, l, fun _ => (0 : Int)) = st at *
  obtain ⟨W1, hW1⟩ : ∃ W1, Hid (w.alloc (.cells #[.int .u64 0, .int .u64 0, .slice none 0 0, .bool false, .int .u64 0, .bool false, .int .u64 0, .slice none 0 0, .slice none 0 0, .slice none 0 0] 34) = W1) := ⟨_, rfl⟩
  rw [hW1.out] at b1 y1 z1 U
  have HU := hid3 U
  have HB := hid3 b1
  have HY := hid3 y1
  have HZ := hid3 z1
  clear A hl b1 y1 z1 U
  go_enter Tryz.func40, Tryz.ntmps40
  go_wp2_with fail
  rw [hW1.out]
  refine HU.out.mono ?_
  rintro e' w1 ⟨⟨cs, xs, r, rfl, h1, h2, h3, h4⟩, B⟩
  have q0 := (h2 0).1 rfl
  have q1 := (h2 1).1 rfl
  obtain ⟨a2, n2, d2, q2, -, -⟩ := (h2 2).2.2 rfl
  obtain ⟨t3, q3, -⟩ := (h2 3).2.1 rfl
  have q4 := (h2 4).1 rfl
  obtain ⟨t5, q5, -⟩ := (h2 5).2.1 rfl
  have q6 := (h2 6).1 rfl
  obtain ⟨a7, n7, d7, q7, -, -⟩ := (h2 7).2.2 rfl
  obtain ⟨a8, n8, d8, q8, -, -⟩ := (h2 8).2.2 rfl
  obtain ⟨a9, n9, d9, q9, -, -⟩ := (h2 9).2.2 rfl
  have ecs : cs = [.int .u64 (xs 0), .int .u64 (xs 1), .slice a2 n2 d2, .bool t3, .int .u64 (xs 4), .bool t5, .int .u64 (xs 6), .slice a7 n7 d7, .slice a8 n8 d8, .slice a9 n9 d9] := by
    apply List.ext_getElem?
    intro i
    match i with
    | 0 => rw [q0]; rfl
    | 1 => rw [q1]; rfl
    | 2 => rw [q2]; rfl
    | 3 => rw [q3]; rfl
    | 4 => rw [q4]; rfl
    | 5 => rw [q5]; rfl
    | 6 => rw [q6]; rfl
    | 7 => rw [q7]; rfl
    | 8 => rw [q8]; rfl
    | 9 => rw [q9]; rfl
    | k + 10 => rw [List.getElem?_eq_none (by omega), List.getElem?_eq_none (by simp)]
  subst ecs
  have K1 := HY.out.keep B
  have BF := joinB HB.out B
  have u0 := K1.cell (i := 0) rfl
  have f0 := K1.free 0
  have u1 := K1.cell (i := 1) rfl
  have f1 := K1.free 1
  have u2 := K1.cell (i := 2) rfl
  have f2 := K1.free 2
  have u3 := K1.cell (i := 3) rfl
  have f3 := K1.free 3
  have u4 := K1.cell (i := 4) rfl
  have f4 := K1.free 4
  have u5 := K1.cell (i := 5) rfl
  have f5 := K1.free 5
  have u6 := K1.cell (i := 6) rfl
  have f6 := K1.free 6
  have u7 := K1.cell (i := 7) rfl
  have f7 := K1.free 7
  have u8 := K1.cell (i := 8) rfl
  have f8 := K1.free 8
  have u9 := K1.cell (i := 9) rfl
  have f9 := K1.free 9
  have KB := hid3 (show Blk ((((((((((w1.setCell ⟨w.heap.size, 0, none⟩ (.int .u64 (xs 0))).setCell ⟨w.heap.size, 1, none⟩ (.int .u64 (xs 1))).setCell ⟨w.heap.size, 2, none⟩ (.slice a2 n2 d2)).setCell ⟨w.heap.size, 3, none⟩ (.bool t3)).setCell ⟨w.heap.size, 4, none⟩ (.int .u64 (xs 4))).setCell ⟨w.heap.size, 5, none⟩ (.bool t5)).setCell ⟨w.heap.size, 6, none⟩ (.int .u64 (xs 6))).setCell ⟨w.heap.size, 7, none⟩ (.slice a7 n7 d7)).setCell ⟨w.heap.size, 8, none⟩ (.slice a8 n8 d8)).setCell ⟨w.heap.size, 9, none⟩ (.slice a9 n9 d9)) w.heap.size [.int .u64 (xs 0), .int .u64 (xs 1), .slice a2 n2 d2, .bool t3, .int .u64 (xs 4), .bool t5, .int .u64 (xs 6), .slice a7 n7 d7, .slice a8 n8 d8, .slice a9 n9 d9] 34 from ((((((((((K1.setCell (i := 0) (.int .u64 (xs 0))).setCell (i := 1) (.int .u64 (xs 1))).setCell (i := 2) (.slice a2 n2 d2)).setCell (i := 3) (.bool t3)).setCell (i := 4) (.int .u64 (xs 4))).setCell (i := 5) (.bool t5)).setCell (i := 6) (.int .u64 (xs 6))).setCell (i := 7) (.slice a7 n7 d7)).setCell (i := 8) (.slice a8 n8 d8)).setCell (i := 9) (.slice a9 n9 d9)))
  have KC := hid3 (show Chg (fun x => x = w.heap.size) w1 ((((((((((w1.setCell ⟨w.heap.size, 0, none⟩ (.int .u64 (xs 0))).setCell ⟨w.heap.size, 1, none⟩ (.int .u64 (xs 1))).setCell ⟨w.heap.size, 2, none⟩ (.slice a2 n2 d2)).setCell ⟨w.heap.size, 3, none⟩ (.bool t3)).setCell ⟨w.heap.size, 4, none⟩ (.int .u64 (xs 4))).setCell ⟨w.heap.size, 5, none⟩ (.bool t5)).setCell ⟨w.heap.size, 6, none⟩ (.int .u64 (xs 6))).setCell ⟨w.heap.size, 7, none⟩ (.slice a7 n7 d7)).setCell ⟨w.heap.size, 8, none⟩ (.slice a8 n8 d8)).setCell ⟨w.heap.size, 9, none⟩ (.slice a9 n9 d9)) from (((((((((((Chg.refl (fun x => x = w.heap.size) w1).cell (g := w.heap.size) (i := 0) (.inl rfl) (.int .u64 (xs 0))).cell (g := w.heap.size) (i := 1) (.inl rfl) (.int .u64 (xs 1))).cell (g := w.heap.size) (i := 2) (.inl rfl) (.slice a2 n2 d2)).cell (g := w.heap.size) (i := 3) (.inl rfl) (.bool t3)).cell (g := w.heap.size) (i := 4) (.inl rfl) (.int .u64 (xs 4))).cell (g := w.heap.size) (i := 5) (.inl rfl) (.bool t5)).cell (g := w.heap.size) (i := 6) (.inl rfl) (.int .u64 (xs 6))).cell (g := w.heap.size) (i := 7) (.inl rfl) (.slice a7 n7 d7)).cell (g := w.heap.size) (i := 8) (.inl rfl) (.slice a8 n8 d8)).cell (g := w.heap.size) (i := 9) (.inl rfl) (.slice a9 n9 d9)))
  have FF := hid3 (show FinR w kd_Val 10 mkA st (.returned (.tuple #[.agg #[.int .u64 (xs 0), .int .u64 (xs 1), .slice a2 n2 d2, .bool t3, .int .u64 (xs 4), .bool t5, .int .u64 (xs 6), .slice a7 n7 d7, .slice a8 n8 d8, .slice a9 n9 d9], .int .i64 r])) ((((((((((w1.setCell ⟨w.heap.size, 0, none⟩ (.int .u64 (xs 0))).setCell ⟨w.heap.size, 1, none⟩ (.int .u64 (xs 1))).setCell ⟨w.heap.size, 2, none⟩ (.slice a2 n2 d2)).setCell ⟨w.heap.size, 3, none⟩ (.bool t3)).setCell ⟨w.heap.size, 4, none⟩ (.int .u64 (xs 4))).setCell ⟨w.heap.size, 5, none⟩ (.bool t5)).setCell ⟨w.heap.size, 6, none⟩ (.int .u64 (xs 6))).setCell ⟨w.heap.size, 7, none⟩ (.slice a7 n7 d7)).setCell ⟨w.heap.size, 8, none⟩ (.slice a8 n8 d8)).setCell ⟨w.heap.size, 9, none⟩ (.slice a9 n9 d9)) from ⟨⟨[.int .u64 (xs 0), .int .u64 (xs 1), .slice a2 n2 d2, .bool t3, .int .u64 (xs 4), .bool t5, .int .u64 (xs 6), .slice a7 n7 d7, .slice a8 n8 d8, .slice a9 n9 d9], xs, r, rfl, rfl, (h2.off KC.out.size (fun y hy hy2 => KC.out.same y hy2 (fun e => by have e' : y = w.heap.size := e; have := HZ.out; omega))).low HB.out.size, h3, h4⟩, ((((((((((BF.setCell (p := ⟨w.heap.size, 0, none⟩) (Nat.le_refl _) (.int .u64 (xs 0))).setCell (p := ⟨w.heap.size, 1, none⟩) (Nat.le_refl _) (.int .u64 (xs 1))).setCell (p := ⟨w.heap.size, 2, none⟩) (Nat.le_refl _) (.slice a2 n2 d2)).setCell (p := ⟨w.heap.size, 3, none⟩) (Nat.le_refl _) (.bool t3)).setCell (p := ⟨w.heap.size, 4, none⟩) (Nat.le_refl _) (.int .u64 (xs 4))).setCell (p := ⟨w.heap.size, 5, none⟩) (Nat.le_refl _) (.bool t5)).setCell (p := ⟨w.heap.size, 6, none⟩) (Nat.le_refl _) (.int .u64 (xs 6))).setCell (p := ⟨w.heap.size, 7, none⟩) (Nat.le_refl _) (.slice a7 n7 d7)).setCell (p := ⟨w.heap.size, 8, none⟩) (Nat.le_refl _) (.slice a8 n8 d8)).setCell (p := ⟨w.heap.size, 9, none⟩) (Nat.le_refl _) (.slice a9 n9 d9))⟩)
  clear h1 h2 h3 h4 B K1 BF HU KC HY HB q0 q1 q2 q3 q4 q5 q6 q7 q8 q9
  simp only [mkA]
  go_wp2
  refine bodyPost_ret (ret_rc rfl rfl rfl (ld_Val (KB.out.cell (i := 0) rfl) (KB.out.cell (i := 1) rfl) (KB.out.cell (i := 2) rfl) (KB.out.cell (i := 3) rfl) (KB.out.cell (i := 4) rfl) (KB.out.cell (i := 5) rfl) (KB.out.cell (i := 6) rfl) (KB.out.cell (i := 7) rfl) (KB.out.cell (i := 8) rfl) (KB.out.cell (i := 9) rfl))) rfl ?_
  exact FF.out
set_option maxHeartbeats 2000000 in
set_option maxRecDepth 100000 in
theorem PutDelegation_any {w : World} {a0 : Option Addr} {n0 c0 : Nat} {x0 : Int} {x1 : Int} {a2 : Option Addr} {n2 c2 : Nat} {x2 : Int} (h0 : NatA w a0 n0 c0 x0) (m0 : n0 ≤ 1000000) (h2 : NatA w a2 n2 c2 x2) (m2 : n2 ≤ 1000000) :
    Calls Tryz.prog 13 #[.agg #[.slice a0 n0 c0, .int .u64 x1, .slice a2 n2 c2]] w fun e w' => ∃ b n, e = .returned (.slice (some ⟨b, 0, none⟩) n n) ∧ n = (thr (pnx (fun o => ([x0, x1, x2] : List Int).getD o 0)) [(2, 0), (0, 1), (2, 2)] []).length ∧ Box w' b ((thr (pnx (fun o => ([x0, x1, x2] : List Int).getD o 0)) [(2, 0), (0, 1), (2, 2)] []).map (Value.int .u8)) 5 ∧ w.heap.size ≤ b ∧ Below w.heap.size w w' := by
  have b1 := below_alloc w (.cells #[.slice a0 n0 c0, .int .u64 x1, .slice a2 n2 c2] 36)
  have U := put_Delegation (h0.keep b1) m0 (h2.keep b1) m2 (x1 := x1) (w := w.alloc (.cells #[.slice a0 n0 c0, .int .u64 x1, .slice a2 n2 c2] 36))
  have HB := hid3 b1
  generalize thr (pnx (fun o => ([x0, x1, x2] : List Int).getD o 0)) [(2, 0), (0, 1), (2, 2)] [] = M at *
  have HU := hid3 U
  clear U
  go_enter Tryz.func13, Tryz.ntmps13
  go_wp2_with fail
  refine HU.out.mono ?_
  rintro e' w1 ⟨b, n, rfl, hn, X, hb, B⟩
  have FF := hid3 (show n = M.length ∧ Box w1 b (M.map (Value.int .u8)) 5 ∧ w.heap.size ≤ b ∧ Below w.heap.size w w1 from ⟨hn, X, Nat.le_trans HB.out.size hb, joinB HB.out B⟩)
  clear hn X hb B HU HB
  go_wp2
  go_ret
  exact ⟨b, n, rfl, FF.out⟩
set_option maxHeartbeats 4000000 in
set_option maxRecDepth 100000 in
theorem Delegation_any {w : World} {bb n c : Nat} {ao : Option Addr} {l : List Int} (A : ByA w bb ao n c l) (hn : n ≤ 1000000000) (hl : l.length = n) :
    Calls Tryz.prog 79 #[.slice ao n c] w (FinR w kd_Delegation 3 mkA (thr rnx [(2, 0), (0, 1), (2, 2)] (0, l, fun _ => (0 : Int)))) := by
  have b1 := below_alloc w (.cells #[.slice none 0 0, .int .u64 0, .slice none 0 0] 36)
  have y1 := blk_new w [.slice none 0 0, .int .u64 0, .slice none 0 0] 36
  have z1 := size_al w (.cells #[.slice none 0 0, .int .u64 0, .slice none 0 0] 36)
  have U := read_Delegation (A.keep b1) hn hl
  generalize thr rnx [(2, 0), (0, 1), (2, 2)] (0, l, fun _ => (0 : Int)) = st at *
  obtain ⟨W1, hW1⟩ : ∃ W1, Hid (w.alloc (.cells #[.slice none 0 0, .int .u64 0, .slice none 0 0] 36) = W1) := ⟨_, rfl⟩
  rw [hW1.out] at b1 y1 z1 U
  have HU := hid3 U
  have HB := hid3 b1
  have HY := hid3 y1
  have HZ := hid3 z1
  clear A hl b1 y1 z1 U
  go_enter Tryz.func79, Tryz.ntmps79
  go_wp2_with fail
  rw [hW1.out]
  refine HU.out.mono ?_
  rintro e' w1 ⟨⟨cs, xs, r, rfl, h1, h2, h3, h4⟩, B⟩
  obtain ⟨a0, n0, d0, q0, -, -⟩ := (h2 0).2.2 rfl
  have q1 := (h2 1).1 rfl
  obtain ⟨a2, n2, d2, q2, -, -⟩ := (h2 2).2.2 rfl
  have ecs : cs = [.slice a0 n0 d0, .int .u64 (xs 1), .slice a2 n2 d2] := by
    apply List.ext_getElem?
    intro i
    match i with
    | 0 => rw [q0]; rfl
    | 1 => rw [q1]; rfl
    | 2 => rw [q2]; rfl
    | k + 3 => rw [List.getElem?_eq_none (by omega), List.getElem?_eq_none (by simp)]
  subst ecs
  have K1 := HY.out.keep B
  have BF := joinB HB.out B
  have u0 := K1.cell (i := 0) rfl
  have f0 := K1.free 0
  have u1 := K1.cell (i := 1) rfl
  have f1 := K1.free 1
  have u2 := K1.cell (i := 2) rfl
  have f2 := K1.free 2
  have KB := hid3 (show Blk (((w1.setCell ⟨w.heap.size, 0, none⟩ (.slice a0 n0 d0)).setCell ⟨w.heap.size, 1, none⟩ (.int .u64 (xs 1))).setCell ⟨w.heap.size, 2, none⟩ (.slice a2 n2 d2)) w.heap.size [.slice a0 n0 d0, .int .u64 (xs 1), .slice a2 n2 d2] 36 from (((K1.setCell (i := 0) (.slice a0 n0 d0)).setCell (i := 1) (.int .u64 (xs 1))).setCell (i := 2) (.slice a2 n2 d2)))
  have KC := hid3 (show Chg (fun x => x = w.heap.size) w1 (((w1.setCell ⟨w.heap.size, 0, none⟩ (.slice a0 n0 d0)).setCell ⟨w.heap.size, 1, none⟩ (.int .u64 (xs 1))).setCell ⟨w.heap.size, 2, none⟩ (.slice a2 n2 d2)) from ((((Chg.refl (fun x => x = w.heap.size) w1).cell (g := w.heap.size) (i := 0) (.inl rfl) (.slice a0 n0 d0)).cell (g := w.heap.size) (i := 1) (.inl rfl) (.int .u64 (xs 1))).cell (g := w.heap.size) (i := 2) (.inl rfl) (.slice a2 n2 d2)))
  have FF := hid3 (show FinR w kd_Delegation 3 mkA st (.returned (.tuple #[.agg #[.slice a0 n0 d0, .int .u64 (xs 1), .slice a2 n2 d2], .int .i64 r])) (((w1.setCell ⟨w.heap.size, 0, none⟩ (.slice a0 n0 d0)).setCell ⟨w.heap.size, 1, none⟩ (.int .u64 (xs 1))).setCell ⟨w.heap.size, 2, none⟩ (.slice a2 n2 d2)) from ⟨⟨[.slice a0 n0 d0, .int .u64 (xs 1), .slice a2 n2 d2], xs, r, rfl, rfl, (h2.off KC.out.size (fun y hy hy2 => KC.out.same y hy2 (fun e => by have e' : y = w.heap.size := e; have := HZ.out; omega))).low HB.out.size, h3, h4⟩, (((BF.setCell (p := ⟨w.heap.size, 0, none⟩) (Nat.le_refl _) (.slice a0 n0 d0)).setCell (p := ⟨w.heap.size, 1, none⟩) (Nat.le_refl _) (.int .u64 (xs 1))).setCell (p := ⟨w.heap.size, 2, none⟩) (Nat.le_refl _) (.slice a2 n2 d2))⟩)
  clear h1 h2 h3 h4 B K1 BF HU KC HY HB q0 q1 q2
  simp only [mkA]
  go_wp2
  refine bodyPost_ret (ret_rc rfl rfl rfl (ld_Delegation (KB.out.cell (i := 0) rfl) (KB.out.cell (i := 1) rfl) (KB.out.cell (i := 2) rfl))) rfl ?_
  exact FF.out
set_option maxHeartbeats 2000000 in
set_option maxRecDepth 100000 in
theorem PutHistory_any {w : World} {a0 : Option Addr} {n0 c0 : Nat} {x0 : Int} {x1 : Int} (h0 : NatA w a0 n0 c0 x0) (m0 : n0 ≤ 1000000) :
    Calls Tryz.prog 14 #[.agg #[.slice a0 n0 c0, .int .u64 x1]] w fun e w' => ∃ b n, e = .returned (.slice (some ⟨b, 0, none⟩) n n) ∧ n = (thr (pnx (fun o => ([x0, x1] : List Int).getD o 0)) [(2, 0), (0, 1)] []).length ∧ Box w' b ((thr (pnx (fun o => ([x0, x1] : List Int).getD o 0)) [(2, 0), (0, 1)] []).map (Value.int .u8)) 5 ∧ w.heap.size ≤ b ∧ Below w.heap.size w w' := by
  have b1 := below_alloc w (.cells #[.slice a0 n0 c0, .int .u64 x1] 38)
  have U := put_History (h0.keep b1) m0 (x1 := x1) (w := w.alloc (.cells #[.slice a0 n0 c0, .int .u64 x1] 38))
  have HB := hid3 b1
  generalize thr (pnx (fun o => ([x0, x1] : List Int).getD o 0)) [(2, 0), (0, 1)] [] = M at *
  have HU := hid3 U
  clear U
  go_enter Tryz.func14, Tryz.ntmps14
  go_wp2_with fail
  refine HU.out.mono ?_
  rintro e' w1 ⟨b, n, rfl, hn, X, hb, B⟩
  have FF := hid3 (show n = M.length ∧ Box w1 b (M.map (Value.int .u8)) 5 ∧ w.heap.size ≤ b ∧ Below w.heap.size w w1 from ⟨hn, X, Nat.le_trans HB.out.size hb, joinB HB.out B⟩)
  clear hn X hb B HU HB
  go_wp2
  go_ret
  exact ⟨b, n, rfl, FF.out⟩
set_option maxHeartbeats 4000000 in
set_option maxRecDepth 100000 in
theorem History_any {w : World} {bb n c : Nat} {ao : Option Addr} {l : List Int} (A : ByA w bb ao n c l) (hn : n ≤ 1000000000) (hl : l.length = n) :
    Calls Tryz.prog 41 #[.slice ao n c] w (FinR w kd_History 2 mkA (thr rnx [(2, 0), (0, 1)] (0, l, fun _ => (0 : Int)))) := by
  have b1 := below_alloc w (.cells #[.slice none 0 0, .int .u64 0] 38)
  have y1 := blk_new w [.slice none 0 0, .int .u64 0] 38
  have z1 := size_al w (.cells #[.slice none 0 0, .int .u64 0] 38)
  have U := read_History (A.keep b1) hn hl
  generalize thr rnx [(2, 0), (0, 1)] (0, l, fun _ => (0 : Int)) = st at *
  obtain ⟨W1, hW1⟩ : ∃ W1, Hid (w.alloc (.cells #[.slice none 0 0, .int .u64 0] 38) = W1) := ⟨_, rfl⟩
  rw [hW1.out] at b1 y1 z1 U
  have HU := hid3 U
  have HB := hid3 b1
  have HY := hid3 y1
  have HZ := hid3 z1
  clear A hl b1 y1 z1 U
  go_enter Tryz.func41, Tryz.ntmps41
  go_wp2_with fail
  rw [hW1.out]
  refine HU.out.mono ?_
  rintro e' w1 ⟨⟨cs, xs, r, rfl, h1, h2, h3, h4⟩, B⟩
  obtain ⟨a0, n0, d0, q0, -, -⟩ := (h2 0).2.2 rfl
  have q1 := (h2 1).1 rfl
  have ecs : cs = [.slice a0 n0 d0, .int .u64 (xs 1)] := by
    apply List.ext_getElem?
    intro i
    match i with
    | 0 => rw [q0]; rfl
    | 1 => rw [q1]; rfl
    | k + 2 => rw [List.getElem?_eq_none (by omega), List.getElem?_eq_none (by simp)]
  subst ecs
  have K1 := HY.out.keep B
  have BF := joinB HB.out B
  have u0 := K1.cell (i := 0) rfl
  have f0 := K1.free 0
  have u1 := K1.cell (i := 1) rfl
  have f1 := K1.free 1
  have KB := hid3 (show Blk ((w1.setCell ⟨w.heap.size, 0, none⟩ (.slice a0 n0 d0)).setCell ⟨w.heap.size, 1, none⟩ (.int .u64 (xs 1))) w.heap.size [.slice a0 n0 d0, .int .u64 (xs 1)] 38 from ((K1.setCell (i := 0) (.slice a0 n0 d0)).setCell (i := 1) (.int .u64 (xs 1))))
  have KC := hid3 (show Chg (fun x => x = w.heap.size) w1 ((w1.setCell ⟨w.heap.size, 0, none⟩ (.slice a0 n0 d0)).setCell ⟨w.heap.size, 1, none⟩ (.int .u64 (xs 1))) from (((Chg.refl (fun x => x = w.heap.size) w1).cell (g := w.heap.size) (i := 0) (.inl rfl) (.slice a0 n0 d0)).cell (g := w.heap.size) (i := 1) (.inl rfl) (.int .u64 (xs 1))))
  have FF := hid3 (show FinR w kd_History 2 mkA st (.returned (.tuple #[.agg #[.slice a0 n0 d0, .int .u64 (xs 1)], .int .i64 r])) ((w1.setCell ⟨w.heap.size, 0, none⟩ (.slice a0 n0 d0)).setCell ⟨w.heap.size, 1, none⟩ (.int .u64 (xs 1))) from ⟨⟨[.slice a0 n0 d0, .int .u64 (xs 1)], xs, r, rfl, rfl, (h2.off KC.out.size (fun y hy hy2 => KC.out.same y hy2 (fun e => by have e' : y = w.heap.size := e; have := HZ.out; omega))).low HB.out.size, h3, h4⟩, ((BF.setCell (p := ⟨w.heap.size, 0, none⟩) (Nat.le_refl _) (.slice a0 n0 d0)).setCell (p := ⟨w.heap.size, 1, none⟩) (Nat.le_refl _) (.int .u64 (xs 1)))⟩)
  clear h1 h2 h3 h4 B K1 BF HU KC HY HB q0 q1
  simp only [mkA]
  go_wp2
  refine bodyPost_ret (ret_rc rfl rfl rfl (ld_History (KB.out.cell (i := 0) rfl) (KB.out.cell (i := 1) rfl))) rfl ?_
  exact FF.out
set_option maxHeartbeats 2000000 in
set_option maxRecDepth 100000 in
theorem PutCut_any {w : World} {x0 : Int} {x1 : Int} :
    Calls Tryz.prog 15 #[.agg #[.int .u64 x0, .int .u64 x1]] w fun e w' => ∃ b n, e = .returned (.slice (some ⟨b, 0, none⟩) n n) ∧ n = (thr (pnx (fun o => ([x0, x1] : List Int).getD o 0)) [(0, 0), (0, 1)] []).length ∧ Box w' b ((thr (pnx (fun o => ([x0, x1] : List Int).getD o 0)) [(0, 0), (0, 1)] []).map (Value.int .u8)) 5 ∧ w.heap.size ≤ b ∧ Below w.heap.size w w' := by
  have b1 := below_alloc w (.cells #[.int .u64 x0, .int .u64 x1] 40)
  have U := put_Cut (x0 := x0) (x1 := x1) (w := w.alloc (.cells #[.int .u64 x0, .int .u64 x1] 40))
  have HB := hid3 b1
  generalize thr (pnx (fun o => ([x0, x1] : List Int).getD o 0)) [(0, 0), (0, 1)] [] = M at *
  have HU := hid3 U
  clear U
  go_enter Tryz.func15, Tryz.ntmps15
  go_wp2_with fail
  refine HU.out.mono ?_
  rintro e' w1 ⟨b, n, rfl, hn, X, hb, B⟩
  have FF := hid3 (show n = M.length ∧ Box w1 b (M.map (Value.int .u8)) 5 ∧ w.heap.size ≤ b ∧ Below w.heap.size w w1 from ⟨hn, X, Nat.le_trans HB.out.size hb, joinB HB.out B⟩)
  clear hn X hb B HU HB
  go_wp2
  go_ret
  exact ⟨b, n, rfl, FF.out⟩
set_option maxHeartbeats 4000000 in
set_option maxRecDepth 100000 in
theorem Cut_any {w : World} {bb n c : Nat} {ao : Option Addr} {l : List Int} (A : ByA w bb ao n c l) (hn : n ≤ 1000000000) (hl : l.length = n) :
    Calls Tryz.prog 38 #[.slice ao n c] w (FinR w kd_Cut 2 mkA (thr rnx [(0, 0), (0, 1)] (0, l, fun _ => (0 : Int)))) := by
  have b1 := below_alloc w (.cells #[.int .u64 0, .int .u64 0] 40)
  have y1 := blk_new w [.int .u64 0, .int .u64 0] 40
  have z1 := size_al w (.cells #[.int .u64 0, .int .u64 0] 40)
  have U := read_Cut (A.keep b1) hn hl
  generalize thr rnx [(0, 0), (0, 1)] (0, l, fun _ => (0 : Int)) = st at *
  obtain ⟨W1, hW1⟩ : ∃ W1, Hid (w.alloc (.cells #[.int .u64 0, .int .u64 0] 40) = W1) := ⟨_, rfl⟩
  rw [hW1.out] at b1 y1 z1 U
  have HU := hid3 U
  have HB := hid3 b1
  have HY := hid3 y1
  have HZ := hid3 z1
  clear A hl b1 y1 z1 U
  go_enter Tryz.func38, Tryz.ntmps38
  go_wp2_with fail
  rw [hW1.out]
  refine HU.out.mono ?_
  rintro e' w1 ⟨⟨cs, xs, r, rfl, h1, h2, h3, h4⟩, B⟩
  have q0 := (h2 0).1 rfl
  have q1 := (h2 1).1 rfl
  have ecs : cs = [.int .u64 (xs 0), .int .u64 (xs 1)] := by
    apply List.ext_getElem?
    intro i
    match i with
    | 0 => rw [q0]; rfl
    | 1 => rw [q1]; rfl
    | k + 2 => rw [List.getElem?_eq_none (by omega), List.getElem?_eq_none (by simp)]
  subst ecs
  have K1 := HY.out.keep B
  have BF := joinB HB.out B
  have u0 := K1.cell (i := 0) rfl
  have f0 := K1.free 0
  have u1 := K1.cell (i := 1) rfl
  have f1 := K1.free 1
  have KB := hid3 (show Blk ((w1.setCell ⟨w.heap.size, 0, none⟩ (.int .u64 (xs 0))).setCell ⟨w.heap.size, 1, none⟩ (.int .u64 (xs 1))) w.heap.size [.int .u64 (xs 0), .int .u64 (xs 1)] 40 from ((K1.setCell (i := 0) (.int .u64 (xs 0))).setCell (i := 1) (.int .u64 (xs 1))))
  have KC := hid3 (show Chg (fun x => x = w.heap.size) w1 ((w1.setCell ⟨w.heap.size, 0, none⟩ (.int .u64 (xs 0))).setCell ⟨w.heap.size, 1, none⟩ (.int .u64 (xs 1))) from (((Chg.refl (fun x => x = w.heap.size) w1).cell (g := w.heap.size) (i := 0) (.inl rfl) (.int .u64 (xs 0))).cell (g := w.heap.size) (i := 1) (.inl rfl) (.int .u64 (xs 1))))
  have FF := hid3 (show FinR w kd_Cut 2 mkA st (.returned (.tuple #[.agg #[.int .u64 (xs 0), .int .u64 (xs 1)], .int .i64 r])) ((w1.setCell ⟨w.heap.size, 0, none⟩ (.int .u64 (xs 0))).setCell ⟨w.heap.size, 1, none⟩ (.int .u64 (xs 1))) from ⟨⟨[.int .u64 (xs 0), .int .u64 (xs 1)], xs, r, rfl, rfl, (h2.off KC.out.size (fun y hy hy2 => KC.out.same y hy2 (fun e => by have e' : y = w.heap.size := e; have := HZ.out; omega))).low HB.out.size, h3, h4⟩, ((BF.setCell (p := ⟨w.heap.size, 0, none⟩) (Nat.le_refl _) (.int .u64 (xs 0))).setCell (p := ⟨w.heap.size, 1, none⟩) (Nat.le_refl _) (.int .u64 (xs 1)))⟩)
  clear h1 h2 h3 h4 B K1 BF HU KC HY HB q0 q1
  simp only [mkA]
  go_wp2
  refine bodyPost_ret (ret_rc rfl rfl rfl (ld_Cut (KB.out.cell (i := 0) rfl) (KB.out.cell (i := 1) rfl))) rfl ?_
  exact FF.out
set_option maxHeartbeats 2000000 in
set_option maxRecDepth 100000 in
theorem PutUnbonding_any {w : World} {x0 : Int} {x1 : Int} {x2 : Int} {x3 : Int} {x4 : Int} {x5 : Int} :
    Calls Tryz.prog 16 #[.agg #[.int .u64 x0, .int .u64 x1, .int .u64 x2, .int .u64 x3, .int .u64 x4, .int .u64 x5]] w fun e w' => ∃ b n, e = .returned (.slice (some ⟨b, 0, none⟩) n n) ∧ n = (thr (pnx (fun o => ([x0, x1, x2, x3, x4, x5] : List Int).getD o 0)) [(0, 0), (0, 1), (0, 2), (0, 3), (0, 4), (0, 5)] []).length ∧ Box w' b ((thr (pnx (fun o => ([x0, x1, x2, x3, x4, x5] : List Int).getD o 0)) [(0, 0), (0, 1), (0, 2), (0, 3), (0, 4), (0, 5)] []).map (Value.int .u8)) 5 ∧ w.heap.size ≤ b ∧ Below w.heap.size w w' := by
  have b1 := below_alloc w (.cells #[.int .u64 x0, .int .u64 x1, .int .u64 x2, .int .u64 x3, .int .u64 x4, .int .u64 x5] 42)
  have U := put_Unbonding (x0 := x0) (x1 := x1) (x2 := x2) (x3 := x3) (x4 := x4) (x5 := x5) (w := w.alloc (.cells #[.int .u64 x0, .int .u64 x1, .int .u64 x2, .int .u64 x3, .int .u64 x4, .int .u64 x5] 42))
  have HB := hid3 b1
  generalize thr (pnx (fun o => ([x0, x1, x2, x3, x4, x5] : List Int).getD o 0)) [(0, 0), (0, 1), (0, 2), (0, 3), (0, 4), (0, 5)] [] = M at *
  have HU := hid3 U
  clear U
  go_enter Tryz.func16, Tryz.ntmps16
  go_wp2_with fail
  refine HU.out.mono ?_
  rintro e' w1 ⟨b, n, rfl, hn, X, hb, B⟩
  have FF := hid3 (show n = M.length ∧ Box w1 b (M.map (Value.int .u8)) 5 ∧ w.heap.size ≤ b ∧ Below w.heap.size w w1 from ⟨hn, X, Nat.le_trans HB.out.size hb, joinB HB.out B⟩)
  clear hn X hb B HU HB
  go_wp2
  go_ret
  exact ⟨b, n, rfl, FF.out⟩
set_option maxHeartbeats 4000000 in
set_option maxRecDepth 100000 in
theorem Unbonding_any {w : World} {bb n c : Nat} {ao : Option Addr} {l : List Int} (A : ByA w bb ao n c l) (hn : n ≤ 1000000000) (hl : l.length = n) :
    Calls Tryz.prog 84 #[.slice ao n c] w (FinR w kd_Unbonding 6 mkA (thr rnx [(0, 0), (0, 1), (0, 2), (0, 3), (0, 4), (0, 5)] (0, l, fun _ => (0 : Int)))) := by
  have b1 := below_alloc w (.cells #[.int .u64 0, .int .u64 0, .int .u64 0, .int .u64 0, .int .u64 0, .int .u64 0] 42)
  have y1 := blk_new w [.int .u64 0, .int .u64 0, .int .u64 0, .int .u64 0, .int .u64 0, .int .u64 0] 42
  have z1 := size_al w (.cells #[.int .u64 0, .int .u64 0, .int .u64 0, .int .u64 0, .int .u64 0, .int .u64 0] 42)
  have U := read_Unbonding (A.keep b1) hn hl
  generalize thr rnx [(0, 0), (0, 1), (0, 2), (0, 3), (0, 4), (0, 5)] (0, l, fun _ => (0 : Int)) = st at *
  obtain ⟨W1, hW1⟩ : ∃ W1, Hid (w.alloc (.cells #[.int .u64 0, .int .u64 0, .int .u64 0, .int .u64 0, .int .u64 0, .int .u64 0] 42) = W1) := ⟨_, rfl⟩
  rw [hW1.out] at b1 y1 z1 U
  have HU := hid3 U
  have HB := hid3 b1
  have HY := hid3 y1
  have HZ := hid3 z1
  clear A hl b1 y1 z1 U
  go_enter Tryz.func84, Tryz.ntmps84
  go_wp2_with fail
  rw [hW1.out]
  refine HU.out.mono ?_
  rintro e' w1 ⟨⟨cs, xs, r, rfl, h1, h2, h3, h4⟩, B⟩
  have q0 := (h2 0).1 rfl
  have q1 := (h2 1).1 rfl
  have q2 := (h2 2).1 rfl
  have q3 := (h2 3).1 rfl
  have q4 := (h2 4).1 rfl
  have q5 := (h2 5).1 rfl
  have ecs : cs = [.int .u64 (xs 0), .int .u64 (xs 1), .int .u64 (xs 2), .int .u64 (xs 3), .int .u64 (xs 4), .int .u64 (xs 5)] := by
    apply List.ext_getElem?
    intro i
    match i with
    | 0 => rw [q0]; rfl
    | 1 => rw [q1]; rfl
    | 2 => rw [q2]; rfl
    | 3 => rw [q3]; rfl
    | 4 => rw [q4]; rfl
    | 5 => rw [q5]; rfl
    | k + 6 => rw [List.getElem?_eq_none (by omega), List.getElem?_eq_none (by simp)]
  subst ecs
  have K1 := HY.out.keep B
  have BF := joinB HB.out B
  have u0 := K1.cell (i := 0) rfl
  have f0 := K1.free 0
  have u1 := K1.cell (i := 1) rfl
  have f1 := K1.free 1
  have u2 := K1.cell (i := 2) rfl
  have f2 := K1.free 2
  have u3 := K1.cell (i := 3) rfl
  have f3 := K1.free 3
  have u4 := K1.cell (i := 4) rfl
  have f4 := K1.free 4
  have u5 := K1.cell (i := 5) rfl
  have f5 := K1.free 5
  have KB := hid3 (show Blk ((((((w1.setCell ⟨w.heap.size, 0, none⟩ (.int .u64 (xs 0))).setCell ⟨w.heap.size, 1, none⟩ (.int .u64 (xs 1))).setCell ⟨w.heap.size, 2, none⟩ (.int .u64 (xs 2))).setCell ⟨w.heap.size, 3, none⟩ (.int .u64 (xs 3))).setCell ⟨w.heap.size, 4, none⟩ (.int .u64 (xs 4))).setCell ⟨w.heap.size, 5, none⟩ (.int .u64 (xs 5))) w.heap.size [.int .u64 (xs 0), .int .u64 (xs 1), .int .u64 (xs 2), .int .u64 (xs 3), .int .u64 (xs 4), .int .u64 (xs 5)] 42 from ((((((K1.setCell (i := 0) (.int .u64 (xs 0))).setCell (i := 1) (.int .u64 (xs 1))).setCell (i := 2) (.int .u64 (xs 2))).setCell (i := 3) (.int .u64 (xs 3))).setCell (i := 4) (.int .u64 (xs 4))).setCell (i := 5) (.int .u64 (xs 5))))
  have KC := hid3 (show Chg (fun x => x = w.heap.size) w1 ((((((w1.setCell ⟨w.heap.size, 0, none⟩ (.int .u64 (xs 0))).setCell ⟨w.heap.size, 1, none⟩ (.int .u64 (xs 1))).setCell ⟨w.heap.size, 2, none⟩ (.int .u64 (xs 2))).setCell ⟨w.heap.size, 3, none⟩ (.int .u64 (xs 3))).setCell ⟨w.heap.size, 4, none⟩ (.int .u64 (xs 4))).setCell ⟨w.heap.size, 5, none⟩ (.int .u64 (xs 5))) from (((((((Chg.refl (fun x => x = w.heap.size) w1).cell (g := w.heap.size) (i := 0) (.inl rfl) (.int .u64 (xs 0))).cell (g := w.heap.size) (i := 1) (.inl rfl) (.int .u64 (xs 1))).cell (g := w.heap.size) (i := 2) (.inl rfl) (.int .u64 (xs 2))).cell (g := w.heap.size) (i := 3) (.inl rfl) (.int .u64 (xs 3))).cell (g := w.heap.size) (i := 4) (.inl rfl) (.int .u64 (xs 4))).cell (g := w.heap.size) (i := 5) (.inl rfl) (.int .u64 (xs 5))))
  have FF := hid3 (show FinR w kd_Unbonding 6 mkA st (.returned (.tuple #[.agg #[.int .u64 (xs 0), .int .u64 (xs 1), .int .u64 (xs 2), .int .u64 (xs 3), .int .u64 (xs 4), .int .u64 (xs 5)], .int .i64 r])) ((((((w1.setCell ⟨w.heap.size, 0, none⟩ (.int .u64 (xs 0))).setCell ⟨w.heap.size, 1, none⟩ (.int .u64 (xs 1))).setCell ⟨w.heap.size, 2, none⟩ (.int .u64 (xs 2))).setCell ⟨w.heap.size, 3, none⟩ (.int .u64 (xs 3))).setCell ⟨w.heap.size, 4, none⟩ (.int .u64 (xs 4))).setCell ⟨w.heap.size, 5, none⟩ (.int .u64 (xs 5))) from ⟨⟨[.int .u64 (xs 0), .int .u64 (xs 1), .int .u64 (xs 2), .int .u64 (xs 3), .int .u64 (xs 4), .int .u64 (xs 5)], xs, r, rfl, rfl, (h2.off KC.out.size (fun y hy hy2 => KC.out.same y hy2 (fun e => by have e' : y = w.heap.size := e; have := HZ.out; omega))).low HB.out.size, h3, h4⟩, ((((((BF.setCell (p := ⟨w.heap.size, 0, none⟩) (Nat.le_refl _) (.int .u64 (xs 0))).setCell (p := ⟨w.heap.size, 1, none⟩) (Nat.le_refl _) (.int .u64 (xs 1))).setCell (p := ⟨w.heap.size, 2, none⟩) (Nat.le_refl _) (.int .u64 (xs 2))).setCell (p := ⟨w.heap.size, 3, none⟩) (Nat.le_refl _) (.int .u64 (xs 3))).setCell (p := ⟨w.heap.size, 4, none⟩) (Nat.le_refl _) (.int .u64 (xs 4))).setCell (p := ⟨w.heap.size, 5, none⟩) (Nat.le_refl _) (.int .u64 (xs 5)))⟩)
  clear h1 h2 h3 h4 B K1 BF HU KC HY HB q0 q1 q2 q3 q4 q5
  simp only [mkA]
  go_wp2
  refine bodyPost_ret (ret_rc rfl rfl rfl (ld_Unbonding (KB.out.cell (i := 0) rfl) (KB.out.cell (i := 1) rfl) (KB.out.cell (i := 2) rfl) (KB.out.cell (i := 3) rfl) (KB.out.cell (i := 4) rfl) (KB.out.cell (i := 5) rfl))) rfl ?_
  exact FF.out
set_option maxHeartbeats 2000000 in
set_option maxRecDepth 100000 in
theorem PutMove_any {w : World} {x0 : Int} {x1 : Int} {x2 : Int} {x3 : Int} {x4 : Int} {x5 : Int} {a6 : Option Addr} {n6 c6 : Nat} {x6 : Int} (h6 : NatA w a6 n6 c6 x6) (m6 : n6 ≤ 1000000) :
    Calls Tryz.prog 17 #[.agg #[.int .u64 x0, .int .u64 x1, .int .u64 x2, .int .u64 x3, .int .u64 x4, .int .u64 x5, .slice a6 n6 c6]] w fun e w' => ∃ b n, e = .returned (.slice (some ⟨b, 0, none⟩) n n) ∧ n = (thr (pnx (fun o => ([x0, x1, x2, x3, x4, x5, x6] : List Int).getD o 0)) [(0, 0), (0, 1), (0, 2), (0, 3), (0, 4), (0, 5), (2, 6)] []).length ∧ Box w' b ((thr (pnx (fun o => ([x0, x1, x2, x3, x4, x5, x6] : List Int).getD o 0)) [(0, 0), (0, 1), (0, 2), (0, 3), (0, 4), (0, 5), (2, 6)] []).map (Value.int .u8)) 5 ∧ w.heap.size ≤ b ∧ Below w.heap.size w w' := by
  have b1 := below_alloc w (.cells #[.int .u64 x0, .int .u64 x1, .int .u64 x2, .int .u64 x3, .int .u64 x4, .int .u64 x5, .slice a6 n6 c6] 44)
  have U := put_Move (h6.keep b1) m6 (x0 := x0) (x1 := x1) (x2 := x2) (x3 := x3) (x4 := x4) (x5 := x5) (w := w.alloc (.cells #[.int .u64 x0, .int .u64 x1, .int .u64 x2, .int .u64 x3, .int .u64 x4, .int .u64 x5, .slice a6 n6 c6] 44))
  have HB := hid3 b1
  generalize thr (pnx (fun o => ([x0, x1, x2, x3, x4, x5, x6] : List Int).getD o 0)) [(0, 0), (0, 1), (0, 2), (0, 3), (0, 4), (0, 5), (2, 6)] [] = M at *
  have HU := hid3 U
  clear U
  go_enter Tryz.func17, Tryz.ntmps17
  go_wp2_with fail
  refine HU.out.mono ?_
  rintro e' w1 ⟨b, n, rfl, hn, X, hb, B⟩
  have FF := hid3 (show n = M.length ∧ Box w1 b (M.map (Value.int .u8)) 5 ∧ w.heap.size ≤ b ∧ Below w.heap.size w w1 from ⟨hn, X, Nat.le_trans HB.out.size hb, joinB HB.out B⟩)
  clear hn X hb B HU HB
  go_wp2
  go_ret
  exact ⟨b, n, rfl, FF.out⟩
set_option maxHeartbeats 4000000 in
set_option maxRecDepth 100000 in
theorem Move_any {w : World} {bb n c : Nat} {ao : Option Addr} {l : List Int} (A : ByA w bb ao n c l) (hn : n ≤ 1000000000) (hl : l.length = n) :
    Calls Tryz.prog 86 #[.slice ao n c] w (FinR w kd_Move 7 mkA (thr rnx [(0, 0), (0, 1), (0, 2), (0, 3), (0, 4), (0, 5), (2, 6)] (0, l, fun _ => (0 : Int)))) := by
  have b1 := below_alloc w (.cells #[.int .u64 0, .int .u64 0, .int .u64 0, .int .u64 0, .int .u64 0, .int .u64 0, .slice none 0 0] 44)
  have y1 := blk_new w [.int .u64 0, .int .u64 0, .int .u64 0, .int .u64 0, .int .u64 0, .int .u64 0, .slice none 0 0] 44
  have z1 := size_al w (.cells #[.int .u64 0, .int .u64 0, .int .u64 0, .int .u64 0, .int .u64 0, .int .u64 0, .slice none 0 0] 44)
  have U := read_Move (A.keep b1) hn hl
  generalize thr rnx [(0, 0), (0, 1), (0, 2), (0, 3), (0, 4), (0, 5), (2, 6)] (0, l, fun _ => (0 : Int)) = st at *
  obtain ⟨W1, hW1⟩ : ∃ W1, Hid (w.alloc (.cells #[.int .u64 0, .int .u64 0, .int .u64 0, .int .u64 0, .int .u64 0, .int .u64 0, .slice none 0 0] 44) = W1) := ⟨_, rfl⟩
  rw [hW1.out] at b1 y1 z1 U
  have HU := hid3 U
  have HB := hid3 b1
  have HY := hid3 y1
  have HZ := hid3 z1
  clear A hl b1 y1 z1 U
  go_enter Tryz.func86, Tryz.ntmps86
  go_wp2_with fail
  rw [hW1.out]
  refine HU.out.mono ?_
  rintro e' w1 ⟨⟨cs, xs, r, rfl, h1, h2, h3, h4⟩, B⟩
  have q0 := (h2 0).1 rfl
  have q1 := (h2 1).1 rfl
  have q2 := (h2 2).1 rfl
  have q3 := (h2 3).1 rfl
  have q4 := (h2 4).1 rfl
  have q5 := (h2 5).1 rfl
  obtain ⟨a6, n6, d6, q6, -, -⟩ := (h2 6).2.2 rfl
  have ecs : cs = [.int .u64 (xs 0), .int .u64 (xs 1), .int .u64 (xs 2), .int .u64 (xs 3), .int .u64 (xs 4), .int .u64 (xs 5), .slice a6 n6 d6] := by
    apply List.ext_getElem?
    intro i
    match i with
    | 0 => rw [q0]; rfl
    | 1 => rw [q1]; rfl
    | 2 => rw [q2]; rfl
    | 3 => rw [q3]; rfl
    | 4 => rw [q4]; rfl
    | 5 => rw [q5]; rfl
    | 6 => rw [q6]; rfl
    | k + 7 => rw [List.getElem?_eq_none (by omega), List.getElem?_eq_none (by simp)]
  subst ecs
  have K1 := HY.out.keep B
  have BF := joinB HB.out B
  have u0 := K1.cell (i := 0) rfl
  have f0 := K1.free 0
  have u1 := K1.cell (i := 1) rfl
  have f1 := K1.free 1
  have u2 := K1.cell (i := 2) rfl
  have f2 := K1.free 2
  have u3 := K1.cell (i := 3) rfl
  have f3 := K1.free 3
  have u4 := K1.cell (i := 4) rfl
  have f4 := K1.free 4
  have u5 := K1.cell (i := 5) rfl
  have f5 := K1.free 5
  have u6 := K1.cell (i := 6) rfl
  have f6 := K1.free 6
  have KB := hid3 (show Blk (((((((w1.setCell ⟨w.heap.size, 0, none⟩ (.int .u64 (xs 0))).setCell ⟨w.heap.size, 1, none⟩ (.int .u64 (xs 1))).setCell ⟨w.heap.size, 2, none⟩ (.int .u64 (xs 2))).setCell ⟨w.heap.size, 3, none⟩ (.int .u64 (xs 3))).setCell ⟨w.heap.size, 4, none⟩ (.int .u64 (xs 4))).setCell ⟨w.heap.size, 5, none⟩ (.int .u64 (xs 5))).setCell ⟨w.heap.size, 6, none⟩ (.slice a6 n6 d6)) w.heap.size [.int .u64 (xs 0), .int .u64 (xs 1), .int .u64 (xs 2), .int .u64 (xs 3), .int .u64 (xs 4), .int .u64 (xs 5), .slice a6 n6 d6] 44 from (((((((K1.setCell (i := 0) (.int .u64 (xs 0))).setCell (i := 1) (.int .u64 (xs 1))).setCell (i := 2) (.int .u64 (xs 2))).setCell (i := 3) (.int .u64 (xs 3))).setCell (i := 4) (.int .u64 (xs 4))).setCell (i := 5) (.int .u64 (xs 5))).setCell (i := 6) (.slice a6 n6 d6)))
  have KC := hid3 (show Chg (fun x => x = w.heap.size) w1 (((((((w1.setCell ⟨w.heap.size, 0, none⟩ (.int .u64 (xs 0))).setCell ⟨w.heap.size, 1, none⟩ (.int .u64 (xs 1))).setCell ⟨w.heap.size, 2, none⟩ (.int .u64 (xs 2))).setCell ⟨w.heap.size, 3, none⟩ (.int .u64 (xs 3))).setCell ⟨w.heap.size, 4, none⟩ (.int .u64 (xs 4))).setCell ⟨w.heap.size, 5, none⟩ (.int .u64 (xs 5))).setCell ⟨w.heap.size, 6, none⟩ (.slice a6 n6 d6)) from ((((((((Chg.refl (fun x => x = w.heap.size) w1).cell (g := w.heap.size) (i := 0) (.inl rfl) (.int .u64 (xs 0))).cell (g := w.heap.size) (i := 1) (.inl rfl) (.int .u64 (xs 1))).cell (g := w.heap.size) (i := 2) (.inl rfl) (.int .u64 (xs 2))).cell (g := w.heap.size) (i := 3) (.inl rfl) (.int .u64 (xs 3))).cell (g := w.heap.size) (i := 4) (.inl rfl) (.int .u64 (xs 4))).cell (g := w.heap.size) (i := 5) (.inl rfl) (.int .u64 (xs 5))).cell (g := w.heap.size) (i := 6) (.inl rfl) (.slice a6 n6 d6)))
  have FF := hid3 (show FinR w kd_Move 7 mkA st (.returned (.tuple #[.agg #[.int .u64 (xs 0), .int .u64 (xs 1), .int .u64 (xs 2), .int .u64 (xs 3), .int .u64 (xs 4), .int .u64 (xs 5), .slice a6 n6 d6], .int .i64 r])) (((((((w1.setCell ⟨w.heap.size, 0, none⟩ (.int .u64 (xs 0))).setCell ⟨w.heap.size, 1, none⟩ (.int .u64 (xs 1))).setCell ⟨w.heap.size, 2, none⟩ (.int .u64 (xs 2))).setCell ⟨w.heap.size, 3, none⟩ (.int .u64 (xs 3))).setCell ⟨w.heap.size, 4, none⟩ (.int .u64 (xs 4))).setCell ⟨w.heap.size, 5, none⟩ (.int .u64 (xs 5))).setCell ⟨w.heap.size, 6, none⟩ (.slice a6 n6 d6)) from ⟨⟨[.int .u64 (xs 0), .int .u64 (xs 1), .int .u64 (xs 2), .int .u64 (xs 3), .int .u64 (xs 4), .int .u64 (xs 5), .slice a6 n6 d6], xs, r, rfl, rfl, (h2.off KC.out.size (fun y hy hy2 => KC.out.same y hy2 (fun e => by have e' : y = w.heap.size := e; have := HZ.out; omega))).low HB.out.size, h3, h4⟩, (((((((BF.setCell (p := ⟨w.heap.size, 0, none⟩) (Nat.le_refl _) (.int .u64 (xs 0))).setCell (p := ⟨w.heap.size, 1, none⟩) (Nat.le_refl _) (.int .u64 (xs 1))).setCell (p := ⟨w.heap.size, 2, none⟩) (Nat.le_refl _) (.int .u64 (xs 2))).setCell (p := ⟨w.heap.size, 3, none⟩) (Nat.le_refl _) (.int .u64 (xs 3))).setCell (p := ⟨w.heap.size, 4, none⟩) (Nat.le_refl _) (.int .u64 (xs 4))).setCell (p := ⟨w.heap.size, 5, none⟩) (Nat.le_refl _) (.int .u64 (xs 5))).setCell (p := ⟨w.heap.size, 6, none⟩) (Nat.le_refl _) (.slice a6 n6 d6))⟩)
  clear h1 h2 h3 h4 B K1 BF HU KC HY HB q0 q1 q2 q3 q4 q5 q6
  simp only [mkA]
  go_wp2
  refine bodyPost_ret (ret_rc rfl rfl rfl (ld_Move (KB.out.cell (i := 0) rfl) (KB.out.cell (i := 1) rfl) (KB.out.cell (i := 2) rfl) (KB.out.cell (i := 3) rfl) (KB.out.cell (i := 4) rfl) (KB.out.cell (i := 5) rfl) (KB.out.cell (i := 6) rfl))) rfl ?_
  exact FF.out
set_option maxHeartbeats 2000000 in
set_option maxRecDepth 100000 in
theorem PutNumber_any {w : World} {x0 : Int} :
    Calls Tryz.prog 18 #[.int .u64 x0] w fun e w' => ∃ b n, e = .returned (.slice (some ⟨b, 0, none⟩) n n) ∧ n = (thr (pnx (fun o => ([x0] : List Int).getD o 0)) [(0, 0)] []).length ∧ Box w' b ((thr (pnx (fun o => ([x0] : List Int).getD o 0)) [(0, 0)] []).map (Value.int .u8)) 5 ∧ w.heap.size ≤ b ∧ Below w.heap.size w w' := by
  have U := put_Number (x0 := x0) (w := w)
  have HB := hid3 (Below.refl w.heap.size w)
  generalize thr (pnx (fun o => ([x0] : List Int).getD o 0)) [(0, 0)] [] = M at *
  have HU := hid3 U
  clear U
  go_enter Tryz.func18, Tryz.ntmps18
  go_wp2_with fail
  refine HU.out.mono ?_
  rintro e' w1 ⟨b, n, rfl, hn, X, hb, B⟩
  have FF := hid3 (show n = M.length ∧ Box w1 b (M.map (Value.int .u8)) 5 ∧ w.heap.size ≤ b ∧ Below w.heap.size w w1 from ⟨hn, X, Nat.le_trans HB.out.size hb, joinB HB.out B⟩)
  clear hn X hb B HU HB
  go_wp2
  go_ret
  exact ⟨b, n, rfl, FF.out⟩
set_option maxRecDepth 100000 in
theorem Number_any {w : World} {bb n c : Nat} {ao : Option Addr} {l : List Int} (A : ByA w bb ao n c l) (hn : n ≤ 1000000000) (hl : l.length = n) :
    Calls Tryz.prog 42 #[.slice ao n c] w (FinR w kd_Number 1 mkO (thr rnx [(0, 0)] (0, l, fun _ => (0 : Int)))) := by
  have U := read_Number A hn hl
  generalize thr rnx [(0, 0)] (0, l, fun _ => (0 : Int)) = st at *
  clear A hl
  go_enter Tryz.func42, Tryz.ntmps42
  go_wp2_with fail
  refine U.mono ?_
  rintro e' w1 ⟨⟨cs, xs, r, rfl, h1, h2, h3, h4⟩, B⟩
  have q0 := (h2 0).1 rfl
  have ecs : cs = [.int .u64 (xs 0)] := by
    apply List.ext_getElem?
    intro i
    match i with
    | 0 => rw [q0]; rfl
    | k + 1 => rw [List.getElem?_eq_none (by omega), List.getElem?_eq_none (by simp)]
  subst ecs
  have FF := hid3 (show FinR w kd_Number 1 mkO st (.returned (.tuple #[.int .u64 (xs 0), .int .i64 r])) w1 from ⟨⟨[.int .u64 (xs 0)], xs, r, rfl, rfl, h2, h3, h4⟩, B⟩)
  clear h1 h2 h3 h4 B q0 U
  simp only [mkO, List.headD_cons]
  go_wp2
  go_ret2
  exact FF.out
end Rc
end Go.Proofs.YtenlhceceplldaaGreat

namespace Go.Proofs.YtenlhceceplldaaGreat
namespace Rc
open Go.RowKit Go.Lib Pg Lim
theorem cntd_len (m : Nat) (l : List Int) : (cntd m l).length = m + l.length := by
  unfold cntd
  rw [List.length_append, be_length]
theorem take_app {l r : List Int} {m : Nat} (h : l.length = m) : (l ++ r).take m = l ∧ (l ++ r).drop m = r := by
  subst h
  exact ⟨List.take_left, List.drop_left⟩
theorem back_fix (m : Nat) {x : Int} (hx : 0 ≤ x) (r : List Int) : pFix m (be m x ++ r) = .inr (x % 256 ^ m, m) ∧ (be m x ++ r).drop m = r := by
  have h := take_app (r := r) (be_length m x)
  refine ⟨?_, h.2⟩
  unfold pFix
  rw [if_pos (by rw [List.length_append, be_length]; omega), h.1, be_val m hx]
theorem cnt_app {m : Nat} {l r : List Int} (hl : (l.length : Int) < 256 ^ m) : cntOf m (cntd m l ++ r) = l.length := by
  unfold cntOf cntd
  rw [List.append_assoc, (take_app (be_length m _)).1, be_val m (by omega), Int.emod_eq_of_lt (by omega) hl]
  rfl
theorem cnt_drop (m : Nat) (l r : List Int) : (cntd m l ++ r).drop m = l ++ r := by
  unfold cntd
  rw [List.append_assoc, (take_app (be_length m _)).2]
theorem back_nat {V : Int} (hV : 0 ≤ V) (hl : (natB V).length < 256) (r : List Int) : pNat (cntd 1 (natB V) ++ r) = .inr (V, 1 + (natB V).length) ∧ (cntd 1 (natB V) ++ r).drop (1 + (natB V).length) = r := by
  have hc : cntOf 1 (cntd 1 (natB V) ++ r) = (natB V).length := cnt_app (by simpa using (by omega : ((natB V).length : Int) < 256))
  have hd := cnt_drop 1 (natB V) r
  have hB := natB_is hV
  refine ⟨?_, ?_⟩
  · unfold pNat
    rw [if_pos (by rw [List.length_append, cntd_len]; omega), hc, if_pos (by rw [List.length_append, cntd_len]; omega), hd, if_neg, (take_app rfl).1, hB.2.2]
    rintro ⟨h0, h1⟩
    have hne : natB V ≠ [] := fun e => by rw [e] at h0; simp at h0
    refine hB.2.1 hne ?_
    rw [← h1]
    cases hh : natB V with
    | nil => exact absurd hh hne
    | cons x t => rfl
  · rw [← List.drop_drop, hd, (take_app rfl).2]
theorem back_raw {l : List Int} (hl : l.length < 4294967296) (r : List Int) : pRaw (l.length : Int) (cntd 4 l ++ r) = .inr (l, 4 + l.length) ∧ (cntd 4 l ++ r).drop (4 + l.length) = r := by
  have hc : cntOf 4 (cntd 4 l ++ r) = l.length := cnt_app (by simpa using (by omega : (l.length : Int) < 4294967296))
  have hd := cnt_drop 4 l r
  refine ⟨?_, ?_⟩
  · unfold pRaw
    rw [if_pos (by rw [List.length_append, cntd_len]; omega), hc, if_neg (by omega), if_pos (by rw [List.length_append, cntd_len]; omega), hd, (take_app rfl).1]
  · rw [← List.drop_drop, hd, (take_app rfl).2]
theorem back_bool (x : Bool) (r : List Int) : pBool (be 1 (if x then 1 else 0) ++ r) = .inr (x, 1) ∧ (be 1 (if x then 1 else 0) ++ r).drop 1 = r := by
  cases x
  · exact ⟨rfl, rfl⟩
  · exact ⟨rfl, rfl⟩
/-- a field that was read, laid again -/
theorem one1 {l : List Int} (h : Octets l) (k : Nat) (he : rdE (p1 k l) 0 = 0) : enc1 k (rdV 0 (p1 k l) 0) ++ rdL (p1 k l) 0 l = l ∧ ∃ m, rdL (p1 k l) 0 l = l.drop m := by
  match k with
  | 0 =>
    rcases one_fix h 8 with ⟨h1, _⟩ | ⟨_, m, h2, h3, h4⟩
    · exact absurd he h1
    · show be 8 (rdV 0 (pFix 8 l) 0) ++ rdL (pFix 8 l) 0 l = l ∧ ∃ m, rdL (pFix 8 l) 0 l = l.drop m
      rw [h3, h4]
      exact ⟨List.take_append_drop m l, m, rfl⟩
  | 1 =>
    have he' : rdE (pBool l) 0 = 0 := by rw [← pBoolI_E]; exact he
    rcases one_bool h with ⟨h1, _⟩ | ⟨_, m, h2, h3, h4⟩
    · exact absurd he' h1
    · show be 1 (rdV 0 (pBoolI l) 0) ++ rdL (pBoolI l) 0 l = l ∧ ∃ m, rdL (pBoolI l) 0 l = l.drop m
      rw [pBoolI_V, pBoolI_L, h3, h4]
      exact ⟨List.take_append_drop m l, m, rfl⟩
  | k + 2 =>
    rcases one_nat h with ⟨h1, _⟩ | ⟨_, m, h2, ⟨h3, h5⟩, h4⟩
    · exact absurd he h1
    · show cntd 1 (natB (fit (rdV 0 (pNat l) 0))) ++ rdL (pNat l) 0 l = l ∧ ∃ m, rdL (pNat l) 0 l = l.drop m
      have hf : (natB (rdV 0 (pNat l) 0)).length < 256 := by
        unfold natE at h3
        split at h3
        · assumption
        · exact absurd h3 (by decide)
      have e := h5 []
      unfold natL wrote at e
      rw [if_pos hf, if_pos rfl] at e
      unfold fit
      rw [if_pos hf]
      simp only [List.nil_append] at e
      rw [e, h4]
      exact ⟨List.take_append_drop m l, m, rfl⟩
theorem thr_cons {σ : Type} (nx : Nat → Nat → σ → σ) (p : Nat × Nat) (ks : List (Nat × Nat)) (s : σ) : thr nx (p :: ks) s = thr nx ks (nx p.1 p.2 s) := rfl
theorem thr_bad (ks : List (Nat × Nat)) : ∀ s : RSt, s.1 ≠ 0 → (thr rnx ks s).1 = s.1 := by
  induction ks with
  | nil => intro s _; rfl
  | cons p ks ih =>
    intro s hs
    have e : (rnx p.1 p.2 s).1 = s.1 := rdE_bad hs
    rw [thr_cons, ih _ (by rw [e]; exact hs), e]
theorem thr_place (ks : List (Nat × Nat)) (o : Nat) : ∀ s : RSt, o ∉ ks.map Prod.snd → (thr rnx ks s).2.2 o = s.2.2 o := by
  induction ks with
  | nil => intro s _; rfl
  | cons p ks ih =>
    intro s ho
    rw [List.map_cons, List.mem_cons, not_or] at ho
    rw [thr_cons, ih _ ho.2]
    show (if o = p.2 then _ else _) = _
    rw [if_neg ho.1]
theorem octets_drop {l : List Int} (h : Octets l) (m : Nat) : Octets (l.drop m) := fun x hx => h x (List.mem_of_mem_drop hx)
/-- a record that was read, laid again -/
theorem thr_one (ks : List (Nat × Nat)) : ∀ (l : List Int) (xs : Nat → Int), Octets l → (ks.map Prod.snd).Nodup → (thr rnx ks (0, l, xs)).1 = 0 → ∀ L, thr (pnx (thr rnx ks (0, l, xs)).2.2) ks L ++ (thr rnx ks (0, l, xs)).2.1 = L ++ l := by
  induction ks with
  | nil => intro l xs _ _ _ L; rfl
  | cons p ks ih =>
    intro l xs ho hnd he L
    rw [List.map_cons, List.nodup_cons] at hnd
    rw [thr_cons] at he
    have e1 : rdE (p1 p.1 l) 0 = 0 := by
      by_cases hz : rdE (p1 p.1 l) 0 = 0
      · exact hz
      · exact absurd ((thr_bad ks (rnx p.1 p.2 (0, l, xs)) hz).symm.trans he) hz
    obtain ⟨h1, m, h2⟩ := one1 ho p.1 e1
    have es : rnx p.1 p.2 (0, l, xs) = (0, rdL (p1 p.1 l) 0 l, fun i => if i = p.2 then rdV 0 (p1 p.1 l) 0 else xs i) := by
      show (rdE (p1 p.1 l) 0, _, _) = _
      rw [e1]
    have e0 : thr rnx (p :: ks) (0, l, xs) = thr rnx ks (0, rdL (p1 p.1 l) 0 l, fun i => if i = p.2 then rdV 0 (p1 p.1 l) 0 else xs i) := by rw [thr_cons, es]
    rw [es] at he
    rw [e0]
    have ih' := ih _ _ (by rw [h2]; exact octets_drop ho m) hnd.2 he
    rw [thr_cons, ih']
    have ev : (thr rnx ks (0, rdL (p1 p.1 l) 0 l, fun i => if i = p.2 then rdV 0 (p1 p.1 l) 0 else xs i)).2.2 p.2 = rdV 0 (p1 p.1 l) 0 := by
      rw [thr_place ks p.2 _ hnd.1]
      show (if p.2 = p.2 then _ else _) = _
      rw [if_pos rfl]
    show (L ++ enc1 p.1 _) ++ _ = L ++ l
    rw [ev, List.append_assoc, h1]
/-- a field that was laid, read -/
def rng : Nat → Int → Prop
  | 0, x => 0 ≤ x ∧ x < 18446744073709551616
  | 1, x => x = 0 ∨ x = 1
  | _, x => 0 ≤ x
def fitk : Nat → Int → Int
  | 0, x => x
  | 1, x => x
  | _, x => fit x
theorem back1 (k : Nat) {x : Int} (hx : rng k x) (r : List Int) : ∃ m, p1 k (enc1 k x ++ r) = .inr (fitk k x, m) ∧ (enc1 k x ++ r).drop m = r := by
  match k, hx with
  | 0, hx =>
    obtain ⟨h1, h2⟩ := back_fix 8 hx.1 r
    refine ⟨8, ?_, h2⟩
    show pFix 8 (be 8 x ++ r) = _
    rw [h1, Int.emod_eq_of_lt hx.1 (by have := hx.2; simpa using this)]
    rfl
  | 1, hx =>
    have key : ∀ t : Bool, ∃ m, pBoolI (be 1 (if t then 1 else 0) ++ r) = .inr ((if t then 1 else 0), m) ∧ (be 1 (if t then 1 else 0) ++ r).drop m = r := fun t => by
      obtain ⟨h1, h2⟩ := back_bool t r
      refine ⟨1, ?_, h2⟩
      unfold pBoolI
      rw [h1]
    rcases hx with rfl | rfl
    · exact key false
    · exact key true
  | k + 2, hx =>
    have hV : 0 ≤ fit x := by
      unfold fit
      split
      · exact hx
      · decide
    obtain ⟨h1, h2⟩ := back_nat hV (fit_len x) r
    exact ⟨_, h1, h2⟩
/-- a record that was laid, read -/
theorem thr_back (xv : Nat → Int) (ks : List (Nat × Nat)) : ∀ (r : List Int) (xs : Nat → Int), (ks.map Prod.snd).Nodup → (∀ p ∈ ks, rng p.1 (xv p.2)) → ∃ ys, thr rnx ks (0, thr (pnx xv) ks [] ++ r, xs) = (0, r, ys) ∧ (∀ p ∈ ks, ys p.2 = fitk p.1 (xv p.2)) ∧ ∀ o, o ∉ ks.map Prod.snd → ys o = xs o := by
  have hL : ∀ (ks : List (Nat × Nat)) (L : List Int), thr (pnx xv) ks L = L ++ thr (pnx xv) ks [] := by
    intro ks
    induction ks with
    | nil => intro L; simp [thr]
    | cons p ks ih =>
      intro L
      rw [thr_cons, thr_cons, ih (pnx xv p.1 p.2 L), ih (pnx xv p.1 p.2 [])]
      simp [pnx, List.append_assoc]
  induction ks with
  | nil => exact fun r xs _ _ => ⟨xs, rfl, (fun p hp => by cases hp), fun _ _ => rfl⟩
  | cons p ks ih =>
    intro r xs hnd hr
    rw [List.map_cons, List.nodup_cons] at hnd
    obtain ⟨m, h1, h2⟩ := back1 p.1 (hr p List.mem_cons_self) (thr (pnx xv) ks [] ++ r)
    have el : thr (pnx xv) (p :: ks) [] ++ r = enc1 p.1 (xv p.2) ++ (thr (pnx xv) ks [] ++ r) := by
      rw [thr_cons, hL]
      simp [pnx, List.append_assoc]
    rw [el, thr_cons]
    have es : rnx p.1 p.2 (0, enc1 p.1 (xv p.2) ++ (thr (pnx xv) ks [] ++ r), xs) = (0, thr (pnx xv) ks [] ++ r, fun i => if i = p.2 then fitk p.1 (xv p.2) else xs i) := by
      show (rdE (p1 p.1 _) 0, rdL (p1 p.1 _) 0 _, fun i => if i = p.2 then rdV 0 (p1 p.1 _) 0 else xs i) = _
      rw [h1]
      show (_, List.drop m _, _) = _
      rw [h2]
      rfl
    rw [es]
    obtain ⟨ys, e1, e2, e3⟩ := ih r _ hnd.2 (fun q hq => hr q (List.mem_cons_of_mem _ hq))
    refine ⟨ys, e1, fun q hq => ?_, fun o ho => ?_⟩
    · rcases List.mem_cons.1 hq with rfl | hq
      · rw [e3 _ hnd.1]
        show (if q.2 = q.2 then _ else _) = _
        rw [if_pos rfl]
      · exact e2 q hq
    · rw [List.map_cons, List.mem_cons, not_or] at ho
      rw [e3 o ho.2]
      show (if o = p.2 then _ else _) = _
      rw [if_neg ho.1]
end Rc
end Go.Proofs.YtenlhceceplldaaGreat

namespace Go.Proofs.YtenlhceceplldaaGreat
namespace Rc
open Go.RowKit Go.Lib Pg
attribute [local go_sem] Oper.semAt_some
theorem enc1_oct (k : Nat) (x : Int) : Octets (enc1 k x) := by
  unfold enc1
  split
  · exact be_oct _ _
  · exact be_oct _ _
  · intro y hy
    rcases List.mem_append.1 hy with h | h
    · exact be_oct _ _ y h
    · exact natB_oct _ y h
theorem thr_oct (xs : Nat → Int) (ks : List (Nat × Nat)) : ∀ L, Octets L → Octets (thr (pnx xs) ks L) := by
  induction ks with
  | nil => exact fun _ h => h
  | cons p ks ih =>
    intro L h
    rw [thr_cons]
    refine ih _ ?_
    intro y hy
    rcases List.mem_append.1 hy with h1 | h1
    · exact h y h1
    · exact enc1_oct _ _ y h1
/-- bytes that were laid, as a list -/
theorem box_bya {w : World} {b n : Nat} {M : List Int} (h : Box w b (M.map (Value.int .u8)) 5) (hn : n = M.length) (ho : Octets M) (hl : M.length ≤ 1000000) : ByA w b (some ⟨b, 0, none⟩) n n M :=
  ⟨0, hn.symm, Nat.le_refl _, ⟨by omega, fun e => by cases e⟩, ho, h.atB⟩
set_option maxRecDepth 100000 in
theorem decSame {w : World} {a0 a1 : Option Addr} {n0 c0 n1 c1 : Nat} {x : Int} (h0 : NatO w a0 n0 c0 x) (h1 : NatO w a1 n1 c1 x) (hn0 : n0 ≤ 1000000) (hn1 : n1 ≤ 1000000) :
    Calls Tryz.prog 36 #[.agg #[.slice a0 n0 c0], .agg #[.slice a1 n1 c1]] w fun e w' => e = .returned (.bool true) ∧ Below w.heap.size w w' := by
  have b1 := below_alloc w (.cells #[.slice a0 n0 c0] 30)
  have b2 := below_alloc (w.alloc (.cells #[.slice a0 n0 c0] 30)) (.cells #[.slice a1 n1 c1] 30)
  have BB := joinB b1 b2
  have t := nSameE (h0.keep BB) (h1.keep BB) (by omega) (by omega)
  have HB := hid3 BB
  clear h0 h1 b1 b2 BB
  go_enter Tryz.func36, Tryz.ntmps36
  go_wp2_with fail
  refine t.mono ?_
  rintro e w1 ⟨rfl, B1⟩
  have HB1 := hid3 (joinB HB.out B1)
  clear t B1
  go_wp2
  go_ret
  exact ⟨rfl, HB1.out⟩
set_option maxHeartbeats 2000000 in
set_option maxRecDepth 100000 in
theorem sameHistory {w : World} {a0 b0 : Option Addr} {n0 c0 m0 d0 : Nat} {x0 : Int} {x1 : Int} (h0 : NatO w a0 n0 c0 x0) (g0 : NatO w b0 m0 d0 x0) (p0 : n0 ≤ 1000000) (q0 : m0 ≤ 1000000) :
    Calls Tryz.prog 43 #[.agg #[.slice a0 n0 c0, .int .u64 x1], .agg #[.slice b0 m0 d0, .int .u64 x1]] w fun e w' => e = .returned (.bool true) ∧ Below w.heap.size w w' := by
  have zb1 := below_alloc w (.cells #[.slice a0 n0 c0, .int .u64 x1] 38)
  have zb2 := below_alloc (w.alloc (.cells #[.slice a0 n0 c0, .int .u64 x1] 38)) (.cells #[.slice b0 m0 d0, .int .u64 x1] 38)
  have zx1 := (blk_new w [.slice a0 n0 c0, .int .u64 x1] 38).keep zb2
  have zx2 := blk_new (w.alloc (.cells #[.slice a0 n0 c0, .int .u64 x1] 38)) [.slice b0 m0 d0, .int .u64 x1] 38
  rw [size_al] at zx2
  obtain ⟨W2, hW2⟩ : ∃ W2, Hid (((w.alloc (.cells #[.slice a0 n0 c0, .int .u64 x1] 38)).alloc (.cells #[.slice b0 m0 d0, .int .u64 x1] 38)) = W2) := ⟨_, rfl⟩
  have bb := joinB zb1 zb2
  rw [hW2.out] at zx1 zx2 bb
  have X1 := hid3 zx1
  have X2 := hid3 zx2
  have HB := hid3 bb
  have BZ := hid3 (Below.refl W2.heap.size W2)
  replace h0 := hid3 h0
  replace g0 := hid3 g0
  clear zb1 zb2 zx1 zx2 bb
  go_enter Tryz.func43, Tryz.ntmps43
  go_wp2_with fail
  rw [hW2.out]
  go_wp2_with first
    | (go_at_call 36; have gate := h0; clear gate; go_must (refine (decSame ((h0.out.keep HB.out).keep BZ.out) ((g0.out.keep HB.out).keep BZ.out) p0 q0).mono ?_); rintro e' y0 ⟨rfl, BN⟩; replace BZ := hid3 (joinB BZ.out BN); clear h0 BN; have u0_0 := (X1.out.keep BZ.out).cell (i := 0) rfl; have v0_0 := (X2.out.keep BZ.out).cell (i := 0) rfl; have u0_1 := (X1.out.keep BZ.out).cell (i := 1) rfl; have v0_1 := (X2.out.keep BZ.out).cell (i := 1) rfl)
  go_ret
  exact ⟨rfl, joinB HB.out BZ.out⟩
set_option maxHeartbeats 2000000 in
set_option maxRecDepth 100000 in
theorem sameDelegation {w : World} {a0 b0 : Option Addr} {n0 c0 m0 d0 : Nat} {x0 : Int} {x1 : Int} {a2 b2 : Option Addr} {n2 c2 m2 d2 : Nat} {x2 : Int} (h0 : NatO w a0 n0 c0 x0) (g0 : NatO w b0 m0 d0 x0) (p0 : n0 ≤ 1000000) (q0 : m0 ≤ 1000000) (h2 : NatO w a2 n2 c2 x2) (g2 : NatO w b2 m2 d2 x2) (p2 : n2 ≤ 1000000) (q2 : m2 ≤ 1000000) :
    Calls Tryz.prog 81 #[.agg #[.slice a0 n0 c0, .int .u64 x1, .slice a2 n2 c2], .agg #[.slice b0 m0 d0, .int .u64 x1, .slice b2 m2 d2]] w fun e w' => e = .returned (.bool true) ∧ Below w.heap.size w w' := by
  have zb1 := below_alloc w (.cells #[.slice a0 n0 c0, .int .u64 x1, .slice a2 n2 c2] 36)
  have zb2 := below_alloc (w.alloc (.cells #[.slice a0 n0 c0, .int .u64 x1, .slice a2 n2 c2] 36)) (.cells #[.slice b0 m0 d0, .int .u64 x1, .slice b2 m2 d2] 36)
  have zx1 := (blk_new w [.slice a0 n0 c0, .int .u64 x1, .slice a2 n2 c2] 36).keep zb2
  have zx2 := blk_new (w.alloc (.cells #[.slice a0 n0 c0, .int .u64 x1, .slice a2 n2 c2] 36)) [.slice b0 m0 d0, .int .u64 x1, .slice b2 m2 d2] 36
  rw [size_al] at zx2
  obtain ⟨W2, hW2⟩ : ∃ W2, Hid (((w.alloc (.cells #[.slice a0 n0 c0, .int .u64 x1, .slice a2 n2 c2] 36)).alloc (.cells #[.slice b0 m0 d0, .int .u64 x1, .slice b2 m2 d2] 36)) = W2) := ⟨_, rfl⟩
  have bb := joinB zb1 zb2
  rw [hW2.out] at zx1 zx2 bb
  have X1 := hid3 zx1
  have X2 := hid3 zx2
  have HB := hid3 bb
  have BZ := hid3 (Below.refl W2.heap.size W2)
  replace h0 := hid3 h0
  replace g0 := hid3 g0
  replace h2 := hid3 h2
  replace g2 := hid3 g2
  clear zb1 zb2 zx1 zx2 bb
  go_enter Tryz.func81, Tryz.ntmps81
  go_wp2_with fail
  rw [hW2.out]
  go_wp2_with first
    | (go_at_call 36; have gate := h0; clear gate; go_must (refine (decSame ((h0.out.keep HB.out).keep BZ.out) ((g0.out.keep HB.out).keep BZ.out) p0 q0).mono ?_); rintro e' y0 ⟨rfl, BN⟩; replace BZ := hid3 (joinB BZ.out BN); clear h0 BN; have u0_0 := (X1.out.keep BZ.out).cell (i := 0) rfl; have v0_0 := (X2.out.keep BZ.out).cell (i := 0) rfl; have u0_1 := (X1.out.keep BZ.out).cell (i := 1) rfl; have v0_1 := (X2.out.keep BZ.out).cell (i := 1) rfl; have u0_2 := (X1.out.keep BZ.out).cell (i := 2) rfl; have v0_2 := (X2.out.keep BZ.out).cell (i := 2) rfl)
    | (go_at_call 36; have gate := h2; clear gate; go_must (refine (decSame ((h2.out.keep HB.out).keep BZ.out) ((g2.out.keep HB.out).keep BZ.out) p2 q2).mono ?_); rintro e' y1 ⟨rfl, BN⟩; replace BZ := hid3 (joinB BZ.out BN); clear h2 BN; have u1_0 := (X1.out.keep BZ.out).cell (i := 0) rfl; have v1_0 := (X2.out.keep BZ.out).cell (i := 0) rfl; have u1_1 := (X1.out.keep BZ.out).cell (i := 1) rfl; have v1_1 := (X2.out.keep BZ.out).cell (i := 1) rfl; have u1_2 := (X1.out.keep BZ.out).cell (i := 2) rfl; have v1_2 := (X2.out.keep BZ.out).cell (i := 2) rfl)
  go_ret
  exact ⟨rfl, joinB HB.out BZ.out⟩
set_option maxHeartbeats 2000000 in
set_option maxRecDepth 100000 in
theorem sameMove {w : World} {x0 : Int} {x1 : Int} {x2 : Int} {x3 : Int} {x4 : Int} {x5 : Int} {a6 b6 : Option Addr} {n6 c6 m6 d6 : Nat} {x6 : Int} (h6 : NatO w a6 n6 c6 x6) (g6 : NatO w b6 m6 d6 x6) (p6 : n6 ≤ 1000000) (q6 : m6 ≤ 1000000) :
    Calls Tryz.prog 88 #[.agg #[.int .u64 x0, .int .u64 x1, .int .u64 x2, .int .u64 x3, .int .u64 x4, .int .u64 x5, .slice a6 n6 c6], .agg #[.int .u64 x0, .int .u64 x1, .int .u64 x2, .int .u64 x3, .int .u64 x4, .int .u64 x5, .slice b6 m6 d6]] w fun e w' => e = .returned (.bool true) ∧ Below w.heap.size w w' := by
  have zb1 := below_alloc w (.cells #[.int .u64 x0, .int .u64 x1, .int .u64 x2, .int .u64 x3, .int .u64 x4, .int .u64 x5, .slice a6 n6 c6] 44)
  have zb2 := below_alloc (w.alloc (.cells #[.int .u64 x0, .int .u64 x1, .int .u64 x2, .int .u64 x3, .int .u64 x4, .int .u64 x5, .slice a6 n6 c6] 44)) (.cells #[.int .u64 x0, .int .u64 x1, .int .u64 x2, .int .u64 x3, .int .u64 x4, .int .u64 x5, .slice b6 m6 d6] 44)
  have zx1 := (blk_new w [.int .u64 x0, .int .u64 x1, .int .u64 x2, .int .u64 x3, .int .u64 x4, .int .u64 x5, .slice a6 n6 c6] 44).keep zb2
  have zx2 := blk_new (w.alloc (.cells #[.int .u64 x0, .int .u64 x1, .int .u64 x2, .int .u64 x3, .int .u64 x4, .int .u64 x5, .slice a6 n6 c6] 44)) [.int .u64 x0, .int .u64 x1, .int .u64 x2, .int .u64 x3, .int .u64 x4, .int .u64 x5, .slice b6 m6 d6] 44
  rw [size_al] at zx2
  obtain ⟨W2, hW2⟩ : ∃ W2, Hid (((w.alloc (.cells #[.int .u64 x0, .int .u64 x1, .int .u64 x2, .int .u64 x3, .int .u64 x4, .int .u64 x5, .slice a6 n6 c6] 44)).alloc (.cells #[.int .u64 x0, .int .u64 x1, .int .u64 x2, .int .u64 x3, .int .u64 x4, .int .u64 x5, .slice b6 m6 d6] 44)) = W2) := ⟨_, rfl⟩
  have bb := joinB zb1 zb2
  rw [hW2.out] at zx1 zx2 bb
  have X1 := hid3 zx1
  have X2 := hid3 zx2
  have HB := hid3 bb
  have BZ := hid3 (Below.refl W2.heap.size W2)
  replace h6 := hid3 h6
  replace g6 := hid3 g6
  clear zb1 zb2 zx1 zx2 bb
  go_enter Tryz.func88, Tryz.ntmps88
  go_wp2_with fail
  rw [hW2.out]
  go_wp2_with first
    | (go_at_call 36; have gate := h6; clear gate; go_must (refine (decSame ((h6.out.keep HB.out).keep BZ.out) ((g6.out.keep HB.out).keep BZ.out) p6 q6).mono ?_); rintro e' y0 ⟨rfl, BN⟩; replace BZ := hid3 (joinB BZ.out BN); clear h6 BN; have u0_0 := (X1.out.keep BZ.out).cell (i := 0) rfl; have v0_0 := (X2.out.keep BZ.out).cell (i := 0) rfl; have u0_1 := (X1.out.keep BZ.out).cell (i := 1) rfl; have v0_1 := (X2.out.keep BZ.out).cell (i := 1) rfl; have u0_2 := (X1.out.keep BZ.out).cell (i := 2) rfl; have v0_2 := (X2.out.keep BZ.out).cell (i := 2) rfl; have u0_3 := (X1.out.keep BZ.out).cell (i := 3) rfl; have v0_3 := (X2.out.keep BZ.out).cell (i := 3) rfl; have u0_4 := (X1.out.keep BZ.out).cell (i := 4) rfl; have v0_4 := (X2.out.keep BZ.out).cell (i := 4) rfl; have u0_5 := (X1.out.keep BZ.out).cell (i := 5) rfl; have v0_5 := (X2.out.keep BZ.out).cell (i := 5) rfl; have u0_6 := (X1.out.keep BZ.out).cell (i := 6) rfl; have v0_6 := (X2.out.keep BZ.out).cell (i := 6) rfl)
  go_ret
  exact ⟨rfl, joinB HB.out BZ.out⟩
set_option maxHeartbeats 2000000 in
set_option maxRecDepth 100000 in
theorem sameVal {w : World} {x0 : Int} {x1 : Int} {a2 b2 : Option Addr} {n2 c2 m2 d2 : Nat} {x2 : Int} {t3 : Bool} {x4 : Int} {t5 : Bool} {x6 : Int} {a7 b7 : Option Addr} {n7 c7 m7 d7 : Nat} {x7 : Int} {a8 b8 : Option Addr} {n8 c8 m8 d8 : Nat} {x8 : Int} {a9 b9 : Option Addr} {n9 c9 m9 d9 : Nat} {x9 : Int} (h2 : NatO w a2 n2 c2 x2) (g2 : NatO w b2 m2 d2 x2) (p2 : n2 ≤ 1000000) (q2 : m2 ≤ 1000000) (h7 : NatO w a7 n7 c7 x7) (g7 : NatO w b7 m7 d7 x7) (p7 : n7 ≤ 1000000) (q7 : m7 ≤ 1000000) (h8 : NatO w a8 n8 c8 x8) (g8 : NatO w b8 m8 d8 x8) (p8 : n8 ≤ 1000000) (q8 : m8 ≤ 1000000) (h9 : NatO w a9 n9 c9 x9) (g9 : NatO w b9 m9 d9 x9) (p9 : n9 ≤ 1000000) (q9 : m9 ≤ 1000000) :
    Calls Tryz.prog 44 #[.agg #[.int .u64 x0, .int .u64 x1, .slice a2 n2 c2, .bool t3, .int .u64 x4, .bool t5, .int .u64 x6, .slice a7 n7 c7, .slice a8 n8 c8, .slice a9 n9 c9], .agg #[.int .u64 x0, .int .u64 x1, .slice b2 m2 d2, .bool t3, .int .u64 x4, .bool t5, .int .u64 x6, .slice b7 m7 d7, .slice b8 m8 d8, .slice b9 m9 d9]] w fun e w' => e = .returned (.bool true) ∧ Below w.heap.size w w' := by
  have zb1 := below_alloc w (.cells #[.int .u64 x0, .int .u64 x1, .slice a2 n2 c2, .bool t3, .int .u64 x4, .bool t5, .int .u64 x6, .slice a7 n7 c7, .slice a8 n8 c8, .slice a9 n9 c9] 34)
  have zb2 := below_alloc (w.alloc (.cells #[.int .u64 x0, .int .u64 x1, .slice a2 n2 c2, .bool t3, .int .u64 x4, .bool t5, .int .u64 x6, .slice a7 n7 c7, .slice a8 n8 c8, .slice a9 n9 c9] 34)) (.cells #[.int .u64 x0, .int .u64 x1, .slice b2 m2 d2, .bool t3, .int .u64 x4, .bool t5, .int .u64 x6, .slice b7 m7 d7, .slice b8 m8 d8, .slice b9 m9 d9] 34)
  have zx1 := (blk_new w [.int .u64 x0, .int .u64 x1, .slice a2 n2 c2, .bool t3, .int .u64 x4, .bool t5, .int .u64 x6, .slice a7 n7 c7, .slice a8 n8 c8, .slice a9 n9 c9] 34).keep zb2
  have zx2 := blk_new (w.alloc (.cells #[.int .u64 x0, .int .u64 x1, .slice a2 n2 c2, .bool t3, .int .u64 x4, .bool t5, .int .u64 x6, .slice a7 n7 c7, .slice a8 n8 c8, .slice a9 n9 c9] 34)) [.int .u64 x0, .int .u64 x1, .slice b2 m2 d2, .bool t3, .int .u64 x4, .bool t5, .int .u64 x6, .slice b7 m7 d7, .slice b8 m8 d8, .slice b9 m9 d9] 34
  rw [size_al] at zx2
  obtain ⟨W2, hW2⟩ : ∃ W2, Hid (((w.alloc (.cells #[.int .u64 x0, .int .u64 x1, .slice a2 n2 c2, .bool t3, .int .u64 x4, .bool t5, .int .u64 x6, .slice a7 n7 c7, .slice a8 n8 c8, .slice a9 n9 c9] 34)).alloc (.cells #[.int .u64 x0, .int .u64 x1, .slice b2 m2 d2, .bool t3, .int .u64 x4, .bool t5, .int .u64 x6, .slice b7 m7 d7, .slice b8 m8 d8, .slice b9 m9 d9] 34)) = W2) := ⟨_, rfl⟩
  have bb := joinB zb1 zb2
  rw [hW2.out] at zx1 zx2 bb
  have X1 := hid3 zx1
  have X2 := hid3 zx2
  have HB := hid3 bb
  have BZ := hid3 (Below.refl W2.heap.size W2)
  replace h2 := hid3 h2
  replace g2 := hid3 g2
  replace h7 := hid3 h7
  replace g7 := hid3 g7
  replace h8 := hid3 h8
  replace g8 := hid3 g8
  replace h9 := hid3 h9
  replace g9 := hid3 g9
  clear zb1 zb2 zx1 zx2 bb
  go_enter Tryz.func44, Tryz.ntmps44
  go_wp2_with fail
  rw [hW2.out]
  go_wp2_with first
    | (go_at_call 36; have gate := h2; clear gate; go_must (refine (decSame ((h2.out.keep HB.out).keep BZ.out) ((g2.out.keep HB.out).keep BZ.out) p2 q2).mono ?_); rintro e' y0 ⟨rfl, BN⟩; replace BZ := hid3 (joinB BZ.out BN); clear h2 BN; have u0_0 := (X1.out.keep BZ.out).cell (i := 0) rfl; have v0_0 := (X2.out.keep BZ.out).cell (i := 0) rfl; have u0_1 := (X1.out.keep BZ.out).cell (i := 1) rfl; have v0_1 := (X2.out.keep BZ.out).cell (i := 1) rfl; have u0_2 := (X1.out.keep BZ.out).cell (i := 2) rfl; have v0_2 := (X2.out.keep BZ.out).cell (i := 2) rfl; have u0_3 := (X1.out.keep BZ.out).cell (i := 3) rfl; have v0_3 := (X2.out.keep BZ.out).cell (i := 3) rfl; have u0_4 := (X1.out.keep BZ.out).cell (i := 4) rfl; have v0_4 := (X2.out.keep BZ.out).cell (i := 4) rfl; have u0_5 := (X1.out.keep BZ.out).cell (i := 5) rfl; have v0_5 := (X2.out.keep BZ.out).cell (i := 5) rfl; have u0_6 := (X1.out.keep BZ.out).cell (i := 6) rfl; have v0_6 := (X2.out.keep BZ.out).cell (i := 6) rfl; have u0_7 := (X1.out.keep BZ.out).cell (i := 7) rfl; have v0_7 := (X2.out.keep BZ.out).cell (i := 7) rfl; have u0_8 := (X1.out.keep BZ.out).cell (i := 8) rfl; have v0_8 := (X2.out.keep BZ.out).cell (i := 8) rfl; have u0_9 := (X1.out.keep BZ.out).cell (i := 9) rfl; have v0_9 := (X2.out.keep BZ.out).cell (i := 9) rfl)
    | (go_at_call 36; have gate := h7; clear gate; go_must (refine (decSame ((h7.out.keep HB.out).keep BZ.out) ((g7.out.keep HB.out).keep BZ.out) p7 q7).mono ?_); rintro e' y1 ⟨rfl, BN⟩; replace BZ := hid3 (joinB BZ.out BN); clear h7 BN; have u1_0 := (X1.out.keep BZ.out).cell (i := 0) rfl; have v1_0 := (X2.out.keep BZ.out).cell (i := 0) rfl; have u1_1 := (X1.out.keep BZ.out).cell (i := 1) rfl; have v1_1 := (X2.out.keep BZ.out).cell (i := 1) rfl; have u1_2 := (X1.out.keep BZ.out).cell (i := 2) rfl; have v1_2 := (X2.out.keep BZ.out).cell (i := 2) rfl; have u1_3 := (X1.out.keep BZ.out).cell (i := 3) rfl; have v1_3 := (X2.out.keep BZ.out).cell (i := 3) rfl; have u1_4 := (X1.out.keep BZ.out).cell (i := 4) rfl; have v1_4 := (X2.out.keep BZ.out).cell (i := 4) rfl; have u1_5 := (X1.out.keep BZ.out).cell (i := 5) rfl; have v1_5 := (X2.out.keep BZ.out).cell (i := 5) rfl; have u1_6 := (X1.out.keep BZ.out).cell (i := 6) rfl; have v1_6 := (X2.out.keep BZ.out).cell (i := 6) rfl; have u1_7 := (X1.out.keep BZ.out).cell (i := 7) rfl; have v1_7 := (X2.out.keep BZ.out).cell (i := 7) rfl; have u1_8 := (X1.out.keep BZ.out).cell (i := 8) rfl; have v1_8 := (X2.out.keep BZ.out).cell (i := 8) rfl; have u1_9 := (X1.out.keep BZ.out).cell (i := 9) rfl; have v1_9 := (X2.out.keep BZ.out).cell (i := 9) rfl)
    | (go_at_call 36; have gate := h8; clear gate; go_must (refine (decSame ((h8.out.keep HB.out).keep BZ.out) ((g8.out.keep HB.out).keep BZ.out) p8 q8).mono ?_); rintro e' y2 ⟨rfl, BN⟩; replace BZ := hid3 (joinB BZ.out BN); clear h8 BN; have u2_0 := (X1.out.keep BZ.out).cell (i := 0) rfl; have v2_0 := (X2.out.keep BZ.out).cell (i := 0) rfl; have u2_1 := (X1.out.keep BZ.out).cell (i := 1) rfl; have v2_1 := (X2.out.keep BZ.out).cell (i := 1) rfl; have u2_2 := (X1.out.keep BZ.out).cell (i := 2) rfl; have v2_2 := (X2.out.keep BZ.out).cell (i := 2) rfl; have u2_3 := (X1.out.keep BZ.out).cell (i := 3) rfl; have v2_3 := (X2.out.keep BZ.out).cell (i := 3) rfl; have u2_4 := (X1.out.keep BZ.out).cell (i := 4) rfl; have v2_4 := (X2.out.keep BZ.out).cell (i := 4) rfl; have u2_5 := (X1.out.keep BZ.out).cell (i := 5) rfl; have v2_5 := (X2.out.keep BZ.out).cell (i := 5) rfl; have u2_6 := (X1.out.keep BZ.out).cell (i := 6) rfl; have v2_6 := (X2.out.keep BZ.out).cell (i := 6) rfl; have u2_7 := (X1.out.keep BZ.out).cell (i := 7) rfl; have v2_7 := (X2.out.keep BZ.out).cell (i := 7) rfl; have u2_8 := (X1.out.keep BZ.out).cell (i := 8) rfl; have v2_8 := (X2.out.keep BZ.out).cell (i := 8) rfl; have u2_9 := (X1.out.keep BZ.out).cell (i := 9) rfl; have v2_9 := (X2.out.keep BZ.out).cell (i := 9) rfl)
    | (go_at_call 36; have gate := h9; clear gate; go_must (refine (decSame ((h9.out.keep HB.out).keep BZ.out) ((g9.out.keep HB.out).keep BZ.out) p9 q9).mono ?_); rintro e' y3 ⟨rfl, BN⟩; replace BZ := hid3 (joinB BZ.out BN); clear h9 BN; have u3_0 := (X1.out.keep BZ.out).cell (i := 0) rfl; have v3_0 := (X2.out.keep BZ.out).cell (i := 0) rfl; have u3_1 := (X1.out.keep BZ.out).cell (i := 1) rfl; have v3_1 := (X2.out.keep BZ.out).cell (i := 1) rfl; have u3_2 := (X1.out.keep BZ.out).cell (i := 2) rfl; have v3_2 := (X2.out.keep BZ.out).cell (i := 2) rfl; have u3_3 := (X1.out.keep BZ.out).cell (i := 3) rfl; have v3_3 := (X2.out.keep BZ.out).cell (i := 3) rfl; have u3_4 := (X1.out.keep BZ.out).cell (i := 4) rfl; have v3_4 := (X2.out.keep BZ.out).cell (i := 4) rfl; have u3_5 := (X1.out.keep BZ.out).cell (i := 5) rfl; have v3_5 := (X2.out.keep BZ.out).cell (i := 5) rfl; have u3_6 := (X1.out.keep BZ.out).cell (i := 6) rfl; have v3_6 := (X2.out.keep BZ.out).cell (i := 6) rfl; have u3_7 := (X1.out.keep BZ.out).cell (i := 7) rfl; have v3_7 := (X2.out.keep BZ.out).cell (i := 7) rfl; have u3_8 := (X1.out.keep BZ.out).cell (i := 8) rfl; have v3_8 := (X2.out.keep BZ.out).cell (i := 8) rfl; have u3_9 := (X1.out.keep BZ.out).cell (i := 9) rfl; have v3_9 := (X2.out.keep BZ.out).cell (i := 9) rfl)
  go_ret
  exact ⟨rfl, joinB HB.out BZ.out⟩
end Rc
end Go.Proofs.YtenlhceceplldaaGreat

namespace Go.Proofs.YtenlhceceplldaaGreat
namespace Rc
open Go.RowKit Go.Lib Pg
attribute [local go_sem] Oper.semAt_some
theorem bk_Params {w : World} {bb n c : Nat} {ao : Option Addr} {x0 : Int} {x1 : Int} {x2 : Int} {x3 : Int} {x4 : Int} {x5 : Int} {x6 : Int} {x7 : Int} {x8 : Int} {x9 : Int} (A : ByA w bb ao n c (thr (pnx (fun o => ([x0, x1, x2, x3, x4, x5, x6, x7, x8, x9] : List Int).getD o 0)) [(0, 0), (0, 1), (0, 2), (0, 3), (0, 4), (0, 5), (0, 6), (0, 7), (0, 8), (0, 9)] [])) (hn : n ≤ 1000000000) (r0 : 0 ≤ x0 ∧ x0 < 18446744073709551616) (r1 : 0 ≤ x1 ∧ x1 < 18446744073709551616) (r2 : 0 ≤ x2 ∧ x2 < 18446744073709551616) (r3 : 0 ≤ x3 ∧ x3 < 18446744073709551616) (r4 : 0 ≤ x4 ∧ x4 < 18446744073709551616) (r5 : 0 ≤ x5 ∧ x5 < 18446744073709551616) (r6 : 0 ≤ x6 ∧ x6 < 18446744073709551616) (r7 : 0 ≤ x7 ∧ x7 < 18446744073709551616) (r8 : 0 ≤ x8 ∧ x8 < 18446744073709551616) (r9 : 0 ≤ x9 ∧ x9 < 18446744073709551616) :
    Calls Tryz.prog 71 #[.slice ao n c] w fun e w' => e = .returned (.tuple #[.agg #[.int .u64 x0, .int .u64 x1, .int .u64 x2, .int .u64 x3, .int .u64 x4, .int .u64 x5, .int .u64 x6, .int .u64 x7, .int .u64 x8, .int .u64 x9], .int .i64 0]) ∧ Below w.heap.size w w' := by
  have hl : (thr (pnx (fun o => ([x0, x1, x2, x3, x4, x5, x6, x7, x8, x9] : List Int).getD o 0)) [(0, 0), (0, 1), (0, 2), (0, 3), (0, 4), (0, 5), (0, 6), (0, 7), (0, 8), (0, 9)] []).length = n := by obtain ⟨o, h1, _⟩ := A.ex; exact h1
  obtain ⟨ys, e1, e2, -⟩ := thr_back (fun o => ([x0, x1, x2, x3, x4, x5, x6, x7, x8, x9] : List Int).getD o 0) [(0, 0), (0, 1), (0, 2), (0, 3), (0, 4), (0, 5), (0, 6), (0, 7), (0, 8), (0, 9)] [] (fun _ => 0) (by decide) (List.forall_mem_cons.2 ⟨r0, List.forall_mem_cons.2 ⟨r1, List.forall_mem_cons.2 ⟨r2, List.forall_mem_cons.2 ⟨r3, List.forall_mem_cons.2 ⟨r4, List.forall_mem_cons.2 ⟨r5, List.forall_mem_cons.2 ⟨r6, List.forall_mem_cons.2 ⟨r7, List.forall_mem_cons.2 ⟨r8, List.forall_mem_cons.2 ⟨r9, fun _ h => by cases h⟩⟩⟩⟩⟩⟩⟩⟩⟩⟩)
  rw [List.append_nil] at e1
  refine (Params_any A hn hl).mono ?_
  rintro e w' ⟨⟨cs, xs, r, rfl, h1, h2, h3, h4⟩, B⟩
  rw [e1] at h3
  obtain ⟨rfl, rfl⟩ := h3 rfl
  have y0 := e2 (0, 0) (by simp)
  have q0 : cs[0]? = some (.int .u64 x0) := by rw [(h2 0).1 rfl]; exact congrArg _ (congrArg _ y0)
  have y1 := e2 (0, 1) (by simp)
  have q1 : cs[1]? = some (.int .u64 x1) := by rw [(h2 1).1 rfl]; exact congrArg _ (congrArg _ y1)
  have y2 := e2 (0, 2) (by simp)
  have q2 : cs[2]? = some (.int .u64 x2) := by rw [(h2 2).1 rfl]; exact congrArg _ (congrArg _ y2)
  have y3 := e2 (0, 3) (by simp)
  have q3 : cs[3]? = some (.int .u64 x3) := by rw [(h2 3).1 rfl]; exact congrArg _ (congrArg _ y3)
  have y4 := e2 (0, 4) (by simp)
  have q4 : cs[4]? = some (.int .u64 x4) := by rw [(h2 4).1 rfl]; exact congrArg _ (congrArg _ y4)
  have y5 := e2 (0, 5) (by simp)
  have q5 : cs[5]? = some (.int .u64 x5) := by rw [(h2 5).1 rfl]; exact congrArg _ (congrArg _ y5)
  have y6 := e2 (0, 6) (by simp)
  have q6 : cs[6]? = some (.int .u64 x6) := by rw [(h2 6).1 rfl]; exact congrArg _ (congrArg _ y6)
  have y7 := e2 (0, 7) (by simp)
  have q7 : cs[7]? = some (.int .u64 x7) := by rw [(h2 7).1 rfl]; exact congrArg _ (congrArg _ y7)
  have y8 := e2 (0, 8) (by simp)
  have q8 : cs[8]? = some (.int .u64 x8) := by rw [(h2 8).1 rfl]; exact congrArg _ (congrArg _ y8)
  have y9 := e2 (0, 9) (by simp)
  have q9 : cs[9]? = some (.int .u64 x9) := by rw [(h2 9).1 rfl]; exact congrArg _ (congrArg _ y9)
  have ecs : cs = [.int .u64 x0, .int .u64 x1, .int .u64 x2, .int .u64 x3, .int .u64 x4, .int .u64 x5, .int .u64 x6, .int .u64 x7, .int .u64 x8, .int .u64 x9] := by
    apply List.ext_getElem?
    intro i
    match i with
    | 0 => rw [q0]; rfl
    | 1 => rw [q1]; rfl
    | 2 => rw [q2]; rfl
    | 3 => rw [q3]; rfl
    | 4 => rw [q4]; rfl
    | 5 => rw [q5]; rfl
    | 6 => rw [q6]; rfl
    | 7 => rw [q7]; rfl
    | 8 => rw [q8]; rfl
    | 9 => rw [q9]; rfl
    | k + 10 => rw [List.getElem?_eq_none (by omega), List.getElem?_eq_none (by simp)]
  subst ecs
  exact ⟨rfl, B⟩
theorem bk_Chain {w : World} {bb n c : Nat} {ao : Option Addr} {x0 : Int} {x1 : Int} (A : ByA w bb ao n c (thr (pnx (fun o => ([x0, x1] : List Int).getD o 0)) [(0, 0), (0, 1)] [])) (hn : n ≤ 1000000000) (r0 : 0 ≤ x0 ∧ x0 < 18446744073709551616) (r1 : 0 ≤ x1 ∧ x1 < 18446744073709551616) :
    Calls Tryz.prog 73 #[.slice ao n c] w fun e w' => e = .returned (.tuple #[.agg #[.int .u64 x0, .int .u64 x1], .int .i64 0]) ∧ Below w.heap.size w w' := by
  have hl : (thr (pnx (fun o => ([x0, x1] : List Int).getD o 0)) [(0, 0), (0, 1)] []).length = n := by obtain ⟨o, h1, _⟩ := A.ex; exact h1
  obtain ⟨ys, e1, e2, -⟩ := thr_back (fun o => ([x0, x1] : List Int).getD o 0) [(0, 0), (0, 1)] [] (fun _ => 0) (by decide) (List.forall_mem_cons.2 ⟨r0, List.forall_mem_cons.2 ⟨r1, fun _ h => by cases h⟩⟩)
  rw [List.append_nil] at e1
  refine (Chain_any A hn hl).mono ?_
  rintro e w' ⟨⟨cs, xs, r, rfl, h1, h2, h3, h4⟩, B⟩
  rw [e1] at h3
  obtain ⟨rfl, rfl⟩ := h3 rfl
  have y0 := e2 (0, 0) (by simp)
  have q0 : cs[0]? = some (.int .u64 x0) := by rw [(h2 0).1 rfl]; exact congrArg _ (congrArg _ y0)
  have y1 := e2 (0, 1) (by simp)
  have q1 : cs[1]? = some (.int .u64 x1) := by rw [(h2 1).1 rfl]; exact congrArg _ (congrArg _ y1)
  have ecs : cs = [.int .u64 x0, .int .u64 x1] := by
    apply List.ext_getElem?
    intro i
    match i with
    | 0 => rw [q0]; rfl
    | 1 => rw [q1]; rfl
    | k + 2 => rw [List.getElem?_eq_none (by omega), List.getElem?_eq_none (by simp)]
  subst ecs
  exact ⟨rfl, B⟩
theorem bk_Pool {w : World} {bb n c : Nat} {ao : Option Addr} {x0 : Int} (A : ByA w bb ao n c (thr (pnx (fun o => ([x0] : List Int).getD o 0)) [(2, 0)] [])) (hn : n ≤ 1000000000) (r0 : 0 ≤ x0) :
    Calls Tryz.prog 75 #[.slice ao n c] w fun e w' => ∃ a0 n0 c0, e = .returned (.tuple #[.agg #[.slice a0 n0 c0], .int .i64 0]) ∧ (NatW w' w.heap.size a0 n0 c0 (fit x0) ∧ n0 ≤ 255) ∧ Below w.heap.size w w' := by
  have hl : (thr (pnx (fun o => ([x0] : List Int).getD o 0)) [(2, 0)] []).length = n := by obtain ⟨o, h1, _⟩ := A.ex; exact h1
  obtain ⟨ys, e1, e2, -⟩ := thr_back (fun o => ([x0] : List Int).getD o 0) [(2, 0)] [] (fun _ => 0) (by decide) (List.forall_mem_cons.2 ⟨r0, fun _ h => by cases h⟩)
  rw [List.append_nil] at e1
  refine (Pool_any A hn hl).mono ?_
  rintro e w' ⟨⟨cs, xs, r, rfl, h1, h2, h3, h4⟩, B⟩
  rw [e1] at h3
  obtain ⟨rfl, rfl⟩ := h3 rfl
  have y0 := e2 (2, 0) (by simp)
  obtain ⟨a0, n0, c0, q0, w0, k0⟩ := (h2 0).2.2 rfl
  rw [show _ = fit x0 from y0] at w0
  have ecs : cs = [.slice a0 n0 c0] := by
    apply List.ext_getElem?
    intro i
    match i with
    | 0 => rw [q0]; rfl
    | k + 1 => rw [List.getElem?_eq_none (by omega), List.getElem?_eq_none (by simp)]
  subst ecs
  exact ⟨a0, n0, c0, rfl, ⟨w0, k0⟩, B⟩
theorem bk_Account {w : World} {bb n c : Nat} {ao : Option Addr} {x0 : Int} {x1 : Int} (A : ByA w bb ao n c (thr (pnx (fun o => ([x0, x1] : List Int).getD o 0)) [(0, 0), (0, 1)] [])) (hn : n ≤ 1000000000) (r0 : 0 ≤ x0 ∧ x0 < 18446744073709551616) (r1 : 0 ≤ x1 ∧ x1 < 18446744073709551616) :
    Calls Tryz.prog 39 #[.slice ao n c] w fun e w' => e = .returned (.tuple #[.agg #[.int .u64 x0, .int .u64 x1], .int .i64 0]) ∧ Below w.heap.size w w' := by
  have hl : (thr (pnx (fun o => ([x0, x1] : List Int).getD o 0)) [(0, 0), (0, 1)] []).length = n := by obtain ⟨o, h1, _⟩ := A.ex; exact h1
  obtain ⟨ys, e1, e2, -⟩ := thr_back (fun o => ([x0, x1] : List Int).getD o 0) [(0, 0), (0, 1)] [] (fun _ => 0) (by decide) (List.forall_mem_cons.2 ⟨r0, List.forall_mem_cons.2 ⟨r1, fun _ h => by cases h⟩⟩)
  rw [List.append_nil] at e1
  refine (Account_any A hn hl).mono ?_
  rintro e w' ⟨⟨cs, xs, r, rfl, h1, h2, h3, h4⟩, B⟩
  rw [e1] at h3
  obtain ⟨rfl, rfl⟩ := h3 rfl
  have y0 := e2 (0, 0) (by simp)
  have q0 : cs[0]? = some (.int .u64 x0) := by rw [(h2 0).1 rfl]; exact congrArg _ (congrArg _ y0)
  have y1 := e2 (0, 1) (by simp)
  have q1 : cs[1]? = some (.int .u64 x1) := by rw [(h2 1).1 rfl]; exact congrArg _ (congrArg _ y1)
  have ecs : cs = [.int .u64 x0, .int .u64 x1] := by
    apply List.ext_getElem?
    intro i
    match i with
    | 0 => rw [q0]; rfl
    | 1 => rw [q1]; rfl
    | k + 2 => rw [List.getElem?_eq_none (by omega), List.getElem?_eq_none (by simp)]
  subst ecs
  exact ⟨rfl, B⟩
theorem bk_Val {w : World} {bb n c : Nat} {ao : Option Addr} {x0 : Int} {x1 : Int} {x2 : Int} {t3 : Bool} {x4 : Int} {t5 : Bool} {x6 : Int} {x7 : Int} {x8 : Int} {x9 : Int} (A : ByA w bb ao n c (thr (pnx (fun o => ([x0, x1, x2, (if t3 then 1 else 0), x4, (if t5 then 1 else 0), x6, x7, x8, x9] : List Int).getD o 0)) [(0, 0), (0, 1), (2, 2), (1, 3), (0, 4), (1, 5), (0, 6), (2, 7), (2, 8), (2, 9)] [])) (hn : n ≤ 1000000000) (r0 : 0 ≤ x0 ∧ x0 < 18446744073709551616) (r1 : 0 ≤ x1 ∧ x1 < 18446744073709551616) (r2 : 0 ≤ x2) (r4 : 0 ≤ x4 ∧ x4 < 18446744073709551616) (r6 : 0 ≤ x6 ∧ x6 < 18446744073709551616) (r7 : 0 ≤ x7) (r8 : 0 ≤ x8) (r9 : 0 ≤ x9) :
    Calls Tryz.prog 40 #[.slice ao n c] w fun e w' => ∃ a2 n2 c2 a7 n7 c7 a8 n8 c8 a9 n9 c9, e = .returned (.tuple #[.agg #[.int .u64 x0, .int .u64 x1, .slice a2 n2 c2, .bool t3, .int .u64 x4, .bool t5, .int .u64 x6, .slice a7 n7 c7, .slice a8 n8 c8, .slice a9 n9 c9], .int .i64 0]) ∧ (NatW w' w.heap.size a2 n2 c2 (fit x2) ∧ n2 ≤ 255) ∧ (NatW w' w.heap.size a7 n7 c7 (fit x7) ∧ n7 ≤ 255) ∧ (NatW w' w.heap.size a8 n8 c8 (fit x8) ∧ n8 ≤ 255) ∧ (NatW w' w.heap.size a9 n9 c9 (fit x9) ∧ n9 ≤ 255) ∧ Below w.heap.size w w' := by
  have hl : (thr (pnx (fun o => ([x0, x1, x2, (if t3 then 1 else 0), x4, (if t5 then 1 else 0), x6, x7, x8, x9] : List Int).getD o 0)) [(0, 0), (0, 1), (2, 2), (1, 3), (0, 4), (1, 5), (0, 6), (2, 7), (2, 8), (2, 9)] []).length = n := by obtain ⟨o, h1, _⟩ := A.ex; exact h1
  obtain ⟨ys, e1, e2, -⟩ := thr_back (fun o => ([x0, x1, x2, (if t3 then 1 else 0), x4, (if t5 then 1 else 0), x6, x7, x8, x9] : List Int).getD o 0) [(0, 0), (0, 1), (2, 2), (1, 3), (0, 4), (1, 5), (0, 6), (2, 7), (2, 8), (2, 9)] [] (fun _ => 0) (by decide) (List.forall_mem_cons.2 ⟨r0, List.forall_mem_cons.2 ⟨r1, List.forall_mem_cons.2 ⟨r2, List.forall_mem_cons.2 ⟨(by cases t3; exact .inl rfl; exact .inr rfl), List.forall_mem_cons.2 ⟨r4, List.forall_mem_cons.2 ⟨(by cases t5; exact .inl rfl; exact .inr rfl), List.forall_mem_cons.2 ⟨r6, List.forall_mem_cons.2 ⟨r7, List.forall_mem_cons.2 ⟨r8, List.forall_mem_cons.2 ⟨r9, fun _ h => by cases h⟩⟩⟩⟩⟩⟩⟩⟩⟩⟩)
  rw [List.append_nil] at e1
  refine (Val_any A hn hl).mono ?_
  rintro e w' ⟨⟨cs, xs, r, rfl, h1, h2, h3, h4⟩, B⟩
  rw [e1] at h3
  obtain ⟨rfl, rfl⟩ := h3 rfl
  have y0 := e2 (0, 0) (by simp)
  have q0 : cs[0]? = some (.int .u64 x0) := by rw [(h2 0).1 rfl]; exact congrArg _ (congrArg _ y0)
  have y1 := e2 (0, 1) (by simp)
  have q1 : cs[1]? = some (.int .u64 x1) := by rw [(h2 1).1 rfl]; exact congrArg _ (congrArg _ y1)
  have y2 := e2 (2, 2) (by simp)
  obtain ⟨a2, n2, c2, q2, w2, k2⟩ := (h2 2).2.2 rfl
  rw [show _ = fit x2 from y2] at w2
  have y3 := e2 (1, 3) (by simp)
  have q3 : cs[3]? = some (.bool t3) := by
    obtain ⟨t, h5, h6⟩ := (h2 3).2.1 rfl
    have h7 : (if t then (1 : Int) else 0) = if t3 then 1 else 0 := h6.symm.trans y3
    have h8 : t = t3 := by cases t <;> cases t3 <;> first | rfl | (simp at h7)
    rw [h5, h8]
  have y4 := e2 (0, 4) (by simp)
  have q4 : cs[4]? = some (.int .u64 x4) := by rw [(h2 4).1 rfl]; exact congrArg _ (congrArg _ y4)
  have y5 := e2 (1, 5) (by simp)
  have q5 : cs[5]? = some (.bool t5) := by
    obtain ⟨t, h5, h6⟩ := (h2 5).2.1 rfl
    have h7 : (if t then (1 : Int) else 0) = if t5 then 1 else 0 := h6.symm.trans y5
    have h8 : t = t5 := by cases t <;> cases t5 <;> first | rfl | (simp at h7)
    rw [h5, h8]
  have y6 := e2 (0, 6) (by simp)
  have q6 : cs[6]? = some (.int .u64 x6) := by rw [(h2 6).1 rfl]; exact congrArg _ (congrArg _ y6)
  have y7 := e2 (2, 7) (by simp)
  obtain ⟨a7, n7, c7, q7, w7, k7⟩ := (h2 7).2.2 rfl
  rw [show _ = fit x7 from y7] at w7
  have y8 := e2 (2, 8) (by simp)
  obtain ⟨a8, n8, c8, q8, w8, k8⟩ := (h2 8).2.2 rfl
  rw [show _ = fit x8 from y8] at w8
  have y9 := e2 (2, 9) (by simp)
  obtain ⟨a9, n9, c9, q9, w9, k9⟩ := (h2 9).2.2 rfl
  rw [show _ = fit x9 from y9] at w9
  have ecs : cs = [.int .u64 x0, .int .u64 x1, .slice a2 n2 c2, .bool t3, .int .u64 x4, .bool t5, .int .u64 x6, .slice a7 n7 c7, .slice a8 n8 c8, .slice a9 n9 c9] := by
    apply List.ext_getElem?
    intro i
    match i with
    | 0 => rw [q0]; rfl
    | 1 => rw [q1]; rfl
    | 2 => rw [q2]; rfl
    | 3 => rw [q3]; rfl
    | 4 => rw [q4]; rfl
    | 5 => rw [q5]; rfl
    | 6 => rw [q6]; rfl
    | 7 => rw [q7]; rfl
    | 8 => rw [q8]; rfl
    | 9 => rw [q9]; rfl
    | k + 10 => rw [List.getElem?_eq_none (by omega), List.getElem?_eq_none (by simp)]
  subst ecs
  exact ⟨a2, n2, c2, a7, n7, c7, a8, n8, c8, a9, n9, c9, rfl, ⟨w2, k2⟩, ⟨w7, k7⟩, ⟨w8, k8⟩, ⟨w9, k9⟩, B⟩
theorem bk_Delegation {w : World} {bb n c : Nat} {ao : Option Addr} {x0 : Int} {x1 : Int} {x2 : Int} (A : ByA w bb ao n c (thr (pnx (fun o => ([x0, x1, x2] : List Int).getD o 0)) [(2, 0), (0, 1), (2, 2)] [])) (hn : n ≤ 1000000000) (r0 : 0 ≤ x0) (r1 : 0 ≤ x1 ∧ x1 < 18446744073709551616) (r2 : 0 ≤ x2) :
    Calls Tryz.prog 79 #[.slice ao n c] w fun e w' => ∃ a0 n0 c0 a2 n2 c2, e = .returned (.tuple #[.agg #[.slice a0 n0 c0, .int .u64 x1, .slice a2 n2 c2], .int .i64 0]) ∧ (NatW w' w.heap.size a0 n0 c0 (fit x0) ∧ n0 ≤ 255) ∧ (NatW w' w.heap.size a2 n2 c2 (fit x2) ∧ n2 ≤ 255) ∧ Below w.heap.size w w' := by
  have hl : (thr (pnx (fun o => ([x0, x1, x2] : List Int).getD o 0)) [(2, 0), (0, 1), (2, 2)] []).length = n := by obtain ⟨o, h1, _⟩ := A.ex; exact h1
  obtain ⟨ys, e1, e2, -⟩ := thr_back (fun o => ([x0, x1, x2] : List Int).getD o 0) [(2, 0), (0, 1), (2, 2)] [] (fun _ => 0) (by decide) (List.forall_mem_cons.2 ⟨r0, List.forall_mem_cons.2 ⟨r1, List.forall_mem_cons.2 ⟨r2, fun _ h => by cases h⟩⟩⟩)
  rw [List.append_nil] at e1
  refine (Delegation_any A hn hl).mono ?_
  rintro e w' ⟨⟨cs, xs, r, rfl, h1, h2, h3, h4⟩, B⟩
  rw [e1] at h3
  obtain ⟨rfl, rfl⟩ := h3 rfl
  have y0 := e2 (2, 0) (by simp)
  obtain ⟨a0, n0, c0, q0, w0, k0⟩ := (h2 0).2.2 rfl
  rw [show _ = fit x0 from y0] at w0
  have y1 := e2 (0, 1) (by simp)
  have q1 : cs[1]? = some (.int .u64 x1) := by rw [(h2 1).1 rfl]; exact congrArg _ (congrArg _ y1)
  have y2 := e2 (2, 2) (by simp)
  obtain ⟨a2, n2, c2, q2, w2, k2⟩ := (h2 2).2.2 rfl
  rw [show _ = fit x2 from y2] at w2
  have ecs : cs = [.slice a0 n0 c0, .int .u64 x1, .slice a2 n2 c2] := by
    apply List.ext_getElem?
    intro i
    match i with
    | 0 => rw [q0]; rfl
    | 1 => rw [q1]; rfl
    | 2 => rw [q2]; rfl
    | k + 3 => rw [List.getElem?_eq_none (by omega), List.getElem?_eq_none (by simp)]
  subst ecs
  exact ⟨a0, n0, c0, a2, n2, c2, rfl, ⟨w0, k0⟩, ⟨w2, k2⟩, B⟩
theorem bk_History {w : World} {bb n c : Nat} {ao : Option Addr} {x0 : Int} {x1 : Int} (A : ByA w bb ao n c (thr (pnx (fun o => ([x0, x1] : List Int).getD o 0)) [(2, 0), (0, 1)] [])) (hn : n ≤ 1000000000) (r0 : 0 ≤ x0) (r1 : 0 ≤ x1 ∧ x1 < 18446744073709551616) :
    Calls Tryz.prog 41 #[.slice ao n c] w fun e w' => ∃ a0 n0 c0, e = .returned (.tuple #[.agg #[.slice a0 n0 c0, .int .u64 x1], .int .i64 0]) ∧ (NatW w' w.heap.size a0 n0 c0 (fit x0) ∧ n0 ≤ 255) ∧ Below w.heap.size w w' := by
  have hl : (thr (pnx (fun o => ([x0, x1] : List Int).getD o 0)) [(2, 0), (0, 1)] []).length = n := by obtain ⟨o, h1, _⟩ := A.ex; exact h1
  obtain ⟨ys, e1, e2, -⟩ := thr_back (fun o => ([x0, x1] : List Int).getD o 0) [(2, 0), (0, 1)] [] (fun _ => 0) (by decide) (List.forall_mem_cons.2 ⟨r0, List.forall_mem_cons.2 ⟨r1, fun _ h => by cases h⟩⟩)
  rw [List.append_nil] at e1
  refine (History_any A hn hl).mono ?_
  rintro e w' ⟨⟨cs, xs, r, rfl, h1, h2, h3, h4⟩, B⟩
  rw [e1] at h3
  obtain ⟨rfl, rfl⟩ := h3 rfl
  have y0 := e2 (2, 0) (by simp)
  obtain ⟨a0, n0, c0, q0, w0, k0⟩ := (h2 0).2.2 rfl
  rw [show _ = fit x0 from y0] at w0
  have y1 := e2 (0, 1) (by simp)
  have q1 : cs[1]? = some (.int .u64 x1) := by rw [(h2 1).1 rfl]; exact congrArg _ (congrArg _ y1)
  have ecs : cs = [.slice a0 n0 c0, .int .u64 x1] := by
    apply List.ext_getElem?
    intro i
    match i with
    | 0 => rw [q0]; rfl
    | 1 => rw [q1]; rfl
    | k + 2 => rw [List.getElem?_eq_none (by omega), List.getElem?_eq_none (by simp)]
  subst ecs
  exact ⟨a0, n0, c0, rfl, ⟨w0, k0⟩, B⟩
theorem bk_Cut {w : World} {bb n c : Nat} {ao : Option Addr} {x0 : Int} {x1 : Int} (A : ByA w bb ao n c (thr (pnx (fun o => ([x0, x1] : List Int).getD o 0)) [(0, 0), (0, 1)] [])) (hn : n ≤ 1000000000) (r0 : 0 ≤ x0 ∧ x0 < 18446744073709551616) (r1 : 0 ≤ x1 ∧ x1 < 18446744073709551616) :
    Calls Tryz.prog 38 #[.slice ao n c] w fun e w' => e = .returned (.tuple #[.agg #[.int .u64 x0, .int .u64 x1], .int .i64 0]) ∧ Below w.heap.size w w' := by
  have hl : (thr (pnx (fun o => ([x0, x1] : List Int).getD o 0)) [(0, 0), (0, 1)] []).length = n := by obtain ⟨o, h1, _⟩ := A.ex; exact h1
  obtain ⟨ys, e1, e2, -⟩ := thr_back (fun o => ([x0, x1] : List Int).getD o 0) [(0, 0), (0, 1)] [] (fun _ => 0) (by decide) (List.forall_mem_cons.2 ⟨r0, List.forall_mem_cons.2 ⟨r1, fun _ h => by cases h⟩⟩)
  rw [List.append_nil] at e1
  refine (Cut_any A hn hl).mono ?_
  rintro e w' ⟨⟨cs, xs, r, rfl, h1, h2, h3, h4⟩, B⟩
  rw [e1] at h3
  obtain ⟨rfl, rfl⟩ := h3 rfl
  have y0 := e2 (0, 0) (by simp)
  have q0 : cs[0]? = some (.int .u64 x0) := by rw [(h2 0).1 rfl]; exact congrArg _ (congrArg _ y0)
  have y1 := e2 (0, 1) (by simp)
  have q1 : cs[1]? = some (.int .u64 x1) := by rw [(h2 1).1 rfl]; exact congrArg _ (congrArg _ y1)
  have ecs : cs = [.int .u64 x0, .int .u64 x1] := by
    apply List.ext_getElem?
    intro i
    match i with
    | 0 => rw [q0]; rfl
    | 1 => rw [q1]; rfl
    | k + 2 => rw [List.getElem?_eq_none (by omega), List.getElem?_eq_none (by simp)]
  subst ecs
  exact ⟨rfl, B⟩
theorem bk_Unbonding {w : World} {bb n c : Nat} {ao : Option Addr} {x0 : Int} {x1 : Int} {x2 : Int} {x3 : Int} {x4 : Int} {x5 : Int} (A : ByA w bb ao n c (thr (pnx (fun o => ([x0, x1, x2, x3, x4, x5] : List Int).getD o 0)) [(0, 0), (0, 1), (0, 2), (0, 3), (0, 4), (0, 5)] [])) (hn : n ≤ 1000000000) (r0 : 0 ≤ x0 ∧ x0 < 18446744073709551616) (r1 : 0 ≤ x1 ∧ x1 < 18446744073709551616) (r2 : 0 ≤ x2 ∧ x2 < 18446744073709551616) (r3 : 0 ≤ x3 ∧ x3 < 18446744073709551616) (r4 : 0 ≤ x4 ∧ x4 < 18446744073709551616) (r5 : 0 ≤ x5 ∧ x5 < 18446744073709551616) :
    Calls Tryz.prog 84 #[.slice ao n c] w fun e w' => e = .returned (.tuple #[.agg #[.int .u64 x0, .int .u64 x1, .int .u64 x2, .int .u64 x3, .int .u64 x4, .int .u64 x5], .int .i64 0]) ∧ Below w.heap.size w w' := by
  have hl : (thr (pnx (fun o => ([x0, x1, x2, x3, x4, x5] : List Int).getD o 0)) [(0, 0), (0, 1), (0, 2), (0, 3), (0, 4), (0, 5)] []).length = n := by obtain ⟨o, h1, _⟩ := A.ex; exact h1
  obtain ⟨ys, e1, e2, -⟩ := thr_back (fun o => ([x0, x1, x2, x3, x4, x5] : List Int).getD o 0) [(0, 0), (0, 1), (0, 2), (0, 3), (0, 4), (0, 5)] [] (fun _ => 0) (by decide) (List.forall_mem_cons.2 ⟨r0, List.forall_mem_cons.2 ⟨r1, List.forall_mem_cons.2 ⟨r2, List.forall_mem_cons.2 ⟨r3, List.forall_mem_cons.2 ⟨r4, List.forall_mem_cons.2 ⟨r5, fun _ h => by cases h⟩⟩⟩⟩⟩⟩)
  rw [List.append_nil] at e1
  refine (Unbonding_any A hn hl).mono ?_
  rintro e w' ⟨⟨cs, xs, r, rfl, h1, h2, h3, h4⟩, B⟩
  rw [e1] at h3
  obtain ⟨rfl, rfl⟩ := h3 rfl
  have y0 := e2 (0, 0) (by simp)
  have q0 : cs[0]? = some (.int .u64 x0) := by rw [(h2 0).1 rfl]; exact congrArg _ (congrArg _ y0)
  have y1 := e2 (0, 1) (by simp)
  have q1 : cs[1]? = some (.int .u64 x1) := by rw [(h2 1).1 rfl]; exact congrArg _ (congrArg _ y1)
  have y2 := e2 (0, 2) (by simp)
  have q2 : cs[2]? = some (.int .u64 x2) := by rw [(h2 2).1 rfl]; exact congrArg _ (congrArg _ y2)
  have y3 := e2 (0, 3) (by simp)
  have q3 : cs[3]? = some (.int .u64 x3) := by rw [(h2 3).1 rfl]; exact congrArg _ (congrArg _ y3)
  have y4 := e2 (0, 4) (by simp)
  have q4 : cs[4]? = some (.int .u64 x4) := by rw [(h2 4).1 rfl]; exact congrArg _ (congrArg _ y4)
  have y5 := e2 (0, 5) (by simp)
  have q5 : cs[5]? = some (.int .u64 x5) := by rw [(h2 5).1 rfl]; exact congrArg _ (congrArg _ y5)
  have ecs : cs = [.int .u64 x0, .int .u64 x1, .int .u64 x2, .int .u64 x3, .int .u64 x4, .int .u64 x5] := by
    apply List.ext_getElem?
    intro i
    match i with
    | 0 => rw [q0]; rfl
    | 1 => rw [q1]; rfl
    | 2 => rw [q2]; rfl
    | 3 => rw [q3]; rfl
    | 4 => rw [q4]; rfl
    | 5 => rw [q5]; rfl
    | k + 6 => rw [List.getElem?_eq_none (by omega), List.getElem?_eq_none (by simp)]
  subst ecs
  exact ⟨rfl, B⟩
theorem bk_Move {w : World} {bb n c : Nat} {ao : Option Addr} {x0 : Int} {x1 : Int} {x2 : Int} {x3 : Int} {x4 : Int} {x5 : Int} {x6 : Int} (A : ByA w bb ao n c (thr (pnx (fun o => ([x0, x1, x2, x3, x4, x5, x6] : List Int).getD o 0)) [(0, 0), (0, 1), (0, 2), (0, 3), (0, 4), (0, 5), (2, 6)] [])) (hn : n ≤ 1000000000) (r0 : 0 ≤ x0 ∧ x0 < 18446744073709551616) (r1 : 0 ≤ x1 ∧ x1 < 18446744073709551616) (r2 : 0 ≤ x2 ∧ x2 < 18446744073709551616) (r3 : 0 ≤ x3 ∧ x3 < 18446744073709551616) (r4 : 0 ≤ x4 ∧ x4 < 18446744073709551616) (r5 : 0 ≤ x5 ∧ x5 < 18446744073709551616) (r6 : 0 ≤ x6) :
    Calls Tryz.prog 86 #[.slice ao n c] w fun e w' => ∃ a6 n6 c6, e = .returned (.tuple #[.agg #[.int .u64 x0, .int .u64 x1, .int .u64 x2, .int .u64 x3, .int .u64 x4, .int .u64 x5, .slice a6 n6 c6], .int .i64 0]) ∧ (NatW w' w.heap.size a6 n6 c6 (fit x6) ∧ n6 ≤ 255) ∧ Below w.heap.size w w' := by
  have hl : (thr (pnx (fun o => ([x0, x1, x2, x3, x4, x5, x6] : List Int).getD o 0)) [(0, 0), (0, 1), (0, 2), (0, 3), (0, 4), (0, 5), (2, 6)] []).length = n := by obtain ⟨o, h1, _⟩ := A.ex; exact h1
  obtain ⟨ys, e1, e2, -⟩ := thr_back (fun o => ([x0, x1, x2, x3, x4, x5, x6] : List Int).getD o 0) [(0, 0), (0, 1), (0, 2), (0, 3), (0, 4), (0, 5), (2, 6)] [] (fun _ => 0) (by decide) (List.forall_mem_cons.2 ⟨r0, List.forall_mem_cons.2 ⟨r1, List.forall_mem_cons.2 ⟨r2, List.forall_mem_cons.2 ⟨r3, List.forall_mem_cons.2 ⟨r4, List.forall_mem_cons.2 ⟨r5, List.forall_mem_cons.2 ⟨r6, fun _ h => by cases h⟩⟩⟩⟩⟩⟩⟩)
  rw [List.append_nil] at e1
  refine (Move_any A hn hl).mono ?_
  rintro e w' ⟨⟨cs, xs, r, rfl, h1, h2, h3, h4⟩, B⟩
  rw [e1] at h3
  obtain ⟨rfl, rfl⟩ := h3 rfl
  have y0 := e2 (0, 0) (by simp)
  have q0 : cs[0]? = some (.int .u64 x0) := by rw [(h2 0).1 rfl]; exact congrArg _ (congrArg _ y0)
  have y1 := e2 (0, 1) (by simp)
  have q1 : cs[1]? = some (.int .u64 x1) := by rw [(h2 1).1 rfl]; exact congrArg _ (congrArg _ y1)
  have y2 := e2 (0, 2) (by simp)
  have q2 : cs[2]? = some (.int .u64 x2) := by rw [(h2 2).1 rfl]; exact congrArg _ (congrArg _ y2)
  have y3 := e2 (0, 3) (by simp)
  have q3 : cs[3]? = some (.int .u64 x3) := by rw [(h2 3).1 rfl]; exact congrArg _ (congrArg _ y3)
  have y4 := e2 (0, 4) (by simp)
  have q4 : cs[4]? = some (.int .u64 x4) := by rw [(h2 4).1 rfl]; exact congrArg _ (congrArg _ y4)
  have y5 := e2 (0, 5) (by simp)
  have q5 : cs[5]? = some (.int .u64 x5) := by rw [(h2 5).1 rfl]; exact congrArg _ (congrArg _ y5)
  have y6 := e2 (2, 6) (by simp)
  obtain ⟨a6, n6, c6, q6, w6, k6⟩ := (h2 6).2.2 rfl
  rw [show _ = fit x6 from y6] at w6
  have ecs : cs = [.int .u64 x0, .int .u64 x1, .int .u64 x2, .int .u64 x3, .int .u64 x4, .int .u64 x5, .slice a6 n6 c6] := by
    apply List.ext_getElem?
    intro i
    match i with
    | 0 => rw [q0]; rfl
    | 1 => rw [q1]; rfl
    | 2 => rw [q2]; rfl
    | 3 => rw [q3]; rfl
    | 4 => rw [q4]; rfl
    | 5 => rw [q5]; rfl
    | 6 => rw [q6]; rfl
    | k + 7 => rw [List.getElem?_eq_none (by omega), List.getElem?_eq_none (by simp)]
  subst ecs
  exact ⟨a6, n6, c6, rfl, ⟨w6, k6⟩, B⟩
theorem bk_Number {w : World} {bb n c : Nat} {ao : Option Addr} {x0 : Int} (A : ByA w bb ao n c (thr (pnx (fun o => ([x0] : List Int).getD o 0)) [(0, 0)] [])) (hn : n ≤ 1000000000) (r0 : 0 ≤ x0 ∧ x0 < 18446744073709551616) :
    Calls Tryz.prog 42 #[.slice ao n c] w fun e w' => e = .returned (.tuple #[.int .u64 x0, .int .i64 0]) ∧ Below w.heap.size w w' := by
  have hl : (thr (pnx (fun o => ([x0] : List Int).getD o 0)) [(0, 0)] []).length = n := by obtain ⟨o, h1, _⟩ := A.ex; exact h1
  obtain ⟨ys, e1, e2, -⟩ := thr_back (fun o => ([x0] : List Int).getD o 0) [(0, 0)] [] (fun _ => 0) (by decide) (List.forall_mem_cons.2 ⟨r0, fun _ h => by cases h⟩)
  rw [List.append_nil] at e1
  refine (Number_any A hn hl).mono ?_
  rintro e w' ⟨⟨cs, xs, r, rfl, h1, h2, h3, h4⟩, B⟩
  rw [e1] at h3
  obtain ⟨rfl, rfl⟩ := h3 rfl
  have y0 := e2 (0, 0) (by simp)
  have q0 : cs[0]? = some (.int .u64 x0) := by rw [(h2 0).1 rfl]; exact congrArg _ (congrArg _ y0)
  have ecs : cs = [.int .u64 x0] := by
    apply List.ext_getElem?
    intro i
    match i with
    | 0 => rw [q0]; rfl
    | k + 1 => rw [List.getElem?_eq_none (by omega), List.getElem?_eq_none (by simp)]
  subst ecs
  exact ⟨rfl, B⟩
end Rc
end Go.Proofs.YtenlhceceplldaaGreat
