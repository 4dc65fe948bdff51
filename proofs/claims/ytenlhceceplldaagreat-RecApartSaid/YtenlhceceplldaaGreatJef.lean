/- Several texts, joined: RcM, RcN. -/
import Derived.Test.YtenlhceceplldaaGreatJee
import Derived.Test.YtenlhceceplldaaGreatJda
namespace Go.Proofs.YtenlhceceplldaaGreat
namespace Rc
open Go.RowKit Go.Lib Pg Lim
attribute [local go_sem] Oper.semAt_some
theorem K8 : Kd Tryz.prog 49 5 1 1 (.int .u8 0) := ⟨by kernel_rfl, by kernel_rfl, rfl, by simp [Value.cells, Value.oneCell'], by decide⟩
/-- a byte more behind bytes that were laid -/
theorem app_b {w : World} {b n : Nat} {M : List Int} {x : Int} (h : Box w b (M.map (Value.int .u8)) 5) (hn : n = M.length) (ho : Octets M) (hx : 0 ≤ x ∧ x < 256) (hl : M.length ≤ 100000) :
    ∃ b' c' w', (Builtin.append_ #[49, 49] 49 #[.slice (some ⟨b, 0, none⟩) n n, .slice (some ⟨w.heap.size, 0, none⟩) 1 1]).run Tryz.prog (w.alloc (.cells #[.int .u8 x] 5)) = .ok (.slice (some ⟨b', 0, none⟩) (n + 1) c') w' ∧ ByA w' b' (some ⟨b', 0, none⟩) (n + 1) c' (M ++ [x]) ∧ Chg (· = b) w w' := by
  have al := below_alloc w (.cells #[.int .u8 x] 5)
  have nb := blk_new w [.int .u8 x] 5
  have hB : Blk (w.alloc (.cells #[.int .u8 x] 5)) b (M.map (Value.int .u8)) 5 := (Blk.mk h.blk).keep al
  have R := blk_rw (k := 1) (n := n) hB (by rw [List.length_map, hn, Nat.mul_one]) (by have : n ≤ 100000 := by omega
                                                                                       simp only [maxLen]; omega)
  obtain ⟨b', c', w', hr, hb, R', C⟩ := app_row K8 49 R ⟨w.heap.size, 0, none⟩ 1 1 [.int .u8 x] rfl (fun j u hj => by
    have : j = 0 := by have := (List.getElem?_eq_some_iff.1 hj).1; simp at this; omega
    subst this
    simp at hj
    subst hj
    exact nb.cell (i := 0) rfl) (by simp [Value.oneCell']) (by omega) (by omega)
  have hle := R'.le
  refine ⟨b', c', w', hr, ⟨0, by simp [hn], hle.1, ⟨by have := hle.2; simp only [maxLen] at this; omega, fun e => by cases e⟩, ?_, ⟨.inr rfl, fun i hi => ?_⟩⟩, (Chg.of (F := fun y => y = b) al).trans C (fun _ _ h => h)⟩
  · intro y hy
    rcases List.mem_append.1 hy with h1 | h1
    · exact ho y h1
    · simp at h1; subst h1; exact hx
  · rw [Nat.zero_add]
    refine R'.cell ?_
    have e : (M.map (Value.int .u8) ++ [Value.int .u8 x]) = (M ++ [x]).map (Value.int .u8) := by simp
    rw [e, List.getElem?_map]
    have : (M ++ [x])[i]? = some (nth (M ++ [x]) i) := by
      simp [nth, List.getD_eq_getElem?_getD, List.getElem?_eq_getElem hi]
    rw [this]
    rfl
/-- one byte too many -/
theorem tooLong {w : World} {bb n c : Nat} {ao : Option Addr} {x0 x1 y : Int} (A : ByA w bb ao n c (thr (pnx (fun o => ([x0, x1] : List Int).getD o 0)) [(0, 0), (0, 1)] [] ++ [y])) (hn : n ≤ 1000000000) (r0 : 0 ≤ x0 ∧ x0 < 18446744073709551616) (r1 : 0 ≤ x1 ∧ x1 < 18446744073709551616) :
    Calls Tryz.prog 39 #[.slice ao n c] w fun e w' => e = .returned (.tuple #[.agg #[.int .u64 0, .int .u64 0], .int .i64 80]) ∧ Below w.heap.size w w' := by
  have hl : (thr (pnx (fun o => ([x0, x1] : List Int).getD o 0)) [(0, 0), (0, 1)] [] ++ [y]).length = n := by obtain ⟨o, h1, _⟩ := A.ex; exact h1
  obtain ⟨ys, e1, -, -⟩ := thr_back (fun o => ([x0, x1] : List Int).getD o 0) [(0, 0), (0, 1)] [y] (fun _ => 0) (by decide) (List.forall_mem_cons.2 ⟨r0, List.forall_mem_cons.2 ⟨r1, fun _ h => by cases h⟩⟩)
  refine (Account_any A hn hl).mono ?_
  rintro e w' ⟨⟨cs, xs, r, rfl, h1, h2, h3, h4⟩, B⟩
  rw [e1] at h4
  obtain ⟨rfl, rfl⟩ := h4 (by show endE 0 [y] ≠ 0; unfold endE; simp)
  have q0 := (h2 0).1 rfl
  have q1 := (h2 1).1 rfl
  have ecs : cs = [.int .u64 0, .int .u64 0] := by
    apply List.ext_getElem?
    intro i
    match i with
    | 0 => rw [q0]; rfl
    | 1 => rw [q1]; rfl
    | k + 2 => rw [List.getElem?_eq_none (by omega), List.getElem?_eq_none (by simp)]
  subst ecs
  exact ⟨rfl, B⟩
theorem nat7 (w : World) : NatO (w.alloc (.cells #[.int .u64 7] 22)) (some ⟨w.heap.size, 0, none⟩) 1 1 7 :=
  ⟨w.heap.size, 0, [7], rfl, Nat.le_refl _, ⟨fun x hx => by simp at hx; omega, by decide, by decide⟩, ⟨.inr rfl, fun i hi => by
    have : i = 0 := by simp at hi; omega
    subst this
    exact (blk_new w [.int .u64 7] 22).cell (i := 0) rfl⟩⟩
theorem natB_7 : natB 7 = [7] := natB_unique (by decide) ⟨fun x hx => by simp at hx; omega, fun _ => by decide, by decide⟩
theorem fit_7 : fit 7 = 7 := by unfold fit; rw [natB_7]; rfl
theorem fit_0 : fit 0 = 0 := by unfold fit; rw [natB_0]; rfl
/-- bytes of few fields -/
theorem shortL (xs : Nat → Int) (ks : List (Nat × Nat)) (h : ks.length ≤ 10) : (thr (pnx xs) ks []).length ≤ 3000 := by
  have := pnx_len xs ks []
  simp at this
  omega
theorem laidB {w : World} {b n : Nat} {xs : Nat → Int} {ks : List (Nat × Nat)} (X : Box w b ((thr (pnx xs) ks []).map (Value.int .u8)) 5) (hn : n = (thr (pnx xs) ks []).length) (hk : ks.length ≤ 10) : ByA w b (some ⟨b, 0, none⟩) n n (thr (pnx xs) ks []) ∧ n ≤ 3000 := by
  have h := shortL xs ks hk
  exact ⟨box_bya X hn (thr_oct _ _ _ (fun y hy => by cases hy)) (by omega), by omega⟩
theorem lit_bya (w : World) (l : List Int) (ho : Octets l) (hl : l.length ≤ 1000) : ByA (w.alloc (.cells (l.map (Value.int .u8)).toArray 5)) w.heap.size (some ⟨w.heap.size, 0, none⟩) l.length l.length l := box_bya (box_new w (l.map (Value.int .u8)) 5) rfl ho (by omega)
set_option maxHeartbeats 4000000 in
set_option maxRecDepth 100000 in
theorem known8 (w : World) : Calls Tryz.prog 6 #[] w fun e w' => e = .returned (.bool true) ∧ Below w.heap.size w w' := by
  go_enter Tryz.func6, Tryz.ntmps6
  go_wp2_with fail
  refine (PutCut_any (x0 := 3) (x1 := 2)).mono ?_
  rintro e1 w1 ⟨b1, n1, rfl, hn1, X1, hb1, B1⟩
  obtain ⟨A1, k1⟩ := laidB X1 hn1 (by decide)
  have U1 := hid3 (bk_Cut A1 (by omega) (by decide) (by decide))
  have BB := hid3 B1
  clear hn1 X1 hb1 B1 A1
  go_wp2_with fail
  refine U1.out.mono ?_
  rintro e1 w2 ⟨rfl, B2⟩
  replace BB := hid3 (joinB BB.out B2)
  have VC := hid3 (blk_new w2 [.int .u64 3, .int .u64 2] 40)
  replace BB := hid3 (joinB BB.out (below_alloc w2 (.cells #[.int .u64 3, .int .u64 2] 40)))
  obtain ⟨w3, hw3⟩ : ∃ w3, Hid (w2.alloc (.cells #[.int .u64 3, .int .u64 2] 40) = w3) := ⟨_, rfl⟩
  rw [hw3.out] at BB VC
  clear U1 B2
  go_wp2_with fail
  rw [hw3.out]
  refine (PutAccount_any (x0 := 1) (x1 := 0)).mono ?_
  rintro e1 w4 ⟨b4, n4, rfl, hn4, X4, hb4, B4⟩
  obtain ⟨A4, k4⟩ := laidB X4 hn4 (by decide)
  obtain ⟨b5, c5, w5, hr5, A5, C5⟩ := app_b (x := 0) X4 hn4 (thr_oct _ _ _ (fun y hy => by cases hy)) (by decide) (by omega)
  have U5 := hid3 (tooLong A5 (by omega) (by decide) (by decide))
  replace VC := hid3 ((VC.out.keep B4).chg C5 (fun e => by have := VC.out.lt; omega))
  replace BB := hid3 ((joinB BB.out B4).trans (C5.below (fun y hy => by have e : y = b4 := hy; have := BB.out.size; omega) (by have := (joinB BB.out B4).size; exact this)))
  clear hn4 X4 hb4 B4 A4 A5 C5 hw3
  go_wp2_with (at_builtin; refine Lib.wpList_append_run _ rfl _ _ _ _ rfl _ _ rfl rfl _ _ hr5 ?_; clear hr5)
  refine U5.out.mono ?_
  rintro e1 w6 ⟨rfl, B6⟩
  have z1 := below_alloc w6 (.cells #[.int .u64 0, .int .u64 0] 32)
  have z2 := below_alloc (w6.alloc (.cells #[.int .u64 0, .int .u64 0] 32)) (.cells #[.int .u64 7] 22)
  have z3 := below_alloc ((w6.alloc (.cells #[.int .u64 0, .int .u64 0] 32)).alloc (.cells #[.int .u64 7] 22)) (.cells #[.slice (some ⟨w6.heap.size + 1, 0, none⟩) 1 1] 30)
  have N7 := (nat7 (w6.alloc (.cells #[.int .u64 0, .int .u64 0] 32))).keep z3
  have VD := blk_new ((w6.alloc (.cells #[.int .u64 0, .int .u64 0] 32)).alloc (.cells #[.int .u64 7] 22)) [.slice (some ⟨w6.heap.size + 1, 0, none⟩) 1 1] 30
  rw [size_al] at N7
  rw [size_al, size_al] at VD
  replace VC := hid3 ((((VC.out.keep B6).keep z1).keep z2).keep z3)
  replace BB := hid3 (joinB (joinB (joinB (joinB BB.out B6) z1) z2) z3)
  obtain ⟨w9, hw9⟩ : ∃ w9, Hid ((((w6.alloc (.cells #[.int .u64 0, .int .u64 0] 32)).alloc (.cells #[.int .u64 7] 22)).alloc (.cells #[.slice (some ⟨w6.heap.size + 1, 0, none⟩) 1 1] 30)) = w9) := ⟨_, rfl⟩
  rw [hw9.out] at BB VC N7 VD
  replace N7 := hid3 N7
  have VD' := hid3 VD
  clear z1 z2 z3 B6 U5 VD
  go_wp2_with fail
  rw [hw9.out]
  refine (PutVal_any (x0 := 5) (x1 := 6) (h2 := N7.out.a) (m2 := by decide) (b3 := true) (x4 := 8) (b5 := true) (x6 := 9) (h7 := (natO_nil w9).a) (m7 := by decide) (h8 := N7.out.a) (m8 := by decide) (h9 := (natO_nil w9).a) (m9 := by decide)).mono ?_
  rintro e1 w10 ⟨b10, n10, rfl, hn10, X10, hb10, B10⟩
  obtain ⟨A10, k10⟩ := laidB X10 hn10 (by decide)
  have U10 := hid3 (bk_Val (t3 := true) (t5 := true) A10 (by omega) (by decide) (by decide) (by decide) (by decide) (by decide) (by decide) (by decide) (by decide))
  replace VC := hid3 (VC.out.keep B10)
  replace VD' := hid3 (VD'.out.keep B10)
  replace N7 := hid3 (N7.out.keep B10)
  replace BB := hid3 (joinB BB.out B10)
  clear hn10 X10 hb10 B10 A10 hw9
  go_wp2_with fail
  refine U10.out.mono ?_
  rintro e1 w11 ⟨a2, m2, c2, a7, m7, c7, a8, m8, c8, a9, m9, c9, rfl, ⟨N2, l2⟩, ⟨P7, l7⟩, ⟨P8, l8⟩, ⟨P9, l9⟩, B11⟩
  have z1 := below_alloc w11 (.cells #[.int .u64 5, .int .u64 6, .slice a2 m2 c2, .bool true, .int .u64 8, .bool true, .int .u64 9, .slice a7 m7 c7, .slice a8 m8 c8, .slice a9 m9 c9] 34)
  have VV := blk_new w11 [.int .u64 5, .int .u64 6, .slice a2 m2 c2, .bool true, .int .u64 8, .bool true, .int .u64 9, .slice a7 m7 c7, .slice a8 m8 c8, .slice a9 m9 c9] 34
  replace VC := hid3 ((VC.out.keep B11).keep z1)
  replace VD' := hid3 ((VD'.out.keep B11).keep z1)
  replace N7 := hid3 ((N7.out.keep B11).keep z1)
  have Q2 := N2.o.keep z1
  have Q7 := P7.o.keep z1
  have Q8 := P8.o.keep z1
  have Q9 := P9.o.keep z1
  replace BB := hid3 (joinB (joinB BB.out B11) z1)
  have cd := VD'.out.cell (i := 0) rfl
  obtain ⟨w12, hw12⟩ : ∃ w12, Hid (w11.alloc (.cells #[.int .u64 5, .int .u64 6, .slice a2 m2 c2, .bool true, .int .u64 8, .bool true, .int .u64 9, .slice a7 m7 c7, .slice a8 m8 c8, .slice a9 m9 c9] 34) = w12) := ⟨_, rfl⟩
  rw [hw12.out] at BB VC VD' N7 VV Q2 Q7 Q8 Q9
  have HQ := hid3 (And.intro Q2 (And.intro Q7 (And.intro Q8 Q9)))
  have VV' := hid3 VV
  clear z1 B11 U10 VV Q2 Q7 Q8 Q9 N2 P7 P8 P9
  go_wp2_with fail
  rw [hw12.out]
  refine (PutHistory_any (h0 := N7.out.a) (m0 := by decide) (x1 := 4)).mono ?_
  rintro e1 w13 ⟨b13, n13, rfl, hn13, X13, hb13, B13⟩
  obtain ⟨A13, k13⟩ := laidB X13 hn13 (by decide)
  have U13 := hid3 (bk_History A13 (by omega) (by decide) (by decide))
  clear hn13 X13 hb13 A13 hw12 cd
  go_wp2_with fail
  refine U13.out.mono ?_
  rintro e1 w14 ⟨a0, m0, c0, rfl, ⟨N0, l0⟩, B14⟩
  have z1 := below_alloc w14 (.cells #[.slice a0 m0 c0, .int .u64 4] 38)
  have VH := blk_new w14 [.slice a0 m0 c0, .int .u64 4] 38
  have BX := joinB (joinB B13 B14) z1
  replace VC := hid3 (VC.out.keep BX)
  replace VD' := hid3 (VD'.out.keep BX)
  replace N7 := hid3 (N7.out.keep BX)
  replace VV' := hid3 (VV'.out.keep BX)
  replace HQ := hid3 (And.intro (HQ.out.1.keep BX) (And.intro (HQ.out.2.1.keep BX) (And.intro (HQ.out.2.2.1.keep BX) (HQ.out.2.2.2.keep BX))))
  have Q0 := N0.o.keep z1
  replace BB := hid3 (joinB BB.out BX)
  obtain ⟨w15, hw15⟩ : ∃ w15, Hid (w14.alloc (.cells #[.slice a0 m0 c0, .int .u64 4] 38) = w15) := ⟨_, rfl⟩
  rw [hw15.out] at BB VC VD' N7 VV' HQ Q0 VH
  have HQ0 := hid3 Q0
  have VH' := hid3 VH
  clear z1 BX B13 B14 U13 VH Q0 N0
  go_wp2_with fail
  rw [hw15.out]
  refine (PutNumber_any (x0 := 77)).mono ?_
  rintro e1 w16 ⟨b16, n16, rfl, hn16, X16, hb16, B16⟩
  obtain ⟨A16, k16⟩ := laidB X16 hn16 (by decide)
  have U16 := hid3 (bk_Number A16 (by omega) (by decide))
  clear hn16 X16 hb16 A16 hw15
  go_wp2_with fail
  refine U16.out.mono ?_
  rintro e1 w17 ⟨rfl, B17⟩
  have BX := joinB B16 B17
  replace VC := hid3 (VC.out.keep BX)
  replace VD' := hid3 (VD'.out.keep BX)
  replace N7 := hid3 (N7.out.keep BX)
  replace VV' := hid3 (VV'.out.keep BX)
  replace VH' := hid3 (VH'.out.keep BX)
  replace HQ := hid3 (And.intro (HQ.out.1.keep BX) (And.intro (HQ.out.2.1.keep BX) (And.intro (HQ.out.2.2.1.keep BX) (HQ.out.2.2.2.keep BX))))
  replace HQ0 := hid3 (HQ0.out.keep BX)
  replace BB := hid3 (joinB BB.out BX)
  have cd := VD'.out.cell (i := 0) rfl
  have cc0 := VC.out.cell (i := 0) rfl
  have cc1 := VC.out.cell (i := 1) rfl
  have ch0 := VH'.out.cell (i := 0) rfl
  have ch1 := VH'.out.cell (i := 1) rfl
  clear BX B16 B17 U16
  go_wp2_with fail
  have e7 := HQ0.out
  rw [fit_7] at e7
  refine (sameHistory e7 N7.out (by omega) (by decide)).mono ?_
  rintro e1 w18 ⟨rfl, B18⟩
  replace VC := hid3 (VC.out.keep B18)
  have dc0 := VC.out.cell (i := 0) rfl
  have dc1 := VC.out.cell (i := 1) rfl
  clear e7
  go_wp2_with fail
  refine (PutCut_any (x0 := 3) (x1 := 2)).mono ?_
  rintro e1 w19 ⟨b19, n19, rfl, hn19, X19, hb19, B19⟩
  obtain ⟨A19, k19⟩ := laidB X19 hn19 (by decide)
  have z1 := below_alloc w19 (.cells #[.int .u8 0, .int .u8 0, .int .u8 0, .int .u8 0, .int .u8 0, .int .u8 0, .int .u8 0, .int .u8 3, .int .u8 0, .int .u8 0, .int .u8 0, .int .u8 0, .int .u8 0, .int .u8 0, .int .u8 0, .int .u8 2] 5)
  have T1 := (bSame (A19.keep z1) (lit_bya w19 [0, 0, 0, 0, 0, 0, 0, 3, 0, 0, 0, 0, 0, 0, 0, 2] (fun x hx => by simp at hx; omega) (by decide)) (by omega) (by decide))
  rw [eqB_true (show thr (pnx (fun o => ([3, 2] : List Int).getD o 0)) [(0, 0), (0, 1)] [] = [0, 0, 0, 0, 0, 0, 0, 3, 0, 0, 0, 0, 0, 0, 0, 2] by decide)] at T1
  replace T1 := hid3 T1
  have BX := joinB (joinB B18 B19) z1
  clear hn19 X19 hb19 A19
  go_wp2_with fail
  refine T1.out.mono ?_
  rintro e1 w20 ⟨rfl, B20⟩
  replace BX := joinB BX B20
  clear T1 z1 B18 B19 B20
  go_wp2_with fail
  refine (PutPool_any (h0 := (natO_nil w20).a) (m0 := by decide)).mono ?_
  rintro e1 w21 ⟨b21, n21, rfl, hn21, X21, hb21, B21⟩
  obtain ⟨A21, k21⟩ := laidB X21 hn21 (by decide)
  have z1 := below_alloc w21 (.cells #[.int .u8 0] 5)
  have T2 := (bSame (A21.keep z1) (lit_bya w21 [0] (fun x hx => by simp at hx; omega) (by decide)) (by omega) (by decide))
  rw [eqB_true (show thr (pnx (fun o => ([0] : List Int).getD o 0)) [(2, 0)] [] = [0] by show [] ++ cntd 1 (natB (fit 0)) = [0]; rw [fit_0, natB_0]; decide)] at T2
  replace T2 := hid3 T2
  replace BX := joinB (joinB BX B21) z1
  clear hn21 X21 hb21 A21
  go_wp2_with fail
  refine T2.out.mono ?_
  rintro e1 w22 ⟨rfl, B22⟩
  replace BX := joinB BX B22
  have VDx := VD'.out.keep BX
  have VVx := VV'.out.keep BX
  have cdd := VDx.cell (i := 0) rfl
  have g0 := VVx.cell (i := 0) rfl
  have g1 := VVx.cell (i := 1) rfl
  have g2 := VVx.cell (i := 2) rfl
  have g3 := VVx.cell (i := 3) rfl
  have g4 := VVx.cell (i := 4) rfl
  have g5 := VVx.cell (i := 5) rfl
  have g6 := VVx.cell (i := 6) rfl
  have g7 := VVx.cell (i := 7) rfl
  have g8 := VVx.cell (i := 8) rfl
  have g9 := VVx.cell (i := 9) rfl
  have F2 := HQ.out.1.keep BX
  have F7 := HQ.out.2.1.keep BX
  have F8 := HQ.out.2.2.1.keep BX
  have F9 := HQ.out.2.2.2.keep BX
  rw [fit_7] at F2 F8
  rw [fit_0] at F7 F9
  have T3 := hid3 (sameVal (x0 := 5) (x1 := 6) (t3 := true) (x4 := 8) (t5 := true) (x6 := 9) F2 (N7.out.keep BX) (by omega) (by decide) F7 (natO_nil w22) (by omega) (by decide) F8 (N7.out.keep BX) (by omega) (by decide) F9 (natO_nil w22) (by omega) (by decide))
  have HBX := hid3 (joinB BB.out BX)
  clear T2 z1 B21 B22 VDx VVx F2 F7 F8 F9 BX
  go_wp2_with fail
  refine T3.out.mono ?_
  rintro e1 w23 ⟨rfl, B23⟩
  have HE := hid3 (joinB HBX.out B23)
  clear B23 T3
  go_wp2
  go_ret
  exact ⟨rfl, HE.out⟩
end Rc
end Go.Proofs.YtenlhceceplldaaGreat

namespace Go.Proofs.YtenlhceceplldaaGreat
namespace Rc
open Go.RowKit Go.Lib Pg Lim
/-- where the ways of a stretch of code come together -/
structure CutP (a : Act) (slots : List Nat) (F : World → Prop) (a' : Act) (w' : World) : Prop where
  ex : ∃ x : Nat → Value, a' = putAll a (slots.map fun i => (some i, x i)) ∧ F w'
theorem wp_cut {c d : Code} {a : Act} {w : World} {Q : Exit → Act → World → Prop} (slots : List Nat) (F : World → Prop) (h1 : c.wp Tryz.prog (Exit.then (CutP a slots F) (fun _ _ _ => False)) a w) (h2 : ∀ (x : Nat → Value) w', F w' → d.wp Tryz.prog Q (putAll a (slots.map fun i => (some i, x i))) w') : (Code.seq c d).wp Tryz.prog Q a w :=
  wp_seq (Code.wp_mono (fun e a' w' h => by
    cases e <;> first
      | (obtain ⟨x, rfl, hF⟩ := h; exact h2 x w' hF)
      | exact h.elim) h1)
theorem cut_end {a a' : Act} {w : World} {F : World → Prop} {slots : List Nat} (h : a' = putAll a (slots.map fun i => (some i, a'.tmps.getD i undef))) (hF : F w) : CutP a slots F a' w := ⟨fun i => a'.tmps.getD i undef, h, hF⟩
theorem endE_zero {err : Int} {l : List Int} (h : endE err l = 0) : err = 0 ∧ l = [] := by
  unfold endE at h
  split at h
  · rename_i he
    split at h
    · rename_i hl
      exact ⟨he, List.eq_nil_of_length_eq_zero hl⟩
    · exact absurd h (by decide)
  · exact absurd h (by assumption)
/-- what is read whole is laid again as it was -/
theorem ones (ks : List (Nat × Nat)) (l : List Int) (ho : Octets l) (hnd : (ks.map Prod.snd).Nodup) (h : endE (thr rnx ks (0, l, fun _ => 0)).1 (thr rnx ks (0, l, fun _ => 0)).2.1 = 0) : thr (pnx (thr rnx ks (0, l, fun _ => 0)).2.2) ks [] = l := by
  obtain ⟨h1, h2⟩ := endE_zero h
  have := thr_one ks l (fun _ => 0) ho hnd h1 []
  rw [h2, List.append_nil, List.nil_append] at this
  exact this
theorem thr_congr {xs ys : Nat → Int} (ks : List (Nat × Nat)) (h : ∀ p ∈ ks, xs p.2 = ys p.2) : ∀ L, thr (pnx xs) ks L = thr (pnx ys) ks L := by
  induction ks with
  | nil => intro L; rfl
  | cons p ks ih =>
    intro L
    rw [thr_cons, thr_cons]
    have e : pnx xs p.1 p.2 L = pnx ys p.1 p.2 L := by unfold pnx; rw [h p List.mem_cons_self]
    rw [e]
    exact ih (fun q hq => h q (List.mem_cons_of_mem _ hq)) _
theorem fix8 (l : List Int) : (8 ≤ l.length → rdE (pFix 8 l) 0 = 0 ∧ rdL (pFix 8 l) 0 l = l.drop 8) ∧ (l.length < 8 → rdE (pFix 8 l) 0 ≠ 0) := by
  refine ⟨fun h => ?_, fun h => ?_⟩
  · unfold pFix
    rw [if_pos h]
    exact ⟨rfl, rfl⟩
  · unfold pFix
    rw [if_neg (by omega)]
    decide
/-- numbers alone: so many bytes -/
theorem len_u (k : Nat) : ∀ (ks : List (Nat × Nat)) (l : List Int) (xs : Nat → Int), ks.length = k → (∀ p ∈ ks, p.1 = 0) → (endE (thr rnx ks (0, l, xs)).1 (thr rnx ks (0, l, xs)).2.1 = 0 ↔ l.length = 8 * k) := by
  induction k with
  | zero =>
    intro ks l xs hk _
    obtain rfl : ks = [] := List.eq_nil_of_length_eq_zero hk
    show endE 0 l = 0 ↔ _
    unfold endE
    rw [if_pos rfl]
    constructor
    · intro h
      split at h
      · omega
      · exact absurd h (by decide)
    · intro h
      rw [if_pos (by omega)]
  | succ k ih =>
    intro ks l xs hk h0
    match ks, hk with
    | p :: ks, hk =>
      have hp : p.1 = 0 := h0 p List.mem_cons_self
      rw [thr_cons]
      by_cases hl : 8 ≤ l.length
      · obtain ⟨e1, e2⟩ := (fix8 l).1 hl
        have es : rnx p.1 p.2 (0, l, xs) = (0, l.drop 8, fun i => if i = p.2 then rdV 0 (pFix 8 l) 0 else xs i) := by
          rw [hp]
          show (rdE (pFix 8 l) 0, rdL (pFix 8 l) 0 l, _) = _
          rw [e1, e2]
          rfl
        rw [es, ih ks (l.drop 8) _ (by simpa using hk) (fun q hq => h0 q (List.mem_cons_of_mem _ hq)), List.length_drop]
        omega
      · have e1 : (rnx p.1 p.2 (0, l, xs)).1 ≠ 0 := by rw [hp]; exact (fix8 l).2 (by omega)
        have e2 := thr_bad ks _ e1
        constructor
        · intro h
          obtain ⟨h1, _⟩ := endE_zero h
          rw [e2] at h1
          exact absurd h1 e1
        · intro h
          omega
end Rc
end Go.Proofs.YtenlhceceplldaaGreat
