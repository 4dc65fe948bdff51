/- gleanlaw8.RecOne. -/
import Derived.Test.YthambcohellfpaaGreatJef
namespace Go.Proofs.YthambcohellfpaaGreat
namespace Rc
open Go.RowKit Go.Lib Pg Lim
attribute [local go_sem] Oper.semAt_some
set_option maxHeartbeats 4000000 in
set_option maxRecDepth 100000 in
theorem recOne_walk {w : World} {bb n c : Nat} {ao : Option Addr} {l : List Int} (A : ByA w bb ao n c l) :
    Calls Tryz.prog 6 #[.slice ao n c] w fun e w' => e = .returned (.bool true) ∧ Below w.heap.size w w' := by
  have hl : l.length = n := by obtain ⟨o, h1, _⟩ := A.ex; exact h1
  have HO := hid3 (show Octets l by obtain ⟨o, h1, h2, h3, h4, h5⟩ := A.ex; exact h4)
  have HL := hid3 hl
  have AA := hid3 A
  clear A hl
  by_cases hn : n ≤ 3000
  · have hn9 : n ≤ 1000000000 := by omega
    have hn0 : ¬ ((3000 : Int) < n) := by omega
    go_enter Tryz.func6, Tryz.ntmps6
    refine wp_cut [2] (fun w' => Below w.heap.size w w') ?_ ?_
    · go_wp2
      exact cut_end (by kernel_rfl) (Below.refl _ _)
    intro y w' B0
    have BB := hid3 B0
    clear B0
    simp only [putAll, List.map_cons, List.map_nil, Act.put, List.setIfInBounds_toArray, List.set_cons_zero, List.set_cons_succ]
    refine wp_cut [25, 26] (fun w' => Below w.heap.size w w') ?_ ?_
    · go_wp2_with fail
      refine (known8 _).mono ?_
      rintro e1 w1 ⟨rfl, B1⟩
      have BM := hid3 (joinB BB.out B1)
      clear B1
      go_wp2
      exact cut_end (by kernel_rfl) BM.out
    clear BB
    intro y w' B0
    have BB := hid3 B0
    clear B0
    simp only [putAll, List.map_cons, List.map_nil, Act.put, List.setIfInBounds_toArray, List.set_cons_zero, List.set_cons_succ]
    refine wp_cut [27, 28, 29] (fun w' => Below w.heap.size w w') ?_ ?_
    · go_wp2
      exact cut_end (by kernel_rfl) BB.out
    clear BB
    intro y w' B0
    have BB := hid3 B0
    clear B0
    simp only [putAll, List.map_cons, List.map_nil, Act.put, List.setIfInBounds_toArray, List.set_cons_zero, List.set_cons_succ]
    refine wp_cut [3, 4, 30, 31, 32, 33, 34, 35, 36, 37, 38, 39, 40, 41, 42, 43] (fun w' => Below w.heap.size w w') ?_ ?_
    · have A := hid3 (AA.out.keep BB.out)
      have U := hid3 (Params_any A.out hn9 HL.out)
      have O := hid3 (fun h => ones [(0, 0), (0, 1), (0, 2), (0, 3), (0, 4), (0, 5), (0, 6), (0, 7), (0, 8), (0, 9)] l HO.out (by decide) h)
      obtain ⟨st, hst⟩ : ∃ st, Hid (thr rnx [(0, 0), (0, 1), (0, 2), (0, 3), (0, 4), (0, 5), (0, 6), (0, 7), (0, 8), (0, 9)] (0, l, fun _ => (0 : Int)) = st) := ⟨_, rfl⟩
      rw [hst.out] at U O
      go_wp2_with fail
      refine U.out.mono ?_
      rintro e1 w1 ⟨⟨cs, xs, r, rfl, hcl, F, h3, h4⟩, B1⟩
      have q0 := (F 0).1 rfl
      have q1 := (F 1).1 rfl
      have q2 := (F 2).1 rfl
      have q3 := (F 3).1 rfl
      have q4 := (F 4).1 rfl
      have q5 := (F 5).1 rfl
      have q6 := (F 6).1 rfl
      have q7 := (F 7).1 rfl
      have q8 := (F 8).1 rfl
      have q9 := (F 9).1 rfl
      have ecs : cs = [.int .u64 (xs 0), .int .u64 (xs 1), .int .u64 (xs 2), .int .u64 (xs 3), .int .u64 (xs 4), .int .u64 (xs 5), .int .u64 (xs 6), .int .u64 (xs 7), .int .u64 (xs 8), .int .u64 (xs 9)] := by
        apply List.ext_getElem?
        intro i
        match i with
        | 0 => rw [q0]; rfl
        | 1 => rw [q1]; rfl
        | 2 => rw [q2]; rfl
        | 3 => rw [q3]; rfl
        | 4 => rw [q4]; rfl
        | 5 => rw [q5]; rfl
        | 6 => rw [q6]; rfl
        | 7 => rw [q7]; rfl
        | 8 => rw [q8]; rfl
        | 9 => rw [q9]; rfl
        | k + 10 => rw [List.getElem?_eq_none (by omega), List.getElem?_eq_none (by simp)]
      subst ecs
      simp only [mkA]
      have zz := below_alloc w1 (.cells #[.int .u64 (xs 0), .int .u64 (xs 1), .int .u64 (xs 2), .int .u64 (xs 3), .int .u64 (xs 4), .int .u64 (xs 5), .int .u64 (xs 6), .int .u64 (xs 7), .int .u64 (xs 8), .int .u64 (xs 9)] 24)
      have BN := hid3 (joinB (joinB BB.out B1) zz)
      by_cases hE : endE st.1 st.2.1 = 0
      · obtain ⟨rfl, hx⟩ := h3 hE
        have hM := O.out hE
        rw [← hx, thr_congr (xs := xs) (ys := (fun o => ([xs 0, xs 1, xs 2, xs 3, xs 4, xs 5, xs 6, xs 7, xs 8, xs 9] : List Int).getD o 0)) [(0, 0), (0, 1), (0, 2), (0, 3), (0, 4), (0, 5), (0, 6), (0, 7), (0, 8), (0, 9)] (List.forall_mem_cons.2 ⟨rfl, List.forall_mem_cons.2 ⟨rfl, List.forall_mem_cons.2 ⟨rfl, List.forall_mem_cons.2 ⟨rfl, List.forall_mem_cons.2 ⟨rfl, List.forall_mem_cons.2 ⟨rfl, List.forall_mem_cons.2 ⟨rfl, List.forall_mem_cons.2 ⟨rfl, List.forall_mem_cons.2 ⟨rfl, List.forall_mem_cons.2 ⟨rfl, fun _ h => by cases h⟩⟩⟩⟩⟩⟩⟩⟩⟩⟩)] at hM
        have P := hid3 (PutParams_any (w := w1.alloc (.cells #[.int .u64 (xs 0), .int .u64 (xs 1), .int .u64 (xs 2), .int .u64 (xs 3), .int .u64 (xs 4), .int .u64 (xs 5), .int .u64 (xs 6), .int .u64 (xs 7), .int .u64 (xs 8), .int .u64 (xs 9)] 24)) (x0 := xs 0) (x1 := xs 1) (x2 := xs 2) (x3 := xs 3) (x4 := xs 4) (x5 := xs 5) (x6 := xs 6) (x7 := xs 7) (x8 := xs 8) (x9 := xs 9))
        obtain ⟨w2, hw2⟩ : ∃ w2, Hid (w1.alloc (.cells #[.int .u64 (xs 0), .int .u64 (xs 1), .int .u64 (xs 2), .int .u64 (xs 3), .int .u64 (xs 4), .int .u64 (xs 5), .int .u64 (xs 6), .int .u64 (xs 7), .int .u64 (xs 8), .int .u64 (xs 9)] 24) = w2) := ⟨_, rfl⟩
        rw [hw2.out, hM] at P
        rw [hw2.out] at BN
        have HC := hid3 hM
        clear hM hE hx h3 h4 F hcl U O zz q0 q1 q2 q3 q4 q5 q6 q7 q8 q9
        go_wp2_with fail
        rw [hw2.out]
        refine P.out.mono ?_
        rintro e1 w3 ⟨b3, n3, rfl, hn3, X3, hb3, B3⟩
        have T3 := bSame (box_bya X3 hn3 HO.out (by have := HL.out; omega)) (AA.out.keep (joinB BN.out B3)) (by have := HL.out; omega) (by omega)
        rw [eqB_true rfl] at T3
        replace T3 := hid3 T3
        have BM := hid3 (joinB BN.out B3)
        clear hn3 X3 hb3 B3 P BN
        go_wp2_with fail
        refine T3.out.mono ?_
        rintro e1 w4 ⟨rfl, B4⟩
        replace BM := hid3 (joinB BM.out B4)
        clear T3 B4
        go_wp2
        exact cut_end (by kernel_rfl) BM.out
      · obtain ⟨rfl, hx⟩ := h4 hE
        clear h3 h4 F hcl U O zz hE hx q0 q1 q2 q3 q4 q5 q6 q7 q8 q9
        go_wp2
        exact cut_end (by kernel_rfl) BN.out
    clear BB
    intro y w' B0
    have BB := hid3 B0
    clear B0
    simp only [putAll, List.map_cons, List.map_nil, Act.put, List.setIfInBounds_toArray, List.set_cons_zero, List.set_cons_succ]
    refine wp_cut [5, 6, 44, 45, 46, 47, 48, 49, 50, 51, 52, 53, 54, 55, 56, 57] (fun w' => Below w.heap.size w w') ?_ ?_
    · have A := hid3 (AA.out.keep BB.out)
      have U := hid3 (Pool_any A.out hn9 HL.out)
      have O := hid3 (fun h => ones [(2, 0)] l HO.out (by decide) h)
      obtain ⟨st, hst⟩ : ∃ st, Hid (thr rnx [(2, 0)] (0, l, fun _ => (0 : Int)) = st) := ⟨_, rfl⟩
      rw [hst.out] at U O
      go_wp2_with fail
      refine U.out.mono ?_
      rintro e1 w1 ⟨⟨cs, xs, r, rfl, hcl, F, h3, h4⟩, B1⟩
      obtain ⟨a0, n0, d0, q0, y0, k0⟩ := (F 0).2.2 rfl
      have ecs : cs = [.slice a0 n0 d0] := by
        apply List.ext_getElem?
        intro i
        match i with
        | 0 => rw [q0]; rfl
        | k + 1 => rw [List.getElem?_eq_none (by omega), List.getElem?_eq_none (by simp)]
      subst ecs
      simp only [mkA]
      have zz := below_alloc w1 (.cells #[.slice a0 n0 d0] 30)
      have BN := hid3 (joinB (joinB BB.out B1) zz)
      by_cases hE : endE st.1 st.2.1 = 0
      · obtain ⟨rfl, hx⟩ := h3 hE
        have hM := O.out hE
        rw [← hx, thr_congr (xs := xs) (ys := (fun o => ([xs 0] : List Int).getD o 0)) [(2, 0)] (List.forall_mem_cons.2 ⟨rfl, fun _ h => by cases h⟩)] at hM
        have P := hid3 (PutPool_any (w := w1.alloc (.cells #[.slice a0 n0 d0] 30)) (h0 := y0.o.a.keep (zz)) (m0 := by omega))
        obtain ⟨w2, hw2⟩ : ∃ w2, Hid (w1.alloc (.cells #[.slice a0 n0 d0] 30) = w2) := ⟨_, rfl⟩
        rw [hw2.out, hM] at P
        rw [hw2.out] at BN
        have HC := hid3 hM
        clear hM hE hx h3 h4 F hcl U O zz q0 y0
        go_wp2_with fail
        rw [hw2.out]
        refine P.out.mono ?_
        rintro e1 w3 ⟨b3, n3, rfl, hn3, X3, hb3, B3⟩
        have T3 := bSame (box_bya X3 hn3 HO.out (by have := HL.out; omega)) (AA.out.keep (joinB BN.out B3)) (by have := HL.out; omega) (by omega)
        rw [eqB_true rfl] at T3
        replace T3 := hid3 T3
        have BM := hid3 (joinB BN.out B3)
        clear hn3 X3 hb3 B3 P BN
        go_wp2_with fail
        refine T3.out.mono ?_
        rintro e1 w4 ⟨rfl, B4⟩
        replace BM := hid3 (joinB BM.out B4)
        clear T3 B4
        go_wp2
        exact cut_end (by kernel_rfl) BM.out
      · obtain ⟨rfl, hx⟩ := h4 hE
        clear h3 h4 F hcl U O zz hE hx q0 y0
        go_wp2
        exact cut_end (by kernel_rfl) BN.out
    clear BB
    intro y w' B0
    have BB := hid3 B0
    clear B0
    simp only [putAll, List.map_cons, List.map_nil, Act.put, List.setIfInBounds_toArray, List.set_cons_zero, List.set_cons_succ]
    refine wp_cut [7, 8, 58, 59, 60, 61, 62, 63, 64, 65, 66, 67, 68, 69, 70, 71] (fun w' => Below w.heap.size w w') ?_ ?_
    · have A := hid3 (AA.out.keep BB.out)
      have U := hid3 (Val_any A.out hn9 HL.out)
      have O := hid3 (fun h => ones [(0, 0), (0, 1), (2, 2), (1, 3), (0, 4), (1, 5), (0, 6), (2, 7), (2, 8), (2, 9)] l HO.out (by decide) h)
      obtain ⟨st, hst⟩ : ∃ st, Hid (thr rnx [(0, 0), (0, 1), (2, 2), (1, 3), (0, 4), (1, 5), (0, 6), (2, 7), (2, 8), (2, 9)] (0, l, fun _ => (0 : Int)) = st) := ⟨_, rfl⟩
      rw [hst.out] at U O
      go_wp2_with fail
      refine U.out.mono ?_
      rintro e1 w1 ⟨⟨cs, xs, r, rfl, hcl, F, h3, h4⟩, B1⟩
      have q0 := (F 0).1 rfl
      have q1 := (F 1).1 rfl
      obtain ⟨a2, n2, d2, q2, y2, k2⟩ := (F 2).2.2 rfl
      obtain ⟨t3, q3, y3⟩ := (F 3).2.1 rfl
      have q4 := (F 4).1 rfl
      obtain ⟨t5, q5, y5⟩ := (F 5).2.1 rfl
      have q6 := (F 6).1 rfl
      obtain ⟨a7, n7, d7, q7, y7, k7⟩ := (F 7).2.2 rfl
      obtain ⟨a8, n8, d8, q8, y8, k8⟩ := (F 8).2.2 rfl
      obtain ⟨a9, n9, d9, q9, y9, k9⟩ := (F 9).2.2 rfl
      have ecs : cs = [.int .u64 (xs 0), .int .u64 (xs 1), .slice a2 n2 d2, .bool t3, .int .u64 (xs 4), .bool t5, .int .u64 (xs 6), .slice a7 n7 d7, .slice a8 n8 d8, .slice a9 n9 d9] := by
        apply List.ext_getElem?
        intro i
        match i with
        | 0 => rw [q0]; rfl
        | 1 => rw [q1]; rfl
        | 2 => rw [q2]; rfl
        | 3 => rw [q3]; rfl
        | 4 => rw [q4]; rfl
        | 5 => rw [q5]; rfl
        | 6 => rw [q6]; rfl
        | 7 => rw [q7]; rfl
        | 8 => rw [q8]; rfl
        | 9 => rw [q9]; rfl
        | k + 10 => rw [List.getElem?_eq_none (by omega), List.getElem?_eq_none (by simp)]
      subst ecs
      simp only [mkA]
      have zz := below_alloc w1 (.cells #[.int .u64 (xs 0), .int .u64 (xs 1), .slice a2 n2 d2, .bool t3, .int .u64 (xs 4), .bool t5, .int .u64 (xs 6), .slice a7 n7 d7, .slice a8 n8 d8, .slice a9 n9 d9] 34)
      have BN := hid3 (joinB (joinB BB.out B1) zz)
      by_cases hE : endE st.1 st.2.1 = 0
      · obtain ⟨rfl, hx⟩ := h3 hE
        have hM := O.out hE
        rw [← hx, thr_congr (xs := xs) (ys := (fun o => ([xs 0, xs 1, xs 2, (if t3 then 1 else 0), xs 4, (if t5 then 1 else 0), xs 6, xs 7, xs 8, xs 9] : List Int).getD o 0)) [(0, 0), (0, 1), (2, 2), (1, 3), (0, 4), (1, 5), (0, 6), (2, 7), (2, 8), (2, 9)] (List.forall_mem_cons.2 ⟨rfl, List.forall_mem_cons.2 ⟨rfl, List.forall_mem_cons.2 ⟨rfl, List.forall_mem_cons.2 ⟨y3, List.forall_mem_cons.2 ⟨rfl, List.forall_mem_cons.2 ⟨y5, List.forall_mem_cons.2 ⟨rfl, List.forall_mem_cons.2 ⟨rfl, List.forall_mem_cons.2 ⟨rfl, List.forall_mem_cons.2 ⟨rfl, fun _ h => by cases h⟩⟩⟩⟩⟩⟩⟩⟩⟩⟩)] at hM
        have P := hid3 (PutVal_any (w := w1.alloc (.cells #[.int .u64 (xs 0), .int .u64 (xs 1), .slice a2 n2 d2, .bool t3, .int .u64 (xs 4), .bool t5, .int .u64 (xs 6), .slice a7 n7 d7, .slice a8 n8 d8, .slice a9 n9 d9] 34)) (x0 := xs 0) (x1 := xs 1) (h2 := y2.o.a.keep (zz)) (m2 := by omega) (b3 := t3) (x4 := xs 4) (b5 := t5) (x6 := xs 6) (h7 := y7.o.a.keep (zz)) (m7 := by omega) (h8 := y8.o.a.keep (zz)) (m8 := by omega) (h9 := y9.o.a.keep (zz)) (m9 := by omega))
        obtain ⟨w2, hw2⟩ : ∃ w2, Hid (w1.alloc (.cells #[.int .u64 (xs 0), .int .u64 (xs 1), .slice a2 n2 d2, .bool t3, .int .u64 (xs 4), .bool t5, .int .u64 (xs 6), .slice a7 n7 d7, .slice a8 n8 d8, .slice a9 n9 d9] 34) = w2) := ⟨_, rfl⟩
        rw [hw2.out, hM] at P
        rw [hw2.out] at BN
        have HC := hid3 hM
        clear hM hE hx h3 h4 F hcl U O zz q0 q1 q2 q3 q4 q5 q6 q7 q8 q9 y2 y3 y5 y7 y8 y9
        go_wp2_with fail
        rw [hw2.out]
        refine P.out.mono ?_
        rintro e1 w3 ⟨b3, n3, rfl, hn3, X3, hb3, B3⟩
        have T3 := bSame (box_bya X3 hn3 HO.out (by have := HL.out; omega)) (AA.out.keep (joinB BN.out B3)) (by have := HL.out; omega) (by omega)
        rw [eqB_true rfl] at T3
        replace T3 := hid3 T3
        have BM := hid3 (joinB BN.out B3)
        clear hn3 X3 hb3 B3 P BN
        go_wp2_with fail
        refine T3.out.mono ?_
        rintro e1 w4 ⟨rfl, B4⟩
        replace BM := hid3 (joinB BM.out B4)
        clear T3 B4
        go_wp2
        exact cut_end (by kernel_rfl) BM.out
      · obtain ⟨rfl, hx⟩ := h4 hE
        clear h3 h4 F hcl U O zz hE hx q0 q1 q2 q3 q4 q5 q6 q7 q8 q9 y2 y3 y5 y7 y8 y9
        go_wp2
        exact cut_end (by kernel_rfl) BN.out
    clear BB
    intro y w' B0
    have BB := hid3 B0
    clear B0
    simp only [putAll, List.map_cons, List.map_nil, Act.put, List.setIfInBounds_toArray, List.set_cons_zero, List.set_cons_succ]
    refine wp_cut [9, 10, 72, 73, 74, 75, 76, 77, 78, 79, 80, 81, 82, 83, 84, 85] (fun w' => Below w.heap.size w w') ?_ ?_
    · have A := hid3 (AA.out.keep BB.out)
      have U := hid3 (Delegation_any A.out hn9 HL.out)
      have O := hid3 (fun h => ones [(2, 0), (0, 1), (2, 2)] l HO.out (by decide) h)
      obtain ⟨st, hst⟩ : ∃ st, Hid (thr rnx [(2, 0), (0, 1), (2, 2)] (0, l, fun _ => (0 : Int)) = st) := ⟨_, rfl⟩
      rw [hst.out] at U O
      go_wp2_with fail
      refine U.out.mono ?_
      rintro e1 w1 ⟨⟨cs, xs, r, rfl, hcl, F, h3, h4⟩, B1⟩
      obtain ⟨a0, n0, d0, q0, y0, k0⟩ := (F 0).2.2 rfl
      have q1 := (F 1).1 rfl
      obtain ⟨a2, n2, d2, q2, y2, k2⟩ := (F 2).2.2 rfl
      have ecs : cs = [.slice a0 n0 d0, .int .u64 (xs 1), .slice a2 n2 d2] := by
        apply List.ext_getElem?
        intro i
        match i with
        | 0 => rw [q0]; rfl
        | 1 => rw [q1]; rfl
        | 2 => rw [q2]; rfl
        | k + 3 => rw [List.getElem?_eq_none (by omega), List.getElem?_eq_none (by simp)]
      subst ecs
      simp only [mkA]
      have zz := below_alloc w1 (.cells #[.slice a0 n0 d0, .int .u64 (xs 1), .slice a2 n2 d2] 36)
      have BN := hid3 (joinB (joinB BB.out B1) zz)
      by_cases hE : endE st.1 st.2.1 = 0
      · obtain ⟨rfl, hx⟩ := h3 hE
        have hM := O.out hE
        rw [← hx, thr_congr (xs := xs) (ys := (fun o => ([xs 0, xs 1, xs 2] : List Int).getD o 0)) [(2, 0), (0, 1), (2, 2)] (List.forall_mem_cons.2 ⟨rfl, List.forall_mem_cons.2 ⟨rfl, List.forall_mem_cons.2 ⟨rfl, fun _ h => by cases h⟩⟩⟩)] at hM
        have P := hid3 (PutDelegation_any (w := w1.alloc (.cells #[.slice a0 n0 d0, .int .u64 (xs 1), .slice a2 n2 d2] 36)) (h0 := y0.o.a.keep (zz)) (m0 := by omega) (x1 := xs 1) (h2 := y2.o.a.keep (zz)) (m2 := by omega))
        obtain ⟨w2, hw2⟩ : ∃ w2, Hid (w1.alloc (.cells #[.slice a0 n0 d0, .int .u64 (xs 1), .slice a2 n2 d2] 36) = w2) := ⟨_, rfl⟩
        rw [hw2.out, hM] at P
        rw [hw2.out] at BN
        have HC := hid3 hM
        clear hM hE hx h3 h4 F hcl U O zz q0 q1 q2 y0 y2
        go_wp2_with fail
        rw [hw2.out]
        refine P.out.mono ?_
        rintro e1 w3 ⟨b3, n3, rfl, hn3, X3, hb3, B3⟩
        have T3 := bSame (box_bya X3 hn3 HO.out (by have := HL.out; omega)) (AA.out.keep (joinB BN.out B3)) (by have := HL.out; omega) (by omega)
        rw [eqB_true rfl] at T3
        replace T3 := hid3 T3
        have BM := hid3 (joinB BN.out B3)
        clear hn3 X3 hb3 B3 P BN
        go_wp2_with fail
        refine T3.out.mono ?_
        rintro e1 w4 ⟨rfl, B4⟩
        replace BM := hid3 (joinB BM.out B4)
        clear T3 B4
        go_wp2
        exact cut_end (by kernel_rfl) BM.out
      · obtain ⟨rfl, hx⟩ := h4 hE
        clear h3 h4 F hcl U O zz hE hx q0 q1 q2 y0 y2
        go_wp2
        exact cut_end (by kernel_rfl) BN.out
    clear BB
    intro y w' B0
    have BB := hid3 B0
    clear B0
    simp only [putAll, List.map_cons, List.map_nil, Act.put, List.setIfInBounds_toArray, List.set_cons_zero, List.set_cons_succ]
    refine wp_cut [11, 12, 86, 87, 88, 89, 90, 91, 92, 93, 94, 95, 96, 97, 98, 99] (fun w' => Below w.heap.size w w') ?_ ?_
    · have A := hid3 (AA.out.keep BB.out)
      have U := hid3 (History_any A.out hn9 HL.out)
      have O := hid3 (fun h => ones [(2, 0), (0, 1)] l HO.out (by decide) h)
      obtain ⟨st, hst⟩ : ∃ st, Hid (thr rnx [(2, 0), (0, 1)] (0, l, fun _ => (0 : Int)) = st) := ⟨_, rfl⟩
      rw [hst.out] at U O
      go_wp2_with fail
      refine U.out.mono ?_
      rintro e1 w1 ⟨⟨cs, xs, r, rfl, hcl, F, h3, h4⟩, B1⟩
      obtain ⟨a0, n0, d0, q0, y0, k0⟩ := (F 0).2.2 rfl
      have q1 := (F 1).1 rfl
      have ecs : cs = [.slice a0 n0 d0, .int .u64 (xs 1)] := by
        apply List.ext_getElem?
        intro i
        match i with
        | 0 => rw [q0]; rfl
        | 1 => rw [q1]; rfl
        | k + 2 => rw [List.getElem?_eq_none (by omega), List.getElem?_eq_none (by simp)]
      subst ecs
      simp only [mkA]
      have zz := below_alloc w1 (.cells #[.slice a0 n0 d0, .int .u64 (xs 1)] 38)
      have BN := hid3 (joinB (joinB BB.out B1) zz)
      by_cases hE : endE st.1 st.2.1 = 0
      · obtain ⟨rfl, hx⟩ := h3 hE
        have hM := O.out hE
        rw [← hx, thr_congr (xs := xs) (ys := (fun o => ([xs 0, xs 1] : List Int).getD o 0)) [(2, 0), (0, 1)] (List.forall_mem_cons.2 ⟨rfl, List.forall_mem_cons.2 ⟨rfl, fun _ h => by cases h⟩⟩)] at hM
        have P := hid3 (PutHistory_any (w := w1.alloc (.cells #[.slice a0 n0 d0, .int .u64 (xs 1)] 38)) (h0 := y0.o.a.keep (zz)) (m0 := by omega) (x1 := xs 1))
        obtain ⟨w2, hw2⟩ : ∃ w2, Hid (w1.alloc (.cells #[.slice a0 n0 d0, .int .u64 (xs 1)] 38) = w2) := ⟨_, rfl⟩
        rw [hw2.out, hM] at P
        rw [hw2.out] at BN
        have HC := hid3 hM
        clear hM hE hx h3 h4 F hcl U O zz q0 q1 y0
        go_wp2_with fail
        rw [hw2.out]
        refine P.out.mono ?_
        rintro e1 w3 ⟨b3, n3, rfl, hn3, X3, hb3, B3⟩
        have T3 := bSame (box_bya X3 hn3 HO.out (by have := HL.out; omega)) (AA.out.keep (joinB BN.out B3)) (by have := HL.out; omega) (by omega)
        rw [eqB_true rfl] at T3
        replace T3 := hid3 T3
        have BM := hid3 (joinB BN.out B3)
        clear hn3 X3 hb3 B3 P BN
        go_wp2_with fail
        refine T3.out.mono ?_
        rintro e1 w4 ⟨rfl, B4⟩
        replace BM := hid3 (joinB BM.out B4)
        clear T3 B4
        go_wp2
        exact cut_end (by kernel_rfl) BM.out
      · obtain ⟨rfl, hx⟩ := h4 hE
        clear h3 h4 F hcl U O zz hE hx q0 q1 y0
        go_wp2
        exact cut_end (by kernel_rfl) BN.out
    clear BB
    intro y w' B0
    have BB := hid3 B0
    clear B0
    simp only [putAll, List.map_cons, List.map_nil, Act.put, List.setIfInBounds_toArray, List.set_cons_zero, List.set_cons_succ]
    refine wp_cut [13, 14, 100, 101, 102, 103, 104, 105, 106, 107, 108, 109, 110, 111, 112, 113] (fun w' => Below w.heap.size w w') ?_ ?_
    · have A := hid3 (AA.out.keep BB.out)
      have U := hid3 (Unbonding_any A.out hn9 HL.out)
      have O := hid3 (fun h => ones [(0, 0), (0, 1), (0, 2), (0, 3), (0, 4), (0, 5)] l HO.out (by decide) h)
      obtain ⟨st, hst⟩ : ∃ st, Hid (thr rnx [(0, 0), (0, 1), (0, 2), (0, 3), (0, 4), (0, 5)] (0, l, fun _ => (0 : Int)) = st) := ⟨_, rfl⟩
      rw [hst.out] at U O
      go_wp2_with fail
      refine U.out.mono ?_
      rintro e1 w1 ⟨⟨cs, xs, r, rfl, hcl, F, h3, h4⟩, B1⟩
      have q0 := (F 0).1 rfl
      have q1 := (F 1).1 rfl
      have q2 := (F 2).1 rfl
      have q3 := (F 3).1 rfl
      have q4 := (F 4).1 rfl
      have q5 := (F 5).1 rfl
      have ecs : cs = [.int .u64 (xs 0), .int .u64 (xs 1), .int .u64 (xs 2), .int .u64 (xs 3), .int .u64 (xs 4), .int .u64 (xs 5)] := by
        apply List.ext_getElem?
        intro i
        match i with
        | 0 => rw [q0]; rfl
        | 1 => rw [q1]; rfl
        | 2 => rw [q2]; rfl
        | 3 => rw [q3]; rfl
        | 4 => rw [q4]; rfl
        | 5 => rw [q5]; rfl
        | k + 6 => rw [List.getElem?_eq_none (by omega), List.getElem?_eq_none (by simp)]
      subst ecs
      simp only [mkA]
      have zz := below_alloc w1 (.cells #[.int .u64 (xs 0), .int .u64 (xs 1), .int .u64 (xs 2), .int .u64 (xs 3), .int .u64 (xs 4), .int .u64 (xs 5)] 42)
      have BN := hid3 (joinB (joinB BB.out B1) zz)
      by_cases hE : endE st.1 st.2.1 = 0
      · obtain ⟨rfl, hx⟩ := h3 hE
        have hM := O.out hE
        rw [← hx, thr_congr (xs := xs) (ys := (fun o => ([xs 0, xs 1, xs 2, xs 3, xs 4, xs 5] : List Int).getD o 0)) [(0, 0), (0, 1), (0, 2), (0, 3), (0, 4), (0, 5)] (List.forall_mem_cons.2 ⟨rfl, List.forall_mem_cons.2 ⟨rfl, List.forall_mem_cons.2 ⟨rfl, List.forall_mem_cons.2 ⟨rfl, List.forall_mem_cons.2 ⟨rfl, List.forall_mem_cons.2 ⟨rfl, fun _ h => by cases h⟩⟩⟩⟩⟩⟩)] at hM
        have P := hid3 (PutUnbonding_any (w := w1.alloc (.cells #[.int .u64 (xs 0), .int .u64 (xs 1), .int .u64 (xs 2), .int .u64 (xs 3), .int .u64 (xs 4), .int .u64 (xs 5)] 42)) (x0 := xs 0) (x1 := xs 1) (x2 := xs 2) (x3 := xs 3) (x4 := xs 4) (x5 := xs 5))
        obtain ⟨w2, hw2⟩ : ∃ w2, Hid (w1.alloc (.cells #[.int .u64 (xs 0), .int .u64 (xs 1), .int .u64 (xs 2), .int .u64 (xs 3), .int .u64 (xs 4), .int .u64 (xs 5)] 42) = w2) := ⟨_, rfl⟩
        rw [hw2.out, hM] at P
        rw [hw2.out] at BN
        have HC := hid3 hM
        clear hM hE hx h3 h4 F hcl U O zz q0 q1 q2 q3 q4 q5
        go_wp2_with fail
        rw [hw2.out]
        refine P.out.mono ?_
        rintro e1 w3 ⟨b3, n3, rfl, hn3, X3, hb3, B3⟩
        have T3 := bSame (box_bya X3 hn3 HO.out (by have := HL.out; omega)) (AA.out.keep (joinB BN.out B3)) (by have := HL.out; omega) (by omega)
        rw [eqB_true rfl] at T3
        replace T3 := hid3 T3
        have BM := hid3 (joinB BN.out B3)
        clear hn3 X3 hb3 B3 P BN
        go_wp2_with fail
        refine T3.out.mono ?_
        rintro e1 w4 ⟨rfl, B4⟩
        replace BM := hid3 (joinB BM.out B4)
        clear T3 B4
        go_wp2
        exact cut_end (by kernel_rfl) BM.out
      · obtain ⟨rfl, hx⟩ := h4 hE
        clear h3 h4 F hcl U O zz hE hx q0 q1 q2 q3 q4 q5
        go_wp2
        exact cut_end (by kernel_rfl) BN.out
    clear BB
    intro y w' B0
    have BB := hid3 B0
    clear B0
    simp only [putAll, List.map_cons, List.map_nil, Act.put, List.setIfInBounds_toArray, List.set_cons_zero, List.set_cons_succ]
    refine wp_cut [15, 16, 114, 115, 116, 117, 118, 119, 120, 121, 122, 123, 124, 125, 126, 127] (fun w' => Below w.heap.size w w') ?_ ?_
    · have A := hid3 (AA.out.keep BB.out)
      have U := hid3 (Move_any A.out hn9 HL.out)
      have O := hid3 (fun h => ones [(0, 0), (0, 1), (0, 2), (0, 3), (0, 4), (0, 5), (2, 6)] l HO.out (by decide) h)
      obtain ⟨st, hst⟩ : ∃ st, Hid (thr rnx [(0, 0), (0, 1), (0, 2), (0, 3), (0, 4), (0, 5), (2, 6)] (0, l, fun _ => (0 : Int)) = st) := ⟨_, rfl⟩
      rw [hst.out] at U O
      go_wp2_with fail
      refine U.out.mono ?_
      rintro e1 w1 ⟨⟨cs, xs, r, rfl, hcl, F, h3, h4⟩, B1⟩
      have q0 := (F 0).1 rfl
      have q1 := (F 1).1 rfl
      have q2 := (F 2).1 rfl
      have q3 := (F 3).1 rfl
      have q4 := (F 4).1 rfl
      have q5 := (F 5).1 rfl
      obtain ⟨a6, n6, d6, q6, y6, k6⟩ := (F 6).2.2 rfl
      have ecs : cs = [.int .u64 (xs 0), .int .u64 (xs 1), .int .u64 (xs 2), .int .u64 (xs 3), .int .u64 (xs 4), .int .u64 (xs 5), .slice a6 n6 d6] := by
        apply List.ext_getElem?
        intro i
        match i with
        | 0 => rw [q0]; rfl
        | 1 => rw [q1]; rfl
        | 2 => rw [q2]; rfl
        | 3 => rw [q3]; rfl
        | 4 => rw [q4]; rfl
        | 5 => rw [q5]; rfl
        | 6 => rw [q6]; rfl
        | k + 7 => rw [List.getElem?_eq_none (by omega), List.getElem?_eq_none (by simp)]
      subst ecs
      simp only [mkA]
      have zz := below_alloc w1 (.cells #[.int .u64 (xs 0), .int .u64 (xs 1), .int .u64 (xs 2), .int .u64 (xs 3), .int .u64 (xs 4), .int .u64 (xs 5), .slice a6 n6 d6] 44)
      have BN := hid3 (joinB (joinB BB.out B1) zz)
      by_cases hE : endE st.1 st.2.1 = 0
      · obtain ⟨rfl, hx⟩ := h3 hE
        have hM := O.out hE
        rw [← hx, thr_congr (xs := xs) (ys := (fun o => ([xs 0, xs 1, xs 2, xs 3, xs 4, xs 5, xs 6] : List Int).getD o 0)) [(0, 0), (0, 1), (0, 2), (0, 3), (0, 4), (0, 5), (2, 6)] (List.forall_mem_cons.2 ⟨rfl, List.forall_mem_cons.2 ⟨rfl, List.forall_mem_cons.2 ⟨rfl, List.forall_mem_cons.2 ⟨rfl, List.forall_mem_cons.2 ⟨rfl, List.forall_mem_cons.2 ⟨rfl, List.forall_mem_cons.2 ⟨rfl, fun _ h => by cases h⟩⟩⟩⟩⟩⟩⟩)] at hM
        have P := hid3 (PutMove_any (w := w1.alloc (.cells #[.int .u64 (xs 0), .int .u64 (xs 1), .int .u64 (xs 2), .int .u64 (xs 3), .int .u64 (xs 4), .int .u64 (xs 5), .slice a6 n6 d6] 44)) (x0 := xs 0) (x1 := xs 1) (x2 := xs 2) (x3 := xs 3) (x4 := xs 4) (x5 := xs 5) (h6 := y6.o.a.keep (zz)) (m6 := by omega))
        obtain ⟨w2, hw2⟩ : ∃ w2, Hid (w1.alloc (.cells #[.int .u64 (xs 0), .int .u64 (xs 1), .int .u64 (xs 2), .int .u64 (xs 3), .int .u64 (xs 4), .int .u64 (xs 5), .slice a6 n6 d6] 44) = w2) := ⟨_, rfl⟩
        rw [hw2.out, hM] at P
        rw [hw2.out] at BN
        have HC := hid3 hM
        clear hM hE hx h3 h4 F hcl U O zz q0 q1 q2 q3 q4 q5 q6 y6
        go_wp2_with fail
        rw [hw2.out]
        refine P.out.mono ?_
        rintro e1 w3 ⟨b3, n3, rfl, hn3, X3, hb3, B3⟩
        have T3 := bSame (box_bya X3 hn3 HO.out (by have := HL.out; omega)) (AA.out.keep (joinB BN.out B3)) (by have := HL.out; omega) (by omega)
        rw [eqB_true rfl] at T3
        replace T3 := hid3 T3
        have BM := hid3 (joinB BN.out B3)
        clear hn3 X3 hb3 B3 P BN
        go_wp2_with fail
        refine T3.out.mono ?_
        rintro e1 w4 ⟨rfl, B4⟩
        replace BM := hid3 (joinB BM.out B4)
        clear T3 B4
        go_wp2
        exact cut_end (by kernel_rfl) BM.out
      · obtain ⟨rfl, hx⟩ := h4 hE
        clear h3 h4 F hcl U O zz hE hx q0 q1 q2 q3 q4 q5 q6 y6
        go_wp2
        exact cut_end (by kernel_rfl) BN.out
    clear BB
    intro y w' B0
    have BB := hid3 B0
    clear B0
    simp only [putAll, List.map_cons, List.map_nil, Act.put, List.setIfInBounds_toArray, List.set_cons_zero, List.set_cons_succ]
    by_cases h16 : n = 16
    · have g16 : ((n : Int) == 16) = true := beq_iff_eq.2 (by omega)
      have g8 : ((n : Int) == 8) = false := beq_eq_false_iff_ne.2 (by omega)
      have HNN := hid3 h16
      clear h16
      have UU := hid3 (len_u 2 [(0, 0), (0, 1)] l (fun _ => (0 : Int)) rfl (by decide))
      have U1 := hid3 (len_u 1 [(0, 0)] l (fun _ => (0 : Int)) rfl (by decide))
      have O2 := hid3 (fun h => ones [(0, 0), (0, 1)] l HO.out (by decide) h)
      have O1 := hid3 (fun h => ones [(0, 0)] l HO.out (by decide) h)
      have V0 := hid3 (Account_any (AA.out.keep BB.out) hn9 HL.out)
      go_wp2_with fail
      refine V0.out.mono ?_
      rintro e1 w01 ⟨⟨cs, x0, r, rfl, hcl, F, h3, h4⟩, B1⟩
      have q0 := (F 0).1 rfl
      have q1 := (F 1).1 rfl
      have ecs : cs = [.int .u64 (x0 0), .int .u64 (x0 1)] := by
        apply List.ext_getElem?
        intro i
        match i with
        | 0 => rw [q0]; rfl
        | 1 => rw [q1]; rfl
        | k + 2 => rw [List.getElem?_eq_none (by omega), List.getElem?_eq_none (by simp)]
      subst ecs
      simp only [mkA]
      obtain ⟨rfl, hx0⟩ := h3 (UU.out.2 (by have := HL.out; have := HNN.out; omega))
      have M0 := O2.out (UU.out.2 (by have := HL.out; have := HNN.out; omega))
      rw [← hx0, thr_congr (xs := x0) (ys := fun o => ([x0 0, x0 1] : List Int).getD o 0) [(0, 0), (0, 1)] (List.forall_mem_cons.2 ⟨rfl, List.forall_mem_cons.2 ⟨rfl, fun _ h => by cases h⟩⟩)] at M0
      replace M0 := hid3 M0
      clear hx0
      have zz := below_alloc w01 (.cells #[.int .u64 (x0 0), .int .u64 (x0 1)] 32)
      have G0 := hid3 (blk_new w01 [.int .u64 (x0 0), .int .u64 (x0 1)] 32)
      replace BB := hid3 (joinB (joinB BB.out B1) zz)
      obtain ⟨v0, hv0⟩ : ∃ v0, Hid (w01.alloc (.cells #[.int .u64 (x0 0), .int .u64 (x0 1)] 32) = v0) := ⟨_, rfl⟩
      rw [hv0.out] at BB G0
      clear hcl F h3 h4 B1 q0 q1 zz V0
      have V1 := hid3 (Chain_any (AA.out.keep BB.out) hn9 HL.out)
      go_wp2_with fail
      rw [hv0.out]
      refine V1.out.mono ?_
      rintro e1 w11 ⟨⟨cs, x1, r, rfl, hcl, F, h3, h4⟩, B1⟩
      have q0 := (F 0).1 rfl
      have q1 := (F 1).1 rfl
      have ecs : cs = [.int .u64 (x1 0), .int .u64 (x1 1)] := by
        apply List.ext_getElem?
        intro i
        match i with
        | 0 => rw [q0]; rfl
        | 1 => rw [q1]; rfl
        | k + 2 => rw [List.getElem?_eq_none (by omega), List.getElem?_eq_none (by simp)]
      subst ecs
      simp only [mkA]
      obtain ⟨rfl, hx1⟩ := h3 (UU.out.2 (by have := HL.out; have := HNN.out; omega))
      have M1 := O2.out (UU.out.2 (by have := HL.out; have := HNN.out; omega))
      rw [← hx1, thr_congr (xs := x1) (ys := fun o => ([x1 0, x1 1] : List Int).getD o 0) [(0, 0), (0, 1)] (List.forall_mem_cons.2 ⟨rfl, List.forall_mem_cons.2 ⟨rfl, fun _ h => by cases h⟩⟩)] at M1
      replace M1 := hid3 M1
      clear hx1
      have zz := below_alloc w11 (.cells #[.int .u64 (x1 0), .int .u64 (x1 1)] 26)
      have G1 := hid3 (blk_new w11 [.int .u64 (x1 0), .int .u64 (x1 1)] 26)
      replace G0 := hid3 ((G0.out.keep B1).keep zz)
      replace BB := hid3 (joinB (joinB BB.out B1) zz)
      obtain ⟨v1, hv1⟩ : ∃ v1, Hid (w11.alloc (.cells #[.int .u64 (x1 0), .int .u64 (x1 1)] 26) = v1) := ⟨_, rfl⟩
      rw [hv1.out] at BB G0 G1
      clear hcl F h3 h4 B1 q0 q1 zz V1
      have V2 := hid3 (Cut_any (AA.out.keep BB.out) hn9 HL.out)
      go_wp2_with fail
      rw [hv1.out]
      refine V2.out.mono ?_
      rintro e1 w21 ⟨⟨cs, x2, r, rfl, hcl, F, h3, h4⟩, B1⟩
      have q0 := (F 0).1 rfl
      have q1 := (F 1).1 rfl
      have ecs : cs = [.int .u64 (x2 0), .int .u64 (x2 1)] := by
        apply List.ext_getElem?
        intro i
        match i with
        | 0 => rw [q0]; rfl
        | 1 => rw [q1]; rfl
        | k + 2 => rw [List.getElem?_eq_none (by omega), List.getElem?_eq_none (by simp)]
      subst ecs
      simp only [mkA]
      obtain ⟨rfl, hx2⟩ := h3 (UU.out.2 (by have := HL.out; have := HNN.out; omega))
      have M2 := O2.out (UU.out.2 (by have := HL.out; have := HNN.out; omega))
      rw [← hx2, thr_congr (xs := x2) (ys := fun o => ([x2 0, x2 1] : List Int).getD o 0) [(0, 0), (0, 1)] (List.forall_mem_cons.2 ⟨rfl, List.forall_mem_cons.2 ⟨rfl, fun _ h => by cases h⟩⟩)] at M2
      replace M2 := hid3 M2
      clear hx2
      have zz := below_alloc w21 (.cells #[.int .u64 (x2 0), .int .u64 (x2 1)] 40)
      have G2 := hid3 (blk_new w21 [.int .u64 (x2 0), .int .u64 (x2 1)] 40)
      replace G0 := hid3 ((G0.out.keep B1).keep zz)
      replace G1 := hid3 ((G1.out.keep B1).keep zz)
      replace BB := hid3 (joinB (joinB BB.out B1) zz)
      obtain ⟨v2, hv2⟩ : ∃ v2, Hid (w21.alloc (.cells #[.int .u64 (x2 0), .int .u64 (x2 1)] 40) = v2) := ⟨_, rfl⟩
      rw [hv2.out] at BB G0 G1 G2
      clear hcl F h3 h4 B1 q0 q1 zz V2
      have V3 := hid3 (Number_any (AA.out.keep BB.out) hn9 HL.out)
      go_wp2_with fail
      rw [hv2.out]
      refine V3.out.mono ?_
      rintro e1 w31 ⟨⟨cs, x3, r, rfl, hcl, F, h3, h4⟩, B1⟩
      have q0 := (F 0).1 rfl
      have ecs : cs = [.int .u64 (x3 0)] := by
        apply List.ext_getElem?
        intro i
        match i with
        | 0 => rw [q0]; rfl
        | k + 1 => rw [List.getElem?_eq_none (by omega), List.getElem?_eq_none (by simp)]
      subst ecs
      simp only [mkO, List.headD_cons]
      obtain ⟨rfl, hx3⟩ := h4 (fun h => by have := U1.out.1 h; have := HL.out; have := HNN.out; omega)
      clear hx3
      replace G0 := hid3 (G0.out.keep B1)
      replace G1 := hid3 (G1.out.keep B1)
      replace G2 := hid3 (G2.out.keep B1)
      replace BB := hid3 (joinB BB.out B1)
      clear hcl F h3 h4 B1 q0 V3 UU U1 O1 O2
      have ca0 := G0.out.cell (i := 0) rfl
      have cb0 := G0.out.cell (i := 1) rfl
      go_wp2_with fail
      have P := PutAccount_any (w := w31) (x0 := x0 0) (x1 := x0 1)
      rw [M0.out] at P
      refine P.mono ?_
      rintro e1 y0 ⟨b3, n3, rfl, hn3, X3, hb3, B3⟩
      have T3 := bSame (box_bya X3 hn3 HO.out (by have := HL.out; omega)) (AA.out.keep (joinB BB.out B3)) (by have := HL.out; omega) (by omega)
      rw [eqB_true rfl] at T3
      replace T3 := hid3 T3
      replace BB := hid3 (joinB BB.out B3)
      replace G0 := hid3 (G0.out.keep B3)
      replace G1 := hid3 (G1.out.keep B3)
      replace G2 := hid3 (G2.out.keep B3)
      clear hn3 X3 hb3 B3 P
      go_wp2_with fail
      refine T3.out.mono ?_
      rintro e1 z0 ⟨rfl, B4⟩
      replace BB := hid3 (joinB BB.out B4)
      replace G0 := hid3 (G0.out.keep B4)
      replace G1 := hid3 (G1.out.keep B4)
      replace G2 := hid3 (G2.out.keep B4)
      clear T3 B4
      have ca1 := G1.out.cell (i := 0) rfl
      have cb1 := G1.out.cell (i := 1) rfl
      go_wp2_with fail
      have P := PutChain_any (w := z0) (x0 := x1 0) (x1 := x1 1)
      rw [M1.out] at P
      refine P.mono ?_
      rintro e1 y1 ⟨b3, n3, rfl, hn3, X3, hb3, B3⟩
      have T3 := bSame (box_bya X3 hn3 HO.out (by have := HL.out; omega)) (AA.out.keep (joinB BB.out B3)) (by have := HL.out; omega) (by omega)
      rw [eqB_true rfl] at T3
      replace T3 := hid3 T3
      replace BB := hid3 (joinB BB.out B3)
      replace G0 := hid3 (G0.out.keep B3)
      replace G1 := hid3 (G1.out.keep B3)
      replace G2 := hid3 (G2.out.keep B3)
      clear hn3 X3 hb3 B3 P
      go_wp2_with fail
      refine T3.out.mono ?_
      rintro e1 z1 ⟨rfl, B4⟩
      replace BB := hid3 (joinB BB.out B4)
      replace G0 := hid3 (G0.out.keep B4)
      replace G1 := hid3 (G1.out.keep B4)
      replace G2 := hid3 (G2.out.keep B4)
      clear T3 B4
      have ca2 := G2.out.cell (i := 0) rfl
      have cb2 := G2.out.cell (i := 1) rfl
      go_wp2_with fail
      have P := PutCut_any (w := z1) (x0 := x2 0) (x1 := x2 1)
      rw [M2.out] at P
      refine P.mono ?_
      rintro e1 y2 ⟨b3, n3, rfl, hn3, X3, hb3, B3⟩
      have T3 := bSame (box_bya X3 hn3 HO.out (by have := HL.out; omega)) (AA.out.keep (joinB BB.out B3)) (by have := HL.out; omega) (by omega)
      rw [eqB_true rfl] at T3
      replace T3 := hid3 T3
      replace BB := hid3 (joinB BB.out B3)
      replace G0 := hid3 (G0.out.keep B3)
      replace G1 := hid3 (G1.out.keep B3)
      replace G2 := hid3 (G2.out.keep B3)
      clear hn3 X3 hb3 B3 P
      go_wp2_with fail
      refine T3.out.mono ?_
      rintro e1 z2 ⟨rfl, B4⟩
      replace BB := hid3 (joinB BB.out B4)
      replace G0 := hid3 (G0.out.keep B4)
      replace G1 := hid3 (G1.out.keep B4)
      replace G2 := hid3 (G2.out.keep B4)
      clear T3 B4
      go_wp2
      go_ret
      exact ⟨rfl, BB.out⟩
    · by_cases h8 : n = 8
      · have g16 : ((n : Int) == 16) = false := beq_eq_false_iff_ne.2 (by omega)
        have g8 : ((n : Int) == 8) = true := beq_iff_eq.2 (by omega)
        have HNN := hid3 h8
        clear h8
        have UU := hid3 (len_u 2 [(0, 0), (0, 1)] l (fun _ => (0 : Int)) rfl (by decide))
        have U1 := hid3 (len_u 1 [(0, 0)] l (fun _ => (0 : Int)) rfl (by decide))
        have O2 := hid3 (fun h => ones [(0, 0), (0, 1)] l HO.out (by decide) h)
        have O1 := hid3 (fun h => ones [(0, 0)] l HO.out (by decide) h)
        have V0 := hid3 (Account_any (AA.out.keep BB.out) hn9 HL.out)
        go_wp2_with fail
        refine V0.out.mono ?_
        rintro e1 w01 ⟨⟨cs, x0, r, rfl, hcl, F, h3, h4⟩, B1⟩
        have q0 := (F 0).1 rfl
        have q1 := (F 1).1 rfl
        have ecs : cs = [.int .u64 (x0 0), .int .u64 (x0 1)] := by
          apply List.ext_getElem?
          intro i
          match i with
          | 0 => rw [q0]; rfl
          | 1 => rw [q1]; rfl
          | k + 2 => rw [List.getElem?_eq_none (by omega), List.getElem?_eq_none (by simp)]
        subst ecs
        simp only [mkA]
        obtain ⟨rfl, hx0⟩ := h4 (fun h => by have := UU.out.1 h; have := HL.out; have := HNN.out; omega)
        clear hx0
        have zz := below_alloc w01 (.cells #[.int .u64 (x0 0), .int .u64 (x0 1)] 32)
        have G0 := hid3 (blk_new w01 [.int .u64 (x0 0), .int .u64 (x0 1)] 32)
        replace BB := hid3 (joinB (joinB BB.out B1) zz)
        obtain ⟨v0, hv0⟩ : ∃ v0, Hid (w01.alloc (.cells #[.int .u64 (x0 0), .int .u64 (x0 1)] 32) = v0) := ⟨_, rfl⟩
        rw [hv0.out] at BB G0
        clear hcl F h3 h4 B1 q0 q1 zz V0
        have V1 := hid3 (Chain_any (AA.out.keep BB.out) hn9 HL.out)
        go_wp2_with fail
        rw [hv0.out]
        refine V1.out.mono ?_
        rintro e1 w11 ⟨⟨cs, x1, r, rfl, hcl, F, h3, h4⟩, B1⟩
        have q0 := (F 0).1 rfl
        have q1 := (F 1).1 rfl
        have ecs : cs = [.int .u64 (x1 0), .int .u64 (x1 1)] := by
          apply List.ext_getElem?
          intro i
          match i with
          | 0 => rw [q0]; rfl
          | 1 => rw [q1]; rfl
          | k + 2 => rw [List.getElem?_eq_none (by omega), List.getElem?_eq_none (by simp)]
        subst ecs
        simp only [mkA]
        obtain ⟨rfl, hx1⟩ := h4 (fun h => by have := UU.out.1 h; have := HL.out; have := HNN.out; omega)
        clear hx1
        have zz := below_alloc w11 (.cells #[.int .u64 (x1 0), .int .u64 (x1 1)] 26)
        have G1 := hid3 (blk_new w11 [.int .u64 (x1 0), .int .u64 (x1 1)] 26)
        replace G0 := hid3 ((G0.out.keep B1).keep zz)
        replace BB := hid3 (joinB (joinB BB.out B1) zz)
        obtain ⟨v1, hv1⟩ : ∃ v1, Hid (w11.alloc (.cells #[.int .u64 (x1 0), .int .u64 (x1 1)] 26) = v1) := ⟨_, rfl⟩
        rw [hv1.out] at BB G0 G1
        clear hcl F h3 h4 B1 q0 q1 zz V1
        have V2 := hid3 (Cut_any (AA.out.keep BB.out) hn9 HL.out)
        go_wp2_with fail
        rw [hv1.out]
        refine V2.out.mono ?_
        rintro e1 w21 ⟨⟨cs, x2, r, rfl, hcl, F, h3, h4⟩, B1⟩
        have q0 := (F 0).1 rfl
        have q1 := (F 1).1 rfl
        have ecs : cs = [.int .u64 (x2 0), .int .u64 (x2 1)] := by
          apply List.ext_getElem?
          intro i
          match i with
          | 0 => rw [q0]; rfl
          | 1 => rw [q1]; rfl
          | k + 2 => rw [List.getElem?_eq_none (by omega), List.getElem?_eq_none (by simp)]
        subst ecs
        simp only [mkA]
        obtain ⟨rfl, hx2⟩ := h4 (fun h => by have := UU.out.1 h; have := HL.out; have := HNN.out; omega)
        clear hx2
        have zz := below_alloc w21 (.cells #[.int .u64 (x2 0), .int .u64 (x2 1)] 40)
        have G2 := hid3 (blk_new w21 [.int .u64 (x2 0), .int .u64 (x2 1)] 40)
        replace G0 := hid3 ((G0.out.keep B1).keep zz)
        replace G1 := hid3 ((G1.out.keep B1).keep zz)
        replace BB := hid3 (joinB (joinB BB.out B1) zz)
        obtain ⟨v2, hv2⟩ : ∃ v2, Hid (w21.alloc (.cells #[.int .u64 (x2 0), .int .u64 (x2 1)] 40) = v2) := ⟨_, rfl⟩
        rw [hv2.out] at BB G0 G1 G2
        clear hcl F h3 h4 B1 q0 q1 zz V2
        have V3 := hid3 (Number_any (AA.out.keep BB.out) hn9 HL.out)
        go_wp2_with fail
        rw [hv2.out]
        refine V3.out.mono ?_
        rintro e1 w31 ⟨⟨cs, x3, r, rfl, hcl, F, h3, h4⟩, B1⟩
        have q0 := (F 0).1 rfl
        have ecs : cs = [.int .u64 (x3 0)] := by
          apply List.ext_getElem?
          intro i
          match i with
          | 0 => rw [q0]; rfl
          | k + 1 => rw [List.getElem?_eq_none (by omega), List.getElem?_eq_none (by simp)]
        subst ecs
        simp only [mkO, List.headD_cons]
        obtain ⟨rfl, hx3⟩ := h3 (U1.out.2 (by have := HL.out; have := HNN.out; omega))
        have M3 := O1.out (U1.out.2 (by have := HL.out; have := HNN.out; omega))
        rw [← hx3, thr_congr (xs := x3) (ys := fun o => ([x3 0] : List Int).getD o 0) [(0, 0)] (List.forall_mem_cons.2 ⟨rfl, fun _ h => by cases h⟩)] at M3
        replace M3 := hid3 M3
        clear hx3
        replace G0 := hid3 (G0.out.keep B1)
        replace G1 := hid3 (G1.out.keep B1)
        replace G2 := hid3 (G2.out.keep B1)
        replace BB := hid3 (joinB BB.out B1)
        clear hcl F h3 h4 B1 q0 V3 UU U1 O1 O2
        go_wp2_with fail
        have P := PutNumber_any (w := w31) (x0 := x3 0)
        rw [M3.out] at P
        refine P.mono ?_
        rintro e1 y3 ⟨b3, n3, rfl, hn3, X3, hb3, B3⟩
        have T3 := bSame (box_bya X3 hn3 HO.out (by have := HL.out; omega)) (AA.out.keep (joinB BB.out B3)) (by have := HL.out; omega) (by omega)
        rw [eqB_true rfl] at T3
        replace T3 := hid3 T3
        replace BB := hid3 (joinB BB.out B3)
        replace G0 := hid3 (G0.out.keep B3)
        replace G1 := hid3 (G1.out.keep B3)
        replace G2 := hid3 (G2.out.keep B3)
        clear hn3 X3 hb3 B3 P
        go_wp2_with fail
        refine T3.out.mono ?_
        rintro e1 z3 ⟨rfl, B4⟩
        replace BB := hid3 (joinB BB.out B4)
        replace G0 := hid3 (G0.out.keep B4)
        replace G1 := hid3 (G1.out.keep B4)
        replace G2 := hid3 (G2.out.keep B4)
        clear T3 B4
        go_wp2
        go_ret
        exact ⟨rfl, BB.out⟩
      · have g16 : ((n : Int) == 16) = false := beq_eq_false_iff_ne.2 (by omega)
        have g8 : ((n : Int) == 8) = false := beq_eq_false_iff_ne.2 (by omega)
        have HNN := hid3 (And.intro h16 h8)
        have UU := hid3 (len_u 2 [(0, 0), (0, 1)] l (fun _ => (0 : Int)) rfl (by decide))
        have U1 := hid3 (len_u 1 [(0, 0)] l (fun _ => (0 : Int)) rfl (by decide))
        have O2 := hid3 (fun h => ones [(0, 0), (0, 1)] l HO.out (by decide) h)
        have O1 := hid3 (fun h => ones [(0, 0)] l HO.out (by decide) h)
        have V0 := hid3 (Account_any (AA.out.keep BB.out) hn9 HL.out)
        go_wp2_with fail
        refine V0.out.mono ?_
        rintro e1 w01 ⟨⟨cs, x0, r, rfl, hcl, F, h3, h4⟩, B1⟩
        have q0 := (F 0).1 rfl
        have q1 := (F 1).1 rfl
        have ecs : cs = [.int .u64 (x0 0), .int .u64 (x0 1)] := by
          apply List.ext_getElem?
          intro i
          match i with
          | 0 => rw [q0]; rfl
          | 1 => rw [q1]; rfl
          | k + 2 => rw [List.getElem?_eq_none (by omega), List.getElem?_eq_none (by simp)]
        subst ecs
        simp only [mkA]
        obtain ⟨rfl, hx0⟩ := h4 (fun h => by have := UU.out.1 h; have := HL.out; have := HNN.out; omega)
        clear hx0
        have zz := below_alloc w01 (.cells #[.int .u64 (x0 0), .int .u64 (x0 1)] 32)
        have G0 := hid3 (blk_new w01 [.int .u64 (x0 0), .int .u64 (x0 1)] 32)
        replace BB := hid3 (joinB (joinB BB.out B1) zz)
        obtain ⟨v0, hv0⟩ : ∃ v0, Hid (w01.alloc (.cells #[.int .u64 (x0 0), .int .u64 (x0 1)] 32) = v0) := ⟨_, rfl⟩
        rw [hv0.out] at BB G0
        clear hcl F h3 h4 B1 q0 q1 zz V0
        have V1 := hid3 (Chain_any (AA.out.keep BB.out) hn9 HL.out)
        go_wp2_with fail
        rw [hv0.out]
        refine V1.out.mono ?_
        rintro e1 w11 ⟨⟨cs, x1, r, rfl, hcl, F, h3, h4⟩, B1⟩
        have q0 := (F 0).1 rfl
        have q1 := (F 1).1 rfl
        have ecs : cs = [.int .u64 (x1 0), .int .u64 (x1 1)] := by
          apply List.ext_getElem?
          intro i
          match i with
          | 0 => rw [q0]; rfl
          | 1 => rw [q1]; rfl
          | k + 2 => rw [List.getElem?_eq_none (by omega), List.getElem?_eq_none (by simp)]
        subst ecs
        simp only [mkA]
        obtain ⟨rfl, hx1⟩ := h4 (fun h => by have := UU.out.1 h; have := HL.out; have := HNN.out; omega)
        clear hx1
        have zz := below_alloc w11 (.cells #[.int .u64 (x1 0), .int .u64 (x1 1)] 26)
        have G1 := hid3 (blk_new w11 [.int .u64 (x1 0), .int .u64 (x1 1)] 26)
        replace G0 := hid3 ((G0.out.keep B1).keep zz)
        replace BB := hid3 (joinB (joinB BB.out B1) zz)
        obtain ⟨v1, hv1⟩ : ∃ v1, Hid (w11.alloc (.cells #[.int .u64 (x1 0), .int .u64 (x1 1)] 26) = v1) := ⟨_, rfl⟩
        rw [hv1.out] at BB G0 G1
        clear hcl F h3 h4 B1 q0 q1 zz V1
        have V2 := hid3 (Cut_any (AA.out.keep BB.out) hn9 HL.out)
        go_wp2_with fail
        rw [hv1.out]
        refine V2.out.mono ?_
        rintro e1 w21 ⟨⟨cs, x2, r, rfl, hcl, F, h3, h4⟩, B1⟩
        have q0 := (F 0).1 rfl
        have q1 := (F 1).1 rfl
        have ecs : cs = [.int .u64 (x2 0), .int .u64 (x2 1)] := by
          apply List.ext_getElem?
          intro i
          match i with
          | 0 => rw [q0]; rfl
          | 1 => rw [q1]; rfl
          | k + 2 => rw [List.getElem?_eq_none (by omega), List.getElem?_eq_none (by simp)]
        subst ecs
        simp only [mkA]
        obtain ⟨rfl, hx2⟩ := h4 (fun h => by have := UU.out.1 h; have := HL.out; have := HNN.out; omega)
        clear hx2
        have zz := below_alloc w21 (.cells #[.int .u64 (x2 0), .int .u64 (x2 1)] 40)
        have G2 := hid3 (blk_new w21 [.int .u64 (x2 0), .int .u64 (x2 1)] 40)
        replace G0 := hid3 ((G0.out.keep B1).keep zz)
        replace G1 := hid3 ((G1.out.keep B1).keep zz)
        replace BB := hid3 (joinB (joinB BB.out B1) zz)
        obtain ⟨v2, hv2⟩ : ∃ v2, Hid (w21.alloc (.cells #[.int .u64 (x2 0), .int .u64 (x2 1)] 40) = v2) := ⟨_, rfl⟩
        rw [hv2.out] at BB G0 G1 G2
        clear hcl F h3 h4 B1 q0 q1 zz V2
        have V3 := hid3 (Number_any (AA.out.keep BB.out) hn9 HL.out)
        go_wp2_with fail
        rw [hv2.out]
        refine V3.out.mono ?_
        rintro e1 w31 ⟨⟨cs, x3, r, rfl, hcl, F, h3, h4⟩, B1⟩
        have q0 := (F 0).1 rfl
        have ecs : cs = [.int .u64 (x3 0)] := by
          apply List.ext_getElem?
          intro i
          match i with
          | 0 => rw [q0]; rfl
          | k + 1 => rw [List.getElem?_eq_none (by omega), List.getElem?_eq_none (by simp)]
        subst ecs
        simp only [mkO, List.headD_cons]
        obtain ⟨rfl, hx3⟩ := h4 (fun h => by have := U1.out.1 h; have := HL.out; have := HNN.out; omega)
        clear hx3
        replace G0 := hid3 (G0.out.keep B1)
        replace G1 := hid3 (G1.out.keep B1)
        replace G2 := hid3 (G2.out.keep B1)
        replace BB := hid3 (joinB BB.out B1)
        clear hcl F h3 h4 B1 q0 V3 UU U1 O1 O2
        go_wp2
        go_ret
        exact ⟨rfl, BB.out⟩
  · have hn0 : ((3000 : Int) < n) := by omega
    go_enter Tryz.func6, Tryz.ntmps6
    go_wp2_with (go_at_call 8; refine (known8 _).mono ?_; rintro e1 w1 ⟨rfl, B1⟩)
    go_ret
    exact ⟨rfl, B1⟩
end Rc
end Go.Proofs.YthambcohellfpaaGreat
