/- keys.Read. -/
import Derived.Test.YtfljmcfipnmkgaaKyM
namespace Go.Proofs.Ytfljmcfipnmkgaa
namespace Ky
open Go.RowKit Go.Lib Pg
attribute [local go_sem] Oper.semAt_some eq50
theorem By.lens {w : World} {ao : Option Addr} {n c : Nat} {l : List Int} (h : By w (.slice ao n c) l) : l.length = n ∧ n ≤ c ∧ c ≤ 9223372036854775807 := by
  obtain ⟨ao', c', e, h2, h3, _⟩ := h.ex
  cases e
  exact ⟨rfl, h2, h3⟩
theorem By.drop {w : World} {b o n c : Nat} {l : List Int} (h : By w (.slice (some ⟨b, o, none⟩) n c) l) (j : Nat) (hj : j ≤ n) : By w (.slice (some ⟨b, o + j, none⟩) (n - j) (c - j)) (l.drop j) := by
  obtain ⟨hl, hc, hm⟩ := By.lens h
  obtain ⟨ao', c', e, h2, h3, h4, h5, h6⟩ := h.ex
  cases e
  refine ⟨some ⟨b, o + j, none⟩, c - j, by rw [List.length_drop], by rw [List.length_drop]; omega, by omega, (fun e => by cases e), fun x hx => h5 x (List.mem_of_mem_drop hx), ?_⟩
  rcases h6 with rfl | ⟨b', o', e, hlt, hcell⟩
  · exact .inl (by simp)
  · cases e
    refine .inr ⟨b, o + j, rfl, hlt, fun i x hi => ?_⟩
    rw [List.getElem?_drop] at hi
    have := hcell (j + i) x hi
    rw [show o + (j + i) = o + j + i by omega] at this
    exact this
theorem run_from1 {a : Act} {w : World} {op : Oper} {x n c b o : Nat} (ho : op.op = .slice 26 (.tmp x) (some (.const (.int .i64 1))) none none) (hx : a.eval (.tmp x) = .slice (some ⟨b, o, none⟩) n c) (hn : 1 ≤ n) (hc : 2 ≤ c) (hnc : n ≤ c) : (execOp a.eval op).run Try.prog w = .ok (.value (.slice (some ⟨b, o + 1, none⟩) (n - 1) (c - 1))) w := by
  have h1 : ¬ ((n : Int) < 1) := by omega
  have h2 : (1 : Int) ≤ n := by omega
  have h3 : ¬ (c - 1 = 0) := by omega
  have h4 : (n : Int) ≤ c := by omega
  have h5 : ¬ (c ≤ 1) := by omega
  have h6 : ¬ ((c : Int) = 1) := by omega
  have h7 : ¬ (c = 1) := by omega
  obtain ⟨i0, hi, hz0, hs0, hb0⟩ := info_parts (P := Try.prog) KB.inf
  simp only [execOp, ho, hx]
  go_simp
/-- what a key's bytes tell -/
def rdA (r : Nat) (l : List Int) : Int := if 8 < l.length then tn r (bv ((l.drop 1).take 8)) else 0
def rdB (l : List Int) : Int := if 16 < l.length then bv (l.drop (l.length - 8)) else 0
theorem frm_inj : ∀ i : Nat, i < 18 → ∀ j : Nat, j < 18 → frm i = frm j → i = j := by decide +kernel
theorem kindOf_yes {w : World} {f0 f1 f2 : Int} {r : Nat} (hr : r < 18) (h : frm r = (f0, f1, f2)) : Calls Try.prog 31 #[.agg #[.int .i64 f0, .int .u8 f1, .int .u8 f2]] w fun e w' => e = .returned (.int .i64 r) ∧ Below w.heap.size w w' := by
  refine kindOf_any.mono ?_
  rintro e w' ⟨⟨r', rfl, h'⟩, hb⟩
  rcases h' with ⟨h1, h2⟩ | ⟨rfl, h2⟩
  · have := frm_inj r' h1 r hr (h2.trans h.symm)
    subst this
    exact ⟨rfl, hb⟩
  · exact absurd h (h2 r hr)
theorem kindOf_no {w : World} {f0 f1 f2 : Int} (h : ∀ j : Nat, j < 18 → 0 < j → frm j ≠ (f0, f1, f2)) : Calls Try.prog 31 #[.agg #[.int .i64 f0, .int .u8 f1, .int .u8 f2]] w fun e w' => e = .returned (.int .i64 0) ∧ Below w.heap.size w w' := by
  refine kindOf_any.mono ?_
  rintro e w' ⟨⟨r', rfl, h'⟩, hb⟩
  have : r' = 0 := by
    rcases h' with ⟨h1, h2⟩ | ⟨rfl, h2⟩
    · rcases Nat.eq_zero_or_pos r' with h3 | h3
      · exact h3
      · exact absurd h2 (h r' h1 h3)
    · rfl
  subst this
  exact ⟨rfl, hb⟩
theorem ld_key {w : World} {g : Nat} {x y z : Value} (h : Blk w g [x, y, z] 30) : (loadVar 30 ⟨g, 0, none⟩).run Try.prog w = .ok (.agg #[x, y, z]) w := by
  have c0 := h.cell (i := 0) rfl
  have c1 := h.cell (i := 1) rfl
  have c2 := h.cell (i := 2) rfl
  go_simp
theorem res_cell_tmp {fn : Func} {p u : Tmp} {ty : TypeId} (h : fn.results = #[.cell p ty, .tmp u]) {tmps : Array Value} {w : World} {g : Nat} {v x : Value} (hp : tmps.getD p undef = .pointer (some ⟨g, 0, none⟩)) (hu : tmps.getD u undef = x) (hl : (loadVar ty ⟨g, 0, none⟩).run Try.prog w = .ok v w) : (results fn tmps).run Try.prog w = .ok (.tuple #[v, x]) w := by
  rw [results_cell_tmp h, hp, hu]
  simp [asAddr, hl]
set_option maxHeartbeats 8000000 in
set_option maxRecDepth 100000 in
theorem read_no {w : World} {ao : Option Addr} {n c : Nat} {l : List Int} (h : By w (.slice ao n c) l) (hbig : n ≤ 1000000000) (hno : ∀ j : Nat, j < 18 → 0 < j → frm j ≠ fIn l) :
    Calls Try.prog 13 #[.slice ao n c] w fun e w' => e = .returned (.tuple #[.agg #[.int .i64 0, .int .u64 0, .int .u64 0], .int .i64 70]) ∧ Below w.heap.size w w' := by
  obtain ⟨hl, hnc, hcm⟩ := By.lens h
  have u1 := fun w' (hB : Below w.heap.size w w') => formIn_any (h.keep hB) hl hbig
  obtain ⟨⟨f0, f1, f2⟩, hf⟩ : ∃ f, Hid (fIn l = f) := ⟨_, rfl⟩
  have hf0 : f0 = (n : Int) := by have := hf.out; rw [fIn, hl] at this; cases this; rfl
  subst hf0
  rw [hf.out] at u1 hno
  simp only [fv] at u1
  have u2 := fun w' => kindOf_no (w := w') hno
  clear h hno
  go_enter Try.func13, Try.ntmps13
  go_wp2_with first
    | (go_at_call 30; refine (u1 _ (below_alloc _ _)).mono ?_; rintro e w1 ⟨rfl, b1⟩)
    | (go_at_call 31; refine (u2 _).mono ?_; rintro e w2 ⟨rfl, b2⟩; have al := below_alloc w2 (.cells #[.int .i64 0, .int .u64 0, .int .u64 0] 30); have bf := joinB (below_alloc w1 (.cells #[.int .i64 (n : Int), .int .u8 f1, .int .u8 f2] 52)) b2; have kq2 := (((blk_new w [.int .i64 0, .int .u64 0, .int .u64 0] 30).keep b1).keep bf).keep al; have kf2 := ((blk_new w1 [.int .i64 (n : Int), .int .u8 f1, .int .u8 f2] 52).keep b2).keep al; have kp2 := blk_new w2 [.int .i64 0, .int .u64 0, .int .u64 0] 30; have BL2 := joinB (joinB (joinB (below_alloc w (.cells #[.int .i64 0, .int .u64 0, .int .u64 0] 30)) b1) bf) al; have lt1 : w.heap.size < w1.heap.size := Nat.lt_of_lt_of_le (by simp) b1.size; have lt2 : w1.heap.size < w2.heap.size := Nat.lt_of_lt_of_le (by simp) b2.size; have p0_2 := kp2.cell (i := 0) rfl; have p1_2 := kp2.cell (i := 1) rfl; have p2_2 := kp2.cell (i := 2) rfl; have g0_2 := kf2.cell (i := 0) rfl; have g1_2 := kf2.cell (i := 1) rfl; have g2_2 := kf2.cell (i := 2) rfl; have q0_2 := kq2.cell (i := 0) rfl; have q1_2 := kq2.cell (i := 1) rfl; have q2_2 := kq2.cell (i := 2) rfl; have y0_2 := kq2.free 0; have y1_2 := kq2.free 1; have y2_2 := kq2.free 2; replace kp2 := hid2 kp2; replace kf2 := hid2 kf2; replace kq2 := hid2 kq2; replace BL2 := hid2 BL2; clear b1 b2 bf al)
  refine bodyPost_ret (res_cell_tmp rfl rfl rfl (ld_key (row3 kq2.out _ _ _))) rfl ?_
  exact ⟨rfl, below3 BL2.out _ _ _⟩
theorem frm_pos : ∀ r : Nat, r < 18 → 0 < r → 0 < (frm r).1 := by decide +kernel
theorem run_su64 {a : Act} {w : World} {o : Oper} (k q : Nat) {g off : Nat} {u : Value} {x : Int} (ho : o.op = .store 22 (.tmp k) (.tmp q)) (hp : a.eval (.tmp k) = .pointer (some ⟨g, off, none⟩)) (hq : a.eval (.tmp q) = .int .u64 x) (hc : w.cell? ⟨g, off, none⟩ = some u) (hf : w.frozen? ⟨g, off, none⟩ = false) :
    (execOp a.eval o).run Try.prog w = .ok .skip (w.setCell ⟨g, off, none⟩ (.int .u64 x)) := by
  simp only [execOp, ho, hp, hq]
  go_simp
set_option maxHeartbeats 8000000 in
set_option maxRecDepth 100000 in
theorem read_yes {w : World} {ao : Option Addr} {n c : Nat} {l : List Int} (h : By w (.slice ao n c) l) (hbig : n ≤ 1000000000) {r : Nat} (hr : r < 18) (hr0 : 0 < r) (hfr : frm r = fIn l) :
    Calls Try.prog 13 #[.slice ao n c] w fun e w' => e = .returned (.tuple #[.agg #[.int .i64 (r : Int), .int .u64 (rdA r l), .int .u64 (rdB l)], .int .i64 0]) ∧ Below w.heap.size w w' := by
  obtain ⟨hl, hnc, hcm⟩ := By.lens h
  have u1 := fun w' (hB : Below w.heap.size w w') => formIn_any (h.keep hB) hl hbig
  have hpos := frm_pos r hr hr0
  obtain ⟨⟨f0, f1, f2⟩, hf⟩ : ∃ f, Hid (fIn l = f) := ⟨_, rfl⟩
  have hf0 : f0 = (n : Int) := by have := hf.out; rw [fIn, hl] at this; cases this; rfl
  subst hf0
  rw [hf.out] at u1 hfr
  rw [hfr] at hpos
  simp only [fv] at u1 hpos
  have u2 := fun w' => kindOf_yes (w := w') hr hfr
  obtain ⟨x0, hx0⟩ : ∃ x, l[0]? = some x := ⟨l[0]'(by omega), List.getElem?_eq_getElem _⟩
  obtain ⟨b, o, rfl, _⟩ := By.at h hx0
  have HB := hid2 h
  have nr : ¬ ((r : Int) = 0) := by omega
  clear h hfr hx0
  by_cases h8 : 8 < n
  · by_cases h16 : 16 < n
    · have g8 : ((8 : Int) < n) := by omega
      have vA := fun w => usesA_any (w := w) (n := n) (x := f1) (y := f2)
      rw [decide_eq_true g8] at vA
      have g16 : ((16 : Int) < n) := by omega
      have vB := fun w => usesB_any (w := w) (n := n) (x := f1) (y := f2)
      rw [decide_eq_true g16] at vB
      have mA : True := trivial
      have mB : True := trivial
      have HRA : Hid (rdA r l = tn r (bv ((l.drop 1).take 8))) := by show _ = _; rw [rdA, if_pos (by omega)]
      have HRB : Hid (rdB l = bv ((l.drop (n - 8)).take 8)) := by show _ = _; rw [rdB, if_pos (by omega)]; rw [hl, List.take_of_length_le (by rw [List.length_drop]; omega)]
      rw [HRA.out, HRB.out]
      go_enter Try.func13, Try.ntmps13
      go_wp2_with first
        | (go_at_call 30; refine (u1 _ (below_alloc _ _)).mono ?_; rintro e w1 ⟨rfl, b1⟩)
        | (go_at_call 31; refine (u2 _).mono ?_; rintro e w2 ⟨rfl, b2⟩; have al := below_alloc w2 (.cells #[.int .i64 (r : Int), .int .u64 0, .int .u64 0] 30); have bf := joinB (below_alloc w1 (.cells #[.int .i64 (n : Int), .int .u8 f1, .int .u8 f2] 52)) b2; have kq2 := (((blk_new w [.int .i64 0, .int .u64 0, .int .u64 0] 30).keep b1).keep bf).keep al; have kf2 := ((blk_new w1 [.int .i64 (n : Int), .int .u8 f1, .int .u8 f2] 52).keep b2).keep al; have kp2 := blk_new w2 [.int .i64 (r : Int), .int .u64 0, .int .u64 0] 30; have BL2 := joinB (joinB (joinB (below_alloc w (.cells #[.int .i64 0, .int .u64 0, .int .u64 0] 30)) b1) bf) al; have lt1 : w.heap.size < w1.heap.size := Nat.lt_of_lt_of_le (by simp) b1.size; have lt2 : w1.heap.size < w2.heap.size := Nat.lt_of_lt_of_le (by simp) b2.size; have p0_2 := kp2.cell (i := 0) rfl; have p1_2 := kp2.cell (i := 1) rfl; have p2_2 := kp2.cell (i := 2) rfl; have g0_2 := kf2.cell (i := 0) rfl; have g1_2 := kf2.cell (i := 1) rfl; have g2_2 := kf2.cell (i := 2) rfl; have q0_2 := kq2.cell (i := 0) rfl; have q1_2 := kq2.cell (i := 1) rfl; have q2_2 := kq2.cell (i := 2) rfl; have y0_2 := kq2.free 0; have y1_2 := kq2.free 1; have y2_2 := kq2.free 2; have x0_2 := kp2.free 0; have x1_2 := kp2.free 1; have x2_2 := kp2.free 2; replace kp2 := hid2 kp2; replace kf2 := hid2 kf2; replace kq2 := hid2 kq2; replace BL2 := hid2 BL2; clear b1 b2 bf al)
        | (go_at_call 32; have gate := mA; clear gate; go_must (refine (vA _).mono ?_); clear mA; rintro e w3 ⟨rfl, b3⟩; have kp3 := kp2.out.keep b3; have kf3 := kf2.out.keep b3; have kq3 := kq2.out.keep b3; have BL3 := joinB BL2.out b3; have p0_3 := kp3.cell (i := 0) rfl; have p1_3 := kp3.cell (i := 1) rfl; have p2_3 := kp3.cell (i := 2) rfl; have g0_3 := kf3.cell (i := 0) rfl; have g1_3 := kf3.cell (i := 1) rfl; have g2_3 := kf3.cell (i := 2) rfl; have q0_3 := kq3.cell (i := 0) rfl; have q1_3 := kq3.cell (i := 1) rfl; have q2_3 := kq3.cell (i := 2) rfl; have y0_3 := kq3.free 0; have y1_3 := kq3.free 1; have y2_3 := kq3.free 2; have x0_3 := kp3.free 0; have x1_3 := kp3.free 1; have x2_3 := kp3.free 2; replace kp3 := hid2 kp3; replace kf3 := hid2 kf3; replace kq3 := hid2 kq3; replace BL3 := hid2 BL3; clear b3)
      have hS : w3.drew.cell? ⟨w2.heap.size, 0, none⟩ = some (.int .i64 (r : Int)) := kp3.out.drew.cell rfl
      have BY := (HB.out.keep BL3.out).drew
      have bb := bv_bound 8 ((l.drop 1).take 8) (fun y hy => HB.out.oct y (List.mem_of_mem_drop (List.mem_of_mem_take hy))) (by rw [List.length_take, List.length_drop]; omega)
      rw [show (256 : Int) ^ 8 = 18446744073709551616 by decide] at bb
      refine rg_start (S := fun w' => w'.cell? ⟨w2.heap.size, 0, none⟩ = some (.int .i64 (r : Int))) (by kernel_rfl) hS ?_
      refine rg_take 0 (some 17) (.pointer (some ⟨w2.heap.size, 0, none⟩)) (by kernel_rfl) (fun _ _ => by kernel_rfl) (fun _ _ _ h => h) hS ?_
      refine rg_load 1 (some 18) (.int .i64 (r : Int)) 3 17 w2.heap.size 0 (by kernel_rfl) (by kernel_rfl) (by kernel_rfl) (fun w' h => ld_int h) (fun _ _ _ h => h) hS ?_
      refine rg_take 2 (some 19) (.slice (some ⟨b, o, none⟩) n c) (by kernel_rfl) (fun _ _ => by kernel_rfl) (fun _ _ _ h => h) hS ?_
      refine rg_take 3 (some 20) (.slice (some ⟨b, o + 1, none⟩) (n - 1) (c - 1)) (by kernel_rfl) (fun _ _ => run_from1 (x := 19) (by kernel_rfl) (by kernel_rfl) (by omega) (by omega) hnc) (fun _ _ _ h => h) hS ?_
      refine rg_call 4 (some 21) 34 #[.slice (some ⟨b, o + 1, none⟩) (n - 1) (c - 1)] (by kernel_rfl) (by kernel_rfl) (numberAt_any (By.drop BY 1 (by omega)) (by rw [List.length_drop]; omega) (by omega) (by omega)) ?_
      rintro e' w4 ⟨rfl, rfl⟩
      refine ⟨_, rfl, hS, ?_⟩
      refine rg_call 5 (some 22) 33 #[.int .i64 (r : Int), .int .u64 (bv ((l.drop 1).take 8))] (by kernel_rfl) (by kernel_rfl) (turned_any bb.1 bb.2) ?_
      rintro e' w5 ⟨rfl, rfl⟩
      refine ⟨.int .u64 (tn r (bv ((l.drop 1).take 8))), rfl, hS, ?_⟩
      refine rg_take 6 (some 23) (.pointer (some ⟨w2.heap.size, 1, none⟩)) (by kernel_rfl) (fun _ _ => by kernel_rfl) (fun _ _ _ h => h) hS ?_
      refine rg_ready [7] (by kernel_rfl) (by simp) (ar_void 7 (w3.drew.setCell ⟨w2.heap.size, 1, none⟩ (.int .u64 (tn r (bv ((l.drop 1).take 8))))) (by kernel_rfl) (run_su64 23 22 (by kernel_rfl) (by kernel_rfl) (by kernel_rfl) (kp3.out.drew.cell (i := 1) rfl) (kp3.out.drew.free 1)) ((kp3.out.drew.setCell (i := 1) _).cell (i := 0) rfl) ?_ ar_nil)
      refine rg_done (by kernel_rfl) ?_
      simp only [Act.put, List.setIfInBounds_toArray, List.set_cons_zero, List.set_cons_succ]
      have kp5 : Blk (w3.drew.setCell ⟨w2.heap.size, 1, none⟩ (.int .u64 (tn r (bv ((l.drop 1).take 8))))) w2.heap.size [.int .i64 (r : Int), .int .u64 (tn r (bv ((l.drop 1).take 8))), .int .u64 0] 30 := kp3.out.drew.setCell (i := 1) _
      have kf5 := kf3.out.drew.off (g' := w2.heap.size) (by omega) (i := 1) (.int .u64 (tn r (bv ((l.drop 1).take 8))))
      have kq5 := kq3.out.drew.off (g' := w2.heap.size) (by omega) (i := 1) (.int .u64 (tn r (bv ((l.drop 1).take 8))))
      have BL5 := (joinB BL3.out (belowD w3)).setCell (p := ⟨w2.heap.size, 1, none⟩) (show w.heap.size ≤ w2.heap.size by omega) (.int .u64 (tn r (bv ((l.drop 1).take 8))))
      generalize hX5 : w3.drew.setCell ⟨w2.heap.size, 1, none⟩ (.int .u64 (tn r (bv ((l.drop 1).take 8)))) = X5 at *
      clear hX5
      generalize hAV : tn r (bv ((l.drop 1).take 8)) = AV at *
      have HAV := hid2 hAV
      clear hAV
      have p0_5 := kp5.cell (i := 0) rfl
      have p1_5 := kp5.cell (i := 1) rfl
      have p2_5 := kp5.cell (i := 2) rfl
      have g0_5 := kf5.cell (i := 0) rfl
      have g1_5 := kf5.cell (i := 1) rfl
      have g2_5 := kf5.cell (i := 2) rfl
      have q0_5 := kq5.cell (i := 0) rfl
      have q1_5 := kq5.cell (i := 1) rfl
      have q2_5 := kq5.cell (i := 2) rfl
      have y0_5 := kq5.free 0
      have y1_5 := kq5.free 1
      have y2_5 := kq5.free 2
      have x0_5 := kp5.free 0
      have x1_5 := kp5.free 1
      have x2_5 := kp5.free 2
      replace kp5 := hid2 kp5
      replace kf5 := hid2 kf5
      replace kq5 := hid2 kq5
      replace BL5 := hid2 BL5
      clear BY bb hS
      have HB8 := hid2 HB.out
      go_wp2_with first
        | (go_at_call 35; have gate := mB; clear gate; go_must (refine (vB _).mono ?_); clear mB; rintro e w6 ⟨rfl, b6⟩; have kp6 := kp5.out.keep b6; have kf6 := kf5.out.keep b6; have kq6 := kq5.out.keep b6; have BL6 := joinB BL5.out b6; have p0_6 := kp6.cell (i := 0) rfl; have p1_6 := kp6.cell (i := 1) rfl; have p2_6 := kp6.cell (i := 2) rfl; have g0_6 := kf6.cell (i := 0) rfl; have g1_6 := kf6.cell (i := 1) rfl; have g2_6 := kf6.cell (i := 2) rfl; have q0_6 := kq6.cell (i := 0) rfl; have q1_6 := kq6.cell (i := 1) rfl; have q2_6 := kq6.cell (i := 2) rfl; have y0_6 := kq6.free 0; have y1_6 := kq6.free 1; have y2_6 := kq6.free 2; have x0_6 := kp6.free 0; have x1_6 := kp6.free 1; have x2_6 := kp6.free 2; replace kp6 := hid2 kp6; replace kf6 := hid2 kf6; replace kq6 := hid2 kq6; replace BL6 := hid2 BL6; clear b6)
        | (go_at_call 34; refine (numberAt_any (By.drop (HB8.out.keep BL6.out) (n - 8) (by omega)) (by rw [List.length_drop]; omega) (by omega) (by omega)).mono ?_; rintro e w7 ⟨rfl, rfl⟩)
      refine bodyPost_ret (res_cell_tmp rfl rfl rfl (ld_key (row3 (kq6.out.off (g' := w2.heap.size) (by omega) (i := 2) _) _ _ _))) rfl ?_
      refine ⟨?_, below3 (BL6.out.setCell (p := ⟨w2.heap.size, 2, none⟩) (show w.heap.size ≤ w2.heap.size by omega) _) _ _ _⟩
      show Ending.returned (.tuple #[.agg #[.int .i64 (r : Int), .int .u64 AV, .int .u64 (bv ((l.drop (n - 8)).take 8))], .int .i64 0]) = _
      rw [← HAV.out]
    · have g8 : ((8 : Int) < n) := by omega
      have vA := fun w => usesA_any (w := w) (n := n) (x := f1) (y := f2)
      rw [decide_eq_true g8] at vA
      have g16 : ¬ ((16 : Int) < n) := by omega
      have vB := fun w => usesB_any (w := w) (n := n) (x := f1) (y := f2)
      rw [decide_eq_false g16] at vB
      have mA : True := trivial
      have mB : True := trivial
      have HRA : Hid (rdA r l = tn r (bv ((l.drop 1).take 8))) := by show _ = _; rw [rdA, if_pos (by omega)]
      have HRB : Hid (rdB l = 0) := by show _ = _; rw [rdB, if_neg (by omega)]
      rw [HRA.out, HRB.out]
      go_enter Try.func13, Try.ntmps13
      go_wp2_with first
        | (go_at_call 30; refine (u1 _ (below_alloc _ _)).mono ?_; rintro e w1 ⟨rfl, b1⟩)
        | (go_at_call 31; refine (u2 _).mono ?_; rintro e w2 ⟨rfl, b2⟩; have al := below_alloc w2 (.cells #[.int .i64 (r : Int), .int .u64 0, .int .u64 0] 30); have bf := joinB (below_alloc w1 (.cells #[.int .i64 (n : Int), .int .u8 f1, .int .u8 f2] 52)) b2; have kq2 := (((blk_new w [.int .i64 0, .int .u64 0, .int .u64 0] 30).keep b1).keep bf).keep al; have kf2 := ((blk_new w1 [.int .i64 (n : Int), .int .u8 f1, .int .u8 f2] 52).keep b2).keep al; have kp2 := blk_new w2 [.int .i64 (r : Int), .int .u64 0, .int .u64 0] 30; have BL2 := joinB (joinB (joinB (below_alloc w (.cells #[.int .i64 0, .int .u64 0, .int .u64 0] 30)) b1) bf) al; have lt1 : w.heap.size < w1.heap.size := Nat.lt_of_lt_of_le (by simp) b1.size; have lt2 : w1.heap.size < w2.heap.size := Nat.lt_of_lt_of_le (by simp) b2.size; have p0_2 := kp2.cell (i := 0) rfl; have p1_2 := kp2.cell (i := 1) rfl; have p2_2 := kp2.cell (i := 2) rfl; have g0_2 := kf2.cell (i := 0) rfl; have g1_2 := kf2.cell (i := 1) rfl; have g2_2 := kf2.cell (i := 2) rfl; have q0_2 := kq2.cell (i := 0) rfl; have q1_2 := kq2.cell (i := 1) rfl; have q2_2 := kq2.cell (i := 2) rfl; have y0_2 := kq2.free 0; have y1_2 := kq2.free 1; have y2_2 := kq2.free 2; have x0_2 := kp2.free 0; have x1_2 := kp2.free 1; have x2_2 := kp2.free 2; replace kp2 := hid2 kp2; replace kf2 := hid2 kf2; replace kq2 := hid2 kq2; replace BL2 := hid2 BL2; clear b1 b2 bf al)
        | (go_at_call 32; have gate := mA; clear gate; go_must (refine (vA _).mono ?_); clear mA; rintro e w3 ⟨rfl, b3⟩; have kp3 := kp2.out.keep b3; have kf3 := kf2.out.keep b3; have kq3 := kq2.out.keep b3; have BL3 := joinB BL2.out b3; have p0_3 := kp3.cell (i := 0) rfl; have p1_3 := kp3.cell (i := 1) rfl; have p2_3 := kp3.cell (i := 2) rfl; have g0_3 := kf3.cell (i := 0) rfl; have g1_3 := kf3.cell (i := 1) rfl; have g2_3 := kf3.cell (i := 2) rfl; have q0_3 := kq3.cell (i := 0) rfl; have q1_3 := kq3.cell (i := 1) rfl; have q2_3 := kq3.cell (i := 2) rfl; have y0_3 := kq3.free 0; have y1_3 := kq3.free 1; have y2_3 := kq3.free 2; have x0_3 := kp3.free 0; have x1_3 := kp3.free 1; have x2_3 := kp3.free 2; replace kp3 := hid2 kp3; replace kf3 := hid2 kf3; replace kq3 := hid2 kq3; replace BL3 := hid2 BL3; clear b3)
      have hS : w3.drew.cell? ⟨w2.heap.size, 0, none⟩ = some (.int .i64 (r : Int)) := kp3.out.drew.cell rfl
      have BY := (HB.out.keep BL3.out).drew
      have bb := bv_bound 8 ((l.drop 1).take 8) (fun y hy => HB.out.oct y (List.mem_of_mem_drop (List.mem_of_mem_take hy))) (by rw [List.length_take, List.length_drop]; omega)
      rw [show (256 : Int) ^ 8 = 18446744073709551616 by decide] at bb
      refine rg_start (S := fun w' => w'.cell? ⟨w2.heap.size, 0, none⟩ = some (.int .i64 (r : Int))) (by kernel_rfl) hS ?_
      refine rg_take 0 (some 17) (.pointer (some ⟨w2.heap.size, 0, none⟩)) (by kernel_rfl) (fun _ _ => by kernel_rfl) (fun _ _ _ h => h) hS ?_
      refine rg_load 1 (some 18) (.int .i64 (r : Int)) 3 17 w2.heap.size 0 (by kernel_rfl) (by kernel_rfl) (by kernel_rfl) (fun w' h => ld_int h) (fun _ _ _ h => h) hS ?_
      refine rg_take 2 (some 19) (.slice (some ⟨b, o, none⟩) n c) (by kernel_rfl) (fun _ _ => by kernel_rfl) (fun _ _ _ h => h) hS ?_
      refine rg_take 3 (some 20) (.slice (some ⟨b, o + 1, none⟩) (n - 1) (c - 1)) (by kernel_rfl) (fun _ _ => run_from1 (x := 19) (by kernel_rfl) (by kernel_rfl) (by omega) (by omega) hnc) (fun _ _ _ h => h) hS ?_
      refine rg_call 4 (some 21) 34 #[.slice (some ⟨b, o + 1, none⟩) (n - 1) (c - 1)] (by kernel_rfl) (by kernel_rfl) (numberAt_any (By.drop BY 1 (by omega)) (by rw [List.length_drop]; omega) (by omega) (by omega)) ?_
      rintro e' w4 ⟨rfl, rfl⟩
      refine ⟨_, rfl, hS, ?_⟩
      refine rg_call 5 (some 22) 33 #[.int .i64 (r : Int), .int .u64 (bv ((l.drop 1).take 8))] (by kernel_rfl) (by kernel_rfl) (turned_any bb.1 bb.2) ?_
      rintro e' w5 ⟨rfl, rfl⟩
      refine ⟨.int .u64 (tn r (bv ((l.drop 1).take 8))), rfl, hS, ?_⟩
      refine rg_take 6 (some 23) (.pointer (some ⟨w2.heap.size, 1, none⟩)) (by kernel_rfl) (fun _ _ => by kernel_rfl) (fun _ _ _ h => h) hS ?_
      refine rg_ready [7] (by kernel_rfl) (by simp) (ar_void 7 (w3.drew.setCell ⟨w2.heap.size, 1, none⟩ (.int .u64 (tn r (bv ((l.drop 1).take 8))))) (by kernel_rfl) (run_su64 23 22 (by kernel_rfl) (by kernel_rfl) (by kernel_rfl) (kp3.out.drew.cell (i := 1) rfl) (kp3.out.drew.free 1)) ((kp3.out.drew.setCell (i := 1) _).cell (i := 0) rfl) ?_ ar_nil)
      refine rg_done (by kernel_rfl) ?_
      simp only [Act.put, List.setIfInBounds_toArray, List.set_cons_zero, List.set_cons_succ]
      have kp5 : Blk (w3.drew.setCell ⟨w2.heap.size, 1, none⟩ (.int .u64 (tn r (bv ((l.drop 1).take 8))))) w2.heap.size [.int .i64 (r : Int), .int .u64 (tn r (bv ((l.drop 1).take 8))), .int .u64 0] 30 := kp3.out.drew.setCell (i := 1) _
      have kf5 := kf3.out.drew.off (g' := w2.heap.size) (by omega) (i := 1) (.int .u64 (tn r (bv ((l.drop 1).take 8))))
      have kq5 := kq3.out.drew.off (g' := w2.heap.size) (by omega) (i := 1) (.int .u64 (tn r (bv ((l.drop 1).take 8))))
      have BL5 := (joinB BL3.out (belowD w3)).setCell (p := ⟨w2.heap.size, 1, none⟩) (show w.heap.size ≤ w2.heap.size by omega) (.int .u64 (tn r (bv ((l.drop 1).take 8))))
      generalize hX5 : w3.drew.setCell ⟨w2.heap.size, 1, none⟩ (.int .u64 (tn r (bv ((l.drop 1).take 8)))) = X5 at *
      clear hX5
      generalize hAV : tn r (bv ((l.drop 1).take 8)) = AV at *
      have HAV := hid2 hAV
      clear hAV
      have p0_5 := kp5.cell (i := 0) rfl
      have p1_5 := kp5.cell (i := 1) rfl
      have p2_5 := kp5.cell (i := 2) rfl
      have g0_5 := kf5.cell (i := 0) rfl
      have g1_5 := kf5.cell (i := 1) rfl
      have g2_5 := kf5.cell (i := 2) rfl
      have q0_5 := kq5.cell (i := 0) rfl
      have q1_5 := kq5.cell (i := 1) rfl
      have q2_5 := kq5.cell (i := 2) rfl
      have y0_5 := kq5.free 0
      have y1_5 := kq5.free 1
      have y2_5 := kq5.free 2
      have x0_5 := kp5.free 0
      have x1_5 := kp5.free 1
      have x2_5 := kp5.free 2
      replace kp5 := hid2 kp5
      replace kf5 := hid2 kf5
      replace kq5 := hid2 kq5
      replace BL5 := hid2 BL5
      clear BY bb hS
      go_wp2_with (go_at_call 35; have gate := mB; clear gate; go_must (refine (vB _).mono ?_); clear mB; rintro e w6 ⟨rfl, b6⟩; have kp6 := kp5.out.keep b6; have kf6 := kf5.out.keep b6; have kq6 := kq5.out.keep b6; have BL6 := joinB BL5.out b6; have p0_6 := kp6.cell (i := 0) rfl; have p1_6 := kp6.cell (i := 1) rfl; have p2_6 := kp6.cell (i := 2) rfl; have g0_6 := kf6.cell (i := 0) rfl; have g1_6 := kf6.cell (i := 1) rfl; have g2_6 := kf6.cell (i := 2) rfl; have q0_6 := kq6.cell (i := 0) rfl; have q1_6 := kq6.cell (i := 1) rfl; have q2_6 := kq6.cell (i := 2) rfl; have y0_6 := kq6.free 0; have y1_6 := kq6.free 1; have y2_6 := kq6.free 2; have x0_6 := kp6.free 0; have x1_6 := kp6.free 1; have x2_6 := kp6.free 2; replace kp6 := hid2 kp6; replace kf6 := hid2 kf6; replace kq6 := hid2 kq6; replace BL6 := hid2 BL6; clear b6)
      refine bodyPost_ret (res_cell_tmp rfl rfl rfl (ld_key (row3 kq6.out _ _ _))) rfl ?_
      refine ⟨?_, below3 BL6.out _ _ _⟩
      show Ending.returned (.tuple #[.agg #[.int .i64 (r : Int), .int .u64 AV, .int .u64 0], .int .i64 0]) = _
      rw [← HAV.out]
  · have g8 : ¬ ((8 : Int) < n) := by omega
    have vA := fun w => usesA_any (w := w) (n := n) (x := f1) (y := f2)
    rw [decide_eq_false g8] at vA
    have g16 : ¬ ((16 : Int) < n) := by omega
    have vB := fun w => usesB_any (w := w) (n := n) (x := f1) (y := f2)
    rw [decide_eq_false g16] at vB
    have mA : True := trivial
    have mB : True := trivial
    have HRA : Hid (rdA r l = 0) := by show _ = _; rw [rdA, if_neg (by omega)]
    have HRB : Hid (rdB l = 0) := by show _ = _; rw [rdB, if_neg (by omega)]
    rw [HRA.out, HRB.out]
    go_enter Try.func13, Try.ntmps13
    go_wp2_with first
      | (go_at_call 30; refine (u1 _ (below_alloc _ _)).mono ?_; rintro e w1 ⟨rfl, b1⟩)
      | (go_at_call 31; refine (u2 _).mono ?_; rintro e w2 ⟨rfl, b2⟩; have al := below_alloc w2 (.cells #[.int .i64 (r : Int), .int .u64 0, .int .u64 0] 30); have bf := joinB (below_alloc w1 (.cells #[.int .i64 (n : Int), .int .u8 f1, .int .u8 f2] 52)) b2; have kq2 := (((blk_new w [.int .i64 0, .int .u64 0, .int .u64 0] 30).keep b1).keep bf).keep al; have kf2 := ((blk_new w1 [.int .i64 (n : Int), .int .u8 f1, .int .u8 f2] 52).keep b2).keep al; have kp2 := blk_new w2 [.int .i64 (r : Int), .int .u64 0, .int .u64 0] 30; have BL2 := joinB (joinB (joinB (below_alloc w (.cells #[.int .i64 0, .int .u64 0, .int .u64 0] 30)) b1) bf) al; have lt1 : w.heap.size < w1.heap.size := Nat.lt_of_lt_of_le (by simp) b1.size; have lt2 : w1.heap.size < w2.heap.size := Nat.lt_of_lt_of_le (by simp) b2.size; have p0_2 := kp2.cell (i := 0) rfl; have p1_2 := kp2.cell (i := 1) rfl; have p2_2 := kp2.cell (i := 2) rfl; have g0_2 := kf2.cell (i := 0) rfl; have g1_2 := kf2.cell (i := 1) rfl; have g2_2 := kf2.cell (i := 2) rfl; have q0_2 := kq2.cell (i := 0) rfl; have q1_2 := kq2.cell (i := 1) rfl; have q2_2 := kq2.cell (i := 2) rfl; have y0_2 := kq2.free 0; have y1_2 := kq2.free 1; have y2_2 := kq2.free 2; have x0_2 := kp2.free 0; have x1_2 := kp2.free 1; have x2_2 := kp2.free 2; replace kp2 := hid2 kp2; replace kf2 := hid2 kf2; replace kq2 := hid2 kq2; replace BL2 := hid2 BL2; clear b1 b2 bf al)
      | (go_at_call 32; have gate := mA; clear gate; go_must (refine (vA _).mono ?_); clear mA; rintro e w3 ⟨rfl, b3⟩; have kp3 := kp2.out.keep b3; have kf3 := kf2.out.keep b3; have kq3 := kq2.out.keep b3; have BL3 := joinB BL2.out b3; have p0_3 := kp3.cell (i := 0) rfl; have p1_3 := kp3.cell (i := 1) rfl; have p2_3 := kp3.cell (i := 2) rfl; have g0_3 := kf3.cell (i := 0) rfl; have g1_3 := kf3.cell (i := 1) rfl; have g2_3 := kf3.cell (i := 2) rfl; have q0_3 := kq3.cell (i := 0) rfl; have q1_3 := kq3.cell (i := 1) rfl; have q2_3 := kq3.cell (i := 2) rfl; have y0_3 := kq3.free 0; have y1_3 := kq3.free 1; have y2_3 := kq3.free 2; have x0_3 := kp3.free 0; have x1_3 := kp3.free 1; have x2_3 := kp3.free 2; replace kp3 := hid2 kp3; replace kf3 := hid2 kf3; replace kq3 := hid2 kq3; replace BL3 := hid2 BL3; clear b3)
      | (go_at_call 35; have gate := mB; clear gate; go_must (refine (vB _).mono ?_); clear mB; rintro e w6 ⟨rfl, b6⟩; have kp6 := kp3.out.keep b6; have kf6 := kf3.out.keep b6; have kq6 := kq3.out.keep b6; have BL6 := joinB BL3.out b6; have p0_6 := kp6.cell (i := 0) rfl; have p1_6 := kp6.cell (i := 1) rfl; have p2_6 := kp6.cell (i := 2) rfl; have g0_6 := kf6.cell (i := 0) rfl; have g1_6 := kf6.cell (i := 1) rfl; have g2_6 := kf6.cell (i := 2) rfl; have q0_6 := kq6.cell (i := 0) rfl; have q1_6 := kq6.cell (i := 1) rfl; have q2_6 := kq6.cell (i := 2) rfl; have y0_6 := kq6.free 0; have y1_6 := kq6.free 1; have y2_6 := kq6.free 2; have x0_6 := kp6.free 0; have x1_6 := kp6.free 1; have x2_6 := kp6.free 2; replace kp6 := hid2 kp6; replace kf6 := hid2 kf6; replace kq6 := hid2 kq6; replace BL6 := hid2 BL6; clear b6)
    refine bodyPost_ret (res_cell_tmp rfl rfl rfl (ld_key (row3 kq6.out _ _ _))) rfl ?_
    refine ⟨?_, below3 BL6.out _ _ _⟩
    rfl
end Ky
end Go.Proofs.Ytfljmcfipnmkgaa
