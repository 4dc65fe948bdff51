/- keys.Make. -/
import Derived.Test.YtfljmcfipnmkgaaKyI
namespace Go.Proofs.Ytfljmcfipnmkgaa
namespace Ky
open Go.RowKit Go.Lib Pg
attribute [local go_sem] Oper.semAt_some
theorem eq50 (a b c d : Int) (w : World) : (Op.equalIn 9999 50 (.agg #[.int .u8 a, .int .u8 b]) (.agg #[.int .u8 c, .int .u8 d])).run Try.prog w = .ok (a == c && b == d) w := by
  rw [show (9999 : Nat) = 9998 + 1 from rfl, Op.equalIn]
  simp only [Sem.run_bind, run_underlying Try.underlying50, Result.andThen_ok]
  simp only [Std.Legacy.Range.forIn_eq_forIn_range', Std.Legacy.Range.size, Nat.sub_zero, Nat.add_sub_cancel, Nat.div_one, List.range'_succ, List.range'_zero, List.forIn_cons, List.forIn_nil]
  go_simp
  by_cases h1 : a = c <;> by_cases h2 : b = d <;> simp [h1, h2]
attribute [local go_sem] eq50
theorem frm_shape (k : Int) : ∃ (n : Nat) (m0 m1 : Int), frm k = ((n : Int), m0, m1) ∧ n ≤ 18 ∧ (0 ≤ m0 ∧ m0 < 256) ∧ (0 ≤ m1 ∧ m1 < 256) ∧ (n = 0 → m0 = 0 ∧ m1 = 0) := by
  by_cases h : 0 ≤ k ∧ k < 18
  · obtain ⟨j, rfl⟩ := Int.eq_ofNat_of_zero_le h.1
    have hj : j < 18 := by omega
    match j, hj with
    | 0, _ => exact ⟨0, 0, 0, rfl, by decide, by decide, by decide, fun _ => ⟨rfl, rfl⟩⟩
    | 1, _ => exact ⟨1, 112, 0, rfl, by decide, by decide, by decide, fun h => by omega⟩
    | 2, _ => exact ⟨1, 99, 0, rfl, by decide, by decide, by decide, fun h => by omega⟩
    | 3, _ => exact ⟨1, 109, 0, rfl, by decide, by decide, by decide, fun h => by omega⟩
    | 4, _ => exact ⟨9, 97, 0, rfl, by decide, by decide, by decide, fun h => by omega⟩
    | 5, _ => exact ⟨10, 118, 48, rfl, by decide, by decide, by decide, fun h => by omega⟩
    | 6, _ => exact ⟨18, 118, 100, rfl, by decide, by decide, by decide, fun h => by omega⟩
    | 7, _ => exact ⟨18, 118, 104, rfl, by decide, by decide, by decide, fun h => by omega⟩
    | 8, _ => exact ⟨18, 118, 115, rfl, by decide, by decide, by decide, fun h => by omega⟩
    | 9, _ => exact ⟨9, 116, 0, rfl, by decide, by decide, by decide, fun h => by omega⟩
    | 10, _ => exact ⟨17, 105, 0, rfl, by decide, by decide, by decide, fun h => by omega⟩
    | 11, _ => exact ⟨9, 98, 0, rfl, by decide, by decide, by decide, fun h => by omega⟩
    | 12, _ => exact ⟨9, 117, 0, rfl, by decide, by decide, by decide, fun h => by omega⟩
    | 13, _ => exact ⟨9, 114, 0, rfl, by decide, by decide, by decide, fun h => by omega⟩
    | 14, _ => exact ⟨17, 113, 0, rfl, by decide, by decide, by decide, fun h => by omega⟩
    | 15, _ => exact ⟨17, 101, 0, rfl, by decide, by decide, by decide, fun h => by omega⟩
    | 16, _ => exact ⟨17, 110, 0, rfl, by decide, by decide, by decide, fun h => by omega⟩
    | 17, _ => exact ⟨17, 107, 0, rfl, by decide, by decide, by decide, fun h => by omega⟩
    | j + 18, h => omega
  · exact ⟨0, 0, 0, if_neg h, by decide, by decide, by decide, fun _ => ⟨rfl, rfl⟩⟩
def tn (k a : Int) : Int := if k = 10 then 18446744073709551615 - a else a
def mkE (k a b : Int) : Bool := decide ((frm k).1 = 0) || (decide (a ≠ 0) && decide ((frm k).1 ≤ 8)) || (decide (b ≠ 0) && decide ((frm k).1 ≤ 16))
def mk (k a b : Int) : List Int := mkb (frm k) (tn k a) ++ (if 16 < (frm k).1 then be 8 b else [])
theorem mkb_len (f : Int × Int × Int) (a : Int) : (mkb f a).length ≤ 10 := by
  unfold mkb
  split <;> split <;> simp [be_length]
theorem ld_form {w : World} {g : Nat} {x y z : Value} (h : Blk w g [x, y, z] 52) : (loadVar 52 ⟨g, 0, none⟩).run Try.prog w = .ok (.agg #[x, y, z]) w := ld_f h
set_option maxHeartbeats 8000000 in
set_option maxRecDepth 100000 in
theorem make_any {w : World} {k a b : Int} (h0 : 0 ≤ a) (h1 : a < 18446744073709551616) :
    Calls Try.prog 18 #[.agg #[.int .i64 k, .int .u64 a, .int .u64 b]] w fun e w' => ∃ v, e = .returned (.tuple #[v, .int .i64 (if mkE k a b then 70 else 0)]) ∧ OB w' (w.heap.size ≤ ·) v (if mkE k a b then [] else mk k a b) ∧ Below w.heap.size w w' := by
  obtain ⟨n, m0, m1, hf, hn, hm0, hm1, hz⟩ := frm_shape k
  have u1 := fun w => formOf_any (w := w) (k := k)
  rw [hf] at u1
  simp only [fv] at u1
  have HE : Hid (mkE k a b = (decide (n = 0) || (decide (a ≠ 0) && decide (n ≤ 8)) || (decide (b ≠ 0) && decide (n ≤ 16)))) := by
    show _ = _
    unfold mkE
    rw [hf]
    simp only [show (((n : Int), m0, m1).1 = 0) = (n = 0) by simp, show (((n : Int), m0, m1).1 ≤ 8) = (n ≤ 8) by simp; omega, show (((n : Int), m0, m1).1 ≤ 16) = (n ≤ 16) by simp; omega]
  have HK : Hid (mk k a b = mkb ((n : Int), m0, m1) (tn k a) ++ (if 16 < n then be 8 b else [])) := by
    show _ = _
    unfold mk
    rw [hf]
    simp only [show (16 < ((n : Int), m0, m1).1) = (16 < n) by simp; omega]
  have HA := hid2 (And.intro h0 h1)
  have HM0 := hid2 hm0
  have HM1 := hid2 hm1
  have HN := hid2 hn
  clear hf h0 h1 hm0 hm1
  by_cases hn0 : n = 0
  · subst hn0
    have HEV : Hid (mkE k a b = true) := by show _ = _; rw [HE.out]; simp
    obtain ⟨z0, z1⟩ := hz rfl
    subst z0 z1
    simp only [show ((0 : Nat) : Int) = 0 from rfl] at u1
    rw [HEV.out]
    go_enter Try.func18, Try.ntmps18
    go_wp2_with first
      | (go_at_call 28; refine (u1 _).mono ?_; rintro e w1 ⟨rfl, b1⟩; have B1 := joinB (below_alloc w (.cells #[.int .i64 k, .int .u64 a, .int .u64 b] 30)) b1; have al := below_alloc w1 (.cells #[.int .i64 0, .int .u8 0, .int .u8 0] 52); have kq1 := ((blk_new w [.int .i64 k, .int .u64 a, .int .u64 b] 30).keep b1).keep al; have kr1 := blk_new w1 [.int .i64 0, .int .u8 0, .int .u8 0] 52; have BL1 := joinB B1 al; have q0_1 := kq1.cell (i := 0) rfl; have q1_1 := kq1.cell (i := 1) rfl; have q2_1 := kq1.cell (i := 2) rfl; have r0_1 := kr1.cell (i := 0) rfl; have r1_1 := kr1.cell (i := 1) rfl; have r2_1 := kr1.cell (i := 2) rfl; replace kq1 := hid2 kq1; replace kr1 := hid2 kr1; replace BL1 := hid2 BL1; clear b1 al B1)
    go_ret2
    exact ⟨_, rfl, ⟨fun _ h => by simp at h, .inl ⟨rfl, rfl⟩⟩, BL1.out⟩
  · by_cases ha : a = 0
    · by_cases hb : b = 0
      · by_cases h16 : 16 < n
        · have HEV : Hid (mkE k a b = false) := by show _ = _; rw [HE.out]; simp [hn0, ha, hb]
          have HLV : Hid (mk k a b = mkb ((n : Int), m0, m1) (tn k a) ++ be 8 b) := by show _ = _; rw [HK.out, if_pos (by omega)]
          rw [HEV.out]
          subst ha
          subst hb
          have nz0 : ¬ ((n : Int) = 0) := by omega
          have gA : ((8 : Int) < n) := by omega
          have uA := fun w => usesA_any (w := w) (n := n) (x := m0) (y := m1)
          rw [decide_eq_true gA] at uA
          have gB : ((16 : Int) < n) := by omega
          have uB := fun w => usesB_any (w := w) (n := n) (x := m0) (y := m1)
          rw [decide_eq_true gB] at uB
          clear hn hz hn0
          go_enter Try.func18, Try.ntmps18
          go_wp2_with first
            | (go_at_call 28; refine (u1 _).mono ?_; rintro e w1 ⟨rfl, b1⟩; have B1 := joinB (below_alloc w (.cells #[.int .i64 k, .int .u64 0, .int .u64 0] 30)) b1; have al := below_alloc w1 (.cells #[.int .i64 (n : Int), .int .u8 m0, .int .u8 m1] 52); have kq1 := ((blk_new w [.int .i64 k, .int .u64 0, .int .u64 0] 30).keep b1).keep al; have kr1 := blk_new w1 [.int .i64 (n : Int), .int .u8 m0, .int .u8 m1] 52; have BL1 := joinB B1 al; have q0_1 := kq1.cell (i := 0) rfl; have q1_1 := kq1.cell (i := 1) rfl; have q2_1 := kq1.cell (i := 2) rfl; have r0_1 := kr1.cell (i := 0) rfl; have r1_1 := kr1.cell (i := 1) rfl; have r2_1 := kr1.cell (i := 2) rfl; replace kq1 := hid2 kq1; replace kr1 := hid2 kr1; replace BL1 := hid2 BL1; clear b1 al B1)
          have hS := And.intro kq1.out.drew kr1.out.drew
          refine rg_start (S := fun w' => Blk w' w.heap.size [.int .i64 k, .int .u64 0, .int .u64 0] 30 ∧ Blk w' w1.heap.size [.int .i64 (n : Int), .int .u8 m0, .int .u8 m1] 52) (by kernel_rfl) hS ?_
          refine rg_load 0 (some 32) (.agg #[.int .i64 (n : Int), .int .u8 m0, .int .u8 m1]) 52 4 (w1.heap.size) (0) (by kernel_rfl) (by kernel_rfl) (by kernel_rfl) (fun w' h => ld_f h.2) (fun _ _ _ h => h) hS ?_
          refine rg_take 1 (some 33) (.pointer (some ⟨w.heap.size, 0, none⟩)) (by kernel_rfl) (fun _ _ => by kernel_rfl) (fun _ _ _ h => h) hS ?_
          refine rg_load 2 (some 34) (.int .i64 k) 3 33 (w.heap.size) (0) (by kernel_rfl) (by kernel_rfl) (by kernel_rfl) (fun w' h => ld_int (h.1.cell (i := 0) rfl)) (fun _ _ _ h => h) hS ?_
          refine rg_take 3 (some 35) (.pointer (some ⟨w.heap.size, 1, none⟩)) (by kernel_rfl) (fun _ _ => by kernel_rfl) (fun _ _ _ h => h) hS ?_
          refine rg_load 4 (some 36) (.int .u64 0) 22 35 (w.heap.size) (1) (by kernel_rfl) (by kernel_rfl) (by kernel_rfl) (fun w' h => ld_u64 (h.1.cell (i := 1) rfl)) (fun _ _ _ h => h) hS ?_
          refine rg_call 5 (some 37) 33 #[.int .i64 k, .int .u64 0] (by kernel_rfl) (by kernel_rfl) (turned_any HA.out.1 HA.out.2) ?_
          rintro e' w4 ⟨rfl, rfl⟩
          refine ⟨.int .u64 (tn k 0), rfl, hS, ?_⟩
          refine rg_call 6 (some 38) 40 #[.agg #[.int .i64 (n : Int), .int .u8 m0, .int .u8 m1], .int .u64 (tn k 0)] (by kernel_rfl) (by kernel_rfl) (begin_any (n := n) (a := tn k 0) (Nat.le_trans HN.out (by decide)) HM0.out HM1.out) ?_
          rintro e' w5 ⟨v5, rfl, O5, b5⟩
          obtain ⟨a5, c5, rfl⟩ := OB.sh O5
          have hS5 := And.intro (hS.1.keep b5) (hS.2.keep b5)
          refine ⟨_, rfl, hS5, ?_⟩
          replace hS := hS5
          refine rg_take 7 (some 5) (.slice a5 (mkb ((n : Int), m0, m1) (tn k 0)).length c5) (by kernel_rfl) (fun _ _ => by kernel_rfl) (fun _ _ _ h => h) hS ?_
          refine rg_done (by kernel_rfl) ?_
          simp only [Act.put, List.setIfInBounds_toArray, List.set_cons_zero, List.set_cons_succ]
          have BL5 := joinB BL1.out (joinB (belowD _) b5)
          have kq5 := hS.1
          have kr5 := hS.2
          have q0_5 := kq5.cell (i := 0) rfl
          have q1_5 := kq5.cell (i := 1) rfl
          have q2_5 := kq5.cell (i := 2) rfl
          have r0_5 := kr5.cell (i := 0) rfl
          have r1_5 := kr5.cell (i := 1) rfl
          have r2_5 := kr5.cell (i := 2) rfl
          replace kq5 := hid2 kq5
          replace kr5 := hid2 kr5
          replace BL5 := hid2 BL5
          have HO5 : Hid (OB w5 (w.heap.size ≤ ·) _ _) := O5.mono (D' := (w.heap.size ≤ ·)) (fun b _ h => Nat.le_trans BL1.out.size h)
          clear hS O5 b5
          have LN : (mkb ((n : Int), m0, m1) (tn k 0)).length ≤ 100000 := Nat.le_trans (mkb_len _ _) (by decide)
          generalize hML : mkb ((n : Int), m0, m1) (tn k 0) = ML at *
          have HML := hid2 hML
          clear hML
          go_wp2_with first
            | (go_at_call 35; refine (uB _).mono ?_; rintro e w6 ⟨rfl, b6⟩; have kq6 := kq5.out.keep b6; have q2_6 := kq6.cell (i := 2) rfl; have BL6 := joinB BL5.out b6; have O6 := HO5.out.keep b6; replace kq6 := hid2 kq6; replace BL6 := hid2 BL6; replace O6 := hid2 O6; clear b6)
            | (go_at_call 27; refine (appendNumber_any (x := 0) O6.out BL6.out.size LN).mono ?_; rintro e w7 ⟨v7, rfl, O7, b7⟩; obtain ⟨a7, c7, rfl⟩ := OB.sh O7)
          go_ret2
          exact ⟨_, rfl, by rw [HLV.out]; have h9 := O7; rw [List.length_append] at h9; exact h9, BL6.out.trans b7⟩
        · by_cases h8 : 8 < n
          · have HEV : Hid (mkE k a b = false) := by show _ = _; rw [HE.out]; simp [hn0, ha, hb]
            have HLV : Hid (mk k a b = mkb ((n : Int), m0, m1) (tn k a)) := by show _ = _; rw [HK.out, if_neg (by omega), List.append_nil]
            rw [HEV.out]
            subst ha
            subst hb
            have nz0 : ¬ ((n : Int) = 0) := by omega
            have gA : ((8 : Int) < n) := by omega
            have uA := fun w => usesA_any (w := w) (n := n) (x := m0) (y := m1)
            rw [decide_eq_true gA] at uA
            have gB : ¬ ((16 : Int) < n) := by omega
            have uB := fun w => usesB_any (w := w) (n := n) (x := m0) (y := m1)
            rw [decide_eq_false gB] at uB
            clear hn hz hn0
            go_enter Try.func18, Try.ntmps18
            go_wp2_with first
              | (go_at_call 28; refine (u1 _).mono ?_; rintro e w1 ⟨rfl, b1⟩; have B1 := joinB (below_alloc w (.cells #[.int .i64 k, .int .u64 0, .int .u64 0] 30)) b1; have al := below_alloc w1 (.cells #[.int .i64 (n : Int), .int .u8 m0, .int .u8 m1] 52); have kq1 := ((blk_new w [.int .i64 k, .int .u64 0, .int .u64 0] 30).keep b1).keep al; have kr1 := blk_new w1 [.int .i64 (n : Int), .int .u8 m0, .int .u8 m1] 52; have BL1 := joinB B1 al; have q0_1 := kq1.cell (i := 0) rfl; have q1_1 := kq1.cell (i := 1) rfl; have q2_1 := kq1.cell (i := 2) rfl; have r0_1 := kr1.cell (i := 0) rfl; have r1_1 := kr1.cell (i := 1) rfl; have r2_1 := kr1.cell (i := 2) rfl; replace kq1 := hid2 kq1; replace kr1 := hid2 kr1; replace BL1 := hid2 BL1; clear b1 al B1)
            have hS := And.intro kq1.out.drew kr1.out.drew
            refine rg_start (S := fun w' => Blk w' w.heap.size [.int .i64 k, .int .u64 0, .int .u64 0] 30 ∧ Blk w' w1.heap.size [.int .i64 (n : Int), .int .u8 m0, .int .u8 m1] 52) (by kernel_rfl) hS ?_
            refine rg_load 0 (some 32) (.agg #[.int .i64 (n : Int), .int .u8 m0, .int .u8 m1]) 52 4 (w1.heap.size) (0) (by kernel_rfl) (by kernel_rfl) (by kernel_rfl) (fun w' h => ld_f h.2) (fun _ _ _ h => h) hS ?_
            refine rg_take 1 (some 33) (.pointer (some ⟨w.heap.size, 0, none⟩)) (by kernel_rfl) (fun _ _ => by kernel_rfl) (fun _ _ _ h => h) hS ?_
            refine rg_load 2 (some 34) (.int .i64 k) 3 33 (w.heap.size) (0) (by kernel_rfl) (by kernel_rfl) (by kernel_rfl) (fun w' h => ld_int (h.1.cell (i := 0) rfl)) (fun _ _ _ h => h) hS ?_
            refine rg_take 3 (some 35) (.pointer (some ⟨w.heap.size, 1, none⟩)) (by kernel_rfl) (fun _ _ => by kernel_rfl) (fun _ _ _ h => h) hS ?_
            refine rg_load 4 (some 36) (.int .u64 0) 22 35 (w.heap.size) (1) (by kernel_rfl) (by kernel_rfl) (by kernel_rfl) (fun w' h => ld_u64 (h.1.cell (i := 1) rfl)) (fun _ _ _ h => h) hS ?_
            refine rg_call 5 (some 37) 33 #[.int .i64 k, .int .u64 0] (by kernel_rfl) (by kernel_rfl) (turned_any HA.out.1 HA.out.2) ?_
            rintro e' w4 ⟨rfl, rfl⟩
            refine ⟨.int .u64 (tn k 0), rfl, hS, ?_⟩
            refine rg_call 6 (some 38) 40 #[.agg #[.int .i64 (n : Int), .int .u8 m0, .int .u8 m1], .int .u64 (tn k 0)] (by kernel_rfl) (by kernel_rfl) (begin_any (n := n) (a := tn k 0) (Nat.le_trans HN.out (by decide)) HM0.out HM1.out) ?_
            rintro e' w5 ⟨v5, rfl, O5, b5⟩
            obtain ⟨a5, c5, rfl⟩ := OB.sh O5
            have hS5 := And.intro (hS.1.keep b5) (hS.2.keep b5)
            refine ⟨_, rfl, hS5, ?_⟩
            replace hS := hS5
            refine rg_take 7 (some 5) (.slice a5 (mkb ((n : Int), m0, m1) (tn k 0)).length c5) (by kernel_rfl) (fun _ _ => by kernel_rfl) (fun _ _ _ h => h) hS ?_
            refine rg_done (by kernel_rfl) ?_
            simp only [Act.put, List.setIfInBounds_toArray, List.set_cons_zero, List.set_cons_succ]
            have BL5 := joinB BL1.out (joinB (belowD _) b5)
            have kq5 := hS.1
            have kr5 := hS.2
            have q0_5 := kq5.cell (i := 0) rfl
            have q1_5 := kq5.cell (i := 1) rfl
            have q2_5 := kq5.cell (i := 2) rfl
            have r0_5 := kr5.cell (i := 0) rfl
            have r1_5 := kr5.cell (i := 1) rfl
            have r2_5 := kr5.cell (i := 2) rfl
            replace kq5 := hid2 kq5
            replace kr5 := hid2 kr5
            replace BL5 := hid2 BL5
            have HO5 : Hid (OB w5 (w.heap.size ≤ ·) _ _) := O5.mono (D' := (w.heap.size ≤ ·)) (fun b _ h => Nat.le_trans BL1.out.size h)
            clear hS O5 b5
            have LN : (mkb ((n : Int), m0, m1) (tn k 0)).length ≤ 100000 := Nat.le_trans (mkb_len _ _) (by decide)
            generalize hML : mkb ((n : Int), m0, m1) (tn k 0) = ML at *
            have HML := hid2 hML
            clear hML
            go_wp2_with first
              | (go_at_call 35; refine (uB _).mono ?_; rintro e w6 ⟨rfl, b6⟩; have kq6 := kq5.out.keep b6; have q2_6 := kq6.cell (i := 2) rfl; have BL6 := joinB BL5.out b6; have O6 := HO5.out.keep b6; replace kq6 := hid2 kq6; replace BL6 := hid2 BL6; replace O6 := hid2 O6; clear b6)
            go_ret2
            exact ⟨_, rfl, by rw [HLV.out]; exact O6.out, BL6.out⟩
          · have HEV : Hid (mkE k a b = false) := by show _ = _; rw [HE.out]; simp [hn0, ha, hb]
            have HLV : Hid (mk k a b = mkb ((n : Int), m0, m1) (tn k a)) := by show _ = _; rw [HK.out, if_neg (by omega), List.append_nil]
            rw [HEV.out]
            subst ha
            subst hb
            have nz0 : ¬ ((n : Int) = 0) := by omega
            have gA : ¬ ((8 : Int) < n) := by omega
            have uA := fun w => usesA_any (w := w) (n := n) (x := m0) (y := m1)
            rw [decide_eq_false gA] at uA
            have gB : ¬ ((16 : Int) < n) := by omega
            have uB := fun w => usesB_any (w := w) (n := n) (x := m0) (y := m1)
            rw [decide_eq_false gB] at uB
            clear hn hz hn0
            go_enter Try.func18, Try.ntmps18
            go_wp2_with first
              | (go_at_call 28; refine (u1 _).mono ?_; rintro e w1 ⟨rfl, b1⟩; have B1 := joinB (below_alloc w (.cells #[.int .i64 k, .int .u64 0, .int .u64 0] 30)) b1; have al := below_alloc w1 (.cells #[.int .i64 (n : Int), .int .u8 m0, .int .u8 m1] 52); have kq1 := ((blk_new w [.int .i64 k, .int .u64 0, .int .u64 0] 30).keep b1).keep al; have kr1 := blk_new w1 [.int .i64 (n : Int), .int .u8 m0, .int .u8 m1] 52; have BL1 := joinB B1 al; have q0_1 := kq1.cell (i := 0) rfl; have q1_1 := kq1.cell (i := 1) rfl; have q2_1 := kq1.cell (i := 2) rfl; have r0_1 := kr1.cell (i := 0) rfl; have r1_1 := kr1.cell (i := 1) rfl; have r2_1 := kr1.cell (i := 2) rfl; replace kq1 := hid2 kq1; replace kr1 := hid2 kr1; replace BL1 := hid2 BL1; clear b1 al B1)
            have hS := And.intro kq1.out.drew kr1.out.drew
            refine rg_start (S := fun w' => Blk w' w.heap.size [.int .i64 k, .int .u64 0, .int .u64 0] 30 ∧ Blk w' w1.heap.size [.int .i64 (n : Int), .int .u8 m0, .int .u8 m1] 52) (by kernel_rfl) hS ?_
            refine rg_load 0 (some 32) (.agg #[.int .i64 (n : Int), .int .u8 m0, .int .u8 m1]) 52 4 (w1.heap.size) (0) (by kernel_rfl) (by kernel_rfl) (by kernel_rfl) (fun w' h => ld_f h.2) (fun _ _ _ h => h) hS ?_
            refine rg_take 1 (some 33) (.pointer (some ⟨w.heap.size, 0, none⟩)) (by kernel_rfl) (fun _ _ => by kernel_rfl) (fun _ _ _ h => h) hS ?_
            refine rg_load 2 (some 34) (.int .i64 k) 3 33 (w.heap.size) (0) (by kernel_rfl) (by kernel_rfl) (by kernel_rfl) (fun w' h => ld_int (h.1.cell (i := 0) rfl)) (fun _ _ _ h => h) hS ?_
            refine rg_take 3 (some 35) (.pointer (some ⟨w.heap.size, 1, none⟩)) (by kernel_rfl) (fun _ _ => by kernel_rfl) (fun _ _ _ h => h) hS ?_
            refine rg_load 4 (some 36) (.int .u64 0) 22 35 (w.heap.size) (1) (by kernel_rfl) (by kernel_rfl) (by kernel_rfl) (fun w' h => ld_u64 (h.1.cell (i := 1) rfl)) (fun _ _ _ h => h) hS ?_
            refine rg_call 5 (some 37) 33 #[.int .i64 k, .int .u64 0] (by kernel_rfl) (by kernel_rfl) (turned_any HA.out.1 HA.out.2) ?_
            rintro e' w4 ⟨rfl, rfl⟩
            refine ⟨.int .u64 (tn k 0), rfl, hS, ?_⟩
            refine rg_call 6 (some 38) 40 #[.agg #[.int .i64 (n : Int), .int .u8 m0, .int .u8 m1], .int .u64 (tn k 0)] (by kernel_rfl) (by kernel_rfl) (begin_any (n := n) (a := tn k 0) (Nat.le_trans HN.out (by decide)) HM0.out HM1.out) ?_
            rintro e' w5 ⟨v5, rfl, O5, b5⟩
            obtain ⟨a5, c5, rfl⟩ := OB.sh O5
            have hS5 := And.intro (hS.1.keep b5) (hS.2.keep b5)
            refine ⟨_, rfl, hS5, ?_⟩
            replace hS := hS5
            refine rg_take 7 (some 5) (.slice a5 (mkb ((n : Int), m0, m1) (tn k 0)).length c5) (by kernel_rfl) (fun _ _ => by kernel_rfl) (fun _ _ _ h => h) hS ?_
            refine rg_done (by kernel_rfl) ?_
            simp only [Act.put, List.setIfInBounds_toArray, List.set_cons_zero, List.set_cons_succ]
            have BL5 := joinB BL1.out (joinB (belowD _) b5)
            have kq5 := hS.1
            have kr5 := hS.2
            have q0_5 := kq5.cell (i := 0) rfl
            have q1_5 := kq5.cell (i := 1) rfl
            have q2_5 := kq5.cell (i := 2) rfl
            have r0_5 := kr5.cell (i := 0) rfl
            have r1_5 := kr5.cell (i := 1) rfl
            have r2_5 := kr5.cell (i := 2) rfl
            replace kq5 := hid2 kq5
            replace kr5 := hid2 kr5
            replace BL5 := hid2 BL5
            have HO5 : Hid (OB w5 (w.heap.size ≤ ·) _ _) := O5.mono (D' := (w.heap.size ≤ ·)) (fun b _ h => Nat.le_trans BL1.out.size h)
            clear hS O5 b5
            have LN : (mkb ((n : Int), m0, m1) (tn k 0)).length ≤ 100000 := Nat.le_trans (mkb_len _ _) (by decide)
            generalize hML : mkb ((n : Int), m0, m1) (tn k 0) = ML at *
            have HML := hid2 hML
            clear hML
            go_wp2_with first
              | (go_at_call 35; refine (uB _).mono ?_; rintro e w6 ⟨rfl, b6⟩; have kq6 := kq5.out.keep b6; have q2_6 := kq6.cell (i := 2) rfl; have BL6 := joinB BL5.out b6; have O6 := HO5.out.keep b6; replace kq6 := hid2 kq6; replace BL6 := hid2 BL6; replace O6 := hid2 O6; clear b6)
            go_ret2
            exact ⟨_, rfl, by rw [HLV.out]; exact O6.out, BL6.out⟩
      · by_cases h16 : 16 < n
        · have hB3 : True := trivial
          have HEV : Hid (mkE k a b = false) := by show _ = _; rw [HE.out]; simp [hn0, ha, hb]; omega
          have HLV : Hid (mk k a b = mkb ((n : Int), m0, m1) (tn k a) ++ be 8 b) := by show _ = _; rw [HK.out, if_pos (by omega)]
          rw [HEV.out]
          subst ha
          have nz0 : ¬ ((n : Int) = 0) := by omega
          have gA : ((8 : Int) < n) := by omega
          have uA := fun w => usesA_any (w := w) (n := n) (x := m0) (y := m1)
          rw [decide_eq_true gA] at uA
          have gB : ((16 : Int) < n) := by omega
          have uB := fun w => usesB_any (w := w) (n := n) (x := m0) (y := m1)
          rw [decide_eq_true gB] at uB
          clear hn hz hn0
          go_enter Try.func18, Try.ntmps18
          go_wp2_with first
            | (go_at_call 28; refine (u1 _).mono ?_; rintro e w1 ⟨rfl, b1⟩; have B1 := joinB (below_alloc w (.cells #[.int .i64 k, .int .u64 0, .int .u64 b] 30)) b1; have al := below_alloc w1 (.cells #[.int .i64 (n : Int), .int .u8 m0, .int .u8 m1] 52); have kq1 := ((blk_new w [.int .i64 k, .int .u64 0, .int .u64 b] 30).keep b1).keep al; have kr1 := blk_new w1 [.int .i64 (n : Int), .int .u8 m0, .int .u8 m1] 52; have BL1 := joinB B1 al; have q0_1 := kq1.cell (i := 0) rfl; have q1_1 := kq1.cell (i := 1) rfl; have q2_1 := kq1.cell (i := 2) rfl; have r0_1 := kr1.cell (i := 0) rfl; have r1_1 := kr1.cell (i := 1) rfl; have r2_1 := kr1.cell (i := 2) rfl; replace kq1 := hid2 kq1; replace kr1 := hid2 kr1; replace BL1 := hid2 BL1; clear b1 al B1)
            | (go_at_call 35; have gate := hB3; clear gate; go_must (refine (uB _).mono ?_); clear hB3; rintro e w3 ⟨rfl, b3⟩; have kq3 := kq1.out.keep b3; have kr3 := kr1.out.keep b3; have BL3 := joinB BL1.out b3; have q0_3 := kq3.cell (i := 0) rfl; have q1_3 := kq3.cell (i := 1) rfl; have q2_3 := kq3.cell (i := 2) rfl; have r0_3 := kr3.cell (i := 0) rfl; have r1_3 := kr3.cell (i := 1) rfl; have r2_3 := kr3.cell (i := 2) rfl; replace kq3 := hid2 kq3; replace kr3 := hid2 kr3; replace BL3 := hid2 BL3; clear b3)
          have hS := And.intro kq3.out.drew kr3.out.drew
          refine rg_start (S := fun w' => Blk w' w.heap.size [.int .i64 k, .int .u64 0, .int .u64 b] 30 ∧ Blk w' w1.heap.size [.int .i64 (n : Int), .int .u8 m0, .int .u8 m1] 52) (by kernel_rfl) hS ?_
          refine rg_load 0 (some 32) (.agg #[.int .i64 (n : Int), .int .u8 m0, .int .u8 m1]) 52 4 (w1.heap.size) (0) (by kernel_rfl) (by kernel_rfl) (by kernel_rfl) (fun w' h => ld_f h.2) (fun _ _ _ h => h) hS ?_
          refine rg_take 1 (some 33) (.pointer (some ⟨w.heap.size, 0, none⟩)) (by kernel_rfl) (fun _ _ => by kernel_rfl) (fun _ _ _ h => h) hS ?_
          refine rg_load 2 (some 34) (.int .i64 k) 3 33 (w.heap.size) (0) (by kernel_rfl) (by kernel_rfl) (by kernel_rfl) (fun w' h => ld_int (h.1.cell (i := 0) rfl)) (fun _ _ _ h => h) hS ?_
          refine rg_take 3 (some 35) (.pointer (some ⟨w.heap.size, 1, none⟩)) (by kernel_rfl) (fun _ _ => by kernel_rfl) (fun _ _ _ h => h) hS ?_
          refine rg_load 4 (some 36) (.int .u64 0) 22 35 (w.heap.size) (1) (by kernel_rfl) (by kernel_rfl) (by kernel_rfl) (fun w' h => ld_u64 (h.1.cell (i := 1) rfl)) (fun _ _ _ h => h) hS ?_
          refine rg_call 5 (some 37) 33 #[.int .i64 k, .int .u64 0] (by kernel_rfl) (by kernel_rfl) (turned_any HA.out.1 HA.out.2) ?_
          rintro e' w4 ⟨rfl, rfl⟩
          refine ⟨.int .u64 (tn k 0), rfl, hS, ?_⟩
          refine rg_call 6 (some 38) 40 #[.agg #[.int .i64 (n : Int), .int .u8 m0, .int .u8 m1], .int .u64 (tn k 0)] (by kernel_rfl) (by kernel_rfl) (begin_any (n := n) (a := tn k 0) (Nat.le_trans HN.out (by decide)) HM0.out HM1.out) ?_
          rintro e' w5 ⟨v5, rfl, O5, b5⟩
          obtain ⟨a5, c5, rfl⟩ := OB.sh O5
          have hS5 := And.intro (hS.1.keep b5) (hS.2.keep b5)
          refine ⟨_, rfl, hS5, ?_⟩
          replace hS := hS5
          refine rg_take 7 (some 5) (.slice a5 (mkb ((n : Int), m0, m1) (tn k 0)).length c5) (by kernel_rfl) (fun _ _ => by kernel_rfl) (fun _ _ _ h => h) hS ?_
          refine rg_done (by kernel_rfl) ?_
          simp only [Act.put, List.setIfInBounds_toArray, List.set_cons_zero, List.set_cons_succ]
          have BL5 := joinB BL3.out (joinB (belowD _) b5)
          have kq5 := hS.1
          have kr5 := hS.2
          have q0_5 := kq5.cell (i := 0) rfl
          have q1_5 := kq5.cell (i := 1) rfl
          have q2_5 := kq5.cell (i := 2) rfl
          have r0_5 := kr5.cell (i := 0) rfl
          have r1_5 := kr5.cell (i := 1) rfl
          have r2_5 := kr5.cell (i := 2) rfl
          replace kq5 := hid2 kq5
          replace kr5 := hid2 kr5
          replace BL5 := hid2 BL5
          have HO5 : Hid (OB w5 (w.heap.size ≤ ·) _ _) := O5.mono (D' := (w.heap.size ≤ ·)) (fun b _ h => Nat.le_trans BL3.out.size h)
          clear hS O5 b5
          have LN : (mkb ((n : Int), m0, m1) (tn k 0)).length ≤ 100000 := Nat.le_trans (mkb_len _ _) (by decide)
          generalize hML : mkb ((n : Int), m0, m1) (tn k 0) = ML at *
          have HML := hid2 hML
          clear hML
          go_wp2_with first
            | (go_at_call 35; refine (uB _).mono ?_; rintro e w6 ⟨rfl, b6⟩; have kq6 := kq5.out.keep b6; have q2_6 := kq6.cell (i := 2) rfl; have BL6 := joinB BL5.out b6; have O6 := HO5.out.keep b6; replace kq6 := hid2 kq6; replace BL6 := hid2 BL6; replace O6 := hid2 O6; clear b6)
            | (go_at_call 27; refine (appendNumber_any (x := b) O6.out BL6.out.size LN).mono ?_; rintro e w7 ⟨v7, rfl, O7, b7⟩; obtain ⟨a7, c7, rfl⟩ := OB.sh O7)
          go_ret2
          exact ⟨_, rfl, by rw [HLV.out]; have h9 := O7; rw [List.length_append] at h9; exact h9, BL6.out.trans b7⟩
        · by_cases h8 : 8 < n
          · have hB3 : True := trivial
            have HEV : Hid (mkE k a b = true) := by show _ = _; rw [HE.out]; simp [hn0, ha, hb]; omega
            rw [HEV.out]
            subst ha
            have nz0 : ¬ ((n : Int) = 0) := by omega
            have gA : ((8 : Int) < n) := by omega
            have uA := fun w => usesA_any (w := w) (n := n) (x := m0) (y := m1)
            rw [decide_eq_true gA] at uA
            have gB : ¬ ((16 : Int) < n) := by omega
            have uB := fun w => usesB_any (w := w) (n := n) (x := m0) (y := m1)
            rw [decide_eq_false gB] at uB
            clear hn hz hn0
            go_enter Try.func18, Try.ntmps18
            go_wp2_with first
              | (go_at_call 28; refine (u1 _).mono ?_; rintro e w1 ⟨rfl, b1⟩; have B1 := joinB (below_alloc w (.cells #[.int .i64 k, .int .u64 0, .int .u64 b] 30)) b1; have al := below_alloc w1 (.cells #[.int .i64 (n : Int), .int .u8 m0, .int .u8 m1] 52); have kq1 := ((blk_new w [.int .i64 k, .int .u64 0, .int .u64 b] 30).keep b1).keep al; have kr1 := blk_new w1 [.int .i64 (n : Int), .int .u8 m0, .int .u8 m1] 52; have BL1 := joinB B1 al; have q0_1 := kq1.cell (i := 0) rfl; have q1_1 := kq1.cell (i := 1) rfl; have q2_1 := kq1.cell (i := 2) rfl; have r0_1 := kr1.cell (i := 0) rfl; have r1_1 := kr1.cell (i := 1) rfl; have r2_1 := kr1.cell (i := 2) rfl; replace kq1 := hid2 kq1; replace kr1 := hid2 kr1; replace BL1 := hid2 BL1; clear b1 al B1)
              | (go_at_call 35; have gate := hB3; clear gate; go_must (refine (uB _).mono ?_); clear hB3; rintro e w3 ⟨rfl, b3⟩; have kq3 := kq1.out.keep b3; have kr3 := kr1.out.keep b3; have BL3 := joinB BL1.out b3; have q0_3 := kq3.cell (i := 0) rfl; have q1_3 := kq3.cell (i := 1) rfl; have q2_3 := kq3.cell (i := 2) rfl; have r0_3 := kr3.cell (i := 0) rfl; have r1_3 := kr3.cell (i := 1) rfl; have r2_3 := kr3.cell (i := 2) rfl; replace kq3 := hid2 kq3; replace kr3 := hid2 kr3; replace BL3 := hid2 BL3; clear b3)
            go_ret2
            exact ⟨_, rfl, ⟨fun _ h => by simp at h, .inl ⟨rfl, rfl⟩⟩, BL3.out⟩
          · have hB3 : True := trivial
            have HEV : Hid (mkE k a b = true) := by show _ = _; rw [HE.out]; simp [hn0, ha, hb]; omega
            rw [HEV.out]
            subst ha
            have nz0 : ¬ ((n : Int) = 0) := by omega
            have gA : ¬ ((8 : Int) < n) := by omega
            have uA := fun w => usesA_any (w := w) (n := n) (x := m0) (y := m1)
            rw [decide_eq_false gA] at uA
            have gB : ¬ ((16 : Int) < n) := by omega
            have uB := fun w => usesB_any (w := w) (n := n) (x := m0) (y := m1)
            rw [decide_eq_false gB] at uB
            clear hn hz hn0
            go_enter Try.func18, Try.ntmps18
            go_wp2_with first
              | (go_at_call 28; refine (u1 _).mono ?_; rintro e w1 ⟨rfl, b1⟩; have B1 := joinB (below_alloc w (.cells #[.int .i64 k, .int .u64 0, .int .u64 b] 30)) b1; have al := below_alloc w1 (.cells #[.int .i64 (n : Int), .int .u8 m0, .int .u8 m1] 52); have kq1 := ((blk_new w [.int .i64 k, .int .u64 0, .int .u64 b] 30).keep b1).keep al; have kr1 := blk_new w1 [.int .i64 (n : Int), .int .u8 m0, .int .u8 m1] 52; have BL1 := joinB B1 al; have q0_1 := kq1.cell (i := 0) rfl; have q1_1 := kq1.cell (i := 1) rfl; have q2_1 := kq1.cell (i := 2) rfl; have r0_1 := kr1.cell (i := 0) rfl; have r1_1 := kr1.cell (i := 1) rfl; have r2_1 := kr1.cell (i := 2) rfl; replace kq1 := hid2 kq1; replace kr1 := hid2 kr1; replace BL1 := hid2 BL1; clear b1 al B1)
              | (go_at_call 35; have gate := hB3; clear gate; go_must (refine (uB _).mono ?_); clear hB3; rintro e w3 ⟨rfl, b3⟩; have kq3 := kq1.out.keep b3; have kr3 := kr1.out.keep b3; have BL3 := joinB BL1.out b3; have q0_3 := kq3.cell (i := 0) rfl; have q1_3 := kq3.cell (i := 1) rfl; have q2_3 := kq3.cell (i := 2) rfl; have r0_3 := kr3.cell (i := 0) rfl; have r1_3 := kr3.cell (i := 1) rfl; have r2_3 := kr3.cell (i := 2) rfl; replace kq3 := hid2 kq3; replace kr3 := hid2 kr3; replace BL3 := hid2 BL3; clear b3)
            go_ret2
            exact ⟨_, rfl, ⟨fun _ h => by simp at h, .inl ⟨rfl, rfl⟩⟩, BL3.out⟩
    · by_cases hb : b = 0
      · by_cases h16 : 16 < n
        · have hA2 : True := trivial
          have HEV : Hid (mkE k a b = false) := by show _ = _; rw [HE.out]; simp [hn0, ha, hb]; omega
          have HLV : Hid (mk k a b = mkb ((n : Int), m0, m1) (tn k a) ++ be 8 b) := by show _ = _; rw [HK.out, if_pos (by omega)]
          rw [HEV.out]
          subst hb
          have nz0 : ¬ ((n : Int) = 0) := by omega
          have gA : ((8 : Int) < n) := by omega
          have uA := fun w => usesA_any (w := w) (n := n) (x := m0) (y := m1)
          rw [decide_eq_true gA] at uA
          have gB : ((16 : Int) < n) := by omega
          have uB := fun w => usesB_any (w := w) (n := n) (x := m0) (y := m1)
          rw [decide_eq_true gB] at uB
          clear hn hz hn0
          go_enter Try.func18, Try.ntmps18
          go_wp2_with first
            | (go_at_call 28; refine (u1 _).mono ?_; rintro e w1 ⟨rfl, b1⟩; have B1 := joinB (below_alloc w (.cells #[.int .i64 k, .int .u64 a, .int .u64 0] 30)) b1; have al := below_alloc w1 (.cells #[.int .i64 (n : Int), .int .u8 m0, .int .u8 m1] 52); have kq1 := ((blk_new w [.int .i64 k, .int .u64 a, .int .u64 0] 30).keep b1).keep al; have kr1 := blk_new w1 [.int .i64 (n : Int), .int .u8 m0, .int .u8 m1] 52; have BL1 := joinB B1 al; have q0_1 := kq1.cell (i := 0) rfl; have q1_1 := kq1.cell (i := 1) rfl; have q2_1 := kq1.cell (i := 2) rfl; have r0_1 := kr1.cell (i := 0) rfl; have r1_1 := kr1.cell (i := 1) rfl; have r2_1 := kr1.cell (i := 2) rfl; replace kq1 := hid2 kq1; replace kr1 := hid2 kr1; replace BL1 := hid2 BL1; clear b1 al B1)
            | (go_at_call 32; have gate := hA2; clear gate; go_must (refine (uA _).mono ?_); clear hA2; rintro e w2 ⟨rfl, b2⟩; have kq2 := kq1.out.keep b2; have kr2 := kr1.out.keep b2; have BL2 := joinB BL1.out b2; have q0_2 := kq2.cell (i := 0) rfl; have q1_2 := kq2.cell (i := 1) rfl; have q2_2 := kq2.cell (i := 2) rfl; have r0_2 := kr2.cell (i := 0) rfl; have r1_2 := kr2.cell (i := 1) rfl; have r2_2 := kr2.cell (i := 2) rfl; replace kq2 := hid2 kq2; replace kr2 := hid2 kr2; replace BL2 := hid2 BL2; clear b2)
          have hS := And.intro kq2.out.drew kr2.out.drew
          refine rg_start (S := fun w' => Blk w' w.heap.size [.int .i64 k, .int .u64 a, .int .u64 0] 30 ∧ Blk w' w1.heap.size [.int .i64 (n : Int), .int .u8 m0, .int .u8 m1] 52) (by kernel_rfl) hS ?_
          refine rg_load 0 (some 32) (.agg #[.int .i64 (n : Int), .int .u8 m0, .int .u8 m1]) 52 4 (w1.heap.size) (0) (by kernel_rfl) (by kernel_rfl) (by kernel_rfl) (fun w' h => ld_f h.2) (fun _ _ _ h => h) hS ?_
          refine rg_take 1 (some 33) (.pointer (some ⟨w.heap.size, 0, none⟩)) (by kernel_rfl) (fun _ _ => by kernel_rfl) (fun _ _ _ h => h) hS ?_
          refine rg_load 2 (some 34) (.int .i64 k) 3 33 (w.heap.size) (0) (by kernel_rfl) (by kernel_rfl) (by kernel_rfl) (fun w' h => ld_int (h.1.cell (i := 0) rfl)) (fun _ _ _ h => h) hS ?_
          refine rg_take 3 (some 35) (.pointer (some ⟨w.heap.size, 1, none⟩)) (by kernel_rfl) (fun _ _ => by kernel_rfl) (fun _ _ _ h => h) hS ?_
          refine rg_load 4 (some 36) (.int .u64 a) 22 35 (w.heap.size) (1) (by kernel_rfl) (by kernel_rfl) (by kernel_rfl) (fun w' h => ld_u64 (h.1.cell (i := 1) rfl)) (fun _ _ _ h => h) hS ?_
          refine rg_call 5 (some 37) 33 #[.int .i64 k, .int .u64 a] (by kernel_rfl) (by kernel_rfl) (turned_any HA.out.1 HA.out.2) ?_
          rintro e' w4 ⟨rfl, rfl⟩
          refine ⟨.int .u64 (tn k a), rfl, hS, ?_⟩
          refine rg_call 6 (some 38) 40 #[.agg #[.int .i64 (n : Int), .int .u8 m0, .int .u8 m1], .int .u64 (tn k a)] (by kernel_rfl) (by kernel_rfl) (begin_any (n := n) (a := tn k a) (Nat.le_trans HN.out (by decide)) HM0.out HM1.out) ?_
          rintro e' w5 ⟨v5, rfl, O5, b5⟩
          obtain ⟨a5, c5, rfl⟩ := OB.sh O5
          have hS5 := And.intro (hS.1.keep b5) (hS.2.keep b5)
          refine ⟨_, rfl, hS5, ?_⟩
          replace hS := hS5
          refine rg_take 7 (some 5) (.slice a5 (mkb ((n : Int), m0, m1) (tn k a)).length c5) (by kernel_rfl) (fun _ _ => by kernel_rfl) (fun _ _ _ h => h) hS ?_
          refine rg_done (by kernel_rfl) ?_
          simp only [Act.put, List.setIfInBounds_toArray, List.set_cons_zero, List.set_cons_succ]
          have BL5 := joinB BL2.out (joinB (belowD _) b5)
          have kq5 := hS.1
          have kr5 := hS.2
          have q0_5 := kq5.cell (i := 0) rfl
          have q1_5 := kq5.cell (i := 1) rfl
          have q2_5 := kq5.cell (i := 2) rfl
          have r0_5 := kr5.cell (i := 0) rfl
          have r1_5 := kr5.cell (i := 1) rfl
          have r2_5 := kr5.cell (i := 2) rfl
          replace kq5 := hid2 kq5
          replace kr5 := hid2 kr5
          replace BL5 := hid2 BL5
          have HO5 : Hid (OB w5 (w.heap.size ≤ ·) _ _) := O5.mono (D' := (w.heap.size ≤ ·)) (fun b _ h => Nat.le_trans BL2.out.size h)
          clear hS O5 b5
          have LN : (mkb ((n : Int), m0, m1) (tn k a)).length ≤ 100000 := Nat.le_trans (mkb_len _ _) (by decide)
          generalize hML : mkb ((n : Int), m0, m1) (tn k a) = ML at *
          have HML := hid2 hML
          clear hML
          go_wp2_with first
            | (go_at_call 35; refine (uB _).mono ?_; rintro e w6 ⟨rfl, b6⟩; have kq6 := kq5.out.keep b6; have q2_6 := kq6.cell (i := 2) rfl; have BL6 := joinB BL5.out b6; have O6 := HO5.out.keep b6; replace kq6 := hid2 kq6; replace BL6 := hid2 BL6; replace O6 := hid2 O6; clear b6)
            | (go_at_call 27; refine (appendNumber_any (x := 0) O6.out BL6.out.size LN).mono ?_; rintro e w7 ⟨v7, rfl, O7, b7⟩; obtain ⟨a7, c7, rfl⟩ := OB.sh O7)
          go_ret2
          exact ⟨_, rfl, by rw [HLV.out]; have h9 := O7; rw [List.length_append] at h9; exact h9, BL6.out.trans b7⟩
        · by_cases h8 : 8 < n
          · have hA2 : True := trivial
            have HEV : Hid (mkE k a b = false) := by show _ = _; rw [HE.out]; simp [hn0, ha, hb]; omega
            have HLV : Hid (mk k a b = mkb ((n : Int), m0, m1) (tn k a)) := by show _ = _; rw [HK.out, if_neg (by omega), List.append_nil]
            rw [HEV.out]
            subst hb
            have nz0 : ¬ ((n : Int) = 0) := by omega
            have gA : ((8 : Int) < n) := by omega
            have uA := fun w => usesA_any (w := w) (n := n) (x := m0) (y := m1)
            rw [decide_eq_true gA] at uA
            have gB : ¬ ((16 : Int) < n) := by omega
            have uB := fun w => usesB_any (w := w) (n := n) (x := m0) (y := m1)
            rw [decide_eq_false gB] at uB
            clear hn hz hn0
            go_enter Try.func18, Try.ntmps18
            go_wp2_with first
              | (go_at_call 28; refine (u1 _).mono ?_; rintro e w1 ⟨rfl, b1⟩; have B1 := joinB (below_alloc w (.cells #[.int .i64 k, .int .u64 a, .int .u64 0] 30)) b1; have al := below_alloc w1 (.cells #[.int .i64 (n : Int), .int .u8 m0, .int .u8 m1] 52); have kq1 := ((blk_new w [.int .i64 k, .int .u64 a, .int .u64 0] 30).keep b1).keep al; have kr1 := blk_new w1 [.int .i64 (n : Int), .int .u8 m0, .int .u8 m1] 52; have BL1 := joinB B1 al; have q0_1 := kq1.cell (i := 0) rfl; have q1_1 := kq1.cell (i := 1) rfl; have q2_1 := kq1.cell (i := 2) rfl; have r0_1 := kr1.cell (i := 0) rfl; have r1_1 := kr1.cell (i := 1) rfl; have r2_1 := kr1.cell (i := 2) rfl; replace kq1 := hid2 kq1; replace kr1 := hid2 kr1; replace BL1 := hid2 BL1; clear b1 al B1)
              | (go_at_call 32; have gate := hA2; clear gate; go_must (refine (uA _).mono ?_); clear hA2; rintro e w2 ⟨rfl, b2⟩; have kq2 := kq1.out.keep b2; have kr2 := kr1.out.keep b2; have BL2 := joinB BL1.out b2; have q0_2 := kq2.cell (i := 0) rfl; have q1_2 := kq2.cell (i := 1) rfl; have q2_2 := kq2.cell (i := 2) rfl; have r0_2 := kr2.cell (i := 0) rfl; have r1_2 := kr2.cell (i := 1) rfl; have r2_2 := kr2.cell (i := 2) rfl; replace kq2 := hid2 kq2; replace kr2 := hid2 kr2; replace BL2 := hid2 BL2; clear b2)
            have hS := And.intro kq2.out.drew kr2.out.drew
            refine rg_start (S := fun w' => Blk w' w.heap.size [.int .i64 k, .int .u64 a, .int .u64 0] 30 ∧ Blk w' w1.heap.size [.int .i64 (n : Int), .int .u8 m0, .int .u8 m1] 52) (by kernel_rfl) hS ?_
            refine rg_load 0 (some 32) (.agg #[.int .i64 (n : Int), .int .u8 m0, .int .u8 m1]) 52 4 (w1.heap.size) (0) (by kernel_rfl) (by kernel_rfl) (by kernel_rfl) (fun w' h => ld_f h.2) (fun _ _ _ h => h) hS ?_
            refine rg_take 1 (some 33) (.pointer (some ⟨w.heap.size, 0, none⟩)) (by kernel_rfl) (fun _ _ => by kernel_rfl) (fun _ _ _ h => h) hS ?_
            refine rg_load 2 (some 34) (.int .i64 k) 3 33 (w.heap.size) (0) (by kernel_rfl) (by kernel_rfl) (by kernel_rfl) (fun w' h => ld_int (h.1.cell (i := 0) rfl)) (fun _ _ _ h => h) hS ?_
            refine rg_take 3 (some 35) (.pointer (some ⟨w.heap.size, 1, none⟩)) (by kernel_rfl) (fun _ _ => by kernel_rfl) (fun _ _ _ h => h) hS ?_
            refine rg_load 4 (some 36) (.int .u64 a) 22 35 (w.heap.size) (1) (by kernel_rfl) (by kernel_rfl) (by kernel_rfl) (fun w' h => ld_u64 (h.1.cell (i := 1) rfl)) (fun _ _ _ h => h) hS ?_
            refine rg_call 5 (some 37) 33 #[.int .i64 k, .int .u64 a] (by kernel_rfl) (by kernel_rfl) (turned_any HA.out.1 HA.out.2) ?_
            rintro e' w4 ⟨rfl, rfl⟩
            refine ⟨.int .u64 (tn k a), rfl, hS, ?_⟩
            refine rg_call 6 (some 38) 40 #[.agg #[.int .i64 (n : Int), .int .u8 m0, .int .u8 m1], .int .u64 (tn k a)] (by kernel_rfl) (by kernel_rfl) (begin_any (n := n) (a := tn k a) (Nat.le_trans HN.out (by decide)) HM0.out HM1.out) ?_
            rintro e' w5 ⟨v5, rfl, O5, b5⟩
            obtain ⟨a5, c5, rfl⟩ := OB.sh O5
            have hS5 := And.intro (hS.1.keep b5) (hS.2.keep b5)
            refine ⟨_, rfl, hS5, ?_⟩
            replace hS := hS5
            refine rg_take 7 (some 5) (.slice a5 (mkb ((n : Int), m0, m1) (tn k a)).length c5) (by kernel_rfl) (fun _ _ => by kernel_rfl) (fun _ _ _ h => h) hS ?_
            refine rg_done (by kernel_rfl) ?_
            simp only [Act.put, List.setIfInBounds_toArray, List.set_cons_zero, List.set_cons_succ]
            have BL5 := joinB BL2.out (joinB (belowD _) b5)
            have kq5 := hS.1
            have kr5 := hS.2
            have q0_5 := kq5.cell (i := 0) rfl
            have q1_5 := kq5.cell (i := 1) rfl
            have q2_5 := kq5.cell (i := 2) rfl
            have r0_5 := kr5.cell (i := 0) rfl
            have r1_5 := kr5.cell (i := 1) rfl
            have r2_5 := kr5.cell (i := 2) rfl
            replace kq5 := hid2 kq5
            replace kr5 := hid2 kr5
            replace BL5 := hid2 BL5
            have HO5 : Hid (OB w5 (w.heap.size ≤ ·) _ _) := O5.mono (D' := (w.heap.size ≤ ·)) (fun b _ h => Nat.le_trans BL2.out.size h)
            clear hS O5 b5
            have LN : (mkb ((n : Int), m0, m1) (tn k a)).length ≤ 100000 := Nat.le_trans (mkb_len _ _) (by decide)
            generalize hML : mkb ((n : Int), m0, m1) (tn k a) = ML at *
            have HML := hid2 hML
            clear hML
            go_wp2_with first
              | (go_at_call 35; refine (uB _).mono ?_; rintro e w6 ⟨rfl, b6⟩; have kq6 := kq5.out.keep b6; have q2_6 := kq6.cell (i := 2) rfl; have BL6 := joinB BL5.out b6; have O6 := HO5.out.keep b6; replace kq6 := hid2 kq6; replace BL6 := hid2 BL6; replace O6 := hid2 O6; clear b6)
            go_ret2
            exact ⟨_, rfl, by rw [HLV.out]; exact O6.out, BL6.out⟩
          · have hA2 : True := trivial
            have HEV : Hid (mkE k a b = true) := by show _ = _; rw [HE.out]; simp [hn0, ha, hb]; omega
            rw [HEV.out]
            subst hb
            have nz0 : ¬ ((n : Int) = 0) := by omega
            have gA : ¬ ((8 : Int) < n) := by omega
            have uA := fun w => usesA_any (w := w) (n := n) (x := m0) (y := m1)
            rw [decide_eq_false gA] at uA
            have gB : ¬ ((16 : Int) < n) := by omega
            have uB := fun w => usesB_any (w := w) (n := n) (x := m0) (y := m1)
            rw [decide_eq_false gB] at uB
            clear hn hz hn0
            go_enter Try.func18, Try.ntmps18
            go_wp2_with first
              | (go_at_call 28; refine (u1 _).mono ?_; rintro e w1 ⟨rfl, b1⟩; have B1 := joinB (below_alloc w (.cells #[.int .i64 k, .int .u64 a, .int .u64 0] 30)) b1; have al := below_alloc w1 (.cells #[.int .i64 (n : Int), .int .u8 m0, .int .u8 m1] 52); have kq1 := ((blk_new w [.int .i64 k, .int .u64 a, .int .u64 0] 30).keep b1).keep al; have kr1 := blk_new w1 [.int .i64 (n : Int), .int .u8 m0, .int .u8 m1] 52; have BL1 := joinB B1 al; have q0_1 := kq1.cell (i := 0) rfl; have q1_1 := kq1.cell (i := 1) rfl; have q2_1 := kq1.cell (i := 2) rfl; have r0_1 := kr1.cell (i := 0) rfl; have r1_1 := kr1.cell (i := 1) rfl; have r2_1 := kr1.cell (i := 2) rfl; replace kq1 := hid2 kq1; replace kr1 := hid2 kr1; replace BL1 := hid2 BL1; clear b1 al B1)
              | (go_at_call 32; have gate := hA2; clear gate; go_must (refine (uA _).mono ?_); clear hA2; rintro e w2 ⟨rfl, b2⟩; have kq2 := kq1.out.keep b2; have kr2 := kr1.out.keep b2; have BL2 := joinB BL1.out b2; have q0_2 := kq2.cell (i := 0) rfl; have q1_2 := kq2.cell (i := 1) rfl; have q2_2 := kq2.cell (i := 2) rfl; have r0_2 := kr2.cell (i := 0) rfl; have r1_2 := kr2.cell (i := 1) rfl; have r2_2 := kr2.cell (i := 2) rfl; replace kq2 := hid2 kq2; replace kr2 := hid2 kr2; replace BL2 := hid2 BL2; clear b2)
            go_ret2
            exact ⟨_, rfl, ⟨fun _ h => by simp at h, .inl ⟨rfl, rfl⟩⟩, BL2.out⟩
      · by_cases h16 : 16 < n
        · have hB3 : True := trivial
          have hA2 : True := trivial
          have HEV : Hid (mkE k a b = false) := by show _ = _; rw [HE.out]; simp [hn0, ha, hb]; omega
          have HLV : Hid (mk k a b = mkb ((n : Int), m0, m1) (tn k a) ++ be 8 b) := by show _ = _; rw [HK.out, if_pos (by omega)]
          rw [HEV.out]
          have nz0 : ¬ ((n : Int) = 0) := by omega
          have gA : ((8 : Int) < n) := by omega
          have uA := fun w => usesA_any (w := w) (n := n) (x := m0) (y := m1)
          rw [decide_eq_true gA] at uA
          have gB : ((16 : Int) < n) := by omega
          have uB := fun w => usesB_any (w := w) (n := n) (x := m0) (y := m1)
          rw [decide_eq_true gB] at uB
          clear hn hz hn0
          go_enter Try.func18, Try.ntmps18
          go_wp2_with first
            | (go_at_call 28; refine (u1 _).mono ?_; rintro e w1 ⟨rfl, b1⟩; have B1 := joinB (below_alloc w (.cells #[.int .i64 k, .int .u64 a, .int .u64 b] 30)) b1; have al := below_alloc w1 (.cells #[.int .i64 (n : Int), .int .u8 m0, .int .u8 m1] 52); have kq1 := ((blk_new w [.int .i64 k, .int .u64 a, .int .u64 b] 30).keep b1).keep al; have kr1 := blk_new w1 [.int .i64 (n : Int), .int .u8 m0, .int .u8 m1] 52; have BL1 := joinB B1 al; have q0_1 := kq1.cell (i := 0) rfl; have q1_1 := kq1.cell (i := 1) rfl; have q2_1 := kq1.cell (i := 2) rfl; have r0_1 := kr1.cell (i := 0) rfl; have r1_1 := kr1.cell (i := 1) rfl; have r2_1 := kr1.cell (i := 2) rfl; replace kq1 := hid2 kq1; replace kr1 := hid2 kr1; replace BL1 := hid2 BL1; clear b1 al B1)
            | (go_at_call 32; have gate := hA2; clear gate; go_must (refine (uA _).mono ?_); clear hA2; rintro e w2 ⟨rfl, b2⟩; have kq2 := kq1.out.keep b2; have kr2 := kr1.out.keep b2; have BL2 := joinB BL1.out b2; have q0_2 := kq2.cell (i := 0) rfl; have q1_2 := kq2.cell (i := 1) rfl; have q2_2 := kq2.cell (i := 2) rfl; have r0_2 := kr2.cell (i := 0) rfl; have r1_2 := kr2.cell (i := 1) rfl; have r2_2 := kr2.cell (i := 2) rfl; replace kq2 := hid2 kq2; replace kr2 := hid2 kr2; replace BL2 := hid2 BL2; clear b2)
            | (go_at_call 35; have gate := hB3; clear gate; go_must (refine (uB _).mono ?_); clear hB3; rintro e w3 ⟨rfl, b3⟩; have kq3 := kq2.out.keep b3; have kr3 := kr2.out.keep b3; have BL3 := joinB BL2.out b3; have q0_3 := kq3.cell (i := 0) rfl; have q1_3 := kq3.cell (i := 1) rfl; have q2_3 := kq3.cell (i := 2) rfl; have r0_3 := kr3.cell (i := 0) rfl; have r1_3 := kr3.cell (i := 1) rfl; have r2_3 := kr3.cell (i := 2) rfl; replace kq3 := hid2 kq3; replace kr3 := hid2 kr3; replace BL3 := hid2 BL3; clear b3)
          have hS := And.intro kq3.out.drew kr3.out.drew
          refine rg_start (S := fun w' => Blk w' w.heap.size [.int .i64 k, .int .u64 a, .int .u64 b] 30 ∧ Blk w' w1.heap.size [.int .i64 (n : Int), .int .u8 m0, .int .u8 m1] 52) (by kernel_rfl) hS ?_
          refine rg_load 0 (some 32) (.agg #[.int .i64 (n : Int), .int .u8 m0, .int .u8 m1]) 52 4 (w1.heap.size) (0) (by kernel_rfl) (by kernel_rfl) (by kernel_rfl) (fun w' h => ld_f h.2) (fun _ _ _ h => h) hS ?_
          refine rg_take 1 (some 33) (.pointer (some ⟨w.heap.size, 0, none⟩)) (by kernel_rfl) (fun _ _ => by kernel_rfl) (fun _ _ _ h => h) hS ?_
          refine rg_load 2 (some 34) (.int .i64 k) 3 33 (w.heap.size) (0) (by kernel_rfl) (by kernel_rfl) (by kernel_rfl) (fun w' h => ld_int (h.1.cell (i := 0) rfl)) (fun _ _ _ h => h) hS ?_
          refine rg_take 3 (some 35) (.pointer (some ⟨w.heap.size, 1, none⟩)) (by kernel_rfl) (fun _ _ => by kernel_rfl) (fun _ _ _ h => h) hS ?_
          refine rg_load 4 (some 36) (.int .u64 a) 22 35 (w.heap.size) (1) (by kernel_rfl) (by kernel_rfl) (by kernel_rfl) (fun w' h => ld_u64 (h.1.cell (i := 1) rfl)) (fun _ _ _ h => h) hS ?_
          refine rg_call 5 (some 37) 33 #[.int .i64 k, .int .u64 a] (by kernel_rfl) (by kernel_rfl) (turned_any HA.out.1 HA.out.2) ?_
          rintro e' w4 ⟨rfl, rfl⟩
          refine ⟨.int .u64 (tn k a), rfl, hS, ?_⟩
          refine rg_call 6 (some 38) 40 #[.agg #[.int .i64 (n : Int), .int .u8 m0, .int .u8 m1], .int .u64 (tn k a)] (by kernel_rfl) (by kernel_rfl) (begin_any (n := n) (a := tn k a) (Nat.le_trans HN.out (by decide)) HM0.out HM1.out) ?_
          rintro e' w5 ⟨v5, rfl, O5, b5⟩
          obtain ⟨a5, c5, rfl⟩ := OB.sh O5
          have hS5 := And.intro (hS.1.keep b5) (hS.2.keep b5)
          refine ⟨_, rfl, hS5, ?_⟩
          replace hS := hS5
          refine rg_take 7 (some 5) (.slice a5 (mkb ((n : Int), m0, m1) (tn k a)).length c5) (by kernel_rfl) (fun _ _ => by kernel_rfl) (fun _ _ _ h => h) hS ?_
          refine rg_done (by kernel_rfl) ?_
          simp only [Act.put, List.setIfInBounds_toArray, List.set_cons_zero, List.set_cons_succ]
          have BL5 := joinB BL3.out (joinB (belowD _) b5)
          have kq5 := hS.1
          have kr5 := hS.2
          have q0_5 := kq5.cell (i := 0) rfl
          have q1_5 := kq5.cell (i := 1) rfl
          have q2_5 := kq5.cell (i := 2) rfl
          have r0_5 := kr5.cell (i := 0) rfl
          have r1_5 := kr5.cell (i := 1) rfl
          have r2_5 := kr5.cell (i := 2) rfl
          replace kq5 := hid2 kq5
          replace kr5 := hid2 kr5
          replace BL5 := hid2 BL5
          have HO5 : Hid (OB w5 (w.heap.size ≤ ·) _ _) := O5.mono (D' := (w.heap.size ≤ ·)) (fun b _ h => Nat.le_trans BL3.out.size h)
          clear hS O5 b5
          have LN : (mkb ((n : Int), m0, m1) (tn k a)).length ≤ 100000 := Nat.le_trans (mkb_len _ _) (by decide)
          generalize hML : mkb ((n : Int), m0, m1) (tn k a) = ML at *
          have HML := hid2 hML
          clear hML
          go_wp2_with first
            | (go_at_call 35; refine (uB _).mono ?_; rintro e w6 ⟨rfl, b6⟩; have kq6 := kq5.out.keep b6; have q2_6 := kq6.cell (i := 2) rfl; have BL6 := joinB BL5.out b6; have O6 := HO5.out.keep b6; replace kq6 := hid2 kq6; replace BL6 := hid2 BL6; replace O6 := hid2 O6; clear b6)
            | (go_at_call 27; refine (appendNumber_any (x := b) O6.out BL6.out.size LN).mono ?_; rintro e w7 ⟨v7, rfl, O7, b7⟩; obtain ⟨a7, c7, rfl⟩ := OB.sh O7)
          go_ret2
          exact ⟨_, rfl, by rw [HLV.out]; have h9 := O7; rw [List.length_append] at h9; exact h9, BL6.out.trans b7⟩
        · by_cases h8 : 8 < n
          · have hB3 : True := trivial
            have hA2 : True := trivial
            have HEV : Hid (mkE k a b = true) := by show _ = _; rw [HE.out]; simp [hn0, ha, hb]; omega
            rw [HEV.out]
            have nz0 : ¬ ((n : Int) = 0) := by omega
            have gA : ((8 : Int) < n) := by omega
            have uA := fun w => usesA_any (w := w) (n := n) (x := m0) (y := m1)
            rw [decide_eq_true gA] at uA
            have gB : ¬ ((16 : Int) < n) := by omega
            have uB := fun w => usesB_any (w := w) (n := n) (x := m0) (y := m1)
            rw [decide_eq_false gB] at uB
            clear hn hz hn0
            go_enter Try.func18, Try.ntmps18
            go_wp2_with first
              | (go_at_call 28; refine (u1 _).mono ?_; rintro e w1 ⟨rfl, b1⟩; have B1 := joinB (below_alloc w (.cells #[.int .i64 k, .int .u64 a, .int .u64 b] 30)) b1; have al := below_alloc w1 (.cells #[.int .i64 (n : Int), .int .u8 m0, .int .u8 m1] 52); have kq1 := ((blk_new w [.int .i64 k, .int .u64 a, .int .u64 b] 30).keep b1).keep al; have kr1 := blk_new w1 [.int .i64 (n : Int), .int .u8 m0, .int .u8 m1] 52; have BL1 := joinB B1 al; have q0_1 := kq1.cell (i := 0) rfl; have q1_1 := kq1.cell (i := 1) rfl; have q2_1 := kq1.cell (i := 2) rfl; have r0_1 := kr1.cell (i := 0) rfl; have r1_1 := kr1.cell (i := 1) rfl; have r2_1 := kr1.cell (i := 2) rfl; replace kq1 := hid2 kq1; replace kr1 := hid2 kr1; replace BL1 := hid2 BL1; clear b1 al B1)
              | (go_at_call 32; have gate := hA2; clear gate; go_must (refine (uA _).mono ?_); clear hA2; rintro e w2 ⟨rfl, b2⟩; have kq2 := kq1.out.keep b2; have kr2 := kr1.out.keep b2; have BL2 := joinB BL1.out b2; have q0_2 := kq2.cell (i := 0) rfl; have q1_2 := kq2.cell (i := 1) rfl; have q2_2 := kq2.cell (i := 2) rfl; have r0_2 := kr2.cell (i := 0) rfl; have r1_2 := kr2.cell (i := 1) rfl; have r2_2 := kr2.cell (i := 2) rfl; replace kq2 := hid2 kq2; replace kr2 := hid2 kr2; replace BL2 := hid2 BL2; clear b2)
              | (go_at_call 35; have gate := hB3; clear gate; go_must (refine (uB _).mono ?_); clear hB3; rintro e w3 ⟨rfl, b3⟩; have kq3 := kq2.out.keep b3; have kr3 := kr2.out.keep b3; have BL3 := joinB BL2.out b3; have q0_3 := kq3.cell (i := 0) rfl; have q1_3 := kq3.cell (i := 1) rfl; have q2_3 := kq3.cell (i := 2) rfl; have r0_3 := kr3.cell (i := 0) rfl; have r1_3 := kr3.cell (i := 1) rfl; have r2_3 := kr3.cell (i := 2) rfl; replace kq3 := hid2 kq3; replace kr3 := hid2 kr3; replace BL3 := hid2 BL3; clear b3)
            go_ret2
            exact ⟨_, rfl, ⟨fun _ h => by simp at h, .inl ⟨rfl, rfl⟩⟩, BL3.out⟩
          · have hA2 : True := trivial
            have HEV : Hid (mkE k a b = true) := by show _ = _; rw [HE.out]; simp [hn0, ha, hb]; omega
            rw [HEV.out]
            have nz0 : ¬ ((n : Int) = 0) := by omega
            have gA : ¬ ((8 : Int) < n) := by omega
            have uA := fun w => usesA_any (w := w) (n := n) (x := m0) (y := m1)
            rw [decide_eq_false gA] at uA
            have gB : ¬ ((16 : Int) < n) := by omega
            have uB := fun w => usesB_any (w := w) (n := n) (x := m0) (y := m1)
            rw [decide_eq_false gB] at uB
            clear hn hz hn0
            go_enter Try.func18, Try.ntmps18
            go_wp2_with first
              | (go_at_call 28; refine (u1 _).mono ?_; rintro e w1 ⟨rfl, b1⟩; have B1 := joinB (below_alloc w (.cells #[.int .i64 k, .int .u64 a, .int .u64 b] 30)) b1; have al := below_alloc w1 (.cells #[.int .i64 (n : Int), .int .u8 m0, .int .u8 m1] 52); have kq1 := ((blk_new w [.int .i64 k, .int .u64 a, .int .u64 b] 30).keep b1).keep al; have kr1 := blk_new w1 [.int .i64 (n : Int), .int .u8 m0, .int .u8 m1] 52; have BL1 := joinB B1 al; have q0_1 := kq1.cell (i := 0) rfl; have q1_1 := kq1.cell (i := 1) rfl; have q2_1 := kq1.cell (i := 2) rfl; have r0_1 := kr1.cell (i := 0) rfl; have r1_1 := kr1.cell (i := 1) rfl; have r2_1 := kr1.cell (i := 2) rfl; replace kq1 := hid2 kq1; replace kr1 := hid2 kr1; replace BL1 := hid2 BL1; clear b1 al B1)
              | (go_at_call 32; have gate := hA2; clear gate; go_must (refine (uA _).mono ?_); clear hA2; rintro e w2 ⟨rfl, b2⟩; have kq2 := kq1.out.keep b2; have kr2 := kr1.out.keep b2; have BL2 := joinB BL1.out b2; have q0_2 := kq2.cell (i := 0) rfl; have q1_2 := kq2.cell (i := 1) rfl; have q2_2 := kq2.cell (i := 2) rfl; have r0_2 := kr2.cell (i := 0) rfl; have r1_2 := kr2.cell (i := 1) rfl; have r2_2 := kr2.cell (i := 2) rfl; replace kq2 := hid2 kq2; replace kr2 := hid2 kr2; replace BL2 := hid2 BL2; clear b2)
            go_ret2
            exact ⟨_, rfl, ⟨fun _ h => by simp at h, .inl ⟨rfl, rfl⟩⟩, BL2.out⟩
end Ky
end Go.Proofs.Ytfljmcfipnmkgaa
