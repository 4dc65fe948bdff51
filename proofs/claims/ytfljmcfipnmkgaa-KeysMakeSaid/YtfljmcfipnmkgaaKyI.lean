/- keys: what a key begins with. -/
import Derived.Test.YtfljmcfipnmkgaaKyZ
import Derived.Laws.MakeOwn
namespace Go.Proofs.Ytfljmcfipnmkgaa
namespace Ky
open Go.RowKit Go.Lib Pg
attribute [local go_sem] Oper.semAt_some
theorem belowD (w : World) : Below w.heap.size w w.drew := ⟨rfl, rfl, rfl, Nat.le_refl _, fun _ _ => rfl⟩
theorem mk_room {w : World} (n : Nat) (hn : n ≤ 1000) : ∃ w', (Instr.makeSlice 26 (.int .i64 0) (.int .i64 n)).run Try.prog w = .ok (.slice (some ⟨w.heap.size, 0, none⟩) 0 n) w' ∧ OB w' (w.heap.size ≤ ·) (.slice (some ⟨w.heap.size, 0, none⟩) 0 n) [] ∧ Below w.heap.size w w' := by
  obtain ⟨i, hi, hz0, hs, hb0⟩ := info_parts KB.inf
  have hrun := run_make (P := Try.prog) w 26 5 i (.int .u8 0) KB.und hi hz0 .i64 .i64 0 (n : Int) (by omega) (by omega) (by rw [hb0]; omega) (by omega)
  refine ⟨_, by simpa using hrun, ⟨fun _ h => by simp at h, .inr ⟨_, n, rfl, Nat.le_refl _, ⟨(madeCells (Value.int .u8 0).cells (n * i.size)).toList, ?_, rfl, ?_, Nat.zero_le _, by simp only [maxLen]; omega⟩⟩⟩, below_alloc w _⟩
  · exact ⟨by simp only [List.map_nil, List.nil_append, Array.toArray_toList]; exact heap_alloc_new _ _⟩
  · simp [size_madeCells, hs]
theorem run_mk0 {a : Act} {w w' : World} {o : Oper} {x n : Nat} {v : Value} (ho : o.op = .makeSlice 26 (.const (.int .i64 0)) (.tmp x)) (hx : a.eval (.tmp x) = .int .i64 n) (hr : (Instr.makeSlice 26 (.int .i64 0) (.int .i64 n)).run Try.prog w = .ok v w') : (execOp a.eval o).run Try.prog w = .ok (.value v) w' := by
  have h0 : a.eval (.const (.int .i64 0)) = .int .i64 0 := rfl
  simp only [execOp, ho, hx, h0]
  simp [hr, Result.andThen]
theorem run_b1 {a : Act} {w : World} {o : Oper} {x : Nat} {m : Int} (ho : o.op = .buildSlice 26 1 #[(0, .tmp x)]) (hx : a.eval (.tmp x) = .int .u8 m) : (execOp a.eval o).run Try.prog w = .ok (.value (.slice (some ⟨w.heap.size, 0, none⟩) 1 1)) (w.alloc (.cells #[.int .u8 m] 5)) := by
  have hx' : a.tmps[x]?.getD undef = .int .u8 m := by simpa [Act.eval] using hx
  simp only [execOp, ho]
  go_simp
theorem run_app {a : Act} {w w' : World} {o : Oper} {x y : Nat} {T ty : TypeId} {u v r : Value} (hty : o.type = ty) (ho : o.op = .call { callee := .builtin .append, args := #[.tmp x, .tmp y], argTypes := #[T, T] }) (hx : a.eval (.tmp x) = u) (hy : a.eval (.tmp y) = v) (hr : (Builtin.append_ #[T, T] ty #[u, v]).run Try.prog w = .ok r w') :
    (execOp a.eval o).run Try.prog w = .ok (.value r) w' := by
  subst hty
  unfold execOp
  simp only [ho, resolve, invoke, builtin, Sem.run_bind, Sem.run_pure, Result.andThen_ok, List.map_toArray, List.map_cons, List.map_nil, hx, hy, hr]
theorem ld_int {w : World} {g o : Nat} {v : Int} (c : w.cell? ⟨g, o, none⟩ = some (.int .i64 v)) : (loadVar 3 ⟨g, o, none⟩).run Try.prog w = .ok (.int .i64 v) w := by go_simp
theorem ld_u8 {w : World} {g o : Nat} {v : Int} (c : w.cell? ⟨g, o, none⟩ = some (.int .u8 v)) : (loadVar 5 ⟨g, o, none⟩).run Try.prog w = .ok (.int .u8 v) w := by go_simp
theorem ld_u64 {w : World} {g o : Nat} {v : Int} (c : w.cell? ⟨g, o, none⟩ = some (.int .u64 v)) : (loadVar 22 ⟨g, o, none⟩).run Try.prog w = .ok (.int .u64 v) w := by go_simp
/-- what all keys of a form and a number have ahead of the second number -/
def mkb (f : Int × Int × Int) (a : Int) : List Int := [f.2.1] ++ (if 8 < f.1 then be 8 a else []) ++ (if f.2.2 = 0 then [] else [f.2.2])
set_option maxHeartbeats 4000000 in
set_option maxRecDepth 100000 in
theorem begin_any {w : World} {n : Nat} {m0 m1 a : Int} (hn : n ≤ 1000) (h0 : 0 ≤ m0 ∧ m0 < 256) (h1 : 0 ≤ m1 ∧ m1 < 256) :
    Calls Try.prog 40 #[.agg #[.int .i64 n, .int .u8 m0, .int .u8 m1], .int .u64 a] w fun e w' => ∃ v, e = .returned v ∧ OB w' (w.heap.size ≤ ·) v (mkb (n, m0, m1) a) ∧ Below w.heap.size w w' := by
  have H0 := hid2 h0
  have H1 := hid2 h1
  clear h0 h1
  go_enter Try.func40, Try.ntmps40
  go_wp2_with fail
  have kq := blk_new w [.int .i64 n, .int .u8 m0, .int .u8 m1] 52
  have bq := below_alloc w (.cells #[.int .i64 n, .int .u8 m0, .int .u8 m1] 52)
  have Xs : (w.alloc (.cells #[.int .i64 n, .int .u8 m0, .int .u8 m1] 52)).heap.size = w.heap.size + 1 := by simp
  generalize w.alloc (.cells #[.int .i64 n, .int .u8 m0, .int .u8 m1] 52) = X at *
  generalize hq : w.heap.size = q at *
  have hS := kq.drew
  refine rg_start (S := fun w' => Blk w' q [.int .i64 n, .int .u8 m0, .int .u8 m1] 52) (by kernel_rfl) hS ?_
  refine rg_take 0 (some 6) (.pointer (some ⟨q, 0, none⟩)) (by kernel_rfl) (fun _ _ => by kernel_rfl) (fun _ _ _ h => h) hS ?_
  refine rg_load 1 (some 7) (.int .i64 n) 3 6 q 0 (by kernel_rfl) (by kernel_rfl) (by kernel_rfl) (fun w' h => ld_int (h.cell (i := 0) rfl)) (fun _ _ _ h => h) hS ?_
  refine rg_take 3 (some 9) (.pointer (some ⟨q, 1, none⟩)) (by kernel_rfl) (fun _ _ => by kernel_rfl) (fun _ _ _ h => h) hS ?_
  refine rg_take 4 (some 10) (.pointer (some ⟨q, 1, none⟩)) (by kernel_rfl) (fun _ _ => by kernel_rfl) (fun _ _ _ h => h) hS ?_
  refine rg_load 5 (some 11) (.int .u8 m0) 5 10 q 1 (by kernel_rfl) (by kernel_rfl) (by kernel_rfl) (fun w' h => ld_u8 (h.cell (i := 1) rfl)) (fun _ _ _ h => h) hS ?_
  have Xd : X.drew.heap.size = q + 1 := Xs
  obtain ⟨w3, hr3, O3, b3⟩ := mk_room (w := X.drew) n hn
  have b4 := below_alloc w3 (.cells #[.int .u8 m0] 5)
  obtain ⟨v5, w5, hr5, O5, B5⟩ := app_at (B := q + 1) (p := w3.heap.size) (x := m0) ((O3.mono (D' := (q + 1 ≤ ·)) (fun b _ h => by omega)).keep b4) (by have := b3.size; have := b4.size; omega) (by simp) H0.out ((blk_new w3 [.int .u8 m0] 5).cell (i := 0) rfl)
  obtain ⟨a5, c5, rfl⟩ := OB.sh O5
  have k3 := hS.keep b3
  have k4 := k3.keep b4
  have k5 := k4.keepB B5 (by omega)
  have d5 : Below (q + 1) X w5 := ((belowD X).mono (Nat.le_of_eq Xs.symm)).trans (((joinB b3 b4).mono (Nat.le_of_eq Xd.symm)).trans B5)
  have b6 := below_alloc X.drew (.cells #[.int .u8 m0] 5)
  obtain ⟨w7, hr7, O7, b7⟩ := mk_room (w := X.drew.alloc (.cells #[.int .u8 m0] 5)) n hn
  obtain ⟨v8, w8, hr8, O8, B8⟩ := app_at (B := q + 1) (p := X.drew.heap.size) (x := m0) (O7.mono (D' := (q + 1 ≤ ·)) (fun b _ h => by have := b6.size; omega)) (by have := b6.size; have := b7.size; omega) (by simp) H0.out (((blk_new X.drew [.int .u8 m0] 5).keep b7).cell (i := 0) rfl)
  obtain ⟨a8, c8, rfl⟩ := OB.sh O8
  have k6 := hS.keep b6
  have k7 := k6.keep b7
  have k8 := k7.keepB B8 (by omega)
  have d8 : Below (q + 1) X w8 := ((belowD X).mono (Nat.le_of_eq Xs.symm)).trans (((joinB b6 b7).mono (Nat.le_of_eq Xd.symm)).trans B8)
  refine rg_ready [2, 6] (by kernel_rfl) (by simp) (ar_val 2 (some 8) (.slice (some ⟨X.drew.heap.size, 0, none⟩) 0 n) w3 (by kernel_rfl) (run_mk0 (x := 7) (by kernel_rfl) (by kernel_rfl) hr3) k3 ?_ (ar_val 6 (some 12) (.slice (some ⟨X.drew.heap.size, 0, none⟩) 1 1) (X.drew.alloc (.cells #[.int .u8 m0] 5)) (by kernel_rfl) (run_b1 (x := 11) (by kernel_rfl) (by kernel_rfl)) k6 ?_ ar_nil))
  · refine rg_ready [6] (by kernel_rfl) (by simp) (ar_val 6 (some 12) (.slice (some ⟨w3.heap.size, 0, none⟩) 1 1) (w3.alloc (.cells #[.int .u8 m0] 5)) (by kernel_rfl) (run_b1 (x := 11) (by kernel_rfl) (by kernel_rfl)) k4 ?_ ar_nil)
    refine rg_ready [7] (by kernel_rfl) (by simp) (ar_val 7 (some 13) (.slice a5 ([] ++ [m0]).length c5) w5 (by kernel_rfl) (run_app (x := 8) (y := 12) rfl (by kernel_rfl) (by kernel_rfl) (by kernel_rfl) hr5) k5 ?_ ar_nil)
    refine rg_take 8 (some 5) (.slice a5 ([] ++ [m0]).length c5) (by kernel_rfl) (fun _ _ => by kernel_rfl) (fun _ _ _ h => h) k5 ?_
    refine rg_done (by kernel_rfl) ?_
    simp only [Act.put, List.setIfInBounds_toArray, List.set_cons_zero, List.set_cons_succ]
    have HO := hid2 O5
    have HK := hid2 k5
    have HD := hid2 d5
    have hb0 : q + 1 ≤ w5.heap.size := by have := d5.size; omega
    have HQ := hid2 hq
    have HBQ := hid2 bq
    have HXS := hid2 Xs
    clear hS Xd hr3 O3 b3 b4 hr5 O5 B5 k3 k4 k5 d5 b6 hr7 O7 b7 hr8 O8 B8 k6 k7 k8 d8 kq bq hq Xs
    have q0 := HK.out.cell (i := 0) rfl
    have q1 := HK.out.cell (i := 1) rfl
    have q2 := HK.out.cell (i := 2) rfl
    have u1 := usesA_any (w := w5) (n := n) (x := m0) (y := m1)
    by_cases h8 : 8 < n
    · by_cases hm : m1 = 0
      · have HM : Hid (mkb ((n : Int), m0, m1) a = ([] ++ [m0]) ++ be 8 a) := by have h88 : ((8 : Int) < n) := (by omega); show _ = _; simp [mkb, h88, hm]
        have h8 : (8 : Int) < n := by omega
        rw [decide_eq_true h8] at u1
        subst hm
        go_wp2_with first
          | (go_at_call 32; refine u1.mono ?_; rintro e w6 ⟨rfl, b6⟩; have z6 := HK.out.keep b6; have p0 := z6.cell (i := 0) rfl; have p1 := z6.cell (i := 1) rfl; have p2 := z6.cell (i := 2) rfl; have D6 := HD.out.trans (b6.mono hb0); have O6 := HO.out.keep b6; have s6 : q + 1 ≤ w6.heap.size := Nat.le_trans hb0 b6.size)
          | (go_at_call 27; refine (appendNumber_any (x := a) O6 s6 (by simp)).mono ?_; rintro e w9 ⟨v9, rfl, O9, b9⟩; obtain ⟨a9, c9, rfl⟩ := OB.sh O9; have z9 := z6.keepB b9 (Nat.lt_succ_self q); have r1 := z9.cell (i := 1) rfl; have r2 := z9.cell (i := 2) rfl; have D9 := D6.trans b9; have s9 : q + 1 ≤ w9.heap.size := Nat.le_trans s6 b9.size)
        go_ret
        exact ⟨_, rfl, by rw [HM.out]; exact O9.mono (fun b _ h => by have := HQ.out; omega), by have h9 := D9; rw [HQ.out]; exact HBQ.out.trans (h9.mono (Nat.le_succ q))⟩
      · have HM : Hid (mkb ((n : Int), m0, m1) a = ([] ++ [m0]) ++ be 8 a ++ [m1]) := by have h88 : ((8 : Int) < n) := (by omega); show _ = _; simp [mkb, h88, hm]
        have h8 : (8 : Int) < n := by omega
        rw [decide_eq_true h8] at u1
        have hm0 : m1 ≠ 0 := hm
        go_wp2_with first
          | (go_at_call 32; refine u1.mono ?_; rintro e w6 ⟨rfl, b6⟩; have z6 := HK.out.keep b6; have p0 := z6.cell (i := 0) rfl; have p1 := z6.cell (i := 1) rfl; have p2 := z6.cell (i := 2) rfl; have D6 := HD.out.trans (b6.mono hb0); have O6 := HO.out.keep b6; have s6 : q + 1 ≤ w6.heap.size := Nat.le_trans hb0 b6.size)
          | (go_at_call 27; refine (appendNumber_any (x := a) O6 s6 (by simp)).mono ?_; rintro e w9 ⟨v9, rfl, O9, b9⟩; obtain ⟨a9, c9, rfl⟩ := OB.sh O9; have z9 := z6.keepB b9 (Nat.lt_succ_self q); have r1 := z9.cell (i := 1) rfl; have r2 := z9.cell (i := 2) rfl; have D9 := D6.trans b9; have s9 : q + 1 ≤ w9.heap.size := Nat.le_trans s6 b9.size; obtain ⟨v10, w10, hr10, O10, B10⟩ := app_byte (x := m1) O9 s9 (by simp [be_length]) H1.out; obtain ⟨a10, c10, rfl⟩ := OB.sh O10; replace O10 := hid2 O10; replace B10 := hid2 B10)
          | (at_builtin; refine Lib.wpList_append_run _ rfl _ _ _ _ rfl _ _ rfl rfl _ _ hr10 ?_; clear hr10)
        go_ret
        exact ⟨_, rfl, by rw [HM.out]; exact O10.out.mono (fun b _ h => by have := HQ.out; omega), by have h9 := D9.trans B10.out; rw [HQ.out]; exact HBQ.out.trans (h9.mono (Nat.le_succ q))⟩
    · by_cases hm : m1 = 0
      · have HM : Hid (mkb ((n : Int), m0, m1) a = ([] ++ [m0])) := by have h88 : ¬ ((8 : Int) < n) := (by omega); show _ = _; simp [mkb, h88, hm]
        have h8 : ¬ ((8 : Int) < n) := by omega
        rw [decide_eq_false h8] at u1
        subst hm
        go_wp2_with first
          | (go_at_call 32; refine u1.mono ?_; rintro e w6 ⟨rfl, b6⟩; have z6 := HK.out.keep b6; have p0 := z6.cell (i := 0) rfl; have p1 := z6.cell (i := 1) rfl; have p2 := z6.cell (i := 2) rfl; have D6 := HD.out.trans (b6.mono hb0); have O6 := HO.out.keep b6; have s6 : q + 1 ≤ w6.heap.size := Nat.le_trans hb0 b6.size)
        go_ret
        exact ⟨_, rfl, by rw [HM.out]; exact O6.mono (fun b _ h => by have := HQ.out; omega), by have h9 := D6; rw [HQ.out]; exact HBQ.out.trans (h9.mono (Nat.le_succ q))⟩
      · have HM : Hid (mkb ((n : Int), m0, m1) a = ([] ++ [m0]) ++ [m1]) := by have h88 : ¬ ((8 : Int) < n) := (by omega); show _ = _; simp [mkb, h88, hm]
        have h8 : ¬ ((8 : Int) < n) := by omega
        rw [decide_eq_false h8] at u1
        have hm0 : m1 ≠ 0 := hm
        go_wp2_with first
          | (go_at_call 32; refine u1.mono ?_; rintro e w6 ⟨rfl, b6⟩; have z6 := HK.out.keep b6; have p0 := z6.cell (i := 0) rfl; have p1 := z6.cell (i := 1) rfl; have p2 := z6.cell (i := 2) rfl; have D6 := HD.out.trans (b6.mono hb0); have O6 := HO.out.keep b6; have s6 : q + 1 ≤ w6.heap.size := Nat.le_trans hb0 b6.size; obtain ⟨v10, w10, hr10, O10, B10⟩ := app_byte (x := m1) O6 s6 (by simp) H1.out; obtain ⟨a10, c10, rfl⟩ := OB.sh O10; replace O10 := hid2 O10; replace B10 := hid2 B10)
          | (at_builtin; refine Lib.wpList_append_run _ rfl _ _ _ _ rfl _ _ rfl rfl _ _ hr10 ?_; clear hr10)
        go_ret
        exact ⟨_, rfl, by rw [HM.out]; exact O10.out.mono (fun b _ h => by have := HQ.out; omega), by have h9 := D6.trans B10.out; rw [HQ.out]; exact HBQ.out.trans (h9.mono (Nat.le_succ q))⟩
  · refine rg_ready [2] (by kernel_rfl) (by simp) (ar_val 2 (some 8) (.slice (some ⟨(X.drew.alloc (.cells #[.int .u8 m0] 5)).heap.size, 0, none⟩) 0 n) w7 (by kernel_rfl) (run_mk0 (x := 7) (by kernel_rfl) (by kernel_rfl) hr7) k7 ?_ ar_nil)
    refine rg_ready [7] (by kernel_rfl) (by simp) (ar_val 7 (some 13) (.slice a8 ([] ++ [m0]).length c8) w8 (by kernel_rfl) (run_app (x := 8) (y := 12) rfl (by kernel_rfl) (by kernel_rfl) (by kernel_rfl) hr8) k8 ?_ ar_nil)
    refine rg_take 8 (some 5) (.slice a8 ([] ++ [m0]).length c8) (by kernel_rfl) (fun _ _ => by kernel_rfl) (fun _ _ _ h => h) k8 ?_
    refine rg_done (by kernel_rfl) ?_
    simp only [Act.put, List.setIfInBounds_toArray, List.set_cons_zero, List.set_cons_succ]
    have HO := hid2 O8
    have HK := hid2 k8
    have HD := hid2 d8
    have hb0 : q + 1 ≤ w8.heap.size := by have := d8.size; omega
    have HQ := hid2 hq
    have HBQ := hid2 bq
    have HXS := hid2 Xs
    clear hS Xd hr3 O3 b3 b4 hr5 O5 B5 k3 k4 k5 d5 b6 hr7 O7 b7 hr8 O8 B8 k6 k7 k8 d8 kq bq hq Xs
    have q0 := HK.out.cell (i := 0) rfl
    have q1 := HK.out.cell (i := 1) rfl
    have q2 := HK.out.cell (i := 2) rfl
    have u1 := usesA_any (w := w8) (n := n) (x := m0) (y := m1)
    by_cases h8 : 8 < n
    · by_cases hm : m1 = 0
      · have HM : Hid (mkb ((n : Int), m0, m1) a = ([] ++ [m0]) ++ be 8 a) := by have h88 : ((8 : Int) < n) := (by omega); show _ = _; simp [mkb, h88, hm]
        have h8 : (8 : Int) < n := by omega
        rw [decide_eq_true h8] at u1
        subst hm
        go_wp2_with first
          | (go_at_call 32; refine u1.mono ?_; rintro e w6 ⟨rfl, b6⟩; have z6 := HK.out.keep b6; have p0 := z6.cell (i := 0) rfl; have p1 := z6.cell (i := 1) rfl; have p2 := z6.cell (i := 2) rfl; have D6 := HD.out.trans (b6.mono hb0); have O6 := HO.out.keep b6; have s6 : q + 1 ≤ w6.heap.size := Nat.le_trans hb0 b6.size)
          | (go_at_call 27; refine (appendNumber_any (x := a) O6 s6 (by simp)).mono ?_; rintro e w9 ⟨v9, rfl, O9, b9⟩; obtain ⟨a9, c9, rfl⟩ := OB.sh O9; have z9 := z6.keepB b9 (Nat.lt_succ_self q); have r1 := z9.cell (i := 1) rfl; have r2 := z9.cell (i := 2) rfl; have D9 := D6.trans b9; have s9 : q + 1 ≤ w9.heap.size := Nat.le_trans s6 b9.size)
        go_ret
        exact ⟨_, rfl, by rw [HM.out]; exact O9.mono (fun b _ h => by have := HQ.out; omega), by have h9 := D9; rw [HQ.out]; exact HBQ.out.trans (h9.mono (Nat.le_succ q))⟩
      · have HM : Hid (mkb ((n : Int), m0, m1) a = ([] ++ [m0]) ++ be 8 a ++ [m1]) := by have h88 : ((8 : Int) < n) := (by omega); show _ = _; simp [mkb, h88, hm]
        have h8 : (8 : Int) < n := by omega
        rw [decide_eq_true h8] at u1
        have hm0 : m1 ≠ 0 := hm
        go_wp2_with first
          | (go_at_call 32; refine u1.mono ?_; rintro e w6 ⟨rfl, b6⟩; have z6 := HK.out.keep b6; have p0 := z6.cell (i := 0) rfl; have p1 := z6.cell (i := 1) rfl; have p2 := z6.cell (i := 2) rfl; have D6 := HD.out.trans (b6.mono hb0); have O6 := HO.out.keep b6; have s6 : q + 1 ≤ w6.heap.size := Nat.le_trans hb0 b6.size)
          | (go_at_call 27; refine (appendNumber_any (x := a) O6 s6 (by simp)).mono ?_; rintro e w9 ⟨v9, rfl, O9, b9⟩; obtain ⟨a9, c9, rfl⟩ := OB.sh O9; have z9 := z6.keepB b9 (Nat.lt_succ_self q); have r1 := z9.cell (i := 1) rfl; have r2 := z9.cell (i := 2) rfl; have D9 := D6.trans b9; have s9 : q + 1 ≤ w9.heap.size := Nat.le_trans s6 b9.size; obtain ⟨v10, w10, hr10, O10, B10⟩ := app_byte (x := m1) O9 s9 (by simp [be_length]) H1.out; obtain ⟨a10, c10, rfl⟩ := OB.sh O10; replace O10 := hid2 O10; replace B10 := hid2 B10)
          | (at_builtin; refine Lib.wpList_append_run _ rfl _ _ _ _ rfl _ _ rfl rfl _ _ hr10 ?_; clear hr10)
        go_ret
        exact ⟨_, rfl, by rw [HM.out]; exact O10.out.mono (fun b _ h => by have := HQ.out; omega), by have h9 := D9.trans B10.out; rw [HQ.out]; exact HBQ.out.trans (h9.mono (Nat.le_succ q))⟩
    · by_cases hm : m1 = 0
      · have HM : Hid (mkb ((n : Int), m0, m1) a = ([] ++ [m0])) := by have h88 : ¬ ((8 : Int) < n) := (by omega); show _ = _; simp [mkb, h88, hm]
        have h8 : ¬ ((8 : Int) < n) := by omega
        rw [decide_eq_false h8] at u1
        subst hm
        go_wp2_with first
          | (go_at_call 32; refine u1.mono ?_; rintro e w6 ⟨rfl, b6⟩; have z6 := HK.out.keep b6; have p0 := z6.cell (i := 0) rfl; have p1 := z6.cell (i := 1) rfl; have p2 := z6.cell (i := 2) rfl; have D6 := HD.out.trans (b6.mono hb0); have O6 := HO.out.keep b6; have s6 : q + 1 ≤ w6.heap.size := Nat.le_trans hb0 b6.size)
        go_ret
        exact ⟨_, rfl, by rw [HM.out]; exact O6.mono (fun b _ h => by have := HQ.out; omega), by have h9 := D6; rw [HQ.out]; exact HBQ.out.trans (h9.mono (Nat.le_succ q))⟩
      · have HM : Hid (mkb ((n : Int), m0, m1) a = ([] ++ [m0]) ++ [m1]) := by have h88 : ¬ ((8 : Int) < n) := (by omega); show _ = _; simp [mkb, h88, hm]
        have h8 : ¬ ((8 : Int) < n) := by omega
        rw [decide_eq_false h8] at u1
        have hm0 : m1 ≠ 0 := hm
        go_wp2_with first
          | (go_at_call 32; refine u1.mono ?_; rintro e w6 ⟨rfl, b6⟩; have z6 := HK.out.keep b6; have p0 := z6.cell (i := 0) rfl; have p1 := z6.cell (i := 1) rfl; have p2 := z6.cell (i := 2) rfl; have D6 := HD.out.trans (b6.mono hb0); have O6 := HO.out.keep b6; have s6 : q + 1 ≤ w6.heap.size := Nat.le_trans hb0 b6.size; obtain ⟨v10, w10, hr10, O10, B10⟩ := app_byte (x := m1) O6 s6 (by simp) H1.out; obtain ⟨a10, c10, rfl⟩ := OB.sh O10; replace O10 := hid2 O10; replace B10 := hid2 B10)
          | (at_builtin; refine Lib.wpList_append_run _ rfl _ _ _ _ rfl _ _ rfl rfl _ _ hr10 ?_; clear hr10)
        go_ret
        exact ⟨_, rfl, by rw [HM.out]; exact O10.out.mono (fun b _ h => by have := HQ.out; omega), by have h9 := D6.trans B10.out; rw [HQ.out]; exact HBQ.out.trans (h9.mono (Nat.le_succ q))⟩
end Ky
end Go.Proofs.Ytfljmcfipnmkgaa
