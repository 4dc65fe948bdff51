/- slices.Insert of one element, over entries and over pages. -/
import Derived.Test.YtplminnejheceaaPgR
namespace Go.Proofs.Ytplminnejheceaa
namespace Pg
open Go.RowKit Go.Lib
theorem KE : Kd Try.prog 87 90 2 48 (.agg #[.slice none 0 0, .slice none 0 0]) := ⟨by kernel_rfl, by kernel_rfl, rfl, by simp [Value.cells, Value.oneCell'], by decide⟩
theorem KP : Kd Try.prog 84 87 1 24 (.slice none 0 0) := ⟨by kernel_rfl, by kernel_rfl, rfl, by simp [Value.cells, Value.oneCell'], by decide⟩
theorem under_int : Try.prog.underlying 3 = some (.int .i64) := by kernel_rfl
theorem mixed : Try.prog.follows .mixedOrders = true := by kernel_rfl

section
variable {w : World} {b n c i vb : Nat} {xs : List Value} {e1 e2 : Value}
set_option maxHeartbeats 1000000 in
set_option maxRecDepth 100000 in
theorem insE_end (R : Rw w 90 2 b n c xs) (hV : Blk w vb [e1, e2] 90) (hn : n ≤ 1000000000) (h2 : ∀ v ∈ [e1, e2], v.oneCell' = true) :
    Calls Try.prog 82 #[.slice (some ⟨b, 0, none⟩) n c, .int .i64 n, .slice (some ⟨vb, 0, none⟩) 1 1] w fun e w' => ∃ b' c', e = .returned (.slice (some ⟨b', 0, none⟩) (n + 1) c') ∧ (b' = b ∨ w.heap.size ≤ b') ∧ Rw w' 90 2 b' (n + 1) c' (xs ++ [e1, e2]) ∧ Chg (· = b) w w' := by
  obtain ⟨b', c', W, hr, hb', hR, hC⟩ := app_row KE 87 R ⟨vb, 0, none⟩ 1 1 [e1, e2] rfl (fun j u hj => by rw [Addr.add_lit, Nat.zero_add]; exact hV.cell hj) h2 (by omega) (by omega)
  have hcm := R.le
  simp only [maxLen] at hcm
  have hcm1 := hcm.1
  have hcm2 := hcm.2
  clear hcm R hV h2
  go_enter Try.func82, Try.ntmps82
  go_wp2_with (at_builtin; refine Lib.wpList_append_run _ rfl _ _ _ _ rfl _ _ rfl rfl _ _ hr ?_)
  all_goals (
    go_ret
    exact ⟨b', c', rfl, hb'.imp id (fun e => by omega), hR, hC⟩)
set_option maxHeartbeats 1000000 in
set_option maxRecDepth 100000 in
theorem insE_nil (hV : Blk w vb [e1, e2] 90) :
    Calls Try.prog 82 #[.slice none 0 0, .int .i64 0, .slice (some ⟨vb, 0, none⟩) 1 1] w fun e w' => ∃ c', e = .returned (.slice (some ⟨w.heap.size, 0, none⟩) 1 c') ∧ Rw w' 90 2 w.heap.size 1 c' [e1, e2] ∧ Below w.heap.size w w' := by
  obtain ⟨c', W, hr, hR, hC⟩ := app_nil (w := w) KE 87 ⟨vb, 0, none⟩ 1 1 [e1, e2] rfl (fun j u hj => by rw [Addr.add_lit, Nat.zero_add]; exact hV.cell hj) (by decide) (by decide) (by decide)
  clear hV
  go_enter Try.func82, Try.ntmps82
  go_wp2_with (at_builtin; refine Lib.wpList_append_run _ rfl _ _ _ _ rfl _ _ rfl rfl _ _ hr ?_)
  go_ret
  exact ⟨c', rfl, hR, hC⟩
set_option maxHeartbeats 1000000 in
set_option maxRecDepth 100000 in
theorem insE_shift (R : Rw w 90 2 b n c xs) (hV : Blk w vb [e1, e2] 90) (hvb : vb ≠ b) (hi : i < n) (hroom : n + 1 ≤ c) (h1 : ∀ v ∈ xs, v.oneCell' = true) (h2 : ∀ v ∈ [e1, e2], v.oneCell' = true) :
    Calls Try.prog 82 #[.slice (some ⟨b, 0, none⟩) n c, .int .i64 i, .slice (some ⟨vb, 0, none⟩) 1 1] w fun e w' => e = .returned (.slice (some ⟨b, 0, none⟩) (n + 1) c) ∧ Rw w' 90 2 b (n + 1) c (xs.take (i * 2) ++ [e1, e2] ++ xs.drop (i * 2)) ∧ Chg (· = b) w w' := by
  have hx := R.len
  have hcm := R.le
  simp only [maxLen] at hcm
  have hcm1 := hcm.1
  have hcm2 := hcm.2
  have hcd : ∃ cs, Blk w b cs 90 ∧ cs.length = c * 2 := by
    obtain ⟨sp, h, _, h', _⟩ := R.ex
    exact ⟨_, h, h'⟩
  have hov : ∀ (lb cb : Nat), (callFunc 93 #[.slice (some ⟨vb, 0, none⟩) 1 1, .slice (some ⟨b, (i + 1) * 2, none⟩) lb cb]).run Try.prog w = .ok (.value (.bool false)) w := fun lb cb => by
    obtain ⟨cs, h, hl⟩ := hcd
    rw [run_callFunc_extern Try.func93 (by kernel_rfl) (by kernel_rfl) (by kernel_rfl) (e := Extern.SlicesOverlaps.overlaps #[87, 87] #[4]) (by kernel_rfl),
      Lib.run_overlaps_apart w 87 4 90 KE.und 2 KE.sizeOf ⟨vb, 0, none⟩ ⟨b, (i + 1) * 2, none⟩ 1 1 lb cb hvb 90 90 2 (c * 2) (by simp [World.shape?, hV.blk]) (by simp [World.shape?, h.blk]; simpa using hl) (by omega) (hV.free _) (hV.free _)]
    rfl
  have hdl : (xs.drop (i * 2)).length = (n - i) * 2 := by rw [List.length_drop, hx]; omega
  obtain ⟨s, hs, R'⟩ := R.drew.more (m := 1) hroom
  obtain ⟨W1, hr1, R1, C1⟩ := copy_row (w := w.drew) KE 3 R' ((i + 1) * 2) (n - i) (c - (i + 1)) ⟨b, i * 2, none⟩ (n + 1 - i) (c - i) (xs.drop (i * 2)) (n - i) (by simp only [Nat.min_def]; split <;> omega) hdl
    (fun j v hj => by
      rw [List.getElem?_drop] at hj
      rw [Addr.add_lit]
      exact R.cell (w := w) (by simpa using hj)) (by rw [hdl, R'.len]; omega) (fun v hv => h1 v (List.mem_of_mem_drop hv))
  have hV1 : Blk W1 vb [e1, e2] 90 := hV.drew.chg C1 hvb
  obtain ⟨W2, hr2, R2, C2⟩ := copy_row (w := W1) KE 3 R1 (i * 2) (n + 1 - i) (c - i) ⟨vb, 0, none⟩ 1 1 [e1, e2] 1 (by simp only [Nat.min_def]; split <;> omega) rfl
    (fun j v hj => by rw [Addr.add_lit, Nat.zero_add]; exact hV1.cell hj) (by rw [R1.len]; simp; omega) h2
  have hfin : splice (splice (xs ++ s) ((i + 1) * 2) (xs.drop (i * 2))) (i * 2) [e1, e2] = xs.take (i * 2) ++ [e1, e2] ++ xs.drop (i * 2) := by
    have h := shift_eq xs s [e1, e2] (i * 2) (by omega) (by simp [hs])
    have q0 : s.drop ([e1, e2] : List Value).length = [] := List.drop_of_length_le (by simp [hs])
    rw [q0, List.append_nil] at h
    simpa [Nat.add_mul] using h
  have R3 := R2.to hfin
  have C3 : Chg (· = b) w W2 := ((Chg.refl _ w).drew.trans C1 (fun _ _ h => h)).trans C2 (fun _ _ h => h)
  have hz2 : ¬ ((i : Int) = (n : Int)) := by omega
  have hw1 : IntKind.i64.wrap ((i : Int) + 1) = (i : Int) + 1 := by rw [IntKind.wrap_i64]; omega
  have hb1 : (0 : Int) ≤ (i : Int) + 1 := by omega
  have hin : i ≤ n := by omega
  have htn : ((i : Int) + 1).toNat = i + 1 := by omega
  have hb2 : ¬ (c = i + 1) := by omega
  have hb3 : (i : Int) ≤ (n : Int) + 1 := by omega
  have hb4 : ¬ (c = i) := by omega
  clear hcm R hcd R' R1 R2 C1 C2 hfin hV hV1 hs hdl h1 h2
  have mixed := mixed
  go_enter Try.func82, Try.ntmps82
  go_wp2_with (simp only [hov])
  go_region
  go_wp2
  go_ret
  exact ⟨rfl, R3, C3⟩
set_option maxHeartbeats 1000000 in
set_option maxRecDepth 100000 in
theorem insE_grow (R : Rw w 90 2 b n c xs) (hV : Blk w vb [e1, e2] 90) (hi : i < n) (hroom : c < n + 1) (hn : n ≤ 1000000000) (h1 : ∀ v ∈ xs, v.oneCell' = true) (h2 : ∀ v ∈ [e1, e2], v.oneCell' = true) :
    Calls Try.prog 82 #[.slice (some ⟨b, 0, none⟩) n c, .int .i64 i, .slice (some ⟨vb, 0, none⟩) 1 1] w fun e w' => ∃ c', e = .returned (.slice (some ⟨w.heap.size, 0, none⟩) (n + 1) c') ∧ Rw w' 90 2 w.heap.size (n + 1) c' (xs.take (i * 2) ++ [e1, e2] ++ xs.drop (i * 2)) ∧ Below w.heap.size w w' := by
  have hx := R.len
  have hcm := R.le
  simp only [maxLen] at hcm
  have hcm1 := hcm.1
  have hcm2 := hcm.2
  have hblt := R.lt
  have hvlt := hV.lt
  obtain ⟨c', W1, hr1, R1, B1⟩ := app_zeros KE 3 87 under_int (R.front (m := i) (by omega)) (n + 1 - i) (by omega) (by omega) (by omega) (by omega)
  rw [show ((n + 1 - i : Nat) : Int) = (n : Int) + 1 - (i : Int) by omega, show i + (n + 1 - i) = n + 1 by omega] at hr1
  rw [show i + (n + 1 - i) = n + 1 by omega] at R1
  have hcx := R1.le
  simp only [maxLen] at hcx
  have hcx1 := hcx.1
  have hcx2 := hcx.2
  have hV1 : Blk W1 vb [e1, e2] 90 := hV.keep B1
  obtain ⟨W2, hr2, R2, C2⟩ := copy_row (w := W1) KE 3 R1 (i * 2) (n + 1 - i) (c' - i) ⟨vb, 0, none⟩ 1 1 [e1, e2] 1 (by simp only [Nat.min_def]; split <;> omega) rfl
    (fun j v hj => by rw [Addr.add_lit, Nat.zero_add]; exact hV1.cell hj) (by rw [R1.len]; simp; omega) h2
  have hdl : (xs.drop (i * 2)).length = (n - i) * 2 := by rw [List.length_drop, hx]; omega
  have Rb : Rw W2.drew 90 2 b n c xs := ((R.keep B1).chg C2 (by show ¬ b = w.heap.size; omega)).drew
  obtain ⟨W3, hr3, R3, C3⟩ := copy_row (w := W2.drew) KE 3 R2.drew ((i + 1) * 2) (n - i) (c' - (i + 1)) ⟨b, i * 2, none⟩ (n - i) (c - i) (xs.drop (i * 2)) (n - i) (by simp) hdl
    (fun j v hj => by
      rw [List.getElem?_drop] at hj
      rw [Addr.add_lit]
      exact Rb.cell (by simpa using hj)) (by rw [hdl, R2.len]; omega) (fun v hv => h1 v (List.mem_of_mem_drop hv))
  have hfin : splice (splice (xs.take (i * 2) ++ (Builtin.zeroCells (.agg #[.slice none 0 0, .slice none 0 0] : Value).cells (n + 1 - i)).toList) (i * 2) [e1, e2]) ((i + 1) * 2) (xs.drop (i * 2)) = xs.take (i * 2) ++ [e1, e2] ++ xs.drop (i * 2) := by
    have hA : (xs.take (i * 2)).length = i * 2 := by rw [List.length_take, hx]; omega
    generalize hZ : (Builtin.zeroCells (.agg #[.slice none 0 0, .slice none 0 0] : Value).cells (n + 1 - i)).toList = Z
    have hZl : Z.length = (n + 1 - i) * 2 := by rw [← hZ, Array.length_toList, size_zeroCells]; rfl
    have q1 : xs.take (i * 2) ++ Z = xs.take (i * 2) ++ Z.take 2 ++ Z.drop 2 := by rw [List.append_assoc, List.take_append_drop]
    rw [q1, splice_at _ (Z.take 2) [e1, e2] _ _ hA (by rw [List.length_take]; simp; omega)]
    have q2 := splice_at (xs.take (i * 2) ++ [e1, e2]) (Z.drop 2) (xs.drop (i * 2)) [] ((i + 1) * 2) (by rw [List.length_append, hA]; simp <;> omega) (by rw [List.length_drop, hZl, hdl]; omega)
    simpa using q2
  have R4 := R3.to hfin
  have hBl : Below w.heap.size w W3 := by
    have k2 : Below w.heap.size W1 W2 := C2.below (fun b hb => by omega) (B1.size)
    have k3 : Below w.heap.size W2.drew W3 := C3.below (fun b hb => by omega) (by have := B1.size; have := C2.size; show w.heap.size ≤ W2.heap.size; omega)
    exact (B1.trans k2).trans ((⟨rfl, rfl, rfl, Nat.le_refl _, fun _ _ => rfl⟩ : Below w.heap.size W2 W2.drew).trans k3)
  have hz2 : ¬ ((i : Int) = (n : Int)) := by omega
  have hw1 : IntKind.i64.wrap ((i : Int) + 1) = (i : Int) + 1 := by rw [IntKind.wrap_i64]; omega
  have hb1 : (0 : Int) ≤ (i : Int) + 1 := by omega
  have hin : i ≤ n := by omega
  have htn : ((i : Int) + 1).toNat = i + 1 := by omega
  have hb2 : ¬ (c' = i + 1) := by omega
  have hb2' : i + 1 ≤ n + 1 := by omega
  have hb3 : (i : Int) ≤ (n : Int) + 1 := by omega
  have hb4 : ¬ (c' = i) := by omega
  have hb5 : ¬ (c = i) := by omega
  clear hcm hcx R R1 R2 R3 Rb C2 C3 B1 hfin hV hV1 hdl h1 h2
  have mixed := mixed
  go_enter Try.func82, Try.ntmps82
  go_wp2_with (at_builtin; refine Lib.wpList_append_run _ rfl _ _ _ _ rfl _ _ rfl rfl _ _ hr1 ?_)
  go_region
  go_wp2
  go_ret
  exact ⟨c', rfl, R4, hBl⟩
/-- slices.Insert of one element -/
theorem insE (R : Rw w 90 2 b n c xs) (hV : Blk w vb [e1, e2] 90) (hvb : vb ≠ b) (hi : i ≤ n) (hn : n ≤ 1000000000) (h1 : ∀ v ∈ xs, v.oneCell' = true) (h2 : ∀ v ∈ [e1, e2], v.oneCell' = true) :
    Calls Try.prog 82 #[.slice (some ⟨b, 0, none⟩) n c, .int .i64 i, .slice (some ⟨vb, 0, none⟩) 1 1] w fun e w' => ∃ b' c', e = .returned (.slice (some ⟨b', 0, none⟩) (n + 1) c') ∧ (b' = b ∨ w.heap.size ≤ b') ∧ Rw w' 90 2 b' (n + 1) c' (xs.take (i * 2) ++ [e1, e2] ++ xs.drop (i * 2)) ∧ Chg (· = b) w w' := by
  by_cases h : i = n
  · subst h
    refine (insE_end R hV hn h2).mono ?_
    rintro e w' ⟨b', c', rfl, hb, hR, hC⟩
    exact ⟨b', c', rfl, hb, hR.to (by rw [List.take_of_length_le (by rw [R.len]; omega), List.drop_of_length_le (by rw [R.len]; omega), List.append_nil]), hC⟩
  · by_cases hr : n + 1 ≤ c
    · refine (insE_shift R hV hvb (by omega) hr h1 h2).mono ?_
      rintro e w' ⟨rfl, hR, hC⟩
      exact ⟨b, c, rfl, .inl rfl, hR, hC⟩
    · refine (insE_grow R hV (by omega) (by omega) hn h1 h2).mono ?_
      rintro e w' ⟨c', rfl, hR, hC⟩
      exact ⟨_, c', rfl, .inr (Nat.le_refl _), hR, Chg.of hC⟩
end

section
variable {w : World} {b n c i vb : Nat} {xs : List Value} {e1 : Value}
set_option maxHeartbeats 1000000 in
set_option maxRecDepth 100000 in
theorem insP_end (R : Rw w 87 1 b n c xs) (hV : Blk w vb [e1] 87) (hn : n ≤ 1000000000) (h2 : ∀ v ∈ [e1], v.oneCell' = true) :
    Calls Try.prog 95 #[.slice (some ⟨b, 0, none⟩) n c, .int .i64 n, .slice (some ⟨vb, 0, none⟩) 1 1] w fun e w' => ∃ b' c', e = .returned (.slice (some ⟨b', 0, none⟩) (n + 1) c') ∧ (b' = b ∨ w.heap.size ≤ b') ∧ Rw w' 87 1 b' (n + 1) c' (xs ++ [e1]) ∧ Chg (· = b) w w' := by
  obtain ⟨b', c', W, hr, hb', hR, hC⟩ := app_row KP 84 R ⟨vb, 0, none⟩ 1 1 [e1] rfl (fun j u hj => by rw [Addr.add_lit, Nat.zero_add]; exact hV.cell hj) h2 (by omega) (by omega)
  have hcm := R.le
  simp only [maxLen] at hcm
  have hcm1 := hcm.1
  have hcm2 := hcm.2
  clear hcm R hV h2
  go_enter Try.func95, Try.ntmps95
  go_wp2_with (at_builtin; refine Lib.wpList_append_run _ rfl _ _ _ _ rfl _ _ rfl rfl _ _ hr ?_)
  all_goals (
    go_ret
    exact ⟨b', c', rfl, hb'.imp id (fun e => by omega), hR, hC⟩)
set_option maxHeartbeats 1000000 in
set_option maxRecDepth 100000 in
theorem insP_nil (hV : Blk w vb [e1] 87) :
    Calls Try.prog 95 #[.slice none 0 0, .int .i64 0, .slice (some ⟨vb, 0, none⟩) 1 1] w fun e w' => ∃ c', e = .returned (.slice (some ⟨w.heap.size, 0, none⟩) 1 c') ∧ Rw w' 87 1 w.heap.size 1 c' [e1] ∧ Below w.heap.size w w' := by
  obtain ⟨c', W, hr, hR, hC⟩ := app_nil (w := w) KP 84 ⟨vb, 0, none⟩ 1 1 [e1] rfl (fun j u hj => by rw [Addr.add_lit, Nat.zero_add]; exact hV.cell hj) (by decide) (by decide) (by decide)
  clear hV
  go_enter Try.func95, Try.ntmps95
  go_wp2_with (at_builtin; refine Lib.wpList_append_run _ rfl _ _ _ _ rfl _ _ rfl rfl _ _ hr ?_)
  go_ret
  exact ⟨c', rfl, hR, hC⟩
set_option maxHeartbeats 1000000 in
set_option maxRecDepth 100000 in
theorem insP_shift (R : Rw w 87 1 b n c xs) (hV : Blk w vb [e1] 87) (hvb : vb ≠ b) (hi : i < n) (hroom : n + 1 ≤ c) (h1 : ∀ v ∈ xs, v.oneCell' = true) (h2 : ∀ v ∈ [e1], v.oneCell' = true) :
    Calls Try.prog 95 #[.slice (some ⟨b, 0, none⟩) n c, .int .i64 i, .slice (some ⟨vb, 0, none⟩) 1 1] w fun e w' => e = .returned (.slice (some ⟨b, 0, none⟩) (n + 1) c) ∧ Rw w' 87 1 b (n + 1) c (xs.take (i * 1) ++ [e1] ++ xs.drop (i * 1)) ∧ Chg (· = b) w w' := by
  have hx := R.len
  have hcm := R.le
  simp only [maxLen] at hcm
  have hcm1 := hcm.1
  have hcm2 := hcm.2
  have hcd : ∃ cs, Blk w b cs 87 ∧ cs.length = c * 1 := by
    obtain ⟨sp, h, _, h', _⟩ := R.ex
    exact ⟨_, h, h'⟩
  have hov : ∀ (lb cb : Nat), (callFunc 99 #[.slice (some ⟨vb, 0, none⟩) 1 1, .slice (some ⟨b, i + 1, none⟩) lb cb]).run Try.prog w = .ok (.value (.bool false)) w := fun lb cb => by
    obtain ⟨cs, h, hl⟩ := hcd
    rw [run_callFunc_extern Try.func99 (by kernel_rfl) (by kernel_rfl) (by kernel_rfl) (e := Extern.SlicesOverlaps.overlaps #[84, 84] #[4]) (by kernel_rfl),
      Lib.run_overlaps_apart w 84 4 87 KP.und 1 KP.sizeOf ⟨vb, 0, none⟩ ⟨b, i + 1, none⟩ 1 1 lb cb hvb 87 87 1 (c * 1) (by simp [World.shape?, hV.blk]) (by simp [World.shape?, h.blk]; simpa using hl) (by omega) (hV.free _) (hV.free _)]
    rfl
  have hdl : (xs.drop (i * 1)).length = (n - i) * 1 := by rw [List.length_drop, hx]; omega
  obtain ⟨s, hs, R'⟩ := R.drew.more (m := 1) hroom
  obtain ⟨W1, hr1, R1, C1⟩ := copy_row (w := w.drew) KP 3 R' (i + 1) (n - i) (c - (i + 1)) ⟨b, i, none⟩ (n + 1 - i) (c - i) (xs.drop (i * 1)) (n - i) (by simp only [Nat.min_def]; split <;> omega) hdl
    (fun j v hj => by
      rw [List.getElem?_drop] at hj
      rw [Addr.add_lit]
      exact R.cell (w := w) (by simpa using hj)) (by rw [hdl, R'.len]; omega) (fun v hv => h1 v (List.mem_of_mem_drop hv))
  have hV1 : Blk W1 vb [e1] 87 := hV.drew.chg C1 hvb
  obtain ⟨W2, hr2, R2, C2⟩ := copy_row (w := W1) KP 3 R1 (i) (n + 1 - i) (c - i) ⟨vb, 0, none⟩ 1 1 [e1] 1 (by simp only [Nat.min_def]; split <;> omega) rfl
    (fun j v hj => by rw [Addr.add_lit, Nat.zero_add]; exact hV1.cell hj) (by rw [R1.len]; simp; omega) h2
  have hfin : splice (splice (xs ++ s) (i + 1) (xs.drop (i * 1))) (i) [e1] = xs.take (i * 1) ++ [e1] ++ xs.drop (i * 1) := by
    have h := shift_eq xs s [e1] (i * 1) (by omega) (by simp [hs])
    have q0 : s.drop ([e1] : List Value).length = [] := List.drop_of_length_le (by simp [hs])
    rw [q0, List.append_nil] at h
    simpa [Nat.add_mul] using h
  have R3 := R2.to hfin
  have C3 : Chg (· = b) w W2 := ((Chg.refl _ w).drew.trans C1 (fun _ _ h => h)).trans C2 (fun _ _ h => h)
  have hz2 : ¬ ((i : Int) = (n : Int)) := by omega
  have hw1 : IntKind.i64.wrap ((i : Int) + 1) = (i : Int) + 1 := by rw [IntKind.wrap_i64]; omega
  have hb1 : (0 : Int) ≤ (i : Int) + 1 := by omega
  have hin : i ≤ n := by omega
  have htn : ((i : Int) + 1).toNat = i + 1 := by omega
  have hb2 : ¬ (c = i + 1) := by omega
  have hb3 : (i : Int) ≤ (n : Int) + 1 := by omega
  have hb4 : ¬ (c = i) := by omega
  clear hcm R hcd R' R1 R2 C1 C2 hfin hV hV1 hs hdl h1 h2
  have mixed := mixed
  go_enter Try.func95, Try.ntmps95
  go_wp2_with (simp only [hov])
  go_region
  go_wp2
  go_ret
  exact ⟨rfl, R3, C3⟩
set_option maxHeartbeats 1000000 in
set_option maxRecDepth 100000 in
theorem insP_grow (R : Rw w 87 1 b n c xs) (hV : Blk w vb [e1] 87) (hi : i < n) (hroom : c < n + 1) (hn : n ≤ 1000000000) (h1 : ∀ v ∈ xs, v.oneCell' = true) (h2 : ∀ v ∈ [e1], v.oneCell' = true) :
    Calls Try.prog 95 #[.slice (some ⟨b, 0, none⟩) n c, .int .i64 i, .slice (some ⟨vb, 0, none⟩) 1 1] w fun e w' => ∃ c', e = .returned (.slice (some ⟨w.heap.size, 0, none⟩) (n + 1) c') ∧ Rw w' 87 1 w.heap.size (n + 1) c' (xs.take (i * 1) ++ [e1] ++ xs.drop (i * 1)) ∧ Below w.heap.size w w' := by
  have hx := R.len
  have hcm := R.le
  simp only [maxLen] at hcm
  have hcm1 := hcm.1
  have hcm2 := hcm.2
  have hblt := R.lt
  have hvlt := hV.lt
  obtain ⟨c', W1, hr1, R1, B1⟩ := app_zeros KP 3 84 under_int (R.front (m := i) (by omega)) (n + 1 - i) (by omega) (by omega) (by omega) (by omega)
  rw [show ((n + 1 - i : Nat) : Int) = (n : Int) + 1 - (i : Int) by omega, show i + (n + 1 - i) = n + 1 by omega] at hr1
  rw [show i + (n + 1 - i) = n + 1 by omega] at R1
  have hcx := R1.le
  simp only [maxLen] at hcx
  have hcx1 := hcx.1
  have hcx2 := hcx.2
  have hV1 : Blk W1 vb [e1] 87 := hV.keep B1
  obtain ⟨W2, hr2, R2, C2⟩ := copy_row (w := W1) KP 3 R1 (i) (n + 1 - i) (c' - i) ⟨vb, 0, none⟩ 1 1 [e1] 1 (by simp only [Nat.min_def]; split <;> omega) rfl
    (fun j v hj => by rw [Addr.add_lit, Nat.zero_add]; exact hV1.cell hj) (by rw [R1.len]; simp; omega) h2
  have hdl : (xs.drop (i * 1)).length = (n - i) * 1 := by rw [List.length_drop, hx]; omega
  have Rb : Rw W2.drew 87 1 b n c xs := ((R.keep B1).chg C2 (by show ¬ b = w.heap.size; omega)).drew
  obtain ⟨W3, hr3, R3, C3⟩ := copy_row (w := W2.drew) KP 3 R2.drew (i + 1) (n - i) (c' - (i + 1)) ⟨b, i, none⟩ (n - i) (c - i) (xs.drop (i * 1)) (n - i) (by simp) hdl
    (fun j v hj => by
      rw [List.getElem?_drop] at hj
      rw [Addr.add_lit]
      exact Rb.cell (by simpa using hj)) (by rw [hdl, R2.len]; omega) (fun v hv => h1 v (List.mem_of_mem_drop hv))
  have hfin : splice (splice (xs.take (i * 1) ++ (Builtin.zeroCells (.slice none 0 0 : Value).cells (n + 1 - i)).toList) (i) [e1]) (i + 1) (xs.drop (i * 1)) = xs.take (i * 1) ++ [e1] ++ xs.drop (i * 1) := by
    have hA : (xs.take (i * 1)).length = i := by rw [List.length_take, hx]; omega
    generalize hZ : (Builtin.zeroCells (.slice none 0 0 : Value).cells (n + 1 - i)).toList = Z
    have hZl : Z.length = (n + 1 - i) * 1 := by rw [← hZ, Array.length_toList, size_zeroCells]; rfl
    have q1 : xs.take (i * 1) ++ Z = xs.take (i * 1) ++ Z.take 1 ++ Z.drop 1 := by rw [List.append_assoc, List.take_append_drop]
    rw [q1, splice_at _ (Z.take 1) [e1] _ _ hA (by rw [List.length_take]; simp; omega)]
    have q2 := splice_at (xs.take (i * 1) ++ [e1]) (Z.drop 1) (xs.drop (i * 1)) [] (i + 1) (by rw [List.length_append, hA]; simp <;> omega) (by rw [List.length_drop, hZl, hdl]; omega)
    simpa using q2
  have R4 := R3.to hfin
  have hBl : Below w.heap.size w W3 := by
    have k2 : Below w.heap.size W1 W2 := C2.below (fun b hb => by omega) (B1.size)
    have k3 : Below w.heap.size W2.drew W3 := C3.below (fun b hb => by omega) (by have := B1.size; have := C2.size; show w.heap.size ≤ W2.heap.size; omega)
    exact (B1.trans k2).trans ((⟨rfl, rfl, rfl, Nat.le_refl _, fun _ _ => rfl⟩ : Below w.heap.size W2 W2.drew).trans k3)
  have hz2 : ¬ ((i : Int) = (n : Int)) := by omega
  have hw1 : IntKind.i64.wrap ((i : Int) + 1) = (i : Int) + 1 := by rw [IntKind.wrap_i64]; omega
  have hb1 : (0 : Int) ≤ (i : Int) + 1 := by omega
  have hin : i ≤ n := by omega
  have htn : ((i : Int) + 1).toNat = i + 1 := by omega
  have hb2 : ¬ (c' = i + 1) := by omega
  have hb2' : i + 1 ≤ n + 1 := by omega
  have hb3 : (i : Int) ≤ (n : Int) + 1 := by omega
  have hb4 : ¬ (c' = i) := by omega
  have hb5 : ¬ (c = i) := by omega
  clear hcm hcx R R1 R2 R3 Rb C2 C3 B1 hfin hV hV1 hdl h1 h2
  have mixed := mixed
  go_enter Try.func95, Try.ntmps95
  go_wp2_with (at_builtin; refine Lib.wpList_append_run _ rfl _ _ _ _ rfl _ _ rfl rfl _ _ hr1 ?_)
  go_region
  go_wp2
  go_ret
  exact ⟨c', rfl, R4, hBl⟩
/-- slices.Insert of one element -/
theorem insP (R : Rw w 87 1 b n c xs) (hV : Blk w vb [e1] 87) (hvb : vb ≠ b) (hi : i ≤ n) (hn : n ≤ 1000000000) (h1 : ∀ v ∈ xs, v.oneCell' = true) (h2 : ∀ v ∈ [e1], v.oneCell' = true) :
    Calls Try.prog 95 #[.slice (some ⟨b, 0, none⟩) n c, .int .i64 i, .slice (some ⟨vb, 0, none⟩) 1 1] w fun e w' => ∃ b' c', e = .returned (.slice (some ⟨b', 0, none⟩) (n + 1) c') ∧ (b' = b ∨ w.heap.size ≤ b') ∧ Rw w' 87 1 b' (n + 1) c' (xs.take (i * 1) ++ [e1] ++ xs.drop (i * 1)) ∧ Chg (· = b) w w' := by
  by_cases h : i = n
  · subst h
    refine (insP_end R hV hn h2).mono ?_
    rintro e w' ⟨b', c', rfl, hb, hR, hC⟩
    exact ⟨b', c', rfl, hb, hR.to (by rw [List.take_of_length_le (by rw [R.len]; omega), List.drop_of_length_le (by rw [R.len]; omega), List.append_nil]), hC⟩
  · by_cases hr : n + 1 ≤ c
    · refine (insP_shift R hV hvb (by omega) hr h1 h2).mono ?_
      rintro e w' ⟨rfl, hR, hC⟩
      exact ⟨b, c, rfl, .inl rfl, hR, hC⟩
    · refine (insP_grow R hV (by omega) (by omega) hn h1 h2).mono ?_
      rintro e w' ⟨c', rfl, hR, hC⟩
      exact ⟨_, c', rfl, .inr (Nat.le_refl _), hR, Chg.of hC⟩
end
end Pg
end Go.Proofs.Ytplminnejheceaa
