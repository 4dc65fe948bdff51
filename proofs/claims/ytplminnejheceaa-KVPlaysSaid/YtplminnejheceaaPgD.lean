/- slices.Delete of one element, over entries and over pages. -/
import Derived.Test.YtplminnejheceaaPgI
namespace Go.Proofs.Ytplminnejheceaa
namespace Pg
open Go.RowKit Go.Lib

section
variable {w : World} {b n c i : Nat} {xs : List Value}
set_option maxHeartbeats 1000000 in
set_option maxRecDepth 100000 in
theorem delE_mid (R : Rw w 90 2 b n c xs) (hi : i < n) (hne : c ≠ i + 1) (h1 : ∀ v ∈ xs, v.oneCell' = true) :
    Calls Try.prog 84 #[.slice (some ⟨b, 0, none⟩) n c, .int .i64 i, .int .i64 (i + 1)] w fun e w' => e = .returned (.slice (some ⟨b, 0, none⟩) (n - 1) c) ∧ Rw w' 90 2 b (n - 1) c (xs.take (i * 2) ++ xs.drop ((i + 1) * 2)) ∧ Chg (· = b) w w' := by
  have hx := R.len
  have hcm := R.le
  simp only [maxLen] at hcm
  have hcm1 := hcm.1
  have hcm2 := hcm.2
  have hdl : (xs.drop ((i + 1) * 2)).length = (n - (i + 1)) * 2 := by rw [List.length_drop, hx]; omega
  obtain ⟨W1, hr1, R1, C1⟩ := app_room KE 87 (R.drew.front (m := i) (by omega)) ⟨b, (i + 1) * 2, none⟩ (n - (i + 1)) (c - (i + 1)) (xs.drop ((i + 1) * 2)) hdl
    (fun j v hj => by
      rw [List.getElem?_drop] at hj
      rw [Addr.add_lit]
      exact R.drew.cell (by simpa using hj)) (fun v hv => h1 v (List.mem_of_mem_drop hv)) (by omega)
  rw [show i + (n - (i + 1)) = n - 1 by omega] at R1
  obtain ⟨W2, hr2, R2, C2⟩ := clear_row KE 0 R1 (n - (n - 1)) (c - (n - 1)) (by omega) (by omega)
  have C3 : Chg (· = b) w W2 := ((Chg.refl _ w).drew.trans C1 (fun _ _ h => h)).trans C2 (fun _ _ h => h)
  obtain ⟨q, hq⟩ : ∃ q, n = i + 1 + q := ⟨n - (i + 1), by omega⟩
  subst hq
  rw [show i + 1 + q - (i + 1) = q by omega] at hr1
  rw [show i + 1 + q - 1 = i + q by omega] at hr2 R2 ⊢
  have hz2 : ¬ ((i : Int) = (i : Int) + 1) := by omega
  have hin : i ≤ i + 1 + q := by omega
  have hb2 : ¬ (c = i + 1) := hne
  have hb1 : (0 : Int) ≤ (i : Int) + 1 := by omega
  have hic : i ≤ c := by omega
  have htn : ((i : Int) + 1).toNat = i + 1 := by omega
  have hb6 : ¬ (c = i + q) := by omega
  have hb7 : (i : Int) + 1 ≤ ((i + 1 + q : Nat) : Int) := by omega
  have hb8 : i + 1 ≤ i + 1 + q := by omega
  have hb7b : (i : Int) + 1 ≤ (i : Int) + 1 + (q : Int) := by omega
  have hb9 : ((i + 1 + q : Nat) : Int) ≤ (c : Int) := by omega
  clear hcm R R1 C1 C2 hdl h1
  have mixed := mixed
  go_enter Try.func84, Try.ntmps84
  go_wp2
  go_region_law_o (refine step_app rfl (.tmp 22) (.tmp 25) 87 87 rfl _ _ (by simp [Act.eval, Act.put]) (by simp [Act.eval, Act.put]) hr1 ?_)
  go_wp2
  go_ret
  exact ⟨rfl, R2, C3⟩
set_option maxHeartbeats 1000000 in
set_option maxRecDepth 100000 in
theorem delE_last (R : Rw w 90 2 b (i + 1) (i + 1) xs) :
    Calls Try.prog 84 #[.slice (some ⟨b, 0, none⟩) (i + 1) (i + 1), .int .i64 i, .int .i64 (i + 1)] w fun e w' => e = .returned (.slice (some ⟨b, 0, none⟩) i (i + 1)) ∧ Rw w' 90 2 b i (i + 1) (xs.take (i * 2)) ∧ Chg (· = b) w w' := by
  have hcm := R.le
  simp only [maxLen] at hcm
  have hcm2 := hcm.2
  obtain ⟨W1, hr1, R1, C1⟩ := app_room KE 87 (R.drew.front (m := i) (by omega)) ⟨b, 0, none⟩ 0 0 [] (by simp) (fun j v hj => by simp at hj) (fun v hv => by simp at hv) (by omega)
  rw [Nat.add_zero] at R1 hr1
  rw [List.append_nil] at R1
  obtain ⟨W2, hr2, R2, C2⟩ := clear_row KE 0 R1 1 1 (by omega) (by omega)
  have C3 : Chg (· = b) w W2 := ((Chg.refl _ w).drew.trans C1 (fun _ _ h => h)).trans C2 (fun _ _ h => h)
  have hz2 : ¬ ((i : Int) = (i : Int) + 1) := by omega
  have hin : i ≤ i + 1 := by omega
  have hb1 : (0 : Int) ≤ (i : Int) + 1 := by omega
  have htn : ((i : Int) + 1).toNat = i + 1 := by omega
  have e1 : i + 1 - i = 1 := by omega
  have hii : (i : Int) ≤ (i : Int) + 1 := by omega
  clear hcm R R1 C1 C2
  have mixed := mixed
  go_enter Try.func84, Try.ntmps84
  go_wp2
  go_region_law_o (refine step_app rfl (.tmp 22) (.tmp 25) 87 87 rfl _ _ (by simp [Act.eval, Act.put]) (by simp [Act.eval, Act.put]) hr1 ?_)
  go_wp2
  go_ret
  exact ⟨rfl, R2, C3⟩
/-- slices.Delete of one element -/
theorem delE (R : Rw w 90 2 b n c xs) (hi : i < n) (h1 : ∀ v ∈ xs, v.oneCell' = true) :
    Calls Try.prog 84 #[.slice (some ⟨b, 0, none⟩) n c, .int .i64 i, .int .i64 (i + 1)] w fun e w' => e = .returned (.slice (some ⟨b, 0, none⟩) (n - 1) c) ∧ Rw w' 90 2 b (n - 1) c (xs.take (i * 2) ++ xs.drop ((i + 1) * 2)) ∧ Chg (· = b) w w' := by
  by_cases h : c = i + 1
  · have hl := R.le
    obtain rfl : n = i + 1 := by omega
    subst h
    refine (delE_last R).mono ?_
    rintro e w' ⟨rfl, hR, hC⟩
    exact ⟨by simp, hR.to (by rw [List.drop_of_length_le (by rw [R.len]; omega), List.append_nil]), hC⟩
  · exact delE_mid R hi h h1
end

section
variable {w : World} {b n c i : Nat} {xs : List Value}
set_option maxHeartbeats 1000000 in
set_option maxRecDepth 100000 in
theorem delP_mid (R : Rw w 87 1 b n c xs) (hi : i < n) (hne : c ≠ i + 1) (h1 : ∀ v ∈ xs, v.oneCell' = true) :
    Calls Try.prog 85 #[.slice (some ⟨b, 0, none⟩) n c, .int .i64 i, .int .i64 (i + 1)] w fun e w' => e = .returned (.slice (some ⟨b, 0, none⟩) (n - 1) c) ∧ Rw w' 87 1 b (n - 1) c (xs.take (i * 1) ++ xs.drop ((i + 1) * 1)) ∧ Chg (· = b) w w' := by
  have hx := R.len
  have hcm := R.le
  simp only [maxLen] at hcm
  have hcm1 := hcm.1
  have hcm2 := hcm.2
  have hdl : (xs.drop ((i + 1) * 1)).length = (n - (i + 1)) * 1 := by rw [List.length_drop, hx]; omega
  obtain ⟨W1, hr1, R1, C1⟩ := app_room KP 84 (R.drew.front (m := i) (by omega)) ⟨b, i + 1, none⟩ (n - (i + 1)) (c - (i + 1)) (xs.drop ((i + 1) * 1)) hdl
    (fun j v hj => by
      rw [List.getElem?_drop] at hj
      rw [Addr.add_lit]
      exact R.drew.cell (by simpa using hj)) (fun v hv => h1 v (List.mem_of_mem_drop hv)) (by omega)
  rw [show i + (n - (i + 1)) = n - 1 by omega] at R1
  obtain ⟨W2, hr2, R2, C2⟩ := clear_row KP 0 R1 (n - (n - 1)) (c - (n - 1)) (by omega) (by omega)
  have C3 : Chg (· = b) w W2 := ((Chg.refl _ w).drew.trans C1 (fun _ _ h => h)).trans C2 (fun _ _ h => h)
  obtain ⟨q, hq⟩ : ∃ q, n = i + 1 + q := ⟨n - (i + 1), by omega⟩
  subst hq
  rw [show i + 1 + q - (i + 1) = q by omega] at hr1
  rw [show i + 1 + q - 1 = i + q by omega] at hr2 R2 ⊢
  simp only [Nat.mul_one] at hr2
  have hz2 : ¬ ((i : Int) = (i : Int) + 1) := by omega
  have hin : i ≤ i + 1 + q := by omega
  have hb2 : ¬ (c = i + 1) := hne
  have hb1 : (0 : Int) ≤ (i : Int) + 1 := by omega
  have hic : i ≤ c := by omega
  have htn : ((i : Int) + 1).toNat = i + 1 := by omega
  have hb6 : ¬ (c = i + q) := by omega
  have hb7 : (i : Int) + 1 ≤ ((i + 1 + q : Nat) : Int) := by omega
  have hb8 : i + 1 ≤ i + 1 + q := by omega
  have hb7b : (i : Int) + 1 ≤ (i : Int) + 1 + (q : Int) := by omega
  have hb9 : ((i + 1 + q : Nat) : Int) ≤ (c : Int) := by omega
  clear hcm R R1 C1 C2 hdl h1
  have mixed := mixed
  go_enter Try.func85, Try.ntmps85
  go_wp2
  go_region_law_o (refine step_app rfl (.tmp 22) (.tmp 25) 84 84 rfl _ _ (by simp [Act.eval, Act.put]) (by simp [Act.eval, Act.put]) hr1 ?_)
  go_wp2
  go_ret
  exact ⟨rfl, R2, C3⟩
set_option maxHeartbeats 1000000 in
set_option maxRecDepth 100000 in
theorem delP_last (R : Rw w 87 1 b (i + 1) (i + 1) xs) :
    Calls Try.prog 85 #[.slice (some ⟨b, 0, none⟩) (i + 1) (i + 1), .int .i64 i, .int .i64 (i + 1)] w fun e w' => e = .returned (.slice (some ⟨b, 0, none⟩) i (i + 1)) ∧ Rw w' 87 1 b i (i + 1) (xs.take (i * 1)) ∧ Chg (· = b) w w' := by
  have hcm := R.le
  simp only [maxLen] at hcm
  have hcm2 := hcm.2
  obtain ⟨W1, hr1, R1, C1⟩ := app_room KP 84 (R.drew.front (m := i) (by omega)) ⟨b, 0, none⟩ 0 0 [] (by simp) (fun j v hj => by simp at hj) (fun v hv => by simp at hv) (by omega)
  rw [Nat.add_zero] at R1 hr1
  rw [List.append_nil] at R1
  obtain ⟨W2, hr2, R2, C2⟩ := clear_row KP 0 R1 1 1 (by omega) (by omega)
  have C3 : Chg (· = b) w W2 := ((Chg.refl _ w).drew.trans C1 (fun _ _ h => h)).trans C2 (fun _ _ h => h)
  simp only [Nat.mul_one] at hr2
  have hz2 : ¬ ((i : Int) = (i : Int) + 1) := by omega
  have hin : i ≤ i + 1 := by omega
  have hb1 : (0 : Int) ≤ (i : Int) + 1 := by omega
  have htn : ((i : Int) + 1).toNat = i + 1 := by omega
  have e1 : i + 1 - i = 1 := by omega
  have hii : (i : Int) ≤ (i : Int) + 1 := by omega
  clear hcm R R1 C1 C2
  have mixed := mixed
  go_enter Try.func85, Try.ntmps85
  go_wp2
  go_region_law_o (refine step_app rfl (.tmp 22) (.tmp 25) 84 84 rfl _ _ (by simp [Act.eval, Act.put]) (by simp [Act.eval, Act.put]) hr1 ?_)
  go_wp2
  go_ret
  exact ⟨rfl, R2, C3⟩
/-- slices.Delete of one element -/
theorem delP (R : Rw w 87 1 b n c xs) (hi : i < n) (h1 : ∀ v ∈ xs, v.oneCell' = true) :
    Calls Try.prog 85 #[.slice (some ⟨b, 0, none⟩) n c, .int .i64 i, .int .i64 (i + 1)] w fun e w' => e = .returned (.slice (some ⟨b, 0, none⟩) (n - 1) c) ∧ Rw w' 87 1 b (n - 1) c (xs.take (i * 1) ++ xs.drop ((i + 1) * 1)) ∧ Chg (· = b) w w' := by
  by_cases h : c = i + 1
  · have hl := R.le
    obtain rfl : n = i + 1 := by omega
    subst h
    refine (delP_last R).mono ?_
    rintro e w' ⟨rfl, hR, hC⟩
    exact ⟨by simp, hR.to (by rw [List.drop_of_length_le (by rw [R.len]; omega), List.append_nil]), hC⟩
  · exact delP_mid R hi h h1
end
end Pg
end Go.Proofs.Ytplminnejheceaa
