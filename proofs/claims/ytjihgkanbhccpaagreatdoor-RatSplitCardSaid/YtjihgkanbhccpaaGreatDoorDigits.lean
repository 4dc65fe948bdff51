/- nat.isText and nat.group: decimal digits. -/
import Derived.Test.YtjihgkanbhccpaaGreatDoorScale
namespace Go.Proofs.YtjihgkanbhccpaaGreatDoor
open Go.RowKit Lim

/-- is it a digit? -/
def isD (c : UInt8) : Bool := decide (48 ≤ c.toNat ∧ c.toNat ≤ 57)
/-- what a list of digits is worth, the highest first -/
def dval (l : List UInt8) : Int := l.foldl (fun x c => 10 * x + ((c.toNat : Int) - 48)) 0
def isT (l : List UInt8) : Bool := !l.isEmpty && (!(l.head? == some 48) || decide (l.length = 1)) && l.all isD

def allD (l : List UInt8) : Bool := l.all isD
theorem dval_snoc (l : List UInt8) (c : UInt8) : dval (l ++ [c]) = 10 * dval l + ((c.toNat : Int) - 48) := by simp [dval, List.foldl_append]
theorem dval_fold (l : List UInt8) : ∀ x : Int, l.foldl (fun x c => 10 * x + ((c.toNat : Int) - 48)) x = x * 10 ^ l.length + dval l := by
  induction l with
  | nil => intro x; simp [dval]
  | cons c l ih =>
    intro x
    have e : dval (c :: l) = ((c.toNat : Int) - 48) * 10 ^ l.length + dval l := by rw [dval, List.foldl_cons, ih]; simp
    rw [List.foldl_cons, ih, e, List.length_cons, Int.pow_succ]; grind
theorem dval_append (a b : List UInt8) : dval (a ++ b) = dval a * 10 ^ b.length + dval b := by
  rw [dval, List.foldl_append, dval_fold]; rfl
theorem dval_bound {l : List UInt8} (h : l.all isD = true) : 0 ≤ dval l ∧ dval l < 10 ^ l.length := by
  induction l with
  | nil => simp [dval]
  | cons c l ih =>
    simp only [List.all_cons, Bool.and_eq_true, isD, decide_eq_true_eq] at h
    have := ih h.2
    have e : dval (c :: l) = ((c.toNat : Int) - 48) * 10 ^ l.length + dval l := by rw [show c :: l = [c] ++ l from rfl, dval_append]; simp [dval]
    have hp : (0 : Int) < 10 ^ l.length := Int.pow_pos (by decide)
    have h1 : 0 ≤ ((c.toNat : Int) - 48) * 10 ^ l.length := Int.mul_nonneg (by omega) (Int.le_of_lt hp)
    have h2 : ((c.toNat : Int) - 48) * 10 ^ l.length ≤ 9 * 10 ^ l.length := Int.mul_le_mul_of_nonneg_right (by omega) (Int.le_of_lt hp)
    rw [e, List.length_cons, Int.pow_succ]
    omega
theorem pow10_le {a b : Nat} (h : a ≤ b) : (10 : Int) ^ a ≤ 10 ^ b := by
  have : (10 : Nat) ^ a ≤ 10 ^ b := Nat.pow_le_pow_right (by decide) h
  have e1 : ((10 ^ a : Nat) : Int) = (10 : Int) ^ a := by rw [Int.natCast_pow]; rfl
  have e2 : ((10 ^ b : Nat) : Int) = (10 : Int) ^ b := by rw [Int.natCast_pow]; rfl
  omega
theorem take_snoc (s : ByteArray) (k : Nat) (h : k < s.size) : s.data.toList.take (k + 1) = s.data.toList.take k ++ [s[k]] := by
  rw [List.take_succ_eq_append_getElem (by simpa using h)]; rfl
theorem all_take_succ (s : ByteArray) (k : Nat) (h : k < s.size) : (s.data.toList.take (k + 1)).all isD = ((s.data.toList.take k).all isD && isD s[k]) := by
  rw [take_snoc s k h, List.all_append]; simp
theorem len_data (s : ByteArray) : s.data.toList.length = s.size := by simp

set_option maxHeartbeats 1000000 in
set_option maxRecDepth 100000 in
theorem group_any (s : ByteArray) (w : World) (hs : s.size ≤ 19) (hd : s.data.toList.all isD = true) :
    Calls Tryz.prog 150 #[.string s] w fun e w' => e = .returned (.int .u64 (dval s.data.toList)) ∧ w' = w := by
  have hall : ∀ k, (s.data.toList.take k).all isD = true := fun k => by
    rw [List.all_eq_true] at hd ⊢
    exact fun x hx => hd x (List.mem_of_mem_take hx)
  have HA : Hid (∀ k, (s.data.toList.take k).all isD = true) := hall
  clear hall hd
  go_enter Tryz.func150, Tryz.ntmps150
  go_wp2
  go_loop [3, 7] (fun tx ti => ∃ k : Nat, k ≤ s.size ∧ ti = .int .i64 k ∧ tx = .int .u64 (dval (s.data.toList.take k))) (fun _ ti => s.size - (intOf ti).toNat)
  case atStart => exact ⟨0, Nat.zero_le _, rfl, rfl⟩
  case round =>
    obtain ⟨k, hk, rfl, rfl⟩ := hrel
    by_cases hlt : k < s.size
    · have h1 := dval_bound (HA.out k)
      have h2 := HA.out (k + 1)
      rw [all_take_succ s k hlt] at h2
      have HS : Hid (dval (s.data.toList.take (k + 1)) = 10 * dval (s.data.toList.take k) + ((s[k].toNat : Int) - 48)) := by show _ = _; rw [take_snoc s k hlt, dval_snoc]
      have h3 : (48 : Int) ≤ s[k].toNat ∧ (s[k].toNat : Int) ≤ 57 := by
        simp only [isD, Bool.and_eq_true, decide_eq_true_eq] at h2; omega
      have h4 : dval (s.data.toList.take k) < 1000000000000000000 := by
        have := pow10_le (show (s.data.toList.take k).length ≤ 18 by simp; omega)
        have e : (10 : Int) ^ 18 = 1000000000000000000 := by decide
        omega
      have h5 := h1.1
      obtain ⟨h6, h7⟩ := h3
      clear h1 h2
      generalize dval (s.data.toList.take k) = D at *
      go_wp2
      go_round
      case rel => exact ⟨k + 1, by omega, by go_num, by rw [HS.out]⟩
      case measure => simp [intOf]; omega
    · go_wp2
      go_ret
      exact ⟨ret1 (by rw [List.take_of_length_le (by simp; omega)]), rfl⟩

theorem toList_data (s : ByteArray) : s.toList = s.data.toList := ByteArray.toList_eq s
theorem retb {a b : Bool} (h : a = b) : Ending.returned (.bool a) = .returned (.bool b) := by rw [h]
/-- what a text must be, byte by byte -/
theorem isT_iff (s : ByteArray) (h : 0 < s.size) : isT s.data.toList = ((!decide (s[0].toNat = 48) || decide (s.size = 1)) && s.data.toList.all isD) := by
  have e : s.data.toList.head? = some s[0] := by rw [List.head?_eq_getElem?, List.getElem?_eq_getElem (by simpa using h)]; rfl
  have e1 : s.data.toList.isEmpty = false := by
    rw [List.isEmpty_eq_false_iff]; intro e2; have := len_data s; rw [e2] at this; simp at this; omega
  have e2 : (some s[0] == some (48 : UInt8)) = decide (s[0].toNat = 48) := by
    rw [Bool.eq_iff_iff]; simp; exact ⟨fun h => by rw [h]; rfl, fun h => UInt8.toNat_inj.1 h⟩
  simp only [isT, e, e1, e2, len_data, Bool.not_false, Bool.true_and]

set_option maxHeartbeats 1000000 in
set_option maxRecDepth 100000 in
theorem isText_loop (s : ByteArray) (w : World) (h0 : 0 < s.size) (hs : s.size ≤ 1099511627776) (hz : ¬ (s[0].toNat = 48 ∧ 1 < s.size)) :
    Calls Tryz.prog 147 #[.string s] w fun e w' => e = .returned (.bool (allD s.data.toList)) ∧ w' = w := by
  have hemp : s.toList.isEmpty = false := by
    rw [List.isEmpty_eq_false_iff]; intro e2; have := len_data s; rw [← toList_data, e2] at this; simp at this; omega
  have hcase : (((s[0].toNat : Int) == 48) = false) ∨ (((s[0].toNat : Int) == 48) = true ∧ s.size = 1) := by
    by_cases c : s[0].toNat = 48
    · right; exact ⟨by rw [beq_iff_eq]; omega, by omega⟩
    · left; rw [beq_eq_false_iff_ne]; omega
  have hwhole : s.data.toList.take s.size = s.data.toList := List.take_of_length_le (by simp)
  have HW := (show Hid _ from hwhole)
  clear hwhole
  have FAIL : Hid (∀ k, (h : k < s.size) → isD s[k] = false → s.data.toList.all isD = false) := by
    intro k h hd
    rw [Bool.eq_false_iff]
    intro hall
    rw [List.all_eq_true] at hall
    have := hall s[k] (by rw [show s[k] = s.data.toList[k]'(by simpa using h) from rfl]; exact List.getElem_mem _)
    rw [hd] at this; exact absurd this (by decide)
  rcases hcase with hc | ⟨hc, hc1⟩
  · go_enter Tryz.func147, Tryz.ntmps147
    go_wp2
    go_loop [18] (fun ti => ∃ k : Nat, k ≤ s.size ∧ ti = .int .i64 k ∧ Hid ((s.data.toList.take k).all isD = true)) (fun ti => s.size - (intOf ti).toNat)
    case atStart => exact ⟨0, Nat.zero_le _, rfl, rfl⟩
    case round =>
      obtain ⟨k, hk, rfl, hall⟩ := hrel
      by_cases hlt : k < s.size
      · by_cases d1 : (s[k].toNat : Int) < 48
        · have HF : Hid (s.data.toList.all isD = false) := FAIL.out k hlt (by simp [isD]; omega)
          go_wp2
          go_ret
          exact ⟨retb HF.out.symm, rfl⟩
        · by_cases d2 : (57 : Int) < s[k].toNat
          · have HF : Hid (s.data.toList.all isD = false) := FAIL.out k hlt (by simp [isD]; omega)
            go_wp2
            go_ret
            exact ⟨retb HF.out.symm, rfl⟩
          · have HN : Hid ((s.data.toList.take (k + 1)).all isD = true) := by
              show _ = _
              rw [all_take_succ s k hlt, hall.out, Bool.true_and]
              simp [isD]; omega
            go_wp2
            go_round
            case rel => exact ⟨k + 1, by omega, by go_num, HN⟩
            case measure => simp [intOf]; omega
      · have hkn : k = s.size := by omega
        have HA : Hid (s.data.toList.all isD = true) := by rw [← HW.out, ← hkn]; exact hall
        clear hkn
        go_wp2
        go_ret
        exact ⟨retb HA.out.symm, rfl⟩
  · have hle : s.size ≤ 1 := by omega
    clear hc1
    have hnb : decide (1 < (s.size : Int)) = false := by simp; omega
    go_enter Tryz.func147, Tryz.ntmps147
    go_wp2
    go_loop [18] (fun ti => ∃ k : Nat, k ≤ s.size ∧ ti = .int .i64 k ∧ Hid ((s.data.toList.take k).all isD = true)) (fun ti => s.size - (intOf ti).toNat)
    case atStart => exact ⟨0, Nat.zero_le _, rfl, rfl⟩
    case round =>
      obtain ⟨k, hk, rfl, hall⟩ := hrel
      by_cases hlt : k < s.size
      · by_cases d1 : (s[k].toNat : Int) < 48
        · have HF : Hid (s.data.toList.all isD = false) := FAIL.out k hlt (by simp [isD]; omega)
          go_wp2
          go_ret
          exact ⟨retb HF.out.symm, rfl⟩
        · by_cases d2 : (57 : Int) < s[k].toNat
          · have HF : Hid (s.data.toList.all isD = false) := FAIL.out k hlt (by simp [isD]; omega)
            go_wp2
            go_ret
            exact ⟨retb HF.out.symm, rfl⟩
          · have HN : Hid ((s.data.toList.take (k + 1)).all isD = true) := by
              show _ = _
              rw [all_take_succ s k hlt, hall.out, Bool.true_and]
              simp [isD]; omega
            go_wp2
            go_round
            case rel => exact ⟨k + 1, by omega, by go_num, HN⟩
            case measure => simp [intOf]; omega
      · have hkn : k = s.size := by omega
        have HA : Hid (s.data.toList.all isD = true) := by rw [← HW.out, ← hkn]; exact hall
        clear hkn
        go_wp2
        go_ret
        exact ⟨retb HA.out.symm, rfl⟩

set_option maxHeartbeats 1000000 in
set_option maxRecDepth 100000 in
theorem isText_any (s : ByteArray) (w : World) (hs : s.size ≤ 1099511627776) :
    Calls Tryz.prog 147 #[.string s] w fun e w' => e = .returned (.bool (isT s.data.toList)) ∧ w' = w := by
  by_cases h0 : 0 < s.size
  · by_cases hz : s[0].toNat = 48 ∧ 1 < s.size
    · have hf : isT s.data.toList = false := by
        rw [isT_iff s h0]; simp [hz.1]; omega
      have hemp : s.toList.isEmpty = false := by
        rw [List.isEmpty_eq_false_iff]; intro e2; have := len_data s; rw [← toList_data, e2] at this; simp at this; omega
      have hc : ((s[0].toNat : Int) == 48) = true := by rw [beq_iff_eq]; omega
      have h1 : (1 : Int) < s.size := by omega
      clear hz
      generalize isT s.data.toList = T at *
      subst hf
      go_enter Tryz.func147, Tryz.ntmps147
      go_wp2
      go_ret
      exact ⟨rfl, rfl⟩
    · refine (isText_loop s w h0 hs hz).mono ?_
      rintro e w' ⟨rfl, rfl⟩
      refine ⟨retb ?_, rfl⟩
      rw [isT_iff s h0]
      have : (!decide (s[0].toNat = 48) || decide (s.size = 1)) = true := by
        by_cases c : s[0].toNat = 48
        · simp [c]; omega
        · simp [c]
      rw [this, Bool.true_and]; rfl
  · have e : s.data.toList = [] := List.eq_nil_of_length_eq_zero (by rw [len_data]; omega)
    have hemp : s.toList.isEmpty = true := by rw [toList_data, e]; rfl
    have hf : isT s.data.toList = false := by rw [e]; rfl
    generalize isT s.data.toList = T at *
    subst hf
    clear e
    go_enter Tryz.func147, Tryz.ntmps147
    go_wp2
    go_ret
    exact ⟨rfl, rfl⟩
end Go.Proofs.YtjihgkanbhccpaaGreatDoor
