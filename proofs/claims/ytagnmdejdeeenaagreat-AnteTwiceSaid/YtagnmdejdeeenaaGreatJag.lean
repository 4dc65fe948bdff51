/- Several texts, joined: KyO, KyP, KyQ, KyR, KyS, KyU, KyV, KyW. -/
import Derived.Test.YtagnmdejdeeenaaGreatJaf
import Derived.Shelf.Abstract
import Derived.Shelf.RegionOpen
import Derived.OwnWalkIn
import Derived.TacticsInMore
import Derived.LoopNIn
import Derived.LoopIn
namespace Go.Proofs.YtagnmdejdeeenaaGreat
namespace Ky
open Go.RowKit Go.Lib Pg
attribute [local go_sem] Oper.semAt_some
end Ky
end Go.Proofs.YtagnmdejdeeenaaGreat

namespace Go.Proofs.YtagnmdejdeeenaaGreat
namespace Ky
open Go.RowKit Go.Lib Pg
attribute [local go_sem] Oper.semAt_some
end Ky
end Go.Proofs.YtagnmdejdeeenaaGreat

namespace Go.Proofs.YtagnmdejdeeenaaGreat
namespace Ky
open Go.RowKit Go.Lib Pg
attribute [local go_sem] Oper.semAt_some
end Ky
end Go.Proofs.YtagnmdejdeeenaaGreat

namespace Go.Proofs.YtagnmdejdeeenaaGreat
namespace Ky
open Go.RowKit Go.Lib Pg
/-- a number's last byte -/
theorem be_snoc : ∀ (n : Nat) (a : Int), be (n + 1) a = be n (a / 256) ++ [a % 256]
  | 0, a => by simp [be]
  | n + 1, a => by
    rw [be, be_snoc n a, be, List.cons_append]
    congr 2
    rw [Int.ediv_ediv_of_nonneg (by decide), Int.pow_succ, Int.mul_comm]
theorem pow_up (n : Nat) : (256 : Int) ^ (n + 1) = 256 ^ n * 256 := Int.pow_succ 256 n
theorem bv_be : ∀ (n : Nat) {a : Int}, 0 ≤ a → a < 256 ^ n → bv (be n a) = a
  | 0, a, h1, h2 => by simp at h2; simp [be, bv]; omega
  | n + 1, a, h1, h2 => by
    rw [pow_up] at h2
    rw [be_snoc, bv_snoc, bv_be n (by omega) (by omega)]
    omega
end Ky
end Go.Proofs.YtagnmdejdeeenaaGreat

namespace Go.Proofs.YtagnmdejdeeenaaGreat
namespace Ky
open Go.RowKit Go.Lib Pg
attribute [local go_sem] Oper.semAt_some eq50
theorem frm_none {k : Int} (h : k ≠ 1 ∧ k ≠ 2 ∧ k ≠ 3 ∧ k ≠ 4 ∧ k ≠ 5 ∧ k ≠ 6 ∧ k ≠ 7 ∧ k ≠ 8 ∧ k ≠ 9 ∧ k ≠ 10 ∧ k ≠ 11 ∧ k ≠ 12 ∧ k ≠ 13 ∧ k ≠ 14 ∧ k ≠ 15 ∧ k ≠ 16 ∧ k ≠ 17) : frm k = (0, 0, 0) := by
  by_cases h0 : 0 ≤ k ∧ k < 18
  · have : k = 0 := by omega
    subst this
    rfl
  · exact if_neg h0
set_option maxHeartbeats 8000000 in
set_option maxRecDepth 100000 in
theorem rform_any {w : World} {k : Int} : Calls Tryz.prog 90 #[.int .i64 k] w fun e w' => e = .returned (.tuple #[.int .u8 (frm k).2.1, .int .i64 ((frm k).1 / 8), .int .u8 (frm k).2.2]) ∧ w' = w := by
  rcases (by omega : k = 1 ∨ k = 2 ∨ k = 3 ∨ k = 4 ∨ k = 5 ∨ k = 6 ∨ k = 7 ∨ k = 8 ∨ k = 9 ∨ k = 10 ∨ k = 11 ∨ k = 12 ∨ k = 13 ∨ k = 14 ∨ k = 15 ∨ k = 16 ∨ k = 17 ∨ (k ≠ 1 ∧ k ≠ 2 ∧ k ≠ 3 ∧ k ≠ 4 ∧ k ≠ 5 ∧ k ≠ 6 ∧ k ≠ 7 ∧ k ≠ 8 ∧ k ≠ 9 ∧ k ≠ 10 ∧ k ≠ 11 ∧ k ≠ 12 ∧ k ≠ 13 ∧ k ≠ 14 ∧ k ≠ 15 ∧ k ≠ 16 ∧ k ≠ 17)) with rfl | rfl | rfl | rfl | rfl | rfl | rfl | rfl | rfl | rfl | rfl | rfl | rfl | rfl | rfl | rfl | rfl | h
  · go_enter Tryz.func90, Tryz.ntmps90
    go_wp2
    go_ret3
    exact ⟨rfl, rfl⟩
  · go_enter Tryz.func90, Tryz.ntmps90
    go_wp2
    go_ret3
    exact ⟨rfl, rfl⟩
  · go_enter Tryz.func90, Tryz.ntmps90
    go_wp2
    go_ret3
    exact ⟨rfl, rfl⟩
  · go_enter Tryz.func90, Tryz.ntmps90
    go_wp2
    go_ret3
    exact ⟨rfl, rfl⟩
  · go_enter Tryz.func90, Tryz.ntmps90
    go_wp2
    go_ret3
    exact ⟨rfl, rfl⟩
  · go_enter Tryz.func90, Tryz.ntmps90
    go_wp2
    go_ret3
    exact ⟨rfl, rfl⟩
  · go_enter Tryz.func90, Tryz.ntmps90
    go_wp2
    go_ret3
    exact ⟨rfl, rfl⟩
  · go_enter Tryz.func90, Tryz.ntmps90
    go_wp2
    go_ret3
    exact ⟨rfl, rfl⟩
  · go_enter Tryz.func90, Tryz.ntmps90
    go_wp2
    go_ret3
    exact ⟨rfl, rfl⟩
  · go_enter Tryz.func90, Tryz.ntmps90
    go_wp2
    go_ret3
    exact ⟨rfl, rfl⟩
  · go_enter Tryz.func90, Tryz.ntmps90
    go_wp2
    go_ret3
    exact ⟨rfl, rfl⟩
  · go_enter Tryz.func90, Tryz.ntmps90
    go_wp2
    go_ret3
    exact ⟨rfl, rfl⟩
  · go_enter Tryz.func90, Tryz.ntmps90
    go_wp2
    go_ret3
    exact ⟨rfl, rfl⟩
  · go_enter Tryz.func90, Tryz.ntmps90
    go_wp2
    go_ret3
    exact ⟨rfl, rfl⟩
  · go_enter Tryz.func90, Tryz.ntmps90
    go_wp2
    go_ret3
    exact ⟨rfl, rfl⟩
  · go_enter Tryz.func90, Tryz.ntmps90
    go_wp2
    go_ret3
    exact ⟨rfl, rfl⟩
  · go_enter Tryz.func90, Tryz.ntmps90
    go_wp2
    go_ret3
    exact ⟨rfl, rfl⟩
  · rw [frm_none h]
    obtain ⟨n1, n2, n3, n4, n5, n6, n7, n8, n9, n10, n11, n12, n13, n14, n15, n16, n17⟩ := h
    go_enter Tryz.func90, Tryz.ntmps90
    go_wp2
    go_ret3
    exact ⟨rfl, rfl⟩
end Ky
end Go.Proofs.YtagnmdejdeeenaaGreat

namespace Go.Proofs.YtagnmdejdeeenaaGreat
namespace Ky
open Go.RowKit Go.Lib Pg
attribute [local go_sem] Oper.semAt_some eq50
theorem frm_doc (k : Int) : ∃ (n N : Nat) (m0 m1 : Int), frm k = ((n : Int), m0, m1) ∧ (n : Int) / 8 = (N : Int) ∧ N ≤ 2 ∧ (n ≤ 8 ↔ N = 0) ∧ (n ≤ 16 ↔ N ≤ 1) ∧ (m0 = 0 ↔ n = 0) ∧ (0 ≤ m0 ∧ m0 < 256) ∧ (0 ≤ m1 ∧ m1 < 256) ∧ (N = 0 → m1 = 0) ∧ (k = 10 → N = 2 ∧ m1 = 0) := by
  by_cases h : 0 ≤ k ∧ k < 18
  · obtain ⟨j, rfl⟩ := Int.eq_ofNat_of_zero_le h.1
    have hj : j < 18 := by omega
    match j, hj with
    | 0, _ => exact ⟨0, 0, 0, 0, rfl, by decide, by decide, by decide, by decide, by decide, by decide, by decide, by decide, by decide⟩
    | 1, _ => exact ⟨1, 0, 112, 0, rfl, by decide, by decide, by decide, by decide, by decide, by decide, by decide, by decide, by decide⟩
    | 2, _ => exact ⟨1, 0, 99, 0, rfl, by decide, by decide, by decide, by decide, by decide, by decide, by decide, by decide, by decide⟩
    | 3, _ => exact ⟨1, 0, 109, 0, rfl, by decide, by decide, by decide, by decide, by decide, by decide, by decide, by decide, by decide⟩
    | 4, _ => exact ⟨9, 1, 97, 0, rfl, by decide, by decide, by decide, by decide, by decide, by decide, by decide, by decide, by decide⟩
    | 5, _ => exact ⟨10, 1, 118, 48, rfl, by decide, by decide, by decide, by decide, by decide, by decide, by decide, by decide, by decide⟩
    | 6, _ => exact ⟨18, 2, 118, 100, rfl, by decide, by decide, by decide, by decide, by decide, by decide, by decide, by decide, by decide⟩
    | 7, _ => exact ⟨18, 2, 118, 104, rfl, by decide, by decide, by decide, by decide, by decide, by decide, by decide, by decide, by decide⟩
    | 8, _ => exact ⟨18, 2, 118, 115, rfl, by decide, by decide, by decide, by decide, by decide, by decide, by decide, by decide, by decide⟩
    | 9, _ => exact ⟨9, 1, 116, 0, rfl, by decide, by decide, by decide, by decide, by decide, by decide, by decide, by decide, by decide⟩
    | 10, _ => exact ⟨17, 2, 105, 0, rfl, by decide, by decide, by decide, by decide, by decide, by decide, by decide, by decide, by decide⟩
    | 11, _ => exact ⟨9, 1, 98, 0, rfl, by decide, by decide, by decide, by decide, by decide, by decide, by decide, by decide, by decide⟩
    | 12, _ => exact ⟨9, 1, 117, 0, rfl, by decide, by decide, by decide, by decide, by decide, by decide, by decide, by decide, by decide⟩
    | 13, _ => exact ⟨9, 1, 114, 0, rfl, by decide, by decide, by decide, by decide, by decide, by decide, by decide, by decide, by decide⟩
    | 14, _ => exact ⟨17, 2, 113, 0, rfl, by decide, by decide, by decide, by decide, by decide, by decide, by decide, by decide, by decide⟩
    | 15, _ => exact ⟨17, 2, 101, 0, rfl, by decide, by decide, by decide, by decide, by decide, by decide, by decide, by decide, by decide⟩
    | 16, _ => exact ⟨17, 2, 110, 0, rfl, by decide, by decide, by decide, by decide, by decide, by decide, by decide, by decide, by decide⟩
    | 17, _ => exact ⟨17, 2, 107, 0, rfl, by decide, by decide, by decide, by decide, by decide, by decide, by decide, by decide, by decide⟩
    | j + 18, h => omega
  · exact ⟨0, 0, 0, 0, if_neg h, by decide, by decide, by decide, by decide, by decide, by decide, by decide, by decide, fun h' => by omega⟩
set_option maxHeartbeats 8000000 in
set_option maxRecDepth 100000 in
theorem rmake_any {w : World} {k a b : Int} (h0 : 0 ≤ a) (h1 : a < 18446744073709551616) :
    Calls Tryz.prog 50 #[.agg #[.int .i64 k, .int .u64 a, .int .u64 b]] w fun e w' => ∃ v, e = .returned (.tuple #[v, .int .i64 (if mkE k a b then 70 else 0)]) ∧ OB w' (w.heap.size ≤ ·) v (if mkE k a b then [] else mk k a b) ∧ Below w.heap.size w w' := by
  have u1 := fun w => rform_any (w := w) (k := k)
  obtain ⟨n, N, m0, m1, hf, hN, hN2, h8, h16, hm, hm0, hm1, hz, h10⟩ := frm_doc k
  rw [hf] at u1
  simp only [hN] at u1
  have HE : Hid (mkE k a b = (decide (n = 0) || (decide (a ≠ 0) && decide (n ≤ 8)) || (decide (b ≠ 0) && decide (n ≤ 16)))) := by
    show _ = _
    unfold mkE
    rw [hf]
    simp only [show (((n : Int), m0, m1).1 = 0) = (n = 0) by simp, show (((n : Int), m0, m1).1 ≤ 8) = (n ≤ 8) by simp; omega, show (((n : Int), m0, m1).1 ≤ 16) = (n ≤ 16) by simp; omega]
  have HK : Hid (mk k a b = [m0] ++ (if 8 < n then be 8 (tn k a) else []) ++ (if m1 = 0 then [] else [m1]) ++ (if 16 < n then be 8 b else [])) := by
    show _ = _
    unfold mk mkb
    rw [hf]
    simp only [show (16 < ((n : Int), m0, m1).1) = (16 < n) by simp; omega, show (8 < ((n : Int), m0, m1).1) = (8 < n) by simp; omega]
  have HM0 := hid2 hm0
  have HM1 := hid2 hm1
  have qa := blk_new w [.int .i64 k, .int .u64 a, .int .u64 b] 103
  have ba := below_alloc w (.cells #[.int .i64 k, .int .u64 a, .int .u64 b] 103)
  clear hf hN hm0 hm1
  by_cases hm00 : m0 = 0
  · have n0 : n = 0 := hm.1 hm00
    have HEV : Hid (mkE k a b = true) := by show _ = _; rw [HE.out]; simp; omega
    rw [HEV.out]
    subst hm00
    have HH := hid2 (And.intro h0 h1)
    clear hz h10 h8 h16 hm hN2 h0 h1 HE HK
    go_enter Tryz.func50, Tryz.ntmps50
    go_wp2_with first
      | (go_at_call 90; refine (u1 _).mono ?_; rintro e w1 ⟨rfl, rfl⟩)
    go_ret2
    exact ⟨_, rfl, ob_nil _ _, ba⟩
  · have n0 : ¬ n = 0 := fun h => hm00 (hm.2 h)
    rcases (by omega : N = 0 ∨ N = 1 ∨ N = 2) with rfl | rfl | rfl
    · by_cases ha : a = 0
      · by_cases hb : b = 0
        · have hm1z : m1 = 0 := hz rfl
          have hk10 : ¬ k = 10 := fun h => by have := (h10 h).1; omega
          have HEV : Hid (mkE k a b = false) := by show _ = _; rw [HE.out]; simp; omega
          have HLV : Hid (mk k a b = [m0]) := by show _ = _; rw [HK.out]; simp only [if_neg (show ¬ 8 < n by omega), if_neg (show ¬ 16 < n by omega), if_pos hm1z, List.append_nil]
          rw [HEV.out]
          have e0 : ¬ m0 = 0 := hm00
          have HH := hid2 (And.intro h0 h1)
          subst hm1z
          subst ha
          subst hb
          clear hz h10 h8 h16 hm hN2 h0 h1 HE HK
          have O1 := ob_new (w.alloc (.cells #[.int .i64 k, .int .u64 0, .int .u64 0] 103)) m0 HM0.out
          have al := below_alloc (w.alloc (.cells #[.int .i64 k, .int .u64 0, .int .u64 0] 103)) (.cells #[.int .u8 m0] 5)
          have sz : (w.alloc (.cells #[.int .i64 k, .int .u64 0, .int .u64 0] 103)).heap.size = w.heap.size + 1 := by simp
          rw [sz] at O1
          have qb := qa.keep al
          have sB : w.heap.size + 1 ≤ ((w.alloc (.cells #[.int .i64 k, .int .u64 0, .int .u64 0] 103)).alloc (.cells #[.int .u8 m0] 5)).heap.size := by simp
          have cb0 := qb.cell (i := 0) rfl
          have cb1 := qb.cell (i := 1) rfl
          have cb2 := qb.cell (i := 2) rfl
          go_enter Tryz.func50, Tryz.ntmps50
          go_wp2_with first
            | (go_at_call 90; refine (u1 _).mono ?_; rintro e w1 ⟨rfl, rfl⟩)
          go_ret2
          exact ⟨_, rfl, by rw [HLV.out]; have h9 := O1; exact h9.mono (fun b _ h => by omega), (ba.trans (al.mono ba.size))⟩
        · have hk10 : ¬ k = 10 := fun h => by have := (h10 h).1; omega
          have HEV : Hid (mkE k a b = true) := by show _ = _; rw [HE.out]; simp; omega
          rw [HEV.out]
          have e0 : ¬ m0 = 0 := hm00
          have HH := hid2 (And.intro h0 h1)
          subst ha
          have hbq : (b != 0) = true := by simp [hb]
          clear hz h10 h8 h16 hm hN2 h0 h1 HE HK
          go_enter Tryz.func50, Tryz.ntmps50
          go_wp2_with first
            | (go_at_call 90; refine (u1 _).mono ?_; rintro e w1 ⟨rfl, rfl⟩)
          go_ret2
          exact ⟨_, rfl, ob_nil _ _, ba⟩
      · have hk10 : ¬ k = 10 := fun h => by have := (h10 h).1; omega
        have HEV : Hid (mkE k a b = true) := by show _ = _; rw [HE.out]; simp; omega
        rw [HEV.out]
        have e0 : ¬ m0 = 0 := hm00
        have HH := hid2 (And.intro h0 h1)
        clear hz h10 h8 h16 hm hN2 h0 h1 HE HK
        go_enter Tryz.func50, Tryz.ntmps50
        go_wp2_with first
          | (go_at_call 90; refine (u1 _).mono ?_; rintro e w1 ⟨rfl, rfl⟩)
        go_ret2
        exact ⟨_, rfl, ob_nil _ _, ba⟩
    · have hk10 : ¬ k = 10 := fun h => by have := (h10 h).1; omega
      by_cases hb : b = 0
      · by_cases hm1z : m1 = 0
        · have HEV : Hid (mkE k a b = false) := by show _ = _; rw [HE.out]; simp; omega
          have HLV : Hid (mk k a b = [m0] ++ be 8 (tn k a)) := by show _ = _; rw [HK.out]; simp only [if_pos (show 8 < n by omega), if_neg (show ¬ 16 < n by omega), if_pos hm1z, List.append_nil]
          have TN : Hid (tn k a = a) := by show _ = _; unfold tn; rw [if_neg hk10]
          rw [TN.out] at HLV
          rw [HEV.out]
          have e0 : ¬ m0 = 0 := hm00
          have HH := hid2 (And.intro h0 h1)
          subst hm1z
          subst hb
          clear hz h10 h8 h16 hm hN2 h0 h1 HE HK
          have O1 := ob_new (w.alloc (.cells #[.int .i64 k, .int .u64 a, .int .u64 0] 103)) m0 HM0.out
          have al := below_alloc (w.alloc (.cells #[.int .i64 k, .int .u64 a, .int .u64 0] 103)) (.cells #[.int .u8 m0] 5)
          have sz : (w.alloc (.cells #[.int .i64 k, .int .u64 a, .int .u64 0] 103)).heap.size = w.heap.size + 1 := by simp
          rw [sz] at O1
          have qb := qa.keep al
          have sB : w.heap.size + 1 ≤ ((w.alloc (.cells #[.int .i64 k, .int .u64 a, .int .u64 0] 103)).alloc (.cells #[.int .u8 m0] 5)).heap.size := by simp
          have cb0 := qb.cell (i := 0) rfl
          have cb1 := qb.cell (i := 1) rfl
          have cb2 := qb.cell (i := 2) rfl
          have g5 : True := trivial
          go_enter Tryz.func50, Tryz.ntmps50
          go_wp2_with first
            | (go_at_call 90; refine (u1 _).mono ?_; rintro e w1 ⟨rfl, rfl⟩)
            | (go_at_call 91; have gate := g5; clear gate g5; go_must (refine (put_any (B := w.heap.size + 1) (n := 8) (x := a) O1 sB (by decide) (by simp)).mono ?_); rintro e w5 ⟨v5, rfl, O5, b5⟩; obtain ⟨a5, c5, rfl⟩ := OB.sh O5; have k5 := qb.keepB b5 (Nat.lt_succ_self _); have c5_0 := k5.cell (i := 0) rfl; have c5_1 := k5.cell (i := 1) rfl; have c5_2 := k5.cell (i := 2) rfl; have s5 : w.heap.size + 1 ≤ w5.heap.size := Nat.le_trans sB b5.size)
          go_ret2
          exact ⟨_, rfl, by rw [HLV.out]; have h9 := O5; simp only [List.length_append, List.length_cons, List.length_nil, be_length] at h9 ⊢; exact h9.mono (fun b _ h => by omega), ((ba.trans (al.mono ba.size)).trans (b5.mono (Nat.le_succ _)))⟩
        · have HEV : Hid (mkE k a b = false) := by show _ = _; rw [HE.out]; simp; omega
          have HLV : Hid (mk k a b = [m0] ++ be 8 (tn k a) ++ [m1]) := by show _ = _; rw [HK.out]; simp only [if_pos (show 8 < n by omega), if_neg (show ¬ 16 < n by omega), if_neg hm1z, List.append_nil]
          have TN : Hid (tn k a = a) := by show _ = _; unfold tn; rw [if_neg hk10]
          rw [TN.out] at HLV
          rw [HEV.out]
          have e0 : ¬ m0 = 0 := hm00
          have HH := hid2 (And.intro h0 h1)
          subst hb
          clear hz h10 h8 h16 hm hN2 h0 h1 HE HK
          have O1 := ob_new (w.alloc (.cells #[.int .i64 k, .int .u64 a, .int .u64 0] 103)) m0 HM0.out
          have al := below_alloc (w.alloc (.cells #[.int .i64 k, .int .u64 a, .int .u64 0] 103)) (.cells #[.int .u8 m0] 5)
          have sz : (w.alloc (.cells #[.int .i64 k, .int .u64 a, .int .u64 0] 103)).heap.size = w.heap.size + 1 := by simp
          rw [sz] at O1
          have qb := qa.keep al
          have sB : w.heap.size + 1 ≤ ((w.alloc (.cells #[.int .i64 k, .int .u64 a, .int .u64 0] 103)).alloc (.cells #[.int .u8 m0] 5)).heap.size := by simp
          have cb0 := qb.cell (i := 0) rfl
          have cb1 := qb.cell (i := 1) rfl
          have cb2 := qb.cell (i := 2) rfl
          have g5 : True := trivial
          go_enter Tryz.func50, Tryz.ntmps50
          go_wp2_with first
            | (go_at_call 90; refine (u1 _).mono ?_; rintro e w1 ⟨rfl, rfl⟩)
            | (go_at_call 91; have gate := g5; clear gate g5; go_must (refine (put_any (B := w.heap.size + 1) (n := 8) (x := a) O1 sB (by decide) (by simp)).mono ?_); rintro e w5 ⟨v5, rfl, O5, b5⟩; obtain ⟨a5, c5, rfl⟩ := OB.sh O5; have k5 := qb.keepB b5 (Nat.lt_succ_self _); have c5_0 := k5.cell (i := 0) rfl; have c5_1 := k5.cell (i := 1) rfl; have c5_2 := k5.cell (i := 2) rfl; have s5 : w.heap.size + 1 ≤ w5.heap.size := Nat.le_trans sB b5.size; obtain ⟨v6, w6, hr6, O6, b6⟩ := app_byte (x := m1) O5 s5 (by simp [be_length]) HM1.out; obtain ⟨a6, c6, rfl⟩ := OB.sh O6; have k6 := k5.keepB b6 (Nat.lt_succ_self _); have c6_0 := k6.cell (i := 0) rfl; have c6_1 := k6.cell (i := 1) rfl; have c6_2 := k6.cell (i := 2) rfl; have s6 : w.heap.size + 1 ≤ w6.heap.size := Nat.le_trans s5 b6.size)
            | (at_builtin; refine Lib.wpList_append_run _ rfl _ _ _ _ rfl _ _ rfl rfl _ _ hr6 ?_; clear hr6)
          go_ret2
          exact ⟨_, rfl, by rw [HLV.out]; have h9 := O6; simp only [List.length_append, List.length_cons, List.length_nil, be_length] at h9 ⊢; exact h9.mono (fun b _ h => by omega), (((ba.trans (al.mono ba.size)).trans (b5.mono (Nat.le_succ _))).trans (b6.mono (Nat.le_succ _)))⟩
      · have HEV : Hid (mkE k a b = true) := by show _ = _; rw [HE.out]; simp; omega
        rw [HEV.out]
        have e0 : ¬ m0 = 0 := hm00
        have HH := hid2 (And.intro h0 h1)
        have hbq : (b != 0) = true := by simp [hb]
        clear hz h10 h8 h16 hm hN2 h0 h1 HE HK
        go_enter Tryz.func50, Tryz.ntmps50
        go_wp2_with first
          | (go_at_call 90; refine (u1 _).mono ?_; rintro e w1 ⟨rfl, rfl⟩)
        go_ret2
        exact ⟨_, rfl, ob_nil _ _, ba⟩
    · by_cases hk10 : k = 10
      · have hm1z : m1 = 0 := (h10 hk10).2
        have HEV : Hid (mkE k a b = false) := by show _ = _; rw [HE.out]; simp; omega
        have HLV : Hid (mk k a b = [m0] ++ be 8 (tn k a) ++ be 8 b) := by show _ = _; rw [HK.out]; simp only [if_pos (show 8 < n by omega), if_pos (show 16 < n by omega), if_pos hm1z, List.append_nil]
        have TN : Hid (tn k a = 18446744073709551615 - a) := by show _ = _; unfold tn; rw [if_pos hk10]
        rw [TN.out] at HLV
        rw [HEV.out]
        have e0 : ¬ m0 = 0 := hm00
        have HH := hid2 (And.intro h0 h1)
        have wk : IntKind.u64.wrap (18446744073709551615 - a) = 18446744073709551615 - a := by rw [IntKind.wrap_u64]; omega
        subst hk10
        subst hm1z
        clear hz h10 h8 h16 hm hN2 h0 h1 HE HK
        have O1 := ob_new (w.alloc (.cells #[.int .i64 10, .int .u64 a, .int .u64 b] 103)) m0 HM0.out
        have al := below_alloc (w.alloc (.cells #[.int .i64 10, .int .u64 a, .int .u64 b] 103)) (.cells #[.int .u8 m0] 5)
        have sz : (w.alloc (.cells #[.int .i64 10, .int .u64 a, .int .u64 b] 103)).heap.size = w.heap.size + 1 := by simp
        rw [sz] at O1
        have qb := qa.keep al
        have sB : w.heap.size + 1 ≤ ((w.alloc (.cells #[.int .i64 10, .int .u64 a, .int .u64 b] 103)).alloc (.cells #[.int .u8 m0] 5)).heap.size := by simp
        have cb0 := qb.cell (i := 0) rfl
        have cb1 := qb.cell (i := 1) rfl
        have cb2 := qb.cell (i := 2) rfl
        have g5 : True := trivial
        go_enter Tryz.func50, Tryz.ntmps50
        go_wp2_with first
          | (go_at_call 90; refine (u1 _).mono ?_; rintro e w1 ⟨rfl, rfl⟩)
          | (go_at_call 91; have gate := g5; clear gate g5; go_must (refine (put_any (B := w.heap.size + 1) (n := 8) (x := 18446744073709551615 - a) O1 sB (by decide) (by simp)).mono ?_); rintro e w5 ⟨v5, rfl, O5, b5⟩; obtain ⟨a5, c5, rfl⟩ := OB.sh O5; have k5 := qb.keepB b5 (Nat.lt_succ_self _); have c5_0 := k5.cell (i := 0) rfl; have c5_1 := k5.cell (i := 1) rfl; have c5_2 := k5.cell (i := 2) rfl; have s5 : w.heap.size + 1 ≤ w5.heap.size := Nat.le_trans sB b5.size)
          | (go_at_call 91; refine (put_any (B := w.heap.size + 1) (n := 8) (x := b) O5 s5 (by decide) (by simp [be_length])).mono ?_; rintro e w7 ⟨v7, rfl, O7, b7⟩; obtain ⟨a7, c7, rfl⟩ := OB.sh O7)
        go_ret2
        exact ⟨_, rfl, by rw [HLV.out]; have h9 := O7; simp only [List.length_append, List.length_cons, List.length_nil, be_length] at h9 ⊢; exact h9.mono (fun b _ h => by omega), (((ba.trans (al.mono ba.size)).trans (b5.mono (Nat.le_succ _))).trans (b7.mono (Nat.le_succ _)))⟩
      · by_cases hm1z : m1 = 0
        · have HEV : Hid (mkE k a b = false) := by show _ = _; rw [HE.out]; simp; omega
          have HLV : Hid (mk k a b = [m0] ++ be 8 (tn k a) ++ be 8 b) := by show _ = _; rw [HK.out]; simp only [if_pos (show 8 < n by omega), if_pos (show 16 < n by omega), if_pos hm1z, List.append_nil]
          have TN : Hid (tn k a = a) := by show _ = _; unfold tn; rw [if_neg hk10]
          rw [TN.out] at HLV
          rw [HEV.out]
          have e0 : ¬ m0 = 0 := hm00
          have HH := hid2 (And.intro h0 h1)
          subst hm1z
          clear hz h10 h8 h16 hm hN2 h0 h1 HE HK
          have O1 := ob_new (w.alloc (.cells #[.int .i64 k, .int .u64 a, .int .u64 b] 103)) m0 HM0.out
          have al := below_alloc (w.alloc (.cells #[.int .i64 k, .int .u64 a, .int .u64 b] 103)) (.cells #[.int .u8 m0] 5)
          have sz : (w.alloc (.cells #[.int .i64 k, .int .u64 a, .int .u64 b] 103)).heap.size = w.heap.size + 1 := by simp
          rw [sz] at O1
          have qb := qa.keep al
          have sB : w.heap.size + 1 ≤ ((w.alloc (.cells #[.int .i64 k, .int .u64 a, .int .u64 b] 103)).alloc (.cells #[.int .u8 m0] 5)).heap.size := by simp
          have cb0 := qb.cell (i := 0) rfl
          have cb1 := qb.cell (i := 1) rfl
          have cb2 := qb.cell (i := 2) rfl
          have g5 : True := trivial
          go_enter Tryz.func50, Tryz.ntmps50
          go_wp2_with first
            | (go_at_call 90; refine (u1 _).mono ?_; rintro e w1 ⟨rfl, rfl⟩)
            | (go_at_call 91; have gate := g5; clear gate g5; go_must (refine (put_any (B := w.heap.size + 1) (n := 8) (x := a) O1 sB (by decide) (by simp)).mono ?_); rintro e w5 ⟨v5, rfl, O5, b5⟩; obtain ⟨a5, c5, rfl⟩ := OB.sh O5; have k5 := qb.keepB b5 (Nat.lt_succ_self _); have c5_0 := k5.cell (i := 0) rfl; have c5_1 := k5.cell (i := 1) rfl; have c5_2 := k5.cell (i := 2) rfl; have s5 : w.heap.size + 1 ≤ w5.heap.size := Nat.le_trans sB b5.size)
            | (go_at_call 91; refine (put_any (B := w.heap.size + 1) (n := 8) (x := b) O5 s5 (by decide) (by simp [be_length])).mono ?_; rintro e w7 ⟨v7, rfl, O7, b7⟩; obtain ⟨a7, c7, rfl⟩ := OB.sh O7)
          go_ret2
          exact ⟨_, rfl, by rw [HLV.out]; have h9 := O7; simp only [List.length_append, List.length_cons, List.length_nil, be_length] at h9 ⊢; exact h9.mono (fun b _ h => by omega), (((ba.trans (al.mono ba.size)).trans (b5.mono (Nat.le_succ _))).trans (b7.mono (Nat.le_succ _)))⟩
        · have HEV : Hid (mkE k a b = false) := by show _ = _; rw [HE.out]; simp; omega
          have HLV : Hid (mk k a b = [m0] ++ be 8 (tn k a) ++ [m1] ++ be 8 b) := by show _ = _; rw [HK.out]; simp only [if_pos (show 8 < n by omega), if_pos (show 16 < n by omega), if_neg hm1z]
          have TN : Hid (tn k a = a) := by show _ = _; unfold tn; rw [if_neg hk10]
          rw [TN.out] at HLV
          rw [HEV.out]
          have e0 : ¬ m0 = 0 := hm00
          have HH := hid2 (And.intro h0 h1)
          clear hz h10 h8 h16 hm hN2 h0 h1 HE HK
          have O1 := ob_new (w.alloc (.cells #[.int .i64 k, .int .u64 a, .int .u64 b] 103)) m0 HM0.out
          have al := below_alloc (w.alloc (.cells #[.int .i64 k, .int .u64 a, .int .u64 b] 103)) (.cells #[.int .u8 m0] 5)
          have sz : (w.alloc (.cells #[.int .i64 k, .int .u64 a, .int .u64 b] 103)).heap.size = w.heap.size + 1 := by simp
          rw [sz] at O1
          have qb := qa.keep al
          have sB : w.heap.size + 1 ≤ ((w.alloc (.cells #[.int .i64 k, .int .u64 a, .int .u64 b] 103)).alloc (.cells #[.int .u8 m0] 5)).heap.size := by simp
          have cb0 := qb.cell (i := 0) rfl
          have cb1 := qb.cell (i := 1) rfl
          have cb2 := qb.cell (i := 2) rfl
          have g5 : True := trivial
          go_enter Tryz.func50, Tryz.ntmps50
          go_wp2_with first
            | (go_at_call 90; refine (u1 _).mono ?_; rintro e w1 ⟨rfl, rfl⟩)
            | (go_at_call 91; have gate := g5; clear gate g5; go_must (refine (put_any (B := w.heap.size + 1) (n := 8) (x := a) O1 sB (by decide) (by simp)).mono ?_); rintro e w5 ⟨v5, rfl, O5, b5⟩; obtain ⟨a5, c5, rfl⟩ := OB.sh O5; have k5 := qb.keepB b5 (Nat.lt_succ_self _); have c5_0 := k5.cell (i := 0) rfl; have c5_1 := k5.cell (i := 1) rfl; have c5_2 := k5.cell (i := 2) rfl; have s5 : w.heap.size + 1 ≤ w5.heap.size := Nat.le_trans sB b5.size; obtain ⟨v6, w6, hr6, O6, b6⟩ := app_byte (x := m1) O5 s5 (by simp [be_length]) HM1.out; obtain ⟨a6, c6, rfl⟩ := OB.sh O6; have k6 := k5.keepB b6 (Nat.lt_succ_self _); have c6_0 := k6.cell (i := 0) rfl; have c6_1 := k6.cell (i := 1) rfl; have c6_2 := k6.cell (i := 2) rfl; have s6 : w.heap.size + 1 ≤ w6.heap.size := Nat.le_trans s5 b6.size)
            | (at_builtin; refine Lib.wpList_append_run _ rfl _ _ _ _ rfl _ _ rfl rfl _ _ hr6 ?_; clear hr6)
            | (go_at_call 91; refine (put_any (B := w.heap.size + 1) (n := 8) (x := b) O6 s6 (by decide) (by simp [be_length])).mono ?_; rintro e w7 ⟨v7, rfl, O7, b7⟩; obtain ⟨a7, c7, rfl⟩ := OB.sh O7)
          go_ret2
          exact ⟨_, rfl, by rw [HLV.out]; have h9 := O7; simp only [List.length_append, List.length_cons, List.length_nil, be_length] at h9 ⊢; exact h9.mono (fun b _ h => by omega), ((((ba.trans (al.mono ba.size)).trans (b5.mono (Nat.le_succ _))).trans (b6.mono (Nat.le_succ _))).trans (b7.mono (Nat.le_succ _)))⟩
end Ky
end Go.Proofs.YtagnmdejdeeenaaGreat

namespace Go.Proofs.YtagnmdejdeeenaaGreat
namespace Ky
open Go.RowKit Go.Lib Pg
attribute [local go_sem] Oper.semAt_some eq50
end Ky
end Go.Proofs.YtagnmdejdeeenaaGreat

namespace Go.Proofs.YtagnmdejdeeenaaGreat
namespace Ky
open Go.RowKit Go.Lib Pg
attribute [local go_sem] Oper.semAt_some eq50
end Ky
end Go.Proofs.YtagnmdejdeeenaaGreat
