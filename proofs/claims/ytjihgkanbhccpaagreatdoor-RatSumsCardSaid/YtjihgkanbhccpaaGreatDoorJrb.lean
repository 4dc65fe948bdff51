/- Several texts, joined: Rat4, Rat6, Rat5, KnownQ, RightQ, SmallQ, RatV, Small3, BitD, Ref3. -/
import Derived.Test.YtjihgkanbhccpaaGreatDoorJra
import Derived.Test.YtjihgkanbhccpaaGreatDoorJna
import Derived.Test.YtjihgkanbhccpaaGreatDoorJda
import Derived.Test.YtjihgkanbhccpaaGreatDoorJnb
import Derived.Test.YtjihgkanbhccpaaGreatDoorJne
import Derived.Test.YtjihgkanbhccpaaGreatDoorJnc
namespace Go.Proofs.YtjihgkanbhccpaaGreatDoor
open Go.RowKit Lim

set_option maxHeartbeats 1000000 in
set_option maxRecDepth 100000 in
theorem qZero {w : World} {ao ao' : Option Addr} {n c n' c' : Nat} {x y : Int} (h : NatA w ao n c x) (h' : NatA w ao' n' c' y) (hn : n ≤ 1099511627776) (hn' : n' ≤ 1099511627776) :
    Calls Tryz.prog 24 #[.agg #[.slice ao n c, .slice ao' n' c']] w fun e w' => e = .returned (.bool (decide (x = 0 ∨ y = 0))) ∧ Below w.heap.size w w' := by
  have B0 := below_alloc w (.cells #[.slice ao n c, .slice ao' n' c'] 30)
  have SP := box_new w [.slice ao n c, .slice ao' n' c'] 30
  replace h := h.keep B0
  replace h' := h'.keep B0
  obtain ⟨p1, p2, p3, p4⟩ := SP.cells2
  have t := nBits h hn
  have hm := bitLen_zero x h.nonneg
  by_cases hx : x = 0
  · have hm := hm.2 hx
    rw [hm] at t
    rw [decide_eq_true (Or.inl hx)]
    clear hm hx h
    go_enter Tryz.func24, Tryz.ntmps24
    go_wp2_with fail
    refine t.mono ?_
    rintro e w1 ⟨rfl, hB⟩
    go_wp2
    go_ret
    exact ⟨rfl, joinB B0 hB⟩
  · have hm1 : bitLen x.toNat ≠ 0 := fun e => hx (hm.1 e)
    clear hm
    generalize bitLen x.toNat = m at *
    obtain ⟨j, rfl⟩ : ∃ j, m = j + 1 := ⟨m - 1, by omega⟩
    clear hm1
    have hz := bitLen_zero y h'.nonneg
    by_cases hy : y = 0
    · have hz := hz.2 hy
      rw [decide_eq_true (Or.inr hy)]
      clear hx hy h
      go_enter Tryz.func24, Tryz.ntmps24
      go_wp2_with fail
      refine t.mono ?_
      rintro e w1 ⟨rfl, hB⟩
      have t' := nBits (h'.keep hB) hn'
      rw [hz] at t'
      replace SP := SP.keep hB
      replace B0 := joinB B0 hB
      obtain ⟨p1, p2, p3, p4⟩ := SP.cells2
      clear hB t hz h'
      go_wp2_with fail
      refine t'.mono ?_
      rintro e w2 ⟨rfl, hB⟩
      clear t'
      go_wp2
      go_ret
      exact ⟨rfl, joinB B0 hB⟩
    · have hz1 : bitLen y.toNat ≠ 0 := fun e => hy (hz.1 e)
      rw [decide_eq_false (fun h => h.elim hx hy)]
      clear hx hy h hz
      generalize hq : bitLen y.toNat = q at *
      obtain ⟨i, rfl⟩ : ∃ i, q = i + 1 := ⟨q - 1, by omega⟩
      clear hz1
      go_enter Tryz.func24, Tryz.ntmps24
      go_wp2_with fail
      refine t.mono ?_
      rintro e w1 ⟨rfl, hB⟩
      have t' := nBits (h'.keep hB) hn'
      rw [hq] at t'
      replace SP := SP.keep hB
      replace B0 := joinB B0 hB
      obtain ⟨p1, p2, p3, p4⟩ := SP.cells2
      clear hB t hq h'
      go_wp2_with fail
      refine t'.mono ?_
      rintro e w2 ⟨rfl, hB⟩
      clear t'
      go_wp2
      go_ret
      refine ⟨?_, joinB B0 hB⟩
      congr 2
end Go.Proofs.YtjihgkanbhccpaaGreatDoor

namespace Go.Proofs.YtjihgkanbhccpaaGreatDoor
open Go.RowKit Lim

set_option maxHeartbeats 4000000 in
set_option maxRecDepth 100000 in
theorem qQuoZ {w : World} {v : Value} {u1 u2 : Value} {a1 b1 : Option Addr} {n1 c1 m1 d1 : Nat} {x1 y1 : Int} (hv : v = .agg #[u1, u2]) (h1 : NatA w a1 n1 c1 x1) (e1 : NatA w b1 m1 d1 y1) (hn1 : n1 ≤ 34359738368) (hm1 : m1 ≤ 34359738368) (hz : x1 = 0 ∨ y1 = 0) :
    Calls Tryz.prog 28 #[v, .agg #[.slice a1 n1 c1, .slice b1 m1 d1]] w fun e w' => e = .returned (.tuple #[.agg #[.slice none 0 0, .slice none 0 0], .int .i64 30]) ∧ Below w.heap.size w w' := by
  subst hv
  have HB := below3 w (.cells #[u1, u2] 30) (.cells #[.slice a1 n1 c1, .slice b1 m1 d1] 30) (.cells #[.slice none 0 0, .slice none 0 0] 30)
  have P1 := (box_new (w.alloc (.cells #[u1, u2] 30)) [.slice a1 n1 c1, .slice b1 m1 d1] 30).keep (below_alloc _ (.cells #[.slice none 0 0, .slice none 0 0] 30))
  have X4 := box_new ((w.alloc (.cells #[u1, u2] 30)).alloc (.cells #[.slice a1 n1 c1, .slice b1 m1 d1] 30)) [.slice none 0 0, .slice none 0 0] 30
  rw [show (w.alloc (.cells #[u1, u2] 30)).heap.size = w.heap.size + 1 by simp] at P1
  rw [show ((w.alloc (.cells #[u1, u2] 30)).alloc (.cells #[.slice a1 n1 c1, .slice b1 m1 d1] 30)).heap.size = w.heap.size + 1 + 1 by simp] at X4
  replace h1 := h1.keep HB
  replace e1 := e1.keep HB
  have t := qZero h1 e1 (by omega) (by omega)
  rw [decide_eq_true hz] at t
  clear hz
  have hld := load_rat P1
  go_enter Tryz.func28, Tryz.ntmps28
  go_wp2_with fail
  refine t.mono ?_
  rintro e w1 ⟨rfl, hB⟩
  replace X4 := X4.keep hB
  replace HB := joinB HB hB
  obtain ⟨k1, k2, k3, k4⟩ := X4.cells2
  have S2 := X4.put2 (.slice none 0 0) (.slice none 0 0)
  have HB2 := below_put2 HB (g := w.heap.size + 1 + 1) (by omega) (.slice none 0 0) (.slice none 0 0)
  clear hB t h1 e1 P1 X4 HB hld
  go_wp2
  refine bodyPost_ret (ret_rat_tmp rfl rfl rfl S2) rfl ?_
  exact ⟨rfl, HB2⟩
set_option maxHeartbeats 4000000 in
set_option maxRecDepth 100000 in
theorem qQuo {w : World} {a0 b0 : Option Addr} {n0 c0 m0 d0 : Nat} {x0 y0 : Int} {a1 b1 : Option Addr} {n1 c1 m1 d1 : Nat} {x1 y1 : Int} (h0 : NatA w a0 n0 c0 x0) (e0 : NatA w b0 m0 d0 y0) (hn0 : n0 ≤ 34359738368) (hm0 : m0 ≤ 34359738368) (h1 : NatA w a1 n1 c1 x1) (e1 : NatA w b1 m1 d1 y1) (hn1 : n1 ≤ 34359738368) (hm1 : m1 ≤ 34359738368) (hx : x1 ≠ 0) (hy : y1 ≠ 0) :
    Calls Tryz.prog 28 #[.agg #[.slice a0 n0 c0, .slice b0 m0 d0], .agg #[.slice a1 n1 c1, .slice b1 m1 d1]] w fun e w' => ∃ a k d a' k' d', e = .returned (.tuple #[.agg #[.slice a k d, .slice a' k' d'], .int .i64 0]) ∧ NatO w' a k d (rn (cn x0 y0 * cn y1 x1) (cd y0 * cd x1)) ∧ NatO w' a' k' d' (rd (cn x0 y0 * cn y1 x1) (cd y0 * cd x1)) ∧ k ≤ n0 + m1 ∧ k' ≤ m0 + n1 + 2 ∧ Below w.heap.size w w' := by
  have HB := below3 w (.cells #[.slice a0 n0 c0, .slice b0 m0 d0] 30) (.cells #[.slice a1 n1 c1, .slice b1 m1 d1] 30) (.cells #[.slice none 0 0, .slice none 0 0] 30)
  have P0 := ((box_new w [.slice a0 n0 c0, .slice b0 m0 d0] 30).keep (below_alloc _ (.cells #[.slice a1 n1 c1, .slice b1 m1 d1] 30))).keep (below_alloc _ (.cells #[.slice none 0 0, .slice none 0 0] 30))
  have P1 := (box_new (w.alloc (.cells #[.slice a0 n0 c0, .slice b0 m0 d0] 30)) [.slice a1 n1 c1, .slice b1 m1 d1] 30).keep (below_alloc _ (.cells #[.slice none 0 0, .slice none 0 0] 30))
  have X4 := box_new ((w.alloc (.cells #[.slice a0 n0 c0, .slice b0 m0 d0] 30)).alloc (.cells #[.slice a1 n1 c1, .slice b1 m1 d1] 30)) [.slice none 0 0, .slice none 0 0] 30
  rw [show (w.alloc (.cells #[.slice a0 n0 c0, .slice b0 m0 d0] 30)).heap.size = w.heap.size + 1 by simp] at P1
  rw [show ((w.alloc (.cells #[.slice a0 n0 c0, .slice b0 m0 d0] 30)).alloc (.cells #[.slice a1 n1 c1, .slice b1 m1 d1] 30)).heap.size = w.heap.size + 1 + 1 by simp] at X4
  replace h0 := h0.keep HB
  replace e0 := e0.keep HB
  replace h1 := h1.keep HB
  replace e1 := e1.keep HB
  have t := qZero h1 e1 (by omega) (by omega)
  rw [decide_eq_false (fun h => h.elim hx hy)] at t
  clear hx hy
  have hld := load_rat P1
  go_enter Tryz.func28, Tryz.ntmps28
  go_wp2_with fail
  refine t.mono ?_
  rintro e w1 ⟨rfl, hB⟩
  replace h0 := h0.keep hB
  replace e0 := e0.keep hB
  replace h1 := h1.keep hB
  replace e1 := e1.keep hB
  replace P0 := P0.keep hB
  replace P1 := P1.keep hB
  replace X4 := X4.keep hB
  replace HB := joinB HB hB
  clear hB t hld
  obtain ⟨k1, k2, k3, k4⟩ := P1.cells2
  obtain ⟨j1, j2, j3, j4⟩ := P0.cells2
  go_wp2_with fail
  refine (qMul h0 e0 (by omega) (by omega) e1 h1 (by omega) (by omega)).mono ?_
  rintro e w2 ⟨a, k, d, a', k', d', rfl, O1, O2, hk, hk', hB⟩
  clear k1 k2 k3 k4 j1 j2 j3 j4 P0 P1 h0 e0 h1 e1
  replace X4 := X4.keep hB
  replace HB := joinB HB hB
  obtain ⟨k1, k2, k3, k4⟩ := X4.cells2
  have S2 := X4.put2 (.slice a k d) (.slice a' k' d')
  have Q1 := O1.put2 X4 (.slice a k d) (.slice a' k' d')
  have Q2 := O2.put2 X4 (.slice a k d) (.slice a' k' d')
  have HB2 := below_put2 HB (g := w.heap.size + 1 + 1) (by omega) (.slice a k d) (.slice a' k' d')
  clear hB O1 O2 X4 HB
  go_wp2
  refine bodyPost_ret (ret_rat_tmp rfl rfl rfl S2) rfl ?_
  exact ⟨a, k, d, a', k', d', rfl, Q1, Q2, by omega, by omega, HB2⟩
end Go.Proofs.YtjihgkanbhccpaaGreatDoor

namespace Go.Proofs.YtjihgkanbhccpaaGreatDoor
open Go.RowKit Lim

set_option maxHeartbeats 4000000 in
set_option maxRecDepth 100000 in
theorem qOfDec {w : World} {ao : Option Addr} {n c : Nat} {x : Int} (h : NatA w ao n c x) (hn : n ≤ 274877906944) :
    Calls Tryz.prog 30 #[.agg #[.slice ao n c]] w fun e w' => ∃ a k d a' k' d', e = .returned (.agg #[.slice a k d, .slice a' k' d']) ∧ NatO w' a k d (rn x U36) ∧ NatO w' a' k' d' (rd x U36) ∧ k ≤ n ∧ k' ≤ 39 ∧ Below w.heap.size w w' := by
  have HB := below2 w (.cells #[.slice ao n c] 46) (.cells #[.slice none 0 0, .slice none 0 0] 30)
  have PX := (box_new w [.slice ao n c] 46).keep (below_alloc _ (.cells #[.slice none 0 0, .slice none 0 0] 30))
  have X4 := box_new (w.alloc (.cells #[.slice ao n c] 46)) [.slice none 0 0, .slice none 0 0] 30
  rw [show (w.alloc (.cells #[.slice ao n c] 46)).heap.size = w.heap.size + 1 by simp] at X4
  replace h := h.keep HB
  go_enter Tryz.func30, Tryz.ntmps30
  go_wp2_with fail
  refine rg_start (S := fun w' => Box w' w.heap.size [.slice ao n c] 46 ∧ True) (by kernel_rfl) (⟨PX.drew, trivial⟩) ?_
  replace h := h.drew
  replace HB := HB.drew
  replace PX := PX.drew
  replace X4 := X4.drew
  have hS := (show _ ∧ _ from ⟨PX, trivial⟩)
  clear PX
  refine rg_take 0 (some 3) (.pointer (some ⟨w.heap.size, 0, none⟩)) (by kernel_rfl) (fun _ _ => by kernel_rfl) (fun _ _ _ h => h) hS ?_
  refine rg_load 1 (some 4) (.slice ao n c) 28 3 (w.heap.size) 0 (by kernel_rfl) (by kernel_rfl) (by kernel_rfl) (fun _ hs => load_raw ⟨hs.1.blk⟩) (fun _ _ _ h => h) hS ?_
  refine rg_call 2 (some 5) 91 #[] (by kernel_rfl) (by kernel_rfl) (qUnit) ?_
  rintro e z1 ⟨A, K, DD, rfl, OU, hK, hB⟩
  refine ⟨_, rfl, ⟨hS.1.keep hB, trivial⟩, ?_⟩
  replace hS := (show _ ∧ _ from ⟨hS.1.keep hB, trivial⟩)
  replace h := h.keep hB
  replace X4 := X4.keep hB
  replace HB := joinB HB hB
  clear hB
  refine rg_call 3 (some 6) 87 #[.slice ao n c, .slice A K DD] (by kernel_rfl) (by kernel_rfl) (qReduced h OU.a (by omega) (by omega) (by decide)) ?_
  rintro e z2 ⟨Ar, Kr, Dr, As', Ks, Ds, rfl, Or1, Or2, hkr, hks, hB⟩
  refine ⟨_, rfl, ⟨hS.1.keep hB, trivial⟩, ?_⟩
  replace hS := (show _ ∧ _ from ⟨hS.1.keep hB, trivial⟩)
  replace h := h.keep hB
  replace X4 := X4.keep hB
  replace OU := OU.keep hB
  replace HB := joinB HB hB
  clear hB
  refine rg_ready [4] (by kernel_rfl) (by simp) ?_
  refine ar_store 4 30 30 2 6 (w.heap.size + 1) [.slice none 0 0, .slice none 0 0] [.slice Ar Kr Dr, .slice As' Ks Ds] (by kernel_rfl) (by kernel_rfl) (by kernel_rfl) (by kernel_rfl) X4 (by kernel_rfl) rfl (by kernel_rfl) ?_ ar_nil
  intro z3 Y hw hB
  refine ⟨⟨hS.1.off (by omega) hw, trivial⟩, ?_⟩
  replace hS := (show _ ∧ _ from ⟨hS.1.off (by omega) hw, trivial⟩)
  replace HB := HB.trans (hB.mono (by omega))
  replace h := h.blk X4 (no_ints2 _ _ _ _ _ _) hw
  skip
  replace OU := OU.blk X4 (no_ints2 _ _ _ _ _ _) hw
  replace Or1 := Or1.blk X4 (no_ints2 _ _ _ _ _ _) hw
  replace Or2 := Or2.blk X4 (no_ints2 _ _ _ _ _ _) hw
  replace X4 := Y
  clear hB hw
  refine rg_done (by kernel_rfl) ?_
  try simp only [Act.put, List.setIfInBounds_toArray, List.set_cons_zero, List.set_cons_succ]
  go_wp2
  refine bodyPost_ret (ret_rat rfl rfl X4) rfl ?_
  exact ⟨_, _, _, _, _, _, rfl, Or1, Or2, by omega, by omega, HB⟩
set_option maxHeartbeats 4000000 in
set_option maxRecDepth 100000 in
theorem qDown {w : World} {a0 b0 : Option Addr} {n0 c0 m0 d0 : Nat} {x0 y0 : Int} (h0 : NatA w a0 n0 c0 x0) (e0 : NatA w b0 m0 d0 y0) (hn0 : n0 ≤ 34359738368) (hm0 : m0 ≤ 34359738368) :
    Calls Tryz.prog 29 #[.agg #[.slice a0 n0 c0, .slice b0 m0 d0]] w fun e w' => ∃ a k d, e = .returned (.agg #[.slice a k d]) ∧ NatO w' a k d (cn x0 y0 * U36 / cd y0) ∧ k ≤ n0 + 39 ∧ Below w.heap.size w w' := by
  have HB := below2 w (.cells #[.slice a0 n0 c0, .slice b0 m0 d0] 30) (.cells #[.slice none 0 0] 46)
  have SP := (box_new w [.slice a0 n0 c0, .slice b0 m0 d0] 30).keep (below_alloc _ (.cells #[.slice none 0 0] 46))
  have X4 := box_new (w.alloc (.cells #[.slice a0 n0 c0, .slice b0 m0 d0] 30)) [.slice none 0 0] 46
  rw [show (w.alloc (.cells #[.slice a0 n0 c0, .slice b0 m0 d0] 30)).heap.size = w.heap.size + 1 by simp] at X4
  replace h0 := h0.keep HB
  replace e0 := e0.keep HB
  obtain ⟨p1, p2, p3, p4⟩ := SP.cells2
  have hld := load_rat SP
  go_enter Tryz.func29, Tryz.ntmps29
  go_wp2_with fail
  refine (qCounted h0 e0 (by omega) (by omega)).mono ?_
  rintro e w1 ⟨A0, K0, D0, B0', L0, M0, rfl, C0, E0, hK0, hL0, hB⟩
  replace X4 := X4.keep hB
  replace HB := joinB HB hB
  clear hB p1 p2 p3 p4 hld SP h0 e0
  have BA := below_alloc w1 (.cells #[.slice A0 K0 D0, .slice B0' L0 M0] 30)
  have PX := box_new w1 [.slice A0 K0 D0, .slice B0' L0 M0] 30
  have hne := X4.lt
  replace X4 := X4.keep BA
  replace C0 := C0.keep BA
  replace E0 := E0.keep BA
  replace HB := joinB HB BA
  obtain ⟨p1, p2, p3, p4⟩ := PX.cells2
  go_wp2_with fail
  refine rg_start (S := fun w' => Box w' w1.heap.size [.slice A0 K0 D0, .slice B0' L0 M0] 30 ∧ True) (by kernel_rfl) (⟨PX.drew, trivial⟩) ?_
  clear p1 p2 p3 p4 BA
  replace C0 := C0.drew
  replace E0 := E0.drew
  replace HB := HB.drew
  replace PX := PX.drew
  replace X4 := X4.drew
  have hS := (show _ ∧ _ from ⟨PX, trivial⟩)
  clear PX
  refine rg_take 0 (some 6) (.pointer (some ⟨w1.heap.size, 0, none⟩)) (by kernel_rfl) (fun _ _ => by kernel_rfl) (fun _ _ _ h => h) hS ?_
  refine rg_load 1 (some 7) (.slice A0 K0 D0) 28 6 (w1.heap.size) 0 (by kernel_rfl) (by kernel_rfl) (by kernel_rfl) (fun _ hs => load_at hs.1.cells2.1) (fun _ _ _ h => h) hS ?_
  refine rg_take 4 (some 10) (.pointer (some ⟨w1.heap.size, 1, none⟩)) (by kernel_rfl) (fun _ _ => by kernel_rfl) (fun _ _ _ h => h) hS ?_
  refine rg_load 5 (some 11) (.slice B0' L0 M0) 28 10 (w1.heap.size) 1 (by kernel_rfl) (by kernel_rfl) (by kernel_rfl) (fun _ hs => load_at hs.1.cells2.2.1) (fun _ _ _ h => h) hS ?_
  refine rg_call 2 (some 8) 91 #[] (by kernel_rfl) (by kernel_rfl) (qUnit) ?_
  rintro e z1 ⟨A, K, DD, rfl, OU, hK, hB⟩
  refine ⟨_, rfl, ⟨hS.1.keep hB, trivial⟩, ?_⟩
  replace hS := (show _ ∧ _ from ⟨hS.1.keep hB, trivial⟩)
  replace C0 := C0.keep hB
  replace E0 := E0.keep hB
  replace X4 := X4.keep hB
  replace HB := joinB HB hB
  clear hB
  refine rg_call 3 (some 9) 82 #[.slice A0 K0 D0, .slice A K DD] (by kernel_rfl) (by kernel_rfl) (nMul C0 OU.a (by omega) (by omega)) ?_
  rintro e z2 ⟨Ap, Kp, Dp, rfl, Op1, hkp, hB⟩
  refine ⟨_, rfl, ⟨hS.1.keep hB, trivial⟩, ?_⟩
  replace hS := (show _ ∧ _ from ⟨hS.1.keep hB, trivial⟩)
  replace C0 := C0.keep hB
  replace E0 := E0.keep hB
  replace X4 := X4.keep hB
  replace OU := OU.keep hB
  replace HB := joinB HB hB
  clear hB
  refine rg_call 6 (some 12) 83 #[.slice Ap Kp Dp, .slice B0' L0 M0] (by kernel_rfl) (by kernel_rfl) (qQuot Op1.a E0 (by omega) (by omega) (cd_ne _)) ?_
  rintro e z3 ⟨Ar, Kr, Dr, rfl, Or1, hkr, hB⟩
  refine ⟨_, rfl, ⟨hS.1.keep hB, trivial⟩, ?_⟩
  replace hS := (show _ ∧ _ from ⟨hS.1.keep hB, trivial⟩)
  replace C0 := C0.keep hB
  replace E0 := E0.keep hB
  replace X4 := X4.keep hB
  replace OU := OU.keep hB
  replace Op1 := Op1.keep hB
  replace HB := joinB HB hB
  clear hB
  refine rg_take 7 (some 13) (.agg #[.slice Ar Kr Dr]) (by kernel_rfl) (fun _ _ => by kernel_rfl) (fun _ _ _ h => h) hS ?_
  refine rg_ready [8] (by kernel_rfl) (by simp) ?_
  refine ar_store 8 46 46 2 13 (w.heap.size + 1) [.slice none 0 0] [.slice Ar Kr Dr] (by kernel_rfl) (by kernel_rfl) (by kernel_rfl) (by kernel_rfl) X4 (by kernel_rfl) rfl (by kernel_rfl) ?_ ar_nil
  intro z4 Y hw hB
  refine ⟨⟨hS.1.off (by omega) hw, trivial⟩, ?_⟩
  replace hS := (show _ ∧ _ from ⟨hS.1.off (by omega) hw, trivial⟩)
  replace HB := HB.trans (hB.mono (by omega))
  replace C0 := C0.blk X4 (no_ints1 _ _ _) hw
  replace E0 := E0.blk X4 (no_ints1 _ _ _) hw
  skip
  replace OU := OU.blk X4 (no_ints1 _ _ _) hw
  replace Op1 := Op1.blk X4 (no_ints1 _ _ _) hw
  replace Or1 := Or1.blk X4 (no_ints1 _ _ _) hw
  replace X4 := Y
  clear hB hw
  refine rg_done (by kernel_rfl) ?_
  try simp only [Act.put, List.setIfInBounds_toArray, List.set_cons_zero, List.set_cons_succ]
  go_wp2
  refine bodyPost_ret (ret_dec rfl rfl ⟨X4.blk⟩) rfl ?_
  exact ⟨_, _, _, rfl, Or1, by omega, HB⟩
end Go.Proofs.YtjihgkanbhccpaaGreatDoor

namespace Go.Proofs.YtjihgkanbhccpaaGreatDoor
open Go.RowKit Lim

theorem isN_one1 {x : Int} (h0 : 0 < x) (h1 : x < 18446744073709551616) : IsN [x] x := by
  have hw : Words [x] := fun y hy => by
    rw [List.mem_singleton] at hy; subst hy; omega
  refine ⟨hw, ?_, val_single x⟩
  have : x ≠ 0 := by omega
  simp [nlen, this]
theorem natO_lit (w : World) (x : Int) (h0 : 0 < x) (h1 : x < 18446744073709551616) : NatO (w.alloc (.cells #[.int .u64 x] 39)) (some ⟨w.heap.size, 0, none⟩) 1 1 x :=
  ⟨w.heap.size, 0, [x], rfl, Nat.le_refl _, isN_one1 h0 h1, (Row.built1 w x).at⟩
theorem red_is {N D p q : Int} (h : Red N D p q) (n d : Int) (hq : 0 < q) (hn : 0 ≤ n) (hd : 0 < d) (hc : Int.gcd n d = 1) (e : n * q = p * d) : N = n ∧ D = d := Red.unique h ⟨hn, hd, hc, e⟩ hq hq rfl
theorem qSameT {w : World} {a0 b0 : Option Addr} {n0 c0 m0 d0 : Nat} {a1 b1 : Option Addr} {n1 c1 m1 d1 : Nat} {x y : Int} (h0 : NatO w a0 n0 c0 x) (e0 : NatO w b0 m0 d0 y) (hn0 : n0 ≤ 4398046511104) (hm0 : m0 ≤ 4398046511104) (h1 : NatO w a1 n1 c1 x) (e1 : NatO w b1 m1 d1 y) (hn1 : n1 ≤ 4398046511104) (hm1 : m1 ≤ 4398046511104) :
    Calls Tryz.prog 16 #[.agg #[.slice a0 n0 c0, .slice b0 m0 d0], .agg #[.slice a1 n1 c1, .slice b1 m1 d1]] w fun e w' => e = .returned (.bool true) ∧ Below w.heap.size w w' := by
  have t := qSame h0 e0 hn0 hm0 h1 e1 hn1 hm1
  rw [decide_eq_true (show x = x ∧ y = y from ⟨rfl, rfl⟩)] at t
  exact t
theorem nSameT {w : World} {a0 a1 : Option Addr} {n0 c0 n1 c1 : Nat} {x : Int} (h0 : NatO w a0 n0 c0 x) (h1 : NatO w a1 n1 c1 x) (hn0 : n0 ≤ 4398046511104) (hn1 : n1 ≤ 4398046511104) :
    Calls Tryz.prog 42 #[.slice a0 n0 c0, .slice a1 n1 c1] w fun e w' => e = .returned (.bool true) ∧ Below w.heap.size w w' := by
  have t := nSame h0 h1 hn0 hn1
  rw [decide_eq_true (show x = x from rfl)] at t
  exact t
theorem qCmpIs {w : World} {a0 b0 : Option Addr} {n0 c0 m0 d0 : Nat} {x0 y0 : Int} {a1 b1 : Option Addr} {n1 c1 m1 d1 : Nat} {x1 y1 : Int} (h0 : NatA w a0 n0 c0 x0) (e0 : NatA w b0 m0 d0 y0) (hn0 : n0 ≤ 34359738368) (hm0 : m0 ≤ 34359738368) (h1 : NatA w a1 n1 c1 x1) (e1 : NatA w b1 m1 d1 y1) (hn1 : n1 ≤ 34359738368) (hm1 : m1 ≤ 34359738368) (r : Int) (hr : sgn (cn x0 y0 * cd y1) (cn x1 y1 * cd y0) = r) :
    Calls Tryz.prog 19 #[.agg #[.slice a0 n0 c0, .slice b0 m0 d0], .agg #[.slice a1 n1 c1, .slice b1 m1 d1]] w fun e w' => e = .returned (.int .i64 r) ∧ Below w.heap.size w w' := by
  have t := qCmp h0 e0 hn0 hm0 h1 e1 hn1 hm1
  rw [hr] at t
  exact t
set_option maxHeartbeats 16000000 in
set_option maxRecDepth 100000 in
theorem knownQ (w : World) : Calls Tryz.prog 13 #[] w fun e w' => e = .returned (.bool true) ∧ Below w.heap.size w w' := by
  have HB := Below.refl w.heap.size w
  go_enter Tryz.func13, Tryz.ntmps13
  have L1 := natO_lit (w) 6 (by decide) (by decide)
  have BA := below_alloc (w) (.cells #[.int .u64 6] 39)
  replace HB := joinB HB BA
  clear BA
  have L2 := natO_lit ((w).alloc (.cells #[.int .u64 6] 39)) 4 (by decide) (by decide)
  rw [show ((w).alloc (.cells #[.int .u64 6] 39)).heap.size = w.heap.size + 1 by simp] at L2
  have BA := below_alloc ((w).alloc (.cells #[.int .u64 6] 39)) (.cells #[.int .u64 4] 39)
  replace L1 := L1.keep BA
  replace HB := joinB HB BA
  clear BA
  go_wp2_with fail
  refine (qOf L1.a L2.a (by omega) (by omega) (by decide)).mono ?_
  rintro e k1 ⟨A1, N1, C1, B1, M1, D1, rfl, RA1, RA2, hA1, hA2, hB⟩
  clear L1 L2
  replace HB := joinB HB hB
  clear hB
  replace RA1 := RA1.eqv (show _ = (3 : Int) by decide)
  replace RA2 := RA2.eqv (show _ = (2 : Int) by decide)
  have X1 := box_new (k1) [.slice A1 N1 C1, .slice B1 M1 D1] 30
  have BA := below_alloc (k1) (.cells #[.slice A1 N1 C1, .slice B1 M1 D1] 30)
  replace RA1 := RA1.keep BA
  replace RA2 := RA2.keep BA
  replace HB := joinB HB BA
  clear BA
  go_wp2_with fail
  refine (qFrac (x := 1) (y := 3) (by decide) (by decide) (by decide) (by decide)).mono ?_
  rintro e k2 ⟨Ap, Np, Cp, Bp, Mp, Dp, rfl, Fp, Gp, hFp, hGp, hB⟩
  replace RA1 := RA1.keep hB
  replace RA2 := RA2.keep hB
  replace X1 := X1.keep hB
  replace HB := joinB HB hB
  clear hB
  replace Fp := Fp.eqv (show _ = (1 : Int) by decide)
  replace Gp := Gp.eqv (show _ = (3 : Int) by decide)
  go_wp2_with fail
  refine (qFrac (x := 1) (y := 2) (by decide) (by decide) (by decide) (by decide)).mono ?_
  rintro e k3 ⟨Aq, Nq, Cq, Bq, Mq, Dq, rfl, Fq, Gq, hFq, hGq, hB⟩
  replace RA1 := RA1.keep hB
  replace RA2 := RA2.keep hB
  replace X1 := X1.keep hB
  replace Fp := Fp.keep hB
  replace Gp := Gp.keep hB
  replace HB := joinB HB hB
  clear hB
  replace Fq := Fq.eqv (show _ = (1 : Int) by decide)
  replace Gq := Gq.eqv (show _ = (2 : Int) by decide)
  go_wp2_with fail
  refine (qSubRLt Fp.a Gp.a (by omega) (by omega) Fq.a Gq.a (by omega) (by omega) (by decide)).mono ?_
  rintro e k4 ⟨rfl, hB⟩
  clear Fp Gp Fq Gq
  replace RA1 := RA1.keep hB
  replace RA2 := RA2.keep hB
  replace X1 := X1.keep hB
  replace HB := joinB HB hB
  clear hB
  have X3 := box_new (k4) [.slice none 0 0, .slice none 0 0] 30
  have BA := below_alloc (k4) (.cells #[.slice none 0 0, .slice none 0 0] 30)
  replace RA1 := RA1.keep BA
  replace RA2 := RA2.keep BA
  replace X1 := X1.keep BA
  replace HB := joinB HB BA
  clear BA
  have L1 := natO_lit ((k4).alloc (.cells #[.slice none 0 0, .slice none 0 0] 30)) 1 (by decide) (by decide)
  rw [show ((k4).alloc (.cells #[.slice none 0 0, .slice none 0 0] 30)).heap.size = k4.heap.size + 1 by simp] at L1
  have BA := below_alloc ((k4).alloc (.cells #[.slice none 0 0, .slice none 0 0] 30)) (.cells #[.int .u64 1] 39)
  replace RA1 := RA1.keep BA
  replace RA2 := RA2.keep BA
  replace X1 := X1.keep BA
  replace HB := joinB HB BA
  clear BA
  go_wp2_with fail
  refine (qOfZ (v := .slice (some ⟨_, 0, none⟩) 1 1) (natO_nil _).a (by omega) rfl).mono ?_
  rintro e k5 ⟨rfl, hB⟩
  clear L1
  replace RA1 := RA1.keep hB
  replace RA2 := RA2.keep hB
  replace X1 := X1.keep hB
  replace HB := joinB HB hB
  clear hB
  have X5 := box_new (k5) [.slice none 0 0, .slice none 0 0] 30
  have BA := below_alloc (k5) (.cells #[.slice none 0 0, .slice none 0 0] 30)
  replace RA1 := RA1.keep BA
  replace RA2 := RA2.keep BA
  replace X1 := X1.keep BA
  replace HB := joinB HB BA
  clear BA
  go_wp2_with fail
  refine (qFrac (x := 1) (y := 3) (by decide) (by decide) (by decide) (by decide)).mono ?_
  rintro e k6 ⟨Ar, Nr, Cr, Br, Mr, Dr, rfl, Fr, Gr, hFr, hGr, hB⟩
  replace RA1 := RA1.keep hB
  replace RA2 := RA2.keep hB
  replace X1 := X1.keep hB
  replace HB := joinB HB hB
  clear hB
  replace Fr := Fr.eqv (show _ = (1 : Int) by decide)
  replace Gr := Gr.eqv (show _ = (3 : Int) by decide)
  go_wp2_with fail
  refine (qFrac (x := 1) (y := 2) (by decide) (by decide) (by decide) (by decide)).mono ?_
  rintro e k7 ⟨As, Ns, Cs, Bs, Ms, Ds, rfl, Fs, Gs, hFs, hGs, hB⟩
  replace RA1 := RA1.keep hB
  replace RA2 := RA2.keep hB
  replace X1 := X1.keep hB
  replace Fr := Fr.keep hB
  replace Gr := Gr.keep hB
  replace HB := joinB HB hB
  clear hB
  replace Fs := Fs.eqv (show _ = (1 : Int) by decide)
  replace Gs := Gs.eqv (show _ = (2 : Int) by decide)
  go_wp2_with fail
  refine (qQuo Fr.a Gr.a (by omega) (by omega) Fs.a Gs.a (by omega) (by omega) (by decide) (by decide)).mono ?_
  rintro e k8 ⟨A2, N2, C2, B2, M2, D2, rfl, RQ1, RQ2, hQ1, hQ2, hB⟩
  clear Fr Gr Fs Gs
  replace RA1 := RA1.keep hB
  replace RA2 := RA2.keep hB
  replace X1 := X1.keep hB
  replace HB := joinB HB hB
  clear hB
  replace RQ1 := RQ1.eqv (show _ = (2 : Int) by decide)
  replace RQ2 := RQ2.eqv (show _ = (3 : Int) by decide)
  have X7 := box_new (k8) [.slice A2 N2 C2, .slice B2 M2 D2] 30
  have BA := below_alloc (k8) (.cells #[.slice A2 N2 C2, .slice B2 M2 D2] 30)
  replace RA1 := RA1.keep BA
  replace RA2 := RA2.keep BA
  replace X1 := X1.keep BA
  replace RQ1 := RQ1.keep BA
  replace RQ2 := RQ2.keep BA
  replace HB := joinB HB BA
  clear BA
  have H1 := natO_lit ((k8).alloc (.cells #[.slice A2 N2 C2, .slice B2 M2 D2] 30)) 1 (by decide) (by decide)
  rw [show ((k8).alloc (.cells #[.slice A2 N2 C2, .slice B2 M2 D2] 30)).heap.size = k8.heap.size + 1 by simp] at H1
  have BA := below_alloc ((k8).alloc (.cells #[.slice A2 N2 C2, .slice B2 M2 D2] 30)) (.cells #[.int .u64 1] 39)
  replace RA1 := RA1.keep BA
  replace RA2 := RA2.keep BA
  replace X1 := X1.keep BA
  replace RQ1 := RQ1.keep BA
  replace RQ2 := RQ2.keep BA
  replace X7 := X7.keep BA
  replace HB := joinB HB BA
  clear BA
  have H2 := natO_lit (((k8).alloc (.cells #[.slice A2 N2 C2, .slice B2 M2 D2] 30)).alloc (.cells #[.int .u64 1] 39)) 2 (by decide) (by decide)
  rw [show (((k8).alloc (.cells #[.slice A2 N2 C2, .slice B2 M2 D2] 30)).alloc (.cells #[.int .u64 1] 39)).heap.size = k8.heap.size + 1 + 1 by simp] at H2
  have BA := below_alloc (((k8).alloc (.cells #[.slice A2 N2 C2, .slice B2 M2 D2] 30)).alloc (.cells #[.int .u64 1] 39)) (.cells #[.int .u64 2] 39)
  replace RA1 := RA1.keep BA
  replace RA2 := RA2.keep BA
  replace X1 := X1.keep BA
  replace RQ1 := RQ1.keep BA
  replace RQ2 := RQ2.keep BA
  replace X7 := X7.keep BA
  replace H1 := H1.keep BA
  replace HB := joinB HB BA
  clear BA
  have X9 := box_new ((((k8).alloc (.cells #[.slice A2 N2 C2, .slice B2 M2 D2] 30)).alloc (.cells #[.int .u64 1] 39)).alloc (.cells #[.int .u64 2] 39)) [.slice (some ⟨k8.heap.size + 1, 0, none⟩) 1 1, .slice (some ⟨k8.heap.size + 1 + 1, 0, none⟩) 1 1] 30
  rw [show ((((k8).alloc (.cells #[.slice A2 N2 C2, .slice B2 M2 D2] 30)).alloc (.cells #[.int .u64 1] 39)).alloc (.cells #[.int .u64 2] 39)).heap.size = k8.heap.size + 1 + 1 + 1 by simp] at X9
  have BA := below_alloc ((((k8).alloc (.cells #[.slice A2 N2 C2, .slice B2 M2 D2] 30)).alloc (.cells #[.int .u64 1] 39)).alloc (.cells #[.int .u64 2] 39)) (.cells #[.slice (some ⟨k8.heap.size + 1, 0, none⟩) 1 1, .slice (some ⟨k8.heap.size + 1 + 1, 0, none⟩) 1 1] 30)
  replace RA1 := RA1.keep BA
  replace RA2 := RA2.keep BA
  replace X1 := X1.keep BA
  replace RQ1 := RQ1.keep BA
  replace RQ2 := RQ2.keep BA
  replace X7 := X7.keep BA
  replace H1 := H1.keep BA
  replace H2 := H2.keep BA
  replace HB := joinB HB BA
  clear BA
  obtain ⟨i1, i2, i3, i4⟩ := X1.cells2
  have L3 := natO_lit (((((k8).alloc (.cells #[.slice A2 N2 C2, .slice B2 M2 D2] 30)).alloc (.cells #[.int .u64 1] 39)).alloc (.cells #[.int .u64 2] 39)).alloc (.cells #[.slice (some ⟨k8.heap.size + 1, 0, none⟩) 1 1, .slice (some ⟨k8.heap.size + 1 + 1, 0, none⟩) 1 1] 30)) 3 (by decide) (by decide)
  rw [show (((((k8).alloc (.cells #[.slice A2 N2 C2, .slice B2 M2 D2] 30)).alloc (.cells #[.int .u64 1] 39)).alloc (.cells #[.int .u64 2] 39)).alloc (.cells #[.slice (some ⟨k8.heap.size + 1, 0, none⟩) 1 1, .slice (some ⟨k8.heap.size + 1 + 1, 0, none⟩) 1 1] 30)).heap.size = k8.heap.size + 1 + 1 + 1 + 1 by simp] at L3
  have BA := below_alloc (((((k8).alloc (.cells #[.slice A2 N2 C2, .slice B2 M2 D2] 30)).alloc (.cells #[.int .u64 1] 39)).alloc (.cells #[.int .u64 2] 39)).alloc (.cells #[.slice (some ⟨k8.heap.size + 1, 0, none⟩) 1 1, .slice (some ⟨k8.heap.size + 1 + 1, 0, none⟩) 1 1] 30)) (.cells #[.int .u64 3] 39)
  replace RA1 := RA1.keep BA
  replace RA2 := RA2.keep BA
  replace X1 := X1.keep BA
  replace RQ1 := RQ1.keep BA
  replace RQ2 := RQ2.keep BA
  replace X7 := X7.keep BA
  replace H1 := H1.keep BA
  replace H2 := H2.keep BA
  replace X9 := X9.keep BA
  replace HB := joinB HB BA
  clear BA
  have L2 := natO_lit ((((((k8).alloc (.cells #[.slice A2 N2 C2, .slice B2 M2 D2] 30)).alloc (.cells #[.int .u64 1] 39)).alloc (.cells #[.int .u64 2] 39)).alloc (.cells #[.slice (some ⟨k8.heap.size + 1, 0, none⟩) 1 1, .slice (some ⟨k8.heap.size + 1 + 1, 0, none⟩) 1 1] 30)).alloc (.cells #[.int .u64 3] 39)) 2 (by decide) (by decide)
  rw [show ((((((k8).alloc (.cells #[.slice A2 N2 C2, .slice B2 M2 D2] 30)).alloc (.cells #[.int .u64 1] 39)).alloc (.cells #[.int .u64 2] 39)).alloc (.cells #[.slice (some ⟨k8.heap.size + 1, 0, none⟩) 1 1, .slice (some ⟨k8.heap.size + 1 + 1, 0, none⟩) 1 1] 30)).alloc (.cells #[.int .u64 3] 39)).heap.size = k8.heap.size + 1 + 1 + 1 + 1 + 1 by simp] at L2
  have BA := below_alloc ((((((k8).alloc (.cells #[.slice A2 N2 C2, .slice B2 M2 D2] 30)).alloc (.cells #[.int .u64 1] 39)).alloc (.cells #[.int .u64 2] 39)).alloc (.cells #[.slice (some ⟨k8.heap.size + 1, 0, none⟩) 1 1, .slice (some ⟨k8.heap.size + 1 + 1, 0, none⟩) 1 1] 30)).alloc (.cells #[.int .u64 3] 39)) (.cells #[.int .u64 2] 39)
  replace RA1 := RA1.keep BA
  replace RA2 := RA2.keep BA
  replace X1 := X1.keep BA
  replace RQ1 := RQ1.keep BA
  replace RQ2 := RQ2.keep BA
  replace X7 := X7.keep BA
  replace H1 := H1.keep BA
  replace H2 := H2.keep BA
  replace X9 := X9.keep BA
  replace L3 := L3.keep BA
  replace HB := joinB HB BA
  clear BA
  go_wp2_with fail
  refine (qSameT RA1 RA2 (by omega) (by omega) L3 L2 (by omega) (by omega)).mono ?_
  rintro e k9 ⟨rfl, hB⟩
  clear RA1 RA2 X1 L3 L2
  replace RQ1 := RQ1.keep hB
  replace RQ2 := RQ2.keep hB
  replace X7 := X7.keep hB
  replace H1 := H1.keep hB
  replace H2 := H2.keep hB
  replace X9 := X9.keep hB
  replace HB := joinB HB hB
  clear hB
  clear i1 i2 i3 i4
  obtain ⟨i1, i2, i3, i4⟩ := X7.cells2
  have L2 := natO_lit (k9) 2 (by decide) (by decide)
  have BA := below_alloc (k9) (.cells #[.int .u64 2] 39)
  replace RQ1 := RQ1.keep BA
  replace RQ2 := RQ2.keep BA
  replace X7 := X7.keep BA
  replace H1 := H1.keep BA
  replace H2 := H2.keep BA
  replace X9 := X9.keep BA
  replace HB := joinB HB BA
  clear BA
  have L3 := natO_lit ((k9).alloc (.cells #[.int .u64 2] 39)) 3 (by decide) (by decide)
  rw [show ((k9).alloc (.cells #[.int .u64 2] 39)).heap.size = k9.heap.size + 1 by simp] at L3
  have BA := below_alloc ((k9).alloc (.cells #[.int .u64 2] 39)) (.cells #[.int .u64 3] 39)
  replace RQ1 := RQ1.keep BA
  replace RQ2 := RQ2.keep BA
  replace X7 := X7.keep BA
  replace H1 := H1.keep BA
  replace H2 := H2.keep BA
  replace X9 := X9.keep BA
  replace L2 := L2.keep BA
  replace HB := joinB HB BA
  clear BA
  go_wp2_with fail
  refine (qSameT RQ1 RQ2 (by omega) (by omega) L2 L3 (by omega) (by omega)).mono ?_
  rintro e k10 ⟨rfl, hB⟩
  clear RQ1 RQ2 X7 L3 L2
  replace H1 := H1.keep hB
  replace H2 := H2.keep hB
  replace X9 := X9.keep hB
  replace HB := joinB HB hB
  clear hB
  clear i1 i2 i3 i4
  go_wp2_with fail
  refine rg_start (S := fun w' => Below k10.drew.heap.size k10.drew w') (by kernel_rfl) (Below.refl _ _) ?_
  replace H1 := H1.drew
  replace H2 := H2.drew
  replace X9 := X9.drew
  replace HB := HB.drew
  have U9 := X9
  clear X9
  have hS := Below.refl k10.drew.heap.size k10.drew
  refine rg_load 3 (some 67) (.agg #[.slice (some ⟨k8.heap.size + 1, 0, none⟩) 1 1, .slice (some ⟨k8.heap.size + 1 + 1, 0, none⟩) 1 1]) 30 9 (k8.heap.size + 1 + 1 + 1) 0 (by kernel_rfl) (by kernel_rfl) (by kernel_rfl) (fun _ hb => load_rat (U9.keep hb)) (fun _ _ _ h => h) hS ?_
  refine rg_ready [0] (by kernel_rfl) (by simp) ?_
  refine ar_call 0 (some 64) 74 #[.int .u64 1, .int .u64 3] (by kernel_rfl) (by kernel_rfl) (qFrac (x := 1) (y := 3) (by decide) (by decide) (by decide) (by decide)) ?_ ?_
  · rintro e v1 ⟨Aa, Na, Ca, Ba, Ma, Da, rfl, Fa, Ga, hFa, hGa, hB⟩
    refine ⟨_, rfl, joinB hS hB, ?_⟩
    replace hS := joinB hS hB
    replace HB := joinB HB hB
    replace H1 := H1.keep hB
    replace H2 := H2.keep hB
    clear hB
    replace Fa := Fa.eqv (show _ = (1 : Int) by decide)
    replace Ga := Ga.eqv (show _ = (3 : Int) by decide)
    refine rg_ready [1] (by kernel_rfl) (by simp) ?_
    refine ar_call 1 (some 65) 74 #[.int .u64 1, .int .u64 6] (by kernel_rfl) (by kernel_rfl) (qFrac (x := 1) (y := 6) (by decide) (by decide) (by decide) (by decide)) ?_ ?_
    · rintro e v2 ⟨Ab, Nb, Cb, Bb, Mb, Db, rfl, Fb, Gb, hFb, hGb, hB⟩
      refine ⟨_, rfl, joinB hS hB, ?_⟩
      replace hS := joinB hS hB
      replace HB := joinB HB hB
      replace H1 := H1.keep hB
      replace H2 := H2.keep hB
      replace Fa := Fa.keep hB
      replace Ga := Ga.keep hB
      clear hB
      replace Fb := Fb.eqv (show _ = (1 : Int) by decide)
      replace Gb := Gb.eqv (show _ = (6 : Int) by decide)
      refine rg_ready [2] (by kernel_rfl) (by simp) ?_
      refine ar_call 2 (some 66) 18 #[.agg #[.slice Aa Na Ca, .slice Ba Ma Da], .agg #[.slice Ab Nb Cb, .slice Bb Mb Db]] (by kernel_rfl) (by kernel_rfl) (qAdd (B := 1) Fa.a Ga.a (by omega) (by omega) Fb.a Gb.a (by omega) (by omega) (by omega)) ?_ ?_
      · rintro e v3 ⟨Ac, Nc, Cc, Bc, Mc, Dc, n1, n2, rfl, Fc, Gc, hR, hFc, hGc, hB⟩
        obtain ⟨rfl, rfl⟩ := red_is hR 1 2 (by decide) (by decide) (by decide) (by decide) (by decide)
        clear hR
        refine ⟨_, rfl, joinB hS hB, ?_⟩
        replace hS := joinB hS hB
        replace HB := joinB HB hB
        clear Fa Ga Fb Gb
        replace H1 := H1.keep hB
        replace H2 := H2.keep hB
        clear hB
        refine rg_ready [4] (by kernel_rfl) (by simp) ?_
        refine ar_call 4 (some 68) 16 #[.agg #[.slice Ac Nc Cc, .slice Bc Mc Dc], .agg #[.slice (some ⟨k8.heap.size + 1, 0, none⟩) 1 1, .slice (some ⟨k8.heap.size + 1 + 1, 0, none⟩) 1 1]] (by kernel_rfl) (by kernel_rfl) (qSameT Fc Gc (by omega) (by omega) H1 H2 (by omega) (by omega)) ?_ ?_
        · rintro e v4 ⟨rfl, hB⟩
          refine ⟨_, rfl, joinB hS hB, ?_⟩
          replace hS := joinB hS hB
          replace HB := joinB HB hB
          clear Fc Gc
          replace H1 := H1.keep hB
          replace H2 := H2.keep hB
          clear hB
          refine rg_take 5 (some 69) (.bool true) (by kernel_rfl) (fun _ _ => by kernel_rfl) (fun _ _ _ h => h) hS ?_
          refine rg_ready [6, 8] (by kernel_rfl) (by simp) ?_
          refine ar_call 6 (some 70) 74 #[.int .u64 7, .int .u64 2] (by kernel_rfl) (by kernel_rfl) (qFrac (x := 7) (y := 2) (by decide) (by decide) (by decide) (by decide)) ?_ ?_
          · rintro e v5 ⟨Ad, Nd, Cd, Bd, Md, Dd, rfl, Fd, Gd, hFd, hGd, hB⟩
            refine ⟨_, rfl, joinB hS hB, ?_⟩
            replace hS := joinB hS hB
            replace HB := joinB HB hB
            replace H1 := H1.keep hB
            replace H2 := H2.keep hB
            clear hB
            replace Fd := Fd.eqv (show _ = (7 : Int) by decide)
            replace Gd := Gd.eqv (show _ = (2 : Int) by decide)
            refine rg_ready [7, 8] (by kernel_rfl) (by simp) ?_
            refine ar_call 7 (some 71) 20 #[.agg #[.slice Ad Nd Cd, .slice Bd Md Dd]] (by kernel_rfl) (by kernel_rfl) (qFloor Fd.a Gd.a (by omega) (by omega)) ?_ ?_
            · rintro e v6 ⟨Ae, Ne, Ce, rfl, Fe, hFe, hB⟩
              refine ⟨_, rfl, joinB hS hB, ?_⟩
              replace hS := joinB hS hB
              replace HB := joinB HB hB
              clear Fd Gd
              replace H1 := H1.keep hB
              replace H2 := H2.keep hB
              clear hB
              replace Fe := Fe.eqv (show _ = (3 : Int) by decide)
              refine rg_ready [8] (by kernel_rfl) (by simp) ?_
              refine ar_val 8 (some 72) (.slice (some ⟨v6.heap.size, 0, none⟩) 1 1) (v6.alloc (.cells #[.int .u64 3] 39)) (by kernel_rfl) (by kernel_rfl) (joinB hS (below_alloc _ _)) ?_ ?_
              · have Y72 := natO_lit (v6) 3 (by decide) (by decide)
                have hB := below_alloc (v6) (.cells #[.int .u64 3] 39)
                replace hS := joinB hS hB
                replace HB := joinB HB hB
                replace H1 := H1.keep hB
                replace H2 := H2.keep hB
                replace Fe := Fe.keep hB
                clear hB
                generalize v6.alloc (.cells #[.int .u64 3] 39) = v7 at *
                refine rg_ready [9] (by kernel_rfl) (by simp) ?_
                refine ar_call 9 (some 73) 42 #[.slice Ae Ne Ce, .slice (some ⟨v6.heap.size, 0, none⟩) 1 1] (by kernel_rfl) (by kernel_rfl) (nSameT Fe Y72 (by omega) (by omega)) ?_ ?_
                · rintro e v8 ⟨rfl, hB⟩
                  refine ⟨_, rfl, joinB hS hB, ?_⟩
                  replace hS := joinB hS hB
                  replace HB := joinB HB hB
                  clear Fe Y72
                  replace H1 := H1.keep hB
                  replace H2 := H2.keep hB
                  clear hB
                  refine rg_take 10 (some 74) (.bool true) (by kernel_rfl) (fun _ _ => by kernel_rfl) (fun _ _ _ h => h) hS ?_
                  refine rg_take 11 (some 75) (.bool true) (by kernel_rfl) (fun _ _ => by kernel_rfl) (fun _ _ _ h => h) hS ?_
                  refine rg_ready [12, 13] (by kernel_rfl) (by simp) ?_
                  refine ar_call 12 (some 76) 17 #[.slice none 0 0] (by kernel_rfl) (by kernel_rfl) (qSum (l := []) (B := 0) rfl (by omega) ⟨fun i hi => by simp at hi⟩ (by omega) (by omega) (by omega)) ?_ ?_
                  · rintro e v9 ⟨Af, Nf, Cf, Bf, Mf, Df, n3, n4, rfl, Ff, Gf, hR, hFf, hGf, hB⟩
                    obtain ⟨rfl, rfl⟩ := red_is hR 0 1 (by decide) (by decide) (by decide) (by decide) (by decide)
                    clear hR
                    refine ⟨_, rfl, joinB hS hB, ?_⟩
                    replace hS := joinB hS hB
                    replace HB := joinB HB hB
                    replace H1 := H1.keep hB
                    replace H2 := H2.keep hB
                    clear hB
                    refine rg_ready [13] (by kernel_rfl) (by simp) ?_
                    refine ar_val 13 (some 77) (.slice (some ⟨v9.heap.size, 0, none⟩) 1 1) (v9.alloc (.cells #[.int .u64 1] 39)) (by kernel_rfl) (by kernel_rfl) (joinB hS (below_alloc _ _)) ?_ ?_
                    · have Y77 := natO_lit (v9) 1 (by decide) (by decide)
                      have hB := below_alloc (v9) (.cells #[.int .u64 1] 39)
                      replace hS := joinB hS hB
                      replace HB := joinB HB hB
                      replace H1 := H1.keep hB
                      replace H2 := H2.keep hB
                      replace Ff := Ff.keep hB
                      replace Gf := Gf.keep hB
                      clear hB
                      generalize v9.alloc (.cells #[.int .u64 1] 39) = v10 at *
                      refine rg_take 14 (some 78) (.agg #[.slice none 0 0, .slice (some ⟨v9.heap.size, 0, none⟩) 1 1]) (by kernel_rfl) (fun _ _ => by kernel_rfl) (fun _ _ _ h => h) hS ?_
                      refine rg_ready [15] (by kernel_rfl) (by simp) ?_
                      refine ar_call 15 (some 79) 16 #[.agg #[.slice Af Nf Cf, .slice Bf Mf Df], .agg #[.slice none 0 0, .slice (some ⟨v9.heap.size, 0, none⟩) 1 1]] (by kernel_rfl) (by kernel_rfl) (qSameT Ff Gf (by omega) (by omega) (natO_nil _) Y77 (by omega) (by omega)) ?_ ?_
                      · rintro e v11 ⟨rfl, hB⟩
                        refine ⟨_, rfl, joinB hS hB, ?_⟩
                        replace hS := joinB hS hB
                        replace HB := joinB HB hB
                        clear Ff Gf Y77
                        replace H1 := H1.keep hB
                        replace H2 := H2.keep hB
                        clear hB
                        refine rg_take 16 (some 80) (.bool true) (by kernel_rfl) (fun _ _ => by kernel_rfl) (fun _ _ _ h => h) hS ?_
                        refine rg_take 17 (some 81) (.bool true) (by kernel_rfl) (fun _ _ => by kernel_rfl) (fun _ _ _ h => h) hS ?_
                        refine rg_take 18 (some 82) (.agg #[.slice none 0 0, .slice none 0 0]) (by kernel_rfl) (fun _ _ => by kernel_rfl) (fun _ _ _ h => h) hS ?_
                        refine rg_ready [19] (by kernel_rfl) (by simp) ?_
                        refine ar_call 19 (some 83) 21 #[.slice none 0 0] (by kernel_rfl) (by kernel_rfl) (qOfNat (natO_nil _).a (by omega)) ?_ ?_
                        · rintro e v12 ⟨Ag, Ng, Cg, Bg, Mg, Dg, rfl, Fg, Gg, hFg, hGg, hB⟩
                          refine ⟨_, rfl, joinB hS hB, ?_⟩
                          replace hS := joinB hS hB
                          replace HB := joinB HB hB
                          replace H1 := H1.keep hB
                          replace H2 := H2.keep hB
                          clear hB
                          refine rg_ready [20] (by kernel_rfl) (by simp) ?_
                          refine ar_call 20 (some 84) 19 #[.agg #[.slice none 0 0, .slice none 0 0], .agg #[.slice Ag Ng Cg, .slice Bg Mg Dg]] (by kernel_rfl) (by kernel_rfl) (qCmpIs (natO_nil _).a (natO_nil _).a (by omega) (by omega) Fg.a Gg.a (by omega) (by omega) 0 (by decide)) ?_ ?_
                          · rintro e v13 ⟨rfl, hB⟩
                            refine ⟨_, rfl, joinB hS hB, ?_⟩
                            replace hS := joinB hS hB
                            replace HB := joinB HB hB
                            clear Fg Gg
                            replace H1 := H1.keep hB
                            replace H2 := H2.keep hB
                            clear hB
                            refine rg_take 21 (some 85) (.bool true) (by kernel_rfl) (fun _ _ => by kernel_rfl) (fun _ _ _ h => h) hS ?_
                            refine rg_take 22 (some 86) (.bool true) (by kernel_rfl) (fun _ _ => by kernel_rfl) (fun _ _ _ h => h) hS ?_
                            refine rg_take 23 (some 87) (.bool true) (by kernel_rfl) (fun _ _ => by kernel_rfl) (fun _ _ _ h => h) hS ?_
                            refine rg_ready [24] (by kernel_rfl) (by simp) ?_
                            refine ar_call 24 (some 88) 74 #[.int .u64 1, .int .u64 3] (by kernel_rfl) (by kernel_rfl) (qFrac (x := 1) (y := 3) (by decide) (by decide) (by decide) (by decide)) ?_ ?_
                            · rintro e v14 ⟨Ah, Nh, Ch, Bh, Mh, Dh, rfl, Fh, Gh, hFh, hGh, hB⟩
                              refine ⟨_, rfl, joinB hS hB, ?_⟩
                              replace hS := joinB hS hB
                              replace HB := joinB HB hB
                              replace H1 := H1.keep hB
                              replace H2 := H2.keep hB
                              clear hB
                              replace Fh := Fh.eqv (show _ = (1 : Int) by decide)
                              replace Gh := Gh.eqv (show _ = (3 : Int) by decide)
                              refine rg_ready [25] (by kernel_rfl) (by simp) ?_
                              refine ar_call 25 (some 89) 29 #[.agg #[.slice Ah Nh Ch, .slice Bh Mh Dh]] (by kernel_rfl) (by kernel_rfl) (qDown Fh.a Gh.a (by omega) (by omega)) ?_ ?_
                              · rintro e v15 ⟨Ai, Ni, Ci, rfl, Fi, hFi, hB⟩
                                refine ⟨_, rfl, joinB hS hB, ?_⟩
                                replace hS := joinB hS hB
                                replace HB := joinB HB hB
                                clear Fh Gh
                                replace H1 := H1.keep hB
                                replace H2 := H2.keep hB
                                clear hB
                                replace Fi := Fi.eqv (show _ = (333333333333333333333333333333333333 : Int) by decide)
                                refine rg_ready [26] (by kernel_rfl) (by simp) ?_
                                refine ar_call 26 (some 90) 70 #[.agg #[.slice Ai Ni Ci]] (by kernel_rfl) (by kernel_rfl) (dText Fi.a (by omega) (appAll_small (by decide))) ?_ ?_
                                · rintro e v16 ⟨TS, rfl, hT, hTS, hB⟩
                                  obtain rfl := dtext_is hT [48, 46, 51, 51, 51, 51, 51, 51, 51, 51, 51, 51, 51, 51, 51, 51, 51, 51, 51, 51, 51, 51, 51, 51, 51, 51, 51, 51, 51, 51, 51, 51, 51, 51, 51, 51, 51, 51] [48] (by decide) (by decide) (by decide) (by decide) (by kernel_rfl)
                                  clear hT hTS
                                  refine ⟨_, rfl, joinB hS hB, ?_⟩
                                  replace hS := joinB hS hB
                                  replace HB := joinB HB hB
                                  clear Fi
                                  replace H1 := H1.keep hB
                                  replace H2 := H2.keep hB
                                  clear hB
                                  refine rg_take 27 (some 91) (.bool true) (by kernel_rfl) (fun _ _ => by kernel_rfl) (fun _ _ _ h => h) hS ?_
                                  refine rg_take 28 (some 92) (.bool true) (by kernel_rfl) (fun _ _ => by kernel_rfl) (fun _ _ _ h => h) hS ?_
                                  refine rg_take 29 (some 93) (.bool true) (by kernel_rfl) (fun _ _ => by kernel_rfl) (fun _ _ _ h => h) hS ?_
                                  refine rg_ready [30] (by kernel_rfl) (by simp) ?_
                                  refine ar_call 30 (some 94) 74 #[.int .u64 1, .int .u64 3] (by kernel_rfl) (by kernel_rfl) (qFrac (x := 1) (y := 3) (by decide) (by decide) (by decide) (by decide)) ?_ ?_
                                  · rintro e v17 ⟨Aj, Nj, Cj, Bj, Mj, Dj, rfl, Fj, Gj, hFj, hGj, hB⟩
                                    refine ⟨_, rfl, joinB hS hB, ?_⟩
                                    replace hS := joinB hS hB
                                    replace HB := joinB HB hB
                                    replace H1 := H1.keep hB
                                    replace H2 := H2.keep hB
                                    clear hB
                                    replace Fj := Fj.eqv (show _ = (1 : Int) by decide)
                                    replace Gj := Gj.eqv (show _ = (3 : Int) by decide)
                                    refine rg_ready [31] (by kernel_rfl) (by simp) ?_
                                    refine ar_call 31 (some 95) 74 #[.int .u64 1, .int .u64 2] (by kernel_rfl) (by kernel_rfl) (qFrac (x := 1) (y := 2) (by decide) (by decide) (by decide) (by decide)) ?_ ?_
                                    · rintro e v18 ⟨Ak, Nk, Ck, Bk, Mk, Dk, rfl, Fk, Gk, hFk, hGk, hB⟩
                                      refine ⟨_, rfl, joinB hS hB, ?_⟩
                                      replace hS := joinB hS hB
                                      replace HB := joinB HB hB
                                      replace H1 := H1.keep hB
                                      replace H2 := H2.keep hB
                                      replace Fj := Fj.keep hB
                                      replace Gj := Gj.keep hB
                                      clear hB
                                      replace Fk := Fk.eqv (show _ = (1 : Int) by decide)
                                      replace Gk := Gk.eqv (show _ = (2 : Int) by decide)
                                      refine rg_ready [32] (by kernel_rfl) (by simp) ?_
                                      refine ar_call 32 (some 96) 19 #[.agg #[.slice Aj Nj Cj, .slice Bj Mj Dj], .agg #[.slice Ak Nk Ck, .slice Bk Mk Dk]] (by kernel_rfl) (by kernel_rfl) (qCmpIs Fj.a Gj.a (by omega) (by omega) Fk.a Gk.a (by omega) (by omega) (-1) (by decide)) ?_ ?_
                                      · rintro e v19 ⟨rfl, hB⟩
                                        refine ⟨_, rfl, joinB hS hB, ?_⟩
                                        replace hS := joinB hS hB
                                        replace HB := joinB HB hB
                                        clear Fj Gj Fk Gk
                                        replace H1 := H1.keep hB
                                        replace H2 := H2.keep hB
                                        clear hB
                                        refine rg_take 33 (some 97) (.bool true) (by kernel_rfl) (fun _ _ => by kernel_rfl) (fun _ _ _ h => h) hS ?_
                                        refine rg_take 34 (some 98) (.bool true) (by kernel_rfl) (fun _ _ => by kernel_rfl) (fun _ _ _ h => h) hS ?_
                                        refine rg_take 35 (some 99) (.bool true) (by kernel_rfl) (fun _ _ => by kernel_rfl) (fun _ _ _ h => h) hS ?_
                                        refine rg_load 39 (some 103) (.agg #[.slice (some ⟨k8.heap.size + 1, 0, none⟩) 1 1, .slice (some ⟨k8.heap.size + 1 + 1, 0, none⟩) 1 1]) 30 9 (k8.heap.size + 1 + 1 + 1) 0 (by kernel_rfl) (by kernel_rfl) (by kernel_rfl) (fun _ hb => load_rat (U9.keep hb)) (fun _ _ _ h => h) hS ?_
                                        refine rg_ready [36] (by kernel_rfl) (by simp) ?_
                                        refine ar_call 36 (some 100) 74 #[.int .u64 2, .int .u64 3] (by kernel_rfl) (by kernel_rfl) (qFrac (x := 2) (y := 3) (by decide) (by decide) (by decide) (by decide)) ?_ ?_
                                        · rintro e v20 ⟨Al, Nl, Cl, Bl, Ml, Dl, rfl, Fl, Gl, hFl, hGl, hB⟩
                                          refine ⟨_, rfl, joinB hS hB, ?_⟩
                                          replace hS := joinB hS hB
                                          replace HB := joinB HB hB
                                          replace H1 := H1.keep hB
                                          replace H2 := H2.keep hB
                                          clear hB
                                          replace Fl := Fl.eqv (show _ = (2 : Int) by decide)
                                          replace Gl := Gl.eqv (show _ = (3 : Int) by decide)
                                          refine rg_ready [37] (by kernel_rfl) (by simp) ?_
                                          refine ar_call 37 (some 101) 74 #[.int .u64 3, .int .u64 4] (by kernel_rfl) (by kernel_rfl) (qFrac (x := 3) (y := 4) (by decide) (by decide) (by decide) (by decide)) ?_ ?_
                                          · rintro e v21 ⟨Am, Nm, Cm, Bm, Mm, Dm, rfl, Fm, Gm, hFm, hGm, hB⟩
                                            refine ⟨_, rfl, joinB hS hB, ?_⟩
                                            replace hS := joinB hS hB
                                            replace HB := joinB HB hB
                                            replace H1 := H1.keep hB
                                            replace H2 := H2.keep hB
                                            replace Fl := Fl.keep hB
                                            replace Gl := Gl.keep hB
                                            clear hB
                                            replace Fm := Fm.eqv (show _ = (3 : Int) by decide)
                                            replace Gm := Gm.eqv (show _ = (4 : Int) by decide)
                                            refine rg_ready [38] (by kernel_rfl) (by simp) ?_
                                            refine ar_call 38 (some 102) 25 #[.agg #[.slice Al Nl Cl, .slice Bl Ml Dl], .agg #[.slice Am Nm Cm, .slice Bm Mm Dm]] (by kernel_rfl) (by kernel_rfl) (qMul Fl.a Gl.a (by omega) (by omega) Fm.a Gm.a (by omega) (by omega)) ?_ ?_
                                            · rintro e v22 ⟨Ao, No, Co, Bo, Mo, Do, rfl, Fo, Go, hFo, hGo, hB⟩
                                              refine ⟨_, rfl, joinB hS hB, ?_⟩
                                              replace hS := joinB hS hB
                                              replace HB := joinB HB hB
                                              clear Fl Gl Fm Gm
                                              replace H1 := H1.keep hB
                                              replace H2 := H2.keep hB
                                              clear hB
                                              replace Fo := Fo.eqv (show _ = (1 : Int) by decide)
                                              replace Go := Go.eqv (show _ = (2 : Int) by decide)
                                              refine rg_ready [40] (by kernel_rfl) (by simp) ?_
                                              refine ar_call 40 (some 104) 16 #[.agg #[.slice Ao No Co, .slice Bo Mo Do], .agg #[.slice (some ⟨k8.heap.size + 1, 0, none⟩) 1 1, .slice (some ⟨k8.heap.size + 1 + 1, 0, none⟩) 1 1]] (by kernel_rfl) (by kernel_rfl) (qSameT Fo Go (by omega) (by omega) H1 H2 (by omega) (by omega)) ?_ ?_
                                              · rintro e v23 ⟨rfl, hB⟩
                                                refine ⟨_, rfl, joinB hS hB, ?_⟩
                                                replace hS := joinB hS hB
                                                replace HB := joinB HB hB
                                                clear Fo Go
                                                replace H1 := H1.keep hB
                                                replace H2 := H2.keep hB
                                                clear hB
                                                refine rg_take 41 (some 105) (.bool true) (by kernel_rfl) (fun _ _ => by kernel_rfl) (fun _ _ _ h => h) hS ?_
                                                refine rg_take 42 (some 0) (.bool true) (by kernel_rfl) (fun _ _ => by kernel_rfl) (fun _ _ _ h => h) hS ?_
                                                refine rg_done (by kernel_rfl) ?_
                                                try simp only [Act.put, List.setIfInBounds_toArray, List.set_cons_zero, List.set_cons_succ]
                                                go_wp2
                                                go_ret
                                                exact ⟨rfl, HB⟩
                                              exact ar_nil
                                            exact ar_nil
                                          exact ar_nil
                                        exact ar_nil
                                      exact ar_nil
                                    exact ar_nil
                                  exact ar_nil
                                exact ar_nil
                              exact ar_nil
                            exact ar_nil
                          exact ar_nil
                        exact ar_nil
                      exact ar_nil
                    exact ar_nil
                  refine ar_val 13 (some 77) (.slice (some ⟨v8.heap.size, 0, none⟩) 1 1) (v8.alloc (.cells #[.int .u64 1] 39)) (by kernel_rfl) (by kernel_rfl) (joinB hS (below_alloc _ _)) ?_ ?_
                  · have Y77 := natO_lit (v8) 1 (by decide) (by decide)
                    have hB := below_alloc (v8) (.cells #[.int .u64 1] 39)
                    replace hS := joinB hS hB
                    replace HB := joinB HB hB
                    replace H1 := H1.keep hB
                    replace H2 := H2.keep hB
                    clear hB
                    generalize v8.alloc (.cells #[.int .u64 1] 39) = v24 at *
                    refine rg_take 14 (some 78) (.agg #[.slice none 0 0, .slice (some ⟨v8.heap.size, 0, none⟩) 1 1]) (by kernel_rfl) (fun _ _ => by kernel_rfl) (fun _ _ _ h => h) hS ?_
                    refine rg_ready [12] (by kernel_rfl) (by simp) ?_
                    refine ar_call 12 (some 76) 17 #[.slice none 0 0] (by kernel_rfl) (by kernel_rfl) (qSum (l := []) (B := 0) rfl (by omega) ⟨fun i hi => by simp at hi⟩ (by omega) (by omega) (by omega)) ?_ ?_
                    · rintro e v25 ⟨Af, Nf, Cf, Bf, Mf, Df, n3, n4, rfl, Ff, Gf, hR, hFf, hGf, hB⟩
                      obtain ⟨rfl, rfl⟩ := red_is hR 0 1 (by decide) (by decide) (by decide) (by decide) (by decide)
                      clear hR
                      refine ⟨_, rfl, joinB hS hB, ?_⟩
                      replace hS := joinB hS hB
                      replace HB := joinB HB hB
                      replace H1 := H1.keep hB
                      replace H2 := H2.keep hB
                      replace Y77 := Y77.keep hB
                      clear hB
                      refine rg_ready [15] (by kernel_rfl) (by simp) ?_
                      refine ar_call 15 (some 79) 16 #[.agg #[.slice Af Nf Cf, .slice Bf Mf Df], .agg #[.slice none 0 0, .slice (some ⟨v8.heap.size, 0, none⟩) 1 1]] (by kernel_rfl) (by kernel_rfl) (qSameT Ff Gf (by omega) (by omega) (natO_nil _) Y77 (by omega) (by omega)) ?_ ?_
                      · rintro e v26 ⟨rfl, hB⟩
                        refine ⟨_, rfl, joinB hS hB, ?_⟩
                        replace hS := joinB hS hB
                        replace HB := joinB HB hB
                        clear Ff Gf Y77
                        replace H1 := H1.keep hB
                        replace H2 := H2.keep hB
                        clear hB
                        refine rg_take 16 (some 80) (.bool true) (by kernel_rfl) (fun _ _ => by kernel_rfl) (fun _ _ _ h => h) hS ?_
                        refine rg_take 17 (some 81) (.bool true) (by kernel_rfl) (fun _ _ => by kernel_rfl) (fun _ _ _ h => h) hS ?_
                        refine rg_take 18 (some 82) (.agg #[.slice none 0 0, .slice none 0 0]) (by kernel_rfl) (fun _ _ => by kernel_rfl) (fun _ _ _ h => h) hS ?_
                        refine rg_ready [19] (by kernel_rfl) (by simp) ?_
                        refine ar_call 19 (some 83) 21 #[.slice none 0 0] (by kernel_rfl) (by kernel_rfl) (qOfNat (natO_nil _).a (by omega)) ?_ ?_
                        · rintro e v27 ⟨Ag, Ng, Cg, Bg, Mg, Dg, rfl, Fg, Gg, hFg, hGg, hB⟩
                          refine ⟨_, rfl, joinB hS hB, ?_⟩
                          replace hS := joinB hS hB
                          replace HB := joinB HB hB
                          replace H1 := H1.keep hB
                          replace H2 := H2.keep hB
                          clear hB
                          refine rg_ready [20] (by kernel_rfl) (by simp) ?_
                          refine ar_call 20 (some 84) 19 #[.agg #[.slice none 0 0, .slice none 0 0], .agg #[.slice Ag Ng Cg, .slice Bg Mg Dg]] (by kernel_rfl) (by kernel_rfl) (qCmpIs (natO_nil _).a (natO_nil _).a (by omega) (by omega) Fg.a Gg.a (by omega) (by omega) 0 (by decide)) ?_ ?_
                          · rintro e v28 ⟨rfl, hB⟩
                            refine ⟨_, rfl, joinB hS hB, ?_⟩
                            replace hS := joinB hS hB
                            replace HB := joinB HB hB
                            clear Fg Gg
                            replace H1 := H1.keep hB
                            replace H2 := H2.keep hB
                            clear hB
                            refine rg_take 21 (some 85) (.bool true) (by kernel_rfl) (fun _ _ => by kernel_rfl) (fun _ _ _ h => h) hS ?_
                            refine rg_take 22 (some 86) (.bool true) (by kernel_rfl) (fun _ _ => by kernel_rfl) (fun _ _ _ h => h) hS ?_
                            refine rg_take 23 (some 87) (.bool true) (by kernel_rfl) (fun _ _ => by kernel_rfl) (fun _ _ _ h => h) hS ?_
                            refine rg_ready [24] (by kernel_rfl) (by simp) ?_
                            refine ar_call 24 (some 88) 74 #[.int .u64 1, .int .u64 3] (by kernel_rfl) (by kernel_rfl) (qFrac (x := 1) (y := 3) (by decide) (by decide) (by decide) (by decide)) ?_ ?_
                            · rintro e v29 ⟨Ah, Nh, Ch, Bh, Mh, Dh, rfl, Fh, Gh, hFh, hGh, hB⟩
                              refine ⟨_, rfl, joinB hS hB, ?_⟩
                              replace hS := joinB hS hB
                              replace HB := joinB HB hB
                              replace H1 := H1.keep hB
                              replace H2 := H2.keep hB
                              clear hB
                              replace Fh := Fh.eqv (show _ = (1 : Int) by decide)
                              replace Gh := Gh.eqv (show _ = (3 : Int) by decide)
                              refine rg_ready [25] (by kernel_rfl) (by simp) ?_
                              refine ar_call 25 (some 89) 29 #[.agg #[.slice Ah Nh Ch, .slice Bh Mh Dh]] (by kernel_rfl) (by kernel_rfl) (qDown Fh.a Gh.a (by omega) (by omega)) ?_ ?_
                              · rintro e v30 ⟨Ai, Ni, Ci, rfl, Fi, hFi, hB⟩
                                refine ⟨_, rfl, joinB hS hB, ?_⟩
                                replace hS := joinB hS hB
                                replace HB := joinB HB hB
                                clear Fh Gh
                                replace H1 := H1.keep hB
                                replace H2 := H2.keep hB
                                clear hB
                                replace Fi := Fi.eqv (show _ = (333333333333333333333333333333333333 : Int) by decide)
                                refine rg_ready [26] (by kernel_rfl) (by simp) ?_
                                refine ar_call 26 (some 90) 70 #[.agg #[.slice Ai Ni Ci]] (by kernel_rfl) (by kernel_rfl) (dText Fi.a (by omega) (appAll_small (by decide))) ?_ ?_
                                · rintro e v31 ⟨TS, rfl, hT, hTS, hB⟩
                                  obtain rfl := dtext_is hT [48, 46, 51, 51, 51, 51, 51, 51, 51, 51, 51, 51, 51, 51, 51, 51, 51, 51, 51, 51, 51, 51, 51, 51, 51, 51, 51, 51, 51, 51, 51, 51, 51, 51, 51, 51, 51, 51] [48] (by decide) (by decide) (by decide) (by decide) (by kernel_rfl)
                                  clear hT hTS
                                  refine ⟨_, rfl, joinB hS hB, ?_⟩
                                  replace hS := joinB hS hB
                                  replace HB := joinB HB hB
                                  clear Fi
                                  replace H1 := H1.keep hB
                                  replace H2 := H2.keep hB
                                  clear hB
                                  refine rg_take 27 (some 91) (.bool true) (by kernel_rfl) (fun _ _ => by kernel_rfl) (fun _ _ _ h => h) hS ?_
                                  refine rg_take 28 (some 92) (.bool true) (by kernel_rfl) (fun _ _ => by kernel_rfl) (fun _ _ _ h => h) hS ?_
                                  refine rg_take 29 (some 93) (.bool true) (by kernel_rfl) (fun _ _ => by kernel_rfl) (fun _ _ _ h => h) hS ?_
                                  refine rg_ready [30] (by kernel_rfl) (by simp) ?_
                                  refine ar_call 30 (some 94) 74 #[.int .u64 1, .int .u64 3] (by kernel_rfl) (by kernel_rfl) (qFrac (x := 1) (y := 3) (by decide) (by decide) (by decide) (by decide)) ?_ ?_
                                  · rintro e v32 ⟨Aj, Nj, Cj, Bj, Mj, Dj, rfl, Fj, Gj, hFj, hGj, hB⟩
                                    refine ⟨_, rfl, joinB hS hB, ?_⟩
                                    replace hS := joinB hS hB
                                    replace HB := joinB HB hB
                                    replace H1 := H1.keep hB
                                    replace H2 := H2.keep hB
                                    clear hB
                                    replace Fj := Fj.eqv (show _ = (1 : Int) by decide)
                                    replace Gj := Gj.eqv (show _ = (3 : Int) by decide)
                                    refine rg_ready [31] (by kernel_rfl) (by simp) ?_
                                    refine ar_call 31 (some 95) 74 #[.int .u64 1, .int .u64 2] (by kernel_rfl) (by kernel_rfl) (qFrac (x := 1) (y := 2) (by decide) (by decide) (by decide) (by decide)) ?_ ?_
                                    · rintro e v33 ⟨Ak, Nk, Ck, Bk, Mk, Dk, rfl, Fk, Gk, hFk, hGk, hB⟩
                                      refine ⟨_, rfl, joinB hS hB, ?_⟩
                                      replace hS := joinB hS hB
                                      replace HB := joinB HB hB
                                      replace H1 := H1.keep hB
                                      replace H2 := H2.keep hB
                                      replace Fj := Fj.keep hB
                                      replace Gj := Gj.keep hB
                                      clear hB
                                      replace Fk := Fk.eqv (show _ = (1 : Int) by decide)
                                      replace Gk := Gk.eqv (show _ = (2 : Int) by decide)
                                      refine rg_ready [32] (by kernel_rfl) (by simp) ?_
                                      refine ar_call 32 (some 96) 19 #[.agg #[.slice Aj Nj Cj, .slice Bj Mj Dj], .agg #[.slice Ak Nk Ck, .slice Bk Mk Dk]] (by kernel_rfl) (by kernel_rfl) (qCmpIs Fj.a Gj.a (by omega) (by omega) Fk.a Gk.a (by omega) (by omega) (-1) (by decide)) ?_ ?_
                                      · rintro e v34 ⟨rfl, hB⟩
                                        refine ⟨_, rfl, joinB hS hB, ?_⟩
                                        replace hS := joinB hS hB
                                        replace HB := joinB HB hB
                                        clear Fj Gj Fk Gk
                                        replace H1 := H1.keep hB
                                        replace H2 := H2.keep hB
                                        clear hB
                                        refine rg_take 33 (some 97) (.bool true) (by kernel_rfl) (fun _ _ => by kernel_rfl) (fun _ _ _ h => h) hS ?_
                                        refine rg_take 34 (some 98) (.bool true) (by kernel_rfl) (fun _ _ => by kernel_rfl) (fun _ _ _ h => h) hS ?_
                                        refine rg_take 35 (some 99) (.bool true) (by kernel_rfl) (fun _ _ => by kernel_rfl) (fun _ _ _ h => h) hS ?_
                                        refine rg_load 39 (some 103) (.agg #[.slice (some ⟨k8.heap.size + 1, 0, none⟩) 1 1, .slice (some ⟨k8.heap.size + 1 + 1, 0, none⟩) 1 1]) 30 9 (k8.heap.size + 1 + 1 + 1) 0 (by kernel_rfl) (by kernel_rfl) (by kernel_rfl) (fun _ hb => load_rat (U9.keep hb)) (fun _ _ _ h => h) hS ?_
                                        refine rg_ready [36] (by kernel_rfl) (by simp) ?_
                                        refine ar_call 36 (some 100) 74 #[.int .u64 2, .int .u64 3] (by kernel_rfl) (by kernel_rfl) (qFrac (x := 2) (y := 3) (by decide) (by decide) (by decide) (by decide)) ?_ ?_
                                        · rintro e v35 ⟨Al, Nl, Cl, Bl, Ml, Dl, rfl, Fl, Gl, hFl, hGl, hB⟩
                                          refine ⟨_, rfl, joinB hS hB, ?_⟩
                                          replace hS := joinB hS hB
                                          replace HB := joinB HB hB
                                          replace H1 := H1.keep hB
                                          replace H2 := H2.keep hB
                                          clear hB
                                          replace Fl := Fl.eqv (show _ = (2 : Int) by decide)
                                          replace Gl := Gl.eqv (show _ = (3 : Int) by decide)
                                          refine rg_ready [37] (by kernel_rfl) (by simp) ?_
                                          refine ar_call 37 (some 101) 74 #[.int .u64 3, .int .u64 4] (by kernel_rfl) (by kernel_rfl) (qFrac (x := 3) (y := 4) (by decide) (by decide) (by decide) (by decide)) ?_ ?_
                                          · rintro e v36 ⟨Am, Nm, Cm, Bm, Mm, Dm, rfl, Fm, Gm, hFm, hGm, hB⟩
                                            refine ⟨_, rfl, joinB hS hB, ?_⟩
                                            replace hS := joinB hS hB
                                            replace HB := joinB HB hB
                                            replace H1 := H1.keep hB
                                            replace H2 := H2.keep hB
                                            replace Fl := Fl.keep hB
                                            replace Gl := Gl.keep hB
                                            clear hB
                                            replace Fm := Fm.eqv (show _ = (3 : Int) by decide)
                                            replace Gm := Gm.eqv (show _ = (4 : Int) by decide)
                                            refine rg_ready [38] (by kernel_rfl) (by simp) ?_
                                            refine ar_call 38 (some 102) 25 #[.agg #[.slice Al Nl Cl, .slice Bl Ml Dl], .agg #[.slice Am Nm Cm, .slice Bm Mm Dm]] (by kernel_rfl) (by kernel_rfl) (qMul Fl.a Gl.a (by omega) (by omega) Fm.a Gm.a (by omega) (by omega)) ?_ ?_
                                            · rintro e v37 ⟨Ao, No, Co, Bo, Mo, Do, rfl, Fo, Go, hFo, hGo, hB⟩
                                              refine ⟨_, rfl, joinB hS hB, ?_⟩
                                              replace hS := joinB hS hB
                                              replace HB := joinB HB hB
                                              clear Fl Gl Fm Gm
                                              replace H1 := H1.keep hB
                                              replace H2 := H2.keep hB
                                              clear hB
                                              replace Fo := Fo.eqv (show _ = (1 : Int) by decide)
                                              replace Go := Go.eqv (show _ = (2 : Int) by decide)
                                              refine rg_ready [40] (by kernel_rfl) (by simp) ?_
                                              refine ar_call 40 (some 104) 16 #[.agg #[.slice Ao No Co, .slice Bo Mo Do], .agg #[.slice (some ⟨k8.heap.size + 1, 0, none⟩) 1 1, .slice (some ⟨k8.heap.size + 1 + 1, 0, none⟩) 1 1]] (by kernel_rfl) (by kernel_rfl) (qSameT Fo Go (by omega) (by omega) H1 H2 (by omega) (by omega)) ?_ ?_
                                              · rintro e v38 ⟨rfl, hB⟩
                                                refine ⟨_, rfl, joinB hS hB, ?_⟩
                                                replace hS := joinB hS hB
                                                replace HB := joinB HB hB
                                                clear Fo Go
                                                replace H1 := H1.keep hB
                                                replace H2 := H2.keep hB
                                                clear hB
                                                refine rg_take 41 (some 105) (.bool true) (by kernel_rfl) (fun _ _ => by kernel_rfl) (fun _ _ _ h => h) hS ?_
                                                refine rg_take 42 (some 0) (.bool true) (by kernel_rfl) (fun _ _ => by kernel_rfl) (fun _ _ _ h => h) hS ?_
                                                refine rg_done (by kernel_rfl) ?_
                                                try simp only [Act.put, List.setIfInBounds_toArray, List.set_cons_zero, List.set_cons_succ]
                                                go_wp2
                                                go_ret
                                                exact ⟨rfl, HB⟩
                                              exact ar_nil
                                            exact ar_nil
                                          exact ar_nil
                                        exact ar_nil
                                      exact ar_nil
                                    exact ar_nil
                                  exact ar_nil
                                exact ar_nil
                              exact ar_nil
                            exact ar_nil
                          exact ar_nil
                        exact ar_nil
                      exact ar_nil
                    exact ar_nil
                  exact ar_nil
                exact ar_nil
              exact ar_nil
            refine ar_val 8 (some 72) (.slice (some ⟨v5.heap.size, 0, none⟩) 1 1) (v5.alloc (.cells #[.int .u64 3] 39)) (by kernel_rfl) (by kernel_rfl) (joinB hS (below_alloc _ _)) ?_ ?_
            · have Y72 := natO_lit (v5) 3 (by decide) (by decide)
              have hB := below_alloc (v5) (.cells #[.int .u64 3] 39)
              replace hS := joinB hS hB
              replace HB := joinB HB hB
              replace H1 := H1.keep hB
              replace H2 := H2.keep hB
              replace Fd := Fd.keep hB
              replace Gd := Gd.keep hB
              clear hB
              generalize v5.alloc (.cells #[.int .u64 3] 39) = v39 at *
              refine rg_ready [7] (by kernel_rfl) (by simp) ?_
              refine ar_call 7 (some 71) 20 #[.agg #[.slice Ad Nd Cd, .slice Bd Md Dd]] (by kernel_rfl) (by kernel_rfl) (qFloor Fd.a Gd.a (by omega) (by omega)) ?_ ?_
              · rintro e v40 ⟨Ae, Ne, Ce, rfl, Fe, hFe, hB⟩
                refine ⟨_, rfl, joinB hS hB, ?_⟩
                replace hS := joinB hS hB
                replace HB := joinB HB hB
                clear Fd Gd
                replace H1 := H1.keep hB
                replace H2 := H2.keep hB
                replace Y72 := Y72.keep hB
                clear hB
                replace Fe := Fe.eqv (show _ = (3 : Int) by decide)
                refine rg_ready [9] (by kernel_rfl) (by simp) ?_
                refine ar_call 9 (some 73) 42 #[.slice Ae Ne Ce, .slice (some ⟨v5.heap.size, 0, none⟩) 1 1] (by kernel_rfl) (by kernel_rfl) (nSameT Fe Y72 (by omega) (by omega)) ?_ ?_
                · rintro e v41 ⟨rfl, hB⟩
                  refine ⟨_, rfl, joinB hS hB, ?_⟩
                  replace hS := joinB hS hB
                  replace HB := joinB HB hB
                  clear Fe Y72
                  replace H1 := H1.keep hB
                  replace H2 := H2.keep hB
                  clear hB
                  refine rg_take 10 (some 74) (.bool true) (by kernel_rfl) (fun _ _ => by kernel_rfl) (fun _ _ _ h => h) hS ?_
                  refine rg_take 11 (some 75) (.bool true) (by kernel_rfl) (fun _ _ => by kernel_rfl) (fun _ _ _ h => h) hS ?_
                  refine rg_ready [12, 13] (by kernel_rfl) (by simp) ?_
                  refine ar_call 12 (some 76) 17 #[.slice none 0 0] (by kernel_rfl) (by kernel_rfl) (qSum (l := []) (B := 0) rfl (by omega) ⟨fun i hi => by simp at hi⟩ (by omega) (by omega) (by omega)) ?_ ?_
                  · rintro e v42 ⟨Af, Nf, Cf, Bf, Mf, Df, n3, n4, rfl, Ff, Gf, hR, hFf, hGf, hB⟩
                    obtain ⟨rfl, rfl⟩ := red_is hR 0 1 (by decide) (by decide) (by decide) (by decide) (by decide)
                    clear hR
                    refine ⟨_, rfl, joinB hS hB, ?_⟩
                    replace hS := joinB hS hB
                    replace HB := joinB HB hB
                    replace H1 := H1.keep hB
                    replace H2 := H2.keep hB
                    clear hB
                    refine rg_ready [13] (by kernel_rfl) (by simp) ?_
                    refine ar_val 13 (some 77) (.slice (some ⟨v42.heap.size, 0, none⟩) 1 1) (v42.alloc (.cells #[.int .u64 1] 39)) (by kernel_rfl) (by kernel_rfl) (joinB hS (below_alloc _ _)) ?_ ?_
                    · have Y77 := natO_lit (v42) 1 (by decide) (by decide)
                      have hB := below_alloc (v42) (.cells #[.int .u64 1] 39)
                      replace hS := joinB hS hB
                      replace HB := joinB HB hB
                      replace H1 := H1.keep hB
                      replace H2 := H2.keep hB
                      replace Ff := Ff.keep hB
                      replace Gf := Gf.keep hB
                      clear hB
                      generalize v42.alloc (.cells #[.int .u64 1] 39) = v43 at *
                      refine rg_take 14 (some 78) (.agg #[.slice none 0 0, .slice (some ⟨v42.heap.size, 0, none⟩) 1 1]) (by kernel_rfl) (fun _ _ => by kernel_rfl) (fun _ _ _ h => h) hS ?_
                      refine rg_ready [15] (by kernel_rfl) (by simp) ?_
                      refine ar_call 15 (some 79) 16 #[.agg #[.slice Af Nf Cf, .slice Bf Mf Df], .agg #[.slice none 0 0, .slice (some ⟨v42.heap.size, 0, none⟩) 1 1]] (by kernel_rfl) (by kernel_rfl) (qSameT Ff Gf (by omega) (by omega) (natO_nil _) Y77 (by omega) (by omega)) ?_ ?_
                      · rintro e v44 ⟨rfl, hB⟩
                        refine ⟨_, rfl, joinB hS hB, ?_⟩
                        replace hS := joinB hS hB
                        replace HB := joinB HB hB
                        clear Ff Gf Y77
                        replace H1 := H1.keep hB
                        replace H2 := H2.keep hB
                        clear hB
                        refine rg_take 16 (some 80) (.bool true) (by kernel_rfl) (fun _ _ => by kernel_rfl) (fun _ _ _ h => h) hS ?_
                        refine rg_take 17 (some 81) (.bool true) (by kernel_rfl) (fun _ _ => by kernel_rfl) (fun _ _ _ h => h) hS ?_
                        refine rg_take 18 (some 82) (.agg #[.slice none 0 0, .slice none 0 0]) (by kernel_rfl) (fun _ _ => by kernel_rfl) (fun _ _ _ h => h) hS ?_
                        refine rg_ready [19] (by kernel_rfl) (by simp) ?_
                        refine ar_call 19 (some 83) 21 #[.slice none 0 0] (by kernel_rfl) (by kernel_rfl) (qOfNat (natO_nil _).a (by omega)) ?_ ?_
                        · rintro e v45 ⟨Ag, Ng, Cg, Bg, Mg, Dg, rfl, Fg, Gg, hFg, hGg, hB⟩
                          refine ⟨_, rfl, joinB hS hB, ?_⟩
                          replace hS := joinB hS hB
                          replace HB := joinB HB hB
                          replace H1 := H1.keep hB
                          replace H2 := H2.keep hB
                          clear hB
                          refine rg_ready [20] (by kernel_rfl) (by simp) ?_
                          refine ar_call 20 (some 84) 19 #[.agg #[.slice none 0 0, .slice none 0 0], .agg #[.slice Ag Ng Cg, .slice Bg Mg Dg]] (by kernel_rfl) (by kernel_rfl) (qCmpIs (natO_nil _).a (natO_nil _).a (by omega) (by omega) Fg.a Gg.a (by omega) (by omega) 0 (by decide)) ?_ ?_
                          · rintro e v46 ⟨rfl, hB⟩
                            refine ⟨_, rfl, joinB hS hB, ?_⟩
                            replace hS := joinB hS hB
                            replace HB := joinB HB hB
                            clear Fg Gg
                            replace H1 := H1.keep hB
                            replace H2 := H2.keep hB
                            clear hB
                            refine rg_take 21 (some 85) (.bool true) (by kernel_rfl) (fun _ _ => by kernel_rfl) (fun _ _ _ h => h) hS ?_
                            refine rg_take 22 (some 86) (.bool true) (by kernel_rfl) (fun _ _ => by kernel_rfl) (fun _ _ _ h => h) hS ?_
                            refine rg_take 23 (some 87) (.bool true) (by kernel_rfl) (fun _ _ => by kernel_rfl) (fun _ _ _ h => h) hS ?_
                            refine rg_ready [24] (by kernel_rfl) (by simp) ?_
                            refine ar_call 24 (some 88) 74 #[.int .u64 1, .int .u64 3] (by kernel_rfl) (by kernel_rfl) (qFrac (x := 1) (y := 3) (by decide) (by decide) (by decide) (by decide)) ?_ ?_
                            · rintro e v47 ⟨Ah, Nh, Ch, Bh, Mh, Dh, rfl, Fh, Gh, hFh, hGh, hB⟩
                              refine ⟨_, rfl, joinB hS hB, ?_⟩
                              replace hS := joinB hS hB
                              replace HB := joinB HB hB
                              replace H1 := H1.keep hB
                              replace H2 := H2.keep hB
                              clear hB
                              replace Fh := Fh.eqv (show _ = (1 : Int) by decide)
                              replace Gh := Gh.eqv (show _ = (3 : Int) by decide)
                              refine rg_ready [25] (by kernel_rfl) (by simp) ?_
                              refine ar_call 25 (some 89) 29 #[.agg #[.slice Ah Nh Ch, .slice Bh Mh Dh]] (by kernel_rfl) (by kernel_rfl) (qDown Fh.a Gh.a (by omega) (by omega)) ?_ ?_
                              · rintro e v48 ⟨Ai, Ni, Ci, rfl, Fi, hFi, hB⟩
                                refine ⟨_, rfl, joinB hS hB, ?_⟩
                                replace hS := joinB hS hB
                                replace HB := joinB HB hB
                                clear Fh Gh
                                replace H1 := H1.keep hB
                                replace H2 := H2.keep hB
                                clear hB
                                replace Fi := Fi.eqv (show _ = (333333333333333333333333333333333333 : Int) by decide)
                                refine rg_ready [26] (by kernel_rfl) (by simp) ?_
                                refine ar_call 26 (some 90) 70 #[.agg #[.slice Ai Ni Ci]] (by kernel_rfl) (by kernel_rfl) (dText Fi.a (by omega) (appAll_small (by decide))) ?_ ?_
                                · rintro e v49 ⟨TS, rfl, hT, hTS, hB⟩
                                  obtain rfl := dtext_is hT [48, 46, 51, 51, 51, 51, 51, 51, 51, 51, 51, 51, 51, 51, 51, 51, 51, 51, 51, 51, 51, 51, 51, 51, 51, 51, 51, 51, 51, 51, 51, 51, 51, 51, 51, 51, 51, 51] [48] (by decide) (by decide) (by decide) (by decide) (by kernel_rfl)
                                  clear hT hTS
                                  refine ⟨_, rfl, joinB hS hB, ?_⟩
                                  replace hS := joinB hS hB
                                  replace HB := joinB HB hB
                                  clear Fi
                                  replace H1 := H1.keep hB
                                  replace H2 := H2.keep hB
                                  clear hB
                                  refine rg_take 27 (some 91) (.bool true) (by kernel_rfl) (fun _ _ => by kernel_rfl) (fun _ _ _ h => h) hS ?_
                                  refine rg_take 28 (some 92) (.bool true) (by kernel_rfl) (fun _ _ => by kernel_rfl) (fun _ _ _ h => h) hS ?_
                                  refine rg_take 29 (some 93) (.bool true) (by kernel_rfl) (fun _ _ => by kernel_rfl) (fun _ _ _ h => h) hS ?_
                                  refine rg_ready [30] (by kernel_rfl) (by simp) ?_
                                  refine ar_call 30 (some 94) 74 #[.int .u64 1, .int .u64 3] (by kernel_rfl) (by kernel_rfl) (qFrac (x := 1) (y := 3) (by decide) (by decide) (by decide) (by decide)) ?_ ?_
                                  · rintro e v50 ⟨Aj, Nj, Cj, Bj, Mj, Dj, rfl, Fj, Gj, hFj, hGj, hB⟩
                                    refine ⟨_, rfl, joinB hS hB, ?_⟩
                                    replace hS := joinB hS hB
                                    replace HB := joinB HB hB
                                    replace H1 := H1.keep hB
                                    replace H2 := H2.keep hB
                                    clear hB
                                    replace Fj := Fj.eqv (show _ = (1 : Int) by decide)
                                    replace Gj := Gj.eqv (show _ = (3 : Int) by decide)
                                    refine rg_ready [31] (by kernel_rfl) (by simp) ?_
                                    refine ar_call 31 (some 95) 74 #[.int .u64 1, .int .u64 2] (by kernel_rfl) (by kernel_rfl) (qFrac (x := 1) (y := 2) (by decide) (by decide) (by decide) (by decide)) ?_ ?_
                                    · rintro e v51 ⟨Ak, Nk, Ck, Bk, Mk, Dk, rfl, Fk, Gk, hFk, hGk, hB⟩
                                      refine ⟨_, rfl, joinB hS hB, ?_⟩
                                      replace hS := joinB hS hB
                                      replace HB := joinB HB hB
                                      replace H1 := H1.keep hB
                                      replace H2 := H2.keep hB
                                      replace Fj := Fj.keep hB
                                      replace Gj := Gj.keep hB
                                      clear hB
                                      replace Fk := Fk.eqv (show _ = (1 : Int) by decide)
                                      replace Gk := Gk.eqv (show _ = (2 : Int) by decide)
                                      refine rg_ready [32] (by kernel_rfl) (by simp) ?_
                                      refine ar_call 32 (some 96) 19 #[.agg #[.slice Aj Nj Cj, .slice Bj Mj Dj], .agg #[.slice Ak Nk Ck, .slice Bk Mk Dk]] (by kernel_rfl) (by kernel_rfl) (qCmpIs Fj.a Gj.a (by omega) (by omega) Fk.a Gk.a (by omega) (by omega) (-1) (by decide)) ?_ ?_
                                      · rintro e v52 ⟨rfl, hB⟩
                                        refine ⟨_, rfl, joinB hS hB, ?_⟩
                                        replace hS := joinB hS hB
                                        replace HB := joinB HB hB
                                        clear Fj Gj Fk Gk
                                        replace H1 := H1.keep hB
                                        replace H2 := H2.keep hB
                                        clear hB
                                        refine rg_take 33 (some 97) (.bool true) (by kernel_rfl) (fun _ _ => by kernel_rfl) (fun _ _ _ h => h) hS ?_
                                        refine rg_take 34 (some 98) (.bool true) (by kernel_rfl) (fun _ _ => by kernel_rfl) (fun _ _ _ h => h) hS ?_
                                        refine rg_take 35 (some 99) (.bool true) (by kernel_rfl) (fun _ _ => by kernel_rfl) (fun _ _ _ h => h) hS ?_
                                        refine rg_load 39 (some 103) (.agg #[.slice (some ⟨k8.heap.size + 1, 0, none⟩) 1 1, .slice (some ⟨k8.heap.size + 1 + 1, 0, none⟩) 1 1]) 30 9 (k8.heap.size + 1 + 1 + 1) 0 (by kernel_rfl) (by kernel_rfl) (by kernel_rfl) (fun _ hb => load_rat (U9.keep hb)) (fun _ _ _ h => h) hS ?_
                                        refine rg_ready [36] (by kernel_rfl) (by simp) ?_
                                        refine ar_call 36 (some 100) 74 #[.int .u64 2, .int .u64 3] (by kernel_rfl) (by kernel_rfl) (qFrac (x := 2) (y := 3) (by decide) (by decide) (by decide) (by decide)) ?_ ?_
                                        · rintro e v53 ⟨Al, Nl, Cl, Bl, Ml, Dl, rfl, Fl, Gl, hFl, hGl, hB⟩
                                          refine ⟨_, rfl, joinB hS hB, ?_⟩
                                          replace hS := joinB hS hB
                                          replace HB := joinB HB hB
                                          replace H1 := H1.keep hB
                                          replace H2 := H2.keep hB
                                          clear hB
                                          replace Fl := Fl.eqv (show _ = (2 : Int) by decide)
                                          replace Gl := Gl.eqv (show _ = (3 : Int) by decide)
                                          refine rg_ready [37] (by kernel_rfl) (by simp) ?_
                                          refine ar_call 37 (some 101) 74 #[.int .u64 3, .int .u64 4] (by kernel_rfl) (by kernel_rfl) (qFrac (x := 3) (y := 4) (by decide) (by decide) (by decide) (by decide)) ?_ ?_
                                          · rintro e v54 ⟨Am, Nm, Cm, Bm, Mm, Dm, rfl, Fm, Gm, hFm, hGm, hB⟩
                                            refine ⟨_, rfl, joinB hS hB, ?_⟩
                                            replace hS := joinB hS hB
                                            replace HB := joinB HB hB
                                            replace H1 := H1.keep hB
                                            replace H2 := H2.keep hB
                                            replace Fl := Fl.keep hB
                                            replace Gl := Gl.keep hB
                                            clear hB
                                            replace Fm := Fm.eqv (show _ = (3 : Int) by decide)
                                            replace Gm := Gm.eqv (show _ = (4 : Int) by decide)
                                            refine rg_ready [38] (by kernel_rfl) (by simp) ?_
                                            refine ar_call 38 (some 102) 25 #[.agg #[.slice Al Nl Cl, .slice Bl Ml Dl], .agg #[.slice Am Nm Cm, .slice Bm Mm Dm]] (by kernel_rfl) (by kernel_rfl) (qMul Fl.a Gl.a (by omega) (by omega) Fm.a Gm.a (by omega) (by omega)) ?_ ?_
                                            · rintro e v55 ⟨Ao, No, Co, Bo, Mo, Do, rfl, Fo, Go, hFo, hGo, hB⟩
                                              refine ⟨_, rfl, joinB hS hB, ?_⟩
                                              replace hS := joinB hS hB
                                              replace HB := joinB HB hB
                                              clear Fl Gl Fm Gm
                                              replace H1 := H1.keep hB
                                              replace H2 := H2.keep hB
                                              clear hB
                                              replace Fo := Fo.eqv (show _ = (1 : Int) by decide)
                                              replace Go := Go.eqv (show _ = (2 : Int) by decide)
                                              refine rg_ready [40] (by kernel_rfl) (by simp) ?_
                                              refine ar_call 40 (some 104) 16 #[.agg #[.slice Ao No Co, .slice Bo Mo Do], .agg #[.slice (some ⟨k8.heap.size + 1, 0, none⟩) 1 1, .slice (some ⟨k8.heap.size + 1 + 1, 0, none⟩) 1 1]] (by kernel_rfl) (by kernel_rfl) (qSameT Fo Go (by omega) (by omega) H1 H2 (by omega) (by omega)) ?_ ?_
                                              · rintro e v56 ⟨rfl, hB⟩
                                                refine ⟨_, rfl, joinB hS hB, ?_⟩
                                                replace hS := joinB hS hB
                                                replace HB := joinB HB hB
                                                clear Fo Go
                                                replace H1 := H1.keep hB
                                                replace H2 := H2.keep hB
                                                clear hB
                                                refine rg_take 41 (some 105) (.bool true) (by kernel_rfl) (fun _ _ => by kernel_rfl) (fun _ _ _ h => h) hS ?_
                                                refine rg_take 42 (some 0) (.bool true) (by kernel_rfl) (fun _ _ => by kernel_rfl) (fun _ _ _ h => h) hS ?_
                                                refine rg_done (by kernel_rfl) ?_
                                                try simp only [Act.put, List.setIfInBounds_toArray, List.set_cons_zero, List.set_cons_succ]
                                                go_wp2
                                                go_ret
                                                exact ⟨rfl, HB⟩
                                              exact ar_nil
                                            exact ar_nil
                                          exact ar_nil
                                        exact ar_nil
                                      exact ar_nil
                                    exact ar_nil
                                  exact ar_nil
                                exact ar_nil
                              exact ar_nil
                            exact ar_nil
                          exact ar_nil
                        exact ar_nil
                      exact ar_nil
                    exact ar_nil
                  refine ar_val 13 (some 77) (.slice (some ⟨v41.heap.size, 0, none⟩) 1 1) (v41.alloc (.cells #[.int .u64 1] 39)) (by kernel_rfl) (by kernel_rfl) (joinB hS (below_alloc _ _)) ?_ ?_
                  · have Y77 := natO_lit (v41) 1 (by decide) (by decide)
                    have hB := below_alloc (v41) (.cells #[.int .u64 1] 39)
                    replace hS := joinB hS hB
                    replace HB := joinB HB hB
                    replace H1 := H1.keep hB
                    replace H2 := H2.keep hB
                    clear hB
                    generalize v41.alloc (.cells #[.int .u64 1] 39) = v57 at *
                    refine rg_take 14 (some 78) (.agg #[.slice none 0 0, .slice (some ⟨v41.heap.size, 0, none⟩) 1 1]) (by kernel_rfl) (fun _ _ => by kernel_rfl) (fun _ _ _ h => h) hS ?_
                    refine rg_ready [12] (by kernel_rfl) (by simp) ?_
                    refine ar_call 12 (some 76) 17 #[.slice none 0 0] (by kernel_rfl) (by kernel_rfl) (qSum (l := []) (B := 0) rfl (by omega) ⟨fun i hi => by simp at hi⟩ (by omega) (by omega) (by omega)) ?_ ?_
                    · rintro e v58 ⟨Af, Nf, Cf, Bf, Mf, Df, n3, n4, rfl, Ff, Gf, hR, hFf, hGf, hB⟩
                      obtain ⟨rfl, rfl⟩ := red_is hR 0 1 (by decide) (by decide) (by decide) (by decide) (by decide)
                      clear hR
                      refine ⟨_, rfl, joinB hS hB, ?_⟩
                      replace hS := joinB hS hB
                      replace HB := joinB HB hB
                      replace H1 := H1.keep hB
                      replace H2 := H2.keep hB
                      replace Y77 := Y77.keep hB
                      clear hB
                      refine rg_ready [15] (by kernel_rfl) (by simp) ?_
                      refine ar_call 15 (some 79) 16 #[.agg #[.slice Af Nf Cf, .slice Bf Mf Df], .agg #[.slice none 0 0, .slice (some ⟨v41.heap.size, 0, none⟩) 1 1]] (by kernel_rfl) (by kernel_rfl) (qSameT Ff Gf (by omega) (by omega) (natO_nil _) Y77 (by omega) (by omega)) ?_ ?_
                      · rintro e v59 ⟨rfl, hB⟩
                        refine ⟨_, rfl, joinB hS hB, ?_⟩
                        replace hS := joinB hS hB
                        replace HB := joinB HB hB
                        clear Ff Gf Y77
                        replace H1 := H1.keep hB
                        replace H2 := H2.keep hB
                        clear hB
                        refine rg_take 16 (some 80) (.bool true) (by kernel_rfl) (fun _ _ => by kernel_rfl) (fun _ _ _ h => h) hS ?_
                        refine rg_take 17 (some 81) (.bool true) (by kernel_rfl) (fun _ _ => by kernel_rfl) (fun _ _ _ h => h) hS ?_
                        refine rg_take 18 (some 82) (.agg #[.slice none 0 0, .slice none 0 0]) (by kernel_rfl) (fun _ _ => by kernel_rfl) (fun _ _ _ h => h) hS ?_
                        refine rg_ready [19] (by kernel_rfl) (by simp) ?_
                        refine ar_call 19 (some 83) 21 #[.slice none 0 0] (by kernel_rfl) (by kernel_rfl) (qOfNat (natO_nil _).a (by omega)) ?_ ?_
                        · rintro e v60 ⟨Ag, Ng, Cg, Bg, Mg, Dg, rfl, Fg, Gg, hFg, hGg, hB⟩
                          refine ⟨_, rfl, joinB hS hB, ?_⟩
                          replace hS := joinB hS hB
                          replace HB := joinB HB hB
                          replace H1 := H1.keep hB
                          replace H2 := H2.keep hB
                          clear hB
                          refine rg_ready [20] (by kernel_rfl) (by simp) ?_
                          refine ar_call 20 (some 84) 19 #[.agg #[.slice none 0 0, .slice none 0 0], .agg #[.slice Ag Ng Cg, .slice Bg Mg Dg]] (by kernel_rfl) (by kernel_rfl) (qCmpIs (natO_nil _).a (natO_nil _).a (by omega) (by omega) Fg.a Gg.a (by omega) (by omega) 0 (by decide)) ?_ ?_
                          · rintro e v61 ⟨rfl, hB⟩
                            refine ⟨_, rfl, joinB hS hB, ?_⟩
                            replace hS := joinB hS hB
                            replace HB := joinB HB hB
                            clear Fg Gg
                            replace H1 := H1.keep hB
                            replace H2 := H2.keep hB
                            clear hB
                            refine rg_take 21 (some 85) (.bool true) (by kernel_rfl) (fun _ _ => by kernel_rfl) (fun _ _ _ h => h) hS ?_
                            refine rg_take 22 (some 86) (.bool true) (by kernel_rfl) (fun _ _ => by kernel_rfl) (fun _ _ _ h => h) hS ?_
                            refine rg_take 23 (some 87) (.bool true) (by kernel_rfl) (fun _ _ => by kernel_rfl) (fun _ _ _ h => h) hS ?_
                            refine rg_ready [24] (by kernel_rfl) (by simp) ?_
                            refine ar_call 24 (some 88) 74 #[.int .u64 1, .int .u64 3] (by kernel_rfl) (by kernel_rfl) (qFrac (x := 1) (y := 3) (by decide) (by decide) (by decide) (by decide)) ?_ ?_
                            · rintro e v62 ⟨Ah, Nh, Ch, Bh, Mh, Dh, rfl, Fh, Gh, hFh, hGh, hB⟩
                              refine ⟨_, rfl, joinB hS hB, ?_⟩
                              replace hS := joinB hS hB
                              replace HB := joinB HB hB
                              replace H1 := H1.keep hB
                              replace H2 := H2.keep hB
                              clear hB
                              replace Fh := Fh.eqv (show _ = (1 : Int) by decide)
                              replace Gh := Gh.eqv (show _ = (3 : Int) by decide)
                              refine rg_ready [25] (by kernel_rfl) (by simp) ?_
                              refine ar_call 25 (some 89) 29 #[.agg #[.slice Ah Nh Ch, .slice Bh Mh Dh]] (by kernel_rfl) (by kernel_rfl) (qDown Fh.a Gh.a (by omega) (by omega)) ?_ ?_
                              · rintro e v63 ⟨Ai, Ni, Ci, rfl, Fi, hFi, hB⟩
                                refine ⟨_, rfl, joinB hS hB, ?_⟩
                                replace hS := joinB hS hB
                                replace HB := joinB HB hB
                                clear Fh Gh
                                replace H1 := H1.keep hB
                                replace H2 := H2.keep hB
                                clear hB
                                replace Fi := Fi.eqv (show _ = (333333333333333333333333333333333333 : Int) by decide)
                                refine rg_ready [26] (by kernel_rfl) (by simp) ?_
                                refine ar_call 26 (some 90) 70 #[.agg #[.slice Ai Ni Ci]] (by kernel_rfl) (by kernel_rfl) (dText Fi.a (by omega) (appAll_small (by decide))) ?_ ?_
                                · rintro e v64 ⟨TS, rfl, hT, hTS, hB⟩
                                  obtain rfl := dtext_is hT [48, 46, 51, 51, 51, 51, 51, 51, 51, 51, 51, 51, 51, 51, 51, 51, 51, 51, 51, 51, 51, 51, 51, 51, 51, 51, 51, 51, 51, 51, 51, 51, 51, 51, 51, 51, 51, 51] [48] (by decide) (by decide) (by decide) (by decide) (by kernel_rfl)
                                  clear hT hTS
                                  refine ⟨_, rfl, joinB hS hB, ?_⟩
                                  replace hS := joinB hS hB
                                  replace HB := joinB HB hB
                                  clear Fi
                                  replace H1 := H1.keep hB
                                  replace H2 := H2.keep hB
                                  clear hB
                                  refine rg_take 27 (some 91) (.bool true) (by kernel_rfl) (fun _ _ => by kernel_rfl) (fun _ _ _ h => h) hS ?_
                                  refine rg_take 28 (some 92) (.bool true) (by kernel_rfl) (fun _ _ => by kernel_rfl) (fun _ _ _ h => h) hS ?_
                                  refine rg_take 29 (some 93) (.bool true) (by kernel_rfl) (fun _ _ => by kernel_rfl) (fun _ _ _ h => h) hS ?_
                                  refine rg_ready [30] (by kernel_rfl) (by simp) ?_
                                  refine ar_call 30 (some 94) 74 #[.int .u64 1, .int .u64 3] (by kernel_rfl) (by kernel_rfl) (qFrac (x := 1) (y := 3) (by decide) (by decide) (by decide) (by decide)) ?_ ?_
                                  · rintro e v65 ⟨Aj, Nj, Cj, Bj, Mj, Dj, rfl, Fj, Gj, hFj, hGj, hB⟩
                                    refine ⟨_, rfl, joinB hS hB, ?_⟩
                                    replace hS := joinB hS hB
                                    replace HB := joinB HB hB
                                    replace H1 := H1.keep hB
                                    replace H2 := H2.keep hB
                                    clear hB
                                    replace Fj := Fj.eqv (show _ = (1 : Int) by decide)
                                    replace Gj := Gj.eqv (show _ = (3 : Int) by decide)
                                    refine rg_ready [31] (by kernel_rfl) (by simp) ?_
                                    refine ar_call 31 (some 95) 74 #[.int .u64 1, .int .u64 2] (by kernel_rfl) (by kernel_rfl) (qFrac (x := 1) (y := 2) (by decide) (by decide) (by decide) (by decide)) ?_ ?_
                                    · rintro e v66 ⟨Ak, Nk, Ck, Bk, Mk, Dk, rfl, Fk, Gk, hFk, hGk, hB⟩
                                      refine ⟨_, rfl, joinB hS hB, ?_⟩
                                      replace hS := joinB hS hB
                                      replace HB := joinB HB hB
                                      replace H1 := H1.keep hB
                                      replace H2 := H2.keep hB
                                      replace Fj := Fj.keep hB
                                      replace Gj := Gj.keep hB
                                      clear hB
                                      replace Fk := Fk.eqv (show _ = (1 : Int) by decide)
                                      replace Gk := Gk.eqv (show _ = (2 : Int) by decide)
                                      refine rg_ready [32] (by kernel_rfl) (by simp) ?_
                                      refine ar_call 32 (some 96) 19 #[.agg #[.slice Aj Nj Cj, .slice Bj Mj Dj], .agg #[.slice Ak Nk Ck, .slice Bk Mk Dk]] (by kernel_rfl) (by kernel_rfl) (qCmpIs Fj.a Gj.a (by omega) (by omega) Fk.a Gk.a (by omega) (by omega) (-1) (by decide)) ?_ ?_
                                      · rintro e v67 ⟨rfl, hB⟩
                                        refine ⟨_, rfl, joinB hS hB, ?_⟩
                                        replace hS := joinB hS hB
                                        replace HB := joinB HB hB
                                        clear Fj Gj Fk Gk
                                        replace H1 := H1.keep hB
                                        replace H2 := H2.keep hB
                                        clear hB
                                        refine rg_take 33 (some 97) (.bool true) (by kernel_rfl) (fun _ _ => by kernel_rfl) (fun _ _ _ h => h) hS ?_
                                        refine rg_take 34 (some 98) (.bool true) (by kernel_rfl) (fun _ _ => by kernel_rfl) (fun _ _ _ h => h) hS ?_
                                        refine rg_take 35 (some 99) (.bool true) (by kernel_rfl) (fun _ _ => by kernel_rfl) (fun _ _ _ h => h) hS ?_
                                        refine rg_load 39 (some 103) (.agg #[.slice (some ⟨k8.heap.size + 1, 0, none⟩) 1 1, .slice (some ⟨k8.heap.size + 1 + 1, 0, none⟩) 1 1]) 30 9 (k8.heap.size + 1 + 1 + 1) 0 (by kernel_rfl) (by kernel_rfl) (by kernel_rfl) (fun _ hb => load_rat (U9.keep hb)) (fun _ _ _ h => h) hS ?_
                                        refine rg_ready [36] (by kernel_rfl) (by simp) ?_
                                        refine ar_call 36 (some 100) 74 #[.int .u64 2, .int .u64 3] (by kernel_rfl) (by kernel_rfl) (qFrac (x := 2) (y := 3) (by decide) (by decide) (by decide) (by decide)) ?_ ?_
                                        · rintro e v68 ⟨Al, Nl, Cl, Bl, Ml, Dl, rfl, Fl, Gl, hFl, hGl, hB⟩
                                          refine ⟨_, rfl, joinB hS hB, ?_⟩
                                          replace hS := joinB hS hB
                                          replace HB := joinB HB hB
                                          replace H1 := H1.keep hB
                                          replace H2 := H2.keep hB
                                          clear hB
                                          replace Fl := Fl.eqv (show _ = (2 : Int) by decide)
                                          replace Gl := Gl.eqv (show _ = (3 : Int) by decide)
                                          refine rg_ready [37] (by kernel_rfl) (by simp) ?_
                                          refine ar_call 37 (some 101) 74 #[.int .u64 3, .int .u64 4] (by kernel_rfl) (by kernel_rfl) (qFrac (x := 3) (y := 4) (by decide) (by decide) (by decide) (by decide)) ?_ ?_
                                          · rintro e v69 ⟨Am, Nm, Cm, Bm, Mm, Dm, rfl, Fm, Gm, hFm, hGm, hB⟩
                                            refine ⟨_, rfl, joinB hS hB, ?_⟩
                                            replace hS := joinB hS hB
                                            replace HB := joinB HB hB
                                            replace H1 := H1.keep hB
                                            replace H2 := H2.keep hB
                                            replace Fl := Fl.keep hB
                                            replace Gl := Gl.keep hB
                                            clear hB
                                            replace Fm := Fm.eqv (show _ = (3 : Int) by decide)
                                            replace Gm := Gm.eqv (show _ = (4 : Int) by decide)
                                            refine rg_ready [38] (by kernel_rfl) (by simp) ?_
                                            refine ar_call 38 (some 102) 25 #[.agg #[.slice Al Nl Cl, .slice Bl Ml Dl], .agg #[.slice Am Nm Cm, .slice Bm Mm Dm]] (by kernel_rfl) (by kernel_rfl) (qMul Fl.a Gl.a (by omega) (by omega) Fm.a Gm.a (by omega) (by omega)) ?_ ?_
                                            · rintro e v70 ⟨Ao, No, Co, Bo, Mo, Do, rfl, Fo, Go, hFo, hGo, hB⟩
                                              refine ⟨_, rfl, joinB hS hB, ?_⟩
                                              replace hS := joinB hS hB
                                              replace HB := joinB HB hB
                                              clear Fl Gl Fm Gm
                                              replace H1 := H1.keep hB
                                              replace H2 := H2.keep hB
                                              clear hB
                                              replace Fo := Fo.eqv (show _ = (1 : Int) by decide)
                                              replace Go := Go.eqv (show _ = (2 : Int) by decide)
                                              refine rg_ready [40] (by kernel_rfl) (by simp) ?_
                                              refine ar_call 40 (some 104) 16 #[.agg #[.slice Ao No Co, .slice Bo Mo Do], .agg #[.slice (some ⟨k8.heap.size + 1, 0, none⟩) 1 1, .slice (some ⟨k8.heap.size + 1 + 1, 0, none⟩) 1 1]] (by kernel_rfl) (by kernel_rfl) (qSameT Fo Go (by omega) (by omega) H1 H2 (by omega) (by omega)) ?_ ?_
                                              · rintro e v71 ⟨rfl, hB⟩
                                                refine ⟨_, rfl, joinB hS hB, ?_⟩
                                                replace hS := joinB hS hB
                                                replace HB := joinB HB hB
                                                clear Fo Go
                                                replace H1 := H1.keep hB
                                                replace H2 := H2.keep hB
                                                clear hB
                                                refine rg_take 41 (some 105) (.bool true) (by kernel_rfl) (fun _ _ => by kernel_rfl) (fun _ _ _ h => h) hS ?_
                                                refine rg_take 42 (some 0) (.bool true) (by kernel_rfl) (fun _ _ => by kernel_rfl) (fun _ _ _ h => h) hS ?_
                                                refine rg_done (by kernel_rfl) ?_
                                                try simp only [Act.put, List.setIfInBounds_toArray, List.set_cons_zero, List.set_cons_succ]
                                                go_wp2
                                                go_ret
                                                exact ⟨rfl, HB⟩
                                              exact ar_nil
                                            exact ar_nil
                                          exact ar_nil
                                        exact ar_nil
                                      exact ar_nil
                                    exact ar_nil
                                  exact ar_nil
                                exact ar_nil
                              exact ar_nil
                            exact ar_nil
                          exact ar_nil
                        exact ar_nil
                      exact ar_nil
                    exact ar_nil
                  exact ar_nil
                exact ar_nil
              exact ar_nil
            exact ar_nil
          refine ar_val 8 (some 72) (.slice (some ⟨v4.heap.size, 0, none⟩) 1 1) (v4.alloc (.cells #[.int .u64 3] 39)) (by kernel_rfl) (by kernel_rfl) (joinB hS (below_alloc _ _)) ?_ ?_
          · have Y72 := natO_lit (v4) 3 (by decide) (by decide)
            have hB := below_alloc (v4) (.cells #[.int .u64 3] 39)
            replace hS := joinB hS hB
            replace HB := joinB HB hB
            replace H1 := H1.keep hB
            replace H2 := H2.keep hB
            clear hB
            generalize v4.alloc (.cells #[.int .u64 3] 39) = v72 at *
            refine rg_ready [6] (by kernel_rfl) (by simp) ?_
            refine ar_call 6 (some 70) 74 #[.int .u64 7, .int .u64 2] (by kernel_rfl) (by kernel_rfl) (qFrac (x := 7) (y := 2) (by decide) (by decide) (by decide) (by decide)) ?_ ?_
            · rintro e v73 ⟨Ad, Nd, Cd, Bd, Md, Dd, rfl, Fd, Gd, hFd, hGd, hB⟩
              refine ⟨_, rfl, joinB hS hB, ?_⟩
              replace hS := joinB hS hB
              replace HB := joinB HB hB
              replace H1 := H1.keep hB
              replace H2 := H2.keep hB
              replace Y72 := Y72.keep hB
              clear hB
              replace Fd := Fd.eqv (show _ = (7 : Int) by decide)
              replace Gd := Gd.eqv (show _ = (2 : Int) by decide)
              refine rg_ready [7] (by kernel_rfl) (by simp) ?_
              refine ar_call 7 (some 71) 20 #[.agg #[.slice Ad Nd Cd, .slice Bd Md Dd]] (by kernel_rfl) (by kernel_rfl) (qFloor Fd.a Gd.a (by omega) (by omega)) ?_ ?_
              · rintro e v74 ⟨Ae, Ne, Ce, rfl, Fe, hFe, hB⟩
                refine ⟨_, rfl, joinB hS hB, ?_⟩
                replace hS := joinB hS hB
                replace HB := joinB HB hB
                clear Fd Gd
                replace H1 := H1.keep hB
                replace H2 := H2.keep hB
                replace Y72 := Y72.keep hB
                clear hB
                replace Fe := Fe.eqv (show _ = (3 : Int) by decide)
                refine rg_ready [9] (by kernel_rfl) (by simp) ?_
                refine ar_call 9 (some 73) 42 #[.slice Ae Ne Ce, .slice (some ⟨v4.heap.size, 0, none⟩) 1 1] (by kernel_rfl) (by kernel_rfl) (nSameT Fe Y72 (by omega) (by omega)) ?_ ?_
                · rintro e v75 ⟨rfl, hB⟩
                  refine ⟨_, rfl, joinB hS hB, ?_⟩
                  replace hS := joinB hS hB
                  replace HB := joinB HB hB
                  clear Fe Y72
                  replace H1 := H1.keep hB
                  replace H2 := H2.keep hB
                  clear hB
                  refine rg_take 10 (some 74) (.bool true) (by kernel_rfl) (fun _ _ => by kernel_rfl) (fun _ _ _ h => h) hS ?_
                  refine rg_take 11 (some 75) (.bool true) (by kernel_rfl) (fun _ _ => by kernel_rfl) (fun _ _ _ h => h) hS ?_
                  refine rg_ready [12, 13] (by kernel_rfl) (by simp) ?_
                  refine ar_call 12 (some 76) 17 #[.slice none 0 0] (by kernel_rfl) (by kernel_rfl) (qSum (l := []) (B := 0) rfl (by omega) ⟨fun i hi => by simp at hi⟩ (by omega) (by omega) (by omega)) ?_ ?_
                  · rintro e v76 ⟨Af, Nf, Cf, Bf, Mf, Df, n3, n4, rfl, Ff, Gf, hR, hFf, hGf, hB⟩
                    obtain ⟨rfl, rfl⟩ := red_is hR 0 1 (by decide) (by decide) (by decide) (by decide) (by decide)
                    clear hR
                    refine ⟨_, rfl, joinB hS hB, ?_⟩
                    replace hS := joinB hS hB
                    replace HB := joinB HB hB
                    replace H1 := H1.keep hB
                    replace H2 := H2.keep hB
                    clear hB
                    refine rg_ready [13] (by kernel_rfl) (by simp) ?_
                    refine ar_val 13 (some 77) (.slice (some ⟨v76.heap.size, 0, none⟩) 1 1) (v76.alloc (.cells #[.int .u64 1] 39)) (by kernel_rfl) (by kernel_rfl) (joinB hS (below_alloc _ _)) ?_ ?_
                    · have Y77 := natO_lit (v76) 1 (by decide) (by decide)
                      have hB := below_alloc (v76) (.cells #[.int .u64 1] 39)
                      replace hS := joinB hS hB
                      replace HB := joinB HB hB
                      replace H1 := H1.keep hB
                      replace H2 := H2.keep hB
                      replace Ff := Ff.keep hB
                      replace Gf := Gf.keep hB
                      clear hB
                      generalize v76.alloc (.cells #[.int .u64 1] 39) = v77 at *
                      refine rg_take 14 (some 78) (.agg #[.slice none 0 0, .slice (some ⟨v76.heap.size, 0, none⟩) 1 1]) (by kernel_rfl) (fun _ _ => by kernel_rfl) (fun _ _ _ h => h) hS ?_
                      refine rg_ready [15] (by kernel_rfl) (by simp) ?_
                      refine ar_call 15 (some 79) 16 #[.agg #[.slice Af Nf Cf, .slice Bf Mf Df], .agg #[.slice none 0 0, .slice (some ⟨v76.heap.size, 0, none⟩) 1 1]] (by kernel_rfl) (by kernel_rfl) (qSameT Ff Gf (by omega) (by omega) (natO_nil _) Y77 (by omega) (by omega)) ?_ ?_
                      · rintro e v78 ⟨rfl, hB⟩
                        refine ⟨_, rfl, joinB hS hB, ?_⟩
                        replace hS := joinB hS hB
                        replace HB := joinB HB hB
                        clear Ff Gf Y77
                        replace H1 := H1.keep hB
                        replace H2 := H2.keep hB
                        clear hB
                        refine rg_take 16 (some 80) (.bool true) (by kernel_rfl) (fun _ _ => by kernel_rfl) (fun _ _ _ h => h) hS ?_
                        refine rg_take 17 (some 81) (.bool true) (by kernel_rfl) (fun _ _ => by kernel_rfl) (fun _ _ _ h => h) hS ?_
                        refine rg_take 18 (some 82) (.agg #[.slice none 0 0, .slice none 0 0]) (by kernel_rfl) (fun _ _ => by kernel_rfl) (fun _ _ _ h => h) hS ?_
                        refine rg_ready [19] (by kernel_rfl) (by simp) ?_
                        refine ar_call 19 (some 83) 21 #[.slice none 0 0] (by kernel_rfl) (by kernel_rfl) (qOfNat (natO_nil _).a (by omega)) ?_ ?_
                        · rintro e v79 ⟨Ag, Ng, Cg, Bg, Mg, Dg, rfl, Fg, Gg, hFg, hGg, hB⟩
                          refine ⟨_, rfl, joinB hS hB, ?_⟩
                          replace hS := joinB hS hB
                          replace HB := joinB HB hB
                          replace H1 := H1.keep hB
                          replace H2 := H2.keep hB
                          clear hB
                          refine rg_ready [20] (by kernel_rfl) (by simp) ?_
                          refine ar_call 20 (some 84) 19 #[.agg #[.slice none 0 0, .slice none 0 0], .agg #[.slice Ag Ng Cg, .slice Bg Mg Dg]] (by kernel_rfl) (by kernel_rfl) (qCmpIs (natO_nil _).a (natO_nil _).a (by omega) (by omega) Fg.a Gg.a (by omega) (by omega) 0 (by decide)) ?_ ?_
                          · rintro e v80 ⟨rfl, hB⟩
                            refine ⟨_, rfl, joinB hS hB, ?_⟩
                            replace hS := joinB hS hB
                            replace HB := joinB HB hB
                            clear Fg Gg
                            replace H1 := H1.keep hB
                            replace H2 := H2.keep hB
                            clear hB
                            refine rg_take 21 (some 85) (.bool true) (by kernel_rfl) (fun _ _ => by kernel_rfl) (fun _ _ _ h => h) hS ?_
                            refine rg_take 22 (some 86) (.bool true) (by kernel_rfl) (fun _ _ => by kernel_rfl) (fun _ _ _ h => h) hS ?_
                            refine rg_take 23 (some 87) (.bool true) (by kernel_rfl) (fun _ _ => by kernel_rfl) (fun _ _ _ h => h) hS ?_
                            refine rg_ready [24] (by kernel_rfl) (by simp) ?_
                            refine ar_call 24 (some 88) 74 #[.int .u64 1, .int .u64 3] (by kernel_rfl) (by kernel_rfl) (qFrac (x := 1) (y := 3) (by decide) (by decide) (by decide) (by decide)) ?_ ?_
                            · rintro e v81 ⟨Ah, Nh, Ch, Bh, Mh, Dh, rfl, Fh, Gh, hFh, hGh, hB⟩
                              refine ⟨_, rfl, joinB hS hB, ?_⟩
                              replace hS := joinB hS hB
                              replace HB := joinB HB hB
                              replace H1 := H1.keep hB
                              replace H2 := H2.keep hB
                              clear hB
                              replace Fh := Fh.eqv (show _ = (1 : Int) by decide)
                              replace Gh := Gh.eqv (show _ = (3 : Int) by decide)
                              refine rg_ready [25] (by kernel_rfl) (by simp) ?_
                              refine ar_call 25 (some 89) 29 #[.agg #[.slice Ah Nh Ch, .slice Bh Mh Dh]] (by kernel_rfl) (by kernel_rfl) (qDown Fh.a Gh.a (by omega) (by omega)) ?_ ?_
                              · rintro e v82 ⟨Ai, Ni, Ci, rfl, Fi, hFi, hB⟩
                                refine ⟨_, rfl, joinB hS hB, ?_⟩
                                replace hS := joinB hS hB
                                replace HB := joinB HB hB
                                clear Fh Gh
                                replace H1 := H1.keep hB
                                replace H2 := H2.keep hB
                                clear hB
                                replace Fi := Fi.eqv (show _ = (333333333333333333333333333333333333 : Int) by decide)
                                refine rg_ready [26] (by kernel_rfl) (by simp) ?_
                                refine ar_call 26 (some 90) 70 #[.agg #[.slice Ai Ni Ci]] (by kernel_rfl) (by kernel_rfl) (dText Fi.a (by omega) (appAll_small (by decide))) ?_ ?_
                                · rintro e v83 ⟨TS, rfl, hT, hTS, hB⟩
                                  obtain rfl := dtext_is hT [48, 46, 51, 51, 51, 51, 51, 51, 51, 51, 51, 51, 51, 51, 51, 51, 51, 51, 51, 51, 51, 51, 51, 51, 51, 51, 51, 51, 51, 51, 51, 51, 51, 51, 51, 51, 51, 51] [48] (by decide) (by decide) (by decide) (by decide) (by kernel_rfl)
                                  clear hT hTS
                                  refine ⟨_, rfl, joinB hS hB, ?_⟩
                                  replace hS := joinB hS hB
                                  replace HB := joinB HB hB
                                  clear Fi
                                  replace H1 := H1.keep hB
                                  replace H2 := H2.keep hB
                                  clear hB
                                  refine rg_take 27 (some 91) (.bool true) (by kernel_rfl) (fun _ _ => by kernel_rfl) (fun _ _ _ h => h) hS ?_
                                  refine rg_take 28 (some 92) (.bool true) (by kernel_rfl) (fun _ _ => by kernel_rfl) (fun _ _ _ h => h) hS ?_
                                  refine rg_take 29 (some 93) (.bool true) (by kernel_rfl) (fun _ _ => by kernel_rfl) (fun _ _ _ h => h) hS ?_
                                  refine rg_ready [30] (by kernel_rfl) (by simp) ?_
                                  refine ar_call 30 (some 94) 74 #[.int .u64 1, .int .u64 3] (by kernel_rfl) (by kernel_rfl) (qFrac (x := 1) (y := 3) (by decide) (by decide) (by decide) (by decide)) ?_ ?_
                                  · rintro e v84 ⟨Aj, Nj, Cj, Bj, Mj, Dj, rfl, Fj, Gj, hFj, hGj, hB⟩
                                    refine ⟨_, rfl, joinB hS hB, ?_⟩
                                    replace hS := joinB hS hB
                                    replace HB := joinB HB hB
                                    replace H1 := H1.keep hB
                                    replace H2 := H2.keep hB
                                    clear hB
                                    replace Fj := Fj.eqv (show _ = (1 : Int) by decide)
                                    replace Gj := Gj.eqv (show _ = (3 : Int) by decide)
                                    refine rg_ready [31] (by kernel_rfl) (by simp) ?_
                                    refine ar_call 31 (some 95) 74 #[.int .u64 1, .int .u64 2] (by kernel_rfl) (by kernel_rfl) (qFrac (x := 1) (y := 2) (by decide) (by decide) (by decide) (by decide)) ?_ ?_
                                    · rintro e v85 ⟨Ak, Nk, Ck, Bk, Mk, Dk, rfl, Fk, Gk, hFk, hGk, hB⟩
                                      refine ⟨_, rfl, joinB hS hB, ?_⟩
                                      replace hS := joinB hS hB
                                      replace HB := joinB HB hB
                                      replace H1 := H1.keep hB
                                      replace H2 := H2.keep hB
                                      replace Fj := Fj.keep hB
                                      replace Gj := Gj.keep hB
                                      clear hB
                                      replace Fk := Fk.eqv (show _ = (1 : Int) by decide)
                                      replace Gk := Gk.eqv (show _ = (2 : Int) by decide)
                                      refine rg_ready [32] (by kernel_rfl) (by simp) ?_
                                      refine ar_call 32 (some 96) 19 #[.agg #[.slice Aj Nj Cj, .slice Bj Mj Dj], .agg #[.slice Ak Nk Ck, .slice Bk Mk Dk]] (by kernel_rfl) (by kernel_rfl) (qCmpIs Fj.a Gj.a (by omega) (by omega) Fk.a Gk.a (by omega) (by omega) (-1) (by decide)) ?_ ?_
                                      · rintro e v86 ⟨rfl, hB⟩
                                        refine ⟨_, rfl, joinB hS hB, ?_⟩
                                        replace hS := joinB hS hB
                                        replace HB := joinB HB hB
                                        clear Fj Gj Fk Gk
                                        replace H1 := H1.keep hB
                                        replace H2 := H2.keep hB
                                        clear hB
                                        refine rg_take 33 (some 97) (.bool true) (by kernel_rfl) (fun _ _ => by kernel_rfl) (fun _ _ _ h => h) hS ?_
                                        refine rg_take 34 (some 98) (.bool true) (by kernel_rfl) (fun _ _ => by kernel_rfl) (fun _ _ _ h => h) hS ?_
                                        refine rg_take 35 (some 99) (.bool true) (by kernel_rfl) (fun _ _ => by kernel_rfl) (fun _ _ _ h => h) hS ?_
                                        refine rg_load 39 (some 103) (.agg #[.slice (some ⟨k8.heap.size + 1, 0, none⟩) 1 1, .slice (some ⟨k8.heap.size + 1 + 1, 0, none⟩) 1 1]) 30 9 (k8.heap.size + 1 + 1 + 1) 0 (by kernel_rfl) (by kernel_rfl) (by kernel_rfl) (fun _ hb => load_rat (U9.keep hb)) (fun _ _ _ h => h) hS ?_
                                        refine rg_ready [36] (by kernel_rfl) (by simp) ?_
                                        refine ar_call 36 (some 100) 74 #[.int .u64 2, .int .u64 3] (by kernel_rfl) (by kernel_rfl) (qFrac (x := 2) (y := 3) (by decide) (by decide) (by decide) (by decide)) ?_ ?_
                                        · rintro e v87 ⟨Al, Nl, Cl, Bl, Ml, Dl, rfl, Fl, Gl, hFl, hGl, hB⟩
                                          refine ⟨_, rfl, joinB hS hB, ?_⟩
                                          replace hS := joinB hS hB
                                          replace HB := joinB HB hB
                                          replace H1 := H1.keep hB
                                          replace H2 := H2.keep hB
                                          clear hB
                                          replace Fl := Fl.eqv (show _ = (2 : Int) by decide)
                                          replace Gl := Gl.eqv (show _ = (3 : Int) by decide)
                                          refine rg_ready [37] (by kernel_rfl) (by simp) ?_
                                          refine ar_call 37 (some 101) 74 #[.int .u64 3, .int .u64 4] (by kernel_rfl) (by kernel_rfl) (qFrac (x := 3) (y := 4) (by decide) (by decide) (by decide) (by decide)) ?_ ?_
                                          · rintro e v88 ⟨Am, Nm, Cm, Bm, Mm, Dm, rfl, Fm, Gm, hFm, hGm, hB⟩
                                            refine ⟨_, rfl, joinB hS hB, ?_⟩
                                            replace hS := joinB hS hB
                                            replace HB := joinB HB hB
                                            replace H1 := H1.keep hB
                                            replace H2 := H2.keep hB
                                            replace Fl := Fl.keep hB
                                            replace Gl := Gl.keep hB
                                            clear hB
                                            replace Fm := Fm.eqv (show _ = (3 : Int) by decide)
                                            replace Gm := Gm.eqv (show _ = (4 : Int) by decide)
                                            refine rg_ready [38] (by kernel_rfl) (by simp) ?_
                                            refine ar_call 38 (some 102) 25 #[.agg #[.slice Al Nl Cl, .slice Bl Ml Dl], .agg #[.slice Am Nm Cm, .slice Bm Mm Dm]] (by kernel_rfl) (by kernel_rfl) (qMul Fl.a Gl.a (by omega) (by omega) Fm.a Gm.a (by omega) (by omega)) ?_ ?_
                                            · rintro e v89 ⟨Ao, No, Co, Bo, Mo, Do, rfl, Fo, Go, hFo, hGo, hB⟩
                                              refine ⟨_, rfl, joinB hS hB, ?_⟩
                                              replace hS := joinB hS hB
                                              replace HB := joinB HB hB
                                              clear Fl Gl Fm Gm
                                              replace H1 := H1.keep hB
                                              replace H2 := H2.keep hB
                                              clear hB
                                              replace Fo := Fo.eqv (show _ = (1 : Int) by decide)
                                              replace Go := Go.eqv (show _ = (2 : Int) by decide)
                                              refine rg_ready [40] (by kernel_rfl) (by simp) ?_
                                              refine ar_call 40 (some 104) 16 #[.agg #[.slice Ao No Co, .slice Bo Mo Do], .agg #[.slice (some ⟨k8.heap.size + 1, 0, none⟩) 1 1, .slice (some ⟨k8.heap.size + 1 + 1, 0, none⟩) 1 1]] (by kernel_rfl) (by kernel_rfl) (qSameT Fo Go (by omega) (by omega) H1 H2 (by omega) (by omega)) ?_ ?_
                                              · rintro e v90 ⟨rfl, hB⟩
                                                refine ⟨_, rfl, joinB hS hB, ?_⟩
                                                replace hS := joinB hS hB
                                                replace HB := joinB HB hB
                                                clear Fo Go
                                                replace H1 := H1.keep hB
                                                replace H2 := H2.keep hB
                                                clear hB
                                                refine rg_take 41 (some 105) (.bool true) (by kernel_rfl) (fun _ _ => by kernel_rfl) (fun _ _ _ h => h) hS ?_
                                                refine rg_take 42 (some 0) (.bool true) (by kernel_rfl) (fun _ _ => by kernel_rfl) (fun _ _ _ h => h) hS ?_
                                                refine rg_done (by kernel_rfl) ?_
                                                try simp only [Act.put, List.setIfInBounds_toArray, List.set_cons_zero, List.set_cons_succ]
                                                go_wp2
                                                go_ret
                                                exact ⟨rfl, HB⟩
                                              exact ar_nil
                                            exact ar_nil
                                          exact ar_nil
                                        exact ar_nil
                                      exact ar_nil
                                    exact ar_nil
                                  exact ar_nil
                                exact ar_nil
                              exact ar_nil
                            exact ar_nil
                          exact ar_nil
                        exact ar_nil
                      exact ar_nil
                    exact ar_nil
                  refine ar_val 13 (some 77) (.slice (some ⟨v75.heap.size, 0, none⟩) 1 1) (v75.alloc (.cells #[.int .u64 1] 39)) (by kernel_rfl) (by kernel_rfl) (joinB hS (below_alloc _ _)) ?_ ?_
                  · have Y77 := natO_lit (v75) 1 (by decide) (by decide)
                    have hB := below_alloc (v75) (.cells #[.int .u64 1] 39)
                    replace hS := joinB hS hB
                    replace HB := joinB HB hB
                    replace H1 := H1.keep hB
                    replace H2 := H2.keep hB
                    clear hB
                    generalize v75.alloc (.cells #[.int .u64 1] 39) = v91 at *
                    refine rg_take 14 (some 78) (.agg #[.slice none 0 0, .slice (some ⟨v75.heap.size, 0, none⟩) 1 1]) (by kernel_rfl) (fun _ _ => by kernel_rfl) (fun _ _ _ h => h) hS ?_
                    refine rg_ready [12] (by kernel_rfl) (by simp) ?_
                    refine ar_call 12 (some 76) 17 #[.slice none 0 0] (by kernel_rfl) (by kernel_rfl) (qSum (l := []) (B := 0) rfl (by omega) ⟨fun i hi => by simp at hi⟩ (by omega) (by omega) (by omega)) ?_ ?_
                    · rintro e v92 ⟨Af, Nf, Cf, Bf, Mf, Df, n3, n4, rfl, Ff, Gf, hR, hFf, hGf, hB⟩
                      obtain ⟨rfl, rfl⟩ := red_is hR 0 1 (by decide) (by decide) (by decide) (by decide) (by decide)
                      clear hR
                      refine ⟨_, rfl, joinB hS hB, ?_⟩
                      replace hS := joinB hS hB
                      replace HB := joinB HB hB
                      replace H1 := H1.keep hB
                      replace H2 := H2.keep hB
                      replace Y77 := Y77.keep hB
                      clear hB
                      refine rg_ready [15] (by kernel_rfl) (by simp) ?_
                      refine ar_call 15 (some 79) 16 #[.agg #[.slice Af Nf Cf, .slice Bf Mf Df], .agg #[.slice none 0 0, .slice (some ⟨v75.heap.size, 0, none⟩) 1 1]] (by kernel_rfl) (by kernel_rfl) (qSameT Ff Gf (by omega) (by omega) (natO_nil _) Y77 (by omega) (by omega)) ?_ ?_
                      · rintro e v93 ⟨rfl, hB⟩
                        refine ⟨_, rfl, joinB hS hB, ?_⟩
                        replace hS := joinB hS hB
                        replace HB := joinB HB hB
                        clear Ff Gf Y77
                        replace H1 := H1.keep hB
                        replace H2 := H2.keep hB
                        clear hB
                        refine rg_take 16 (some 80) (.bool true) (by kernel_rfl) (fun _ _ => by kernel_rfl) (fun _ _ _ h => h) hS ?_
                        refine rg_take 17 (some 81) (.bool true) (by kernel_rfl) (fun _ _ => by kernel_rfl) (fun _ _ _ h => h) hS ?_
                        refine rg_take 18 (some 82) (.agg #[.slice none 0 0, .slice none 0 0]) (by kernel_rfl) (fun _ _ => by kernel_rfl) (fun _ _ _ h => h) hS ?_
                        refine rg_ready [19] (by kernel_rfl) (by simp) ?_
                        refine ar_call 19 (some 83) 21 #[.slice none 0 0] (by kernel_rfl) (by kernel_rfl) (qOfNat (natO_nil _).a (by omega)) ?_ ?_
                        · rintro e v94 ⟨Ag, Ng, Cg, Bg, Mg, Dg, rfl, Fg, Gg, hFg, hGg, hB⟩
                          refine ⟨_, rfl, joinB hS hB, ?_⟩
                          replace hS := joinB hS hB
                          replace HB := joinB HB hB
                          replace H1 := H1.keep hB
                          replace H2 := H2.keep hB
                          clear hB
                          refine rg_ready [20] (by kernel_rfl) (by simp) ?_
                          refine ar_call 20 (some 84) 19 #[.agg #[.slice none 0 0, .slice none 0 0], .agg #[.slice Ag Ng Cg, .slice Bg Mg Dg]] (by kernel_rfl) (by kernel_rfl) (qCmpIs (natO_nil _).a (natO_nil _).a (by omega) (by omega) Fg.a Gg.a (by omega) (by omega) 0 (by decide)) ?_ ?_
                          · rintro e v95 ⟨rfl, hB⟩
                            refine ⟨_, rfl, joinB hS hB, ?_⟩
                            replace hS := joinB hS hB
                            replace HB := joinB HB hB
                            clear Fg Gg
                            replace H1 := H1.keep hB
                            replace H2 := H2.keep hB
                            clear hB
                            refine rg_take 21 (some 85) (.bool true) (by kernel_rfl) (fun _ _ => by kernel_rfl) (fun _ _ _ h => h) hS ?_
                            refine rg_take 22 (some 86) (.bool true) (by kernel_rfl) (fun _ _ => by kernel_rfl) (fun _ _ _ h => h) hS ?_
                            refine rg_take 23 (some 87) (.bool true) (by kernel_rfl) (fun _ _ => by kernel_rfl) (fun _ _ _ h => h) hS ?_
                            refine rg_ready [24] (by kernel_rfl) (by simp) ?_
                            refine ar_call 24 (some 88) 74 #[.int .u64 1, .int .u64 3] (by kernel_rfl) (by kernel_rfl) (qFrac (x := 1) (y := 3) (by decide) (by decide) (by decide) (by decide)) ?_ ?_
                            · rintro e v96 ⟨Ah, Nh, Ch, Bh, Mh, Dh, rfl, Fh, Gh, hFh, hGh, hB⟩
                              refine ⟨_, rfl, joinB hS hB, ?_⟩
                              replace hS := joinB hS hB
                              replace HB := joinB HB hB
                              replace H1 := H1.keep hB
                              replace H2 := H2.keep hB
                              clear hB
                              replace Fh := Fh.eqv (show _ = (1 : Int) by decide)
                              replace Gh := Gh.eqv (show _ = (3 : Int) by decide)
                              refine rg_ready [25] (by kernel_rfl) (by simp) ?_
                              refine ar_call 25 (some 89) 29 #[.agg #[.slice Ah Nh Ch, .slice Bh Mh Dh]] (by kernel_rfl) (by kernel_rfl) (qDown Fh.a Gh.a (by omega) (by omega)) ?_ ?_
                              · rintro e v97 ⟨Ai, Ni, Ci, rfl, Fi, hFi, hB⟩
                                refine ⟨_, rfl, joinB hS hB, ?_⟩
                                replace hS := joinB hS hB
                                replace HB := joinB HB hB
                                clear Fh Gh
                                replace H1 := H1.keep hB
                                replace H2 := H2.keep hB
                                clear hB
                                replace Fi := Fi.eqv (show _ = (333333333333333333333333333333333333 : Int) by decide)
                                refine rg_ready [26] (by kernel_rfl) (by simp) ?_
                                refine ar_call 26 (some 90) 70 #[.agg #[.slice Ai Ni Ci]] (by kernel_rfl) (by kernel_rfl) (dText Fi.a (by omega) (appAll_small (by decide))) ?_ ?_
                                · rintro e v98 ⟨TS, rfl, hT, hTS, hB⟩
                                  obtain rfl := dtext_is hT [48, 46, 51, 51, 51, 51, 51, 51, 51, 51, 51, 51, 51, 51, 51, 51, 51, 51, 51, 51, 51, 51, 51, 51, 51, 51, 51, 51, 51, 51, 51, 51, 51, 51, 51, 51, 51, 51] [48] (by decide) (by decide) (by decide) (by decide) (by kernel_rfl)
                                  clear hT hTS
                                  refine ⟨_, rfl, joinB hS hB, ?_⟩
                                  replace hS := joinB hS hB
                                  replace HB := joinB HB hB
                                  clear Fi
                                  replace H1 := H1.keep hB
                                  replace H2 := H2.keep hB
                                  clear hB
                                  refine rg_take 27 (some 91) (.bool true) (by kernel_rfl) (fun _ _ => by kernel_rfl) (fun _ _ _ h => h) hS ?_
                                  refine rg_take 28 (some 92) (.bool true) (by kernel_rfl) (fun _ _ => by kernel_rfl) (fun _ _ _ h => h) hS ?_
                                  refine rg_take 29 (some 93) (.bool true) (by kernel_rfl) (fun _ _ => by kernel_rfl) (fun _ _ _ h => h) hS ?_
                                  refine rg_ready [30] (by kernel_rfl) (by simp) ?_
                                  refine ar_call 30 (some 94) 74 #[.int .u64 1, .int .u64 3] (by kernel_rfl) (by kernel_rfl) (qFrac (x := 1) (y := 3) (by decide) (by decide) (by decide) (by decide)) ?_ ?_
                                  · rintro e v99 ⟨Aj, Nj, Cj, Bj, Mj, Dj, rfl, Fj, Gj, hFj, hGj, hB⟩
                                    refine ⟨_, rfl, joinB hS hB, ?_⟩
                                    replace hS := joinB hS hB
                                    replace HB := joinB HB hB
                                    replace H1 := H1.keep hB
                                    replace H2 := H2.keep hB
                                    clear hB
                                    replace Fj := Fj.eqv (show _ = (1 : Int) by decide)
                                    replace Gj := Gj.eqv (show _ = (3 : Int) by decide)
                                    refine rg_ready [31] (by kernel_rfl) (by simp) ?_
                                    refine ar_call 31 (some 95) 74 #[.int .u64 1, .int .u64 2] (by kernel_rfl) (by kernel_rfl) (qFrac (x := 1) (y := 2) (by decide) (by decide) (by decide) (by decide)) ?_ ?_
                                    · rintro e v100 ⟨Ak, Nk, Ck, Bk, Mk, Dk, rfl, Fk, Gk, hFk, hGk, hB⟩
                                      refine ⟨_, rfl, joinB hS hB, ?_⟩
                                      replace hS := joinB hS hB
                                      replace HB := joinB HB hB
                                      replace H1 := H1.keep hB
                                      replace H2 := H2.keep hB
                                      replace Fj := Fj.keep hB
                                      replace Gj := Gj.keep hB
                                      clear hB
                                      replace Fk := Fk.eqv (show _ = (1 : Int) by decide)
                                      replace Gk := Gk.eqv (show _ = (2 : Int) by decide)
                                      refine rg_ready [32] (by kernel_rfl) (by simp) ?_
                                      refine ar_call 32 (some 96) 19 #[.agg #[.slice Aj Nj Cj, .slice Bj Mj Dj], .agg #[.slice Ak Nk Ck, .slice Bk Mk Dk]] (by kernel_rfl) (by kernel_rfl) (qCmpIs Fj.a Gj.a (by omega) (by omega) Fk.a Gk.a (by omega) (by omega) (-1) (by decide)) ?_ ?_
                                      · rintro e v101 ⟨rfl, hB⟩
                                        refine ⟨_, rfl, joinB hS hB, ?_⟩
                                        replace hS := joinB hS hB
                                        replace HB := joinB HB hB
                                        clear Fj Gj Fk Gk
                                        replace H1 := H1.keep hB
                                        replace H2 := H2.keep hB
                                        clear hB
                                        refine rg_take 33 (some 97) (.bool true) (by kernel_rfl) (fun _ _ => by kernel_rfl) (fun _ _ _ h => h) hS ?_
                                        refine rg_take 34 (some 98) (.bool true) (by kernel_rfl) (fun _ _ => by kernel_rfl) (fun _ _ _ h => h) hS ?_
                                        refine rg_take 35 (some 99) (.bool true) (by kernel_rfl) (fun _ _ => by kernel_rfl) (fun _ _ _ h => h) hS ?_
                                        refine rg_load 39 (some 103) (.agg #[.slice (some ⟨k8.heap.size + 1, 0, none⟩) 1 1, .slice (some ⟨k8.heap.size + 1 + 1, 0, none⟩) 1 1]) 30 9 (k8.heap.size + 1 + 1 + 1) 0 (by kernel_rfl) (by kernel_rfl) (by kernel_rfl) (fun _ hb => load_rat (U9.keep hb)) (fun _ _ _ h => h) hS ?_
                                        refine rg_ready [36] (by kernel_rfl) (by simp) ?_
                                        refine ar_call 36 (some 100) 74 #[.int .u64 2, .int .u64 3] (by kernel_rfl) (by kernel_rfl) (qFrac (x := 2) (y := 3) (by decide) (by decide) (by decide) (by decide)) ?_ ?_
                                        · rintro e v102 ⟨Al, Nl, Cl, Bl, Ml, Dl, rfl, Fl, Gl, hFl, hGl, hB⟩
                                          refine ⟨_, rfl, joinB hS hB, ?_⟩
                                          replace hS := joinB hS hB
                                          replace HB := joinB HB hB
                                          replace H1 := H1.keep hB
                                          replace H2 := H2.keep hB
                                          clear hB
                                          replace Fl := Fl.eqv (show _ = (2 : Int) by decide)
                                          replace Gl := Gl.eqv (show _ = (3 : Int) by decide)
                                          refine rg_ready [37] (by kernel_rfl) (by simp) ?_
                                          refine ar_call 37 (some 101) 74 #[.int .u64 3, .int .u64 4] (by kernel_rfl) (by kernel_rfl) (qFrac (x := 3) (y := 4) (by decide) (by decide) (by decide) (by decide)) ?_ ?_
                                          · rintro e v103 ⟨Am, Nm, Cm, Bm, Mm, Dm, rfl, Fm, Gm, hFm, hGm, hB⟩
                                            refine ⟨_, rfl, joinB hS hB, ?_⟩
                                            replace hS := joinB hS hB
                                            replace HB := joinB HB hB
                                            replace H1 := H1.keep hB
                                            replace H2 := H2.keep hB
                                            replace Fl := Fl.keep hB
                                            replace Gl := Gl.keep hB
                                            clear hB
                                            replace Fm := Fm.eqv (show _ = (3 : Int) by decide)
                                            replace Gm := Gm.eqv (show _ = (4 : Int) by decide)
                                            refine rg_ready [38] (by kernel_rfl) (by simp) ?_
                                            refine ar_call 38 (some 102) 25 #[.agg #[.slice Al Nl Cl, .slice Bl Ml Dl], .agg #[.slice Am Nm Cm, .slice Bm Mm Dm]] (by kernel_rfl) (by kernel_rfl) (qMul Fl.a Gl.a (by omega) (by omega) Fm.a Gm.a (by omega) (by omega)) ?_ ?_
                                            · rintro e v104 ⟨Ao, No, Co, Bo, Mo, Do, rfl, Fo, Go, hFo, hGo, hB⟩
                                              refine ⟨_, rfl, joinB hS hB, ?_⟩
                                              replace hS := joinB hS hB
                                              replace HB := joinB HB hB
                                              clear Fl Gl Fm Gm
                                              replace H1 := H1.keep hB
                                              replace H2 := H2.keep hB
                                              clear hB
                                              replace Fo := Fo.eqv (show _ = (1 : Int) by decide)
                                              replace Go := Go.eqv (show _ = (2 : Int) by decide)
                                              refine rg_ready [40] (by kernel_rfl) (by simp) ?_
                                              refine ar_call 40 (some 104) 16 #[.agg #[.slice Ao No Co, .slice Bo Mo Do], .agg #[.slice (some ⟨k8.heap.size + 1, 0, none⟩) 1 1, .slice (some ⟨k8.heap.size + 1 + 1, 0, none⟩) 1 1]] (by kernel_rfl) (by kernel_rfl) (qSameT Fo Go (by omega) (by omega) H1 H2 (by omega) (by omega)) ?_ ?_
                                              · rintro e v105 ⟨rfl, hB⟩
                                                refine ⟨_, rfl, joinB hS hB, ?_⟩
                                                replace hS := joinB hS hB
                                                replace HB := joinB HB hB
                                                clear Fo Go
                                                replace H1 := H1.keep hB
                                                replace H2 := H2.keep hB
                                                clear hB
                                                refine rg_take 41 (some 105) (.bool true) (by kernel_rfl) (fun _ _ => by kernel_rfl) (fun _ _ _ h => h) hS ?_
                                                refine rg_take 42 (some 0) (.bool true) (by kernel_rfl) (fun _ _ => by kernel_rfl) (fun _ _ _ h => h) hS ?_
                                                refine rg_done (by kernel_rfl) ?_
                                                try simp only [Act.put, List.setIfInBounds_toArray, List.set_cons_zero, List.set_cons_succ]
                                                go_wp2
                                                go_ret
                                                exact ⟨rfl, HB⟩
                                              exact ar_nil
                                            exact ar_nil
                                          exact ar_nil
                                        exact ar_nil
                                      exact ar_nil
                                    exact ar_nil
                                  exact ar_nil
                                exact ar_nil
                              exact ar_nil
                            exact ar_nil
                          exact ar_nil
                        exact ar_nil
                      exact ar_nil
                    exact ar_nil
                  exact ar_nil
                exact ar_nil
              exact ar_nil
            exact ar_nil
          exact ar_nil
        exact ar_nil
      exact ar_nil
    exact ar_nil
  exact ar_nil
end Go.Proofs.YtjihgkanbhccpaaGreatDoor

namespace Go.Proofs.YtjihgkanbhccpaaGreatDoor
open Go.RowKit Lim

theorem nNormal {w : World} {ao : Option Addr} {n c : Nat} {x : Int} (h : NatO w ao n c x) (hn : n ≤ 4398046511104) :
    Calls Tryz.prog 88 #[.slice ao n c] w fun e w' => e = .returned (.bool true) ∧ Below w.heap.size w w' := by
  obtain ⟨b, o, l, h1, h2, h3, h4⟩ := h.ex
  refine (normal_any ao n c b o l w x h1 hn h3 h4).mono ?_
  rintro e w1 ⟨rfl, rfl⟩
  exact ⟨rfl, Below.refl _ _⟩
theorem natO_pos {w : World} {ao : Option Addr} {n c : Nat} {x : Int} (h : NatO w ao n c x) (hx : x ≠ 0) : 0 < n := by
  obtain ⟨b, o, l, h1, h2, h3, h4⟩ := h.ex
  rcases Nat.eq_zero_or_pos n with e | e
  · exfalso
    have : l = [] := List.eq_nil_of_length_eq_zero (by omega)
    subst this
    exact hx (by rw [← h3.2.2]; rfl)
  · exact e
set_option maxHeartbeats 4000000 in
set_option maxRecDepth 100000 in
theorem qRight {w : World} {a0 b0 : Option Addr} {n0 c0 m0 d0 : Nat} {N D X Y : Int} (h0 : NatO w a0 n0 c0 N) (e0 : NatO w b0 m0 d0 D) (hn0 : n0 ≤ 274877906944) (hm0 : m0 ≤ 274877906944) (R : Red N D X Y) :
    Calls Tryz.prog 26 #[.agg #[.slice a0 n0 c0, .slice b0 m0 d0]] w fun e w' => e = .returned (.bool true) ∧ Below w.heap.size w w' := by
  have hd := R.d0
  have hpos := natO_pos e0 (by omega)
  have hc : Hid (((Int.gcd N D : Nat) : Int) = 1) := by show ((Int.gcd N D : Nat) : Int) = 1; rw [R.co]; rfl
  have hm1 : (0 : Int) < m0 := by omega
  clear R hd
  have HB := below_alloc w (.cells #[.slice a0 n0 c0, .slice b0 m0 d0] 30)
  have P0 := box_new w [.slice a0 n0 c0, .slice b0 m0 d0] 30
  replace h0 := h0.keep HB
  replace e0 := e0.keep HB
  obtain ⟨j1, j2, j3, j4⟩ := P0.cells2
  go_enter Tryz.func26, Tryz.ntmps26
  go_wp2_with fail
  refine (nNormal h0 (by omega)).mono ?_
  rintro e w1 ⟨rfl, hB⟩
  replace h0 := h0.keep hB
  replace e0 := e0.keep hB
  replace P0 := P0.keep hB
  replace HB := joinB HB hB
  clear hB j1 j2 j3 j4
  obtain ⟨j1, j2, j3, j4⟩ := P0.cells2
  go_wp2_with fail
  refine (nNormal e0 (by omega)).mono ?_
  rintro e w2 ⟨rfl, hB⟩
  replace h0 := h0.keep hB
  replace e0 := e0.keep hB
  replace P0 := P0.keep hB
  replace HB := joinB HB hB
  clear hB j1 j2 j3 j4
  obtain ⟨j1, j2, j3, j4⟩ := P0.cells2
  go_wp2_with fail
  refine (nGcd h0.a e0.a (by omega) (by omega)).mono ?_
  rintro e w3 ⟨Ag, Kg, Dg, rfl, OG, hkg, hB⟩
  replace HB := joinB HB hB
  replace OG := OG.eqv hc.out
  clear hB j1 j2 j3 j4 P0 h0 e0
  go_wp2_with fail
  refine (nOf (x := 1) (by decide) (by decide)).mono ?_
  rintro e w4 ⟨A1, K1, D1, rfl, O1, hk1, hB⟩
  replace OG := OG.keep hB
  replace HB := joinB HB hB
  clear hB
  go_wp2_with fail
  refine (nSameT OG O1 (by omega) (by omega)).mono ?_
  rintro e w5 ⟨rfl, hB⟩
  go_wp2
  go_ret
  exact ⟨rfl, joinB HB hB⟩
end Go.Proofs.YtjihgkanbhccpaaGreatDoor

namespace Go.Proofs.YtjihgkanbhccpaaGreatDoor
open Go.RowKit Lim

def smallQ (n : Nat) (f g : Nat → Nat) : Bool := (List.range n).all fun i => decide (f i ≤ 12 ∧ g i ≤ 12)
theorem smallQ_no {n : Nat} {f g : Nat → Nat} {i : Nat} (hi : i < n) (h : 12 < f i ∨ 12 < g i) : smallQ n f g = false := by
  unfold smallQ
  rw [Bool.eq_false_iff]
  intro hall
  rw [List.all_eq_true] at hall
  have := hall i (List.mem_range.2 hi)
  simp at this; omega
theorem smallQ_yes {n : Nat} {f g : Nat → Nat} (h : ∀ i, i < n → f i ≤ 12 ∧ g i ≤ 12) : smallQ n f g = true := by
  unfold smallQ
  rw [List.all_eq_true]
  intro i hi
  exact decide_eq_true (h i (List.mem_range.1 hi))
theorem smallQ_out {n : Nat} {f g : Nat → Nat} (h : smallQ n f g = true) {i : Nat} (hi : i < n) : f i ≤ 12 ∧ g i ≤ 12 := by
  unfold smallQ at h
  rw [List.all_eq_true] at h
  exact of_decide_eq_true (h i (List.mem_range.2 hi))
set_option maxHeartbeats 2000000 in
set_option maxRecDepth 100000 in
theorem smallQ_any (p q : Nat → Option Addr × Nat × Nat) (ao : Option Addr) (n c : Nat) (w : World) (hbig : n ≤ 1099511627776) (hlen : ∀ i, i < n → (p i).2.1 ≤ 9223372036854775807 ∧ (q i).2.1 ≤ 9223372036854775807)
    (hcell : ∀ i, i < n → ∃ b o, ao = some ⟨b, o, none⟩ ∧ w.cell? ⟨b, o + i * 2, none⟩ = some (.slice (p i).1 (p i).2.1 (p i).2.2) ∧ w.cell? ⟨b, o + i * 2 + 1, none⟩ = some (.slice (q i).1 (q i).2.1 (q i).2.2)) :
    Calls Tryz.prog 14 #[.slice ao n c] w fun e w' => e = .returned (.bool (smallQ n (fun i => (p i).2.1) (fun i => (q i).2.1))) ∧ w' = w := by
  have HF : Hid (∀ i, i < n → 12 < (p i).2.1 ∨ 12 < (q i).2.1 → smallQ n (fun i => (p i).2.1) (fun i => (q i).2.1) = false) := fun i hi h => smallQ_no hi h
  have HT : Hid ((∀ i, i < n → (p i).2.1 ≤ 12 ∧ (q i).2.1 ≤ 12) → smallQ n (fun i => (p i).2.1) (fun i => (q i).2.1) = true) := fun h => smallQ_yes h
  generalize smallQ n (fun i => (p i).2.1) (fun i => (q i).2.1) = R at *
  go_enter Tryz.func14, Tryz.ntmps14
  go_wp2
  go_loop [3] (fun ti => ∃ k : Nat, k ≤ n ∧ ti = .int .i64 k ∧ Hid (∀ i, i < k → (p i).2.1 ≤ 12 ∧ (q i).2.1 ≤ 12)) (fun ti => n - (intOf ti).toNat)
  case atStart => exact ⟨0, Nat.zero_le _, rfl, fun i hi => by omega⟩
  case round =>
    obtain ⟨k, hk, rfl, hz⟩ := hrel
    by_cases hlt : k < n
    · obtain ⟨b, o, rfl, q1, q2⟩ := hcell k hlt
      obtain ⟨hl1, hl2⟩ := hlen k hlt
      have hk0 : (k : Int) < n := by omega
      have HF1 : Hid (12 < (p k).2.1 ∨ 12 < (q k).2.1 → R = false) := HF.out k hlt
      have HZ1 : Hid ((p k).2.1 ≤ 12 ∧ (q k).2.1 ≤ 12 → ∀ i, i < k + 1 → (p i).2.1 ≤ 12 ∧ (q i).2.1 ≤ 12) := by
        intro h i hi
        by_cases e : i = k
        · subst e; exact h
        · exact hz.out i (by omega)
      clear hcell hlen
      generalize (p k).1 = a at *
      generalize (p k).2.2 = c' at *
      generalize (p k).2.1 = m at *
      generalize (q k).1 = a2 at *
      generalize (q k).2.2 = c2 at *
      generalize (q k).2.1 = m2 at *
      by_cases h12 : 12 < m
      · go_wp2
        go_ret
        exact ⟨retB (HF1.out (.inl h12)).symm, rfl⟩
      · by_cases h13 : 12 < m2
        · go_wp2
          go_ret
          exact ⟨retB (HF1.out (.inr h13)).symm, rfl⟩
        · have h61 := HZ1.out ⟨by omega, by omega⟩
          have H61 := (show Hid _ from h61)
          clear h61
          go_wp2
          go_round
          case rel => exact ⟨k + 1, by omega, by go_num, H61⟩
          case measure => simp [intOf]; omega
    · go_wp2
      go_ret
      exact ⟨retB (HT.out fun i hi => hz.out i (by omega)).symm, rfl⟩
end Go.Proofs.YtjihgkanbhccpaaGreatDoor

namespace Go.Proofs.YtjihgkanbhccpaaGreatDoor
open Go.RowKit Lim

/-- a fraction in memory, worth p / q; its lists have B limbs at most -/
structure QV (w : World) (a : Option Addr) (n c : Nat) (b : Option Addr) (m d : Nat) (p q : Int) (B : Nat) : Prop where
  ex : ∃ x y, NatA w a n c x ∧ NatA w b m d y ∧ cn x y * q = p * cd y
  q0 : 0 < q
  p0 : 0 ≤ p
  hn : n ≤ B
  hm : m ≤ B
/-- a reduced one -/
structure QR (w : World) (a : Option Addr) (n c : Nat) (b : Option Addr) (m d : Nat) (p q : Int) (B : Nat) : Prop where
  ex : ∃ N D, NatO w a n c N ∧ NatO w b m d D ∧ Red N D p q
  q0 : 0 < q
  p0 : 0 ≤ p
  hn : n ≤ B
  hm : m ≤ B
theorem cn_pos {N D : Int} (h : 0 < D) : cn N D = N := by unfold cn; rw [if_neg (by omega)]
theorem cd_is {D : Int} (h : 0 < D) : cd D = D := by unfold cd; rw [if_neg (by omega)]
section
variable {w w' : World} {a b : Option Addr} {n c m d : Nat} {p q : Int} {B : Nat}
theorem QR.v (h : QR w a n c b m d p q B) : QV w a n c b m d p q B := by
  obtain ⟨N, D, h1, h2, R⟩ := h.ex
  exact ⟨⟨N, D, h1.a, h2.a, by rw [cn_pos R.d0, cd_is R.d0]; exact R.eq⟩, h.q0, h.p0, h.hn, h.hm⟩
theorem QV.keep (h : QV w a n c b m d p q B) (hb : Below w.heap.size w w') : QV w' a n c b m d p q B := by
  obtain ⟨x, y, h1, h2, h3⟩ := h.ex
  exact ⟨⟨x, y, h1.keep hb, h2.keep hb, h3⟩, h.q0, h.p0, h.hn, h.hm⟩
theorem QR.keep (h : QR w a n c b m d p q B) (hb : Below w.heap.size w w') : QR w' a n c b m d p q B := by
  obtain ⟨x, y, h1, h2, h3⟩ := h.ex
  exact ⟨⟨x, y, h1.keep hb, h2.keep hb, h3⟩, h.q0, h.p0, h.hn, h.hm⟩
theorem QV.drew (h : QV w a n c b m d p q B) : QV w.drew a n c b m d p q B := by
  obtain ⟨x, y, h1, h2, h3⟩ := h.ex
  exact ⟨⟨x, y, h1.drew, h2.drew, h3⟩, h.q0, h.p0, h.hn, h.hm⟩
theorem QR.drew (h : QR w a n c b m d p q B) : QR w.drew a n c b m d p q B := by
  obtain ⟨x, y, h1, h2, h3⟩ := h.ex
  exact ⟨⟨x, y, h1.drew, h2.drew, h3⟩, h.q0, h.p0, h.hn, h.hm⟩
theorem QV.blk (h : QV w a n c b m d p q B) {g : Nat} {cs : List Value} {t : TypeId} (s : Box w g cs t) (hv : ∀ v ∈ cs, ∀ x, v ≠ .int .u64 x) (hw : ∀ k, k ≠ g → w'.heap[k]? = w.heap[k]?) : QV w' a n c b m d p q B := by
  obtain ⟨x, y, h1, h2, h3⟩ := h.ex
  exact ⟨⟨x, y, h1.blk s hv hw, h2.blk s hv hw, h3⟩, h.q0, h.p0, h.hn, h.hm⟩
theorem QR.blk (h : QR w a n c b m d p q B) {g : Nat} {cs : List Value} {t : TypeId} (s : Box w g cs t) (hv : ∀ v ∈ cs, ∀ x, v ≠ .int .u64 x) (hw : ∀ k, k ≠ g → w'.heap[k]? = w.heap[k]?) : QR w' a n c b m d p q B := by
  obtain ⟨x, y, h1, h2, h3⟩ := h.ex
  exact ⟨⟨x, y, h1.blk s hv hw, h2.blk s hv hw, h3⟩, h.q0, h.p0, h.hn, h.hm⟩
theorem QV.up (h : QV w a n c b m d p q B) {C : Nat} (hC : B ≤ C) : QV w a n c b m d p q C := ⟨h.ex, h.q0, h.p0, Nat.le_trans h.hn hC, Nat.le_trans h.hm hC⟩
theorem QR.up (h : QR w a n c b m d p q B) {C : Nat} (hC : B ≤ C) : QR w a n c b m d p q C := ⟨h.ex, h.q0, h.p0, Nat.le_trans h.hn hC, Nat.le_trans h.hm hC⟩
theorem QR.eqv (h : QR w a n c b m d p q B) {p' q' : Int} (hq : 0 < q') (hp : 0 ≤ p') (e : p * q' = p' * q) : QR w a n c b m d p' q' B := by
  obtain ⟨N, D, h1, h2, R⟩ := h.ex
  exact ⟨⟨N, D, h1, h2, R.cross h.q0 e⟩, hq, hp, h.hn, h.hm⟩
theorem QV.eqv (h : QV w a n c b m d p q B) {p' q' : Int} (hq : 0 < q') (hp : 0 ≤ p') (e : p * q' = p' * q) : QV w a n c b m d p' q' B := by
  obtain ⟨x, y, h1, h2, R⟩ := h.ex
  refine ⟨⟨x, y, h1, h2, ?_⟩, hq, hp, h.hn, h.hm⟩
  have hq0 := h.q0
  refine Int.eq_of_mul_eq_mul_right (a := q) (by omega) ?_
  have s1 : cn x y * q' * q = cn x y * q * q' := by grind
  have s2 : p' * cd y * q = p' * q * cd y := by grind
  rw [s1, R, s2, ← e]
  grind
/-- as it came in -/
theorem qv_in {x y : Int} (h : NatA w a n c x) (h' : NatA w b m d y) (hn : n ≤ B) (hm : m ≤ B) : QV w a n c b m d (cn x y) (cd y) B := ⟨⟨x, y, h, h', rfl⟩, cd_pos h'.nonneg, cn_nonneg _ h.nonneg, hn, hm⟩
theorem qv_nil : QV w none 0 0 none 0 0 0 1 B := ⟨⟨0, 0, (natO_nil w).a, (natO_nil w).a, by decide⟩, by decide, by decide, Nat.zero_le _, Nat.zero_le _⟩
end
theorem cross_le {a b p q a' b' p' q' : Int} (h : a * q = p * b) (h' : a' * q' = p' * b') (hb : 0 < b) (hq : 0 < q) (hb' : 0 < b') (hq' : 0 < q') : a' * b ≤ a * b' ↔ p' * q ≤ p * q' := by
  have e1 : a' * b * (q * q') = p' * q * (b * b') := by
    have : a' * b * (q * q') = a' * q' * (b * q) := by grind
    rw [this, h']; grind
  have e2 : a * b' * (q * q') = p * q' * (b * b') := by
    have : a * b' * (q * q') = a * q * (b' * q') := by grind
    rw [this, h]; grind
  have g1 : 0 < q * q' := Int.mul_pos hq hq'
  have g2 : 0 < b * b' := Int.mul_pos hb hb'
  constructor
  · intro hh
    have := Int.mul_le_mul_of_nonneg_right hh (Int.le_of_lt g1)
    rw [e1, e2] at this
    exact Int.le_of_mul_le_mul_right this g2
  · intro hh
    have := Int.mul_le_mul_of_nonneg_right hh (Int.le_of_lt g2)
    rw [← e1, ← e2] at this
    exact Int.le_of_mul_le_mul_right this g1
theorem cross_sgn {a b p q a' b' p' q' : Int} (h : a * q = p * b) (h' : a' * q' = p' * b') (hb : 0 < b) (hq : 0 < q) (hb' : 0 < b') (hq' : 0 < q') : sgn (a * b') (a' * b) = sgn (p * q') (p' * q) := by
  have i1 := cross_le h h' hb hq hb' hq'
  have i2 := cross_le h' h hb' hq' hb hq
  rcases Int.lt_trichotomy (p * q') (p' * q) with c | c | c
  · rw [sgn_lt c]
    refine sgn_lt (Int.not_le.1 fun h => ?_)
    have := i1.1 h
    omega
  · rw [sgn_eq c]
    exact sgn_eq (Int.le_antisymm (i2.2 (by omega)) (i1.2 (by omega)))
  · rw [sgn_gt c]
    refine sgn_gt (Int.not_le.1 fun h => ?_)
    have := i2.1 h
    omega
theorem cross_div {a b p q : Int} (h : a * q = p * b) (hb : 0 < b) (hq : 0 < q) : a / b = p / q := by
  have e1 : a * q / (b * q) = a / b := Int.mul_ediv_mul_of_pos_left a b hq
  have e2 : p * b / (q * b) = p / q := Int.mul_ediv_mul_of_pos_left p q hb
  rw [← e1, h, Int.mul_comm b q, e2]
theorem rsum_two (x0 y0 x1 y1 : Int) : rsum [(x0, y0), (x1, y1)] = (cn x0 y0 * cd y1 + cn x1 y1 * cd y0, cd y0 * cd y1) := by
  simp [rsum, rstep]
theorem pairR {w : World} {a : Option Addr} {k d : Nat} {a' : Option Addr} {k' d' : Nat} {N D p q : Int} {B : Nat} (h1 : NatO w a k d N) (h2 : NatO w a' k' d' D) (R : Red N D p q) (hq : 0 < q) (hp : 0 ≤ p) (hk : k ≤ B) (hk' : k' ≤ B) : QR w a k d a' k' d' p q B := ⟨⟨N, D, h1, h2, R⟩, hq, hp, hk, hk'⟩
theorem cAdd {w : World} {B : Nat} {a0 b0 : Option Addr} {n0 c0 m0 d0 : Nat} {p0 q0 : Int} {a1 b1 : Option Addr} {n1 c1 m1 d1 : Nat} {p1 q1 : Int} (h0 : QV w a0 n0 c0 b0 m0 d0 p0 q0 B) (h1 : QV w a1 n1 c1 b1 m1 d1 p1 q1 B) (hb : B ≤ 1000000000) :
    Calls Tryz.prog 18 #[.agg #[.slice a0 n0 c0, .slice b0 m0 d0], .agg #[.slice a1 n1 c1, .slice b1 m1 d1]] w fun e w' => ∃ a k d a' k' d', e = .returned (.agg #[.slice a k d, .slice a' k' d']) ∧ QR w' a k d a' k' d' (p0 * q1 + p1 * q0) (q0 * q1) (8 * B + 16) ∧ Below w.heap.size w w' := by
  obtain ⟨x0, y0, g0, k0, E0⟩ := h0.ex
  obtain ⟨x1, y1, g1, k1, E1⟩ := h1.ex
  have u0 := cd_pos k0.nonneg
  have u1 := cd_pos k1.nonneg
  have z0 := h0.hn
  have z1 := h0.hm
  have z2 := h1.hn
  have z3 := h1.hm
  refine (qAdd g0 k0 z0 z1 g1 k1 z2 z3 hb).mono ?_
  rintro e w1 ⟨a, k, d, a', k', d', N, D, rfl, O1, O2, R, hk, hk', hB⟩
  rw [rsum_two] at R
  refine ⟨a, k, d, a', k', d', rfl, pairR O1 O2 (R.cross (Int.mul_pos u0 u1) ?_) (Int.mul_pos h0.q0 h1.q0) (Int.add_nonneg (Int.mul_nonneg h0.p0 (Int.le_of_lt h1.q0)) (Int.mul_nonneg h1.p0 (Int.le_of_lt h0.q0))) hk (by omega), hB⟩
  show (cn x0 y0 * cd y1 + cn x1 y1 * cd y0) * (q0 * q1) = (p0 * q1 + p1 * q0) * (cd y0 * cd y1)
  have s1 : (cn x0 y0 * cd y1 + cn x1 y1 * cd y0) * (q0 * q1) = cn x0 y0 * q0 * (cd y1 * q1) + cn x1 y1 * q1 * (cd y0 * q0) := by grind
  rw [s1, E0, E1]
  grind
theorem cMul {w : World} {B : Nat} {a0 b0 : Option Addr} {n0 c0 m0 d0 : Nat} {p0 q0 : Int} {a1 b1 : Option Addr} {n1 c1 m1 d1 : Nat} {p1 q1 : Int} (h0 : QV w a0 n0 c0 b0 m0 d0 p0 q0 B) (h1 : QV w a1 n1 c1 b1 m1 d1 p1 q1 B) (hb : B ≤ 1000000000) :
    Calls Tryz.prog 25 #[.agg #[.slice a0 n0 c0, .slice b0 m0 d0], .agg #[.slice a1 n1 c1, .slice b1 m1 d1]] w fun e w' => ∃ a k d a' k' d', e = .returned (.agg #[.slice a k d, .slice a' k' d']) ∧ QR w' a k d a' k' d' (p0 * p1) (q0 * q1) (2 * B + 2) ∧ Below w.heap.size w w' := by
  obtain ⟨x0, y0, g0, k0, E0⟩ := h0.ex
  obtain ⟨x1, y1, g1, k1, E1⟩ := h1.ex
  have u0 := cd_pos k0.nonneg
  have u1 := cd_pos k1.nonneg
  have z0 := h0.hn
  have z1 := h0.hm
  have z2 := h1.hn
  have z3 := h1.hm
  refine (qMul g0 k0 (by omega) (by omega) g1 k1 (by omega) (by omega)).mono ?_
  rintro e w1 ⟨a, k, d, a', k', d', rfl, O1, O2, hk, hk', hB⟩
  have R := red_of (Int.mul_nonneg (cn_nonneg y0 g0.nonneg) (cn_nonneg y1 g1.nonneg)) (Int.mul_pos u0 u1)
  refine ⟨a, k, d, a', k', d', rfl, pairR O1 O2 (Red.cross R (Int.mul_pos u0 u1) ?_) (Int.mul_pos h0.q0 h1.q0) (Int.mul_nonneg h0.p0 h1.p0) (by omega) (by omega), hB⟩
  have s1 : cn x0 y0 * cn x1 y1 * (q0 * q1) = cn x0 y0 * q0 * (cn x1 y1 * q1) := by grind
  rw [s1, E0, E1]
  grind
theorem cSub {w : World} {B : Nat} {a0 b0 : Option Addr} {n0 c0 m0 d0 : Nat} {p0 q0 : Int} {a1 b1 : Option Addr} {n1 c1 m1 d1 : Nat} {p1 q1 : Int} (h0 : QV w a0 n0 c0 b0 m0 d0 p0 q0 B) (h1 : QV w a1 n1 c1 b1 m1 d1 p1 q1 B) (hb : B ≤ 1000000000) (hge : p1 * q0 ≤ p0 * q1) :
    Calls Tryz.prog 27 #[.agg #[.slice a0 n0 c0, .slice b0 m0 d0], .agg #[.slice a1 n1 c1, .slice b1 m1 d1]] w fun e w' => ∃ a k d a' k' d', e = .returned (.tuple #[.agg #[.slice a k d, .slice a' k' d'], .int .i64 0]) ∧ QR w' a k d a' k' d' (p0 * q1 - p1 * q0) (q0 * q1) (4 * B + 3) ∧ Below w.heap.size w w' := by
  obtain ⟨x0, y0, g0, k0, E0⟩ := h0.ex
  obtain ⟨x1, y1, g1, k1, E1⟩ := h1.ex
  have u0 := cd_pos k0.nonneg
  have u1 := cd_pos k1.nonneg
  have z0 := h0.hn
  have z1 := h0.hm
  have z2 := h1.hn
  have z3 := h1.hm
  refine (qSubR g0 k0 (by omega) (by omega) g1 k1 (by omega) (by omega) ((cross_le E0 E1 u0 h0.q0 u1 h1.q0).2 hge)).mono ?_
  rintro e w1 ⟨a, k, d, a', k', d', N, D, rfl, O1, O2, R, hk, hk', hB⟩
  refine ⟨a, k, d, a', k', d', rfl, pairR O1 O2 (R.cross (Int.mul_pos u0 u1) ?_) (Int.mul_pos h0.q0 h1.q0) (by omega) (by omega) (by omega), hB⟩
  have s1 : (cn x0 y0 * cd y1 - cn x1 y1 * cd y0) * (q0 * q1) = cn x0 y0 * q0 * (cd y1 * q1) - cn x1 y1 * q1 * (cd y0 * q0) := by grind
  rw [s1, E0, E1]
  grind
theorem cSubLt {w : World} {B : Nat} {a0 b0 : Option Addr} {n0 c0 m0 d0 : Nat} {p0 q0 : Int} {a1 b1 : Option Addr} {n1 c1 m1 d1 : Nat} {p1 q1 : Int} (h0 : QV w a0 n0 c0 b0 m0 d0 p0 q0 B) (h1 : QV w a1 n1 c1 b1 m1 d1 p1 q1 B) (hb : B ≤ 1000000000) (hlt : p0 * q1 < p1 * q0) :
    Calls Tryz.prog 27 #[.agg #[.slice a0 n0 c0, .slice b0 m0 d0], .agg #[.slice a1 n1 c1, .slice b1 m1 d1]] w fun e w' => e = .returned (.tuple #[.agg #[.slice none 0 0, .slice none 0 0], .int .i64 31]) ∧ Below w.heap.size w w' := by
  obtain ⟨x0, y0, g0, k0, E0⟩ := h0.ex
  obtain ⟨x1, y1, g1, k1, E1⟩ := h1.ex
  have u0 := cd_pos k0.nonneg
  have u1 := cd_pos k1.nonneg
  have z0 := h0.hn
  have z1 := h0.hm
  have z2 := h1.hn
  have z3 := h1.hm
  exact qSubRLt g0 k0 (by omega) (by omega) g1 k1 (by omega) (by omega) (by have := mt (cross_le E0 E1 u0 h0.q0 u1 h1.q0).1 (by omega); omega)
theorem qv_zero {x y p q : Int} (E : cn x y * q = p * cd y) (hq : 0 < q) : (x = 0 ∨ y = 0) ↔ p = 0 := by
  have u := cd_ne y
  constructor
  · intro h
    have : cn x y = 0 := by unfold cn; rcases h with h | h <;> simp [h]
    rw [this, Int.zero_mul] at E
    rcases Int.mul_eq_zero.1 E.symm with h | h
    · exact h
    · exact absurd h u
  · intro h
    rw [h, Int.zero_mul] at E
    rcases Int.mul_eq_zero.1 E with h | h
    · unfold cn at h
      split at h
      · exact .inr (by assumption)
      · exact .inl h
    · omega
theorem cQuoZ {w : World} {B : Nat} {v u1 u2 : Value} {a1 b1 : Option Addr} {n1 c1 m1 d1 : Nat} {p1 q1 : Int} (hv : v = .agg #[u1, u2]) (h1 : QV w a1 n1 c1 b1 m1 d1 p1 q1 B) (hb : B ≤ 1000000000) (hz : p1 = 0) :
    Calls Tryz.prog 28 #[v, .agg #[.slice a1 n1 c1, .slice b1 m1 d1]] w fun e w' => e = .returned (.tuple #[.agg #[.slice none 0 0, .slice none 0 0], .int .i64 30]) ∧ Below w.heap.size w w' := by
  obtain ⟨x1, y1, g1, k1, E1⟩ := h1.ex
  have z2 := h1.hn
  have z3 := h1.hm
  exact qQuoZ hv g1 k1 (by omega) (by omega) ((qv_zero E1 h1.q0).2 hz)
theorem cQuo {w : World} {B : Nat} {a0 b0 : Option Addr} {n0 c0 m0 d0 : Nat} {p0 q0 : Int} {a1 b1 : Option Addr} {n1 c1 m1 d1 : Nat} {p1 q1 : Int} (h0 : QV w a0 n0 c0 b0 m0 d0 p0 q0 B) (h1 : QV w a1 n1 c1 b1 m1 d1 p1 q1 B) (hb : B ≤ 1000000000) (hne : p1 ≠ 0) :
    Calls Tryz.prog 28 #[.agg #[.slice a0 n0 c0, .slice b0 m0 d0], .agg #[.slice a1 n1 c1, .slice b1 m1 d1]] w fun e w' => ∃ a k d a' k' d', e = .returned (.tuple #[.agg #[.slice a k d, .slice a' k' d'], .int .i64 0]) ∧ QR w' a k d a' k' d' (p0 * q1) (q0 * p1) (2 * B + 2) ∧ Below w.heap.size w w' := by
  obtain ⟨x0, y0, g0, k0, E0⟩ := h0.ex
  obtain ⟨x1, y1, g1, k1, E1⟩ := h1.ex
  have u0 := cd_pos k0.nonneg
  have u1 := cd_pos k1.nonneg
  have z0 := h0.hn
  have z1 := h0.hm
  have z2 := h1.hn
  have z3 := h1.hm
  have hn := mt (qv_zero E1 h1.q0).1 hne
  have hx : x1 ≠ 0 := fun e => hn (.inl e)
  have hy : y1 ≠ 0 := fun e => hn (.inr e)
  have x1p : 0 < x1 := by have := g1.nonneg; omega
  have y1p : 0 < y1 := by have := k1.nonneg; omega
  refine (qQuo g0 k0 (by omega) (by omega) g1 k1 (by omega) (by omega) hx hy).mono ?_
  rintro e w1 ⟨a, k, d, a', k', d', rfl, O1, O2, hk, hk', hB⟩
  have u2 : 0 < cd x1 := cd_pos g1.nonneg
  have R := red_of (Int.mul_nonneg (cn_nonneg y0 g0.nonneg) (cn_nonneg x1 k1.nonneg)) (Int.mul_pos u0 u2)
  have p1p : 0 < p1 := by have := h1.p0; omega
  refine ⟨a, k, d, a', k', d', rfl, pairR O1 O2 (Red.cross R (Int.mul_pos u0 u2) ?_) (Int.mul_pos h0.q0 p1p) (Int.mul_nonneg h0.p0 (Int.le_of_lt h1.q0)) (by omega) (by omega), hB⟩
  rw [cn_pos y1p, cd_is y1p] at E1
  rw [cn_pos x1p, cd_is x1p]
  have s1 : cn x0 y0 * y1 * (q0 * p1) = cn x0 y0 * q0 * (p1 * y1) := by grind
  rw [s1, E0, ← E1]
  grind
theorem cCmp {w : World} {B : Nat} {a0 b0 : Option Addr} {n0 c0 m0 d0 : Nat} {p0 q0 : Int} {a1 b1 : Option Addr} {n1 c1 m1 d1 : Nat} {p1 q1 : Int} (h0 : QV w a0 n0 c0 b0 m0 d0 p0 q0 B) (h1 : QV w a1 n1 c1 b1 m1 d1 p1 q1 B) (hb : B ≤ 1000000000) (r : Int) (hr : sgn (p0 * q1) (p1 * q0) = r) :
    Calls Tryz.prog 19 #[.agg #[.slice a0 n0 c0, .slice b0 m0 d0], .agg #[.slice a1 n1 c1, .slice b1 m1 d1]] w fun e w' => e = .returned (.int .i64 r) ∧ Below w.heap.size w w' := by
  obtain ⟨x0, y0, g0, k0, E0⟩ := h0.ex
  obtain ⟨x1, y1, g1, k1, E1⟩ := h1.ex
  have u0 := cd_pos k0.nonneg
  have u1 := cd_pos k1.nonneg
  have z0 := h0.hn
  have z1 := h0.hm
  have z2 := h1.hn
  have z3 := h1.hm
  have t := qCmp g0 k0 (by omega) (by omega) g1 k1 (by omega) (by omega)
  rw [cross_sgn E0 E1 u0 h0.q0 u1 h1.q0, hr] at t
  exact t
theorem cZero {w : World} {B : Nat} {a0 b0 : Option Addr} {n0 c0 m0 d0 : Nat} {p0 q0 : Int} (h0 : QV w a0 n0 c0 b0 m0 d0 p0 q0 B) (hb : B ≤ 1000000000) (r : Bool) (hr : decide (p0 = 0) = r) :
    Calls Tryz.prog 24 #[.agg #[.slice a0 n0 c0, .slice b0 m0 d0]] w fun e w' => e = .returned (.bool r) ∧ Below w.heap.size w w' := by
  obtain ⟨x0, y0, g0, k0, E0⟩ := h0.ex
  have u0 := cd_pos k0.nonneg
  have z0 := h0.hn
  have z1 := h0.hm
  have t := qZero g0 k0 (by omega) (by omega)
  rw [decide_eq_decide.2 (qv_zero E0 h0.q0), hr] at t
  exact t
theorem cFloor {w : World} {B : Nat} {a0 b0 : Option Addr} {n0 c0 m0 d0 : Nat} {p0 q0 : Int} (h0 : QV w a0 n0 c0 b0 m0 d0 p0 q0 B) (hb : B ≤ 1000000000) :
    Calls Tryz.prog 20 #[.agg #[.slice a0 n0 c0, .slice b0 m0 d0]] w fun e w' => ∃ a k d, e = .returned (.slice a k d) ∧ NatO w' a k d (p0 / q0) ∧ k ≤ B ∧ Below w.heap.size w w' := by
  obtain ⟨x0, y0, g0, k0, E0⟩ := h0.ex
  have u0 := cd_pos k0.nonneg
  have z0 := h0.hn
  have z1 := h0.hm
  have t := qFloor g0 k0 (by omega) (by omega)
  rw [cross_div E0 u0 h0.q0] at t
  refine t.mono ?_
  rintro e w1 ⟨a, k, d, rfl, O, hk, hB⟩
  exact ⟨a, k, d, rfl, O, by omega, hB⟩
theorem cDown {w : World} {B : Nat} {a0 b0 : Option Addr} {n0 c0 m0 d0 : Nat} {p0 q0 : Int} (h0 : QV w a0 n0 c0 b0 m0 d0 p0 q0 B) (hb : B ≤ 1000000000) :
    Calls Tryz.prog 29 #[.agg #[.slice a0 n0 c0, .slice b0 m0 d0]] w fun e w' => ∃ a k d, e = .returned (.agg #[.slice a k d]) ∧ NatO w' a k d (p0 * U36 / q0) ∧ k ≤ B + 39 ∧ Below w.heap.size w w' := by
  obtain ⟨x0, y0, g0, k0, E0⟩ := h0.ex
  have u0 := cd_pos k0.nonneg
  have z0 := h0.hn
  have z1 := h0.hm
  have t := qDown g0 k0 (by omega) (by omega)
  rw [cross_div (a := cn x0 y0 * U36) (p := p0 * U36) (by rw [Int.mul_right_comm, E0, Int.mul_right_comm]) u0 h0.q0] at t
  refine t.mono ?_
  rintro e w1 ⟨a, k, d, rfl, O, hk, hB⟩
  exact ⟨a, k, d, rfl, O, by omega, hB⟩
theorem cOfNat {w : World} {B : Nat} {ao : Option Addr} {n c : Nat} {x : Int} (h : NatA w ao n c x) (hn : n ≤ B) (h1 : 1 ≤ B) (hb : B ≤ 1000000000) :
    Calls Tryz.prog 21 #[.slice ao n c] w fun e w' => ∃ a k d a' k' d', e = .returned (.agg #[.slice a k d, .slice a' k' d']) ∧ QR w' a k d a' k' d' x 1 B ∧ Below w.heap.size w w' := by
  refine (qOfNat h (by omega)).mono ?_
  rintro e w1 ⟨a, k, d, a', k', d', rfl, O1, O2, hk, hk', hB⟩
  exact ⟨a, k, d, a', k', d', rfl, pairR O1 O2 ⟨h.nonneg, by decide, by simp, rfl⟩ (by decide) h.nonneg (by omega) (by omega), hB⟩
theorem u36_pos : (0 : Int) < U36 := by decide
theorem cOfDec {w : World} {B : Nat} {ao : Option Addr} {n c : Nat} {x : Int} (h : NatA w ao n c x) (hn : n ≤ B) (h1 : 39 ≤ B) (hb : B ≤ 1000000000) :
    Calls Tryz.prog 30 #[.agg #[.slice ao n c]] w fun e w' => ∃ a k d a' k' d', e = .returned (.agg #[.slice a k d, .slice a' k' d']) ∧ QR w' a k d a' k' d' x U36 B ∧ Below w.heap.size w w' := by
  refine (qOfDec h (by omega)).mono ?_
  rintro e w1 ⟨a, k, d, a', k', d', rfl, O1, O2, hk, hk', hB⟩
  exact ⟨a, k, d, a', k', d', rfl, pairR O1 O2 (red_of h.nonneg u36_pos) u36_pos h.nonneg (by omega) (by omega), hB⟩
theorem cSame {w : World} {B : Nat} {a0 b0 : Option Addr} {n0 c0 m0 d0 : Nat} {p0 q0 : Int} {a1 b1 : Option Addr} {n1 c1 m1 d1 : Nat} {p1 q1 : Int} (h0 : QR w a0 n0 c0 b0 m0 d0 p0 q0 B) (h1 : QR w a1 n1 c1 b1 m1 d1 p1 q1 B) (hb : B ≤ 1000000000) (r : Bool) (hr : decide (p0 * q1 = p1 * q0) = r) :
    Calls Tryz.prog 16 #[.agg #[.slice a0 n0 c0, .slice b0 m0 d0], .agg #[.slice a1 n1 c1, .slice b1 m1 d1]] w fun e w' => e = .returned (.bool r) ∧ Below w.heap.size w w' := by
  obtain ⟨x0, y0, g0, k0, E0⟩ := h0.ex
  obtain ⟨x1, y1, g1, k1, E1⟩ := h1.ex
  have z0 := h0.hn
  have z1 := h0.hm
  have z2 := h1.hn
  have z3 := h1.hm
  have t := qSame g0 k0 (by omega) (by omega) g1 k1 (by omega) (by omega)
  have i : (x0 = x1 ∧ y0 = y1) ↔ p0 * q1 = p1 * q0 := by
    constructor
    · rintro ⟨rfl, rfl⟩
      have e0 := E0.eq
      have e1 := E1.eq
      have hd := E0.d0
      refine Int.eq_of_mul_eq_mul_right (a := y0) (by omega) ?_
      have s1 : p0 * q1 * y0 = p0 * y0 * q1 := by grind
      have s2 : p1 * q0 * y0 = p1 * y0 * q0 := by grind
      rw [s1, s2, ← e0, ← e1]
      grind
    · intro e
      exact Red.unique E0 E1 h0.q0 h1.q0 e
  rw [decide_eq_decide.2 i, hr] at t
  exact t
theorem cRight {w : World} {B : Nat} {a0 b0 : Option Addr} {n0 c0 m0 d0 : Nat} {p0 q0 : Int} (h0 : QR w a0 n0 c0 b0 m0 d0 p0 q0 B) (hb : B ≤ 1000000000) :
    Calls Tryz.prog 26 #[.agg #[.slice a0 n0 c0, .slice b0 m0 d0]] w fun e w' => e = .returned (.bool true) ∧ Below w.heap.size w w' := by
  obtain ⟨x0, y0, g0, k0, E0⟩ := h0.ex
  have z0 := h0.hn
  have z1 := h0.hm
  exact qRight g0 k0 (by omega) (by omega) E0
/-- fractions that came in: n of them at ao -/
structure RatsIn (w : World) (ao : Option Addr) (n c : Nat) : Prop where
  le : n ≤ c
  most : c ≤ 9223372036854775807
  get : ∀ i, i < n → ∃ b o a0 n0 c0 z0 a1 n1 c1 z1, ao = some ⟨b, o, none⟩ ∧ w.cell? ⟨b, o + i * 2, none⟩ = some (.slice a0 n0 c0) ∧ w.cell? ⟨b, o + i * 2 + 1, none⟩ = some (.slice a1 n1 c1) ∧ IsRow w a0 n0 c0 z0 ∧ IsRow w a1 n1 c1 z1
theorem RatsIn.open {w : World} {ao : Option Addr} {n c : Nat} (h : RatsIn w ao n c) : ∃ (p q : Nat → Option Addr × Nat × Nat) (l : List (Int × Int)), l.length = n ∧
    (∀ i, i < n → (p i).2.1 ≤ 9223372036854775807 ∧ (q i).2.1 ≤ 9223372036854775807) ∧
    (∀ i, i < n → ∃ b o, ao = some ⟨b, o, none⟩ ∧ w.cell? ⟨b, o + i * 2, none⟩ = some (.slice (p i).1 (p i).2.1 (p i).2.2) ∧ w.cell? ⟨b, o + i * 2 + 1, none⟩ = some (.slice (q i).1 (q i).2.1 (q i).2.2)) ∧
    (∀ B, (∀ i, i < n → (p i).2.1 ≤ B ∧ (q i).2.1 ≤ B) → RatL w ao l B) := by
  have hc : ∀ i : Nat, ∃ f : (Option Addr × Nat × Nat) × (Option Addr × Nat × Nat) × (Int × Int), i < n → (f.1.2.1 ≤ 9223372036854775807 ∧ f.2.1.2.1 ≤ 9223372036854775807) ∧
      ∃ b o, ao = some ⟨b, o, none⟩ ∧ w.cell? ⟨b, o + i * 2, none⟩ = some (.slice f.1.1 f.1.2.1 f.1.2.2) ∧ w.cell? ⟨b, o + i * 2 + 1, none⟩ = some (.slice f.2.1.1 f.2.1.2.1 f.2.1.2.2) ∧ NatA w f.1.1 f.1.2.1 f.1.2.2 f.2.2.1 ∧ NatA w f.2.1.1 f.2.1.2.1 f.2.1.2.2 f.2.2.2 := by
    intro i
    by_cases hi : i < n
    · obtain ⟨b, o, a0, n0, c0, z0, a1, n1, c1, z1, e, h1, h2, r0, r1⟩ := h.get i hi
      obtain ⟨b0, o0, l0, hl0, hc0, hm0, W0, A0⟩ := r0.open
      obtain ⟨b1, o1, l1, hl1, hc1, hm1, W1, A1⟩ := r1.open
      exact ⟨((a0, n0, c0), (a1, n1, c1), (val l0, val l1)), fun _ => ⟨⟨hm0, hm1⟩, b, o, e, h1, h2, ⟨b0, o0, l0, hl0, hc0, W0, A0, rfl⟩, ⟨b1, o1, l1, hl1, hc1, W1, A1, rfl⟩⟩⟩
    · exact ⟨((none, 0, 0), (none, 0, 0), (0, 0)), fun hh => absurd hh hi⟩
  obtain ⟨f, hf⟩ := Classical.axiomOfChoice hc
  refine ⟨fun i => (f i).1, fun i => (f i).2.1, (List.range n).map fun i => (f i).2.2, by simp, fun i hi => (hf i hi).1, fun i hi => ?_, fun B hB => ⟨fun i hi => ?_⟩⟩
  · obtain ⟨_, b, o, e, h1, h2, _⟩ := hf i hi
    exact ⟨b, o, e, h1, h2⟩
  · have hi' : i < n := by simpa using hi
    obtain ⟨_, b, o, e, h1, h2, h3, h4⟩ := hf i hi'
    obtain ⟨s1, s2⟩ := hB i hi'
    refine ⟨b, o, _, _, _, _, _, _, e, h1, h2, ?_, ?_, s1, s2⟩
    · simpa using h3
    · simpa using h4
theorem RatL.drew {w : World} {ao : Option Addr} {l : List (Int × Int)} {B : Nat} (h : RatL w ao l B) : RatL w.drew ao l B := ⟨fun i hi => by
  obtain ⟨b, o, a0, n0, c0, a1, n1, c1, e, h1, h2, h3, h4, h5, h6⟩ := h.get i hi
  exact ⟨b, o, a0, n0, c0, a1, n1, c1, e, h1, h2, h3.drew, h4.drew, h5, h6⟩⟩
theorem RatL.take {w : World} {ao : Option Addr} {l : List (Int × Int)} {B : Nat} (h : RatL w ao l B) (k : Nat) : RatL w ao (l.take k) B := ⟨fun i hi => by
  have hi' : i < l.length := by rw [List.length_take] at hi; omega
  obtain ⟨b, o, a0, n0, c0, a1, n1, c1, e, h1, h2, h3, h4, h5, h6⟩ := h.get i hi'
  refine ⟨b, o, a0, n0, c0, a1, n1, c1, e, h1, h2, ?_, ?_, h5, h6⟩
  · rw [List.getElem_take]; exact h3
  · rw [List.getElem_take]; exact h4⟩
theorem RatL.drop {w : World} {b o : Nat} {l : List (Int × Int)} {B : Nat} (h : RatL w (some ⟨b, o, none⟩) l B) (k : Nat) : RatL w (some ⟨b, o + k * 2, none⟩) (l.drop k) B := ⟨fun i hi => by
  have hi' : k + i < l.length := by rw [List.length_drop] at hi; omega
  obtain ⟨b', o', a0, n0, c0, a1, n1, c1, e, h1, h2, h3, h4, h5, h6⟩ := h.get (k + i) hi'
  obtain ⟨rfl, rfl⟩ : b = b' ∧ o = o' := by
    have := Option.some.inj e
    exact ⟨congrArg Addr.block this, congrArg Addr.off this⟩
  refine ⟨b, o + k * 2, a0, n0, c0, a1, n1, c1, rfl, ?_, ?_, ?_, ?_, h5, h6⟩
  · rw [show o + k * 2 + i * 2 = o + (k + i) * 2 by omega]; exact h1
  · rw [show o + k * 2 + i * 2 + 1 = o + (k + i) * 2 + 1 by omega]; exact h2
  · rw [List.getElem_drop]; exact h3
  · rw [List.getElem_drop]; exact h4⟩
theorem RatL.nonneg {w : World} {ao : Option Addr} {l : List (Int × Int)} {B : Nat} (h : RatL w ao l B) : ∀ v ∈ l, 0 ≤ v.1 ∧ 0 ≤ v.2 := by
  intro v hv
  obtain ⟨i, hi, rfl⟩ := List.getElem_of_mem hv
  obtain ⟨b, o, a0, n0, c0, a1, n1, c1, e, h1, h2, h3, h4, h5, h6⟩ := h.get i hi
  exact ⟨h3.nonneg, h4.nonneg⟩
theorem rfold (l : List (Int × Int)) : ∀ s : Int × Int, l.foldl rstep s = (s.1 * (rsum l).2 + (rsum l).1 * s.2, s.2 * (rsum l).2) := by
  induction l with
  | nil => intro s; simp [rsum]
  | cons v l ih =>
    intro s
    have e1 : (v :: l).foldl rstep s = l.foldl rstep (rstep s v) := rfl
    have e2 : rsum (v :: l) = l.foldl rstep (rstep (0, 1) v) := rfl
    rw [e1, e2, ih, ih]
    simp only [rstep]
    refine Prod.ext ?_ ?_
    · show _ = _; grind
    · show _ = _; grind
theorem rsum_append (l m : List (Int × Int)) : rsum (l ++ m) = ((rsum l).1 * (rsum m).2 + (rsum m).1 * (rsum l).2, (rsum l).2 * (rsum m).2) := by
  rw [show rsum (l ++ m) = m.foldl rstep (rsum l) by unfold rsum; rw [List.foldl_append], rfold]
theorem rsum_pos (l : List (Int × Int)) (h : ∀ v ∈ l, 0 ≤ v.1 ∧ 0 ≤ v.2) : 0 < (rsum l).2 ∧ 0 ≤ (rsum l).1 := by
  induction l with
  | nil => exact ⟨by decide, by decide⟩
  | cons v l ih =>
    obtain ⟨i1, i2⟩ := ih fun u hu => h u (List.mem_cons_of_mem _ hu)
    obtain ⟨j1, j2⟩ := h v (List.mem_cons_self ..)
    have e : rsum (v :: l) = l.foldl rstep (rstep (0, 1) v) := rfl
    rw [e, rfold]
    simp only [rstep]
    have c1 := cd_pos j2
    have c2 := cn_nonneg v.2 j1
    refine ⟨Int.mul_pos (by omega) i1, Int.add_nonneg (Int.mul_nonneg (by omega) (Int.le_of_lt i1)) (Int.mul_nonneg i2 (by omega))⟩
theorem cSum {w : World} {ao : Option Addr} {n c : Nat} {l : List (Int × Int)} (hl : l.length = n) (hn : n ≤ 12) (h : RatL w ao l 12) :
    Calls Tryz.prog 17 #[.slice ao n c] w fun e w' => ∃ a k d a' k' d', e = .returned (.agg #[.slice a k d, .slice a' k' d']) ∧ QR w' a k d a' k' d' (rsum l).1 (rsum l).2 3000 ∧ Below w.heap.size w w' := by
  obtain ⟨s1, s2⟩ := rsum_pos l h.nonneg
  have hW : n * (2 * 12 + 4 + n * (12 + 2)) ≤ 2400 := by
    have := Nat.mul_le_mul hn (show 2 * 12 + 4 + n * (12 + 2) ≤ 200 by omega)
    omega
  refine (qSum (B := 12) hl (by omega) h (by omega) (by omega) (by omega)).mono ?_
  rintro e w1 ⟨a, k, d, a', k', d', N, D, rfl, O1, O2, R, hk, hk', hB⟩
  exact ⟨a, k, d, a', k', d', rfl, pairR O1 O2 R s1 s2 (by omega) (by omega), hB⟩
end Go.Proofs.YtjihgkanbhccpaaGreatDoor

namespace Go.Proofs.YtjihgkanbhccpaaGreatDoor
open Go.RowKit Lim

theorem small1 {w : World} {g : Nat} {t : TypeId} {a0 b0 : Option Addr} {n0 c0 m0 d0 : Nat} (X : Box w g [.slice a0 n0 c0, .slice b0 m0 d0] t) (h0 : n0 ≤ 9223372036854775807) (k0 : m0 ≤ 9223372036854775807) :
    Calls Tryz.prog 14 #[.slice (some ⟨g, 0, none⟩) 1 1] w fun e w' => e = .returned (.bool (decide (n0 ≤ 12 ∧ m0 ≤ 12))) ∧ w' = w := by
  have hb := X.blk
  have t := smallQ_any (fun i => ([(a0, n0, c0)] : List (Option Addr × Nat × Nat)).getD i (none, 0, 0)) (fun i => ([(b0, m0, d0)] : List (Option Addr × Nat × Nat)).getD i (none, 0, 0)) (some ⟨g, 0, none⟩) 1 1 w (by omega)
    (fun i hi => by
      match i, hi with
      | 0, _ => exact ⟨h0, k0⟩)
    (fun i hi => by
      match i, hi with
      | 0, _ => exact ⟨g, 0, rfl, by simp [World.cell?, hb], by simp [World.cell?, hb]⟩)
  rw [show smallQ 1 (fun i => (([(a0, n0, c0)] : List (Option Addr × Nat × Nat)).getD i (none, 0, 0)).2.1) (fun i => (([(b0, m0, d0)] : List (Option Addr × Nat × Nat)).getD i (none, 0, 0)).2.1) = decide (n0 ≤ 12 ∧ m0 ≤ 12) by
    by_cases h : n0 ≤ 12 ∧ m0 ≤ 12
    · rw [decide_eq_true h]
      refine smallQ_yes fun i hi => ?_
      match i, hi with
      | 0, _ => exact h
    · rw [decide_eq_false h]
      exact smallQ_no (i := 0) (by omega) (show 12 < n0 ∨ 12 < m0 by omega)] at t
  exact t
theorem small2 {w : World} {g : Nat} {t : TypeId} {a0 b0 a1 b1 : Option Addr} {n0 c0 m0 d0 n1 c1 m1 d1 : Nat} (X : Box w g [.slice a0 n0 c0, .slice b0 m0 d0, .slice a1 n1 c1, .slice b1 m1 d1] t) (h0 : n0 ≤ 9223372036854775807) (k0 : m0 ≤ 9223372036854775807) (h1 : n1 ≤ 9223372036854775807) (k1 : m1 ≤ 9223372036854775807) :
    Calls Tryz.prog 14 #[.slice (some ⟨g, 0, none⟩) 2 2] w fun e w' => e = .returned (.bool (decide (n0 ≤ 12 ∧ m0 ≤ 12 ∧ n1 ≤ 12 ∧ m1 ≤ 12))) ∧ w' = w := by
  have hb := X.blk
  have t := smallQ_any (fun i => ([(a0, n0, c0), (a1, n1, c1)] : List (Option Addr × Nat × Nat)).getD i (none, 0, 0)) (fun i => ([(b0, m0, d0), (b1, m1, d1)] : List (Option Addr × Nat × Nat)).getD i (none, 0, 0)) (some ⟨g, 0, none⟩) 2 2 w (by omega)
    (fun i hi => by
      match i, hi with
      | 0, _ => exact ⟨h0, k0⟩
      | 1, _ => exact ⟨h1, k1⟩)
    (fun i hi => by
      match i, hi with
      | 0, _ => exact ⟨g, 0, rfl, by simp [World.cell?, hb], by simp [World.cell?, hb]⟩
      | 1, _ => exact ⟨g, 0, rfl, by simp [World.cell?, hb], by simp [World.cell?, hb]⟩)
  rw [show smallQ 2 (fun i => (([(a0, n0, c0), (a1, n1, c1)] : List (Option Addr × Nat × Nat)).getD i (none, 0, 0)).2.1) (fun i => (([(b0, m0, d0), (b1, m1, d1)] : List (Option Addr × Nat × Nat)).getD i (none, 0, 0)).2.1) = decide (n0 ≤ 12 ∧ m0 ≤ 12 ∧ n1 ≤ 12 ∧ m1 ≤ 12) by
    by_cases h : n0 ≤ 12 ∧ m0 ≤ 12 ∧ n1 ≤ 12 ∧ m1 ≤ 12
    · rw [decide_eq_true h]
      refine smallQ_yes fun i hi => ?_
      match i, hi with
      | 0, _ => exact ⟨h.1, h.2.1⟩
      | 1, _ => exact ⟨h.2.2.1, h.2.2.2⟩
    · rw [decide_eq_false h]
      by_cases h' : n0 ≤ 12 ∧ m0 ≤ 12
      · exact smallQ_no (i := 1) (by omega) (show 12 < n1 ∨ 12 < m1 by omega)
      · exact smallQ_no (i := 0) (by omega) (show 12 < n0 ∨ 12 < m0 by omega)] at t
  exact t
theorem small3 {w : World} {g : Nat} {t : TypeId} {a0 b0 a1 b1 a2 b2 : Option Addr} {n0 c0 m0 d0 n1 c1 m1 d1 n2 c2 m2 d2 : Nat} (X : Box w g [.slice a0 n0 c0, .slice b0 m0 d0, .slice a1 n1 c1, .slice b1 m1 d1, .slice a2 n2 c2, .slice b2 m2 d2] t) (h0 : n0 ≤ 9223372036854775807) (k0 : m0 ≤ 9223372036854775807) (h1 : n1 ≤ 9223372036854775807) (k1 : m1 ≤ 9223372036854775807) (h2 : n2 ≤ 9223372036854775807) (k2 : m2 ≤ 9223372036854775807) :
    Calls Tryz.prog 14 #[.slice (some ⟨g, 0, none⟩) 3 3] w fun e w' => e = .returned (.bool (decide (n0 ≤ 12 ∧ m0 ≤ 12 ∧ n1 ≤ 12 ∧ m1 ≤ 12 ∧ n2 ≤ 12 ∧ m2 ≤ 12))) ∧ w' = w := by
  have hb := X.blk
  have t := smallQ_any (fun i => ([(a0, n0, c0), (a1, n1, c1), (a2, n2, c2)] : List (Option Addr × Nat × Nat)).getD i (none, 0, 0)) (fun i => ([(b0, m0, d0), (b1, m1, d1), (b2, m2, d2)] : List (Option Addr × Nat × Nat)).getD i (none, 0, 0)) (some ⟨g, 0, none⟩) 3 3 w (by omega)
    (fun i hi => by
      match i, hi with
      | 0, _ => exact ⟨h0, k0⟩
      | 1, _ => exact ⟨h1, k1⟩
      | 2, _ => exact ⟨h2, k2⟩)
    (fun i hi => by
      match i, hi with
      | 0, _ => exact ⟨g, 0, rfl, by simp [World.cell?, hb], by simp [World.cell?, hb]⟩
      | 1, _ => exact ⟨g, 0, rfl, by simp [World.cell?, hb], by simp [World.cell?, hb]⟩
      | 2, _ => exact ⟨g, 0, rfl, by simp [World.cell?, hb], by simp [World.cell?, hb]⟩)
  rw [show smallQ 3 (fun i => (([(a0, n0, c0), (a1, n1, c1), (a2, n2, c2)] : List (Option Addr × Nat × Nat)).getD i (none, 0, 0)).2.1) (fun i => (([(b0, m0, d0), (b1, m1, d1), (b2, m2, d2)] : List (Option Addr × Nat × Nat)).getD i (none, 0, 0)).2.1) = decide (n0 ≤ 12 ∧ m0 ≤ 12 ∧ n1 ≤ 12 ∧ m1 ≤ 12 ∧ n2 ≤ 12 ∧ m2 ≤ 12) by
    by_cases h : n0 ≤ 12 ∧ m0 ≤ 12 ∧ n1 ≤ 12 ∧ m1 ≤ 12 ∧ n2 ≤ 12 ∧ m2 ≤ 12
    · rw [decide_eq_true h]
      refine smallQ_yes fun i hi => ?_
      match i, hi with
      | 0, _ => exact ⟨h.1, h.2.1⟩
      | 1, _ => exact ⟨h.2.2.1, h.2.2.2.1⟩
      | 2, _ => exact ⟨h.2.2.2.2.1, h.2.2.2.2.2⟩
    · rw [decide_eq_false h]
      by_cases h' : n0 ≤ 12 ∧ m0 ≤ 12
      · by_cases h'' : n1 ≤ 12 ∧ m1 ≤ 12
        · exact smallQ_no (i := 2) (by omega) (show 12 < n2 ∨ 12 < m2 by omega)
        · exact smallQ_no (i := 1) (by omega) (show 12 < n1 ∨ 12 < m1 by omega)
      · exact smallQ_no (i := 0) (by omega) (show 12 < n0 ∨ 12 < m0 by omega)] at t
  exact t
end Go.Proofs.YtjihgkanbhccpaaGreatDoor

namespace Go.Proofs.YtjihgkanbhccpaaGreatDoor
open Go.RowKit Lim

theorem cellY {w : World} {ao : Option Addr} {b o k : Nat} {l : List Int} {y : Int} (h : At w ao b o l) (e : nth l k = y) (hk : k < l.length) : w.cell? ⟨b, o + k, none⟩ = some (.int .u64 y) := e ▸ h.cell k hk
/-- the sum of the first k -/
def psum (l : List Int) : Nat → Int
  | 0 => 0
  | k + 1 => psum l k + nth l k
theorem psum_nonneg {l : List Int} (h : Words l) (k : Nat) : 0 ≤ psum l k := by
  induction k with
  | zero => exact Int.le_refl _
  | succ k ih => have := (h.nth k).1; simp only [psum]; omega
theorem sgn_le {x y : Int} (h : x ≤ y) : sgn x y ≤ 0 := by
  unfold sgn; split
  · decide
  · rw [if_neg (by omega)]; decide
theorem steps_le {a b c : Int} (ha : 0 ≤ a) (hb : 0 ≤ b) (hc : 0 < c) : a * U36 / c * b / U36 ≤ a * b / c ∧ a * b / c ≤ a * U36 / c * b / U36 + (b / U36 + 2) := by
  have hU := U36_pos
  generalize U36 = U at *
  have q1 : a * U / c * c ≤ a * U := Int.ediv_mul_le _ (by omega)
  have q2 : a * U < (a * U / c + 1) * c := Int.lt_ediv_add_one_mul_self _ hc
  have o1 : a * b / c * c ≤ a * b := Int.ediv_mul_le _ (by omega)
  have q0 : 0 ≤ a * U / c := Int.ediv_nonneg (Int.mul_nonneg ha (by omega)) (by omega)
  generalize a * U / c = q at *
  have t1 : q * b / U * U ≤ q * b := Int.ediv_mul_le _ (by omega)
  have t2 : q * b < (q * b / U + 1) * U := Int.lt_ediv_add_one_mul_self _ hU
  have r2 : b < (b / U + 1) * U := Int.lt_ediv_add_one_mul_self _ hU
  constructor
  · refine Int.le_ediv_of_mul_le hc ?_
    have h1 : q * b / U * U * c ≤ q * b * c := Int.mul_le_mul_of_nonneg_right t1 (by omega)
    have h2 : q * c * b ≤ a * U * b := Int.mul_le_mul_of_nonneg_right q1 hb
    have h3 : q * b / U * c * U ≤ a * b * U := by
      have e1 : q * b / U * c * U = q * b / U * U * c := by rw [Int.mul_right_comm]
      have e2 : q * b * c = q * c * b := by rw [Int.mul_right_comm]
      have e3 : a * U * b = a * b * U := by rw [Int.mul_right_comm]
      omega
    exact Int.le_of_mul_le_mul_right h3 hU
  · generalize a * b / c = o at *
    have h1 : o * c * U ≤ a * b * U := Int.mul_le_mul_of_nonneg_right o1 (by omega)
    have h2 : a * U * b ≤ (q + 1) * c * b := Int.mul_le_mul_of_nonneg_right (by omega) hb
    have h3 : o * U * c ≤ (q * b + b) * c := by
      have e1 : o * U * c = o * c * U := by rw [Int.mul_right_comm]
      have e2 : a * U * b = a * b * U := by rw [Int.mul_right_comm]
      have e3 : (q + 1) * c * b = (q * b + b) * c := by rw [Int.mul_right_comm, Int.add_mul, Int.one_mul]
      omega
    have h4 : o * U ≤ q * b + b := Int.le_of_mul_le_mul_right h3 hc
    generalize q * b / U = t at *
    generalize b / U = r at *
    have h5 : o * U < (t + 1 + (r + 1)) * U := by rw [Int.add_mul]; omega
    have := Int.lt_of_mul_lt_mul_right h5 (by omega)
    omega
theorem part_one {a y t : Int} (ht : 0 < t) : a * (y * U36) / (t * U36) * t ≤ a * y ∧ a * y ≤ a * (y * U36) / (t * U36) * t + (t - 1) := by
  have hU := U36_pos
  generalize U36 = U at *
  have htU : 0 < t * U := Int.mul_pos ht hU
  have p1 : a * (y * U) / (t * U) * (t * U) ≤ a * (y * U) := Int.ediv_mul_le _ (by omega)
  have p2 : a * (y * U) < (a * (y * U) / (t * U) + 1) * (t * U) := Int.lt_ediv_add_one_mul_self _ htU
  generalize a * (y * U) / (t * U) = p at *
  have e1 : p * (t * U) = p * t * U := by rw [Int.mul_assoc]
  have e2 : a * (y * U) = a * y * U := by rw [Int.mul_assoc]
  have e3 : (p + 1) * (t * U) = (p * t + t) * U := by rw [← Int.mul_assoc, Int.add_mul, Int.one_mul]
  rw [e1, e2] at p1
  rw [e2, e3] at p2
  have q1 := Int.le_of_mul_le_mul_right p1 hU
  have q2 := Int.lt_of_mul_lt_mul_right p2 (by omega)
  omega
theorem parts_step {Q t : Int} {k : Nat} (ht : 0 < t) {a s : Int} (h1 : Q * t ≤ a * s) (h2 : a * s ≤ Q * t + k * (t - 1)) (a' y s' : Int) {s1 : Int} (e : s1 = s + y) : a' = a → s' = s → (Q + a * (y * U36) / (t * U36)) * t ≤ a * s1 ∧ a * s1 ≤ (Q + a * (y * U36) / (t * U36)) * t + ((k + 1 : Nat) : Int) * (t - 1) := by
  intro _ _
  have hp := part_one (a := a) (y := y) ht
  generalize a * (y * U36) / (t * U36) = p at *
  subst e
  rw [Int.mul_add, Int.add_mul, Int.natCast_add, Int.add_mul]
  omega
end Go.Proofs.YtjihgkanbhccpaaGreatDoor

namespace Go.Proofs.YtjihgkanbhccpaaGreatDoor
open Go.RowKit Lim

theorem natO_zero {w : World} {ao : Option Addr} {n c : Nat} (h : NatO w ao n c 0) : n = 0 := by
  obtain ⟨b, o, l, h1, h2, h3, h4⟩ := h.ex
  have : l = [] := isN_unique h3 isN_nil
  subst this
  exact h1.symm
set_option maxHeartbeats 2000000 in
set_option maxRecDepth 100000 in
theorem tMade {w : World} {ao ao' : Option Addr} {n c n' c' : Nat} {x y : Int} (h : NatA w ao n c x) (h' : NatA w ao' n' c' y) (hn : n ≤ 17179869184) (hn' : n' ≤ 17179869184) (hne : y ≠ 0) :
    Calls Tryz.prog 96 #[.slice ao n c, .slice ao' n' c'] w fun e w' => ∃ a k d a' k' d', e = .returned (.agg #[.slice a k d, .slice a' k' d']) ∧ NatO w' a k d (rn x y) ∧ NatO w' a' k' d' (rd x y) ∧ k ≤ 2 * n ∧ k' ≤ 2 * n' ∧ Below w.heap.size w w' := by
  have hg : ((Int.gcd x y : Nat) : Int) ≠ 0 := fun e => hne (Int.gcd_eq_zero_iff (a := x) (b := y) |>.1 (by omega)).2
  have HG := (show Hid _ from hg)
  clear hg hne
  have B0 := below_alloc w (.cells #[.slice none 0 0, .slice none 0 0] 30)
  have S0 := box_new w [.slice none 0 0, .slice none 0 0] 30
  replace h := h.keep B0
  replace h' := h'.keep B0
  go_enter Tryz.func96, Tryz.ntmps96
  go_wp2_with fail
  refine (rGcd h h' (by omega) (by omega)).mono ?_
  rintro e w1 ⟨ag, kg, dg, rfl, OG, hkg, hB⟩
  replace h := h.keep hB
  replace h' := h'.keep hB
  replace S0 := S0.keep hB
  replace B0 := joinB B0 hB
  clear hB
  go_wp2_with fail
  refine (rDiv h OG.a (by omega) (by omega) HG.out).mono ?_
  rintro e w2 ⟨a, k, d, a2, k2, d2, rfl, O1, O1', hk, hk1, hB⟩
  replace h' := h'.keep hB
  replace OG := OG.keep hB
  replace S0 := S0.keep hB
  replace B0 := joinB B0 hB
  clear hB O1'
  go_wp2_with fail
  refine (rDiv h' OG.a (by omega) (by omega) HG.out).mono ?_
  rintro e w3 ⟨a', k', d', a3, k3, d3, rfl, O2, O2', hk', hk3, hB⟩
  replace O1 := O1.keep hB
  replace S0 := S0.keep hB
  replace B0 := joinB B0 hB
  obtain ⟨c1, c2, f1, f2⟩ := S0.cells2
  have S2 := S0.put2 (.slice a k d) (.slice a' k' d')
  have P1 := O1.put2 S0 (.slice a k d) (.slice a' k' d')
  have P2 := O2.put2 S0 (.slice a k d) (.slice a' k' d')
  have HB := below_put2 B0 (Nat.le_refl _) (.slice a k d) (.slice a' k' d')
  clear hB h h' O1 O2 O2' OG S0 B0
  go_wp2
  refine bodyPost_ret (ret_rat rfl rfl S2) rfl ?_
  exact ⟨a, k, d, a', k', d', rfl, P1, P2, hk, hk', HB⟩
set_option maxHeartbeats 2000000 in
set_option maxRecDepth 100000 in
theorem tRight {w : World} {ao ao' : Option Addr} {n c n' c' : Nat} {x y : Int} (h : NatA w ao n c x) (h' : NatA w ao' n' c' y) (hn : n ≤ 17179869184) (hn' : n' ≤ 17179869184) :
    Calls Tryz.prog 99 #[.agg #[.slice ao n c, .slice ao' n' c']] w fun e w' => ∃ a k d a' k' d', e = .returned (.agg #[.slice a k d, .slice a' k' d']) ∧ NatA w' a k d (cn x y) ∧ NatA w' a' k' d' (cd y) ∧ k ≤ n ∧ k' ≤ n' + 2 ∧ Below w.heap.size w w' := by
  unfold cn cd
  have B0 := below2 w (.cells #[.slice ao n c, .slice ao' n' c'] 30) (.cells #[.slice none 0 0, .slice none 0 0] 30)
  have SP := (box_new w [.slice ao n c, .slice ao' n' c'] 30).keep (below_alloc _ (.cells #[.slice none 0 0, .slice none 0 0] 30))
  have S0 := box_new (w.alloc (.cells #[.slice ao n c, .slice ao' n' c'] 30)) [.slice none 0 0, .slice none 0 0] 30
  rw [show (w.alloc (.cells #[.slice ao n c, .slice ao' n' c'] 30)).heap.size = w.heap.size + 1 by simp] at S0
  replace h := h.keep B0
  replace h' := h'.keep B0
  obtain ⟨p1, p2, p3, p4⟩ := SP.cells2
  by_cases hy : y = 0
  · rw [if_pos hy, if_pos hy]
    subst hy
    go_enter Tryz.func99, Tryz.ntmps99
    go_wp2_with fail
    refine (rNorm h' (by omega)).mono ?_
    rintro e w1 ⟨a1, k1, d1, rfl, O1, hk1, hB⟩
    obtain rfl := natO_zero O1
    replace S0 := S0.keep hB
    replace B0 := joinB B0 hB
    clear hB O1
    go_wp2_with fail
    refine (rOf (x := 1) (by decide) (by decide)).mono ?_
    rintro e w2 ⟨a', k', d', rfl, O2, hk', hB⟩
    replace S0 := S0.keep hB
    replace B0 := joinB B0 hB
    obtain ⟨c1, c2, f1, f2⟩ := S0.cells2
    have S2 := S0.put2 (.slice none 0 0) (.slice a' k' d')
    have P2 := O2.put2 S0 (.slice none 0 0) (.slice a' k' d')
    have HB := below_put2 B0 (g := w.heap.size + 1) (by omega) (.slice none 0 0) (.slice a' k' d')
    clear hB h h' O2 S0 B0 SP p1 p2 p3 p4
    go_wp2
    refine bodyPost_ret (ret_rat rfl rfl S2) rfl ?_
    exact ⟨none, 0, 0, a', k', d', rfl, (natO_nil _).a, P2.a, by omega, by omega, HB⟩
  · rw [if_neg hy, if_neg hy]
    have HY := (show Hid _ from hy)
    clear hy
    go_enter Tryz.func99, Tryz.ntmps99
    go_wp2_with fail
    refine (rNorm h' (by omega)).mono ?_
    rintro e w1 ⟨a1, k1, d1, rfl, O1, hk1, hB⟩
    have hp := natO_pos O1 HY.out
    obtain ⟨j, rfl⟩ : ∃ j, k1 = j + 1 := ⟨k1 - 1, by omega⟩
    replace S0 := S0.keep hB
    replace SP := SP.keep hB
    replace h := h.keep hB
    replace h' := h'.keep hB
    replace B0 := joinB B0 hB
    clear hB O1 p1 p2 p3 p4 hp
    obtain ⟨p1, p2, p3, p4⟩ := SP.cells2
    obtain ⟨c1, c2, f1, f2⟩ := S0.cells2
    have S2 := S0.put2 (.slice ao n c) (.slice ao' n' c')
    have P1 := h.put2 S0 (.slice ao n c) (.slice ao' n' c')
    have P2 := h'.put2 S0 (.slice ao n c) (.slice ao' n' c')
    have HB := below_put2 B0 (g := w.heap.size + 1) (by omega) (.slice ao n c) (.slice ao' n' c')
    clear h h' S0 B0 SP
    go_wp2
    refine bodyPost_ret (ret_rat rfl rfl S2) rfl ?_
    exact ⟨ao, n, c, ao', n', c', rfl, P1, P2, by omega, by omega, HB⟩
end Go.Proofs.YtjihgkanbhccpaaGreatDoor
