/- Several texts, joined: Dec1, GcdOne, Fore, Lehm, Shrink, GcdN, GcdV, Rat0, Rat1, Rat2, RatM, Rat3. -/
import Derived.Test.YtjihgkanbhccpaaGreatDoorJxa
import Derived.Handy
import Derived.Deep.RegionWith
import Derived.BigQuiet
import Derived.Deep.RegionHeld3
namespace Go.Proofs.YtjihgkanbhccpaaGreatDoor
open Go.RowKit Lim

set_option maxHeartbeats 1000000 in
set_option maxRecDepth 100000 in
theorem dAdd {w : World} {ao ao' : Option Addr} {n c n' c' : Nat} {x y : Int} (h : NatA w ao n c x) (h' : NatA w ao' n' c' y) (hn : n ≤ 1099511627776) (hn' : n' ≤ 1099511627776) :
    Calls Tryz.prog 31 #[.agg #[.slice ao n c], .agg #[.slice ao' n' c']] w fun e w' => ∃ a k d, e = .returned (.agg #[.slice a k d]) ∧ NatO w' a k d (x + y) ∧ k ≤ n + n' + 1 ∧ Below w.heap.size w w' := by
  have B0 := below3 w (.cells #[.slice ao n c] 46) (.cells #[.slice ao' n' c'] 46) (.cells #[.slice none 0 0] 46)
  have S0 := slot_last3 w (.cells #[.slice ao n c] 46) (.cells #[.slice ao' n' c'] 46) (.slice none 0 0) 46
  have h := h.keep B0
  have h' := h'.keep B0
  go_enter Tryz.func31, Tryz.ntmps31
  go_wp2_with fail
  refine (nAdd h h' hn hn').mono ?_
  rintro e w1 ⟨a, k, d, rfl, hO, hk, hB⟩
  have S1 := S0.keep hB
  have c1 := S1.cell
  have f1 := S1.free
  have S2 := S1.put (.slice a k d)
  have hO1 := hO.put S1 not_int (.slice a k d)
  have HB := belowPut B0 hB (g := w.heap.size + 1 + 1) (by omega) (.slice a k d)
  clear h h' hO hB S0 S1 B0
  go_wp2
  refine bodyPost_ret (ret_dec rfl rfl S2) rfl ?_
  exact ⟨a, k, d, rfl, hO1, hk, HB⟩

set_option maxHeartbeats 1000000 in
set_option maxRecDepth 100000 in
theorem dCmp {w : World} {ao ao' : Option Addr} {n c n' c' : Nat} {x y : Int} (h : NatA w ao n c x) (h' : NatA w ao' n' c' y) (hn : n ≤ 1099511627776) (hn' : n' ≤ 1099511627776) :
    Calls Tryz.prog 32 #[.agg #[.slice ao n c], .agg #[.slice ao' n' c']] w fun e w' => e = .returned (.int .i64 (sgn x y)) ∧ Below w.heap.size w w' := by
  have B0 := below2 w (.cells #[.slice ao n c] 46) (.cells #[.slice ao' n' c'] 46)
  have h := h.keep B0
  have h' := h'.keep B0
  go_enter Tryz.func32, Tryz.ntmps32
  go_wp2_with fail
  refine (nCmp h h' hn hn').mono ?_
  rintro e w1 ⟨rfl, hB⟩
  go_wp2
  go_ret
  exact ⟨rfl, joinB B0 hB⟩

set_option maxHeartbeats 1000000 in
set_option maxRecDepth 100000 in
theorem dZero {w : World} {ao : Option Addr} {n c : Nat} {x : Int} (h : NatA w ao n c x) (hn : n ≤ 1099511627776) :
    Calls Tryz.prog 33 #[.agg #[.slice ao n c]] w fun e w' => e = .returned (.bool (decide (x = 0))) ∧ Below w.heap.size w w' := by
  have B0 := below_alloc w (.cells #[.slice ao n c] 46)
  have h := h.keep B0
  have t := nBits h hn
  have hm := bitLen_zero x h.nonneg
  by_cases hx : x = 0
  · have hm := hm.2 hx
    rw [hm] at t
    rw [decide_eq_true hx]
    clear hm hx h
    go_enter Tryz.func33, Tryz.ntmps33
    go_wp2_with fail
    refine t.mono ?_
    rintro e w1 ⟨rfl, hB⟩
    go_wp2
    go_ret
    exact ⟨rfl, joinB B0 hB⟩
  · have hm : bitLen x.toNat ≠ 0 := fun e => hx (hm.1 e)
    rw [decide_eq_false hx]
    generalize bitLen x.toNat = m at *
    obtain ⟨k, rfl⟩ : ∃ k, m = k + 1 := ⟨m - 1, by omega⟩
    clear hm hx h
    go_enter Tryz.func33, Tryz.ntmps33
    go_wp2_with fail
    refine t.mono ?_
    rintro e w1 ⟨rfl, hB⟩
    go_wp2
    go_ret
    refine ⟨?_, joinB B0 hB⟩
    congr 2

set_option maxHeartbeats 1000000 in
set_option maxRecDepth 100000 in
theorem dTenTo {w : World} (n : Nat) (hn : n ≤ 4096) :
    Calls Tryz.prog 130 #[.int .i64 n] w fun e w' => ∃ a k d, e = .returned (.slice a k d) ∧ NatO w' a k d (10 ^ n) ∧ k ≤ n + 2 ∧ Below w.heap.size w w' := by
  go_enter Tryz.func130, Tryz.ntmps130
  go_wp2_with fail
  refine (nPow n hn).mono ?_
  rintro e w1 ⟨a, k, d, rfl, hO, hk, hB⟩
  go_wp2
  go_ret
  exact ⟨a, k, d, rfl, hO, hk, hB⟩

/-- the Raw of 1 -/
def U36 : Int := 10 ^ 36
theorem U36_pos : 0 < U36 := by decide
set_option maxHeartbeats 1000000 in
set_option maxRecDepth 100000 in
theorem dUnit {w : World} : Calls Tryz.prog 93 #[] w fun e w' => ∃ a k d, e = .returned (.slice a k d) ∧ NatO w' a k d U36 ∧ k ≤ 38 ∧ Below w.heap.size w w' := by
  go_enter Tryz.func93, Tryz.ntmps93
  go_wp2_with fail
  refine (dTenTo 36 (by decide)).mono ?_
  rintro e w1 ⟨a, k, d, rfl, hO, hk, hB⟩
  go_wp2
  go_ret
  exact ⟨a, k, d, rfl, hO, hk, hB⟩

set_option maxHeartbeats 1000000 in
set_option maxRecDepth 100000 in
theorem dOfNat {w : World} {ao : Option Addr} {n c : Nat} {x : Int} (h : NatA w ao n c x) (hn : n ≤ 1099511627776) :
    Calls Tryz.prog 64 #[.slice ao n c] w fun e w' => ∃ a k d, e = .returned (.agg #[.slice a k d]) ∧ NatO w' a k d (x * U36) ∧ k ≤ n + 38 ∧ Below w.heap.size w w' := by
  have B0 := below_alloc w (.cells #[.slice none 0 0] 46)
  have S0 := slot_new w (.slice none 0 0) 46
  have h := h.keep B0
  go_enter Tryz.func64, Tryz.ntmps64
  go_wp2_with fail
  refine dUnit.mono ?_
  rintro e w1 ⟨a, k, d, rfl, hO, hk, hB⟩
  have h := h.keep hB
  have S0 := S0.keep hB
  have B0 := joinB B0 hB
  clear hB
  go_wp2_with fail
  refine (nMul h hO.a hn (by omega)).mono ?_
  rintro e w2 ⟨a', k', d', rfl, hO', hk', hB⟩
  have S1 := S0.keep hB
  have c1 := S1.cell
  have f1 := S1.free
  have S2 := S1.put (.slice a' k' d')
  have hO1 := hO'.put S1 not_int (.slice a' k' d')
  have HB := belowPut B0 hB (g := w.heap.size) (Nat.le_refl _) (.slice a' k' d')
  clear h hO hO' hB S0 S1 B0
  go_wp2
  refine bodyPost_ret (ret_dec rfl rfl S2) rfl ?_
  exact ⟨a', k', d', rfl, hO1, by omega, HB⟩

set_option maxHeartbeats 1000000 in
set_option maxRecDepth 100000 in
theorem dOf {w : World} {x : Int} (h0 : 0 ≤ x) (h1 : x < 18446744073709551616) :
    Calls Tryz.prog 60 #[.int .u64 x] w fun e w' => ∃ a k d, e = .returned (.agg #[.slice a k d]) ∧ NatO w' a k d (x * U36) ∧ k ≤ 39 ∧ Below w.heap.size w w' := by
  have B0 := below_alloc w (.cells #[.slice none 0 0] 46)
  have S0 := slot_new w (.slice none 0 0) 46
  go_enter Tryz.func60, Tryz.ntmps60
  go_wp2_with fail
  refine (nOf h0 h1).mono ?_
  rintro e w1 ⟨a, k, d, rfl, hO, hk, hB⟩
  have S0 := S0.keep hB
  have B0 := joinB B0 hB
  clear hB
  go_wp2_with fail
  refine (dOfNat hO.a (by omega)).mono ?_
  rintro e w2 ⟨a', k', d', rfl, hO', hk', hB⟩
  have S1 := S0.keep hB
  have c1 := S1.cell
  have f1 := S1.free
  have S2 := S1.put (.slice a' k' d')
  have hO1 := hO'.put S1 not_int (.slice a' k' d')
  have HB := belowPut B0 hB (g := w.heap.size) (Nat.le_refl _) (.slice a' k' d')
  clear hO hO' hB S0 S1 B0
  go_wp2
  refine bodyPost_ret (ret_dec rfl rfl S2) rfl ?_
  exact ⟨a', k', d', rfl, hO1, by omega, HB⟩

set_option maxHeartbeats 1000000 in
set_option maxRecDepth 100000 in
theorem dTimes {w : World} {ao : Option Addr} {n c : Nat} {x y : Int} (h : NatA w ao n c x) (hn : n ≤ 1099511627776) (h0 : 0 ≤ y) (h1 : y < 18446744073709551616) :
    Calls Tryz.prog 55 #[.agg #[.slice ao n c], .int .u64 y] w fun e w' => ∃ a k d, e = .returned (.agg #[.slice a k d]) ∧ NatO w' a k d (x * y) ∧ k ≤ n + 1 ∧ Below w.heap.size w w' := by
  have B0 := below2 w (.cells #[.slice ao n c] 46) (.cells #[.slice none 0 0] 46)
  have S0 := slot_last2 w (.cells #[.slice ao n c] 46) (.slice none 0 0) 46
  have SP := (slot_new w (.slice ao n c) 46).alloc (.cells #[.slice none 0 0] 46)
  have h := h.keep B0
  go_enter Tryz.func55, Tryz.ntmps55
  go_wp2_with fail
  go_region_with (first
    | (go_at_call 23; refine (nOf h0 h1).mono ?_; rintro e w1 ⟨a, k, d, rfl, hO, hk, hB⟩; have S0 := S0.drew.keep hB; have SP := SP.drew.keep hB; have cP := SP.cell; have B0 := joinB B0.drew hB; have h := h.drew.keep hB; clear hB)
    | (go_at_call 82; refine (nMul h hO.a hn (by omega)).mono ?_; rintro e w2 ⟨a', k', d', rfl, hO', hk', hB⟩; have S1 := S0.keep hB; have c1 := S1.cell; have f1 := S1.free; have S2 := S1.put (.slice a' k' d'); have hO1 := hO'.put S1 not_int (.slice a' k' d'); have HB := belowPut B0 hB (g := w.heap.size + 1) (by omega) (.slice a' k' d'); clear h hO hO' hB S0 S1 B0 cP SP))
  all_goals go_wp2
  all_goals refine bodyPost_ret (ret_dec rfl rfl S2) rfl ?_
  all_goals exact ⟨a', k', d', rfl, hO1, by omega, HB⟩

set_option maxHeartbeats 1000000 in
set_option maxRecDepth 100000 in
theorem dSub {w : World} {ao ao' : Option Addr} {n c n' c' : Nat} {x y : Int} (h : NatA w ao n c x) (h' : NatA w ao' n' c' y) (hn : n ≤ 1099511627776) (hn' : n' ≤ 1099511627776) (hge : y ≤ x) :
    Calls Tryz.prog 56 #[.agg #[.slice ao n c], .agg #[.slice ao' n' c']] w fun e w' => ∃ a k d, e = .returned (.tuple #[.agg #[.slice a k d], .int .i64 0]) ∧ NatO w' a k d (x - y) ∧ k ≤ n + n' ∧ Below w.heap.size w w' := by
  have B0 := below3 w (.cells #[.slice ao n c] 46) (.cells #[.slice ao' n' c'] 46) (.cells #[.slice none 0 0] 46)
  have S0 := slot_last3 w (.cells #[.slice ao n c] 46) (.cells #[.slice ao' n' c'] 46) (.slice none 0 0) 46
  have h := h.keep B0
  have h' := h'.keep B0
  go_enter Tryz.func56, Tryz.ntmps56
  go_wp2_with fail
  refine (nSub h h' hn hn' hge).mono ?_
  rintro e w1 ⟨a, k, d, rfl, hO, hk, hB⟩
  have S1 := S0.keep hB
  have c1 := S1.cell
  have f1 := S1.free
  have S2 := S1.put (.slice a k d)
  have hO1 := hO.put S1 not_int (.slice a k d)
  have HB := belowPut B0 hB (g := w.heap.size + 1 + 1) (by omega) (.slice a k d)
  clear h h' hO hB S0 S1 B0 hge
  go_wp2
  refine bodyPost_ret (ret_dec_tmp rfl rfl rfl S2) rfl ?_
  exact ⟨a, k, d, rfl, hO1, hk, HB⟩

set_option maxHeartbeats 1000000 in
set_option maxRecDepth 100000 in
theorem dSubLt {w : World} {ao ao' : Option Addr} {n c n' c' : Nat} {x y : Int} (h : NatA w ao n c x) (h' : NatA w ao' n' c' y) (hn : n ≤ 1099511627776) (hn' : n' ≤ 1099511627776) (hlt : x < y) :
    Calls Tryz.prog 56 #[.agg #[.slice ao n c], .agg #[.slice ao' n' c']] w fun e w' => e = .returned (.tuple #[.agg #[.slice none 0 0], .int .i64 20]) ∧ Below w.heap.size w w' := by
  have B0 := below3 w (.cells #[.slice ao n c] 46) (.cells #[.slice ao' n' c'] 46) (.cells #[.slice none 0 0] 46)
  have S0 := slot_last3 w (.cells #[.slice ao n c] 46) (.cells #[.slice ao' n' c'] 46) (.slice none 0 0) 46
  have h := h.keep B0
  have h' := h'.keep B0
  go_enter Tryz.func56, Tryz.ntmps56
  go_wp2_with fail
  refine (nSubLt h h' hn hn' hlt).mono ?_
  rintro e w1 ⟨rfl, hB⟩
  have S1 := S0.keep hB
  have c1 := S1.cell
  have f1 := S1.free
  have S2 := S1.put (.slice none 0 0)
  have HB := belowPut B0 hB (g := w.heap.size + 1 + 1) (by omega) (.slice none 0 0)
  clear h h' hB S0 S1 B0 hlt
  go_wp2
  refine bodyPost_ret (ret_dec_tmp rfl rfl rfl S2) rfl ?_
  exact ⟨rfl, HB⟩

set_option maxHeartbeats 1000000 in
set_option maxRecDepth 100000 in
theorem dTrunc {w : World} {ao : Option Addr} {n c : Nat} {x : Int} (h : NatA w ao n c x) (hn : n ≤ 1099511627776) :
    Calls Tryz.prog 72 #[.agg #[.slice ao n c]] w fun e w' => ∃ a k d a' k' d', e = .returned (.tuple #[.slice a k d, .agg #[.slice a' k' d']]) ∧ NatO w' a k d (x / U36) ∧ NatO w' a' k' d' (x % U36) ∧ k ≤ n ∧ k' ≤ n + 38 ∧ Below w.heap.size w w' := by
  have B0 := below2 w (.cells #[.slice ao n c] 46) (.cells #[.slice none 0 0] 46)
  have S0 := slot_last2 w (.cells #[.slice ao n c] 46) (.slice none 0 0) 46
  have SP := (slot_new w (.slice ao n c) 46).alloc (.cells #[.slice none 0 0] 46)
  have h := h.keep B0
  go_enter Tryz.func72, Tryz.ntmps72
  go_wp2_with fail
  go_region_with (first
    | (go_at_call 93; refine dUnit.mono ?_; rintro e w1 ⟨a, k, d, rfl, hO, hk, hB⟩; have S0 := S0.drew.keep hB; have SP := SP.drew.keep hB; have cP := SP.cell; have B0 := joinB B0.drew hB; have h := h.drew.keep hB; clear hB)
    | (go_at_call 110; refine (nDiv h hO.a hn (by omega) (by decide)).mono ?_; rintro e w2 ⟨a1, k1, d1, a2, k2, d2, rfl, hO1, hO2, hk1, hk2, hB⟩; have S1 := S0.keep hB; have c1 := S1.cell; have f1 := S1.free; have S2 := S1.put (.slice a2 k2 d2); have hO1 := hO1.put S1 not_int (.slice a2 k2 d2); have hO2 := hO2.put S1 not_int (.slice a2 k2 d2); have HB := belowPut B0 hB (g := w.heap.size + 1) (by omega) (.slice a2 k2 d2); clear h hO hB S0 S1 B0 cP SP))
  all_goals go_wp2
  all_goals refine bodyPost_ret (ret_tmp_dec rfl rfl rfl S2) rfl ?_
  all_goals exact ⟨a1, k1, d1, a2, k2, d2, rfl, hO1, hO2, hk1, by omega, HB⟩
end Go.Proofs.YtjihgkanbhccpaaGreatDoor

namespace Go.Proofs.YtjihgkanbhccpaaGreatDoor
open Go.RowKit Lim

theorem gcd_step (a b : Int) (ha : 0 ≤ a) (hb : 0 ≤ b) : Int.gcd b (a % b) = Int.gcd a b := by
  obtain ⟨a, rfl⟩ := Int.eq_ofNat_of_zero_le ha
  obtain ⟨b, rfl⟩ := Int.eq_ofNat_of_zero_le hb
  show Nat.gcd b ((a : Int) % (b : Int)).natAbs = Nat.gcd a b
  rw [show ((a : Int) % (b : Int)).natAbs = a % b from rfl, Nat.gcd_comm b, Nat.gcd_comm a b]
  exact (Nat.gcd_rec b a).symm

set_option maxHeartbeats 1000000 in
set_option maxRecDepth 100000 in
theorem gcdSmall_any (x y : Int) (w : World) (hx : 0 ≤ x) (hx1 : x < 18446744073709551616) (hy : 0 ≤ y) (hy1 : y < 18446744073709551616) :
    Calls Tryz.prog 126 #[.int .u64 x, .int .u64 y] w fun e w' => e = .returned (.int .u64 (Int.gcd x y : Nat)) ∧ ∃ n, w' = w.drewN n := by
  go_enter Tryz.func126, Tryz.ntmps126
  go_wp2
  go_loopw [0, 1] (fun tx ty wr => ∃ a b : Int, tx = .int .u64 a ∧ ty = .int .u64 b ∧ 0 ≤ a ∧ a < 18446744073709551616 ∧ 0 ≤ b ∧ b < 18446744073709551616 ∧ Hid (Int.gcd a b = Int.gcd x y) ∧ ∃ n, wr = w.drewN n) (fun _ ty _ => (intOf ty).toNat)
  case atStart => exact ⟨x, y, rfl, rfl, hx, hx1, hy, hy1, rfl, 0, rfl⟩
  case round =>
    obtain ⟨a, b, rfl, rfl, a0, a1, b0, b1, hg, n, rfl⟩ := hrel
    by_cases hb : b = 0
    · subst hb
      go_wp2
      go_ret
      refine ⟨ret1 ?_, n, rfl⟩
      have := hg.out
      rw [Int.gcd_zero_right] at this
      omega
    · have hb' : (b != 0) = true := by rw [bne_iff_ne]; exact hb
      have hb2 : (b == 0) = false := beq_eq_false_iff_ne.2 hb
      have hbp : 0 < b := by omega
      have hm0 := Int.emod_nonneg a hb
      have hm1 := Int.emod_lt_of_pos a hbp
      go_wp2_with fail
      go_quiet (fail)
      go_wp2
      go_roundw
      case rel => exact ⟨b, a % b, rfl, rfl, b0, b1, hm0, by omega, by show _ = _; rw [← hg.out]; exact gcd_step a b a0 b0, _, World.drewN_drewN _ _ _⟩
      case measure => simp [intOf]; omega
theorem Row.keep {w w' : World} {g : Nat} {l : List Int} (h : Row w g l) (hb : Below w.heap.size w w') : Row w' g l := by
  unfold Row at *
  rw [hb.block g (Array.getElem?_eq_some_iff.1 h).1]; exact h
theorem gcd_one {x y d left : Int} (hx : 0 ≤ x) (hd : 0 < d) (hy : y = d) (hl : left = x % d) : (Int.gcd d left : Int) = Int.gcd x y := by
  subst hy hl; rw [gcd_step x y hx (by omega)]
theorem gcd_bound (d left : Int) (hd : 0 < d) (h1 : d < 18446744073709551616) : ((Int.gcd d left : Nat) : Int) < 18446744073709551616 := by
  have : Int.gcd d left ≤ d.natAbs := Nat.gcd_le_left _ (by omega)
  omega

set_option maxHeartbeats 2000000 in
set_option maxRecDepth 100000 in
theorem gcd_small (ao : Option Addr) (n c b o : Nat) (ao' : Option Addr) (n' c' b' o' : Nat) (l l' : List Int) (w : World) (hl : l.length = n) (hl' : l'.length = n') (hc : n ≤ c) (hc' : n' ≤ c') (hbig : n ≤ 1099511627776) (hbig' : n' ≤ 1099511627776)
    (wl : Words l) (wl' : Words l') (ha : At w ao b o l) (ha' : At w ao' b' o' l') (hs : (val l < val l' ∧ nlen l ≤ 1) ∨ (val l' ≤ val l ∧ nlen l' ≤ 1)) :
    Calls Tryz.prog 89 #[.slice ao n c, .slice ao' n' c'] w fun e w' => ∃ v r, e = .returned v ∧ NewV w w' v r ∧ IsN r (Int.gcd (val l) (val l') : Nat) ∧ r.length ≤ n + n' + 1 ∧ Below w.heap.size w w' := by
  have hn := nlen_le l
  have hn' := nlen_le l'
  have hnl := norm_length l
  have hnl' := norm_length l'
  have hI := isN_norm wl
  have hI' := isN_norm wl'
  have hv0 := val_nonneg wl
  have hv0' := val_nonneg wl'
  go_enter Tryz.func89, Tryz.ntmps89
  go_wp2_with fail
  refine (norm_any ao n c b o l w hl hc hbig ha).mono ?_
  rintro e w1 ⟨rfl, hr1, hb1⟩
  go_wp2_with fail
  refine (norm_any ao' n' c' b' o' l' w1 hl' hc' hbig' (ha'.keep hb1)).mono ?_
  rintro e w2 ⟨rfl, hr2, hb2⟩
  have hr1' := hr1.keep hb2
  have hz1 := hb1.size
  have hz2 := hb2.size
  have hlt1 := hr1.lt
  have hlt2 := hr2.lt
  have t1 := cmp_any (some ⟨w.heap.size, 0, none⟩) (nlen l) (nlen l) w.heap.size 0 (some ⟨w1.heap.size, 0, none⟩) (nlen l') (nlen l') w1.heap.size 0 (norm l) (norm l') w2 hnl hnl' (Nat.le_refl _) (Nat.le_refl _) (by omega) (by omega) hI.1 hI'.1 hr1'.at hr2.at
  rw [val_norm, val_norm] at t1
  have HB := hb1.trans (hb2.mono hz1)
  clear hr1
  rcases hs with ⟨hlt, h1⟩ | ⟨hge, h1⟩
  · rw [sgn_lt hlt] at t1
    have _hsk := hlt
    generalize hN1 : nlen l = N at *
    generalize hN2 : nlen l' = N' at *
    generalize norm l = L at *
    generalize norm l' = L' at *
    clear hN1 hN2
    go_wp2_with fail
    refine t1.mono ?_
    rintro e w3 ⟨rfl, hb3⟩
    have hz3 := hb3.size
    have hX := hr2.keep hb3
    have hY := hr1'.keep hb3
    have HB3 := HB.trans (hb3.mono (by omega))
    clear t1 hr1' hr2 hb3 hb2 hb1 HB
    have hgne : w.heap.size ≠ w1.heap.size := by omega
    go_wp2_with fail
    refine wp_loop_rounds 1 ?_
    rw [rounds_succ]
    by_cases h0 : N = 0
    · subst h0
      have e0 : L = [] := List.eq_nil_of_length_eq_zero hnl
      subst e0
      go_wp2
      go_ret
      refine ⟨_, L', rfl, NewV.of hnl'.symm (Nat.le_refl _) (by omega) hX.at (hX.free _ _), ?_, by omega, HB3⟩
      have hv := hI.2.2
      rw [show Lim.val [] = 0 from rfl] at hv
      rw [← hv, Int.gcd_zero_left]
      rw [Int.natAbs_of_nonneg hv0']
      exact hI'
    · have h01 : N = 1 := by omega
      subst h01
      obtain ⟨d, rfl⟩ := List.length_eq_one_iff.1 hnl
      have hdw := hI.1 d (by simp)
      have hd0 : 0 < d := by
        have h2 := hI.2.1
        by_cases c : d = 0
        · subst c; simp [nlen] at h2
        · omega
      have hv := hI.2.2
      rw [val_single] at hv
      have HV := (show Hid (d = val l) from hv)
      clear hv
      have hcd := hY.at.cell 0 (by simp)
      rw [nth_zero, Nat.add_zero] at hcd
      have hcd1 : w3.drew.cell? ⟨w.heap.size, 0, none⟩ = some (.int .u64 d) := hcd
      have tD := divideSmall_any (some ⟨w1.heap.size, 0, none⟩) w1.heap.size 0 N' N' d L' w3.drew hnl' (by omega) (Nat.le_refl _) hd0 hdw.2 hI'.1 hX.at.drew (hX.free _ _).drew
      have HX := (show Hid (Row w3 w1.heap.size L') from hX)
      clear hX hY
      go_wp2_with fail
      go_region_with (first
        | (go_at_call 127; refine tD.mono ?_; rintro e w4 ⟨left, lz, rfl, hf0, hf1, hlz, hwz, hatz, hwr, hvz⟩; have hcd4 := (hwr.other (k := w.heap.size) (i := 0) hgne).trans hcd1)
        | (go_at_call 126; refine (gcdSmall_any d left _ (by omega) (by omega) hf0 (by omega)).mono ?_; rintro e w5 ⟨rfl, nd, rfl⟩)
        | (go_at_call 23; refine (of_any _ _ (by omega) (gcd_bound d left hd0 hdw.2)).mono ?_; rintro e w6 ⟨v, r, rfl, hnew, hI6, hlen6, hb6⟩))
      all_goals go_wp2
      all_goals go_ret
      all_goals
        have hleft : left = val l' % d := by
          have hh := Int.ediv_emod_unique (a := val l') (b := d) (r := left) (q := Lim.val lz) hd0
          exact (hh.2 ⟨by rw [← hI'.2.2, ← hvz, Int.mul_comm]; omega, hf0, hf1⟩).2.symm
        have hwz4 := hwr.size
        have hsz4 : w.heap.size ≤ (w4.drewN nd).heap.size := by
          show w.heap.size ≤ w4.heap.size
          have : w3.drew.heap.size = w3.heap.size := rfl
          omega
        have HBz : Below w.heap.size w w6 := (below_drewN ((HB3.drew).trans (hwr.below (by omega))) nd).trans (hb6.mono hsz4)
        refine ⟨v, r, rfl, hnew.mono hsz4, ?_, by omega, HBz⟩
        rw [gcd_one hv0' hd0 HV.out.symm hleft] at hI6
        rw [Int.gcd_comm]; exact hI6
  · have hs0 : 0 ≤ sgn (val l) (val l') := by unfold sgn; split <;> (try split) <;> omega
    generalize sgn (val l) (val l') = sg at *
    generalize hN1 : nlen l = N at *
    generalize hN2 : nlen l' = N' at *
    generalize norm l = L at *
    generalize norm l' = L' at *
    clear hN1 hN2
    go_wp2_with fail
    refine t1.mono ?_
    rintro e w3 ⟨rfl, hb3⟩
    have hz3 := hb3.size
    have hX := hr1'.keep hb3
    have hY := hr2.keep hb3
    have HB3 := HB.trans (hb3.mono (by omega))
    clear t1 hr1' hr2 hb3 hb2 hb1 HB
    have hgne : w1.heap.size ≠ w.heap.size := by omega
    go_wp2_with fail
    refine wp_loop_rounds 1 ?_
    rw [rounds_succ]
    by_cases h0 : N' = 0
    · subst h0
      have e0 : L' = [] := List.eq_nil_of_length_eq_zero hnl'
      subst e0
      go_wp2
      go_ret
      refine ⟨_, L, rfl, NewV.of hnl.symm (Nat.le_refl _) (by omega) hX.at (hX.free _ _), ?_, by omega, HB3⟩
      have hv := hI'.2.2
      rw [show Lim.val [] = 0 from rfl] at hv
      rw [← hv, Int.gcd_zero_right]
      rw [Int.natAbs_of_nonneg hv0]
      exact hI
    · have h01 : N' = 1 := by omega
      subst h01
      obtain ⟨d, rfl⟩ := List.length_eq_one_iff.1 hnl'
      have hdw := hI'.1 d (by simp)
      have hd0 : 0 < d := by
        have h2 := hI'.2.1
        by_cases c : d = 0
        · subst c; simp [nlen] at h2
        · omega
      have hv := hI'.2.2
      rw [val_single] at hv
      have HV := (show Hid (d = val l') from hv)
      clear hv
      have hcd := hY.at.cell 0 (by simp)
      rw [nth_zero, Nat.add_zero] at hcd
      have hcd1 : w3.drew.cell? ⟨w1.heap.size, 0, none⟩ = some (.int .u64 d) := hcd
      have tD := divideSmall_any (some ⟨w.heap.size, 0, none⟩) w.heap.size 0 N N d L w3.drew hnl (by omega) (Nat.le_refl _) hd0 hdw.2 hI.1 hX.at.drew (hX.free _ _).drew
      have HX := (show Hid (Row w3 w.heap.size L) from hX)
      clear hX hY
      go_wp2_with fail
      go_region_with (first
        | (go_at_call 127; refine tD.mono ?_; rintro e w4 ⟨left, lz, rfl, hf0, hf1, hlz, hwz, hatz, hwr, hvz⟩; have hcd4 := (hwr.other (k := w1.heap.size) (i := 0) hgne).trans hcd1)
        | (go_at_call 126; refine (gcdSmall_any d left _ (by omega) (by omega) hf0 (by omega)).mono ?_; rintro e w5 ⟨rfl, nd, rfl⟩)
        | (go_at_call 23; refine (of_any _ _ (by omega) (gcd_bound d left hd0 hdw.2)).mono ?_; rintro e w6 ⟨v, r, rfl, hnew, hI6, hlen6, hb6⟩))
      all_goals go_wp2
      all_goals go_ret
      all_goals
        have hleft : left = val l % d := by
          have hh := Int.ediv_emod_unique (a := val l) (b := d) (r := left) (q := Lim.val lz) hd0
          exact (hh.2 ⟨by rw [← hI.2.2, ← hvz, Int.mul_comm]; omega, hf0, hf1⟩).2.symm
        have hwz4 := hwr.size
        have hsz4 : w.heap.size ≤ (w4.drewN nd).heap.size := by
          show w.heap.size ≤ w4.heap.size
          have : w3.drew.heap.size = w3.heap.size := rfl
          omega
        have HBz : Below w.heap.size w w6 := (below_drewN ((HB3.drew).trans (hwr.below (by omega))) nd).trans (hb6.mono hsz4)
        refine ⟨v, r, rfl, hnew.mono hsz4, ?_, by omega, HBz⟩
        rw [gcd_one hv0 hd0 HV.out.symm hleft] at hI6
        exact hI6
end Go.Proofs.YtjihgkanbhccpaaGreatDoor

namespace Go.Proofs.YtjihgkanbhccpaaGreatDoor
open Go.RowKit Lim

def sgO (odd : Bool) : Int := if odd then -1 else 1

/-- what several of Euclid's steps with the highest bits have made of x0 and y0 -/
structure Fore (x0 y0 x y px qx py qy : Int) (odd : Bool) : Prop where
  y0' : 0 ≤ y
  yx : y ≤ x
  px0 : 0 ≤ px
  qx0 : 0 ≤ qx
  py0 : 0 ≤ py
  qy1 : 1 ≤ qy
  e1 : x * qy + y * qx = x0
  e2 : x * py + y * px = y0
  det : px * qy - qx * py = sgO odd
  l1 : py ≤ qy
  l2 : px + py ≤ qx + qy
  l3 : qx ≤ qy
  l4 : px ≤ qy
  full : ∀ X Y K a b : Int, X = x0 * K + a → Y = y0 * K + b → 0 ≤ a → a < K → 0 ≤ b → b < K → 0 ≤ sgO odd * (qy * Y - py * X) ∧ sgO odd * (qy * Y - py * X) ≤ Y ∧ Int.gcd (sgO odd * (px * X - qx * Y)) (sgO odd * (qy * Y - py * X)) = Int.gcd X Y ∧ (qx = 0 ∨ (sgO odd * (qy * Y - py * X) < sgO odd * (px * X - qx * Y) ∧ sgO odd * (px * X - qx * Y) ≤ Y))

theorem Fore.start {x0 y0 : Int} (h0 : 0 ≤ y0) (h1 : y0 ≤ x0) : Fore x0 y0 x0 y0 1 0 0 1 false := by
  refine ⟨h0, h1, by decide, by decide, by decide, by decide, by omega, by omega, by decide, by decide, by decide, by decide, by decide, ?_⟩
  intro X Y K a b hX hY a0 a1 b0 b1
  have hK : 0 ≤ y0 * K := Int.mul_nonneg h0 (by omega)
  simp [sgO]
  omega

theorem sgO_cases (odd : Bool) : (sgO odd = 1 ∧ sgO (!odd) = -1) ∨ (sgO odd = -1 ∧ sgO (!odd) = 1) := by
  cases odd <;> decide

theorem Fore.bounds {x0 y0 x y px qx py qy : Int} {odd : Bool} (h : Fore x0 y0 x y px qx py qy odd) (hy : 0 < y) :
    0 ≤ x / y ∧ 1 ≤ x / y ∧ 0 ≤ x % y ∧ x % y < y ∧ 0 ≤ x / y * py ∧ 0 ≤ x / y * qy ∧ px + x / y * py ≤ qx + x / y * qy ∧ qx + x / y * qy ≤ x0 ∧ (qx + x / y * qy ≤ x % y → qx + x / y * qy + qy ≤ x0) ∧ y ≤ x0 ∧ x / y ≤ x0 ∧ x ≤ x0 := by
  have hx := h.yx
  have x1 : x * 1 ≤ x * qy := Int.mul_le_mul_of_nonneg_left h.qy1 (by omega)
  have x2 : 0 ≤ y * qx := Int.mul_nonneg (by omega) h.qx0
  have x3 := h.e1
  have x4 : x / y ≤ x := Int.ediv_le_self y (by omega)
  have t1 : 1 ≤ x / y := by
    rw [Int.le_ediv_iff_mul_le hy]; omega
  have r0 := Int.emod_nonneg x (show y ≠ 0 by omega)
  have r1 := Int.emod_lt_of_pos x hy
  have ex := Int.mul_ediv_add_emod x y
  generalize x / y = t at *
  generalize x % y = r at *
  have p1 := Int.mul_nonneg (show 0 ≤ t by omega) h.py0
  have hq := h.qy1
  have hq0 := h.qx0
  have q1 := Int.mul_nonneg (show 0 ≤ t by omega) (show 0 ≤ qy by omega)
  have d1 : 1 * (qy - py) ≤ t * (qy - py) := Int.mul_le_mul_of_nonneg_right t1 (by have := h.l1; omega)
  rw [Int.mul_sub, Int.mul_sub] at d1
  have l2 := h.l2
  have e1 := h.e1
  have e : y * (qx + t * qy) + r * qy = x0 := by rw [← e1, ← ex]; grind
  have m1 : 1 * (qx + t * qy) ≤ y * (qx + t * qy) := Int.mul_le_mul_of_nonneg_right (by omega) (by omega)
  have m2 : 0 ≤ r * qy := Int.mul_nonneg r0 (by omega)
  have m4 : y * 1 ≤ y * (qx + t * qy) := Int.mul_le_mul_of_nonneg_left (by
    have : 1 * 1 ≤ t * qy := Int.mul_le_mul t1 hq (by decide) (by omega)
    omega) (by omega)
  refine ⟨by omega, t1, r0, r1, p1, q1, by omega, by omega, fun hr => ?_, by omega, by omega, by omega⟩
  have hpos : 1 ≤ qx + t * qy := by
    have : 1 * 1 ≤ t * qy := Int.mul_le_mul t1 hq (by decide) (by omega)
    omega
  have m3 : 1 * qy ≤ r * qy := Int.mul_le_mul_of_nonneg_right (by omega) (by omega)
  omega

theorem Fore.step {x0 y0 x y px qx py qy : Int} {odd : Bool} (h : Fore x0 y0 x y px qx py qy odd) (hy : 0 < y) (c1 : qx + x / y * qy ≤ x % y) (c2 : qx + x / y * qy + qy ≤ y - x % y) :
    Fore x0 y0 y (x % y) py qy (px + x / y * py) (qx + x / y * qy) (!odd) := by
  obtain ⟨t0, t1, r0, r1, p1, q1, pq, -, -, -, -⟩ := h.bounds hy
  have ex := Int.mul_ediv_add_emod x y
  generalize x / y = t at *
  generalize x % y = r at *
  obtain ⟨hy0, hyx, hpx, hqx, hpy, hqy, e1, e2, det, l1, l2, l3, l4, full⟩ := h
  have tq : 1 * qy ≤ t * qy := Int.mul_le_mul_of_nonneg_right t1 (by omega)
  refine ⟨r0, by omega, hpy, by omega, by omega, ?_, ?_, ?_, ?_, pq, by omega, by omega, by omega, ?_⟩
  · have : 1 * 1 ≤ t * qy := Int.mul_le_mul t1 hqy (by decide) (by omega)
    omega
  · rw [← e1, ← ex]; grind
  · rw [← e2, ← ex]; grind
  · rcases sgO_cases odd with ⟨s1, s2⟩ | ⟨s1, s2⟩ <;> rw [s1] at det <;> rw [s2] <;> grind
  · intro X Y K a b hX hY a0 a1 b0 b1
    obtain ⟨f1, f2, f3, f4⟩ := full X Y K a b hX hY a0 a1 b0 b1
    have E1 : sgO (!odd) * (py * X - qy * Y) = sgO odd * (qy * Y - py * X) := by
      rcases sgO_cases odd with ⟨s1, s2⟩ | ⟨s1, s2⟩ <;> rw [s1, s2] <;> grind
    have E2 : sgO (!odd) * ((qx + t * qy) * Y - (px + t * py) * X) = sgO odd * (px * X - qx * Y) - t * (sgO odd * (qy * Y - py * X)) := by
      rcases sgO_cases odd with ⟨s1, s2⟩ | ⟨s1, s2⟩ <;> rw [s1, s2] <;> grind
    have F1 : sgO odd * (px * X - qx * Y) = x * K + sgO odd * (px * a - qx * b) := by
      rcases sgO_cases odd with ⟨s1, s2⟩ | ⟨s1, s2⟩ <;> rw [s1] at det <;> rw [s1, hX, hY, ← e1, ← e2] <;> grind
    have F2 : sgO odd * (qy * Y - py * X) = y * K + sgO odd * (qy * b - py * a) := by
      rcases sgO_cases odd with ⟨s1, s2⟩ | ⟨s1, s2⟩ <;> rw [s1] at det <;> rw [s1, hX, hY, ← e1, ← e2] <;> grind
    have G : sgO odd * (px * X - qx * Y) - t * (sgO odd * (qy * Y - py * X)) = r * K + sgO odd * ((px + t * py) * a - (qx + t * qy) * b) := by
      rw [F1, F2, ← ex]; grind
    rw [E1, E2]
    have hq' : 0 ≤ qx + t * qy := by omega
    have hp' : 0 ≤ px + t * py := by omega
    generalize hP : px + t * py = p at *
    generalize hQ : qx + t * qy = q at *
    have k1 : q * b ≤ q * K := Int.mul_le_mul_of_nonneg_left (by omega) hq'
    have k2 : p * a ≤ p * K := Int.mul_le_mul_of_nonneg_left (by omega) hp'
    have k3 : p * K ≤ q * K := Int.mul_le_mul_of_nonneg_right pq (by omega)
    have k4 : q * K ≤ r * K := Int.mul_le_mul_of_nonneg_right c1 (by omega)
    have k5 : 0 ≤ p * a := Int.mul_nonneg hp' a0
    have k6 : 0 ≤ q * b := Int.mul_nonneg hq' b0
    have j1 : (q + qy) * K ≤ (y - r) * K := Int.mul_le_mul_of_nonneg_right c2 (by omega)
    have j2 : (q + qy) * b + 1 ≤ (q + qy) * K := by
      have : (q + qy) * (b + 1) ≤ (q + qy) * K := Int.mul_le_mul_of_nonneg_left (by omega) (by omega)
      rw [Int.mul_add] at this; omega
    have j3 : (p + py) * a ≤ (q + qy) * a := Int.mul_le_mul_of_nonneg_right (by omega) a0
    have j4 : (q + qy) * a + 1 ≤ (q + qy) * K := by
      have : (q + qy) * (a + 1) ≤ (q + qy) * K := Int.mul_le_mul_of_nonneg_left (by omega) (by omega)
      rw [Int.mul_add] at this; omega
    have j5 : 0 ≤ (q + qy) * b := Int.mul_nonneg (by omega) b0
    have j6 : 0 ≤ (p + py) * a := Int.mul_nonneg (by omega) a0
    have hgcd : Int.gcd (sgO odd * (qy * Y - py * X)) (sgO odd * (px * X - qx * Y) - t * (sgO odd * (qy * Y - py * X))) = Int.gcd X Y := by
      rw [Int.gcd_sub_mul_right_right, Int.gcd_comm]; exact f3
    have key : 0 ≤ sgO odd * (px * X - qx * Y) - t * (sgO odd * (qy * Y - py * X)) ∧ sgO odd * (px * X - qx * Y) - t * (sgO odd * (qy * Y - py * X)) < sgO odd * (qy * Y - py * X) := by
      rw [G, F2]
      rw [Int.sub_mul] at j1
      rcases sgO_cases odd with ⟨s1, s2⟩ | ⟨s1, s2⟩ <;> rw [s1]
      · have d1 : y * K + 1 * (qy * b - py * a) - (r * K + 1 * (p * a - q * b)) = y * K - r * K + (q + qy) * b - (p + py) * a := by grind
        constructor <;> omega
      · have d1 : y * K + -1 * (qy * b - py * a) - (r * K + -1 * (p * a - q * b)) = y * K - r * K + (p + py) * a - (q + qy) * b := by grind
        constructor <;> omega
    exact ⟨key.1, by omega, hgcd, .inr ⟨key.2, f2⟩⟩

theorem Fore.small {x0 y0 x y px qx py qy : Int} {odd : Bool} (h : Fore x0 y0 x y px qx py qy odd) (h0 : 0 < x0) : px ≤ x0 ∧ qx ≤ x0 ∧ py ≤ x0 ∧ qy ≤ x0 := by
  have e := h.e1
  have k1 := h.y0'
  have k2 := h.yx
  have k3 := h.qx0
  have k4 := h.qy1
  have k5 := h.l1
  have k6 := h.l3
  have k7 := h.l4
  have hx : 1 ≤ x := by
    by_cases c : 1 ≤ x
    · exact c
    · have : x = 0 := by omega
      have : y = 0 := by omega
      subst_vars
      simp at h0
  have m1 : 1 * qy ≤ x * qy := Int.mul_le_mul_of_nonneg_right hx (by omega)
  have m2 := Int.mul_nonneg k1 k3
  omega
theorem Fore.odd_out {x0 y0 x y px qx py qy X Y K a b : Int} (h : Fore x0 y0 x y px qx py qy true) (hX : X = x0 * K + a) (hY : Y = y0 * K + b) (a0 : 0 ≤ a) (a1 : a < K) (b0 : 0 ≤ b) (b1 : b < K) (hq : qx ≠ 0) :
    X * px ≤ Y * qx ∧ Y * qy ≤ X * py ∧ Int.gcd (Y * qx - X * px) (X * py - Y * qy) = Int.gcd X Y ∧ X * py - Y * qy < Y * qx - X * px ∧ Y * qx - X * px ≤ Y := by
  obtain ⟨f1, f2, f3, f4⟩ := h.full X Y K a b hX hY a0 a1 b0 b1
  rw [show sgO true * (qy * Y - py * X) = X * py - Y * qy by simp only [sgO]; grind] at f1 f2 f3 f4
  rw [show sgO true * (px * X - qx * Y) = Y * qx - X * px by simp only [sgO]; grind] at f3 f4
  rcases f4 with e | ⟨f4, f5⟩
  · exact absurd e hq
  · exact ⟨by omega, by omega, f3, f4, f5⟩
theorem Fore.even_out {x0 y0 x y px qx py qy X Y K a b : Int} (h : Fore x0 y0 x y px qx py qy false) (hX : X = x0 * K + a) (hY : Y = y0 * K + b) (a0 : 0 ≤ a) (a1 : a < K) (b0 : 0 ≤ b) (b1 : b < K) (hq : qx ≠ 0) :
    Y * qx ≤ X * px ∧ X * py ≤ Y * qy ∧ Int.gcd (X * px - Y * qx) (Y * qy - X * py) = Int.gcd X Y ∧ Y * qy - X * py < X * px - Y * qx ∧ X * px - Y * qx ≤ Y := by
  obtain ⟨f1, f2, f3, f4⟩ := h.full X Y K a b hX hY a0 a1 b0 b1
  rw [show sgO false * (qy * Y - py * X) = Y * qy - X * py by simp only [sgO]; grind] at f1 f2 f3 f4
  rw [show sgO false * (px * X - qx * Y) = X * px - Y * qx by simp only [sgO]; grind] at f3 f4
  rcases f4 with e | ⟨f4, f5⟩
  · exact absurd e hq
  · exact ⟨by omega, by omega, f3, f4, f5⟩
theorem info_steps : (Tryz.prog.info? 158).map (·.size) = some 5 := by kernel_rfl
theorem under_steps : ∃ f, Tryz.prog.underlying 158 = some (.struct f) := by
  cases h : Tryz.prog.underlying 158 with
  | none => exact absurd h (by have : (Tryz.prog.underlying 158).isSome = true := by kernel_rfl
                               intro e; rw [e] at this; simp at this)
  | some d =>
    have : (match Tryz.prog.underlying 158 with | some (.struct _) => true | _ => false) = true := by kernel_rfl
    rw [h] at this
    cases d <;> first | exact ⟨_, rfl⟩ | simp at this
/-- a struct that lies in a block of its own, as a function's one result -/
theorem ret_row {fn : Func} {p : Tmp} {t : TypeId} {cs : Array Value} (h : fn.results = #[.cell p t]) {tmps : Array Value} {w : World} {g : Nat} (hp : tmps.getD p undef = .pointer (some ⟨g, 0, none⟩)) (hb : w.heap[g]? = some (.cells cs t (0, 0)))
    (hu : ∃ f, Tryz.prog.underlying t = some (.struct f)) (hi : (Tryz.prog.info? t).map (·.size) = some cs.size) : (results fn tmps).run Tryz.prog w = .ok (.agg cs) w := by
  have hp' : tmps[p]?.getD undef = .pointer (some ⟨g, 0, none⟩) := by simpa using hp
  obtain ⟨f, hu⟩ := hu
  have hl := run_loadVar_row (P := Tryz.prog) w g t t cs (0, 0) _ hb hu rfl hi
  simp [results, h, hp', asAddr, hl]
theorem heap_alloc2 (w : World) (o o' : Obj) : ((w.alloc o).alloc o').heap[w.heap.size]? = some o := by
  show ((w.heap.push o).push o')[w.heap.size]? = some o
  rw [Array.getElem?_push, if_neg (by simp), Array.getElem?_push_size]
theorem below_two {w W : World} (h : Below w.heap.size w W) (o o' : Obj) : Below w.heap.size w ((W.alloc o).alloc o') :=
  (h.alloc h.size o).alloc (Nat.le_trans h.size (by simp)) o'
theorem drew_more {w W : World} (h : Hid (∃ n, W = w.drewN n)) (k : Nat) : Hid (∃ n, W.drewN k = w.drewN n) := by
  obtain ⟨n, rfl⟩ := h.out
  exact ⟨n + k, World.drewN_drewN _ _ _⟩
theorem drewN_out (W : World) (A C : Obj) (k : Nat) : ((W.alloc A).alloc C).drewN k = ((W.drewN k).alloc A).alloc C := rfl

structure ForeEnd (x0 y0 : Int) (w : World) (e : Ending) (w' : World) : Prop where
  ex : ∃ (x y px qx py qy : Int) (odd : Bool), e = .returned (.agg #[.int .u64 px, .int .u64 qx, .int .u64 py, .int .u64 qy, .bool odd]) ∧ Fore x0 y0 x y px qx py qy odd ∧ Below w.heap.size w w'
structure ForeIn (x0 y0 : Int) (w : World) (tx ty : Value) (wr : World) : Prop where
  ex : ∃ (x y px qx py qy : Int) (odd : Bool) (n : Nat), tx = .int .u64 x ∧ ty = .int .u64 y ∧ Fore x0 y0 x y px qx py qy odd ∧ wr = ((w.drewN n).alloc (.cells #[.int .u64 0, .int .u64 0, .int .u64 0, .int .u64 0, .bool false] 158)).alloc (.cells #[.int .u64 px, .int .u64 qx, .int .u64 py, .int .u64 qy, .bool odd] 158)
set_option maxHeartbeats 2000000 in
set_option maxRecDepth 100000 in
theorem foresee_any (x0 y0 : Int) (w : World) (hy : 0 ≤ y0) (hyx : y0 ≤ x0) (hx : x0 < 18446744073709551616) :
    Calls Tryz.prog 163 #[.int .u64 x0, .int .u64 y0] w (ForeEnd x0 y0 w) := by
  go_enter Tryz.func163, Tryz.ntmps163
  go_wp2
  go_loopw [0, 1] (fun tx ty wr => ForeIn x0 y0 w tx ty wr) (fun _ ty _ => (intOf ty).toNat)
  case atStart => exact ⟨x0, y0, 1, 0, 0, 1, false, 0, rfl, rfl, Fore.start hy hyx, rfl⟩
  case round =>
    obtain ⟨x, y, px, qx, py, qy, odd, n, rfl, rfl, hF, rfl⟩ := hrel.ex
    have hWs : w.heap.size = (w.drewN n).heap.size := rfl
    rw [hWs]
    have hWb : Below w.heap.size w (w.drewN n) := below_drewN (Below.refl _ _) n
    have hWe : Hid (∃ n', w.drewN n = w.drewN n') := ⟨n, rfl⟩
    generalize w.drewN n = W at *
    have hWh : Hid (w.heap.size = W.heap.size) := hWs
    clear hWs
    have hy0 := hF.y0'
    by_cases hb : y = 0
    · subst hb
      go_wp2
      refine bodyPost_ret (ret_row rfl rfl (heap_alloc2 _ _ _) under_steps info_steps) rfl ?_
      exact ⟨x, 0, px, qx, py, qy, odd, rfl, hF, below_two hWb _ _⟩
    · have hb' : (y != 0) = true := by rw [bne_iff_ne]; exact hb
      have hb2 : (y == 0) = false := beq_eq_false_iff_ne.2 hb
      obtain ⟨t0, t1, r0, r1, p1, q1, pq, qb, qqb, yb, tb, xb⟩ := hF.bounds (by omega)
      have hST := fun c1 c2 => hF.step (by omega) c1 c2
      have hpx := hF.px0
      have hqx := hF.qx0
      have hqy := hF.qy1
      have hpy := hF.py0
      have hyx2 := hF.yx
      have hx0' : 0 ≤ x := by omega
      obtain ⟨t, ht⟩ : ∃ t, x / y = t := ⟨_, rfl⟩
      obtain ⟨r, hr⟩ : ∃ r, x % y = r := ⟨_, rfl⟩
      simp only [ht, hr] at t0 t1 r0 r1 p1 q1 pq qb qqb tb hST
      go_wp2_with fail
      go_quiet (fail)
      rw [ht, hr, drewN_out, show W.heap.size = (W.drewN nq).heap.size from rfl]
      replace hWb := below_drewN hWb nq
      replace hWe := drew_more hWe nq
      generalize W.drewN nq = W1 at *
      have hbp : 0 ≤ t * py ∧ t * py < 18446744073709551616 := by omega
      have hbq : 0 ≤ t * qy ∧ t * qy < 18446744073709551616 := by omega
      have hbp2 : 0 ≤ px + t * py ∧ px + t * py < 18446744073709551616 := by omega
      have hbq2 : 0 ≤ qx + t * qy ∧ qx + t * qy < 18446744073709551616 := by omega
      go_wp2_with fail
      go_quiet (fail)
      rw [drewN_out, show W1.heap.size = (W1.drewN nq).heap.size from rfl]
      replace hWb := below_drewN hWb nq
      replace hWe := drew_more hWe nq
      have hk2 : w.heap.size ≤ w.heap.size := Nat.le_refl _
      generalize hW2 : W1.drewN nq = W2 at *
      obtain ⟨p, hp⟩ : ∃ p, px + t * py = p := ⟨_, rfl⟩
      obtain ⟨q, hq⟩ : ∃ q, qx + t * qy = q := ⟨_, rfl⟩
      rw [hp, hq]
      simp only [hp, hq] at hST pq qb qqb hbp2 hbq2
      clear hp hq ht hr hW2 hbp hbq hk2
      by_cases c1 : r < q
      · have c1' : decide (r < q) = true := decide_eq_true c1
        go_wp2
        refine bodyPost_ret (ret_row rfl rfl (heap_alloc2 _ _ _) under_steps info_steps) rfl ?_
        exact ⟨x, y, px, qx, py, qy, odd, rfl, hF, below_two hWb _ _⟩
      · have c1' : decide (r < q) = false := decide_eq_false c1
        have hqq := qqb (by omega)
        have hs1 : 0 ≤ y - r ∧ y - r < 18446744073709551616 := by omega
        have hs2 : 0 ≤ q + qy ∧ q + qy < 18446744073709551616 := by omega
        by_cases c2 : y - r < q + qy
        · have c2' : decide (y - r < q + qy) = true := decide_eq_true c2
          go_wp2
          refine bodyPost_ret (ret_row rfl rfl (heap_alloc2 _ _ _) under_steps info_steps) rfl ?_
          exact ⟨x, y, px, qx, py, qy, odd, rfl, hF, below_two hWb _ _⟩
        · have c2' : decide (y - r < q + qy) = false := decide_eq_false c2
          go_wp2
          obtain ⟨n', rfl⟩ := hWe.out
          exact ⟨⟨_, _, ⟨y, r, py, qy, p, q, !odd, n', rfl, rfl, hST (by omega) (by omega), rfl⟩, rfl, rfl, hWh.out⟩, by simp [intOf]; omega⟩
end Go.Proofs.YtjihgkanbhccpaaGreatDoor

namespace Go.Proofs.YtjihgkanbhccpaaGreatDoor
open Go.RowKit Lim

theorem two_split {s : Nat} (hs : s ≤ 64) : (18446744073709551616 : Int) = 2 ^ s * 2 ^ (64 - s) := by
  rw [← Int.pow_add, show s + (64 - s) = 64 by omega]; rfl
theorem high_val {l : List Int} (wl : Words l) {k s : Nat} (hl : l.length ≤ k + 2) (hs : s ≤ 63) :
    ∃ a, val l = (nth l (k + 1) * 2 ^ s + nth l k / 2 ^ (64 - s)) * (18446744073709551616 ^ k * 2 ^ (64 - s)) + a ∧ 0 ≤ a ∧ a < 18446744073709551616 ^ k * 2 ^ (64 - s) := by
  have hD : (0 : Int) < 2 ^ (64 - s) := Int.pow_pos (by decide)
  have hB := pow_pos k
  have hS := two_split (s := s) (by omega)
  have e1 : val l = val (l.take k) + 18446744073709551616 ^ k * (nth l k + 18446744073709551616 * nth l (k + 1)) := by
    by_cases c : l.length ≤ k
    · rw [List.take_of_length_le c, nth_ge c, nth_ge (by omega)]; simp
    · rw [val_split l k (by omega), val_drop (by omega)]
      by_cases c2 : l.length ≤ k + 1
      · rw [List.drop_of_length_le c2, nth_ge c2]; rfl
      · rw [val_drop (by omega), List.drop_of_length_le (show l.length ≤ k + 1 + 1 by omega)]
        simp [val]
  have hm := Int.mul_ediv_add_emod (nth l k) (2 ^ (64 - s))
  have r0 := Int.emod_nonneg (nth l k) (show (2 : Int) ^ (64 - s) ≠ 0 by omega)
  have r1 := Int.emod_lt_of_pos (nth l k) hD
  have h0 := val_nonneg (wl.take k)
  have h1 := val_lt (wl.take k)
  have h2 : val (l.take k) < 18446744073709551616 ^ k := Int.lt_of_lt_of_le h1 (pow_mono (by simp; omega))
  refine ⟨val (l.take k) + 18446744073709551616 ^ k * (nth l k % 2 ^ (64 - s)), ?_, ?_, ?_⟩
  · rw [e1]
    generalize nth l k / 2 ^ (64 - s) = q at *
    generalize nth l k % 2 ^ (64 - s) = r at *
    rw [← hm]
    generalize (18446744073709551616 : Int) ^ k = Bk at *
    rw [hS]
    grind
  · have := Int.mul_nonneg (Int.le_of_lt hB) r0; omega
  · have : 18446744073709551616 ^ k * (nth l k % 2 ^ (64 - s) + 1) ≤ 18446744073709551616 ^ k * 2 ^ (64 - s) := Int.mul_le_mul_of_nonneg_left (by omega) (Int.le_of_lt hB)
    rw [Int.mul_add] at this
    omega
theorem high_or {h l : Int} {s : Nat} (hs : s ≤ 63) (h0 : 0 ≤ h) (h1 : h * 2 ^ s < 18446744073709551616) (l0 : 0 ≤ l) (l1 : l < 18446744073709551616) :
    bits .or .u64 (h * 2 ^ s) (l / 2 ^ (64 - s)) = h * 2 ^ s + l / 2 ^ (64 - s) ∧ 0 ≤ h * 2 ^ s + l / 2 ^ (64 - s) ∧ h * 2 ^ s + l / 2 ^ (64 - s) < 18446744073709551616 := by
  have hD : (0 : Int) < 2 ^ (64 - s) := Int.pow_pos (by decide)
  have hP : (0 : Int) < 2 ^ s := Int.pow_pos (by decide)
  have hS := two_split (s := s) (by omega)
  have q0 : 0 ≤ l / 2 ^ (64 - s) := Int.ediv_nonneg l0 (Int.le_of_lt hD)
  have q1 : l / 2 ^ (64 - s) < 2 ^ s := by
    rw [Int.ediv_lt_iff_lt_mul hD, ← hS]; exact l1
  have m0 : 0 ≤ h * 2 ^ s := Int.mul_nonneg h0 (Int.le_of_lt hP)
  have hP2 : (2 : Int) ^ s < 2 ^ 64 := by
    have : (2 : Nat) ^ s < 2 ^ 64 := Nat.pow_lt_pow_right (by decide) (by omega)
    exact_mod_cast this
  have h2 : (h + 1) * 2 ^ s ≤ 18446744073709551616 := by
    rw [hS, Int.mul_comm (2 ^ s)] at h1 ⊢
    have := le_of_mul_lt hP h1
    exact Int.mul_le_mul_of_nonneg_right (by omega) (Int.le_of_lt hP)
  rw [Int.add_mul] at h2
  refine ⟨?_, by omega, by omega⟩
  exact or_add _ _ s h rfl h0 (by omega) q0 q1 (by omega)
theorem top_le {l l' : List Int} (wl : Words l) (wl' : Words l') {k : Nat} (hl : l.length = k + 2) (hl' : l'.length ≤ k + 2) (h : val l' ≤ val l) : nth l' (k + 1) ≤ nth l (k + 1) := by
  by_cases c : l'.length ≤ k + 1
  · rw [nth_ge c]; exact (wl.nth _).1
  · have t1 := (top1 (n := k + 1) wl' (by omega)).1
    have t2 := (top1 (n := k + 1) wl (by omega)).2
    have := le_of_mul_lt (pow_pos (k + 1)) (show nth l' (k + 1) * 18446744073709551616 ^ (k + 1) < (nth l (k + 1) + 1) * 18446744073709551616 ^ (k + 1) by omega)
    omega

set_option maxHeartbeats 2000000 in
set_option maxRecDepth 100000 in
theorem highBits_any (ao : Option Addr) (n c b o k s : Nat) (l : List Int) (w : World) (hl : l.length = n) (hbig : n ≤ 2199023255552) (hk : k ≤ 2199023255552) (wl : Words l) (ha : At w ao b o l) (hs : s ≤ 63) (h1 : nth l (k + 1) * 2 ^ s < 18446744073709551616) :
    Calls Tryz.prog 164 #[.slice ao n c, .int .i64 ((k : Int) + 2), .int .i64 s] w fun e w' => e = .returned (.int .u64 (nth l (k + 1) * 2 ^ s + nth l k / 2 ^ (64 - s))) ∧ Below w.heap.size w w' := by
  obtain ⟨o1, o2, o3⟩ := high_or hs (wl.nth (k + 1)).1 h1 (wl.nth k).1 (wl.nth k).2
  have hP : (0 : Int) < 2 ^ s := Int.pow_pos (by decide)
  have m0 : 0 ≤ nth l (k + 1) * 2 ^ s := Int.mul_nonneg (wl.nth _).1 (Int.le_of_lt hP)
  have hb64 : (64 : Int) - s = ((64 - s : Nat) : Int) := by omega
  have w1 := wl.nth (k + 1)
  have w2 := wl.nth k
  have hi1 : ((k : Int) + 2) - 1 = (k : Int) + 1 := by omega
  have hi2 : ((k : Int) + 2) - 2 = (k : Int) := by omega
  go_enter Tryz.func164, Tryz.ntmps164
  generalize hkk : ((k : Int) + 2) = kk at *
  clear hkk
  by_cases c2 : k + 1 < n
  · rcases ha.loc with e | rfl
    · subst e; simp at hl; omega
    have c1 : k < n := by omega
    have z1 := ha.cell (k + 1) (by omega)
    have z2 := ha.cell k (by omega)
    clear ha wl
    generalize nth l (k + 1) = x at *
    generalize nth l k = y at *
    go_wp2_with fail
    go_quiet (fail)
    go_wp2
    go_ret
    exact ⟨rfl, below_drewN (Below.refl _ _) _⟩
  · have e1 : nth l (k + 1) = 0 := nth_ge (by omega)
    by_cases c1 : k < n
    · rcases ha.loc with e | rfl
      · subst e; simp at hl; omega
      have z2 := ha.cell k (by omega)
      clear ha wl
      simp only [e1, Int.zero_mul] at o1 o2 o3 m0 h1 w1 ⊢
      generalize nth l k = y at *
      go_wp2_with fail
      go_quiet (fail)
      go_wp2
      go_ret
      exact ⟨ret1 (Int.zero_add _).symm, below_drewN (Below.refl _ _) _⟩
    · have e2 : nth l k = 0 := nth_ge (by omega)
      clear ha wl
      simp only [e1, e2, Int.zero_mul, Int.zero_ediv] at o1 o2 o3 m0 h1 w1 w2 ⊢
      go_wp2_with fail
      go_quiet (fail)
      go_wp2
      go_ret
      exact ⟨ret1 o1, below_drewN (Below.refl _ _) _⟩

theorem val_zero_list (n : Nat) : val (List.replicate n 0) = 0 := val_zeros fun i => by
  by_cases h : i < n
  · rw [nth_eq (by simpa using h)]; simp
  · exact nth_ge (by simp; omega)
theorem differ_fin {lx ly lz : List Int} {a m n owed : Int} {N : Nat} (wx : Words lx) (hx : lx.length ≤ N) (m0 : 0 ≤ m) (m1 : m < 18446744073709551616) (ha : a = (0 + val lx * m) % 18446744073709551616 ^ (N + 1)) (hge : val ly * n ≤ val lx * m) (wz : Words lz) (hl : lz.length = N + 1) (o0 : 0 ≤ owed)
    (hv : val lz = a - val ly * n + 18446744073709551616 ^ (N + 1) * owed) : IsN (norm lz) (val lx * m - val ly * n) := by
  have h1 := val_lt wx
  have h2 := val_nonneg wx
  have h3 : val lx < 18446744073709551616 ^ N := Int.lt_of_lt_of_le h1 (pow_mono hx)
  have h4 : val lx * m ≤ val lx * 18446744073709551616 := Int.mul_le_mul_of_nonneg_left (by omega) h2
  have h5 : (18446744073709551616 : Int) ^ (N + 1) = 18446744073709551616 ^ N * 18446744073709551616 := Int.pow_succ _ _
  have h6 := Int.mul_nonneg h2 m0
  rw [Int.zero_add, Int.emod_eq_of_lt h6 (by omega)] at ha
  have h7 := val_lt wz
  have h8 := val_nonneg wz
  rw [hl] at h7
  have hp := pow_pos (N + 1)
  have ho : owed = 0 := by
    by_cases h : 0 < owed
    · have : 18446744073709551616 ^ (N + 1) * 1 ≤ 18446744073709551616 ^ (N + 1) * owed := Int.mul_le_mul_of_nonneg_left (by omega) (Int.le_of_lt hp)
      omega
    · omega
  subst ho
  rw [show val lx * m - val ly * n = val lz by rw [hv, ha]; simp]
  exact isN_norm wz

set_option maxHeartbeats 2000000 in
set_option maxRecDepth 100000 in
theorem differ_any (ao : Option Addr) (n c b o : Nat) (ao' : Option Addr) (n' c' b' o' : Nat) (l l' : List Int) (m m' : Int) (w : World) (hl : l.length = n) (hl' : l'.length = n') (hc : n ≤ c) (hc' : n' ≤ c') (hbig : n ≤ 1099511627776) (hbig' : n' ≤ 1099511627776)
    (wl : Words l) (wl' : Words l') (ha : At w ao b o l) (ha' : At w ao' b' o' l') (m0 : 0 ≤ m) (m1 : m < 18446744073709551616) (m0' : 0 ≤ m') (m1' : m' < 18446744073709551616) (hge : val l' * m' ≤ val l * m) :
    Calls Tryz.prog 165 #[.slice ao n c, .slice ao' n' c', .int .u64 m, .int .u64 m'] w fun e w' => ∃ v r, e = .returned v ∧ NewV w w' v r ∧ IsN r (val l * m - val l' * m') ∧ Below w.heap.size w w' := by
  have HM : Hid (∃ N, n ≤ N ∧ n' ≤ N ∧ N ≤ 1099511627776 ∧ ((N = n' ∧ n < n') ∨ (N = n ∧ n' ≤ n))) := by
    rcases Nat.lt_or_ge n n' with h | h
    · exact ⟨n', by omega, by omega, by omega, .inl ⟨rfl, h⟩⟩
    · exact ⟨n, by omega, by omega, by omega, .inr ⟨rfl, h⟩⟩
  go_enter Tryz.func165, Tryz.ntmps165
  obtain ⟨N, N1, N2, N3, N4⟩ := HM.out
  rcases N4 with ⟨eN, hN⟩ | ⟨eN, hN⟩ <;> (
    have hNi : (N : Int) = _ := congrArg Nat.cast eN
    clear eN
    go_wp2_with (at_make; refine wpList_makeN rfl _ _ rfl (N + 1) _ _ rfl rfl (by omega) (by omega) (by omega) ?_; intro w1 hrow hbel hsz)
    have hne1 : l = [] ∨ b ≠ w.heap.size := ha.lt.imp id (fun h => by omega)
    have hne2 : l' = [] ∨ b' ≠ w.heap.size := ha'.lt.imp id (fun h => by omega)
    refine (addTimes_any _ w.heap.size 0 _ _ _ b o _ _ m _ l w1 (by simp) hl (by omega) (by omega) (Nat.le_refl _) hc m0 m1 (words_zero _) wl hrow.at (hrow.free _ _) (ha.keep hbel) hne1).mono ?_
    rintro e w2 ⟨rfl, lz, hlz, wz, hat, hwr, hvz⟩
    rw [val_zero_list] at hvz
    have HB : Below w.heap.size w w2 := hbel.trans (hwr.below (Nat.le_refl _))
    go_wp2_with fail
    refine (takeTimes_any _ w.heap.size 0 _ _ _ b' o' _ _ m' lz l' w2 hlz hl' (by omega) (by omega) (Nat.le_refl _) hc' m0' m1' wz wl' hat (hwr.free (hrow.free _ _)) (ha'.keep HB) hne2).mono ?_
    rintro e w3 ⟨owed, rfl, ho0, ho1, lz2, hlz2, wz2, hat2, hwr2, hvz2⟩
    have HF : IsN (norm lz2) (val l * m - val l' * m') := differ_fin wl (by omega) m0 m1 hvz hge wz2 hlz2 ho0 hvz2
    have HB2 : Below w.heap.size w w3 := HB.trans (hwr2.below (Nat.le_refl _))
    have hfz := hwr2.free (hwr.free (hrow.free 0 (N + 1)))
    have hz1 := nlen_le lz2
    have hz2 := norm_length lz2
    have hz3 := hat2.sub (nlen lz2)
    rw [show lz2.take (nlen lz2) = norm lz2 from rfl] at hz3
    have t3 := trim_any (some ⟨w.heap.size, 0, none⟩) (N + 1) (N + 1) lz2 w3 hlz2 (Nat.le_refl _) (by omega) hat2.cells
    clear hrow hbel hwr hat hwr2 hat2 hvz hvz2 HB
    generalize nlen lz2 = K at *
    generalize norm lz2 = R at *
    go_wp2_with fail
    refine t3.mono ?_
    rintro e w4 ⟨rfl, rfl⟩
    go_wp2
    go_ret
    exact ⟨_, R, rfl, NewV.of hz2.symm (Nat.le_refl _) (Nat.le_refl _) hz3 (fun i hi => hfz i (by omega)), HF, HB2⟩)
end Go.Proofs.YtjihgkanbhccpaaGreatDoor

namespace Go.Proofs.YtjihgkanbhccpaaGreatDoor
open Go.RowKit Lim

/-- a list of limbs in block b, memory that was not there before -/
structure NewN (w w' : World) (v : Value) (b : Nat) (l : List Int) : Prop where
  is : ∃ ao o c, v = .slice ao l.length c ∧ l.length ≤ c ∧ w.heap.size ≤ b ∧ At w' ao b o l ∧ Free w' b o l.length
theorem NewV.b {w w' : World} {v : Value} {l : List Int} (h : NewV w w' v l) : ∃ b, NewN w w' v b l := by
  obtain ⟨ao, b, o, c, h1, h2, h3, h4, h5⟩ := h.is
  exact ⟨b, ao, o, c, h1, h2, h3, h4, h5⟩
theorem NewN.v {w w' : World} {v : Value} {b : Nat} {l : List Int} (h : NewN w w' v b l) : NewV w w' v l := by
  obtain ⟨ao, o, c, h1, h2, h3, h4, h5⟩ := h.is
  exact ⟨ao, b, o, c, h1, h2, h3, h4, h5⟩
theorem NewN.mono {w0 w w1 : World} {v : Value} {b : Nat} {l : List Int} (h : NewN w w1 v b l) (hb : w0.heap.size ≤ w.heap.size) : NewN w0 w1 v b l := by
  obtain ⟨ao, o, c, h1, h2, h3, h4, h5⟩ := h.is
  exact ⟨ao, o, c, h1, h2, Nat.le_trans hb h3, h4, h5⟩
theorem NewN.later {w w1 w2 : World} {v : Value} {b : Nat} {l : List Int} (h : NewN w w1 v b l) (hb : Below w1.heap.size w1 w2) : NewN w w2 v b l := by
  obtain ⟨ao, o, c, h1, h2, h3, h4, h5⟩ := h.is
  refine ⟨ao, o, c, h1, h2, h3, h4.keep hb, ?_⟩
  rcases h4.lt with e | e
  · subst e; exact fun i hi => by simp at hi
  · exact Free.below hb h5 e
theorem NewN.ge {w w' : World} {v : Value} {b : Nat} {l : List Int} (h : NewN w w' v b l) : w.heap.size ≤ b := by
  obtain ⟨ao, o, c, h1, h2, h3, h4, h5⟩ := h.is
  exact h3
theorem NewN.lt {w w' : World} {v : Value} {b : Nat} {l : List Int} (h : NewN w w' v b l) : l = [] ∨ b < w'.heap.size := by
  obtain ⟨ao, o, c, h1, h2, h3, h4, h5⟩ := h.is
  exact h4.lt
theorem ne_nil_of_pos {l : List Int} {x : Int} (h : IsN l x) (hx : 0 < x) : l ≠ [] := by
  rintro rfl
  have := h.2.2
  simp [val] at this
  omega
structure ShrPost (w : World) (e : Ending) (w' : World) (X Y : Int) (vy : Value) (by' : Nat) (ly : List Int) : Prop where
  ex : ∃ v1 v2 r1 r2 b1 b2 X' Y', e = .returned (.tuple #[v1, v2]) ∧ (NewN w w' v1 b1 r1 ∨ (v1 = vy ∧ r1 = ly ∧ b1 = by')) ∧ NewN w w' v2 b2 r2 ∧ b1 ≠ b2 ∧ IsN r1 X' ∧ IsN r2 Y' ∧ Int.gcd X' Y' = Int.gcd X Y ∧ Y' < X' ∧ X' ≤ Y ∧ Below w.heap.size w w'

/-- a variable of type steps -/
structure Steps (w : World) (g : Nat) (px qx py qy : Int) (odd : Bool) : Prop where
  blk : w.heap[g]? = some (.cells #[.int .u64 px, .int .u64 qx, .int .u64 py, .int .u64 qy, .bool odd] 158 (0, 0))
theorem Steps.keep {w w' : World} {g : Nat} {px qx py qy : Int} {odd : Bool} (h : Steps w g px qx py qy odd) (hb : Below w.heap.size w w') : Steps w' g px qx py qy odd :=
  ⟨by rw [hb.block g (Array.getElem?_eq_some_iff.1 h.blk).1]; exact h.blk⟩
theorem Steps.cells {w : World} {g : Nat} {px qx py qy : Int} {odd : Bool} (h : Steps w g px qx py qy odd) :
    w.cell? ⟨g, 0, none⟩ = some (.int .u64 px) ∧ w.cell? ⟨g, 1, none⟩ = some (.int .u64 qx) ∧ w.cell? ⟨g, 2, none⟩ = some (.int .u64 py) ∧ w.cell? ⟨g, 3, none⟩ = some (.int .u64 qy) ∧ w.cell? ⟨g, 4, none⟩ = some (.bool odd) := by
  have := h.blk
  simp [World.cell?, this]
theorem Steps.drew {w : World} {g : Nat} {px qx py qy : Int} {odd : Bool} (h : Steps w g px qx py qy odd) : Steps w.drew g px qx py qy odd := ⟨h.blk⟩

set_option maxHeartbeats 4000000 in
set_option maxRecDepth 100000 in
theorem shrink_any (ao : Option Addr) (n c b o : Nat) (ao' : Option Addr) (n' c' b' o' : Nat) (l l' : List Int) (w : World) (hl : l.length = n) (hl' : l'.length = n') (hc : n ≤ c) (hc' : n' ≤ c') (hbig : n ≤ 1099511627776) (hbig' : n' ≤ 1099511627776)
    (hI : IsN l (val l)) (hI' : IsN l' (val l')) (ha : At w ao b o l) (ha' : At w ao' b' o' l') (hge : val l' ≤ val l) (h2 : 2 ≤ n') :
    Calls Tryz.prog 125 #[.slice ao n c, .slice ao' n' c'] w fun e w' => ShrPost w e w' (val l) (val l') (.slice ao' n' c') b' l' := by
  have wl := hI.1
  have wl' := hI'.1
  have hnn : n' ≤ n := by
    rcases Nat.lt_or_ge n n' with h | h
    · have := val_lt_of_nlen_lt wl wl' (by rw [hI.2.1, hI'.2.1]; omega); omega
    · exact h
  obtain ⟨k, rfl⟩ : ∃ k, n = k + 2 := ⟨n - 2, by omega⟩
  have htop : nth l (k + 1) ≠ 0 := by
    have := nlen_last (l := l) (by rw [hI.2.1]; omega)
    rw [hI.2.1, hl] at this
    exact this
  have hw1 := wl.nth (k + 1)
  have hle := top_le wl wl' hl (by omega) hge
  have hle0 := (wl'.nth (k + 1)).1
  have hv0' : val l' ≠ 0 := by
    intro e
    have := (nlen_eq_zero_iff_val wl').2 e
    rw [hI'.2.1] at this; omega
  have tD := fun W (hb : Below w.heap.size w W) => div_any ao (k + 2) c b o ao' n' c' b' o' l l' W hl hl' hc hc' hbig hbig' wl wl' (ha.keep hb) (ha'.keep hb) hv0'
  have tX := fun W (hb : Below w.heap.size w W) (m m' : Int) (m0 : 0 ≤ m) (m1 : m < 18446744073709551616) (m0' : 0 ≤ m') (m1' : m' < 18446744073709551616) (hg : val l' * m' ≤ val l * m) => differ_any ao (k + 2) c b o ao' n' c' b' o' l l' m m' W hl hl' hc hc' hbig hbig' wl wl' (ha.keep hb) (ha'.keep hb) m0 m1 m0' m1' hg
  have tY := fun W (hb : Below w.heap.size w W) (m m' : Int) (m0 : 0 ≤ m) (m1 : m < 18446744073709551616) (m0' : 0 ≤ m') (m1' : m' < 18446744073709551616) (hg : val l * m' ≤ val l' * m) => differ_any ao' n' c' b' o' ao (k + 2) c b o l' l m m' W hl' hl hc' hc hbig' hbig wl' wl (ha'.keep hb) (ha.keep hb) m0 m1 m0' m1' hg
  have tH := fun (s : Nat) W (hb : Below w.heap.size w W) hs h1 => highBits_any ao (k + 2) c b o k s l W hl (by omega) (by omega) wl (ha.keep hb) hs h1
  have tH' := fun (s : Nat) W (hb : Below w.heap.size w W) hs h1 => highBits_any ao' n' c' b' o' k s l' W hl' (by omega) (by omega) wl' (ha'.keep hb) hs h1
  have hV := fun (s : Nat) hs => high_val (s := s) wl (k := k) (by omega) hs
  have hV' := fun (s : Nat) hs => high_val (s := s) wl' (k := k) (by omega) hs
  have hO := fun (s : Nat) hs (h1 : nth l (k + 1) * 2 ^ s < 18446744073709551616) => high_or (s := s) hs hw1.1 h1 (wl.nth k).1 (wl.nth k).2
  have hO' := fun (s : Nat) hs (h1 : nth l' (k + 1) * 2 ^ s < 18446744073709551616) => high_or (s := s) hs hle0 h1 (wl'.nth k).1 (wl'.nth k).2
  rcases ha.loc with e | rfl
  · subst e; simp at hl
  have hcell := ha.cell (k + 1) (by omega)
  have hidx : ((k + 2 : Nat) : Int) - 1 = (k + 1 : Nat) := by omega
  have hblt : b' < w.heap.size := by
    rcases ha'.lt with e | e
    · subst e; simp at hl'; omega
    · exact e
  clear ha ha' wl wl'
  go_enter Tryz.func125, Tryz.ntmps125
  go_wp2_with fail
  refine (clz_n _ w (by omega) hw1.2).mono ?_
  rintro e w1 ⟨s, rfl, hs, HS, hww⟩
  subst w1
  have hs2 := HS.out.2
  have hpp : (0 : Int) < 2 ^ s := Int.pow_pos (by decide)
  have hs3 : nth l' (k + 1) * 2 ^ s < 18446744073709551616 := by
    have := Int.mul_le_mul_of_nonneg_right hle (Int.le_of_lt hpp)
    omega
  obtain ⟨a, hXa, a0, a1⟩ := hV s hs
  obtain ⟨a', hYa, a0', a1'⟩ := hV' s hs
  have q1 := (hO s hs hs2).2
  have q2 := (hO' s hs hs3).2
  have hx0 : 0 < nth l (k + 1) * 2 ^ s + nth l k / 2 ^ (64 - s) := by
    have hh := HS.out.1
    have hD : (0 : Int) < 2 ^ (64 - s) := Int.pow_pos (by decide)
    have : 0 ≤ nth l k / 2 ^ (64 - s) := Int.ediv_nonneg (hI.1.nth k).1 (Int.le_of_lt hD)
    omega
  have tH1 := fun W hb => tH s W hb hs hs2
  have tH2 := fun W hb => tH' s W hb hs hs3
  clear hV hV' hO hO' tH tH'
  generalize nth l (k + 1) * 2 ^ s + nth l k / 2 ^ (64 - s) = x0 at *
  generalize nth l' (k + 1) * 2 ^ s + nth l' k / 2 ^ (64 - s) = y0 at *
  generalize (18446744073709551616 : Int) ^ k * 2 ^ (64 - s) = Kk at *
  have hyx : y0 ≤ x0 := by
    by_cases c : y0 ≤ x0
    · exact c
    · have : (x0 + 1) * Kk ≤ y0 * Kk := Int.mul_le_mul_of_nonneg_right (by omega) (by omega)
      rw [Int.add_mul] at this
      omega
  have HX : Hid (val l = x0 * Kk + a) := hXa
  have HY : Hid (val l' = y0 * Kk + a') := hYa
  clear hXa hYa hs2 hs3 hle
  go_wp2_with fail
  refine (tH1 w (Below.refl _ _)).mono ?_
  rintro e w1 ⟨rfl, hb1⟩
  go_wp2_with fail
  refine (tH2 w1 hb1).mono ?_
  rintro e w2 ⟨rfl, hb2⟩
  have HB2 : Below w.heap.size w w2 := hb1.trans (hb2.mono hb1.size)
  go_wp2_with fail
  refine (foresee_any x0 y0 w2 q2.1 hyx q1.2).mono ?_
  rintro e w3 hfe
  obtain ⟨x, y, px, qx, py, qy, odd, rfl, hF, hb3⟩ := hfe.ex
  have HB3 : Below w.heap.size w w3 := HB2.trans (hb3.mono HB2.size)
  obtain ⟨z1, z2, z3, z4⟩ := hF.small hx0
  have z5 := hF.px0
  have z6 := hF.qx0
  have z7 := hF.py0
  have z8 := hF.qy1
  have HF : Hid (Fore x0 y0 x y px qx py qy odd) := hF
  clear hF hb1 hb2 hb3 HB2 hfe tH1 tH2
  by_cases hq : qx = 0
  · subst hq
    have HB4 : Below w.heap.size w (w3.alloc (.cells #[.int .u64 px, .int .u64 0, .int .u64 py, .int .u64 qy, .bool odd] 158)) := HB3.alloc HB3.size _
    have hm := Int.emod_lt_of_pos (val l) (show 0 < val l' by have := val_nonneg hI'.1; omega)
    go_wp2_with fail
    refine (tD _ HB4).mono ?_
    rintro e w5 ⟨v, u, r, t, rfl, hn1, hn2, i1, i2, -, -, hb5⟩
    go_wp2
    go_ret2
    obtain ⟨bu, hn2⟩ := (hn2.mono HB4.size).b
    have hbu := hn2.ge
    exact ⟨_, u, l', t, b', bu, _, _, rfl, .inr ⟨rfl, rfl, rfl⟩, hn2, by omega, hI', i2, gcd_step _ _ (val_nonneg hI.1) (val_nonneg hI'.1), hm, Int.le_refl _, HB4.trans (hb5.mono HB4.size)⟩
  · have hq' : (qx == 0) = false := beq_eq_false_iff_ne.2 hq
    cases odd
    · go_wp2_with fail
      have hSt : Steps (w3.alloc (.cells #[.int .u64 px, .int .u64 qx, .int .u64 py, .int .u64 qy, .bool false] 158)) w3.heap.size px qx py qy false := ⟨Array.getElem?_push_size⟩
      have HB4 : Below w.heap.size w (w3.alloc (.cells #[.int .u64 px, .int .u64 qx, .int .u64 py, .int .u64 qy, .bool false] 158)).drew := (HB3.alloc HB3.size _).drew
      obtain ⟨g1, g2, g3', g4, g5⟩ := HF.out.even_out HX.out HY.out a0 a1 a0' a1' hq
      generalize w3.alloc (.cells #[.int .u64 px, .int .u64 qx, .int .u64 py, .int .u64 qy, .bool false] 158) = W at *
      generalize w3.heap.size = g at *
      obtain ⟨c0, c1, c2, c3, c4⟩ := hSt.cells
      have hz4 := HB4.size
      have g3 := (show Hid _ from g3')
      clear g3' hcell tD c4
      have mark0 : True := trivial
      have mark1 : True := trivial
      go_region_held3 (fun w' => w'.cell? ⟨g, 0, none⟩ = some (.int .u64 px) ∧ w'.cell? ⟨g, 1, none⟩ = some (.int .u64 qx) ∧ w'.cell? ⟨g, 2, none⟩ = some (.int .u64 py) ∧ w'.cell? ⟨g, 3, none⟩ = some (.int .u64 qy)) (first | exact ⟨by assumption, by assumption, by assumption, by assumption⟩ | go_keep)
        (first
        | (go_at_call 165; clear mark0; refine (tX _ HB4 px qx (by omega) (by omega) (by omega) (by omega) (by omega)).mono ?_; rintro e wA ⟨vA, rA, rfl, nA, iA, bA⟩; obtain ⟨c0, c1, c2, c3, c4⟩ := (hSt.drew.keep bA).cells; clear c4; have HBA := HB4.trans (bA.mono hz4))
        | (go_at_call 165; clear mark1; refine (tY _ HBA qy py (by omega) (by omega) (by omega) (by omega) (by omega)).mono ?_; rintro e wZ ⟨vB, rB, rfl, nB, iB, bB⟩; obtain ⟨c0, c1, c2, c3, c4⟩ := ((hSt.drew.keep bA).keep bB).cells; clear c4; have HBZ := HBA.trans (bB.mono HBA.size)))
      go_wp2
      go_ret2
      obtain ⟨uA, nA'⟩ := nA.b
      obtain ⟨uB, nB'⟩ := nB.b
      have hlA : uA < wA.heap.size := nA'.lt.resolve_left (ne_nil_of_pos iA (by have := val_nonneg iB.1; have := iB.2.2; omega))
      have hgB := nB'.ge
      exact ⟨vA, vB, rA, rB, uA, uB, _, _, rfl, .inl ((nA'.later bB).mono hz4), nB'.mono HBA.size, by omega, iA, iB, g3.out, g4, g5, HBZ⟩
    · go_wp2_with fail
      have hSt : Steps (w3.alloc (.cells #[.int .u64 px, .int .u64 qx, .int .u64 py, .int .u64 qy, .bool true] 158)) w3.heap.size px qx py qy true := ⟨Array.getElem?_push_size⟩
      have HB4 : Below w.heap.size w (w3.alloc (.cells #[.int .u64 px, .int .u64 qx, .int .u64 py, .int .u64 qy, .bool true] 158)).drew := (HB3.alloc HB3.size _).drew
      obtain ⟨g1, g2, g3', g4, g5⟩ := HF.out.odd_out HX.out HY.out a0 a1 a0' a1' hq
      generalize w3.alloc (.cells #[.int .u64 px, .int .u64 qx, .int .u64 py, .int .u64 qy, .bool true] 158) = W at *
      generalize w3.heap.size = g at *
      obtain ⟨c0, c1, c2, c3, c4⟩ := hSt.cells
      have hz4 := HB4.size
      have g3 := (show Hid _ from g3')
      clear g3' hcell tD c4
      have mark0 : True := trivial
      have mark1 : True := trivial
      go_region_held3 (fun w' => w'.cell? ⟨g, 0, none⟩ = some (.int .u64 px) ∧ w'.cell? ⟨g, 1, none⟩ = some (.int .u64 qx) ∧ w'.cell? ⟨g, 2, none⟩ = some (.int .u64 py) ∧ w'.cell? ⟨g, 3, none⟩ = some (.int .u64 qy)) (first | exact ⟨by assumption, by assumption, by assumption, by assumption⟩ | go_keep)
        (first
        | (go_at_call 165; clear mark0; refine (tY _ HB4 qx px (by omega) (by omega) (by omega) (by omega) (by omega)).mono ?_; rintro e wA ⟨vA, rA, rfl, nA, iA, bA⟩; obtain ⟨c0, c1, c2, c3, c4⟩ := (hSt.drew.keep bA).cells; clear c4; have HBA := HB4.trans (bA.mono hz4))
        | (go_at_call 165; clear mark1; refine (tX _ HBA py qy (by omega) (by omega) (by omega) (by omega) (by omega)).mono ?_; rintro e wZ ⟨vB, rB, rfl, nB, iB, bB⟩; obtain ⟨c0, c1, c2, c3, c4⟩ := ((hSt.drew.keep bA).keep bB).cells; clear c4; have HBZ := HBA.trans (bB.mono HBA.size)))
      go_wp2
      go_ret2
      obtain ⟨uA, nA'⟩ := nA.b
      obtain ⟨uB, nB'⟩ := nB.b
      have hlA : uA < wA.heap.size := nA'.lt.resolve_left (ne_nil_of_pos iA (by have := val_nonneg iB.1; have := iB.2.2; omega))
      have hgB := nB'.ge
      exact ⟨vA, vB, rA, rB, uA, uB, _, _, rfl, .inl ((nA'.later bB).mono hz4), nB'.mono HBA.size, by omega, iA, iB, g3.out, g4, g5, HBZ⟩
end Go.Proofs.YtjihgkanbhccpaaGreatDoor

namespace Go.Proofs.YtjihgkanbhccpaaGreatDoor
open Go.RowKit Lim

/-- the number that a slice of limbs holds -/
def memVal (w : World) : Value → Int
  | .slice (some a) n _ => val ((List.range n).map fun i => intOf ((w.cell? ⟨a.block, a.off + i, none⟩).getD undef))
  | _ => 0
theorem memVal_at {w : World} {ao : Option Addr} {b o c : Nat} {l : List Int} (h : At w ao b o l) : memVal w (.slice ao l.length c) = val l := by
  rcases h.loc with e | e
  · subst e; cases ao <;> simp [memVal, val]
  · subst e
    have e : ((List.range l.length).map fun i => intOf ((w.cell? ⟨b, o + i, none⟩).getD undef)) = l := by
      refine nth_ext (by rw [List.length_map, List.length_range]) fun i hi => ?_
      rw [List.length_map, List.length_range] at hi
      rw [nth_eq (by rw [List.length_map, List.length_range]; exact hi)]
      simp [h.cell i hi, intOf]
    show val _ = val l
    rw [e]
def gcdMu (v : Value) (w : World) : Nat := (memVal w v).toNat
theorem isN_len_le {a b : List Int} {x y : Int} (ha : IsN a x) (hb : IsN b y) (h : x ≤ y) : a.length ≤ b.length := by
  rcases Nat.lt_or_ge b.length a.length with k | k
  · have := val_lt_of_nlen_lt hb.1 ha.1 (by rw [ha.2.1, hb.2.1]; exact k)
    rw [ha.2.2, hb.2.2] at this; omega
  · exact k
structure GcdIn (w : World) (X Y : Int) (N : Nat) (tx ty : Value) (wr : World) : Prop where
  ex : ∃ lx ly bx by', NewN w wr tx bx lx ∧ NewN w wr ty by' ly ∧ bx ≠ by' ∧ IsN lx (val lx) ∧ IsN ly (val ly) ∧ val ly ≤ val lx ∧ Int.gcd (val lx) (val ly) = Int.gcd X Y ∧ lx.length ≤ N ∧ ly.length ≤ N ∧ Below w.heap.size w wr
structure GcdEnd (w : World) (e : Ending) (w' : World) (X Y : Int) (N : Nat) : Prop where
  ex : ∃ v r, e = .returned v ∧ NewV w w' v r ∧ IsN r (Int.gcd X Y : Nat) ∧ r.length ≤ N + 1 ∧ Below w.heap.size w w'
theorem Row.newN {w w' : World} {g : Nat} {l : List Int} (h : Row w' g l) (hg : w.heap.size ≤ g) (n : Nat) (hn : l.length = n) : NewN w w' (.slice (some ⟨g, 0, none⟩) n n) g l :=
  ⟨_, 0, n, by rw [hn], by omega, hg, h.at, h.free _ _⟩

set_option maxHeartbeats 4000000 in
set_option maxRecDepth 100000 in
theorem gcd_any (ao : Option Addr) (n c b o : Nat) (ao' : Option Addr) (n' c' b' o' : Nat) (l l' : List Int) (w : World) (hl : l.length = n) (hl' : l'.length = n') (hc : n ≤ c) (hc' : n' ≤ c') (hbig : n ≤ 274877906944) (hbig' : n' ≤ 274877906944)
    (wl : Words l) (wl' : Words l') (ha : At w ao b o l) (ha' : At w ao' b' o' l') :
    Calls Tryz.prog 89 #[.slice ao n c, .slice ao' n' c'] w fun e w' => GcdEnd w e w' (val l) (val l') (n + n') := by
  have hn := nlen_le l
  have hn' := nlen_le l'
  have hnl := norm_length l
  have hnl' := norm_length l'
  have hI := isN_norm wl
  have hI' := isN_norm wl'
  go_enter Tryz.func89, Tryz.ntmps89
  go_wp2_with fail
  refine (norm_any ao n c b o l w hl hc (by omega) ha).mono ?_
  rintro e w1 ⟨rfl, hr1, hb1⟩
  go_wp2_with fail
  refine (norm_any ao' n' c' b' o' l' w1 hl' hc' (by omega) (ha'.keep hb1)).mono ?_
  rintro e w2 ⟨rfl, hr2, hb2⟩
  have hr1' := hr1.keep hb2
  have hz1 := hb1.size
  have hz2 := hb2.size
  have hlt1 := hr1.lt
  have hlt2 := hr2.lt
  have t1 := cmp_any (some ⟨w.heap.size, 0, none⟩) (nlen l) (nlen l) w.heap.size 0 (some ⟨w1.heap.size, 0, none⟩) (nlen l') (nlen l') w1.heap.size 0 (norm l) (norm l') w2 hnl hnl' (Nat.le_refl _) (Nat.le_refl _) (by omega) (by omega) hI.1 hI'.1 hr1'.at hr2.at
  rw [val_norm, val_norm] at t1
  have HB := hb1.trans (hb2.mono hz1)
  have N1 := hr1'.newN (w := w) (Nat.le_refl _) _ hnl
  have N2 := hr2.newN (w := w) hz1 _ hnl'
  have HV1 := (show Hid _ from hI.2.2)
  have HV2 := (show Hid _ from hI'.2.2)
  clear hr1 hr2 hr1' hb1 hb2 ha ha'
  generalize nlen l = A at *
  generalize nlen l' = A' at *
  generalize norm l = L at *
  generalize norm l' = L' at *
  have hJ : IsN L (val L) := ⟨hI.1, hI.2.1, rfl⟩
  have hJ' : IsN L' (val L') := ⟨hI'.1, hI'.2.1, rfl⟩
  clear hI hI'
  have hgne : w.heap.size ≠ w1.heap.size := by omega
  rcases Int.lt_or_le (val l) (val l') with hlt | hge
  rw [sgn_lt hlt] at t1
  have hat : ∀ w3, Below w2.heap.size w2 w3 → GcdIn w (val l) (val l') (n + n') (.slice (some ⟨w1.heap.size, 0, none⟩) A' A') (.slice (some ⟨w.heap.size, 0, none⟩) A A) w3 := fun w3 hb => ⟨L', L, _, _, N2.later hb, N1.later hb, hgne.symm, hJ', hJ, by rw [HV1.out, HV2.out]; omega, by rw [HV1.out, HV2.out, Int.gcd_comm], by omega, by omega, HB.trans (hb.mono HB.size)⟩
  rotate_left
  have hsg : sgn (val l) (val l') ≥ 0 := by unfold sgn; split <;> (try split) <;> omega
  generalize sgn (val l) (val l') = sg at *
  have hat : ∀ w3, Below w2.heap.size w2 w3 → GcdIn w (val l) (val l') (n + n') (.slice (some ⟨w.heap.size, 0, none⟩) A A) (.slice (some ⟨w1.heap.size, 0, none⟩) A' A') w3 := fun w3 hb => ⟨L, L', _, _, N1.later hb, N2.later hb, hgne, hJ, hJ', by rw [HV1.out, HV2.out]; omega, by rw [HV1.out, HV2.out], by omega, by omega, HB.trans (hb.mono HB.size)⟩
  all_goals
    clear hJ hJ' N1 N2 HV1 HV2
    go_wp2_with fail
    refine t1.mono ?_
    rintro e w3 ⟨rfl, hb3⟩
    replace hat := hat w3 hb3
    clear t1
    go_wp2_with fail
    go_loopw [5, 6] (fun tx ty wr => GcdIn w (val l) (val l') (n + n') tx ty wr) (fun _ ty wr => gcdMu ty wr)
    case atStart => exact hat
    case round =>
      clear hat
      obtain ⟨lx, ly, bx, by', NX, NY, hbne, iX, iY, hle, hg, hlx, hly, hB⟩ := hrel.ex
      obtain ⟨ax, ox, cx, rfl, kx, gx, atX, frX⟩ := NX.is
      obtain ⟨ay, oy, cy, rfl, ky, gy, atY, frY⟩ := NY.is
      have HG := (show Hid _ from hg)
      have hBs := hB.size
      clear hg hrel
      by_cases h1 : 1 < ly.length
      · have ts := shrink_any ax lx.length cx bx ox ay ly.length cy by' oy lx ly wr rfl rfl kx ky (by omega) (by omega) iX iY atX atY hle h1
        have hmu := memVal_at (c := cy) atY
        have HM := (show Hid _ from hmu)
        have HNY := (show Hid _ from NY)
        clear atX atY NX hmu NY
        generalize hLX : lx.length = nx at *
        generalize hLY : ly.length = ny at *
        go_wp2_with fail
        refine ts.mono ?_
        rintro e w5 hp
        obtain ⟨v1, v2, r1, r2, b1, b2, X', Y', rfl, hv1, hv2, hne, i1, i2, hg2, hlt2, hle2, hb5⟩ := hp.ex
        have hB5 := hB.trans (hb5.mono hB.size)
        have hr1 := isN_len_le i1 iY hle2
        have hr2 := isN_len_le i2 iY (by omega)
        have hM2 : gcdMu v2 w5 < gcdMu (.slice ay ny cy) wr := by
          obtain ⟨a2, o2, c2, rfl, -, -, at2, -⟩ := hv2.is
          unfold gcdMu
          rw [memVal_at at2, i2.2.2, HM.out]
          have := val_nonneg i2.1
          rw [i2.2.2] at this
          omega
        have hN1 : NewN w w5 v1 b1 r1 := by
          rcases hv1 with h | ⟨rfl, rfl, rfl⟩
          · exact h.mono hB.size
          · exact HNY.out.later hb5
        have hin : GcdIn w (val l) (val l') (n + n') v1 v2 w5 := ⟨r1, r2, b1, b2, hN1, hv2.mono hB.size, hne, by rw [i1.2.2]; exact i1, by rw [i2.2.2]; exact i2, by rw [i1.2.2, i2.2.2]; omega, by rw [i1.2.2, i2.2.2, hg2]; exact HG.out, by omega, by omega, hB5⟩
        clear hv1 hv2 hg2 hp HG HM HNY ts iX iY hN1 i1 i2
        go_wp2
        exact ⟨hin, hM2⟩
      · by_cases h0 : ly.length = 0
        · have e0 : ly = [] := List.eq_nil_of_length_eq_zero h0
          subst e0
          have hv : val lx = (Int.gcd (val l) (val l') : Nat) := by
            have := HG.out
            rw [show val [] = 0 from rfl, Int.gcd_zero_right] at this
            have := val_nonneg iX.1
            omega
          rw [hv] at iX
          go_wp2
          go_ret
          exact ⟨_, lx, rfl, NX.v, iX, by omega, hB⟩
        · have h01 : ly.length = 1 := by omega
          obtain ⟨d, rfl⟩ := List.length_eq_one_iff.1 h01
          have hdw := iY.1 d (by simp)
          have hd0 : 0 < d := by
            have h2 := iY.2.1
            by_cases c : d = 0
            · subst c; simp [nlen] at h2
            · omega
          have HV : Hid (val [d] = d) := val_single d
          obtain rfl : ay = some ⟨by', oy, none⟩ := by
            rcases atY.loc with e | e
            · simp at e
            · exact e
          have hcd := atY.cell 0 (by simp)
          rw [nth_zero, Nat.add_zero] at hcd
          have hcd1 : wr.drew.cell? ⟨by', oy, none⟩ = some (.int .u64 d) := hcd
          have tD := divideSmall_any ax bx ox lx.length cx d lx wr.drew rfl (by omega) kx hd0 hdw.2 iX.1 atX.drew frX.drew
          have HX := (show Hid _ from iX)
          have hnx : lx.length ≤ n + n' := hlx
          have hv0 := val_nonneg iX.1
          have HVX := (show Hid (0 ≤ val lx) from hv0)
          clear atX atY NX NY iX iY frX frY hle hv0 hlx
          generalize hLX : lx.length = nx at *
          clear hLX
          go_wp2_with fail
          go_region_with (first
            | (go_at_call 127; refine tD.mono ?_; rintro e w4 ⟨left, lz, rfl, hf0, hf1, hlz, hwz, hatz, hwr, hvz⟩; have hcd4 := (hwr.other (k := by') (i := oy) hbne.symm).trans hcd1)
            | (go_at_call 126; refine (gcdSmall_any d left _ (by omega) (by omega) hf0 (by omega)).mono ?_; rintro e w5 ⟨rfl, nd, rfl⟩)
            | (go_at_call 23; refine (of_any _ _ (by omega) (gcd_bound d left hd0 hdw.2)).mono ?_; rintro e w6 ⟨v, r, rfl, hnew, hI6, hlen6, hb6⟩))
          all_goals go_wp2
          all_goals go_ret
          all_goals
            have hleft : left = val lx % d := by
              have hh := Int.ediv_emod_unique (a := val lx) (b := d) (r := left) (q := Lim.val lz) hd0
              exact (hh.2 ⟨by rw [← hvz, Int.mul_comm]; omega, hf0, hf1⟩).2.symm
            have hwz4 := hwr.size
            have hsz4 : w.heap.size ≤ (w4.drewN nd).heap.size := by
              show w.heap.size ≤ w4.heap.size
              have : wr.drew.heap.size = wr.heap.size := rfl
              omega
            have HBz : Below w.heap.size w w6 := (below_drewN ((hB.drew).trans (hwr.below gx)) nd).trans (hb6.mono hsz4)
            refine ⟨v, r, rfl, hnew.mono hsz4, ?_, by omega, HBz⟩
            rw [gcd_one HVX.out hd0 HV.out hleft, HG.out] at hI6
            exact hI6
end Go.Proofs.YtjihgkanbhccpaaGreatDoor

namespace Go.Proofs.YtjihgkanbhccpaaGreatDoor
open Go.RowKit Lim

theorem nGcd {w : World} {ao ao' : Option Addr} {n c n' c' : Nat} {x y : Int} (h : NatA w ao n c x) (h' : NatA w ao' n' c' y) (hn : n ≤ 274877906944) (hn' : n' ≤ 274877906944) :
    Calls Tryz.prog 89 #[.slice ao n c, .slice ao' n' c'] w fun e w' => ∃ a k d, e = .returned (.slice a k d) ∧ NatO w' a k d (Int.gcd x y : Nat) ∧ k ≤ n + n' + 1 ∧ Below w.heap.size w w' := by
  obtain ⟨b, o, l, h1, h2, h3, h4, rfl⟩ := h.ex
  obtain ⟨b', o', l', h1', h2', h3', h4', rfl⟩ := h'.ex
  refine (gcd_any ao n c b o ao' n' c' b' o' l l' w h1 h1' h2 h2' hn hn' h3 h3' h4 h4').mono ?_
  rintro e w' hg
  obtain ⟨v, r, rfl, hnw, hI, hlen, hB⟩ := hg.ex
  obtain ⟨a, d, rfl, hO⟩ := hnw.o hI
  exact ⟨a, _, d, rfl, hO, hlen, hB⟩
theorem gcd_left {x y : Int} : x % (Int.gcd x y : Nat) = 0 := Int.emod_eq_zero_of_dvd (Int.gcd_dvd_left x y)
theorem gcd_right {x y : Int} : y % (Int.gcd x y : Nat) = 0 := Int.emod_eq_zero_of_dvd (Int.gcd_dvd_right x y)
theorem gcd_parts {x y : Int} (h : ((Int.gcd x y : Nat) : Int) ≠ 0) : ((Int.gcd (x / (Int.gcd x y : Nat)) (y / (Int.gcd x y : Nat)) : Nat) : Int) = 1 := by
  rw [Int.gcd_ediv_gcd_ediv_gcd (by omega)]
  rfl
theorem gcd_scaled {x y z : Int} (hz : 0 ≤ z) : ((Int.gcd (x * z) (y * z) : Nat) : Int) = (Int.gcd x y : Nat) * z := by
  rw [Int.gcd_mul_right, Int.natCast_mul, Int.natAbs_of_nonneg hz]
theorem gcd_zero_both {x y : Int} (h : ((Int.gcd x y : Nat) : Int) = 0) : x = 0 ∧ y = 0 := by
  have : Int.gcd x y = 0 := by omega
  exact Int.gcd_eq_zero_iff.1 this
end Go.Proofs.YtjihgkanbhccpaaGreatDoor

namespace Go.Proofs.YtjihgkanbhccpaaGreatDoor
open Go.RowKit Lim

theorem info_rat : (Tryz.prog.info? 30).map (·.size) = some 2 := by kernel_rfl
theorem under_rat : ∃ f, Tryz.prog.underlying 30 = some (.struct f) := by
  cases h : Tryz.prog.underlying 30 with
  | none => exact absurd h (by have : (Tryz.prog.underlying 30).isSome = true := by kernel_rfl
                               intro e; rw [e] at this; simp at this)
  | some d =>
    have : (match Tryz.prog.underlying 30 with | some (.struct _) => true | _ => false) = true := by kernel_rfl
    rw [h] at this
    cases d <;> first | exact ⟨_, rfl⟩ | simp at this
theorem load_rat {w : World} {g : Nat} {u v : Value} {t : TypeId} (s : Box w g [u, v] t) : (loadVar 30 ⟨g, 0, none⟩).run Tryz.prog w = .ok (.agg #[u, v]) w := by
  obtain ⟨f, hu⟩ := under_rat
  exact run_loadVar_row w g t 30 #[u, v] (0, 0) _ s.blk hu rfl info_rat
theorem Box.cells2 {w : World} {g : Nat} {u v : Value} {t : TypeId} (h : Box w g [u, v] t) : w.cell? ⟨g, 0, none⟩ = some u ∧ w.cell? ⟨g, 1, none⟩ = some v ∧ w.frozen? ⟨g, 0, none⟩ = false ∧ w.frozen? ⟨g, 1, none⟩ = false := by
  have := h.blk
  simp [World.cell?, World.frozen?, this]
theorem ret_rat {fn : Func} {p : Tmp} (h : fn.results = #[.cell p 30]) {tmps : Array Value} {w : World} {g : Nat} {u v : Value} {t : TypeId} (hp : tmps.getD p undef = .pointer (some ⟨g, 0, none⟩)) (s : Box w g [u, v] t) :
    (results fn tmps).run Tryz.prog w = .ok (.agg #[u, v]) w := by
  have hp' : tmps[p]?.getD undef = .pointer (some ⟨g, 0, none⟩) := by simpa using hp
  simp [results, h, hp', asAddr, load_rat s]
theorem ret_rat_tmp {fn : Func} {p q : Tmp} (h : fn.results = #[.cell p 30, .tmp q]) {tmps : Array Value} {w : World} {g : Nat} {u v x : Value} {t : TypeId} (hp : tmps.getD p undef = .pointer (some ⟨g, 0, none⟩)) (hu : tmps.getD q undef = x) (s : Box w g [u, v] t) :
    (results fn tmps).run Tryz.prog w = .ok (.tuple #[.agg #[u, v], x]) w := by
  have hp' : tmps[p]?.getD undef = .pointer (some ⟨g, 0, none⟩) := by simpa using hp
  have hu' : tmps[q]?.getD undef = x := by simpa using hu
  simp [results, h, hp', hu', asAddr, load_rat s]

theorem field_dec (v : Value) (w : World) : (Instr.field 46 (.agg #[v]) 0).run Tryz.prog w = .ok v w := by kernel_rfl
set_option maxHeartbeats 1000000 in
set_option maxRecDepth 100000 in
theorem qQuot {w : World} {ao ao' : Option Addr} {n c n' c' : Nat} {x y : Int} (h : NatA w ao n c x) (h' : NatA w ao' n' c' y) (hn : n ≤ 1099511627776) (hn' : n' ≤ 1099511627776) (hne : y ≠ 0) :
    Calls Tryz.prog 83 #[.slice ao n c, .slice ao' n' c'] w fun e w' => ∃ a k d, e = .returned (.slice a k d) ∧ NatO w' a k d (x / y) ∧ k ≤ n ∧ Below w.heap.size w w' := by
  go_enter Tryz.func83, Tryz.ntmps83
  go_wp2_with fail
  refine (nDiv h h' hn hn' hne).mono ?_
  rintro e w1 ⟨a, k, d, a', k', d', rfl, O1, O2, hk, hk', hB⟩
  go_wp2
  go_ret
  exact ⟨a, k, d, rfl, O1, hk, hB⟩
set_option maxHeartbeats 1000000 in
set_option maxRecDepth 100000 in
theorem qUnit {w : World} : Calls Tryz.prog 91 #[] w fun e w' => ∃ a k d, e = .returned (.slice a k d) ∧ NatO w' a k d U36 ∧ k ≤ 39 ∧ Below w.heap.size w w' := by
  go_enter Tryz.func91, Tryz.ntmps91
  go_wp2_with fail
  refine (dOf (x := 1) (by decide) (by decide)).mono ?_
  rintro e w1 ⟨a, k, d, rfl, O1, hk, hB⟩
  replace O1 := O1.eqv (Int.one_mul _)
  have hfld := fun w => field_dec (.slice a k d) w
  go_wp2
  go_ret
  exact ⟨a, k, d, rfl, O1, hk, hB⟩
set_option maxHeartbeats 1000000 in
set_option maxRecDepth 100000 in
theorem qOfNat {w : World} {ao : Option Addr} {n c : Nat} {x : Int} (h : NatA w ao n c x) (hn : n ≤ 1099511627776) :
    Calls Tryz.prog 21 #[.slice ao n c] w fun e w' => ∃ a k d a' k' d', e = .returned (.agg #[.slice a k d, .slice a' k' d']) ∧ NatO w' a k d x ∧ NatO w' a' k' d' 1 ∧ k ≤ n ∧ k' ≤ 1 ∧ Below w.heap.size w w' := by
  have B0 := below_alloc w (.cells #[.slice none 0 0, .slice none 0 0] 30)
  have S0 := box_new w [.slice none 0 0, .slice none 0 0] 30
  have h := h.keep B0
  go_enter Tryz.func21, Tryz.ntmps21
  go_wp2_with fail
  refine (nNorm h hn).mono ?_
  rintro e w1 ⟨a, k, d, rfl, O1, hk, hB⟩
  replace S0 := S0.keep hB
  replace B0 := joinB B0 hB
  clear hB
  go_wp2_with fail
  refine (nOf (x := 1) (by decide) (by decide)).mono ?_
  rintro e w2 ⟨a', k', d', rfl, O2, hk', hB⟩
  replace O1 := O1.keep hB
  replace S0 := S0.keep hB
  replace B0 := joinB B0 hB
  obtain ⟨c1, c2, f1, f2⟩ := S0.cells2
  have S2 := S0.put2 (.slice a k d) (.slice a' k' d')
  have P1 := O1.put2 S0 (.slice a k d) (.slice a' k' d')
  have P2 := O2.put2 S0 (.slice a k d) (.slice a' k' d')
  have HB := below_put2 B0 (Nat.le_refl _) (.slice a k d) (.slice a' k' d')
  clear hB h O1 O2 S0 B0
  go_wp2
  refine bodyPost_ret (ret_rat rfl rfl S2) rfl ?_
  exact ⟨a, k, d, a', k', d', rfl, P1, P2, hk, hk', HB⟩
set_option maxHeartbeats 1000000 in
set_option maxRecDepth 100000 in
theorem qReduced {w : World} {ao ao' : Option Addr} {n c n' c' : Nat} {x y : Int} (h : NatA w ao n c x) (h' : NatA w ao' n' c' y) (hn : n ≤ 274877906944) (hn' : n' ≤ 274877906944) (hne : y ≠ 0) :
    Calls Tryz.prog 87 #[.slice ao n c, .slice ao' n' c'] w fun e w' => ∃ a k d a' k' d', e = .returned (.agg #[.slice a k d, .slice a' k' d']) ∧ NatO w' a k d (x / (Int.gcd x y : Nat)) ∧ NatO w' a' k' d' (y / (Int.gcd x y : Nat)) ∧ k ≤ n ∧ k' ≤ n' ∧ Below w.heap.size w w' := by
  have hg : ((Int.gcd x y : Nat) : Int) ≠ 0 := fun e => hne (Int.gcd_eq_zero_iff (a := x) (b := y) |>.1 (by omega)).2
  have HG := (show Hid _ from hg)
  clear hg
  have B0 := below_alloc w (.cells #[.slice none 0 0, .slice none 0 0] 30)
  have S0 := box_new w [.slice none 0 0, .slice none 0 0] 30
  replace h := h.keep B0
  replace h' := h'.keep B0
  go_enter Tryz.func87, Tryz.ntmps87
  go_wp2_with fail
  refine (nGcd h h' hn hn').mono ?_
  rintro e w1 ⟨ag, kg, dg, rfl, OG, hkg, hB⟩
  replace h := h.keep hB
  replace h' := h'.keep hB
  replace S0 := S0.keep hB
  replace B0 := joinB B0 hB
  clear hB
  go_wp2_with fail
  refine (qQuot h OG.a (by omega) (by omega) HG.out).mono ?_
  rintro e w2 ⟨a, k, d, rfl, O1, hk, hB⟩
  replace h' := h'.keep hB
  replace OG := OG.keep hB
  replace S0 := S0.keep hB
  replace B0 := joinB B0 hB
  clear hB
  go_wp2_with fail
  refine (qQuot h' OG.a (by omega) (by omega) HG.out).mono ?_
  rintro e w3 ⟨a', k', d', rfl, O2, hk', hB⟩
  replace O1 := O1.keep hB
  replace S0 := S0.keep hB
  replace B0 := joinB B0 hB
  obtain ⟨c1, c2, f1, f2⟩ := S0.cells2
  have S2 := S0.put2 (.slice a k d) (.slice a' k' d')
  have P1 := O1.put2 S0 (.slice a k d) (.slice a' k' d')
  have P2 := O2.put2 S0 (.slice a k d) (.slice a' k' d')
  have HB := below_put2 B0 (Nat.le_refl _) (.slice a k d) (.slice a' k' d')
  clear hB h h' O1 O2 OG S0 B0
  go_wp2
  refine bodyPost_ret (ret_rat rfl rfl S2) rfl ?_
  exact ⟨a, k, d, a', k', d', rfl, P1, P2, hk, hk', HB⟩
/-- a fraction's parts, one without a denominator counting as 0 -/
def cn (x y : Int) : Int := if y = 0 then 0 else x
def cd (y : Int) : Int := if y = 0 then 1 else y
theorem cd_ne (y : Int) : cd y ≠ 0 := by unfold cd; split <;> omega
set_option maxHeartbeats 1000000 in
set_option maxRecDepth 100000 in
theorem qCounted {w : World} {ao ao' : Option Addr} {n c n' c' : Nat} {x y : Int} (h : NatA w ao n c x) (h' : NatA w ao' n' c' y) (hn : n ≤ 274877906944) (hn' : n' ≤ 274877906944) :
    Calls Tryz.prog 80 #[.agg #[.slice ao n c, .slice ao' n' c']] w fun e w' => ∃ a k d a' k' d', e = .returned (.agg #[.slice a k d, .slice a' k' d']) ∧ NatA w' a k d (cn x y) ∧ NatA w' a' k' d' (cd y) ∧ k ≤ n ∧ k' ≤ n' + 1 ∧ Below w.heap.size w w' := by
  unfold cn cd
  have hbz := bitLen_zero y h'.nonneg
  have B0 := below2 w (.cells #[.slice ao n c, .slice ao' n' c'] 30) (.cells #[.slice none 0 0, .slice none 0 0] 30)
  have BA := below_alloc w (.cells #[.slice ao n c, .slice ao' n' c'] 30)
  have SP := (box_new w [.slice ao n c, .slice ao' n' c'] 30).keep (below_alloc _ (.cells #[.slice none 0 0, .slice none 0 0] 30))
  have S0 := box_new (w.alloc (.cells #[.slice ao n c, .slice ao' n' c'] 30)) [.slice none 0 0, .slice none 0 0] 30
  rw [show (w.alloc (.cells #[.slice ao n c, .slice ao' n' c'] 30)).heap.size = w.heap.size + 1 by simp] at S0
  replace h := h.keep B0
  replace h' := h'.keep B0
  obtain ⟨p1, p2, p3, p4⟩ := SP.cells2
  have t := nBits h' (by omega)
  by_cases hy : y = 0
  · rw [hbz.2 hy] at t
    rw [if_pos hy, if_pos hy]
    clear hbz hy BA
    go_enter Tryz.func80, Tryz.ntmps80
    go_wp2_with fail
    refine t.mono ?_
    rintro e w1 ⟨rfl, hB⟩
    replace S0 := S0.keep hB
    replace B0 := joinB B0 hB
    clear hB t
    go_wp2_with fail
    refine (qOfNat (natO_nil w1).a (by omega)).mono ?_
    rintro e w2 ⟨a, k, d, a', k', d', rfl, O1, O2, hk, hk', hB⟩
    replace S0 := S0.keep hB
    replace B0 := joinB B0 hB
    obtain ⟨c1, c2, f1, f2⟩ := S0.cells2
    have S2 := S0.put2 (.slice a k d) (.slice a' k' d')
    have P1 := O1.put2 S0 (.slice a k d) (.slice a' k' d')
    have P2 := O2.put2 S0 (.slice a k d) (.slice a' k' d')
    have HB := below_put2 B0 (g := w.heap.size + 1) (by omega) (.slice a k d) (.slice a' k' d')
    clear hB h h' O1 O2 S0 B0
    go_wp2
    refine bodyPost_ret (ret_rat rfl rfl S2) rfl ?_
    exact ⟨a, k, d, a', k', d', rfl, P1.a, P2.a, by omega, by omega, HB⟩
  · have hm : bitLen y.toNat ≠ 0 := fun e => hy (hbz.1 e)
    rw [if_neg hy, if_neg hy]
    generalize bitLen y.toNat = m at *
    obtain ⟨j, rfl⟩ : ∃ j, m = j + 1 := ⟨m - 1, by omega⟩
    clear hm hy hbz BA
    go_enter Tryz.func80, Tryz.ntmps80
    go_wp2_with fail
    refine t.mono ?_
    rintro e w1 ⟨rfl, hB⟩
    replace S0 := S0.keep hB
    replace SP := SP.keep hB
    replace h := h.keep hB
    replace h' := h'.keep hB
    replace B0 := joinB B0 hB
    obtain ⟨p1, p2, p3, p4⟩ := SP.cells2
    obtain ⟨c1, c2, f1, f2⟩ := S0.cells2
    have S2 := S0.put2 (.slice ao n c) (.slice ao' n' c')
    have P1 := h.put2 S0 (.slice ao n c) (.slice ao' n' c')
    have P2 := h'.put2 S0 (.slice ao n c) (.slice ao' n' c')
    have HB := below_put2 B0 (g := w.heap.size + 1) (by omega) (.slice ao n c) (.slice ao' n' c')
    clear hB h h' S0 B0 SP t
    go_wp2
    refine bodyPost_ret (ret_rat rfl rfl S2) rfl ?_
    exact ⟨ao, n, c, ao', n', c', rfl, P1, P2, by omega, by omega, HB⟩
end Go.Proofs.YtjihgkanbhccpaaGreatDoor

namespace Go.Proofs.YtjihgkanbhccpaaGreatDoor
open Go.RowKit Lim

theorem load_at {w : World} {g o : Nat} {ao : Option Addr} {n c : Nat} (hc : w.cell? ⟨g, o, none⟩ = some (.slice ao n c)) : (loadVar 28 ⟨g, o, none⟩).run Tryz.prog w = .ok (.slice ao n c) w := by
  go_simp
set_option maxHeartbeats 8000000 in
set_option maxRecDepth 100000 in
theorem qCmp {w : World} {a0 b0 : Option Addr} {n0 c0 m0 d0 : Nat} {x0 y0 : Int} {a1 b1 : Option Addr} {n1 c1 m1 d1 : Nat} {x1 y1 : Int} (h0 : NatA w a0 n0 c0 x0) (e0 : NatA w b0 m0 d0 y0) (hn0 : n0 ≤ 34359738368) (hm0 : m0 ≤ 34359738368) (h1 : NatA w a1 n1 c1 x1) (e1 : NatA w b1 m1 d1 y1) (hn1 : n1 ≤ 34359738368) (hm1 : m1 ≤ 34359738368) :
    Calls Tryz.prog 19 #[.agg #[.slice a0 n0 c0, .slice b0 m0 d0], .agg #[.slice a1 n1 c1, .slice b1 m1 d1]] w fun e w' => e = .returned (.int .i64 (sgn ((cn x0 y0) * (cd y1)) ((cn x1 y1) * (cd y0)))) ∧ Below w.heap.size w w' := by
  have HB := below2 w (.cells #[.slice a0 n0 c0, .slice b0 m0 d0] 30) (.cells #[.slice a1 n1 c1, .slice b1 m1 d1] 30)
  have P0 := (box_new w [.slice a0 n0 c0, .slice b0 m0 d0] 30).keep (below_alloc _ (.cells #[.slice a1 n1 c1, .slice b1 m1 d1] 30))
  have P1 := box_new (w.alloc (.cells #[.slice a0 n0 c0, .slice b0 m0 d0] 30)) [.slice a1 n1 c1, .slice b1 m1 d1] 30
  rw [show (w.alloc (.cells #[.slice a0 n0 c0, .slice b0 m0 d0] 30)).heap.size = w.heap.size + 1 by simp] at P1
  replace h0 := h0.keep HB
  replace e0 := e0.keep HB
  replace h1 := h1.keep HB
  replace e1 := e1.keep HB
  go_enter Tryz.func19, Tryz.ntmps19
  go_wp2_with fail
  generalize (w.alloc (.cells #[.slice a0 n0 c0, .slice b0 m0 d0] 30)).alloc (.cells #[.slice a1 n1 c1, .slice b1 m1 d1] 30) = u0 at *
  refine rg_mid (X := Nat × Nat × Option Addr × Nat × Nat × Option Addr × Nat × Nat × Option Addr × Nat × Nat × Option Addr × Nat × Nat) (fun ⟨g5, g6, A0, K0, D0, B0, L0, M0, A1, K1, D1, B1, L1, M1⟩ => [(some 7, .agg #[.slice a0 n0 c0, .slice b0 m0 d0]), (some 8, .agg #[.slice A0 K0 D0, .slice B0 L0 M0]), (some 9, .agg #[.slice a1 n1 c1, .slice b1 m1 d1]), (some 10, .agg #[.slice A1 K1 D1, .slice B1 L1 M1]), (some 5, .pointer (some ⟨g5, 0, none⟩)), (some 6, .pointer (some ⟨g6, 0, none⟩))]) (fun ⟨g5, g6, A0, K0, D0, B0, L0, M0, A1, K1, D1, B1, L1, M1⟩ w' => Box w' g5 [.slice A0 K0 D0, .slice B0 L0 M0] 30 ∧ Box w' g6 [.slice A1 K1 D1, .slice B1 L1 M1] 30 ∧ NatA w' A0 K0 D0 (cn x0 y0) ∧ NatA w' B0 L0 M0 (cd y0) ∧ NatA w' A1 K1 D1 (cn x1 y1) ∧ NatA w' B1 L1 M1 (cd y1) ∧ K0 ≤ n0 ∧ L0 ≤ m0 + 1 ∧ K1 ≤ n1 ∧ L1 ≤ m1 + 1 ∧ Below w.heap.size w w') (fun w' => Below u0.drew.heap.size u0.drew w') (by kernel_rfl) (Below.refl _ _) ?_ ?_
  · replace HB := HB.drew
    have UP0 := P0.drew
    have UP1 := P1.drew
    replace h0 := h0.drew
    replace e0 := e0.drew
    replace h1 := h1.drew
    replace e1 := e1.drew
    have hBu := HB.size
    have hS := Below.refl u0.drew.heap.size u0.drew
    clear P0 P1
    refine rg_load 0 (some 7) (.agg #[.slice a0 n0 c0, .slice b0 m0 d0]) 30 2 (w.heap.size) 0 (by kernel_rfl) (by kernel_rfl) (by kernel_rfl) (fun _ hb => load_rat (UP0.keep hb)) (fun _ _ _ h => h) hS ?_
    refine rg_load 2 (some 9) (.agg #[.slice a1 n1 c1, .slice b1 m1 d1]) 30 3 (w.heap.size + 1) 0 (by kernel_rfl) (by kernel_rfl) (by kernel_rfl) (fun _ hb => load_rat (UP1.keep hb)) (fun _ _ _ h => h) hS ?_
    refine rg_ready [1, 4, 5] (by kernel_rfl) (by simp) ?_
    refine ar_call 1 (some 8) 80 #[.agg #[.slice a0 n0 c0, .slice b0 m0 d0]] (by kernel_rfl) (by kernel_rfl) (qCounted h0 e0 (by omega) (by omega)) ?_ ?_
    · rintro e v1 ⟨A0, K0, D0, B0, L0, M0, rfl, C0, E0, hK0, hL0, hB⟩
      refine ⟨_, rfl, joinB hS hB, ?_⟩
      replace hS := joinB hS hB
      replace HB := joinB HB hB
      replace h0 := h0.keep hB
      replace e0 := e0.keep hB
      replace h1 := h1.keep hB
      replace e1 := e1.keep hB
      clear hB
      refine rg_ready [3, 4, 5] (by kernel_rfl) (by simp) ?_
      refine ar_call 3 (some 10) 80 #[.agg #[.slice a1 n1 c1, .slice b1 m1 d1]] (by kernel_rfl) (by kernel_rfl) (qCounted h1 e1 (by omega) (by omega)) ?_ ?_
      · rintro e v2 ⟨A1, K1, D1, B1, L1, M1, rfl, C1, E1, hK1, hL1, hB⟩
        refine ⟨_, rfl, joinB hS hB, ?_⟩
        replace hS := joinB hS hB
        replace HB := joinB HB hB
        replace h0 := h0.keep hB
        replace e0 := e0.keep hB
        replace h1 := h1.keep hB
        replace e1 := e1.keep hB
        replace C0 := C0.keep hB
        replace E0 := E0.keep hB
        clear hB
        refine rg_ready [4, 5] (by kernel_rfl) (by simp) ?_
        refine ar_alloc 4 (some 5) 30 [.slice none 0 0, .slice none 0 0] (by kernel_rfl) (by kernel_rfl) ?_ ?_
        · intro v3 X5 hB
          refine ⟨joinB hS hB, ?_⟩
          have hX5 := hS.size
          replace hS := joinB hS hB
          replace HB := joinB HB hB
          replace h0 := h0.keep hB
          replace e0 := e0.keep hB
          replace h1 := h1.keep hB
          replace e1 := e1.keep hB
          replace C0 := C0.keep hB
          replace E0 := E0.keep hB
          replace C1 := C1.keep hB
          replace E1 := E1.keep hB
          clear hB
          refine rg_ready [5] (by kernel_rfl) (by simp) ?_
          refine ar_alloc 5 (some 6) 30 [.slice none 0 0, .slice none 0 0] (by kernel_rfl) (by kernel_rfl) ?_ ?_
          · intro v4 X6 hB
            refine ⟨joinB hS hB, ?_⟩
            have hX6 := hS.size
            replace hS := joinB hS hB
            replace HB := joinB HB hB
            have nX5X6 := Nat.ne_of_lt X5.lt
            replace h0 := h0.keep hB
            replace e0 := e0.keep hB
            replace h1 := h1.keep hB
            replace e1 := e1.keep hB
            replace C0 := C0.keep hB
            replace E0 := E0.keep hB
            replace C1 := C1.keep hB
            replace E1 := E1.keep hB
            replace X5 := X5.keep hB
            clear hB
            refine rg_ready [6] (by kernel_rfl) (by simp) ?_
            refine ar_store 6 30 30 5 8 (v2.heap.size) [.slice none 0 0, .slice none 0 0] [.slice A0 K0 D0, .slice B0 L0 M0] (by kernel_rfl) (by kernel_rfl) (by kernel_rfl) (by kernel_rfl) X5 (by kernel_rfl) rfl (by kernel_rfl) ?_ ?_
            · intro v5 Y hw hB
              refine ⟨hS.trans (hB.mono hX5), ?_⟩
              replace HB := HB.trans (hB.mono (Nat.le_trans hBu hX5))
              replace hS := hS.trans (hB.mono hX5)
              replace h0 := h0.blk X5 (no_ints2 _ _ _ _ _ _) hw
              replace e0 := e0.blk X5 (no_ints2 _ _ _ _ _ _) hw
              replace h1 := h1.blk X5 (no_ints2 _ _ _ _ _ _) hw
              replace e1 := e1.blk X5 (no_ints2 _ _ _ _ _ _) hw
              replace C0 := C0.blk X5 (no_ints2 _ _ _ _ _ _) hw
              replace E0 := E0.blk X5 (no_ints2 _ _ _ _ _ _) hw
              replace C1 := C1.blk X5 (no_ints2 _ _ _ _ _ _) hw
              replace E1 := E1.blk X5 (no_ints2 _ _ _ _ _ _) hw
              replace X6 := X6.off (Ne.symm nX5X6) hw
              replace X5 := Y
              clear hB hw
              refine rg_ready [7] (by kernel_rfl) (by simp) ?_
              refine ar_store 7 30 30 6 10 (v3.heap.size) [.slice none 0 0, .slice none 0 0] [.slice A1 K1 D1, .slice B1 L1 M1] (by kernel_rfl) (by kernel_rfl) (by kernel_rfl) (by kernel_rfl) X6 (by kernel_rfl) rfl (by kernel_rfl) ?_ ?_
              · intro v6 Y hw hB
                refine ⟨hS.trans (hB.mono hX6), ?_⟩
                replace HB := HB.trans (hB.mono (Nat.le_trans hBu hX6))
                replace hS := hS.trans (hB.mono hX6)
                replace h0 := h0.blk X6 (no_ints2 _ _ _ _ _ _) hw
                replace e0 := e0.blk X6 (no_ints2 _ _ _ _ _ _) hw
                replace h1 := h1.blk X6 (no_ints2 _ _ _ _ _ _) hw
                replace e1 := e1.blk X6 (no_ints2 _ _ _ _ _ _) hw
                replace C0 := C0.blk X6 (no_ints2 _ _ _ _ _ _) hw
                replace E0 := E0.blk X6 (no_ints2 _ _ _ _ _ _) hw
                replace C1 := C1.blk X6 (no_ints2 _ _ _ _ _ _) hw
                replace E1 := E1.blk X6 (no_ints2 _ _ _ _ _ _) hw
                replace X5 := X5.off nX5X6 hw
                replace X6 := Y
                clear hB hw
                refine rg_done (by kernel_rfl) ?_
                exact ⟨(v2.heap.size, v3.heap.size, A0, K0, D0, B0, L0, M0, A1, K1, D1, B1, L1, M1), by kernel_rfl, X5, X6, C0, E0, C1, E1, hK0, hL0, hK1, hL1, HB⟩
              exact ar_nil
            exact ar_nil
          exact ar_nil
        refine ar_alloc 5 (some 6) 30 [.slice none 0 0, .slice none 0 0] (by kernel_rfl) (by kernel_rfl) ?_ ?_
        · intro v7 X6 hB
          refine ⟨joinB hS hB, ?_⟩
          have hX6 := hS.size
          replace hS := joinB hS hB
          replace HB := joinB HB hB
          replace h0 := h0.keep hB
          replace e0 := e0.keep hB
          replace h1 := h1.keep hB
          replace e1 := e1.keep hB
          replace C0 := C0.keep hB
          replace E0 := E0.keep hB
          replace C1 := C1.keep hB
          replace E1 := E1.keep hB
          clear hB
          refine rg_ready [4] (by kernel_rfl) (by simp) ?_
          refine ar_alloc 4 (some 5) 30 [.slice none 0 0, .slice none 0 0] (by kernel_rfl) (by kernel_rfl) ?_ ?_
          · intro v8 X5 hB
            refine ⟨joinB hS hB, ?_⟩
            have hX5 := hS.size
            replace hS := joinB hS hB
            replace HB := joinB HB hB
            have nX6X5 := Nat.ne_of_lt X6.lt
            replace h0 := h0.keep hB
            replace e0 := e0.keep hB
            replace h1 := h1.keep hB
            replace e1 := e1.keep hB
            replace C0 := C0.keep hB
            replace E0 := E0.keep hB
            replace C1 := C1.keep hB
            replace E1 := E1.keep hB
            replace X6 := X6.keep hB
            clear hB
            refine rg_ready [6] (by kernel_rfl) (by simp) ?_
            refine ar_store 6 30 30 5 8 (v7.heap.size) [.slice none 0 0, .slice none 0 0] [.slice A0 K0 D0, .slice B0 L0 M0] (by kernel_rfl) (by kernel_rfl) (by kernel_rfl) (by kernel_rfl) X5 (by kernel_rfl) rfl (by kernel_rfl) ?_ ?_
            · intro v9 Y hw hB
              refine ⟨hS.trans (hB.mono hX5), ?_⟩
              replace HB := HB.trans (hB.mono (Nat.le_trans hBu hX5))
              replace hS := hS.trans (hB.mono hX5)
              replace h0 := h0.blk X5 (no_ints2 _ _ _ _ _ _) hw
              replace e0 := e0.blk X5 (no_ints2 _ _ _ _ _ _) hw
              replace h1 := h1.blk X5 (no_ints2 _ _ _ _ _ _) hw
              replace e1 := e1.blk X5 (no_ints2 _ _ _ _ _ _) hw
              replace C0 := C0.blk X5 (no_ints2 _ _ _ _ _ _) hw
              replace E0 := E0.blk X5 (no_ints2 _ _ _ _ _ _) hw
              replace C1 := C1.blk X5 (no_ints2 _ _ _ _ _ _) hw
              replace E1 := E1.blk X5 (no_ints2 _ _ _ _ _ _) hw
              replace X6 := X6.off nX6X5 hw
              replace X5 := Y
              clear hB hw
              refine rg_ready [7] (by kernel_rfl) (by simp) ?_
              refine ar_store 7 30 30 6 10 (v2.heap.size) [.slice none 0 0, .slice none 0 0] [.slice A1 K1 D1, .slice B1 L1 M1] (by kernel_rfl) (by kernel_rfl) (by kernel_rfl) (by kernel_rfl) X6 (by kernel_rfl) rfl (by kernel_rfl) ?_ ?_
              · intro v10 Y hw hB
                refine ⟨hS.trans (hB.mono hX6), ?_⟩
                replace HB := HB.trans (hB.mono (Nat.le_trans hBu hX6))
                replace hS := hS.trans (hB.mono hX6)
                replace h0 := h0.blk X6 (no_ints2 _ _ _ _ _ _) hw
                replace e0 := e0.blk X6 (no_ints2 _ _ _ _ _ _) hw
                replace h1 := h1.blk X6 (no_ints2 _ _ _ _ _ _) hw
                replace e1 := e1.blk X6 (no_ints2 _ _ _ _ _ _) hw
                replace C0 := C0.blk X6 (no_ints2 _ _ _ _ _ _) hw
                replace E0 := E0.blk X6 (no_ints2 _ _ _ _ _ _) hw
                replace C1 := C1.blk X6 (no_ints2 _ _ _ _ _ _) hw
                replace E1 := E1.blk X6 (no_ints2 _ _ _ _ _ _) hw
                replace X5 := X5.off (Ne.symm nX6X5) hw
                replace X6 := Y
                clear hB hw
                refine rg_done (by kernel_rfl) ?_
                exact ⟨(v7.heap.size, v2.heap.size, A0, K0, D0, B0, L0, M0, A1, K1, D1, B1, L1, M1), by kernel_rfl, X5, X6, C0, E0, C1, E1, hK0, hL0, hK1, hL1, HB⟩
              exact ar_nil
            exact ar_nil
          exact ar_nil
        exact ar_nil
      refine ar_alloc 4 (some 5) 30 [.slice none 0 0, .slice none 0 0] (by kernel_rfl) (by kernel_rfl) ?_ ?_
      · intro v11 X5 hB
        refine ⟨joinB hS hB, ?_⟩
        have hX5 := hS.size
        replace hS := joinB hS hB
        replace HB := joinB HB hB
        replace h0 := h0.keep hB
        replace e0 := e0.keep hB
        replace h1 := h1.keep hB
        replace e1 := e1.keep hB
        replace C0 := C0.keep hB
        replace E0 := E0.keep hB
        clear hB
        refine rg_ready [3, 5] (by kernel_rfl) (by simp) ?_
        refine ar_call 3 (some 10) 80 #[.agg #[.slice a1 n1 c1, .slice b1 m1 d1]] (by kernel_rfl) (by kernel_rfl) (qCounted h1 e1 (by omega) (by omega)) ?_ ?_
        · rintro e v12 ⟨A1, K1, D1, B1, L1, M1, rfl, C1, E1, hK1, hL1, hB⟩
          refine ⟨_, rfl, joinB hS hB, ?_⟩
          replace hS := joinB hS hB
          replace HB := joinB HB hB
          replace h0 := h0.keep hB
          replace e0 := e0.keep hB
          replace h1 := h1.keep hB
          replace e1 := e1.keep hB
          replace C0 := C0.keep hB
          replace E0 := E0.keep hB
          replace X5 := X5.keep hB
          clear hB
          refine rg_ready [5] (by kernel_rfl) (by simp) ?_
          refine ar_alloc 5 (some 6) 30 [.slice none 0 0, .slice none 0 0] (by kernel_rfl) (by kernel_rfl) ?_ ?_
          · intro v13 X6 hB
            refine ⟨joinB hS hB, ?_⟩
            have hX6 := hS.size
            replace hS := joinB hS hB
            replace HB := joinB HB hB
            have nX5X6 := Nat.ne_of_lt X5.lt
            replace h0 := h0.keep hB
            replace e0 := e0.keep hB
            replace h1 := h1.keep hB
            replace e1 := e1.keep hB
            replace C0 := C0.keep hB
            replace E0 := E0.keep hB
            replace C1 := C1.keep hB
            replace E1 := E1.keep hB
            replace X5 := X5.keep hB
            clear hB
            refine rg_ready [6] (by kernel_rfl) (by simp) ?_
            refine ar_store 6 30 30 5 8 (v1.heap.size) [.slice none 0 0, .slice none 0 0] [.slice A0 K0 D0, .slice B0 L0 M0] (by kernel_rfl) (by kernel_rfl) (by kernel_rfl) (by kernel_rfl) X5 (by kernel_rfl) rfl (by kernel_rfl) ?_ ?_
            · intro v14 Y hw hB
              refine ⟨hS.trans (hB.mono hX5), ?_⟩
              replace HB := HB.trans (hB.mono (Nat.le_trans hBu hX5))
              replace hS := hS.trans (hB.mono hX5)
              replace h0 := h0.blk X5 (no_ints2 _ _ _ _ _ _) hw
              replace e0 := e0.blk X5 (no_ints2 _ _ _ _ _ _) hw
              replace h1 := h1.blk X5 (no_ints2 _ _ _ _ _ _) hw
              replace e1 := e1.blk X5 (no_ints2 _ _ _ _ _ _) hw
              replace C0 := C0.blk X5 (no_ints2 _ _ _ _ _ _) hw
              replace E0 := E0.blk X5 (no_ints2 _ _ _ _ _ _) hw
              replace C1 := C1.blk X5 (no_ints2 _ _ _ _ _ _) hw
              replace E1 := E1.blk X5 (no_ints2 _ _ _ _ _ _) hw
              replace X6 := X6.off (Ne.symm nX5X6) hw
              replace X5 := Y
              clear hB hw
              refine rg_ready [7] (by kernel_rfl) (by simp) ?_
              refine ar_store 7 30 30 6 10 (v12.heap.size) [.slice none 0 0, .slice none 0 0] [.slice A1 K1 D1, .slice B1 L1 M1] (by kernel_rfl) (by kernel_rfl) (by kernel_rfl) (by kernel_rfl) X6 (by kernel_rfl) rfl (by kernel_rfl) ?_ ?_
              · intro v15 Y hw hB
                refine ⟨hS.trans (hB.mono hX6), ?_⟩
                replace HB := HB.trans (hB.mono (Nat.le_trans hBu hX6))
                replace hS := hS.trans (hB.mono hX6)
                replace h0 := h0.blk X6 (no_ints2 _ _ _ _ _ _) hw
                replace e0 := e0.blk X6 (no_ints2 _ _ _ _ _ _) hw
                replace h1 := h1.blk X6 (no_ints2 _ _ _ _ _ _) hw
                replace e1 := e1.blk X6 (no_ints2 _ _ _ _ _ _) hw
                replace C0 := C0.blk X6 (no_ints2 _ _ _ _ _ _) hw
                replace E0 := E0.blk X6 (no_ints2 _ _ _ _ _ _) hw
                replace C1 := C1.blk X6 (no_ints2 _ _ _ _ _ _) hw
                replace E1 := E1.blk X6 (no_ints2 _ _ _ _ _ _) hw
                replace X5 := X5.off nX5X6 hw
                replace X6 := Y
                clear hB hw
                refine rg_done (by kernel_rfl) ?_
                exact ⟨(v1.heap.size, v12.heap.size, A0, K0, D0, B0, L0, M0, A1, K1, D1, B1, L1, M1), by kernel_rfl, X5, X6, C0, E0, C1, E1, hK0, hL0, hK1, hL1, HB⟩
              exact ar_nil
            exact ar_nil
          exact ar_nil
        refine ar_alloc 5 (some 6) 30 [.slice none 0 0, .slice none 0 0] (by kernel_rfl) (by kernel_rfl) ?_ ?_
        · intro v16 X6 hB
          refine ⟨joinB hS hB, ?_⟩
          have hX6 := hS.size
          replace hS := joinB hS hB
          replace HB := joinB HB hB
          have nX5X6 := Nat.ne_of_lt X5.lt
          replace h0 := h0.keep hB
          replace e0 := e0.keep hB
          replace h1 := h1.keep hB
          replace e1 := e1.keep hB
          replace C0 := C0.keep hB
          replace E0 := E0.keep hB
          replace X5 := X5.keep hB
          clear hB
          refine rg_ready [3] (by kernel_rfl) (by simp) ?_
          refine ar_call 3 (some 10) 80 #[.agg #[.slice a1 n1 c1, .slice b1 m1 d1]] (by kernel_rfl) (by kernel_rfl) (qCounted h1 e1 (by omega) (by omega)) ?_ ?_
          · rintro e v17 ⟨A1, K1, D1, B1, L1, M1, rfl, C1, E1, hK1, hL1, hB⟩
            refine ⟨_, rfl, joinB hS hB, ?_⟩
            replace hS := joinB hS hB
            replace HB := joinB HB hB
            replace h0 := h0.keep hB
            replace e0 := e0.keep hB
            replace h1 := h1.keep hB
            replace e1 := e1.keep hB
            replace C0 := C0.keep hB
            replace E0 := E0.keep hB
            replace X5 := X5.keep hB
            replace X6 := X6.keep hB
            clear hB
            refine rg_ready [6] (by kernel_rfl) (by simp) ?_
            refine ar_store 6 30 30 5 8 (v1.heap.size) [.slice none 0 0, .slice none 0 0] [.slice A0 K0 D0, .slice B0 L0 M0] (by kernel_rfl) (by kernel_rfl) (by kernel_rfl) (by kernel_rfl) X5 (by kernel_rfl) rfl (by kernel_rfl) ?_ ?_
            · intro v18 Y hw hB
              refine ⟨hS.trans (hB.mono hX5), ?_⟩
              replace HB := HB.trans (hB.mono (Nat.le_trans hBu hX5))
              replace hS := hS.trans (hB.mono hX5)
              replace h0 := h0.blk X5 (no_ints2 _ _ _ _ _ _) hw
              replace e0 := e0.blk X5 (no_ints2 _ _ _ _ _ _) hw
              replace h1 := h1.blk X5 (no_ints2 _ _ _ _ _ _) hw
              replace e1 := e1.blk X5 (no_ints2 _ _ _ _ _ _) hw
              replace C0 := C0.blk X5 (no_ints2 _ _ _ _ _ _) hw
              replace E0 := E0.blk X5 (no_ints2 _ _ _ _ _ _) hw
              replace C1 := C1.blk X5 (no_ints2 _ _ _ _ _ _) hw
              replace E1 := E1.blk X5 (no_ints2 _ _ _ _ _ _) hw
              replace X6 := X6.off (Ne.symm nX5X6) hw
              replace X5 := Y
              clear hB hw
              refine rg_ready [7] (by kernel_rfl) (by simp) ?_
              refine ar_store 7 30 30 6 10 (v11.heap.size) [.slice none 0 0, .slice none 0 0] [.slice A1 K1 D1, .slice B1 L1 M1] (by kernel_rfl) (by kernel_rfl) (by kernel_rfl) (by kernel_rfl) X6 (by kernel_rfl) rfl (by kernel_rfl) ?_ ?_
              · intro v19 Y hw hB
                refine ⟨hS.trans (hB.mono hX6), ?_⟩
                replace HB := HB.trans (hB.mono (Nat.le_trans hBu hX6))
                replace hS := hS.trans (hB.mono hX6)
                replace h0 := h0.blk X6 (no_ints2 _ _ _ _ _ _) hw
                replace e0 := e0.blk X6 (no_ints2 _ _ _ _ _ _) hw
                replace h1 := h1.blk X6 (no_ints2 _ _ _ _ _ _) hw
                replace e1 := e1.blk X6 (no_ints2 _ _ _ _ _ _) hw
                replace C0 := C0.blk X6 (no_ints2 _ _ _ _ _ _) hw
                replace E0 := E0.blk X6 (no_ints2 _ _ _ _ _ _) hw
                replace C1 := C1.blk X6 (no_ints2 _ _ _ _ _ _) hw
                replace E1 := E1.blk X6 (no_ints2 _ _ _ _ _ _) hw
                replace X5 := X5.off nX5X6 hw
                replace X6 := Y
                clear hB hw
                refine rg_done (by kernel_rfl) ?_
                exact ⟨(v1.heap.size, v11.heap.size, A0, K0, D0, B0, L0, M0, A1, K1, D1, B1, L1, M1), by kernel_rfl, X5, X6, C0, E0, C1, E1, hK0, hL0, hK1, hL1, HB⟩
              exact ar_nil
            exact ar_nil
          exact ar_nil
        exact ar_nil
      refine ar_alloc 5 (some 6) 30 [.slice none 0 0, .slice none 0 0] (by kernel_rfl) (by kernel_rfl) ?_ ?_
      · intro v20 X6 hB
        refine ⟨joinB hS hB, ?_⟩
        have hX6 := hS.size
        replace hS := joinB hS hB
        replace HB := joinB HB hB
        replace h0 := h0.keep hB
        replace e0 := e0.keep hB
        replace h1 := h1.keep hB
        replace e1 := e1.keep hB
        replace C0 := C0.keep hB
        replace E0 := E0.keep hB
        clear hB
        refine rg_ready [3, 4] (by kernel_rfl) (by simp) ?_
        refine ar_call 3 (some 10) 80 #[.agg #[.slice a1 n1 c1, .slice b1 m1 d1]] (by kernel_rfl) (by kernel_rfl) (qCounted h1 e1 (by omega) (by omega)) ?_ ?_
        · rintro e v21 ⟨A1, K1, D1, B1, L1, M1, rfl, C1, E1, hK1, hL1, hB⟩
          refine ⟨_, rfl, joinB hS hB, ?_⟩
          replace hS := joinB hS hB
          replace HB := joinB HB hB
          replace h0 := h0.keep hB
          replace e0 := e0.keep hB
          replace h1 := h1.keep hB
          replace e1 := e1.keep hB
          replace C0 := C0.keep hB
          replace E0 := E0.keep hB
          replace X6 := X6.keep hB
          clear hB
          refine rg_ready [4] (by kernel_rfl) (by simp) ?_
          refine ar_alloc 4 (some 5) 30 [.slice none 0 0, .slice none 0 0] (by kernel_rfl) (by kernel_rfl) ?_ ?_
          · intro v22 X5 hB
            refine ⟨joinB hS hB, ?_⟩
            have hX5 := hS.size
            replace hS := joinB hS hB
            replace HB := joinB HB hB
            have nX6X5 := Nat.ne_of_lt X6.lt
            replace h0 := h0.keep hB
            replace e0 := e0.keep hB
            replace h1 := h1.keep hB
            replace e1 := e1.keep hB
            replace C0 := C0.keep hB
            replace E0 := E0.keep hB
            replace C1 := C1.keep hB
            replace E1 := E1.keep hB
            replace X6 := X6.keep hB
            clear hB
            refine rg_ready [6] (by kernel_rfl) (by simp) ?_
            refine ar_store 6 30 30 5 8 (v21.heap.size) [.slice none 0 0, .slice none 0 0] [.slice A0 K0 D0, .slice B0 L0 M0] (by kernel_rfl) (by kernel_rfl) (by kernel_rfl) (by kernel_rfl) X5 (by kernel_rfl) rfl (by kernel_rfl) ?_ ?_
            · intro v23 Y hw hB
              refine ⟨hS.trans (hB.mono hX5), ?_⟩
              replace HB := HB.trans (hB.mono (Nat.le_trans hBu hX5))
              replace hS := hS.trans (hB.mono hX5)
              replace h0 := h0.blk X5 (no_ints2 _ _ _ _ _ _) hw
              replace e0 := e0.blk X5 (no_ints2 _ _ _ _ _ _) hw
              replace h1 := h1.blk X5 (no_ints2 _ _ _ _ _ _) hw
              replace e1 := e1.blk X5 (no_ints2 _ _ _ _ _ _) hw
              replace C0 := C0.blk X5 (no_ints2 _ _ _ _ _ _) hw
              replace E0 := E0.blk X5 (no_ints2 _ _ _ _ _ _) hw
              replace C1 := C1.blk X5 (no_ints2 _ _ _ _ _ _) hw
              replace E1 := E1.blk X5 (no_ints2 _ _ _ _ _ _) hw
              replace X6 := X6.off nX6X5 hw
              replace X5 := Y
              clear hB hw
              refine rg_ready [7] (by kernel_rfl) (by simp) ?_
              refine ar_store 7 30 30 6 10 (v1.heap.size) [.slice none 0 0, .slice none 0 0] [.slice A1 K1 D1, .slice B1 L1 M1] (by kernel_rfl) (by kernel_rfl) (by kernel_rfl) (by kernel_rfl) X6 (by kernel_rfl) rfl (by kernel_rfl) ?_ ?_
              · intro v24 Y hw hB
                refine ⟨hS.trans (hB.mono hX6), ?_⟩
                replace HB := HB.trans (hB.mono (Nat.le_trans hBu hX6))
                replace hS := hS.trans (hB.mono hX6)
                replace h0 := h0.blk X6 (no_ints2 _ _ _ _ _ _) hw
                replace e0 := e0.blk X6 (no_ints2 _ _ _ _ _ _) hw
                replace h1 := h1.blk X6 (no_ints2 _ _ _ _ _ _) hw
                replace e1 := e1.blk X6 (no_ints2 _ _ _ _ _ _) hw
                replace C0 := C0.blk X6 (no_ints2 _ _ _ _ _ _) hw
                replace E0 := E0.blk X6 (no_ints2 _ _ _ _ _ _) hw
                replace C1 := C1.blk X6 (no_ints2 _ _ _ _ _ _) hw
                replace E1 := E1.blk X6 (no_ints2 _ _ _ _ _ _) hw
                replace X5 := X5.off (Ne.symm nX6X5) hw
                replace X6 := Y
                clear hB hw
                refine rg_done (by kernel_rfl) ?_
                exact ⟨(v21.heap.size, v1.heap.size, A0, K0, D0, B0, L0, M0, A1, K1, D1, B1, L1, M1), by kernel_rfl, X5, X6, C0, E0, C1, E1, hK0, hL0, hK1, hL1, HB⟩
              exact ar_nil
            exact ar_nil
          exact ar_nil
        refine ar_alloc 4 (some 5) 30 [.slice none 0 0, .slice none 0 0] (by kernel_rfl) (by kernel_rfl) ?_ ?_
        · intro v25 X5 hB
          refine ⟨joinB hS hB, ?_⟩
          have hX5 := hS.size
          replace hS := joinB hS hB
          replace HB := joinB HB hB
          have nX6X5 := Nat.ne_of_lt X6.lt
          replace h0 := h0.keep hB
          replace e0 := e0.keep hB
          replace h1 := h1.keep hB
          replace e1 := e1.keep hB
          replace C0 := C0.keep hB
          replace E0 := E0.keep hB
          replace X6 := X6.keep hB
          clear hB
          refine rg_ready [3] (by kernel_rfl) (by simp) ?_
          refine ar_call 3 (some 10) 80 #[.agg #[.slice a1 n1 c1, .slice b1 m1 d1]] (by kernel_rfl) (by kernel_rfl) (qCounted h1 e1 (by omega) (by omega)) ?_ ?_
          · rintro e v26 ⟨A1, K1, D1, B1, L1, M1, rfl, C1, E1, hK1, hL1, hB⟩
            refine ⟨_, rfl, joinB hS hB, ?_⟩
            replace hS := joinB hS hB
            replace HB := joinB HB hB
            replace h0 := h0.keep hB
            replace e0 := e0.keep hB
            replace h1 := h1.keep hB
            replace e1 := e1.keep hB
            replace C0 := C0.keep hB
            replace E0 := E0.keep hB
            replace X6 := X6.keep hB
            replace X5 := X5.keep hB
            clear hB
            refine rg_ready [6] (by kernel_rfl) (by simp) ?_
            refine ar_store 6 30 30 5 8 (v20.heap.size) [.slice none 0 0, .slice none 0 0] [.slice A0 K0 D0, .slice B0 L0 M0] (by kernel_rfl) (by kernel_rfl) (by kernel_rfl) (by kernel_rfl) X5 (by kernel_rfl) rfl (by kernel_rfl) ?_ ?_
            · intro v27 Y hw hB
              refine ⟨hS.trans (hB.mono hX5), ?_⟩
              replace HB := HB.trans (hB.mono (Nat.le_trans hBu hX5))
              replace hS := hS.trans (hB.mono hX5)
              replace h0 := h0.blk X5 (no_ints2 _ _ _ _ _ _) hw
              replace e0 := e0.blk X5 (no_ints2 _ _ _ _ _ _) hw
              replace h1 := h1.blk X5 (no_ints2 _ _ _ _ _ _) hw
              replace e1 := e1.blk X5 (no_ints2 _ _ _ _ _ _) hw
              replace C0 := C0.blk X5 (no_ints2 _ _ _ _ _ _) hw
              replace E0 := E0.blk X5 (no_ints2 _ _ _ _ _ _) hw
              replace C1 := C1.blk X5 (no_ints2 _ _ _ _ _ _) hw
              replace E1 := E1.blk X5 (no_ints2 _ _ _ _ _ _) hw
              replace X6 := X6.off nX6X5 hw
              replace X5 := Y
              clear hB hw
              refine rg_ready [7] (by kernel_rfl) (by simp) ?_
              refine ar_store 7 30 30 6 10 (v1.heap.size) [.slice none 0 0, .slice none 0 0] [.slice A1 K1 D1, .slice B1 L1 M1] (by kernel_rfl) (by kernel_rfl) (by kernel_rfl) (by kernel_rfl) X6 (by kernel_rfl) rfl (by kernel_rfl) ?_ ?_
              · intro v28 Y hw hB
                refine ⟨hS.trans (hB.mono hX6), ?_⟩
                replace HB := HB.trans (hB.mono (Nat.le_trans hBu hX6))
                replace hS := hS.trans (hB.mono hX6)
                replace h0 := h0.blk X6 (no_ints2 _ _ _ _ _ _) hw
                replace e0 := e0.blk X6 (no_ints2 _ _ _ _ _ _) hw
                replace h1 := h1.blk X6 (no_ints2 _ _ _ _ _ _) hw
                replace e1 := e1.blk X6 (no_ints2 _ _ _ _ _ _) hw
                replace C0 := C0.blk X6 (no_ints2 _ _ _ _ _ _) hw
                replace E0 := E0.blk X6 (no_ints2 _ _ _ _ _ _) hw
                replace C1 := C1.blk X6 (no_ints2 _ _ _ _ _ _) hw
                replace E1 := E1.blk X6 (no_ints2 _ _ _ _ _ _) hw
                replace X5 := X5.off (Ne.symm nX6X5) hw
                replace X6 := Y
                clear hB hw
                refine rg_done (by kernel_rfl) ?_
                exact ⟨(v20.heap.size, v1.heap.size, A0, K0, D0, B0, L0, M0, A1, K1, D1, B1, L1, M1), by kernel_rfl, X5, X6, C0, E0, C1, E1, hK0, hL0, hK1, hL1, HB⟩
              exact ar_nil
            exact ar_nil
          exact ar_nil
        exact ar_nil
      exact ar_nil
    refine ar_alloc 4 (some 5) 30 [.slice none 0 0, .slice none 0 0] (by kernel_rfl) (by kernel_rfl) ?_ ?_
    · intro v29 X5 hB
      refine ⟨joinB hS hB, ?_⟩
      have hX5 := hS.size
      replace hS := joinB hS hB
      replace HB := joinB HB hB
      replace h0 := h0.keep hB
      replace e0 := e0.keep hB
      replace h1 := h1.keep hB
      replace e1 := e1.keep hB
      clear hB
      refine rg_ready [1, 5] (by kernel_rfl) (by simp) ?_
      refine ar_call 1 (some 8) 80 #[.agg #[.slice a0 n0 c0, .slice b0 m0 d0]] (by kernel_rfl) (by kernel_rfl) (qCounted h0 e0 (by omega) (by omega)) ?_ ?_
      · rintro e v30 ⟨A0, K0, D0, B0, L0, M0, rfl, C0, E0, hK0, hL0, hB⟩
        refine ⟨_, rfl, joinB hS hB, ?_⟩
        replace hS := joinB hS hB
        replace HB := joinB HB hB
        replace h0 := h0.keep hB
        replace e0 := e0.keep hB
        replace h1 := h1.keep hB
        replace e1 := e1.keep hB
        replace X5 := X5.keep hB
        clear hB
        refine rg_ready [3, 5] (by kernel_rfl) (by simp) ?_
        refine ar_call 3 (some 10) 80 #[.agg #[.slice a1 n1 c1, .slice b1 m1 d1]] (by kernel_rfl) (by kernel_rfl) (qCounted h1 e1 (by omega) (by omega)) ?_ ?_
        · rintro e v31 ⟨A1, K1, D1, B1, L1, M1, rfl, C1, E1, hK1, hL1, hB⟩
          refine ⟨_, rfl, joinB hS hB, ?_⟩
          replace hS := joinB hS hB
          replace HB := joinB HB hB
          replace h0 := h0.keep hB
          replace e0 := e0.keep hB
          replace h1 := h1.keep hB
          replace e1 := e1.keep hB
          replace C0 := C0.keep hB
          replace E0 := E0.keep hB
          replace X5 := X5.keep hB
          clear hB
          refine rg_ready [5] (by kernel_rfl) (by simp) ?_
          refine ar_alloc 5 (some 6) 30 [.slice none 0 0, .slice none 0 0] (by kernel_rfl) (by kernel_rfl) ?_ ?_
          · intro v32 X6 hB
            refine ⟨joinB hS hB, ?_⟩
            have hX6 := hS.size
            replace hS := joinB hS hB
            replace HB := joinB HB hB
            have nX5X6 := Nat.ne_of_lt X5.lt
            replace h0 := h0.keep hB
            replace e0 := e0.keep hB
            replace h1 := h1.keep hB
            replace e1 := e1.keep hB
            replace C0 := C0.keep hB
            replace E0 := E0.keep hB
            replace C1 := C1.keep hB
            replace E1 := E1.keep hB
            replace X5 := X5.keep hB
            clear hB
            refine rg_ready [6] (by kernel_rfl) (by simp) ?_
            refine ar_store 6 30 30 5 8 (u0.drew.heap.size) [.slice none 0 0, .slice none 0 0] [.slice A0 K0 D0, .slice B0 L0 M0] (by kernel_rfl) (by kernel_rfl) (by kernel_rfl) (by kernel_rfl) X5 (by kernel_rfl) rfl (by kernel_rfl) ?_ ?_
            · intro v33 Y hw hB
              refine ⟨hS.trans (hB.mono hX5), ?_⟩
              replace HB := HB.trans (hB.mono (Nat.le_trans hBu hX5))
              replace hS := hS.trans (hB.mono hX5)
              replace h0 := h0.blk X5 (no_ints2 _ _ _ _ _ _) hw
              replace e0 := e0.blk X5 (no_ints2 _ _ _ _ _ _) hw
              replace h1 := h1.blk X5 (no_ints2 _ _ _ _ _ _) hw
              replace e1 := e1.blk X5 (no_ints2 _ _ _ _ _ _) hw
              replace C0 := C0.blk X5 (no_ints2 _ _ _ _ _ _) hw
              replace E0 := E0.blk X5 (no_ints2 _ _ _ _ _ _) hw
              replace C1 := C1.blk X5 (no_ints2 _ _ _ _ _ _) hw
              replace E1 := E1.blk X5 (no_ints2 _ _ _ _ _ _) hw
              replace X6 := X6.off (Ne.symm nX5X6) hw
              replace X5 := Y
              clear hB hw
              refine rg_ready [7] (by kernel_rfl) (by simp) ?_
              refine ar_store 7 30 30 6 10 (v31.heap.size) [.slice none 0 0, .slice none 0 0] [.slice A1 K1 D1, .slice B1 L1 M1] (by kernel_rfl) (by kernel_rfl) (by kernel_rfl) (by kernel_rfl) X6 (by kernel_rfl) rfl (by kernel_rfl) ?_ ?_
              · intro v34 Y hw hB
                refine ⟨hS.trans (hB.mono hX6), ?_⟩
                replace HB := HB.trans (hB.mono (Nat.le_trans hBu hX6))
                replace hS := hS.trans (hB.mono hX6)
                replace h0 := h0.blk X6 (no_ints2 _ _ _ _ _ _) hw
                replace e0 := e0.blk X6 (no_ints2 _ _ _ _ _ _) hw
                replace h1 := h1.blk X6 (no_ints2 _ _ _ _ _ _) hw
                replace e1 := e1.blk X6 (no_ints2 _ _ _ _ _ _) hw
                replace C0 := C0.blk X6 (no_ints2 _ _ _ _ _ _) hw
                replace E0 := E0.blk X6 (no_ints2 _ _ _ _ _ _) hw
                replace C1 := C1.blk X6 (no_ints2 _ _ _ _ _ _) hw
                replace E1 := E1.blk X6 (no_ints2 _ _ _ _ _ _) hw
                replace X5 := X5.off nX5X6 hw
                replace X6 := Y
                clear hB hw
                refine rg_done (by kernel_rfl) ?_
                exact ⟨(u0.drew.heap.size, v31.heap.size, A0, K0, D0, B0, L0, M0, A1, K1, D1, B1, L1, M1), by kernel_rfl, X5, X6, C0, E0, C1, E1, hK0, hL0, hK1, hL1, HB⟩
              exact ar_nil
            exact ar_nil
          exact ar_nil
        refine ar_alloc 5 (some 6) 30 [.slice none 0 0, .slice none 0 0] (by kernel_rfl) (by kernel_rfl) ?_ ?_
        · intro v35 X6 hB
          refine ⟨joinB hS hB, ?_⟩
          have hX6 := hS.size
          replace hS := joinB hS hB
          replace HB := joinB HB hB
          have nX5X6 := Nat.ne_of_lt X5.lt
          replace h0 := h0.keep hB
          replace e0 := e0.keep hB
          replace h1 := h1.keep hB
          replace e1 := e1.keep hB
          replace C0 := C0.keep hB
          replace E0 := E0.keep hB
          replace X5 := X5.keep hB
          clear hB
          refine rg_ready [3] (by kernel_rfl) (by simp) ?_
          refine ar_call 3 (some 10) 80 #[.agg #[.slice a1 n1 c1, .slice b1 m1 d1]] (by kernel_rfl) (by kernel_rfl) (qCounted h1 e1 (by omega) (by omega)) ?_ ?_
          · rintro e v36 ⟨A1, K1, D1, B1, L1, M1, rfl, C1, E1, hK1, hL1, hB⟩
            refine ⟨_, rfl, joinB hS hB, ?_⟩
            replace hS := joinB hS hB
            replace HB := joinB HB hB
            replace h0 := h0.keep hB
            replace e0 := e0.keep hB
            replace h1 := h1.keep hB
            replace e1 := e1.keep hB
            replace C0 := C0.keep hB
            replace E0 := E0.keep hB
            replace X5 := X5.keep hB
            replace X6 := X6.keep hB
            clear hB
            refine rg_ready [6] (by kernel_rfl) (by simp) ?_
            refine ar_store 6 30 30 5 8 (u0.drew.heap.size) [.slice none 0 0, .slice none 0 0] [.slice A0 K0 D0, .slice B0 L0 M0] (by kernel_rfl) (by kernel_rfl) (by kernel_rfl) (by kernel_rfl) X5 (by kernel_rfl) rfl (by kernel_rfl) ?_ ?_
            · intro v37 Y hw hB
              refine ⟨hS.trans (hB.mono hX5), ?_⟩
              replace HB := HB.trans (hB.mono (Nat.le_trans hBu hX5))
              replace hS := hS.trans (hB.mono hX5)
              replace h0 := h0.blk X5 (no_ints2 _ _ _ _ _ _) hw
              replace e0 := e0.blk X5 (no_ints2 _ _ _ _ _ _) hw
              replace h1 := h1.blk X5 (no_ints2 _ _ _ _ _ _) hw
              replace e1 := e1.blk X5 (no_ints2 _ _ _ _ _ _) hw
              replace C0 := C0.blk X5 (no_ints2 _ _ _ _ _ _) hw
              replace E0 := E0.blk X5 (no_ints2 _ _ _ _ _ _) hw
              replace C1 := C1.blk X5 (no_ints2 _ _ _ _ _ _) hw
              replace E1 := E1.blk X5 (no_ints2 _ _ _ _ _ _) hw
              replace X6 := X6.off (Ne.symm nX5X6) hw
              replace X5 := Y
              clear hB hw
              refine rg_ready [7] (by kernel_rfl) (by simp) ?_
              refine ar_store 7 30 30 6 10 (v30.heap.size) [.slice none 0 0, .slice none 0 0] [.slice A1 K1 D1, .slice B1 L1 M1] (by kernel_rfl) (by kernel_rfl) (by kernel_rfl) (by kernel_rfl) X6 (by kernel_rfl) rfl (by kernel_rfl) ?_ ?_
              · intro v38 Y hw hB
                refine ⟨hS.trans (hB.mono hX6), ?_⟩
                replace HB := HB.trans (hB.mono (Nat.le_trans hBu hX6))
                replace hS := hS.trans (hB.mono hX6)
                replace h0 := h0.blk X6 (no_ints2 _ _ _ _ _ _) hw
                replace e0 := e0.blk X6 (no_ints2 _ _ _ _ _ _) hw
                replace h1 := h1.blk X6 (no_ints2 _ _ _ _ _ _) hw
                replace e1 := e1.blk X6 (no_ints2 _ _ _ _ _ _) hw
                replace C0 := C0.blk X6 (no_ints2 _ _ _ _ _ _) hw
                replace E0 := E0.blk X6 (no_ints2 _ _ _ _ _ _) hw
                replace C1 := C1.blk X6 (no_ints2 _ _ _ _ _ _) hw
                replace E1 := E1.blk X6 (no_ints2 _ _ _ _ _ _) hw
                replace X5 := X5.off nX5X6 hw
                replace X6 := Y
                clear hB hw
                refine rg_done (by kernel_rfl) ?_
                exact ⟨(u0.drew.heap.size, v30.heap.size, A0, K0, D0, B0, L0, M0, A1, K1, D1, B1, L1, M1), by kernel_rfl, X5, X6, C0, E0, C1, E1, hK0, hL0, hK1, hL1, HB⟩
              exact ar_nil
            exact ar_nil
          exact ar_nil
        exact ar_nil
      refine ar_alloc 5 (some 6) 30 [.slice none 0 0, .slice none 0 0] (by kernel_rfl) (by kernel_rfl) ?_ ?_
      · intro v39 X6 hB
        refine ⟨joinB hS hB, ?_⟩
        have hX6 := hS.size
        replace hS := joinB hS hB
        replace HB := joinB HB hB
        have nX5X6 := Nat.ne_of_lt X5.lt
        replace h0 := h0.keep hB
        replace e0 := e0.keep hB
        replace h1 := h1.keep hB
        replace e1 := e1.keep hB
        replace X5 := X5.keep hB
        clear hB
        refine rg_ready [1] (by kernel_rfl) (by simp) ?_
        refine ar_call 1 (some 8) 80 #[.agg #[.slice a0 n0 c0, .slice b0 m0 d0]] (by kernel_rfl) (by kernel_rfl) (qCounted h0 e0 (by omega) (by omega)) ?_ ?_
        · rintro e v40 ⟨A0, K0, D0, B0, L0, M0, rfl, C0, E0, hK0, hL0, hB⟩
          refine ⟨_, rfl, joinB hS hB, ?_⟩
          replace hS := joinB hS hB
          replace HB := joinB HB hB
          replace h0 := h0.keep hB
          replace e0 := e0.keep hB
          replace h1 := h1.keep hB
          replace e1 := e1.keep hB
          replace X5 := X5.keep hB
          replace X6 := X6.keep hB
          clear hB
          refine rg_ready [3] (by kernel_rfl) (by simp) ?_
          refine ar_call 3 (some 10) 80 #[.agg #[.slice a1 n1 c1, .slice b1 m1 d1]] (by kernel_rfl) (by kernel_rfl) (qCounted h1 e1 (by omega) (by omega)) ?_ ?_
          · rintro e v41 ⟨A1, K1, D1, B1, L1, M1, rfl, C1, E1, hK1, hL1, hB⟩
            refine ⟨_, rfl, joinB hS hB, ?_⟩
            replace hS := joinB hS hB
            replace HB := joinB HB hB
            replace h0 := h0.keep hB
            replace e0 := e0.keep hB
            replace h1 := h1.keep hB
            replace e1 := e1.keep hB
            replace C0 := C0.keep hB
            replace E0 := E0.keep hB
            replace X5 := X5.keep hB
            replace X6 := X6.keep hB
            clear hB
            refine rg_ready [6] (by kernel_rfl) (by simp) ?_
            refine ar_store 6 30 30 5 8 (u0.drew.heap.size) [.slice none 0 0, .slice none 0 0] [.slice A0 K0 D0, .slice B0 L0 M0] (by kernel_rfl) (by kernel_rfl) (by kernel_rfl) (by kernel_rfl) X5 (by kernel_rfl) rfl (by kernel_rfl) ?_ ?_
            · intro v42 Y hw hB
              refine ⟨hS.trans (hB.mono hX5), ?_⟩
              replace HB := HB.trans (hB.mono (Nat.le_trans hBu hX5))
              replace hS := hS.trans (hB.mono hX5)
              replace h0 := h0.blk X5 (no_ints2 _ _ _ _ _ _) hw
              replace e0 := e0.blk X5 (no_ints2 _ _ _ _ _ _) hw
              replace h1 := h1.blk X5 (no_ints2 _ _ _ _ _ _) hw
              replace e1 := e1.blk X5 (no_ints2 _ _ _ _ _ _) hw
              replace C0 := C0.blk X5 (no_ints2 _ _ _ _ _ _) hw
              replace E0 := E0.blk X5 (no_ints2 _ _ _ _ _ _) hw
              replace C1 := C1.blk X5 (no_ints2 _ _ _ _ _ _) hw
              replace E1 := E1.blk X5 (no_ints2 _ _ _ _ _ _) hw
              replace X6 := X6.off (Ne.symm nX5X6) hw
              replace X5 := Y
              clear hB hw
              refine rg_ready [7] (by kernel_rfl) (by simp) ?_
              refine ar_store 7 30 30 6 10 (v29.heap.size) [.slice none 0 0, .slice none 0 0] [.slice A1 K1 D1, .slice B1 L1 M1] (by kernel_rfl) (by kernel_rfl) (by kernel_rfl) (by kernel_rfl) X6 (by kernel_rfl) rfl (by kernel_rfl) ?_ ?_
              · intro v43 Y hw hB
                refine ⟨hS.trans (hB.mono hX6), ?_⟩
                replace HB := HB.trans (hB.mono (Nat.le_trans hBu hX6))
                replace hS := hS.trans (hB.mono hX6)
                replace h0 := h0.blk X6 (no_ints2 _ _ _ _ _ _) hw
                replace e0 := e0.blk X6 (no_ints2 _ _ _ _ _ _) hw
                replace h1 := h1.blk X6 (no_ints2 _ _ _ _ _ _) hw
                replace e1 := e1.blk X6 (no_ints2 _ _ _ _ _ _) hw
                replace C0 := C0.blk X6 (no_ints2 _ _ _ _ _ _) hw
                replace E0 := E0.blk X6 (no_ints2 _ _ _ _ _ _) hw
                replace C1 := C1.blk X6 (no_ints2 _ _ _ _ _ _) hw
                replace E1 := E1.blk X6 (no_ints2 _ _ _ _ _ _) hw
                replace X5 := X5.off nX5X6 hw
                replace X6 := Y
                clear hB hw
                refine rg_done (by kernel_rfl) ?_
                exact ⟨(u0.drew.heap.size, v29.heap.size, A0, K0, D0, B0, L0, M0, A1, K1, D1, B1, L1, M1), by kernel_rfl, X5, X6, C0, E0, C1, E1, hK0, hL0, hK1, hL1, HB⟩
              exact ar_nil
            exact ar_nil
          exact ar_nil
        exact ar_nil
      exact ar_nil
    refine ar_alloc 5 (some 6) 30 [.slice none 0 0, .slice none 0 0] (by kernel_rfl) (by kernel_rfl) ?_ ?_
    · intro v44 X6 hB
      refine ⟨joinB hS hB, ?_⟩
      have hX6 := hS.size
      replace hS := joinB hS hB
      replace HB := joinB HB hB
      replace h0 := h0.keep hB
      replace e0 := e0.keep hB
      replace h1 := h1.keep hB
      replace e1 := e1.keep hB
      clear hB
      refine rg_ready [1, 4] (by kernel_rfl) (by simp) ?_
      refine ar_call 1 (some 8) 80 #[.agg #[.slice a0 n0 c0, .slice b0 m0 d0]] (by kernel_rfl) (by kernel_rfl) (qCounted h0 e0 (by omega) (by omega)) ?_ ?_
      · rintro e v45 ⟨A0, K0, D0, B0, L0, M0, rfl, C0, E0, hK0, hL0, hB⟩
        refine ⟨_, rfl, joinB hS hB, ?_⟩
        replace hS := joinB hS hB
        replace HB := joinB HB hB
        replace h0 := h0.keep hB
        replace e0 := e0.keep hB
        replace h1 := h1.keep hB
        replace e1 := e1.keep hB
        replace X6 := X6.keep hB
        clear hB
        refine rg_ready [3, 4] (by kernel_rfl) (by simp) ?_
        refine ar_call 3 (some 10) 80 #[.agg #[.slice a1 n1 c1, .slice b1 m1 d1]] (by kernel_rfl) (by kernel_rfl) (qCounted h1 e1 (by omega) (by omega)) ?_ ?_
        · rintro e v46 ⟨A1, K1, D1, B1, L1, M1, rfl, C1, E1, hK1, hL1, hB⟩
          refine ⟨_, rfl, joinB hS hB, ?_⟩
          replace hS := joinB hS hB
          replace HB := joinB HB hB
          replace h0 := h0.keep hB
          replace e0 := e0.keep hB
          replace h1 := h1.keep hB
          replace e1 := e1.keep hB
          replace C0 := C0.keep hB
          replace E0 := E0.keep hB
          replace X6 := X6.keep hB
          clear hB
          refine rg_ready [4] (by kernel_rfl) (by simp) ?_
          refine ar_alloc 4 (some 5) 30 [.slice none 0 0, .slice none 0 0] (by kernel_rfl) (by kernel_rfl) ?_ ?_
          · intro v47 X5 hB
            refine ⟨joinB hS hB, ?_⟩
            have hX5 := hS.size
            replace hS := joinB hS hB
            replace HB := joinB HB hB
            have nX6X5 := Nat.ne_of_lt X6.lt
            replace h0 := h0.keep hB
            replace e0 := e0.keep hB
            replace h1 := h1.keep hB
            replace e1 := e1.keep hB
            replace C0 := C0.keep hB
            replace E0 := E0.keep hB
            replace C1 := C1.keep hB
            replace E1 := E1.keep hB
            replace X6 := X6.keep hB
            clear hB
            refine rg_ready [6] (by kernel_rfl) (by simp) ?_
            refine ar_store 6 30 30 5 8 (v46.heap.size) [.slice none 0 0, .slice none 0 0] [.slice A0 K0 D0, .slice B0 L0 M0] (by kernel_rfl) (by kernel_rfl) (by kernel_rfl) (by kernel_rfl) X5 (by kernel_rfl) rfl (by kernel_rfl) ?_ ?_
            · intro v48 Y hw hB
              refine ⟨hS.trans (hB.mono hX5), ?_⟩
              replace HB := HB.trans (hB.mono (Nat.le_trans hBu hX5))
              replace hS := hS.trans (hB.mono hX5)
              replace h0 := h0.blk X5 (no_ints2 _ _ _ _ _ _) hw
              replace e0 := e0.blk X5 (no_ints2 _ _ _ _ _ _) hw
              replace h1 := h1.blk X5 (no_ints2 _ _ _ _ _ _) hw
              replace e1 := e1.blk X5 (no_ints2 _ _ _ _ _ _) hw
              replace C0 := C0.blk X5 (no_ints2 _ _ _ _ _ _) hw
              replace E0 := E0.blk X5 (no_ints2 _ _ _ _ _ _) hw
              replace C1 := C1.blk X5 (no_ints2 _ _ _ _ _ _) hw
              replace E1 := E1.blk X5 (no_ints2 _ _ _ _ _ _) hw
              replace X6 := X6.off nX6X5 hw
              replace X5 := Y
              clear hB hw
              refine rg_ready [7] (by kernel_rfl) (by simp) ?_
              refine ar_store 7 30 30 6 10 (u0.drew.heap.size) [.slice none 0 0, .slice none 0 0] [.slice A1 K1 D1, .slice B1 L1 M1] (by kernel_rfl) (by kernel_rfl) (by kernel_rfl) (by kernel_rfl) X6 (by kernel_rfl) rfl (by kernel_rfl) ?_ ?_
              · intro v49 Y hw hB
                refine ⟨hS.trans (hB.mono hX6), ?_⟩
                replace HB := HB.trans (hB.mono (Nat.le_trans hBu hX6))
                replace hS := hS.trans (hB.mono hX6)
                replace h0 := h0.blk X6 (no_ints2 _ _ _ _ _ _) hw
                replace e0 := e0.blk X6 (no_ints2 _ _ _ _ _ _) hw
                replace h1 := h1.blk X6 (no_ints2 _ _ _ _ _ _) hw
                replace e1 := e1.blk X6 (no_ints2 _ _ _ _ _ _) hw
                replace C0 := C0.blk X6 (no_ints2 _ _ _ _ _ _) hw
                replace E0 := E0.blk X6 (no_ints2 _ _ _ _ _ _) hw
                replace C1 := C1.blk X6 (no_ints2 _ _ _ _ _ _) hw
                replace E1 := E1.blk X6 (no_ints2 _ _ _ _ _ _) hw
                replace X5 := X5.off (Ne.symm nX6X5) hw
                replace X6 := Y
                clear hB hw
                refine rg_done (by kernel_rfl) ?_
                exact ⟨(v46.heap.size, u0.drew.heap.size, A0, K0, D0, B0, L0, M0, A1, K1, D1, B1, L1, M1), by kernel_rfl, X5, X6, C0, E0, C1, E1, hK0, hL0, hK1, hL1, HB⟩
              exact ar_nil
            exact ar_nil
          exact ar_nil
        refine ar_alloc 4 (some 5) 30 [.slice none 0 0, .slice none 0 0] (by kernel_rfl) (by kernel_rfl) ?_ ?_
        · intro v50 X5 hB
          refine ⟨joinB hS hB, ?_⟩
          have hX5 := hS.size
          replace hS := joinB hS hB
          replace HB := joinB HB hB
          have nX6X5 := Nat.ne_of_lt X6.lt
          replace h0 := h0.keep hB
          replace e0 := e0.keep hB
          replace h1 := h1.keep hB
          replace e1 := e1.keep hB
          replace C0 := C0.keep hB
          replace E0 := E0.keep hB
          replace X6 := X6.keep hB
          clear hB
          refine rg_ready [3] (by kernel_rfl) (by simp) ?_
          refine ar_call 3 (some 10) 80 #[.agg #[.slice a1 n1 c1, .slice b1 m1 d1]] (by kernel_rfl) (by kernel_rfl) (qCounted h1 e1 (by omega) (by omega)) ?_ ?_
          · rintro e v51 ⟨A1, K1, D1, B1, L1, M1, rfl, C1, E1, hK1, hL1, hB⟩
            refine ⟨_, rfl, joinB hS hB, ?_⟩
            replace hS := joinB hS hB
            replace HB := joinB HB hB
            replace h0 := h0.keep hB
            replace e0 := e0.keep hB
            replace h1 := h1.keep hB
            replace e1 := e1.keep hB
            replace C0 := C0.keep hB
            replace E0 := E0.keep hB
            replace X6 := X6.keep hB
            replace X5 := X5.keep hB
            clear hB
            refine rg_ready [6] (by kernel_rfl) (by simp) ?_
            refine ar_store 6 30 30 5 8 (v45.heap.size) [.slice none 0 0, .slice none 0 0] [.slice A0 K0 D0, .slice B0 L0 M0] (by kernel_rfl) (by kernel_rfl) (by kernel_rfl) (by kernel_rfl) X5 (by kernel_rfl) rfl (by kernel_rfl) ?_ ?_
            · intro v52 Y hw hB
              refine ⟨hS.trans (hB.mono hX5), ?_⟩
              replace HB := HB.trans (hB.mono (Nat.le_trans hBu hX5))
              replace hS := hS.trans (hB.mono hX5)
              replace h0 := h0.blk X5 (no_ints2 _ _ _ _ _ _) hw
              replace e0 := e0.blk X5 (no_ints2 _ _ _ _ _ _) hw
              replace h1 := h1.blk X5 (no_ints2 _ _ _ _ _ _) hw
              replace e1 := e1.blk X5 (no_ints2 _ _ _ _ _ _) hw
              replace C0 := C0.blk X5 (no_ints2 _ _ _ _ _ _) hw
              replace E0 := E0.blk X5 (no_ints2 _ _ _ _ _ _) hw
              replace C1 := C1.blk X5 (no_ints2 _ _ _ _ _ _) hw
              replace E1 := E1.blk X5 (no_ints2 _ _ _ _ _ _) hw
              replace X6 := X6.off nX6X5 hw
              replace X5 := Y
              clear hB hw
              refine rg_ready [7] (by kernel_rfl) (by simp) ?_
              refine ar_store 7 30 30 6 10 (u0.drew.heap.size) [.slice none 0 0, .slice none 0 0] [.slice A1 K1 D1, .slice B1 L1 M1] (by kernel_rfl) (by kernel_rfl) (by kernel_rfl) (by kernel_rfl) X6 (by kernel_rfl) rfl (by kernel_rfl) ?_ ?_
              · intro v53 Y hw hB
                refine ⟨hS.trans (hB.mono hX6), ?_⟩
                replace HB := HB.trans (hB.mono (Nat.le_trans hBu hX6))
                replace hS := hS.trans (hB.mono hX6)
                replace h0 := h0.blk X6 (no_ints2 _ _ _ _ _ _) hw
                replace e0 := e0.blk X6 (no_ints2 _ _ _ _ _ _) hw
                replace h1 := h1.blk X6 (no_ints2 _ _ _ _ _ _) hw
                replace e1 := e1.blk X6 (no_ints2 _ _ _ _ _ _) hw
                replace C0 := C0.blk X6 (no_ints2 _ _ _ _ _ _) hw
                replace E0 := E0.blk X6 (no_ints2 _ _ _ _ _ _) hw
                replace C1 := C1.blk X6 (no_ints2 _ _ _ _ _ _) hw
                replace E1 := E1.blk X6 (no_ints2 _ _ _ _ _ _) hw
                replace X5 := X5.off (Ne.symm nX6X5) hw
                replace X6 := Y
                clear hB hw
                refine rg_done (by kernel_rfl) ?_
                exact ⟨(v45.heap.size, u0.drew.heap.size, A0, K0, D0, B0, L0, M0, A1, K1, D1, B1, L1, M1), by kernel_rfl, X5, X6, C0, E0, C1, E1, hK0, hL0, hK1, hL1, HB⟩
              exact ar_nil
            exact ar_nil
          exact ar_nil
        exact ar_nil
      refine ar_alloc 4 (some 5) 30 [.slice none 0 0, .slice none 0 0] (by kernel_rfl) (by kernel_rfl) ?_ ?_
      · intro v54 X5 hB
        refine ⟨joinB hS hB, ?_⟩
        have hX5 := hS.size
        replace hS := joinB hS hB
        replace HB := joinB HB hB
        have nX6X5 := Nat.ne_of_lt X6.lt
        replace h0 := h0.keep hB
        replace e0 := e0.keep hB
        replace h1 := h1.keep hB
        replace e1 := e1.keep hB
        replace X6 := X6.keep hB
        clear hB
        refine rg_ready [1] (by kernel_rfl) (by simp) ?_
        refine ar_call 1 (some 8) 80 #[.agg #[.slice a0 n0 c0, .slice b0 m0 d0]] (by kernel_rfl) (by kernel_rfl) (qCounted h0 e0 (by omega) (by omega)) ?_ ?_
        · rintro e v55 ⟨A0, K0, D0, B0, L0, M0, rfl, C0, E0, hK0, hL0, hB⟩
          refine ⟨_, rfl, joinB hS hB, ?_⟩
          replace hS := joinB hS hB
          replace HB := joinB HB hB
          replace h0 := h0.keep hB
          replace e0 := e0.keep hB
          replace h1 := h1.keep hB
          replace e1 := e1.keep hB
          replace X6 := X6.keep hB
          replace X5 := X5.keep hB
          clear hB
          refine rg_ready [3] (by kernel_rfl) (by simp) ?_
          refine ar_call 3 (some 10) 80 #[.agg #[.slice a1 n1 c1, .slice b1 m1 d1]] (by kernel_rfl) (by kernel_rfl) (qCounted h1 e1 (by omega) (by omega)) ?_ ?_
          · rintro e v56 ⟨A1, K1, D1, B1, L1, M1, rfl, C1, E1, hK1, hL1, hB⟩
            refine ⟨_, rfl, joinB hS hB, ?_⟩
            replace hS := joinB hS hB
            replace HB := joinB HB hB
            replace h0 := h0.keep hB
            replace e0 := e0.keep hB
            replace h1 := h1.keep hB
            replace e1 := e1.keep hB
            replace C0 := C0.keep hB
            replace E0 := E0.keep hB
            replace X6 := X6.keep hB
            replace X5 := X5.keep hB
            clear hB
            refine rg_ready [6] (by kernel_rfl) (by simp) ?_
            refine ar_store 6 30 30 5 8 (v44.heap.size) [.slice none 0 0, .slice none 0 0] [.slice A0 K0 D0, .slice B0 L0 M0] (by kernel_rfl) (by kernel_rfl) (by kernel_rfl) (by kernel_rfl) X5 (by kernel_rfl) rfl (by kernel_rfl) ?_ ?_
            · intro v57 Y hw hB
              refine ⟨hS.trans (hB.mono hX5), ?_⟩
              replace HB := HB.trans (hB.mono (Nat.le_trans hBu hX5))
              replace hS := hS.trans (hB.mono hX5)
              replace h0 := h0.blk X5 (no_ints2 _ _ _ _ _ _) hw
              replace e0 := e0.blk X5 (no_ints2 _ _ _ _ _ _) hw
              replace h1 := h1.blk X5 (no_ints2 _ _ _ _ _ _) hw
              replace e1 := e1.blk X5 (no_ints2 _ _ _ _ _ _) hw
              replace C0 := C0.blk X5 (no_ints2 _ _ _ _ _ _) hw
              replace E0 := E0.blk X5 (no_ints2 _ _ _ _ _ _) hw
              replace C1 := C1.blk X5 (no_ints2 _ _ _ _ _ _) hw
              replace E1 := E1.blk X5 (no_ints2 _ _ _ _ _ _) hw
              replace X6 := X6.off nX6X5 hw
              replace X5 := Y
              clear hB hw
              refine rg_ready [7] (by kernel_rfl) (by simp) ?_
              refine ar_store 7 30 30 6 10 (u0.drew.heap.size) [.slice none 0 0, .slice none 0 0] [.slice A1 K1 D1, .slice B1 L1 M1] (by kernel_rfl) (by kernel_rfl) (by kernel_rfl) (by kernel_rfl) X6 (by kernel_rfl) rfl (by kernel_rfl) ?_ ?_
              · intro v58 Y hw hB
                refine ⟨hS.trans (hB.mono hX6), ?_⟩
                replace HB := HB.trans (hB.mono (Nat.le_trans hBu hX6))
                replace hS := hS.trans (hB.mono hX6)
                replace h0 := h0.blk X6 (no_ints2 _ _ _ _ _ _) hw
                replace e0 := e0.blk X6 (no_ints2 _ _ _ _ _ _) hw
                replace h1 := h1.blk X6 (no_ints2 _ _ _ _ _ _) hw
                replace e1 := e1.blk X6 (no_ints2 _ _ _ _ _ _) hw
                replace C0 := C0.blk X6 (no_ints2 _ _ _ _ _ _) hw
                replace E0 := E0.blk X6 (no_ints2 _ _ _ _ _ _) hw
                replace C1 := C1.blk X6 (no_ints2 _ _ _ _ _ _) hw
                replace E1 := E1.blk X6 (no_ints2 _ _ _ _ _ _) hw
                replace X5 := X5.off (Ne.symm nX6X5) hw
                replace X6 := Y
                clear hB hw
                refine rg_done (by kernel_rfl) ?_
                exact ⟨(v44.heap.size, u0.drew.heap.size, A0, K0, D0, B0, L0, M0, A1, K1, D1, B1, L1, M1), by kernel_rfl, X5, X6, C0, E0, C1, E1, hK0, hL0, hK1, hL1, HB⟩
              exact ar_nil
            exact ar_nil
          exact ar_nil
        exact ar_nil
      exact ar_nil
    exact ar_nil
  · rintro ⟨g5, g6, A0, K0, D0, B0, L0, M0, A1, K1, D1, B1, L1, M1⟩ u1 ⟨X5, X6, C0, E0, C1, E1, hK0, hL0, hK1, hL1, HBn⟩
    replace HB := HBn
    clear HBn h0 e0 h1 e1 P0 P1
    try simp only [putAll, Act.put, List.setIfInBounds_toArray, List.set_cons_zero, List.set_cons_succ]
    go_wp2_with fail
    refine rg_start (S := fun w' => Below u1.drew.heap.size u1.drew w') (by kernel_rfl) (Below.refl _ _) ?_
    replace C0 := C0.drew
    replace E0 := E0.drew
    replace C1 := C1.drew
    replace E1 := E1.drew
    replace HB := HB.drew
    have UX5 := X5.drew
    have UX6 := X6.drew
    have hS := Below.refl u1.drew.heap.size u1.drew
    refine rg_take 0 (some 11) (.pointer (some ⟨g5, 0, none⟩)) (by kernel_rfl) (fun _ _ => by kernel_rfl) (fun _ _ _ h => h) hS ?_
    refine rg_load 1 (some 12) (.slice A0 K0 D0) 28 11 (g5) 0 (by kernel_rfl) (by kernel_rfl) (by kernel_rfl) (fun _ hb => load_at ((UX5.keep hb).cells2.1)) (fun _ _ _ h => h) hS ?_
    refine rg_take 2 (some 13) (.pointer (some ⟨g6, 1, none⟩)) (by kernel_rfl) (fun _ _ => by kernel_rfl) (fun _ _ _ h => h) hS ?_
    refine rg_load 3 (some 14) (.slice B1 L1 M1) 28 13 (g6) 1 (by kernel_rfl) (by kernel_rfl) (by kernel_rfl) (fun _ hb => load_at ((UX6.keep hb).cells2.2.1)) (fun _ _ _ h => h) hS ?_
    refine rg_take 5 (some 16) (.pointer (some ⟨g6, 0, none⟩)) (by kernel_rfl) (fun _ _ => by kernel_rfl) (fun _ _ _ h => h) hS ?_
    refine rg_load 6 (some 17) (.slice A1 K1 D1) 28 16 (g6) 0 (by kernel_rfl) (by kernel_rfl) (by kernel_rfl) (fun _ hb => load_at ((UX6.keep hb).cells2.1)) (fun _ _ _ h => h) hS ?_
    refine rg_take 7 (some 18) (.pointer (some ⟨g5, 1, none⟩)) (by kernel_rfl) (fun _ _ => by kernel_rfl) (fun _ _ _ h => h) hS ?_
    refine rg_load 8 (some 19) (.slice B0 L0 M0) 28 18 (g5) 1 (by kernel_rfl) (by kernel_rfl) (by kernel_rfl) (fun _ hb => load_at ((UX5.keep hb).cells2.2.1)) (fun _ _ _ h => h) hS ?_
    refine rg_call 4 (some 15) 82 #[.slice A0 K0 D0, .slice B1 L1 M1] (by kernel_rfl) (by kernel_rfl) (nMul C0 E1 (by omega) (by omega)) ?_
    rintro e z1 ⟨Ap, Kp, Dp, rfl, Op1, hkp, hB⟩
    refine ⟨_, rfl, joinB hS hB, ?_⟩
    replace hS := joinB hS hB
    replace C0 := C0.keep hB
    replace E0 := E0.keep hB
    replace C1 := C1.keep hB
    replace E1 := E1.keep hB
    replace HB := joinB HB hB
    clear hB
    refine rg_call 9 (some 20) 82 #[.slice A1 K1 D1, .slice B0 L0 M0] (by kernel_rfl) (by kernel_rfl) (nMul C1 E0 (by omega) (by omega)) ?_
    rintro e z2 ⟨Aq, Kq, Dq, rfl, Op2, hkq, hB⟩
    refine ⟨_, rfl, joinB hS hB, ?_⟩
    replace hS := joinB hS hB
    replace C0 := C0.keep hB
    replace E0 := E0.keep hB
    replace C1 := C1.keep hB
    replace E1 := E1.keep hB
    replace Op1 := Op1.keep hB
    replace HB := joinB HB hB
    clear hB
    refine rg_call 10 (some 21) 81 #[.slice Ap Kp Dp, .slice Aq Kq Dq] (by kernel_rfl) (by kernel_rfl) (nCmp Op1.a Op2.a (by omega) (by omega)) ?_
    rintro e z3 ⟨rfl, hB⟩
    refine ⟨_, rfl, joinB hS hB, ?_⟩
    replace hS := joinB hS hB
    replace C0 := C0.keep hB
    replace E0 := E0.keep hB
    replace C1 := C1.keep hB
    replace E1 := E1.keep hB
    replace Op1 := Op1.keep hB
    replace Op2 := Op2.keep hB
    replace HB := joinB HB hB
    clear hB
    refine rg_take 11 (some 4) (.int .i64 (sgn ((cn x0 y0) * (cd y1)) ((cn x1 y1) * (cd y0)))) (by kernel_rfl) (fun _ _ => by kernel_rfl) (fun _ _ _ h => h) hS ?_
    refine rg_done (by kernel_rfl) ?_
    try simp only [Act.put, List.setIfInBounds_toArray, List.set_cons_zero, List.set_cons_succ]
    go_wp2
    go_ret
    exact ⟨rfl, HB⟩
set_option maxHeartbeats 8000000 in
set_option maxRecDepth 100000 in
theorem qMul {w : World} {a0 b0 : Option Addr} {n0 c0 m0 d0 : Nat} {x0 y0 : Int} {a1 b1 : Option Addr} {n1 c1 m1 d1 : Nat} {x1 y1 : Int} (h0 : NatA w a0 n0 c0 x0) (e0 : NatA w b0 m0 d0 y0) (hn0 : n0 ≤ 34359738368) (hm0 : m0 ≤ 34359738368) (h1 : NatA w a1 n1 c1 x1) (e1 : NatA w b1 m1 d1 y1) (hn1 : n1 ≤ 34359738368) (hm1 : m1 ≤ 34359738368) :
    Calls Tryz.prog 25 #[.agg #[.slice a0 n0 c0, .slice b0 m0 d0], .agg #[.slice a1 n1 c1, .slice b1 m1 d1]] w fun e w' => ∃ a k d a' k' d', e = .returned (.agg #[.slice a k d, .slice a' k' d']) ∧ NatO w' a k d (((cn x0 y0) * (cn x1 y1)) / (Int.gcd ((cn x0 y0) * (cn x1 y1)) ((cd y0) * (cd y1)) : Nat)) ∧ NatO w' a' k' d' (((cd y0) * (cd y1)) / (Int.gcd ((cn x0 y0) * (cn x1 y1)) ((cd y0) * (cd y1)) : Nat)) ∧ k ≤ n0 + n1 ∧ k' ≤ m0 + m1 + 2 ∧ Below w.heap.size w w' := by
  have HB := below3 w (.cells #[.slice a0 n0 c0, .slice b0 m0 d0] 30) (.cells #[.slice a1 n1 c1, .slice b1 m1 d1] 30) (.cells #[.slice none 0 0, .slice none 0 0] 30)
  have P0 := ((box_new w [.slice a0 n0 c0, .slice b0 m0 d0] 30).keep (below_alloc _ (.cells #[.slice a1 n1 c1, .slice b1 m1 d1] 30))).keep (below_alloc _ (.cells #[.slice none 0 0, .slice none 0 0] 30))
  have P1 := (box_new (w.alloc (.cells #[.slice a0 n0 c0, .slice b0 m0 d0] 30)) [.slice a1 n1 c1, .slice b1 m1 d1] 30).keep (below_alloc _ (.cells #[.slice none 0 0, .slice none 0 0] 30))
  have X4 := box_new ((w.alloc (.cells #[.slice a0 n0 c0, .slice b0 m0 d0] 30)).alloc (.cells #[.slice a1 n1 c1, .slice b1 m1 d1] 30)) [.slice none 0 0, .slice none 0 0] 30
  rw [show (w.alloc (.cells #[.slice a0 n0 c0, .slice b0 m0 d0] 30)).heap.size = w.heap.size + 1 by simp] at P1
  rw [show ((w.alloc (.cells #[.slice a0 n0 c0, .slice b0 m0 d0] 30)).alloc (.cells #[.slice a1 n1 c1, .slice b1 m1 d1] 30)).heap.size = w.heap.size + 1 + 1 by simp] at X4
  replace h0 := h0.keep HB
  replace e0 := e0.keep HB
  replace h1 := h1.keep HB
  replace e1 := e1.keep HB
  go_enter Tryz.func25, Tryz.ntmps25
  go_wp2_with fail
  generalize ((w.alloc (.cells #[.slice a0 n0 c0, .slice b0 m0 d0] 30)).alloc (.cells #[.slice a1 n1 c1, .slice b1 m1 d1] 30)).alloc (.cells #[.slice none 0 0, .slice none 0 0] 30) = u0 at *
  refine rg_mid (X := Nat × Nat × Option Addr × Nat × Nat × Option Addr × Nat × Nat × Option Addr × Nat × Nat × Option Addr × Nat × Nat) (fun ⟨g5, g6, A0, K0, D0, B0, L0, M0, A1, K1, D1, B1, L1, M1⟩ => [(some 7, .agg #[.slice a0 n0 c0, .slice b0 m0 d0]), (some 8, .agg #[.slice A0 K0 D0, .slice B0 L0 M0]), (some 9, .agg #[.slice a1 n1 c1, .slice b1 m1 d1]), (some 10, .agg #[.slice A1 K1 D1, .slice B1 L1 M1]), (some 5, .pointer (some ⟨g5, 0, none⟩)), (some 6, .pointer (some ⟨g6, 0, none⟩))]) (fun ⟨g5, g6, A0, K0, D0, B0, L0, M0, A1, K1, D1, B1, L1, M1⟩ w' => Box w' g5 [.slice A0 K0 D0, .slice B0 L0 M0] 30 ∧ Box w' g6 [.slice A1 K1 D1, .slice B1 L1 M1] 30 ∧ NatA w' A0 K0 D0 (cn x0 y0) ∧ NatA w' B0 L0 M0 (cd y0) ∧ NatA w' A1 K1 D1 (cn x1 y1) ∧ NatA w' B1 L1 M1 (cd y1) ∧ K0 ≤ n0 ∧ L0 ≤ m0 + 1 ∧ K1 ≤ n1 ∧ L1 ≤ m1 + 1 ∧ Box w' (w.heap.size + 1 + 1) [.slice none 0 0, .slice none 0 0] 30 ∧ w.heap.size + 1 + 1 < g5 ∧ w.heap.size + 1 + 1 < g6 ∧ Below w.heap.size w w') (fun w' => Below u0.drew.heap.size u0.drew w') (by kernel_rfl) (Below.refl _ _) ?_ ?_
  · replace HB := HB.drew
    have UP0 := P0.drew
    have UP1 := P1.drew
    replace h0 := h0.drew
    replace e0 := e0.drew
    replace h1 := h1.drew
    replace e1 := e1.drew
    have hBu := HB.size
    have hS := Below.refl u0.drew.heap.size u0.drew
    have UX4 := X4.drew
    have hX4u := UX4.lt
    clear P0 P1 X4
    refine rg_load 0 (some 7) (.agg #[.slice a0 n0 c0, .slice b0 m0 d0]) 30 2 (w.heap.size) 0 (by kernel_rfl) (by kernel_rfl) (by kernel_rfl) (fun _ hb => load_rat (UP0.keep hb)) (fun _ _ _ h => h) hS ?_
    refine rg_load 2 (some 9) (.agg #[.slice a1 n1 c1, .slice b1 m1 d1]) 30 3 (w.heap.size + 1) 0 (by kernel_rfl) (by kernel_rfl) (by kernel_rfl) (fun _ hb => load_rat (UP1.keep hb)) (fun _ _ _ h => h) hS ?_
    refine rg_ready [1, 4, 5] (by kernel_rfl) (by simp) ?_
    refine ar_call 1 (some 8) 80 #[.agg #[.slice a0 n0 c0, .slice b0 m0 d0]] (by kernel_rfl) (by kernel_rfl) (qCounted h0 e0 (by omega) (by omega)) ?_ ?_
    · rintro e v59 ⟨A0, K0, D0, B0, L0, M0, rfl, C0, E0, hK0, hL0, hB⟩
      refine ⟨_, rfl, joinB hS hB, ?_⟩
      replace hS := joinB hS hB
      replace HB := joinB HB hB
      replace h0 := h0.keep hB
      replace e0 := e0.keep hB
      replace h1 := h1.keep hB
      replace e1 := e1.keep hB
      clear hB
      refine rg_ready [3, 4, 5] (by kernel_rfl) (by simp) ?_
      refine ar_call 3 (some 10) 80 #[.agg #[.slice a1 n1 c1, .slice b1 m1 d1]] (by kernel_rfl) (by kernel_rfl) (qCounted h1 e1 (by omega) (by omega)) ?_ ?_
      · rintro e v60 ⟨A1, K1, D1, B1, L1, M1, rfl, C1, E1, hK1, hL1, hB⟩
        refine ⟨_, rfl, joinB hS hB, ?_⟩
        replace hS := joinB hS hB
        replace HB := joinB HB hB
        replace h0 := h0.keep hB
        replace e0 := e0.keep hB
        replace h1 := h1.keep hB
        replace e1 := e1.keep hB
        replace C0 := C0.keep hB
        replace E0 := E0.keep hB
        clear hB
        refine rg_ready [4, 5] (by kernel_rfl) (by simp) ?_
        refine ar_alloc 4 (some 5) 30 [.slice none 0 0, .slice none 0 0] (by kernel_rfl) (by kernel_rfl) ?_ ?_
        · intro v61 X5 hB
          refine ⟨joinB hS hB, ?_⟩
          have hX5 := hS.size
          replace hS := joinB hS hB
          replace HB := joinB HB hB
          replace h0 := h0.keep hB
          replace e0 := e0.keep hB
          replace h1 := h1.keep hB
          replace e1 := e1.keep hB
          replace C0 := C0.keep hB
          replace E0 := E0.keep hB
          replace C1 := C1.keep hB
          replace E1 := E1.keep hB
          clear hB
          refine rg_ready [5] (by kernel_rfl) (by simp) ?_
          refine ar_alloc 5 (some 6) 30 [.slice none 0 0, .slice none 0 0] (by kernel_rfl) (by kernel_rfl) ?_ ?_
          · intro v62 X6 hB
            refine ⟨joinB hS hB, ?_⟩
            have hX6 := hS.size
            replace hS := joinB hS hB
            replace HB := joinB HB hB
            have nX5X6 := Nat.ne_of_lt X5.lt
            replace h0 := h0.keep hB
            replace e0 := e0.keep hB
            replace h1 := h1.keep hB
            replace e1 := e1.keep hB
            replace C0 := C0.keep hB
            replace E0 := E0.keep hB
            replace C1 := C1.keep hB
            replace E1 := E1.keep hB
            replace X5 := X5.keep hB
            clear hB
            refine rg_ready [6] (by kernel_rfl) (by simp) ?_
            refine ar_store 6 30 30 5 8 (v60.heap.size) [.slice none 0 0, .slice none 0 0] [.slice A0 K0 D0, .slice B0 L0 M0] (by kernel_rfl) (by kernel_rfl) (by kernel_rfl) (by kernel_rfl) X5 (by kernel_rfl) rfl (by kernel_rfl) ?_ ?_
            · intro v63 Y hw hB
              refine ⟨hS.trans (hB.mono hX5), ?_⟩
              replace HB := HB.trans (hB.mono (Nat.le_trans hBu hX5))
              replace hS := hS.trans (hB.mono hX5)
              replace h0 := h0.blk X5 (no_ints2 _ _ _ _ _ _) hw
              replace e0 := e0.blk X5 (no_ints2 _ _ _ _ _ _) hw
              replace h1 := h1.blk X5 (no_ints2 _ _ _ _ _ _) hw
              replace e1 := e1.blk X5 (no_ints2 _ _ _ _ _ _) hw
              replace C0 := C0.blk X5 (no_ints2 _ _ _ _ _ _) hw
              replace E0 := E0.blk X5 (no_ints2 _ _ _ _ _ _) hw
              replace C1 := C1.blk X5 (no_ints2 _ _ _ _ _ _) hw
              replace E1 := E1.blk X5 (no_ints2 _ _ _ _ _ _) hw
              replace X6 := X6.off (Ne.symm nX5X6) hw
              replace X5 := Y
              clear hB hw
              refine rg_ready [7] (by kernel_rfl) (by simp) ?_
              refine ar_store 7 30 30 6 10 (v61.heap.size) [.slice none 0 0, .slice none 0 0] [.slice A1 K1 D1, .slice B1 L1 M1] (by kernel_rfl) (by kernel_rfl) (by kernel_rfl) (by kernel_rfl) X6 (by kernel_rfl) rfl (by kernel_rfl) ?_ ?_
              · intro v64 Y hw hB
                refine ⟨hS.trans (hB.mono hX6), ?_⟩
                replace HB := HB.trans (hB.mono (Nat.le_trans hBu hX6))
                replace hS := hS.trans (hB.mono hX6)
                replace h0 := h0.blk X6 (no_ints2 _ _ _ _ _ _) hw
                replace e0 := e0.blk X6 (no_ints2 _ _ _ _ _ _) hw
                replace h1 := h1.blk X6 (no_ints2 _ _ _ _ _ _) hw
                replace e1 := e1.blk X6 (no_ints2 _ _ _ _ _ _) hw
                replace C0 := C0.blk X6 (no_ints2 _ _ _ _ _ _) hw
                replace E0 := E0.blk X6 (no_ints2 _ _ _ _ _ _) hw
                replace C1 := C1.blk X6 (no_ints2 _ _ _ _ _ _) hw
                replace E1 := E1.blk X6 (no_ints2 _ _ _ _ _ _) hw
                replace X5 := X5.off nX5X6 hw
                replace X6 := Y
                clear hB hw
                refine rg_done (by kernel_rfl) ?_
                exact ⟨(v60.heap.size, v61.heap.size, A0, K0, D0, B0, L0, M0, A1, K1, D1, B1, L1, M1), by kernel_rfl, X5, X6, C0, E0, C1, E1, hK0, hL0, hK1, hL1, UX4.keep hS, Nat.lt_of_lt_of_le hX4u hX5, Nat.lt_of_lt_of_le hX4u hX6, HB⟩
              exact ar_nil
            exact ar_nil
          exact ar_nil
        refine ar_alloc 5 (some 6) 30 [.slice none 0 0, .slice none 0 0] (by kernel_rfl) (by kernel_rfl) ?_ ?_
        · intro v65 X6 hB
          refine ⟨joinB hS hB, ?_⟩
          have hX6 := hS.size
          replace hS := joinB hS hB
          replace HB := joinB HB hB
          replace h0 := h0.keep hB
          replace e0 := e0.keep hB
          replace h1 := h1.keep hB
          replace e1 := e1.keep hB
          replace C0 := C0.keep hB
          replace E0 := E0.keep hB
          replace C1 := C1.keep hB
          replace E1 := E1.keep hB
          clear hB
          refine rg_ready [4] (by kernel_rfl) (by simp) ?_
          refine ar_alloc 4 (some 5) 30 [.slice none 0 0, .slice none 0 0] (by kernel_rfl) (by kernel_rfl) ?_ ?_
          · intro v66 X5 hB
            refine ⟨joinB hS hB, ?_⟩
            have hX5 := hS.size
            replace hS := joinB hS hB
            replace HB := joinB HB hB
            have nX6X5 := Nat.ne_of_lt X6.lt
            replace h0 := h0.keep hB
            replace e0 := e0.keep hB
            replace h1 := h1.keep hB
            replace e1 := e1.keep hB
            replace C0 := C0.keep hB
            replace E0 := E0.keep hB
            replace C1 := C1.keep hB
            replace E1 := E1.keep hB
            replace X6 := X6.keep hB
            clear hB
            refine rg_ready [6] (by kernel_rfl) (by simp) ?_
            refine ar_store 6 30 30 5 8 (v65.heap.size) [.slice none 0 0, .slice none 0 0] [.slice A0 K0 D0, .slice B0 L0 M0] (by kernel_rfl) (by kernel_rfl) (by kernel_rfl) (by kernel_rfl) X5 (by kernel_rfl) rfl (by kernel_rfl) ?_ ?_
            · intro v67 Y hw hB
              refine ⟨hS.trans (hB.mono hX5), ?_⟩
              replace HB := HB.trans (hB.mono (Nat.le_trans hBu hX5))
              replace hS := hS.trans (hB.mono hX5)
              replace h0 := h0.blk X5 (no_ints2 _ _ _ _ _ _) hw
              replace e0 := e0.blk X5 (no_ints2 _ _ _ _ _ _) hw
              replace h1 := h1.blk X5 (no_ints2 _ _ _ _ _ _) hw
              replace e1 := e1.blk X5 (no_ints2 _ _ _ _ _ _) hw
              replace C0 := C0.blk X5 (no_ints2 _ _ _ _ _ _) hw
              replace E0 := E0.blk X5 (no_ints2 _ _ _ _ _ _) hw
              replace C1 := C1.blk X5 (no_ints2 _ _ _ _ _ _) hw
              replace E1 := E1.blk X5 (no_ints2 _ _ _ _ _ _) hw
              replace X6 := X6.off nX6X5 hw
              replace X5 := Y
              clear hB hw
              refine rg_ready [7] (by kernel_rfl) (by simp) ?_
              refine ar_store 7 30 30 6 10 (v60.heap.size) [.slice none 0 0, .slice none 0 0] [.slice A1 K1 D1, .slice B1 L1 M1] (by kernel_rfl) (by kernel_rfl) (by kernel_rfl) (by kernel_rfl) X6 (by kernel_rfl) rfl (by kernel_rfl) ?_ ?_
              · intro v68 Y hw hB
                refine ⟨hS.trans (hB.mono hX6), ?_⟩
                replace HB := HB.trans (hB.mono (Nat.le_trans hBu hX6))
                replace hS := hS.trans (hB.mono hX6)
                replace h0 := h0.blk X6 (no_ints2 _ _ _ _ _ _) hw
                replace e0 := e0.blk X6 (no_ints2 _ _ _ _ _ _) hw
                replace h1 := h1.blk X6 (no_ints2 _ _ _ _ _ _) hw
                replace e1 := e1.blk X6 (no_ints2 _ _ _ _ _ _) hw
                replace C0 := C0.blk X6 (no_ints2 _ _ _ _ _ _) hw
                replace E0 := E0.blk X6 (no_ints2 _ _ _ _ _ _) hw
                replace C1 := C1.blk X6 (no_ints2 _ _ _ _ _ _) hw
                replace E1 := E1.blk X6 (no_ints2 _ _ _ _ _ _) hw
                replace X5 := X5.off (Ne.symm nX6X5) hw
                replace X6 := Y
                clear hB hw
                refine rg_done (by kernel_rfl) ?_
                exact ⟨(v65.heap.size, v60.heap.size, A0, K0, D0, B0, L0, M0, A1, K1, D1, B1, L1, M1), by kernel_rfl, X5, X6, C0, E0, C1, E1, hK0, hL0, hK1, hL1, UX4.keep hS, Nat.lt_of_lt_of_le hX4u hX5, Nat.lt_of_lt_of_le hX4u hX6, HB⟩
              exact ar_nil
            exact ar_nil
          exact ar_nil
        exact ar_nil
      refine ar_alloc 4 (some 5) 30 [.slice none 0 0, .slice none 0 0] (by kernel_rfl) (by kernel_rfl) ?_ ?_
      · intro v69 X5 hB
        refine ⟨joinB hS hB, ?_⟩
        have hX5 := hS.size
        replace hS := joinB hS hB
        replace HB := joinB HB hB
        replace h0 := h0.keep hB
        replace e0 := e0.keep hB
        replace h1 := h1.keep hB
        replace e1 := e1.keep hB
        replace C0 := C0.keep hB
        replace E0 := E0.keep hB
        clear hB
        refine rg_ready [3, 5] (by kernel_rfl) (by simp) ?_
        refine ar_call 3 (some 10) 80 #[.agg #[.slice a1 n1 c1, .slice b1 m1 d1]] (by kernel_rfl) (by kernel_rfl) (qCounted h1 e1 (by omega) (by omega)) ?_ ?_
        · rintro e v70 ⟨A1, K1, D1, B1, L1, M1, rfl, C1, E1, hK1, hL1, hB⟩
          refine ⟨_, rfl, joinB hS hB, ?_⟩
          replace hS := joinB hS hB
          replace HB := joinB HB hB
          replace h0 := h0.keep hB
          replace e0 := e0.keep hB
          replace h1 := h1.keep hB
          replace e1 := e1.keep hB
          replace C0 := C0.keep hB
          replace E0 := E0.keep hB
          replace X5 := X5.keep hB
          clear hB
          refine rg_ready [5] (by kernel_rfl) (by simp) ?_
          refine ar_alloc 5 (some 6) 30 [.slice none 0 0, .slice none 0 0] (by kernel_rfl) (by kernel_rfl) ?_ ?_
          · intro v71 X6 hB
            refine ⟨joinB hS hB, ?_⟩
            have hX6 := hS.size
            replace hS := joinB hS hB
            replace HB := joinB HB hB
            have nX5X6 := Nat.ne_of_lt X5.lt
            replace h0 := h0.keep hB
            replace e0 := e0.keep hB
            replace h1 := h1.keep hB
            replace e1 := e1.keep hB
            replace C0 := C0.keep hB
            replace E0 := E0.keep hB
            replace C1 := C1.keep hB
            replace E1 := E1.keep hB
            replace X5 := X5.keep hB
            clear hB
            refine rg_ready [6] (by kernel_rfl) (by simp) ?_
            refine ar_store 6 30 30 5 8 (v59.heap.size) [.slice none 0 0, .slice none 0 0] [.slice A0 K0 D0, .slice B0 L0 M0] (by kernel_rfl) (by kernel_rfl) (by kernel_rfl) (by kernel_rfl) X5 (by kernel_rfl) rfl (by kernel_rfl) ?_ ?_
            · intro v72 Y hw hB
              refine ⟨hS.trans (hB.mono hX5), ?_⟩
              replace HB := HB.trans (hB.mono (Nat.le_trans hBu hX5))
              replace hS := hS.trans (hB.mono hX5)
              replace h0 := h0.blk X5 (no_ints2 _ _ _ _ _ _) hw
              replace e0 := e0.blk X5 (no_ints2 _ _ _ _ _ _) hw
              replace h1 := h1.blk X5 (no_ints2 _ _ _ _ _ _) hw
              replace e1 := e1.blk X5 (no_ints2 _ _ _ _ _ _) hw
              replace C0 := C0.blk X5 (no_ints2 _ _ _ _ _ _) hw
              replace E0 := E0.blk X5 (no_ints2 _ _ _ _ _ _) hw
              replace C1 := C1.blk X5 (no_ints2 _ _ _ _ _ _) hw
              replace E1 := E1.blk X5 (no_ints2 _ _ _ _ _ _) hw
              replace X6 := X6.off (Ne.symm nX5X6) hw
              replace X5 := Y
              clear hB hw
              refine rg_ready [7] (by kernel_rfl) (by simp) ?_
              refine ar_store 7 30 30 6 10 (v70.heap.size) [.slice none 0 0, .slice none 0 0] [.slice A1 K1 D1, .slice B1 L1 M1] (by kernel_rfl) (by kernel_rfl) (by kernel_rfl) (by kernel_rfl) X6 (by kernel_rfl) rfl (by kernel_rfl) ?_ ?_
              · intro v73 Y hw hB
                refine ⟨hS.trans (hB.mono hX6), ?_⟩
                replace HB := HB.trans (hB.mono (Nat.le_trans hBu hX6))
                replace hS := hS.trans (hB.mono hX6)
                replace h0 := h0.blk X6 (no_ints2 _ _ _ _ _ _) hw
                replace e0 := e0.blk X6 (no_ints2 _ _ _ _ _ _) hw
                replace h1 := h1.blk X6 (no_ints2 _ _ _ _ _ _) hw
                replace e1 := e1.blk X6 (no_ints2 _ _ _ _ _ _) hw
                replace C0 := C0.blk X6 (no_ints2 _ _ _ _ _ _) hw
                replace E0 := E0.blk X6 (no_ints2 _ _ _ _ _ _) hw
                replace C1 := C1.blk X6 (no_ints2 _ _ _ _ _ _) hw
                replace E1 := E1.blk X6 (no_ints2 _ _ _ _ _ _) hw
                replace X5 := X5.off nX5X6 hw
                replace X6 := Y
                clear hB hw
                refine rg_done (by kernel_rfl) ?_
                exact ⟨(v59.heap.size, v70.heap.size, A0, K0, D0, B0, L0, M0, A1, K1, D1, B1, L1, M1), by kernel_rfl, X5, X6, C0, E0, C1, E1, hK0, hL0, hK1, hL1, UX4.keep hS, Nat.lt_of_lt_of_le hX4u hX5, Nat.lt_of_lt_of_le hX4u hX6, HB⟩
              exact ar_nil
            exact ar_nil
          exact ar_nil
        refine ar_alloc 5 (some 6) 30 [.slice none 0 0, .slice none 0 0] (by kernel_rfl) (by kernel_rfl) ?_ ?_
        · intro v74 X6 hB
          refine ⟨joinB hS hB, ?_⟩
          have hX6 := hS.size
          replace hS := joinB hS hB
          replace HB := joinB HB hB
          have nX5X6 := Nat.ne_of_lt X5.lt
          replace h0 := h0.keep hB
          replace e0 := e0.keep hB
          replace h1 := h1.keep hB
          replace e1 := e1.keep hB
          replace C0 := C0.keep hB
          replace E0 := E0.keep hB
          replace X5 := X5.keep hB
          clear hB
          refine rg_ready [3] (by kernel_rfl) (by simp) ?_
          refine ar_call 3 (some 10) 80 #[.agg #[.slice a1 n1 c1, .slice b1 m1 d1]] (by kernel_rfl) (by kernel_rfl) (qCounted h1 e1 (by omega) (by omega)) ?_ ?_
          · rintro e v75 ⟨A1, K1, D1, B1, L1, M1, rfl, C1, E1, hK1, hL1, hB⟩
            refine ⟨_, rfl, joinB hS hB, ?_⟩
            replace hS := joinB hS hB
            replace HB := joinB HB hB
            replace h0 := h0.keep hB
            replace e0 := e0.keep hB
            replace h1 := h1.keep hB
            replace e1 := e1.keep hB
            replace C0 := C0.keep hB
            replace E0 := E0.keep hB
            replace X5 := X5.keep hB
            replace X6 := X6.keep hB
            clear hB
            refine rg_ready [6] (by kernel_rfl) (by simp) ?_
            refine ar_store 6 30 30 5 8 (v59.heap.size) [.slice none 0 0, .slice none 0 0] [.slice A0 K0 D0, .slice B0 L0 M0] (by kernel_rfl) (by kernel_rfl) (by kernel_rfl) (by kernel_rfl) X5 (by kernel_rfl) rfl (by kernel_rfl) ?_ ?_
            · intro v76 Y hw hB
              refine ⟨hS.trans (hB.mono hX5), ?_⟩
              replace HB := HB.trans (hB.mono (Nat.le_trans hBu hX5))
              replace hS := hS.trans (hB.mono hX5)
              replace h0 := h0.blk X5 (no_ints2 _ _ _ _ _ _) hw
              replace e0 := e0.blk X5 (no_ints2 _ _ _ _ _ _) hw
              replace h1 := h1.blk X5 (no_ints2 _ _ _ _ _ _) hw
              replace e1 := e1.blk X5 (no_ints2 _ _ _ _ _ _) hw
              replace C0 := C0.blk X5 (no_ints2 _ _ _ _ _ _) hw
              replace E0 := E0.blk X5 (no_ints2 _ _ _ _ _ _) hw
              replace C1 := C1.blk X5 (no_ints2 _ _ _ _ _ _) hw
              replace E1 := E1.blk X5 (no_ints2 _ _ _ _ _ _) hw
              replace X6 := X6.off (Ne.symm nX5X6) hw
              replace X5 := Y
              clear hB hw
              refine rg_ready [7] (by kernel_rfl) (by simp) ?_
              refine ar_store 7 30 30 6 10 (v69.heap.size) [.slice none 0 0, .slice none 0 0] [.slice A1 K1 D1, .slice B1 L1 M1] (by kernel_rfl) (by kernel_rfl) (by kernel_rfl) (by kernel_rfl) X6 (by kernel_rfl) rfl (by kernel_rfl) ?_ ?_
              · intro v77 Y hw hB
                refine ⟨hS.trans (hB.mono hX6), ?_⟩
                replace HB := HB.trans (hB.mono (Nat.le_trans hBu hX6))
                replace hS := hS.trans (hB.mono hX6)
                replace h0 := h0.blk X6 (no_ints2 _ _ _ _ _ _) hw
                replace e0 := e0.blk X6 (no_ints2 _ _ _ _ _ _) hw
                replace h1 := h1.blk X6 (no_ints2 _ _ _ _ _ _) hw
                replace e1 := e1.blk X6 (no_ints2 _ _ _ _ _ _) hw
                replace C0 := C0.blk X6 (no_ints2 _ _ _ _ _ _) hw
                replace E0 := E0.blk X6 (no_ints2 _ _ _ _ _ _) hw
                replace C1 := C1.blk X6 (no_ints2 _ _ _ _ _ _) hw
                replace E1 := E1.blk X6 (no_ints2 _ _ _ _ _ _) hw
                replace X5 := X5.off nX5X6 hw
                replace X6 := Y
                clear hB hw
                refine rg_done (by kernel_rfl) ?_
                exact ⟨(v59.heap.size, v69.heap.size, A0, K0, D0, B0, L0, M0, A1, K1, D1, B1, L1, M1), by kernel_rfl, X5, X6, C0, E0, C1, E1, hK0, hL0, hK1, hL1, UX4.keep hS, Nat.lt_of_lt_of_le hX4u hX5, Nat.lt_of_lt_of_le hX4u hX6, HB⟩
              exact ar_nil
            exact ar_nil
          exact ar_nil
        exact ar_nil
      refine ar_alloc 5 (some 6) 30 [.slice none 0 0, .slice none 0 0] (by kernel_rfl) (by kernel_rfl) ?_ ?_
      · intro v78 X6 hB
        refine ⟨joinB hS hB, ?_⟩
        have hX6 := hS.size
        replace hS := joinB hS hB
        replace HB := joinB HB hB
        replace h0 := h0.keep hB
        replace e0 := e0.keep hB
        replace h1 := h1.keep hB
        replace e1 := e1.keep hB
        replace C0 := C0.keep hB
        replace E0 := E0.keep hB
        clear hB
        refine rg_ready [3, 4] (by kernel_rfl) (by simp) ?_
        refine ar_call 3 (some 10) 80 #[.agg #[.slice a1 n1 c1, .slice b1 m1 d1]] (by kernel_rfl) (by kernel_rfl) (qCounted h1 e1 (by omega) (by omega)) ?_ ?_
        · rintro e v79 ⟨A1, K1, D1, B1, L1, M1, rfl, C1, E1, hK1, hL1, hB⟩
          refine ⟨_, rfl, joinB hS hB, ?_⟩
          replace hS := joinB hS hB
          replace HB := joinB HB hB
          replace h0 := h0.keep hB
          replace e0 := e0.keep hB
          replace h1 := h1.keep hB
          replace e1 := e1.keep hB
          replace C0 := C0.keep hB
          replace E0 := E0.keep hB
          replace X6 := X6.keep hB
          clear hB
          refine rg_ready [4] (by kernel_rfl) (by simp) ?_
          refine ar_alloc 4 (some 5) 30 [.slice none 0 0, .slice none 0 0] (by kernel_rfl) (by kernel_rfl) ?_ ?_
          · intro v80 X5 hB
            refine ⟨joinB hS hB, ?_⟩
            have hX5 := hS.size
            replace hS := joinB hS hB
            replace HB := joinB HB hB
            have nX6X5 := Nat.ne_of_lt X6.lt
            replace h0 := h0.keep hB
            replace e0 := e0.keep hB
            replace h1 := h1.keep hB
            replace e1 := e1.keep hB
            replace C0 := C0.keep hB
            replace E0 := E0.keep hB
            replace C1 := C1.keep hB
            replace E1 := E1.keep hB
            replace X6 := X6.keep hB
            clear hB
            refine rg_ready [6] (by kernel_rfl) (by simp) ?_
            refine ar_store 6 30 30 5 8 (v79.heap.size) [.slice none 0 0, .slice none 0 0] [.slice A0 K0 D0, .slice B0 L0 M0] (by kernel_rfl) (by kernel_rfl) (by kernel_rfl) (by kernel_rfl) X5 (by kernel_rfl) rfl (by kernel_rfl) ?_ ?_
            · intro v81 Y hw hB
              refine ⟨hS.trans (hB.mono hX5), ?_⟩
              replace HB := HB.trans (hB.mono (Nat.le_trans hBu hX5))
              replace hS := hS.trans (hB.mono hX5)
              replace h0 := h0.blk X5 (no_ints2 _ _ _ _ _ _) hw
              replace e0 := e0.blk X5 (no_ints2 _ _ _ _ _ _) hw
              replace h1 := h1.blk X5 (no_ints2 _ _ _ _ _ _) hw
              replace e1 := e1.blk X5 (no_ints2 _ _ _ _ _ _) hw
              replace C0 := C0.blk X5 (no_ints2 _ _ _ _ _ _) hw
              replace E0 := E0.blk X5 (no_ints2 _ _ _ _ _ _) hw
              replace C1 := C1.blk X5 (no_ints2 _ _ _ _ _ _) hw
              replace E1 := E1.blk X5 (no_ints2 _ _ _ _ _ _) hw
              replace X6 := X6.off nX6X5 hw
              replace X5 := Y
              clear hB hw
              refine rg_ready [7] (by kernel_rfl) (by simp) ?_
              refine ar_store 7 30 30 6 10 (v59.heap.size) [.slice none 0 0, .slice none 0 0] [.slice A1 K1 D1, .slice B1 L1 M1] (by kernel_rfl) (by kernel_rfl) (by kernel_rfl) (by kernel_rfl) X6 (by kernel_rfl) rfl (by kernel_rfl) ?_ ?_
              · intro v82 Y hw hB
                refine ⟨hS.trans (hB.mono hX6), ?_⟩
                replace HB := HB.trans (hB.mono (Nat.le_trans hBu hX6))
                replace hS := hS.trans (hB.mono hX6)
                replace h0 := h0.blk X6 (no_ints2 _ _ _ _ _ _) hw
                replace e0 := e0.blk X6 (no_ints2 _ _ _ _ _ _) hw
                replace h1 := h1.blk X6 (no_ints2 _ _ _ _ _ _) hw
                replace e1 := e1.blk X6 (no_ints2 _ _ _ _ _ _) hw
                replace C0 := C0.blk X6 (no_ints2 _ _ _ _ _ _) hw
                replace E0 := E0.blk X6 (no_ints2 _ _ _ _ _ _) hw
                replace C1 := C1.blk X6 (no_ints2 _ _ _ _ _ _) hw
                replace E1 := E1.blk X6 (no_ints2 _ _ _ _ _ _) hw
                replace X5 := X5.off (Ne.symm nX6X5) hw
                replace X6 := Y
                clear hB hw
                refine rg_done (by kernel_rfl) ?_
                exact ⟨(v79.heap.size, v59.heap.size, A0, K0, D0, B0, L0, M0, A1, K1, D1, B1, L1, M1), by kernel_rfl, X5, X6, C0, E0, C1, E1, hK0, hL0, hK1, hL1, UX4.keep hS, Nat.lt_of_lt_of_le hX4u hX5, Nat.lt_of_lt_of_le hX4u hX6, HB⟩
              exact ar_nil
            exact ar_nil
          exact ar_nil
        refine ar_alloc 4 (some 5) 30 [.slice none 0 0, .slice none 0 0] (by kernel_rfl) (by kernel_rfl) ?_ ?_
        · intro v83 X5 hB
          refine ⟨joinB hS hB, ?_⟩
          have hX5 := hS.size
          replace hS := joinB hS hB
          replace HB := joinB HB hB
          have nX6X5 := Nat.ne_of_lt X6.lt
          replace h0 := h0.keep hB
          replace e0 := e0.keep hB
          replace h1 := h1.keep hB
          replace e1 := e1.keep hB
          replace C0 := C0.keep hB
          replace E0 := E0.keep hB
          replace X6 := X6.keep hB
          clear hB
          refine rg_ready [3] (by kernel_rfl) (by simp) ?_
          refine ar_call 3 (some 10) 80 #[.agg #[.slice a1 n1 c1, .slice b1 m1 d1]] (by kernel_rfl) (by kernel_rfl) (qCounted h1 e1 (by omega) (by omega)) ?_ ?_
          · rintro e v84 ⟨A1, K1, D1, B1, L1, M1, rfl, C1, E1, hK1, hL1, hB⟩
            refine ⟨_, rfl, joinB hS hB, ?_⟩
            replace hS := joinB hS hB
            replace HB := joinB HB hB
            replace h0 := h0.keep hB
            replace e0 := e0.keep hB
            replace h1 := h1.keep hB
            replace e1 := e1.keep hB
            replace C0 := C0.keep hB
            replace E0 := E0.keep hB
            replace X6 := X6.keep hB
            replace X5 := X5.keep hB
            clear hB
            refine rg_ready [6] (by kernel_rfl) (by simp) ?_
            refine ar_store 6 30 30 5 8 (v78.heap.size) [.slice none 0 0, .slice none 0 0] [.slice A0 K0 D0, .slice B0 L0 M0] (by kernel_rfl) (by kernel_rfl) (by kernel_rfl) (by kernel_rfl) X5 (by kernel_rfl) rfl (by kernel_rfl) ?_ ?_
            · intro v85 Y hw hB
              refine ⟨hS.trans (hB.mono hX5), ?_⟩
              replace HB := HB.trans (hB.mono (Nat.le_trans hBu hX5))
              replace hS := hS.trans (hB.mono hX5)
              replace h0 := h0.blk X5 (no_ints2 _ _ _ _ _ _) hw
              replace e0 := e0.blk X5 (no_ints2 _ _ _ _ _ _) hw
              replace h1 := h1.blk X5 (no_ints2 _ _ _ _ _ _) hw
              replace e1 := e1.blk X5 (no_ints2 _ _ _ _ _ _) hw
              replace C0 := C0.blk X5 (no_ints2 _ _ _ _ _ _) hw
              replace E0 := E0.blk X5 (no_ints2 _ _ _ _ _ _) hw
              replace C1 := C1.blk X5 (no_ints2 _ _ _ _ _ _) hw
              replace E1 := E1.blk X5 (no_ints2 _ _ _ _ _ _) hw
              replace X6 := X6.off nX6X5 hw
              replace X5 := Y
              clear hB hw
              refine rg_ready [7] (by kernel_rfl) (by simp) ?_
              refine ar_store 7 30 30 6 10 (v59.heap.size) [.slice none 0 0, .slice none 0 0] [.slice A1 K1 D1, .slice B1 L1 M1] (by kernel_rfl) (by kernel_rfl) (by kernel_rfl) (by kernel_rfl) X6 (by kernel_rfl) rfl (by kernel_rfl) ?_ ?_
              · intro v86 Y hw hB
                refine ⟨hS.trans (hB.mono hX6), ?_⟩
                replace HB := HB.trans (hB.mono (Nat.le_trans hBu hX6))
                replace hS := hS.trans (hB.mono hX6)
                replace h0 := h0.blk X6 (no_ints2 _ _ _ _ _ _) hw
                replace e0 := e0.blk X6 (no_ints2 _ _ _ _ _ _) hw
                replace h1 := h1.blk X6 (no_ints2 _ _ _ _ _ _) hw
                replace e1 := e1.blk X6 (no_ints2 _ _ _ _ _ _) hw
                replace C0 := C0.blk X6 (no_ints2 _ _ _ _ _ _) hw
                replace E0 := E0.blk X6 (no_ints2 _ _ _ _ _ _) hw
                replace C1 := C1.blk X6 (no_ints2 _ _ _ _ _ _) hw
                replace E1 := E1.blk X6 (no_ints2 _ _ _ _ _ _) hw
                replace X5 := X5.off (Ne.symm nX6X5) hw
                replace X6 := Y
                clear hB hw
                refine rg_done (by kernel_rfl) ?_
                exact ⟨(v78.heap.size, v59.heap.size, A0, K0, D0, B0, L0, M0, A1, K1, D1, B1, L1, M1), by kernel_rfl, X5, X6, C0, E0, C1, E1, hK0, hL0, hK1, hL1, UX4.keep hS, Nat.lt_of_lt_of_le hX4u hX5, Nat.lt_of_lt_of_le hX4u hX6, HB⟩
              exact ar_nil
            exact ar_nil
          exact ar_nil
        exact ar_nil
      exact ar_nil
    refine ar_alloc 4 (some 5) 30 [.slice none 0 0, .slice none 0 0] (by kernel_rfl) (by kernel_rfl) ?_ ?_
    · intro v87 X5 hB
      refine ⟨joinB hS hB, ?_⟩
      have hX5 := hS.size
      replace hS := joinB hS hB
      replace HB := joinB HB hB
      replace h0 := h0.keep hB
      replace e0 := e0.keep hB
      replace h1 := h1.keep hB
      replace e1 := e1.keep hB
      clear hB
      refine rg_ready [1, 5] (by kernel_rfl) (by simp) ?_
      refine ar_call 1 (some 8) 80 #[.agg #[.slice a0 n0 c0, .slice b0 m0 d0]] (by kernel_rfl) (by kernel_rfl) (qCounted h0 e0 (by omega) (by omega)) ?_ ?_
      · rintro e v88 ⟨A0, K0, D0, B0, L0, M0, rfl, C0, E0, hK0, hL0, hB⟩
        refine ⟨_, rfl, joinB hS hB, ?_⟩
        replace hS := joinB hS hB
        replace HB := joinB HB hB
        replace h0 := h0.keep hB
        replace e0 := e0.keep hB
        replace h1 := h1.keep hB
        replace e1 := e1.keep hB
        replace X5 := X5.keep hB
        clear hB
        refine rg_ready [3, 5] (by kernel_rfl) (by simp) ?_
        refine ar_call 3 (some 10) 80 #[.agg #[.slice a1 n1 c1, .slice b1 m1 d1]] (by kernel_rfl) (by kernel_rfl) (qCounted h1 e1 (by omega) (by omega)) ?_ ?_
        · rintro e v89 ⟨A1, K1, D1, B1, L1, M1, rfl, C1, E1, hK1, hL1, hB⟩
          refine ⟨_, rfl, joinB hS hB, ?_⟩
          replace hS := joinB hS hB
          replace HB := joinB HB hB
          replace h0 := h0.keep hB
          replace e0 := e0.keep hB
          replace h1 := h1.keep hB
          replace e1 := e1.keep hB
          replace C0 := C0.keep hB
          replace E0 := E0.keep hB
          replace X5 := X5.keep hB
          clear hB
          refine rg_ready [5] (by kernel_rfl) (by simp) ?_
          refine ar_alloc 5 (some 6) 30 [.slice none 0 0, .slice none 0 0] (by kernel_rfl) (by kernel_rfl) ?_ ?_
          · intro v90 X6 hB
            refine ⟨joinB hS hB, ?_⟩
            have hX6 := hS.size
            replace hS := joinB hS hB
            replace HB := joinB HB hB
            have nX5X6 := Nat.ne_of_lt X5.lt
            replace h0 := h0.keep hB
            replace e0 := e0.keep hB
            replace h1 := h1.keep hB
            replace e1 := e1.keep hB
            replace C0 := C0.keep hB
            replace E0 := E0.keep hB
            replace C1 := C1.keep hB
            replace E1 := E1.keep hB
            replace X5 := X5.keep hB
            clear hB
            refine rg_ready [6] (by kernel_rfl) (by simp) ?_
            refine ar_store 6 30 30 5 8 (u0.drew.heap.size) [.slice none 0 0, .slice none 0 0] [.slice A0 K0 D0, .slice B0 L0 M0] (by kernel_rfl) (by kernel_rfl) (by kernel_rfl) (by kernel_rfl) X5 (by kernel_rfl) rfl (by kernel_rfl) ?_ ?_
            · intro v91 Y hw hB
              refine ⟨hS.trans (hB.mono hX5), ?_⟩
              replace HB := HB.trans (hB.mono (Nat.le_trans hBu hX5))
              replace hS := hS.trans (hB.mono hX5)
              replace h0 := h0.blk X5 (no_ints2 _ _ _ _ _ _) hw
              replace e0 := e0.blk X5 (no_ints2 _ _ _ _ _ _) hw
              replace h1 := h1.blk X5 (no_ints2 _ _ _ _ _ _) hw
              replace e1 := e1.blk X5 (no_ints2 _ _ _ _ _ _) hw
              replace C0 := C0.blk X5 (no_ints2 _ _ _ _ _ _) hw
              replace E0 := E0.blk X5 (no_ints2 _ _ _ _ _ _) hw
              replace C1 := C1.blk X5 (no_ints2 _ _ _ _ _ _) hw
              replace E1 := E1.blk X5 (no_ints2 _ _ _ _ _ _) hw
              replace X6 := X6.off (Ne.symm nX5X6) hw
              replace X5 := Y
              clear hB hw
              refine rg_ready [7] (by kernel_rfl) (by simp) ?_
              refine ar_store 7 30 30 6 10 (v89.heap.size) [.slice none 0 0, .slice none 0 0] [.slice A1 K1 D1, .slice B1 L1 M1] (by kernel_rfl) (by kernel_rfl) (by kernel_rfl) (by kernel_rfl) X6 (by kernel_rfl) rfl (by kernel_rfl) ?_ ?_
              · intro v92 Y hw hB
                refine ⟨hS.trans (hB.mono hX6), ?_⟩
                replace HB := HB.trans (hB.mono (Nat.le_trans hBu hX6))
                replace hS := hS.trans (hB.mono hX6)
                replace h0 := h0.blk X6 (no_ints2 _ _ _ _ _ _) hw
                replace e0 := e0.blk X6 (no_ints2 _ _ _ _ _ _) hw
                replace h1 := h1.blk X6 (no_ints2 _ _ _ _ _ _) hw
                replace e1 := e1.blk X6 (no_ints2 _ _ _ _ _ _) hw
                replace C0 := C0.blk X6 (no_ints2 _ _ _ _ _ _) hw
                replace E0 := E0.blk X6 (no_ints2 _ _ _ _ _ _) hw
                replace C1 := C1.blk X6 (no_ints2 _ _ _ _ _ _) hw
                replace E1 := E1.blk X6 (no_ints2 _ _ _ _ _ _) hw
                replace X5 := X5.off nX5X6 hw
                replace X6 := Y
                clear hB hw
                refine rg_done (by kernel_rfl) ?_
                exact ⟨(u0.drew.heap.size, v89.heap.size, A0, K0, D0, B0, L0, M0, A1, K1, D1, B1, L1, M1), by kernel_rfl, X5, X6, C0, E0, C1, E1, hK0, hL0, hK1, hL1, UX4.keep hS, Nat.lt_of_lt_of_le hX4u hX5, Nat.lt_of_lt_of_le hX4u hX6, HB⟩
              exact ar_nil
            exact ar_nil
          exact ar_nil
        refine ar_alloc 5 (some 6) 30 [.slice none 0 0, .slice none 0 0] (by kernel_rfl) (by kernel_rfl) ?_ ?_
        · intro v93 X6 hB
          refine ⟨joinB hS hB, ?_⟩
          have hX6 := hS.size
          replace hS := joinB hS hB
          replace HB := joinB HB hB
          have nX5X6 := Nat.ne_of_lt X5.lt
          replace h0 := h0.keep hB
          replace e0 := e0.keep hB
          replace h1 := h1.keep hB
          replace e1 := e1.keep hB
          replace C0 := C0.keep hB
          replace E0 := E0.keep hB
          replace X5 := X5.keep hB
          clear hB
          refine rg_ready [3] (by kernel_rfl) (by simp) ?_
          refine ar_call 3 (some 10) 80 #[.agg #[.slice a1 n1 c1, .slice b1 m1 d1]] (by kernel_rfl) (by kernel_rfl) (qCounted h1 e1 (by omega) (by omega)) ?_ ?_
          · rintro e v94 ⟨A1, K1, D1, B1, L1, M1, rfl, C1, E1, hK1, hL1, hB⟩
            refine ⟨_, rfl, joinB hS hB, ?_⟩
            replace hS := joinB hS hB
            replace HB := joinB HB hB
            replace h0 := h0.keep hB
            replace e0 := e0.keep hB
            replace h1 := h1.keep hB
            replace e1 := e1.keep hB
            replace C0 := C0.keep hB
            replace E0 := E0.keep hB
            replace X5 := X5.keep hB
            replace X6 := X6.keep hB
            clear hB
            refine rg_ready [6] (by kernel_rfl) (by simp) ?_
            refine ar_store 6 30 30 5 8 (u0.drew.heap.size) [.slice none 0 0, .slice none 0 0] [.slice A0 K0 D0, .slice B0 L0 M0] (by kernel_rfl) (by kernel_rfl) (by kernel_rfl) (by kernel_rfl) X5 (by kernel_rfl) rfl (by kernel_rfl) ?_ ?_
            · intro v95 Y hw hB
              refine ⟨hS.trans (hB.mono hX5), ?_⟩
              replace HB := HB.trans (hB.mono (Nat.le_trans hBu hX5))
              replace hS := hS.trans (hB.mono hX5)
              replace h0 := h0.blk X5 (no_ints2 _ _ _ _ _ _) hw
              replace e0 := e0.blk X5 (no_ints2 _ _ _ _ _ _) hw
              replace h1 := h1.blk X5 (no_ints2 _ _ _ _ _ _) hw
              replace e1 := e1.blk X5 (no_ints2 _ _ _ _ _ _) hw
              replace C0 := C0.blk X5 (no_ints2 _ _ _ _ _ _) hw
              replace E0 := E0.blk X5 (no_ints2 _ _ _ _ _ _) hw
              replace C1 := C1.blk X5 (no_ints2 _ _ _ _ _ _) hw
              replace E1 := E1.blk X5 (no_ints2 _ _ _ _ _ _) hw
              replace X6 := X6.off (Ne.symm nX5X6) hw
              replace X5 := Y
              clear hB hw
              refine rg_ready [7] (by kernel_rfl) (by simp) ?_
              refine ar_store 7 30 30 6 10 (v88.heap.size) [.slice none 0 0, .slice none 0 0] [.slice A1 K1 D1, .slice B1 L1 M1] (by kernel_rfl) (by kernel_rfl) (by kernel_rfl) (by kernel_rfl) X6 (by kernel_rfl) rfl (by kernel_rfl) ?_ ?_
              · intro v96 Y hw hB
                refine ⟨hS.trans (hB.mono hX6), ?_⟩
                replace HB := HB.trans (hB.mono (Nat.le_trans hBu hX6))
                replace hS := hS.trans (hB.mono hX6)
                replace h0 := h0.blk X6 (no_ints2 _ _ _ _ _ _) hw
                replace e0 := e0.blk X6 (no_ints2 _ _ _ _ _ _) hw
                replace h1 := h1.blk X6 (no_ints2 _ _ _ _ _ _) hw
                replace e1 := e1.blk X6 (no_ints2 _ _ _ _ _ _) hw
                replace C0 := C0.blk X6 (no_ints2 _ _ _ _ _ _) hw
                replace E0 := E0.blk X6 (no_ints2 _ _ _ _ _ _) hw
                replace C1 := C1.blk X6 (no_ints2 _ _ _ _ _ _) hw
                replace E1 := E1.blk X6 (no_ints2 _ _ _ _ _ _) hw
                replace X5 := X5.off nX5X6 hw
                replace X6 := Y
                clear hB hw
                refine rg_done (by kernel_rfl) ?_
                exact ⟨(u0.drew.heap.size, v88.heap.size, A0, K0, D0, B0, L0, M0, A1, K1, D1, B1, L1, M1), by kernel_rfl, X5, X6, C0, E0, C1, E1, hK0, hL0, hK1, hL1, UX4.keep hS, Nat.lt_of_lt_of_le hX4u hX5, Nat.lt_of_lt_of_le hX4u hX6, HB⟩
              exact ar_nil
            exact ar_nil
          exact ar_nil
        exact ar_nil
      refine ar_alloc 5 (some 6) 30 [.slice none 0 0, .slice none 0 0] (by kernel_rfl) (by kernel_rfl) ?_ ?_
      · intro v97 X6 hB
        refine ⟨joinB hS hB, ?_⟩
        have hX6 := hS.size
        replace hS := joinB hS hB
        replace HB := joinB HB hB
        have nX5X6 := Nat.ne_of_lt X5.lt
        replace h0 := h0.keep hB
        replace e0 := e0.keep hB
        replace h1 := h1.keep hB
        replace e1 := e1.keep hB
        replace X5 := X5.keep hB
        clear hB
        refine rg_ready [1] (by kernel_rfl) (by simp) ?_
        refine ar_call 1 (some 8) 80 #[.agg #[.slice a0 n0 c0, .slice b0 m0 d0]] (by kernel_rfl) (by kernel_rfl) (qCounted h0 e0 (by omega) (by omega)) ?_ ?_
        · rintro e v98 ⟨A0, K0, D0, B0, L0, M0, rfl, C0, E0, hK0, hL0, hB⟩
          refine ⟨_, rfl, joinB hS hB, ?_⟩
          replace hS := joinB hS hB
          replace HB := joinB HB hB
          replace h0 := h0.keep hB
          replace e0 := e0.keep hB
          replace h1 := h1.keep hB
          replace e1 := e1.keep hB
          replace X5 := X5.keep hB
          replace X6 := X6.keep hB
          clear hB
          refine rg_ready [3] (by kernel_rfl) (by simp) ?_
          refine ar_call 3 (some 10) 80 #[.agg #[.slice a1 n1 c1, .slice b1 m1 d1]] (by kernel_rfl) (by kernel_rfl) (qCounted h1 e1 (by omega) (by omega)) ?_ ?_
          · rintro e v99 ⟨A1, K1, D1, B1, L1, M1, rfl, C1, E1, hK1, hL1, hB⟩
            refine ⟨_, rfl, joinB hS hB, ?_⟩
            replace hS := joinB hS hB
            replace HB := joinB HB hB
            replace h0 := h0.keep hB
            replace e0 := e0.keep hB
            replace h1 := h1.keep hB
            replace e1 := e1.keep hB
            replace C0 := C0.keep hB
            replace E0 := E0.keep hB
            replace X5 := X5.keep hB
            replace X6 := X6.keep hB
            clear hB
            refine rg_ready [6] (by kernel_rfl) (by simp) ?_
            refine ar_store 6 30 30 5 8 (u0.drew.heap.size) [.slice none 0 0, .slice none 0 0] [.slice A0 K0 D0, .slice B0 L0 M0] (by kernel_rfl) (by kernel_rfl) (by kernel_rfl) (by kernel_rfl) X5 (by kernel_rfl) rfl (by kernel_rfl) ?_ ?_
            · intro v100 Y hw hB
              refine ⟨hS.trans (hB.mono hX5), ?_⟩
              replace HB := HB.trans (hB.mono (Nat.le_trans hBu hX5))
              replace hS := hS.trans (hB.mono hX5)
              replace h0 := h0.blk X5 (no_ints2 _ _ _ _ _ _) hw
              replace e0 := e0.blk X5 (no_ints2 _ _ _ _ _ _) hw
              replace h1 := h1.blk X5 (no_ints2 _ _ _ _ _ _) hw
              replace e1 := e1.blk X5 (no_ints2 _ _ _ _ _ _) hw
              replace C0 := C0.blk X5 (no_ints2 _ _ _ _ _ _) hw
              replace E0 := E0.blk X5 (no_ints2 _ _ _ _ _ _) hw
              replace C1 := C1.blk X5 (no_ints2 _ _ _ _ _ _) hw
              replace E1 := E1.blk X5 (no_ints2 _ _ _ _ _ _) hw
              replace X6 := X6.off (Ne.symm nX5X6) hw
              replace X5 := Y
              clear hB hw
              refine rg_ready [7] (by kernel_rfl) (by simp) ?_
              refine ar_store 7 30 30 6 10 (v87.heap.size) [.slice none 0 0, .slice none 0 0] [.slice A1 K1 D1, .slice B1 L1 M1] (by kernel_rfl) (by kernel_rfl) (by kernel_rfl) (by kernel_rfl) X6 (by kernel_rfl) rfl (by kernel_rfl) ?_ ?_
              · intro v101 Y hw hB
                refine ⟨hS.trans (hB.mono hX6), ?_⟩
                replace HB := HB.trans (hB.mono (Nat.le_trans hBu hX6))
                replace hS := hS.trans (hB.mono hX6)
                replace h0 := h0.blk X6 (no_ints2 _ _ _ _ _ _) hw
                replace e0 := e0.blk X6 (no_ints2 _ _ _ _ _ _) hw
                replace h1 := h1.blk X6 (no_ints2 _ _ _ _ _ _) hw
                replace e1 := e1.blk X6 (no_ints2 _ _ _ _ _ _) hw
                replace C0 := C0.blk X6 (no_ints2 _ _ _ _ _ _) hw
                replace E0 := E0.blk X6 (no_ints2 _ _ _ _ _ _) hw
                replace C1 := C1.blk X6 (no_ints2 _ _ _ _ _ _) hw
                replace E1 := E1.blk X6 (no_ints2 _ _ _ _ _ _) hw
                replace X5 := X5.off nX5X6 hw
                replace X6 := Y
                clear hB hw
                refine rg_done (by kernel_rfl) ?_
                exact ⟨(u0.drew.heap.size, v87.heap.size, A0, K0, D0, B0, L0, M0, A1, K1, D1, B1, L1, M1), by kernel_rfl, X5, X6, C0, E0, C1, E1, hK0, hL0, hK1, hL1, UX4.keep hS, Nat.lt_of_lt_of_le hX4u hX5, Nat.lt_of_lt_of_le hX4u hX6, HB⟩
              exact ar_nil
            exact ar_nil
          exact ar_nil
        exact ar_nil
      exact ar_nil
    refine ar_alloc 5 (some 6) 30 [.slice none 0 0, .slice none 0 0] (by kernel_rfl) (by kernel_rfl) ?_ ?_
    · intro v102 X6 hB
      refine ⟨joinB hS hB, ?_⟩
      have hX6 := hS.size
      replace hS := joinB hS hB
      replace HB := joinB HB hB
      replace h0 := h0.keep hB
      replace e0 := e0.keep hB
      replace h1 := h1.keep hB
      replace e1 := e1.keep hB
      clear hB
      refine rg_ready [1, 4] (by kernel_rfl) (by simp) ?_
      refine ar_call 1 (some 8) 80 #[.agg #[.slice a0 n0 c0, .slice b0 m0 d0]] (by kernel_rfl) (by kernel_rfl) (qCounted h0 e0 (by omega) (by omega)) ?_ ?_
      · rintro e v103 ⟨A0, K0, D0, B0, L0, M0, rfl, C0, E0, hK0, hL0, hB⟩
        refine ⟨_, rfl, joinB hS hB, ?_⟩
        replace hS := joinB hS hB
        replace HB := joinB HB hB
        replace h0 := h0.keep hB
        replace e0 := e0.keep hB
        replace h1 := h1.keep hB
        replace e1 := e1.keep hB
        replace X6 := X6.keep hB
        clear hB
        refine rg_ready [3, 4] (by kernel_rfl) (by simp) ?_
        refine ar_call 3 (some 10) 80 #[.agg #[.slice a1 n1 c1, .slice b1 m1 d1]] (by kernel_rfl) (by kernel_rfl) (qCounted h1 e1 (by omega) (by omega)) ?_ ?_
        · rintro e v104 ⟨A1, K1, D1, B1, L1, M1, rfl, C1, E1, hK1, hL1, hB⟩
          refine ⟨_, rfl, joinB hS hB, ?_⟩
          replace hS := joinB hS hB
          replace HB := joinB HB hB
          replace h0 := h0.keep hB
          replace e0 := e0.keep hB
          replace h1 := h1.keep hB
          replace e1 := e1.keep hB
          replace C0 := C0.keep hB
          replace E0 := E0.keep hB
          replace X6 := X6.keep hB
          clear hB
          refine rg_ready [4] (by kernel_rfl) (by simp) ?_
          refine ar_alloc 4 (some 5) 30 [.slice none 0 0, .slice none 0 0] (by kernel_rfl) (by kernel_rfl) ?_ ?_
          · intro v105 X5 hB
            refine ⟨joinB hS hB, ?_⟩
            have hX5 := hS.size
            replace hS := joinB hS hB
            replace HB := joinB HB hB
            have nX6X5 := Nat.ne_of_lt X6.lt
            replace h0 := h0.keep hB
            replace e0 := e0.keep hB
            replace h1 := h1.keep hB
            replace e1 := e1.keep hB
            replace C0 := C0.keep hB
            replace E0 := E0.keep hB
            replace C1 := C1.keep hB
            replace E1 := E1.keep hB
            replace X6 := X6.keep hB
            clear hB
            refine rg_ready [6] (by kernel_rfl) (by simp) ?_
            refine ar_store 6 30 30 5 8 (v104.heap.size) [.slice none 0 0, .slice none 0 0] [.slice A0 K0 D0, .slice B0 L0 M0] (by kernel_rfl) (by kernel_rfl) (by kernel_rfl) (by kernel_rfl) X5 (by kernel_rfl) rfl (by kernel_rfl) ?_ ?_
            · intro v106 Y hw hB
              refine ⟨hS.trans (hB.mono hX5), ?_⟩
              replace HB := HB.trans (hB.mono (Nat.le_trans hBu hX5))
              replace hS := hS.trans (hB.mono hX5)
              replace h0 := h0.blk X5 (no_ints2 _ _ _ _ _ _) hw
              replace e0 := e0.blk X5 (no_ints2 _ _ _ _ _ _) hw
              replace h1 := h1.blk X5 (no_ints2 _ _ _ _ _ _) hw
              replace e1 := e1.blk X5 (no_ints2 _ _ _ _ _ _) hw
              replace C0 := C0.blk X5 (no_ints2 _ _ _ _ _ _) hw
              replace E0 := E0.blk X5 (no_ints2 _ _ _ _ _ _) hw
              replace C1 := C1.blk X5 (no_ints2 _ _ _ _ _ _) hw
              replace E1 := E1.blk X5 (no_ints2 _ _ _ _ _ _) hw
              replace X6 := X6.off nX6X5 hw
              replace X5 := Y
              clear hB hw
              refine rg_ready [7] (by kernel_rfl) (by simp) ?_
              refine ar_store 7 30 30 6 10 (u0.drew.heap.size) [.slice none 0 0, .slice none 0 0] [.slice A1 K1 D1, .slice B1 L1 M1] (by kernel_rfl) (by kernel_rfl) (by kernel_rfl) (by kernel_rfl) X6 (by kernel_rfl) rfl (by kernel_rfl) ?_ ?_
              · intro v107 Y hw hB
                refine ⟨hS.trans (hB.mono hX6), ?_⟩
                replace HB := HB.trans (hB.mono (Nat.le_trans hBu hX6))
                replace hS := hS.trans (hB.mono hX6)
                replace h0 := h0.blk X6 (no_ints2 _ _ _ _ _ _) hw
                replace e0 := e0.blk X6 (no_ints2 _ _ _ _ _ _) hw
                replace h1 := h1.blk X6 (no_ints2 _ _ _ _ _ _) hw
                replace e1 := e1.blk X6 (no_ints2 _ _ _ _ _ _) hw
                replace C0 := C0.blk X6 (no_ints2 _ _ _ _ _ _) hw
                replace E0 := E0.blk X6 (no_ints2 _ _ _ _ _ _) hw
                replace C1 := C1.blk X6 (no_ints2 _ _ _ _ _ _) hw
                replace E1 := E1.blk X6 (no_ints2 _ _ _ _ _ _) hw
                replace X5 := X5.off (Ne.symm nX6X5) hw
                replace X6 := Y
                clear hB hw
                refine rg_done (by kernel_rfl) ?_
                exact ⟨(v104.heap.size, u0.drew.heap.size, A0, K0, D0, B0, L0, M0, A1, K1, D1, B1, L1, M1), by kernel_rfl, X5, X6, C0, E0, C1, E1, hK0, hL0, hK1, hL1, UX4.keep hS, Nat.lt_of_lt_of_le hX4u hX5, Nat.lt_of_lt_of_le hX4u hX6, HB⟩
              exact ar_nil
            exact ar_nil
          exact ar_nil
        refine ar_alloc 4 (some 5) 30 [.slice none 0 0, .slice none 0 0] (by kernel_rfl) (by kernel_rfl) ?_ ?_
        · intro v108 X5 hB
          refine ⟨joinB hS hB, ?_⟩
          have hX5 := hS.size
          replace hS := joinB hS hB
          replace HB := joinB HB hB
          have nX6X5 := Nat.ne_of_lt X6.lt
          replace h0 := h0.keep hB
          replace e0 := e0.keep hB
          replace h1 := h1.keep hB
          replace e1 := e1.keep hB
          replace C0 := C0.keep hB
          replace E0 := E0.keep hB
          replace X6 := X6.keep hB
          clear hB
          refine rg_ready [3] (by kernel_rfl) (by simp) ?_
          refine ar_call 3 (some 10) 80 #[.agg #[.slice a1 n1 c1, .slice b1 m1 d1]] (by kernel_rfl) (by kernel_rfl) (qCounted h1 e1 (by omega) (by omega)) ?_ ?_
          · rintro e v109 ⟨A1, K1, D1, B1, L1, M1, rfl, C1, E1, hK1, hL1, hB⟩
            refine ⟨_, rfl, joinB hS hB, ?_⟩
            replace hS := joinB hS hB
            replace HB := joinB HB hB
            replace h0 := h0.keep hB
            replace e0 := e0.keep hB
            replace h1 := h1.keep hB
            replace e1 := e1.keep hB
            replace C0 := C0.keep hB
            replace E0 := E0.keep hB
            replace X6 := X6.keep hB
            replace X5 := X5.keep hB
            clear hB
            refine rg_ready [6] (by kernel_rfl) (by simp) ?_
            refine ar_store 6 30 30 5 8 (v103.heap.size) [.slice none 0 0, .slice none 0 0] [.slice A0 K0 D0, .slice B0 L0 M0] (by kernel_rfl) (by kernel_rfl) (by kernel_rfl) (by kernel_rfl) X5 (by kernel_rfl) rfl (by kernel_rfl) ?_ ?_
            · intro v110 Y hw hB
              refine ⟨hS.trans (hB.mono hX5), ?_⟩
              replace HB := HB.trans (hB.mono (Nat.le_trans hBu hX5))
              replace hS := hS.trans (hB.mono hX5)
              replace h0 := h0.blk X5 (no_ints2 _ _ _ _ _ _) hw
              replace e0 := e0.blk X5 (no_ints2 _ _ _ _ _ _) hw
              replace h1 := h1.blk X5 (no_ints2 _ _ _ _ _ _) hw
              replace e1 := e1.blk X5 (no_ints2 _ _ _ _ _ _) hw
              replace C0 := C0.blk X5 (no_ints2 _ _ _ _ _ _) hw
              replace E0 := E0.blk X5 (no_ints2 _ _ _ _ _ _) hw
              replace C1 := C1.blk X5 (no_ints2 _ _ _ _ _ _) hw
              replace E1 := E1.blk X5 (no_ints2 _ _ _ _ _ _) hw
              replace X6 := X6.off nX6X5 hw
              replace X5 := Y
              clear hB hw
              refine rg_ready [7] (by kernel_rfl) (by simp) ?_
              refine ar_store 7 30 30 6 10 (u0.drew.heap.size) [.slice none 0 0, .slice none 0 0] [.slice A1 K1 D1, .slice B1 L1 M1] (by kernel_rfl) (by kernel_rfl) (by kernel_rfl) (by kernel_rfl) X6 (by kernel_rfl) rfl (by kernel_rfl) ?_ ?_
              · intro v111 Y hw hB
                refine ⟨hS.trans (hB.mono hX6), ?_⟩
                replace HB := HB.trans (hB.mono (Nat.le_trans hBu hX6))
                replace hS := hS.trans (hB.mono hX6)
                replace h0 := h0.blk X6 (no_ints2 _ _ _ _ _ _) hw
                replace e0 := e0.blk X6 (no_ints2 _ _ _ _ _ _) hw
                replace h1 := h1.blk X6 (no_ints2 _ _ _ _ _ _) hw
                replace e1 := e1.blk X6 (no_ints2 _ _ _ _ _ _) hw
                replace C0 := C0.blk X6 (no_ints2 _ _ _ _ _ _) hw
                replace E0 := E0.blk X6 (no_ints2 _ _ _ _ _ _) hw
                replace C1 := C1.blk X6 (no_ints2 _ _ _ _ _ _) hw
                replace E1 := E1.blk X6 (no_ints2 _ _ _ _ _ _) hw
                replace X5 := X5.off (Ne.symm nX6X5) hw
                replace X6 := Y
                clear hB hw
                refine rg_done (by kernel_rfl) ?_
                exact ⟨(v103.heap.size, u0.drew.heap.size, A0, K0, D0, B0, L0, M0, A1, K1, D1, B1, L1, M1), by kernel_rfl, X5, X6, C0, E0, C1, E1, hK0, hL0, hK1, hL1, UX4.keep hS, Nat.lt_of_lt_of_le hX4u hX5, Nat.lt_of_lt_of_le hX4u hX6, HB⟩
              exact ar_nil
            exact ar_nil
          exact ar_nil
        exact ar_nil
      refine ar_alloc 4 (some 5) 30 [.slice none 0 0, .slice none 0 0] (by kernel_rfl) (by kernel_rfl) ?_ ?_
      · intro v112 X5 hB
        refine ⟨joinB hS hB, ?_⟩
        have hX5 := hS.size
        replace hS := joinB hS hB
        replace HB := joinB HB hB
        have nX6X5 := Nat.ne_of_lt X6.lt
        replace h0 := h0.keep hB
        replace e0 := e0.keep hB
        replace h1 := h1.keep hB
        replace e1 := e1.keep hB
        replace X6 := X6.keep hB
        clear hB
        refine rg_ready [1] (by kernel_rfl) (by simp) ?_
        refine ar_call 1 (some 8) 80 #[.agg #[.slice a0 n0 c0, .slice b0 m0 d0]] (by kernel_rfl) (by kernel_rfl) (qCounted h0 e0 (by omega) (by omega)) ?_ ?_
        · rintro e v113 ⟨A0, K0, D0, B0, L0, M0, rfl, C0, E0, hK0, hL0, hB⟩
          refine ⟨_, rfl, joinB hS hB, ?_⟩
          replace hS := joinB hS hB
          replace HB := joinB HB hB
          replace h0 := h0.keep hB
          replace e0 := e0.keep hB
          replace h1 := h1.keep hB
          replace e1 := e1.keep hB
          replace X6 := X6.keep hB
          replace X5 := X5.keep hB
          clear hB
          refine rg_ready [3] (by kernel_rfl) (by simp) ?_
          refine ar_call 3 (some 10) 80 #[.agg #[.slice a1 n1 c1, .slice b1 m1 d1]] (by kernel_rfl) (by kernel_rfl) (qCounted h1 e1 (by omega) (by omega)) ?_ ?_
          · rintro e v114 ⟨A1, K1, D1, B1, L1, M1, rfl, C1, E1, hK1, hL1, hB⟩
            refine ⟨_, rfl, joinB hS hB, ?_⟩
            replace hS := joinB hS hB
            replace HB := joinB HB hB
            replace h0 := h0.keep hB
            replace e0 := e0.keep hB
            replace h1 := h1.keep hB
            replace e1 := e1.keep hB
            replace C0 := C0.keep hB
            replace E0 := E0.keep hB
            replace X6 := X6.keep hB
            replace X5 := X5.keep hB
            clear hB
            refine rg_ready [6] (by kernel_rfl) (by simp) ?_
            refine ar_store 6 30 30 5 8 (v102.heap.size) [.slice none 0 0, .slice none 0 0] [.slice A0 K0 D0, .slice B0 L0 M0] (by kernel_rfl) (by kernel_rfl) (by kernel_rfl) (by kernel_rfl) X5 (by kernel_rfl) rfl (by kernel_rfl) ?_ ?_
            · intro v115 Y hw hB
              refine ⟨hS.trans (hB.mono hX5), ?_⟩
              replace HB := HB.trans (hB.mono (Nat.le_trans hBu hX5))
              replace hS := hS.trans (hB.mono hX5)
              replace h0 := h0.blk X5 (no_ints2 _ _ _ _ _ _) hw
              replace e0 := e0.blk X5 (no_ints2 _ _ _ _ _ _) hw
              replace h1 := h1.blk X5 (no_ints2 _ _ _ _ _ _) hw
              replace e1 := e1.blk X5 (no_ints2 _ _ _ _ _ _) hw
              replace C0 := C0.blk X5 (no_ints2 _ _ _ _ _ _) hw
              replace E0 := E0.blk X5 (no_ints2 _ _ _ _ _ _) hw
              replace C1 := C1.blk X5 (no_ints2 _ _ _ _ _ _) hw
              replace E1 := E1.blk X5 (no_ints2 _ _ _ _ _ _) hw
              replace X6 := X6.off nX6X5 hw
              replace X5 := Y
              clear hB hw
              refine rg_ready [7] (by kernel_rfl) (by simp) ?_
              refine ar_store 7 30 30 6 10 (u0.drew.heap.size) [.slice none 0 0, .slice none 0 0] [.slice A1 K1 D1, .slice B1 L1 M1] (by kernel_rfl) (by kernel_rfl) (by kernel_rfl) (by kernel_rfl) X6 (by kernel_rfl) rfl (by kernel_rfl) ?_ ?_
              · intro v116 Y hw hB
                refine ⟨hS.trans (hB.mono hX6), ?_⟩
                replace HB := HB.trans (hB.mono (Nat.le_trans hBu hX6))
                replace hS := hS.trans (hB.mono hX6)
                replace h0 := h0.blk X6 (no_ints2 _ _ _ _ _ _) hw
                replace e0 := e0.blk X6 (no_ints2 _ _ _ _ _ _) hw
                replace h1 := h1.blk X6 (no_ints2 _ _ _ _ _ _) hw
                replace e1 := e1.blk X6 (no_ints2 _ _ _ _ _ _) hw
                replace C0 := C0.blk X6 (no_ints2 _ _ _ _ _ _) hw
                replace E0 := E0.blk X6 (no_ints2 _ _ _ _ _ _) hw
                replace C1 := C1.blk X6 (no_ints2 _ _ _ _ _ _) hw
                replace E1 := E1.blk X6 (no_ints2 _ _ _ _ _ _) hw
                replace X5 := X5.off (Ne.symm nX6X5) hw
                replace X6 := Y
                clear hB hw
                refine rg_done (by kernel_rfl) ?_
                exact ⟨(v102.heap.size, u0.drew.heap.size, A0, K0, D0, B0, L0, M0, A1, K1, D1, B1, L1, M1), by kernel_rfl, X5, X6, C0, E0, C1, E1, hK0, hL0, hK1, hL1, UX4.keep hS, Nat.lt_of_lt_of_le hX4u hX5, Nat.lt_of_lt_of_le hX4u hX6, HB⟩
              exact ar_nil
            exact ar_nil
          exact ar_nil
        exact ar_nil
      exact ar_nil
    exact ar_nil
  · rintro ⟨g5, g6, A0, K0, D0, B0, L0, M0, A1, K1, D1, B1, L1, M1⟩ u1 ⟨X5, X6, C0, E0, C1, E1, hK0, hL0, hK1, hL1, X4n, hg5, hg6, HBn⟩
    replace HB := HBn
    clear HBn h0 e0 h1 e1 P0 P1 X4
    try simp only [putAll, Act.put, List.setIfInBounds_toArray, List.set_cons_zero, List.set_cons_succ]
    go_wp2_with fail
    refine rg_start (S := fun w' => Box w' g5 [.slice A0 K0 D0, .slice B0 L0 M0] 30 ∧ Box w' g6 [.slice A1 K1 D1, .slice B1 L1 M1] 30) (by kernel_rfl) ⟨X5.drew, X6.drew⟩ ?_
    replace C0 := C0.drew
    replace E0 := E0.drew
    replace C1 := C1.drew
    replace E1 := E1.drew
    replace X4n := X4n.drew
    replace HB := HB.drew
    have hS := (show _ ∧ _ from ⟨X5.drew, X6.drew⟩)
    have X4 := X4n
    clear X4n X5 X6
    refine rg_take 0 (some 11) (.pointer (some ⟨g5, 0, none⟩)) (by kernel_rfl) (fun _ _ => by kernel_rfl) (fun _ _ _ h => h) hS ?_
    refine rg_load 1 (some 12) (.slice A0 K0 D0) 28 11 (g5) 0 (by kernel_rfl) (by kernel_rfl) (by kernel_rfl) (fun _ hs => load_at (hs.1.cells2.1)) (fun _ _ _ h => h) hS ?_
    refine rg_take 2 (some 13) (.pointer (some ⟨g6, 0, none⟩)) (by kernel_rfl) (fun _ _ => by kernel_rfl) (fun _ _ _ h => h) hS ?_
    refine rg_load 3 (some 14) (.slice A1 K1 D1) 28 13 (g6) 0 (by kernel_rfl) (by kernel_rfl) (by kernel_rfl) (fun _ hs => load_at (hs.2.cells2.1)) (fun _ _ _ h => h) hS ?_
    refine rg_take 5 (some 16) (.pointer (some ⟨g5, 1, none⟩)) (by kernel_rfl) (fun _ _ => by kernel_rfl) (fun _ _ _ h => h) hS ?_
    refine rg_load 6 (some 17) (.slice B0 L0 M0) 28 16 (g5) 1 (by kernel_rfl) (by kernel_rfl) (by kernel_rfl) (fun _ hs => load_at (hs.1.cells2.2.1)) (fun _ _ _ h => h) hS ?_
    refine rg_take 7 (some 18) (.pointer (some ⟨g6, 1, none⟩)) (by kernel_rfl) (fun _ _ => by kernel_rfl) (fun _ _ _ h => h) hS ?_
    refine rg_load 8 (some 19) (.slice B1 L1 M1) 28 18 (g6) 1 (by kernel_rfl) (by kernel_rfl) (by kernel_rfl) (fun _ hs => load_at (hs.2.cells2.2.1)) (fun _ _ _ h => h) hS ?_
    refine rg_call 4 (some 15) 82 #[.slice A0 K0 D0, .slice A1 K1 D1] (by kernel_rfl) (by kernel_rfl) (nMul C0 C1 (by omega) (by omega)) ?_
    rintro e z1 ⟨Ap, Kp, Dp, rfl, Op1, hkp, hB⟩
    refine ⟨_, rfl, ⟨hS.1.keep hB, hS.2.keep hB⟩, ?_⟩
    replace hS := (show _ ∧ _ from ⟨hS.1.keep hB, hS.2.keep hB⟩)
    replace C0 := C0.keep hB
    replace E0 := E0.keep hB
    replace C1 := C1.keep hB
    replace E1 := E1.keep hB
    replace X4 := X4.keep hB
    replace HB := joinB HB hB
    clear hB
    refine rg_call 9 (some 20) 82 #[.slice B0 L0 M0, .slice B1 L1 M1] (by kernel_rfl) (by kernel_rfl) (nMul E0 E1 (by omega) (by omega)) ?_
    rintro e z2 ⟨Aq, Kq, Dq, rfl, Op2, hkq, hB⟩
    refine ⟨_, rfl, ⟨hS.1.keep hB, hS.2.keep hB⟩, ?_⟩
    replace hS := (show _ ∧ _ from ⟨hS.1.keep hB, hS.2.keep hB⟩)
    replace C0 := C0.keep hB
    replace E0 := E0.keep hB
    replace C1 := C1.keep hB
    replace E1 := E1.keep hB
    replace X4 := X4.keep hB
    replace Op1 := Op1.keep hB
    replace HB := joinB HB hB
    clear hB
    refine rg_call 10 (some 21) 87 #[.slice Ap Kp Dp, .slice Aq Kq Dq] (by kernel_rfl) (by kernel_rfl) (qReduced Op1.a Op2.a (by omega) (by omega) (Int.mul_ne_zero (cd_ne _) (cd_ne _))) ?_
    rintro e z3 ⟨Ar, Kr, Dr, As', Ks, Ds, rfl, Or1, Or2, hkr, hks, hB⟩
    refine ⟨_, rfl, ⟨hS.1.keep hB, hS.2.keep hB⟩, ?_⟩
    replace hS := (show _ ∧ _ from ⟨hS.1.keep hB, hS.2.keep hB⟩)
    replace C0 := C0.keep hB
    replace E0 := E0.keep hB
    replace C1 := C1.keep hB
    replace E1 := E1.keep hB
    replace X4 := X4.keep hB
    replace Op1 := Op1.keep hB
    replace Op2 := Op2.keep hB
    replace HB := joinB HB hB
    clear hB
    refine rg_ready [11] (by kernel_rfl) (by simp) ?_
    refine ar_store 11 30 30 4 21 (w.heap.size + 1 + 1) [.slice none 0 0, .slice none 0 0] [.slice Ar Kr Dr, .slice As' Ks Ds] (by kernel_rfl) (by kernel_rfl) (by kernel_rfl) (by kernel_rfl) X4 (by kernel_rfl) rfl (by kernel_rfl) ?_ ar_nil
    intro z4 Y hw hB
    refine ⟨⟨hS.1.off (by omega) hw, hS.2.off (by omega) hw⟩, ?_⟩
    replace hS := (show _ ∧ _ from ⟨hS.1.off (by omega) hw, hS.2.off (by omega) hw⟩)
    replace HB := HB.trans (hB.mono (by omega))
    replace C0 := C0.blk X4 (no_ints2 _ _ _ _ _ _) hw
    replace E0 := E0.blk X4 (no_ints2 _ _ _ _ _ _) hw
    replace C1 := C1.blk X4 (no_ints2 _ _ _ _ _ _) hw
    replace E1 := E1.blk X4 (no_ints2 _ _ _ _ _ _) hw
    skip
    replace Op1 := Op1.blk X4 (no_ints2 _ _ _ _ _ _) hw
    replace Op2 := Op2.blk X4 (no_ints2 _ _ _ _ _ _) hw
    replace Or1 := Or1.blk X4 (no_ints2 _ _ _ _ _ _) hw
    replace Or2 := Or2.blk X4 (no_ints2 _ _ _ _ _ _) hw
    replace X4 := Y
    clear hB hw
    refine rg_done (by kernel_rfl) ?_
    try simp only [Act.put, List.setIfInBounds_toArray, List.set_cons_zero, List.set_cons_succ]
    go_wp2
    refine bodyPost_ret (ret_rat rfl rfl X4) rfl ?_
    exact ⟨_, _, _, _, _, _, rfl, Or1, Or2, by omega, by omega, HB⟩
end Go.Proofs.YtjihgkanbhccpaaGreatDoor

namespace Go.Proofs.YtjihgkanbhccpaaGreatDoor
open Go.RowKit Lim

/-- the reduced fraction of x / y -/
def rn (x y : Int) : Int := x / (Int.gcd x y : Nat)
def rd (x y : Int) : Int := y / (Int.gcd x y : Nat)
set_option maxHeartbeats 1000000 in
set_option maxRecDepth 100000 in
theorem qPlus {w : World} {ao ao' : Option Addr} {n c n' c' : Nat} {x y : Int} (h : NatA w ao n c x) (h' : NatA w ao' n' c' y) (hn : n ≤ 1099511627776) (hn' : n' ≤ 1099511627776) :
    Calls Tryz.prog 79 #[.slice ao n c, .slice ao' n' c'] w fun e w' => ∃ a k d, e = .returned (.tuple #[.slice a k d, .int .i64 0]) ∧ NatO w' a k d (x + y) ∧ k ≤ n + n' + 1 ∧ Below w.heap.size w w' := by
  go_enter Tryz.func79, Tryz.ntmps79
  go_wp2_with fail
  refine (nAdd h h' hn hn').mono ?_
  rintro e w1 ⟨a, k, d, rfl, O1, hk, hB⟩
  go_wp2
  go_ret2
  exact ⟨a, k, d, rfl, O1, hk, hB⟩
set_option maxHeartbeats 2000000 in
set_option maxRecDepth 100000 in
theorem qLowest {w : World} {a0 b0 : Option Addr} {n0 c0 m0 d0 : Nat} {x0 y0 : Int} (h0 : NatA w a0 n0 c0 x0) (e0 : NatA w b0 m0 d0 y0) (hn0 : n0 ≤ 34359738368) (hm0 : m0 ≤ 34359738368) :
    Calls Tryz.prog 78 #[.agg #[.slice a0 n0 c0, .slice b0 m0 d0]] w fun e w' => ∃ a k d a' k' d', e = .returned (.agg #[.slice a k d, .slice a' k' d']) ∧ NatO w' a k d (rn (cn x0 y0) (cd y0)) ∧ NatO w' a' k' d' (rd (cn x0 y0) (cd y0)) ∧ k ≤ n0 ∧ k' ≤ m0 + 1 ∧ Below w.heap.size w w' := by
  have B0 := below2 w (.cells #[.slice a0 n0 c0, .slice b0 m0 d0] 30) (.cells #[.slice none 0 0, .slice none 0 0] 30)
  have SP := (box_new w [.slice a0 n0 c0, .slice b0 m0 d0] 30).keep (below_alloc _ (.cells #[.slice none 0 0, .slice none 0 0] 30))
  have S0 := box_new (w.alloc (.cells #[.slice a0 n0 c0, .slice b0 m0 d0] 30)) [.slice none 0 0, .slice none 0 0] 30
  rw [show (w.alloc (.cells #[.slice a0 n0 c0, .slice b0 m0 d0] 30)).heap.size = w.heap.size + 1 by simp] at S0
  replace h0 := h0.keep B0
  replace e0 := e0.keep B0
  obtain ⟨p1, p2, p3, p4⟩ := SP.cells2
  have hld := load_rat SP
  go_enter Tryz.func78, Tryz.ntmps78
  go_wp2_with fail
  refine (qCounted h0 e0 (by omega) (by omega)).mono ?_
  rintro e w1 ⟨A0, K0, D0, B0', L0, M0, rfl, C0, E0, hK0, hL0, hB⟩
  replace S0 := S0.keep hB
  replace B0 := joinB B0 hB
  clear hB p1 p2 p3 p4 hld SP h0 e0
  have BA := below_alloc w1 (.cells #[.slice A0 K0 D0, .slice B0' L0 M0] 30)
  have SX := box_new w1 [.slice A0 K0 D0, .slice B0' L0 M0] 30
  replace S0 := S0.keep BA
  replace C0 := C0.keep BA
  replace E0 := E0.keep BA
  replace B0 := joinB B0 BA
  obtain ⟨p1, p2, p3, p4⟩ := SX.cells2
  go_wp2_with fail
  refine (qReduced C0 E0 (by omega) (by omega) (cd_ne _)).mono ?_
  rintro e w2 ⟨a, k, d, a', k', d', rfl, O1, O2, hk, hk', hB⟩
  replace S0 := S0.keep hB
  replace B0 := joinB B0 hB
  obtain ⟨c1, c2, f1, f2⟩ := S0.cells2
  have S2 := S0.put2 (.slice a k d) (.slice a' k' d')
  have P1 := O1.put2 S0 (.slice a k d) (.slice a' k' d')
  have P2 := O2.put2 S0 (.slice a k d) (.slice a' k' d')
  have HB := below_put2 B0 (g := w.heap.size + 1) (by omega) (.slice a k d) (.slice a' k' d')
  clear hB O1 O2 S0 B0 SX C0 E0 BA p1 p2 p3 p4
  go_wp2
  refine bodyPost_ret (ret_rat rfl rfl S2) rfl ?_
  exact ⟨a, k, d, a', k', d', rfl, P1, P2, by omega, by omega, HB⟩
set_option maxHeartbeats 2000000 in
set_option maxRecDepth 100000 in
theorem qFloor {w : World} {a0 b0 : Option Addr} {n0 c0 m0 d0 : Nat} {x0 y0 : Int} (h0 : NatA w a0 n0 c0 x0) (e0 : NatA w b0 m0 d0 y0) (hn0 : n0 ≤ 34359738368) (hm0 : m0 ≤ 34359738368) :
    Calls Tryz.prog 20 #[.agg #[.slice a0 n0 c0, .slice b0 m0 d0]] w fun e w' => ∃ a k d, e = .returned (.slice a k d) ∧ NatO w' a k d (cn x0 y0 / cd y0) ∧ k ≤ n0 ∧ Below w.heap.size w w' := by
  have B0 := below_alloc w (.cells #[.slice a0 n0 c0, .slice b0 m0 d0] 30)
  have SP := box_new w [.slice a0 n0 c0, .slice b0 m0 d0] 30
  replace h0 := h0.keep B0
  replace e0 := e0.keep B0
  obtain ⟨p1, p2, p3, p4⟩ := SP.cells2
  go_enter Tryz.func20, Tryz.ntmps20
  go_wp2_with fail
  refine (qCounted h0 e0 (by omega) (by omega)).mono ?_
  rintro e w1 ⟨A0, K0, D0, B0', L0, M0, rfl, C0, E0, hK0, hL0, hB⟩
  replace B0 := joinB B0 hB
  clear hB p1 p2 p3 p4 SP h0 e0
  have BA := below_alloc w1 (.cells #[.slice A0 K0 D0, .slice B0' L0 M0] 30)
  have SX := box_new w1 [.slice A0 K0 D0, .slice B0' L0 M0] 30
  replace C0 := C0.keep BA
  replace E0 := E0.keep BA
  replace B0 := joinB B0 BA
  obtain ⟨p1, p2, p3, p4⟩ := SX.cells2
  go_wp2_with fail
  refine (qQuot C0 E0 (by omega) (by omega) (cd_ne _)).mono ?_
  rintro e w2 ⟨a, k, d, rfl, O1, hk, hB⟩
  go_wp2
  go_ret
  exact ⟨a, k, d, rfl, O1, by omega, joinB B0 hB⟩
set_option maxHeartbeats 1000000 in
set_option maxRecDepth 100000 in
theorem qOf {w : World} {ao ao' : Option Addr} {n c n' c' : Nat} {x y : Int} (h : NatA w ao n c x) (h' : NatA w ao' n' c' y) (hn : n ≤ 274877906944) (hn' : n' ≤ 274877906944) (hne : y ≠ 0) :
    Calls Tryz.prog 38 #[.slice ao n c, .slice ao' n' c'] w fun e w' => ∃ a k d a' k' d', e = .returned (.tuple #[.agg #[.slice a k d, .slice a' k' d'], .int .i64 0]) ∧ NatO w' a k d (rn x y) ∧ NatO w' a' k' d' (rd x y) ∧ k ≤ n ∧ k' ≤ n' ∧ Below w.heap.size w w' := by
  have hm : bitLen y.toNat ≠ 0 := fun e => hne ((bitLen_zero y h'.nonneg).1 e)
  have HNE := (show Hid _ from hne)
  clear hne
  have B0 := below_alloc w (.cells #[.slice none 0 0, .slice none 0 0] 30)
  have S0 := box_new w [.slice none 0 0, .slice none 0 0] 30
  replace h := h.keep B0
  replace h' := h'.keep B0
  have t := nBits h' (by omega)
  generalize bitLen y.toNat = m at *
  obtain ⟨j, rfl⟩ : ∃ j, m = j + 1 := ⟨m - 1, by omega⟩
  clear hm
  go_enter Tryz.func38, Tryz.ntmps38
  go_wp2_with fail
  refine t.mono ?_
  rintro e w1 ⟨rfl, hB⟩
  replace h := h.keep hB
  replace h' := h'.keep hB
  replace S0 := S0.keep hB
  replace B0 := joinB B0 hB
  clear hB t
  go_wp2_with fail
  refine (qReduced h h' (by omega) (by omega) HNE.out).mono ?_
  rintro e w2 ⟨a, k, d, a', k', d', rfl, O1, O2, hk, hk', hB⟩
  replace S0 := S0.keep hB
  replace B0 := joinB B0 hB
  obtain ⟨c1, c2, f1, f2⟩ := S0.cells2
  have S2 := S0.put2 (.slice a k d) (.slice a' k' d')
  have P1 := O1.put2 S0 (.slice a k d) (.slice a' k' d')
  have P2 := O2.put2 S0 (.slice a k d) (.slice a' k' d')
  have HB := below_put2 B0 (g := w.heap.size) (by omega) (.slice a k d) (.slice a' k' d')
  clear hB O1 O2 S0 B0 h h'
  go_wp2
  refine bodyPost_ret (ret_rat_tmp rfl rfl rfl S2) rfl ?_
  exact ⟨a, k, d, a', k', d', rfl, P1, P2, by omega, by omega, HB⟩
set_option maxHeartbeats 1000000 in
set_option maxRecDepth 100000 in
theorem qOfZ {w : World} {v : Value} {ao' : Option Addr} {n' c' : Nat} {y : Int} (h' : NatA w ao' n' c' y) (hn' : n' ≤ 274877906944) (hz : y = 0) :
    Calls Tryz.prog 38 #[v, .slice ao' n' c'] w fun e w' => e = .returned (.tuple #[.agg #[.slice none 0 0, .slice none 0 0], .int .i64 30]) ∧ Below w.heap.size w w' := by
  have hm := (bitLen_zero y h'.nonneg).2 hz
  have B0 := below_alloc w (.cells #[.slice none 0 0, .slice none 0 0] 30)
  have S0 := box_new w [.slice none 0 0, .slice none 0 0] 30
  replace h' := h'.keep B0
  have t := nBits h' (by omega)
  rw [hm] at t
  clear hm hz
  go_enter Tryz.func38, Tryz.ntmps38
  go_wp2_with fail
  refine t.mono ?_
  rintro e w1 ⟨rfl, hB⟩
  replace S0 := S0.keep hB
  replace B0 := joinB B0 hB
  obtain ⟨c1, c2, f1, f2⟩ := S0.cells2
  have S2 := S0.put2 (.slice none 0 0) (.slice none 0 0)
  have HB := below_put2 B0 (g := w.heap.size) (by omega) (.slice none 0 0) (.slice none 0 0)
  clear hB S0 B0 h' t
  go_wp2
  refine bodyPost_ret (ret_rat_tmp rfl rfl rfl S2) rfl ?_
  exact ⟨rfl, HB⟩
end Go.Proofs.YtjihgkanbhccpaaGreatDoor

namespace Go.Proofs.YtjihgkanbhccpaaGreatDoor
open Go.RowKit Lim

/-- N / D is the reduced fraction of p / q -/
structure Red (N D p q : Int) : Prop where
  n0 : 0 ≤ N
  d0 : 0 < D
  co : Int.gcd N D = 1
  eq : N * q = p * D
theorem red_unique_nat {a b c d : Nat} (h : a.Coprime b) (k : c.Coprime d) (e : a * d = c * b) : a = c ∧ b = d := by
  have h1 : b ∣ d := h.symm.dvd_of_dvd_mul_left (by rw [e]; exact Nat.dvd_mul_left _ _)
  have h2 : d ∣ b := k.symm.dvd_of_dvd_mul_left (by rw [← e]; exact Nat.dvd_mul_left _ _)
  have h3 := Nat.dvd_antisymm h1 h2
  have h4 : a ∣ c := h.dvd_of_dvd_mul_right (by rw [← e]; exact Nat.dvd_mul_right _ _)
  have h5 : c ∣ a := k.dvd_of_dvd_mul_right (by rw [e]; exact Nat.dvd_mul_right _ _)
  exact ⟨Nat.dvd_antisymm h4 h5, h3⟩
theorem Red.unique {N D p q N' D' p' q' : Int} (h : Red N D p q) (k : Red N' D' p' q') (hq : 0 < q) (hq' : 0 < q') (e : p * q' = p' * q) : N = N' ∧ D = D' := by
  have h0 := h.n0
  have h1 := h.d0
  have k0 := k.n0
  have k1 := k.d0
  obtain ⟨a, rfl⟩ : ∃ a : Nat, N = a := ⟨N.toNat, by omega⟩
  obtain ⟨b, rfl⟩ : ∃ b : Nat, D = b := ⟨D.toNat, by omega⟩
  obtain ⟨c, rfl⟩ : ∃ c : Nat, N' = c := ⟨N'.toNat, by omega⟩
  obtain ⟨d, rfl⟩ : ∃ d : Nat, D' = d := ⟨D'.toNat, by omega⟩
  have e1 : (a : Int) * d = c * b := by
    have hh := h.eq
    have kk := k.eq
    have hqq : q * q' ≠ 0 := Int.mul_ne_zero (by omega) (by omega)
    apply Int.eq_of_mul_eq_mul_right hqq
    have s1 : (a : Int) * d * (q * q') = (a * q) * (d * q') := by grind
    have s2 : (c : Int) * b * (q * q') = (c * q') * (b * q) := by grind
    rw [s1, s2, hh, kk]
    have s3 : p * ↑b * (↑d * q') = (p * q') * (b * d) := by grind
    have s4 : p' * ↑d * (↑b * q) = (p' * q) * (b * d) := by grind
    rw [s3, s4, e]
  have e2 : a * d = c * b := by
    have : ((a * d : Nat) : Int) = ((c * b : Nat) : Int) := by rw [Int.natCast_mul, Int.natCast_mul]; exact e1
    exact Int.ofNat.inj this
  have hc : a.Coprime b := h.co
  have kc : c.Coprime d := k.co
  obtain ⟨r1, r2⟩ := red_unique_nat hc kc e2
  exact ⟨by rw [r1], by rw [r2]⟩
theorem red_of {x y : Int} (hx : 0 ≤ x) (hy : 0 < y) : Red (rn x y) (rd x y) x y := by
  obtain ⟨a, rfl⟩ : ∃ a : Nat, x = a := ⟨x.toNat, by omega⟩
  obtain ⟨b, rfl⟩ : ∃ b : Nat, y = b := ⟨y.toNat, by omega⟩
  have hb : 0 < b := by omega
  have hg : 0 < a.gcd b := Nat.gcd_pos_of_pos_right _ hb
  have e1 : rn a b = ((a / a.gcd b : Nat) : Int) := by unfold rn; rw [Int.natCast_ediv]; rfl
  have e2 : rd a b = ((b / a.gcd b : Nat) : Int) := by unfold rd; rw [Int.natCast_ediv]; rfl
  rw [e1, e2]
  refine ⟨Int.natCast_nonneg _, ?_, Nat.coprime_div_gcd_div_gcd hg, ?_⟩
  · have : 0 < b / a.gcd b := Nat.div_pos (Nat.gcd_le_right _ hb) hg
    exact Int.natCast_pos.2 this
  · have h1 : a / a.gcd b * a.gcd b = a := Nat.div_mul_cancel (Nat.gcd_dvd_left _ _)
    have h2 : b / a.gcd b * a.gcd b = b := Nat.div_mul_cancel (Nat.gcd_dvd_right _ _)
    have h3 : a / a.gcd b * b = a * (b / a.gcd b) := by
      conv => lhs; rw [← h2]
      conv => rhs; rw [← h1]
      grind
    rw [← Int.natCast_mul, ← Int.natCast_mul, h3]
/-- num over l q1, where l q1 is the least common denominator -/
theorem tog_nat {p0 p1 q0 q1 num : Nat} (h0 : p0.Coprime q0) (h1 : p1.Coprime q1) (hq0 : 0 < q0) (hq1 : 0 < q1)
    (hn : num = p0 * (q1 / q0.gcd q1) + p1 * (q0 / q0.gcd q1) ∨ num + p1 * (q0 / q0.gcd q1) = p0 * (q1 / q0.gcd q1)) :
    (num / num.gcd (q0.gcd q1)).Coprime (q0 / q0.gcd q1 * (q1 / num.gcd (q0.gcd q1))) := by
  have hg : 0 < q0.gcd q1 := Nat.gcd_pos_of_pos_left _ hq0
  obtain ⟨l, hl⟩ : ∃ l, q0 / q0.gcd q1 = l := ⟨_, rfl⟩
  obtain ⟨r, hr⟩ : ∃ r, q1 / q0.gcd q1 = r := ⟨_, rfl⟩
  have cl : l.Coprime r := by rw [← hl, ← hr]; exact Nat.coprime_div_gcd_div_gcd hg
  have el : l * q0.gcd q1 = q0 := by rw [← hl]; exact Nat.div_mul_cancel (Nat.gcd_dvd_left _ _)
  have er : r * q0.gcd q1 = q1 := by rw [← hr]; exact Nat.div_mul_cancel (Nat.gcd_dvd_right _ _)
  rw [hl, hr] at hn
  rw [hl]
  have d1 : num.gcd (q0.gcd q1) ∣ q1 := Nat.dvd_trans (Nat.gcd_dvd_right _ _) (Nat.gcd_dvd_right _ _)
  generalize hG : q0.gcd q1 = g at *
  have c0l : p0.Coprime l := Nat.Coprime.coprime_mul_right_right (k := g) (by rw [el]; exact h0)
  have c1r : p1.Coprime r := Nat.Coprime.coprime_mul_right_right (k := g) (by rw [er]; exact h1)
  have nl : l.Coprime num := by
    have a1 : (p0 * r).gcd l = 1 := Nat.Coprime.mul_left c0l cl.symm
    rcases hn with e | e
    · have : num.gcd l = 1 := by rw [e, Nat.gcd_add_mul_right_left]; exact a1
      exact Nat.Coprime.symm this
    · have : num.gcd l = 1 := by rw [← Nat.gcd_add_mul_right_left l num p1, e]; exact a1
      exact Nat.Coprime.symm this
  have nr : r.Coprime num := by
    have a1 : (p1 * l).gcd r = 1 := Nat.Coprime.mul_left c1r cl
    rcases hn with e | e
    · have : num.gcd r = 1 := by rw [e, Nat.add_comm, Nat.gcd_add_mul_right_left]; exact a1
      exact Nat.Coprime.symm this
    · have h2 : (num + p1 * l).gcd r = r := by rw [e]; exact Nat.gcd_eq_right (Nat.dvd_mul_left _ _)
      have h3 : num.gcd r ∣ p1 * l := by
        have s1 : num.gcd r ∣ num + p1 * l := Nat.dvd_trans (Nat.gcd_dvd_right _ _) (by rw [e]; exact Nat.dvd_mul_left _ _)
        exact (Nat.dvd_add_right (Nat.gcd_dvd_left _ _)).1 s1
      have h4 : num.gcd r ∣ (p1 * l).gcd r := Nat.dvd_gcd h3 (Nat.gcd_dvd_right _ _)
      rw [a1] at h4
      exact Nat.Coprime.symm (Nat.dvd_one.1 h4)
  have e1 : num.gcd (l * q1) = num.gcd g := by
    rw [Nat.Coprime.gcd_mul_left_cancel_right q1 nl, ← er, Nat.Coprime.gcd_mul_left_cancel_right g nr]
  have e2 : l * (q1 / num.gcd g) = l * q1 / num.gcd g := (Nat.mul_div_assoc l d1).symm
  rw [e2, ← e1]
  have hlp : 0 < l := by
    rcases Nat.eq_zero_or_pos l with e | e
    · subst e; simp at el; omega
    · exact e
  exact Nat.coprime_div_gcd_div_gcd (Nat.gcd_pos_of_pos_right _ (Nat.mul_pos hlp hq1))
end Go.Proofs.YtjihgkanbhccpaaGreatDoor

namespace Go.Proofs.YtjihgkanbhccpaaGreatDoor
open Go.RowKit Lim

set_option maxHeartbeats 8000000 in
set_option maxRecDepth 100000 in
theorem qTogP {w : World} {a0 b0 : Option Addr} {n0 c0 m0 d0 : Nat} {x0 y0 : Int} {a1 b1 : Option Addr} {n1 c1 m1 d1 : Nat} {x1 y1 : Int} (h0 : NatA w a0 n0 c0 x0) (e0 : NatA w b0 m0 d0 y0) (hn0 : n0 ≤ 17179869184) (hm0 : m0 ≤ 17179869184) (hy0 : y0 ≠ 0) (h1 : NatA w a1 n1 c1 x1) (e1 : NatA w b1 m1 d1 y1) (hn1 : n1 ≤ 17179869184) (hm1 : m1 ≤ 17179869184) (hy1 : y1 ≠ 0) :
    Calls Tryz.prog 77 #[.agg #[.slice a0 n0 c0, .slice b0 m0 d0], .agg #[.slice a1 n1 c1, .slice b1 m1 d1], .func (.func 79) #[] #[]] w fun e w' => ∃ a k d a' k' d', e = .returned (.tuple #[.agg #[.slice a k d, .slice a' k' d'], .int .i64 0]) ∧ NatO w' a k d ((x0 * (y1 / (Int.gcd y0 y1 : Nat)) + x1 * (y0 / (Int.gcd y0 y1 : Nat))) / (Int.gcd (x0 * (y1 / (Int.gcd y0 y1 : Nat)) + x1 * (y0 / (Int.gcd y0 y1 : Nat))) (Int.gcd y0 y1 : Nat) : Nat)) ∧ NatO w' a' k' d' (y0 / (Int.gcd y0 y1 : Nat) * (y1 / (Int.gcd (x0 * (y1 / (Int.gcd y0 y1 : Nat)) + x1 * (y0 / (Int.gcd y0 y1 : Nat))) (Int.gcd y0 y1 : Nat) : Nat))) ∧ k ≤ n0 + n1 + m0 + m1 + 1 ∧ k' ≤ m0 + m1 ∧ Below w.heap.size w w' := by
  have hg : ((Int.gcd y0 y1 : Nat) : Int) ≠ 0 := fun e => hy0 (Int.gcd_eq_zero_iff (a := y0) (b := y1) |>.1 (by omega)).1
  have HG := (show Hid _ from hg)
  have HY0 := (show Hid _ from hy0)
  have HY1 := (show Hid _ from hy1)
  clear hg hy0 hy1
  have HB := below3 w (.cells #[.slice a0 n0 c0, .slice b0 m0 d0] 30) (.cells #[.slice a1 n1 c1, .slice b1 m1 d1] 30) (.cells #[.slice none 0 0, .slice none 0 0] 30)
  have P0 := ((box_new w [.slice a0 n0 c0, .slice b0 m0 d0] 30).keep (below_alloc _ (.cells #[.slice a1 n1 c1, .slice b1 m1 d1] 30))).keep (below_alloc _ (.cells #[.slice none 0 0, .slice none 0 0] 30))
  have P1 := (box_new (w.alloc (.cells #[.slice a0 n0 c0, .slice b0 m0 d0] 30)) [.slice a1 n1 c1, .slice b1 m1 d1] 30).keep (below_alloc _ (.cells #[.slice none 0 0, .slice none 0 0] 30))
  have X6 := box_new ((w.alloc (.cells #[.slice a0 n0 c0, .slice b0 m0 d0] 30)).alloc (.cells #[.slice a1 n1 c1, .slice b1 m1 d1] 30)) [.slice none 0 0, .slice none 0 0] 30
  rw [show (w.alloc (.cells #[.slice a0 n0 c0, .slice b0 m0 d0] 30)).heap.size = w.heap.size + 1 by simp] at P1
  rw [show ((w.alloc (.cells #[.slice a0 n0 c0, .slice b0 m0 d0] 30)).alloc (.cells #[.slice a1 n1 c1, .slice b1 m1 d1] 30)).heap.size = w.heap.size + 1 + 1 by simp] at X6
  replace h0 := h0.keep HB
  replace e0 := e0.keep HB
  replace h1 := h1.keep HB
  replace e1 := e1.keep HB
  obtain ⟨p1, p2, p3, p4⟩ := P0.cells2
  obtain ⟨q1, q2, q3, q4⟩ := P1.cells2
  go_enter Tryz.func77, Tryz.ntmps77
  go_wp2_with fail
  generalize ((w.alloc (.cells #[.slice a0 n0 c0, .slice b0 m0 d0] 30)).alloc (.cells #[.slice a1 n1 c1, .slice b1 m1 d1] 30)).alloc (.cells #[.slice none 0 0, .slice none 0 0] 30) = u0 at *
  refine (nGcd e0 e1 (by omega) (by omega)).mono ?_
  rintro e u1 ⟨Ag, Kg, Dg, rfl, OG, hkg, hB⟩
  clear p1 p2 p3 p4 q1 q2 q3 q4
  replace h0 := h0.keep hB
  replace e0 := e0.keep hB
  replace h1 := h1.keep hB
  replace e1 := e1.keep hB
  replace P0 := P0.keep hB
  replace P1 := P1.keep hB
  replace X6 := X6.keep hB
  replace HB := joinB HB hB
  clear hB
  go_wp2_with fail
  refine rg_start (S := fun w' => Box w' w.heap.size [.slice a0 n0 c0, .slice b0 m0 d0] 30 ∧ Box w' (w.heap.size + 1) [.slice a1 n1 c1, .slice b1 m1 d1] 30) (by kernel_rfl) ⟨P0.drew, P1.drew⟩ ?_
  replace h0 := h0.drew
  replace e0 := e0.drew
  replace h1 := h1.drew
  replace e1 := e1.drew
  replace P0 := P0.drew
  replace P1 := P1.drew
  replace X6 := X6.drew
  replace OG := OG.drew
  replace HB := HB.drew
  have hS := (show _ ∧ _ from ⟨P0, P1⟩)
  refine rg_take 0 (some 19) (.pointer (some ⟨w.heap.size, 1, none⟩)) (by kernel_rfl) (fun _ _ => by kernel_rfl) (fun _ _ _ h => h) hS ?_
  refine rg_load 1 (some 20) (.slice b0 m0 d0) 28 19 (w.heap.size) 1 (by kernel_rfl) (by kernel_rfl) (by kernel_rfl) (fun _ hs => load_at (hs.1.cells2.2.1)) (fun _ _ _ h => h) hS ?_
  refine rg_take 2 (some 21) (.slice Ag Kg Dg) (by kernel_rfl) (fun _ _ => by kernel_rfl) (fun _ _ _ h => h) hS ?_
  refine rg_take 4 (some 23) (.pointer (some ⟨w.heap.size + 1, 1, none⟩)) (by kernel_rfl) (fun _ _ => by kernel_rfl) (fun _ _ _ h => h) hS ?_
  refine rg_load 5 (some 24) (.slice b1 m1 d1) 28 23 (w.heap.size + 1) 1 (by kernel_rfl) (by kernel_rfl) (by kernel_rfl) (fun _ hs => load_at (hs.2.cells2.2.1)) (fun _ _ _ h => h) hS ?_
  refine rg_take 6 (some 25) (.slice Ag Kg Dg) (by kernel_rfl) (fun _ _ => by kernel_rfl) (fun _ _ _ h => h) hS ?_
  refine rg_call 3 (some 22) 83 #[.slice b0 m0 d0, .slice Ag Kg Dg] (by kernel_rfl) (by kernel_rfl) (qQuot e0 OG.a (by omega) (by omega) HG.out) ?_
  rintro e r2x1 ⟨Al, Kl, Dl, rfl, OL, hkl, hB⟩
  refine ⟨_, rfl, ⟨hS.1.keep hB, hS.2.keep hB⟩, ?_⟩
  replace hS := (show _ ∧ _ from ⟨hS.1.keep hB, hS.2.keep hB⟩)
  replace h0 := h0.keep hB
  replace e0 := e0.keep hB
  replace h1 := h1.keep hB
  replace e1 := e1.keep hB
  replace P0 := P0.keep hB
  replace P1 := P1.keep hB
  replace X6 := X6.keep hB
  replace OG := OG.keep hB
  replace HB := joinB HB hB
  clear hB
  refine rg_call 7 (some 26) 83 #[.slice b1 m1 d1, .slice Ag Kg Dg] (by kernel_rfl) (by kernel_rfl) (qQuot e1 OG.a (by omega) (by omega) HG.out) ?_
  rintro e r2x2 ⟨Ar, Kr, Dr, rfl, OR, hkr, hB⟩
  refine ⟨_, rfl, ⟨hS.1.keep hB, hS.2.keep hB⟩, ?_⟩
  replace hS := (show _ ∧ _ from ⟨hS.1.keep hB, hS.2.keep hB⟩)
  replace h0 := h0.keep hB
  replace e0 := e0.keep hB
  replace h1 := h1.keep hB
  replace e1 := e1.keep hB
  replace P0 := P0.keep hB
  replace P1 := P1.keep hB
  replace X6 := X6.keep hB
  replace OG := OG.keep hB
  replace OL := OL.keep hB
  replace HB := joinB HB hB
  clear hB
  refine rg_take 8 (some 9) (.slice Al Kl Dl) (by kernel_rfl) (fun _ _ => by kernel_rfl) (fun _ _ _ h => h) hS ?_
  refine rg_take 9 (some 10) (.slice Ar Kr Dr) (by kernel_rfl) (fun _ _ => by kernel_rfl) (fun _ _ _ h => h) hS ?_
  refine rg_done (by kernel_rfl) ?_
  clear hS
  try simp only [Act.put, List.setIfInBounds_toArray, List.set_cons_zero, List.set_cons_succ]
  go_wp2_with fail
  refine rg_start (S := fun w' => Box w' w.heap.size [.slice a0 n0 c0, .slice b0 m0 d0] 30 ∧ Box w' (w.heap.size + 1) [.slice a1 n1 c1, .slice b1 m1 d1] 30) (by kernel_rfl) ⟨P0.drew, P1.drew⟩ ?_
  replace h0 := h0.drew
  replace e0 := e0.drew
  replace h1 := h1.drew
  replace e1 := e1.drew
  replace P0 := P0.drew
  replace P1 := P1.drew
  replace X6 := X6.drew
  replace OG := OG.drew
  replace OL := OL.drew
  replace OR := OR.drew
  replace HB := HB.drew
  have hS := (show _ ∧ _ from ⟨P0, P1⟩)
  refine rg_take 0 (some 28) (.func (.func 79) #[] #[]) (by kernel_rfl) (fun _ _ => by kernel_rfl) (fun _ _ _ h => h) hS ?_
  refine rg_take 1 (some 29) (.pointer (some ⟨w.heap.size, 0, none⟩)) (by kernel_rfl) (fun _ _ => by kernel_rfl) (fun _ _ _ h => h) hS ?_
  refine rg_load 2 (some 30) (.slice a0 n0 c0) 28 29 (w.heap.size) 0 (by kernel_rfl) (by kernel_rfl) (by kernel_rfl) (fun _ hs => load_at (hs.1.cells2.1)) (fun _ _ _ h => h) hS ?_
  refine rg_take 3 (some 31) (.slice Ar Kr Dr) (by kernel_rfl) (fun _ _ => by kernel_rfl) (fun _ _ _ h => h) hS ?_
  refine rg_take 5 (some 33) (.pointer (some ⟨w.heap.size + 1, 0, none⟩)) (by kernel_rfl) (fun _ _ => by kernel_rfl) (fun _ _ _ h => h) hS ?_
  refine rg_load 6 (some 34) (.slice a1 n1 c1) 28 33 (w.heap.size + 1) 0 (by kernel_rfl) (by kernel_rfl) (by kernel_rfl) (fun _ hs => load_at (hs.2.cells2.1)) (fun _ _ _ h => h) hS ?_
  refine rg_take 7 (some 35) (.slice Al Kl Dl) (by kernel_rfl) (fun _ _ => by kernel_rfl) (fun _ _ _ h => h) hS ?_
  refine rg_call 4 (some 32) 82 #[.slice a0 n0 c0, .slice Ar Kr Dr] (by kernel_rfl) (by kernel_rfl) (nMul h0 OR.a (by omega) (by omega)) ?_
  rintro e r3x1 ⟨Ap, Kp, Dp, rfl, Op1, hkp, hB⟩
  refine ⟨_, rfl, ⟨hS.1.keep hB, hS.2.keep hB⟩, ?_⟩
  replace hS := (show _ ∧ _ from ⟨hS.1.keep hB, hS.2.keep hB⟩)
  replace h0 := h0.keep hB
  replace e0 := e0.keep hB
  replace h1 := h1.keep hB
  replace e1 := e1.keep hB
  replace P0 := P0.keep hB
  replace P1 := P1.keep hB
  replace X6 := X6.keep hB
  replace OG := OG.keep hB
  replace OL := OL.keep hB
  replace OR := OR.keep hB
  replace HB := joinB HB hB
  clear hB
  refine rg_call 8 (some 36) 82 #[.slice a1 n1 c1, .slice Al Kl Dl] (by kernel_rfl) (by kernel_rfl) (nMul h1 OL.a (by omega) (by omega)) ?_
  rintro e r3x2 ⟨Aq, Kq, Dq, rfl, Op2, hkq, hB⟩
  refine ⟨_, rfl, ⟨hS.1.keep hB, hS.2.keep hB⟩, ?_⟩
  replace hS := (show _ ∧ _ from ⟨hS.1.keep hB, hS.2.keep hB⟩)
  replace h0 := h0.keep hB
  replace e0 := e0.keep hB
  replace h1 := h1.keep hB
  replace e1 := e1.keep hB
  replace P0 := P0.keep hB
  replace P1 := P1.keep hB
  replace X6 := X6.keep hB
  replace OG := OG.keep hB
  replace OL := OL.keep hB
  replace OR := OR.keep hB
  replace Op1 := Op1.keep hB
  replace HB := joinB HB hB
  clear hB
  refine rg_call 9 (some 37) 79 #[.slice Ap Kp Dp, .slice Aq Kq Dq] (by kernel_rfl) (by kernel_rfl) (qPlus Op1.a Op2.a (by omega) (by omega)) ?_
  rintro e r3x3 ⟨An, Kn, Dn, rfl, ON, hkn, hB⟩
  refine ⟨_, rfl, ⟨hS.1.keep hB, hS.2.keep hB⟩, ?_⟩
  replace hS := (show _ ∧ _ from ⟨hS.1.keep hB, hS.2.keep hB⟩)
  replace h0 := h0.keep hB
  replace e0 := e0.keep hB
  replace h1 := h1.keep hB
  replace e1 := e1.keep hB
  replace P0 := P0.keep hB
  replace P1 := P1.keep hB
  replace X6 := X6.keep hB
  replace OG := OG.keep hB
  replace OL := OL.keep hB
  replace OR := OR.keep hB
  replace Op1 := Op1.keep hB
  replace Op2 := Op2.keep hB
  replace HB := joinB HB hB
  clear hB
  refine rg_take 10 (some 27) (.tuple #[.slice An Kn Dn, .int .i64 0]) (by kernel_rfl) (fun _ _ => by kernel_rfl) (fun _ _ _ h => h) hS ?_
  refine rg_take 11 (some 38) (.slice An Kn Dn) (by kernel_rfl) (fun _ _ => by kernel_rfl) (fun _ _ _ h => h) hS ?_
  refine rg_take 12 (some 39) (.int .i64 0) (by kernel_rfl) (fun _ _ => by kernel_rfl) (fun _ _ _ h => h) hS ?_
  refine rg_take 13 (some 11) (.slice An Kn Dn) (by kernel_rfl) (fun _ _ => by kernel_rfl) (fun _ _ _ h => h) hS ?_
  refine rg_take 14 (some 12) (.int .i64 0) (by kernel_rfl) (fun _ _ => by kernel_rfl) (fun _ _ _ h => h) hS ?_
  refine rg_done (by kernel_rfl) ?_
  clear hS
  try simp only [Act.put, List.setIfInBounds_toArray, List.set_cons_zero, List.set_cons_succ]
  go_wp2_with fail
  refine (nGcd ON.a OG.a (by omega) (by omega)).mono ?_
  rintro e u4 ⟨At, Kt, Dt, rfl, OT, hkt, hB⟩
  replace h0 := h0.keep hB
  replace e0 := e0.keep hB
  replace h1 := h1.keep hB
  replace e1 := e1.keep hB
  replace P0 := P0.keep hB
  replace P1 := P1.keep hB
  replace X6 := X6.keep hB
  replace OG := OG.keep hB
  replace OL := OL.keep hB
  replace OR := OR.keep hB
  replace Op1 := Op1.keep hB
  replace Op2 := Op2.keep hB
  replace ON := ON.keep hB
  replace HB := joinB HB hB
  clear hB
  have hgt : ((Int.gcd (x0 * (y1 / (Int.gcd y0 y1 : Nat)) + x1 * (y0 / (Int.gcd y0 y1 : Nat))) (Int.gcd y0 y1 : Nat) : Nat) : Int) ≠ 0 := fun e => HG.out (Int.gcd_eq_zero_iff (a := (x0 * (y1 / (Int.gcd y0 y1 : Nat)) + x1 * (y0 / (Int.gcd y0 y1 : Nat)))) (b := (Int.gcd y0 y1 : Nat)) |>.1 (by omega)).2
  have HGT := (show Hid _ from hgt)
  clear hgt
  go_wp2_with fail
  refine rg_start (S := fun w' => Box w' w.heap.size [.slice a0 n0 c0, .slice b0 m0 d0] 30 ∧ Box w' (w.heap.size + 1) [.slice a1 n1 c1, .slice b1 m1 d1] 30) (by kernel_rfl) ⟨P0.drew, P1.drew⟩ ?_
  replace h0 := h0.drew
  replace e0 := e0.drew
  replace h1 := h1.drew
  replace e1 := e1.drew
  replace P0 := P0.drew
  replace P1 := P1.drew
  replace X6 := X6.drew
  replace OG := OG.drew
  replace OL := OL.drew
  replace OR := OR.drew
  replace Op1 := Op1.drew
  replace Op2 := Op2.drew
  replace ON := ON.drew
  replace OT := OT.drew
  replace HB := HB.drew
  have hS := (show _ ∧ _ from ⟨P0, P1⟩)
  refine rg_take 0 (some 47) (.slice An Kn Dn) (by kernel_rfl) (fun _ _ => by kernel_rfl) (fun _ _ _ h => h) hS ?_
  refine rg_take 1 (some 48) (.slice At Kt Dt) (by kernel_rfl) (fun _ _ => by kernel_rfl) (fun _ _ _ h => h) hS ?_
  refine rg_take 3 (some 50) (.slice Al Kl Dl) (by kernel_rfl) (fun _ _ => by kernel_rfl) (fun _ _ _ h => h) hS ?_
  refine rg_take 4 (some 51) (.pointer (some ⟨w.heap.size + 1, 1, none⟩)) (by kernel_rfl) (fun _ _ => by kernel_rfl) (fun _ _ _ h => h) hS ?_
  refine rg_load 5 (some 52) (.slice b1 m1 d1) 28 51 (w.heap.size + 1) 1 (by kernel_rfl) (by kernel_rfl) (by kernel_rfl) (fun _ hs => load_at (hs.2.cells2.2.1)) (fun _ _ _ h => h) hS ?_
  refine rg_take 6 (some 53) (.slice At Kt Dt) (by kernel_rfl) (fun _ _ => by kernel_rfl) (fun _ _ _ h => h) hS ?_
  refine rg_call 2 (some 49) 83 #[.slice An Kn Dn, .slice At Kt Dt] (by kernel_rfl) (by kernel_rfl) (qQuot ON.a OT.a (by omega) (by omega) HGT.out) ?_
  rintro e r7x1 ⟨Au, Ku, Du, rfl, OU, hku, hB⟩
  refine ⟨_, rfl, ⟨hS.1.keep hB, hS.2.keep hB⟩, ?_⟩
  replace hS := (show _ ∧ _ from ⟨hS.1.keep hB, hS.2.keep hB⟩)
  replace h0 := h0.keep hB
  replace e0 := e0.keep hB
  replace h1 := h1.keep hB
  replace e1 := e1.keep hB
  replace P0 := P0.keep hB
  replace P1 := P1.keep hB
  replace X6 := X6.keep hB
  replace OG := OG.keep hB
  replace OL := OL.keep hB
  replace OR := OR.keep hB
  replace Op1 := Op1.keep hB
  replace Op2 := Op2.keep hB
  replace ON := ON.keep hB
  replace OT := OT.keep hB
  replace HB := joinB HB hB
  clear hB
  refine rg_call 7 (some 54) 83 #[.slice b1 m1 d1, .slice At Kt Dt] (by kernel_rfl) (by kernel_rfl) (qQuot e1 OT.a (by omega) (by omega) HGT.out) ?_
  rintro e r7x2 ⟨Av, Kv, Dv, rfl, OV, hkv, hB⟩
  refine ⟨_, rfl, ⟨hS.1.keep hB, hS.2.keep hB⟩, ?_⟩
  replace hS := (show _ ∧ _ from ⟨hS.1.keep hB, hS.2.keep hB⟩)
  replace h0 := h0.keep hB
  replace e0 := e0.keep hB
  replace h1 := h1.keep hB
  replace e1 := e1.keep hB
  replace P0 := P0.keep hB
  replace P1 := P1.keep hB
  replace X6 := X6.keep hB
  replace OG := OG.keep hB
  replace OL := OL.keep hB
  replace OR := OR.keep hB
  replace Op1 := Op1.keep hB
  replace Op2 := Op2.keep hB
  replace ON := ON.keep hB
  replace OT := OT.keep hB
  replace OU := OU.keep hB
  replace HB := joinB HB hB
  clear hB
  refine rg_call 8 (some 55) 82 #[.slice Al Kl Dl, .slice Av Kv Dv] (by kernel_rfl) (by kernel_rfl) (nMul OL.a OV.a (by omega) (by omega)) ?_
  rintro e r7x3 ⟨Aw, Kw, Dw, rfl, OW, hkw, hB⟩
  refine ⟨_, rfl, ⟨hS.1.keep hB, hS.2.keep hB⟩, ?_⟩
  replace hS := (show _ ∧ _ from ⟨hS.1.keep hB, hS.2.keep hB⟩)
  replace h0 := h0.keep hB
  replace e0 := e0.keep hB
  replace h1 := h1.keep hB
  replace e1 := e1.keep hB
  replace P0 := P0.keep hB
  replace P1 := P1.keep hB
  replace X6 := X6.keep hB
  replace OG := OG.keep hB
  replace OL := OL.keep hB
  replace OR := OR.keep hB
  replace Op1 := Op1.keep hB
  replace Op2 := Op2.keep hB
  replace ON := ON.keep hB
  replace OT := OT.keep hB
  replace OU := OU.keep hB
  replace OV := OV.keep hB
  replace HB := joinB HB hB
  clear hB
  refine rg_take 9 (some 56) (.agg #[.slice Au Ku Du, .slice Aw Kw Dw]) (by kernel_rfl) (fun _ _ => by kernel_rfl) (fun _ _ _ h => h) hS ?_
  refine rg_ready [10] (by kernel_rfl) (by simp) ?_
  refine ar_store 10 30 30 6 56 (w.heap.size + 1 + 1) [.slice none 0 0, .slice none 0 0] [.slice Au Ku Du, .slice Aw Kw Dw] (by kernel_rfl) (by kernel_rfl) (by kernel_rfl) (by kernel_rfl) X6 (by kernel_rfl) rfl (by kernel_rfl) ?_ ar_nil
  intro r7x4 Y hw hB
  refine ⟨⟨hS.1.off (by omega) hw, hS.2.off (by omega) hw⟩, ?_⟩
  replace hS := (show _ ∧ _ from ⟨hS.1.off (by omega) hw, hS.2.off (by omega) hw⟩)
  replace HB := HB.trans (hB.mono (by omega))
  replace h0 := h0.blk X6 (no_ints2 _ _ _ _ _ _) hw
  replace e0 := e0.blk X6 (no_ints2 _ _ _ _ _ _) hw
  replace h1 := h1.blk X6 (no_ints2 _ _ _ _ _ _) hw
  replace e1 := e1.blk X6 (no_ints2 _ _ _ _ _ _) hw
  replace P0 := P0.off (by omega) hw
  replace P1 := P1.off (by omega) hw
  skip
  replace OG := OG.blk X6 (no_ints2 _ _ _ _ _ _) hw
  replace OL := OL.blk X6 (no_ints2 _ _ _ _ _ _) hw
  replace OR := OR.blk X6 (no_ints2 _ _ _ _ _ _) hw
  replace Op1 := Op1.blk X6 (no_ints2 _ _ _ _ _ _) hw
  replace Op2 := Op2.blk X6 (no_ints2 _ _ _ _ _ _) hw
  replace ON := ON.blk X6 (no_ints2 _ _ _ _ _ _) hw
  replace OT := OT.blk X6 (no_ints2 _ _ _ _ _ _) hw
  replace OU := OU.blk X6 (no_ints2 _ _ _ _ _ _) hw
  replace OV := OV.blk X6 (no_ints2 _ _ _ _ _ _) hw
  replace OW := OW.blk X6 (no_ints2 _ _ _ _ _ _) hw
  replace X6 := Y
  clear hB hw
  refine rg_take 11 (some 7) (.int .i64 0) (by kernel_rfl) (fun _ _ => by kernel_rfl) (fun _ _ _ h => h) hS ?_
  refine rg_done (by kernel_rfl) ?_
  clear hS
  try simp only [Act.put, List.setIfInBounds_toArray, List.set_cons_zero, List.set_cons_succ]
  go_wp2
  refine bodyPost_ret (ret_rat_tmp rfl rfl rfl X6) rfl ?_
  exact ⟨_, _, _, _, _, _, rfl, OU, OW, by omega, by omega, HB⟩
set_option maxHeartbeats 8000000 in
set_option maxRecDepth 100000 in
theorem qTogS {w : World} {a0 b0 : Option Addr} {n0 c0 m0 d0 : Nat} {x0 y0 : Int} {a1 b1 : Option Addr} {n1 c1 m1 d1 : Nat} {x1 y1 : Int} (h0 : NatA w a0 n0 c0 x0) (e0 : NatA w b0 m0 d0 y0) (hn0 : n0 ≤ 17179869184) (hm0 : m0 ≤ 17179869184) (hy0 : y0 ≠ 0) (h1 : NatA w a1 n1 c1 x1) (e1 : NatA w b1 m1 d1 y1) (hn1 : n1 ≤ 17179869184) (hm1 : m1 ≤ 17179869184) (hy1 : y1 ≠ 0) (hh : x1 * (y0 / (Int.gcd y0 y1 : Nat)) ≤ x0 * (y1 / (Int.gcd y0 y1 : Nat))) :
    Calls Tryz.prog 77 #[.agg #[.slice a0 n0 c0, .slice b0 m0 d0], .agg #[.slice a1 n1 c1, .slice b1 m1 d1], .func (.func 90) #[] #[]] w fun e w' => ∃ a k d a' k' d', e = .returned (.tuple #[.agg #[.slice a k d, .slice a' k' d'], .int .i64 0]) ∧ NatO w' a k d ((x0 * (y1 / (Int.gcd y0 y1 : Nat)) - x1 * (y0 / (Int.gcd y0 y1 : Nat))) / (Int.gcd (x0 * (y1 / (Int.gcd y0 y1 : Nat)) - x1 * (y0 / (Int.gcd y0 y1 : Nat))) (Int.gcd y0 y1 : Nat) : Nat)) ∧ NatO w' a' k' d' (y0 / (Int.gcd y0 y1 : Nat) * (y1 / (Int.gcd (x0 * (y1 / (Int.gcd y0 y1 : Nat)) - x1 * (y0 / (Int.gcd y0 y1 : Nat))) (Int.gcd y0 y1 : Nat) : Nat))) ∧ k ≤ n0 + n1 + m0 + m1 + 1 ∧ k' ≤ m0 + m1 ∧ Below w.heap.size w w' := by
  have hg : ((Int.gcd y0 y1 : Nat) : Int) ≠ 0 := fun e => hy0 (Int.gcd_eq_zero_iff (a := y0) (b := y1) |>.1 (by omega)).1
  have HG := (show Hid _ from hg)
  have HY0 := (show Hid _ from hy0)
  have HY1 := (show Hid _ from hy1)
  clear hg hy0 hy1
  have HH := (show Hid _ from hh)
  clear hh
  have HB := below3 w (.cells #[.slice a0 n0 c0, .slice b0 m0 d0] 30) (.cells #[.slice a1 n1 c1, .slice b1 m1 d1] 30) (.cells #[.slice none 0 0, .slice none 0 0] 30)
  have P0 := ((box_new w [.slice a0 n0 c0, .slice b0 m0 d0] 30).keep (below_alloc _ (.cells #[.slice a1 n1 c1, .slice b1 m1 d1] 30))).keep (below_alloc _ (.cells #[.slice none 0 0, .slice none 0 0] 30))
  have P1 := (box_new (w.alloc (.cells #[.slice a0 n0 c0, .slice b0 m0 d0] 30)) [.slice a1 n1 c1, .slice b1 m1 d1] 30).keep (below_alloc _ (.cells #[.slice none 0 0, .slice none 0 0] 30))
  have X6 := box_new ((w.alloc (.cells #[.slice a0 n0 c0, .slice b0 m0 d0] 30)).alloc (.cells #[.slice a1 n1 c1, .slice b1 m1 d1] 30)) [.slice none 0 0, .slice none 0 0] 30
  rw [show (w.alloc (.cells #[.slice a0 n0 c0, .slice b0 m0 d0] 30)).heap.size = w.heap.size + 1 by simp] at P1
  rw [show ((w.alloc (.cells #[.slice a0 n0 c0, .slice b0 m0 d0] 30)).alloc (.cells #[.slice a1 n1 c1, .slice b1 m1 d1] 30)).heap.size = w.heap.size + 1 + 1 by simp] at X6
  replace h0 := h0.keep HB
  replace e0 := e0.keep HB
  replace h1 := h1.keep HB
  replace e1 := e1.keep HB
  obtain ⟨p1, p2, p3, p4⟩ := P0.cells2
  obtain ⟨q1, q2, q3, q4⟩ := P1.cells2
  go_enter Tryz.func77, Tryz.ntmps77
  go_wp2_with fail
  generalize ((w.alloc (.cells #[.slice a0 n0 c0, .slice b0 m0 d0] 30)).alloc (.cells #[.slice a1 n1 c1, .slice b1 m1 d1] 30)).alloc (.cells #[.slice none 0 0, .slice none 0 0] 30) = u0 at *
  refine (nGcd e0 e1 (by omega) (by omega)).mono ?_
  rintro e u1 ⟨Ag, Kg, Dg, rfl, OG, hkg, hB⟩
  clear p1 p2 p3 p4 q1 q2 q3 q4
  replace h0 := h0.keep hB
  replace e0 := e0.keep hB
  replace h1 := h1.keep hB
  replace e1 := e1.keep hB
  replace P0 := P0.keep hB
  replace P1 := P1.keep hB
  replace X6 := X6.keep hB
  replace HB := joinB HB hB
  clear hB
  go_wp2_with fail
  refine rg_start (S := fun w' => Box w' w.heap.size [.slice a0 n0 c0, .slice b0 m0 d0] 30 ∧ Box w' (w.heap.size + 1) [.slice a1 n1 c1, .slice b1 m1 d1] 30) (by kernel_rfl) ⟨P0.drew, P1.drew⟩ ?_
  replace h0 := h0.drew
  replace e0 := e0.drew
  replace h1 := h1.drew
  replace e1 := e1.drew
  replace P0 := P0.drew
  replace P1 := P1.drew
  replace X6 := X6.drew
  replace OG := OG.drew
  replace HB := HB.drew
  have hS := (show _ ∧ _ from ⟨P0, P1⟩)
  refine rg_take 0 (some 19) (.pointer (some ⟨w.heap.size, 1, none⟩)) (by kernel_rfl) (fun _ _ => by kernel_rfl) (fun _ _ _ h => h) hS ?_
  refine rg_load 1 (some 20) (.slice b0 m0 d0) 28 19 (w.heap.size) 1 (by kernel_rfl) (by kernel_rfl) (by kernel_rfl) (fun _ hs => load_at (hs.1.cells2.2.1)) (fun _ _ _ h => h) hS ?_
  refine rg_take 2 (some 21) (.slice Ag Kg Dg) (by kernel_rfl) (fun _ _ => by kernel_rfl) (fun _ _ _ h => h) hS ?_
  refine rg_take 4 (some 23) (.pointer (some ⟨w.heap.size + 1, 1, none⟩)) (by kernel_rfl) (fun _ _ => by kernel_rfl) (fun _ _ _ h => h) hS ?_
  refine rg_load 5 (some 24) (.slice b1 m1 d1) 28 23 (w.heap.size + 1) 1 (by kernel_rfl) (by kernel_rfl) (by kernel_rfl) (fun _ hs => load_at (hs.2.cells2.2.1)) (fun _ _ _ h => h) hS ?_
  refine rg_take 6 (some 25) (.slice Ag Kg Dg) (by kernel_rfl) (fun _ _ => by kernel_rfl) (fun _ _ _ h => h) hS ?_
  refine rg_call 3 (some 22) 83 #[.slice b0 m0 d0, .slice Ag Kg Dg] (by kernel_rfl) (by kernel_rfl) (qQuot e0 OG.a (by omega) (by omega) HG.out) ?_
  rintro e r2x1 ⟨Al, Kl, Dl, rfl, OL, hkl, hB⟩
  refine ⟨_, rfl, ⟨hS.1.keep hB, hS.2.keep hB⟩, ?_⟩
  replace hS := (show _ ∧ _ from ⟨hS.1.keep hB, hS.2.keep hB⟩)
  replace h0 := h0.keep hB
  replace e0 := e0.keep hB
  replace h1 := h1.keep hB
  replace e1 := e1.keep hB
  replace P0 := P0.keep hB
  replace P1 := P1.keep hB
  replace X6 := X6.keep hB
  replace OG := OG.keep hB
  replace HB := joinB HB hB
  clear hB
  refine rg_call 7 (some 26) 83 #[.slice b1 m1 d1, .slice Ag Kg Dg] (by kernel_rfl) (by kernel_rfl) (qQuot e1 OG.a (by omega) (by omega) HG.out) ?_
  rintro e r2x2 ⟨Ar, Kr, Dr, rfl, OR, hkr, hB⟩
  refine ⟨_, rfl, ⟨hS.1.keep hB, hS.2.keep hB⟩, ?_⟩
  replace hS := (show _ ∧ _ from ⟨hS.1.keep hB, hS.2.keep hB⟩)
  replace h0 := h0.keep hB
  replace e0 := e0.keep hB
  replace h1 := h1.keep hB
  replace e1 := e1.keep hB
  replace P0 := P0.keep hB
  replace P1 := P1.keep hB
  replace X6 := X6.keep hB
  replace OG := OG.keep hB
  replace OL := OL.keep hB
  replace HB := joinB HB hB
  clear hB
  refine rg_take 8 (some 9) (.slice Al Kl Dl) (by kernel_rfl) (fun _ _ => by kernel_rfl) (fun _ _ _ h => h) hS ?_
  refine rg_take 9 (some 10) (.slice Ar Kr Dr) (by kernel_rfl) (fun _ _ => by kernel_rfl) (fun _ _ _ h => h) hS ?_
  refine rg_done (by kernel_rfl) ?_
  clear hS
  try simp only [Act.put, List.setIfInBounds_toArray, List.set_cons_zero, List.set_cons_succ]
  go_wp2_with fail
  refine rg_start (S := fun w' => Box w' w.heap.size [.slice a0 n0 c0, .slice b0 m0 d0] 30 ∧ Box w' (w.heap.size + 1) [.slice a1 n1 c1, .slice b1 m1 d1] 30) (by kernel_rfl) ⟨P0.drew, P1.drew⟩ ?_
  replace h0 := h0.drew
  replace e0 := e0.drew
  replace h1 := h1.drew
  replace e1 := e1.drew
  replace P0 := P0.drew
  replace P1 := P1.drew
  replace X6 := X6.drew
  replace OG := OG.drew
  replace OL := OL.drew
  replace OR := OR.drew
  replace HB := HB.drew
  have hS := (show _ ∧ _ from ⟨P0, P1⟩)
  refine rg_take 0 (some 28) (.func (.func 90) #[] #[]) (by kernel_rfl) (fun _ _ => by kernel_rfl) (fun _ _ _ h => h) hS ?_
  refine rg_take 1 (some 29) (.pointer (some ⟨w.heap.size, 0, none⟩)) (by kernel_rfl) (fun _ _ => by kernel_rfl) (fun _ _ _ h => h) hS ?_
  refine rg_load 2 (some 30) (.slice a0 n0 c0) 28 29 (w.heap.size) 0 (by kernel_rfl) (by kernel_rfl) (by kernel_rfl) (fun _ hs => load_at (hs.1.cells2.1)) (fun _ _ _ h => h) hS ?_
  refine rg_take 3 (some 31) (.slice Ar Kr Dr) (by kernel_rfl) (fun _ _ => by kernel_rfl) (fun _ _ _ h => h) hS ?_
  refine rg_take 5 (some 33) (.pointer (some ⟨w.heap.size + 1, 0, none⟩)) (by kernel_rfl) (fun _ _ => by kernel_rfl) (fun _ _ _ h => h) hS ?_
  refine rg_load 6 (some 34) (.slice a1 n1 c1) 28 33 (w.heap.size + 1) 0 (by kernel_rfl) (by kernel_rfl) (by kernel_rfl) (fun _ hs => load_at (hs.2.cells2.1)) (fun _ _ _ h => h) hS ?_
  refine rg_take 7 (some 35) (.slice Al Kl Dl) (by kernel_rfl) (fun _ _ => by kernel_rfl) (fun _ _ _ h => h) hS ?_
  refine rg_call 4 (some 32) 82 #[.slice a0 n0 c0, .slice Ar Kr Dr] (by kernel_rfl) (by kernel_rfl) (nMul h0 OR.a (by omega) (by omega)) ?_
  rintro e r3x1 ⟨Ap, Kp, Dp, rfl, Op1, hkp, hB⟩
  refine ⟨_, rfl, ⟨hS.1.keep hB, hS.2.keep hB⟩, ?_⟩
  replace hS := (show _ ∧ _ from ⟨hS.1.keep hB, hS.2.keep hB⟩)
  replace h0 := h0.keep hB
  replace e0 := e0.keep hB
  replace h1 := h1.keep hB
  replace e1 := e1.keep hB
  replace P0 := P0.keep hB
  replace P1 := P1.keep hB
  replace X6 := X6.keep hB
  replace OG := OG.keep hB
  replace OL := OL.keep hB
  replace OR := OR.keep hB
  replace HB := joinB HB hB
  clear hB
  refine rg_call 8 (some 36) 82 #[.slice a1 n1 c1, .slice Al Kl Dl] (by kernel_rfl) (by kernel_rfl) (nMul h1 OL.a (by omega) (by omega)) ?_
  rintro e r3x2 ⟨Aq, Kq, Dq, rfl, Op2, hkq, hB⟩
  refine ⟨_, rfl, ⟨hS.1.keep hB, hS.2.keep hB⟩, ?_⟩
  replace hS := (show _ ∧ _ from ⟨hS.1.keep hB, hS.2.keep hB⟩)
  replace h0 := h0.keep hB
  replace e0 := e0.keep hB
  replace h1 := h1.keep hB
  replace e1 := e1.keep hB
  replace P0 := P0.keep hB
  replace P1 := P1.keep hB
  replace X6 := X6.keep hB
  replace OG := OG.keep hB
  replace OL := OL.keep hB
  replace OR := OR.keep hB
  replace Op1 := Op1.keep hB
  replace HB := joinB HB hB
  clear hB
  refine rg_call 9 (some 37) 90 #[.slice Ap Kp Dp, .slice Aq Kq Dq] (by kernel_rfl) (by kernel_rfl) (nSub Op1.a Op2.a (by omega) (by omega) HH.out) ?_
  rintro e r3x3 ⟨An, Kn, Dn, rfl, ON, hkn, hB⟩
  refine ⟨_, rfl, ⟨hS.1.keep hB, hS.2.keep hB⟩, ?_⟩
  replace hS := (show _ ∧ _ from ⟨hS.1.keep hB, hS.2.keep hB⟩)
  replace h0 := h0.keep hB
  replace e0 := e0.keep hB
  replace h1 := h1.keep hB
  replace e1 := e1.keep hB
  replace P0 := P0.keep hB
  replace P1 := P1.keep hB
  replace X6 := X6.keep hB
  replace OG := OG.keep hB
  replace OL := OL.keep hB
  replace OR := OR.keep hB
  replace Op1 := Op1.keep hB
  replace Op2 := Op2.keep hB
  replace HB := joinB HB hB
  clear hB
  refine rg_take 10 (some 27) (.tuple #[.slice An Kn Dn, .int .i64 0]) (by kernel_rfl) (fun _ _ => by kernel_rfl) (fun _ _ _ h => h) hS ?_
  refine rg_take 11 (some 38) (.slice An Kn Dn) (by kernel_rfl) (fun _ _ => by kernel_rfl) (fun _ _ _ h => h) hS ?_
  refine rg_take 12 (some 39) (.int .i64 0) (by kernel_rfl) (fun _ _ => by kernel_rfl) (fun _ _ _ h => h) hS ?_
  refine rg_take 13 (some 11) (.slice An Kn Dn) (by kernel_rfl) (fun _ _ => by kernel_rfl) (fun _ _ _ h => h) hS ?_
  refine rg_take 14 (some 12) (.int .i64 0) (by kernel_rfl) (fun _ _ => by kernel_rfl) (fun _ _ _ h => h) hS ?_
  refine rg_done (by kernel_rfl) ?_
  clear hS
  try simp only [Act.put, List.setIfInBounds_toArray, List.set_cons_zero, List.set_cons_succ]
  go_wp2_with fail
  refine (nGcd ON.a OG.a (by omega) (by omega)).mono ?_
  rintro e u4 ⟨At, Kt, Dt, rfl, OT, hkt, hB⟩
  replace h0 := h0.keep hB
  replace e0 := e0.keep hB
  replace h1 := h1.keep hB
  replace e1 := e1.keep hB
  replace P0 := P0.keep hB
  replace P1 := P1.keep hB
  replace X6 := X6.keep hB
  replace OG := OG.keep hB
  replace OL := OL.keep hB
  replace OR := OR.keep hB
  replace Op1 := Op1.keep hB
  replace Op2 := Op2.keep hB
  replace ON := ON.keep hB
  replace HB := joinB HB hB
  clear hB
  have hgt : ((Int.gcd (x0 * (y1 / (Int.gcd y0 y1 : Nat)) - x1 * (y0 / (Int.gcd y0 y1 : Nat))) (Int.gcd y0 y1 : Nat) : Nat) : Int) ≠ 0 := fun e => HG.out (Int.gcd_eq_zero_iff (a := (x0 * (y1 / (Int.gcd y0 y1 : Nat)) - x1 * (y0 / (Int.gcd y0 y1 : Nat)))) (b := (Int.gcd y0 y1 : Nat)) |>.1 (by omega)).2
  have HGT := (show Hid _ from hgt)
  clear hgt
  go_wp2_with fail
  refine rg_start (S := fun w' => Box w' w.heap.size [.slice a0 n0 c0, .slice b0 m0 d0] 30 ∧ Box w' (w.heap.size + 1) [.slice a1 n1 c1, .slice b1 m1 d1] 30) (by kernel_rfl) ⟨P0.drew, P1.drew⟩ ?_
  replace h0 := h0.drew
  replace e0 := e0.drew
  replace h1 := h1.drew
  replace e1 := e1.drew
  replace P0 := P0.drew
  replace P1 := P1.drew
  replace X6 := X6.drew
  replace OG := OG.drew
  replace OL := OL.drew
  replace OR := OR.drew
  replace Op1 := Op1.drew
  replace Op2 := Op2.drew
  replace ON := ON.drew
  replace OT := OT.drew
  replace HB := HB.drew
  have hS := (show _ ∧ _ from ⟨P0, P1⟩)
  refine rg_take 0 (some 47) (.slice An Kn Dn) (by kernel_rfl) (fun _ _ => by kernel_rfl) (fun _ _ _ h => h) hS ?_
  refine rg_take 1 (some 48) (.slice At Kt Dt) (by kernel_rfl) (fun _ _ => by kernel_rfl) (fun _ _ _ h => h) hS ?_
  refine rg_take 3 (some 50) (.slice Al Kl Dl) (by kernel_rfl) (fun _ _ => by kernel_rfl) (fun _ _ _ h => h) hS ?_
  refine rg_take 4 (some 51) (.pointer (some ⟨w.heap.size + 1, 1, none⟩)) (by kernel_rfl) (fun _ _ => by kernel_rfl) (fun _ _ _ h => h) hS ?_
  refine rg_load 5 (some 52) (.slice b1 m1 d1) 28 51 (w.heap.size + 1) 1 (by kernel_rfl) (by kernel_rfl) (by kernel_rfl) (fun _ hs => load_at (hs.2.cells2.2.1)) (fun _ _ _ h => h) hS ?_
  refine rg_take 6 (some 53) (.slice At Kt Dt) (by kernel_rfl) (fun _ _ => by kernel_rfl) (fun _ _ _ h => h) hS ?_
  refine rg_call 2 (some 49) 83 #[.slice An Kn Dn, .slice At Kt Dt] (by kernel_rfl) (by kernel_rfl) (qQuot ON.a OT.a (by omega) (by omega) HGT.out) ?_
  rintro e r7x1 ⟨Au, Ku, Du, rfl, OU, hku, hB⟩
  refine ⟨_, rfl, ⟨hS.1.keep hB, hS.2.keep hB⟩, ?_⟩
  replace hS := (show _ ∧ _ from ⟨hS.1.keep hB, hS.2.keep hB⟩)
  replace h0 := h0.keep hB
  replace e0 := e0.keep hB
  replace h1 := h1.keep hB
  replace e1 := e1.keep hB
  replace P0 := P0.keep hB
  replace P1 := P1.keep hB
  replace X6 := X6.keep hB
  replace OG := OG.keep hB
  replace OL := OL.keep hB
  replace OR := OR.keep hB
  replace Op1 := Op1.keep hB
  replace Op2 := Op2.keep hB
  replace ON := ON.keep hB
  replace OT := OT.keep hB
  replace HB := joinB HB hB
  clear hB
  refine rg_call 7 (some 54) 83 #[.slice b1 m1 d1, .slice At Kt Dt] (by kernel_rfl) (by kernel_rfl) (qQuot e1 OT.a (by omega) (by omega) HGT.out) ?_
  rintro e r7x2 ⟨Av, Kv, Dv, rfl, OV, hkv, hB⟩
  refine ⟨_, rfl, ⟨hS.1.keep hB, hS.2.keep hB⟩, ?_⟩
  replace hS := (show _ ∧ _ from ⟨hS.1.keep hB, hS.2.keep hB⟩)
  replace h0 := h0.keep hB
  replace e0 := e0.keep hB
  replace h1 := h1.keep hB
  replace e1 := e1.keep hB
  replace P0 := P0.keep hB
  replace P1 := P1.keep hB
  replace X6 := X6.keep hB
  replace OG := OG.keep hB
  replace OL := OL.keep hB
  replace OR := OR.keep hB
  replace Op1 := Op1.keep hB
  replace Op2 := Op2.keep hB
  replace ON := ON.keep hB
  replace OT := OT.keep hB
  replace OU := OU.keep hB
  replace HB := joinB HB hB
  clear hB
  refine rg_call 8 (some 55) 82 #[.slice Al Kl Dl, .slice Av Kv Dv] (by kernel_rfl) (by kernel_rfl) (nMul OL.a OV.a (by omega) (by omega)) ?_
  rintro e r7x3 ⟨Aw, Kw, Dw, rfl, OW, hkw, hB⟩
  refine ⟨_, rfl, ⟨hS.1.keep hB, hS.2.keep hB⟩, ?_⟩
  replace hS := (show _ ∧ _ from ⟨hS.1.keep hB, hS.2.keep hB⟩)
  replace h0 := h0.keep hB
  replace e0 := e0.keep hB
  replace h1 := h1.keep hB
  replace e1 := e1.keep hB
  replace P0 := P0.keep hB
  replace P1 := P1.keep hB
  replace X6 := X6.keep hB
  replace OG := OG.keep hB
  replace OL := OL.keep hB
  replace OR := OR.keep hB
  replace Op1 := Op1.keep hB
  replace Op2 := Op2.keep hB
  replace ON := ON.keep hB
  replace OT := OT.keep hB
  replace OU := OU.keep hB
  replace OV := OV.keep hB
  replace HB := joinB HB hB
  clear hB
  refine rg_take 9 (some 56) (.agg #[.slice Au Ku Du, .slice Aw Kw Dw]) (by kernel_rfl) (fun _ _ => by kernel_rfl) (fun _ _ _ h => h) hS ?_
  refine rg_ready [10] (by kernel_rfl) (by simp) ?_
  refine ar_store 10 30 30 6 56 (w.heap.size + 1 + 1) [.slice none 0 0, .slice none 0 0] [.slice Au Ku Du, .slice Aw Kw Dw] (by kernel_rfl) (by kernel_rfl) (by kernel_rfl) (by kernel_rfl) X6 (by kernel_rfl) rfl (by kernel_rfl) ?_ ar_nil
  intro r7x4 Y hw hB
  refine ⟨⟨hS.1.off (by omega) hw, hS.2.off (by omega) hw⟩, ?_⟩
  replace hS := (show _ ∧ _ from ⟨hS.1.off (by omega) hw, hS.2.off (by omega) hw⟩)
  replace HB := HB.trans (hB.mono (by omega))
  replace h0 := h0.blk X6 (no_ints2 _ _ _ _ _ _) hw
  replace e0 := e0.blk X6 (no_ints2 _ _ _ _ _ _) hw
  replace h1 := h1.blk X6 (no_ints2 _ _ _ _ _ _) hw
  replace e1 := e1.blk X6 (no_ints2 _ _ _ _ _ _) hw
  replace P0 := P0.off (by omega) hw
  replace P1 := P1.off (by omega) hw
  skip
  replace OG := OG.blk X6 (no_ints2 _ _ _ _ _ _) hw
  replace OL := OL.blk X6 (no_ints2 _ _ _ _ _ _) hw
  replace OR := OR.blk X6 (no_ints2 _ _ _ _ _ _) hw
  replace Op1 := Op1.blk X6 (no_ints2 _ _ _ _ _ _) hw
  replace Op2 := Op2.blk X6 (no_ints2 _ _ _ _ _ _) hw
  replace ON := ON.blk X6 (no_ints2 _ _ _ _ _ _) hw
  replace OT := OT.blk X6 (no_ints2 _ _ _ _ _ _) hw
  replace OU := OU.blk X6 (no_ints2 _ _ _ _ _ _) hw
  replace OV := OV.blk X6 (no_ints2 _ _ _ _ _ _) hw
  replace OW := OW.blk X6 (no_ints2 _ _ _ _ _ _) hw
  replace X6 := Y
  clear hB hw
  refine rg_take 11 (some 7) (.int .i64 0) (by kernel_rfl) (fun _ _ => by kernel_rfl) (fun _ _ _ h => h) hS ?_
  refine rg_done (by kernel_rfl) ?_
  clear hS
  try simp only [Act.put, List.setIfInBounds_toArray, List.set_cons_zero, List.set_cons_succ]
  go_wp2
  refine bodyPost_ret (ret_rat_tmp rfl rfl rfl X6) rfl ?_
  exact ⟨_, _, _, _, _, _, rfl, OU, OW, by omega, by omega, HB⟩
set_option maxHeartbeats 8000000 in
set_option maxRecDepth 100000 in
theorem qTogLt {w : World} {a0 b0 : Option Addr} {n0 c0 m0 d0 : Nat} {x0 y0 : Int} {a1 b1 : Option Addr} {n1 c1 m1 d1 : Nat} {x1 y1 : Int} (h0 : NatA w a0 n0 c0 x0) (e0 : NatA w b0 m0 d0 y0) (hn0 : n0 ≤ 17179869184) (hm0 : m0 ≤ 17179869184) (hy0 : y0 ≠ 0) (h1 : NatA w a1 n1 c1 x1) (e1 : NatA w b1 m1 d1 y1) (hn1 : n1 ≤ 17179869184) (hm1 : m1 ≤ 17179869184) (hy1 : y1 ≠ 0) (hh : x0 * (y1 / (Int.gcd y0 y1 : Nat)) < x1 * (y0 / (Int.gcd y0 y1 : Nat))) :
    Calls Tryz.prog 77 #[.agg #[.slice a0 n0 c0, .slice b0 m0 d0], .agg #[.slice a1 n1 c1, .slice b1 m1 d1], .func (.func 90) #[] #[]] w fun e w' => e = .returned (.tuple #[.agg #[.slice none 0 0, .slice none 0 0], .int .i64 10]) ∧ Below w.heap.size w w' := by
  have hg : ((Int.gcd y0 y1 : Nat) : Int) ≠ 0 := fun e => hy0 (Int.gcd_eq_zero_iff (a := y0) (b := y1) |>.1 (by omega)).1
  have HG := (show Hid _ from hg)
  have HY0 := (show Hid _ from hy0)
  have HY1 := (show Hid _ from hy1)
  clear hg hy0 hy1
  have HH := (show Hid _ from hh)
  clear hh
  have HB := below3 w (.cells #[.slice a0 n0 c0, .slice b0 m0 d0] 30) (.cells #[.slice a1 n1 c1, .slice b1 m1 d1] 30) (.cells #[.slice none 0 0, .slice none 0 0] 30)
  have P0 := ((box_new w [.slice a0 n0 c0, .slice b0 m0 d0] 30).keep (below_alloc _ (.cells #[.slice a1 n1 c1, .slice b1 m1 d1] 30))).keep (below_alloc _ (.cells #[.slice none 0 0, .slice none 0 0] 30))
  have P1 := (box_new (w.alloc (.cells #[.slice a0 n0 c0, .slice b0 m0 d0] 30)) [.slice a1 n1 c1, .slice b1 m1 d1] 30).keep (below_alloc _ (.cells #[.slice none 0 0, .slice none 0 0] 30))
  have X6 := box_new ((w.alloc (.cells #[.slice a0 n0 c0, .slice b0 m0 d0] 30)).alloc (.cells #[.slice a1 n1 c1, .slice b1 m1 d1] 30)) [.slice none 0 0, .slice none 0 0] 30
  rw [show (w.alloc (.cells #[.slice a0 n0 c0, .slice b0 m0 d0] 30)).heap.size = w.heap.size + 1 by simp] at P1
  rw [show ((w.alloc (.cells #[.slice a0 n0 c0, .slice b0 m0 d0] 30)).alloc (.cells #[.slice a1 n1 c1, .slice b1 m1 d1] 30)).heap.size = w.heap.size + 1 + 1 by simp] at X6
  replace h0 := h0.keep HB
  replace e0 := e0.keep HB
  replace h1 := h1.keep HB
  replace e1 := e1.keep HB
  obtain ⟨p1, p2, p3, p4⟩ := P0.cells2
  obtain ⟨q1, q2, q3, q4⟩ := P1.cells2
  go_enter Tryz.func77, Tryz.ntmps77
  go_wp2_with fail
  generalize ((w.alloc (.cells #[.slice a0 n0 c0, .slice b0 m0 d0] 30)).alloc (.cells #[.slice a1 n1 c1, .slice b1 m1 d1] 30)).alloc (.cells #[.slice none 0 0, .slice none 0 0] 30) = u0 at *
  refine (nGcd e0 e1 (by omega) (by omega)).mono ?_
  rintro e u1 ⟨Ag, Kg, Dg, rfl, OG, hkg, hB⟩
  clear p1 p2 p3 p4 q1 q2 q3 q4
  replace h0 := h0.keep hB
  replace e0 := e0.keep hB
  replace h1 := h1.keep hB
  replace e1 := e1.keep hB
  replace P0 := P0.keep hB
  replace P1 := P1.keep hB
  replace X6 := X6.keep hB
  replace HB := joinB HB hB
  clear hB
  go_wp2_with fail
  refine rg_start (S := fun w' => Box w' w.heap.size [.slice a0 n0 c0, .slice b0 m0 d0] 30 ∧ Box w' (w.heap.size + 1) [.slice a1 n1 c1, .slice b1 m1 d1] 30) (by kernel_rfl) ⟨P0.drew, P1.drew⟩ ?_
  replace h0 := h0.drew
  replace e0 := e0.drew
  replace h1 := h1.drew
  replace e1 := e1.drew
  replace P0 := P0.drew
  replace P1 := P1.drew
  replace X6 := X6.drew
  replace OG := OG.drew
  replace HB := HB.drew
  have hS := (show _ ∧ _ from ⟨P0, P1⟩)
  refine rg_take 0 (some 19) (.pointer (some ⟨w.heap.size, 1, none⟩)) (by kernel_rfl) (fun _ _ => by kernel_rfl) (fun _ _ _ h => h) hS ?_
  refine rg_load 1 (some 20) (.slice b0 m0 d0) 28 19 (w.heap.size) 1 (by kernel_rfl) (by kernel_rfl) (by kernel_rfl) (fun _ hs => load_at (hs.1.cells2.2.1)) (fun _ _ _ h => h) hS ?_
  refine rg_take 2 (some 21) (.slice Ag Kg Dg) (by kernel_rfl) (fun _ _ => by kernel_rfl) (fun _ _ _ h => h) hS ?_
  refine rg_take 4 (some 23) (.pointer (some ⟨w.heap.size + 1, 1, none⟩)) (by kernel_rfl) (fun _ _ => by kernel_rfl) (fun _ _ _ h => h) hS ?_
  refine rg_load 5 (some 24) (.slice b1 m1 d1) 28 23 (w.heap.size + 1) 1 (by kernel_rfl) (by kernel_rfl) (by kernel_rfl) (fun _ hs => load_at (hs.2.cells2.2.1)) (fun _ _ _ h => h) hS ?_
  refine rg_take 6 (some 25) (.slice Ag Kg Dg) (by kernel_rfl) (fun _ _ => by kernel_rfl) (fun _ _ _ h => h) hS ?_
  refine rg_call 3 (some 22) 83 #[.slice b0 m0 d0, .slice Ag Kg Dg] (by kernel_rfl) (by kernel_rfl) (qQuot e0 OG.a (by omega) (by omega) HG.out) ?_
  rintro e r2x1 ⟨Al, Kl, Dl, rfl, OL, hkl, hB⟩
  refine ⟨_, rfl, ⟨hS.1.keep hB, hS.2.keep hB⟩, ?_⟩
  replace hS := (show _ ∧ _ from ⟨hS.1.keep hB, hS.2.keep hB⟩)
  replace h0 := h0.keep hB
  replace e0 := e0.keep hB
  replace h1 := h1.keep hB
  replace e1 := e1.keep hB
  replace P0 := P0.keep hB
  replace P1 := P1.keep hB
  replace X6 := X6.keep hB
  replace OG := OG.keep hB
  replace HB := joinB HB hB
  clear hB
  refine rg_call 7 (some 26) 83 #[.slice b1 m1 d1, .slice Ag Kg Dg] (by kernel_rfl) (by kernel_rfl) (qQuot e1 OG.a (by omega) (by omega) HG.out) ?_
  rintro e r2x2 ⟨Ar, Kr, Dr, rfl, OR, hkr, hB⟩
  refine ⟨_, rfl, ⟨hS.1.keep hB, hS.2.keep hB⟩, ?_⟩
  replace hS := (show _ ∧ _ from ⟨hS.1.keep hB, hS.2.keep hB⟩)
  replace h0 := h0.keep hB
  replace e0 := e0.keep hB
  replace h1 := h1.keep hB
  replace e1 := e1.keep hB
  replace P0 := P0.keep hB
  replace P1 := P1.keep hB
  replace X6 := X6.keep hB
  replace OG := OG.keep hB
  replace OL := OL.keep hB
  replace HB := joinB HB hB
  clear hB
  refine rg_take 8 (some 9) (.slice Al Kl Dl) (by kernel_rfl) (fun _ _ => by kernel_rfl) (fun _ _ _ h => h) hS ?_
  refine rg_take 9 (some 10) (.slice Ar Kr Dr) (by kernel_rfl) (fun _ _ => by kernel_rfl) (fun _ _ _ h => h) hS ?_
  refine rg_done (by kernel_rfl) ?_
  clear hS
  try simp only [Act.put, List.setIfInBounds_toArray, List.set_cons_zero, List.set_cons_succ]
  go_wp2_with fail
  refine rg_start (S := fun w' => Box w' w.heap.size [.slice a0 n0 c0, .slice b0 m0 d0] 30 ∧ Box w' (w.heap.size + 1) [.slice a1 n1 c1, .slice b1 m1 d1] 30) (by kernel_rfl) ⟨P0.drew, P1.drew⟩ ?_
  replace h0 := h0.drew
  replace e0 := e0.drew
  replace h1 := h1.drew
  replace e1 := e1.drew
  replace P0 := P0.drew
  replace P1 := P1.drew
  replace X6 := X6.drew
  replace OG := OG.drew
  replace OL := OL.drew
  replace OR := OR.drew
  replace HB := HB.drew
  have hS := (show _ ∧ _ from ⟨P0, P1⟩)
  refine rg_take 0 (some 28) (.func (.func 90) #[] #[]) (by kernel_rfl) (fun _ _ => by kernel_rfl) (fun _ _ _ h => h) hS ?_
  refine rg_take 1 (some 29) (.pointer (some ⟨w.heap.size, 0, none⟩)) (by kernel_rfl) (fun _ _ => by kernel_rfl) (fun _ _ _ h => h) hS ?_
  refine rg_load 2 (some 30) (.slice a0 n0 c0) 28 29 (w.heap.size) 0 (by kernel_rfl) (by kernel_rfl) (by kernel_rfl) (fun _ hs => load_at (hs.1.cells2.1)) (fun _ _ _ h => h) hS ?_
  refine rg_take 3 (some 31) (.slice Ar Kr Dr) (by kernel_rfl) (fun _ _ => by kernel_rfl) (fun _ _ _ h => h) hS ?_
  refine rg_take 5 (some 33) (.pointer (some ⟨w.heap.size + 1, 0, none⟩)) (by kernel_rfl) (fun _ _ => by kernel_rfl) (fun _ _ _ h => h) hS ?_
  refine rg_load 6 (some 34) (.slice a1 n1 c1) 28 33 (w.heap.size + 1) 0 (by kernel_rfl) (by kernel_rfl) (by kernel_rfl) (fun _ hs => load_at (hs.2.cells2.1)) (fun _ _ _ h => h) hS ?_
  refine rg_take 7 (some 35) (.slice Al Kl Dl) (by kernel_rfl) (fun _ _ => by kernel_rfl) (fun _ _ _ h => h) hS ?_
  refine rg_call 4 (some 32) 82 #[.slice a0 n0 c0, .slice Ar Kr Dr] (by kernel_rfl) (by kernel_rfl) (nMul h0 OR.a (by omega) (by omega)) ?_
  rintro e r3x1 ⟨Ap, Kp, Dp, rfl, Op1, hkp, hB⟩
  refine ⟨_, rfl, ⟨hS.1.keep hB, hS.2.keep hB⟩, ?_⟩
  replace hS := (show _ ∧ _ from ⟨hS.1.keep hB, hS.2.keep hB⟩)
  replace h0 := h0.keep hB
  replace e0 := e0.keep hB
  replace h1 := h1.keep hB
  replace e1 := e1.keep hB
  replace P0 := P0.keep hB
  replace P1 := P1.keep hB
  replace X6 := X6.keep hB
  replace OG := OG.keep hB
  replace OL := OL.keep hB
  replace OR := OR.keep hB
  replace HB := joinB HB hB
  clear hB
  refine rg_call 8 (some 36) 82 #[.slice a1 n1 c1, .slice Al Kl Dl] (by kernel_rfl) (by kernel_rfl) (nMul h1 OL.a (by omega) (by omega)) ?_
  rintro e r3x2 ⟨Aq, Kq, Dq, rfl, Op2, hkq, hB⟩
  refine ⟨_, rfl, ⟨hS.1.keep hB, hS.2.keep hB⟩, ?_⟩
  replace hS := (show _ ∧ _ from ⟨hS.1.keep hB, hS.2.keep hB⟩)
  replace h0 := h0.keep hB
  replace e0 := e0.keep hB
  replace h1 := h1.keep hB
  replace e1 := e1.keep hB
  replace P0 := P0.keep hB
  replace P1 := P1.keep hB
  replace X6 := X6.keep hB
  replace OG := OG.keep hB
  replace OL := OL.keep hB
  replace OR := OR.keep hB
  replace Op1 := Op1.keep hB
  replace HB := joinB HB hB
  clear hB
  refine rg_call 9 (some 37) 90 #[.slice Ap Kp Dp, .slice Aq Kq Dq] (by kernel_rfl) (by kernel_rfl) (nSubLt Op1.a Op2.a (by omega) (by omega) HH.out) ?_
  rintro e r3x3 ⟨rfl, hB⟩
  refine ⟨_, rfl, ⟨hS.1.keep hB, hS.2.keep hB⟩, ?_⟩
  replace hS := (show _ ∧ _ from ⟨hS.1.keep hB, hS.2.keep hB⟩)
  replace h0 := h0.keep hB
  replace e0 := e0.keep hB
  replace h1 := h1.keep hB
  replace e1 := e1.keep hB
  replace P0 := P0.keep hB
  replace P1 := P1.keep hB
  replace X6 := X6.keep hB
  replace OG := OG.keep hB
  replace OL := OL.keep hB
  replace OR := OR.keep hB
  replace Op1 := Op1.keep hB
  replace Op2 := Op2.keep hB
  replace HB := joinB HB hB
  clear hB
  refine rg_take 10 (some 27) (.tuple #[.slice none 0 0, .int .i64 10]) (by kernel_rfl) (fun _ _ => by kernel_rfl) (fun _ _ _ h => h) hS ?_
  refine rg_take 11 (some 38) (.slice none 0 0) (by kernel_rfl) (fun _ _ => by kernel_rfl) (fun _ _ _ h => h) hS ?_
  refine rg_take 12 (some 39) (.int .i64 10) (by kernel_rfl) (fun _ _ => by kernel_rfl) (fun _ _ _ h => h) hS ?_
  refine rg_take 13 (some 11) (.slice none 0 0) (by kernel_rfl) (fun _ _ => by kernel_rfl) (fun _ _ _ h => h) hS ?_
  refine rg_take 14 (some 12) (.int .i64 10) (by kernel_rfl) (fun _ _ => by kernel_rfl) (fun _ _ _ h => h) hS ?_
  refine rg_done (by kernel_rfl) ?_
  clear hS
  try simp only [Act.put, List.setIfInBounds_toArray, List.set_cons_zero, List.set_cons_succ]
  obtain ⟨k1, k2, k3, k4⟩ := X6.cells2
  have S2 := X6.put2 (.slice none 0 0) (.slice none 0 0)
  have HB2 := below_put2 HB (g := w.heap.size + 1 + 1) (by omega) (.slice none 0 0) (.slice none 0 0)
  clear h0 e0 h1 e1 P0 P1 OG OL OR Op1 Op2 X6 HB
  go_wp2
  refine bodyPost_ret (ret_rat_tmp rfl rfl rfl S2) rfl ?_
  exact ⟨rfl, HB2⟩
end Go.Proofs.YtjihgkanbhccpaaGreatDoor
