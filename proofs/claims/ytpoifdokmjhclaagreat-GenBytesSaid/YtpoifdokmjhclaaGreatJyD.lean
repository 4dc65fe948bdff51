/- Several texts, joined: FoF, Dec1. -/
import Derived.Test.YtpoifdokmjhclaaGreatJya
import Derived.Handy
namespace Go.Proofs.YtpoifdokmjhclaaGreat
namespace Fo
open Go.RowKit Lim
structure NatN (w : World) (B T : Nat) (ao : Option Addr) (n c : Nat) (x : Int) : Prop where
  ex : ∃ b o l, l.length = n ∧ n ≤ c ∧ IsN l x ∧ At w ao b o l ∧ Free w b o n ∧ (l = [] ∨ (B ≤ b ∧ b < T))
theorem NatN.o {w : World} {B T : Nat} {ao : Option Addr} {n c : Nat} {x : Int} (h : NatN w B T ao n c x) : NatO w ao n c x := by
  obtain ⟨b, o, l, h1, h2, h3, h4, _⟩ := h.ex
  exact ⟨b, o, l, h1, h2, h3, h4⟩
theorem natN_nil (w : World) (B T : Nat) : NatN w B T none 0 0 0 := ⟨0, 0, [], rfl, Nat.le_refl _, isN_nil, ⟨.inl rfl, fun i hi => by simp at hi⟩, fun i hi => by omega, .inl rfl⟩
theorem newV_n {w w' : World} {v : Value} {r : List Int} {x : Int} (h : NewV w w' v r) (hI : IsN r x) : ∃ a c, v = .slice a r.length c ∧ NatN w' w.heap.size w'.heap.size a r.length c x := by
  obtain ⟨ao, b, o, c, e, h1, h2, h3, h4⟩ := h.is
  refine ⟨ao, c, e, b, o, r, rfl, h1, hI, h3, h4, ?_⟩
  rcases h3.lt with e | e
  · exact .inl e
  · exact .inr ⟨h2, e⟩
def subV (x y : Int) : Int := if y ≤ x then x - y else 0
def subE (x y : Int) : Int := if y ≤ x then 0 else 10
theorem fAdd {w : World} {ao ao' : Option Addr} {n c n' c' : Nat} {x y : Int} (h : NatA w ao n c x) (h' : NatA w ao' n' c' y) (hn : n ≤ 1099511627776) (hn' : n' ≤ 1099511627776) :
    Calls Tryz.prog 229 #[.slice ao n c, .slice ao' n' c'] w fun e w' => ∃ a k d, e = .returned (.slice a k d) ∧ NatN w' w.heap.size w'.heap.size a k d (x + y) ∧ k ≤ n + n' + 1 ∧ Below w.heap.size w w' := by
  obtain ⟨b, o, l, h1, h2, h3, h4, rfl⟩ := h.ex
  obtain ⟨b', o', l', h1', h2', h3', h4', rfl⟩ := h'.ex
  refine (add_any ao n c b o ao' n' c' b' o' l l' w h1 h1' h2 h2' hn hn' h3 h3' h4 h4').mono ?_
  rintro e w' ⟨v, r, rfl, hnw, hI, hlen, hB⟩
  obtain ⟨a, d, rfl, hO⟩ := newV_n hnw hI
  exact ⟨a, _, d, rfl, hO, hlen, hB⟩
theorem fMul {w : World} {ao ao' : Option Addr} {n c n' c' : Nat} {x y : Int} (h : NatA w ao n c x) (h' : NatA w ao' n' c' y) (hn : n ≤ 1099511627776) (hn' : n' ≤ 1099511627776) :
    Calls Tryz.prog 267 #[.slice ao n c, .slice ao' n' c'] w fun e w' => ∃ a k d, e = .returned (.slice a k d) ∧ NatN w' w.heap.size w'.heap.size a k d (x * y) ∧ k ≤ n + n' ∧ Below w.heap.size w w' := by
  obtain ⟨b, o, l, h1, h2, h3, h4, rfl⟩ := h.ex
  obtain ⟨b', o', l', h1', h2', h3', h4', rfl⟩ := h'.ex
  refine (mul_any ao n c b o ao' n' c' b' o' l l' w h1 h1' h2 h2' hn hn' h3 h3' h4 h4').mono ?_
  rintro e w' ⟨v, r, rfl, hnw, hI, hlen, hB⟩
  obtain ⟨a, d, rfl, hO⟩ := newV_n hnw hI
  exact ⟨a, _, d, rfl, hO, hlen, hB⟩
theorem fSub {w : World} {ao ao' : Option Addr} {n c n' c' : Nat} {x y : Int} (h : NatA w ao n c x) (h' : NatA w ao' n' c' y) (hn : n ≤ 1099511627776) (hn' : n' ≤ 1099511627776) :
    Calls Tryz.prog 361 #[.slice ao n c, .slice ao' n' c'] w fun e w' => ∃ a k d, e = .returned (.tuple #[.slice a k d, .int .i64 (subE x y)]) ∧ NatN w' w.heap.size w'.heap.size a k d (subV x y) ∧ k ≤ n ∧ Below w.heap.size w w' := by
  obtain ⟨b, o, l, h1, h2, h3, h4, rfl⟩ := h.ex
  obtain ⟨b', o', l', h1', h2', h3', h4', rfl⟩ := h'.ex
  unfold subE subV
  by_cases hge : val l' ≤ val l
  · rw [if_pos hge, if_pos hge]
    refine (sub_ge ao n c b o ao' n' c' b' o' l l' w h1 h1' h2 h2' hn hn' h3 h3' h4 h4' hge).mono ?_
    rintro e w' ⟨v, r, rfl, hnw, hI, hlen, hB⟩
    obtain ⟨a, d, rfl, hO⟩ := newV_n hnw hI
    exact ⟨a, _, d, rfl, hO, hlen, hB⟩
  · rw [if_neg hge, if_neg hge]
    refine (sub_lt ao n c b o ao' n' c' b' o' l l' w h1 h1' h2 h2' hn hn' h3 h3' h4 h4' (by omega)).mono ?_
    rintro e w' ⟨rfl, hB⟩
    exact ⟨none, 0, 0, rfl, natN_nil _ _ _, Nat.zero_le _, hB⟩
def remV (x y : Int) : Int := if y = 0 then 0 else x % y
def divE (y : Int) : Int := if y = 0 then 11 else 0
theorem fDiv {w : World} {ao ao' : Option Addr} {n c n' c' : Nat} {x y : Int} (h : NatA w ao n c x) (h' : NatA w ao' n' c' y) (hn : n ≤ 1099511627776) (hn' : n' ≤ 1099511627776) :
    Calls Tryz.prog 355 #[.slice ao n c, .slice ao' n' c'] w fun e w' => ∃ a k d a' k' d', e = .returned (.tuple #[.slice a k d, .slice a' k' d', .int .i64 (divE y)]) ∧ NatN w' w.heap.size w'.heap.size a k d (x / y) ∧ NatN w' w.heap.size w'.heap.size a' k' d' (remV x y) ∧ k ≤ n ∧ k' ≤ n + n' ∧ Below w.heap.size w w' := by
  by_cases hz : y = 0
  · unfold remV divE
    rw [if_pos hz, if_pos hz, hz, Int.ediv_zero]
    refine (nDivZero h' hn' hz).mono ?_
    rintro e w' ⟨rfl, rfl⟩
    exact ⟨none, 0, 0, none, 0, 0, rfl, natN_nil _ _ _, natN_nil _ _ _, Nat.zero_le _, Nat.zero_le _, Below.refl _ _⟩
  · unfold remV divE
    rw [if_neg hz, if_neg hz]
    obtain ⟨b, o, l, h1, h2, h3, h4, rfl⟩ := h.ex
    obtain ⟨b', o', l', h1', h2', h3', h4', rfl⟩ := h'.ex
    refine (div_any ao n c b o ao' n' c' b' o' l l' w h1 h1' h2 h2' hn hn' h3 h3' h4 h4' hz).mono ?_
    rintro e w' ⟨v, u, r, s, rfl, hnw, hnu, hI, hJ, hlr, hls, hB⟩
    obtain ⟨a, d, rfl, hO⟩ := newV_n hnw hI
    obtain ⟨a', d', rfl, hO'⟩ := newV_n hnu hJ
    exact ⟨a, _, d, a', _, d', rfl, hO, hO', hlr, hls, hB⟩
theorem fMulDiv {w : World} {ao ao' ad : Option Addr} {n c n' c' nd cd : Nat} {x y z : Int} (h : NatA w ao n c x) (h' : NatA w ao' n' c' y) (hd : NatA w ad nd cd z) (hn : n ≤ 274877906944) (hn' : n' ≤ 274877906944) (hnd : nd ≤ 274877906944) :
    Calls Tryz.prog 321 #[.slice ao n c, .slice ao' n' c', .slice ad nd cd] w fun e w' => ∃ a k d a' k' d', e = .returned (.tuple #[.slice a k d, .slice a' k' d', .int .i64 (divE z)]) ∧ NatN w' w.heap.size w'.heap.size a k d (x * y / z) ∧ NatN w' w.heap.size w'.heap.size a' k' d' (remV (x * y) z) ∧ k ≤ n + n' ∧ k' ≤ n + n' + nd ∧ Below w.heap.size w w' := by
  by_cases hz : z = 0
  · unfold remV divE
    rw [if_pos hz, if_pos hz]
    have e0 : x * y / z = 0 := by rw [hz, Int.ediv_zero]
    rw [e0]
    refine (nMulDivZero h h' hd hn hn' hnd hz).mono ?_
    rintro e w' ⟨rfl, hB⟩
    exact ⟨none, 0, 0, none, 0, 0, rfl, natN_nil _ _ _, natN_nil _ _ _, Nat.zero_le _, Nat.zero_le _, hB⟩
  · unfold remV divE
    rw [if_neg hz, if_neg hz]
    obtain ⟨b, o, l, h1, h2, h3, h4, rfl⟩ := h.ex
    obtain ⟨b', o', l', h1', h2', h3', h4', rfl⟩ := h'.ex
    obtain ⟨bd, od, ld, h1d, h2d, h3d, h4d, rfl⟩ := hd.ex
    refine (muldiv_any ao n c b o ao' n' c' b' o' ad nd cd bd od l l' ld w h1 h1' h1d h2 h2' h2d hn hn' hnd h3 h3' h3d h4 h4' h4d hz).mono ?_
    rintro e w' ⟨v, u, r, s, rfl, hnw, hnu, hI, hJ, hlr, hls, hB⟩
    obtain ⟨a, d, rfl, hO⟩ := newV_n hnw hI
    obtain ⟨a', d', rfl, hO'⟩ := newV_n hnu hJ
    exact ⟨a, _, d, a', _, d', rfl, hO, hO', hlr, hls, hB⟩
end Fo
end Go.Proofs.YtpoifdokmjhclaaGreat

namespace Go.Proofs.YtpoifdokmjhclaaGreat
open Go.RowKit Lim

set_option maxHeartbeats 1000000 in
set_option maxRecDepth 100000 in
theorem dAdd {w : World} {ao ao' : Option Addr} {n c n' c' : Nat} {x y : Int} (h : NatA w ao n c x) (h' : NatA w ao' n' c' y) (hn : n ≤ 1099511627776) (hn' : n' ≤ 1099511627776) :
    Calls Tryz.prog 185 #[.agg #[.slice ao n c], .agg #[.slice ao' n' c']] w fun e w' => ∃ a k d, e = .returned (.agg #[.slice a k d]) ∧ NatO w' a k d (x + y) ∧ k ≤ n + n' + 1 ∧ Below w.heap.size w w' := by
  have B0 := below3 w (.cells #[.slice ao n c] 55) (.cells #[.slice ao' n' c'] 55) (.cells #[.slice none 0 0] 55)
  have S0 := slot_last3 w (.cells #[.slice ao n c] 55) (.cells #[.slice ao' n' c'] 55) (.slice none 0 0) 55
  have h := h.keep B0
  have h' := h'.keep B0
  go_enter Tryz.func185, Tryz.ntmps185
  go_wp2_with fail
  refine (nAdd h h' hn hn').mono ?_
  rintro e w1 ⟨a, k, d, rfl, hO, hk, hB⟩
  have S1 := S0.keep hB
  have c1 := S1.cell
  have f1 := S1.free
  have S2 := S1.put (.slice a k d)
  have hO1 := hO.put S1 not_int (.slice a k d)
  have HB := belowPut B0 hB (g := w.heap.size + 1 + 1) (by omega) (.slice a k d)
  clear h h' hO hB S0 S1 B0
  go_wp2
  refine bodyPost_ret (ret_dec rfl rfl S2) rfl ?_
  exact ⟨a, k, d, rfl, hO1, hk, HB⟩

set_option maxHeartbeats 1000000 in
set_option maxRecDepth 100000 in
theorem dCmp {w : World} {ao ao' : Option Addr} {n c n' c' : Nat} {x y : Int} (h : NatA w ao n c x) (h' : NatA w ao' n' c' y) (hn : n ≤ 1099511627776) (hn' : n' ≤ 1099511627776) :
    Calls Tryz.prog 184 #[.agg #[.slice ao n c], .agg #[.slice ao' n' c']] w fun e w' => e = .returned (.int .i64 (sgn x y)) ∧ Below w.heap.size w w' := by
  have B0 := below2 w (.cells #[.slice ao n c] 55) (.cells #[.slice ao' n' c'] 55)
  have h := h.keep B0
  have h' := h'.keep B0
  go_enter Tryz.func184, Tryz.ntmps184
  go_wp2_with fail
  refine (nCmp h h' hn hn').mono ?_
  rintro e w1 ⟨rfl, hB⟩
  go_wp2
  go_ret
  exact ⟨rfl, joinB B0 hB⟩

set_option maxHeartbeats 1000000 in
set_option maxRecDepth 100000 in
theorem dZero {w : World} {ao : Option Addr} {n c : Nat} {x : Int} (h : NatA w ao n c x) (hn : n ≤ 1099511627776) :
    Calls Tryz.prog 181 #[.agg #[.slice ao n c]] w fun e w' => e = .returned (.bool (decide (x = 0))) ∧ Below w.heap.size w w' := by
  have B0 := below_alloc w (.cells #[.slice ao n c] 55)
  have h := h.keep B0
  have t := nBits h hn
  have hm := bitLen_zero x h.nonneg
  by_cases hx : x = 0
  · have hm := hm.2 hx
    rw [hm] at t
    rw [decide_eq_true hx]
    clear hm hx h
    go_enter Tryz.func181, Tryz.ntmps181
    go_wp2_with fail
    refine t.mono ?_
    rintro e w1 ⟨rfl, hB⟩
    go_wp2
    go_ret
    exact ⟨rfl, joinB B0 hB⟩
  · have hm : bitLen x.toNat ≠ 0 := fun e => hx (hm.1 e)
    rw [decide_eq_false hx]
    generalize bitLen x.toNat = m at *
    obtain ⟨k, rfl⟩ : ∃ k, m = k + 1 := ⟨m - 1, by omega⟩
    clear hm hx h
    go_enter Tryz.func181, Tryz.ntmps181
    go_wp2_with fail
    refine t.mono ?_
    rintro e w1 ⟨rfl, hB⟩
    go_wp2
    go_ret
    refine ⟨?_, joinB B0 hB⟩
    congr 2

set_option maxHeartbeats 1000000 in
set_option maxRecDepth 100000 in
theorem dTenTo {w : World} (n : Nat) (hn : n ≤ 4096) :
    Calls Tryz.prog 320 #[.int .i64 n] w fun e w' => ∃ a k d, e = .returned (.slice a k d) ∧ NatO w' a k d (10 ^ n) ∧ k ≤ n + 2 ∧ Below w.heap.size w w' := by
  go_enter Tryz.func320, Tryz.ntmps320
  go_wp2_with fail
  refine (nPow n hn).mono ?_
  rintro e w1 ⟨a, k, d, rfl, hO, hk, hB⟩
  go_wp2
  go_ret
  exact ⟨a, k, d, rfl, hO, hk, hB⟩

/-- the Raw of 1 -/
def U36 : Int := 10 ^ 36
theorem U36_pos : 0 < U36 := by decide
set_option maxHeartbeats 1000000 in
set_option maxRecDepth 100000 in
theorem dUnit {w : World} : Calls Tryz.prog 268 #[] w fun e w' => ∃ a k d, e = .returned (.slice a k d) ∧ NatO w' a k d U36 ∧ k ≤ 38 ∧ Below w.heap.size w w' := by
  go_enter Tryz.func268, Tryz.ntmps268
  go_wp2_with fail
  refine (dTenTo 36 (by decide)).mono ?_
  rintro e w1 ⟨a, k, d, rfl, hO, hk, hB⟩
  go_wp2
  go_ret
  exact ⟨a, k, d, rfl, hO, hk, hB⟩

set_option maxHeartbeats 1000000 in
set_option maxRecDepth 100000 in
theorem dOfNat {w : World} {ao : Option Addr} {n c : Nat} {x : Int} (h : NatA w ao n c x) (hn : n ≤ 1099511627776) :
    Calls Tryz.prog 223 #[.slice ao n c] w fun e w' => ∃ a k d, e = .returned (.agg #[.slice a k d]) ∧ NatO w' a k d (x * U36) ∧ k ≤ n + 38 ∧ Below w.heap.size w w' := by
  have B0 := below_alloc w (.cells #[.slice none 0 0] 55)
  have S0 := slot_new w (.slice none 0 0) 55
  have h := h.keep B0
  go_enter Tryz.func223, Tryz.ntmps223
  go_wp2_with fail
  refine dUnit.mono ?_
  rintro e w1 ⟨a, k, d, rfl, hO, hk, hB⟩
  have h := h.keep hB
  have S0 := S0.keep hB
  have B0 := joinB B0 hB
  clear hB
  go_wp2_with fail
  refine (nMul h hO.a hn (by omega)).mono ?_
  rintro e w2 ⟨a', k', d', rfl, hO', hk', hB⟩
  have S1 := S0.keep hB
  have c1 := S1.cell
  have f1 := S1.free
  have S2 := S1.put (.slice a' k' d')
  have hO1 := hO'.put S1 not_int (.slice a' k' d')
  have HB := belowPut B0 hB (g := w.heap.size) (Nat.le_refl _) (.slice a' k' d')
  clear h hO hO' hB S0 S1 B0
  go_wp2
  refine bodyPost_ret (ret_dec rfl rfl S2) rfl ?_
  exact ⟨a', k', d', rfl, hO1, by omega, HB⟩

set_option maxHeartbeats 1000000 in
set_option maxRecDepth 100000 in
theorem dOf {w : World} {x : Int} (h0 : 0 ≤ x) (h1 : x < 18446744073709551616) :
    Calls Tryz.prog 182 #[.int .u64 x] w fun e w' => ∃ a k d, e = .returned (.agg #[.slice a k d]) ∧ NatO w' a k d (x * U36) ∧ k ≤ 39 ∧ Below w.heap.size w w' := by
  have B0 := below_alloc w (.cells #[.slice none 0 0] 55)
  have S0 := slot_new w (.slice none 0 0) 55
  go_enter Tryz.func182, Tryz.ntmps182
  go_wp2_with fail
  refine (nOf h0 h1).mono ?_
  rintro e w1 ⟨a, k, d, rfl, hO, hk, hB⟩
  have S0 := S0.keep hB
  have B0 := joinB B0 hB
  clear hB
  go_wp2_with fail
  refine (dOfNat hO.a (by omega)).mono ?_
  rintro e w2 ⟨a', k', d', rfl, hO', hk', hB⟩
  have S1 := S0.keep hB
  have c1 := S1.cell
  have f1 := S1.free
  have S2 := S1.put (.slice a' k' d')
  have hO1 := hO'.put S1 not_int (.slice a' k' d')
  have HB := belowPut B0 hB (g := w.heap.size) (Nat.le_refl _) (.slice a' k' d')
  clear hO hO' hB S0 S1 B0
  go_wp2
  refine bodyPost_ret (ret_dec rfl rfl S2) rfl ?_
  exact ⟨a', k', d', rfl, hO1, by omega, HB⟩

set_option maxHeartbeats 1000000 in
set_option maxRecDepth 100000 in
theorem dSub {w : World} {ao ao' : Option Addr} {n c n' c' : Nat} {x y : Int} (h : NatA w ao n c x) (h' : NatA w ao' n' c' y) (hn : n ≤ 1099511627776) (hn' : n' ≤ 1099511627776) (hge : y ≤ x) :
    Calls Tryz.prog 336 #[.agg #[.slice ao n c], .agg #[.slice ao' n' c']] w fun e w' => ∃ a k d, e = .returned (.tuple #[.agg #[.slice a k d], .int .i64 0]) ∧ NatO w' a k d (x - y) ∧ k ≤ n + n' ∧ Below w.heap.size w w' := by
  have B0 := below3 w (.cells #[.slice ao n c] 55) (.cells #[.slice ao' n' c'] 55) (.cells #[.slice none 0 0] 55)
  have S0 := slot_last3 w (.cells #[.slice ao n c] 55) (.cells #[.slice ao' n' c'] 55) (.slice none 0 0) 55
  have h := h.keep B0
  have h' := h'.keep B0
  go_enter Tryz.func336, Tryz.ntmps336
  go_wp2_with fail
  refine (nSub h h' hn hn' hge).mono ?_
  rintro e w1 ⟨a, k, d, rfl, hO, hk, hB⟩
  have S1 := S0.keep hB
  have c1 := S1.cell
  have f1 := S1.free
  have S2 := S1.put (.slice a k d)
  have hO1 := hO.put S1 not_int (.slice a k d)
  have HB := belowPut B0 hB (g := w.heap.size + 1 + 1) (by omega) (.slice a k d)
  clear h h' hO hB S0 S1 B0 hge
  go_wp2
  refine bodyPost_ret (ret_dec_tmp rfl rfl rfl S2) rfl ?_
  exact ⟨a, k, d, rfl, hO1, hk, HB⟩

set_option maxHeartbeats 1000000 in
set_option maxRecDepth 100000 in
theorem dSubLt {w : World} {ao ao' : Option Addr} {n c n' c' : Nat} {x y : Int} (h : NatA w ao n c x) (h' : NatA w ao' n' c' y) (hn : n ≤ 1099511627776) (hn' : n' ≤ 1099511627776) (hlt : x < y) :
    Calls Tryz.prog 336 #[.agg #[.slice ao n c], .agg #[.slice ao' n' c']] w fun e w' => e = .returned (.tuple #[.agg #[.slice none 0 0], .int .i64 20]) ∧ Below w.heap.size w w' := by
  have B0 := below3 w (.cells #[.slice ao n c] 55) (.cells #[.slice ao' n' c'] 55) (.cells #[.slice none 0 0] 55)
  have S0 := slot_last3 w (.cells #[.slice ao n c] 55) (.cells #[.slice ao' n' c'] 55) (.slice none 0 0) 55
  have h := h.keep B0
  have h' := h'.keep B0
  go_enter Tryz.func336, Tryz.ntmps336
  go_wp2_with fail
  refine (nSubLt h h' hn hn' hlt).mono ?_
  rintro e w1 ⟨rfl, hB⟩
  have S1 := S0.keep hB
  have c1 := S1.cell
  have f1 := S1.free
  have S2 := S1.put (.slice none 0 0)
  have HB := belowPut B0 hB (g := w.heap.size + 1 + 1) (by omega) (.slice none 0 0)
  clear h h' hB S0 S1 B0 hlt
  go_wp2
  refine bodyPost_ret (ret_dec_tmp rfl rfl rfl S2) rfl ?_
  exact ⟨rfl, HB⟩

set_option maxHeartbeats 1000000 in
set_option maxRecDepth 100000 in
theorem dTrunc {w : World} {ao : Option Addr} {n c : Nat} {x : Int} (h : NatA w ao n c x) (hn : n ≤ 1099511627776) :
    Calls Tryz.prog 334 #[.agg #[.slice ao n c]] w fun e w' => ∃ a k d a' k' d', e = .returned (.tuple #[.slice a k d, .agg #[.slice a' k' d']]) ∧ NatO w' a k d (x / U36) ∧ NatO w' a' k' d' (x % U36) ∧ k ≤ n ∧ k' ≤ n + 38 ∧ Below w.heap.size w w' := by
  have B0 := below2 w (.cells #[.slice ao n c] 55) (.cells #[.slice none 0 0] 55)
  have S0 := slot_last2 w (.cells #[.slice ao n c] 55) (.slice none 0 0) 55
  have SP := (slot_new w (.slice ao n c) 55).alloc (.cells #[.slice none 0 0] 55)
  have h := h.keep B0
  go_enter Tryz.func334, Tryz.ntmps334
  go_wp2_with fail
  go_region_with (first
    | (go_at_call 268; refine dUnit.mono ?_; rintro e w1 ⟨a, k, d, rfl, hO, hk, hB⟩; have S0 := S0.drew.keep hB; have SP := SP.drew.keep hB; have cP := SP.cell; have B0 := joinB B0.drew hB; have h := h.drew.keep hB; clear hB)
    | (go_at_call 355; refine (nDiv h hO.a hn (by omega) (by decide)).mono ?_; rintro e w2 ⟨a1, k1, d1, a2, k2, d2, rfl, hO1, hO2, hk1, hk2, hB⟩; have S1 := S0.keep hB; have c1 := S1.cell; have f1 := S1.free; have S2 := S1.put (.slice a2 k2 d2); have hO1 := hO1.put S1 not_int (.slice a2 k2 d2); have hO2 := hO2.put S1 not_int (.slice a2 k2 d2); have HB := belowPut B0 hB (g := w.heap.size + 1) (by omega) (.slice a2 k2 d2); clear h hO hB S0 S1 B0 cP SP))
  all_goals go_wp2
  all_goals refine bodyPost_ret (ret_tmp_dec rfl rfl rfl S2) rfl ?_
  all_goals exact ⟨a1, k1, d1, a2, k2, d2, rfl, hO1, hO2, hk1, by omega, HB⟩
end Go.Proofs.YtpoifdokmjhclaaGreat
