/- Numbers in memory, told by their values: the contracts of package nat once more, in fewer words. -/
import Derived.Test.YtiglmhibnenhdaaGreatDoorDivM
import Derived.Test.YtiglmhibnenhdaaGreatDoorPow
import Derived.Test.YtiglmhibnenhdaaGreatDoorFromB
import Derived.Test.YtiglmhibnenhdaaGreatDoorParse
import Derived.Test.YtiglmhibnenhdaaGreatDoorHelp
namespace Go.Proofs.YtiglmhibnenhdaaGreatDoor
open Go.RowKit Lim

/-- limbs worth x lie at ao -/
structure NatA (w : World) (ao : Option Addr) (n c : Nat) (x : Int) : Prop where
  ex : ∃ b o l, l.length = n ∧ n ≤ c ∧ Words l ∧ At w ao b o l ∧ val l = x
/-- the normal list of x lies at ao -/
structure NatO (w : World) (ao : Option Addr) (n c : Nat) (x : Int) : Prop where
  ex : ∃ b o l, l.length = n ∧ n ≤ c ∧ IsN l x ∧ At w ao b o l
theorem NatO.a {w : World} {ao : Option Addr} {n c : Nat} {x : Int} (h : NatO w ao n c x) : NatA w ao n c x := by
  obtain ⟨b, o, l, h1, h2, h3, h4⟩ := h.ex
  exact ⟨b, o, l, h1, h2, h3.1, h4, h3.2.2⟩
theorem NatA.keep {w w' : World} {ao : Option Addr} {n c : Nat} {x : Int} (h : NatA w ao n c x) (hb : Below w.heap.size w w') : NatA w' ao n c x := by
  obtain ⟨b, o, l, h1, h2, h3, h4, h5⟩ := h.ex
  exact ⟨b, o, l, h1, h2, h3, h4.keep hb, h5⟩
theorem NatO.keep {w w' : World} {ao : Option Addr} {n c : Nat} {x : Int} (h : NatO w ao n c x) (hb : Below w.heap.size w w') : NatO w' ao n c x := by
  obtain ⟨b, o, l, h1, h2, h3, h4⟩ := h.ex
  exact ⟨b, o, l, h1, h2, h3, h4.keep hb⟩
theorem NatA.nonneg {w : World} {ao : Option Addr} {n c : Nat} {x : Int} (h : NatA w ao n c x) : 0 ≤ x := by
  obtain ⟨b, o, l, h1, h2, h3, h4, h5⟩ := h.ex
  rw [← h5]; exact val_nonneg h3
theorem NatO.zero_iff {w : World} {ao : Option Addr} {n c : Nat} {x : Int} (h : NatO w ao n c x) : n = 0 ↔ x = 0 := by
  obtain ⟨b, o, l, h1, h2, h3, h4⟩ := h.ex
  rw [← h3.2.2, ← nlen_eq_zero_iff_val h3.1, h3.2.1, h1]
theorem NatO.eqv {w : World} {ao : Option Addr} {n c : Nat} {x y : Int} (h : NatO w ao n c x) (e : x = y) : NatO w ao n c y := e ▸ h
theorem NatA.eqv {w : World} {ao : Option Addr} {n c : Nat} {x y : Int} (h : NatA w ao n c x) (e : x = y) : NatA w ao n c y := e ▸ h
theorem natO_nil (w : World) : NatO w none 0 0 0 := ⟨0, 0, [], rfl, Nat.le_refl _, isN_nil, .inl rfl, fun i hi => by simp at hi⟩
theorem NewV.o {w w' : World} {v : Value} {r : List Int} {x : Int} (h : NewV w w' v r) (hI : IsN r x) : ∃ a c, v = .slice a r.length c ∧ NatO w' a r.length c x := by
  obtain ⟨ao, b, o, c, e, h1, h2, h3, h4⟩ := h.is
  exact ⟨ao, c, e, b, o, r, rfl, h1, hI, h3⟩
theorem joinB {w wa w' : World} (b : Below w.heap.size w wa) (h : Below wa.heap.size wa w') : Below w.heap.size w w' := b.trans (h.mono b.size)

theorem nAdd {w : World} {ao ao' : Option Addr} {n c n' c' : Nat} {x y : Int} (h : NatA w ao n c x) (h' : NatA w ao' n' c' y) (hn : n ≤ 1099511627776) (hn' : n' ≤ 1099511627776) :
    Calls Tryz.prog 35 #[.slice ao n c, .slice ao' n' c'] w fun e w' => ∃ a k d, e = .returned (.slice a k d) ∧ NatO w' a k d (x + y) ∧ k ≤ n + n' + 1 ∧ Below w.heap.size w w' := by
  obtain ⟨b, o, l, h1, h2, h3, h4, rfl⟩ := h.ex
  obtain ⟨b', o', l', h1', h2', h3', h4', rfl⟩ := h'.ex
  refine (add_any ao n c b o ao' n' c' b' o' l l' w h1 h1' h2 h2' hn hn' h3 h3' h4 h4').mono ?_
  rintro e w' ⟨v, r, rfl, hnw, hI, hlen, hB⟩
  obtain ⟨a, d, rfl, hO⟩ := hnw.o hI
  exact ⟨a, _, d, rfl, hO, hlen, hB⟩
theorem nMul {w : World} {ao ao' : Option Addr} {n c n' c' : Nat} {x y : Int} (h : NatA w ao n c x) (h' : NatA w ao' n' c' y) (hn : n ≤ 1099511627776) (hn' : n' ≤ 1099511627776) :
    Calls Tryz.prog 25 #[.slice ao n c, .slice ao' n' c'] w fun e w' => ∃ a k d, e = .returned (.slice a k d) ∧ NatO w' a k d (x * y) ∧ k ≤ n + n' ∧ Below w.heap.size w w' := by
  obtain ⟨b, o, l, h1, h2, h3, h4, rfl⟩ := h.ex
  obtain ⟨b', o', l', h1', h2', h3', h4', rfl⟩ := h'.ex
  refine (mul_any ao n c b o ao' n' c' b' o' l l' w h1 h1' h2 h2' hn hn' h3 h3' h4 h4').mono ?_
  rintro e w' ⟨v, r, rfl, hnw, hI, hlen, hB⟩
  obtain ⟨a, d, rfl, hO⟩ := hnw.o hI
  exact ⟨a, _, d, rfl, hO, hlen, hB⟩
theorem nCmp {w : World} {ao ao' : Option Addr} {n c n' c' : Nat} {x y : Int} (h : NatA w ao n c x) (h' : NatA w ao' n' c' y) (hn : n ≤ 1099511627776) (hn' : n' ≤ 1099511627776) :
    Calls Tryz.prog 23 #[.slice ao n c, .slice ao' n' c'] w fun e w' => e = .returned (.int .i64 (sgn x y)) ∧ Below w.heap.size w w' := by
  obtain ⟨b, o, l, h1, h2, h3, h4, rfl⟩ := h.ex
  obtain ⟨b', o', l', h1', h2', h3', h4', rfl⟩ := h'.ex
  exact cmp_any ao n c b o ao' n' c' b' o' l l' w h1 h1' h2 h2' hn hn' h3 h3' h4 h4'
theorem nSub {w : World} {ao ao' : Option Addr} {n c n' c' : Nat} {x y : Int} (h : NatA w ao n c x) (h' : NatA w ao' n' c' y) (hn : n ≤ 1099511627776) (hn' : n' ≤ 1099511627776) (hge : y ≤ x) :
    Calls Tryz.prog 34 #[.slice ao n c, .slice ao' n' c'] w fun e w' => ∃ a k d, e = .returned (.tuple #[.slice a k d, .int .i64 0]) ∧ NatO w' a k d (x - y) ∧ k ≤ n + n' ∧ Below w.heap.size w w' := by
  obtain ⟨b, o, l, h1, h2, h3, h4, rfl⟩ := h.ex
  obtain ⟨b', o', l', h1', h2', h3', h4', rfl⟩ := h'.ex
  refine (sub_ge ao n c b o ao' n' c' b' o' l l' w h1 h1' h2 h2' hn hn' h3 h3' h4 h4' hge).mono ?_
  rintro e w' ⟨v, r, rfl, hnw, hI, hlen, hB⟩
  obtain ⟨a, d, rfl, hO⟩ := hnw.o hI
  exact ⟨a, _, d, rfl, hO, by omega, hB⟩
theorem nSubLt {w : World} {ao ao' : Option Addr} {n c n' c' : Nat} {x y : Int} (h : NatA w ao n c x) (h' : NatA w ao' n' c' y) (hn : n ≤ 1099511627776) (hn' : n' ≤ 1099511627776) (hlt : x < y) :
    Calls Tryz.prog 34 #[.slice ao n c, .slice ao' n' c'] w fun e w' => e = .returned (.tuple #[.slice none 0 0, .int .i64 10]) ∧ Below w.heap.size w w' := by
  obtain ⟨b, o, l, h1, h2, h3, h4, rfl⟩ := h.ex
  obtain ⟨b', o', l', h1', h2', h3', h4', rfl⟩ := h'.ex
  exact sub_lt ao n c b o ao' n' c' b' o' l l' w h1 h1' h2 h2' hn hn' h3 h3' h4 h4' hlt
theorem nDiv {w : World} {ao ao' : Option Addr} {n c n' c' : Nat} {x y : Int} (h : NatA w ao n c x) (h' : NatA w ao' n' c' y) (hn : n ≤ 1099511627776) (hn' : n' ≤ 1099511627776) (hne : y ≠ 0) :
    Calls Tryz.prog 37 #[.slice ao n c, .slice ao' n' c'] w fun e w' => ∃ a k d a' k' d', e = .returned (.tuple #[.slice a k d, .slice a' k' d', .int .i64 0]) ∧ NatO w' a k d (x / y) ∧ NatO w' a' k' d' (x % y) ∧ k ≤ n ∧ k' ≤ n + n' ∧ Below w.heap.size w w' := by
  obtain ⟨b, o, l, h1, h2, h3, h4, rfl⟩ := h.ex
  obtain ⟨b', o', l', h1', h2', h3', h4', rfl⟩ := h'.ex
  refine (div_any ao n c b o ao' n' c' b' o' l l' w h1 h1' h2 h2' hn hn' h3 h3' h4 h4' hne).mono ?_
  rintro e w' ⟨v, u, r, s, rfl, hnw, hnu, hI, hJ, hlr, hls, hB⟩
  obtain ⟨a, d, rfl, hO⟩ := hnw.o hI
  obtain ⟨a', d', rfl, hO'⟩ := hnu.o hJ
  exact ⟨a, _, d, a', _, d', rfl, hO, hO', hlr, hls, hB⟩
theorem nDivZero {w : World} {v : Value} {ao' : Option Addr} {n' c' : Nat} {y : Int} (h' : NatA w ao' n' c' y) (hn' : n' ≤ 1099511627776) (hz : y = 0) :
    Calls Tryz.prog 37 #[v, .slice ao' n' c'] w fun e w' => e = .returned (.tuple #[.slice none 0 0, .slice none 0 0, .int .i64 11]) ∧ w' = w := by
  obtain ⟨b', o', l', h1', h2', h3', h4', rfl⟩ := h'.ex
  exact div_zero v ao' n' c' b' o' l' w h1' h2' hn' h3' h4' hz
theorem nMulDiv {w : World} {ao ao' ad : Option Addr} {n c n' c' nd cd : Nat} {x y z : Int} (h : NatA w ao n c x) (h' : NatA w ao' n' c' y) (hd : NatA w ad nd cd z) (hn : n ≤ 274877906944) (hn' : n' ≤ 274877906944) (hnd : nd ≤ 274877906944) (hne : z ≠ 0) :
    Calls Tryz.prog 60 #[.slice ao n c, .slice ao' n' c', .slice ad nd cd] w fun e w' => ∃ a k d a' k' d', e = .returned (.tuple #[.slice a k d, .slice a' k' d', .int .i64 0]) ∧ NatO w' a k d (x * y / z) ∧ NatO w' a' k' d' (x * y % z) ∧ k ≤ n + n' ∧ k' ≤ n + n' + nd ∧ Below w.heap.size w w' := by
  obtain ⟨b, o, l, h1, h2, h3, h4, rfl⟩ := h.ex
  obtain ⟨b', o', l', h1', h2', h3', h4', rfl⟩ := h'.ex
  obtain ⟨bd, od, ld, h1d, h2d, h3d, h4d, rfl⟩ := hd.ex
  refine (muldiv_any ao n c b o ao' n' c' b' o' ad nd cd bd od l l' ld w h1 h1' h1d h2 h2' h2d hn hn' hnd h3 h3' h3d h4 h4' h4d hne).mono ?_
  rintro e w' ⟨v, u, r, s, rfl, hnw, hnu, hI, hJ, hlr, hls, hB⟩
  obtain ⟨a, d, rfl, hO⟩ := hnw.o hI
  obtain ⟨a', d', rfl, hO'⟩ := hnu.o hJ
  exact ⟨a, _, d, a', _, d', rfl, hO, hO', hlr, hls, hB⟩
theorem nMulDivZero {w : World} {ao ao' ad : Option Addr} {n c n' c' nd cd : Nat} {x y z : Int} (h : NatA w ao n c x) (h' : NatA w ao' n' c' y) (hd : NatA w ad nd cd z) (hn : n ≤ 274877906944) (hn' : n' ≤ 274877906944) (hnd : nd ≤ 274877906944) (hz : z = 0) :
    Calls Tryz.prog 60 #[.slice ao n c, .slice ao' n' c', .slice ad nd cd] w fun e w' => e = .returned (.tuple #[.slice none 0 0, .slice none 0 0, .int .i64 11]) ∧ Below w.heap.size w w' := by
  go_enter Tryz.func60, Tryz.ntmps60
  go_wp2_with fail
  refine (nMul h h' (by omega) (by omega)).mono ?_
  rintro e w1 ⟨a, k, d, rfl, hO, hk, hB⟩
  go_wp2_with fail
  refine (nDivZero (hd.keep hB) (by omega) hz).mono ?_
  rintro e w2 ⟨rfl, rfl⟩
  go_wp2
  go_ret3
  exact ⟨rfl, hB⟩
theorem nOf {w : World} {x : Int} (h0 : 0 ≤ x) (h1 : x < 18446744073709551616) :
    Calls Tryz.prog 22 #[.int .u64 x] w fun e w' => ∃ a k d, e = .returned (.slice a k d) ∧ NatO w' a k d x ∧ k ≤ 1 ∧ Below w.heap.size w w' := by
  refine (of_any x w h0 h1).mono ?_
  rintro e w' ⟨v, r, rfl, hnw, hI, hlen, hB⟩
  obtain ⟨a, d, rfl, hO⟩ := hnw.o hI
  exact ⟨a, _, d, rfl, hO, hlen, hB⟩
theorem nNorm {w : World} {ao : Option Addr} {n c : Nat} {x : Int} (h : NatA w ao n c x) (hn : n ≤ 1099511627776) :
    Calls Tryz.prog 27 #[.slice ao n c] w fun e w' => ∃ a k d, e = .returned (.slice a k d) ∧ NatO w' a k d x ∧ k ≤ n ∧ Below w.heap.size w w' := by
  obtain ⟨b, o, l, h1, h2, h3, h4, rfl⟩ := h.ex
  refine (norm_any ao n c b o l w h1 h2 hn h4).mono ?_
  rintro e w' ⟨rfl, hrow, hB⟩
  exact ⟨_, _, _, rfl, ⟨_, _, norm l, norm_length l, Nat.le_refl _, isN_norm h3, hrow.at⟩, by have := nlen_le l; omega, hB⟩
theorem nBits {w : World} {ao : Option Addr} {n c : Nat} {x : Int} (h : NatA w ao n c x) (hn : n ≤ 1099511627776) :
    Calls Tryz.prog 36 #[.slice ao n c] w fun e w' => e = .returned (.int .i64 (bitLen x.toNat)) ∧ Below w.heap.size w w' := by
  obtain ⟨b, o, l, h1, h2, h3, h4, rfl⟩ := h.ex
  exact bits_any ao n c b o l w h1 h2 hn h3 h4
theorem nPow {w : World} (n : Nat) (hn : n ≤ 4096) :
    Calls Tryz.prog 85 #[.int .i64 n] w fun e w' => ∃ a k d, e = .returned (.tuple #[.slice a k d, .int .i64 0]) ∧ NatO w' a k d (10 ^ n) ∧ k ≤ n + 2 ∧ Below w.heap.size w w' := by
  refine (pow10_any n w hn).mono ?_
  rintro e w' ⟨v, r, rfl, hnw, hI, hlen, hB⟩
  obtain ⟨a, d, rfl, hO⟩ := hnw.o hI
  exact ⟨a, _, d, rfl, hO, hlen, hB⟩
theorem nSame {w : World} {ao ao' : Option Addr} {n c n' c' : Nat} {x y : Int} (h : NatO w ao n c x) (h' : NatO w ao' n' c' y) (hn : n ≤ 4398046511104) (hn' : n' ≤ 4398046511104) :
    Calls Tryz.prog 26 #[.slice ao n c, .slice ao' n' c'] w fun e w' => e = .returned (.bool (decide (x = y))) ∧ Below w.heap.size w w' := by
  obtain ⟨b, o, l, h1, h2, h3, h4⟩ := h.ex
  obtain ⟨b', o', l', h1', h2', h3', h4'⟩ := h'.ex
  have t := helpNat ao n c b o ao' n' c' b' o' l l' w h1 h1' hn hn' h4 h4'
  have e : eqB l l' = decide (x = y) := by
    unfold eqB
    by_cases k : x = y
    · rw [decide_eq_true k, decide_eq_true (isN_unique h3 (k ▸ h3'))]
    · rw [decide_eq_false k, decide_eq_false (fun q => k (by rw [← h3.2.2, ← h3'.2.2, q]))]
  rw [e] at t
  exact t
end Go.Proofs.YtiglmhibnenhdaaGreatDoor
