/- Several texts, joined: FoF. -/
import Derived.Test.YthfepflplbahkaaGreatDoorJaa
namespace Go.Proofs.YthfepflplbahkaaGreatDoor
namespace Fo
open Go.RowKit Lim
structure NatN (w : World) (B T : Nat) (ao : Option Addr) (n c : Nat) (x : Int) : Prop where
  ex : ∃ b o l, l.length = n ∧ n ≤ c ∧ IsN l x ∧ At w ao b o l ∧ Free w b o n ∧ (l = [] ∨ (B ≤ b ∧ b < T))
theorem NatN.o {w : World} {B T : Nat} {ao : Option Addr} {n c : Nat} {x : Int} (h : NatN w B T ao n c x) : NatO w ao n c x := by
  obtain ⟨b, o, l, h1, h2, h3, h4, _⟩ := h.ex
  exact ⟨b, o, l, h1, h2, h3, h4⟩
theorem natN_nil (w : World) (B T : Nat) : NatN w B T none 0 0 0 := ⟨0, 0, [], rfl, Nat.le_refl _, isN_nil, ⟨.inl rfl, fun i hi => by simp at hi⟩, fun i hi => by omega, .inl rfl⟩
theorem newV_n {w w' : World} {v : Value} {r : List Int} {x : Int} (h : NewV w w' v r) (hI : IsN r x) : ∃ a c, v = .slice a r.length c ∧ NatN w' w.heap.size w'.heap.size a r.length c x := by
  obtain ⟨ao, b, o, c, e, h1, h2, h3, h4⟩ := h.is
  refine ⟨ao, c, e, b, o, r, rfl, h1, hI, h3, h4, ?_⟩
  rcases h3.lt with e | e
  · exact .inl e
  · exact .inr ⟨h2, e⟩
def subV (x y : Int) : Int := if y ≤ x then x - y else 0
def subE (x y : Int) : Int := if y ≤ x then 0 else 10
theorem fAdd {w : World} {ao ao' : Option Addr} {n c n' c' : Nat} {x y : Int} (h : NatA w ao n c x) (h' : NatA w ao' n' c' y) (hn : n ≤ 1099511627776) (hn' : n' ≤ 1099511627776) :
    Calls Tryz.prog 23 #[.slice ao n c, .slice ao' n' c'] w fun e w' => ∃ a k d, e = .returned (.slice a k d) ∧ NatN w' w.heap.size w'.heap.size a k d (x + y) ∧ k ≤ n + n' + 1 ∧ Below w.heap.size w w' := by
  obtain ⟨b, o, l, h1, h2, h3, h4, rfl⟩ := h.ex
  obtain ⟨b', o', l', h1', h2', h3', h4', rfl⟩ := h'.ex
  refine (add_any ao n c b o ao' n' c' b' o' l l' w h1 h1' h2 h2' hn hn' h3 h3' h4 h4').mono ?_
  rintro e w' ⟨v, r, rfl, hnw, hI, hlen, hB⟩
  obtain ⟨a, d, rfl, hO⟩ := newV_n hnw hI
  exact ⟨a, _, d, rfl, hO, hlen, hB⟩
theorem fMul {w : World} {ao ao' : Option Addr} {n c n' c' : Nat} {x y : Int} (h : NatA w ao n c x) (h' : NatA w ao' n' c' y) (hn : n ≤ 1099511627776) (hn' : n' ≤ 1099511627776) :
    Calls Tryz.prog 24 #[.slice ao n c, .slice ao' n' c'] w fun e w' => ∃ a k d, e = .returned (.slice a k d) ∧ NatN w' w.heap.size w'.heap.size a k d (x * y) ∧ k ≤ n + n' ∧ Below w.heap.size w w' := by
  obtain ⟨b, o, l, h1, h2, h3, h4, rfl⟩ := h.ex
  obtain ⟨b', o', l', h1', h2', h3', h4', rfl⟩ := h'.ex
  refine (mul_any ao n c b o ao' n' c' b' o' l l' w h1 h1' h2 h2' hn hn' h3 h3' h4 h4').mono ?_
  rintro e w' ⟨v, r, rfl, hnw, hI, hlen, hB⟩
  obtain ⟨a, d, rfl, hO⟩ := newV_n hnw hI
  exact ⟨a, _, d, rfl, hO, hlen, hB⟩
theorem fSub {w : World} {ao ao' : Option Addr} {n c n' c' : Nat} {x y : Int} (h : NatA w ao n c x) (h' : NatA w ao' n' c' y) (hn : n ≤ 1099511627776) (hn' : n' ≤ 1099511627776) :
    Calls Tryz.prog 72 #[.slice ao n c, .slice ao' n' c'] w fun e w' => ∃ a k d, e = .returned (.tuple #[.slice a k d, .int .i64 (subE x y)]) ∧ NatN w' w.heap.size w'.heap.size a k d (subV x y) ∧ k ≤ n ∧ Below w.heap.size w w' := by
  obtain ⟨b, o, l, h1, h2, h3, h4, rfl⟩ := h.ex
  obtain ⟨b', o', l', h1', h2', h3', h4', rfl⟩ := h'.ex
  unfold subE subV
  by_cases hge : val l' ≤ val l
  · rw [if_pos hge, if_pos hge]
    refine (sub_ge ao n c b o ao' n' c' b' o' l l' w h1 h1' h2 h2' hn hn' h3 h3' h4 h4' hge).mono ?_
    rintro e w' ⟨v, r, rfl, hnw, hI, hlen, hB⟩
    obtain ⟨a, d, rfl, hO⟩ := newV_n hnw hI
    exact ⟨a, _, d, rfl, hO, hlen, hB⟩
  · rw [if_neg hge, if_neg hge]
    refine (sub_lt ao n c b o ao' n' c' b' o' l l' w h1 h1' h2 h2' hn hn' h3 h3' h4 h4' (by omega)).mono ?_
    rintro e w' ⟨rfl, hB⟩
    exact ⟨none, 0, 0, rfl, natN_nil _ _ _, Nat.zero_le _, hB⟩
def remV (x y : Int) : Int := if y = 0 then 0 else x % y
def divE (y : Int) : Int := if y = 0 then 11 else 0
theorem fDiv {w : World} {ao ao' : Option Addr} {n c n' c' : Nat} {x y : Int} (h : NatA w ao n c x) (h' : NatA w ao' n' c' y) (hn : n ≤ 1099511627776) (hn' : n' ≤ 1099511627776) :
    Calls Tryz.prog 70 #[.slice ao n c, .slice ao' n' c'] w fun e w' => ∃ a k d a' k' d', e = .returned (.tuple #[.slice a k d, .slice a' k' d', .int .i64 (divE y)]) ∧ NatN w' w.heap.size w'.heap.size a k d (x / y) ∧ NatN w' w.heap.size w'.heap.size a' k' d' (remV x y) ∧ k ≤ n ∧ k' ≤ n + n' ∧ Below w.heap.size w w' := by
  by_cases hz : y = 0
  · unfold remV divE
    rw [if_pos hz, if_pos hz, hz, Int.ediv_zero]
    refine (nDivZero h' hn' hz).mono ?_
    rintro e w' ⟨rfl, rfl⟩
    exact ⟨none, 0, 0, none, 0, 0, rfl, natN_nil _ _ _, natN_nil _ _ _, Nat.zero_le _, Nat.zero_le _, Below.refl _ _⟩
  · unfold remV divE
    rw [if_neg hz, if_neg hz]
    obtain ⟨b, o, l, h1, h2, h3, h4, rfl⟩ := h.ex
    obtain ⟨b', o', l', h1', h2', h3', h4', rfl⟩ := h'.ex
    refine (div_any ao n c b o ao' n' c' b' o' l l' w h1 h1' h2 h2' hn hn' h3 h3' h4 h4' hz).mono ?_
    rintro e w' ⟨v, u, r, s, rfl, hnw, hnu, hI, hJ, hlr, hls, hB⟩
    obtain ⟨a, d, rfl, hO⟩ := newV_n hnw hI
    obtain ⟨a', d', rfl, hO'⟩ := newV_n hnu hJ
    exact ⟨a, _, d, a', _, d', rfl, hO, hO', hlr, hls, hB⟩
theorem fMulDiv {w : World} {ao ao' ad : Option Addr} {n c n' c' nd cd : Nat} {x y z : Int} (h : NatA w ao n c x) (h' : NatA w ao' n' c' y) (hd : NatA w ad nd cd z) (hn : n ≤ 274877906944) (hn' : n' ≤ 274877906944) (hnd : nd ≤ 274877906944) :
    Calls Tryz.prog 93 #[.slice ao n c, .slice ao' n' c', .slice ad nd cd] w fun e w' => ∃ a k d a' k' d', e = .returned (.tuple #[.slice a k d, .slice a' k' d', .int .i64 (divE z)]) ∧ NatN w' w.heap.size w'.heap.size a k d (x * y / z) ∧ NatN w' w.heap.size w'.heap.size a' k' d' (remV (x * y) z) ∧ k ≤ n + n' ∧ k' ≤ n + n' + nd ∧ Below w.heap.size w w' := by
  by_cases hz : z = 0
  · unfold remV divE
    rw [if_pos hz, if_pos hz]
    have e0 : x * y / z = 0 := by rw [hz, Int.ediv_zero]
    rw [e0]
    refine (nMulDivZero h h' hd hn hn' hnd hz).mono ?_
    rintro e w' ⟨rfl, hB⟩
    exact ⟨none, 0, 0, none, 0, 0, rfl, natN_nil _ _ _, natN_nil _ _ _, Nat.zero_le _, Nat.zero_le _, hB⟩
  · unfold remV divE
    rw [if_neg hz, if_neg hz]
    obtain ⟨b, o, l, h1, h2, h3, h4, rfl⟩ := h.ex
    obtain ⟨b', o', l', h1', h2', h3', h4', rfl⟩ := h'.ex
    obtain ⟨bd, od, ld, h1d, h2d, h3d, h4d, rfl⟩ := hd.ex
    refine (muldiv_any ao n c b o ao' n' c' b' o' ad nd cd bd od l l' ld w h1 h1' h1d h2 h2' h2d hn hn' hnd h3 h3' h3d h4 h4' h4d hz).mono ?_
    rintro e w' ⟨v, u, r, s, rfl, hnw, hnu, hI, hJ, hlr, hls, hB⟩
    obtain ⟨a, d, rfl, hO⟩ := newV_n hnw hI
    obtain ⟨a', d', rfl, hO'⟩ := newV_n hnu hJ
    exact ⟨a, _, d, a', _, d', rfl, hO, hO', hlr, hls, hB⟩
end Fo
end Go.Proofs.YthfepflplbahkaaGreatDoor
