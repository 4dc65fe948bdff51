/- Package dec: the one division behind all rounded results, and the closure that rounds. -/
import Derived.Test.YtpbiflfdfiebcabGreatDoorDec1
import Derived.Deep.RegionHeld3
namespace Go.Proofs.YtpbiflfdfiebcabGreatDoor
open Go.RowKit Lim

set_option maxHeartbeats 1000000 in
set_option maxRecDepth 100000 in
theorem dRounding {w : World} (up : Bool) :
    Calls Tryz.prog 89 #[.bool up] w fun e w' => ∃ g, e = .returned (.func (.func 126) #[] #[.pointer (some ⟨g, 0, none⟩)]) ∧ Slot w' g (.bool up) 4 ∧ Below w.heap.size w w' := by
  go_enter Tryz.func89, Tryz.ntmps89
  go_wp2
  go_ret
  exact ⟨_, rfl, slot_new w _ _, below_alloc _ _⟩

set_option maxHeartbeats 1000000 in
set_option maxRecDepth 100000 in
theorem dRound {w : World} {ao al : Option Addr} {n c nl cl g : Nat} {x z : Int} {up : Bool} {t : TypeId} (h : NatO w ao n c x) (hl : NatO w al nl cl z) (S : Slot w g (.bool up) t) (hn : n ≤ 1099511627776) (hnl : nl ≤ 1099511627776) :
    Calls Tryz.prog 126 #[.slice ao n c, .slice al nl cl, .pointer (some ⟨g, 0, none⟩)] w fun e w' => ∃ a k d, e = .returned (.agg #[.slice a k d]) ∧ NatO w' a k d (if up = true ∧ z ≠ 0 then x + 1 else x) ∧ k ≤ n + 2 ∧ Below w.heap.size w w' := by
  have hz := hl.zero_iff
  have hOrig := h
  have B0 := below_alloc w (.cells #[.slice none 0 0] 34)
  have S0 := slot_new w (.slice none 0 0) 34
  have h := h.keep B0
  have S := S.keep B0
  have cS := S.cell
  clear hl S
  by_cases hc : up = true ∧ z ≠ 0
  · rw [if_pos hc]
    obtain ⟨rfl, hz0⟩ := hc
    have hp : 0 < nl := by
      rcases Nat.eq_zero_or_pos nl with e | e
      · exact absurd (hz.1 e) hz0
      · exact e
    obtain ⟨m, rfl⟩ : ∃ m, nl = m + 1 := ⟨nl - 1, by omega⟩
    clear hz hz0 hp
    go_enter Tryz.func126, Tryz.ntmps126
    go_wp2_with fail
    refine (nOf (by decide) (by decide)).mono ?_
    rintro e w1 ⟨a, k, d, rfl, hO, hk, hB⟩
    have S0 := S0.keep hB
    have B0 := joinB B0 hB
    have h := h.keep hB
    clear hB cS
    go_wp2_with fail
    refine (nAdd h.a hO.a hn (by omega)).mono ?_
    rintro e w2 ⟨a', k', d', rfl, hO', hk', hB⟩
    have S1 := S0.keep hB
    have c1 := S1.cell
    have f1 := S1.free
    have S2 := S1.put (.slice a' k' d')
    have hO1 := hO'.put S1 not_int (.slice a' k' d')
    have HB := belowPut B0 hB (g := w.heap.size) (Nat.le_refl _) (.slice a' k' d')
    clear h hO hO' hB S0 S1 B0
    go_wp2
    refine bodyPost_ret (ret_dec rfl rfl S2) rfl ?_
    exact ⟨a', k', d', rfl, hO1, by omega, HB⟩
  · rw [if_neg hc]
    have c1 := S0.cell
    have f1 := S0.free
    have S2 := slot_new w (.slice ao n c) 34
    have HB := below_alloc w (.cells #[.slice ao n c] 34)
    have hO1 := hOrig.keep HB
    cases up with
    | false =>
      clear h S0 B0 hz hc
      go_enter Tryz.func126, Tryz.ntmps126
      go_wp2
      refine bodyPost_ret (ret_dec rfl rfl S2) rfl ?_
      exact ⟨ao, n, c, rfl, hO1, by omega, HB⟩
    | true =>
      have hz0 : z = 0 := Decidable.byContradiction fun e => hc ⟨rfl, e⟩
      have hnl0 := hz.2 hz0
      subst hnl0
      clear h S0 B0 hz hc hz0
      go_enter Tryz.func126, Tryz.ntmps126
      go_wp2
      refine bodyPost_ret (ret_dec rfl rfl S2) rfl ?_
      exact ⟨ao, n, c, rfl, hO1, by omega, HB⟩

/-- m / z, rounded up if told so -/
def rnd (up : Bool) (m z : Int) : Int := if up = true ∧ m % z ≠ 0 then m / z + 1 else m / z
theorem rnd_down (m z : Int) : rnd false m z = m / z := by simp [rnd]

set_option maxHeartbeats 1000000 in
set_option maxRecDepth 100000 in
theorem dDivide {w : World} {ao ao' ad : Option Addr} {n c n' c' nd cd g : Nat} {x y z : Int} {up : Bool} {t : TypeId} (h : NatA w ao n c x) (h' : NatA w ao' n' c' y) (hd : NatA w ad nd cd z) (S : Slot w g (.bool up) t) (hn : n ≤ 274877906944) (hn' : n' ≤ 274877906944) (hnd : nd ≤ 274877906944) (hne : z ≠ 0) :
    Calls Tryz.prog 88 #[.slice ao n c, .slice ao' n' c', .slice ad nd cd, .func (.func 126) #[] #[.pointer (some ⟨g, 0, none⟩)]] w fun e w' => ∃ a k d, e = .returned (.tuple #[.agg #[.slice a k d], .int .i64 0]) ∧ NatO w' a k d (rnd up (x * y) z) ∧ k ≤ n + n' + 2 ∧ Below w.heap.size w w' := by
  have B0 := below_alloc w (.cells #[.slice none 0 0] 34)
  have S0 := slot_new w (.slice none 0 0) 34
  have h := h.keep B0
  have h' := h'.keep B0
  have hd := hd.keep B0
  have S := S.keep B0
  go_enter Tryz.func88, Tryz.ntmps88
  go_wp2_with fail
  refine (nMulDiv h h' hd hn hn' hnd hne).mono ?_
  rintro e w1 ⟨a1, k1, d1, a2, k2, d2, rfl, hO1, hO2, hk1, hk2, hB⟩
  have S0 := S0.keep hB
  have S := S.keep hB
  have B0 := joinB B0 hB
  clear hB h h' hd hne
  go_wp2_with fail
  refine (dRound hO1 hO2 S (by omega) (by omega)).mono ?_
  rintro e w2 ⟨a', k', d', rfl, hO', hk', hB⟩
  have S1 := S0.keep hB
  have c1 := S1.cell
  have f1 := S1.free
  have S2 := S1.put (.slice a' k' d')
  have hOz := hO'.put S1 not_int (.slice a' k' d')
  have HB := belowPut B0 hB (g := w.heap.size) (Nat.le_refl _) (.slice a' k' d')
  clear hO1 hO2 hO' hB S0 S1 B0 S
  go_wp2
  refine bodyPost_ret (ret_dec_tmp rfl rfl rfl S2) rfl ?_
  exact ⟨a', k', d', rfl, hOz, by omega, HB⟩

set_option maxHeartbeats 1000000 in
set_option maxRecDepth 100000 in
theorem dDivideZero {w : World} {ao ao' ad : Option Addr} {n c n' c' nd cd : Nat} {x y z : Int} {v : Value} (h : NatA w ao n c x) (h' : NatA w ao' n' c' y) (hd : NatA w ad nd cd z) (hn : n ≤ 274877906944) (hn' : n' ≤ 274877906944) (hnd : nd ≤ 274877906944) (hz : z = 0) :
    Calls Tryz.prog 88 #[.slice ao n c, .slice ao' n' c', .slice ad nd cd, v] w fun e w' => e = .returned (.tuple #[.agg #[.slice none 0 0], .int .i64 21]) ∧ Below w.heap.size w w' := by
  have B0 := below_alloc w (.cells #[.slice none 0 0] 34)
  have S0 := slot_new w (.slice none 0 0) 34
  have h := h.keep B0
  have h' := h'.keep B0
  have hd := hd.keep B0
  go_enter Tryz.func88, Tryz.ntmps88
  go_wp2_with fail
  refine (nMulDivZero h h' hd hn hn' hnd hz).mono ?_
  rintro e w1 ⟨rfl, hB⟩
  have S1 := S0.keep hB
  have c1 := S1.cell
  have f1 := S1.free
  have S2 := S1.put (.slice none 0 0)
  have HB := belowPut B0 hB (g := w.heap.size) (Nat.le_refl _) (.slice none 0 0)
  clear h h' hd hz hB S0 S1 B0
  go_wp2
  refine bodyPost_ret (ret_dec_tmp rfl rfl rfl S2) rfl ?_
  exact ⟨rfl, HB⟩

end Go.Proofs.YtpbiflfdfiebcabGreatDoor
