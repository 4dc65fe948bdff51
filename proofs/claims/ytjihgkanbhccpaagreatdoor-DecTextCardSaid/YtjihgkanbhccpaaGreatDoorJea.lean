/- Several texts, joined: DecF, NatZ, Ref2b, SmallD. -/
import Derived.Test.YtjihgkanbhccpaaGreatDoorJda
import Derived.Test.YtjihgkanbhccpaaGreatDoorJna
import Derived.Test.YtjihgkanbhccpaaGreatDoorJnb
namespace Go.Proofs.YtjihgkanbhccpaaGreatDoor
open Go.RowKit Lim

/-- limbs lie at ao, in no block below U, and may be written over -/
structure WdU (w : World) (U : Nat) (ao : Option Addr) (n c : Nat) : Prop where
  ex : ∃ T, WdN w U T ao n c
section
variable {w w' : World} {U : Nat} {ao : Option Addr} {n c : Nat}
theorem WdU.keep (h : WdU w U ao n c) (hb : Below w.heap.size w w') : WdU w' U ao n c := by
  obtain ⟨T, k⟩ := h.ex
  exact ⟨T, k.keep hb⟩
theorem WdU.drew (h : WdU w U ao n c) : WdU w.drew U ao n c := by
  obtain ⟨T, k⟩ := h.ex
  exact ⟨T, k.drew⟩
theorem WdU.blk (h : WdU w U ao n c) {g : Nat} {cs : List Value} {t : TypeId} (s : Box w g cs t) (hv : ∀ v ∈ cs, ∀ x, v ≠ .int .u64 x) (hw : ∀ k, k ≠ g → w'.heap[k]? = w.heap[k]?) : WdU w' U ao n c := by
  obtain ⟨T, k⟩ := h.ex
  obtain ⟨b, o, l, h1, h2, h3, h4, h5, h6⟩ := k.ex
  exact ⟨T, b, o, l, h1, h2, h3, h4.blk s hv hw, Free.blk h4 h1 h5 s hv hw, h6⟩
theorem LimA.blk {l : List Int} (h : LimA w ao n c l) {g : Nat} {cs : List Value} {t : TypeId} (s : Box w g cs t) (hv : ∀ v ∈ cs, ∀ x, v ≠ .int .u64 x) (hw : ∀ k, k ≠ g → w'.heap[k]? = w.heap[k]?) : LimA w' ao n c l := by
  obtain ⟨b, o, h1, h2, h3, h4⟩ := h.ex
  exact ⟨b, o, h1, h2, h3, h4.blk s hv hw⟩
theorem WdU.turn {B T : Nat} (h : WdU w U ao n c) (t : TurnW B T w w') : WdU w' U ao n c := by
  obtain ⟨T', k⟩ := h.ex
  exact ⟨T', k.turn t⟩
theorem NatN.u {B T : Nat} {x : Int} (h : NatN w B T ao n c x) (hU : U ≤ B) : WdU w U ao n c := ⟨T, (h.mono hU (Nat.le_refl _)).w⟩
theorem NatN.putS {B T g : Nat} {x : Int} (h : NatN w B T ao n c x) {v : Value} {t : TypeId} (s : Slot w g v t) (hv : ∀ x, v ≠ .int .u64 x) (u : Value) : NatN (w.setCell ⟨g, 0, none⟩ u) B T ao n c x := by
  obtain ⟨b, o, l, h1, h2, h3, h4, h5, h6⟩ := h.ex
  have hB : Box w g [v] t := ⟨s.blk⟩
  have hv' : ∀ y ∈ [v], ∀ x, y ≠ .int .u64 x := fun y hy => by
    rw [List.mem_singleton] at hy; subst hy; exact hv
  have hw : ∀ k, k ≠ g → (w.setCell ⟨g, 0, none⟩ u).heap[k]? = w.heap[k]? := fun k hk => Below.heap_setCell _ _ u k hk
  exact ⟨b, o, l, h1, h2, h3, h4.blk hB hv' hw, Free.blk h4 h1 h5 hB hv' hw, h6⟩
end
theorem wdu_nil (w : World) (U : Nat) : WdU w U none 0 0 := ⟨0, (natN_nil w U 0).w⟩
/-- a Spoil leaves every variable without a limb -/
theorem uSpoil {w : World} {U : Nat} {ao : Option Addr} {n c : Nat} (h : WdU w U ao n c) (hn : n ≤ 4398046511104) :
    Calls Tryz.prog 46 #[.slice ao n c] w fun e w' => e = .returned (.tuple #[]) ∧ (∃ T, TurnW U T w w') ∧ (∀ g cs t, Box w g cs t → (∀ v ∈ cs, ∀ x, v ≠ .int .u64 x) → Box w' g cs t) ∧ Below U w w' := by
  obtain ⟨T, k⟩ := h.ex
  obtain ⟨b, o, l, h1, h2, h3, h4, h5, h6⟩ := k.ex
  rcases h6 with e | e
  · subst e
    obtain rfl : n = 0 := h1.symm
    refine (spoil_nil ao c w).mono ?_
    rintro e w' ⟨rfl, rfl⟩
    exact ⟨rfl, ⟨T, TurnW.refl _ _ _⟩, fun g cs t hb _ => hb, Below.refl _ _⟩
  · by_cases hn0 : n = 0
    · have hl : l = [] := List.eq_nil_of_length_eq_zero (by omega)
      subst hl
      obtain rfl := hn0
      refine (spoil_nil ao c w).mono ?_
      rintro e w' ⟨rfl, rfl⟩
      exact ⟨rfl, ⟨T, TurnW.refl _ _ _⟩, fun g cs t hb _ => hb, Below.refl _ _⟩
    · refine (spoil_any ao n c b o l w h1 hn h3 h4 h5).mono ?_
      rintro e' w' ⟨rfl, hw, l', k1, k2, k3⟩
      have hT : TurnW U T w w' := by
        refine ⟨⟨hw.os, hw.tape, hw.output, hw.size, fun k hk => hw.block k (by omega)⟩, fun b' i x hx h0 h1' => ?_, fun b' i => ?_⟩
        · by_cases eb : b' = b
          · subst eb
            by_cases ei : o ≤ i ∧ i < o + n
            · obtain ⟨j, rfl⟩ := Nat.exists_eq_add_of_le ei.1
              exact ⟨_, k3.cell j (by omega), k2.nth j⟩
            · exact ⟨x, by rw [hw.cell i (by omega)]; exact hx, h0, h1'⟩
          · exact ⟨x, by rw [hw.other eb]; exact hx, h0, h1'⟩
        · by_cases eb : b' = b
          · subst eb; exact hw.frozen i
          · exact World.frozen?_of_block (w := w) (hw.block b' eb)
      refine ⟨rfl, ⟨T, hT⟩, fun g cs t hb hv => ?_, hT.t.below (Nat.le_refl _)⟩
      have hne : g ≠ b := fun e1 => by
        subst e1
        have hc := h4.cell 0 (by omega)
        simp only [World.cell?, hb.blk] at hc
        have h1 : cs.toArray[o + 0]? = some (.int .u64 (nth l 0)) := by simpa using hc
        rw [List.getElem?_toArray] at h1
        exact absurd rfl (hv _ (List.mem_of_getElem? h1) _)
      exact ⟨by rw [hw.block g hne]; exact hb.blk⟩
set_option maxHeartbeats 4000000 in
set_option maxRecDepth 100000 in
theorem dAddW {U : Nat} {w : World} {ao ao' : Option Addr} {n c n' c' : Nat} {x y : Int} (hU : U ≤ w.heap.size) (h : NatA w ao n c x) (h' : NatA w ao' n' c' y) (hn : n ≤ 1099511627776) (hn' : n' ≤ 1099511627776) :
    Calls Tryz.prog 31 #[.agg #[.slice ao n c], .agg #[.slice ao' n' c']] w fun e w' => ∃ a k d, e = .returned (.agg #[.slice a k d]) ∧ NatO w' a k d (x + y) ∧ WdU w' U a k d ∧ k ≤ n + n' + 1 ∧ Below w.heap.size w w' := by
  have B0 := below3 w (.cells #[.slice ao n c] 46) (.cells #[.slice ao' n' c'] 46) (.cells #[.slice none 0 0] 46)
  have S0 := slot_last3 w (.cells #[.slice ao n c] 46) (.cells #[.slice ao' n' c'] 46) (.slice none 0 0) 46
  have h := h.keep B0
  have h' := h'.keep B0
  go_enter Tryz.func31, Tryz.ntmps31
  go_wp2_with fail
  refine (fAdd h h' hn hn').mono ?_
  rintro e w1 ⟨a, k, d, rfl, hO, hk, hB⟩
  have S1 := S0.keep hB
  have c1 := S1.cell
  have f1 := S1.free
  have S2 := S1.put (.slice a k d)
  have z0 := B0.size
  have hO1 := hO.putS S1 not_int (.slice a k d)
  have HB := belowPut B0 hB (g := w.heap.size + 1 + 1) (by omega) (.slice a k d)
  clear h h' hO hB S0 S1 B0
  go_wp2
  refine bodyPost_ret (ret_dec rfl rfl S2) rfl ?_
  exact ⟨a, k, d, rfl, hO1.o, hO1.u (by omega), hk, HB⟩
set_option maxHeartbeats 4000000 in
set_option maxRecDepth 100000 in
theorem dTimesW {U : Nat} {w : World} {ao : Option Addr} {n c : Nat} {x y : Int} (hU : U ≤ w.heap.size) (h : NatA w ao n c x) (hn : n ≤ 1099511627776) (h0 : 0 ≤ y) (h1 : y < 18446744073709551616) :
    Calls Tryz.prog 55 #[.agg #[.slice ao n c], .int .u64 y] w fun e w' => ∃ a k d, e = .returned (.agg #[.slice a k d]) ∧ NatO w' a k d (x * y) ∧ WdU w' U a k d ∧ k ≤ n + 1 ∧ Below w.heap.size w w' := by
  have B0 := below2 w (.cells #[.slice ao n c] 46) (.cells #[.slice none 0 0] 46)
  have S0 := slot_last2 w (.cells #[.slice ao n c] 46) (.slice none 0 0) 46
  have SP := (slot_new w (.slice ao n c) 46).alloc (.cells #[.slice none 0 0] 46)
  have h := h.keep B0
  go_enter Tryz.func55, Tryz.ntmps55
  go_wp2_with fail
  go_region_with (first
    | (go_at_call 23; refine (nOf h0 h1).mono ?_; rintro e w1 ⟨a, k, d, rfl, hO, hk, hB⟩; have S0 := S0.drew.keep hB; have SP := SP.drew.keep hB; have cP := SP.cell; have B0 := joinB B0.drew hB; have h := h.drew.keep hB; clear hB)
    | (go_at_call 82; refine (fMul h hO.a hn (by omega)).mono ?_; rintro e w2 ⟨a', k', d', rfl, hO', hk', hB⟩; have S1 := S0.keep hB; have c1 := S1.cell; have f1 := S1.free; have S2 := S1.put (.slice a' k' d'); have z0 := B0.size; have hO1 := hO'.putS S1 not_int (.slice a' k' d'); have HB := belowPut B0 hB (g := w.heap.size + 1) (by omega) (.slice a' k' d'); clear h hO hO' hB S0 S1 B0 cP SP))
  all_goals go_wp2
  all_goals refine bodyPost_ret (ret_dec rfl rfl S2) rfl ?_
  all_goals exact ⟨a', k', d', rfl, hO1.o, hO1.u (by omega), by omega, HB⟩
set_option maxHeartbeats 4000000 in
set_option maxRecDepth 100000 in
theorem dSubW {U : Nat} {w : World} {ao ao' : Option Addr} {n c n' c' : Nat} {x y : Int} (hU : U ≤ w.heap.size) (h : NatA w ao n c x) (h' : NatA w ao' n' c' y) (hn : n ≤ 1099511627776) (hn' : n' ≤ 1099511627776) (hge : y ≤ x) :
    Calls Tryz.prog 56 #[.agg #[.slice ao n c], .agg #[.slice ao' n' c']] w fun e w' => ∃ a k d, e = .returned (.tuple #[.agg #[.slice a k d], .int .i64 0]) ∧ NatO w' a k d (x - y) ∧ WdU w' U a k d ∧ k ≤ n ∧ Below w.heap.size w w' := by
  have B0 := below3 w (.cells #[.slice ao n c] 46) (.cells #[.slice ao' n' c'] 46) (.cells #[.slice none 0 0] 46)
  have S0 := slot_last3 w (.cells #[.slice ao n c] 46) (.cells #[.slice ao' n' c'] 46) (.slice none 0 0) 46
  have h := h.keep B0
  have h' := h'.keep B0
  have tt := fSub h h' hn hn'
  rw [show subE x y = 0 from if_pos hge, show subV x y = x - y from if_pos hge] at tt
  go_enter Tryz.func56, Tryz.ntmps56
  go_wp2_with fail
  refine tt.mono ?_
  rintro e w1 ⟨a, k, d, rfl, hO, hk, hB⟩
  have S1 := S0.keep hB
  have c1 := S1.cell
  have f1 := S1.free
  have S2 := S1.put (.slice a k d)
  have z0 := B0.size
  have hO1 := hO.putS S1 not_int (.slice a k d)
  clear tt
  have HB := belowPut B0 hB (g := w.heap.size + 1 + 1) (by omega) (.slice a k d)
  clear h h' hO hB S0 S1 B0 hge
  go_wp2
  refine bodyPost_ret (ret_dec_tmp rfl rfl rfl S2) rfl ?_
  exact ⟨a, k, d, rfl, hO1.o, hO1.u (by omega), hk, HB⟩
set_option maxRecDepth 100000 in
theorem lDec {w : World} {ao ao' : Option Addr} {n c n' c' : Nat} {l : List Int} (h : LimA w ao n c l) (h' : LimA w ao' n' c' l) (hn : n ≤ 4398046511104) (hn' : n' ≤ 4398046511104) :
    Calls Tryz.prog 36 #[.agg #[.slice ao n c], .agg #[.slice ao' n' c']] w fun e w' => e = .returned (.bool true) ∧ Below w.heap.size w w' := by
  have B0 := below2 w (.cells #[.slice ao n c] 46) (.cells #[.slice ao' n' c'] 46)
  have h := h.keep B0
  have h' := h'.keep B0
  go_enter Tryz.func36, Tryz.ntmps36
  go_wp2_with fail
  refine (lSame h h' hn hn').mono ?_
  rintro e w1 ⟨rfl, hB⟩
  go_wp2
  go_ret
  exact ⟨rfl, joinB B0 hB⟩
theorem hDecT {w : World} {ao ao' : Option Addr} {n c n' c' : Nat} {x : Int} (h : NatO w ao n c x) (h' : NatO w ao' n' c' x) (hn : n ≤ 4398046511104) (hn' : n' ≤ 4398046511104) :
    Calls Tryz.prog 36 #[.agg #[.slice ao n c], .agg #[.slice ao' n' c']] w fun e w' => e = .returned (.bool true) ∧ Below w.heap.size w w' := by
  have t := hDec h h' hn hn'
  rw [decide_eq_true rfl] at t
  exact t
end Go.Proofs.YtjihgkanbhccpaaGreatDoor

namespace Go.Proofs.YtjihgkanbhccpaaGreatDoor
open Go.RowKit Lim

theorem natO_zero2 {w : World} {ao : Option Addr} {n c : Nat} (h : NatO w ao n c 0) : n = 0 := by
  obtain ⟨b, o, l, h1, h2, h3, h4⟩ := h.ex
  have : l = [] := isN_unique h3 isN_nil
  subst this
  exact h1.symm
theorem natO_pos2 {w : World} {ao : Option Addr} {n c : Nat} {x : Int} (h : NatO w ao n c x) (hx : x ≠ 0) : 0 < n := by
  obtain ⟨b, o, l, h1, h2, h3, h4⟩ := h.ex
  rcases Nat.eq_zero_or_pos n with e | e
  · exfalso
    have : l = [] := List.eq_nil_of_length_eq_zero (by omega)
    subst this
    exact hx (by rw [← h3.2.2]; rfl)
  · exact e
end Go.Proofs.YtjihgkanbhccpaaGreatDoor

namespace Go.Proofs.YtjihgkanbhccpaaGreatDoor
open Go.RowKit Lim

set_option maxHeartbeats 4000000 in
set_option maxRecDepth 100000 in
theorem eAdd {w : World} {ao ao' : Option Addr} {n c n' c' : Nat} {x y : Int} (h : NatA w ao n c x) (h' : NatA w ao' n' c' y) (hn : n ≤ 137438953472) (hn' : n' ≤ 137438953472) :
    Calls Tryz.prog 58 #[.agg #[.slice ao n c], .agg #[.slice ao' n' c']] w fun e w' => ∃ a k d, e = .returned (.agg #[.slice a k d]) ∧ NatO w' a k d (x + y) ∧ k ≤ 2 * n + 2 * n' + 1 ∧ Below w.heap.size w w' := by
  have B0 := below3 w (.cells #[.slice ao n c] 46) (.cells #[.slice ao' n' c'] 46) (.cells #[.slice none 0 0] 46)
  have S0 := slot_last3 w (.cells #[.slice ao n c] 46) (.cells #[.slice ao' n' c'] 46) (.slice none 0 0) 46
  have h := h.keep B0
  have h' := h'.keep B0
  go_enter Tryz.func58, Tryz.ntmps58
  go_wp2_with fail
  refine (rAdd h h' hn hn').mono ?_
  rintro e w1 ⟨a, k, d, rfl, hO, hk, hB⟩
  have S1 := S0.keep hB
  have c1 := S1.cell
  have f1 := S1.free
  have S2 := S1.put (.slice a k d)
  have hO1 := hO.put S1 not_int (.slice a k d)
  have HB := belowPut B0 hB (g := w.heap.size + 1 + 1) (by omega) (.slice a k d)
  clear h h' hO hB S0 S1 B0
  go_wp2
  refine bodyPost_ret (ret_dec rfl rfl S2) rfl ?_
  exact ⟨a, k, d, rfl, hO1, hk, HB⟩
set_option maxHeartbeats 4000000 in
set_option maxRecDepth 100000 in
theorem eCmp {w : World} {ao ao' : Option Addr} {n c n' c' : Nat} {x y : Int} (h : NatA w ao n c x) (h' : NatA w ao' n' c' y) (hn : n ≤ 137438953472) (hn' : n' ≤ 137438953472) :
    Calls Tryz.prog 67 #[.agg #[.slice ao n c], .agg #[.slice ao' n' c']] w fun e w' => e = .returned (.int .i64 (sgn x y)) ∧ Below w.heap.size w w' := by
  have B0 := below2 w (.cells #[.slice ao n c] 46) (.cells #[.slice ao' n' c'] 46)
  have h := h.keep B0
  have h' := h'.keep B0
  go_enter Tryz.func67, Tryz.ntmps67
  go_wp2_with fail
  refine (rCmp h h' (by omega) (by omega)).mono ?_
  rintro e w1 ⟨rfl, hB⟩
  go_wp2
  go_ret
  exact ⟨rfl, joinB B0 hB⟩
set_option maxHeartbeats 4000000 in
set_option maxRecDepth 100000 in
theorem eSub {w : World} {ao ao' : Option Addr} {n c n' c' : Nat} {x y : Int} (h : NatA w ao n c x) (h' : NatA w ao' n' c' y) (hn : n ≤ 137438953472) (hn' : n' ≤ 137438953472) (hge : y ≤ x) :
    Calls Tryz.prog 57 #[.agg #[.slice ao n c], .agg #[.slice ao' n' c']] w fun e w' => ∃ a k d, e = .returned (.tuple #[.agg #[.slice a k d], .int .i64 0]) ∧ NatO w' a k d (x - y) ∧ k ≤ 2 * n ∧ Below w.heap.size w w' := by
  have B0 := below3 w (.cells #[.slice ao n c] 46) (.cells #[.slice ao' n' c'] 46) (.cells #[.slice none 0 0] 46)
  have S0 := slot_last3 w (.cells #[.slice ao n c] 46) (.cells #[.slice ao' n' c'] 46) (.slice none 0 0) 46
  have h := h.keep B0
  have h' := h'.keep B0
  go_enter Tryz.func57, Tryz.ntmps57
  go_wp2_with fail
  refine (rSub h h' hn hn' hge).mono ?_
  rintro e w1 ⟨a, k, d, rfl, hO, hk, hB⟩
  have S1 := S0.keep hB
  have c1 := S1.cell
  have f1 := S1.free
  have S2 := S1.put (.slice a k d)
  have hO1 := hO.put S1 not_int (.slice a k d)
  have HB := belowPut B0 hB (g := w.heap.size + 1 + 1) (by omega) (.slice a k d)
  clear h h' hO hB S0 S1 B0 hge
  go_wp2
  refine bodyPost_ret (ret_dec_tmp rfl rfl rfl S2) rfl ?_
  exact ⟨a, k, d, rfl, hO1, hk, HB⟩
set_option maxHeartbeats 4000000 in
set_option maxRecDepth 100000 in
theorem eSubLt {w : World} {ao ao' : Option Addr} {n c n' c' : Nat} {x y : Int} (h : NatA w ao n c x) (h' : NatA w ao' n' c' y) (hn : n ≤ 137438953472) (hn' : n' ≤ 137438953472) (hlt : x < y) :
    Calls Tryz.prog 57 #[.agg #[.slice ao n c], .agg #[.slice ao' n' c']] w fun e w' => e = .returned (.tuple #[.agg #[.slice none 0 0], .int .i64 20]) ∧ Below w.heap.size w w' := by
  have B0 := below3 w (.cells #[.slice ao n c] 46) (.cells #[.slice ao' n' c'] 46) (.cells #[.slice none 0 0] 46)
  have S0 := slot_last3 w (.cells #[.slice ao n c] 46) (.cells #[.slice ao' n' c'] 46) (.slice none 0 0) 46
  have h := h.keep B0
  have h' := h'.keep B0
  go_enter Tryz.func57, Tryz.ntmps57
  go_wp2_with fail
  refine (rSubLt h h' hn hn' hlt).mono ?_
  rintro e w1 ⟨rfl, hB⟩
  have S1 := S0.keep hB
  have c1 := S1.cell
  have f1 := S1.free
  have S2 := S1.put (.slice none 0 0)
  have HB := belowPut B0 hB (g := w.heap.size + 1 + 1) (by omega) (.slice none 0 0)
  clear h h' hB S0 S1 B0 hlt
  go_wp2
  refine bodyPost_ret (ret_dec_tmp rfl rfl rfl S2) rfl ?_
  exact ⟨rfl, HB⟩
set_option maxHeartbeats 4000000 in
set_option maxRecDepth 100000 in
theorem eOfNat {w : World} {ao : Option Addr} {n c : Nat} {x : Int} (h : NatA w ao n c x) (hn : n ≤ 137438953472) :
    Calls Tryz.prog 65 #[.slice ao n c] w fun e w' => ∃ a k d, e = .returned (.agg #[.slice a k d]) ∧ NatO w' a k d (x * U36) ∧ k ≤ 2 * n + 76 ∧ Below w.heap.size w w' := by
  have B0 := below_alloc w (.cells #[.slice none 0 0] 46)
  have S0 := slot_new w (.slice none 0 0) 46
  have h := h.keep B0
  go_enter Tryz.func65, Tryz.ntmps65
  go_wp2_with fail
  refine eOne.mono ?_
  rintro e w1 ⟨a, k, d, rfl, hO, hk, hB⟩
  have h := h.keep hB
  have S0 := S0.keep hB
  have B0 := joinB B0 hB
  clear hB
  go_wp2_with fail
  refine (rMul h hO.a hn (by omega)).mono ?_
  rintro e w2 ⟨a', k', d', rfl, hO', hk', hB⟩
  have S1 := S0.keep hB
  have c1 := S1.cell
  have f1 := S1.free
  have S2 := S1.put (.slice a' k' d')
  have hO1 := hO'.put S1 not_int (.slice a' k' d')
  have HB := belowPut B0 hB (g := w.heap.size) (Nat.le_refl _) (.slice a' k' d')
  clear h hO hO' hB S0 S1 B0
  go_wp2
  refine bodyPost_ret (ret_dec rfl rfl S2) rfl ?_
  exact ⟨a', k', d', rfl, hO1, by omega, HB⟩
set_option maxHeartbeats 4000000 in
set_option maxRecDepth 100000 in
theorem eOf {w : World} {x : Int} (h0 : 0 ≤ x) (h1 : x < 18446744073709551616) :
    Calls Tryz.prog 61 #[.int .u64 x] w fun e w' => ∃ a k d, e = .returned (.agg #[.slice a k d]) ∧ NatO w' a k d (x * U36) ∧ k ≤ 80 ∧ Below w.heap.size w w' := by
  have B0 := below_alloc w (.cells #[.slice none 0 0] 46)
  have S0 := slot_new w (.slice none 0 0) 46
  go_enter Tryz.func61, Tryz.ntmps61
  go_wp2_with fail
  refine (rOf h0 h1).mono ?_
  rintro e w1 ⟨a, k, d, rfl, hO, hk, hB⟩
  have S0 := S0.keep hB
  have B0 := joinB B0 hB
  clear hB
  go_wp2_with fail
  refine (eOfNat hO.a (by omega)).mono ?_
  rintro e w2 ⟨a', k', d', rfl, hO', hk', hB⟩
  have S1 := S0.keep hB
  have c1 := S1.cell
  have f1 := S1.free
  have S2 := S1.put (.slice a' k' d')
  have hO1 := hO'.put S1 not_int (.slice a' k' d')
  have HB := belowPut B0 hB (g := w.heap.size) (Nat.le_refl _) (.slice a' k' d')
  clear hO hO' hB S0 S1 B0
  go_wp2
  refine bodyPost_ret (ret_dec rfl rfl S2) rfl ?_
  exact ⟨a', k', d', rfl, hO1, by omega, HB⟩
set_option maxHeartbeats 4000000 in
set_option maxRecDepth 100000 in
theorem eTimes {w : World} {ao : Option Addr} {n c : Nat} {x y : Int} (h : NatA w ao n c x) (hn : n ≤ 137438953472) (h0 : 0 ≤ y) (h1 : y < 18446744073709551616) :
    Calls Tryz.prog 59 #[.agg #[.slice ao n c], .int .u64 y] w fun e w' => ∃ a k d, e = .returned (.agg #[.slice a k d]) ∧ NatO w' a k d (x * y) ∧ k ≤ 2 * n + 4 ∧ Below w.heap.size w w' := by
  have B0 := below2 w (.cells #[.slice ao n c] 46) (.cells #[.slice none 0 0] 46)
  have S0 := slot_last2 w (.cells #[.slice ao n c] 46) (.slice none 0 0) 46
  have SP := (slot_new w (.slice ao n c) 46).alloc (.cells #[.slice none 0 0] 46)
  have h := h.keep B0
  go_enter Tryz.func59, Tryz.ntmps59
  go_wp2_with fail
  go_region_with (first
    | (go_at_call 97; refine (rOf h0 h1).mono ?_; rintro e w1 ⟨a, k, d, rfl, hO, hk, hB⟩; have S0 := S0.drew.keep hB; have SP := SP.drew.keep hB; have cP := SP.cell; have B0 := joinB B0.drew hB; have h := h.drew.keep hB; clear hB)
    | (go_at_call 103; refine (rMul h hO.a hn (by omega)).mono ?_; rintro e w2 ⟨a', k', d', rfl, hO', hk', hB⟩; have S1 := S0.keep hB; have c1 := S1.cell; have f1 := S1.free; have S2 := S1.put (.slice a' k' d'); have hO1 := hO'.put S1 not_int (.slice a' k' d'); have HB := belowPut B0 hB (g := w.heap.size + 1) (by omega) (.slice a' k' d'); clear h hO hO' hB S0 S1 B0 cP SP))
  all_goals go_wp2
  all_goals refine bodyPost_ret (ret_dec rfl rfl S2) rfl ?_
  all_goals exact ⟨a', k', d', rfl, hO1, by omega, HB⟩
set_option maxHeartbeats 4000000 in
set_option maxRecDepth 100000 in
theorem eBasis {w : World} {x : Int} (h0 : 0 ≤ x) (h1 : x < 18446744073709551616) :
    Calls Tryz.prog 63 #[.int .u64 x] w fun e w' => ∃ a k d, e = .returned (.agg #[.slice a k d]) ∧ NatO w' a k d (x * 10 ^ 32) ∧ k ≤ 80 ∧ Below w.heap.size w w' := by
  have HT := (show Hid _ from fun (w : World) => rOf (w := w) h0 h1)
  clear h0 h1
  have B0 := below_alloc w (.cells #[.slice none 0 0] 46)
  have S0 := slot_new w (.slice none 0 0) 46
  go_enter Tryz.func63, Tryz.ntmps63
  go_wp2_with fail
  refine (rPow 32 (by decide)).mono ?_
  rintro e w1 ⟨a1, k1, d1, rfl, O1, hk1, hB⟩
  have S0 := S0.keep hB
  have B0 := joinB B0 hB
  clear hB
  go_wp2_with fail
  refine (HT.out _).mono ?_
  rintro e w2 ⟨a2, k2, d2, rfl, O2, hk2, hB⟩
  have S0 := S0.keep hB
  have B0 := joinB B0 hB
  replace O1 := O1.keep hB
  clear hB
  go_wp2_with fail
  refine (rMul O2.a O1.a (by omega) (by omega)).mono ?_
  rintro e w3 ⟨a', k', d', rfl, hO', hk', hB⟩
  have S1 := S0.keep hB
  have c1 := S1.cell
  have f1 := S1.free
  have S2 := S1.put (.slice a' k' d')
  have hO1 := hO'.put S1 not_int (.slice a' k' d')
  have HB := belowPut B0 hB (g := w.heap.size) (Nat.le_refl _) (.slice a' k' d')
  clear O1 O2 hO' hB S0 S1 B0
  go_wp2
  refine bodyPost_ret (ret_dec rfl rfl S2) rfl ?_
  exact ⟨a', k', d', rfl, hO1, by omega, HB⟩
set_option maxHeartbeats 4000000 in
set_option maxRecDepth 100000 in
theorem eZero {w : World} {ao : Option Addr} {n c : Nat} {x : Int} (h : NatA w ao n c x) (hn : n ≤ 137438953472) :
    Calls Tryz.prog 66 #[.agg #[.slice ao n c]] w fun e w' => e = .returned (.bool (decide (x = 0))) ∧ Below w.heap.size w w' := by
  have HB := below_alloc w (.cells #[.slice ao n c] 46)
  replace h := h.keep HB
  by_cases hz : x = 0
  · rw [decide_eq_true hz]
    have HZ := (show Hid _ from hz)
    clear hz
    go_enter Tryz.func66, Tryz.ntmps66
    go_wp2_with fail
    refine (rNorm h (by omega)).mono ?_
    rintro e w1 ⟨A2, K2, C2, rfl, O3, hk2, hB⟩
    replace HB := joinB HB hB
    obtain rfl : K2 = 0 := natO_zero2 (O3.eqv HZ.out)
    clear hB O3 hk2 HZ
    go_wp2
    go_ret
    exact ⟨rfl, HB⟩
  · rw [decide_eq_false hz]
    have HZ := (show Hid _ from hz)
    clear hz
    go_enter Tryz.func66, Tryz.ntmps66
    go_wp2_with fail
    refine (rNorm h (by omega)).mono ?_
    rintro e w1 ⟨A2, K2, C2, rfl, O3, hk2, hB⟩
    replace HB := joinB HB hB
    obtain ⟨j, rfl⟩ : ∃ j, K2 = j + 1 := ⟨K2 - 1, by have := natO_pos2 O3 HZ.out; omega⟩
    clear hB O3 hk2 HZ
    go_wp2
    go_ret
    exact ⟨rfl, HB⟩
end Go.Proofs.YtjihgkanbhccpaaGreatDoor

namespace Go.Proofs.YtjihgkanbhccpaaGreatDoor
open Go.RowKit Lim

def smallD (vs : List (Option Addr × Nat × Nat)) : Bool := vs.all fun v => decide (v.2.1 ≤ 40)

set_option maxHeartbeats 1000000 in
set_option maxRecDepth 100000 in
theorem smallD_any (vs : List (Option Addr × Nat × Nat)) (g n c : Nat) (w : World) (hn : vs.length = n) (hbig : n ≤ 1000) (hlen : ∀ i, (theNth vs i).2.1 ≤ 9223372036854775807)
    (hcell : ∀ i, i < n → w.cell? ⟨g, i, none⟩ = some (.slice (theNth vs i).1 (theNth vs i).2.1 (theNth vs i).2.2)) :
    Calls Tryz.prog 54 #[.slice (some ⟨g, 0, none⟩) n c] w fun e w' => e = .returned (.bool (smallD vs)) ∧ w' = w := by
  have HF : Hid (∀ i, i < n → 40 < (theNth vs i).2.1 → smallD vs = false) := by
    intro i hi h40
    unfold smallD
    rw [Bool.eq_false_iff]
    intro hall
    rw [List.all_eq_true] at hall
    have e : theNth vs i = vs[i]'(by omega) := by simp [theNth, List.getElem?_eq_getElem (show i < vs.length by omega)]
    have := hall (theNth vs i) (by rw [e]; exact List.getElem_mem _)
    simp at this; omega
  have HT : Hid ((∀ i, i < n → (theNth vs i).2.1 ≤ 40) → smallD vs = true) := by
    intro h
    unfold smallD
    rw [List.all_eq_true]
    intro v hv
    obtain ⟨i, hi, rfl⟩ := List.getElem_of_mem hv
    have := h i (by omega)
    have e : theNth vs i = vs[i] := by simp [theNth, List.getElem?_eq_getElem hi]
    rw [e] at this
    simpa using this
  go_enter Tryz.func54, Tryz.ntmps54
  go_wp2
  go_loop [3] (fun ti => ∃ k : Nat, k ≤ n ∧ ti = .int .i64 k ∧ Hid (∀ i, i < k → (theNth vs i).2.1 ≤ 40)) (fun ti => n - (intOf ti).toNat)
  case atStart => exact ⟨0, Nat.zero_le _, rfl, fun i hi => by omega⟩
  case round =>
    obtain ⟨k, hk, rfl, hz⟩ := hrel
    by_cases hlt : k < n
    · have q1 := hcell k hlt
      have hl1 := hlen k
      have hk0 : (k : Int) < n := by omega
      have HF1 : Hid (40 < (theNth vs k).2.1 → smallD vs = false) := HF.out k hlt
      have HZ1 : Hid ((theNth vs k).2.1 ≤ 40 → ∀ i, i < k + 1 → (theNth vs i).2.1 ≤ 40) := by
        intro h i hi
        by_cases e : i = k
        · subst e; exact h
        · exact hz.out i (by omega)
      clear hcell hlen
      generalize (theNth vs k).1 = a at *
      generalize (theNth vs k).2.2 = c' at *
      generalize (theNth vs k).2.1 = m at *
      by_cases h40 : 40 < m
      · go_wp2
        go_ret
        exact ⟨retB (HF1.out h40).symm, rfl⟩
      · have h41 := HZ1.out (by omega)
        have H41 := (show Hid _ from h41)
        clear h41
        go_wp2
        go_round
        case rel => exact ⟨k + 1, by omega, by go_num, H41⟩
        case measure => simp [intOf]; omega
    · go_wp2
      go_ret
      exact ⟨retB (HT.out fun i hi => hz.out i (by omega)).symm, rfl⟩

end Go.Proofs.YtjihgkanbhccpaaGreatDoor
