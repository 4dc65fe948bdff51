/- dec.Text tells a number in decimal digits. -/
import Derived.Test.YtpbiflfdfiebcabGreatDoorPlaces
import Derived.Test.YtpbiflfdfiebcabGreatDoorDec4
import Derived.Test.YtpbiflfdfiebcabGreatDoorKnown
namespace Go.Proofs.YtpbiflfdfiebcabGreatDoor
open Go.RowKit Lim

/-- 36 places as bytes -/
def fr36 (r : Int) : List UInt8 := (digL 36 r).map fun c => UInt8.ofNat c.toNat
/-- what stands behind the whole part -/
def fracT (r : Int) : List UInt8 := if r = 0 then [] else 46 :: Lib.trimRightB (fr36 r) 48
structure DText (S : ByteArray) (x : Int) : Prop where
  ex : ∃ Sw : ByteArray, TextOf Sw (x / U36) ∧ S.data.toList = Sw.data.toList ++ fracT (x % U36)
theorem fr36_of {S : ByteArray} {r : Int} (h : S.data.toList.map (fun c => (c.toNat : Int)) = digL 36 r) : S.data.toList = fr36 r := by
  unfold fr36
  rw [← h, List.map_map]
  conv => lhs; rw [← List.map_id S.data.toList]
  apply List.map_congr_left
  intro c _
  simp [Function.comp]
/-- AppendUint of whatever a text's highest group can be, from w on -/
def AppAll (w : World) (x : Int) : Prop := ∀ g, GroupsOk g → gval g = x → g ≠ [] → 0 < nth g (g.length - 1) → ∀ wx, Below w.heap.size w wx → AppAt (nth g (g.length - 1)) wx
theorem AppAll.keep {w w' : World} {x : Int} (h : AppAll w x) (hb : Below w.heap.size w w') : AppAll w' x := fun g h1 h2 h3 h4 wx hx => h g h1 h2 h3 h4 wx (joinB hb hx)
theorem trimR_le (l : List UInt8) (c : UInt8) : (Lib.trimRightB l c).length ≤ l.length := by
  unfold Lib.trimRightB
  rw [List.length_reverse]
  have := (List.dropWhile_sublist (fun x => x == c) (l := l.reverse)).length_le
  rwa [List.length_reverse] at this
theorem fr36_length (r : Int) : (fr36 r).length = 36 := by unfold fr36; rw [List.length_map, digL_length]
theorem nText {w : World} {ao : Option Addr} {n c : Nat} {x : Int} (h : NatA w ao n c x) (hn : n ≤ 4294967296) (hA : AppAll w x) :
    Calls Tryz.prog 73 #[.slice ao n c] w fun e w' => ∃ s, e = .returned (.string s) ∧ TextOf s x ∧ s.size ≤ 40 * n + 40 ∧ Below w.heap.size w w' := by
  obtain ⟨b, o, l, h1, h2, h3, h4, rfl⟩ := h.ex
  exact text_any ao n c b o l w h1 h2 hn h3 h4 hA

set_option maxHeartbeats 4000000 in
set_option maxRecDepth 100000 in
theorem dText {w : World} {ao : Option Addr} {n c : Nat} {x : Int} (h : NatA w ao n c x) (hn : n ≤ 4294967000) (hA : AppAll w (x / U36)) :
    Calls Tryz.prog 50 #[.agg #[.slice ao n c]] w fun e w' => ∃ S : ByteArray, e = .returned (.string S) ∧ DText S x ∧ S.size ≤ 40 * n + 100 ∧ Below w.heap.size w w' := by
  have B0 := below_alloc w (.cells #[.slice ao n c] 34)
  have P0 := slot_new w (.slice ao n c) 34
  have h := h.keep B0
  have hA := hA.keep B0
  have q0 := P0.cell
  go_enter Tryz.func50, Tryz.ntmps50
  have hx0 := h.nonneg
  have hup := U36_pos
  have hr0 : 0 ≤ x % U36 := Int.emod_nonneg _ (by omega)
  have hr1 : x % U36 < U36 := Int.emod_lt_of_pos _ hup
  go_wp2_with fail
  refine (dTrunc h (by omega)).mono ?_
  rintro e w1 ⟨a1, k1, d1, a2, k2, d2, rfl, hO1, hO2, hk1, hk2, hB⟩
  have B0 := joinB B0 hB
  have hA := hA.keep hB
  clear hB h P0 q0
  have BA := below_alloc w1 (.cells #[.slice a2 k2 d2] 34)
  have SL := slot_new w1 (.slice a2 k2 d2) 34
  have hO1 := hO1.keep BA
  have hO2 := hO2.keep BA
  have hA := hA.keep BA
  have B0 := joinB B0 BA
  have tT := nText hO1.a (by omega) hA
  clear BA hA
  go_wp2_with fail
  refine tT.mono ?_
  rintro e w2 ⟨Sw, rfl, hSw, hSz, hB⟩
  have hO2 := hO2.keep hB
  have SL := SL.keep hB
  have B0 := joinB B0 hB
  have cL := SL.cell
  clear hB tT hO1
  have tZ := dZero hO2.a (by omega)
  generalize w1.heap.size = gL at *
  by_cases hz : x % U36 = 0
  · rw [decide_eq_true hz] at tZ
    have HZ := (show Hid _ from hz)
    clear hz
    go_wp2_with fail
    refine tZ.mono ?_
    rintro e w3 ⟨rfl, hB⟩
    go_wp2
    go_ret
    exact ⟨Sw, rfl, ⟨Sw, hSw, by rw [HZ.out]; simp [fracT]⟩, by omega, joinB B0 hB⟩
  · rw [decide_eq_false hz] at tZ
    have HZ := (show Hid _ from hz)
    clear hz
    go_wp2_with fail
    refine tZ.mono ?_
    rintro e w3 ⟨rfl, hB⟩
    have hO2 := hO2.keep hB
    have SL := SL.keep hB
    have B0 := joinB B0 hB
    have cL := SL.cell
    clear hB tZ
    go_wp2_with fail
    refine (dPlaces hO2.a (by omega) hr1).mono ?_
    rintro e w4 ⟨S, rfl, hS, hB⟩
    have hS36 := fr36_of hS
    have hsz : S.size = 36 := by
      have : (S.data.toList.map (fun c => (c.toNat : Int))).length = 36 := by rw [hS, digL_length]
      simpa using this
    have B0 := joinB B0 hB
    clear hB hS
    have tR := Tryz.strings_TrimRight_one S 48 (by decide) w4 (by omega)
    rw [hS36] at tR
    generalize hR : (⟨(Lib.trimRightB (fr36 (x % U36)) 48).toArray⟩ : ByteArray) = R at tR
    have hRs : R.size ≤ 36 := by
      have h1 := trimR_le (fr36 (x % U36)) 48
      rw [fr36_length] at h1
      rw [← hR]
      simpa [ByteArray.size] using h1
    have HR := (show Hid _ from hR)
    clear hS36 hR
    go_wp2_with fail
    refine tR.mono ?_
    rintro e w5 ⟨rfl, rfl⟩
    go_wp2_with fail
    go_ret
    refine ⟨_, rfl, ⟨Sw, hSw, ?_⟩, ?_, B0⟩
    · rw [fracT, if_neg HZ.out, ← HR.out]
      simp
    · show (Sw ++ (⟨#[46]⟩ : ByteArray) ++ R).size ≤ _
      rw [ByteArray.size_append, ByteArray.size_append]
      have : (⟨#[46]⟩ : ByteArray).size = 1 := rfl
      omega
end Go.Proofs.YtpbiflfdfiebcabGreatDoor
