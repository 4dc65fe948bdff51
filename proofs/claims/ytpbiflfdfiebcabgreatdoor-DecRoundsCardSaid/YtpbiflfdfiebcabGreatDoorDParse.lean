/- dec.Parse reads what Text writes. -/
import Derived.Test.YtpbiflfdfiebcabGreatDoorDText
namespace Go.Proofs.YtpbiflfdfiebcabGreatDoor
open Go.RowKit Lim

set_option maxHeartbeats 2000000 in
set_option maxRecDepth 100000 in
theorem cut_yes (s : ByteArray) (i : Nat) (w : World) (hs : s.size ≤ 1099511627776) (h : Lib.indexByte s.data.toList 46 = (i : Int)) (hi : i < s.size) :
    Calls Tryz.prog 92 #[.string s, .string ⟨#[46]⟩] w fun e w' => e = .returned (.tuple #[.string (s.extract 0 i), .string (s.extract (i + 1) s.size), .bool true]) ∧ Below w.heap.size w w' := by
  have t := Tryz.stringslite_Index_one s 46
  rw [h] at t
  clear h
  have hi0 : (i : Int) < s.size := by omega
  go_enter Tryz.func92, Tryz.ntmps92
  go_wp2_with (first
    | (go_at_call 157; refine (t _).mono ?_; rintro e w' ⟨rfl, rfl⟩)
    | go_in)
  go_quiet (fail)
  go_wp2
  go_ret3
  exact ⟨rfl, below_drewN (Below.refl _ _) _⟩

set_option maxHeartbeats 2000000 in
set_option maxRecDepth 100000 in
theorem places_ok (s : ByteArray) (w : World) (hs : s.size ≤ 36) (h1 : Lib.hasSuffix s.data.toList [48] = false) (h2 : isT (Lib.trimLeftB s.data.toList 48) = true) :
    Calls Tryz.prog 94 #[.string s] w fun e w' => ∃ a k d, e = .returned (.tuple #[.agg #[.slice a k d], .int .i64 0]) ∧ NatO w' a k d (dval (Lib.trimLeftB s.data.toList 48) * 10 ^ (36 - s.size)) ∧ k ≤ 80 ∧ Below w.heap.size w w' := by
  have B0 := below_alloc w (.cells #[.slice none 0 0] 34)
  have S0 := slot_new w (.slice none 0 0) 34
  have tH := Tryz.strings_HasSuffix s ⟨#[48]⟩
  rw [show (⟨#[48]⟩ : ByteArray).data.toList = [48] from rfl, h1] at tH
  have tL := Tryz.strings_TrimLeft_one s 48 (by decide)
  have hlen : (Lib.trimLeftB s.data.toList 48).length ≤ 36 := by
    unfold Lib.trimLeftB
    have := (List.dropWhile_sublist (fun x => x == 48) (l := s.data.toList)).length_le
    rw [len_data] at this
    omega
  have hsub : ((36 : Int) - (s.size : Int)) = ((36 - s.size : Nat) : Int) := by omega
  clear h1
  generalize hR : (⟨(Lib.trimLeftB s.data.toList 48).toArray⟩ : ByteArray) = R at tL
  have hRd : R.data.toList = Lib.trimLeftB s.data.toList 48 := by rw [← hR]
  have hRs : R.size ≤ 36 := by rw [← len_data, hRd]; exact hlen
  have tP := fun w => parse_yes R w (by omega) (by rw [hRd]; exact h2)
  rw [hRd] at tP
  clear hR hRd h2 hlen
  generalize dval (Lib.trimLeftB s.data.toList 48) = V at *
  have HSUB := (show Hid _ from hsub)
  clear hsub
  go_enter Tryz.func94, Tryz.ntmps94
  go_wp2_with (first
    | (go_at_call 135; refine (tH _ (by omega)).mono ?_; rintro e w' ⟨rfl, rfl⟩)
    | (go_at_call 136; refine (tL _).mono ?_; rintro e w' ⟨rfl, rfl⟩))
  refine (tP _).mono ?_
  rintro e w1 ⟨v, r, rfl, hnw, hI, hlr, hB⟩
  obtain ⟨a, d, rfl, hO⟩ := hnw.o hI
  have S0 := S0.keep hB
  have B0 := joinB B0 hB
  clear hB hnw hI tP tH tL
  have tT := dTenTo (w := w1) (36 - s.size) (by omega)
  rw [← HSUB.out] at tT
  go_wp2_with fail
  refine tT.mono ?_
  rintro e w2 ⟨a2, k2, d2, rfl, hO2, hk2, hB⟩
  have S0 := S0.keep hB
  have B0 := joinB B0 hB
  have hO := hO.keep hB
  clear hB tT
  go_wp2_with fail
  refine (nMul hO.a hO2.a (by omega) (by omega)).mono ?_
  rintro e w3 ⟨a', k', d', rfl, hO', hk', hB⟩
  have S1 := S0.keep hB
  have c1 := S1.cell
  have f1 := S1.free
  have S2 := S1.put (.slice a' k' d')
  have hOz := hO'.put S1 not_int (.slice a' k' d')
  have HB := belowPut B0 hB (g := w.heap.size) (Nat.le_refl _) (.slice a' k' d')
  clear hO hO2 hO' hB S0 S1 B0
  go_wp2
  refine bodyPost_ret (ret_dec_tmp rfl rfl rfl S2) rfl ?_
  exact ⟨a', k', d', rfl, hOz, by omega, HB⟩

set_option maxHeartbeats 2000000 in
set_option maxRecDepth 100000 in
theorem places_suf (s : ByteArray) (w : World) (hs : s.size ≤ 36) (h1 : Lib.hasSuffix s.data.toList [48] = true) :
    Calls Tryz.prog 94 #[.string s] w fun e w' => e = .returned (.tuple #[.agg #[.slice none 0 0], .int .i64 22]) ∧ Below w.heap.size w w' := by
  have B0 := below_alloc w (.cells #[.slice none 0 0] 34)
  have S0 := slot_new w (.slice none 0 0) 34
  have tH := Tryz.strings_HasSuffix s ⟨#[48]⟩
  rw [show (⟨#[48]⟩ : ByteArray).data.toList = [48] from rfl, h1] at tH
  clear h1
  go_enter Tryz.func94, Tryz.ntmps94
  go_wp2_with (go_at_call 135; refine (tH _ (by omega)).mono ?_; rintro e w' ⟨rfl, rfl⟩)
  refine bodyPost_ret (ret_dec_tmp rfl rfl rfl S0) rfl ?_
  exact ⟨rfl, B0⟩

set_option maxHeartbeats 2000000 in
set_option maxRecDepth 100000 in
theorem dParse_suf (s : ByteArray) (i : Nat) (w : World) (hs : s.size ≤ 1000000) (h : Lib.indexByte s.data.toList 46 = (i : Int)) (hi : i < s.size) (ht : isT (s.extract 0 i).data.toList = true) (h36 : (s.extract (i + 1) s.size).size ≤ 36) (hf : Lib.hasSuffix (s.extract (i + 1) s.size).data.toList [48] = true) :
    Calls Tryz.prog 48 #[.string s] w fun e w' => e = .returned (.tuple #[.agg #[.slice none 0 0], .int .i64 22]) ∧ Below w.heap.size w w' := by
  have B0 := below_alloc w (.cells #[.slice none 0 0] 34)
  have S0 := slot_new w (.slice none 0 0) 34
  have tC := fun w => cut_yes s i w (by omega) h hi
  have hsz : (s.extract 0 i).size ≤ 1000000 := by rw [ByteArray.size_extract]; omega
  have tP := fun w => parse_yes (s.extract 0 i) w (by omega) ht
  have tQ := fun w => places_suf (s.extract (i + 1) s.size) w h36 hf
  clear h hi ht h36 hf
  generalize s.extract 0 i = D at *
  generalize s.extract (i + 1) s.size = E at *
  go_enter Tryz.func48, Tryz.ntmps48
  go_wp2_with fail
  refine (tC _).mono ?_
  rintro e w1 ⟨rfl, hB⟩
  have S0 := S0.keep hB
  have B0 := joinB B0 hB
  clear hB tC
  go_wp2_with fail
  refine (tP _).mono ?_
  rintro e w2 ⟨v, r, rfl, hnw, hI, hlr, hB⟩
  obtain ⟨a, d, rfl, hO⟩ := hnw.o hI
  have S0 := S0.keep hB
  have B0 := joinB B0 hB
  clear hB hnw hI tP
  go_wp2_with fail
  refine (tQ _).mono ?_
  rintro e w3 ⟨rfl, hB⟩
  have S0 := S0.keep hB
  have B0 := joinB B0 hB
  clear hB tQ
  have c0 := S0.cell
  have f0 := S0.free
  have S2 := (S0.put (.slice none 0 0)).alloc (.cells #[.slice none 0 0] 34)
  have HB := joinB (B0.setCell (p := ⟨w.heap.size, 0, none⟩) (Nat.le_refl _) (.slice none 0 0)) (below_alloc _ (.cells #[.slice none 0 0] 34))
  have S3 := S0.alloc (.cells #[.slice none 0 0] 34)
  have c3 := S3.cell
  have f3 := S3.free
  have S4 := S3.put (.slice none 0 0)
  have HB4 := (joinB B0 (below_alloc _ (.cells #[.slice none 0 0] 34))).setCell (p := ⟨w.heap.size, 0, none⟩) (Nat.le_refl _) (.slice none 0 0)
  clear S0 B0 S3
  go_wp2
  first
  | (refine bodyPost_ret (ret_dec_tmp rfl rfl rfl S2) rfl ?_; exact ⟨rfl, HB⟩)
  | (refine bodyPost_ret (ret_dec_tmp rfl rfl rfl S4) rfl ?_; exact ⟨rfl, HB4⟩)
  | trace_state

set_option maxHeartbeats 2000000 in
set_option maxRecDepth 100000 in
theorem dParse_ok (s : ByteArray) (i : Nat) (w : World) (hs : s.size ≤ 1000000) (h : Lib.indexByte s.data.toList 46 = (i : Int)) (hi : i < s.size) (ht : isT (s.extract 0 i).data.toList = true) (h36 : (s.extract (i + 1) s.size).size ≤ 36) (hf : Lib.hasSuffix (s.extract (i + 1) s.size).data.toList [48] = false) (hl : isT (Lib.trimLeftB (s.extract (i + 1) s.size).data.toList 48) = true) :
    Calls Tryz.prog 48 #[.string s] w fun e w' => ∃ a k d, e = .returned (.tuple #[.agg #[.slice a k d], .int .i64 0]) ∧ NatO w' a k d (dval (s.extract 0 i).data.toList * U36 + dval (Lib.trimLeftB (s.extract (i + 1) s.size).data.toList 48) * 10 ^ (36 - (s.extract (i + 1) s.size).size)) ∧ k ≤ s.size + 200 ∧ Below w.heap.size w w' := by
  have B0 := below_alloc w (.cells #[.slice none 0 0] 34)
  have S0 := slot_new w (.slice none 0 0) 34
  have tC := fun w => cut_yes s i w (by omega) h hi
  have hsz : (s.extract 0 i).size ≤ s.size := by rw [ByteArray.size_extract]; omega
  have tP := fun w => parse_yes (s.extract 0 i) w (by omega) ht
  have tQ := fun w => places_ok (s.extract (i + 1) s.size) w h36 hf hl
  clear h hi ht h36 hf hl
  generalize dval (s.extract 0 i).data.toList = X at *
  generalize dval (Lib.trimLeftB (s.extract (i + 1) s.size).data.toList 48) * 10 ^ (36 - (s.extract (i + 1) s.size).size) = Y at *
  generalize s.extract 0 i = D at *
  generalize s.extract (i + 1) s.size = E at *
  go_enter Tryz.func48, Tryz.ntmps48
  go_wp2_with fail
  refine (tC _).mono ?_
  rintro e w1 ⟨rfl, hB⟩
  have S0 := S0.keep hB
  have B0 := joinB B0 hB
  clear hB tC
  go_wp2_with fail
  refine (tP _).mono ?_
  rintro e w2 ⟨v, r, rfl, hnw, hI, hlr, hB⟩
  obtain ⟨a, d, rfl, hO⟩ := hnw.o hI
  have S0 := S0.keep hB
  have B0 := joinB B0 hB
  clear hB hnw hI tP
  go_wp2_with fail
  refine (tQ _).mono ?_
  rintro e w3 ⟨a3, k3, d3, rfl, hO3, hk3, hB⟩
  have S0 := S0.keep hB
  have B0 := joinB B0 hB
  have hO := hO.keep hB
  clear hB tQ
  have hgl := S0.lt
  have BA := below_alloc w3 (.cells #[.slice a3 k3 d3] 34)
  have SL := slot_new w3 (.slice a3 k3 d3) 34
  have S0 := S0.keep BA
  have hO := hO.keep BA
  have hO3 := hO3.keep BA
  have B0 := joinB B0 BA
  clear BA
  have cL := SL.cell
  go_wp2_with fail
  generalize w3.alloc (.cells #[.slice a3 k3 d3] 34) = w4 at *
  generalize w3.heap.size = gL at *
  go_region_held3 (fun w' => w'.cell? ⟨gL, 0, none⟩ = some (.slice a3 k3 d3)) (first | exact (by assumption) | exact (SL.other (by omega) _).cell | go_keep)
    (first
    | (go_at_call 28; refine (dOfNat hO.drew.a (by omega)).mono ?_; rintro e w5 ⟨a5, k5, d5, rfl, hO5, hk5, hB⟩; have S0 := S0.drew.keep hB; have SL := SL.drew.keep hB; have cL := SL.cell; have hO3 := hO3.drew.keep hB; have B0 := joinB B0.drew hB; clear hB hO)
    | (go_at_call 17; refine (dAdd hO5.a hO3.a (by omega) (by omega)).mono ?_; rintro e w6 ⟨a6, k6, d6, rfl, hO6, hk6, hB⟩; have S1 := S0.keep hB; have c1 := S1.cell; have f1 := S1.free; have SL := SL.keep hB; have cL := SL.cell; have S2 := S1.put (.slice a6 k6 d6); have hOz := hO6.put S1 not_int (.slice a6 k6 d6); have HB := (joinB B0 hB).setCell (p := ⟨w.heap.size, 0, none⟩) (Nat.le_refl _) (.slice a6 k6 d6); clear hB hO5 hO3 hO6 S0 B0))
  all_goals go_wp2
  all_goals refine bodyPost_ret (ret_dec_tmp rfl rfl rfl S2) rfl ?_
  all_goals exact ⟨a6, k6, d6, rfl, hOz, by omega, HB⟩
end Go.Proofs.YtpbiflfdfiebcabGreatDoor
