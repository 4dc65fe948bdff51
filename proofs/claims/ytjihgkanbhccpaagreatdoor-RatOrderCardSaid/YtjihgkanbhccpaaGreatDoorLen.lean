/- math/bits.Len64 and LeadingZeros64 at this dump. -/
import Derived.Test.YtjihgkanbhccpaaGreatDoorBits
import Derived.Test.YtjihgkanbhccpaaGreatDoorCmp
namespace Go.Proofs.YtjihgkanbhccpaaGreatDoor
open Go.RowKit Lim

theorem w64 (z : Int) (h0 : 0 ≤ z) (h1 : z ≤ 1000) : wrap64 z = z := by
  unfold wrap64; omega
theorem len_arm (k : Int) (i : Nat) (h0 : 0 ≤ k) (hk : k ≤ 56) (h : i < 256) : wrap64 (k + wrap64 (bitLen i : Int)) = k + bitLen i := by
  have := bitLen_le8 i h
  rw [w64 (bitLen i) (by omega) (by omega), w64 _ (by omega) (by omega)]
theorem len_up (x : Int) (b i : Nat) (h : x.toNat / 2 ^ b = i) (hi : i ≠ 0) : ((bitLen x.toNat : Nat) : Int) = b + bitLen i := by
  rw [bitLen_shift x.toNat b (by rw [h]; exact hi), h]; omega

set_option maxHeartbeats 2000000 in
set_option maxRecDepth 100000 in
theorem len64 (x : Int) (w : World) (h0 : 0 ≤ x) (h1 : x < 18446744073709551616) :
    Calls Tryz.prog 162 #[.int .u64 x] w fun e w' => e = .returned (.int .i64 (bitLen x.toNat)) ∧ w' = w := by
  by_cases c0 : 4294967296 ≤ x
  · by_cases c1 : 65536 ≤ x / 4294967296
    · by_cases c2 : 256 ≤ x / 4294967296 / 65536
      · go_enter Tryz.func162, Tryz.ntmps162
        go_wp2
        go_ret
        refine ⟨ret1 ?_, rfl⟩
        rw [len8tab_get, len_arm 56 (x / 4294967296 / 65536 / 256).toNat (by decide) (by decide) (by omega), len_up x 56 (x / 4294967296 / 65536 / 256).toNat (by rw [show (2 : Nat) ^ 56 = 72057594037927936 from rfl]; omega) (by omega)]
        rfl
      · go_enter Tryz.func162, Tryz.ntmps162
        go_wp2
        go_ret
        refine ⟨ret1 ?_, rfl⟩
        rw [len8tab_get, len_arm 48 (x / 4294967296 / 65536).toNat (by decide) (by decide) (by omega), len_up x 48 (x / 4294967296 / 65536).toNat (by rw [show (2 : Nat) ^ 48 = 281474976710656 from rfl]; omega) (by omega)]
        rfl
    · by_cases c2 : 256 ≤ x / 4294967296
      · go_enter Tryz.func162, Tryz.ntmps162
        go_wp2
        go_ret
        refine ⟨ret1 ?_, rfl⟩
        rw [len8tab_get, len_arm 40 (x / 4294967296 / 256).toNat (by decide) (by decide) (by omega), len_up x 40 (x / 4294967296 / 256).toNat (by rw [show (2 : Nat) ^ 40 = 1099511627776 from rfl]; omega) (by omega)]
        rfl
      · go_enter Tryz.func162, Tryz.ntmps162
        go_wp2
        go_ret
        refine ⟨ret1 ?_, rfl⟩
        rw [len8tab_get, len_arm 32 (x / 4294967296).toNat (by decide) (by decide) (by omega), len_up x 32 (x / 4294967296).toNat (by rw [show (2 : Nat) ^ 32 = 4294967296 from rfl]; omega) (by omega)]
        rfl
  · by_cases c1 : 65536 ≤ x
    · by_cases c2 : 256 ≤ x / 65536
      · go_enter Tryz.func162, Tryz.ntmps162
        go_wp2
        go_ret
        refine ⟨ret1 ?_, rfl⟩
        rw [len8tab_get, len_arm 24 (x / 65536 / 256).toNat (by decide) (by decide) (by omega), len_up x 24 (x / 65536 / 256).toNat (by rw [show (2 : Nat) ^ 24 = 16777216 from rfl]; omega) (by omega)]
        rfl
      · go_enter Tryz.func162, Tryz.ntmps162
        go_wp2
        go_ret
        refine ⟨ret1 ?_, rfl⟩
        rw [len8tab_get, len_arm 16 (x / 65536).toNat (by decide) (by decide) (by omega), len_up x 16 (x / 65536).toNat (by rw [show (2 : Nat) ^ 16 = 65536 from rfl]; omega) (by omega)]
        rfl
    · by_cases c2 : 256 ≤ x
      · go_enter Tryz.func162, Tryz.ntmps162
        go_wp2
        go_ret
        refine ⟨ret1 ?_, rfl⟩
        rw [len8tab_get, len_arm 8 (x / 256).toNat (by decide) (by decide) (by omega), len_up x 8 (x / 256).toNat (by rw [show (2 : Nat) ^ 8 = 256 from rfl]; omega) (by omega)]
        rfl
      · go_enter Tryz.func162, Tryz.ntmps162
        go_wp2
        go_ret
        refine ⟨ret1 ?_, rfl⟩
        rw [len8tab_get]
        have := bitLen_le8 x.toNat (by omega)
        rw [w64 (bitLen x.toNat : Int) (by omega) (by omega), w64 _ (by omega) (by omega)]

/-- how far a limb's highest bit is from the top -/
theorem bitLen_pos {n : Nat} (h : n ≠ 0) : 1 ≤ bitLen n := by unfold bitLen; rw [if_neg h]; omega
theorem bitLen_le64 {n : Nat} (h : n < 18446744073709551616) : bitLen n ≤ 64 := by
  unfold bitLen
  split
  · omega
  · have := (Nat.log2_lt (k := 64) ‹_›).2 (by omega); omega
theorem clz64 (x : Int) (w : World) (h0 : 0 ≤ x) (h1 : x < 18446744073709551616) :
    Calls Tryz.prog 124 #[.int .u64 x] w fun e w' => e = .returned (.int .i64 (64 - bitLen x.toNat)) ∧ w' = w := by
  have hl := bitLen_le64 (n := x.toNat) (by omega)
  have t1 := len64 x w h0 h1
  generalize bitLen x.toNat = L at *
  go_enter Tryz.func124, Tryz.ntmps124
  go_wp2_with fail
  refine t1.mono ?_
  rintro e w1 ⟨rfl, rfl⟩
  go_wp2
  go_ret
  exact ⟨rfl, rfl⟩
end Go.Proofs.YtjihgkanbhccpaaGreatDoor
