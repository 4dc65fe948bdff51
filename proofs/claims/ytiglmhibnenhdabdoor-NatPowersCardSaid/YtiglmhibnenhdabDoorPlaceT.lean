/- gleanhelp.Place: a number from 0 to n - 1; a power of ten's digits; a power of two in its limb. -/
import Derived.Test.YtiglmhibnenhdabDoorBLess
import Derived.Test.YtiglmhibnenhdabDoorKnown
namespace Go.Proofs.YtiglmhibnenhdabDoor
open Go.RowKit Lim

set_option maxHeartbeats 1000000 in
set_option maxRecDepth 100000 in
theorem place_any (k : Int) (w : World) :
    Calls Tryd.prog 20 #[.int .i64 k, .int .i64 600] w fun e w' => ∃ m : Nat, m < 600 ∧ e = .returned (.int .i64 m) ∧ w' = w := by
  go_enter Tryd.func20, Tryd.ntmps20
  by_cases hn : Int.tmod k 600 < 0
  · have hb : -600 < Int.tmod k 600 := by
      have := Int.lt_tmod_of_pos k (show (0 : Int) < 600 by decide)
      omega
    go_wp2
    go_ret
    exact ⟨(k.tmod 600 + 600).toNat, by omega, ret1 (by omega), rfl⟩
  · have hb := Int.tmod_lt_of_pos k (show (0 : Int) < 600 by decide)
    go_wp2
    go_ret
    exact ⟨(k.tmod 600).toNat, by omega, ret1 (by omega), rfl⟩
theorem text_pow {S : ByteArray} {m : Nat} (h : TextOf S (10 ^ m)) : S.size = m + 1 := by
  obtain ⟨d, hd, hD, hv, h0, h1⟩ := h.bytes
  have hs : S.size = d.length := by rw [← hd, List.length_map]; rfl
  rw [hs]
  have hb := dvI_bound hD
  rw [hv] at hb
  have l1 : m < d.length := by
    rcases Nat.lt_or_ge m d.length with e | e
    · exact e
    · have := pow10_le e; omega
  by_cases e : d.length = 1
  · omega
  · have h48 : nth d 0 ≠ 48 := by rcases h1 with c | c; exact absurd c e; exact c
    have hg := dvI_ge hD h0 h48
    rw [hv] at hg
    have l2 : d.length - 1 ≤ m := by
      rcases Nat.lt_or_ge m (d.length - 1) with e | e
      · have h2 := pow10_le (show m + 1 ≤ d.length - 1 by omega)
        rw [Int.pow_succ] at h2
        have : (0 : Int) < 10 ^ m := Int.pow_pos (by decide)
        omega
      · exact e
    omega
theorem bit_low {B : Nat} (h : 0 < B) : val ((List.replicate (B / 64 + 1) 0).set ((B - 1) / 64) (2 ^ ((B - 1) % 64))) = 2 ^ (B - 1) := by
  rw [val_set (by simp; omega), val_zeros (fun i => by
    by_cases hi : i < B / 64 + 1
    · rw [nth_eq (by simpa using hi)]; simp
    · rw [nth_ge (by simp; omega)])]
  rw [nth_eq (by simp; omega)]
  simp only [List.getElem_replicate, Int.sub_zero, Int.zero_add]
  rw [bpow]
  have : (2 : Int) ^ (B - 1) = 2 ^ (64 * ((B - 1) / 64)) * 2 ^ ((B - 1) % 64) := by
    rw [← Int.pow_add]; congr 1; omega
  rw [this]
  simp
theorem bitLen_range {V : Int} (h : 0 < V) : (2 : Int) ^ (bitLen V.toNat - 1) ≤ V ∧ V < 2 ^ (bitLen V.toNat) := by
  have hn : V.toNat ≠ 0 := by omega
  unfold bitLen
  rw [if_neg hn]
  have a1 := Nat.log2_self_le hn
  have a2 := Nat.lt_log2_self (n := V.toNat)
  rw [Nat.add_sub_cancel]
  have e : V = ((V.toNat : Nat) : Int) := by omega
  constructor
  · rw [e]; simp only [Int.toNat_natCast]
    have := Int.ofNat_le.2 a1
    simpa using this
  · rw [e]; simp only [Int.toNat_natCast]
    have := Int.ofNat_lt.2 a2
    simpa using this
end Go.Proofs.YtiglmhibnenhdabDoor
