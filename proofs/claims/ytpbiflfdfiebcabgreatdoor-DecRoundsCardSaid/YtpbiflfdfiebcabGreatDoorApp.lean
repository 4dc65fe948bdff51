/- strconv.AppendUint to nothing, base 10: the decimal digits. -/
import Derived.Test.YtpbiflfdfiebcabGreatDoorText
import Derived.Test.YtpbiflfdfiebcabGreatDoorShelf
namespace Go.Proofs.YtpbiflfdfiebcabGreatDoor
open Go.RowKit Lim

theorem u8_small {n : Nat} (h : n < 256) : (UInt8.ofNat n).toNat = n := by simp [Nat.mod_eq_of_lt h]
theorem dec_dig (u : Nat) : DigI ((Lib.decDigits u).map fun c => (c.toNat : Int)) ∧ dvI ((Lib.decDigits u).map fun c => (c.toNat : Int)) = u ∧ 0 < (Lib.decDigits u).length ∧ (0 < u → nth ((Lib.decDigits u).map fun c => (c.toNat : Int)) 0 ≠ 48) := by
  induction u using Nat.strongRecOn with
  | ind u ih =>
    by_cases h : u < 10
    · rw [Lib.decDigits, dif_pos h]
      have e : (UInt8.ofNat (48 + u)).toNat = 48 + u := u8_small (by omega)
      simp only [List.map_cons, List.map_nil, e]
      refine ⟨fun c hc => ?_, ?_, by simp, fun h0 => ?_⟩
      · rw [List.mem_singleton] at hc; omega
      · simp [dvI]; omega
      · rw [nth_zero]; omega
    · rw [Lib.decDigits, dif_neg h]
      obtain ⟨i1, i2, i3, i4⟩ := ih (u / 10) (by omega)
      have e : (UInt8.ofNat (48 + u % 10)).toNat = 48 + u % 10 := u8_small (by omega)
      simp only [List.map_append, List.map_cons, List.map_nil, e]
      refine ⟨i1.snoc (by omega) (by omega), ?_, by simp, fun _ => ?_⟩
      · rw [dvI_snoc, i2]; omega
      · rw [nth_append_left (by simpa using i3)]; exact i4 (by omega)
theorem byteCells_ints (l : List UInt8) : Lib.byteCells l = (l.map fun c => (c.toNat : Int)).map (Value.int .u8) := by
  simp [Lib.byteCells]

theorem app_post {u : Nat} {wx w' : World} {e : Ending} (h0 : 0 < u) (h20 : (Lib.decDigits u).length ≤ 20)
    (h : ∃ v', e = .returned v' ∧ w'.ownsRow wx.heap.size 5 1 v' (0 + (Lib.decDigits u).length) ([] ++ Lib.byteCells (Lib.decDigits u)) ∧ Below wx.heap.size wx w' ∧ Lib.OthersKept 5 none wx w') :
    ∃ v d, e = .returned v ∧ MineB w' wx.heap.size v d ∧ DigI d ∧ dvI d = (u : Int) ∧ 0 < d.length ∧ d.length ≤ 20 ∧ nth d 0 ≠ 48 ∧ Below wx.heap.size wx w' := by
  obtain ⟨v, rfl, h1, h2, _⟩ := h
  obtain ⟨d1, d2, d3, d4⟩ := dec_dig u
  refine ⟨v, _, rfl, ?_, d1, d2, by simpa using d3, by simpa using h20, d4 h0, h2⟩
  unfold MineB
  rw [← byteCells_ints, List.length_map]
  rw [Nat.zero_add, List.nil_append] at h1
  exact h1
theorem dec20 {u : Nat} (h : u < 18446744073709551616) : (Lib.decDigits u).length ≤ 20 := by
  by_cases h0 : u = 0
  · subst h0; rw [Lib.decDigits_one (by decide)]; simp
  · have := Lib.numDigits_eq u (by omega) h
    rw [Lib.decDigits_length]
    split at this <;> omega

set_option maxHeartbeats 1000000 in
set_option maxRecDepth 100000 in
theorem app_small (u : Nat) (h0 : 0 < u) (h1 : u < 100) (wx : World) : AppAt (u : Int) wx := by
  unfold AppAt
  have hown : wx.ownsRow wx.heap.size 5 1 (.slice none 0 0) 0 [] := World.ownsRow_nil _ _ _ _
  have t := Tryz.internal_strconv_AppendUint_10_small wx.heap.size 0 u h1 (.slice none 0 0) [] wx hown (Nat.le_refl _) (by decide)
  go_enter Tryz.func112, Tryz.ntmps112
  go_wp2_with fail
  refine t.mono ?_
  intro e w' h
  have hp := app_post h0 (dec20 (by omega)) h
  obtain ⟨v, d, rfl, r⟩ := hp
  go_wp2
  go_ret
  exact ⟨v, d, rfl, r⟩

set_option maxHeartbeats 1000000 in
set_option maxRecDepth 100000 in
theorem app_big (u : Nat) (h0 : 100 ≤ u) (h1 : u < 18446744073709551616) (wx : World) (htab : Lib.TabIs Tryz.prog wx "internal/strconv.uint64pow10" .u64 Lib.pow10Tab) : AppAt (u : Int) wx := by
  unfold AppAt
  have hown : wx.ownsRow wx.heap.size 5 1 (.slice none 0 0) 0 [] := World.ownsRow_nil _ _ _ _
  have t := Tryz.internal_strconv_AppendUint_10_big wx.heap.size 0 u h0 h1 (.slice none 0 0) [] wx hown (Nat.le_refl _) (by decide) htab
  clear htab
  go_enter Tryz.func112, Tryz.ntmps112
  go_wp2_with fail
  refine t.mono ?_
  intro e w' h
  have hp := app_post (by omega) (dec20 (by omega)) h
  obtain ⟨v, d, rfl, r⟩ := hp
  go_wp2
  go_ret
  exact ⟨v, d, rfl, r⟩
theorem app_any {w : World} (htab : Lib.TabIs Tryz.prog w "internal/strconv.uint64pow10" .u64 Lib.pow10Tab) (u : Int) (h0 : 0 < u) (h1 : u < 18446744073709551616) (wx : World) (hb : Below w.heap.size w wx) : AppAt u wx := by
  obtain ⟨n, rfl⟩ : ∃ n : Nat, u = (n : Int) := ⟨u.toNat, by omega⟩
  by_cases h : n < 100
  · exact app_small n (by omega) h wx
  · exact app_big n (by omega) (by omega) wx (Lib.tabBelow_of_tabIs htab wx hb)
end Go.Proofs.YtpbiflfdfiebcabGreatDoor
