/- nat.trim cuts the noughts at a list's end off, and changes nothing. -/
import Derived.Test.YtjihgkanbhccpaaGreatDoorChecked
import Derived.Test.YtjihgkanbhccpaaGreatDoorNum
import Derived.WalkKit
import Derived.WalkSpells
import Derived.WalkLawsBesides
namespace Go.Proofs.YtjihgkanbhccpaaGreatDoor
open Go.RowKit Lim

/-- the limbs of l lie at ao -/
def Cells (w : World) (ao : Option Addr) (l : List Int) : Prop :=
  l = [] ∨ ∃ b o, ao = some ⟨b, o, none⟩ ∧ ∀ i, i < l.length → w.cell? ⟨b, o + i, none⟩ = some (.int .u64 (nth l i))

set_option maxHeartbeats 400000 in
theorem trim_any (ao : Option Addr) (n c : Nat) (l : List Int) (w : World) (hl : l.length = n) (hc : n ≤ c) (hb : n ≤ 4398046511104) (hcell : Cells w ao l) :
    Calls Tryz.prog 84 #[.slice ao n c] w fun e w' => e = .returned (.slice ao (nlen l) (nlen l)) ∧ w' = w := by
  go_enter Tryz.func84, Tryz.ntmps84
  go_wp2
  go_loop [3] (fun t => ∃ k : Nat, k ≤ n ∧ t = .int .i64 k ∧ Hid (∀ i, k ≤ i → nth l i = 0)) (fun t => (intOf t).toNat)
  case atStart => exact ⟨n, Nat.le_refl _, rfl, fun i hi => nth_ge (by omega)⟩
  case round =>
    obtain ⟨k, hk, rfl, hz⟩ := hrel
    by_cases hk0 : 0 < k
    · rcases hcell with e | ⟨b, o, rfl, hcell⟩
      · subst e; simp at hl; omega
      · have hcx := hcell (k - 1) (by omega)
        have hcy : w.cell? ⟨b, o + k - 1, none⟩ = some (.int .u64 (nth l (k - 1))) := by rw [← hcx]; congr 2; omega
        clear hcell
        go_wp2
        · go_round
          case rel => exact ⟨k - 1, by omega, by go_num, fun i hi => by
            by_cases e : i = k - 1
            · subst e; exact beq_iff_eq.1 (by assumption)
            · exact hz.out i (by omega)⟩
          case measure => simp [intOf]; omega
        · go_ret
          rw [nlen_of (k := k) (by omega) hz.out (fun _ => beq_eq_false_iff_ne.1 (by assumption))]
          exact ⟨rfl, rfl⟩
    · go_wp2
      go_ret
      rw [nlen_of (k := k) (by omega) hz.out (fun _ => by omega)]
      exact ⟨rfl, rfl⟩
end Go.Proofs.YtjihgkanbhccpaaGreatDoor
