/- gleanhelp.Nat and gleanhelp.Normal: two lists of limbs held against one another. -/
import Derived.Test.YtjihgkanbhccpaaGreatDoorOwn
import Derived.Deep.QuietTactic
import Derived.BigQuiet
import Derived.WalkSmall
namespace Go.Proofs.YtjihgkanbhccpaaGreatDoor
open Go.RowKit Lim

def eqB (l l' : List Int) : Bool := decide (l = l')
theorem eqB_true {l l' : List Int} (h : l = l') : eqB l l' = true := by simp [eqB, h]
theorem eqB_false {l l' : List Int} (h : l ≠ l') : eqB l l' = false := by simp [eqB, h]
theorem retB {a b : Bool} (h : a = b) : Ending.returned (.bool a) = .returned (.bool b) := by rw [h]

set_option maxHeartbeats 1000000 in
set_option maxRecDepth 100000 in
theorem helpNat (ao : Option Addr) (n c b o : Nat) (ao' : Option Addr) (n' c' b' o' : Nat) (l l' : List Int) (w : World) (hl : l.length = n) (hl' : l'.length = n') (hbig : n ≤ 4398046511104) (hbig' : n' ≤ 4398046511104)
    (ha : At w ao b o l) (ha' : At w ao' b' o' l') :
    Calls Tryz.prog 42 #[.slice ao n c, .slice ao' n' c'] w fun e w' => e = .returned (.bool (eqB l l')) ∧ Below w.heap.size w w' := by
  by_cases hne : n = n'
  · subst hne
    go_enter Tryz.func42, Tryz.ntmps42
    go_wp2_with fail
    go_loopw [5] (fun ti wr => ∃ k : Nat, k ≤ n ∧ ti = .int .i64 k ∧ Hid (∀ i, i < k → nth l i = nth l' i) ∧ Below w.heap.size w wr) (fun ti _ => n - (intOf ti).toNat)
    case atStart => exact ⟨0, Nat.zero_le _, rfl, fun i hi => by omega, Below.refl _ _⟩
    case round =>
      obtain ⟨k, hk, rfl, hz, hbe⟩ := hrel
      by_cases hlt : k < n
      · have hat := ha.keep hbe
        have hat' := ha'.keep hbe
        rcases ha.loc with e | rfl
        · subst e; simp at hl; omega
        rcases ha'.loc with e | rfl
        · subst e; simp at hl'; omega
        have q1 := hat.cell k (by omega)
        have q2 := hat'.cell k (by omega)
        have hk0 : (k : Int) < n := by omega
        by_cases hd : nth l k = nth l' k
        · have HY : Hid (nth l k = nth l' k) := hd
          rw [hd] at q1
          generalize nth l' k = x at q1 q2
          clear hd ha ha' hat hat'
          go_wp2_with fail
          go_quiet (fail)
          go_wp2
          go_roundw
          case rel => exact ⟨k + 1, by omega, by go_num, fun i hi => by
            by_cases e : i = k
            · subst e; exact HY.out
            · exact hz.out i (by omega), below_drewN hbe _⟩
          case measure => simp [intOf]; omega
        · have HF : eqB l l' = false := eqB_false fun e => hd (by rw [e])
          have hd' : (nth l k != nth l' k) = true := by rw [bne_iff_ne]; exact hd
          generalize nth l k = x at *
          generalize nth l' k = y at *
          clear ha ha' hat hat'
          go_wp2_with fail
          go_quiet (fail)
          go_wp2
          go_ret
          exact ⟨retB HF.symm, below_drewN hbe _⟩
      · go_wp2
        go_ret
        exact ⟨retB (eqB_true (nth_ext (by omega) fun i hi => hz.out i (by omega))).symm, hbe⟩
  · have hb1 : ((n : Int) != (n' : Int)) = true := by rw [bne_iff_ne]; omega
    have HF : eqB l l' = false := eqB_false fun e => hne (by rw [← hl, ← hl', e])
    go_enter Tryz.func42, Tryz.ntmps42
    go_wp2
    go_ret
    exact ⟨retB HF.symm, Below.refl _ _⟩
end Go.Proofs.YtjihgkanbhccpaaGreatDoor
