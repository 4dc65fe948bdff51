/- gleanhelp.Spoil writes over a list, and over nothing else. -/
import Derived.Test.YtplmeahabddklaaDoorNm
namespace Go.Proofs.YtplmeahabddklaaDoor
open Go.RowKit Lim

theorem xor_word (x y : Int) : 0 ≤ bits .xor .u64 x y ∧ bits .xor .u64 x y < 18446744073709551616 := by
  unfold bits
  rw [IntKind.wrap_u64]
  omega
set_option maxHeartbeats 1000000 in
set_option maxRecDepth 100000 in
theorem spoil_any (ao : Option Addr) (n c b o : Nat) (l : List Int) (w : World) (hl : l.length = n) (hbig : n ≤ 4398046511104) (wl : Words l) (ha : At w ao b o l) (hf : Free w b o n) :
    Calls Tryd.prog 27 #[.slice ao n c] w fun e w' => e = .returned (.tuple #[]) ∧ Wr b o n w w' ∧ ∃ l', l'.length = n ∧ Words l' ∧ At w' ao b o l' := by
  go_enter Tryd.func27, Tryd.ntmps27
  go_wp2_with fail
  go_loopw [2] (fun ti wr => ∃ (k : Nat) (l' : List Int), k ≤ n ∧ ti = .int .i64 k ∧ l'.length = n ∧ Words l' ∧ (∀ i, k ≤ i → nth l' i = nth l i) ∧ At wr ao b o l' ∧ Wr b o n w wr) (fun ti _ => n - (intOf ti).toNat)
  case atStart => exact ⟨0, l, Nat.zero_le _, rfl, hl, wl, fun _ _ => rfl, ha, Wr.refl _ _ _ _⟩
  case round =>
    obtain ⟨k, l', hk, rfl, hl', wl', hsame, hat, hwr⟩ := hrel
    by_cases hlt : k < n
    · rcases hat.loc with e | rfl
      · subst e; simp at hl'; omega
      have hcx := hat.cell k (by omega)
      rw [hsame k (Nat.le_refl _)] at hcx
      have hfr := hwr.free hf k (by omega)
      have hx := wl.nth k
      have hk0 : (k : Int) < n := by omega
      have HA : Hid (At wr (some ⟨b, o, none⟩) b o l') := hat
      have HW : Hid (Wr b o n w wr) := hwr
      have HS : Hid (∀ i, k ≤ i → nth l' i = nth l i) := hsame
      clear hat hwr hsame ha hf wl
      generalize nth l k = x at *
      go_wp2
      refine ⟨⟨k + 1, l'.set k (bits BinOp.xor IntKind.u64 x 6510615555426900570), by omega, by go_num, by simpa using hl', wl'.set _ (xor_word _ _).1 (xor_word _ _).2, fun i hi => ?_, HA.out.setCell (by omega) _, HW.out.setCell (by omega) (by omega) _⟩, by simp [intOf]; omega⟩
      rw [nth_set (by omega), if_neg (by omega)]
      exact HS.out i (by omega)
    · have HW : Hid (Wr b o n w wr) := hwr
      have HA : Hid (At wr ao b o l') := hat
      clear hwr hat
      go_wp2
      go_end0
      exact ⟨rfl, HW.out, l', hl', wl', HA.out⟩
end Go.Proofs.YtplmeahabddklaaDoor
