/- gleanlaw7.KeysMake: every key, every beginning, against the document's. -/
import Derived.Test.YtfljmcfipnmkgaaKyMd
namespace Go.Proofs.Ytfljmcfipnmkgaa
namespace Ky
open Go.RowKit Go.Lib Pg
attribute [local go_sem] Oper.semAt_some eq50
set_option maxHeartbeats 8000000 in
set_option maxRecDepth 100000 in
theorem keysMake_walk {w : World} {kind a b : Int} (_ : -9223372036854775808 ≤ kind ∧ kind ≤ 9223372036854775807) (ha : U64 a) (_ : U64 b) : Calls Try.prog 3 #[.int .i64 kind, .int .u64 a, .int .u64 b] w fun e w' => e = .returned (.bool true) ∧ Below w.heap.size w w' := by
  have t1 := kknown_any (w := w)
  have z0 : U64 0 := by decide
  have m1 := fun w (k : Int) (b : Int) => made_any (w := w) (kind := k) (b := b) ha
  have m2 := fun w (k : Int) => made_any (w := w) (kind := k) (b := 0) z0
  have v1 := fun w => (val_any (w := w) (x := a))
  have v2 := fun w => (rval_any (w := w) (x := a))
  have L1 : Hid (([118] ++ be 8 a).length ≤ 1000) := by show _ ≤ _; simp [be_length]
  generalize [118] ++ be 8 a = L at *
  clear ha z0
  go_enter Try.func3, Try.ntmps3
  go_wp2_with (go_at_call 7; refine t1.mono ?_; rintro e w1 ⟨rfl, B1⟩)
  replace B1 := hid2 B1
  go_loopw [7] (fun ti wr => ∃ k : Nat, k ≤ 19 ∧ ti = .int .i64 k ∧ Hid (Below w.heap.size w wr)) (fun ti _ => 19 - (intOf ti).toNat)
  case atStart => exact ⟨0, by decide, rfl, B1⟩
  case round =>
    obtain ⟨k, hk, rfl, HB⟩ := hrel
    have B2 := HB.out
    clear HB B1 t1
    by_cases hlt : k < 19
    · have hk0 : (k : Int) ≤ 18 := by omega
      have G1 : True := trivial
      have G2 : True := trivial
      go_wp2_with first
        | (go_at_call 8; have gate := G1; clear gate; go_must (refine (m1 _ _ _).mono ?_); clear G1; rintro e y1 ⟨rfl, D⟩; replace B2 := joinB B2 D; clear D)
        | (go_at_call 8; have gate := G2; clear gate; go_must (refine (m1 _ _ _).mono ?_); clear G2; rintro e y2 ⟨rfl, D⟩; replace B2 := joinB B2 D; clear D)
        | (go_at_call 8; go_must (refine (m2 _ _).mono ?_); rintro e y3 ⟨rfl, D⟩; replace B2 := joinB B2 D; clear D)
      go_roundw
      case rel => exact ⟨k + 1, by omega, by go_num, B2⟩
      case measure => simp [intOf]; omega
    · have hk0 : ¬ ((k : Int) ≤ 18) := by omega
      go_wp2_with first
        | (go_at_call 8; go_must (refine (m1 _ _ _).mono ?_); rintro e y1 ⟨rfl, D⟩; replace B2 := joinB B2 D; clear D)
        | (go_at_call 10; go_must (refine (v1 _).mono ?_); rintro e y2 ⟨x2, rfl, O2, D⟩; obtain ⟨a2, c2, rfl⟩ := OB.sh O2; replace B2 := joinB B2 D; clear D)
        | (go_at_call 11; go_must (refine (v2 _).mono ?_); rintro e y3 ⟨x3, rfl, O3, D⟩; obtain ⟨a3, c3, rfl⟩ := OB.sh O3; replace O2 := O2.keep D; replace B2 := joinB B2 D; clear D)
        | (go_at_call 9; go_must (refine (bytes_is O2.by O3.by L1.out L1.out (decide_eq_true rfl)).mono ?_); rintro e y4 ⟨rfl, D⟩; replace B2 := joinB B2 D; clear D)
      go_ret
      exact ⟨rfl, B2⟩
end Ky
end Go.Proofs.Ytfljmcfipnmkgaa
