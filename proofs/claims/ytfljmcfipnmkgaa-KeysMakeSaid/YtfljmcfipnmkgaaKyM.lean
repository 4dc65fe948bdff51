/- keys.kindOf. -/
import Derived.Test.YtfljmcfipnmkgaaKyL
namespace Go.Proofs.Ytfljmcfipnmkgaa
namespace Ky
open Go.RowKit Go.Lib Pg
attribute [local go_sem] Oper.semAt_some eq50
theorem forms_idx : ∀ k : Nat, k < 18 → ∀ w, (Instr.index 68 (.agg #[.int .i64 0, .int .u8 0, .int .u8 0, .int .i64 1, .int .u8 112, .int .u8 0, .int .i64 1, .int .u8 99, .int .u8 0, .int .i64 1, .int .u8 109, .int .u8 0, .int .i64 9, .int .u8 97, .int .u8 0, .int .i64 10, .int .u8 118, .int .u8 48, .int .i64 18, .int .u8 118, .int .u8 100, .int .i64 18, .int .u8 118, .int .u8 104, .int .i64 18, .int .u8 118, .int .u8 115, .int .i64 9, .int .u8 116, .int .u8 0, .int .i64 17, .int .u8 105, .int .u8 0, .int .i64 9, .int .u8 98, .int .u8 0, .int .i64 9, .int .u8 117, .int .u8 0, .int .i64 9, .int .u8 114, .int .u8 0, .int .i64 17, .int .u8 113, .int .u8 0, .int .i64 17, .int .u8 101, .int .u8 0, .int .i64 17, .int .u8 110, .int .u8 0, .int .i64 17, .int .u8 107, .int .u8 0]) (.int .i64 k)).run Try.prog w = .ok (.agg #[.int .i64 (frm k).1, .int .u8 (frm k).2.1, .int .u8 (frm k).2.2]) w := by
  intro k hk w
  rcases (by omega : k = 0 ∨ k = 1 ∨ k = 2 ∨ k = 3 ∨ k = 4 ∨ k = 5 ∨ k = 6 ∨ k = 7 ∨ k = 8 ∨ k = 9 ∨ k = 10 ∨ k = 11 ∨ k = 12 ∨ k = 13 ∨ k = 14 ∨ k = 15 ∨ k = 16 ∨ k = 17) with rfl | rfl | rfl | rfl | rfl | rfl | rfl | rfl | rfl | rfl | rfl | rfl | rfl | rfl | rfl | rfl | rfl | rfl
  all_goals kernel_rfl
theorem forms_idx' {w : World} : Calls Try.prog 41 #[] w fun e w' => ∃ FA : Array Value, e = .returned (.agg FA) ∧ Hid (∀ k : Nat, k < 18 → ∀ w, (Instr.index 68 (.agg FA) (.int .i64 k)).run Try.prog w = .ok (.agg #[.int .i64 (frm k).1, .int .u8 (frm k).2.1, .int .u8 (frm k).2.2]) w) ∧ Below w.heap.size w w' :=
  forms_any.mono fun _ _ h => ⟨_, h.1, forms_idx, h.2⟩
set_option maxHeartbeats 4000000 in
set_option maxRecDepth 100000 in
theorem kindOf_any {w : World} {f0 f1 f2 : Int} : Calls Try.prog 31 #[.agg #[.int .i64 f0, .int .u8 f1, .int .u8 f2]] w fun e w' => (∃ r : Nat, e = .returned (.int .i64 r) ∧ ((r < 18 ∧ frm r = (f0, f1, f2)) ∨ (r = 0 ∧ ∀ j : Nat, j < 18 → frm j ≠ (f0, f1, f2)))) ∧ Below w.heap.size w w' := by
  go_enter Try.func31, Try.ntmps31
  go_wp2_with (go_at_call 41; refine forms_idx'.mono ?_; rintro e w1 ⟨FA, rfl, HI, b1⟩)
  have kq := (blk_new w [.int .i64 f0, .int .u8 f1, .int .u8 f2] 52).keep b1
  have B1 := joinB (below_alloc w (.cells #[.int .i64 f0, .int .u8 f1, .int .u8 f2] 52)) b1
  have HK := hid2 kq
  have HB1 := hid2 B1
  obtain ⟨q, hq⟩ : ∃ q, Hid (w.heap.size = q) := ⟨_, rfl⟩
  rw [hq.out] at HK ⊢
  clear kq B1 b1
  go_loopw [6] (fun ti wr => ∃ k : Nat, k ≤ 18 ∧ ti = .int .i64 k ∧ Hid (∀ j : Nat, j < k → frm j ≠ (f0, f1, f2)) ∧ Hid (Below w1.heap.size w1 wr)) (fun ti _ => 18 - (intOf ti).toNat)
  case atStart => exact ⟨0, Nat.zero_le _, rfl, fun j h => by omega, Below.refl _ _⟩
  case round =>
    obtain ⟨k, hk, rfl, HJ, HB⟩ := hrel
    by_cases hlt : k < 18
    · have hi := HI.out k hlt
      have hk0 : (k : Int) < 18 := by omega
      have kq := HK.out.keep HB.out
      have q0 := kq.cell (i := 0) rfl
      have q1 := kq.cell (i := 1) rfl
      have q2 := kq.cell (i := 2) rfl
      have hql := kq.lt
      obtain ⟨⟨p0, p1, p2⟩, hp⟩ : ∃ p, Hid (frm k = p) := ⟨_, rfl⟩
      rw [hp.out] at hi
      simp only at hi
      clear kq
      by_cases e0 : p0 = f0
      · by_cases e1 : p1 = f1
        · by_cases e2 : p2 = f2
          · subst e0 e1 e2
            go_wp2
            go_ret
            refine ⟨⟨k, rfl, .inl ⟨hlt, hp.out⟩⟩, ?_⟩
            exact HB1.out.trans ((joinB HB.out (below_alloc _ _)).mono HB1.out.size)
          · subst e0 e1
            have HN : Hid (frm k ≠ (p0, p1, f2)) := by show _ ≠ _; rw [hp.out]; intro e; cases e; exact e2 rfl
            go_wp2
            go_roundw
            case rel =>
              refine ⟨k + 1, by omega, by go_num, fun j hj => ?_, joinB HB.out (below_alloc _ _)⟩
              by_cases ej : j = k
              · subst ej; exact HN.out
              · exact HJ.out j (by omega)
            case measure => simp [intOf]; omega
        · subst e0
          have HN : Hid (frm k ≠ (p0, f1, f2)) := by show _ ≠ _; rw [hp.out]; intro e; cases e; exact e1 rfl
          go_wp2
          go_roundw
          case rel =>
            refine ⟨k + 1, by omega, by go_num, fun j hj => ?_, joinB HB.out (below_alloc _ _)⟩
            by_cases ej : j = k
            · subst ej; exact HN.out
            · exact HJ.out j (by omega)
          case measure => simp [intOf]; omega
      · have HN : Hid (frm k ≠ (f0, f1, f2)) := by show _ ≠ _; rw [hp.out]; intro e; cases e; exact e0 rfl
        go_wp2
        go_roundw
        case rel =>
          refine ⟨k + 1, by omega, by go_num, fun j hj => ?_, joinB HB.out (below_alloc _ _)⟩
          by_cases ej : j = k
          · subst ej; exact HN.out
          · exact HJ.out j (by omega)
        case measure => simp [intOf]; omega
    · obtain rfl : k = 18 := by omega
      go_wp2
      go_ret
      refine ⟨⟨0, rfl, .inr ⟨rfl, fun j hj => HJ.out j hj⟩⟩, ?_⟩
      exact HB1.out.trans (HB.out.mono HB1.out.size)
end Ky
end Go.Proofs.Ytfljmcfipnmkgaa
