/- slices.Concat of two lists of entries. -/
import Derived.Test.YtplminnejheceaaPgC
namespace Go.Proofs.Ytplminnejheceaa
namespace Pg
open Go.RowKit Go.Lib
set_option maxHeartbeats 2000000 in
set_option maxRecDepth 100000 in
theorem concatE {w : World} {vb b1 n1 c1 b2 n2 c2 : Nat} {xs ys : List Value} (hV : Blk w vb [.slice (some ⟨b1, 0, none⟩) n1 c1, .slice (some ⟨b2, 0, none⟩) n2 c2] 87)
    (R1 : Rw w 90 2 b1 n1 c1 xs) (R2 : Rw w 90 2 b2 n2 c2 ys) (h0 : 0 < n1 + n2) (hn1 : n1 ≤ 1000000) (hn2 : n2 ≤ 1000000) (h1 : ∀ v ∈ xs, v.oneCell' = true) (h2 : ∀ v ∈ ys, v.oneCell' = true) :
    Calls Try.prog 96 #[.slice (some ⟨vb, 0, none⟩) 2 2] w fun e w' => ∃ b' c', e = .returned (.slice (some ⟨b', 0, none⟩) (n1 + n2) c') ∧ w.heap.size ≤ b' ∧ Rw w' 90 2 b' (n1 + n2) c' (xs ++ ys) ∧ Below w.heap.size w w' := by
  have tG := growE (w := w) (n := n1 + n2) h0 (by omega)
  rw [show ((n1 + n2 : Nat) : Int) = (n1 : Int) + (n2 : Int) by omega] at tG
  have q0 := hV.cell (i := 0) rfl
  have q1 := hV.cell (i := 1) rfl
  go_enter Try.func96, Try.ntmps96
  go_wp2
  go_loopw [3, 11] (fun ts ti wr => wr = w ∧ ((ti = .int .i64 0 ∧ ts = .int .i64 0) ∨ (ti = .int .i64 1 ∧ ts = .int .i64 n1) ∨ (ti = .int .i64 2 ∧ ts = .int .i64 (n1 + n2)))) (fun _ ti _ => 2 - (intOf ti).toNat)
  case atStart => exact ⟨rfl, .inl ⟨rfl, rfl⟩⟩
  case round =>
    obtain ⟨rfl, ⟨rfl, rfl⟩ | ⟨rfl, rfl⟩ | ⟨rfl, rfl⟩⟩ := hrel
    · have hz : ¬ ((n1 : Int) < 0) := by omega
      go_wp2
      go_roundw
      case rel => exact ⟨trivial, .inr (.inl ⟨rfl, rfl⟩)⟩
      case measure => simp [intOf]
    · have hz : ¬ ((n1 : Int) + (n2 : Int) < 0) := by omega
      go_wp2
      go_roundw
      case rel => exact ⟨trivial, .inr (.inr ⟨rfl, rfl⟩)⟩
      case measure => simp [intOf]
    · rename World => W0
      go_wp2_with (go_at_call 101; refine tG.mono ?_; rintro e w1 ⟨b, c, rfl, hb, hR, hB⟩)
      clear tG
      have q0' := (hV.keep hB).cell (i := 0) rfl
      have q1' := (hV.keep hB).cell (i := 1) rfl
      have hBB := hB
      clear hB q0 q1
      go_loopw [6, 27] (fun ts ti wv => Below W0.heap.size W0 wv ∧ ∃ b c, W0.heap.size ≤ b ∧ ((ti = .int .i64 0 ∧ ts = .slice (some ⟨b, 0, none⟩) 0 c ∧ Rw wv 90 2 b 0 c []) ∨ (ti = .int .i64 1 ∧ ts = .slice (some ⟨b, 0, none⟩) n1 c ∧ Rw wv 90 2 b n1 c xs) ∨ (ti = .int .i64 2 ∧ ts = .slice (some ⟨b, 0, none⟩) (n1 + n2) c ∧ Rw wv 90 2 b (n1 + n2) c (xs ++ ys)))) (fun _ ti _ => 2 - (intOf ti).toNat)
      case atStart => exact ⟨hBB, b, c, hb, .inl ⟨rfl, rfl, hR⟩⟩
      case round =>
        clear hR hBB hb q0' q1'
        obtain ⟨hBl, b, c, hb, ⟨rfl, rfl, hR⟩ | ⟨rfl, rfl, hR⟩ | ⟨rfl, rfl, hR⟩⟩ := hrel
        · have q0 := (hV.keep hBl).cell (i := 0) rfl
          have S := R1.keep hBl
          obtain ⟨b', c', W, hr, hb', hR', hC⟩ := app_row KE 87 hR ⟨b1, 0, none⟩ n1 c1 xs R1.len (fun j u hj => by rw [Addr.add_lit, Nat.zero_add]; exact S.cell hj) h1 (by omega) (by omega)
          rw [Nat.zero_add] at hr hR'
          have hB2 : Below W0.heap.size W0 W := hBl.trans (hC.below (fun x hx => by omega) hBl.size)
          have hb2 : W0.heap.size ≤ b' := by
            have := hBl.size
            rcases hb' with e | e <;> omega
          clear hC hb' hR S
          go_wp2_with (at_builtin; refine Lib.wpList_append_run _ rfl _ _ _ _ rfl _ _ rfl rfl _ _ hr ?_)
          go_roundw
          case rel => exact ⟨hB2, b', c', hb2, .inr (.inl ⟨rfl, rfl, hR'⟩)⟩
          case measure => simp [intOf]
        · have q1 := (hV.keep hBl).cell (i := 1) rfl
          have S := R2.keep hBl
          obtain ⟨b', c', W, hr, hb', hR', hC⟩ := app_row KE 87 hR ⟨b2, 0, none⟩ n2 c2 ys R2.len (fun j u hj => by rw [Addr.add_lit, Nat.zero_add]; exact S.cell hj) h2 (by omega) (by omega)
          have hB2 : Below W0.heap.size W0 W := hBl.trans (hC.below (fun x hx => by omega) hBl.size)
          have hb2 : W0.heap.size ≤ b' := by
            have := hBl.size
            rcases hb' with e | e <;> omega
          clear hC hb' hR S
          go_wp2_with (at_builtin; refine Lib.wpList_append_run _ rfl _ _ _ _ rfl _ _ rfl rfl _ _ hr ?_)
          go_roundw
          case rel => exact ⟨hB2, b', c', hb2, .inr (.inr ⟨rfl, rfl, hR'⟩)⟩
          case measure => simp [intOf]
        · go_wp2
          go_ret
          exact ⟨b, c, rfl, hb, hR, hBl⟩
end Pg
end Go.Proofs.Ytplminnejheceaa
