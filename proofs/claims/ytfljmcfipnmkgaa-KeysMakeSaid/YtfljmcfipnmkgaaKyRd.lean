/- gleanref7.Read of no bytes; by its two endings. -/
import Derived.Test.YtfljmcfipnmkgaaKyRc
namespace Go.Proofs.Ytfljmcfipnmkgaa
namespace Ky
open Go.RowKit Go.Lib Pg
attribute [local go_sem] Oper.semAt_some eq50
theorem frm_big : ∀ k : Nat, k < 18 → 0 < k → ∃ N m : Nat, (frm k).1 / 8 = N ∧ N ≤ 2 ∧ (frm k).2.2 = m := by
  intro k h1 h2
  have hF := frm_form k h1 h2
  obtain ⟨n, N, m0, m1, hf, hN, hN2, -, -, -, -, hm, -, -⟩ := frm_doc k
  refine ⟨N, m1.toNat, by rw [hf]; exact hN, hN2, by rw [hf]; simp only; omega⟩
theorem fIn_nil : ∀ j : Nat, j < 18 → 0 < j → frm j ≠ fIn [] := by
  intro j h1 h2 e
  have := frm_pos j h1 h2
  rw [e] at this
  simp [fIn] at this
set_option maxHeartbeats 8000000 in
set_option maxRecDepth 100000 in
theorem rread_nil {w : World} {ao : Option Addr} {c : Nat} :
    Calls Try.prog 14 #[.slice ao 0 c] w fun e w' => e = .returned (.tuple #[.agg #[.int .i64 0, .int .u64 0, .int .u64 0], .int .i64 70]) ∧ Below w.heap.size w w' := by
  go_enter Try.func14, Try.ntmps14
  go_wp2_with fail
  have z1 := hid2 (blk_new w [.int .i64 0, .int .u64 0, .int .u64 0] 30)
  have z2 := hid2 (below_alloc w (.cells #[.int .i64 0, .int .u64 0, .int .u64 0] 30))
  go_loopw [4] (fun ti wr => ∃ k : Nat, 1 ≤ k ∧ k ≤ 18 ∧ ti = .int .i64 k ∧ Hid (Blk wr w.heap.size [.int .i64 0, .int .u64 0, .int .u64 0] 30) ∧ Hid (Below w.heap.size w wr)) (fun ti _ => 18 - (intOf ti).toNat)
  case atStart => exact ⟨1, by decide, by decide, rfl, z1, z2⟩
  case round =>
    obtain ⟨k, hk1, hk2, rfl, HQ, HW⟩ := hrel
    clear z1 z2
    by_cases hlt : k < 18
    · have hk0 : (k : Int) ≤ 17 := by omega
      have u1 := fun w => rform_any (w := w) (k := k)
      have hF := frm_form k hlt hk1
      obtain ⟨⟨fn, m0, m1⟩, hf⟩ : ∃ f, frm k = f := ⟨_, rfl⟩
      rw [hf] at hF u1
      simp only at hF u1
      clear hf
      rcases hF with ⟨rfl, rfl⟩ | ⟨rfl, rfl⟩ | ⟨rfl, hm1⟩ | ⟨rfl, rfl⟩ | ⟨rfl, hm1⟩ <;>
        (go_wp2_with first
           | (go_at_call 36; refine (u1 _).mono ?_; rintro e y0 ⟨rfl, hy0⟩; replace hy0 := hy0.symm; subst hy0)
         go_roundw
         case rel => exact ⟨k + 1, by omega, by omega, by go_num, HQ, HW⟩
         case measure => simp [intOf]; omega)
    · obtain rfl : k = 18 := by omega
      have c0 := HQ.out.cell (i := 0) rfl
      have c1 := HQ.out.cell (i := 1) rfl
      have c2 := HQ.out.cell (i := 2) rfl
      have f0 := HQ.out.free 0
      have f1 := HQ.out.free 1
      have f2 := HQ.out.free 2
      go_wp2
      refine bodyPost_ret (res_cell_tmp rfl rfl rfl (ld_key (row3 HQ.out _ _ _))) rfl ?_
      exact ⟨rfl, below3 HW.out _ _ _⟩
theorem rread_no {w : World} {ao : Option Addr} {n c : Nat} {l : List Int} (h : By w (.slice ao n c) l) (hbig : n ≤ 1000000000) (hno : ∀ j : Nat, j < 18 → 0 < j → frm j ≠ fIn l) :
    Calls Try.prog 14 #[.slice ao n c] w fun e w' => e = .returned (.tuple #[.agg #[.int .i64 0, .int .u64 0, .int .u64 0], .int .i64 70]) ∧ Below w.heap.size w w' := by
  by_cases hn : n = 0
  · subst hn; exact rread_nil
  · have hl := (By.lens h).1
    obtain ⟨x, hx⟩ : ∃ x, l[0]? = some x := ⟨l[0]'(by omega), List.getElem?_eq_getElem _⟩
    obtain ⟨b, o, rfl, _⟩ := By.at h hx
    refine (rread_any h hbig (by omega)).mono ?_
    rintro e w' ⟨R, A, B, E, rfl, ⟨k, h1, h2, h3, _⟩ | ⟨_, rfl, rfl, rfl, rfl⟩, b⟩
    · exact absurd h3 (hno k h1 h2)
    · exact ⟨rfl, b⟩
theorem rread_yes {w : World} {ao : Option Addr} {n c : Nat} {l : List Int} (h : By w (.slice ao n c) l) (hbig : n ≤ 1000000000) {r : Nat} (hr : r < 18) (hr0 : 0 < r) (hfr : frm r = fIn l) :
    Calls Try.prog 14 #[.slice ao n c] w fun e w' => e = .returned (.tuple #[.agg #[.int .i64 (r : Int), .int .u64 (rdA r l), .int .u64 (rdB l)], .int .i64 0]) ∧ Below w.heap.size w w' := by
  have hl := (By.lens h).1
  have hp := frm_pos r hr hr0
  rw [hfr] at hp
  simp only [fIn] at hp
  obtain ⟨x, hx⟩ : ∃ x, l[0]? = some x := ⟨l[0]'(by omega), List.getElem?_eq_getElem _⟩
  obtain ⟨b, o, rfl, _⟩ := By.at h hx
  refine (rread_any h hbig (by omega)).mono ?_
  rintro e w' ⟨R, A, B, E, rfl, ⟨k, h1, h2, h3, rfl, rfl, rfl, rfl⟩ | ⟨h1, _⟩, b⟩
  · have : k = r := frm_inj k h1 r hr (by rw [h3, hfr])
    subst this
    exact ⟨rfl, b⟩
  · exact absurd hfr (h1 r hr hr0)
end Ky
end Go.Proofs.Ytfljmcfipnmkgaa
