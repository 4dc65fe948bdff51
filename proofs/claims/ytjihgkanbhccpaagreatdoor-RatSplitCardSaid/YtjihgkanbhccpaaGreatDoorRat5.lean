/- Package rat: made of a decimal, rounded down. -/
import Derived.Test.YtjihgkanbhccpaaGreatDoorRat4
namespace Go.Proofs.YtjihgkanbhccpaaGreatDoor
open Go.RowKit Lim

set_option maxHeartbeats 4000000 in
set_option maxRecDepth 100000 in
theorem qOfDec {w : World} {ao : Option Addr} {n c : Nat} {x : Int} (h : NatA w ao n c x) (hn : n ≤ 274877906944) :
    Calls Tryz.prog 30 #[.agg #[.slice ao n c]] w fun e w' => ∃ a k d a' k' d', e = .returned (.agg #[.slice a k d, .slice a' k' d']) ∧ NatO w' a k d (rn x U36) ∧ NatO w' a' k' d' (rd x U36) ∧ k ≤ n ∧ k' ≤ 39 ∧ Below w.heap.size w w' := by
  have HB := below2 w (.cells #[.slice ao n c] 46) (.cells #[.slice none 0 0, .slice none 0 0] 30)
  have PX := (box_new w [.slice ao n c] 46).keep (below_alloc _ (.cells #[.slice none 0 0, .slice none 0 0] 30))
  have X4 := box_new (w.alloc (.cells #[.slice ao n c] 46)) [.slice none 0 0, .slice none 0 0] 30
  rw [show (w.alloc (.cells #[.slice ao n c] 46)).heap.size = w.heap.size + 1 by simp] at X4
  replace h := h.keep HB
  go_enter Tryz.func30, Tryz.ntmps30
  go_wp2_with fail
  refine rg_start (S := fun w' => Box w' w.heap.size [.slice ao n c] 46 ∧ True) (by kernel_rfl) (⟨PX.drew, trivial⟩) ?_
  replace h := h.drew
  replace HB := HB.drew
  replace PX := PX.drew
  replace X4 := X4.drew
  have hS := (show _ ∧ _ from ⟨PX, trivial⟩)
  clear PX
  refine rg_take 0 (some 3) (.pointer (some ⟨w.heap.size, 0, none⟩)) (by kernel_rfl) (fun _ _ => by kernel_rfl) (fun _ _ _ h => h) hS ?_
  refine rg_load 1 (some 4) (.slice ao n c) 28 3 (w.heap.size) 0 (by kernel_rfl) (by kernel_rfl) (by kernel_rfl) (fun _ hs => load_raw ⟨hs.1.blk⟩) (fun _ _ _ h => h) hS ?_
  refine rg_call 2 (some 5) 91 #[] (by kernel_rfl) (by kernel_rfl) (qUnit) ?_
  rintro e z1 ⟨A, K, DD, rfl, OU, hK, hB⟩
  refine ⟨_, rfl, ⟨hS.1.keep hB, trivial⟩, ?_⟩
  replace hS := (show _ ∧ _ from ⟨hS.1.keep hB, trivial⟩)
  replace h := h.keep hB
  replace X4 := X4.keep hB
  replace HB := joinB HB hB
  clear hB
  refine rg_call 3 (some 6) 87 #[.slice ao n c, .slice A K DD] (by kernel_rfl) (by kernel_rfl) (qReduced h OU.a (by omega) (by omega) (by decide)) ?_
  rintro e z2 ⟨Ar, Kr, Dr, As', Ks, Ds, rfl, Or1, Or2, hkr, hks, hB⟩
  refine ⟨_, rfl, ⟨hS.1.keep hB, trivial⟩, ?_⟩
  replace hS := (show _ ∧ _ from ⟨hS.1.keep hB, trivial⟩)
  replace h := h.keep hB
  replace X4 := X4.keep hB
  replace OU := OU.keep hB
  replace HB := joinB HB hB
  clear hB
  refine rg_ready [4] (by kernel_rfl) (by simp) ?_
  refine ar_store 4 30 30 2 6 (w.heap.size + 1) [.slice none 0 0, .slice none 0 0] [.slice Ar Kr Dr, .slice As' Ks Ds] (by kernel_rfl) (by kernel_rfl) (by kernel_rfl) (by kernel_rfl) X4 (by kernel_rfl) rfl (by kernel_rfl) ?_ ar_nil
  intro z3 Y hw hB
  refine ⟨⟨hS.1.off (by omega) hw, trivial⟩, ?_⟩
  replace hS := (show _ ∧ _ from ⟨hS.1.off (by omega) hw, trivial⟩)
  replace HB := HB.trans (hB.mono (by omega))
  replace h := h.blk X4 (no_ints2 _ _ _ _ _ _) hw
  skip
  replace OU := OU.blk X4 (no_ints2 _ _ _ _ _ _) hw
  replace Or1 := Or1.blk X4 (no_ints2 _ _ _ _ _ _) hw
  replace Or2 := Or2.blk X4 (no_ints2 _ _ _ _ _ _) hw
  replace X4 := Y
  clear hB hw
  refine rg_done (by kernel_rfl) ?_
  try simp only [Act.put, List.setIfInBounds_toArray, List.set_cons_zero, List.set_cons_succ]
  go_wp2
  refine bodyPost_ret (ret_rat rfl rfl X4) rfl ?_
  exact ⟨_, _, _, _, _, _, rfl, Or1, Or2, by omega, by omega, HB⟩
set_option maxHeartbeats 4000000 in
set_option maxRecDepth 100000 in
theorem qDown {w : World} {a0 b0 : Option Addr} {n0 c0 m0 d0 : Nat} {x0 y0 : Int} (h0 : NatA w a0 n0 c0 x0) (e0 : NatA w b0 m0 d0 y0) (hn0 : n0 ≤ 34359738368) (hm0 : m0 ≤ 34359738368) :
    Calls Tryz.prog 29 #[.agg #[.slice a0 n0 c0, .slice b0 m0 d0]] w fun e w' => ∃ a k d, e = .returned (.agg #[.slice a k d]) ∧ NatO w' a k d (cn x0 y0 * U36 / cd y0) ∧ k ≤ n0 + 39 ∧ Below w.heap.size w w' := by
  have HB := below2 w (.cells #[.slice a0 n0 c0, .slice b0 m0 d0] 30) (.cells #[.slice none 0 0] 46)
  have SP := (box_new w [.slice a0 n0 c0, .slice b0 m0 d0] 30).keep (below_alloc _ (.cells #[.slice none 0 0] 46))
  have X4 := box_new (w.alloc (.cells #[.slice a0 n0 c0, .slice b0 m0 d0] 30)) [.slice none 0 0] 46
  rw [show (w.alloc (.cells #[.slice a0 n0 c0, .slice b0 m0 d0] 30)).heap.size = w.heap.size + 1 by simp] at X4
  replace h0 := h0.keep HB
  replace e0 := e0.keep HB
  obtain ⟨p1, p2, p3, p4⟩ := SP.cells2
  have hld := load_rat SP
  go_enter Tryz.func29, Tryz.ntmps29
  go_wp2_with fail
  refine (qCounted h0 e0 (by omega) (by omega)).mono ?_
  rintro e w1 ⟨A0, K0, D0, B0', L0, M0, rfl, C0, E0, hK0, hL0, hB⟩
  replace X4 := X4.keep hB
  replace HB := joinB HB hB
  clear hB p1 p2 p3 p4 hld SP h0 e0
  have BA := below_alloc w1 (.cells #[.slice A0 K0 D0, .slice B0' L0 M0] 30)
  have PX := box_new w1 [.slice A0 K0 D0, .slice B0' L0 M0] 30
  have hne := X4.lt
  replace X4 := X4.keep BA
  replace C0 := C0.keep BA
  replace E0 := E0.keep BA
  replace HB := joinB HB BA
  obtain ⟨p1, p2, p3, p4⟩ := PX.cells2
  go_wp2_with fail
  refine rg_start (S := fun w' => Box w' w1.heap.size [.slice A0 K0 D0, .slice B0' L0 M0] 30 ∧ True) (by kernel_rfl) (⟨PX.drew, trivial⟩) ?_
  clear p1 p2 p3 p4 BA
  replace C0 := C0.drew
  replace E0 := E0.drew
  replace HB := HB.drew
  replace PX := PX.drew
  replace X4 := X4.drew
  have hS := (show _ ∧ _ from ⟨PX, trivial⟩)
  clear PX
  refine rg_take 0 (some 6) (.pointer (some ⟨w1.heap.size, 0, none⟩)) (by kernel_rfl) (fun _ _ => by kernel_rfl) (fun _ _ _ h => h) hS ?_
  refine rg_load 1 (some 7) (.slice A0 K0 D0) 28 6 (w1.heap.size) 0 (by kernel_rfl) (by kernel_rfl) (by kernel_rfl) (fun _ hs => load_at hs.1.cells2.1) (fun _ _ _ h => h) hS ?_
  refine rg_take 4 (some 10) (.pointer (some ⟨w1.heap.size, 1, none⟩)) (by kernel_rfl) (fun _ _ => by kernel_rfl) (fun _ _ _ h => h) hS ?_
  refine rg_load 5 (some 11) (.slice B0' L0 M0) 28 10 (w1.heap.size) 1 (by kernel_rfl) (by kernel_rfl) (by kernel_rfl) (fun _ hs => load_at hs.1.cells2.2.1) (fun _ _ _ h => h) hS ?_
  refine rg_call 2 (some 8) 91 #[] (by kernel_rfl) (by kernel_rfl) (qUnit) ?_
  rintro e z1 ⟨A, K, DD, rfl, OU, hK, hB⟩
  refine ⟨_, rfl, ⟨hS.1.keep hB, trivial⟩, ?_⟩
  replace hS := (show _ ∧ _ from ⟨hS.1.keep hB, trivial⟩)
  replace C0 := C0.keep hB
  replace E0 := E0.keep hB
  replace X4 := X4.keep hB
  replace HB := joinB HB hB
  clear hB
  refine rg_call 3 (some 9) 82 #[.slice A0 K0 D0, .slice A K DD] (by kernel_rfl) (by kernel_rfl) (nMul C0 OU.a (by omega) (by omega)) ?_
  rintro e z2 ⟨Ap, Kp, Dp, rfl, Op1, hkp, hB⟩
  refine ⟨_, rfl, ⟨hS.1.keep hB, trivial⟩, ?_⟩
  replace hS := (show _ ∧ _ from ⟨hS.1.keep hB, trivial⟩)
  replace C0 := C0.keep hB
  replace E0 := E0.keep hB
  replace X4 := X4.keep hB
  replace OU := OU.keep hB
  replace HB := joinB HB hB
  clear hB
  refine rg_call 6 (some 12) 83 #[.slice Ap Kp Dp, .slice B0' L0 M0] (by kernel_rfl) (by kernel_rfl) (qQuot Op1.a E0 (by omega) (by omega) (cd_ne _)) ?_
  rintro e z3 ⟨Ar, Kr, Dr, rfl, Or1, hkr, hB⟩
  refine ⟨_, rfl, ⟨hS.1.keep hB, trivial⟩, ?_⟩
  replace hS := (show _ ∧ _ from ⟨hS.1.keep hB, trivial⟩)
  replace C0 := C0.keep hB
  replace E0 := E0.keep hB
  replace X4 := X4.keep hB
  replace OU := OU.keep hB
  replace Op1 := Op1.keep hB
  replace HB := joinB HB hB
  clear hB
  refine rg_take 7 (some 13) (.agg #[.slice Ar Kr Dr]) (by kernel_rfl) (fun _ _ => by kernel_rfl) (fun _ _ _ h => h) hS ?_
  refine rg_ready [8] (by kernel_rfl) (by simp) ?_
  refine ar_store 8 46 46 2 13 (w.heap.size + 1) [.slice none 0 0] [.slice Ar Kr Dr] (by kernel_rfl) (by kernel_rfl) (by kernel_rfl) (by kernel_rfl) X4 (by kernel_rfl) rfl (by kernel_rfl) ?_ ar_nil
  intro z4 Y hw hB
  refine ⟨⟨hS.1.off (by omega) hw, trivial⟩, ?_⟩
  replace hS := (show _ ∧ _ from ⟨hS.1.off (by omega) hw, trivial⟩)
  replace HB := HB.trans (hB.mono (by omega))
  replace C0 := C0.blk X4 (no_ints1 _ _ _) hw
  replace E0 := E0.blk X4 (no_ints1 _ _ _) hw
  skip
  replace OU := OU.blk X4 (no_ints1 _ _ _) hw
  replace Op1 := Op1.blk X4 (no_ints1 _ _ _) hw
  replace Or1 := Or1.blk X4 (no_ints1 _ _ _) hw
  replace X4 := Y
  clear hB hw
  refine rg_done (by kernel_rfl) ?_
  try simp only [Act.put, List.setIfInBounds_toArray, List.set_cons_zero, List.set_cons_succ]
  go_wp2
  refine bodyPost_ret (ret_dec rfl rfl ⟨X4.blk⟩) rfl ?_
  exact ⟨_, _, _, rfl, Or1, by omega, HB⟩
end Go.Proofs.YtjihgkanbhccpaaGreatDoor
