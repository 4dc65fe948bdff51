/- gleanlaw5.PagePlays: every script over three maps does what the document's maps do, page by page. -/
import Derived.Test.YtjnjkgakdnjlmaaPgPlR
namespace Go.Proofs.Ytjnjkgakdnjlmaa
namespace Pg
open Go.RowKit Go.Lib
attribute [local go_sem] Oper.semAt_some
set_option maxHeartbeats 40000000 in
set_option maxRecDepth 1000000 in
theorem pagePlays_walk {w : World} {ao : Option Addr} {n c : Nat} {ss : List Ste} (S : StesA w ao n ss) :
    Calls Try.prog 3 #[.slice ao n c] w fun e w' => e = .returned (.bool true) ∧ Below w.heap.size w w' := by
  have t1 := known_any (w := w)
  have t2 := fun w' (hB : Below w.heap.size w w') => light_any (c := c) (S.keep hB)
  have HS : Hid _ := S
  clear S
  by_cases hL : n + hvy ss ≤ 6000
  · rw [decide_eq_true hL] at t2
    have HL : Hid _ := hL
    have hn : n ≤ 6000 := by omega
    clear hL
    go_enter Try.func3, Try.ntmps3
    go_wp2_with first
      | (go_at_call 7; refine t1.mono ?_; rintro e w1 ⟨rfl, B1⟩)
      | (go_at_call 8; refine (t2 _ B1).mono ?_; rintro e w2 ⟨rfl, B2⟩)
      | (go_at_call 9; have gate := t1; clear gate t1; refine mnew.mono ?_; rintro e w3 ⟨rfl, M3, B3⟩)
      | (go_at_call 9; have gate := t2; clear gate t2; refine mnew.mono ?_; rintro e w4 ⟨rfl, M4, B4⟩)
      | (go_at_call 9; refine mnew.mono ?_; rintro e w5 ⟨rfl, M5, B5⟩)
    have b12 := joinB B1 B2
    obtain ⟨T0, b0⟩ := tx_start (B := w.heap.size) b12.size M3 B3 M4 B4 M5 B5 rfl
    have B0 := joinB b12 b0
    have h5 : w.heap.size ≤ w5.heap.size := by have := b12.size; have := B3.size; have := B4.size; have := B5.size; omega
    generalize hX0 : ((((w5.alloc (.cells #[.pointer (some ⟨w2.heap.size, 0, none⟩), .pointer (some ⟨w3.heap.size, 0, none⟩), .pointer (some ⟨w4.heap.size, 0, none⟩)] 25)).alloc (.cells #[.slice none 0 0] 31)).alloc (.cells #[.slice none 0 0] 31)).alloc (.cells #[.slice none 0 0] 31)).alloc (.cells #[.pointer (some ⟨w5.heap.size + 1, 0, none⟩), .pointer (some ⟨w5.heap.size + 1 + 1, 0, none⟩), .pointer (some ⟨w5.heap.size + 1 + 1 + 1, 0, none⟩)] 28) = X0 at T0 B0 ⊢
    clear hX0 b0
    generalize hsm : w5.heap.size = sm at T0 h5 ⊢
    generalize hsr : sm + 1 + 1 + 1 + 1 = sr at T0 ⊢
    have hr5 : w.heap.size ≤ sr := by omega
    have HT0 : Hid (∃ ms rs Q, Tx X0 w.heap.size sm sr 0 0 0 ms rs Q Q) := ⟨_, _, _, T0⟩
    have HB0 := hid B0
    clear hsm hsr T0 B0 M3 M4 M5 B1 B2 B3 B4 B5 b12
    refine plays_loop (ao := ao) (n := n) (c := c) (sm := sm) (sr := sr) HS HL hn h5 hr5 (fun _ _ d _ _ h => by cases d <;> exact h) rfl HT0 HB0 ?_
    intro a' wr hX
    unfold WX at hX
    obtain ⟨u2, hX⟩ := hX
    obtain ⟨u5, hX⟩ := hX
    obtain ⟨u6, hX⟩ := hX
    obtain ⟨u7, hX⟩ := hX
    obtain ⟨u8, hX⟩ := hX
    obtain ⟨u9, hX⟩ := hX
    obtain ⟨u10, hX⟩ := hX
    obtain ⟨u11, hX⟩ := hX
    obtain ⟨u12, hX⟩ := hX
    obtain ⟨u13, hX⟩ := hX
    obtain ⟨u14, hX⟩ := hX
    obtain ⟨u15, hX⟩ := hX
    obtain ⟨u32, hX⟩ := hX
    obtain ⟨u33, hX⟩ := hX
    obtain ⟨u34, hX⟩ := hX
    obtain ⟨u35, hX⟩ := hX
    obtain ⟨u36, hX⟩ := hX
    obtain ⟨u37, hX⟩ := hX
    obtain ⟨u38, hX⟩ := hX
    obtain ⟨u39, hX⟩ := hX
    obtain ⟨u40, hX⟩ := hX
    obtain ⟨u41, hX⟩ := hX
    obtain ⟨u42, hX⟩ := hX
    obtain ⟨u43, hX⟩ := hX
    obtain ⟨u44, hX⟩ := hX
    obtain ⟨u45, hX⟩ := hX
    obtain ⟨u46, hX⟩ := hX
    obtain ⟨u47, hX⟩ := hX
    obtain ⟨u48, hX⟩ := hX
    obtain ⟨u49, hX⟩ := hX
    obtain ⟨u50, hX⟩ := hX
    obtain ⟨u51, hX⟩ := hX
    obtain ⟨u52, hX⟩ := hX
    obtain ⟨u53, hX⟩ := hX
    obtain ⟨u54, hX⟩ := hX
    obtain ⟨u55, hX⟩ := hX
    obtain ⟨u56, hX⟩ := hX
    obtain ⟨u57, hX⟩ := hX
    obtain ⟨u58, hX⟩ := hX
    obtain ⟨u59, hX⟩ := hX
    obtain ⟨u60, hX⟩ := hX
    obtain ⟨u61, hX⟩ := hX
    obtain ⟨u62, hX⟩ := hX
    obtain ⟨u63, hX⟩ := hX
    obtain ⟨u64, hX⟩ := hX
    obtain ⟨u65, hX⟩ := hX
    obtain ⟨u66, hX⟩ := hX
    obtain ⟨u67, hX⟩ := hX
    obtain ⟨u68, hX⟩ := hX
    obtain ⟨u69, hX⟩ := hX
    obtain ⟨u70, hX⟩ := hX
    obtain ⟨u71, hX⟩ := hX
    obtain ⟨u72, hX⟩ := hX
    obtain ⟨u73, hX⟩ := hX
    obtain ⟨u74, hX⟩ := hX
    obtain ⟨u75, hX⟩ := hX
    obtain ⟨u76, hX⟩ := hX
    obtain ⟨u77, hX⟩ := hX
    obtain ⟨u78, hX⟩ := hX
    obtain ⟨u79, hX⟩ := hX
    obtain ⟨u80, hX⟩ := hX
    obtain ⟨u81, hX⟩ := hX
    obtain ⟨u82, hX⟩ := hX
    obtain ⟨u83, hX⟩ := hX
    obtain ⟨u84, hX⟩ := hX
    obtain ⟨u85, hX⟩ := hX
    obtain ⟨u86, hX⟩ := hX
    obtain ⟨u87, hX⟩ := hX
    obtain ⟨u88, hX⟩ := hX
    obtain ⟨u89, hX⟩ := hX
    obtain ⟨u90, hX⟩ := hX
    obtain ⟨u91, hX⟩ := hX
    obtain ⟨u92, hX⟩ := hX
    obtain ⟨u93, hX⟩ := hX
    obtain ⟨u94, hX⟩ := hX
    obtain ⟨u95, hX⟩ := hX
    obtain ⟨u96, hX⟩ := hX
    obtain ⟨u97, hX⟩ := hX
    obtain ⟨u98, hX⟩ := hX
    obtain ⟨u99, hX⟩ := hX
    obtain ⟨u100, hX⟩ := hX
    obtain ⟨u101, hX⟩ := hX
    obtain ⟨u102, hX⟩ := hX
    obtain ⟨u103, hX⟩ := hX
    obtain ⟨u104, hX⟩ := hX
    obtain ⟨u105, hX⟩ := hX
    obtain ⟨u106, hX⟩ := hX
    obtain ⟨u107, hX⟩ := hX
    obtain ⟨u108, hX⟩ := hX
    obtain ⟨u109, hX⟩ := hX
    obtain ⟨u110, hX⟩ := hX
    obtain ⟨u111, hX⟩ := hX
    obtain ⟨u112, hX⟩ := hX
    obtain ⟨u113, hX⟩ := hX
    obtain ⟨u114, hX⟩ := hX
    obtain ⟨u115, hX⟩ := hX
    obtain ⟨u116, hX⟩ := hX
    obtain ⟨u117, hX⟩ := hX
    obtain ⟨u118, hX⟩ := hX
    obtain ⟨u119, hX⟩ := hX
    obtain ⟨u120, hX⟩ := hX
    obtain ⟨u121, hX⟩ := hX
    obtain ⟨u122, hX⟩ := hX
    obtain ⟨u123, hX⟩ := hX
    obtain ⟨u124, hX⟩ := hX
    obtain ⟨u125, hX⟩ := hX
    obtain ⟨u126, hX⟩ := hX
    obtain ⟨u127, hX⟩ := hX
    obtain ⟨u128, hX⟩ := hX
    obtain ⟨u129, hX⟩ := hX
    obtain ⟨u130, hX⟩ := hX
    obtain ⟨u131, hX⟩ := hX
    obtain ⟨u132, hX⟩ := hX
    obtain ⟨u133, hX⟩ := hX
    obtain ⟨u134, hX⟩ := hX
    obtain ⟨u135, hX⟩ := hX
    obtain ⟨u136, hX⟩ := hX
    obtain ⟨u137, hX⟩ := hX
    obtain ⟨u138, hX⟩ := hX
    obtain ⟨u139, hX⟩ := hX
    obtain ⟨u140, hX⟩ := hX
    obtain ⟨u141, hX⟩ := hX
    obtain ⟨u142, hX⟩ := hX
    obtain ⟨u143, hX⟩ := hX
    obtain ⟨u144, hX⟩ := hX
    obtain ⟨u145, hX⟩ := hX
    obtain ⟨u146, hX⟩ := hX
    obtain ⟨u147, hX⟩ := hX
    obtain ⟨u148, hX⟩ := hX
    obtain ⟨u149, hX⟩ := hX
    obtain ⟨u150, hX⟩ := hX
    obtain ⟨u151, hX⟩ := hX
    obtain ⟨u152, hX⟩ := hX
    obtain ⟨u153, hX⟩ := hX
    obtain ⟨u154, hX⟩ := hX
    obtain ⟨u155, hX⟩ := hX
    obtain ⟨u156, hX⟩ := hX
    obtain ⟨u157, hX⟩ := hX
    obtain ⟨u158, hX⟩ := hX
    obtain ⟨u159, hX⟩ := hX
    obtain ⟨u160, hX⟩ := hX
    obtain ⟨u161, hX⟩ := hX
    obtain ⟨u162, hX⟩ := hX
    obtain ⟨u163, hX⟩ := hX
    obtain ⟨u164, hX⟩ := hX
    obtain ⟨u165, hX⟩ := hX
    obtain ⟨u166, hX⟩ := hX
    obtain ⟨u167, hX⟩ := hX
    obtain ⟨u168, hX⟩ := hX
    obtain ⟨u169, hX⟩ := hX
    obtain ⟨u170, hX⟩ := hX
    obtain ⟨u171, hX⟩ := hX
    obtain ⟨u172, hX⟩ := hX
    obtain ⟨u173, hX⟩ := hX
    obtain ⟨u174, hX⟩ := hX
    obtain ⟨u175, hX⟩ := hX
    obtain ⟨u176, hX⟩ := hX
    obtain ⟨u177, hX⟩ := hX
    obtain ⟨u178, hX⟩ := hX
    obtain ⟨u179, hX⟩ := hX
    obtain ⟨u180, hX⟩ := hX
    obtain ⟨u181, hX⟩ := hX
    obtain ⟨u182, hX⟩ := hX
    obtain ⟨u183, hX⟩ := hX
    obtain ⟨u184, hX⟩ := hX
    obtain ⟨u185, hX⟩ := hX
    obtain ⟨u186, hX⟩ := hX
    obtain ⟨u187, hX⟩ := hX
    obtain ⟨u188, hX⟩ := hX
    obtain ⟨u189, hX⟩ := hX
    obtain ⟨u190, hX⟩ := hX
    obtain ⟨u191, hX⟩ := hX
    obtain ⟨u192, hX⟩ := hX
    obtain ⟨u193, hX⟩ := hX
    obtain ⟨u194, hX⟩ := hX
    obtain ⟨u195, hX⟩ := hX
    obtain ⟨u196, hX⟩ := hX
    obtain ⟨u197, hX⟩ := hX
    obtain ⟨u198, hX⟩ := hX
    obtain ⟨u199, hX⟩ := hX
    obtain ⟨u200, hX⟩ := hX
    obtain ⟨u201, hX⟩ := hX
    obtain ⟨u202, hX⟩ := hX
    obtain ⟨⟨rfl, HX, HB⟩, rfl⟩ := hX
    obtain ⟨ms, rs, Q, T⟩ := HX.out
    have HTr : Hid (Tx wr w.heap.size sm sr 0 0 n ms rs Q Q) := T
    clear T HX
    go_wp2_with fail
    have T0 := HTr.out.keep (belowD wr)
    have hS : (fun w' => Sm sm sr 0 (ms 0) (rs 0) w' ∧ Sm sm sr 1 (ms 1) (rs 1) w' ∧ Sm sm sr 2 (ms 2) (rs 2) w') wr.drew := ⟨T0.s2 (by decide), T0.s2 (by decide), T0.s2 (by decide)⟩
    refine rg_start (S := fun w' => Sm sm sr 0 (ms 0) (rs 0) w' ∧ Sm sm sr 1 (ms 1) (rs 1) w' ∧ Sm sm sr 2 (ms 2) (rs 2) w') (by kernel_rfl) hS ?_
    refine rg_take 0 (some 203) (.slice (some ⟨sm, 0, none⟩) 3 3) (by kernel_rfl) (fun _ _ => by kernel_rfl) (fun _ _ _ h => h) hS ?_
    refine rg_take 1 (some 204) (.pointer (some ⟨sm, 0, none⟩)) (by kernel_rfl) (fun _ _ => by kernel_rfl) (fun _ _ _ h => h) hS ?_
    refine rg_load 2 (some 205) (.pointer (some ⟨ms 0, 0, none⟩)) 25 204 (sm) (0) (by kernel_rfl) (by kernel_rfl) (by kernel_rfl) (fun w' h => ld_mp h.1.m) (fun _ _ _ h => h) hS ?_
    refine rg_take 3 (some 206) (.slice (some ⟨sr, 0, none⟩) 3 3) (by kernel_rfl) (fun _ _ => by kernel_rfl) (fun _ _ _ h => h) hS ?_
    refine rg_take 4 (some 207) (.pointer (some ⟨sr, 0, none⟩)) (by kernel_rfl) (fun _ _ => by kernel_rfl) (fun _ _ _ h => h) hS ?_
    refine rg_load 5 (some 208) (.pointer (some ⟨rs 0, 0, none⟩)) 28 207 (sr) (0) (by kernel_rfl) (by kernel_rfl) (by kernel_rfl) (fun w' h => ld_rp h.1.r) (fun _ _ _ h => h) hS ?_
    refine rg_call 6 (some 209) 26 #[.pointer (some ⟨ms 0, 0, none⟩), .pointer (some ⟨rs 0, 0, none⟩)] (by kernel_rfl) (by kernel_rfl) (T0.same (i := 0) (by decide) (by omega)) ?_
    rintro e' w1x ⟨rfl, b0⟩
    have T1 := T0.keep b0
    refine ⟨_, rfl, ⟨T1.s2 (by decide), T1.s2 (by decide), T1.s2 (by decide)⟩, ?_⟩
    replace hS : (fun w' => Sm sm sr 0 (ms 0) (rs 0) w' ∧ Sm sm sr 1 (ms 1) (rs 1) w' ∧ Sm sm sr 2 (ms 2) (rs 2) w') w1x := ⟨T1.s2 (by decide), T1.s2 (by decide), T1.s2 (by decide)⟩
    refine rg_take 7 (some 210) (.bool true) (by kernel_rfl) (fun _ _ => by kernel_rfl) (fun _ _ _ h => h) hS ?_
    refine rg_take 8 (some 211) (.slice (some ⟨sm, 0, none⟩) 3 3) (by kernel_rfl) (fun _ _ => by kernel_rfl) (fun _ _ _ h => h) hS ?_
    refine rg_take 9 (some 212) (.pointer (some ⟨sm, 1, none⟩)) (by kernel_rfl) (fun _ _ => by kernel_rfl) (fun _ _ _ h => h) hS ?_
    refine rg_load 10 (some 213) (.pointer (some ⟨ms 1, 0, none⟩)) 25 212 (sm) (1) (by kernel_rfl) (by kernel_rfl) (by kernel_rfl) (fun w' h => ld_mp h.2.1.m) (fun _ _ _ h => h) hS ?_
    refine rg_take 11 (some 214) (.slice (some ⟨sr, 0, none⟩) 3 3) (by kernel_rfl) (fun _ _ => by kernel_rfl) (fun _ _ _ h => h) hS ?_
    refine rg_take 12 (some 215) (.pointer (some ⟨sr, 1, none⟩)) (by kernel_rfl) (fun _ _ => by kernel_rfl) (fun _ _ _ h => h) hS ?_
    refine rg_load 13 (some 216) (.pointer (some ⟨rs 1, 0, none⟩)) 28 215 (sr) (1) (by kernel_rfl) (by kernel_rfl) (by kernel_rfl) (fun w' h => ld_rp h.2.1.r) (fun _ _ _ h => h) hS ?_
    refine rg_call 14 (some 217) 26 #[.pointer (some ⟨ms 1, 0, none⟩), .pointer (some ⟨rs 1, 0, none⟩)] (by kernel_rfl) (by kernel_rfl) (T1.same (i := 1) (by decide) (by omega)) ?_
    rintro e' w2x ⟨rfl, b1⟩
    have T2 := T1.keep b1
    refine ⟨_, rfl, ⟨T2.s2 (by decide), T2.s2 (by decide), T2.s2 (by decide)⟩, ?_⟩
    replace hS : (fun w' => Sm sm sr 0 (ms 0) (rs 0) w' ∧ Sm sm sr 1 (ms 1) (rs 1) w' ∧ Sm sm sr 2 (ms 2) (rs 2) w') w2x := ⟨T2.s2 (by decide), T2.s2 (by decide), T2.s2 (by decide)⟩
    refine rg_take 15 (some 218) (.bool true) (by kernel_rfl) (fun _ _ => by kernel_rfl) (fun _ _ _ h => h) hS ?_
    refine rg_take 16 (some 219) (.bool true) (by kernel_rfl) (fun _ _ => by kernel_rfl) (fun _ _ _ h => h) hS ?_
    refine rg_take 17 (some 220) (.slice (some ⟨sm, 0, none⟩) 3 3) (by kernel_rfl) (fun _ _ => by kernel_rfl) (fun _ _ _ h => h) hS ?_
    refine rg_take 18 (some 221) (.pointer (some ⟨sm, 2, none⟩)) (by kernel_rfl) (fun _ _ => by kernel_rfl) (fun _ _ _ h => h) hS ?_
    refine rg_load 19 (some 222) (.pointer (some ⟨ms 2, 0, none⟩)) 25 221 (sm) (2) (by kernel_rfl) (by kernel_rfl) (by kernel_rfl) (fun w' h => ld_mp h.2.2.m) (fun _ _ _ h => h) hS ?_
    refine rg_take 20 (some 223) (.slice (some ⟨sr, 0, none⟩) 3 3) (by kernel_rfl) (fun _ _ => by kernel_rfl) (fun _ _ _ h => h) hS ?_
    refine rg_take 21 (some 224) (.pointer (some ⟨sr, 2, none⟩)) (by kernel_rfl) (fun _ _ => by kernel_rfl) (fun _ _ _ h => h) hS ?_
    refine rg_load 22 (some 225) (.pointer (some ⟨rs 2, 0, none⟩)) 28 224 (sr) (2) (by kernel_rfl) (by kernel_rfl) (by kernel_rfl) (fun w' h => ld_rp h.2.2.r) (fun _ _ _ h => h) hS ?_
    refine rg_call 23 (some 226) 26 #[.pointer (some ⟨ms 2, 0, none⟩), .pointer (some ⟨rs 2, 0, none⟩)] (by kernel_rfl) (by kernel_rfl) (T2.same (i := 2) (by decide) (by omega)) ?_
    rintro e' w3x ⟨rfl, b2⟩
    have T3 := T2.keep b2
    refine ⟨_, rfl, ⟨T3.s2 (by decide), T3.s2 (by decide), T3.s2 (by decide)⟩, ?_⟩
    replace hS : (fun w' => Sm sm sr 0 (ms 0) (rs 0) w' ∧ Sm sm sr 1 (ms 1) (rs 1) w' ∧ Sm sm sr 2 (ms 2) (rs 2) w') w3x := ⟨T3.s2 (by decide), T3.s2 (by decide), T3.s2 (by decide)⟩
    refine rg_take 24 (some 227) (.bool true) (by kernel_rfl) (fun _ _ => by kernel_rfl) (fun _ _ _ h => h) hS ?_
    refine rg_take 25 (some 2) (.bool true) (by kernel_rfl) (fun _ _ => by kernel_rfl) (fun _ _ _ h => h) hS ?_
    refine rg_done (by kernel_rfl) ?_
    simp only [Act.put, List.setIfInBounds_toArray, List.set_cons_zero, List.set_cons_succ]
    clear T0 T1 T2 T3 hS
    go_wp2
    go_ret
    exact ⟨rfl, HB.out.trans ((joinB (joinB (joinB (belowD wr) b0) b1) b2).mono HB.out.size)⟩
  · rw [decide_eq_false hL] at t2
    clear hL
    go_enter Try.func3, Try.ntmps3
    go_wp2_with first
      | (go_at_call 7; refine t1.mono ?_; rintro e w1 ⟨rfl, B1⟩)
      | (go_at_call 8; refine (t2 _ B1).mono ?_; rintro e w2 ⟨rfl, B2⟩)
    go_ret
    exact ⟨rfl, B1.trans (B2.mono B1.size)⟩
end Pg
end Go.Proofs.Ytjnjkgakdnjlmaa
