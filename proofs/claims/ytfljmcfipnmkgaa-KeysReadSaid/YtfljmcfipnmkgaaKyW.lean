/- gleanlaw7.known: the chapter's examples. -/
import Derived.Test.YtfljmcfipnmkgaaKyV
namespace Go.Proofs.Ytfljmcfipnmkgaa
namespace Ky
open Go.RowKit Go.Lib Pg
attribute [local go_sem] Oper.semAt_some eq50
theorem win9 {w : World} {g : Nat} (h : By w (.slice (some ⟨g, 0, none⟩) 18 18) kb1) : By w (.slice (some ⟨g, 0, none⟩) 9 9) (kb1.take 9) := by
  obtain ⟨ao, c, e, h2, h3, h4, h5, h6⟩ := h.ex
  cases e
  refine ⟨_, 9, rfl, by decide, by decide, (fun e => by cases e), fun x hx => h5 x (List.mem_of_mem_take hx), .inr ?_⟩
  obtain ⟨b, o, e, hlt, hc⟩ := h6.resolve_left (by decide)
  cases e
  refine ⟨_, _, rfl, hlt, fun i x hi => hc i x ?_⟩
  rw [List.getElem?_take] at hi
  split at hi
  · exact hi
  · cases hi
set_option maxHeartbeats 8000000 in
set_option maxRecDepth 100000 in
theorem kknown_any {w : World} : Calls Try.prog 7 #[] w fun e w' => e = .returned (.bool true) ∧ Below w.heap.size w w' := by
  have m1 := fun w => kmake1 (w := w)
  have m2 := fun w => kunder1 (w := w)
  have m3 := fun w => kmake2 (w := w)
  have m5 := fun w => kof1 (w := w)
  go_enter Try.func7, Try.ntmps7
  go_wp2_with first
    | (go_at_call 18; have gate := m1; clear gate; go_must (refine (m1 _).mono ?_); clear m1; rintro e w1 ⟨a1, c1, rfl, O1, b1⟩)
    | (go_at_call 21; go_must (refine (m2 _).mono ?_); rintro e w2 ⟨a2, c2, rfl, O2, b2⟩; replace O1 := O1.keep b2)
    | (go_at_call 18; go_must (refine (m3 _).mono ?_); rintro e w3 ⟨a3, c3, rfl, b3⟩; replace O1 := O1.keep b3; replace O2 := O2.keep b3)
    | (go_at_call 13; go_must (refine (kread1 O1.by).mono ?_); rintro e w4 ⟨rfl, b4⟩; replace O1 := O1.keep b4; replace O2 := O2.keep b4)
    | (go_at_call 22; go_must (refine (m5 _).mono ?_); rintro e w6 ⟨a5, c5, rfl, O5, b5⟩)
  have LW : Blk (w6.alloc (.cells #[.int .u8 118, .int .u8 0, .int .u8 0, .int .u8 0, .int .u8 0, .int .u8 0, .int .u8 0, .int .u8 0, .int .u8 16, .int .u8 104, .int .u8 0, .int .u8 0, .int .u8 0, .int .u8 0, .int .u8 0, .int .u8 0, .int .u8 0, .int .u8 2] 5)) w6.heap.size (kb1.map (Value.int .u8)) 5 := blk_new w6 (kb1.map (Value.int .u8)) 5
  have bw := below_alloc w6 (.cells #[.int .u8 118, .int .u8 0, .int .u8 0, .int .u8 0, .int .u8 0, .int .u8 0, .int .u8 0, .int .u8 0, .int .u8 16, .int .u8 104, .int .u8 0, .int .u8 0, .int .u8 0, .int .u8 0, .int .u8 0, .int .u8 0, .int .u8 0, .int .u8 2] 5)
  have al := below_alloc w4 (.cells #[.int .i64 7, .int .u64 16, .int .u64 2] 30)
  have hS := ((blk_new w4 [.int .i64 7, .int .u64 16, .int .u64 2] 30).keep b5).keep bw
  have OW : By (w6.alloc (.cells #[.int .u8 118, .int .u8 0, .int .u8 0, .int .u8 0, .int .u8 0, .int .u8 0, .int .u8 0, .int .u8 0, .int .u8 16, .int .u8 104, .int .u8 0, .int .u8 0, .int .u8 0, .int .u8 0, .int .u8 0, .int .u8 0, .int .u8 0, .int .u8 2] 5)) (.slice (some ⟨w6.heap.size, 0, none⟩) 18 18) kb1 := (ob_lit (l := kb1) LW (by decide) (by decide)).by
  have D0 := joinB (joinB (joinB (joinB (joinB (joinB b1 b2) b3) b4) al) b5) bw
  replace O1 := (((O1.by.keep al).keep b5).keep bw)
  replace O2 := (((O2.by.keep al).keep b5).keep bw)
  replace O5 := O5.by.keep bw
  clear LW bw al b1 b2 b3 b4 b5 m2 m3 m5
  generalize w6.alloc (.cells #[.int .u8 118, .int .u8 0, .int .u8 0, .int .u8 0, .int .u8 0, .int .u8 0, .int .u8 0, .int .u8 0, .int .u8 16, .int .u8 104, .int .u8 0, .int .u8 0, .int .u8 0, .int .u8 0, .int .u8 0, .int .u8 0, .int .u8 0, .int .u8 2] 5) = X at *
  generalize w4.heap.size = q at *
  generalize w6.heap.size = z at *
  replace hS := hS.keep (belowD X)
  replace O1 := O1.keep (belowD X)
  replace O2 := O2.keep (belowD X)
  replace O5 := O5.keep (belowD X)
  replace OW := OW.keep (belowD X)
  replace D0 := joinB D0 (belowD X)
  refine rg_start (S := fun w' => Blk w' q [.int .i64 7, .int .u64 16, .int .u64 2] 30) (by kernel_rfl) hS ?_
  refine rg_take 0 (some 36) (.int .i64 0) (by kernel_rfl) (fun _ _ => by kernel_rfl) (fun _ _ _ h => h) hS ?_
  refine rg_take 1 (some 37) (.int .i64 0) (by kernel_rfl) (fun _ _ => by kernel_rfl) (fun _ _ _ h => h) hS ?_
  refine rg_take 2 (some 38) (.int .i64 0) (by kernel_rfl) (fun _ _ => by kernel_rfl) (fun _ _ _ h => h) hS ?_
  refine rg_take 3 (some 39) (.int .i64 0) (by kernel_rfl) (fun _ _ => by kernel_rfl) (fun _ _ _ h => h) hS ?_
  refine rg_take 4 (some 40) (.int .i64 0) (by kernel_rfl) (fun _ _ => by kernel_rfl) (fun _ _ _ h => h) hS ?_
  refine rg_take 5 (some 41) (.int .i64 0) (by kernel_rfl) (fun _ _ => by kernel_rfl) (fun _ _ _ h => h) hS ?_
  refine rg_take 6 (some 42) (.int .i64 0) (by kernel_rfl) (fun _ _ => by kernel_rfl) (fun _ _ _ h => h) hS ?_
  refine rg_take 7 (some 43) (.bool true) (by kernel_rfl) (fun _ _ => by kernel_rfl) (fun _ _ _ h => h) hS ?_
  refine rg_take 8 (some 44) (.bool true) (by kernel_rfl) (fun _ _ => by kernel_rfl) (fun _ _ _ h => h) hS ?_
  refine rg_take 9 (some 45) (.int .i64 70) (by kernel_rfl) (fun _ _ => by kernel_rfl) (fun _ _ _ h => h) hS ?_
  refine rg_take 10 (some 46) (.bool true) (by kernel_rfl) (fun _ _ => by kernel_rfl) (fun _ _ _ h => h) hS ?_
  refine rg_take 11 (some 47) (.bool true) (by kernel_rfl) (fun _ _ => by kernel_rfl) (fun _ _ _ h => h) hS ?_
  refine rg_take 12 (some 48) (.bool true) (by kernel_rfl) (fun _ _ => by kernel_rfl) (fun _ _ _ h => h) hS ?_
  refine rg_take 13 (some 49) (.slice a1 18 c1) (by kernel_rfl) (fun _ _ => by kernel_rfl) (fun _ _ _ h => h) hS ?_
  refine rg_take 14 (some 50) (.slice (some ⟨z, 0, none⟩) 18 18) (by kernel_rfl) (fun _ _ => by kernel_rfl) (fun _ _ _ h => h) hS ?_
  refine rg_call 15 (some 51) 9 #[.slice a1 18 c1, .slice (some ⟨z, 0, none⟩) 18 18] (by kernel_rfl) (by kernel_rfl) (bytes_any O1 OW (by decide) (by decide)) ?_
  rintro e' x1 ⟨rfl, B1⟩
  rw [decide_eq_true (show kb1 = kb1 from rfl)]
  refine ⟨_, rfl, hS.keep B1, ?_⟩
  replace hS := hS.keep B1
  replace O1 := O1.keep B1
  replace O2 := O2.keep B1
  replace O5 := O5.keep B1
  replace OW := OW.keep B1
  replace D0 := joinB D0 B1
  refine rg_take 16 (some 52) (.bool true) (by kernel_rfl) (fun _ _ => by kernel_rfl) (fun _ _ _ h => h) hS ?_
  refine rg_take 17 (some 53) (.bool true) (by kernel_rfl) (fun _ _ => by kernel_rfl) (fun _ _ _ h => h) hS ?_
  refine rg_take 18 (some 54) (.slice a2 10 c2) (by kernel_rfl) (fun _ _ => by kernel_rfl) (fun _ _ _ h => h) hS ?_
  refine rg_take 19 (some 55) (.slice (some ⟨z, 0, none⟩) 18 18) (by kernel_rfl) (fun _ _ => by kernel_rfl) (fun _ _ _ h => h) hS ?_
  refine rg_take 20 (some 56) (.slice (some ⟨z, 0, none⟩) 9 9) (by kernel_rfl) (fun _ _ => by kernel_rfl) (fun _ _ _ h => h) hS ?_
  have b2 := below_alloc x1 (.cells #[.int .u8 115] 5)
  have O3 := (ob_lit (blk_new x1 [.int .u8 115] 5) (l := [115]) (by decide) (by decide)).by
  have OZ := win9 (OW.keep b2)
  obtain ⟨c4, x4, hr4, O4, B4⟩ := app_grow OZ O3 (by decide) (by decide)
  rw [show kb1.take 9 ++ [115] = kb2 from by decide +kernel] at O4
  refine rg_ready [21] (by kernel_rfl) (by simp) (ar_val 21 (some 57) (.slice (some ⟨x1.heap.size, 0, none⟩) 1 1) (x1.alloc (.cells #[.int .u8 115] 5)) (by kernel_rfl) (by kernel_rfl) (hS.keep b2) ?_ ar_nil)
  refine rg_ready [22] (by kernel_rfl) (by simp) (ar_val 22 (some 58) (.slice (some ⟨(x1.alloc (.cells #[.int .u8 115] 5)).heap.size, 0, none⟩) (9 + 1) c4) x4 (by kernel_rfl) (run_app (x := 56) (y := 57) rfl (by kernel_rfl) (by kernel_rfl) (by kernel_rfl) hr4) ((hS.keep b2).keep B4) ?_ ar_nil)
  replace hS := (hS.keep b2).keep B4
  replace O1 := (O1.keep b2).keep B4
  replace O2 := (O2.keep b2).keep B4
  replace O5 := (O5.keep b2).keep B4
  replace OW := (OW.keep b2).keep B4
  replace D0 := joinB (joinB D0 b2) B4
  refine rg_call 23 (some 59) 9 #[.slice a2 10 c2, .slice (some ⟨(x1.alloc (.cells #[.int .u8 115] 5)).heap.size, 0, none⟩) (9 + 1) c4] (by kernel_rfl) (by kernel_rfl) (bytes_any O2 O4.by (by decide) (by decide)) ?_
  rintro e' x5 ⟨rfl, B5⟩
  rw [decide_eq_true (show kb2 = kb2 from rfl)]
  refine ⟨_, rfl, hS.keep B5, ?_⟩
  replace hS := hS.keep B5
  replace O5 := O5.keep B5
  replace OW := OW.keep B5
  replace D0 := joinB D0 B5
  refine rg_take 24 (some 60) (.bool true) (by kernel_rfl) (fun _ _ => by kernel_rfl) (fun _ _ _ h => h) hS ?_
  refine rg_take 25 (some 61) (.bool true) (by kernel_rfl) (fun _ _ => by kernel_rfl) (fun _ _ _ h => h) hS ?_
  refine rg_load 26 (some 62) (.agg #[.int .i64 7, .int .u64 16, .int .u64 2]) 30 7 q 0 (by kernel_rfl) (by kernel_rfl) (by kernel_rfl) (fun w' h => ld_key h) (fun _ _ _ h => h) hS ?_
  refine rg_take 27 (some 63) (.agg #[.int .i64 7, .int .u64 16, .int .u64 2]) (by kernel_rfl) (fun _ _ => by kernel_rfl) (fun _ _ _ h => h) hS ?_
  refine rg_take 28 (some 64) (.bool true) (by kernel_rfl) (fun _ _ => by kernel_rfl) (fun _ _ _ h => h) hS ?_
  refine rg_take 29 (some 65) (.bool true) (by kernel_rfl) (fun _ _ => by kernel_rfl) (fun _ _ _ h => h) hS ?_
  refine rg_take 30 (some 66) (.bool true) (by kernel_rfl) (fun _ _ => by kernel_rfl) (fun _ _ _ h => h) hS ?_
  refine rg_take 31 (some 67) (.slice a5 1 c5) (by kernel_rfl) (fun _ _ => by kernel_rfl) (fun _ _ _ h => h) hS ?_
  have b6 := below_alloc x5 (.cells #[.int .u8 118] 5)
  have O6 := (ob_lit (blk_new x5 [.int .u8 118] 5) (l := [118]) (by decide) (by decide)).by
  refine rg_ready [32] (by kernel_rfl) (by simp) (ar_val 32 (some 68) (.slice (some ⟨x5.heap.size, 0, none⟩) 1 1) (x5.alloc (.cells #[.int .u8 118] 5)) (by kernel_rfl) (by kernel_rfl) (hS.keep b6) ?_ ar_nil)
  replace hS := hS.keep b6
  replace O5 := O5.keep b6
  replace OW := OW.keep b6
  replace D0 := joinB D0 b6
  refine rg_call 33 (some 69) 9 #[.slice a5 1 c5, .slice (some ⟨x5.heap.size, 0, none⟩) 1 1] (by kernel_rfl) (by kernel_rfl) (bytes_any O5 O6 (by decide) (by decide)) ?_
  rintro e' x7 ⟨rfl, B7⟩
  rw [decide_eq_true (show [(118 : Int)] = [118] from rfl)]
  refine ⟨_, rfl, hS.keep B7, ?_⟩
  replace hS := hS.keep B7
  replace OW := OW.keep B7
  replace D0 := joinB D0 B7
  refine rg_take 34 (some 70) (.bool true) (by kernel_rfl) (fun _ _ => by kernel_rfl) (fun _ _ _ h => h) hS ?_
  refine rg_take 35 (some 71) (.bool true) (by kernel_rfl) (fun _ _ => by kernel_rfl) (fun _ _ _ h => h) hS ?_
  have b8 := below_alloc x7 (.cells #[.int .u8 112, .int .u8 255, .int .u8 255] 5)
  have O8 := (ob_lit (blk_new x7 [.int .u8 112, .int .u8 255, .int .u8 255] 5) (l := [112, 255, 255]) (by decide) (by decide)).by
  have b9 := below_alloc x7 (.cells #[.int .u8 113] 5)
  have O9 := (ob_lit (blk_new x7 [.int .u8 113] 5) (l := [113]) (by decide) (by decide)).by
  refine rg_ready [36, 38] (by kernel_rfl) (by simp) (ar_val 36 (some 72) (.slice (some ⟨x7.heap.size, 0, none⟩) 3 3) (x7.alloc (.cells #[.int .u8 112, .int .u8 255, .int .u8 255] 5)) (by kernel_rfl) (by kernel_rfl) (hS.keep b8) ?_ (ar_val 38 (some 74) (.slice (some ⟨x7.heap.size, 0, none⟩) 1 1) (x7.alloc (.cells #[.int .u8 113] 5)) (by kernel_rfl) (by kernel_rfl) (hS.keep b9) ?_ (ar_nil)))
  · replace hS := hS.keep b8
    replace OW := OW.keep b8
    replace D0 := joinB D0 b8
    generalize hx8 : x7.alloc (.cells #[.int .u8 112, .int .u8 255, .int .u8 255] 5) = x8 at *
    have b10 := below_alloc x8 (.cells #[.int .u8 113] 5)
    have O10 := (ob_lit (blk_new x8 [.int .u8 113] 5) (l := [113]) (by decide) (by decide)).by
    refine rg_ready [37, 38] (by kernel_rfl) (by simp) (ar_call 37 (some 73) 15 #[.slice (some ⟨x7.heap.size, 0, none⟩) 3 3] (by kernel_rfl) (by kernel_rfl) (knext1 O8) ?_ (ar_val 38 (some 74) (.slice (some ⟨x8.heap.size, 0, none⟩) 1 1) (x8.alloc (.cells #[.int .u8 113] 5)) (by kernel_rfl) (by kernel_rfl) (hS.keep b10) ?_ (ar_nil)))
    · rintro e' x9 ⟨a8, c8, rfl, ON, C0⟩
      refine ⟨_, rfl, hS.keep C0, ?_⟩
      replace hS := hS.keep C0
      replace OW := OW.keep C0
      replace D0 := joinB D0 C0
      have b11 := below_alloc x9 (.cells #[.int .u8 113] 5)
      have O11 := (ob_lit (blk_new x9 [.int .u8 113] 5) (l := [113]) (by decide) (by decide)).by
      refine rg_ready [38] (by kernel_rfl) (by simp) (ar_val 38 (some 74) (.slice (some ⟨x9.heap.size, 0, none⟩) 1 1) (x9.alloc (.cells #[.int .u8 113] 5)) (by kernel_rfl) (by kernel_rfl) (hS.keep b11) ?_ (ar_nil))
      replace hS := hS.keep b11
      replace OW := OW.keep b11
      replace ON := ON.keep b11
      replace D0 := joinB D0 b11
      refine rg_call 39 (some 75) 9 #[.slice a8 1 c8, .slice (some ⟨x9.heap.size, 0, none⟩) 1 1] (by kernel_rfl) (by kernel_rfl) (bytes_any ON O11 (by decide) (by decide)) ?_
      rintro e' y1 ⟨rfl, C1⟩
      rw [decide_eq_true (show [(113 : Int)] = [113] from rfl)]
      refine ⟨_, rfl, hS.keep C1, ?_⟩
      replace hS := hS.keep C1
      replace OW := OW.keep C1
      replace D0 := joinB D0 C1
      refine rg_take 40 (some 76) (.bool true) (by kernel_rfl) (fun _ _ => by kernel_rfl) (fun _ _ _ h => h) hS ?_
      refine rg_take 41 (some 77) (.bool true) (by kernel_rfl) (fun _ _ => by kernel_rfl) (fun _ _ _ h => h) hS ?_
      refine rg_take 43 (some 79) (.slice (some ⟨z, 0, none⟩) 18 18) (by kernel_rfl) (fun _ _ => by kernel_rfl) (fun _ _ _ h => h) hS ?_
      refine rg_take 44 (some 80) (.slice (some ⟨z, 0, none⟩) 9 18) (by kernel_rfl) (fun _ _ => by kernel_rfl) (fun _ _ _ h => h) hS ?_
      refine rg_call 42 (some 78) 10 #[.int .u64 16] (by kernel_rfl) (by kernel_rfl) kval1 ?_
      rintro e' y2 ⟨a9, c9, rfl, OV, C2⟩
      refine ⟨_, rfl, hS.keep C2, ?_⟩
      replace hS := hS.keep C2
      replace OW := OW.keep C2
      replace D0 := joinB D0 C2
      refine rg_call 45 (some 81) 9 #[.slice a9 9 c9, .slice (some ⟨z, 0, none⟩) 9 18] (by kernel_rfl) (by kernel_rfl) (bytes_any OV (By.take OW 9 (by decide)) (by decide) (by decide)) ?_
      rintro e' y3 ⟨rfl, C3⟩
      rw [decide_eq_true (show kb1.take 9 = kb1.take 9 from rfl)]
      refine ⟨_, rfl, hS.keep C3, ?_⟩
      replace hS := hS.keep C3
      replace D0 := joinB D0 C3
      refine rg_take 46 (some 82) (.bool true) (by kernel_rfl) (fun _ _ => by kernel_rfl) (fun _ _ _ h => h) hS ?_
      refine rg_take 47 (some 0) (.bool true) (by kernel_rfl) (fun _ _ => by kernel_rfl) (fun _ _ _ h => h) hS ?_
      refine rg_done (by kernel_rfl) ?_
      simp only [Act.put, List.setIfInBounds_toArray, List.set_cons_zero, List.set_cons_succ]
      clear hS OW OV O8 O9 b8 b9 ON
      go_wp2
      go_ret
      exact ⟨rfl, D0⟩
    · replace hS := hS.keep b10
      replace OW := OW.keep b10
      replace O8 := O8.keep b10
      replace D0 := joinB D0 b10
      refine rg_call 37 (some 73) 15 #[.slice (some ⟨x7.heap.size, 0, none⟩) 3 3] (by kernel_rfl) (by kernel_rfl) (knext1 O8) ?_
      rintro e' x9 ⟨a8, c8, rfl, ON, C0⟩
      refine ⟨_, rfl, hS.keep C0, ?_⟩
      replace hS := hS.keep C0
      replace OW := OW.keep C0
      replace O10 := O10.keep C0
      replace D0 := joinB D0 C0
      refine rg_call 39 (some 75) 9 #[.slice a8 1 c8, .slice (some ⟨x8.heap.size, 0, none⟩) 1 1] (by kernel_rfl) (by kernel_rfl) (bytes_any ON O10 (by decide) (by decide)) ?_
      rintro e' y1 ⟨rfl, C1⟩
      rw [decide_eq_true (show [(113 : Int)] = [113] from rfl)]
      refine ⟨_, rfl, hS.keep C1, ?_⟩
      replace hS := hS.keep C1
      replace OW := OW.keep C1
      replace D0 := joinB D0 C1
      refine rg_take 40 (some 76) (.bool true) (by kernel_rfl) (fun _ _ => by kernel_rfl) (fun _ _ _ h => h) hS ?_
      refine rg_take 41 (some 77) (.bool true) (by kernel_rfl) (fun _ _ => by kernel_rfl) (fun _ _ _ h => h) hS ?_
      refine rg_take 43 (some 79) (.slice (some ⟨z, 0, none⟩) 18 18) (by kernel_rfl) (fun _ _ => by kernel_rfl) (fun _ _ _ h => h) hS ?_
      refine rg_take 44 (some 80) (.slice (some ⟨z, 0, none⟩) 9 18) (by kernel_rfl) (fun _ _ => by kernel_rfl) (fun _ _ _ h => h) hS ?_
      refine rg_call 42 (some 78) 10 #[.int .u64 16] (by kernel_rfl) (by kernel_rfl) kval1 ?_
      rintro e' y2 ⟨a9, c9, rfl, OV, C2⟩
      refine ⟨_, rfl, hS.keep C2, ?_⟩
      replace hS := hS.keep C2
      replace OW := OW.keep C2
      replace D0 := joinB D0 C2
      refine rg_call 45 (some 81) 9 #[.slice a9 9 c9, .slice (some ⟨z, 0, none⟩) 9 18] (by kernel_rfl) (by kernel_rfl) (bytes_any OV (By.take OW 9 (by decide)) (by decide) (by decide)) ?_
      rintro e' y3 ⟨rfl, C3⟩
      rw [decide_eq_true (show kb1.take 9 = kb1.take 9 from rfl)]
      refine ⟨_, rfl, hS.keep C3, ?_⟩
      replace hS := hS.keep C3
      replace D0 := joinB D0 C3
      refine rg_take 46 (some 82) (.bool true) (by kernel_rfl) (fun _ _ => by kernel_rfl) (fun _ _ _ h => h) hS ?_
      refine rg_take 47 (some 0) (.bool true) (by kernel_rfl) (fun _ _ => by kernel_rfl) (fun _ _ _ h => h) hS ?_
      refine rg_done (by kernel_rfl) ?_
      simp only [Act.put, List.setIfInBounds_toArray, List.set_cons_zero, List.set_cons_succ]
      clear hS OW OV O8 O9 b8 b9 ON
      go_wp2
      go_ret
      exact ⟨rfl, D0⟩
  · replace hS := hS.keep b9
    replace OW := OW.keep b9
    replace D0 := joinB D0 b9
    generalize hx8 : x7.alloc (.cells #[.int .u8 113] 5) = x8 at *
    have b10 := below_alloc x8 (.cells #[.int .u8 112, .int .u8 255, .int .u8 255] 5)
    have O10 := (ob_lit (blk_new x8 [.int .u8 112, .int .u8 255, .int .u8 255] 5) (l := [112, 255, 255]) (by decide) (by decide)).by
    refine rg_ready [36] (by kernel_rfl) (by simp) (ar_val 36 (some 72) (.slice (some ⟨x8.heap.size, 0, none⟩) 3 3) (x8.alloc (.cells #[.int .u8 112, .int .u8 255, .int .u8 255] 5)) (by kernel_rfl) (by kernel_rfl) (hS.keep b10) ?_ (ar_nil))
    replace hS := hS.keep b10
    replace OW := OW.keep b10
    replace O9 := O9.keep b10
    replace D0 := joinB D0 b10
    refine rg_call 37 (some 73) 15 #[.slice (some ⟨x8.heap.size, 0, none⟩) 3 3] (by kernel_rfl) (by kernel_rfl) (knext1 O10) ?_
    rintro e' x9 ⟨a8, c8, rfl, ON, C0⟩
    refine ⟨_, rfl, hS.keep C0, ?_⟩
    replace hS := hS.keep C0
    replace OW := OW.keep C0
    replace O9 := O9.keep C0
    replace D0 := joinB D0 C0
    refine rg_call 39 (some 75) 9 #[.slice a8 1 c8, .slice (some ⟨x7.heap.size, 0, none⟩) 1 1] (by kernel_rfl) (by kernel_rfl) (bytes_any ON O9 (by decide) (by decide)) ?_
    rintro e' y1 ⟨rfl, C1⟩
    rw [decide_eq_true (show [(113 : Int)] = [113] from rfl)]
    refine ⟨_, rfl, hS.keep C1, ?_⟩
    replace hS := hS.keep C1
    replace OW := OW.keep C1
    replace D0 := joinB D0 C1
    refine rg_take 40 (some 76) (.bool true) (by kernel_rfl) (fun _ _ => by kernel_rfl) (fun _ _ _ h => h) hS ?_
    refine rg_take 41 (some 77) (.bool true) (by kernel_rfl) (fun _ _ => by kernel_rfl) (fun _ _ _ h => h) hS ?_
    refine rg_take 43 (some 79) (.slice (some ⟨z, 0, none⟩) 18 18) (by kernel_rfl) (fun _ _ => by kernel_rfl) (fun _ _ _ h => h) hS ?_
    refine rg_take 44 (some 80) (.slice (some ⟨z, 0, none⟩) 9 18) (by kernel_rfl) (fun _ _ => by kernel_rfl) (fun _ _ _ h => h) hS ?_
    refine rg_call 42 (some 78) 10 #[.int .u64 16] (by kernel_rfl) (by kernel_rfl) kval1 ?_
    rintro e' y2 ⟨a9, c9, rfl, OV, C2⟩
    refine ⟨_, rfl, hS.keep C2, ?_⟩
    replace hS := hS.keep C2
    replace OW := OW.keep C2
    replace D0 := joinB D0 C2
    refine rg_call 45 (some 81) 9 #[.slice a9 9 c9, .slice (some ⟨z, 0, none⟩) 9 18] (by kernel_rfl) (by kernel_rfl) (bytes_any OV (By.take OW 9 (by decide)) (by decide) (by decide)) ?_
    rintro e' y3 ⟨rfl, C3⟩
    rw [decide_eq_true (show kb1.take 9 = kb1.take 9 from rfl)]
    refine ⟨_, rfl, hS.keep C3, ?_⟩
    replace hS := hS.keep C3
    replace D0 := joinB D0 C3
    refine rg_take 46 (some 82) (.bool true) (by kernel_rfl) (fun _ _ => by kernel_rfl) (fun _ _ _ h => h) hS ?_
    refine rg_take 47 (some 0) (.bool true) (by kernel_rfl) (fun _ _ => by kernel_rfl) (fun _ _ _ h => h) hS ?_
    refine rg_done (by kernel_rfl) ?_
    simp only [Act.put, List.setIfInBounds_toArray, List.set_cons_zero, List.set_cons_succ]
    clear hS OW OV O8 O9 b8 b9 ON
    go_wp2
    go_ret
    exact ⟨rfl, D0⟩
end Ky
end Go.Proofs.Ytfljmcfipnmkgaa
