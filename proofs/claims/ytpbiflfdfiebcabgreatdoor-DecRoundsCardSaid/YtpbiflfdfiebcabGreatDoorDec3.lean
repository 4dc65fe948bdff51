/- Package dec: products and quotients, rounded. -/
import Derived.Test.YtpbiflfdfiebcabGreatDoorDec2
namespace Go.Proofs.YtpbiflfdfiebcabGreatDoor
open Go.RowKit Lim

set_option maxHeartbeats 4000000 in
set_option maxRecDepth 100000 in
theorem dMulDiv {w : World} {ao0 : Option Addr} {n0 c0 : Nat} {x0 : Int} {ao1 : Option Addr} {n1 c1 : Nat} {x1 : Int} {ao2 : Option Addr} {n2 c2 : Nat} {x2 : Int} (h0 : NatA w ao0 n0 c0 x0) (hn0 : n0 ≤ 274877906944) (h1 : NatA w ao1 n1 c1 x1) (hn1 : n1 ≤ 274877906944) (h2 : NatA w ao2 n2 c2 x2) (hn2 : n2 ≤ 274877906944) (hne : x2 ≠ 0) :
    Calls Tryz.prog 37 #[.agg #[.slice ao0 n0 c0], .agg #[.slice ao1 n1 c1], .agg #[.slice ao2 n2 c2]] w fun e w' => ∃ a k d, e = .returned (.tuple #[.agg #[.slice a k d], .int .i64 0]) ∧ NatO w' a k d (x0 * x1 / x2) ∧ k ≤ n0 + n1 + 2 ∧ Below w.heap.size w w' := by
  have B0 := below4 w (.cells #[.slice ao0 n0 c0] 34) (.cells #[.slice ao1 n1 c1] 34) (.cells #[.slice ao2 n2 c2] 34) (.cells #[.slice none 0 0] 34)
  have S0 := slot_last4 w (.cells #[.slice ao0 n0 c0] 34) (.cells #[.slice ao1 n1 c1] 34) (.cells #[.slice ao2 n2 c2] 34) (.slice none 0 0) 34
  have P0 := (((slot_new w (.slice ao0 n0 c0) 34).alloc (.cells #[.slice ao1 n1 c1] 34)).alloc (.cells #[.slice ao2 n2 c2] 34)).alloc (.cells #[.slice none 0 0] 34)
  have q0 := P0.cell
  have h0 := h0.keep B0
  have P1 := ((slot_last2 w (.cells #[.slice ao0 n0 c0] 34) (.slice ao1 n1 c1) 34).alloc (.cells #[.slice ao2 n2 c2] 34)).alloc (.cells #[.slice none 0 0] 34)
  have q1 := P1.cell
  have h1 := h1.keep B0
  have P2 := (slot_last3 w (.cells #[.slice ao0 n0 c0] 34) (.cells #[.slice ao1 n1 c1] 34) (.slice ao2 n2 c2) 34).alloc (.cells #[.slice none 0 0] 34)
  have q2 := P2.cell
  have h2 := h2.keep B0
  have mark0 : True := trivial
  have mark1 : True := trivial
  go_enter Tryz.func37, Tryz.ntmps37
  go_wp2_with fail
  go_region_held3 (fun w' => w'.cell? ⟨w.heap.size, 0, none⟩ = some (.slice ao0 n0 c0) ∧ w'.cell? ⟨w.heap.size + 1, 0, none⟩ = some (.slice ao1 n1 c1) ∧ w'.cell? ⟨w.heap.size + 1 + 1, 0, none⟩ = some (.slice ao2 n2 c2)) (first | exact ⟨by assumption, by assumption, by assumption⟩ | go_keep)
    (first
    | (go_at_call 89; clear mark0; refine (dRounding false).mono ?_; rintro e w0 ⟨g, rfl, S, hB⟩; have S0 := S0.drew.keep hB; have P0 := P0.drew.keep hB; have P1 := P1.drew.keep hB; have P2 := P2.drew.keep hB; have h0 := h0.drew.keep hB; have h1 := h1.drew.keep hB; have h2 := h2.drew.keep hB; have q0 := P0.cell; have q1 := P1.cell; have q2 := P2.cell; have B0 := joinB B0.drew hB; clear hB)
    | (go_at_call 88; clear mark1; refine (dDivide h0 h1 h2 S hn0 hn1 hn2 hne).mono ?_; rintro e w1 ⟨a', k', d', rfl, hO', hk', hB⟩; have S1 := S0.keep hB; have cq1 := S1.cell; have fq1 := S1.free; have S2 := S1.put (.slice a' k' d'); have hOz := hO'.put S1 not_int (.slice a' k' d'); have P0 := P0.keep hB; have q0 := P0.cell; have r0 := (P0.other (g' := w.heap.size + 1 + 1 + 1) (by omega) (.slice a' k' d')).cell; have P1 := P1.keep hB; have q1 := P1.cell; have r1 := (P1.other (g' := w.heap.size + 1 + 1 + 1) (by omega) (.slice a' k' d')).cell; have P2 := P2.keep hB; have q2 := P2.cell; have r2 := (P2.other (g' := w.heap.size + 1 + 1 + 1) (by omega) (.slice a' k' d')).cell; have HB := belowPut B0 hB (g := w.heap.size + 1 + 1 + 1) (by omega) (.slice a' k' d'); clear h0 h1 h2 S0 P0 P1 P2 S hO' hB S1 B0))
  all_goals go_wp2
  all_goals refine bodyPost_ret (ret_dec_tmp rfl rfl rfl S2) rfl ?_
  all_goals exact ⟨a', k', d', rfl, by rw [← rnd_down]; exact hOz, by omega, HB⟩
set_option maxHeartbeats 4000000 in
set_option maxRecDepth 100000 in
theorem dMulDivZ {w : World} {ao0 : Option Addr} {n0 c0 : Nat} {x0 : Int} {ao1 : Option Addr} {n1 c1 : Nat} {x1 : Int} {ao2 : Option Addr} {n2 c2 : Nat} {x2 : Int} (h0 : NatA w ao0 n0 c0 x0) (hn0 : n0 ≤ 274877906944) (h1 : NatA w ao1 n1 c1 x1) (hn1 : n1 ≤ 274877906944) (h2 : NatA w ao2 n2 c2 x2) (hn2 : n2 ≤ 274877906944) (hz : x2 = 0) :
    Calls Tryz.prog 37 #[.agg #[.slice ao0 n0 c0], .agg #[.slice ao1 n1 c1], .agg #[.slice ao2 n2 c2]] w fun e w' => e = .returned (.tuple #[.agg #[.slice none 0 0], .int .i64 21]) ∧ Below w.heap.size w w' := by
  have B0 := below4 w (.cells #[.slice ao0 n0 c0] 34) (.cells #[.slice ao1 n1 c1] 34) (.cells #[.slice ao2 n2 c2] 34) (.cells #[.slice none 0 0] 34)
  have S0 := slot_last4 w (.cells #[.slice ao0 n0 c0] 34) (.cells #[.slice ao1 n1 c1] 34) (.cells #[.slice ao2 n2 c2] 34) (.slice none 0 0) 34
  have P0 := (((slot_new w (.slice ao0 n0 c0) 34).alloc (.cells #[.slice ao1 n1 c1] 34)).alloc (.cells #[.slice ao2 n2 c2] 34)).alloc (.cells #[.slice none 0 0] 34)
  have q0 := P0.cell
  have h0 := h0.keep B0
  have P1 := ((slot_last2 w (.cells #[.slice ao0 n0 c0] 34) (.slice ao1 n1 c1) 34).alloc (.cells #[.slice ao2 n2 c2] 34)).alloc (.cells #[.slice none 0 0] 34)
  have q1 := P1.cell
  have h1 := h1.keep B0
  have P2 := (slot_last3 w (.cells #[.slice ao0 n0 c0] 34) (.cells #[.slice ao1 n1 c1] 34) (.slice ao2 n2 c2) 34).alloc (.cells #[.slice none 0 0] 34)
  have q2 := P2.cell
  have h2 := h2.keep B0
  have mark0 : True := trivial
  have mark1 : True := trivial
  go_enter Tryz.func37, Tryz.ntmps37
  go_wp2_with fail
  go_region_held3 (fun w' => w'.cell? ⟨w.heap.size, 0, none⟩ = some (.slice ao0 n0 c0) ∧ w'.cell? ⟨w.heap.size + 1, 0, none⟩ = some (.slice ao1 n1 c1) ∧ w'.cell? ⟨w.heap.size + 1 + 1, 0, none⟩ = some (.slice ao2 n2 c2)) (first | exact ⟨by assumption, by assumption, by assumption⟩ | go_keep)
    (first
    | (go_at_call 89; clear mark0; refine (dRounding false).mono ?_; rintro e w0 ⟨g, rfl, S, hB⟩; have S0 := S0.drew.keep hB; have P0 := P0.drew.keep hB; have P1 := P1.drew.keep hB; have P2 := P2.drew.keep hB; have h0 := h0.drew.keep hB; have h1 := h1.drew.keep hB; have h2 := h2.drew.keep hB; have q0 := P0.cell; have q1 := P1.cell; have q2 := P2.cell; have B0 := joinB B0.drew hB; clear hB)
    | (go_at_call 88; clear mark1; refine (dDivideZero h0 h1 h2 hn0 hn1 hn2 hz).mono ?_; rintro e w1 ⟨rfl, hB⟩; have S1 := S0.keep hB; have cq1 := S1.cell; have fq1 := S1.free; have S2 := S1.put (.slice none 0 0); have P0 := P0.keep hB; have q0 := P0.cell; have r0 := (P0.other (g' := w.heap.size + 1 + 1 + 1) (by omega) (.slice none 0 0)).cell; have P1 := P1.keep hB; have q1 := P1.cell; have r1 := (P1.other (g' := w.heap.size + 1 + 1 + 1) (by omega) (.slice none 0 0)).cell; have P2 := P2.keep hB; have q2 := P2.cell; have r2 := (P2.other (g' := w.heap.size + 1 + 1 + 1) (by omega) (.slice none 0 0)).cell; have HB := belowPut B0 hB (g := w.heap.size + 1 + 1 + 1) (by omega) (.slice none 0 0); clear h0 h1 h2 S0 P0 P1 P2 S hB S1 B0))
  all_goals go_wp2
  all_goals refine bodyPost_ret (ret_dec_tmp rfl rfl rfl S2) rfl ?_
  all_goals exact ⟨rfl, HB⟩
set_option maxHeartbeats 4000000 in
set_option maxRecDepth 100000 in
theorem dMulDivUp {w : World} {ao0 : Option Addr} {n0 c0 : Nat} {x0 : Int} {ao1 : Option Addr} {n1 c1 : Nat} {x1 : Int} {ao2 : Option Addr} {n2 c2 : Nat} {x2 : Int} (h0 : NatA w ao0 n0 c0 x0) (hn0 : n0 ≤ 274877906944) (h1 : NatA w ao1 n1 c1 x1) (hn1 : n1 ≤ 274877906944) (h2 : NatA w ao2 n2 c2 x2) (hn2 : n2 ≤ 274877906944) (hne : x2 ≠ 0) :
    Calls Tryz.prog 39 #[.agg #[.slice ao0 n0 c0], .agg #[.slice ao1 n1 c1], .agg #[.slice ao2 n2 c2]] w fun e w' => ∃ a k d, e = .returned (.tuple #[.agg #[.slice a k d], .int .i64 0]) ∧ NatO w' a k d (rnd true (x0 * x1) x2) ∧ k ≤ n0 + n1 + 2 ∧ Below w.heap.size w w' := by
  have B0 := below4 w (.cells #[.slice ao0 n0 c0] 34) (.cells #[.slice ao1 n1 c1] 34) (.cells #[.slice ao2 n2 c2] 34) (.cells #[.slice none 0 0] 34)
  have S0 := slot_last4 w (.cells #[.slice ao0 n0 c0] 34) (.cells #[.slice ao1 n1 c1] 34) (.cells #[.slice ao2 n2 c2] 34) (.slice none 0 0) 34
  have P0 := (((slot_new w (.slice ao0 n0 c0) 34).alloc (.cells #[.slice ao1 n1 c1] 34)).alloc (.cells #[.slice ao2 n2 c2] 34)).alloc (.cells #[.slice none 0 0] 34)
  have q0 := P0.cell
  have h0 := h0.keep B0
  have P1 := ((slot_last2 w (.cells #[.slice ao0 n0 c0] 34) (.slice ao1 n1 c1) 34).alloc (.cells #[.slice ao2 n2 c2] 34)).alloc (.cells #[.slice none 0 0] 34)
  have q1 := P1.cell
  have h1 := h1.keep B0
  have P2 := (slot_last3 w (.cells #[.slice ao0 n0 c0] 34) (.cells #[.slice ao1 n1 c1] 34) (.slice ao2 n2 c2) 34).alloc (.cells #[.slice none 0 0] 34)
  have q2 := P2.cell
  have h2 := h2.keep B0
  have mark0 : True := trivial
  have mark1 : True := trivial
  go_enter Tryz.func39, Tryz.ntmps39
  go_wp2_with fail
  go_region_held3 (fun w' => w'.cell? ⟨w.heap.size, 0, none⟩ = some (.slice ao0 n0 c0) ∧ w'.cell? ⟨w.heap.size + 1, 0, none⟩ = some (.slice ao1 n1 c1) ∧ w'.cell? ⟨w.heap.size + 1 + 1, 0, none⟩ = some (.slice ao2 n2 c2)) (first | exact ⟨by assumption, by assumption, by assumption⟩ | go_keep)
    (first
    | (go_at_call 89; clear mark0; refine (dRounding true).mono ?_; rintro e w0 ⟨g, rfl, S, hB⟩; have S0 := S0.drew.keep hB; have P0 := P0.drew.keep hB; have P1 := P1.drew.keep hB; have P2 := P2.drew.keep hB; have h0 := h0.drew.keep hB; have h1 := h1.drew.keep hB; have h2 := h2.drew.keep hB; have q0 := P0.cell; have q1 := P1.cell; have q2 := P2.cell; have B0 := joinB B0.drew hB; clear hB)
    | (go_at_call 88; clear mark1; refine (dDivide h0 h1 h2 S hn0 hn1 hn2 hne).mono ?_; rintro e w1 ⟨a', k', d', rfl, hO', hk', hB⟩; have S1 := S0.keep hB; have cq1 := S1.cell; have fq1 := S1.free; have S2 := S1.put (.slice a' k' d'); have hOz := hO'.put S1 not_int (.slice a' k' d'); have P0 := P0.keep hB; have q0 := P0.cell; have r0 := (P0.other (g' := w.heap.size + 1 + 1 + 1) (by omega) (.slice a' k' d')).cell; have P1 := P1.keep hB; have q1 := P1.cell; have r1 := (P1.other (g' := w.heap.size + 1 + 1 + 1) (by omega) (.slice a' k' d')).cell; have P2 := P2.keep hB; have q2 := P2.cell; have r2 := (P2.other (g' := w.heap.size + 1 + 1 + 1) (by omega) (.slice a' k' d')).cell; have HB := belowPut B0 hB (g := w.heap.size + 1 + 1 + 1) (by omega) (.slice a' k' d'); clear h0 h1 h2 S0 P0 P1 P2 S hO' hB S1 B0))
  all_goals go_wp2
  all_goals refine bodyPost_ret (ret_dec_tmp rfl rfl rfl S2) rfl ?_
  all_goals exact ⟨a', k', d', rfl, hOz, by omega, HB⟩
set_option maxHeartbeats 4000000 in
set_option maxRecDepth 100000 in
theorem dMulDivUpZ {w : World} {ao0 : Option Addr} {n0 c0 : Nat} {x0 : Int} {ao1 : Option Addr} {n1 c1 : Nat} {x1 : Int} {ao2 : Option Addr} {n2 c2 : Nat} {x2 : Int} (h0 : NatA w ao0 n0 c0 x0) (hn0 : n0 ≤ 274877906944) (h1 : NatA w ao1 n1 c1 x1) (hn1 : n1 ≤ 274877906944) (h2 : NatA w ao2 n2 c2 x2) (hn2 : n2 ≤ 274877906944) (hz : x2 = 0) :
    Calls Tryz.prog 39 #[.agg #[.slice ao0 n0 c0], .agg #[.slice ao1 n1 c1], .agg #[.slice ao2 n2 c2]] w fun e w' => e = .returned (.tuple #[.agg #[.slice none 0 0], .int .i64 21]) ∧ Below w.heap.size w w' := by
  have B0 := below4 w (.cells #[.slice ao0 n0 c0] 34) (.cells #[.slice ao1 n1 c1] 34) (.cells #[.slice ao2 n2 c2] 34) (.cells #[.slice none 0 0] 34)
  have S0 := slot_last4 w (.cells #[.slice ao0 n0 c0] 34) (.cells #[.slice ao1 n1 c1] 34) (.cells #[.slice ao2 n2 c2] 34) (.slice none 0 0) 34
  have P0 := (((slot_new w (.slice ao0 n0 c0) 34).alloc (.cells #[.slice ao1 n1 c1] 34)).alloc (.cells #[.slice ao2 n2 c2] 34)).alloc (.cells #[.slice none 0 0] 34)
  have q0 := P0.cell
  have h0 := h0.keep B0
  have P1 := ((slot_last2 w (.cells #[.slice ao0 n0 c0] 34) (.slice ao1 n1 c1) 34).alloc (.cells #[.slice ao2 n2 c2] 34)).alloc (.cells #[.slice none 0 0] 34)
  have q1 := P1.cell
  have h1 := h1.keep B0
  have P2 := (slot_last3 w (.cells #[.slice ao0 n0 c0] 34) (.cells #[.slice ao1 n1 c1] 34) (.slice ao2 n2 c2) 34).alloc (.cells #[.slice none 0 0] 34)
  have q2 := P2.cell
  have h2 := h2.keep B0
  have mark0 : True := trivial
  have mark1 : True := trivial
  go_enter Tryz.func39, Tryz.ntmps39
  go_wp2_with fail
  go_region_held3 (fun w' => w'.cell? ⟨w.heap.size, 0, none⟩ = some (.slice ao0 n0 c0) ∧ w'.cell? ⟨w.heap.size + 1, 0, none⟩ = some (.slice ao1 n1 c1) ∧ w'.cell? ⟨w.heap.size + 1 + 1, 0, none⟩ = some (.slice ao2 n2 c2)) (first | exact ⟨by assumption, by assumption, by assumption⟩ | go_keep)
    (first
    | (go_at_call 89; clear mark0; refine (dRounding true).mono ?_; rintro e w0 ⟨g, rfl, S, hB⟩; have S0 := S0.drew.keep hB; have P0 := P0.drew.keep hB; have P1 := P1.drew.keep hB; have P2 := P2.drew.keep hB; have h0 := h0.drew.keep hB; have h1 := h1.drew.keep hB; have h2 := h2.drew.keep hB; have q0 := P0.cell; have q1 := P1.cell; have q2 := P2.cell; have B0 := joinB B0.drew hB; clear hB)
    | (go_at_call 88; clear mark1; refine (dDivideZero h0 h1 h2 hn0 hn1 hn2 hz).mono ?_; rintro e w1 ⟨rfl, hB⟩; have S1 := S0.keep hB; have cq1 := S1.cell; have fq1 := S1.free; have S2 := S1.put (.slice none 0 0); have P0 := P0.keep hB; have q0 := P0.cell; have r0 := (P0.other (g' := w.heap.size + 1 + 1 + 1) (by omega) (.slice none 0 0)).cell; have P1 := P1.keep hB; have q1 := P1.cell; have r1 := (P1.other (g' := w.heap.size + 1 + 1 + 1) (by omega) (.slice none 0 0)).cell; have P2 := P2.keep hB; have q2 := P2.cell; have r2 := (P2.other (g' := w.heap.size + 1 + 1 + 1) (by omega) (.slice none 0 0)).cell; have HB := belowPut B0 hB (g := w.heap.size + 1 + 1 + 1) (by omega) (.slice none 0 0); clear h0 h1 h2 S0 P0 P1 P2 S hB S1 B0))
  all_goals go_wp2
  all_goals refine bodyPost_ret (ret_dec_tmp rfl rfl rfl S2) rfl ?_
  all_goals exact ⟨rfl, HB⟩
set_option maxHeartbeats 4000000 in
set_option maxRecDepth 100000 in
theorem dQuo {w : World} {ao0 : Option Addr} {n0 c0 : Nat} {x0 : Int} {ao1 : Option Addr} {n1 c1 : Nat} {x1 : Int} (h0 : NatA w ao0 n0 c0 x0) (hn0 : n0 ≤ 274877906944) (h1 : NatA w ao1 n1 c1 x1) (hn1 : n1 ≤ 274877906944) (hne : x1 ≠ 0) :
    Calls Tryz.prog 35 #[.agg #[.slice ao0 n0 c0], .agg #[.slice ao1 n1 c1]] w fun e w' => ∃ a k d, e = .returned (.tuple #[.agg #[.slice a k d], .int .i64 0]) ∧ NatO w' a k d (x0 * U36 / x1) ∧ k ≤ n0 + 40 ∧ Below w.heap.size w w' := by
  have B0 := below3 w (.cells #[.slice ao0 n0 c0] 34) (.cells #[.slice ao1 n1 c1] 34) (.cells #[.slice none 0 0] 34)
  have S0 := slot_last3 w (.cells #[.slice ao0 n0 c0] 34) (.cells #[.slice ao1 n1 c1] 34) (.slice none 0 0) 34
  have P0 := ((slot_new w (.slice ao0 n0 c0) 34).alloc (.cells #[.slice ao1 n1 c1] 34)).alloc (.cells #[.slice none 0 0] 34)
  have q0 := P0.cell
  have h0 := h0.keep B0
  have P1 := (slot_last2 w (.cells #[.slice ao0 n0 c0] 34) (.slice ao1 n1 c1) 34).alloc (.cells #[.slice none 0 0] 34)
  have q1 := P1.cell
  have h1 := h1.keep B0
  have mark0 : True := trivial
  have mark1 : True := trivial
  have mark2 : True := trivial
  go_enter Tryz.func35, Tryz.ntmps35
  go_wp2_with fail
  go_region_held3 (fun w' => w'.cell? ⟨w.heap.size, 0, none⟩ = some (.slice ao0 n0 c0) ∧ w'.cell? ⟨w.heap.size + 1, 0, none⟩ = some (.slice ao1 n1 c1)) (first | exact ⟨by assumption, by assumption⟩ | go_keep)
    (first
    | (go_at_call 82; clear mark0; refine (dUnit).mono ?_; rintro e w0 ⟨au, ku, du, rfl, hU, hku, hB⟩; have S0 := S0.drew.keep hB; have P0 := P0.drew.keep hB; have P1 := P1.drew.keep hB; have h0 := h0.drew.keep hB; have h1 := h1.drew.keep hB; have q0 := P0.cell; have q1 := P1.cell; have B0 := joinB B0.drew hB; clear hB)
    | (go_at_call 89; clear mark1; refine (dRounding false).mono ?_; rintro e w1 ⟨g, rfl, S, hB⟩; have S0 := S0.keep hB; have P0 := P0.keep hB; have P1 := P1.keep hB; have h0 := h0.keep hB; have h1 := h1.keep hB; have hU := hU.keep hB; have q0 := P0.cell; have q1 := P1.cell; have B0 := joinB B0 hB; clear hB)
    | (go_at_call 88; clear mark2; refine (dDivide h0 hU.a h1 S hn0 (by omega) hn1 hne).mono ?_; rintro e w2 ⟨a', k', d', rfl, hO', hk', hB⟩; have S1 := S0.keep hB; have cq1 := S1.cell; have fq1 := S1.free; have S2 := S1.put (.slice a' k' d'); have hOz := hO'.put S1 not_int (.slice a' k' d'); have P0 := P0.keep hB; have q0 := P0.cell; have r0 := (P0.other (g' := w.heap.size + 1 + 1) (by omega) (.slice a' k' d')).cell; have P1 := P1.keep hB; have q1 := P1.cell; have r1 := (P1.other (g' := w.heap.size + 1 + 1) (by omega) (.slice a' k' d')).cell; have HB := belowPut B0 hB (g := w.heap.size + 1 + 1) (by omega) (.slice a' k' d'); clear h0 h1 hU S0 P0 P1 S hO' hB S1 B0))
  all_goals go_wp2
  all_goals refine bodyPost_ret (ret_dec_tmp rfl rfl rfl S2) rfl ?_
  all_goals exact ⟨a', k', d', rfl, by rw [← rnd_down]; exact hOz, by omega, HB⟩
set_option maxHeartbeats 4000000 in
set_option maxRecDepth 100000 in
theorem dQuoZ {w : World} {ao0 : Option Addr} {n0 c0 : Nat} {x0 : Int} {ao1 : Option Addr} {n1 c1 : Nat} {x1 : Int} (h0 : NatA w ao0 n0 c0 x0) (hn0 : n0 ≤ 274877906944) (h1 : NatA w ao1 n1 c1 x1) (hn1 : n1 ≤ 274877906944) (hz : x1 = 0) :
    Calls Tryz.prog 35 #[.agg #[.slice ao0 n0 c0], .agg #[.slice ao1 n1 c1]] w fun e w' => e = .returned (.tuple #[.agg #[.slice none 0 0], .int .i64 21]) ∧ Below w.heap.size w w' := by
  have B0 := below3 w (.cells #[.slice ao0 n0 c0] 34) (.cells #[.slice ao1 n1 c1] 34) (.cells #[.slice none 0 0] 34)
  have S0 := slot_last3 w (.cells #[.slice ao0 n0 c0] 34) (.cells #[.slice ao1 n1 c1] 34) (.slice none 0 0) 34
  have P0 := ((slot_new w (.slice ao0 n0 c0) 34).alloc (.cells #[.slice ao1 n1 c1] 34)).alloc (.cells #[.slice none 0 0] 34)
  have q0 := P0.cell
  have h0 := h0.keep B0
  have P1 := (slot_last2 w (.cells #[.slice ao0 n0 c0] 34) (.slice ao1 n1 c1) 34).alloc (.cells #[.slice none 0 0] 34)
  have q1 := P1.cell
  have h1 := h1.keep B0
  have mark0 : True := trivial
  have mark1 : True := trivial
  have mark2 : True := trivial
  go_enter Tryz.func35, Tryz.ntmps35
  go_wp2_with fail
  go_region_held3 (fun w' => w'.cell? ⟨w.heap.size, 0, none⟩ = some (.slice ao0 n0 c0) ∧ w'.cell? ⟨w.heap.size + 1, 0, none⟩ = some (.slice ao1 n1 c1)) (first | exact ⟨by assumption, by assumption⟩ | go_keep)
    (first
    | (go_at_call 82; clear mark0; refine (dUnit).mono ?_; rintro e w0 ⟨au, ku, du, rfl, hU, hku, hB⟩; have S0 := S0.drew.keep hB; have P0 := P0.drew.keep hB; have P1 := P1.drew.keep hB; have h0 := h0.drew.keep hB; have h1 := h1.drew.keep hB; have q0 := P0.cell; have q1 := P1.cell; have B0 := joinB B0.drew hB; clear hB)
    | (go_at_call 89; clear mark1; refine (dRounding false).mono ?_; rintro e w1 ⟨g, rfl, S, hB⟩; have S0 := S0.keep hB; have P0 := P0.keep hB; have P1 := P1.keep hB; have h0 := h0.keep hB; have h1 := h1.keep hB; have hU := hU.keep hB; have q0 := P0.cell; have q1 := P1.cell; have B0 := joinB B0 hB; clear hB)
    | (go_at_call 88; clear mark2; refine (dDivideZero h0 hU.a h1 hn0 (by omega) hn1 hz).mono ?_; rintro e w2 ⟨rfl, hB⟩; have S1 := S0.keep hB; have cq1 := S1.cell; have fq1 := S1.free; have S2 := S1.put (.slice none 0 0); have P0 := P0.keep hB; have q0 := P0.cell; have r0 := (P0.other (g' := w.heap.size + 1 + 1) (by omega) (.slice none 0 0)).cell; have P1 := P1.keep hB; have q1 := P1.cell; have r1 := (P1.other (g' := w.heap.size + 1 + 1) (by omega) (.slice none 0 0)).cell; have HB := belowPut B0 hB (g := w.heap.size + 1 + 1) (by omega) (.slice none 0 0); clear h0 h1 hU S0 P0 P1 S hB S1 B0))
  all_goals go_wp2
  all_goals refine bodyPost_ret (ret_dec_tmp rfl rfl rfl S2) rfl ?_
  all_goals exact ⟨rfl, HB⟩
set_option maxHeartbeats 4000000 in
set_option maxRecDepth 100000 in
theorem dOver {w : World} {ao0 : Option Addr} {n0 c0 : Nat} {x0 : Int} {y : Int} (h0 : NatA w ao0 n0 c0 x0) (hn0 : n0 ≤ 274877906944) (g0y : 0 ≤ y) (g1y : y < 18446744073709551616) (hne : y ≠ 0) :
    Calls Tryz.prog 41 #[.agg #[.slice ao0 n0 c0], .int .u64 y] w fun e w' => ∃ a k d, e = .returned (.tuple #[.agg #[.slice a k d], .int .i64 0]) ∧ NatO w' a k d (x0 / y) ∧ k ≤ n0 + 3 ∧ Below w.heap.size w w' := by
  have B0 := below2 w (.cells #[.slice ao0 n0 c0] 34) (.cells #[.slice none 0 0] 34)
  have S0 := slot_last2 w (.cells #[.slice ao0 n0 c0] 34) (.slice none 0 0) 34
  have P0 := (slot_new w (.slice ao0 n0 c0) 34).alloc (.cells #[.slice none 0 0] 34)
  have q0 := P0.cell
  have h0 := h0.keep B0
  have mark0 : True := trivial
  have mark1 : True := trivial
  have mark2 : True := trivial
  have mark3 : True := trivial
  go_enter Tryz.func41, Tryz.ntmps41
  go_wp2_with fail
  go_region_held3 (fun w' => w'.cell? ⟨w.heap.size, 0, none⟩ = some (.slice ao0 n0 c0)) (first | exact (by assumption) | go_keep)
    (first
    | (go_at_call 75; clear mark0; refine (nOf (x := 1) (by decide) (by decide)).mono ?_; rintro e w0 ⟨ao, ko, ddo, rfl, ho, hko, hB⟩; have S0 := S0.drew.keep hB; have P0 := P0.drew.keep hB; have h0 := h0.drew.keep hB; have q0 := P0.cell; have B0 := joinB B0.drew hB; clear hB)
    | (go_at_call 75; clear mark1; refine (nOf (x := y) g0y g1y).mono ?_; rintro e w1 ⟨an, kn, ddn, rfl, hn, hkn, hB⟩; have S0 := S0.keep hB; have P0 := P0.keep hB; have h0 := h0.keep hB; have ho := ho.keep hB; have q0 := P0.cell; have B0 := joinB B0 hB; clear hB)
    | (go_at_call 89; clear mark2; refine (dRounding false).mono ?_; rintro e w2 ⟨g, rfl, S, hB⟩; have S0 := S0.keep hB; have P0 := P0.keep hB; have h0 := h0.keep hB; have ho := ho.keep hB; have hn := hn.keep hB; have q0 := P0.cell; have B0 := joinB B0 hB; clear hB)
    | (go_at_call 88; clear mark3; refine (dDivide h0 ho.a hn.a S hn0 (by omega) (by omega) hne).mono ?_; rintro e w3 ⟨a', k', d', rfl, hO', hk', hB⟩; have S1 := S0.keep hB; have cq1 := S1.cell; have fq1 := S1.free; have S2 := S1.put (.slice a' k' d'); have hOz := hO'.put S1 not_int (.slice a' k' d'); have P0 := P0.keep hB; have q0 := P0.cell; have r0 := (P0.other (g' := w.heap.size + 1) (by omega) (.slice a' k' d')).cell; have HB := belowPut B0 hB (g := w.heap.size + 1) (by omega) (.slice a' k' d'); clear h0 ho hn S0 P0 S hO' hB S1 B0))
  all_goals go_wp2
  all_goals refine bodyPost_ret (ret_dec_tmp rfl rfl rfl S2) rfl ?_
  all_goals exact ⟨a', k', d', rfl, by rw [rnd_down, Int.mul_one] at hOz; exact hOz, by omega, HB⟩
set_option maxHeartbeats 4000000 in
set_option maxRecDepth 100000 in
theorem dOverZ {w : World} {ao0 : Option Addr} {n0 c0 : Nat} {x0 : Int} (h0 : NatA w ao0 n0 c0 x0) (hn0 : n0 ≤ 274877906944) :
    Calls Tryz.prog 41 #[.agg #[.slice ao0 n0 c0], .int .u64 0] w fun e w' => e = .returned (.tuple #[.agg #[.slice none 0 0], .int .i64 21]) ∧ Below w.heap.size w w' := by
  have B0 := below2 w (.cells #[.slice ao0 n0 c0] 34) (.cells #[.slice none 0 0] 34)
  have S0 := slot_last2 w (.cells #[.slice ao0 n0 c0] 34) (.slice none 0 0) 34
  have P0 := (slot_new w (.slice ao0 n0 c0) 34).alloc (.cells #[.slice none 0 0] 34)
  have q0 := P0.cell
  have h0 := h0.keep B0
  have mark0 : True := trivial
  have mark1 : True := trivial
  have mark2 : True := trivial
  have mark3 : True := trivial
  go_enter Tryz.func41, Tryz.ntmps41
  go_wp2_with fail
  go_region_held3 (fun w' => w'.cell? ⟨w.heap.size, 0, none⟩ = some (.slice ao0 n0 c0)) (first | exact (by assumption) | go_keep)
    (first
    | (go_at_call 75; clear mark0; refine (nOf (x := 1) (by decide) (by decide)).mono ?_; rintro e w0 ⟨ao, ko, ddo, rfl, ho, hko, hB⟩; have S0 := S0.drew.keep hB; have P0 := P0.drew.keep hB; have h0 := h0.drew.keep hB; have q0 := P0.cell; have B0 := joinB B0.drew hB; clear hB)
    | (go_at_call 75; clear mark1; refine (nOf (x := 0) (by decide) (by decide)).mono ?_; rintro e w1 ⟨an, kn, ddn, rfl, hn, hkn, hB⟩; have S0 := S0.keep hB; have P0 := P0.keep hB; have h0 := h0.keep hB; have ho := ho.keep hB; have q0 := P0.cell; have B0 := joinB B0 hB; clear hB)
    | (go_at_call 89; clear mark2; refine (dRounding false).mono ?_; rintro e w2 ⟨g, rfl, S, hB⟩; have S0 := S0.keep hB; have P0 := P0.keep hB; have h0 := h0.keep hB; have ho := ho.keep hB; have hn := hn.keep hB; have q0 := P0.cell; have B0 := joinB B0 hB; clear hB)
    | (go_at_call 88; clear mark3; refine (dDivideZero h0 ho.a hn.a hn0 (by omega) (by omega) rfl).mono ?_; rintro e w3 ⟨rfl, hB⟩; have S1 := S0.keep hB; have cq1 := S1.cell; have fq1 := S1.free; have S2 := S1.put (.slice none 0 0); have P0 := P0.keep hB; have q0 := P0.cell; have r0 := (P0.other (g' := w.heap.size + 1) (by omega) (.slice none 0 0)).cell; have HB := belowPut B0 hB (g := w.heap.size + 1) (by omega) (.slice none 0 0); clear h0 ho hn S0 P0 S hB S1 B0))
  all_goals go_wp2
  all_goals refine bodyPost_ret (ret_dec_tmp rfl rfl rfl S2) rfl ?_
  all_goals exact ⟨rfl, HB⟩
end Go.Proofs.YtpbiflfdfiebcabGreatDoor
