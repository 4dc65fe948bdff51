/- gleanlaw2.DecText returns true for every decimal and every text. -/
import Derived.Test.YtjihgkanbhccpaaGreatDoorJgd
import Derived.Test.YtjihgkanbhccpaaGreatDoorJge
import Derived.Test.YtjihgkanbhccpaaGreatDoorJda
import Derived.Test.YtjihgkanbhccpaaGreatDoorJea
namespace Go.Proofs.YtjihgkanbhccpaaGreatDoor
namespace decText
open Go.RowKit Lim

theorem str_same {w : World} {a : Act} {o : Oper} {x y : Nat} {s : ByteArray} (ho : o.op = .binOp .eql 9 (.tmp x) (.tmp y) 9) (hx : a.eval (.tmp x) = .string s) (hy : a.eval (.tmp y) = .string s) :
    (execOp a.eval o).run Tryz.prog w = .ok (.value (.bool true)) w := by
  simp only [execOp, ho, hx, hy]
  go_simp
theorem dtext_eq {S T : ByteArray} {x : Int} (h : DText S x) (k : DText T x) : S = T := by
  obtain ⟨A, h1, h2⟩ := h.ex
  obtain ⟨B, k1, k2⟩ := k.ex
  have e := textOf_eq h1 k1
  subst e
  have : S.data.toList = T.data.toList := by rw [h2, k2]
  have e2 : S.data = T.data := Array.toList_inj.1 this
  cases S
  cases T
  cases e2
  rfl
theorem appAll_tab {w0 w : World} (htab : Lib.TabIs Tryz.prog w0 "internal/strconv.uint64pow10" .u64 Lib.pow10Tab) (hb0 : Below w0.heap.size w0 w) (x : Int) : AppAll w x :=
  fun g g1 g2 g3 g4 wx hb => app_any htab _ g4 (by have := (g1 _ (nth_mem (Nat.sub_lt (Nat.pos_of_ne_zero (fun e => g3 (List.eq_nil_of_length_eq_zero e))) Nat.one_pos))).2; omega) wx (joinB hb0 hb)
set_option maxHeartbeats 16000000 in
set_option maxRecDepth 100000 in
theorem walk (a0 : Option Addr) (len0 cap0 : Nat) (z0 : List Int) (s1 : ByteArray) (w : World) (w0 : IsRow w a0 len0 cap0 z0) (ws1 : s1.size ≤ maxLen) (htab : Lib.TabIs Tryz.prog w "internal/strconv.uint64pow10" .u64 Lib.pow10Tab) :
    Calls Tryz.prog 11 #[.agg #[.slice a0 len0 cap0], .string s1] w fun e w' => e = .returned (.bool true) ∧ Below w.heap.size w w' := by
  obtain ⟨g0, o0, l0, hl0, hc0, hm0, W0, h0⟩ := w0.open
  have N0 : NatA w a0 len0 cap0 (val l0) := ⟨g0, o0, l0, hl0, hc0, W0, h0, rfl⟩
  clear h0 w0 W0 hl0
  have HB := Below.refl w.heap.size w
  have P0 := box_new (w) [.slice a0 len0 cap0] 46
  have BA := below_alloc (w) (.cells #[.slice a0 len0 cap0] 46)
  replace N0 := N0.keep BA
  replace HB := joinB HB BA
  clear BA
  go_enter Tryz.func11, Tryz.ntmps11
  go_wp2_with fail
  generalize w.alloc (.cells #[.slice a0 len0 cap0] 46) = u0 at *
  refine (knownD u0).mono ?_
  rintro e u1 ⟨rfl, hB⟩
  replace N0 := N0.keep hB
  replace P0 := P0.keep hB
  replace HB := joinB HB hB
  clear hB
  have bS := below_alloc u1 (.cells #[.slice a0 len0 cap0] 46)
  have tS := smallD_any [(a0, len0, cap0)] u1.heap.size 1 1 (u1.alloc (.cells #[.slice a0 len0 cap0] 46)) rfl (by decide)
    (fun i => by
      match i with
      | 0 => exact hm0
      | _ + 1 => exact Nat.zero_le _)
    (fun i hi => by
      rw [cell_new]
      match i, hi with
      | 0, _ => rfl)
  have c1P0 := P0.slot.cell
  go_wp2_with fail
  refine tS.mono ?_
  rintro e u2 ⟨rfl, rfl⟩
  clear tS
  clear c1P0
  replace N0 := N0.keep bS
  replace P0 := P0.keep bS
  replace HB := joinB HB bS
  clear bS
  generalize u1.alloc (.cells #[.slice a0 len0 cap0] 46) = u2 at *
  generalize u1.heap.size = gs at *
  by_cases hsm : smallD [(a0, len0, cap0)] = true
  rotate_left
  · have hsf : smallD [(a0, len0, cap0)] = false := by rw [Bool.not_eq_true] at hsm; exact hsm
    rw [hsf]
    have c1P0 := P0.slot.cell
    go_wp2
    go_ret
    exact ⟨rfl, HB⟩
  rw [hsm]
  simp only [smallD, List.all_cons, List.all_nil, Bool.and_true, decide_eq_true_eq] at hsm
  have hs0 := hsm
  clear hsm
  have hmx : s1.size ≤ 9223372036854775807 := by unfold maxLen at ws1; exact ws1
  clear ws1
  by_cases h8 : s1.size ≤ 800
  rotate_left
  · have h8' : (800 : Int) < s1.size := by omega
    have c1P0 := P0.slot.cell
    go_wp2
    go_ret
    exact ⟨rfl, HB⟩
  have h8' : (s1.size : Int) ≤ 800 := by omega
  generalize val l0 = xa at *
  have hxa := N0.nonneg
  have c1P0 := P0.slot.cell
  go_wp2_with fail
  refine (dParseV s1 _ (by omega)).mono ?_
  rintro e x1 ⟨Ap, Np, Cp, rfl, Op, hkp, hB⟩
  clear c1P0
  replace N0 := N0.keep hB
  replace P0 := P0.keep hB
  replace HB := joinB HB hB
  clear hB
  have BA := below_alloc x1 (.cells #[.slice Ap Np Cp] 46)
  have Xp := box_new x1 [.slice Ap Np Cp] 46
  replace N0 := N0.keep BA
  replace P0 := P0.keep BA
  replace Op := Op.keep BA
  replace HB := joinB HB BA
  clear BA
  have c1P0 := P0.slot.cell
  have c1Xp := Xp.slot.cell
  go_wp2_with fail
  clear c1P0 c1Xp
  generalize x1.alloc (.cells #[.slice Ap Np Cp] 46) = y1 at *
  generalize x1.heap.size = gp at *
  refine (eParse s1 (by omega)).mono ?_
  rintro e c2w ⟨Aq, Nq, Cq, rfl, Oq, hkq, hB⟩
  replace N0 := N0.keep hB
  replace P0 := P0.keep hB
  replace Op := Op.keep hB
  replace Xp := Xp.keep hB
  replace HB := joinB HB hB
  clear hB
  have BA := below_alloc c2w (.cells #[.slice Aq Nq Cq] 46)
  have Xq := box_new c2w [.slice Aq Nq Cq] 46
  replace N0 := N0.keep BA
  replace P0 := P0.keep BA
  replace Op := Op.keep BA
  replace Xp := Xp.keep BA
  replace Oq := Oq.keep BA
  replace HB := joinB HB BA
  clear BA
  have c1P0 := P0.slot.cell
  have c1Xp := Xp.slot.cell
  have c1Xq := Xq.slot.cell
  go_wp2_with fail
  clear c1P0 c1Xp c1Xq
  generalize c2w.alloc (.cells #[.slice Aq Nq Cq] 46) = y2 at *
  generalize c2w.heap.size = gq at *
  generalize decPV s1.data.toList = pv at *
  generalize decPE s1.data.toList = pe at *
  refine rg_start (S := fun w' => Below y2.drew.heap.size y2.drew w') (by kernel_rfl) (Below.refl _ _) ?_
  replace N0 := N0.drew
  replace P0 := P0.drew
  replace Op := Op.drew
  replace Xp := Xp.drew
  replace Oq := Oq.drew
  replace Xq := Xq.drew
  replace HB := HB.drew
  have UP0 := P0
  have UXp := Xp
  have UXq := Xq
  have hS := Below.refl y2.drew.heap.size y2.drew
  clear P0 Xp Xq
  refine rg_load 0 (some 30) (.agg #[.slice a0 len0 cap0]) 46 2 (w.heap.size) 0 (by kernel_rfl) (by kernel_rfl) (by kernel_rfl) (fun _ hb => load_dec ((UP0.keep hb).slot)) (fun _ _ _ h => h) hS ?_
  refine rg_load 2 (some 32) (.agg #[.slice a0 len0 cap0]) 46 2 (w.heap.size) 0 (by kernel_rfl) (by kernel_rfl) (by kernel_rfl) (fun _ hb => load_dec ((UP0.keep hb).slot)) (fun _ _ _ h => h) hS ?_
  refine rg_call 1 (some 31) 70 #[.agg #[.slice a0 len0 cap0]] (by kernel_rfl) (by kernel_rfl) (dText N0 (by omega) (appAll_tab htab HB (xa / U36))) ?_
  rintro e r7x1 ⟨TS, rfl, hTS, hTz, hB⟩
  refine ⟨_, rfl, joinB hS hB, ?_⟩
  replace hS := joinB hS hB
  replace N0 := N0.keep hB
  replace Op := Op.keep hB
  replace Oq := Oq.keep hB
  replace HB := joinB HB hB
  clear hB
  refine rg_call 3 (some 33) 71 #[.agg #[.slice a0 len0 cap0]] (by kernel_rfl) (by kernel_rfl) (eText N0 (by omega)) ?_
  rintro e r7x2 ⟨US, rfl, hUS, hUz, hB⟩
  refine ⟨_, rfl, joinB hS hB, ?_⟩
  replace hS := joinB hS hB
  replace N0 := N0.keep hB
  replace Op := Op.keep hB
  replace Oq := Oq.keep hB
  replace HB := joinB HB hB
  clear hB
  obtain rfl : TS = US := dtext_eq hTS hUS
  refine rg_take 4 (some 34) (.bool true) (by kernel_rfl) (fun _ _ => str_same (s := TS) (x := 31) (y := 33) (by kernel_rfl) (by kernel_rfl) (by kernel_rfl)) (fun _ _ _ h => h) hS ?_
  refine rg_take 5 (some 35) (.bool true) (by kernel_rfl) (fun _ _ => by kernel_rfl) (fun _ _ _ h => h) hS ?_
  refine rg_load 6 (some 36) (.agg #[.slice Ap Np Cp]) 46 5 (gp) 0 (by kernel_rfl) (by kernel_rfl) (by kernel_rfl) (fun _ hb => load_dec ((UXp.keep hb).slot)) (fun _ _ _ h => h) hS ?_
  refine rg_load 7 (some 37) (.agg #[.slice Aq Nq Cq]) 46 7 (gq) 0 (by kernel_rfl) (by kernel_rfl) (by kernel_rfl) (fun _ hb => load_dec ((UXq.keep hb).slot)) (fun _ _ _ h => h) hS ?_
  refine rg_call 8 (some 38) 36 #[.agg #[.slice Ap Np Cp], .agg #[.slice Aq Nq Cq]] (by kernel_rfl) (by kernel_rfl) (hDecT Op Oq (by omega) (by omega)) ?_
  rintro e r7x3 ⟨rfl, hB⟩
  refine ⟨_, rfl, joinB hS hB, ?_⟩
  replace hS := joinB hS hB
  replace N0 := N0.keep hB
  replace Op := Op.keep hB
  replace Oq := Oq.keep hB
  replace HB := joinB HB hB
  clear hB
  refine rg_take 9 (some 39) (.bool true) (by kernel_rfl) (fun _ _ => by kernel_rfl) (fun _ _ _ h => h) hS ?_
  refine rg_take 10 (some 40) (.bool true) (by kernel_rfl) (fun _ _ => by kernel_rfl) (fun _ _ _ h => h) hS ?_
  refine rg_take 11 (some 41) (.int .i64 (pe)) (by kernel_rfl) (fun _ _ => by kernel_rfl) (fun _ _ _ h => h) hS ?_
  refine rg_take 12 (some 42) (.int .i64 (pe)) (by kernel_rfl) (fun _ _ => by kernel_rfl) (fun _ _ _ h => h) hS ?_
  refine rg_eq 13 (some 43) (.bool ((pe : Int) == pe)) (.bool true) (by rw [beq_self_eq_true]) (by kernel_rfl) (fun _ _ => by kernel_rfl) (fun _ _ _ h => h) hS ?_
  refine rg_take 14 (some 44) (.bool true) (by kernel_rfl) (fun _ _ => by kernel_rfl) (fun _ _ _ h => h) hS ?_
  refine rg_take 15 (some 4) (.bool true) (by kernel_rfl) (fun _ _ => by kernel_rfl) (fun _ _ _ h => h) hS ?_
  refine rg_done (by kernel_rfl) ?_
  clear hS UP0 UXp UXq
  try simp only [Act.put, List.setIfInBounds_toArray, List.set_cons_zero, List.set_cons_succ]
  go_wp2
  go_ret
  exact ⟨rfl, HB⟩
end decText
end Go.Proofs.YtjihgkanbhccpaaGreatDoor
