/- gleanlaw6.KVLast. -/
import Derived.Test.YtipokbenolekbaaJqa
namespace Go.Proofs.Ytipokbenolekbaa
namespace Kv
open Go.RowKit Go.Lib Pg
attribute [local go_sem] Oper.semAt_some
set_option maxHeartbeats 8000000 in
set_option maxRecDepth 100000 in
theorem kVLast_walk {w : World} {ao : Option Addr} {n c : Nat} {ss : List Ste} (S : StesA w ao n ss) :
    Calls Try.prog 8 #[.slice ao n c] w fun e w' => e = .returned (.bool true) ∧ Below w.heap.size w w' := by
  have t1 := known_any (w := w)
  have t2 := fun w' (hB : Below w.heap.size w w') => light_any (c := c) (S.keep hB)
  have HS : Hid _ := S
  obtain ⟨l1, hl1⟩ : ∃ l1, Hid (lite n (hvy ss) = l1) := ⟨_, rfl⟩
  rw [hl1.out] at t2
  clear S
  cases l1 with
  | false =>
    clear HS hl1
    go_enter Try.func8, Try.ntmps8
    go_wp2_with first
      | (go_at_call 9; refine t1.mono ?_; rintro e w1 ⟨rfl, B1⟩; clear t1)
      | (go_at_call 10; refine (t2 _ B1).mono ?_; rintro e w2 ⟨rfl, B2⟩; replace B1 := joinB B1 B2; clear t2 B2)
    go_ret
    exact ⟨rfl, B1⟩
  | true =>
    have hn := (lite_yes hl1.out).2
    have HL := hid3 (lite_yes hl1.out).1
    clear hl1
    go_enter Try.func8, Try.ntmps8
    go_wp2_with first
      | (go_at_call 9; refine t1.mono ?_; rintro e w1 ⟨rfl, B1⟩; clear t1)
      | (go_at_call 10; refine (t2 _ B1).mono ?_; rintro e w2 ⟨rfl, B2⟩; replace B1 := joinB B1 B2; clear t2 B2)
      | (go_at_call 11; refine (bnew B1).mono ?_; rintro e w5 ⟨g, rfl, H5⟩; clear B1)
    have H6' := hid3 H5
    clear H5
    go_loopw [4] (fun ti wr => ∃ k : Nat, k ≤ n ∧ ti = .int .i64 k ∧ Hid (∃ W, KB w wr ⟨[], [], []⟩ g (run ss k) W k)) (fun ti _ => n - (intOf ti).toNat)
    case atStart => exact ⟨0, Nat.zero_le _, rfl, _, H6'.out⟩
    case round =>
      clear H6'
      obtain ⟨k, hk, rfl, HX⟩ := hrel
      by_cases hlt : k < n
      · obtain ⟨W, X⟩ := HX.out
        obtain ⟨s, b, o, e1, rfl, C0, A0⟩ := HS.out.at hlt
        have C := C0.keep X.below
        have c0 := C.c0
        have c1 := C.c1
        have c2 := C.c2
        have c3 := C.c3
        have HA := hid3 A0
        have HCC := hid3 C0
        have HM := hid3 X
        have HRU := hid3 (run_at e1)
        have hk0 : (k : Int) < n := by omega
        have hkl2 : s.kl.length ≤ 8000 := by have := hvy_mem e1; have := HL.out; omega
        clear C C0 A0 X HX e1
        obtain ⟨what, num, ka, kc, kl, va, vc, vl⟩ := s
        simp only [Ste.kv, Ste.vv] at c0 c1 c2 c3 hkl2
        by_cases h8 : what = 8
        · subst h8
          go_wp2_with first
            | (go_at_call 19; go_must (refine (bbegin HM.out rfl).mono ?_); rintro e w7 ⟨rfl, H7⟩; have C2 := HCC.out.keep H7.below; have f0 := C2.c0; have f1 := C2.c1; have f2 := C2.c2; have f3 := C2.c3; simp only [Ste.kv, Ste.vv] at f0 f1 f2 f3; clear C2)
            | (go_at_call 27; go_must (refine (change_any H7 (.inl HA.out.k) (.inl HA.out.v) (Nat.le_trans hkl2 (by decide)) (by omega) ⟨HA.out.w1, HA.out.w2⟩).mono ?_); rintro e w8 ⟨rfl, Y⟩)
          go_roundw
          case rel => exact ⟨k + 1, by omega, by go_num, _, by rw [HRU.out]; exact Y⟩
          case measure => simp [intOf]; omega
        · by_cases h9 : what = 9
          · subst h9
            go_wp2_with first
              | (go_at_call 21; go_must (refine (bcommit HM.out (by omega) rfl).mono ?_); rintro e w7 ⟨rfl, H7⟩; have C2 := HCC.out.keep H7.below; have f0 := C2.c0; have f1 := C2.c1; have f2 := C2.c2; have f3 := C2.c3; simp only [Ste.kv, Ste.vv] at f0 f1 f2 f3; clear C2)
              | (go_at_call 27; go_must (refine (change_any H7 (.inl HA.out.k) (.inl HA.out.v) (Nat.le_trans hkl2 (by decide)) (by omega) ⟨HA.out.w1, HA.out.w2⟩).mono ?_); rintro e w8 ⟨rfl, Y⟩)
            go_roundw
            case rel => exact ⟨k + 1, by omega, by go_num, _, by rw [HRU.out]; exact Y⟩
            case measure => simp [intOf]; omega
          · have q8 : (what = 8) = False := eq_false h8
            have q9 : (what = 9) = False := eq_false h9
            go_wp2_with first
              | (go_at_call 27; go_must (refine (change_any HM.out (.inl HA.out.k) (.inl HA.out.v) (Nat.le_trans hkl2 (by decide)) (by omega) ⟨HA.out.w1, HA.out.w2⟩).mono ?_); rintro e w8 ⟨rfl, Y⟩)
            go_roundw
            case rel => exact ⟨k + 1, by omega, by go_num, _, by rw [HRU.out]; exact Y⟩
            case measure => simp [intOf]; omega
      · obtain rfl : k = n := by omega
        obtain ⟨W, X⟩ := HX.out
        have HM := hid3 (X.more (B' := 400) (by omega))
        clear X HX
        go_wp2_with fail
        go_loopw [5] (fun ti wr => ∃ i : Nat, i ≤ k ∧ ti = .int .i64 i ∧ Hid (KB w wr ⟨[], [], []⟩ g (run ss k) W (400 + 2 * i))) (fun ti _ => k - (intOf ti).toNat)
        case atStart => exact ⟨0, Nat.zero_le _, rfl, HM⟩
        case round =>
          clear HM
          obtain ⟨i, hi, rfl, HX⟩ := hrel
          by_cases hli : i < k
          · obtain ⟨r, b, o, e1, rfl, C0, A0⟩ := HS.out.at hli
            have HR := hid3 A0
            have HRC := hid3 C0
            have hrl : r.kl.length ≤ 8000 := by have := hvy_mem e1; have := HL.out; omega
            have hi0 : (i : Int) < k := by omega
            clear C0 A0 e1
            go_wp2_with fail
            go_loopw [6, 7] (fun tl tk wr => ∃ j : Nat, j ≤ k ∧ tk = .int .i64 j ∧ tl = .int .i64 (lastI ss r.kl j) ∧ Hid (KB w wr ⟨[], [], []⟩ g (run ss k) W (400 + 2 * i))) (fun _ tk _ => k - (intOf tk).toNat)
            case atStart => exact ⟨0, Nat.zero_le _, rfl, rfl, HX⟩
            case round =>
              clear HX
              obtain ⟨j, hj, rfl, rfl, HM⟩ := hrel
              by_cases hlj : j < k
              · obtain ⟨s, hsj⟩ : ∃ s, Hid (ss[j]? = some s) := ⟨ss[j]'(by have := HS.out.len; omega), List.getElem?_eq_getElem _⟩
                have HA := hid3 (HS.out.ata hsj.out).2
                have HC := hid3 (HS.out.ata hsj.out).1
                have hsl : s.kl.length ≤ 8000 := by have := hvy_mem hsj.out; have := HL.out; omega
                have hj0 : (j : Int) < k := by omega
                by_cases heq : s.kl = r.kl
                · by_cases hw0 : s.what.tmod 2 = 0
                  · have hodd : (s.what.tmod 2 != 0) = false := by rw [hw0]; rfl
                    by_cases hone : (1 : Int) ≤ s.kl.length
                    · by_cases hsix : (s.kl.length : Int) ≤ 64
                      · by_cases hfour : (s.vl.length : Int) ≤ 4096
                        · have GD := hid3 (show good s from .inr ⟨by omega, by omega, by omega⟩)
                          go_wp2_with fail
                          have hS : SteC wr.drew b (o + j * 4) s ∧ SteC wr.drew b (o + i * 4) r := ⟨HC.out.keep HM.out.drew.below, HRC.out.keep HM.out.drew.below⟩
                          refine rg_start (S := fun w' => SteC w' b (o + j * 4) s ∧ SteC w' b (o + i * 4) r) (by kernel_rfl) hS ?_
                          refine rg_take 0 (some 57) (.slice (some ⟨b, o, none⟩) k c) (by kernel_rfl) (fun _ _ => by kernel_rfl) (fun _ _ _ h => h) hS ?_
                          refine rg_take 1 (some 58) (.int .i64 j) (by kernel_rfl) (fun _ _ => by kernel_rfl) (fun _ _ _ h => h) hS ?_
                          refine rg_take 2 (some 59) (.pointer (some ⟨b, o + j * 4, none⟩)) (by kernel_rfl) (fun _ _ => run_st (x := 57) (y := 58) (k := j) (n := k) (c := c) (by kernel_rfl) (by kernel_rfl) (by kernel_rfl) rfl hlj) (fun _ _ _ h => h) hS ?_
                          refine rg_take 3 (some 60) (.pointer (some ⟨b, o + j * 4 + 2, none⟩)) (by kernel_rfl) (fun _ _ => by kernel_rfl) (fun _ _ _ h => h) hS ?_
                          refine rg_load 4 (some 61) (.slice s.ka s.kl.length s.kc) 32 60 (b) (o + j * 4 + 2) (by kernel_rfl) (by kernel_rfl) (by kernel_rfl) (fun w' h => ld_b h.1.c2) (fun _ _ _ h => h) hS ?_
                          refine rg_take 5 (some 62) (.slice (some ⟨b, o, none⟩) k c) (by kernel_rfl) (fun _ _ => by kernel_rfl) (fun _ _ _ h => h) hS ?_
                          refine rg_take 6 (some 63) (.int .i64 i) (by kernel_rfl) (fun _ _ => by kernel_rfl) (fun _ _ _ h => h) hS ?_
                          refine rg_take 7 (some 64) (.pointer (some ⟨b, o + i * 4, none⟩)) (by kernel_rfl) (fun _ _ => run_st (x := 62) (y := 63) (k := i) (n := k) (c := c) (by kernel_rfl) (by kernel_rfl) (by kernel_rfl) rfl hli) (fun _ _ _ h => h) hS ?_
                          refine rg_take 8 (some 65) (.pointer (some ⟨b, o + i * 4 + 2, none⟩)) (by kernel_rfl) (fun _ _ => by kernel_rfl) (fun _ _ _ h => h) hS ?_
                          refine rg_load 9 (some 66) (.slice r.ka r.kl.length r.kc) 32 65 (b) (o + i * 4 + 2) (by kernel_rfl) (by kernel_rfl) (by kernel_rfl) (fun w' h => ld_b h.2.c2) (fun _ _ _ h => h) hS ?_
                          refine rg_call 10 (some 67) 23 #[.slice s.ka s.kl.length s.kc, .slice r.ka r.kl.length r.kc] (by kernel_rfl) (by kernel_rfl) (bbytes (r := true) HM.out.drew (.inl HA.out.k) (.inl HR.out.k) (by omega) (by omega) (decide_eq_true heq)) ?_
                          rintro e' w7 ⟨rfl, X7⟩
                          have hS7 : SteC w7 b (o + j * 4) s ∧ SteC w7 b (o + i * 4) r := ⟨HC.out.keep X7.below, HRC.out.keep X7.below⟩
                          refine ⟨_, rfl, hS7, ?_⟩
                          clear hS
                          have hS := hS7
                          refine rg_take 11 (some 68) (.bool true) (by kernel_rfl) (fun _ _ => by kernel_rfl) (fun _ _ _ h => h) hS ?_
                          refine rg_take 12 (some 69) (.slice (some ⟨b, o, none⟩) k c) (by kernel_rfl) (fun _ _ => by kernel_rfl) (fun _ _ _ h => h) hS ?_
                          refine rg_take 13 (some 70) (.int .i64 j) (by kernel_rfl) (fun _ _ => by kernel_rfl) (fun _ _ _ h => h) hS ?_
                          refine rg_take 14 (some 71) (.pointer (some ⟨b, o + j * 4, none⟩)) (by kernel_rfl) (fun _ _ => run_st (x := 69) (y := 70) (k := j) (n := k) (c := c) (by kernel_rfl) (by kernel_rfl) (by kernel_rfl) rfl hlj) (fun _ _ _ h => h) hS ?_
                          refine rg_take 15 (some 72) (.pointer (some ⟨b, o + j * 4, none⟩)) (by kernel_rfl) (fun _ _ => by kernel_rfl) (fun _ _ _ h => h) hS ?_
                          refine rg_load 16 (some 73) (.int .i64 s.what) 3 72 (b) (o + j * 4) (by kernel_rfl) (by kernel_rfl) (by kernel_rfl) (fun w' h => ld_i h.1.c0) (fun _ _ _ h => h) hS ?_
                          refine rg_take 17 (some 74) (.int .i64 (s.what.tmod 2)) (by kernel_rfl) (fun _ _ => by kernel_rfl) (fun _ _ _ h => h) hS ?_
                          refine rg_eq 18 (some 75) (.bool (s.what.tmod 2 != 0)) (.bool false) (by rw [hodd]) (by kernel_rfl) (fun _ _ => by kernel_rfl) (fun _ _ _ h => h) hS ?_
                          refine rg_take 19 (some 76) (.bool false) (by kernel_rfl) (fun _ _ => by kernel_rfl) (fun _ _ _ h => h) hS ?_
                          refine rg_take 20 (some 77) (.slice (some ⟨b, o, none⟩) k c) (by kernel_rfl) (fun _ _ => by kernel_rfl) (fun _ _ _ h => h) hS ?_
                          refine rg_take 21 (some 78) (.int .i64 j) (by kernel_rfl) (fun _ _ => by kernel_rfl) (fun _ _ _ h => h) hS ?_
                          refine rg_take 22 (some 79) (.pointer (some ⟨b, o + j * 4, none⟩)) (by kernel_rfl) (fun _ _ => run_st (x := 77) (y := 78) (k := j) (n := k) (c := c) (by kernel_rfl) (by kernel_rfl) (by kernel_rfl) rfl hlj) (fun _ _ _ h => h) hS ?_
                          refine rg_take 23 (some 80) (.pointer (some ⟨b, o + j * 4 + 2, none⟩)) (by kernel_rfl) (fun _ _ => by kernel_rfl) (fun _ _ _ h => h) hS ?_
                          refine rg_load 24 (some 81) (.slice s.ka s.kl.length s.kc) 32 80 (b) (o + j * 4 + 2) (by kernel_rfl) (by kernel_rfl) (by kernel_rfl) (fun w' h => ld_b h.1.c2) (fun _ _ _ h => h) hS ?_
                          refine rg_take 25 (some 82) (.int .i64 s.kl.length) (by kernel_rfl) (fun _ _ => by kernel_rfl) (fun _ _ _ h => h) hS ?_
                          refine rg_eq 26 (some 83) (.bool (decide ((1 : Int) ≤ s.kl.length))) (.bool true) (by rw [decide_eq_true (by omega)]) (by kernel_rfl) (fun _ _ => by kernel_rfl) (fun _ _ _ h => h) hS ?_
                          refine rg_take 27 (some 84) (.bool true) (by kernel_rfl) (fun _ _ => by kernel_rfl) (fun _ _ _ h => h) hS ?_
                          refine rg_take 28 (some 85) (.slice (some ⟨b, o, none⟩) k c) (by kernel_rfl) (fun _ _ => by kernel_rfl) (fun _ _ _ h => h) hS ?_
                          refine rg_take 29 (some 86) (.int .i64 j) (by kernel_rfl) (fun _ _ => by kernel_rfl) (fun _ _ _ h => h) hS ?_
                          refine rg_take 30 (some 87) (.pointer (some ⟨b, o + j * 4, none⟩)) (by kernel_rfl) (fun _ _ => run_st (x := 85) (y := 86) (k := j) (n := k) (c := c) (by kernel_rfl) (by kernel_rfl) (by kernel_rfl) rfl hlj) (fun _ _ _ h => h) hS ?_
                          refine rg_take 31 (some 88) (.pointer (some ⟨b, o + j * 4 + 2, none⟩)) (by kernel_rfl) (fun _ _ => by kernel_rfl) (fun _ _ _ h => h) hS ?_
                          refine rg_load 32 (some 89) (.slice s.ka s.kl.length s.kc) 32 88 (b) (o + j * 4 + 2) (by kernel_rfl) (by kernel_rfl) (by kernel_rfl) (fun w' h => ld_b h.1.c2) (fun _ _ _ h => h) hS ?_
                          refine rg_take 33 (some 90) (.int .i64 s.kl.length) (by kernel_rfl) (fun _ _ => by kernel_rfl) (fun _ _ _ h => h) hS ?_
                          refine rg_eq 34 (some 91) (.bool (decide ((s.kl.length : Int) ≤ 64))) (.bool true) (by rw [decide_eq_true (by omega)]) (by kernel_rfl) (fun _ _ => by kernel_rfl) (fun _ _ _ h => h) hS ?_
                          refine rg_take 35 (some 92) (.bool true) (by kernel_rfl) (fun _ _ => by kernel_rfl) (fun _ _ _ h => h) hS ?_
                          refine rg_take 36 (some 93) (.bool true) (by kernel_rfl) (fun _ _ => by kernel_rfl) (fun _ _ _ h => h) hS ?_
                          refine rg_take 37 (some 94) (.slice (some ⟨b, o, none⟩) k c) (by kernel_rfl) (fun _ _ => by kernel_rfl) (fun _ _ _ h => h) hS ?_
                          refine rg_take 38 (some 95) (.int .i64 j) (by kernel_rfl) (fun _ _ => by kernel_rfl) (fun _ _ _ h => h) hS ?_
                          refine rg_take 39 (some 96) (.pointer (some ⟨b, o + j * 4, none⟩)) (by kernel_rfl) (fun _ _ => run_st (x := 94) (y := 95) (k := j) (n := k) (c := c) (by kernel_rfl) (by kernel_rfl) (by kernel_rfl) rfl hlj) (fun _ _ _ h => h) hS ?_
                          refine rg_take 40 (some 97) (.pointer (some ⟨b, o + j * 4 + 3, none⟩)) (by kernel_rfl) (fun _ _ => by kernel_rfl) (fun _ _ _ h => h) hS ?_
                          refine rg_load 41 (some 98) (.slice s.va s.vl.length s.vc) 32 97 (b) (o + j * 4 + 3) (by kernel_rfl) (by kernel_rfl) (by kernel_rfl) (fun w' h => ld_b h.1.c3) (fun _ _ _ h => h) hS ?_
                          refine rg_take 42 (some 99) (.int .i64 s.vl.length) (by kernel_rfl) (fun _ _ => by kernel_rfl) (fun _ _ _ h => h) hS ?_
                          refine rg_eq 43 (some 100) (.bool (decide ((s.vl.length : Int) ≤ 4096))) (.bool true) (by rw [decide_eq_true (by omega)]) (by kernel_rfl) (fun _ _ => by kernel_rfl) (fun _ _ _ h => h) hS ?_
                          refine rg_take 44 (some 101) (.bool true) (by kernel_rfl) (fun _ _ => by kernel_rfl) (fun _ _ _ h => h) hS ?_
                          refine rg_take 45 (some 102) (.bool true) (by kernel_rfl) (fun _ _ => by kernel_rfl) (fun _ _ _ h => h) hS ?_
                          refine rg_take 46 (some 103) (.bool true) (by kernel_rfl) (fun _ _ => by kernel_rfl) (fun _ _ _ h => h) hS ?_
                          refine rg_done (by kernel_rfl) ?_
                          simp only [Act.put, List.setIfInBounds_toArray, List.set_cons_zero, List.set_cons_succ]
                          have HX7 := hid3 X7
                          clear hS hS7 X7 HM
                          go_wp2
                          go_roundw
                          case rel => exact ⟨j + 1, by omega, by go_num, by rw [last_yes hsj.out heq GD.out], HX7⟩
                          case measure => simp [intOf]; omega
                        · have NG := hid3 (show ¬ (s.kl = r.kl ∧ good s) from fun h => h.2.elim (fun h => h hw0) (fun h => hfour (by omega)))
                          go_wp2_with fail
                          have hS : SteC wr.drew b (o + j * 4) s ∧ SteC wr.drew b (o + i * 4) r := ⟨HC.out.keep HM.out.drew.below, HRC.out.keep HM.out.drew.below⟩
                          refine rg_start (S := fun w' => SteC w' b (o + j * 4) s ∧ SteC w' b (o + i * 4) r) (by kernel_rfl) hS ?_
                          refine rg_take 0 (some 57) (.slice (some ⟨b, o, none⟩) k c) (by kernel_rfl) (fun _ _ => by kernel_rfl) (fun _ _ _ h => h) hS ?_
                          refine rg_take 1 (some 58) (.int .i64 j) (by kernel_rfl) (fun _ _ => by kernel_rfl) (fun _ _ _ h => h) hS ?_
                          refine rg_take 2 (some 59) (.pointer (some ⟨b, o + j * 4, none⟩)) (by kernel_rfl) (fun _ _ => run_st (x := 57) (y := 58) (k := j) (n := k) (c := c) (by kernel_rfl) (by kernel_rfl) (by kernel_rfl) rfl hlj) (fun _ _ _ h => h) hS ?_
                          refine rg_take 3 (some 60) (.pointer (some ⟨b, o + j * 4 + 2, none⟩)) (by kernel_rfl) (fun _ _ => by kernel_rfl) (fun _ _ _ h => h) hS ?_
                          refine rg_load 4 (some 61) (.slice s.ka s.kl.length s.kc) 32 60 (b) (o + j * 4 + 2) (by kernel_rfl) (by kernel_rfl) (by kernel_rfl) (fun w' h => ld_b h.1.c2) (fun _ _ _ h => h) hS ?_
                          refine rg_take 5 (some 62) (.slice (some ⟨b, o, none⟩) k c) (by kernel_rfl) (fun _ _ => by kernel_rfl) (fun _ _ _ h => h) hS ?_
                          refine rg_take 6 (some 63) (.int .i64 i) (by kernel_rfl) (fun _ _ => by kernel_rfl) (fun _ _ _ h => h) hS ?_
                          refine rg_take 7 (some 64) (.pointer (some ⟨b, o + i * 4, none⟩)) (by kernel_rfl) (fun _ _ => run_st (x := 62) (y := 63) (k := i) (n := k) (c := c) (by kernel_rfl) (by kernel_rfl) (by kernel_rfl) rfl hli) (fun _ _ _ h => h) hS ?_
                          refine rg_take 8 (some 65) (.pointer (some ⟨b, o + i * 4 + 2, none⟩)) (by kernel_rfl) (fun _ _ => by kernel_rfl) (fun _ _ _ h => h) hS ?_
                          refine rg_load 9 (some 66) (.slice r.ka r.kl.length r.kc) 32 65 (b) (o + i * 4 + 2) (by kernel_rfl) (by kernel_rfl) (by kernel_rfl) (fun w' h => ld_b h.2.c2) (fun _ _ _ h => h) hS ?_
                          refine rg_call 10 (some 67) 23 #[.slice s.ka s.kl.length s.kc, .slice r.ka r.kl.length r.kc] (by kernel_rfl) (by kernel_rfl) (bbytes (r := true) HM.out.drew (.inl HA.out.k) (.inl HR.out.k) (by omega) (by omega) (decide_eq_true heq)) ?_
                          rintro e' w7 ⟨rfl, X7⟩
                          have hS7 : SteC w7 b (o + j * 4) s ∧ SteC w7 b (o + i * 4) r := ⟨HC.out.keep X7.below, HRC.out.keep X7.below⟩
                          refine ⟨_, rfl, hS7, ?_⟩
                          clear hS
                          have hS := hS7
                          refine rg_take 11 (some 68) (.bool true) (by kernel_rfl) (fun _ _ => by kernel_rfl) (fun _ _ _ h => h) hS ?_
                          refine rg_take 12 (some 69) (.slice (some ⟨b, o, none⟩) k c) (by kernel_rfl) (fun _ _ => by kernel_rfl) (fun _ _ _ h => h) hS ?_
                          refine rg_take 13 (some 70) (.int .i64 j) (by kernel_rfl) (fun _ _ => by kernel_rfl) (fun _ _ _ h => h) hS ?_
                          refine rg_take 14 (some 71) (.pointer (some ⟨b, o + j * 4, none⟩)) (by kernel_rfl) (fun _ _ => run_st (x := 69) (y := 70) (k := j) (n := k) (c := c) (by kernel_rfl) (by kernel_rfl) (by kernel_rfl) rfl hlj) (fun _ _ _ h => h) hS ?_
                          refine rg_take 15 (some 72) (.pointer (some ⟨b, o + j * 4, none⟩)) (by kernel_rfl) (fun _ _ => by kernel_rfl) (fun _ _ _ h => h) hS ?_
                          refine rg_load 16 (some 73) (.int .i64 s.what) 3 72 (b) (o + j * 4) (by kernel_rfl) (by kernel_rfl) (by kernel_rfl) (fun w' h => ld_i h.1.c0) (fun _ _ _ h => h) hS ?_
                          refine rg_take 17 (some 74) (.int .i64 (s.what.tmod 2)) (by kernel_rfl) (fun _ _ => by kernel_rfl) (fun _ _ _ h => h) hS ?_
                          refine rg_eq 18 (some 75) (.bool (s.what.tmod 2 != 0)) (.bool false) (by rw [hodd]) (by kernel_rfl) (fun _ _ => by kernel_rfl) (fun _ _ _ h => h) hS ?_
                          refine rg_take 19 (some 76) (.bool false) (by kernel_rfl) (fun _ _ => by kernel_rfl) (fun _ _ _ h => h) hS ?_
                          refine rg_take 20 (some 77) (.slice (some ⟨b, o, none⟩) k c) (by kernel_rfl) (fun _ _ => by kernel_rfl) (fun _ _ _ h => h) hS ?_
                          refine rg_take 21 (some 78) (.int .i64 j) (by kernel_rfl) (fun _ _ => by kernel_rfl) (fun _ _ _ h => h) hS ?_
                          refine rg_take 22 (some 79) (.pointer (some ⟨b, o + j * 4, none⟩)) (by kernel_rfl) (fun _ _ => run_st (x := 77) (y := 78) (k := j) (n := k) (c := c) (by kernel_rfl) (by kernel_rfl) (by kernel_rfl) rfl hlj) (fun _ _ _ h => h) hS ?_
                          refine rg_take 23 (some 80) (.pointer (some ⟨b, o + j * 4 + 2, none⟩)) (by kernel_rfl) (fun _ _ => by kernel_rfl) (fun _ _ _ h => h) hS ?_
                          refine rg_load 24 (some 81) (.slice s.ka s.kl.length s.kc) 32 80 (b) (o + j * 4 + 2) (by kernel_rfl) (by kernel_rfl) (by kernel_rfl) (fun w' h => ld_b h.1.c2) (fun _ _ _ h => h) hS ?_
                          refine rg_take 25 (some 82) (.int .i64 s.kl.length) (by kernel_rfl) (fun _ _ => by kernel_rfl) (fun _ _ _ h => h) hS ?_
                          refine rg_eq 26 (some 83) (.bool (decide ((1 : Int) ≤ s.kl.length))) (.bool true) (by rw [decide_eq_true (by omega)]) (by kernel_rfl) (fun _ _ => by kernel_rfl) (fun _ _ _ h => h) hS ?_
                          refine rg_take 27 (some 84) (.bool true) (by kernel_rfl) (fun _ _ => by kernel_rfl) (fun _ _ _ h => h) hS ?_
                          refine rg_take 28 (some 85) (.slice (some ⟨b, o, none⟩) k c) (by kernel_rfl) (fun _ _ => by kernel_rfl) (fun _ _ _ h => h) hS ?_
                          refine rg_take 29 (some 86) (.int .i64 j) (by kernel_rfl) (fun _ _ => by kernel_rfl) (fun _ _ _ h => h) hS ?_
                          refine rg_take 30 (some 87) (.pointer (some ⟨b, o + j * 4, none⟩)) (by kernel_rfl) (fun _ _ => run_st (x := 85) (y := 86) (k := j) (n := k) (c := c) (by kernel_rfl) (by kernel_rfl) (by kernel_rfl) rfl hlj) (fun _ _ _ h => h) hS ?_
                          refine rg_take 31 (some 88) (.pointer (some ⟨b, o + j * 4 + 2, none⟩)) (by kernel_rfl) (fun _ _ => by kernel_rfl) (fun _ _ _ h => h) hS ?_
                          refine rg_load 32 (some 89) (.slice s.ka s.kl.length s.kc) 32 88 (b) (o + j * 4 + 2) (by kernel_rfl) (by kernel_rfl) (by kernel_rfl) (fun w' h => ld_b h.1.c2) (fun _ _ _ h => h) hS ?_
                          refine rg_take 33 (some 90) (.int .i64 s.kl.length) (by kernel_rfl) (fun _ _ => by kernel_rfl) (fun _ _ _ h => h) hS ?_
                          refine rg_eq 34 (some 91) (.bool (decide ((s.kl.length : Int) ≤ 64))) (.bool true) (by rw [decide_eq_true (by omega)]) (by kernel_rfl) (fun _ _ => by kernel_rfl) (fun _ _ _ h => h) hS ?_
                          refine rg_take 35 (some 92) (.bool true) (by kernel_rfl) (fun _ _ => by kernel_rfl) (fun _ _ _ h => h) hS ?_
                          refine rg_take 36 (some 93) (.bool true) (by kernel_rfl) (fun _ _ => by kernel_rfl) (fun _ _ _ h => h) hS ?_
                          refine rg_take 37 (some 94) (.slice (some ⟨b, o, none⟩) k c) (by kernel_rfl) (fun _ _ => by kernel_rfl) (fun _ _ _ h => h) hS ?_
                          refine rg_take 38 (some 95) (.int .i64 j) (by kernel_rfl) (fun _ _ => by kernel_rfl) (fun _ _ _ h => h) hS ?_
                          refine rg_take 39 (some 96) (.pointer (some ⟨b, o + j * 4, none⟩)) (by kernel_rfl) (fun _ _ => run_st (x := 94) (y := 95) (k := j) (n := k) (c := c) (by kernel_rfl) (by kernel_rfl) (by kernel_rfl) rfl hlj) (fun _ _ _ h => h) hS ?_
                          refine rg_take 40 (some 97) (.pointer (some ⟨b, o + j * 4 + 3, none⟩)) (by kernel_rfl) (fun _ _ => by kernel_rfl) (fun _ _ _ h => h) hS ?_
                          refine rg_load 41 (some 98) (.slice s.va s.vl.length s.vc) 32 97 (b) (o + j * 4 + 3) (by kernel_rfl) (by kernel_rfl) (by kernel_rfl) (fun w' h => ld_b h.1.c3) (fun _ _ _ h => h) hS ?_
                          refine rg_take 42 (some 99) (.int .i64 s.vl.length) (by kernel_rfl) (fun _ _ => by kernel_rfl) (fun _ _ _ h => h) hS ?_
                          refine rg_eq 43 (some 100) (.bool (decide ((s.vl.length : Int) ≤ 4096))) (.bool false) (by rw [decide_eq_false (by omega)]) (by kernel_rfl) (fun _ _ => by kernel_rfl) (fun _ _ _ h => h) hS ?_
                          refine rg_take 44 (some 101) (.bool false) (by kernel_rfl) (fun _ _ => by kernel_rfl) (fun _ _ _ h => h) hS ?_
                          refine rg_take 45 (some 102) (.bool false) (by kernel_rfl) (fun _ _ => by kernel_rfl) (fun _ _ _ h => h) hS ?_
                          refine rg_take 46 (some 103) (.bool false) (by kernel_rfl) (fun _ _ => by kernel_rfl) (fun _ _ _ h => h) hS ?_
                          refine rg_done (by kernel_rfl) ?_
                          simp only [Act.put, List.setIfInBounds_toArray, List.set_cons_zero, List.set_cons_succ]
                          have HX7 := hid3 X7
                          clear hS hS7 X7 HM
                          go_wp2
                          go_roundw
                          case rel => exact ⟨j + 1, by omega, by go_num, by rw [last_no hsj.out (fun h => NG.out h)], HX7⟩
                          case measure => simp [intOf]; omega
                      · have NG := hid3 (show ¬ (s.kl = r.kl ∧ good s) from fun h => h.2.elim (fun h => h hw0) (fun h => hsix (by omega)))
                        go_wp2_with fail
                        have hS : SteC wr.drew b (o + j * 4) s ∧ SteC wr.drew b (o + i * 4) r := ⟨HC.out.keep HM.out.drew.below, HRC.out.keep HM.out.drew.below⟩
                        refine rg_start (S := fun w' => SteC w' b (o + j * 4) s ∧ SteC w' b (o + i * 4) r) (by kernel_rfl) hS ?_
                        refine rg_take 0 (some 57) (.slice (some ⟨b, o, none⟩) k c) (by kernel_rfl) (fun _ _ => by kernel_rfl) (fun _ _ _ h => h) hS ?_
                        refine rg_take 1 (some 58) (.int .i64 j) (by kernel_rfl) (fun _ _ => by kernel_rfl) (fun _ _ _ h => h) hS ?_
                        refine rg_take 2 (some 59) (.pointer (some ⟨b, o + j * 4, none⟩)) (by kernel_rfl) (fun _ _ => run_st (x := 57) (y := 58) (k := j) (n := k) (c := c) (by kernel_rfl) (by kernel_rfl) (by kernel_rfl) rfl hlj) (fun _ _ _ h => h) hS ?_
                        refine rg_take 3 (some 60) (.pointer (some ⟨b, o + j * 4 + 2, none⟩)) (by kernel_rfl) (fun _ _ => by kernel_rfl) (fun _ _ _ h => h) hS ?_
                        refine rg_load 4 (some 61) (.slice s.ka s.kl.length s.kc) 32 60 (b) (o + j * 4 + 2) (by kernel_rfl) (by kernel_rfl) (by kernel_rfl) (fun w' h => ld_b h.1.c2) (fun _ _ _ h => h) hS ?_
                        refine rg_take 5 (some 62) (.slice (some ⟨b, o, none⟩) k c) (by kernel_rfl) (fun _ _ => by kernel_rfl) (fun _ _ _ h => h) hS ?_
                        refine rg_take 6 (some 63) (.int .i64 i) (by kernel_rfl) (fun _ _ => by kernel_rfl) (fun _ _ _ h => h) hS ?_
                        refine rg_take 7 (some 64) (.pointer (some ⟨b, o + i * 4, none⟩)) (by kernel_rfl) (fun _ _ => run_st (x := 62) (y := 63) (k := i) (n := k) (c := c) (by kernel_rfl) (by kernel_rfl) (by kernel_rfl) rfl hli) (fun _ _ _ h => h) hS ?_
                        refine rg_take 8 (some 65) (.pointer (some ⟨b, o + i * 4 + 2, none⟩)) (by kernel_rfl) (fun _ _ => by kernel_rfl) (fun _ _ _ h => h) hS ?_
                        refine rg_load 9 (some 66) (.slice r.ka r.kl.length r.kc) 32 65 (b) (o + i * 4 + 2) (by kernel_rfl) (by kernel_rfl) (by kernel_rfl) (fun w' h => ld_b h.2.c2) (fun _ _ _ h => h) hS ?_
                        refine rg_call 10 (some 67) 23 #[.slice s.ka s.kl.length s.kc, .slice r.ka r.kl.length r.kc] (by kernel_rfl) (by kernel_rfl) (bbytes (r := true) HM.out.drew (.inl HA.out.k) (.inl HR.out.k) (by omega) (by omega) (decide_eq_true heq)) ?_
                        rintro e' w7 ⟨rfl, X7⟩
                        have hS7 : SteC w7 b (o + j * 4) s ∧ SteC w7 b (o + i * 4) r := ⟨HC.out.keep X7.below, HRC.out.keep X7.below⟩
                        refine ⟨_, rfl, hS7, ?_⟩
                        clear hS
                        have hS := hS7
                        refine rg_take 11 (some 68) (.bool true) (by kernel_rfl) (fun _ _ => by kernel_rfl) (fun _ _ _ h => h) hS ?_
                        refine rg_take 12 (some 69) (.slice (some ⟨b, o, none⟩) k c) (by kernel_rfl) (fun _ _ => by kernel_rfl) (fun _ _ _ h => h) hS ?_
                        refine rg_take 13 (some 70) (.int .i64 j) (by kernel_rfl) (fun _ _ => by kernel_rfl) (fun _ _ _ h => h) hS ?_
                        refine rg_take 14 (some 71) (.pointer (some ⟨b, o + j * 4, none⟩)) (by kernel_rfl) (fun _ _ => run_st (x := 69) (y := 70) (k := j) (n := k) (c := c) (by kernel_rfl) (by kernel_rfl) (by kernel_rfl) rfl hlj) (fun _ _ _ h => h) hS ?_
                        refine rg_take 15 (some 72) (.pointer (some ⟨b, o + j * 4, none⟩)) (by kernel_rfl) (fun _ _ => by kernel_rfl) (fun _ _ _ h => h) hS ?_
                        refine rg_load 16 (some 73) (.int .i64 s.what) 3 72 (b) (o + j * 4) (by kernel_rfl) (by kernel_rfl) (by kernel_rfl) (fun w' h => ld_i h.1.c0) (fun _ _ _ h => h) hS ?_
                        refine rg_take 17 (some 74) (.int .i64 (s.what.tmod 2)) (by kernel_rfl) (fun _ _ => by kernel_rfl) (fun _ _ _ h => h) hS ?_
                        refine rg_eq 18 (some 75) (.bool (s.what.tmod 2 != 0)) (.bool false) (by rw [hodd]) (by kernel_rfl) (fun _ _ => by kernel_rfl) (fun _ _ _ h => h) hS ?_
                        refine rg_take 19 (some 76) (.bool false) (by kernel_rfl) (fun _ _ => by kernel_rfl) (fun _ _ _ h => h) hS ?_
                        refine rg_take 20 (some 77) (.slice (some ⟨b, o, none⟩) k c) (by kernel_rfl) (fun _ _ => by kernel_rfl) (fun _ _ _ h => h) hS ?_
                        refine rg_take 21 (some 78) (.int .i64 j) (by kernel_rfl) (fun _ _ => by kernel_rfl) (fun _ _ _ h => h) hS ?_
                        refine rg_take 22 (some 79) (.pointer (some ⟨b, o + j * 4, none⟩)) (by kernel_rfl) (fun _ _ => run_st (x := 77) (y := 78) (k := j) (n := k) (c := c) (by kernel_rfl) (by kernel_rfl) (by kernel_rfl) rfl hlj) (fun _ _ _ h => h) hS ?_
                        refine rg_take 23 (some 80) (.pointer (some ⟨b, o + j * 4 + 2, none⟩)) (by kernel_rfl) (fun _ _ => by kernel_rfl) (fun _ _ _ h => h) hS ?_
                        refine rg_load 24 (some 81) (.slice s.ka s.kl.length s.kc) 32 80 (b) (o + j * 4 + 2) (by kernel_rfl) (by kernel_rfl) (by kernel_rfl) (fun w' h => ld_b h.1.c2) (fun _ _ _ h => h) hS ?_
                        refine rg_take 25 (some 82) (.int .i64 s.kl.length) (by kernel_rfl) (fun _ _ => by kernel_rfl) (fun _ _ _ h => h) hS ?_
                        refine rg_eq 26 (some 83) (.bool (decide ((1 : Int) ≤ s.kl.length))) (.bool true) (by rw [decide_eq_true (by omega)]) (by kernel_rfl) (fun _ _ => by kernel_rfl) (fun _ _ _ h => h) hS ?_
                        refine rg_take 27 (some 84) (.bool true) (by kernel_rfl) (fun _ _ => by kernel_rfl) (fun _ _ _ h => h) hS ?_
                        refine rg_take 28 (some 85) (.slice (some ⟨b, o, none⟩) k c) (by kernel_rfl) (fun _ _ => by kernel_rfl) (fun _ _ _ h => h) hS ?_
                        refine rg_take 29 (some 86) (.int .i64 j) (by kernel_rfl) (fun _ _ => by kernel_rfl) (fun _ _ _ h => h) hS ?_
                        refine rg_take 30 (some 87) (.pointer (some ⟨b, o + j * 4, none⟩)) (by kernel_rfl) (fun _ _ => run_st (x := 85) (y := 86) (k := j) (n := k) (c := c) (by kernel_rfl) (by kernel_rfl) (by kernel_rfl) rfl hlj) (fun _ _ _ h => h) hS ?_
                        refine rg_take 31 (some 88) (.pointer (some ⟨b, o + j * 4 + 2, none⟩)) (by kernel_rfl) (fun _ _ => by kernel_rfl) (fun _ _ _ h => h) hS ?_
                        refine rg_load 32 (some 89) (.slice s.ka s.kl.length s.kc) 32 88 (b) (o + j * 4 + 2) (by kernel_rfl) (by kernel_rfl) (by kernel_rfl) (fun w' h => ld_b h.1.c2) (fun _ _ _ h => h) hS ?_
                        refine rg_take 33 (some 90) (.int .i64 s.kl.length) (by kernel_rfl) (fun _ _ => by kernel_rfl) (fun _ _ _ h => h) hS ?_
                        refine rg_eq 34 (some 91) (.bool (decide ((s.kl.length : Int) ≤ 64))) (.bool false) (by rw [decide_eq_false (by omega)]) (by kernel_rfl) (fun _ _ => by kernel_rfl) (fun _ _ _ h => h) hS ?_
                        refine rg_take 35 (some 92) (.bool false) (by kernel_rfl) (fun _ _ => by kernel_rfl) (fun _ _ _ h => h) hS ?_
                        refine rg_take 36 (some 93) (.bool false) (by kernel_rfl) (fun _ _ => by kernel_rfl) (fun _ _ _ h => h) hS ?_
                        refine rg_skip 37 (some 94) (by kernel_rfl) (fun _ _ _ h => h) hS ?_
                        refine rg_skip 38 (some 95) (by kernel_rfl) (fun _ _ _ h => h) hS ?_
                        refine rg_skip 39 (some 96) (by kernel_rfl) (fun _ _ _ h => h) hS ?_
                        refine rg_skip 40 (some 97) (by kernel_rfl) (fun _ _ _ h => h) hS ?_
                        refine rg_skip 41 (some 98) (by kernel_rfl) (fun _ _ _ h => h) hS ?_
                        refine rg_skip 42 (some 99) (by kernel_rfl) (fun _ _ _ h => h) hS ?_
                        refine rg_skip 43 (some 100) (by kernel_rfl) (fun _ _ _ h => h) hS ?_
                        refine rg_take 44 (some 101) (.bool false) (by kernel_rfl) (fun _ _ => by kernel_rfl) (fun _ _ _ h => h) hS ?_
                        refine rg_take 45 (some 102) (.bool false) (by kernel_rfl) (fun _ _ => by kernel_rfl) (fun _ _ _ h => h) hS ?_
                        refine rg_take 46 (some 103) (.bool false) (by kernel_rfl) (fun _ _ => by kernel_rfl) (fun _ _ _ h => h) hS ?_
                        refine rg_done (by kernel_rfl) ?_
                        simp only [Act.put, List.setIfInBounds_toArray, List.set_cons_zero, List.set_cons_succ]
                        have HX7 := hid3 X7
                        clear hS hS7 X7 HM
                        go_wp2
                        go_roundw
                        case rel => exact ⟨j + 1, by omega, by go_num, by rw [last_no hsj.out (fun h => NG.out h)], HX7⟩
                        case measure => simp [intOf]; omega
                    · have NG := hid3 (show ¬ (s.kl = r.kl ∧ good s) from fun h => h.2.elim (fun h => h hw0) (fun h => hone (by omega)))
                      go_wp2_with fail
                      have hS : SteC wr.drew b (o + j * 4) s ∧ SteC wr.drew b (o + i * 4) r := ⟨HC.out.keep HM.out.drew.below, HRC.out.keep HM.out.drew.below⟩
                      refine rg_start (S := fun w' => SteC w' b (o + j * 4) s ∧ SteC w' b (o + i * 4) r) (by kernel_rfl) hS ?_
                      refine rg_take 0 (some 57) (.slice (some ⟨b, o, none⟩) k c) (by kernel_rfl) (fun _ _ => by kernel_rfl) (fun _ _ _ h => h) hS ?_
                      refine rg_take 1 (some 58) (.int .i64 j) (by kernel_rfl) (fun _ _ => by kernel_rfl) (fun _ _ _ h => h) hS ?_
                      refine rg_take 2 (some 59) (.pointer (some ⟨b, o + j * 4, none⟩)) (by kernel_rfl) (fun _ _ => run_st (x := 57) (y := 58) (k := j) (n := k) (c := c) (by kernel_rfl) (by kernel_rfl) (by kernel_rfl) rfl hlj) (fun _ _ _ h => h) hS ?_
                      refine rg_take 3 (some 60) (.pointer (some ⟨b, o + j * 4 + 2, none⟩)) (by kernel_rfl) (fun _ _ => by kernel_rfl) (fun _ _ _ h => h) hS ?_
                      refine rg_load 4 (some 61) (.slice s.ka s.kl.length s.kc) 32 60 (b) (o + j * 4 + 2) (by kernel_rfl) (by kernel_rfl) (by kernel_rfl) (fun w' h => ld_b h.1.c2) (fun _ _ _ h => h) hS ?_
                      refine rg_take 5 (some 62) (.slice (some ⟨b, o, none⟩) k c) (by kernel_rfl) (fun _ _ => by kernel_rfl) (fun _ _ _ h => h) hS ?_
                      refine rg_take 6 (some 63) (.int .i64 i) (by kernel_rfl) (fun _ _ => by kernel_rfl) (fun _ _ _ h => h) hS ?_
                      refine rg_take 7 (some 64) (.pointer (some ⟨b, o + i * 4, none⟩)) (by kernel_rfl) (fun _ _ => run_st (x := 62) (y := 63) (k := i) (n := k) (c := c) (by kernel_rfl) (by kernel_rfl) (by kernel_rfl) rfl hli) (fun _ _ _ h => h) hS ?_
                      refine rg_take 8 (some 65) (.pointer (some ⟨b, o + i * 4 + 2, none⟩)) (by kernel_rfl) (fun _ _ => by kernel_rfl) (fun _ _ _ h => h) hS ?_
                      refine rg_load 9 (some 66) (.slice r.ka r.kl.length r.kc) 32 65 (b) (o + i * 4 + 2) (by kernel_rfl) (by kernel_rfl) (by kernel_rfl) (fun w' h => ld_b h.2.c2) (fun _ _ _ h => h) hS ?_
                      refine rg_call 10 (some 67) 23 #[.slice s.ka s.kl.length s.kc, .slice r.ka r.kl.length r.kc] (by kernel_rfl) (by kernel_rfl) (bbytes (r := true) HM.out.drew (.inl HA.out.k) (.inl HR.out.k) (by omega) (by omega) (decide_eq_true heq)) ?_
                      rintro e' w7 ⟨rfl, X7⟩
                      have hS7 : SteC w7 b (o + j * 4) s ∧ SteC w7 b (o + i * 4) r := ⟨HC.out.keep X7.below, HRC.out.keep X7.below⟩
                      refine ⟨_, rfl, hS7, ?_⟩
                      clear hS
                      have hS := hS7
                      refine rg_take 11 (some 68) (.bool true) (by kernel_rfl) (fun _ _ => by kernel_rfl) (fun _ _ _ h => h) hS ?_
                      refine rg_take 12 (some 69) (.slice (some ⟨b, o, none⟩) k c) (by kernel_rfl) (fun _ _ => by kernel_rfl) (fun _ _ _ h => h) hS ?_
                      refine rg_take 13 (some 70) (.int .i64 j) (by kernel_rfl) (fun _ _ => by kernel_rfl) (fun _ _ _ h => h) hS ?_
                      refine rg_take 14 (some 71) (.pointer (some ⟨b, o + j * 4, none⟩)) (by kernel_rfl) (fun _ _ => run_st (x := 69) (y := 70) (k := j) (n := k) (c := c) (by kernel_rfl) (by kernel_rfl) (by kernel_rfl) rfl hlj) (fun _ _ _ h => h) hS ?_
                      refine rg_take 15 (some 72) (.pointer (some ⟨b, o + j * 4, none⟩)) (by kernel_rfl) (fun _ _ => by kernel_rfl) (fun _ _ _ h => h) hS ?_
                      refine rg_load 16 (some 73) (.int .i64 s.what) 3 72 (b) (o + j * 4) (by kernel_rfl) (by kernel_rfl) (by kernel_rfl) (fun w' h => ld_i h.1.c0) (fun _ _ _ h => h) hS ?_
                      refine rg_take 17 (some 74) (.int .i64 (s.what.tmod 2)) (by kernel_rfl) (fun _ _ => by kernel_rfl) (fun _ _ _ h => h) hS ?_
                      refine rg_eq 18 (some 75) (.bool (s.what.tmod 2 != 0)) (.bool false) (by rw [hodd]) (by kernel_rfl) (fun _ _ => by kernel_rfl) (fun _ _ _ h => h) hS ?_
                      refine rg_take 19 (some 76) (.bool false) (by kernel_rfl) (fun _ _ => by kernel_rfl) (fun _ _ _ h => h) hS ?_
                      refine rg_take 20 (some 77) (.slice (some ⟨b, o, none⟩) k c) (by kernel_rfl) (fun _ _ => by kernel_rfl) (fun _ _ _ h => h) hS ?_
                      refine rg_take 21 (some 78) (.int .i64 j) (by kernel_rfl) (fun _ _ => by kernel_rfl) (fun _ _ _ h => h) hS ?_
                      refine rg_take 22 (some 79) (.pointer (some ⟨b, o + j * 4, none⟩)) (by kernel_rfl) (fun _ _ => run_st (x := 77) (y := 78) (k := j) (n := k) (c := c) (by kernel_rfl) (by kernel_rfl) (by kernel_rfl) rfl hlj) (fun _ _ _ h => h) hS ?_
                      refine rg_take 23 (some 80) (.pointer (some ⟨b, o + j * 4 + 2, none⟩)) (by kernel_rfl) (fun _ _ => by kernel_rfl) (fun _ _ _ h => h) hS ?_
                      refine rg_load 24 (some 81) (.slice s.ka s.kl.length s.kc) 32 80 (b) (o + j * 4 + 2) (by kernel_rfl) (by kernel_rfl) (by kernel_rfl) (fun w' h => ld_b h.1.c2) (fun _ _ _ h => h) hS ?_
                      refine rg_take 25 (some 82) (.int .i64 s.kl.length) (by kernel_rfl) (fun _ _ => by kernel_rfl) (fun _ _ _ h => h) hS ?_
                      refine rg_eq 26 (some 83) (.bool (decide ((1 : Int) ≤ s.kl.length))) (.bool false) (by rw [decide_eq_false (by omega)]) (by kernel_rfl) (fun _ _ => by kernel_rfl) (fun _ _ _ h => h) hS ?_
                      refine rg_take 27 (some 84) (.bool false) (by kernel_rfl) (fun _ _ => by kernel_rfl) (fun _ _ _ h => h) hS ?_
                      refine rg_skip 28 (some 85) (by kernel_rfl) (fun _ _ _ h => h) hS ?_
                      refine rg_skip 29 (some 86) (by kernel_rfl) (fun _ _ _ h => h) hS ?_
                      refine rg_skip 30 (some 87) (by kernel_rfl) (fun _ _ _ h => h) hS ?_
                      refine rg_skip 31 (some 88) (by kernel_rfl) (fun _ _ _ h => h) hS ?_
                      refine rg_skip 32 (some 89) (by kernel_rfl) (fun _ _ _ h => h) hS ?_
                      refine rg_skip 33 (some 90) (by kernel_rfl) (fun _ _ _ h => h) hS ?_
                      refine rg_skip 34 (some 91) (by kernel_rfl) (fun _ _ _ h => h) hS ?_
                      refine rg_take 35 (some 92) (.bool false) (by kernel_rfl) (fun _ _ => by kernel_rfl) (fun _ _ _ h => h) hS ?_
                      refine rg_take 36 (some 93) (.bool false) (by kernel_rfl) (fun _ _ => by kernel_rfl) (fun _ _ _ h => h) hS ?_
                      refine rg_skip 37 (some 94) (by kernel_rfl) (fun _ _ _ h => h) hS ?_
                      refine rg_skip 38 (some 95) (by kernel_rfl) (fun _ _ _ h => h) hS ?_
                      refine rg_skip 39 (some 96) (by kernel_rfl) (fun _ _ _ h => h) hS ?_
                      refine rg_skip 40 (some 97) (by kernel_rfl) (fun _ _ _ h => h) hS ?_
                      refine rg_skip 41 (some 98) (by kernel_rfl) (fun _ _ _ h => h) hS ?_
                      refine rg_skip 42 (some 99) (by kernel_rfl) (fun _ _ _ h => h) hS ?_
                      refine rg_skip 43 (some 100) (by kernel_rfl) (fun _ _ _ h => h) hS ?_
                      refine rg_take 44 (some 101) (.bool false) (by kernel_rfl) (fun _ _ => by kernel_rfl) (fun _ _ _ h => h) hS ?_
                      refine rg_take 45 (some 102) (.bool false) (by kernel_rfl) (fun _ _ => by kernel_rfl) (fun _ _ _ h => h) hS ?_
                      refine rg_take 46 (some 103) (.bool false) (by kernel_rfl) (fun _ _ => by kernel_rfl) (fun _ _ _ h => h) hS ?_
                      refine rg_done (by kernel_rfl) ?_
                      simp only [Act.put, List.setIfInBounds_toArray, List.set_cons_zero, List.set_cons_succ]
                      have HX7 := hid3 X7
                      clear hS hS7 X7 HM
                      go_wp2
                      go_roundw
                      case rel => exact ⟨j + 1, by omega, by go_num, by rw [last_no hsj.out (fun h => NG.out h)], HX7⟩
                      case measure => simp [intOf]; omega
                  · have hodd : (s.what.tmod 2 != 0) = true := by simp [hw0]
                    have GD := hid3 (show good s from .inl hw0)
                    go_wp2_with fail
                    have hS : SteC wr.drew b (o + j * 4) s ∧ SteC wr.drew b (o + i * 4) r := ⟨HC.out.keep HM.out.drew.below, HRC.out.keep HM.out.drew.below⟩
                    refine rg_start (S := fun w' => SteC w' b (o + j * 4) s ∧ SteC w' b (o + i * 4) r) (by kernel_rfl) hS ?_
                    refine rg_take 0 (some 57) (.slice (some ⟨b, o, none⟩) k c) (by kernel_rfl) (fun _ _ => by kernel_rfl) (fun _ _ _ h => h) hS ?_
                    refine rg_take 1 (some 58) (.int .i64 j) (by kernel_rfl) (fun _ _ => by kernel_rfl) (fun _ _ _ h => h) hS ?_
                    refine rg_take 2 (some 59) (.pointer (some ⟨b, o + j * 4, none⟩)) (by kernel_rfl) (fun _ _ => run_st (x := 57) (y := 58) (k := j) (n := k) (c := c) (by kernel_rfl) (by kernel_rfl) (by kernel_rfl) rfl hlj) (fun _ _ _ h => h) hS ?_
                    refine rg_take 3 (some 60) (.pointer (some ⟨b, o + j * 4 + 2, none⟩)) (by kernel_rfl) (fun _ _ => by kernel_rfl) (fun _ _ _ h => h) hS ?_
                    refine rg_load 4 (some 61) (.slice s.ka s.kl.length s.kc) 32 60 (b) (o + j * 4 + 2) (by kernel_rfl) (by kernel_rfl) (by kernel_rfl) (fun w' h => ld_b h.1.c2) (fun _ _ _ h => h) hS ?_
                    refine rg_take 5 (some 62) (.slice (some ⟨b, o, none⟩) k c) (by kernel_rfl) (fun _ _ => by kernel_rfl) (fun _ _ _ h => h) hS ?_
                    refine rg_take 6 (some 63) (.int .i64 i) (by kernel_rfl) (fun _ _ => by kernel_rfl) (fun _ _ _ h => h) hS ?_
                    refine rg_take 7 (some 64) (.pointer (some ⟨b, o + i * 4, none⟩)) (by kernel_rfl) (fun _ _ => run_st (x := 62) (y := 63) (k := i) (n := k) (c := c) (by kernel_rfl) (by kernel_rfl) (by kernel_rfl) rfl hli) (fun _ _ _ h => h) hS ?_
                    refine rg_take 8 (some 65) (.pointer (some ⟨b, o + i * 4 + 2, none⟩)) (by kernel_rfl) (fun _ _ => by kernel_rfl) (fun _ _ _ h => h) hS ?_
                    refine rg_load 9 (some 66) (.slice r.ka r.kl.length r.kc) 32 65 (b) (o + i * 4 + 2) (by kernel_rfl) (by kernel_rfl) (by kernel_rfl) (fun w' h => ld_b h.2.c2) (fun _ _ _ h => h) hS ?_
                    refine rg_call 10 (some 67) 23 #[.slice s.ka s.kl.length s.kc, .slice r.ka r.kl.length r.kc] (by kernel_rfl) (by kernel_rfl) (bbytes (r := true) HM.out.drew (.inl HA.out.k) (.inl HR.out.k) (by omega) (by omega) (decide_eq_true heq)) ?_
                    rintro e' w7 ⟨rfl, X7⟩
                    have hS7 : SteC w7 b (o + j * 4) s ∧ SteC w7 b (o + i * 4) r := ⟨HC.out.keep X7.below, HRC.out.keep X7.below⟩
                    refine ⟨_, rfl, hS7, ?_⟩
                    clear hS
                    have hS := hS7
                    refine rg_take 11 (some 68) (.bool true) (by kernel_rfl) (fun _ _ => by kernel_rfl) (fun _ _ _ h => h) hS ?_
                    refine rg_take 12 (some 69) (.slice (some ⟨b, o, none⟩) k c) (by kernel_rfl) (fun _ _ => by kernel_rfl) (fun _ _ _ h => h) hS ?_
                    refine rg_take 13 (some 70) (.int .i64 j) (by kernel_rfl) (fun _ _ => by kernel_rfl) (fun _ _ _ h => h) hS ?_
                    refine rg_take 14 (some 71) (.pointer (some ⟨b, o + j * 4, none⟩)) (by kernel_rfl) (fun _ _ => run_st (x := 69) (y := 70) (k := j) (n := k) (c := c) (by kernel_rfl) (by kernel_rfl) (by kernel_rfl) rfl hlj) (fun _ _ _ h => h) hS ?_
                    refine rg_take 15 (some 72) (.pointer (some ⟨b, o + j * 4, none⟩)) (by kernel_rfl) (fun _ _ => by kernel_rfl) (fun _ _ _ h => h) hS ?_
                    refine rg_load 16 (some 73) (.int .i64 s.what) 3 72 (b) (o + j * 4) (by kernel_rfl) (by kernel_rfl) (by kernel_rfl) (fun w' h => ld_i h.1.c0) (fun _ _ _ h => h) hS ?_
                    refine rg_take 17 (some 74) (.int .i64 (s.what.tmod 2)) (by kernel_rfl) (fun _ _ => by kernel_rfl) (fun _ _ _ h => h) hS ?_
                    refine rg_eq 18 (some 75) (.bool (s.what.tmod 2 != 0)) (.bool true) (by rw [hodd]) (by kernel_rfl) (fun _ _ => by kernel_rfl) (fun _ _ _ h => h) hS ?_
                    refine rg_take 19 (some 76) (.bool true) (by kernel_rfl) (fun _ _ => by kernel_rfl) (fun _ _ _ h => h) hS ?_
                    refine rg_skip 20 (some 77) (by kernel_rfl) (fun _ _ _ h => h) hS ?_
                    refine rg_skip 21 (some 78) (by kernel_rfl) (fun _ _ _ h => h) hS ?_
                    refine rg_skip 22 (some 79) (by kernel_rfl) (fun _ _ _ h => h) hS ?_
                    refine rg_skip 23 (some 80) (by kernel_rfl) (fun _ _ _ h => h) hS ?_
                    refine rg_skip 24 (some 81) (by kernel_rfl) (fun _ _ _ h => h) hS ?_
                    refine rg_skip 25 (some 82) (by kernel_rfl) (fun _ _ _ h => h) hS ?_
                    refine rg_skip 26 (some 83) (by kernel_rfl) (fun _ _ _ h => h) hS ?_
                    refine rg_skip 27 (some 84) (by kernel_rfl) (fun _ _ _ h => h) hS ?_
                    refine rg_skip 28 (some 85) (by kernel_rfl) (fun _ _ _ h => h) hS ?_
                    refine rg_skip 29 (some 86) (by kernel_rfl) (fun _ _ _ h => h) hS ?_
                    refine rg_skip 30 (some 87) (by kernel_rfl) (fun _ _ _ h => h) hS ?_
                    refine rg_skip 31 (some 88) (by kernel_rfl) (fun _ _ _ h => h) hS ?_
                    refine rg_skip 32 (some 89) (by kernel_rfl) (fun _ _ _ h => h) hS ?_
                    refine rg_skip 33 (some 90) (by kernel_rfl) (fun _ _ _ h => h) hS ?_
                    refine rg_skip 34 (some 91) (by kernel_rfl) (fun _ _ _ h => h) hS ?_
                    refine rg_skip 35 (some 92) (by kernel_rfl) (fun _ _ _ h => h) hS ?_
                    refine rg_skip 36 (some 93) (by kernel_rfl) (fun _ _ _ h => h) hS ?_
                    refine rg_skip 37 (some 94) (by kernel_rfl) (fun _ _ _ h => h) hS ?_
                    refine rg_skip 38 (some 95) (by kernel_rfl) (fun _ _ _ h => h) hS ?_
                    refine rg_skip 39 (some 96) (by kernel_rfl) (fun _ _ _ h => h) hS ?_
                    refine rg_skip 40 (some 97) (by kernel_rfl) (fun _ _ _ h => h) hS ?_
                    refine rg_skip 41 (some 98) (by kernel_rfl) (fun _ _ _ h => h) hS ?_
                    refine rg_skip 42 (some 99) (by kernel_rfl) (fun _ _ _ h => h) hS ?_
                    refine rg_skip 43 (some 100) (by kernel_rfl) (fun _ _ _ h => h) hS ?_
                    refine rg_skip 44 (some 101) (by kernel_rfl) (fun _ _ _ h => h) hS ?_
                    refine rg_take 45 (some 102) (.bool true) (by kernel_rfl) (fun _ _ => by kernel_rfl) (fun _ _ _ h => h) hS ?_
                    refine rg_take 46 (some 103) (.bool true) (by kernel_rfl) (fun _ _ => by kernel_rfl) (fun _ _ _ h => h) hS ?_
                    refine rg_done (by kernel_rfl) ?_
                    simp only [Act.put, List.setIfInBounds_toArray, List.set_cons_zero, List.set_cons_succ]
                    have HX7 := hid3 X7
                    clear hS hS7 X7 HM
                    go_wp2
                    go_roundw
                    case rel => exact ⟨j + 1, by omega, by go_num, by rw [last_yes hsj.out heq GD.out], HX7⟩
                    case measure => simp [intOf]; omega
                · have NG := hid3 (show ¬ (s.kl = r.kl ∧ good s) from fun h => heq h.1)
                  go_wp2_with fail
                  have hS : SteC wr.drew b (o + j * 4) s ∧ SteC wr.drew b (o + i * 4) r := ⟨HC.out.keep HM.out.drew.below, HRC.out.keep HM.out.drew.below⟩
                  refine rg_start (S := fun w' => SteC w' b (o + j * 4) s ∧ SteC w' b (o + i * 4) r) (by kernel_rfl) hS ?_
                  refine rg_take 0 (some 57) (.slice (some ⟨b, o, none⟩) k c) (by kernel_rfl) (fun _ _ => by kernel_rfl) (fun _ _ _ h => h) hS ?_
                  refine rg_take 1 (some 58) (.int .i64 j) (by kernel_rfl) (fun _ _ => by kernel_rfl) (fun _ _ _ h => h) hS ?_
                  refine rg_take 2 (some 59) (.pointer (some ⟨b, o + j * 4, none⟩)) (by kernel_rfl) (fun _ _ => run_st (x := 57) (y := 58) (k := j) (n := k) (c := c) (by kernel_rfl) (by kernel_rfl) (by kernel_rfl) rfl hlj) (fun _ _ _ h => h) hS ?_
                  refine rg_take 3 (some 60) (.pointer (some ⟨b, o + j * 4 + 2, none⟩)) (by kernel_rfl) (fun _ _ => by kernel_rfl) (fun _ _ _ h => h) hS ?_
                  refine rg_load 4 (some 61) (.slice s.ka s.kl.length s.kc) 32 60 (b) (o + j * 4 + 2) (by kernel_rfl) (by kernel_rfl) (by kernel_rfl) (fun w' h => ld_b h.1.c2) (fun _ _ _ h => h) hS ?_
                  refine rg_take 5 (some 62) (.slice (some ⟨b, o, none⟩) k c) (by kernel_rfl) (fun _ _ => by kernel_rfl) (fun _ _ _ h => h) hS ?_
                  refine rg_take 6 (some 63) (.int .i64 i) (by kernel_rfl) (fun _ _ => by kernel_rfl) (fun _ _ _ h => h) hS ?_
                  refine rg_take 7 (some 64) (.pointer (some ⟨b, o + i * 4, none⟩)) (by kernel_rfl) (fun _ _ => run_st (x := 62) (y := 63) (k := i) (n := k) (c := c) (by kernel_rfl) (by kernel_rfl) (by kernel_rfl) rfl hli) (fun _ _ _ h => h) hS ?_
                  refine rg_take 8 (some 65) (.pointer (some ⟨b, o + i * 4 + 2, none⟩)) (by kernel_rfl) (fun _ _ => by kernel_rfl) (fun _ _ _ h => h) hS ?_
                  refine rg_load 9 (some 66) (.slice r.ka r.kl.length r.kc) 32 65 (b) (o + i * 4 + 2) (by kernel_rfl) (by kernel_rfl) (by kernel_rfl) (fun w' h => ld_b h.2.c2) (fun _ _ _ h => h) hS ?_
                  refine rg_call 10 (some 67) 23 #[.slice s.ka s.kl.length s.kc, .slice r.ka r.kl.length r.kc] (by kernel_rfl) (by kernel_rfl) (bbytes (r := false) HM.out.drew (.inl HA.out.k) (.inl HR.out.k) (by omega) (by omega) (decide_eq_false heq)) ?_
                  rintro e' w7 ⟨rfl, X7⟩
                  have hS7 : SteC w7 b (o + j * 4) s ∧ SteC w7 b (o + i * 4) r := ⟨HC.out.keep X7.below, HRC.out.keep X7.below⟩
                  refine ⟨_, rfl, hS7, ?_⟩
                  clear hS
                  have hS := hS7
                  refine rg_take 11 (some 68) (.bool false) (by kernel_rfl) (fun _ _ => by kernel_rfl) (fun _ _ _ h => h) hS ?_
                  refine rg_skip 12 (some 69) (by kernel_rfl) (fun _ _ _ h => h) hS ?_
                  refine rg_skip 13 (some 70) (by kernel_rfl) (fun _ _ _ h => h) hS ?_
                  refine rg_skip 14 (some 71) (by kernel_rfl) (fun _ _ _ h => h) hS ?_
                  refine rg_skip 15 (some 72) (by kernel_rfl) (fun _ _ _ h => h) hS ?_
                  refine rg_skip 16 (some 73) (by kernel_rfl) (fun _ _ _ h => h) hS ?_
                  refine rg_skip 17 (some 74) (by kernel_rfl) (fun _ _ _ h => h) hS ?_
                  refine rg_skip 18 (some 75) (by kernel_rfl) (fun _ _ _ h => h) hS ?_
                  refine rg_skip 19 (some 76) (by kernel_rfl) (fun _ _ _ h => h) hS ?_
                  refine rg_skip 20 (some 77) (by kernel_rfl) (fun _ _ _ h => h) hS ?_
                  refine rg_skip 21 (some 78) (by kernel_rfl) (fun _ _ _ h => h) hS ?_
                  refine rg_skip 22 (some 79) (by kernel_rfl) (fun _ _ _ h => h) hS ?_
                  refine rg_skip 23 (some 80) (by kernel_rfl) (fun _ _ _ h => h) hS ?_
                  refine rg_skip 24 (some 81) (by kernel_rfl) (fun _ _ _ h => h) hS ?_
                  refine rg_skip 25 (some 82) (by kernel_rfl) (fun _ _ _ h => h) hS ?_
                  refine rg_skip 26 (some 83) (by kernel_rfl) (fun _ _ _ h => h) hS ?_
                  refine rg_skip 27 (some 84) (by kernel_rfl) (fun _ _ _ h => h) hS ?_
                  refine rg_skip 28 (some 85) (by kernel_rfl) (fun _ _ _ h => h) hS ?_
                  refine rg_skip 29 (some 86) (by kernel_rfl) (fun _ _ _ h => h) hS ?_
                  refine rg_skip 30 (some 87) (by kernel_rfl) (fun _ _ _ h => h) hS ?_
                  refine rg_skip 31 (some 88) (by kernel_rfl) (fun _ _ _ h => h) hS ?_
                  refine rg_skip 32 (some 89) (by kernel_rfl) (fun _ _ _ h => h) hS ?_
                  refine rg_skip 33 (some 90) (by kernel_rfl) (fun _ _ _ h => h) hS ?_
                  refine rg_skip 34 (some 91) (by kernel_rfl) (fun _ _ _ h => h) hS ?_
                  refine rg_skip 35 (some 92) (by kernel_rfl) (fun _ _ _ h => h) hS ?_
                  refine rg_skip 36 (some 93) (by kernel_rfl) (fun _ _ _ h => h) hS ?_
                  refine rg_skip 37 (some 94) (by kernel_rfl) (fun _ _ _ h => h) hS ?_
                  refine rg_skip 38 (some 95) (by kernel_rfl) (fun _ _ _ h => h) hS ?_
                  refine rg_skip 39 (some 96) (by kernel_rfl) (fun _ _ _ h => h) hS ?_
                  refine rg_skip 40 (some 97) (by kernel_rfl) (fun _ _ _ h => h) hS ?_
                  refine rg_skip 41 (some 98) (by kernel_rfl) (fun _ _ _ h => h) hS ?_
                  refine rg_skip 42 (some 99) (by kernel_rfl) (fun _ _ _ h => h) hS ?_
                  refine rg_skip 43 (some 100) (by kernel_rfl) (fun _ _ _ h => h) hS ?_
                  refine rg_skip 44 (some 101) (by kernel_rfl) (fun _ _ _ h => h) hS ?_
                  refine rg_skip 45 (some 102) (by kernel_rfl) (fun _ _ _ h => h) hS ?_
                  refine rg_take 46 (some 103) (.bool false) (by kernel_rfl) (fun _ _ => by kernel_rfl) (fun _ _ _ h => h) hS ?_
                  refine rg_done (by kernel_rfl) ?_
                  simp only [Act.put, List.setIfInBounds_toArray, List.set_cons_zero, List.set_cons_succ]
                  have HX7 := hid3 X7
                  clear hS hS7 X7 HM
                  go_wp2
                  go_roundw
                  case rel => exact ⟨j + 1, by omega, by go_num, by rw [last_no hsj.out (fun h => NG.out h)], HX7⟩
                  case measure => simp [intOf]; omega
              · obtain rfl : j = k := by omega
                clear hj hlj
                have C := HRC.out.keep HM.out.below
                have k2 := C.c2
                simp only [Ste.kv] at k2
                clear C
                rcases look_run ss r.kl j with ⟨hl, hlk⟩ | ⟨t, st, ht, hst, hl, hlk⟩
                · have hlk' := hid3 hlk
                  rw [hl]
                  clear hl hlk
                  go_wp2_with first
                    | (go_at_call 28; have u := bget HM.out (.inl HR.out.k) (by omega); rw [hlk'.out] at u; go_must (refine u.mono ?_); clear u; rintro e w8 ⟨v8, rfl, H8⟩; clear HM; replace H8 := H8.drop; have C := HRC.out.keep H8.below; have k3 := C.c2; simp only [Ste.kv] at k3; clear C)
                    | (go_at_call 29; have u := bhas H8 (.inl HR.out.k) (by omega); rw [hlk'.out] at u; go_must (refine u.mono ?_); clear u; rintro e w9 ⟨rfl, H9⟩; clear H8)
                  go_roundw
                  case rel => exact ⟨i + 1, by omega, by go_num, H9.more (by omega)⟩
                  case measure => simp [intOf]; omega
                · have HT := hid3 (HS.out.ata hst)
                  have htl : st.vl.length ≤ 8000 := by have := hvy_mem hst; have := HL.out; omega
                  have ht0 : (t : Int) < j := by omega
                  rw [hl]
                  by_cases hev : st.what.tmod 2 = 0
                  · rw [if_pos hev] at hlk
                    have hlk' := hid3 hlk
                    clear hl hlk hst
                    go_wp2_with first
                      | (go_at_call 28; have u := bget HM.out (.inl HR.out.k) (by omega); rw [hlk'.out] at u; go_must (refine u.mono ?_); clear u; rintro e w8 ⟨v8, rfl, H8⟩; clear HM; have C := HRC.out.keep H8.below; have k3 := C.c2; have C2 := HT.out.1.keep H8.below; have k4 := C2.c0; simp only [Ste.kv] at k3; clear C C2)
                      | (go_at_call 29; have u := bhas H8 (.inl HR.out.k) (by omega); rw [hlk'.out] at u; go_must (refine u.mono ?_); clear u; rintro e w9 ⟨rfl, H9⟩; clear H8; have C2 := HT.out.1.keep H9.below; have k5 := C2.c3; simp only [Ste.vv] at k5; clear C2)
                      | (go_at_call 23; go_must (refine (bbytes (a := st.vl) (b := st.vl) (r := true) H9 Fr.new (.inl HT.out.2.v) (by omega) (by omega) (decide_eq_true rfl)).mono ?_); rintro e w10 ⟨rfl, H10⟩; clear H9; replace H10 := H10.drop)
                    go_roundw
                    case rel => exact ⟨i + 1, by omega, by go_num, H10.more (by omega)⟩
                    case measure => simp [intOf]; omega
                  · rw [if_neg hev] at hlk
                    have hlk' := hid3 hlk
                    have qev : (st.what.tmod 2 = 0) = False := eq_false hev
                    clear hl hlk hst
                    go_wp2_with first
                      | (go_at_call 28; have u := bget HM.out (.inl HR.out.k) (by omega); rw [hlk'.out] at u; go_must (refine u.mono ?_); clear u; rintro e w8 ⟨v8, rfl, H8⟩; clear HM; replace H8 := H8.drop; have C := HRC.out.keep H8.below; have k3 := C.c2; have C2 := HT.out.1.keep H8.below; have k4 := C2.c0; simp only [Ste.kv] at k3; clear C C2)
                      | (go_at_call 29; have u := bhas H8 (.inl HR.out.k) (by omega); rw [hlk'.out] at u; go_must (refine u.mono ?_); clear u; rintro e w9 ⟨rfl, H9⟩; clear H8)
                    go_roundw
                    case rel => exact ⟨i + 1, by omega, by go_num, H9.more (by omega)⟩
                    case measure => simp [intOf]; omega
          · obtain rfl : i = k := by omega
            have HM := HX
            go_wp2
            go_ret
            exact ⟨rfl, HM.out.below⟩
end Kv
end Go.Proofs.Ytipokbenolekbaa
