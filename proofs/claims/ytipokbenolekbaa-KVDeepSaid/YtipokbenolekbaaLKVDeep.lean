/- gleanlaw6.KVDeep. -/
import Derived.Test.YtipokbenolekbaaJla
namespace Go.Proofs.Ytipokbenolekbaa
namespace Kv
open Go.RowKit Go.Lib Pg
attribute [local go_sem] Oper.semAt_some
set_option maxHeartbeats 4000000 in
set_option maxRecDepth 100000 in
theorem kVDeep_walk {w : World} {ao : Option Addr} {n c : Nat} {ss : List Ste} (S : StesA w ao n ss) {ao2 : Option Addr} {n2 c2 : Nat} {ss2 : List Ste} (S2 : StesA w ao2 n2 ss2) {ao3 : Option Addr} {n3 c3 : Nat} {ss3 : List Ste} (S3 : StesA w ao3 n3 ss3) {keep : Bool} :
    Calls Try.prog 7 #[.slice ao n c, .slice ao2 n2 c2, .slice ao3 n3 c3, .bool keep] w fun e w' => e = .returned (.bool true) ∧ Below w.heap.size w w' := by
  have t1 := known_any (w := w)
  have t2 := fun w' (hB : Below w.heap.size w w') => light_any (c := c) (S.keep hB)
  have t3 := fun w' (hB : Below w.heap.size w w') => light_any (c := c2) (S2.keep hB)
  have t4 := fun w' (hB : Below w.heap.size w w') => light_any (c := c3) (S3.keep hB)
  have HS : Hid _ := S
  have HS2 : Hid _ := S2
  have HS3 : Hid _ := S3
  obtain ⟨l1, hl1⟩ : ∃ l1, Hid (lite n (hvy ss) = l1) := ⟨_, rfl⟩
  obtain ⟨l2, hl2⟩ : ∃ l2, Hid (lite n2 (hvy ss2) = l2) := ⟨_, rfl⟩
  obtain ⟨l3, hl3⟩ : ∃ l3, Hid (lite n3 (hvy ss3) = l3) := ⟨_, rfl⟩
  rw [hl1.out] at t2
  rw [hl2.out] at t3
  rw [hl3.out] at t4
  clear S S2 S3
  by_cases hall : l1 = true ∧ l2 = true ∧ l3 = true
  · obtain ⟨rfl, rfl, rfl⟩ := hall
    have hn := (lite_yes hl1.out).2
    have hn2 := (lite_yes hl2.out).2
    have hn3 := (lite_yes hl3.out).2
    have HL2 := hid3 (lite_yes hl2.out).1
    have HL3 := hid3 (lite_yes hl3.out).1
    clear hl1 hl2 hl3
    go_enter Try.func7, Try.ntmps7
    go_wp2_with first
      | (go_at_call 9; refine t1.mono ?_; rintro e w1 ⟨rfl, B1⟩; clear t1)
      | (go_at_call 10; have gate := t2; clear gate; refine (t2 _ B1).mono ?_; rintro e w2 ⟨rfl, B2⟩; replace B1 := joinB B1 B2; clear t2 B2)
      | (go_at_call 10; have gate := t3; clear gate; refine (t3 _ B1).mono ?_; rintro e w3 ⟨rfl, B2⟩; replace B1 := joinB B1 B2; clear t3 B2)
      | (go_at_call 10; refine (t4 _ B1).mono ?_; rintro e w4 ⟨rfl, B2⟩; replace B1 := joinB B1 B2; clear t4 B2)
      | (go_at_call 11; have gate := B1; clear gate; refine (bnew B1).mono ?_; rintro e w5 ⟨g, rfl, H5⟩; clear B1)
      | (go_at_call 11; refine (bnew2 H5).mono ?_; rintro e w6 ⟨g2, rfl, H6⟩; clear H5)
    have H6' := hid3 H6
    clear H6
    go_loopw [11] (fun ti wr => ∃ k : Nat, k ≤ n ∧ ti = .int .i64 k ∧ Hid (∃ E, K2 w wr ⟨[], [], []⟩ g E [] g2 E [] (2 * k))) (fun ti _ => n - (intOf ti).toNat)
    case atStart => exact ⟨0, Nat.zero_le _, rfl, _, H6'.out⟩
    case round =>
      obtain ⟨k, hk, rfl, HX⟩ := hrel
      by_cases hlt : k < n
      · obtain ⟨E, X⟩ := HX.out
        obtain ⟨s, b, o, e1, rfl, C0, A0⟩ := HS.out.at hlt
        have hb0 := cell_lt C0.c2
        have C := C0.keep X.below
        have hcc : wr.drew.cell? ⟨b, o + k * 4 + 2, none⟩ = some (.slice s.ka s.kl.length s.kc) ∧ wr.drew.cell? ⟨b, o + k * 4 + 3, none⟩ = some (.slice s.va s.vl.length s.vc) := ⟨C.c2, C.c3⟩
        have HC := hid3 hcc
        have HC0 := hid3 (And.intro C0.c2 C0.c3)
        have HA := hid3 A0
        have HM := hid3 X
        have hk0 : (k : Int) < n := by omega
        clear C hcc C0 A0 X HX e1
        go_wp2_with fail
        have hS := HC.out
        have X := HM.out
        refine rg_start (S := fun w' => w'.cell? ⟨b, o + k * 4 + 2, none⟩ = some (.slice s.ka s.kl.length s.kc) ∧ w'.cell? ⟨b, o + k * 4 + 3, none⟩ = some (.slice s.va s.vl.length s.vc)) (by kernel_rfl) hS ?_
        refine rg_take 0 (some 38) (.pointer (some ⟨g, 0, none⟩)) (by kernel_rfl) (fun _ _ => by kernel_rfl) (fun _ _ _ h => h) hS ?_
        refine rg_take 1 (some 39) (.slice (some ⟨b, o, none⟩) n c) (by kernel_rfl) (fun _ _ => by kernel_rfl) (fun _ _ _ h => h) hS ?_
        refine rg_take 2 (some 40) (.int .i64 k) (by kernel_rfl) (fun _ _ => by kernel_rfl) (fun _ _ _ h => h) hS ?_
        refine rg_take 3 (some 41) (.pointer (some ⟨b, o + k * 4, none⟩)) (by kernel_rfl) (fun _ _ => run_st (x := 39) (y := 40) (k := k) (n := n) (c := c) (by kernel_rfl) (by kernel_rfl) (by kernel_rfl) rfl hlt) (fun _ _ _ h => h) hS ?_
        refine rg_take 4 (some 42) (.pointer (some ⟨b, o + k * 4 + 2, none⟩)) (by kernel_rfl) (fun _ _ => by kernel_rfl) (fun _ _ _ h => h) hS ?_
        refine rg_load 5 (some 43) (.slice s.ka s.kl.length s.kc) 32 42 (b) (o + k * 4 + 2) (by kernel_rfl) (by kernel_rfl) (by kernel_rfl) (fun w' h => ld_b h.1) (fun _ _ _ h => h) hS ?_
        refine rg_take 6 (some 44) (.slice (some ⟨b, o, none⟩) n c) (by kernel_rfl) (fun _ _ => by kernel_rfl) (fun _ _ _ h => h) hS ?_
        refine rg_take 7 (some 45) (.int .i64 k) (by kernel_rfl) (fun _ _ => by kernel_rfl) (fun _ _ _ h => h) hS ?_
        refine rg_take 8 (some 46) (.pointer (some ⟨b, o + k * 4, none⟩)) (by kernel_rfl) (fun _ _ => run_st (x := 44) (y := 45) (k := k) (n := n) (c := c) (by kernel_rfl) (by kernel_rfl) (by kernel_rfl) rfl hlt) (fun _ _ _ h => h) hS ?_
        refine rg_take 9 (some 47) (.pointer (some ⟨b, o + k * 4 + 3, none⟩)) (by kernel_rfl) (fun _ _ => by kernel_rfl) (fun _ _ _ h => h) hS ?_
        refine rg_load 10 (some 48) (.slice s.va s.vl.length s.vc) 32 47 (b) (o + k * 4 + 3) (by kernel_rfl) (by kernel_rfl) (by kernel_rfl) (fun w' h => ld_b h.2) (fun _ _ _ h => h) hS ?_
        refine rg_call 11 (some 49) 18 #[.pointer (some ⟨g, 0, none⟩), .slice s.ka s.kl.length s.kc, .slice s.va s.vl.length s.vc] (by kernel_rfl) (by kernel_rfl) (K2.lift X.drew (fun s h => bset h (.inl HA.out.k) (.inl HA.out.v) (by omega)) (by omega)) ?_
        rintro e' w7 ⟨rfl, X2⟩
        refine ⟨_, rfl, pcells2 HC0.out hb0 X2.below, ?_⟩
        refine rg_done (by kernel_rfl) ?_
        simp only [Act.put, List.setIfInBounds_toArray, List.set_cons_zero, List.set_cons_succ]
        have HX2 := hid3 X2.swap
        clear X X2 hS HM HC
        go_wp2_with fail
        have X := HX2.out.drew
        have hS := pcells2 HC0.out hb0 X.below
        refine rg_start (S := fun w' => w'.cell? ⟨b, o + k * 4 + 2, none⟩ = some (.slice s.ka s.kl.length s.kc) ∧ w'.cell? ⟨b, o + k * 4 + 3, none⟩ = some (.slice s.va s.vl.length s.vc)) (by kernel_rfl) hS ?_
        refine rg_take 0 (some 50) (.pointer (some ⟨g2, 0, none⟩)) (by kernel_rfl) (fun _ _ => by kernel_rfl) (fun _ _ _ h => h) hS ?_
        refine rg_take 1 (some 51) (.slice (some ⟨b, o, none⟩) n c) (by kernel_rfl) (fun _ _ => by kernel_rfl) (fun _ _ _ h => h) hS ?_
        refine rg_take 2 (some 52) (.int .i64 k) (by kernel_rfl) (fun _ _ => by kernel_rfl) (fun _ _ _ h => h) hS ?_
        refine rg_take 3 (some 53) (.pointer (some ⟨b, o + k * 4, none⟩)) (by kernel_rfl) (fun _ _ => run_st (x := 51) (y := 52) (k := k) (n := n) (c := c) (by kernel_rfl) (by kernel_rfl) (by kernel_rfl) rfl hlt) (fun _ _ _ h => h) hS ?_
        refine rg_take 4 (some 54) (.pointer (some ⟨b, o + k * 4 + 2, none⟩)) (by kernel_rfl) (fun _ _ => by kernel_rfl) (fun _ _ _ h => h) hS ?_
        refine rg_load 5 (some 55) (.slice s.ka s.kl.length s.kc) 32 54 (b) (o + k * 4 + 2) (by kernel_rfl) (by kernel_rfl) (by kernel_rfl) (fun w' h => ld_b h.1) (fun _ _ _ h => h) hS ?_
        refine rg_take 6 (some 56) (.slice (some ⟨b, o, none⟩) n c) (by kernel_rfl) (fun _ _ => by kernel_rfl) (fun _ _ _ h => h) hS ?_
        refine rg_take 7 (some 57) (.int .i64 k) (by kernel_rfl) (fun _ _ => by kernel_rfl) (fun _ _ _ h => h) hS ?_
        refine rg_take 8 (some 58) (.pointer (some ⟨b, o + k * 4, none⟩)) (by kernel_rfl) (fun _ _ => run_st (x := 56) (y := 57) (k := k) (n := n) (c := c) (by kernel_rfl) (by kernel_rfl) (by kernel_rfl) rfl hlt) (fun _ _ _ h => h) hS ?_
        refine rg_take 9 (some 59) (.pointer (some ⟨b, o + k * 4 + 3, none⟩)) (by kernel_rfl) (fun _ _ => by kernel_rfl) (fun _ _ _ h => h) hS ?_
        refine rg_load 10 (some 60) (.slice s.va s.vl.length s.vc) 32 59 (b) (o + k * 4 + 3) (by kernel_rfl) (by kernel_rfl) (by kernel_rfl) (fun w' h => ld_b h.2) (fun _ _ _ h => h) hS ?_
        refine rg_call 11 (some 61) 18 #[.pointer (some ⟨g2, 0, none⟩), .slice s.ka s.kl.length s.kc, .slice s.va s.vl.length s.vc] (by kernel_rfl) (by kernel_rfl) (K2.lift X (fun s h => bset h (.inl HA.out.k) (.inl HA.out.v) (by omega)) (by omega)) ?_
        rintro e' w8 ⟨rfl, X2⟩
        refine ⟨_, rfl, pcells2 HC0.out hb0 X2.below, ?_⟩
        refine rg_done (by kernel_rfl) ?_
        simp only [Act.put, List.setIfInBounds_toArray, List.set_cons_zero, List.set_cons_succ]
        have HX3 := hid3 X2.swap
        clear X X2 hS HX2
        go_wp2
        go_roundw
        case rel => exact ⟨k + 1, by omega, by go_num, _, HX3.out.more (by omega)⟩
        case measure => simp [intOf]; omega
      · obtain rfl : k = n := by omega
        obtain ⟨E0, X⟩ := HX.out
        have HM := hid3 (X.more (B' := 800) (by omega))
        clear X HX HS
        go_wp2_with first
          | (go_at_call 15; go_must (refine (K2.dump HM.out (by omega)).mono ?_); rintro e w9 ⟨a9, m9, d9, rfl, H9⟩; clear HM)
          | (go_at_call 19; go_must (refine (K2.lift H9 (fun s h => bbegin (W' := [E0]) h rfl) (by omega)).mono ?_); rintro e w10 ⟨rfl, H10⟩; clear H9)
        have H10' := hid3 H10
        clear H10
        go_loopw [13] (fun ti wr => ∃ k : Nat, k ≤ n2 ∧ ti = .int .i64 k ∧ Hid (∃ E, K2 w wr (Fm.pr ⟨[], [], []⟩ (.slice a9 m9 d9) E0) g E [E0] g2 E [] (800 + 2 * k))) (fun ti _ => n2 - (intOf ti).toNat)
        case atStart => exact ⟨0, Nat.zero_le _, rfl, _, H10'.out⟩
        case round =>
          clear H10'
          obtain ⟨k, hk2, rfl, HX⟩ := hrel
          by_cases hlt : k < n2
          · obtain ⟨E, X⟩ := HX.out
            obtain ⟨s, b, o, e1, rfl, C0, A0⟩ := HS2.out.at hlt
            have C := C0.keep X.below
            have c0 := C.c0
            have c1 := C.c1
            have c2 := C.c2
            have c3 := C.c3
            have HA := hid3 A0
            have HCC := hid3 C0
            have HM := hid3 X
            have hk0 : (k : Int) < n2 := by omega
            have hkl2 : s.kl.length ≤ 8000 := by have := hvy_mem e1; have := HL2.out; omega
            clear C C0 A0 X HX e1
            obtain ⟨what, num, ka, kc, kl, va, vc, vl⟩ := s
            simp only [Ste.kv, Ste.vv] at c0 c1 c2 c3 hkl2
            go_wp2_with first
              | (go_at_call 27; have gate := HM; clear gate; go_must (refine (K2.lift HM.out (fun s h => change_any h (.inl HA.out.k) (.inl HA.out.v) (Nat.le_trans hkl2 (by decide)) (by omega) ⟨HA.out.w1, HA.out.w2⟩) (by omega)).mono ?_); rintro e w12 ⟨rfl, Y⟩; clear HM; have HN := hid3 Y.swap; have C2 := HCC.out.keep Y.below; have f0 := C2.c0; have f1 := C2.c1; have f2 := C2.c2; have f3 := C2.c3; simp only [Ste.kv, Ste.vv] at f0 f1 f2 f3; clear C2)
              | (go_at_call 27; go_must (refine (K2.lift HN.out (fun s h => change_any h (.inl HA.out.k) (.inl HA.out.v) (Nat.le_trans hkl2 (by decide)) (by omega) ⟨HA.out.w1, HA.out.w2⟩) (by omega)).mono ?_); rintro e w13 ⟨rfl, Y2⟩)
            go_roundw
            case rel => exact ⟨k + 1, by omega, by go_num, _, Y2.swap.more (by omega)⟩
            case measure => simp [intOf]; omega
          · obtain rfl : k = n2 := by omega
            obtain ⟨E1, X⟩ := HX.out
            have HM := hid3 (X.more (B' := 1600) (by omega))
            clear X HX HS2
            go_wp2_with (go_at_call 19; go_must (refine (K2.lift HM.out (fun s h => bbegin (W' := [E1, E0]) h rfl) (by omega)).mono ?_); rintro e w14 ⟨rfl, H14⟩; clear HM)
            have H14' := hid3 H14
            clear H14
            go_loopw [14] (fun ti wr => ∃ k : Nat, k ≤ n3 ∧ ti = .int .i64 k ∧ Hid (∃ E E2, K2 w wr (Fm.pr ⟨[], [], []⟩ (.slice a9 m9 d9) E0) g E [E1, E0] g2 E2 [] (1600 + 2 * k) ∧ (keep = true → E2 = E) ∧ (keep = false → E2 = E1))) (fun ti _ => n3 - (intOf ti).toNat)
            case atStart => exact ⟨0, Nat.zero_le _, rfl, _, _, H14'.out, fun _ => rfl, fun _ => rfl⟩
            case round =>
              clear H14'
              obtain ⟨k, hk3, rfl, HX⟩ := hrel
              by_cases hlt : k < n3
              · obtain ⟨E, E2, X, hk1, hk4⟩ := HX.out
                obtain ⟨s, b, o, e1, rfl, C0, A0⟩ := HS3.out.at hlt
                have C := C0.keep X.below
                have c0 := C.c0
                have c1 := C.c1
                have c2 := C.c2
                have c3 := C.c3
                have HA := hid3 A0
                have HCC := hid3 C0
                have HM := hid3 X
                have hk0 : (k : Int) < n3 := by omega
                have hkl2 : s.kl.length ≤ 8000 := by have := hvy_mem e1; have := HL3.out; omega
                clear C C0 A0 X HX e1
                obtain ⟨what, num, ka, kc, kl, va, vc, vl⟩ := s
                simp only [Ste.kv, Ste.vv] at c0 c1 c2 c3 hkl2
                cases keep with
                | true =>
                  have HE := hid3 (hk1 rfl)
                  clear hk1 hk4
                  go_wp2_with first
                    | (go_at_call 27; have gate := HM; clear gate; go_must (refine (K2.lift HM.out (fun s h => change_any h (.inl HA.out.k) (.inl HA.out.v) (Nat.le_trans hkl2 (by decide)) (by omega) ⟨HA.out.w1, HA.out.w2⟩) (by omega)).mono ?_); rintro e w12 ⟨rfl, Y⟩; clear HM; have HN := hid3 Y.swap; have C2 := HCC.out.keep Y.below; have f0 := C2.c0; have f1 := C2.c1; have f2 := C2.c2; have f3 := C2.c3; simp only [Ste.kv, Ste.vv] at f0 f1 f2 f3; clear C2)
                    | (go_at_call 27; go_must (refine (K2.lift HN.out (fun s h => change_any h (.inl HA.out.k) (.inl HA.out.v) (Nat.le_trans hkl2 (by decide)) (by omega) ⟨HA.out.w1, HA.out.w2⟩) (by omega)).mono ?_); rintro e w13 ⟨rfl, Y2⟩)
                  go_roundw
                  case rel => exact ⟨k + 1, by omega, by go_num, _, _, Y2.swap.more (by omega), fun _ => by rw [HE.out], fun h => by cases h⟩
                  case measure => simp [intOf]; omega
                | false =>
                  have HE := hid3 (hk4 rfl)
                  clear hk1 hk4
                  go_wp2_with (go_at_call 27; have gate := HM; clear gate; go_must (refine (K2.lift HM.out (fun s h => change_any h (.inl HA.out.k) (.inl HA.out.v) (Nat.le_trans hkl2 (by decide)) (by omega) ⟨HA.out.w1, HA.out.w2⟩) (by omega)).mono ?_); rintro e w12 ⟨rfl, Y⟩; clear HM; have HN := hid3 Y.swap; have C2 := HCC.out.keep Y.below; have f0 := C2.c0; have f1 := C2.c1; have f2 := C2.c2; have f3 := C2.c3; simp only [Ste.kv, Ste.vv] at f0 f1 f2 f3; clear C2)
                  go_roundw
                  case rel => exact ⟨k + 1, by omega, by go_num, _, _, Y.more (by omega), fun h => (by cases h), fun _ => HE.out⟩
                  case measure => simp [intOf]; omega
              · obtain rfl : k = n3 := by omega
                obtain ⟨E, E2, X, hk1, hk3⟩ := HX.out
                have HM := hid3 (X.more (B' := 2400) (by omega))
                clear X HX HS3
                cases keep with
                | true =>
                  have HE := hid3 (show E2 = E from hk1 rfl)
                  clear hk1 hk3
                  go_wp2_with first
                    | (go_at_call 21; have gate := HM; clear gate; go_must (refine (K2.lift HM.out (fun s h => bcommit (W' := [E0]) h (by omega) rfl) (by omega)).mono ?_); rintro e w16 ⟨rfl, H16⟩; clear HM)
                    | (go_at_call 15; have gate := H16; clear gate; go_must (refine (K2.dump H16 (by omega)).mono ?_); rintro e w17 ⟨a17, m17, d17, rfl, H17⟩; clear H16; replace H17 := H17.swap)
                    | (go_at_call 15; have gate := H17; clear gate; go_must (refine (K2.dump H17 (by omega)).mono ?_); rintro e w18 ⟨a18, m18, d18, rfl, H18⟩; clear H17; have Z18 := H18.size; have Y18 := H18.small; replace H18 := H18.swap)
                    | (go_at_call 14; have gate := H18; clear gate; go_must (refine (K2.lift H18 (fun s h => bpairs (F := E) (F' := E2) h (.tail _ (.head _)) (.head _) HE.out.symm (by rw [← HE.out]; omega) (by rw [← HE.out]; exact Y18)) (by omega)).mono ?_); rintro e w19 ⟨rfl, H19⟩; clear H18)
                    | (go_at_call 16; have gate := H19; clear gate; go_must (refine (K2.dep (r := 1) H19 rfl).mono ?_); rintro e y ⟨rfl, hy⟩; replace hy := hy.symm; subst hy)
                    | (go_at_call 22; go_must (refine (K2.lift H19 (fun s h => brollback (E' := E0) (W' := []) h (by omega) rfl rfl) (by omega)).mono ?_); rintro e w20 ⟨rfl, H20⟩; clear H19)
                    | (go_at_call 15; go_must (refine (K2.dump H20 (by omega)).mono ?_); rintro e w21 ⟨a21, m21, d21, rfl, H21⟩; clear H20; have Z21 := H21.size; have Y21 := H21.small)
                    | (go_at_call 14; go_must (refine (K2.lift H21 (fun s h => bpairs (F := E0) (F' := E0) h (.head _) (.tail _ (.tail _ (.tail _ (.head _)))) rfl (by omega) Y21) (by omega)).mono ?_); rintro e w22 ⟨rfl, H22⟩; clear H21)
                    | (go_at_call 16; go_must (refine (K2.dep (r := 0) H22 rfl).mono ?_); rintro e y ⟨rfl, hy⟩; replace hy := hy.symm; subst hy)
                  go_ret
                  exact ⟨rfl, H22.below⟩
                | false =>
                  have HE := hid3 (show E2 = E1 from hk3 rfl)
                  clear hk1 hk3
                  go_wp2_with first
                    | (go_at_call 22; have gate := HM; clear gate; go_must (refine (K2.lift HM.out (fun s h => brollback (E' := E1) (W' := [E0]) h (by omega) rfl rfl) (by omega)).mono ?_); rintro e w16 ⟨rfl, H16⟩; clear HM)
                    | (go_at_call 15; have gate := H16; clear gate; go_must (refine (K2.dump H16 (by omega)).mono ?_); rintro e w17 ⟨a17, m17, d17, rfl, H17⟩; clear H16; replace H17 := H17.swap)
                    | (go_at_call 15; have gate := H17; clear gate; go_must (refine (K2.dump H17 (by omega)).mono ?_); rintro e w18 ⟨a18, m18, d18, rfl, H18⟩; clear H17; have Z18 := H18.size; have Y18 := H18.small; replace H18 := H18.swap)
                    | (go_at_call 14; have gate := H18; clear gate; go_must (refine (K2.lift H18 (fun s h => bpairs (F := E1) (F' := E2) h (.tail _ (.head _)) (.head _) HE.out.symm (by rw [← HE.out]; omega) (by rw [← HE.out]; exact Y18)) (by omega)).mono ?_); rintro e w19 ⟨rfl, H19⟩; clear H18)
                    | (go_at_call 16; have gate := H19; clear gate; go_must (refine (K2.dep (r := 1) H19 rfl).mono ?_); rintro e y ⟨rfl, hy⟩; replace hy := hy.symm; subst hy)
                    | (go_at_call 22; go_must (refine (K2.lift H19 (fun s h => brollback (E' := E0) (W' := []) h (by omega) rfl rfl) (by omega)).mono ?_); rintro e w20 ⟨rfl, H20⟩; clear H19)
                    | (go_at_call 15; go_must (refine (K2.dump H20 (by omega)).mono ?_); rintro e w21 ⟨a21, m21, d21, rfl, H21⟩; clear H20; have Z21 := H21.size; have Y21 := H21.small)
                    | (go_at_call 14; go_must (refine (K2.lift H21 (fun s h => bpairs (F := E0) (F' := E0) h (.head _) (.tail _ (.tail _ (.tail _ (.head _)))) rfl (by omega) Y21) (by omega)).mono ?_); rintro e w22 ⟨rfl, H22⟩; clear H21)
                    | (go_at_call 16; go_must (refine (K2.dep (r := 0) H22 rfl).mono ?_); rintro e y ⟨rfl, hy⟩; replace hy := hy.symm; subst hy)
                  go_ret
                  exact ⟨rfl, H22.below⟩
  · clear HS HS2 HS3 hl1 hl2 hl3
    cases l1 with
    | false =>
      go_enter Try.func7, Try.ntmps7
      go_wp2_with first
        | (go_at_call 9; refine t1.mono ?_; rintro e w1 ⟨rfl, B1⟩; clear t1)
        | (go_at_call 10; have gate := t2; clear gate; refine (t2 _ B1).mono ?_; rintro e w2 ⟨rfl, B2⟩; replace B1 := joinB B1 B2; clear t2 B2)
      go_ret
      exact ⟨rfl, B1⟩
    | true =>
      cases l2 with
      | false =>
        go_enter Try.func7, Try.ntmps7
        go_wp2_with first
          | (go_at_call 9; refine t1.mono ?_; rintro e w1 ⟨rfl, B1⟩; clear t1)
          | (go_at_call 10; have gate := t2; clear gate; refine (t2 _ B1).mono ?_; rintro e w2 ⟨rfl, B2⟩; replace B1 := joinB B1 B2; clear t2 B2)
          | (go_at_call 10; have gate := t3; clear gate; refine (t3 _ B1).mono ?_; rintro e w3 ⟨rfl, B2⟩; replace B1 := joinB B1 B2; clear t3 B2)
        go_ret
        exact ⟨rfl, B1⟩
      | true =>
        cases l3 with
        | false =>
          go_enter Try.func7, Try.ntmps7
          go_wp2_with first
            | (go_at_call 9; refine t1.mono ?_; rintro e w1 ⟨rfl, B1⟩; clear t1)
            | (go_at_call 10; have gate := t2; clear gate; refine (t2 _ B1).mono ?_; rintro e w2 ⟨rfl, B2⟩; replace B1 := joinB B1 B2; clear t2 B2)
            | (go_at_call 10; have gate := t3; clear gate; refine (t3 _ B1).mono ?_; rintro e w3 ⟨rfl, B2⟩; replace B1 := joinB B1 B2; clear t3 B2)
            | (go_at_call 10; have gate := t4; clear gate; refine (t4 _ B1).mono ?_; rintro e w4 ⟨rfl, B2⟩; replace B1 := joinB B1 B2; clear t4 B2)
          go_ret
          exact ⟨rfl, B1⟩
        | true => exact (hall ⟨rfl, rfl, rfl⟩).elim
end Kv
end Go.Proofs.Ytipokbenolekbaa
