/- gleanlaw6.KVApart. -/
import Derived.Test.YtipokbenolekbaaJma
namespace Go.Proofs.Ytipokbenolekbaa
namespace Kv
open Go.RowKit Go.Lib Pg
attribute [local go_sem] Oper.semAt_some
set_option maxHeartbeats 4000000 in
set_option maxRecDepth 100000 in
theorem kVApart_walk {w : World} {ao : Option Addr} {n c : Nat} {ss : List Ste} (S : StesA w ao n ss) {ao2 : Option Addr} {n2 c2 : Nat} {ss2 : List Ste} (S2 : StesA w ao2 n2 ss2) :
    Calls Try.prog 6 #[.slice ao n c, .slice ao2 n2 c2] w fun e w' => e = .returned (.bool true) ∧ Below w.heap.size w w' := by
  have t1 := known_any (w := w)
  have t2 := fun w' (hB : Below w.heap.size w w') => light_any (c := c) (S.keep hB)
  have t3 := fun w' (hB : Below w.heap.size w w') => light_any (c := c2) (S2.keep hB)
  have HS : Hid _ := S
  have HS2 : Hid _ := S2
  obtain ⟨l1, hl1⟩ : ∃ l1, Hid (lite n (hvy ss) = l1) := ⟨_, rfl⟩
  obtain ⟨l2, hl2⟩ : ∃ l2, Hid (lite n2 (hvy ss2) = l2) := ⟨_, rfl⟩
  rw [hl1.out] at t2
  rw [hl2.out] at t3
  clear S S2
  by_cases hall : l1 = true ∧ l2 = true
  · obtain ⟨rfl, rfl⟩ := hall
    have hn := (lite_yes hl1.out).2
    have hn2 := (lite_yes hl2.out).2
    have HL2 := hid3 (lite_yes hl2.out).1
    clear hl1 hl2
    go_enter Try.func6, Try.ntmps6
    go_wp2_with first
      | (go_at_call 9; refine t1.mono ?_; rintro e w1 ⟨rfl, B1⟩; clear t1)
      | (go_at_call 10; have gate := t2; clear gate; refine (t2 _ B1).mono ?_; rintro e w2 ⟨rfl, B2⟩; replace B1 := joinB B1 B2; clear t2 B2)
      | (go_at_call 10; refine (t3 _ B1).mono ?_; rintro e w3 ⟨rfl, B2⟩; replace B1 := joinB B1 B2; clear t3 B2)
      | (go_at_call 11; refine (bnew B1).mono ?_; rintro e w5 ⟨g, rfl, H5⟩; clear B1)
    have H6' := hid3 H5
    clear H5
    go_loopw [6] (fun ti wr => ∃ k : Nat, k ≤ n ∧ ti = .int .i64 k ∧ Hid (∃ E W, KB w wr ⟨[], [], []⟩ g E W k)) (fun ti _ => n - (intOf ti).toNat)
    case atStart => exact ⟨0, Nat.zero_le _, rfl, _, _, H6'.out⟩
    case round =>
      clear H6'
      obtain ⟨k, hk, rfl, HX⟩ := hrel
      by_cases hlt : k < n
      · obtain ⟨E, W, X⟩ := HX.out
        obtain ⟨s, b, o, e1, rfl, C0, A0⟩ := HS.out.at hlt
        have hb0 := cell_lt C0.c2
        have C := C0.keep X.below
        have c0 := C.c0
        have hcc : wr.drew.cell? ⟨b, o + k * 4 + 2, none⟩ = some (.slice s.ka s.kl.length s.kc) ∧ wr.drew.cell? ⟨b, o + k * 4 + 3, none⟩ = some (.slice s.va s.vl.length s.vc) := ⟨C.c2, C.c3⟩
        have HC := hid3 hcc
        have HC0 := hid3 (And.intro C0.c2 C0.c3)
        have HA := hid3 A0
        have HM := hid3 X
        have hk0 : (k : Int) < n := by omega
        clear C hcc C0 A0 X HX e1
        by_cases h8 : s.what = 8
        · rw [h8] at c0
          clear h8
          go_wp2_with (go_at_call 19; go_must (refine (bbegin HM.out rfl).mono ?_); rintro e w6 ⟨rfl, H6⟩)
          go_roundw
          case rel => exact ⟨k + 1, by omega, by go_num, _, _, H6.more (by omega)⟩
          case measure => simp [intOf]; omega
        · have q8 : (s.what = 8) = False := eq_false h8
          go_wp2_with fail
          have hS := HC.out
          have X := HM.out
          refine rg_start (S := fun w' => w'.cell? ⟨b, o + k * 4 + 2, none⟩ = some (.slice s.ka s.kl.length s.kc) ∧ w'.cell? ⟨b, o + k * 4 + 3, none⟩ = some (.slice s.va s.vl.length s.vc)) (by kernel_rfl) hS ?_
          refine rg_take 0 (some 36) (.pointer (some ⟨g, 0, none⟩)) (by kernel_rfl) (fun _ _ => by kernel_rfl) (fun _ _ _ h => h) hS ?_
          refine rg_take 1 (some 37) (.slice (some ⟨b, o, none⟩) n c) (by kernel_rfl) (fun _ _ => by kernel_rfl) (fun _ _ _ h => h) hS ?_
          refine rg_take 2 (some 38) (.int .i64 k) (by kernel_rfl) (fun _ _ => by kernel_rfl) (fun _ _ _ h => h) hS ?_
          refine rg_take 3 (some 39) (.pointer (some ⟨b, o + k * 4, none⟩)) (by kernel_rfl) (fun _ _ => run_st (x := 37) (y := 38) (k := k) (n := n) (c := c) (by kernel_rfl) (by kernel_rfl) (by kernel_rfl) rfl hlt) (fun _ _ _ h => h) hS ?_
          refine rg_take 4 (some 40) (.pointer (some ⟨b, o + k * 4 + 2, none⟩)) (by kernel_rfl) (fun _ _ => by kernel_rfl) (fun _ _ _ h => h) hS ?_
          refine rg_load 5 (some 41) (.slice s.ka s.kl.length s.kc) 32 40 (b) (o + k * 4 + 2) (by kernel_rfl) (by kernel_rfl) (by kernel_rfl) (fun w' h => ld_b h.1) (fun _ _ _ h => h) hS ?_
          refine rg_take 6 (some 42) (.slice (some ⟨b, o, none⟩) n c) (by kernel_rfl) (fun _ _ => by kernel_rfl) (fun _ _ _ h => h) hS ?_
          refine rg_take 7 (some 43) (.int .i64 k) (by kernel_rfl) (fun _ _ => by kernel_rfl) (fun _ _ _ h => h) hS ?_
          refine rg_take 8 (some 44) (.pointer (some ⟨b, o + k * 4, none⟩)) (by kernel_rfl) (fun _ _ => run_st (x := 42) (y := 43) (k := k) (n := n) (c := c) (by kernel_rfl) (by kernel_rfl) (by kernel_rfl) rfl hlt) (fun _ _ _ h => h) hS ?_
          refine rg_take 9 (some 45) (.pointer (some ⟨b, o + k * 4 + 3, none⟩)) (by kernel_rfl) (fun _ _ => by kernel_rfl) (fun _ _ _ h => h) hS ?_
          refine rg_load 10 (some 46) (.slice s.va s.vl.length s.vc) 32 45 (b) (o + k * 4 + 3) (by kernel_rfl) (by kernel_rfl) (by kernel_rfl) (fun w' h => ld_b h.2) (fun _ _ _ h => h) hS ?_
          refine rg_call 11 (some 47) 18 #[.pointer (some ⟨g, 0, none⟩), .slice s.ka s.kl.length s.kc, .slice s.va s.vl.length s.vc] (by kernel_rfl) (by kernel_rfl) (bset X.drew (.inl HA.out.k) (.inl HA.out.v) (by omega)) ?_
          rintro e' w7 ⟨rfl, X2⟩
          refine ⟨_, rfl, pcells2 HC0.out hb0 X2.below, ?_⟩
          refine rg_done (by kernel_rfl) ?_
          simp only [Act.put, List.setIfInBounds_toArray, List.set_cons_zero, List.set_cons_succ]
          have HX2 := hid3 X2
          clear X X2 hS HM HC
          go_wp2
          go_roundw
          case rel => exact ⟨k + 1, by omega, by go_num, _, _, HX2.out⟩
          case measure => simp [intOf]; omega
      · obtain rfl : k = n := by omega
        obtain ⟨E0, W0, X⟩ := HX.out
        have HM := hid3 (X.more (B' := 400) (by omega))
        clear X HX HS
        go_wp2_with first
          | (go_at_call 12; go_must (refine (bcopy HM.out (by omega)).mono ?_); rintro e w8 ⟨gc, Nc, rfl, H8, hNc⟩; clear HM)
          | (go_at_call 15; have gate := H8; clear gate; go_must (refine (bdump H8 (by omega)).mono ?_); rintro e w9 ⟨a9, m9, d9, rfl, H9⟩; clear H8)
          | (go_at_call 16; go_must (refine (KB.odep (f := Fm.pr ⟨[], [], []⟩ (.slice a9 m9 d9) E0) (r := 0) H9 rfl).mono ?_); rintro e y ⟨rfl, hy⟩; replace hy := hy.symm; subst hy)
          | (go_at_call 17; go_must (refine (KB.oops (f := Fm.pr ⟨[], [], []⟩ (.slice a9 m9 d9) E0) (r := 0) H9 rfl).mono ?_); rintro e y ⟨rfl, hy⟩; replace hy := hy.symm; subst hy)
          | (go_at_call 15; have h2 : K2 w _ (Fm.pr ⟨[], [], []⟩ (.slice a9 m9 d9) E0) g E0 W0 gc E0 [] 400 := ⟨0, Nc, H9, by omega, hNc⟩; go_must (refine (K2.dump h2.swap (by omega)).mono ?_); rintro e w10 ⟨a10, m10, d10, rfl, H10⟩; clear h2 H9)
          | (go_at_call 14; have z10 := H10.size; go_must (refine (K2.lift H10 (fun s h => bpairs (F := E0) (F' := E0) h (.head _) (.tail _ (.head _)) rfl (by omega) h.small) (by omega)).mono ?_); rintro e w11 ⟨rfl, H11⟩; clear H10 z10)
        have H11' := hid3 H11
        clear H11 hNc
        go_loopw [9] (fun ti wr => ∃ k : Nat, k ≤ n2 ∧ ti = .int .i64 k ∧ Hid (∃ E, K2 w wr (Fm.pr (Fm.pr ⟨[], [], []⟩ (.slice a9 m9 d9) E0) (.slice a10 m10 d10) E0) gc E [] g E0 W0 (400 + k))) (fun ti _ => n2 - (intOf ti).toNat)
        case atStart => exact ⟨0, Nat.zero_le _, rfl, _, H11'.out⟩
        case round =>
          clear H11'
          obtain ⟨k, hk2, rfl, HX⟩ := hrel
          by_cases hlt : k < n2
          · obtain ⟨E, X⟩ := HX.out
            obtain ⟨s, b, o, e1, rfl, C0, A0⟩ := HS2.out.at hlt
            have hb0 := cell_lt C0.c2
            have C := C0.keep X.below
            have hcc : wr.drew.cell? ⟨b, o + k * 4 + 2, none⟩ = some (.slice s.ka s.kl.length s.kc) ∧ wr.drew.cell? ⟨b, o + k * 4 + 3, none⟩ = some (.slice s.va s.vl.length s.vc) := ⟨C.c2, C.c3⟩
            have cK : wr.cell? ⟨b, o + k * 4 + 2, none⟩ = some (.slice s.ka s.kl.length s.kc) := C.c2
            have HC := hid3 hcc
            have HC0 := hid3 (And.intro C0.c2 C0.c3)
            have HA := hid3 A0
            have HM := hid3 X
            have hk0 : (k : Int) < n2 := by omega
            have hkl2 : s.kl.length ≤ 8000 := by have := hvy_mem e1; have := HL2.out; omega
            clear C hcc C0 A0 X HX e1
            by_cases hev : (k : Int) % 2 = 0
            · go_wp2_with fail
              have hS := HC.out
              have X := HM.out
              refine rg_start (S := fun w' => w'.cell? ⟨b, o + k * 4 + 2, none⟩ = some (.slice s.ka s.kl.length s.kc) ∧ w'.cell? ⟨b, o + k * 4 + 3, none⟩ = some (.slice s.va s.vl.length s.vc)) (by kernel_rfl) hS ?_
              refine rg_take 0 (some 76) (.pointer (some ⟨gc, 0, none⟩)) (by kernel_rfl) (fun _ _ => by kernel_rfl) (fun _ _ _ h => h) hS ?_
              refine rg_take 1 (some 77) (.slice (some ⟨b, o, none⟩) n2 c2) (by kernel_rfl) (fun _ _ => by kernel_rfl) (fun _ _ _ h => h) hS ?_
              refine rg_take 2 (some 78) (.int .i64 k) (by kernel_rfl) (fun _ _ => by kernel_rfl) (fun _ _ _ h => h) hS ?_
              refine rg_take 3 (some 79) (.pointer (some ⟨b, o + k * 4, none⟩)) (by kernel_rfl) (fun _ _ => run_st (x := 77) (y := 78) (k := k) (n := n2) (c := c2) (by kernel_rfl) (by kernel_rfl) (by kernel_rfl) rfl hlt) (fun _ _ _ h => h) hS ?_
              refine rg_take 4 (some 80) (.pointer (some ⟨b, o + k * 4 + 2, none⟩)) (by kernel_rfl) (fun _ _ => by kernel_rfl) (fun _ _ _ h => h) hS ?_
              refine rg_load 5 (some 81) (.slice s.ka s.kl.length s.kc) 32 80 (b) (o + k * 4 + 2) (by kernel_rfl) (by kernel_rfl) (by kernel_rfl) (fun w' h => ld_b h.1) (fun _ _ _ h => h) hS ?_
              refine rg_take 6 (some 82) (.slice (some ⟨b, o, none⟩) n2 c2) (by kernel_rfl) (fun _ _ => by kernel_rfl) (fun _ _ _ h => h) hS ?_
              refine rg_take 7 (some 83) (.int .i64 k) (by kernel_rfl) (fun _ _ => by kernel_rfl) (fun _ _ _ h => h) hS ?_
              refine rg_take 8 (some 84) (.pointer (some ⟨b, o + k * 4, none⟩)) (by kernel_rfl) (fun _ _ => run_st (x := 82) (y := 83) (k := k) (n := n2) (c := c2) (by kernel_rfl) (by kernel_rfl) (by kernel_rfl) rfl hlt) (fun _ _ _ h => h) hS ?_
              refine rg_take 9 (some 85) (.pointer (some ⟨b, o + k * 4 + 3, none⟩)) (by kernel_rfl) (fun _ _ => by kernel_rfl) (fun _ _ _ h => h) hS ?_
              refine rg_load 10 (some 86) (.slice s.va s.vl.length s.vc) 32 85 (b) (o + k * 4 + 3) (by kernel_rfl) (by kernel_rfl) (by kernel_rfl) (fun w' h => ld_b h.2) (fun _ _ _ h => h) hS ?_
              refine rg_call 11 (some 87) 18 #[.pointer (some ⟨gc, 0, none⟩), .slice s.ka s.kl.length s.kc, .slice s.va s.vl.length s.vc] (by kernel_rfl) (by kernel_rfl) (K2.lift X.drew (fun s h => bset h (.inl HA.out.k) (.inl HA.out.v) (by omega)) (by omega)) ?_
              rintro e' w7 ⟨rfl, X2⟩
              refine ⟨_, rfl, pcells2 HC0.out hb0 X2.below, ?_⟩
              refine rg_done (by kernel_rfl) ?_
              simp only [Act.put, List.setIfInBounds_toArray, List.set_cons_zero, List.set_cons_succ]
              have HX2 := hid3 X2
              clear X X2 hS HM HC
              go_wp2
              go_roundw
              case rel => exact ⟨k + 1, by omega, by go_num, _, HX2.out.more (by omega)⟩
              case measure => simp [intOf]; omega
            · have qe : ((k : Int) % 2 = 0) = False := eq_false hev
              go_wp2_with first
                | (exfalso; omega)
                | (go_at_call 20; go_must (refine (K2.lift HM.out (fun s h => bdel h (.inl HA.out.k) (Nat.le_trans hkl2 (by decide)) (by omega)) (by omega)).mono ?_); rintro e w7 ⟨rfl, X2⟩)
              go_roundw
              case rel => exact ⟨k + 1, by omega, by go_num, _, X2.more (by omega)⟩
              case measure => simp [intOf]; omega
          · obtain rfl : k = n2 := by omega
            obtain ⟨E1, X⟩ := HX.out
            have HM := hid3 (X.more (B' := 800) (by omega))
            clear X HX HS2
            go_wp2_with first
              | (go_at_call 15; have gate := HM; clear gate; go_must (refine (K2.dump HM.out (by omega)).mono ?_); rintro e w12 ⟨a12, m12, d12, rfl, H12⟩; clear HM; replace H12 := H12.swap)
              | (go_at_call 15; go_must (refine (K2.dump H12 (by omega)).mono ?_); rintro e w13 ⟨a13, m13, d13, rfl, H13⟩; clear H12)
              | (go_at_call 14; have z10 := H13.size; go_must (refine (K2.lift H13 (fun s h => bpairs (F := E0) (F' := E0) h (.head _) (.tail _ (.tail _ (.tail _ (.head _)))) rfl (by omega) h.small) (by omega)).mono ?_); rintro e w14 ⟨rfl, H14⟩; clear H13 z10)
            have H14' := hid3 H14
            clear H14
            go_loopw [] (fun wr => Hid (∃ E W, K2 w wr (Fm.pr (Fm.pr (Fm.pr (Fm.pr ⟨[], [], []⟩ (.slice a9 m9 d9) E0) (.slice a10 m10 d10) E0) (.slice a12 m12 d12) E1) (.slice a13 m13 d13) E0) g E W gc E1 [] (800 + (16 - W.length)))) (fun wr => jln wr g)
            case atStart => exact ⟨_, _, H14'.out.more (by omega)⟩
            case round =>
              clear H14'
              obtain ⟨E, W, X⟩ := hrel.out
              have hjl := X.jln
              obtain ⟨m, hm⟩ : ∃ m, Hid (W.length = m) := ⟨_, rfl⟩
              have hm16 : m ≤ 16 := by rw [← hm.out]; exact X.depth
              rw [hm.out] at X
              have HQ := hid3 X
              clear X hrel
              by_cases h0 : m = 0
              · subst h0
                have hW : W = [] := List.eq_nil_of_length_eq_zero hm.out
                subst hW
                go_wp2_with first
                  | (go_at_call 16; go_must (refine (K2.dep (r := 0) HQ.out rfl).mono ?_); rintro e y ⟨rfl, hy⟩; replace hy := hy.symm; subst hy)
                  | (go_at_call 15; go_must (refine (K2.dump HQ.out.swap (by omega)).mono ?_); rintro e w15 ⟨a15, m15, d15, rfl, H15⟩)
                  | (go_at_call 14; have z10 := H15.size; go_must (refine (K2.lift H15 (fun s h => bpairs (F := E1) (F' := E1) h (.head _) (.tail _ (.tail _ (.head _))) rfl (by omega) h.small) (by omega)).mono ?_); rintro e w16 ⟨rfl, H16⟩; clear z10)
                go_ret
                exact ⟨rfl, H16.below⟩
              · have hm0 : (0 : Int) < m := by omega
                have HW := hid3 (show (if W = [] then 62 else 0 : Int) = 0 by rw [if_neg]; intro e; rw [e] at hm; exact h0 hm.out.symm)
                go_wp2_with first
                  | (go_at_call 16; go_must (refine (K2.dep (r := (m : Int)) HQ.out (by rw [hm.out])).mono ?_); rintro e y ⟨rfl, hy⟩; replace hy := hy.symm; subst hy)
                  | (go_at_call 22; go_must (refine (K2.lift HQ.out (fun s h => brollback h (by omega) rfl rfl) (by omega)).mono ?_); rintro e w15 ⟨rfl, H15⟩; rw [HW.out]; have H15' := hid3 H15; clear H15)
                  | (go_at_call 18; go_must (refine (K2.lift (H15'.out.lits (x := 1) (y := 9) (by decide) (by decide)) (fun s h => bset (k := [1]) (v := [9]) h (Fr.more Fr.new) Fr.new (by omega)) (by omega)).mono ?_); rintro e w16 ⟨rfl, H16⟩; have H17 := H16.drop.drop)
                go_roundw
                case rel => exact ⟨_, _, H17.more (by rw [List.length_tail, hm.out]; omega)⟩
                case measure =>
                  have := H17.jln
                  rw [List.length_tail] at this
                  have := hm.out
                  omega
  · clear HS HS2 hl1 hl2
    cases l1 with
    | false =>
      go_enter Try.func6, Try.ntmps6
      go_wp2_with first
        | (go_at_call 9; refine t1.mono ?_; rintro e w1 ⟨rfl, B1⟩; clear t1)
        | (go_at_call 10; have gate := t2; clear gate; refine (t2 _ B1).mono ?_; rintro e w2 ⟨rfl, B2⟩; replace B1 := joinB B1 B2; clear t2 B2)
      go_ret
      exact ⟨rfl, B1⟩
    | true =>
      cases l2 with
      | false =>
        go_enter Try.func6, Try.ntmps6
        go_wp2_with first
          | (go_at_call 9; refine t1.mono ?_; rintro e w1 ⟨rfl, B1⟩; clear t1)
          | (go_at_call 10; have gate := t2; clear gate; refine (t2 _ B1).mono ?_; rintro e w2 ⟨rfl, B2⟩; replace B1 := joinB B1 B2; clear t2 B2)
          | (go_at_call 10; have gate := t3; clear gate; refine (t3 _ B1).mono ?_; rintro e w3 ⟨rfl, B2⟩; replace B1 := joinB B1 B2; clear t3 B2)
        go_ret
        exact ⟨rfl, B1⟩
      | true => exact (hall ⟨rfl, rfl⟩).elim
end Kv
end Go.Proofs.Ytipokbenolekbaa
