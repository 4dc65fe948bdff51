/- gleanlaw6.KVBack. -/
import Derived.Test.YtipokbenolekbaaJkd
namespace Go.Proofs.Ytipokbenolekbaa
namespace Kv
open Go.RowKit Go.Lib Pg
attribute [local go_sem] Oper.semAt_some
theorem begun_ok (E : Ents) (W : List Ents) (e : Ents) : ∃ W', begun E (W ++ [e]) = W' ++ [e] := by
  unfold begun
  split
  · exact ⟨W, rfl⟩
  · exact ⟨E :: W, rfl⟩
theorem tail_ok {W : List Ents} {e : Ents} (h : 1 < (W ++ [e]).length) : ∃ W', (W ++ [e]).tail = W' ++ [e] := by
  cases W with
  | nil => simp at h
  | cons a W => exact ⟨W, rfl⟩
theorem last_tail (W : List Ents) (E : Ents) : W.tail.getLastD (W.headD E) = W.getLastD E := by
  cases W with
  | nil => rfl
  | cons a W => cases W <;> rfl
/-- how many journals there are, as the store's block says -/
def jlen (w : World) (g : Nat) : Nat := match w.cell? ⟨g, 1, none⟩ with
  | some (.slice _ n _) => n
  | _ => 0
theorem SA.jlen {w : World} {K D : Nat → Prop} {g n N : Nat} {E : Ents} {W : List Ents} (h : SA w K D g E W n N) : jlen w g = W.length := by
  obtain ⟨F, V, m, Q, jv, T, oj, hb, _, _, hj, hk, _⟩ := h.ex
  have hl := hk.len
  simp at hl
  have hc := hb.cell (i := 1) rfl
  unfold Kv.jlen
  rw [hc, ← hl]
  rcases hj.row with ⟨_, rfl, rfl⟩ | ⟨b, c, _, rfl, _⟩ <;> rfl
theorem KB.jlen {w0 w : World} {f : Fm} {g : Nat} {E : Ents} {W : List Ents} {B : Nat} (h : KB w0 w f g E W B) : jlen w g = W.length := by
  obtain ⟨n, N, h, _⟩ := h.ex
  obtain ⟨K, h⟩ := h.ex
  exact h.sa.jlen
set_option maxHeartbeats 4000000 in
set_option maxRecDepth 100000 in
theorem kVBack_walk {w : World} {ao : Option Addr} {n c : Nat} {ss : List Ste} (S : StesA w ao n ss) {ao2 : Option Addr} {n2 c2 : Nat} {ss2 : List Ste} (S2 : StesA w ao2 n2 ss2) {keep : Bool} :
    Calls Try.prog 4 #[.slice ao n c, .slice ao2 n2 c2, .bool keep] w fun e w' => e = .returned (.bool true) ∧ Below w.heap.size w w' := by
  have t1 := known_any (w := w)
  have t2 := fun w' (hB : Below w.heap.size w w') => light_any (c := c) (S.keep hB)
  have t3 := fun w' (hB : Below w.heap.size w w') => light_any (c := c2) (S2.keep hB)
  have HS : Hid _ := S
  have HS2 : Hid _ := S2
  obtain ⟨l1, hl1⟩ : ∃ l1, Hid (lite n (hvy ss) = l1) := ⟨_, rfl⟩
  obtain ⟨l2, hl2⟩ : ∃ l2, Hid (lite n2 (hvy ss2) = l2) := ⟨_, rfl⟩
  rw [hl1.out] at t2
  rw [hl2.out] at t3
  clear S S2
  cases l1 with
  | false =>
    clear t3 HS HS2 hl1 hl2
    go_enter Try.func4, Try.ntmps4
    go_wp2_with first
      | (go_at_call 9; refine t1.mono ?_; rintro e w1 ⟨rfl, B1⟩)
      | (go_at_call 10; refine (t2 _ B1).mono ?_; rintro e w2 ⟨rfl, B2⟩)
    go_ret
    exact ⟨rfl, joinB B1 B2⟩
  | true =>
    cases l2 with
    | false =>
      clear HS HS2 hl1 hl2
      go_enter Try.func4, Try.ntmps4
      go_wp2_with first
        | (go_at_call 9; refine t1.mono ?_; rintro e w1 ⟨rfl, B1⟩)
        | (go_at_call 10; have gate := t2; clear gate; refine (t2 _ B1).mono ?_; rintro e w2 ⟨rfl, B2⟩; replace B1 := joinB B1 B2; clear t2 B2)
        | (go_at_call 10; refine (t3 _ B1).mono ?_; rintro e w3 ⟨rfl, B2⟩)
      go_ret
      exact ⟨rfl, joinB B1 B2⟩
    | true =>
      have hn := (lite_yes hl1.out).2
      have hn2 := (lite_yes hl2.out).2
      have HL1 := hid3 (lite_yes hl1.out).1
      have HL2 := hid3 (lite_yes hl2.out).1
      clear hl1 hl2
      go_enter Try.func4, Try.ntmps4
      go_wp2_with first
        | (go_at_call 9; refine t1.mono ?_; rintro e w1 ⟨rfl, B1⟩; clear t1)
        | (go_at_call 10; have gate := t2; clear gate; refine (t2 _ B1).mono ?_; rintro e w2 ⟨rfl, B2⟩; replace B1 := joinB B1 B2; clear t2 B2)
        | (go_at_call 10; refine (t3 _ B1).mono ?_; rintro e w3 ⟨rfl, B2⟩; replace B1 := joinB B1 B2; clear t3 B2)
        | (go_at_call 11; refine (bnew B1).mono ?_; rintro e w4 ⟨g, rfl, H4⟩; clear B1)
      have H4' := hid3 H4
      clear H4
      go_loopw [8] (fun ti wr => ∃ k : Nat, k ≤ n ∧ ti = .int .i64 k ∧ Hid (∃ E, KB w wr ⟨[], [], []⟩ g E [] k)) (fun ti _ => n - (intOf ti).toNat)
      case atStart => exact ⟨0, Nat.zero_le _, rfl, _, H4'.out⟩
      case round =>
        obtain ⟨k, hk, rfl, HX⟩ := hrel
        by_cases hlt : k < n
        · obtain ⟨E, X⟩ := HX.out
          obtain ⟨s, b, o, e1, rfl, C0, A0⟩ := HS.out.at hlt
          have hb0 := cell_lt C0.c2
          have C := C0.keep X.below
          have c0 := C.c0
          have hcc : wr.drew.cell? ⟨b, o + k * 4 + 2, none⟩ = some (.slice s.ka s.kl.length s.kc) ∧ wr.drew.cell? ⟨b, o + k * 4 + 3, none⟩ = some (.slice s.va s.vl.length s.vc) := ⟨C.c2, C.c3⟩
          have HC := hid3 hcc
          have HC0 := hid3 (And.intro C0.c2 C0.c3)
          have HA := hid3 A0
          have HM := hid3 X
          have hk0 : (k : Int) < n := by omega
          clear C hcc C0 A0 X HX e1
          by_cases hwh : s.what < 3
          · go_wp2_with fail
            have hS := HC.out
            have X := HM.out
            refine rg_start (S := fun w' => w'.cell? ⟨b, o + k * 4 + 2, none⟩ = some (.slice s.ka s.kl.length s.kc) ∧ w'.cell? ⟨b, o + k * 4 + 3, none⟩ = some (.slice s.va s.vl.length s.vc)) (by kernel_rfl) hS ?_
            refine rg_take 0 (some 37) (.pointer (some ⟨g, 0, none⟩)) (by kernel_rfl) (fun _ _ => by kernel_rfl) (fun _ _ _ h => h) hS ?_
            refine rg_take 1 (some 38) (.slice (some ⟨b, o, none⟩) n c) (by kernel_rfl) (fun _ _ => by kernel_rfl) (fun _ _ _ h => h) hS ?_
            refine rg_take 2 (some 39) (.int .i64 k) (by kernel_rfl) (fun _ _ => by kernel_rfl) (fun _ _ _ h => h) hS ?_
            refine rg_take 3 (some 40) (.pointer (some ⟨b, o + k * 4, none⟩)) (by kernel_rfl) (fun _ _ => run_st (x := 38) (y := 39) (k := k) (n := n) (c := c) (by kernel_rfl) (by kernel_rfl) (by kernel_rfl) rfl hlt) (fun _ _ _ h => h) hS ?_
            refine rg_take 4 (some 41) (.pointer (some ⟨b, o + k * 4 + 2, none⟩)) (by kernel_rfl) (fun _ _ => by kernel_rfl) (fun _ _ _ h => h) hS ?_
            refine rg_load 5 (some 42) (.slice s.ka s.kl.length s.kc) 32 41 (b) (o + k * 4 + 2) (by kernel_rfl) (by kernel_rfl) (by kernel_rfl) (fun w' h => ld_b h.1) (fun _ _ _ h => h) hS ?_
            refine rg_take 6 (some 43) (.slice (some ⟨b, o, none⟩) n c) (by kernel_rfl) (fun _ _ => by kernel_rfl) (fun _ _ _ h => h) hS ?_
            refine rg_take 7 (some 44) (.int .i64 k) (by kernel_rfl) (fun _ _ => by kernel_rfl) (fun _ _ _ h => h) hS ?_
            refine rg_take 8 (some 45) (.pointer (some ⟨b, o + k * 4, none⟩)) (by kernel_rfl) (fun _ _ => run_st (x := 43) (y := 44) (k := k) (n := n) (c := c) (by kernel_rfl) (by kernel_rfl) (by kernel_rfl) rfl hlt) (fun _ _ _ h => h) hS ?_
            refine rg_take 9 (some 46) (.pointer (some ⟨b, o + k * 4 + 3, none⟩)) (by kernel_rfl) (fun _ _ => by kernel_rfl) (fun _ _ _ h => h) hS ?_
            refine rg_load 10 (some 47) (.slice s.va s.vl.length s.vc) 32 46 (b) (o + k * 4 + 3) (by kernel_rfl) (by kernel_rfl) (by kernel_rfl) (fun w' h => ld_b h.2) (fun _ _ _ h => h) hS ?_
            refine rg_call 11 (some 48) 18 #[.pointer (some ⟨g, 0, none⟩), .slice s.ka s.kl.length s.kc, .slice s.va s.vl.length s.vc] (by kernel_rfl) (by kernel_rfl) (bset X.drew (.inl HA.out.k) (.inl HA.out.v) (by omega)) ?_
            rintro e' w2 ⟨rfl, X2⟩
            refine ⟨_, rfl, pcells2 HC0.out hb0 X2.below, ?_⟩
            refine rg_done (by kernel_rfl) ?_
            simp only [Act.put, List.setIfInBounds_toArray, List.set_cons_zero, List.set_cons_succ]
            have HX2 := hid3 X2
            clear X X2 hS
            go_wp2
            go_roundw
            case rel => exact ⟨k + 1, by omega, by go_num, _, HX2.out⟩
            case measure => simp [intOf]; omega
          · go_wp2
            go_roundw
            case rel => exact ⟨k + 1, by omega, by go_num, _, HM.out.more (by omega)⟩
            case measure => simp [intOf]; omega
        · obtain rfl : k = n := by omega
          obtain ⟨E0, X⟩ := HX.out
          have HM := hid3 X
          clear X HX HS
          go_wp2_with first
            | (go_at_call 15; go_must (refine (bdump HM.out (by omega)).mono ?_); rintro e w5 ⟨a5, m5, d5, rfl, H5⟩; replace HM := hid3 H5; clear H5)
            | (go_at_call 19; go_must (refine (bbegin (W' := [E0]) HM.out rfl).mono ?_); rintro e w6 ⟨rfl, H6⟩)
          have H6' := hid3 H6
          clear H6 HM
          go_loopw [10] (fun ti wr => ∃ k : Nat, k ≤ n2 ∧ ti = .int .i64 k ∧ Hid (∃ E W, KB w wr (Fm.pr ⟨[], [], []⟩ (.slice a5 m5 d5) E0) g E (W ++ [E0]) (400 + k))) (fun ti _ => n2 - (intOf ti).toNat)
          case atStart => exact ⟨0, Nat.zero_le _, rfl, _, [], H6'.out.more (by omega)⟩
          case round =>
            obtain ⟨k, hk2, rfl, HX⟩ := hrel
            by_cases hlt : k < n2
            · obtain ⟨E, W, X⟩ := HX.out
              obtain ⟨s, b, o, e1, rfl, C0, A0⟩ := HS2.out.at hlt
              have C := C0.keep X.below
              have c0 := C.c0
              have c1 := C.c1
              have c2 := C.c2
              have c3 := C.c3
              have hkl := A0.kb
              have HA := hid3 A0
              have HM := hid3 X
              have hk0 : (k : Int) < n2 := by omega
              have hkl2 : s.kl.length ≤ 8000 := by have := hvy_mem e1; have := HL2.out; omega
              have al := below_alloc wr (.cells #[.int .i64 s.what, .int .i64 s.num, .slice s.ka s.kl.length s.kc, .slice s.va s.vl.length s.vc] 34)
              have HM := hid3 (X.keep al)
              clear C C0 A0 X HX e1 hkl al
              obtain ⟨what, num, ka, kc, kl, va, vc, vl⟩ := s
              simp only [Ste.kv, Ste.vv] at c0 c1 c2 c3 hkl2
              obtain ⟨m, hm⟩ : ∃ m, Hid ((W ++ [E0]).length = m) := ⟨_, rfl⟩
              by_cases h9 : what = 9
              · subst h9
                go_wp2_with first
                  | (go_at_call 18; go_must (refine (bset HM.out (.inl HA.out.k) (.inl HA.out.v) (by omega)).mono ?_); rintro e w7 ⟨rfl, Y⟩)
                  | (go_at_call 20; go_must (refine (bdel HM.out (.inl HA.out.k) (Nat.le_trans hkl2 (by decide)) (by omega)).mono ?_); rintro e w7 ⟨rfl, Y⟩)
                  | (go_at_call 19; go_must (refine (bbegin HM.out rfl).mono ?_); rintro e w7 ⟨rfl, Y⟩; obtain ⟨W', hW'⟩ := begun_ok E W E0; rw [hW'] at Y)
                  | (go_at_call 16; go_must (refine (bdepth (r := (m : Int)) HM.out (by rw [hm.out])).mono ?_); rintro e y ⟨rfl, hy⟩; replace hy := hy.symm; subst hy)
                  | (go_at_call 21; obtain ⟨W', hW'⟩ := tail_ok (W := W) (e := E0) (by have := hm.out; omega); go_must (refine (bcommit HM.out (by omega) hW').mono ?_); rintro e w7 ⟨rfl, Y⟩)
                  | (go_at_call 22; obtain ⟨W', hW'⟩ := tail_ok (W := W) (e := E0) (by have := hm.out; omega); go_must (refine (brollback HM.out (by omega) rfl hW').mono ?_); rintro e w7 ⟨rfl, Y⟩)
                all_goals
                  go_roundw
                  case rel => first
                    | exact ⟨k + 1, by omega, by go_num, _, _, Y.more (by omega)⟩
                    | exact ⟨k + 1, by omega, by go_num, _, _, HM.out.more (by omega)⟩
                  case measure => simp [intOf]; omega
              · by_cases h10 : what = 10
                · subst h10
                  go_wp2_with first
                    | (go_at_call 18; go_must (refine (bset HM.out (.inl HA.out.k) (.inl HA.out.v) (by omega)).mono ?_); rintro e w7 ⟨rfl, Y⟩)
                    | (go_at_call 20; go_must (refine (bdel HM.out (.inl HA.out.k) (Nat.le_trans hkl2 (by decide)) (by omega)).mono ?_); rintro e w7 ⟨rfl, Y⟩)
                    | (go_at_call 19; go_must (refine (bbegin HM.out rfl).mono ?_); rintro e w7 ⟨rfl, Y⟩; obtain ⟨W', hW'⟩ := begun_ok E W E0; rw [hW'] at Y)
                    | (go_at_call 16; go_must (refine (bdepth (r := (m : Int)) HM.out (by rw [hm.out])).mono ?_); rintro e y ⟨rfl, hy⟩; replace hy := hy.symm; subst hy)
                    | (go_at_call 21; obtain ⟨W', hW'⟩ := tail_ok (W := W) (e := E0) (by have := hm.out; omega); go_must (refine (bcommit HM.out (by omega) hW').mono ?_); rintro e w7 ⟨rfl, Y⟩)
                    | (go_at_call 22; obtain ⟨W', hW'⟩ := tail_ok (W := W) (e := E0) (by have := hm.out; omega); go_must (refine (brollback HM.out (by omega) rfl hW').mono ?_); rintro e w7 ⟨rfl, Y⟩)
                  all_goals
                    go_roundw
                    case rel => first
                      | exact ⟨k + 1, by omega, by go_num, _, _, Y.more (by omega)⟩
                      | exact ⟨k + 1, by omega, by go_num, _, _, HM.out.more (by omega)⟩
                    case measure => simp [intOf]; omega
                · have q9 : (what = 9) = False := eq_false h9
                  have q10 : (what = 10) = False := eq_false h10
                  go_wp2_with first
                    | (go_at_call 18; go_must (refine (bset HM.out (.inl HA.out.k) (.inl HA.out.v) (by omega)).mono ?_); rintro e w7 ⟨rfl, Y⟩)
                    | (go_at_call 20; go_must (refine (bdel HM.out (.inl HA.out.k) (Nat.le_trans hkl2 (by decide)) (by omega)).mono ?_); rintro e w7 ⟨rfl, Y⟩)
                    | (go_at_call 19; go_must (refine (bbegin HM.out rfl).mono ?_); rintro e w7 ⟨rfl, Y⟩; obtain ⟨W', hW'⟩ := begun_ok E W E0; rw [hW'] at Y)
                    | (go_at_call 16; go_must (refine (bdepth (r := (m : Int)) HM.out (by rw [hm.out])).mono ?_); rintro e y ⟨rfl, hy⟩; replace hy := hy.symm; subst hy)
                    | (go_at_call 21; obtain ⟨W', hW'⟩ := tail_ok (W := W) (e := E0) (by have := hm.out; omega); go_must (refine (bcommit HM.out (by omega) hW').mono ?_); rintro e w7 ⟨rfl, Y⟩)
                    | (go_at_call 22; obtain ⟨W', hW'⟩ := tail_ok (W := W) (e := E0) (by have := hm.out; omega); go_must (refine (brollback HM.out (by omega) rfl hW').mono ?_); rintro e w7 ⟨rfl, Y⟩)
                  all_goals
                    go_roundw
                    case rel => first
                      | exact ⟨k + 1, by omega, by go_num, _, _, Y.more (by omega)⟩
                      | exact ⟨k + 1, by omega, by go_num, _, _, HM.out.more (by omega)⟩
                    case measure => simp [intOf]; omega
            · obtain rfl : k = n2 := by omega
              obtain ⟨E1, W, X⟩ := HX.out
              have HM := hid3 X
              clear X HX HS2
              go_wp2_with (go_at_call 15; go_must (refine (bdump HM.out (by omega)).mono ?_); rintro e w8 ⟨a8, m8, d8, rfl, H8⟩; replace HM := hid3 H8; clear H8)
              go_loopw [] (fun wr => Hid (∃ E W, KB w wr (Fm.pr (Fm.pr ⟨[], [], []⟩ (.slice a5 m5 d5) E0) (.slice a8 m8 d8) E1) g E W (400 + k) ∧ (keep = true → E = E1) ∧ (keep = false → W.getLastD E = E0))) (fun wr => jlen wr g)
              case atStart => exact ⟨_, _, HM.out, fun _ => rfl, fun _ => by simp⟩
              case round =>
                obtain ⟨E, W, X, hk1, hk3⟩ := hrel.out
                have hjl := X.jlen
                obtain ⟨m, hm⟩ : ∃ m, Hid (W.length = m) := ⟨_, rfl⟩
                have hm16 : m ≤ 16 := by rw [← hm.out]; exact X.depth
                have HQ := hid3 X
                clear X HM
                cases keep with
                | true =>
                  by_cases h0 : m = 0
                  · subst h0
                    have hW : W = [] := List.eq_nil_of_length_eq_zero hm.out
                    subst hW
                    have HE := hid3 (hk1 rfl)
                    clear hk1 hk3 hrel
                    go_wp2_with first
                      | (go_at_call 16; go_must (refine (bdepth (r := 0) HQ.out rfl).mono ?_); rintro e y ⟨rfl, hy⟩; replace hy := hy.symm; subst hy)
                      | (go_at_call 15; go_must (refine (bdump HQ.out (by omega)).mono ?_); rintro e w9 ⟨a9, m9, d9, rfl, H9⟩)
                      | (go_at_call 14; go_must (refine (bpairs H9 (.head _) (.tail _ (.head _)) HE.out (Nat.le_trans H9.size (by omega)) H9.small).mono ?_); rintro e w10 ⟨rfl, H10⟩)
                    go_ret
                    exact ⟨rfl, H10.below⟩
                  · have hm0 : (0 : Int) < m := by omega
                    have HK := hid3 (hk1 rfl)
                    clear hrel hk1 hk3
                    go_wp2_with first
                      | (go_at_call 16; have gate := HQ; clear gate; go_must (refine (bdepth (r := (m : Int)) HQ.out (by rw [hm.out])).mono ?_); rintro e y ⟨rfl, hy⟩; replace hy := hy.symm; subst hy)
                      | (go_at_call 21; go_must (refine (bcommit HQ.out (by omega) rfl).mono ?_); rintro e w10 ⟨rfl, H10⟩; clear HQ)
                      | (go_at_call 16; go_must (refine (bdepth (r := (m : Int) - 1) H10 (by rw [List.length_tail, hm.out]; omega)).mono ?_); rintro e y ⟨rfl, hy⟩; replace hy := hy.symm; subst hy)
                    go_roundw
                    case rel =>
                      refine ⟨_, _, H10, ?_, ?_⟩
                      · intro h; exact HK.out
                      · intro h; cases h
                    case measure =>
                      have := H10.jlen
                      rw [List.length_tail] at this
                      have := hm.out
                      omega
                | false =>
                  by_cases h0 : m = 0
                  · subst h0
                    have hW : W = [] := List.eq_nil_of_length_eq_zero hm.out
                    subst hW
                    have HE := hid3 (show E = E0 by simpa using hk3 rfl)
                    clear hk1 hk3 hrel
                    go_wp2_with first
                      | (go_at_call 16; go_must (refine (bdepth (r := 0) HQ.out rfl).mono ?_); rintro e y ⟨rfl, hy⟩; replace hy := hy.symm; subst hy)
                      | (go_at_call 15; go_must (refine (bdump HQ.out (by omega)).mono ?_); rintro e w9 ⟨a9, m9, d9, rfl, H9⟩)
                      | (go_at_call 14; go_must (refine (bpairs H9 (.head _) (.tail _ (.tail _ (.head _))) HE.out (Nat.le_trans H9.size (by omega)) H9.small).mono ?_); rintro e w10 ⟨rfl, H10⟩)
                    go_ret
                    exact ⟨rfl, H10.below⟩
                  · have hm0 : (0 : Int) < m := by omega
                    have HK := hid3 (hk3 rfl)
                    clear hrel hk1 hk3
                    go_wp2_with first
                      | (go_at_call 16; have gate := HQ; clear gate; go_must (refine (bdepth (r := (m : Int)) HQ.out (by rw [hm.out])).mono ?_); rintro e y ⟨rfl, hy⟩; replace hy := hy.symm; subst hy)
                      | (go_at_call 22; go_must (refine (brollback HQ.out (by omega) rfl rfl).mono ?_); rintro e w10 ⟨rfl, H10⟩; clear HQ)
                      | (go_at_call 16; go_must (refine (bdepth (r := (m : Int) - 1) H10 (by rw [List.length_tail, hm.out]; omega)).mono ?_); rintro e y ⟨rfl, hy⟩; replace hy := hy.symm; subst hy)
                    go_roundw
                    case rel =>
                      refine ⟨_, _, H10, ?_, ?_⟩
                      · intro h; cases h
                      · intro h; exact (last_tail W E).trans HK.out
                    case measure =>
                      have := H10.jlen
                      rw [List.length_tail] at this
                      have := hm.out
                      omega
end Kv
end Go.Proofs.Ytipokbenolekbaa
