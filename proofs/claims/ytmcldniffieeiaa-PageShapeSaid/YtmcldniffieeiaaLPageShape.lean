/- gleanlaw5.PageShape: behind every step the pages keep their rules, and walks rise. -/
import Derived.Test.YtmcldniffieeiaaJae
namespace Go.Proofs.Ytmcldniffieeiaa
namespace Pg
open Go.RowKit Go.Lib
attribute [local go_sem] Oper.semAt_some
set_option maxHeartbeats 4000000 in
set_option maxRecDepth 100000 in
theorem pageShape_walk {w : World} {ao : Option Addr} {n c : Nat} {ss : List Ste} (S : StesA w ao n ss) :
    Calls Try.prog 4 #[.slice ao n c] w fun e w' => e = .returned (.bool true) ∧ Below w.heap.size w w' := by
  have t1 := known_any (w := w)
  have HS : Hid _ := S
  by_cases hL : n + hvy ss ≤ 6000
  · have t2 := fun w' (hB : Below w.heap.size w w') => light_any (c := c) (S.keep hB)
    rw [decide_eq_true hL] at t2
    have HL : Hid _ := hL
    have hn : n ≤ 6000 := by omega
    clear S hL
    go_enter Try.func4, Try.ntmps4
    go_wp2_with first
      | (go_at_call 7; refine t1.mono ?_; rintro e w1 ⟨rfl, B1⟩)
      | (go_at_call 8; refine (t2 _ B1).mono ?_; rintro e w2 ⟨rfl, B2⟩)
      | (go_at_call 9; refine mnew.mono ?_; rintro e w3 ⟨rfl, M3, B3⟩)
    obtain ⟨g, hg⟩ : ∃ g, Hid (w2.heap.size = g) := ⟨_, rfl⟩
    rw [hg.out] at M3 ⊢
    have hwg : w.heap.size ≤ g := by have := hg.out; have := B1.size; have := B2.size; omega
    have B0 : Hid (Below w.heap.size w w3) := (B1.trans (B2.mono B1.size)).trans (B3.mono (by have := B1.size; have := B2.size; omega))
    have HM3 : Hid _ := M3
    clear t1 t2 B1 B2 B3 M3
    go_loopw [4] (fun ti wr => ∃ k : Nat, k ≤ n ∧ ti = .int .i64 k ∧ Hid (∃ F Q, Mp wr F (w.heap.size ≤ ·) g Q k ∧ ∀ b, F b → w.heap.size ≤ b) ∧ Hid (Below w.heap.size w wr)) (fun ti _ => n - (intOf ti).toNat)
    case atStart => exact ⟨0, Nat.zero_le _, rfl, ⟨_, _, HM3.out.mono (fun _ _ h => h.elim), fun b hb => by have hb' : b = g := hb; omega⟩, B0⟩
    case round =>
      obtain ⟨k, hk, rfl, HX, HB⟩ := hrel
      by_cases hlt : k < n
      · obtain ⟨F, Q, M, hF⟩ := HX.out
        obtain ⟨s, b, o, e1, rfl, C0, A0⟩ := HS.out.at hlt
        have hb0 := cell_lt C0.c3
        have C := C0.keep HB.out
        have A := A0.keep HB.out
        have hw8 := hvy_mem e1
        have hkl : s.kl.length ≤ 6000 := by have := HL.out; omega
        have hvl : s.vl.length ≤ 6000 := by have := HL.out; omega
        have c1 := C.c1
        have hcc : wr.drew.cell? ⟨b, o + k * 5 + 3, none⟩ = some (.slice s.ka s.kl.length s.kc) ∧ wr.drew.cell? ⟨b, o + k * 5 + 4, none⟩ = some (.slice s.va s.vl.length s.vc) := ⟨C.c3, C.c4⟩
        have HC : Hid _ := hcc
        have HM : Hid _ := M
        have HF : Hid _ := hF
        have HA : Hid _ := A
        have hk0 : (k : Int) < n := by omega
        have hwl := HB.out.size
        clear M hF C A e1 hcc hw8 C0 A0
        by_cases hwh : s.what < 3
        · go_wp2_with fail
          have hS := HC.out
          have A := HA.out
          refine rg_start (S := fun w' => w'.cell? ⟨b, o + k * 5 + 3, none⟩ = some (.slice s.ka s.kl.length s.kc) ∧ w'.cell? ⟨b, o + k * 5 + 4, none⟩ = some (.slice s.va s.vl.length s.vc)) (by kernel_rfl) hS ?_
          refine rg_take 0 (some 25) (.pointer (some ⟨g, 0, none⟩)) (by kernel_rfl) (fun _ _ => by kernel_rfl) (fun _ _ _ h => h) hS ?_
          refine rg_take 1 (some 26) (.slice (some ⟨b, o, none⟩) n c) (by kernel_rfl) (fun _ _ => by kernel_rfl) (fun _ _ _ h => h) hS ?_
          refine rg_take 2 (some 27) (.int .i64 k) (by kernel_rfl) (fun _ _ => by kernel_rfl) (fun _ _ _ h => h) hS ?_
          refine rg_take 3 (some 28) (.pointer (some ⟨b, o + k * 5, none⟩)) (by kernel_rfl) (fun _ _ => run_st (x := 26) (y := 27) (k := k) (n := n) (c := c) (by kernel_rfl) (by kernel_rfl) (by kernel_rfl) rfl hlt) (fun _ _ _ h => h) hS ?_
          refine rg_take 4 (some 29) (.pointer (some ⟨b, o + k * 5 + 3, none⟩)) (by kernel_rfl) (fun _ _ => by kernel_rfl) (fun _ _ _ h => h) hS ?_
          refine rg_load 5 (some 30) (.slice s.ka s.kl.length s.kc) 33 29 (b) (o + k * 5 + 3) (by kernel_rfl) (by kernel_rfl) (by kernel_rfl) (fun w' h => ld_b h.1) (fun _ _ _ h => h) hS ?_
          refine rg_take 6 (some 31) (.slice (some ⟨b, o, none⟩) n c) (by kernel_rfl) (fun _ _ => by kernel_rfl) (fun _ _ _ h => h) hS ?_
          refine rg_take 7 (some 32) (.int .i64 k) (by kernel_rfl) (fun _ _ => by kernel_rfl) (fun _ _ _ h => h) hS ?_
          refine rg_take 8 (some 33) (.pointer (some ⟨b, o + k * 5, none⟩)) (by kernel_rfl) (fun _ _ => run_st (x := 31) (y := 32) (k := k) (n := n) (c := c) (by kernel_rfl) (by kernel_rfl) (by kernel_rfl) rfl hlt) (fun _ _ _ h => h) hS ?_
          refine rg_take 9 (some 34) (.pointer (some ⟨b, o + k * 5 + 4, none⟩)) (by kernel_rfl) (fun _ _ => by kernel_rfl) (fun _ _ _ h => h) hS ?_
          refine rg_load 10 (some 35) (.slice s.va s.vl.length s.vc) 33 34 (b) (o + k * 5 + 4) (by kernel_rfl) (by kernel_rfl) (by kernel_rfl) (fun w' h => ld_b h.2) (fun _ _ _ h => h) hS ?_
          refine rg_call 11 (some 36) 12 #[.pointer (some ⟨g, 0, none⟩), .slice s.ka s.kl.length s.kc, .slice s.va s.vl.length s.vc] (by kernel_rfl) (by kernel_rfl) (mset HM.out.drew A.k.drew A.v.drew (by omega) (by omega) (by omega)) ?_
          rintro e' w2 ⟨rfl, F2, M2, hF2, hC2⟩
          have hB2 := hC2.below HF.out hwl
          obtain ⟨r, hr⟩ : ∃ r, Hid ((!ahas Q s.kl) = r) := ⟨_, rfl⟩
          rw [hr.out]
          refine ⟨_, rfl, pcells2 hS hb0 hB2, ?_⟩
          replace hS := pcells2 hS hb0 hB2
          refine rg_done (by kernel_rfl) ?_
          simp only [Act.put, List.setIfInBounds_toArray, List.set_cons_zero, List.set_cons_succ]
          go_wp2_with (go_at_call 27; refine (mshaped M2 (by omega)).mono ?_; rintro e w4 ⟨rfl, B4⟩)
          go_roundw
          case rel =>
            refine ⟨k + 1, by omega, by go_num, ⟨F2, _, (M2.keep B4).mono (fun x _ h => h.elim id (fun h => by have h' : wr.heap.size ≤ x := h; show w.heap.size ≤ x; omega)), fun x hx => (hF2 x hx).elim (HF.out x) (fun h => by have h' : wr.heap.size ≤ x := h; omega)⟩, ?_⟩
            exact (HB.out.trans (below_drew0 hB2)).trans (B4.mono (by have := hB2.size; have h' : wr.drew.heap.size = wr.heap.size := rfl; omega))
          case measure => simp [intOf]; omega
        · have c3 : wr.cell? ⟨b, o + k * 5 + 3, none⟩ = some (.slice s.ka s.kl.length s.kc) := HC.out.1
          go_wp2_with first
            | (go_at_call 14; refine (mdel HM.out HA.out.k (by omega)).mono ?_; rintro e' w2 ⟨rfl, F2, M2, hF2, hC2⟩)
            | (go_at_call 27; refine (mshaped M2 (by omega)).mono ?_; rintro e w4 ⟨rfl, B4⟩)
          have hB2 := hC2.below HF.out hwl
          go_roundw
          case rel =>
            refine ⟨k + 1, by omega, by go_num, ⟨F2, _, (M2.keep B4).more (by omega), fun x hx => (hF2 x hx).elim (HF.out x) (fun h => by omega)⟩, ?_⟩
            exact (HB.out.trans hB2).trans (B4.mono (by have := hB2.size; omega))
          case measure => simp [intOf]; omega
      · obtain rfl : k = n := by omega
        obtain ⟨F, Q, M, hF⟩ := HX.out
        have hM := M.len
        have HM : Hid _ := M
        have HF : Hid _ := hF
        clear M hF HX
        go_wp2_with (go_at_call 21; refine (mup (n := 1073741824) HM.out (by omega) (By.nil _) (By.nil _) (by decide) (by decide) (by decide) (by decide)).mono ?_; rintro e w5 ⟨v5, es, rfl, P5, E5, B5⟩; obtain ⟨a5, d, rfl⟩ := P5.shape)
        rw [filter_all, List.take_of_length_le (by omega)] at E5
        obtain ⟨m, hm⟩ : ∃ m, Hid (es.length = m) := ⟨_, rfl⟩
        have HML : Hid (m = Q.flatten.length) := by show _ = _; rw [← hm.out, ← E5, List.length_map]
        have hmb : m ≤ 6000 := by have := HML.out; omega
        rw [hm.out] at P5 ⊢
        have HP : Hid _ := P5
        have HE : Hid _ := E5
        have HB5 : Hid _ := B5
        clear P5 E5 B5
        go_loopw [6] (fun ti wq => ∃ k : Nat, 1 ≤ k ∧ (k ≤ m ∨ k = 1) ∧ ti = .int .i64 k ∧ Hid (Below w5.heap.size w5 wq)) (fun ti _ => m - (intOf ti).toNat)
        case atStart => exact ⟨1, Nat.le_refl _, .inr rfl, rfl, Below.refl _ _⟩
        case round =>
          obtain ⟨k, hk1, hk, rfl, HQ⟩ := hrel
          by_cases hlt : k < m
          · obtain ⟨j, hj0⟩ : ∃ j, k = j + 1 := ⟨k - 1, by omega⟩
            obtain ⟨x, hx⟩ : ∃ x, es[j]? = some x := ⟨es[j]'(by have := hm.out; omega), List.getElem?_eq_getElem _⟩
            obtain ⟨y, hy⟩ : ∃ y, es[k]? = some y := ⟨es[k]'(by have := hm.out; omega), List.getElem?_eq_getElem _⟩
            obtain ⟨p, e1⟩ : ∃ p, a5 = some ⟨p, 0, none⟩ := by
              rcases HP.out.ex with ⟨_, e⟩ | ⟨p, c', e, _⟩
              · subst e; simp at hx
              · cases e; exact ⟨p, rfl⟩
            subst e1
            have hlt2 : Lt x.kl y.kl := by
              have h := HM.out.ord.flat
              rw [← HE.out, List.pairwise_map] at h
              exact List.pairwise_iff_getElem.1 h j k (by have := hm.out; omega) (by have := hm.out; omega) (by omega) |> fun h => by
                rw [List.getElem?_eq_getElem (by have := hm.out; omega)] at hx hy
                cases hx; cases hy
                exact h
            have hxl : x.kl.length ≤ 1000000000 := (HM.out.small x.kl2 (by rw [← HE.out]; exact List.mem_map.2 ⟨x, List.mem_of_getElem? hx, rfl⟩)).1
            have PA := HP.out.keep (joinB HQ.out (belowD wr))
            have X := PA.ents x (List.mem_of_getElem? hx)
            have Y := PA.ents y (List.mem_of_getElem? hy)
            obtain ⟨x1, _, hlp⟩ := PA.cells hx
            obtain ⟨y1, _, _⟩ := PA.cells hy
            have HX : Hid _ := X
            have HY : Hid _ := Y
            have HC : Hid (wr.drew.cell? ⟨p, j * 2, none⟩ = some x.kv ∧ wr.drew.cell? ⟨p, k * 2, none⟩ = some y.kv) := ⟨x1, y1⟩
            have HLT : Hid _ := hlt2
            have hk0 : (k : Int) < m := by omega
            have HJ : Hid _ := hj0
            clear X Y x1 y1 hx hy PA hlt2 hj0 hk
            go_wp2_with fail
            have X := HX.out
            have Y := HY.out
            have hS := HC.out
            have hlt2 := HLT.out
            have hj : (k : Int) - 1 = (j : Int) := by have := HJ.out; omega
            have hjm : j < m := by have := HJ.out; omega
            have w1 : IntKind.i64.wrap ((k : Int) - 1) = (k : Int) - 1 := by rw [IntKind.wrap_i64]; omega
            refine rg_start (S := fun w' => w'.cell? ⟨p, j * 2, none⟩ = some x.kv ∧ w'.cell? ⟨p, k * 2, none⟩ = some y.kv) (by kernel_rfl) hS ?_
            refine rg_take 0 (some 55) (.slice (some ⟨p, 0, none⟩) m d) (by kernel_rfl) (fun _ _ => by kernel_rfl) (fun _ _ _ h => h) hS ?_
            refine rg_take 1 (some 56) (.int .i64 k) (by kernel_rfl) (fun _ _ => by kernel_rfl) (fun _ _ _ h => h) hS ?_
            refine rg_eq 2 (some 57) (.int .i64 (IntKind.i64.wrap ((k : Int) - 1))) (.int .i64 ((k : Int) - 1)) (by rw [w1]) (by kernel_rfl) (fun _ _ => by kernel_rfl) (fun _ _ _ h => h) hS ?_
            refine rg_take 3 (some 58) (.pointer (some ⟨p, j * 2, none⟩)) (by kernel_rfl) (fun _ _ => run_iq (x := 55) (y := 57) (k := j) (n := m) (c := d) (by kernel_rfl) (by kernel_rfl) (by kernel_rfl) hj (by omega)) (fun _ _ _ h => h) hS ?_
            refine rg_take 4 (some 59) (.pointer (some ⟨p, j * 2, none⟩)) (by kernel_rfl) (fun _ _ => by kernel_rfl) (fun _ _ _ h => h) hS ?_
            refine rg_load 5 (some 60) (x.kv) 33 59 (p) (j * 2) (by kernel_rfl) (by kernel_rfl) (by kernel_rfl) (fun w' h => ld_b h.1) (fun _ _ _ h => h) hS ?_
            refine rg_take 6 (some 61) (.slice (some ⟨p, 0, none⟩) m d) (by kernel_rfl) (fun _ _ => by kernel_rfl) (fun _ _ _ h => h) hS ?_
            refine rg_take 7 (some 62) (.int .i64 k) (by kernel_rfl) (fun _ _ => by kernel_rfl) (fun _ _ _ h => h) hS ?_
            refine rg_take 8 (some 63) (.pointer (some ⟨p, k * 2, none⟩)) (by kernel_rfl) (fun _ _ => run_iq (x := 61) (y := 62) (k := k) (n := m) (c := d) (by kernel_rfl) (by kernel_rfl) (by kernel_rfl) rfl (by omega)) (fun _ _ _ h => h) hS ?_
            refine rg_take 9 (some 64) (.pointer (some ⟨p, k * 2, none⟩)) (by kernel_rfl) (fun _ _ => by kernel_rfl) (fun _ _ _ h => h) hS ?_
            refine rg_load 10 (some 65) (y.kv) 33 64 (p) (k * 2) (by kernel_rfl) (by kernel_rfl) (by kernel_rfl) (fun w' h => ld_b h.2) (fun _ _ _ h => h) hS ?_
            refine rg_call 11 (some 66) 28 #[x.kv, y.kv] (by kernel_rfl) (by kernel_rfl) (less_by X.k.by Y.k.by hxl) ?_
            rintro e' w2 ⟨rfl, hB2⟩
            rw [decide_eq_true (show Lt x.kl y.kl from hlt2)]
            refine ⟨_, rfl, pcells2 hS hlp hB2, ?_⟩
            replace hS := pcells2 hS hlp hB2
            refine rg_take 12 (some 67) (.bool false) (by kernel_rfl) (fun _ _ => by kernel_rfl) (fun _ _ _ h => h) hS ?_
            refine rg_done (by kernel_rfl) ?_
            simp only [Act.put, List.setIfInBounds_toArray, List.set_cons_zero, List.set_cons_succ]
            go_wp2
            go_roundw
            case rel => exact ⟨k + 1, by omega, .inl (by omega), by go_num, joinB HQ.out (below_drew0 hB2)⟩
            case measure => simp [intOf]; omega
          · have hml' : ((m : Nat) : Int) = (Q.flatten.length : Nat) := by have := HML.out; omega
            have hM2 := fun w' (hB : Below w5.heap.size w5 w') => mlen ((HM.out.keep HB5.out).keep hB) (by omega)
            have hk2 : ¬ ((k : Int) < m) := by omega
            rw [← hml'] at hM2
            clear hml' hk
            go_wp2_with (go_at_call 29; go_must (refine (hM2 _ HQ.out).mono ?_); rintro e w6 ⟨rfl, rfl⟩)
            go_ret
            exact ⟨by simp, joinB (joinB HB.out HB5.out) HQ.out⟩
  · have t2 := fun w' (hB : Below w.heap.size w w') => light_any (c := c) (S.keep hB)
    rw [decide_eq_false hL] at t2
    clear S hL
    go_enter Try.func4, Try.ntmps4
    go_wp2_with first
      | (go_at_call 7; refine t1.mono ?_; rintro e w1 ⟨rfl, B1⟩)
      | (go_at_call 8; refine (t2 _ B1).mono ?_; rintro e w2 ⟨rfl, B2⟩)
    go_ret
    exact ⟨rfl, B1.trans (B2.mono B1.size)⟩
end Pg
end Go.Proofs.Ytmcldniffieeiaa
