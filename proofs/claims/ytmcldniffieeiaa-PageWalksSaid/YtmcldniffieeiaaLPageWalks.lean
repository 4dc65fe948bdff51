/- gleanlaw5.PageWalks: a walk between two bounds gives just what lies there; a copy stays. -/
import Derived.Test.YtmcldniffieeiaaJba
namespace Go.Proofs.Ytmcldniffieeiaa
namespace Pg
open Go.RowKit Go.Lib
attribute [local go_sem] Oper.semAt_some
set_option maxHeartbeats 8000000 in
set_option maxRecDepth 100000 in
theorem pageWalks_walk {w : World} {ao : Option Addr} {n c : Nat} {ss : List Ste} (S : StesA w ao n ss) {fa : Option Addr} {fc : Nat} {f : List Int} (hf : By w (.slice fa f.length fc) f) (hfl : f.length ≤ 140737488355328) {ta : Option Addr} {tc : Nat} {t : List Int} (ht : By w (.slice ta t.length tc) t) (htl : t.length ≤ 140737488355328) {q : Int} (_hq : -9223372036854775808 ≤ q ∧ q ≤ 9223372036854775807) :
    Calls Try.prog 5 #[.slice ao n c, .slice fa f.length fc, .slice ta t.length tc, .int .i64 q] w fun e w' => e = .returned (.bool true) ∧ Below w.heap.size w w' := by
  have t1 := known_any (w := w)
  have t2 := fun w' (hB : Below w.heap.size w w') => light_any (c := c) (S.keep hB)
  have HS : Hid _ := S
  have Hf : Hid _ := hf
  have Ht : Hid _ := ht
  clear S hf ht
  obtain ⟨fl, hfe⟩ : ∃ fl, Hid (f.length = fl) := ⟨_, rfl⟩
  obtain ⟨tl, hte⟩ : ∃ tl, Hid (t.length = tl) := ⟨_, rfl⟩
  rw [hfe.out] at hfl Hf ⊢
  rw [hte.out] at htl Ht ⊢
  by_cases hL : n + hvy ss ≤ 6000
  · rw [decide_eq_true hL] at t2
    have HL : Hid _ := hL
    have hn : n ≤ 6000 := by omega
    clear hL
    by_cases hft : fl + tl ≤ 1000
    · have hft1 : ¬ ((1000 : Int) < (fl : Int) + (tl : Int)) := by omega
      go_enter Try.func5, Try.ntmps5
      go_wp2_with first
        | (go_at_call 7; refine t1.mono ?_; rintro e w1 ⟨rfl, B1⟩)
        | (go_at_call 8; refine (t2 _ B1).mono ?_; rintro e w2 ⟨rfl, B2⟩)
        | (go_at_call 9; refine mnew.mono ?_; rintro e w3 ⟨rfl, M3, B3⟩)
      obtain ⟨g, hg⟩ : ∃ g, Hid (w2.heap.size = g) := ⟨_, rfl⟩
      rw [hg.out] at M3 ⊢
      have hwg : w.heap.size ≤ g := by have := hg.out; have := B1.size; have := B2.size; omega
      have B0 : Hid (Below w.heap.size w w3) := (B1.trans (B2.mono B1.size)).trans (B3.mono (by have := B1.size; have := B2.size; omega))
      have HM3 : Hid (Mb w3 w.heap.size g [] 0) := ⟨_, M3.mono (fun _ _ h => h.elim), fun b hb => by have hb' : b = g := hb; omega⟩
      clear t1 t2 B1 B2 B3 M3
      go_loopw [10] (fun ti wr => ∃ k : Nat, k ≤ n ∧ ti = .int .i64 k ∧ Hid (∃ Q, Mb wr w.heap.size g Q k) ∧ Hid (Below w.heap.size w wr)) (fun ti _ => n - (intOf ti).toNat)
      case atStart => exact ⟨0, Nat.zero_le _, rfl, ⟨_, HM3.out⟩, B0⟩
      case round =>
        obtain ⟨k, hk, rfl, HX, HB⟩ := hrel
        have hwl := HB.out.size
        by_cases hlt : k < n
        · obtain ⟨Q, M⟩ := HX.out
          obtain ⟨s, b, o, e1, rfl, C0, A0⟩ := HS.out.at hlt
          have hb0 := cell_lt C0.c3
          have C := C0.keep HB.out
          have A := A0.keep HB.out
          have hw8 := hvy_mem e1
          have hkl : s.kl.length ≤ 6000 := by have := HL.out; omega
          have hvl : s.vl.length ≤ 6000 := by have := HL.out; omega
          have hcc : wr.drew.cell? ⟨b, o + k * 5 + 3, none⟩ = some (.slice s.ka s.kl.length s.kc) ∧ wr.drew.cell? ⟨b, o + k * 5 + 4, none⟩ = some (.slice s.va s.vl.length s.vc) := ⟨C.c3, C.c4⟩
          have HC : Hid _ := hcc
          have HMD : Hid (Mb wr.drew w.heap.size g Q k) := M.keep (belowD wr)
          have HA : Hid _ := A
          have hk0 : (k : Int) < n := by omega
          clear M C A e1 hcc hw8 C0 A0
          go_wp2_with fail
          have hS := HC.out
          have A := HA.out
          have MD := HMD.out
          refine rg_start (S := fun w' => w'.cell? ⟨b, o + k * 5 + 3, none⟩ = some (.slice s.ka s.kl.length s.kc) ∧ w'.cell? ⟨b, o + k * 5 + 4, none⟩ = some (.slice s.va s.vl.length s.vc)) (by kernel_rfl) hS ?_
          refine rg_take 0 (some 36) (.pointer (some ⟨g, 0, none⟩)) (by kernel_rfl) (fun _ _ => by kernel_rfl) (fun _ _ _ h => h) hS ?_
          refine rg_take 1 (some 37) (.slice (some ⟨b, o, none⟩) n c) (by kernel_rfl) (fun _ _ => by kernel_rfl) (fun _ _ _ h => h) hS ?_
          refine rg_take 2 (some 38) (.int .i64 k) (by kernel_rfl) (fun _ _ => by kernel_rfl) (fun _ _ _ h => h) hS ?_
          refine rg_take 3 (some 39) (.pointer (some ⟨b, o + k * 5, none⟩)) (by kernel_rfl) (fun _ _ => run_st (x := 37) (y := 38) (k := k) (n := n) (c := c) (by kernel_rfl) (by kernel_rfl) (by kernel_rfl) rfl hlt) (fun _ _ _ h => h) hS ?_
          refine rg_take 4 (some 40) (.pointer (some ⟨b, o + k * 5 + 3, none⟩)) (by kernel_rfl) (fun _ _ => by kernel_rfl) (fun _ _ _ h => h) hS ?_
          refine rg_load 5 (some 41) (.slice s.ka s.kl.length s.kc) 33 40 (b) (o + k * 5 + 3) (by kernel_rfl) (by kernel_rfl) (by kernel_rfl) (fun w' h => ld_b h.1) (fun _ _ _ h => h) hS ?_
          refine rg_take 6 (some 42) (.slice (some ⟨b, o, none⟩) n c) (by kernel_rfl) (fun _ _ => by kernel_rfl) (fun _ _ _ h => h) hS ?_
          refine rg_take 7 (some 43) (.int .i64 k) (by kernel_rfl) (fun _ _ => by kernel_rfl) (fun _ _ _ h => h) hS ?_
          refine rg_take 8 (some 44) (.pointer (some ⟨b, o + k * 5, none⟩)) (by kernel_rfl) (fun _ _ => run_st (x := 42) (y := 43) (k := k) (n := n) (c := c) (by kernel_rfl) (by kernel_rfl) (by kernel_rfl) rfl hlt) (fun _ _ _ h => h) hS ?_
          refine rg_take 9 (some 45) (.pointer (some ⟨b, o + k * 5 + 4, none⟩)) (by kernel_rfl) (fun _ _ => by kernel_rfl) (fun _ _ _ h => h) hS ?_
          refine rg_load 10 (some 46) (.slice s.va s.vl.length s.vc) 33 45 (b) (o + k * 5 + 4) (by kernel_rfl) (by kernel_rfl) (by kernel_rfl) (fun w' h => ld_b h.2) (fun _ _ _ h => h) hS ?_
          refine rg_call 11 (some 47) 12 #[.pointer (some ⟨g, 0, none⟩), .slice s.ka s.kl.length s.kc, .slice s.va s.vl.length s.vc] (by kernel_rfl) (by kernel_rfl) (MD.set hwl A.k.drew A.v.drew (by omega) (by omega) (by omega)) ?_
          rintro e' w2 ⟨rfl, M2, hB2⟩
          obtain ⟨r, hr⟩ : ∃ r, Hid ((!ahas Q s.kl) = r) := ⟨_, rfl⟩
          rw [hr.out]
          refine ⟨_, rfl, pcells2 hS hb0 hB2, ?_⟩
          replace hS := pcells2 hS hb0 hB2
          refine rg_done (by kernel_rfl) ?_
          simp only [Act.put, List.setIfInBounds_toArray, List.set_cons_zero, List.set_cons_succ]
          go_wp2
          go_roundw
          case rel => exact ⟨k + 1, by omega, by go_num, ⟨_, M2⟩, HB.out.trans (below_drew0 hB2)⟩
          case measure => simp [intOf]; omega
        · obtain rfl : k = n := by omega
          obtain ⟨Q, M⟩ := HX.out
          have hM := M.size
          have HM : Hid (Mb wr w.heap.size g Q k) := M
          clear M HX
          go_wp2_with first
            | (go_at_call 24; go_must (refine (HM.out.copy hwl (by omega)).mono ?_); rintro e w4 ⟨gc, rfl, M4, B4⟩)
            | (go_at_call 21; refine (M4.fst.up (n := 1073741824) (by omega) (By.nil _) (By.nil _) (by decide) (by decide) (by decide) (by decide)).mono ?_; rintro e w5 ⟨v5, es, rfl, P5, E5, B5⟩; obtain ⟨a5, d, rfl⟩ := P5.shape)
          rw [filter_all, List.take_of_length_le (by omega)] at E5
          obtain ⟨m, hm⟩ : ∃ m, Hid (es.length = m) := ⟨_, rfl⟩
          have HML : Hid (m = Q.flatten.length) := by show _ = _; rw [← hm.out, ← E5, List.length_map]
          have hmb : m ≤ 6000 := by have := HML.out; omega
          rw [hm.out] at P5 ⊢
          have HP : Hid _ := P5
          have HE : Hid _ := E5
          have HM5 : Hid (Mt w5 w.heap.size g Q k gc Q k) := M4.keep B5
          have HU5 : Hid (Mu w5 w.heap.size w4.heap.size w5.heap.size g Q k gc Q k) := M4.u B5
          have HB45 : Hid _ := B4
          have HB5 : Hid _ := B5
          have HW5 : Hid (Below w.heap.size w w5) := (HB.out.trans (B4.mono hwl)).trans (B5.mono (by have := B4.size; omega))
          have hsm : Hid (∀ x ∈ es, x.kl.length ≤ 1000000000 ∧ x.vl.length ≤ 1000000000) := fun x hx => M4.fst.small x.kl2 (by rw [← E5]; exact List.mem_map.2 ⟨x, hx, rfl⟩)
          clear P5 E5 B5 B4 M4
          go_loopw [13, 14] (fun tv ti wq => ∃ k : Nat, k ≤ m ∧ ti = .int .i64 k ∧ Hid (Pq wq w5.heap.size (w4.heap.size ≤ ·) tv ((es.take k).filter fun x => abtw f t x.kl2)) ∧ Hid (Below w5.heap.size w5 wq)) (fun _ ti _ => m - (intOf ti).toNat)
          case atStart => exact ⟨0, Nat.zero_le _, rfl, Pq.nil _ _ _, Below.refl _ _⟩
          case round =>
            obtain ⟨k, hk, rfl, HQ, HC⟩ := hrel
            obtain ⟨bo, dd, hbo⟩ := HQ.out.shape
            obtain ⟨wn, hwn⟩ : ∃ wn, Hid (((es.take k).filter fun x => abtw f t x.kl2).length = wn) := ⟨_, rfl⟩
            rw [hwn.out] at hbo
            subst hbo
            by_cases hlt : k < m
            · obtain ⟨x, hx⟩ : ∃ x, es[k]? = some x := ⟨es[k]'(by have := hm.out; omega), List.getElem?_eq_getElem _⟩
              obtain ⟨p, rfl⟩ := HP.out.q.some hx
              have X := HP.out.ents x (List.mem_of_getElem? hx)
              obtain ⟨c1, c2, hlp⟩ := (HP.out.keep HC.out).cells hx
              have hxs := hsm.out x (List.mem_of_getElem? hx)
              obtain ⟨xk, xkl, xv, xvl⟩ := x
              obtain ⟨a1, n1, e1⟩ := X.k.shape
              obtain ⟨a2, n2, e2⟩ := X.v.shape
              simp only at e1 e2 c1 c2 hxs
              subst e1 e2
              have hk0 : (k : Int) < m := by omega
              have HT : Hid ((es.take (k + 1)).filter (fun x => abtw f t x.kl2) = (es.take k).filter (fun x => abtw f t x.kl2) ++ if abtw f t (xkl, xvl) then [⟨.slice a1 xkl.length n1, xkl, .slice a2 xvl.length n2, xvl⟩] else []) := by
                show _ = _
                rw [List.take_add_one, List.filter_append, hx]
                simp only [Option.toList_some, List.filter_cons, List.filter_nil, En.kl2]
              have HXX : Hid _ := X
              have hwb : wn ≤ 6000 := by
                have h1 := List.length_filter_le (fun x => abtw f t x.kl2) (es.take k)
                rw [hwn.out, List.length_take] at h1
                omega
              clear X hx
              by_cases hl1 : Lt xkl f
              · have HF : Hid (abtw f t (xkl, xvl) = false) := by show _ = _; unfold abtw; rw [decide_eq_true hl1]; rfl
                have u1 := fun w' (hB : Below w5.heap.size w5 w') => less_by (HXX.out.keep hB).k.by ((Hf.out.keep HW5.out).keep hB) hxs.1
                rw [decide_eq_true hl1] at u1
                clear hl1
                go_wp2_with (go_at_call 28; refine (u1 _ HC.out).mono ?_; rintro e w6 ⟨rfl, B6⟩; obtain ⟨c16, c26⟩ := pcells2 ⟨c1, c2⟩ hlp B6)
                go_roundw
                case rel =>
                  refine ⟨k + 1, by omega, by go_num, ?_, joinB HC.out B6⟩
                  rw [HT.out, HF.out, if_neg (by simp), List.append_nil]
                  exact HQ.out.keep B6
                case measure => simp [intOf]; omega
              · have u1 := fun w' (hB : Below w5.heap.size w5 w') => less_by (HXX.out.keep hB).k.by ((Hf.out.keep HW5.out).keep hB) hxs.1
                rw [decide_eq_false hl1] at u1
                have u2 := fun w' (hB : Below w5.heap.size w5 w') => less_by (HXX.out.keep hB).k.by ((Ht.out.keep HW5.out).keep hB) hxs.1
                by_cases hl2 : t = []
                · have HF : Hid (abtw f t (xkl, xvl) = true) := by show _ = _; unfold abtw; rw [decide_eq_false hl1, decide_eq_true hl2]; rfl
                  obtain rfl : tl = 0 := by have := hte.out; rw [hl2] at this; simp at this; omega
                  clear hl2 hl1 u2
                  go_wp2_with first
                    | (go_at_call 28; refine (u1 _ HC.out).mono ?_; rintro e w6 ⟨rfl, B6⟩; obtain ⟨c16, c26⟩ := pcells2 ⟨c1, c2⟩ hlp B6)
                    | (at_builtin; obtain ⟨ov, w8, hr, hP, hS⟩ := app_copy (e := ⟨.slice a1 xkl.length n1, xkl, .slice a2 xvl.length n2, xvl⟩) (HQ.out.keep B6) (joinB HC.out B6).size (HXX.out.keep (joinB HC.out B6)) (by rw [hwn.out]; omega); obtain ⟨a8, c8, rfl⟩ := hP.shape; refine Lib.wpList_append_run _ rfl _ _ _ _ rfl _ _ rfl rfl _ _ hr ?_)
                  go_roundw
                  case rel =>
                    refine ⟨k + 1, by omega, by go_num, ?_, (joinB HC.out B6).trans hS⟩
                    rw [HT.out, HF.out, if_pos rfl]
                    rw [List.length_append] at hP
                    exact hP
                  case measure => simp [intOf]; omega
                · have htl1 : (tl : Int) ≠ 0 := fun e => hl2 (List.eq_nil_of_length_eq_zero (by have := hte.out; omega))
                  by_cases hl3 : Lt xkl t
                  · have HF : Hid (abtw f t (xkl, xvl) = true) := by show _ = _; unfold abtw; rw [decide_eq_false hl1, decide_eq_true (show Lt (xkl, xvl).1 t from hl3)]; simp
                    rw [decide_eq_true hl3] at u2
                    clear hl2 hl1 hl3
                    go_wp2_with first
                      | (go_at_call 28; refine (u2 _ (joinB HC.out B6)).mono ?_; rintro e w7 ⟨rfl, B7⟩; obtain ⟨c17, c27⟩ := pcells2 ⟨c16, c26⟩ (Nat.lt_of_lt_of_le hlp B6.size) B7; have B67 := joinB B6 B7)
                      | (go_at_call 28; refine (u1 _ HC.out).mono ?_; rintro e w6 ⟨rfl, B6⟩; obtain ⟨c16, c26⟩ := pcells2 ⟨c1, c2⟩ hlp B6)
                      | (at_builtin; obtain ⟨ov, w8, hr, hP, hS⟩ := app_copy (e := ⟨.slice a1 xkl.length n1, xkl, .slice a2 xvl.length n2, xvl⟩) (HQ.out.keep B67) (joinB HC.out B67).size (HXX.out.keep (joinB HC.out B67)) (by rw [hwn.out]; omega); obtain ⟨a8, c8, rfl⟩ := hP.shape; refine Lib.wpList_append_run _ rfl _ _ _ _ rfl _ _ rfl rfl _ _ hr ?_)
                    go_roundw
                    case rel =>
                      refine ⟨k + 1, by omega, by go_num, ?_, (joinB HC.out B67).trans hS⟩
                      rw [HT.out, HF.out, if_pos rfl]
                      rw [List.length_append] at hP
                      exact hP
                    case measure => simp [intOf]; omega
                  · have HF : Hid (abtw f t (xkl, xvl) = false) := by show _ = _; unfold abtw; rw [decide_eq_false hl1, decide_eq_false hl2, decide_eq_false (show ¬ Lt (xkl, xvl).1 t from hl3)]; rfl
                    rw [decide_eq_false hl3] at u2
                    clear hl2 hl1 hl3
                    go_wp2_with first
                      | (go_at_call 28; refine (u2 _ (joinB HC.out B6)).mono ?_; rintro e w7 ⟨rfl, B7⟩; obtain ⟨c17, c27⟩ := pcells2 ⟨c16, c26⟩ (Nat.lt_of_lt_of_le hlp B6.size) B7)
                      | (go_at_call 28; refine (u1 _ HC.out).mono ?_; rintro e w6 ⟨rfl, B6⟩; obtain ⟨c16, c26⟩ := pcells2 ⟨c1, c2⟩ hlp B6)
                    go_roundw
                    case rel =>
                      refine ⟨k + 1, by omega, by go_num, ?_, joinB HC.out (joinB B6 B7)⟩
                      rw [HT.out, HF.out, if_neg (by simp), List.append_nil]
                      exact HQ.out.keep (joinB B6 B7)
                    case measure => simp [intOf]; omega
            · obtain rfl : k = m := by omega
              rw [List.take_of_length_le (by have := hm.out; omega)] at HQ hwn
              obtain ⟨W, hW⟩ : ∃ W, Hid (es.filter (fun x => abtw f t x.kl2) = W) := ⟨_, rfl⟩
              obtain ⟨F, hF⟩ : ∃ F, Hid (Q.flatten.filter (abtw f t) = F) := ⟨_, rfl⟩
              rw [hW.out] at HQ hwn
              have hWF : Hid (W.map En.kl2 = F) := by
                show _ = _
                rw [← hW.out, ← hF.out, ← HE.out, List.filter_map]
                rfl
              have hFl : F.length ≤ 6000 := by
                have h1 := List.length_filter_le (abtw f t) Q.flatten
                rw [hF.out] at h1
                omega
              have hWl : wn ≤ 6000 := by rw [← hwn.out, ← List.length_map (f := En.kl2), hWF.out]; exact hFl
              have hFs : Hid (∀ x ∈ F, x.1.length ≤ 1000000000 ∧ x.2.length ≤ 1000000000) := fun x hx => by
                rw [← hF.out] at hx
                exact HM5.out.fst.small x (List.mem_filter.1 hx).1
              have hWs : Hid (∀ e ∈ W, e.kl.length ≤ 1000000000 ∧ e.vl.length ≤ 1000000000) := small_of hWF.out hFs.out
              have HPW : Hid (PrA wr w4.heap.size (.slice bo wn dd) W) := HQ.out.a HB5.out.size (fun _ _ h => h)
              have u1 := fun w' (hB : Below w5.heap.size w5 w') => (HM5.out.keep hB).fst.up (n := 1073741824) (by omega) ((Hf.out.keep HW5.out).keep hB) ((Ht.out.keep HW5.out).keep hB) (by have := hfe.out; omega) (by have := hte.out; omega) (by decide) (by decide)
              have u2 := fun w' (hB : Below w5.heap.size w5 w') => (HM5.out.keep hB).fst.down (n := 1073741824) (by omega) ((Hf.out.keep HW5.out).keep hB) ((Ht.out.keep HW5.out).keep hB) (by have := hfe.out; omega) (by have := hte.out; omega) (by decide) (by decide)
              have u3 := fun (j : Nat) (hj : j < 50) w' (hB : Below w5.heap.size w5 w') => mup0 (n := j) (HM5.out.keep hB).fst (by omega) ((Hf.out.keep HW5.out).keep hB) ((Ht.out.keep HW5.out).keep hB) (by have := hfe.out; omega) (by have := hte.out; omega) (by omega)
              rw [hF.out] at u1 u2 u3
              rw [take_all (by omega)] at u1
              rw [take_all (by rw [List.length_reverse]; omega)] at u2
              have hWl2 : W.length ≤ 1000000000 := by rw [hwn.out]; omega
              have u4 := fun w' (hB : Below wr.heap.size wr w') => first_any (n := wn) (back := true) (HPW.out.keep hB) hWl2 (by omega)
              have hWr : (fst' W true).take wn = W.reverse := by rw [← hwn.out, show fst' W true = W.reverse from rfl]; exact List.take_of_length_le (by simp)
              rw [hWr] at u4
              have u5 := fun (j : Nat) (hj : j < 50) w' (hB : Below wr.heap.size wr w') => first_any (n := j) (back := false) (HPW.out.keep hB) hWl2 (by omega)
              have u6 := fun w' (hB : Below wr.heap.size wr w') (u v : Value) (es7 : List En) (B1 B2 : Nat) (h1 : PrA w' B1 u es7) (h2 : PrA w' B2 v W) (h3 : es7.map En.kl2 = F) => pairs_same h1 h2 (h3.trans hWF.out.symm) (small_of h3 hFs.out) (by rw [← List.length_map (f := En.kl2), h3]; omega)
              have u7 := fun w' (hB : Below wr.heap.size wr w') (u v : Value) (es7 : List En) (B1 B2 : Nat) (h1 : PrA w' B1 u es7) (h2 : PrA w' B2 v W.reverse) (h3 : es7.map En.kl2 = F.reverse) => pairs_same h1 h2 (by rw [List.map_reverse, hWF.out]; exact h3) (small_of h3 (fun x hx => hFs.out x (List.mem_reverse.1 hx))) (by rw [← List.length_map (f := En.kl2), h3, List.length_reverse]; omega)
              have u8 := fun (j : Nat) w' (hB : Below wr.heap.size wr w') (u v : Value) (es7 : List En) (B1 B2 : Nat) (h1 : PrA w' B1 u es7) (h2 : PrA w' B2 v (W.take j)) (h3 : es7.map En.kl2 = F.take j) => pairs_same h1 h2 (by rw [List.map_take, hWF.out]; exact h3) (small_take h3 hFs.out) (by rw [← List.length_map (f := En.kl2), h3, List.length_take]; omega)
              have hb45 : w4.heap.size ≤ wr.heap.size := by have := HB5.out.size; have := HC.out.size; omega
              clear hlt hk hWr
              go_wp2_with first
                | (go_at_call 10; refine (place_by q 50 (by decide) (by decide) _).mono ?_; rintro e w6 ⟨j, hj, rfl, rfl⟩)
                | (go_at_call 21; have gate := u1; clear gate; go_must (refine (u1 _ HC.out).mono ?_); clear u1; rintro e w7 ⟨v7, es7, rfl, P7, E7, B7⟩; replace E7 := hid E7; obtain ⟨a7, n7, c7, rfl⟩ := P7.sh; replace P7 := hid P7)
                | (go_at_call 20; have gate := u6; clear gate; go_must (refine (u6 _ B7 _ _ _ _ _ P7.out (HPW.out.keep B7) E7.out).mono ?_); clear u6; rintro e w9 ⟨rfl, B9⟩; have D9 := joinB B7 B9)
                | (go_at_call 21; have gate := u2; clear gate; go_must (refine (u2 _ (joinB HC.out D9)).mono ?_); clear u2; rintro e w10 ⟨v10, es10, rfl, P10, E10, B10⟩; replace E10 := hid E10; obtain ⟨a10, n10, c10, rfl⟩ := P10.sh; replace P10 := hid P10; have D10 := joinB D9 B10)
                | (go_at_call 22; have gate := u4; clear gate; go_must (refine (u4 _ D10).mono ?_); clear u4; rintro e w11 ⟨v11, rfl, P11, B11⟩; obtain ⟨a11, n11, c11, rfl⟩ := P11.sh; replace P10 := hid (P10.out.keep B11); replace P11 := hid P11; have D11 := joinB D10 B11)
                | (go_at_call 20; have gate := u7; clear gate; go_must (refine (u7 _ D11 _ _ _ _ _ P10.out (P11.out.a (B0 := w4.heap.size) (Nat.le_trans hb45 D10.size) (fun _ _ h => h.1)) E10.out).mono ?_); clear u7; rintro e w12 ⟨rfl, B12⟩; have D12 := joinB D11 B12)
                | (go_at_call 21; have gate := u3; clear gate; go_must (refine (u3 j hj _ (joinB HC.out D12)).mono ?_); clear u3; rintro e w13 ⟨v13, es13, rfl, P13, E13, B13⟩; replace E13 := hid E13; obtain ⟨a13, n13, c13, rfl⟩ := P13.sh; replace P13 := hid P13; have D13 := joinB D12 B13)
                | (go_at_call 22; have gate := u5; clear gate; go_must (refine (u5 j hj _ D13).mono ?_); clear u5; rintro e w14 ⟨v14, rfl, P14, B14⟩; obtain ⟨a14, n14, c14, rfl⟩ := P14.sh; replace P13 := hid (P13.out.keep B14); replace P14 := hid P14; have D14 := joinB D13 B14)
                | (go_at_call 20; have gate := u8; clear gate; go_must (refine (u8 j _ D14 _ _ _ _ _ P13.out (P14.out.a (B0 := w4.heap.size) (Nat.le_trans hb45 D13.size) (fun _ _ h => h.1)) E13.out).mono ?_); clear u8; rintro e w15 ⟨rfl, B15⟩)
              have DD := joinB D14 B15
              have HZ : Hid (Below w5.heap.size w5 w15) := joinB HC.out DD
              clear DD B15 D14 B14 P14 D13 P13 E13 B13 D12 B12 D11 B11 P11 D10 P10 E10 B10 D9 B9 P7 E7 B7
              have hkN : Hid (Q.flatten.length ≤ 6000) := by show _ ≤ _; omega
              have HW15 : Hid (Below w.heap.size w w15) := HW5.out.trans (HZ.out.mono HW5.out.size)
              have hmb2 : (k : Int) ≤ 6000 := by omega
              clear hWF hFs hWs HPW HQ hwn hWl hWl2 hFl hb45 hW hF
              go_loopw [15] (fun ti wz => ∃ j : Nat, j ≤ k ∧ ti = .int .i64 j ∧ Hid (∃ Q', Mu wz w.heap.size w4.heap.size w5.heap.size g Q' 6000 gc Q 6000 ∧ Q'.flatten = Q.flatten.drop j) ∧ Hid (Below w.heap.size w wz) ∧ Hid (KpR w4.heap.size w5.heap.size w5 wz ∧ w5.heap.size ≤ wz.heap.size)) (fun ti _ => k - (intOf ti).toNat)
              case atStart => exact ⟨0, Nat.zero_le _, rfl, ⟨Q, (HU5.out.keep HZ.out).more (by omega) (by omega), rfl⟩, HW15, KpR.of HZ.out (Nat.le_refl _), HZ.out.size⟩
              case round =>
                obtain ⟨i, hi, rfl, HI, HBz, HK⟩ := hrel
                have hBz := HBz.out.size
                have hKz := HK.out.2
                obtain ⟨Q', MU, hQ'⟩ := HI.out
                have HMU : Hid _ := MU
                have HQ' : Hid _ := hQ'
                clear MU hQ' HI
                by_cases hlt : i < k
                · obtain ⟨x, hx⟩ : ∃ x, es[i]? = some x := ⟨es[i]'(by have := hm.out; omega), List.getElem?_eq_getElem _⟩
                  obtain ⟨p, rfl⟩ := HP.out.q.some hx
                  have PA := HP.out.kpr HK.out.1
                  have X := PA.ents x (List.mem_of_getElem? hx)
                  obtain ⟨c1, _, _⟩ := PA.cells hx
                  obtain ⟨a1, n1, e1⟩ := X.k.shape
                  have hdr : Q'.flatten = x.kl2 :: Q.flatten.drop (i + 1) := by
                    rw [HQ'.out]
                    refine List.drop_eq_getElem?_toList_append.trans ?_
                    rw [← HE.out, List.getElem?_map, hx]
                    rfl
                  have HN : Hid ((adel Q' x.kl).flatten = Q.flatten.drop (i + 1)) := HMU.out.fst.ord.del_first hdr
                  have HX : Hid _ := X.k.by
                  obtain ⟨xk, xkl, xv, xvl⟩ := x
                  simp only at e1 c1 HN HX
                  subst e1
                  have hi0 : (i : Int) < k := by omega
                  clear X PA hx hdr
                  go_wp2_with (go_at_call 14; refine (HMU.out.del hBz hKz HX.out (by omega)).mono ?_; rintro e w16 ⟨rfl, M16, B16, K16⟩)
                  go_roundw
                  case rel => exact ⟨i + 1, by omega, by go_num, ⟨_, M16, HN.out⟩, HBz.out.trans B16, HK.out.1.trans K16, Nat.le_trans hKz B16.size⟩
                  case measure => simp [intOf]; omega
                · have hQ0 : Q' = [] := HMU.out.fst.none (by rw [HQ'.out]; exact List.drop_eq_nil_of_le (by have := HML.out; omega))
                  subst hQ0
                  have hi2 : ¬ ((i : Int) < k) := by omega
                  have PA : Hid (PrA wr w4.heap.size (.slice a5 k d) es) := HP.out.kpr HK.out.1
                  have u1 := fun w' (hB : Below wr.heap.size wr w') => (HMU.out.keep hB).snd.up (n := 1073741824) (by omega) (By.nil _) (By.nil _) (by decide) (by decide) (by decide) (by decide)
                  rw [filter_all, take_all (by have := hkN.out; omega)] at u1
                  go_wp2_with first
                    | (go_at_call 29; go_must (refine (HMU.out.fst.len (by omega)).mono ?_); rintro e w17 ⟨rfl, rfl⟩)
                    | (go_at_call 30; go_must (refine (HMU.out.fst.pages (by omega)).mono ?_); rintro e w18 ⟨v18, rfl, V18, B18⟩; obtain ⟨b18, c18, rfl, -⟩ := id V18.ex)
                    | (go_at_call 21; go_must (refine (u1 _ B18).mono ?_); rintro e w19 ⟨v19, es19, rfl, P19, E19, B19⟩; obtain ⟨a19, n19, c19, rfl⟩ := P19.sh; replace E19 := hid E19; replace P19 := hid P19)
                    | (go_at_call 20; go_must (refine (pairs_same P19.out ((PA.out.keep B18).keep B19) (E19.out.trans HE.out.symm) (small_of E19.out HM5.out.fst.small) (by rw [← List.length_map (f := En.kl2), E19.out]; have := hkN.out; omega)).mono ?_); rintro e w20 ⟨rfl, B20⟩)
                  go_ret
                  refine ⟨rfl, ?_⟩
                  exact HBz.out.trans ((joinB (joinB B18 B19) B20).mono hBz)
    · have hft1 : (1000 : Int) < (fl : Int) + (tl : Int) := by omega
      have hft2 : (fl : Int) + (tl : Int) ≤ 281474976710656 := by omega
      go_enter Try.func5, Try.ntmps5
      go_wp2_with first
        | (go_at_call 7; refine t1.mono ?_; rintro e w1 ⟨rfl, B1⟩)
        | (go_at_call 8; refine (t2 _ B1).mono ?_; rintro e w2 ⟨rfl, B2⟩)
      go_ret
      exact ⟨rfl, B1.trans (B2.mono B1.size)⟩
  · rw [decide_eq_false hL] at t2
    clear hL
    go_enter Try.func5, Try.ntmps5
    go_wp2_with first
      | (go_at_call 7; refine t1.mono ?_; rintro e w1 ⟨rfl, B1⟩)
      | (go_at_call 8; refine (t2 _ B1).mono ?_; rintro e w2 ⟨rfl, B2⟩)
    go_ret
    exact ⟨rfl, B1.trans (B2.mono B1.size)⟩
end Pg
end Go.Proofs.Ytmcldniffieeiaa
