/- gleanlaw6.KVPrefix. -/
import Derived.Test.YtipokbenolekbaaJpa
namespace Go.Proofs.Ytipokbenolekbaa
namespace Kv
open Go.RowKit Go.Lib Pg
attribute [local go_sem] Oper.semAt_some
def flt (p : List Int) (es : List En) : List En := es.filter (fun e => decide (p <+: e.kl))
theorem flt_map (p : List Int) (es : List En) : (flt p es).map En.kl2 = (es.map En.kl2).filter (fun x => decide (p <+: x.1)) := by
  unfold flt
  induction es with
  | nil => rfl
  | cons e es ih =>
    simp only [List.filter_cons, List.map_cons]
    by_cases h : p <+: e.kl
    · rw [if_pos (decide_eq_true h), if_pos (decide_eq_true (show p <+: (En.kl2 e).1 from h)), List.map_cons, ih]
    · rw [if_neg (by rw [decide_eq_false h]; simp), if_neg (by rw [decide_eq_false (show ¬ p <+: (En.kl2 e).1 from h)]; simp), ih]
theorem flt_yes {p : List Int} {es : List En} {k : Nat} {x : En} (h : es[k]? = some x) (hp : p <+: x.kl) : flt p (es.take (k + 1)) = flt p (es.take k) ++ [x] := by
  unfold flt
  rw [List.take_add_one, h, List.filter_append]
  simp [hp]
theorem flt_no {p : List Int} {es : List En} {k : Nat} {x : En} (h : es[k]? = some x) (hp : ¬ p <+: x.kl) : flt p (es.take (k + 1)) = flt p (es.take k) := by
  unfold flt
  rw [List.take_add_one, h, List.filter_append]
  simp [hp]
theorem flt_len (p : List Int) (es : List En) (k : Nat) : (flt p (es.take k)).length ≤ k := by
  unfold flt
  have h1 := List.length_filter_le (fun e : En => decide (p <+: e.kl)) (es.take k)
  have h2 := List.length_take_le k es
  omega
theorem pre_take {p l : List Int} : p <+: l ↔ l.take p.length = p := by
  rw [List.prefix_iff_eq_take]
  exact eq_comm
set_option maxHeartbeats 4000000 in
set_option maxRecDepth 100000 in
theorem kVPrefix_walk {w : World} {ao : Option Addr} {n c : Nat} {ss : List Ste} (S : StesA w ao n ss) {pa : Option Addr} {pc : Nat} {p : List Int} (hp : By w (.slice pa p.length pc) p) (hpl : p.length ≤ 140737488355328) :
    Calls Try.prog 5 #[.slice ao n c, .slice pa p.length pc] w fun e w' => e = .returned (.bool true) ∧ Below w.heap.size w w' := by
  have t1 := known_any (w := w)
  have t2 := fun w' (hB : Below w.heap.size w w') => light_any (c := c) (S.keep hB)
  have HS : Hid _ := S
  obtain ⟨l1, hl1⟩ : ∃ l1, Hid (lite n (hvy ss) = l1) := ⟨_, rfl⟩
  rw [hl1.out] at t2
  obtain ⟨pn, hpn⟩ : ∃ pn, Hid (p.length = pn) := ⟨_, rfl⟩
  rw [hpn.out] at hp hpl ⊢
  have HP0 := hid3 hp
  clear S hp
  cases l1 with
  | false =>
    clear HS hl1
    go_enter Try.func5, Try.ntmps5
    go_wp2_with first
      | (go_at_call 9; refine t1.mono ?_; rintro e w1 ⟨rfl, B1⟩; clear t1)
      | (go_at_call 10; refine (t2 _ B1).mono ?_; rintro e w2 ⟨rfl, B2⟩; replace B1 := joinB B1 B2; clear t2 B2)
    go_ret
    exact ⟨rfl, B1⟩
  | true =>
    by_cases h100 : 100 < pn
    · have h100' : (100 : Int) < pn := by omega
      clear HS hl1
      go_enter Try.func5, Try.ntmps5
      go_wp2_with first
        | (go_at_call 9; refine t1.mono ?_; rintro e w1 ⟨rfl, B1⟩; clear t1)
        | (go_at_call 10; refine (t2 _ B1).mono ?_; rintro e w2 ⟨rfl, B2⟩; replace B1 := joinB B1 B2; clear t2 B2)
      go_ret
      exact ⟨rfl, B1⟩
    · have h100' : ((100 : Int) < pn) = False := eq_false (by omega)
      have hn := (lite_yes hl1.out).2
      clear hl1
      go_enter Try.func5, Try.ntmps5
      go_wp2_with first
        | (go_at_call 9; refine t1.mono ?_; rintro e w1 ⟨rfl, B1⟩; clear t1)
        | (go_at_call 10; refine (t2 _ B1).mono ?_; rintro e w2 ⟨rfl, B2⟩; replace B1 := joinB B1 B2; clear t2 B2)
        | (go_at_call 11; refine (knew B1).mono ?_; rintro e w5 ⟨g, rfl, H5⟩; clear B1)
      have H6' := hid3 H5
      clear H5
      go_loopw [6] (fun ti wr => ∃ k : Nat, k ≤ n ∧ ti = .int .i64 k ∧ Hid (∃ E, Kn w wr ⟨[], [], []⟩ g E [] k (2 * k))) (fun ti _ => n - (intOf ti).toNat)
      case atStart => exact ⟨0, Nat.zero_le _, rfl, _, H6'.out⟩
      case round =>
        clear H6'
        obtain ⟨k, hk, rfl, HX⟩ := hrel
        by_cases hlt : k < n
        · obtain ⟨E, X⟩ := HX.out
          obtain ⟨s, b, o, e1, rfl, C0, A0⟩ := HS.out.at hlt
          have hb0 := cell_lt C0.c2
          have C := C0.keep X.below
          have hcc : wr.drew.cell? ⟨b, o + k * 4 + 2, none⟩ = some (.slice s.ka s.kl.length s.kc) ∧ wr.drew.cell? ⟨b, o + k * 4 + 3, none⟩ = some (.slice s.va s.vl.length s.vc) := ⟨C.c2, C.c3⟩
          have HC := hid3 hcc
          have HC0 := hid3 (And.intro C0.c2 C0.c3)
          have HA := hid3 A0
          have HM := hid3 X
          have hk0 : (k : Int) < n := by omega
          clear C hcc C0 A0 X HX e1
          go_wp2_with fail
          have hS := HC.out
          have X := HM.out
          refine rg_start (S := fun w' => w'.cell? ⟨b, o + k * 4 + 2, none⟩ = some (.slice s.ka s.kl.length s.kc) ∧ w'.cell? ⟨b, o + k * 4 + 3, none⟩ = some (.slice s.va s.vl.length s.vc)) (by kernel_rfl) hS ?_
          refine rg_take 0 (some 29) (.pointer (some ⟨g, 0, none⟩)) (by kernel_rfl) (fun _ _ => by kernel_rfl) (fun _ _ _ h => h) hS ?_
          refine rg_take 1 (some 30) (.slice (some ⟨b, o, none⟩) n c) (by kernel_rfl) (fun _ _ => by kernel_rfl) (fun _ _ _ h => h) hS ?_
          refine rg_take 2 (some 31) (.int .i64 k) (by kernel_rfl) (fun _ _ => by kernel_rfl) (fun _ _ _ h => h) hS ?_
          refine rg_take 3 (some 32) (.pointer (some ⟨b, o + k * 4, none⟩)) (by kernel_rfl) (fun _ _ => run_st (x := 30) (y := 31) (k := k) (n := n) (c := c) (by kernel_rfl) (by kernel_rfl) (by kernel_rfl) rfl hlt) (fun _ _ _ h => h) hS ?_
          refine rg_take 4 (some 33) (.pointer (some ⟨b, o + k * 4 + 2, none⟩)) (by kernel_rfl) (fun _ _ => by kernel_rfl) (fun _ _ _ h => h) hS ?_
          refine rg_load 5 (some 34) (.slice s.ka s.kl.length s.kc) 32 33 (b) (o + k * 4 + 2) (by kernel_rfl) (by kernel_rfl) (by kernel_rfl) (fun w' h => ld_b h.1) (fun _ _ _ h => h) hS ?_
          refine rg_take 6 (some 35) (.slice (some ⟨b, o, none⟩) n c) (by kernel_rfl) (fun _ _ => by kernel_rfl) (fun _ _ _ h => h) hS ?_
          refine rg_take 7 (some 36) (.int .i64 k) (by kernel_rfl) (fun _ _ => by kernel_rfl) (fun _ _ _ h => h) hS ?_
          refine rg_take 8 (some 37) (.pointer (some ⟨b, o + k * 4, none⟩)) (by kernel_rfl) (fun _ _ => run_st (x := 35) (y := 36) (k := k) (n := n) (c := c) (by kernel_rfl) (by kernel_rfl) (by kernel_rfl) rfl hlt) (fun _ _ _ h => h) hS ?_
          refine rg_take 9 (some 38) (.pointer (some ⟨b, o + k * 4 + 3, none⟩)) (by kernel_rfl) (fun _ _ => by kernel_rfl) (fun _ _ _ h => h) hS ?_
          refine rg_load 10 (some 39) (.slice s.va s.vl.length s.vc) 32 38 (b) (o + k * 4 + 3) (by kernel_rfl) (by kernel_rfl) (by kernel_rfl) (fun w' h => ld_b h.2) (fun _ _ _ h => h) hS ?_
          refine rg_call 11 (some 40) 18 #[.pointer (some ⟨g, 0, none⟩), .slice s.ka s.kl.length s.kc, .slice s.va s.vl.length s.vc] (by kernel_rfl) (by kernel_rfl) (kset X.drew (.inl HA.out.k) (.inl HA.out.v) (by omega) (by omega)) ?_
          rintro e' w7 ⟨rfl, X2⟩
          refine ⟨_, rfl, pcells2 HC0.out hb0 X2.below, ?_⟩
          refine rg_done (by kernel_rfl) ?_
          simp only [Act.put, List.setIfInBounds_toArray, List.set_cons_zero, List.set_cons_succ]
          have HX2 := hid3 X2
          clear X X2 hS HM HC
          go_wp2
          go_roundw
          case rel => exact ⟨k + 1, by omega, by go_num, _, HX2.out⟩
          case measure => simp [intOf]; omega
        · obtain rfl : k = n := by omega
          obtain ⟨E, X⟩ := HX.out
          have hEl := X.size
          obtain ⟨m, hm⟩ : ∃ m, Hid (E.length = m) := ⟨_, rfl⟩
          rw [hm.out] at hEl
          have HM := hid3 X
          clear X HX HS
          go_wp2_with (go_at_call 15; go_must (refine (kdm1 (m' := m) HM.out (by omega) hm.out).mono ?_); rintro e wd ⟨a9, d9, rfl, H9⟩; clear HM)
          obtain ⟨es, P9, he9⟩ := H9.pr_of (v := .slice a9 m d9) (F := E) (.head _)
          have hel : es.length = m := by rw [← hm.out, ← he9, List.length_map]
          have HEL := hid3 hel
          have HE9 := hid3 he9
          have HA := hid3 P9
          have H9' := hid3 H9
          have hwz := hid3 H9.below.size
          clear hel he9 P9 H9
          go_loopw [8, 9] (fun tv ti wr => ∃ j : Nat, j ≤ m ∧ ti = .int .i64 j ∧ Hid (Pq wr wd.heap.size (fun b => w.heap.size ≤ b ∧ b < wd.heap.size) tv (flt p (es.take j))) ∧ Hid (Below wd.heap.size wd wr)) (fun _ ti _ => m - (intOf ti).toNat)
          case atStart => exact ⟨0, Nat.zero_le _, rfl, Pq.nil _ _ _, Below.refl _ _⟩
          case round =>
            obtain ⟨j, hj, rfl, HP, HB⟩ := hrel
            obtain ⟨bo, d, hbo⟩ := HP.out.shape
            obtain ⟨q, hq⟩ : ∃ q, Hid ((flt p (es.take j)).length = q) := ⟨_, rfl⟩
            have hqj : q ≤ j := by rw [← hq.out]; exact flt_len _ _ _
            rw [hq.out] at hbo
            subst hbo
            by_cases hlt : j < m
            · obtain ⟨x, hx⟩ : ∃ x, es[j]? = some x := ⟨es[j]'(by have := HEL.out; omega), List.getElem?_eq_getElem _⟩
              obtain ⟨pb, rfl⟩ := (PrAq HA.out).some hx
              have X := (HA.out.ents x (List.mem_of_getElem? hx)).mono (D' := fun b => w.heap.size ≤ b ∧ b < wd.heap.size) (fun b h1 h2 => ⟨h2, h1⟩)
              have hxs : x.kl.length ≤ 1000000000 := (H9'.out.small x.kl2 (by rw [← HE9.out]; exact List.mem_map.2 ⟨x, List.mem_of_getElem? hx, rfl⟩)).1
              obtain ⟨c1, c2, hpb⟩ := HA.out.cells hx
              obtain ⟨xk, xkl, xv, xvl⟩ := x
              obtain ⟨a1, n1, e1⟩ := X.k.shape
              obtain ⟨a2, n2, e2⟩ := X.v.shape
              simp only at e1 e2 c1 c2 hxs
              subst e1 e2
              have HX := hid3 X
              have HC1 := hid3 c1
              have HC2 := hid3 c2
              have d1 : wr.cell? ⟨pb, j * 2, none⟩ = some (.slice a1 xkl.length n1) := (HB.out.cell (p := ⟨pb, j * 2, none⟩) hpb).trans c1
              have BY := hid3 (show By wr (.slice a1 xkl.length n1) xkl from (X.keep HB.out).k.by)
              have hx2 := hid3 hx
              obtain ⟨xn, hxn⟩ : ∃ xn, Hid (xkl.length = xn) := ⟨_, rfl⟩
              have hj0 : (j : Int) < m := by omega
              clear X c1 c2 hx
              rw [hxn.out] at d1 hxs BY HC1
              by_cases hlen : pn ≤ xn
              · have hlen' : (pn : Int) ≤ xn := by omega
                by_cases heq : xkl.take pn = p
                · have HY := hid3 (flt_yes hx2.out (show p <+: xkl from pre_take.2 (by rw [hpn.out]; exact heq)))
                  have hcap := (By.lens BY.out).2
                  go_wp2_with first
                    | (go_at_call 23; go_must (refine (bytes_any (By.take BY.out pn hlen) (HP0.out.keep (H9'.out.below.trans (HB.out.mono hwz.out))) (by rw [heq, hpn.out]; omega) (by rw [hpn.out]; omega)).mono ?_); rintro e w7 ⟨rfl, B7⟩; rw [decide_eq_true heq]; have BB := HB.out.trans (B7.mono HB.out.size); have d1 := (BB.cell (p := ⟨pb, j * 2, none⟩) hpb).trans HC1.out; have d2 := (BB.cell (p := ⟨pb, j * 2 + 1, none⟩) hpb).trans HC2.out; obtain ⟨ov', w8, hr, hP, hS⟩ := app_copy (e := ⟨.slice a1 xn n1, xkl, .slice a2 xvl.length n2, xvl⟩) (HP.out.keep B7) BB.size (by rw [← hxn.out]; exact HX.out.keep BB) (by rw [hq.out]; omega); rw [← hxn.out] at hP; have HPP := hid3 hP; have HSS := hid3 (BB.trans hS); clear hP hS B7 BB)
                    | (at_builtin; refine Lib.wpList_append_run _ rfl _ _ _ _ rfl _ _ rfl rfl _ _ hr ?_)
                  go_roundw
                  case rel => exact ⟨j + 1, by omega, by go_num, by rw [HY.out]; exact HPP, HSS⟩
                  case measure => simp [intOf]; omega
                · have HY := hid3 (flt_no hx2.out (show ¬ p <+: xkl from fun h => heq (by have := pre_take.1 h; rw [hpn.out] at this; exact this)))
                  have hcap := (By.lens BY.out).2
                  have hln := hid3 (show (xkl.take pn).length ≤ 1000000000 by rw [List.length_take]; omega)
                  go_wp2_with (go_at_call 23; go_must (refine (bytes_any (By.take BY.out pn hlen) (HP0.out.keep (H9'.out.below.trans (HB.out.mono hwz.out))) hln.out (by rw [hpn.out]; omega)).mono ?_); rintro e w7 ⟨rfl, B7⟩; rw [decide_eq_false heq]; have BB := hid3 (HB.out.trans (B7.mono HB.out.size)); have PP := hid3 (HP.out.keep B7); clear B7)
                  go_roundw
                  case rel => exact ⟨j + 1, by omega, by go_num, by rw [HY.out]; exact PP, BB⟩
                  case measure => simp [intOf]; omega
              · have HY := hid3 (flt_no hx2.out (show ¬ p <+: xkl from fun h => hlen (by have := h.length_le; rw [hpn.out, hxn.out] at this; exact this)))
                have hlen' : ((pn : Int) ≤ xn) = False := eq_false (by omega)
                go_wp2
                go_roundw
                case rel => exact ⟨j + 1, by omega, by go_num, by rw [HY.out]; exact HP, HB⟩
                case measure => simp [intOf]; omega
            · obtain rfl : j = m := by omega
              have hall : es.take j = es := List.take_of_length_le (by rw [HEL.out]; exact Nat.le_refl _)
              have PQ := HP.out
              rw [hall] at PQ hq
              obtain ⟨F, hF⟩ : ∃ F, Hid (E.filter (fun x => decide (p <+: x.1)) = F) := ⟨_, rfl⟩
              have hFm : (flt p es).map En.kl2 = F := by rw [flt_map, HE9.out, hF.out]
              have hFl : F.length = q := by rw [← hFm, List.length_map, hq.out]
              have HFl := hid3 hFl
              have H10 := H9'.out.pairs (v := .slice bo q d) (F := F) HB.out (PQ.a hwz.out (fun b _ h => h.1)) hFm (fun b m' c' e => by
                rcases PQ.ex with ⟨e1, _⟩ | ⟨b', c2, e1, hb', _⟩
                · rw [e1] at e; cases e
                · rw [e1] at e; cases e; exact hb')
              have HM := hid3 H10
              have hFs := hid3 (fun x (hx : x ∈ F) => H9'.out.small x (by rw [← hF.out] at hx; exact (List.mem_filter.1 hx).1))
              have hEs := hid3 H9'.out.small
              have HFt := hid3 (show F.take 1073741824 = F from List.take_of_length_le (by omega))
              have HEt := hid3 (show E.take 1073741824 = E from List.take_of_length_le (by rw [hm.out]; omega))
              clear H10 PQ hall hFm hFl HP HB H9' HA
              go_wp2_with first
                | (go_at_call 17; have gate := HM; clear gate; go_must (refine (kop1 (r := (k : Int)) HM.out rfl).mono ?_); rintro e y ⟨rfl, hy⟩; replace hy := hy.symm; subst hy)
                | (go_at_call 25; go_must (refine (kpf1 (p := p) (F := F) HM.out (by omega) (.inl HP0.out) (by rw [hpn.out]; omega) hF.out).mono ?_); rintro e w11 ⟨u11, L11, rfl, I11, F11, H11⟩; clear HM)
                | (go_at_call 24; have gate := I11; clear gate; go_must (refine (ktk1 (m := 1073741824) (F' := F) (n' := k + 1 + q) (m' := q) H11 I11 F11 (by decide) (by decide) (by rw [HFl.out]; omega) HFt.out (by rw [HFl.out]) HFl.out).mono ?_); rintro e w12 ⟨a12, c12, rfl, H12⟩; clear H11 I11 F11)
                | (go_at_call 14; have gate := H12; clear gate; go_must (refine (kpairs1 (F := F) H12 (.head _) (.tail _ (.head _)) (by rw [HFl.out]; omega) hFs.out).mono ?_); rintro e w13 ⟨rfl, H13⟩; clear H12)
                | (go_at_call 17; have gate := H13; clear gate; go_must (refine (kop1 (r := (k : Int) + 1 + q) H13 (by omega)).mono ?_); rintro e y ⟨rfl, hy⟩; replace hy := hy.symm; subst hy)
                | (go_at_call 26; go_must (refine (kwk1 (F := E) H13 (by omega) (filter_all E)).mono ?_); rintro e w14 ⟨u14, L14, rfl, I14, F14, H14⟩; clear H13; have HI := hid3 (KI.mk H14 I14); have HF14 := hid3 F14; clear I14 F14 H14)
                | (go_at_call 24; have gate := HI; clear gate; go_must (refine (ktk2 (m := 1073741824) (F' := E) (n' := k + 1 + q + 1 + j) (m' := j) HI.out HF14.out (by decide) (by decide) (by rw [hm.out]; omega) HEt.out (by rw [hm.out]) hm.out).mono ?_); rintro e w15 ⟨a15, c15, rfl, H15⟩; clear HI)
                | (go_at_call 14; have gate := H15; clear gate; go_must (refine (kpairsI (F := E) H15 (.head _) (.tail _ (.tail _ (.tail _ (.head _)))) (by rw [hm.out]; omega) hEs.out).mono ?_); rintro e w16 ⟨rfl, H16⟩; clear H15)
                | (go_at_call 24; have gate := H16; clear gate; go_must (refine (ktk1 (m := 1073741824) (F' := E) (n' := k + 1 + q + 1 + j + 1 + j) (m' := j) H16.kn H16.it HF14.out (by decide) (by decide) (by rw [hm.out]; omega) HEt.out (by rw [hm.out]) hm.out).mono ?_); rintro e w17 ⟨a17, c17, rfl, H17⟩; clear H16)
                | (go_at_call 14; have gate := H17; clear gate; go_must (refine (kpairs1 (F := E) H17 (.head _) (.tail _ (.tail _ (.tail _ (.tail _ (.head _))))) (by rw [hm.out]; omega) hEs.out).mono ?_); rintro e w18 ⟨rfl, H18⟩; clear H17)
                | (go_at_call 17; go_must (refine (kop1 (r := (k : Int) + 3 + q + 2 * j) H18 (by omega)).mono ?_); rintro e y ⟨rfl, hy⟩; replace hy := hy.symm; subst hy)
              go_ret
              exact ⟨rfl, H18.below⟩
end Kv
end Go.Proofs.Ytipokbenolekbaa
