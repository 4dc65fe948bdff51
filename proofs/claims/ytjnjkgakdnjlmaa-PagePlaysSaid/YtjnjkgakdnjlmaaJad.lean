/- Several texts, joined: PgId, PgIe, PgSp, PgHe, PgPr, PgWd, PgHl, PgSh, PgTh. -/
import Derived.Test.YtjnjkgakdnjlmaaJac
namespace Go.Proofs.Ytjnjkgakdnjlmaa
namespace Pg
open Go.RowKit Go.Lib
attribute [local go_sem] Oper.semAt_some
theorem rev_at {α : Type} {l : List α} {i j : Nat} {x : α} (h : l[j]? = some x) (hij : j + 1 + i = l.length) : l.reverse[i]? = some x := by
  rw [List.getElem?_reverse (by omega), show l.length - 1 - i = j by omega]; exact h
theorem rev_flatMap {α β : Type} (l : List α) (f : α → List β) : (l.flatMap f).reverse = l.reverse.flatMap fun x => (f x).reverse := by
  induction l with
  | nil => rfl
  | cons a l ih => simp [List.flatMap_cons, ih]
set_option maxHeartbeats 8000000 in
set_option maxRecDepth 100000 in
theorem falling_itr {Tp : TypeId → Prop} {W0 : World} {X F D : Nat → Prop} {g : Nat} {L : List Pg} {bm bf bt : Nat} {fv tv : Value} {f t : List Int} (K : Wk W0 X F D g L bm bf bt fv tv f t) (hT1 : ¬ Tp 94) (hT2 : ¬ Tp 59) (hT3 : ¬ Tp 66) :
    Itr Tp 66 #[.pointer (some ⟨bm, 0, none⟩), .pointer (some ⟨bf, 0, none⟩), .pointer (some ⟨bt, 0, none⟩)] (wlk (ens L) f t).length (ArE (wlk (ens L) f t).reverse) (fun V => Chg X W0 V) := by
  intro l J Jx W hJ hJx hRd hY h0
  have J1 := hJ 0 _ _ h0 (Rec.of (below_alloc W (.cells #[.func (.yield l) #[] #[]] 94)))
  have Y1 := blk_new W [.func (.yield l) #[] #[]] 94
  obtain ⟨Am, hf, ht, cm, cf, ct⟩ := K.at (hRd 0 _ J1)
  have tS := span_any Am K.ord hf ht K.big
  obtain ⟨Q, hQ⟩ : ∃ Q, Hid (cut L (pgi (ens L) f) (spanE (ens L) t) = Q) := ⟨_, rfl⟩
  rw [hQ.out] at tS
  have hQm : ∀ p ∈ Q, p ∈ L := fun p hp => by rw [← hQ.out] at hp; exact List.mem_of_mem_drop (List.mem_of_mem_take hp)
  have hQm : Hid _ := hQm
  have hQl : Q.length ≤ 100000000 := by
    rw [← hQ.out]; unfold cut; rw [List.length_take, List.length_drop]; have := K.big; omega
  obtain ⟨E, hE⟩ : ∃ E, Hid ((wlk (ens L) f t).reverse = E) := ⟨_, rfl⟩
  have hQe : Hid (E = (ens Q).reverse.flatMap fun es => (wth es f t).reverse) := by
    show _ = _
    rw [← hE.out, ← rev_flatMap, ← hQ.out]
    unfold wlk cut ens
    rw [List.map_take, List.map_drop]
  have hEl : (wlk (ens L) f t).length = E.length := by rw [← hE.out, List.length_reverse]
  rw [hE.out] at hY
  rw [hEl] at hY ⊢
  clear hEl
  refine (callsIn_wide (n := 0)).1 ?_
  refine callsIn_of_wp_marks Try.func66 rfl trivial ?_ rfl
  simp only [Try.ntmps66, List.size_toArray, List.length_cons, List.length_nil, Nat.reduceAdd, Nat.reduceSub, Array.replicate_succ, Array.replicate_zero, List.push_toArray, List.append_toArray, List.nil_append, List.cons_append]
  have hs1 : (W.alloc (.cells #[.func (.yield l) #[] #[]] 94)).heap.size = W.heap.size + 1 := by simp
  gi_wp2_with (first
    | (refine ⟨trivial, rfl, ?_⟩; gi_at_call 64; refine (callsIn_wide.2 tS).mono ?_; rintro e' w1 ⟨v1, rfl, hSp, hB1⟩; obtain ⟨ao, cc, rfl, hc1, hc2, hat⟩ := hSp.ex; clear tS)
    | (refine ⟨trivial, rfl, ?_⟩; gi_at_call 67; refine (callsIn_wide.2 backP_mk).mono ?_; rintro e' w2 ⟨rfl, hBx, hB2⟩))
  clear cm cf ct hf ht Am
  have hB12 := joinB hB1 hB2
  generalize W.alloc (.cells #[.func (.yield l) #[] #[]] 94) = Wa at *
  have J2 := hJ 0 _ _ J1 (Rec.of hB12)
  have Y2 := Y1.keep hB12
  have hCw : Hid (Chg X W0 w1) := hRd 0 _ (hJ 0 _ _ J1 (Rec.of hB1))
  have hFlt : ∀ b, F b → b < W0.heap.size ∧ ¬ X b := fun b hb => ⟨K.map.lt hb, fun x => K.xF b x hb⟩
  have hcell : Hid (∀ j p, Q[j]? = some p → ∀ V, Chg X W0 V → ∃ b o, ao = some ⟨b, o, none⟩ ∧ V.cell? ⟨b, o + j, none⟩ = some p.v) := fun j p hj V hV => by
    obtain ⟨b, o, e, hF, hc⟩ := hat j p hj
    obtain ⟨h1, h2⟩ := hFlt b hF
    refine ⟨b, o, e, ?_⟩
    rw [World.cell?_of_block (w := W0) (a := ⟨b, o + j, none⟩) (hV.same b h1 h2), ← World.cell?_of_block (w := W0) (w' := w1) (a := ⟨b, o + j, none⟩) (hCw.out.same b h1 h2)]
    exact hc
  have IT := backP_itr (Tp := Tp) (bs := w1.heap.size) (c := cc) (ao := ao) (Q := Q) (Rd := fun V => Chg X W0 V ∧ Blk V w1.heap.size [.slice ao Q.length cc] 59) rfl hQl (fun V hv => ⟨hv.2.cell (i := 0) rfl, fun j p hj => hcell.out j p hj V hv.1⟩)
  have hs12 := hB1.size
  have hs22 := hB2.size
  have hw1lt := hBx.lt
  have J2' : J (((ens Q).reverse.take 0).flatMap fun es => (wth es f t).reverse).length w2 := J2
  clear J1 Y1 hSp hat hB1 hB2 hB12
  refine rf_outer IT (by rfl) (enters_of Try.func75 (by kernel_rfl) rfl) (fun i args n V V' h _ => h) (fun i args n V h => by obtain ⟨p, j, _, _, rfl⟩ := h; rfl)
    (fun a V => J (((ens Q).reverse.take a).flatMap fun es => (wth es f t).reverse).length V ∧ w2.heap.size ≤ V.heap.size ∧ Blk V W.heap.size [.func (.yield l) #[] #[]] 94 ∧ Blk V w1.heap.size [.slice ao Q.length cc] 59)
    (fun c a V => c = .ret ∧ (∃ k, k < E.length ∧ Jx (k + 1) V) ∧ w2.heap.size ≤ V.heap.size)
    (fun i A B hx hr => ⟨hJ _ A B hx.1 (hr.mono (by omega)), Nat.le_trans hx.2.1 hr.size, rec_cel hx.2.2.1 hr, rec_cel hx.2.2.2 hr⟩)
    (fun c i A B hx hr => ⟨hx.1, by obtain ⟨k, h1, h2⟩ := hx.2.1; exact ⟨k, h1, hJx _ A B h2 (hr.mono (by omega))⟩, Nat.le_trans hx.2.2 hr.size⟩)
    (fun i V hv => ⟨hRd _ V hv.1, hv.2.2.2⟩) ⟨J2', Nat.le_refl _, Y2, hBx⟩ ?_ ?_ ?_
  · rintro l2 a args V Wv hl hlV hrec haN ⟨hJa, hsz, hYb, hBb⟩ hb ⟨p, j, hj, hp, rfl⟩
    obtain ⟨cnt, hcnt⟩ : ∃ cnt, Hid ((((ens Q).reverse.take a).flatMap fun es => (wth es f t).reverse).length = cnt) := ⟨_, rfl⟩
    simp only [hcnt.out] at hJa ⊢
    simp
    gi_wp2
    refine ⟨Below.refl _ _, ?_⟩
    intro V2 W2 hJ2 hsz2 hYb2 hBb2 hb2 _ hoth hsz3 hV2 r hrec2
    have JW2 := hJ _ _ _ hJ2 (Rec.of hb2)
    have YW2 := hYb2.keep hb2
    have BW2 := hBb2.keep hb2
    have hszW : w2.heap.size ≤ W2.heap.size := Nat.le_trans hsz2 hb2.size
    obtain ⟨Ap, hf, ht, cm, cf, ct⟩ := K.at (hRd _ _ JW2)
    have hpm := hQm.out p (List.mem_of_getElem? hp)
    have hpL : p.es ∈ ens L := List.mem_map.2 ⟨p, hpm, rfl⟩
    have hps := K.few _ hpL
    obtain ⟨pj, hpj⟩ := List.getElem?_of_mem hpL
    have tW := within_any (Ap.pages p hpm).1 (K.ord.page hpj) hf ht (by omega)
    have hpF := (K.map.pages p hpm).2
    have hpr : Hid ((ens Q).reverse[a]? = some p.es) := rev_at (ens_get hp) (by simp [ens]; omega)
    simp only [Pg.v] at tW ⊢
    clear hJa hsz hYb hBb hb hoth hsz3 hV2 hrec hlV J2 J2'
    gi_wp2_with (first
      | (refine ⟨trivial, rfl, ?_⟩; gi_at_call 65; refine (CallsIn.inRound l2 (callsIn_wide.2 tW)).mono ?_; rintro e' w3 ⟨v3, rfl, hEs, hB3⟩; obtain ⟨ao2, cc2, rfl, hd1, hd2, hat2⟩ := hEs.ex; clear tW)
      | (refine ⟨trivial, rfl, ?_⟩; gi_at_call 68; refine (CallsIn.inRound l2 (callsIn_wide.2 backE_mk)).mono ?_; rintro e' w4 ⟨rfl, hBe, hB4⟩))
    obtain ⟨es, hes⟩ : ∃ es, Hid (wth p.es f t = es) := ⟨_, rfl⟩
    rw [hes.out] at hat2 hBe hd1
    simp only [hes.out]
    have hB34 := joinB hB3 hB4
    have J4 := hJ _ _ _ JW2 (Rec.of hB34)
    have Y4 := YW2.keep hB34
    have B4 := BW2.keep hB34
    have hL4 : w4.heap[l2]? = some (.loop r) := (hB34.block l2 (lt_of_block hrec2)).trans hrec2
    have hCw3 : Hid (Chg X W0 w3) := hRd _ _ (hJ _ _ _ JW2 (Rec.of hB3))
    have hcell2 : Hid (∀ j e, es[j]? = some e → ∀ V, Chg X W0 V → ∃ o, ao2 = some ⟨p.b, o, none⟩ ∧ V.cell? ⟨p.b, o + j * 2, none⟩ = some e.kv ∧ V.cell? ⟨p.b, o + j * 2 + 1, none⟩ = some e.vv) := fun j e hj V hV => by
      obtain ⟨o, e', hk, hv⟩ := hat2 j e hj
      obtain ⟨h1, h2⟩ := hFlt p.b hpF
      have e1 : V.heap[p.b]? = w3.heap[p.b]? := (hV.same p.b h1 h2).trans (hCw3.out.same p.b h1 h2).symm
      exact ⟨o, e', by rw [World.cell?_of_block (w := w3) (a := ⟨p.b, o + j * 2, none⟩) e1]; exact hk, by rw [World.cell?_of_block (w := w3) (a := ⟨p.b, o + j * 2 + 1, none⟩) e1]; exact hv⟩
    have hesl : es.length ≤ 32 := by
      rw [← hes.out]; unfold wth cut; rw [List.length_take, List.length_drop]; omega
    have IT2 := backE_itr (Tp := Tp) (bs := w3.heap.size) (c := cc2) (ao := ao2) (q := p.b) (Q := es) (Rd := fun V => Chg X W0 V ∧ Blk V w3.heap.size [.slice ao2 es.length cc2] 66) rfl (by omega) (fun V hv => ⟨hv.2.cell (i := 0) rfl, fun j e hj => hcell2.out j e hj V hv.1⟩)
    have hEat : Hid (∀ c j e, es[j]? = some e → j + 1 + c = es.length → E[cnt + c]? = some e) := fun c j e hj hjc => by
      rw [hQe.out, ← hcnt.out]
      exact flatMap_at (ens Q).reverse (fun es => (wth es f t).reverse) a c p.es e hpr.out (by rw [hes.out]; exact rev_at hj hjc)
    have hs34 := hB34.size
    have hs4 := hBe.lt
    have hs3 := hB3.size
    have hk0 : KeepsT Tp w2.heap.size W2 w4 := KeepsT.of hB34
    have hes2 : Hid (∀ e ∈ es, e ∈ p.es) := fun e he => by rw [← hes.out] at he; exact cut_mem he
    clear hEs hat2 cm cf ct hf ht Ap hB3 hB4 hB34
    refine rf_inner IT2 hL4 (by rfl) (enters_of Try.func76 (by kernel_rfl) rfl) (fun i args n V V' h _ => h) (fun i args n V h => by obtain ⟨e, j, _, _, rfl⟩ := h; rfl)
      (fun c V => J (cnt + c) V ∧ w4.heap.size ≤ V.heap.size ∧ Blk V W.heap.size [.func (.yield l) #[] #[]] 94 ∧ Blk V w1.heap.size [.slice ao Q.length cc] 59 ∧ Blk V w3.heap.size [.slice ao2 es.length cc2] 66 ∧ KeepsT Tp w2.heap.size W2 V)
      (fun c' c V => c' = .ret ∧ (∃ k, k < E.length ∧ Jx (k + 1) V) ∧ w4.heap.size ≤ V.heap.size ∧ KeepsT Tp w2.heap.size W2 V)
      (fun i A B hx hr => ⟨hJ _ A B hx.1 (hr.mono (by omega)), Nat.le_trans hx.2.1 hr.size, rec_cel hx.2.2.1 hr, rec_cel hx.2.2.2.1 hr, rec_cel hx.2.2.2.2.1 hr, ⟨Nat.le_trans hx.2.2.2.2.2.size hr.size, fun k o hk h1 ho => hr.same k o (hx.2.2.2.2.2.same k o hk h1 ho) (.inl (by have := lt_of_block h1; omega))⟩⟩)
      (fun c i A B hx hr => ⟨hx.1, by obtain ⟨k, h1, h2⟩ := hx.2.1; exact ⟨k, h1, hJx _ A B h2 (hr.mono (by omega))⟩, Nat.le_trans hx.2.2.1 hr.size, ⟨Nat.le_trans hx.2.2.2.size hr.size, fun k o hk h1 ho => hr.same k o (hx.2.2.2.same k o hk h1 ho) (.inl (by have := lt_of_block h1; omega))⟩⟩)
      (fun i V hv => ⟨hRd _ V hv.1, hv.2.2.2.2.1⟩) ⟨J4, Nat.le_refl _, Y4, B4, hBe, hk0⟩ ?_ ?_ ?_
    · rintro l3 c args V Wv hl3 hlV hrec hcN ⟨hJc, hszc, hYc, hBc, hEc, hKc⟩ hbv ⟨e, j', hj', he, rfl⟩
      have hEn := ((K.at (hRd _ _ hJc)).1.pages p hpm).1.ents e (hes2.out e (List.mem_of_getElem? he))
      have hEi := hEat.out c j' e he hj'
      have hbE : cnt + c < E.length := (List.getElem?_eq_some_iff.1 hEi).1
      obtain ⟨ekv, ekl, evv, evl⟩ := e
      obtain ⟨ak, nk, hk1⟩ := hEn.k.shape
      obtain ⟨av, nv, hv1⟩ := hEn.v.shape
      simp only at hk1 hv1
      subst hk1 hv1
      have qv := hbv.size
      simp
      gi_wp2
      refine ⟨below_alloc Wv _, ?_⟩
      intro V5 W5 hJ5 hsz5 hY5 hB5 hE5 hK5 hb5 _ hoth hsz6 hV5 r5 hrec5
      have hEb : Blk W5 Wv.heap.size [.slice ak ekl.length nk, .slice av evl.length nv] 65 := (blk_new Wv [.slice ak ekl.length nk, .slice av evl.length nv] 65).same (hoth _ (by omega))
      have yc := (hY5.keep hb5).cell (i := 0) rfl
      have ec0 := hEb.cell (i := 0) rfl
      have ec1 := hEb.cell (i := 1) rfl
      have q5 := hb5.size
      obtain ⟨fn, tmps, assign, body, hy, hR⟩ := hY (cnt + c) #[.agg #[.slice ak ekl.length nk, .slice av evl.length nv]] V5 W5 hbE hJ5 (by omega) hb5 ⟨_, hEi, rfl⟩
      clear hEn hoth hEb hJc hYc hBc hEc hKc
      gi_wp2
      refine ⟨rfl, RoundIn.mono (F := Fence.wide.inRound l3) hR ?_⟩
      rintro e' W6 ⟨hk6, h6⟩
      have hY6 := hk6.blk (hY5.keep hb5) (by omega) hT1
      have hB6 := hk6.blk (hB5.keep hb5) (by omega) hT2
      have hE6 := hk6.blk (hE5.keep hb5) (by omega) hT3
      have hK6 : KeepsT Tp w2.heap.size W2 W6 := (hK5.trans (KeepsT.of hb5)).trans (hk6.mono (by omega))
      have hKK : KeepsT Tp w4.heap.size W5 W6 := hk6.mono (by omega)
      have hs6 : w4.heap.size ≤ W6.heap.size := by have := hk6.size; omega
      rcases h6 with ⟨rfl, hJ6⟩ | ⟨rfl, hJ6⟩
      · gi_wp2
        exact ⟨hKK, hJ6, hs6, hY6, hB6, hE6, hK6⟩
      · gi_wp2
        exact ⟨hKK, rfl, ⟨cnt + c, hbE, hJ6⟩, hs6, hK6⟩
    · rintro W' ⟨hJm, hszm, hYm, hBm, hEm, hKm⟩
      gi_wp2
      refine ⟨hKm, ?_, by omega, hYm, hBm⟩
      have e : (((ens Q).reverse.take (a + 1)).flatMap fun es => (wth es f t).reverse).length = cnt + es.length := by
        rw [flatMap_take (ens Q).reverse (fun es => (wth es f t).reverse) a p.es hpr.out, List.length_append, hcnt.out, List.length_reverse, hes.out]
      have e3 : (List.take (a + 1) (List.map (fun a => (wth a f t).length) (ens Q)).reverse).sum = (((ens Q).reverse.take (a + 1)).flatMap fun es => (wth es f t).reverse).length := by
        simp [List.length_flatMap, List.map_take, List.map_reverse]
      rw [e3, e]; exact hJm
    · rintro c' c W' hcN ⟨rfl, hJx', hszx, hKx⟩
      gi_wp2
      exact ⟨hKx, rfl, hJx', by omega⟩
  · rintro D' W' hD hK ⟨hJn, hsz, hYb, hBb⟩
    gi_wp2
    refine ⟨by simp, .inl ⟨_, _, rfl, run_takeDeferred hK, ?_⟩⟩
    have e : (((ens Q).reverse.take Q.length).flatMap fun es => (wth es f t).reverse) = E := by
      rw [hQe.out, List.take_of_length_le (by simp [ens])]
    rw [e] at hJn
    exact ⟨_, results_none rfl _ _ _, ⟨_, rfl⟩, by simp; omega, .inl (hJ _ _ _ hJn (Rec.put hK rfl (by omega) _))⟩
  · rintro D' c i W' hD hK hiN ⟨rfl, ⟨k, hk, hJx'⟩, hsz⟩
    gi_wp2
    refine ⟨by simp, .inl ⟨_, _, rfl, run_takeDeferred hK, ?_⟩⟩
    exact ⟨_, results_none rfl _ _ _, ⟨_, rfl⟩, by simp; omega, .inr ⟨k, hk, hJx (k + 1) _ _ hJx' (Rec.put hK rfl (by omega) _)⟩⟩
end Pg
end Go.Proofs.Ytjnjkgakdnjlmaa

namespace Go.Proofs.Ytjnjkgakdnjlmaa
namespace Pg
open Go.RowKit Go.Lib
attribute [local go_sem] Oper.semAt_some
set_option maxHeartbeats 1000000 in
set_option maxRecDepth 100000 in
theorem rising_mk {w : World} {pm pf pt : Option Addr} {nf cf nt ct : Nat} : Calls Try.prog 53 #[.pointer pm, .slice pf nf cf, .slice pt nt ct] w fun e w' => e = .returned (.func (.func 63) #[] #[.pointer (some ⟨w.heap.size, 0, none⟩), .pointer (some ⟨w.heap.size + 1, 0, none⟩), .pointer (some ⟨w.heap.size + 2, 0, none⟩)]) ∧ Blk w' w.heap.size [.pointer pm] 25 ∧ Blk w' (w.heap.size + 1) [.slice pf nf cf] 33 ∧ Blk w' (w.heap.size + 2) [.slice pt nt ct] 33 ∧ Below w.heap.size w w' := by
  have b1 := below_alloc w (.cells #[.pointer pm] 25)
  have b2 := below_alloc (w.alloc (.cells #[.pointer pm] 25)) (.cells #[.slice pf nf cf] 33)
  have b3 := below_alloc ((w.alloc (.cells #[.pointer pm] 25)).alloc (.cells #[.slice pf nf cf] 33)) (.cells #[.slice pt nt ct] 33)
  have c1 := ((blk_new w [.pointer pm] 25).keep b2).keep b3
  have c2 := (blk_new (w.alloc (.cells #[.pointer pm] 25)) [.slice pf nf cf] 33).keep b3
  have c3 := blk_new ((w.alloc (.cells #[.pointer pm] 25)).alloc (.cells #[.slice pf nf cf] 33)) [.slice pt nt ct] 33
  have s1 : (w.alloc (.cells #[.pointer pm] 25)).heap.size = w.heap.size + 1 := by simp
  have s2 : ((w.alloc (.cells #[.pointer pm] 25)).alloc (.cells #[.slice pf nf cf] 33)).heap.size = w.heap.size + 2 := by simp
  rw [s1] at c2
  rw [s2] at c3
  clear s1 s2
  go_enter Try.func53, Try.ntmps53
  go_wp2
  go_ret
  exact ⟨by simp, c1, c2, c3, joinB (joinB b1 b2) b3⟩
set_option maxHeartbeats 1000000 in
set_option maxRecDepth 100000 in
theorem falling_mk {w : World} {pm pf pt : Option Addr} {nf cf nt ct : Nat} : Calls Try.prog 54 #[.pointer pm, .slice pf nf cf, .slice pt nt ct] w fun e w' => e = .returned (.func (.func 66) #[] #[.pointer (some ⟨w.heap.size, 0, none⟩), .pointer (some ⟨w.heap.size + 1, 0, none⟩), .pointer (some ⟨w.heap.size + 2, 0, none⟩)]) ∧ Blk w' w.heap.size [.pointer pm] 25 ∧ Blk w' (w.heap.size + 1) [.slice pf nf cf] 33 ∧ Blk w' (w.heap.size + 2) [.slice pt nt ct] 33 ∧ Below w.heap.size w w' := by
  have b1 := below_alloc w (.cells #[.pointer pm] 25)
  have b2 := below_alloc (w.alloc (.cells #[.pointer pm] 25)) (.cells #[.slice pf nf cf] 33)
  have b3 := below_alloc ((w.alloc (.cells #[.pointer pm] 25)).alloc (.cells #[.slice pf nf cf] 33)) (.cells #[.slice pt nt ct] 33)
  have c1 := ((blk_new w [.pointer pm] 25).keep b2).keep b3
  have c2 := (blk_new (w.alloc (.cells #[.pointer pm] 25)) [.slice pf nf cf] 33).keep b3
  have c3 := blk_new ((w.alloc (.cells #[.pointer pm] 25)).alloc (.cells #[.slice pf nf cf] 33)) [.slice pt nt ct] 33
  have s1 : (w.alloc (.cells #[.pointer pm] 25)).heap.size = w.heap.size + 1 := by simp
  have s2 : ((w.alloc (.cells #[.pointer pm] 25)).alloc (.cells #[.slice pf nf cf] 33)).heap.size = w.heap.size + 2 := by simp
  rw [s1] at c2
  rw [s2] at c3
  clear s1 s2
  go_enter Try.func54, Try.ntmps54
  go_wp2
  go_ret
  exact ⟨by simp, c1, c2, c3, joinB (joinB b1 b2) b3⟩
set_option maxHeartbeats 1000000 in
set_option maxRecDepth 100000 in
theorem copies_mk {w : World} {k : Nat} {lb : Array Value} : Calls Try.prog 52 #[.func (.func k) #[] lb] w fun e w' => e = .returned (.func (.func 62) #[] #[.pointer (some ⟨w.heap.size, 0, none⟩)]) ∧ Blk w' w.heap.size [.func (.func k) #[] lb] 85 ∧ Below w.heap.size w w' := by
  go_enter Try.func52, Try.ntmps52
  go_wp2
  go_ret
  exact ⟨rfl, blk_new w _ _, below_alloc w _⟩
theorem wlk_mem {P : List (List En)} {f t : List Int} {e : En} (h : e ∈ wlk P f t) : ∃ es ∈ P, e ∈ es := by
  unfold wlk at h
  obtain ⟨es, h1, h2⟩ := List.mem_flatMap.1 h
  exact ⟨es, cut_mem h1, cut_mem h2⟩
/-- what holds of a map that is walked -/
structure Wm (W : World) (X F D : Nat → Prop) (g : Nat) (L : List Pg) : Prop where
  map : MapA W F D g L
  ord : Ord (ens L)
  few : ∀ es ∈ ens L, es.length ≤ 32
  big : L.length ≤ 100000000
  small : ∀ es ∈ ens L, ∀ e ∈ es, e.kl.length ≤ 1000000000 ∧ e.vl.length ≤ 1000000000
  xF : ∀ b, X b → ¬ F b
  xU : ∀ b, X b → ∀ cs, ¬ Blk W b cs 5
  xl : ∀ b, X b → b < W.heap.size
/-- an iterator over entries, made of a map's -/
theorem Wm.copies {Tp : TypeId → Prop} {W W1 : World} {X F D : Nat → Prop} {g gf bw N : Nat} {L : List Pg} {lb : Array Value} {E : List En} (K : Wm W X F D g L) (hB : Below W.heap.size W W1) (IT : Itr Tp gf lb N (ArE E) (fun V => Chg X W1 V)) (eg : ∀ args w, (callFunc gf args).run Try.prog w = .ok (.enter gf args) w) (hT : ¬ Tp 38) (hTe : ¬ Tp 65)
    (hw : Blk W1 bw [.func (.func gf) #[] lb] 85) (hbw : W.heap.size ≤ bw) (hE : ∀ e ∈ E, ∃ es ∈ ens L, e ∈ es) : Itr Tp 62 #[.pointer (some ⟨bw, 0, none⟩)] N (ArC E) (fun V => Chg X W1 V) := by
  refine copies_itr (D := D) IT eg hT hTe (fun V hV => (hw.chg hV (fun x => by have := K.xl _ x; omega)).cell (i := 0) rfl) (fun V hV e he => ?_) (fun e he => ?_)
  · obtain ⟨es, h1, h2⟩ := hE e he
    obtain ⟨p, hp, rfl⟩ := List.mem_map.1 h1
    have A := (K.map.keep hB).chg hV K.xF (fun b hb cs k => K.xU b hb cs (k.same (hB.block b (K.xl b hb)).symm))
    exact (A.pages p hp).1.ents e h2
  · obtain ⟨es, h1, h2⟩ := hE e he
    exact K.small es h1 e h2
theorem Wm.wk {W W1 : World} {X F D : Nat → Prop} {g : Nat} {L : List Pg} {bm bf bt : Nat} {fv tv : Value} {f t : List Int} (K : Wm W X F D g L) (hB : Below W.heap.size W W1) (hm : Blk W1 bm [.pointer (some ⟨g, 0, none⟩)] 25) (hf : Blk W1 bf [fv] 33) (ht : Blk W1 bt [tv] 33) (lm : W.heap.size ≤ bm) (lf : W.heap.size ≤ bf) (lt : W.heap.size ≤ bt) {Df Dt : Nat → Prop} (of : OB W1 Df fv f) (ot : OB W1 Dt tv t) : Wk W1 X F D g L bm bf bt fv tv f t :=
  ⟨K.map.keep hB, K.ord, K.few, K.big, K.xF, fun b hb cs k => K.xU b hb cs (k.same (hB.block b (K.xl b hb)).symm), ⟨hm, fun x => by have := K.xl _ x; omega⟩, ⟨hf, fun x => by have := K.xl _ x; omega⟩, ⟨ht, fun x => by have := K.xl _ x; omega⟩, ⟨_, of⟩, ⟨_, ot⟩⟩
set_option maxHeartbeats 2000000 in
set_option maxRecDepth 100000 in
theorem walk_any {Tp : TypeId → Prop} {W : World} {X F D : Nat → Prop} {g : Nat} {L : List Pg} {fv tv : Value} {f t : List Int} (K : Wm W X F D g L) (hf : By W fv f) (ht : By W tv t) (hfl : f.length ≤ 1000000000) (htl : t.length ≤ 1000000000) (hT : ¬ Tp 38) (hTe : ¬ Tp 65) :
    Calls Try.prog 39 #[.pointer (some ⟨g, 0, none⟩), fv, tv] W fun e W' => ∃ bw, e = .returned (.func (.func 62) #[] #[.pointer (some ⟨bw, 0, none⟩)]) ∧ Below W.heap.size W W' ∧ Itr Tp 62 #[.pointer (some ⟨bw, 0, none⟩)] (wlk (ens L) f t).length (ArC (wlk (ens L) f t)) (fun V => Chg X W' V) := by
  have t1 := clone_any hf hfl
  go_enter Try.func39, Try.ntmps39
  go_wp2_with (go_at_call 33; refine t1.mono ?_; rintro e w1 ⟨v1, rfl, O1, B1⟩; obtain ⟨a1, d1, rfl⟩ := O1.shape)
  have t2 := clone_any (ht.keep B1) htl
  go_wp2_with (first
    | (go_at_call 33; refine t2.mono ?_; rintro e w2 ⟨v2, rfl, O2, B2⟩; obtain ⟨a2, d2, rfl⟩ := O2.shape)
    | (go_at_call 53; refine rising_mk.mono ?_; rintro e w3 ⟨rfl, m3, f3, t3, B3⟩)
    | (go_at_call 52; refine copies_mk.mono ?_; rintro e w4 ⟨rfl, c4, B4⟩))
  go_ret
  have B12 := joinB B1 B2
  have B13 := joinB B12 B3
  have B14 := joinB B13 B4
  have s2 := B12.size
  have s3 := B13.size
  have B34 := joinB B3 B4
  have WK := K.wk B14 (m3.keep B4) (f3.keep B4) (t3.keep B4) (by omega) (by omega) (by omega) ((O1.keep B2).keep B34) (O2.keep B34)
  exact ⟨_, rfl, B14, K.copies B14 (rising_itr WK) (enters_of Try.func63 (by kernel_rfl) rfl) hT hTe c4 (by omega) (fun e he => wlk_mem he)⟩
set_option maxHeartbeats 2000000 in
set_option maxRecDepth 100000 in
theorem back_any {Tp : TypeId → Prop} {W : World} {X F D : Nat → Prop} {g : Nat} {L : List Pg} {fv tv : Value} {f t : List Int} (K : Wm W X F D g L) (hf : By W fv f) (ht : By W tv t) (hfl : f.length ≤ 1000000000) (htl : t.length ≤ 1000000000) (hT : ¬ Tp 38) (hTe : ¬ Tp 65) (hT1 : ¬ Tp 94) (hT2 : ¬ Tp 59) (hT3 : ¬ Tp 66) :
    Calls Try.prog 40 #[.pointer (some ⟨g, 0, none⟩), fv, tv] W fun e W' => ∃ bw, e = .returned (.func (.func 62) #[] #[.pointer (some ⟨bw, 0, none⟩)]) ∧ Below W.heap.size W W' ∧ Itr Tp 62 #[.pointer (some ⟨bw, 0, none⟩)] (wlk (ens L) f t).length (ArC (wlk (ens L) f t).reverse) (fun V => Chg X W' V) := by
  have t1 := clone_any hf hfl
  go_enter Try.func40, Try.ntmps40
  go_wp2_with (go_at_call 33; refine t1.mono ?_; rintro e w1 ⟨v1, rfl, O1, B1⟩; obtain ⟨a1, d1, rfl⟩ := O1.shape)
  have t2 := clone_any (ht.keep B1) htl
  go_wp2_with (first
    | (go_at_call 33; refine t2.mono ?_; rintro e w2 ⟨v2, rfl, O2, B2⟩; obtain ⟨a2, d2, rfl⟩ := O2.shape)
    | (go_at_call 54; refine falling_mk.mono ?_; rintro e w3 ⟨rfl, m3, f3, t3, B3⟩)
    | (go_at_call 52; refine copies_mk.mono ?_; rintro e w4 ⟨rfl, c4, B4⟩))
  go_ret
  have B12 := joinB B1 B2
  have B13 := joinB B12 B3
  have B14 := joinB B13 B4
  have s2 := B12.size
  have s3 := B13.size
  have B34 := joinB B3 B4
  have WK := K.wk B14 (m3.keep B4) (f3.keep B4) (t3.keep B4) (by omega) (by omega) (by omega) ((O1.keep B2).keep B34) (O2.keep B34)
  exact ⟨_, rfl, B14, K.copies B14 (falling_itr WK hT1 hT2 hT3) (enters_of Try.func66 (by kernel_rfl) rfl) hT hTe c4 (by omega) (fun e he => wlk_mem (List.mem_reverse.1 he))⟩
end Pg
end Go.Proofs.Ytjnjkgakdnjlmaa

namespace Go.Proofs.Ytjnjkgakdnjlmaa
namespace Pg
open Go.RowKit Go.Lib
attribute [local go_sem] Oper.semAt_some
/-- only lists of bytes in D's blocks are written over -/
structure Spd (D : Nat → Prop) (w w' : World) : Prop where
  chg : Chg (fun b => D b ∧ ∃ cs, Blk w b cs 5) w w'
  kind : ∀ b cs, Blk w b cs 5 → ∃ cs', Blk w' b cs' 5
theorem Spd.refl (D : Nat → Prop) (w : World) : Spd D w w := ⟨Chg.refl _ _, fun _ cs h => ⟨cs, h⟩⟩
theorem Spd.blk {D : Nat → Prop} {w w' : World} (h : Spd D w w') {b : Nat} {cs : List Value} {t : TypeId} (hb : Blk w b cs t) (ht : t ≠ 5) : Blk w' b cs t :=
  hb.chg h.chg (fun ⟨_, _, k⟩ => ht (hb.eq k).2)
theorem Spd.keeps {D : Nat → Prop} {w w' : World} (h : Spd D w w') {Tp : TypeId → Prop} (hT : Tp 5) (B : Nat) : KeepsT Tp B w w' :=
  ⟨h.chg.size, fun k o _ hk ho => (h.chg.same k (lt_of_block hk) (fun ⟨_, cs, hb⟩ => by
    have e := hb.blk
    rw [hk] at e
    cases e
    exact ho _ _ _ rfl hT)).trans hk⟩
theorem Spd.ob {D D' : Nat → Prop} {w w' : World} (h : Spd D w w') {v : Value} {l : List Int} (hv : OB w D' v l) (hD : ∀ b, D' b → ¬ D b) : OB w' D' v l := by
  refine ⟨hv.oct, hv.ex.imp id ?_⟩
  rintro ⟨b, c, e, hd, hR⟩
  exact ⟨b, c, e, hd, hR.chg h.chg fun ⟨x, _⟩ => hD b hd x⟩
theorem set_u8 {w : World} {b n c k : Nat} {l : List Int} (h : Rw w 5 1 b n c (l.map (Value.int .u8))) (hl : l.length = n) (hk : k < n) (x : Int) : ∃ l' : List Int, l'.length = n ∧ Rw (w.setCell ⟨b, k, none⟩ (.int .u8 x)) 5 1 b n c (l'.map (Value.int .u8)) :=
  ⟨l.set k x, by rw [List.length_set]; exact hl, by rw [List.map_set]; exact h.set k (by rw [List.length_map, hl]; exact hk) _⟩
set_option maxHeartbeats 2000000 in
set_option maxRecDepth 100000 in
theorem spoil_any {w : World} {D : Nat → Prop} {v : Value} {l : List Int} (h : OB w D v l) (hn : l.length ≤ 1000000000) :
    Calls Try.prog 19 #[v] w fun e w' => e = .returned (.tuple #[]) ∧ Spd D w w' := by
  rcases h.ex with ⟨rfl, rfl⟩ | ⟨b, c, rfl, hd, hR⟩
  · go_enter Try.func19, Try.ntmps19
    go_wp2_with fail
    go_loop [2] (fun ti => ti = .int .i64 0) (fun _ => 0)
    case atStart => rfl
    case round =>
      subst hrel
      go_wp2
      go_end0
      exact ⟨rfl, Spd.refl _ _⟩
  · obtain ⟨n, hnn⟩ : ∃ n, Hid (l.length = n) := ⟨_, rfl⟩
    rw [hnn.out] at hR hn ⊢
    obtain ⟨cs0, hB0⟩ := hR.kind
    have HR : Hid (∃ l' : List Int, l'.length = n ∧ Rw w 5 1 b n c (l'.map (Value.int .u8))) := ⟨l, hnn.out, hR⟩
    have HB0 : Hid _ := hB0
    have hle := hR.le
    have hn' : (n : Int) ≤ 1000000000 := by omega
    clear h hR hB0
    go_enter Try.func19, Try.ntmps19
    go_wp2_with fail
    go_loopw [2] (fun ti wr => ∃ k : Nat, k ≤ n ∧ ti = .int .i64 k ∧ (∃ l' : List Int, l'.length = n ∧ Rw wr 5 1 b n c (l'.map (Value.int .u8))) ∧ Chg (· = b) w wr) (fun ti _ => n - (intOf ti).toNat)
    case atStart => exact ⟨0, Nat.zero_le _, rfl, HR.out, Chg.refl _ _⟩
    case round =>
      obtain ⟨k, hk, rfl, ⟨l', hl', hR⟩, hB⟩ := hrel
      by_cases hlt : k < n
      · obtain ⟨x, hx⟩ : ∃ x, l'[k]? = some x := ⟨l'[k]'(by omega), List.getElem?_eq_getElem _⟩
        have c1 := hR.cell (i := k) (v := .int .u8 x) (by rw [List.getElem?_map, hx]; rfl)
        have f1 := hR.free k
        have HR2 := (show Hid _ from hR)
        have HB2 := (show Hid _ from hB)
        have HL2 := (show Hid _ from hl')
        have hlt' : (k : Int) < n := by omega
        clear hR hB hl' hx
        go_wp2
        refine ⟨⟨k + 1, by omega, by go_num, ?_, HB2.out.cell (.inl rfl) _⟩, by simp [intOf]; omega⟩
        exact set_u8 HR2.out HL2.out hlt _
      · obtain rfl : k = n := by omega
        have HB2 := (show Hid _ from hB)
        have HR2 := (show Hid _ from hR)
        clear hR hB
        go_wp2
        go_end0
        refine ⟨rfl, HB2.out.mono (fun b' _ e => ⟨e ▸ hd, cs0, e ▸ HB0.out⟩), fun b' cs' hb => ?_⟩
        by_cases e : b' = b
        · subst e; exact HR2.out.kind
        · exact ⟨cs', hb.chg HB2.out e⟩
end Pg
end Go.Proofs.Ytjnjkgakdnjlmaa

namespace Go.Proofs.Ytjnjkgakdnjlmaa
namespace Pg
open Go.RowKit Go.Lib
section
variable {F : Fence} {n : Nat} {P : Program} {ops : Array Oper} {Q : Exit → Act → World → Prop} {md : Region.Mode} {S : World → Prop} {z : Nat}
/-- whatever order is picked, and S holds behind every step but z -/
def inZ (F : Fence) (n : Nat) (P : Program) (md : Region.Mode) (ops : Array Oper) (Q : Exit → Act → World → Prop) (S : World → Prop) (z : Nat) : Nat → Array Bool → Act → World → Prop
  | 0, listed, a, w => Region.ready md ops listed = [] ∧ Q .normal a w
  | fuel + 1, listed, a, w =>
    (Region.ready md ops listed = [] → Q .normal a w) ∧
    ∀ i ∈ Region.ready md ops listed, wpOpIn F n P ops Q i (fun a' w' => (i = z ∨ S w') ∧ inZ F n P md ops Q S z fuel (listed.setIfInBounds i true) a' w') a w
theorem any_of_inZ : ∀ (fuel : Nat) (listed : Array Bool) (a : Act) (w : World), inZ F n P md ops Q S z fuel listed a w → wpAnyIn F n P md ops Q fuel listed a w
  | 0, _, _, _, h => h
  | fuel + 1, _, _, _, h => ⟨h.1, fun i hi => wpOpIn_mono (fun a' w' h' => any_of_inZ fuel _ a' w' h'.2) (h.2 i hi)⟩
/-- z waits for i -/
def waits (md : Region.Mode) (ops : Array Oper) (z i : Nat) : Bool := decide (z ≠ i) && (ops.getD z default).after.any fun e => Region.binds md e && decide (e.on = i)
theorem inZ_first {i : Nat} {oi : Oper} {v : Value} (hz : waits md ops z i = true) (hF : ∀ f, F.fn f) (ht : tame ops = true) (hi : ops[i]? = some oi)
    (hQ : ∀ c a w, Q (.panic c) (a.put oi.dst v) w → Q (.panic c) a w) :
    ∀ (fuel : Nat) (listed : Array Bool) (a : Act) (w : World),
      (∀ j oj, ops[j]? = some oj → j ≠ i → listed.getD j true = false → (∀ e ∈ oj.after, Region.binds md e = true → e.on ≠ i) → oi.apart ops oj = true) →
      i ∈ Region.ready md ops listed → YieldsIf P ops S oi v a → S w →
      inZ F n P md ops Q S z fuel (listed.setIfInBounds i true) (a.put oi.dst v) w → inZ F n P md ops Q S z (fuel + 1) listed a w := by
  intro fuel
  induction fuel with
  | zero =>
    intro listed a w _ hr hy hS H
    refine ⟨fun h => (by rw [h] at hr; cases hr), fun j hj => ?_⟩
    by_cases hji : j = i
    · subst hji; exact yields_in hF ht hi hy hS ⟨.inr hS, H⟩
    · have := ready_mono hj hji
      rw [H.1] at this
      cases this
  | succ fuel ih =>
    intro listed a w hfree hr hy hS H
    refine ⟨fun h => (by rw [h] at hr; cases hr), fun j hj => ?_⟩
    by_cases hji : j = i
    · subst hji; exact yields_in hF ht hi hy hS ⟨.inr hS, H⟩
    · have h1 := H.2 j (ready_mono hj hji)
      obtain ⟨hjun, oj, hoj, hall⟩ := mem_ready.1 hj
      have hnot : ∀ e ∈ oj.after, Region.binds md e = true → e.on ≠ i := fun e he hb heq => by
        have h1 := hall e he hb
        have h0 := (mem_ready.1 hr).1
        rw [heq] at h1
        rcases Nat.lt_or_ge i listed.size with h' | h'
        · simp [h'] at h0 h1; rw [h0] at h1; cases h1
        · simp [Array.getElem?_eq_none h'] at h1
      have hjz : j ≠ z := fun e => by
        subst e
        unfold waits at hz
        rw [Bool.and_eq_true, Array.any_eq_true] at hz
        obtain ⟨_, k, hk, h2⟩ := hz
        have eo : ops.getD j default = oj := by
          rw [Array.getD_eq_getD_getElem?, hoj]; rfl
        simp only [eo] at hk h2
        rw [Bool.and_eq_true, decide_eq_true_eq] at h2
        exact hnot _ (Array.getElem_mem hk) h2.1 h2.2
      have h2 := put_in hF ht hoj (hfree j oj hoj hji hjun hnot) (tame_at ht hi).2 hQ hy h1
      have hfree' : ∀ k ok, ops[k]? = some ok → k ≠ i → (listed.setIfInBounds j true).getD k true = false →
          (∀ e ∈ ok.after, Region.binds md e = true → e.on ≠ i) → oi.apart ops ok = true := fun k ok hk hki hun hno => by
        refine hfree k ok hk hki ?_ hno
        by_cases hjk : j = k
        · subst hjk; exact hjun
        · rw [getD_set_ne true hjk] at hun; exact hun
      refine wpOpIn_mono (fun a' w' h3 => ?_) h2
      have hS' := h3.2.1.resolve_left hjz
      refine ⟨.inr hS', ih (listed.setIfInBounds j true) a' w' hfree' (ready_mono hr (Ne.symm hji)) h3.1 hS' ?_⟩
      rw [Array.setIfInBounds_comm _ _ hji]
      exact h3.2.2
end
section
variable {ops : Array Oper} {Q : Exit → Act → World → Prop} {S : World → Prop} {z fuel : Nat} {listed : Array Bool} {a : Act} {w : World} {l n : Nat}
theorem iz_start {id : Nat} (hm : Try.prog.follows .mixedOrders = true) (h : inZ (Fence.wide.inRound l) n Try.prog .any ops Q S z ops.size (Array.replicate ops.size false) a w.drew) : (Code.region id ops true).wpIn (Fence.wide.inRound l) n Try.prog Q a w :=
  wpIn_region_any hm (any_of_inZ _ _ _ _ h)
theorem iz_take (i : Nat) (d : Option Tmp) (v : Value) (hz : waits .any ops z i = true) (ht : tame ops = true) (hc : rgChk ops listed a i d = true) (hy : ∀ w', S w' → (execOp a.eval (ops.getD i default)).run Try.prog w' = .ok (.value v) w')
    (hQ : ∀ c a w, Q (.panic c) (a.put d v) w → Q (.panic c) a w) (hS : S w)
    (h : inZ (Fence.wide.inRound l) n Try.prog .any ops Q S z fuel (listed.setIfInBounds i true) (a.put d v) w) : inZ (Fence.wide.inRound l) n Try.prog .any ops Q S z (fuel + 1) listed a w := by
  simp only [rgChk, Bool.and_eq_true, decide_eq_true_eq] at hc
  obtain ⟨⟨⟨⟨⟨_, h2⟩, h3⟩, h4⟩, h5⟩, h6⟩ := hc
  subst h6
  exact inZ_first hz (fun _ => trivial) ht (at_getD h4) hQ fuel listed a w (Region.free_spec (at_getD h4) h2) (by simpa using h3) (.inl ⟨h5, hy⟩) hS h
theorem iz_load (i : Nat) (d : Option Tmp) (v : Value) (T : TypeId) (k g o : Nat) (hz : waits .any ops z i = true) (ht : tame ops = true) (hc : rgChk ops listed a i d = true) (ho : (ops.getD i default).op = .load T (.tmp k)) (hp : a.eval (.tmp k) = .pointer (some ⟨g, o, none⟩))
    (hl : ∀ w', S w' → (loadVar T ⟨g, o, none⟩).run Try.prog w' = .ok v w')
    (hQ : ∀ c a w, Q (.panic c) (a.put d v) w → Q (.panic c) a w) (hS : S w)
    (h : inZ (Fence.wide.inRound l) n Try.prog .any ops Q S z fuel (listed.setIfInBounds i true) (a.put d v) w) : inZ (Fence.wide.inRound l) n Try.prog .any ops Q S z (fuel + 1) listed a w :=
  iz_take i d v hz ht hc (fun w' hS' => run_lp k ho hp (hl w' hS')) hQ hS h
theorem iz_call (i : Nat) (d : Option Tmp) (f : FuncId) (args : Array Value) {Qc : Ending → World → Prop} (ht : tame ops = true) (hc : rgLone ops listed a i d = true) (hrun : (execOp a.eval (ops.getD i default)).run Try.prog w = .ok (.enter f args) w)
    (hcall : Calls Try.prog f args w Qc) (hk : ∀ e w', Qc e w' → ∃ v, e = .returned v ∧ S w' ∧ inZ (Fence.wide.inRound l) n Try.prog .any ops Q S z fuel (listed.setIfInBounds i true) (a.put d v) w') :
    inZ (Fence.wide.inRound l) n Try.prog .any ops Q S z (fuel + 1) listed a w := by
  simp only [rgLone, Bool.and_eq_true, decide_eq_true_eq] at hc
  obtain ⟨⟨⟨h3, h4⟩, h5⟩, h6⟩ := hc
  subst h6
  refine ⟨fun h0 => absurd (h3 ▸ h0) (by simp), fun j hj => ?_⟩
  rw [h3] at hj
  obtain rfl : j = i := by simpa using hj
  unfold wpOpIn
  rw [at_getD h4]
  simp only [h5, if_true, Oper.wpIn]
  refine ⟨fun _ _ => trivial, ?_⟩
  rw [Oper.semAt_eq _ _ _ (tame_at ht (at_getD h4)).1, hrun]
  refine ⟨fun h => (by cases h), CallsIn.inRound l (callsIn_wide.2 (hcall.mono fun e w' he => ?_))⟩
  obtain ⟨v, rfl, hS', hw⟩ := hk e w' he
  exact ⟨.inr hS', hw⟩
theorem iz_val (i : Nat) (d : Option Tmp) (v : Value) (w1 : World) (ht : tame ops = true) (hc : rgLone ops listed a i d = true) (hrun : (execOp a.eval (ops.getD i default)).run Try.prog w = .ok (.value v) w1) (hS : S w1)
    (h : inZ (Fence.wide.inRound l) n Try.prog .any ops Q S z fuel (listed.setIfInBounds i true) (a.put d v) w1) :
    inZ (Fence.wide.inRound l) n Try.prog .any ops Q S z (fuel + 1) listed a w := by
  simp only [rgLone, Bool.and_eq_true, decide_eq_true_eq] at hc
  obtain ⟨⟨⟨h3, h4⟩, h5⟩, h6⟩ := hc
  subst h6
  refine ⟨fun h0 => absurd (h3 ▸ h0) (by simp), fun j hj => ?_⟩
  rw [h3] at hj
  obtain rfl : j = i := by simpa using hj
  unfold wpOpIn
  rw [at_getD h4]
  simp only [h5, if_true, Oper.wpIn]
  refine ⟨fun _ _ => trivial, ?_⟩
  rw [Oper.semAt_eq _ _ _ (tame_at ht (at_getD h4)).1, hrun]
  exact ⟨.inr hS, h⟩
theorem iz_last (w1 : World) (ht : tame ops = true) (hc : rgLone ops listed a z none = true) (hrun : (execOp a.eval (ops.getD z default)).run Try.prog w = .ok .skip w1)
    (h : inZ (Fence.wide.inRound l) n Try.prog .any ops Q S z fuel (listed.setIfInBounds z true) a w1) :
    inZ (Fence.wide.inRound l) n Try.prog .any ops Q S z (fuel + 1) listed a w := by
  simp only [rgLone, Bool.and_eq_true, decide_eq_true_eq] at hc
  obtain ⟨⟨⟨h3, h4⟩, h5⟩, h6⟩ := hc
  refine ⟨fun h0 => absurd (h3 ▸ h0) (by simp), fun j hj => ?_⟩
  rw [h3] at hj
  obtain rfl : j = z := by simpa using hj
  unfold wpOpIn
  rw [at_getD h4]
  simp only [h5, if_true, Oper.wpIn]
  refine ⟨fun _ _ => trivial, ?_⟩
  rw [Oper.semAt_eq _ _ _ (tame_at ht (at_getD h4)).1, hrun]
  refine ⟨by simp, ?_⟩
  rw [h6]
  exact h
theorem iz_done (hr : Region.ready .any ops listed = []) (h : Q .normal a w) : inZ (Fence.wide.inRound l) n Try.prog .any ops Q S z fuel listed a w := by
  cases fuel with
  | zero => exact ⟨hr, h⟩
  | succ k => exact ⟨fun _ => h, by rw [hr]; simp⟩
end
end Pg
end Go.Proofs.Ytjnjkgakdnjlmaa

namespace Go.Proofs.Ytjnjkgakdnjlmaa
namespace Pg
open Go.RowKit Go.Lib
attribute [local go_sem] Oper.semAt_some
theorem KQ : Kd Try.prog 44 52 2 48 (.agg #[.slice none 0 0, .slice none 0 0]) := ⟨by kernel_rfl, by kernel_rfl, rfl, by simp [Value.cells, Value.oneCell'], by decide⟩
/-- a list of pairs, es, in blocks from B on -/
structure PrA (w : World) (B : Nat) (v : Value) (es : List En) : Prop where
  ex : (v = .slice none 0 0 ∧ es = []) ∨ ∃ b c, v = .slice (some ⟨b, 0, none⟩) es.length c ∧ B ≤ b ∧ Rw w 52 2 b es.length c (flat es)
  ents : ∀ e ∈ es, EnA w (B ≤ ·) e
theorem PrA.shape {w : World} {B : Nat} {v : Value} {es : List En} (h : PrA w B v es) : ∃ ao c, v = .slice ao es.length c := by
  rcases h.ex with ⟨rfl, rfl⟩ | ⟨b, c, rfl, _⟩
  · exact ⟨none, 0, rfl⟩
  · exact ⟨_, c, rfl⟩
theorem PrA.keep {w w' : World} {B : Nat} {v : Value} {es : List En} (h : PrA w B v es) (hb : Below w.heap.size w w') : PrA w' B v es :=
  ⟨h.ex.imp id (fun ⟨b, c, e, hl, hR⟩ => ⟨b, c, e, hl, hR.keep hb⟩), fun e he => (h.ents e he).keep hb⟩
/-- what writes over no pair and over bytes of others only -/
theorem PrA.spd {w w' : World} {B : Nat} {D : Nat → Prop} {v : Value} {es : List En} (h : PrA w B v es) (hT : ∀ e ∈ es, EnA w (fun b => B ≤ b ∧ ¬ D b) e) (hs : Spd D w w') : PrA w' B v es := by
  refine ⟨h.ex.imp id ?_, fun e he => ?_⟩
  · rintro ⟨b, c, e, hl, hR⟩
    refine ⟨b, c, e, hl, hR.chg hs.chg fun ⟨_, cs, k⟩ => ?_⟩
    obtain ⟨ds, k'⟩ := hR.kind
    have := (k.eq k').2
    revert this
    decide
  · have := hT e he
    exact ⟨(hs.ob this.k (fun b hb => hb.2)).mono (fun _ _ h => h.1), (hs.ob this.v (fun b hb => hb.2)).mono (fun _ _ h => h.1)⟩
/-- only lists of pairs in blocks from B on are written over -/
structure Spr (B : Nat) (w w' : World) : Prop where
  chg : Chg (fun b => B ≤ b ∧ ∃ cs, Blk w b cs 52) w w'
theorem Spr.keeps {B B' : Nat} {w w' : World} (h : Spr B w w') {Tp : TypeId → Prop} (hT : Tp 52) : KeepsT Tp B' w w' :=
  ⟨h.chg.size, fun k o _ hk ho => (h.chg.same k (lt_of_block hk) (fun ⟨_, cs, hb⟩ => by
    have e := hb.blk
    rw [hk] at e
    cases e
    exact ho _ _ _ rfl hT)).trans hk⟩
theorem Spr.ob {B : Nat} {w w' : World} (h : Spr B w w') {D : Nat → Prop} {v : Value} {l : List Int} (hv : OB w D v l) : OB w' D v l :=
  hv.chg h.chg (fun b ⟨_, cs, k⟩ ds k' => by
    have := (k.eq k').2
    revert this
    decide)
theorem Spr.blk {B : Nat} {w w' : World} (h : Spr B w w') {b : Nat} {cs : List Value} {t : TypeId} (hb : Blk w b cs t) (ht : t ≠ 52) : Blk w' b cs t :=
  hb.chg h.chg (fun ⟨_, _, k⟩ => ht (hb.eq k).2)
theorem Spr.of {B : Nat} {w w' : World} (h : Below w.heap.size w w') : Spr B w w' := ⟨Chg.of h⟩
theorem app_pair {w : World} {B : Nat} {ov : Value} {es : List En} {e : En} {a : Addr} (ty : TypeId) (h : PrA w B ov es) (hB : B ≤ w.heap.size) (he : EnA w (B ≤ ·) e) (hl : es.length ≤ 2000000000) (c0 : w.cell? (a.add 0) = some e.kv) (c1 : w.cell? (a.add 1) = some e.vv) :
    ∃ ov' w', (Builtin.append_ #[44, 44] ty #[ov, .slice (some a) 1 1]).run Try.prog w = .ok ov' w' ∧ PrA w' B ov' (es ++ [e]) ∧ Spr B w w' := by
  have hnews : ∀ j u, [e.kv, e.vv][j]? = some u → w.cell? (a.add j) = some u := fun j u hj => by
    match j with
    | 0 => simp at hj; rw [← hj]; exact c0
    | 1 => simp at hj; rw [← hj]; exact c1
    | k + 2 => simp at hj
  rcases h.ex with ⟨rfl, rfl⟩ | ⟨b, c, rfl, hb, hR⟩
  · obtain ⟨c', w', hr, hR, hw⟩ := app_nil (w := w) KQ ty a 1 1 [e.kv, e.vv] rfl hnews (by omega) (by omega) (by omega)
    refine ⟨_, w', hr, ⟨.inr ⟨_, c', rfl, hB, hR⟩, fun x hx => ?_⟩, Spr.of hw⟩
    simp at hx
    subst hx
    exact he.keep hw
  · obtain ⟨ak, nk, hk1⟩ := he.k.shape
    obtain ⟨av, nv, hv1⟩ := he.v.shape
    obtain ⟨b', c', w', hr, hb', hR', hw⟩ := app_row (w := w) KQ ty hR a 1 1 [e.kv, e.vv] rfl hnews (by rw [hk1, hv1]; simp [Value.oneCell']) (by omega) (by omega)
    obtain ⟨cs0, k0⟩ := hR.kind
    have hS : Spr B w w' := ⟨hw.mono (fun x _ ex => ⟨ex ▸ hb, cs0, ex ▸ k0⟩)⟩
    refine ⟨_, w', hr, ⟨.inr ⟨b', c', by simp, by rcases hb' with rfl | rfl <;> assumption, by rw [flat_append, List.length_append]; exact hR'⟩, fun x hx => ?_⟩, hS⟩
    have hx' : EnA w (B ≤ ·) x := by
      rcases List.mem_append.1 hx with hx | hx
      · exact h.ents x hx
      · simp at hx; rw [hx]; exact he
    exact ⟨hS.ob hx'.k, hS.ob hx'.v⟩
theorem ld_q {w : World} {g : Nat} {v : Value} (c : Blk w g [v] 44) : (loadVar 44 ⟨g, 0, none⟩).run Try.prog w = .ok v w := by
  have c := c.cell (i := 0) rfl
  go_simp
theorem run_bq {a : Act} {w : World} {o : Oper} {k : Nat} {kv vv : Value} (ho : o.op = .buildSlice 44 1 #[(0, .tmp k)]) (hk : a.eval (.tmp k) = .agg #[kv, vv]) : (execOp a.eval o).run Try.prog w = .ok (.value (.slice (some ⟨w.heap.size, 0, none⟩) 1 1)) (w.alloc (.cells #[kv, vv] 52)) := by
  have hk' : a.tmps[k]?.getD undef = .agg #[kv, vv] := by simpa [Act.eval] using hk
  simp only [execOp, ho]
  go_simp
theorem run_sq {a : Act} {w : World} {o : Oper} (k q : Nat) {g n c : Nat} {u : Value} {ao : Option Addr} (ho : o.op = .store 44 (.tmp k) (.tmp q)) (hp : a.eval (.tmp k) = .pointer (some ⟨g, 0, none⟩)) (hq : a.eval (.tmp q) = .slice ao n c) (hb : Blk w g [u] 44) :
    (execOp a.eval o).run Try.prog w = .ok .skip (w.setCell ⟨g, 0, none⟩ (.slice ao n c)) := by
  have hc := hb.cell (i := 0) rfl
  have hf := hb.free 0
  simp only [execOp, ho, hp, hq]
  go_simp
theorem run_ap {a : Act} {w w' : World} {o : Oper} {x y : Nat} {T ty : TypeId} {u v r : Value} (hty : o.type = ty) (ho : o.op = .call { callee := .builtin .append, args := #[.tmp x, .tmp y], argTypes := #[T, T] }) (hx : a.eval (.tmp x) = u) (hy : a.eval (.tmp y) = v) (hr : (Builtin.append_ #[T, T] ty #[u, v]).run Try.prog w = .ok r w') :
    (execOp a.eval o).run Try.prog w = .ok (.value r) w' := by
  subst hty
  unfold execOp
  simp only [ho, resolve, invoke, builtin, Sem.run_bind, Sem.run_pure, Result.andThen_ok, List.map_toArray, List.map_cons, List.map_nil, hx, hy, hr]
end Pg
end Go.Proofs.Ytjnjkgakdnjlmaa

namespace Go.Proofs.Ytjnjkgakdnjlmaa
namespace Pg
open Go.RowKit Go.Lib
attribute [local go_sem] Oper.semAt_some
theorem Chg.rcd {X : Nat → Prop} {W V V' : World} (h : Chg X W V) (hr : Rec W.heap.size V V') : Chg X W V' := by
  refine ⟨hr.os.trans h.os, hr.tape.trans h.tape, hr.output.trans h.output, Nat.le_trans h.size hr.size, fun b hb hx => ?_⟩
  have e := h.same b hb hx
  rw [← e]
  have hb' : b < V.heap.size := Nat.lt_of_lt_of_le hb h.size
  rw [Array.getElem?_eq_getElem hb'] at e ⊢
  exact hr.same b _ (Array.getElem?_eq_getElem hb') (.inl hb)
theorem PrA.cel {w w' : World} {B : Nat} {v : Value} {es : List En} (h : PrA w B v es) (hc : Cel w w') : PrA w' B v es := by
  refine ⟨h.ex.imp id ?_, fun e he => ⟨(h.ents e he).k.cel hc, (h.ents e he).v.cel hc⟩⟩
  rintro ⟨b, c, e, hl, hR⟩
  obtain ⟨cs, k⟩ := hR.kind
  exact ⟨b, c, e, hl, hR.same ((hc.same b _ k.blk rfl).trans k.blk.symm)⟩
/-- an entry's bytes -/
def En.kl2 (e : En) : List Int × List Int := (e.kl, e.vl)
/-- while a walk is gone through: so many pairs, and nothing but their variable is changed -/
structure Gone (W V : World) (bo : Nat) (E : List En) (i : Nat) : Prop where
  chg : Chg (· = bo) W V
  out : ∃ ov es, Blk V bo [ov] 44 ∧ PrA V W.heap.size ov es ∧ es.map En.kl2 = (E.take i).map En.kl2
theorem Gone.rcd {W V V' : World} {bo : Nat} {E : List En} {i : Nat} (h : Gone W V bo E i) (hr : Rec W.heap.size V V') : Gone W V' bo E i := by
  obtain ⟨ov, es, h1, h2, h3⟩ := h.out
  exact ⟨h.chg.rcd hr, ov, es, rec_cel h1 hr, h2.cel hr.cel, h3⟩
theorem PrA.low {w : World} {B B' : Nat} {v : Value} {es : List En} (h : PrA w B v es) (hB : B' ≤ B) : PrA w B' v es :=
  ⟨h.ex.imp id (fun ⟨b, c, e, hl, hR⟩ => ⟨b, c, e, by omega, hR⟩), fun e he => (h.ents e he).mono (fun b _ hb => by omega)⟩
theorem gone_below {W Wa w1 W' : World} {bo : Nat} (h1 : Below W.heap.size W Wa) (h2 : Below Wa.heap.size Wa w1) (h3 : Chg (· = bo) w1 W') (hb : W.heap.size ≤ bo) : Below W.heap.size W W' := by
  have h12 := joinB h1 h2
  exact h12.trans (h3.below (fun b e => by omega) h12.size)
theorem Wm.keep {W W' : World} {X F D : Nat → Prop} {g : Nat} {L : List Pg} (K : Wm W X F D g L) (hB : Below W.heap.size W W') : Wm W' X F D g L :=
  ⟨K.map.keep hB, K.ord, K.few, K.big, K.small, K.xF, fun b hb cs k => K.xU b hb cs (k.same (hB.block b (K.xl b hb)).symm), fun b hb => Nat.lt_of_lt_of_le (K.xl b hb) hB.size⟩
def TpW (t : TypeId) : Prop := t = 5 ∨ t = 52
set_option maxHeartbeats 2000000 in
set_option maxRecDepth 100000 in
theorem walked_no {W : World} {F D : Nat → Prop} {g : Nat} {L : List Pg} {fv tv : Value} {f t : List Int} {back : Bool} (K : Wm W (fun _ => False) F D g L) (hf : By W fv f) (ht : By W tv t) (hfl : f.length ≤ 1000000000) (htl : t.length ≤ 1000000000) :
    Calls Try.prog 21 #[.pointer (some ⟨g, 0, none⟩), fv, tv, .bool back, .int .i64 0] W fun e W' => e = .returned (.slice none 0 0) ∧ Below W.heap.size W W' := by
  have b1 := below_alloc W (.cells #[.int .i64 0] 3)
  have b2 := below_alloc (W.alloc (.cells #[.int .i64 0] 3)) (.cells #[.slice none 0 0] 44)
  have c1 := (blk_new W [.int .i64 0] 3).keep b2
  have b12 := joinB b1 b2
  obtain ⟨Wa, hWa⟩ : ∃ Wa, Hid ((W.alloc (.cells #[.int .i64 0] 3)).alloc (.cells #[.slice none 0 0] 44) = Wa) := ⟨_, rfl⟩
  rw [hWa.out] at c1 b12
  have K2 := K.keep b12
  have tW := walk_any (Tp := TpW) K2 (hf.keep b12) (ht.keep b12) hfl htl (by unfold TpW; decide) (by unfold TpW; decide)
  obtain ⟨fa, fc, rfl, -⟩ := id hf.ex
  obtain ⟨ta, tc, rfl, -⟩ := id ht.ex
  clear b1 b2
  cases back
  · go_enter Try.func21, Try.ntmps21
    go_wp2_with (go_at_call 39; rw [hWa.out]; refine tW.mono ?_; rintro e' w0 ⟨bw0, rfl, hB0, _⟩; have cn := (c1.keep hB0).cell (i := 0) rfl)
    go_ret
    exact ⟨rfl, joinB b12 hB0⟩
  · go_enter Try.func21, Try.ntmps21
    go_wp2_with (go_at_call 39; rw [hWa.out]; refine tW.mono ?_; rintro e' w0 ⟨bw0, rfl, hB0, _⟩)
    have tB := back_any (Tp := TpW) (K2.keep hB0) ((hf.keep b12).keep hB0) ((ht.keep b12).keep hB0) hfl htl (by unfold TpW; decide) (by unfold TpW; decide) (by unfold TpW; decide) (by unfold TpW; decide) (by unfold TpW; decide)
    go_wp2_with (go_at_call 40; refine tB.mono ?_; rintro e' w1 ⟨bw, rfl, hB1, _⟩; have cn := ((c1.keep hB0).keep hB1).cell (i := 0) rfl)
    go_ret
    exact ⟨rfl, joinB (joinB b12 hB0) hB1⟩
set_option maxHeartbeats 8000000 in
set_option maxRecDepth 100000 in
theorem walked_up {W : World} {F D : Nat → Prop} {g n : Nat} {L : List Pg} {fv tv : Value} {f t : List Int} (K : Wm W (fun _ => False) F D g L) (hf : By W fv f) (ht : By W tv t) (hfl : f.length ≤ 1000000000) (htl : t.length ≤ 1000000000) (hn0 : 0 < n) (hn : n ≤ 1073741824) :
    Calls Try.prog 21 #[.pointer (some ⟨g, 0, none⟩), fv, tv, .bool false, .int .i64 n] W fun e W' => ∃ v es, e = .returned v ∧ PrA W' W.heap.size v es ∧ es.map En.kl2 = ((wlk (ens L) f t).take n).map En.kl2 ∧ Below W.heap.size W W' := by
  have b1 := below_alloc W (.cells #[.int .i64 n] 3)
  have b2 := below_alloc (W.alloc (.cells #[.int .i64 n] 3)) (.cells #[.slice none 0 0] 44)
  have c1 := (blk_new W [.int .i64 n] 3).keep b2
  have c2 := blk_new (W.alloc (.cells #[.int .i64 n] 3)) [.slice none 0 0] 44
  have s1 : (W.alloc (.cells #[.int .i64 n] 3)).heap.size = W.heap.size + 1 := by simp
  have s2 : ((W.alloc (.cells #[.int .i64 n] 3)).alloc (.cells #[.slice none 0 0] 44)).heap.size = W.heap.size + 2 := by simp
  rw [s1] at c2
  have b12 := joinB b1 b2
  obtain ⟨Wa, hWa⟩ : ∃ Wa, Hid ((W.alloc (.cells #[.int .i64 n] 3)).alloc (.cells #[.slice none 0 0] 44) = Wa) := ⟨_, rfl⟩
  rw [hWa.out] at c1 c2 s2 b12
  have K2 : Wm Wa (· = W.heap.size + 1) F D g L := ⟨K.map.keep b12, K.ord, K.few, K.big, K.small, fun b hb hF => by have := K.map.lt hF; omega, fun b hb cs k => by
    subst hb
    have := (k.eq c2).2
    revert this
    decide, fun b hb => by omega⟩
  have tW := walk_any (Tp := TpW) K2 (hf.keep b12) (ht.keep b12) hfl htl (by unfold TpW; decide) (by unfold TpW; decide)
  have hz : ¬ ((n : Int) = 0) := by omega
  obtain ⟨E, hE⟩ : ∃ E, Hid (wlk (ens L) f t = E) := ⟨_, rfl⟩
  rw [hE.out] at tW ⊢
  have hbig : Hid (∀ e ∈ E, e.kl.length ≤ 1000000000 ∧ e.vl.length ≤ 1000000000) := fun e he => by
    rw [← hE.out] at he
    obtain ⟨es, h1, h2⟩ := wlk_mem he
    exact K.small es h1 e h2
  obtain ⟨fa, fc, rfl, -⟩ := hf.ex
  obtain ⟨ta, tc, rfl, -⟩ := ht.ex
  clear b1 b2 s1 hf ht
  refine (callsIn_wide (n := 0)).1 ?_
  refine callsIn_of_wp_marks Try.func21 rfl trivial ?_ rfl
  simp only [Try.ntmps21, List.size_toArray, List.length_cons, List.length_nil, Nat.reduceAdd, Nat.reduceSub, Array.replicate_succ, Array.replicate_zero, List.push_toArray, List.append_toArray, List.nil_append, List.cons_append]
  gi_wp2_with (refine ⟨trivial, rfl, ?_⟩; gi_at_call 39; rw [hWa.out]; refine (callsIn_wide.2 tW).mono ?_; rintro e' w1 ⟨bw, rfl, hB1, IT⟩; have cn := (c1.keep hB1).cell (i := 0) rfl)
  have cb := c2.keep hB1
  clear tW cn
  have q1 := hB1.size
  refine rf_outer IT (by rfl) (enters_of Try.func62 (by kernel_rfl) rfl) (fun i args n V V' h hc => h.cel hc) (fun i args n V h => by obtain ⟨e, kv, vv, s, _, rfl, _⟩ := h; rfl)
    (fun i V => i < n ∧ Gone w1 V (W.heap.size + 1) E i)
    (fun c i V => c = .exit 0 ∧ i = n ∧ Gone w1 V (W.heap.size + 1) E i)
    (fun i A B hx hr => ⟨hx.1, hx.2.rcd hr⟩)
    (fun c i A B hx hr => ⟨hx.1, hx.2.1, hx.2.2.rcd hr⟩)
    (fun i V hv => hv.2.chg) ⟨hn0, Chg.refl _ _, _, [], cb, ⟨.inl ⟨rfl, rfl⟩, fun e he => by cases he⟩, rfl⟩ ?_ ?_ ?_
  · rintro l2 i args V Wv hl hlV hrec hiN ⟨hin, hG⟩ hb ⟨e0, kv, vv, s0, he0, rfl, hk0, hv0, _⟩
    obtain ⟨hkl, hvl⟩ := hbig.out e0 (List.mem_of_getElem? he0)
    obtain ⟨ak, nk, hk1⟩ := hk0.shape
    obtain ⟨av, nv, hv1⟩ := hv0.shape
    subst hk1 hv1
    simp
    gi_wp2
    refine ⟨Below.refl _ _, ?_⟩
    intro V2 W2 hin2 hG2 hb2 hAr2 hoth hsz3 hV2 r hrec2
    obtain ⟨e1, kv1, vv1, t1, he1, harr, hk2, hv2, ht1⟩ := hAr2
    obtain rfl : e1 = e0 := by rw [he0] at he1; cases he1; rfl
    simp at harr
    obtain ⟨rfl, rfl⟩ := harr
    obtain ⟨ov, es, g1, g2, g3⟩ := hG2.out
    have hlen : es.length = i := by have := congrArg List.length g3; simp at this; omega
    have hbD := joinB hb2 (belowD W2)
    have S0 := g1.keep hbD
    have P0 := g2.keep hbD
    have hkD := hk2.lt'.keep (belowD W2)
    have hvD := hv2.lt'.keep (belowD W2)
    obtain ⟨ao0, cc0, rfl⟩ := g2.shape
    clear hG hk0 hv0 hb hoth
    gi_wp2
    refine iz_start (z := 8) (S := fun w' => Blk w' (W.heap.size + 1) [.slice ao0 es.length cc0] 44) (by kernel_rfl) ?_
    refine iz_load 0 (some 29) (.slice ao0 es.length cc0) 44 11 (W.heap.size + 1) 0 (by kernel_rfl) (by kernel_rfl) (by kernel_rfl) (by kernel_rfl) (by kernel_rfl) (fun w' h => ld_q h) (fun _ _ _ h => h) S0 ?_
    refine iz_take 1 (some 30) (.slice ak e1.kl.length nk) (by kernel_rfl) (by kernel_rfl) (by kernel_rfl) (fun _ _ => by kernel_rfl) (fun _ _ _ h => h) S0 ?_
    refine iz_take 3 (some 32) (.slice av e1.vl.length nv) (by kernel_rfl) (by kernel_rfl) (by kernel_rfl) (fun _ _ => by kernel_rfl) (fun _ _ _ h => h) S0 ?_
    refine iz_call 2 (some 31) 11 #[.slice ak e1.kl.length nk] (by kernel_rfl) (by kernel_rfl) (by kernel_rfl) (copyBytes_any hkD.by hkl) ?_
    rintro e' w3 ⟨nkv, rfl, hO3, hB3⟩
    refine ⟨_, rfl, S0.keep hB3, ?_⟩
    refine iz_call 4 (some 33) 11 #[.slice av e1.vl.length nv] (by kernel_rfl) (by kernel_rfl) (by kernel_rfl) (copyBytes_any (hvD.keep hB3).by hvl) ?_
    rintro e' w4 ⟨nvv, rfl, hO4, hB4⟩
    have hB34 := joinB hB3 hB4
    have S4 := S0.keep hB34
    refine ⟨_, rfl, S4, ?_⟩
    obtain ⟨bk, ck, hk3⟩ := hO3.shape
    obtain ⟨bv, cv, hv3⟩ := hO4.shape
    subst hk3 hv3
    refine iz_take 5 (some 34) (.agg #[.slice bk e1.kl.length ck, .slice bv e1.vl.length cv]) (by kernel_rfl) (by kernel_rfl) (by kernel_rfl) (fun _ _ => by kernel_rfl) (fun _ _ _ h => h) S4 ?_
    have hBa := below_alloc w4 (.cells #[.slice bk e1.kl.length ck, .slice bv e1.vl.length cv] 52)
    have N4 := blk_new w4 [.slice bk e1.kl.length ck, .slice bv e1.vl.length cv] 52
    refine iz_val 6 (some 35) (.slice (some ⟨w4.heap.size, 0, none⟩) 1 1) (w4.alloc (.cells #[.slice bk e1.kl.length ck, .slice bv e1.vl.length cv] 52)) (by kernel_rfl) (by kernel_rfl) (run_bq (k := 34) (by kernel_rfl) (by kernel_rfl)) (S4.keep hBa) ?_
    obtain ⟨w4a, hw4a⟩ : ∃ w4a, Hid (w4.alloc (.cells #[.slice bk e1.kl.length ck, .slice bv e1.vl.length cv] 52) = w4a) := ⟨_, rfl⟩
    simp only [hw4a.out] at hBa N4 ⊢
    have hBD := joinB hB34 hBa
    have z1 := hG2.chg.size
    have z2 := hb2.size
    have z3 := hB3.size
    have z4 := hB4.size
    have z5 := hBa.size
    have d0 : W2.drew.heap.size = W2.heap.size := rfl
    have hE4 : EnA w4a (fun b => W2.heap.size ≤ b) ⟨.slice bk e1.kl.length ck, e1.kl, .slice bv e1.vl.length cv, e1.vl⟩ := ⟨(hO3.keep hB4).keep hBa, (hO4.keep hBa).mono (fun b _ hb => by omega)⟩
    obtain ⟨ov5, w5, hr5, P5, hS5⟩ := app_pair (e := ⟨.slice bk e1.kl.length ck, e1.kl, .slice bv e1.vl.length cv, e1.vl⟩) (a := ⟨w4.heap.size, 0, none⟩) 44 (P0.keep hBD) (by omega) (hE4.mono (fun b _ hb => by omega)) (by omega) (N4.cell (i := 0) rfl) (N4.cell (i := 1) rfl)
    have hT5 : ∀ e ∈ es ++ [⟨.slice bk e1.kl.length ck, e1.kl, .slice bv e1.vl.length cv, e1.vl⟩], EnA w5 (fun b => w1.heap.size ≤ b ∧ ¬ (V2.heap.size ≤ b ∧ b < W2.heap.size)) e := fun e he => by
      have h4 : EnA w4a (fun b => w1.heap.size ≤ b ∧ ¬ (V2.heap.size ≤ b ∧ b < W2.heap.size)) e := by
        rcases List.mem_append.1 he with h | h
        · have hx := g2.ents e h
          have hx2 : EnA V2 (fun b => w1.heap.size ≤ b ∧ ¬ (V2.heap.size ≤ b ∧ b < W2.heap.size)) e := hx.mono (fun b hb h => ⟨h, by omega⟩)
          exact (hx2.keep hbD).keep hBD
        · simp at h
          rw [h]
          exact hE4.mono (fun b _ hb => by omega)
      exact ⟨hS5.ob h4.k, hS5.ob h4.v⟩
    obtain ⟨es2, hes2⟩ : ∃ es2, Hid (es ++ [(⟨.slice bk e1.kl.length ck, e1.kl, .slice bv e1.vl.length cv, e1.vl⟩ : En)] = es2) := ⟨_, rfl⟩
    have hes3 : es2.length = i + 1 := by rw [← hes2.out, List.length_append, hlen]; rfl
    have hes4 : Hid (es2.map En.kl2 = (E.take (i + 1)).map En.kl2) := by
      show _ = _
      rw [← hes2.out, List.map_append, g3, List.take_add_one, he0, List.map_append]
      rfl
    simp only [hes2.out] at P5 hT5
    obtain ⟨ao5, cc5, rfl⟩ := P5.shape
    have S5 := hS5.blk (S4.keep hBa) (by decide)
    refine iz_val 7 (some 36) (.slice ao5 es2.length cc5) w5 (by kernel_rfl) (by kernel_rfl) (run_ap (x := 29) (y := 35) (T := 44) (ty := 44) (by kernel_rfl) (by kernel_rfl) (by kernel_rfl) (by kernel_rfl) hr5) S5 ?_
    refine iz_last (w5.setCell ⟨W.heap.size + 1, 0, none⟩ (.slice ao5 es2.length cc5)) (by kernel_rfl) (by kernel_rfl) (run_sq 11 36 (by kernel_rfl) (by kernel_rfl) (by kernel_rfl) S5) ?_
    refine iz_done (by kernel_rfl) ?_
    simp only [Act.put, List.setIfInBounds_toArray, List.set_cons_zero, List.set_cons_succ]
    have hC6 : Chg (· = W.heap.size + 1) w5 (w5.setCell ⟨W.heap.size + 1, 0, none⟩ (.slice ao5 es2.length cc5)) := (Chg.refl (fun x => x = W.heap.size + 1) w5).cell (.inl (by rfl)) _
    have S6 := S5.setCell (i := 0) (.slice ao5 es2.length cc5)
    obtain ⟨w6, hw6⟩ : ∃ w6, Hid (w5.setCell ⟨W.heap.size + 1, 0, none⟩ (.slice ao5 es2.length cc5) = w6) := ⟨_, rfl⟩
    simp only [hw6.out] at hC6 S6 ⊢
    have hboU : ∀ b, b = W.heap.size + 1 → ∀ cs, ¬ Blk w5 b cs 5 := fun b hb cs k => by
      subst hb
      have := (k.eq S5).2
      revert this
      decide
    have hT6 : ∀ e ∈ es2, EnA w6 (fun b => w1.heap.size ≤ b ∧ ¬ (V2.heap.size ≤ b ∧ b < W2.heap.size)) e := fun e he => ⟨(hT5 e he).k.chg hC6 hboU, (hT5 e he).v.chg hC6 hboU⟩
    have P6 : PrA w6 w1.heap.size (.slice ao5 es2.length cc5) es2 := ⟨P5.ex.imp id (fun ⟨b, c, e, hl, hR⟩ => ⟨b, c, e, hl, hR.chg hC6 (by omega)⟩), fun e he => ⟨(hT6 e he).k.mono (fun _ _ h => h.1), (hT6 e he).v.mono (fun _ _ h => h.1)⟩⟩
    have hk6 := (hS5.ob (hkD.keep hBD)).chg hC6 hboU
    have hv6 := (hS5.ob (hvD.keep hBD)).chg hC6 hboU
    have t7 := spoil_any hk6 hkl
    have hKa : KeepsT TpW w1.heap.size W2 w6 := ((KeepsT.of (joinB (belowD W2) hBD)).trans (hS5.keeps (.inr rfl))).trans ⟨hC6.size, fun k o hk h0 _ => (hC6.same k (lt_of_block h0) (by omega)).trans h0⟩
    have hCa : Chg (· = W.heap.size + 1) w1 w6 := (((hG2.chg.trans (Chg.of (F := fun _ => False) (joinB hbD hBD)) (fun _ _ h => h.elim)).trans hS5.chg (fun b h1 h2 => by omega))).trans hC6 (fun b _ h => h)
    have cn2 := c1.keep hB1
    have HX : Hid _ := hes3
    have HP6 : Hid _ := P6
    have HT6 : Hid _ := hT6
    have HKa : Hid _ := hKa
    have HCa : Hid _ := hCa
    have HS6 : Hid _ := S6
    have Hv6 : Hid _ := hv6
    clear hes3 P5 hT5 hr5 hS5 S5 hC6 hboU hk6 hBD hBa N4 hB34 S4 hB3 hB4 hO3 hO4 hE4 P0 S0 hkD hvD hbD g1 g2 g3 hk2 hv2 hb2 hG2 P6 hT6 hKa hCa S6 hv6
    gi_wp2_with (refine ⟨trivial, rfl, ?_⟩; gi_at_call 19; refine (CallsIn.inRound l2 (callsIn_wide.2 t7)).mono ?_; rintro e' w7 ⟨rfl, hs7⟩; clear t7)
    have hv7 := hs7.ob Hv6.out (fun b hb hd => by omega)
    have t8 := spoil_any hv7 hvl
    have hT7 : Hid (∀ e ∈ es2, EnA w7 (fun b => w1.heap.size ≤ b ∧ ¬ (V2.heap.size ≤ b ∧ b < W2.heap.size)) e) := fun e he => ⟨hs7.ob (HT6.out e he).k (fun b hb hd => by omega), hs7.ob (HT6.out e he).v (fun b hb hd => by omega)⟩
    have P7 : Hid (PrA w7 w1.heap.size (.slice ao5 es2.length cc5) es2) := HP6.out.spd (fun e he => ⟨(HT6.out e he).k.mono (fun b _ h => ⟨h.1, by omega⟩), (HT6.out e he).v.mono (fun b _ h => ⟨h.1, by omega⟩)⟩) hs7
    have S7 : Hid _ := hs7.blk HS6.out (by decide)
    have K7 : Hid (KeepsT TpW w1.heap.size W2 w7) := HKa.out.trans (hs7.keeps (.inl rfl) _)
    have C7 : Hid (Chg (· = W.heap.size + 1) w1 w7) := HCa.out.trans hs7.chg (fun b h1 h2 => by omega)
    clear hs7 hv7
    by_cases hlast : i + 1 = n
    · have hq : (es2.length : Int) = n := by have := HX.out; omega
      have HQ : Hid _ := hlast
      clear hlast
      gi_wp2_with (refine ⟨trivial, rfl, ?_⟩; gi_at_call 19; refine (CallsIn.inRound l2 (callsIn_wide.2 t8)).mono ?_; rintro e' w8 ⟨rfl, hs8⟩; clear t8; have S8 := hs8.blk S7.out (by decide); have cO := S8.cell (i := 0) rfl; have C8 := C7.out.trans hs8.chg (fun b h1 h2 => by omega); have cN := (cn2.chg C8 (by omega)).cell (i := 0) rfl)
      have P8 := P7.out.spd (fun e he => ⟨(hT7.out e he).k.mono (fun b _ h => ⟨h.1, by omega⟩), (hT7.out e he).v.mono (fun b _ h => ⟨h.1, by omega⟩)⟩) hs8
      exact ⟨K7.out.trans (hs8.keeps (.inl rfl) _), rfl, HQ.out, C8, _, es2, S8, P8, hes4.out⟩
    · have hq : ¬ ((es2.length : Int) = n) := by have := HX.out; omega
      gi_wp2_with (refine ⟨trivial, rfl, ?_⟩; gi_at_call 19; refine (CallsIn.inRound l2 (callsIn_wide.2 t8)).mono ?_; rintro e' w8 ⟨rfl, hs8⟩; clear t8; have S8 := hs8.blk S7.out (by decide); have cO := S8.cell (i := 0) rfl; have C8 := C7.out.trans hs8.chg (fun b h1 h2 => by omega); have cN := (cn2.chg C8 (by omega)).cell (i := 0) rfl)
      have P8 := P7.out.spd (fun e he => ⟨(hT7.out e he).k.mono (fun b _ h => ⟨h.1, by omega⟩), (hT7.out e he).v.mono (fun b _ h => ⟨h.1, by omega⟩)⟩) hs8
      exact ⟨K7.out.trans (hs8.keeps (.inl rfl) _), by omega, C8, _, es2, S8, P8, hes4.out⟩
  · rintro D' W' hD hK ⟨hlt, hG⟩
    obtain ⟨ov, es, g1, g2, g3⟩ := hG.out
    obtain ⟨ao, cc, rfl⟩ := g2.shape
    have g1c := g1.cell (i := 0) rfl
    gi_wp2
    refine ⟨by simp, .inl ⟨_, _, rfl, run_takeDeferred hK, ?_⟩⟩
    refine ⟨_, results_tmp rfl _ _ _, _, es, rfl, (g2.cel (Rec.put hK rfl hD _).cel).low (by omega), ?_, ?_⟩
    · rw [g3, List.take_length, List.take_of_length_le (by omega)]
    · exact gone_below b12 hB1 ((hG.rcd (Rec.put hK rfl hD _)).chg) (by omega)
  · rintro D' c i W' hD hK hiN ⟨rfl, hin, hG⟩
    obtain ⟨ov, es, g1, g2, g3⟩ := hG.out
    obtain ⟨ao, cc, rfl⟩ := g2.shape
    have g1c := g1.cell (i := 0) rfl
    gi_wp2
    refine ⟨by simp, .inl ⟨_, _, rfl, run_takeDeferred hK, ?_⟩⟩
    refine ⟨_, results_tmp rfl _ _ _, _, es, rfl, (g2.cel (Rec.put hK rfl hD _).cel).low (by omega), ?_, ?_⟩
    · rw [g3, hin]
    · exact gone_below b12 hB1 ((hG.rcd (Rec.put hK rfl hD _)).chg) (by omega)
set_option maxHeartbeats 8000000 in
set_option maxRecDepth 100000 in
theorem walked_down {W : World} {F D : Nat → Prop} {g n : Nat} {L : List Pg} {fv tv : Value} {f t : List Int} (K : Wm W (fun _ => False) F D g L) (hf : By W fv f) (ht : By W tv t) (hfl : f.length ≤ 1000000000) (htl : t.length ≤ 1000000000) (hn0 : 0 < n) (hn : n ≤ 1073741824) :
    Calls Try.prog 21 #[.pointer (some ⟨g, 0, none⟩), fv, tv, .bool true, .int .i64 n] W fun e W' => ∃ v es, e = .returned v ∧ PrA W' W.heap.size v es ∧ es.map En.kl2 = ((wlk (ens L) f t).reverse.take n).map En.kl2 ∧ Below W.heap.size W W' := by
  have b1 := below_alloc W (.cells #[.int .i64 n] 3)
  have b2 := below_alloc (W.alloc (.cells #[.int .i64 n] 3)) (.cells #[.slice none 0 0] 44)
  have c1 := (blk_new W [.int .i64 n] 3).keep b2
  have c2 := blk_new (W.alloc (.cells #[.int .i64 n] 3)) [.slice none 0 0] 44
  have s1 : (W.alloc (.cells #[.int .i64 n] 3)).heap.size = W.heap.size + 1 := by simp
  have s2 : ((W.alloc (.cells #[.int .i64 n] 3)).alloc (.cells #[.slice none 0 0] 44)).heap.size = W.heap.size + 2 := by simp
  rw [s1] at c2
  have b12 := joinB b1 b2
  obtain ⟨Wa, hWa⟩ : ∃ Wa, Hid ((W.alloc (.cells #[.int .i64 n] 3)).alloc (.cells #[.slice none 0 0] 44) = Wa) := ⟨_, rfl⟩
  rw [hWa.out] at c1 c2 s2 b12
  have K2 : Wm Wa (· = W.heap.size + 1) F D g L := ⟨K.map.keep b12, K.ord, K.few, K.big, K.small, fun b hb hF => by have := K.map.lt hF; omega, fun b hb cs k => by
    subst hb
    have := (k.eq c2).2
    revert this
    decide, fun b hb => by omega⟩
  have tW := walk_any (Tp := TpW) K2 (hf.keep b12) (ht.keep b12) hfl htl (by unfold TpW; decide) (by unfold TpW; decide)
  have hz : ¬ ((n : Int) = 0) := by omega
  obtain ⟨E, hE⟩ : ∃ E, Hid ((wlk (ens L) f t).reverse = E) := ⟨_, rfl⟩
  have hEl : Hid ((wlk (ens L) f t).length = E.length) := by show _ = _; rw [← hE.out, List.length_reverse]
  rw [hE.out]
  have hbig : Hid (∀ e ∈ E, e.kl.length ≤ 1000000000 ∧ e.vl.length ≤ 1000000000) := fun e he => by
    rw [← hE.out] at he
    obtain ⟨es, h1, h2⟩ := wlk_mem (List.mem_reverse.1 he)
    exact K.small es h1 e h2
  obtain ⟨fa, fc, rfl, -⟩ := id hf.ex
  obtain ⟨ta, tc, rfl, -⟩ := id ht.ex
  clear b1 b2 s1
  refine (callsIn_wide (n := 0)).1 ?_
  refine callsIn_of_wp_marks Try.func21 rfl trivial ?_ rfl
  simp only [Try.ntmps21, List.size_toArray, List.length_cons, List.length_nil, Nat.reduceAdd, Nat.reduceSub, Array.replicate_succ, Array.replicate_zero, List.push_toArray, List.append_toArray, List.nil_append, List.cons_append]
  gi_wp2_with (refine ⟨trivial, rfl, ?_⟩; gi_at_call 39; rw [hWa.out]; refine (callsIn_wide.2 tW).mono ?_; rintro e' w0 ⟨bw0, rfl, hB0, _⟩)
  have tB := back_any (Tp := TpW) (K2.keep hB0) ((hf.keep b12).keep hB0) ((ht.keep b12).keep hB0) hfl htl (by unfold TpW; decide) (by unfold TpW; decide) (by unfold TpW; decide) (by unfold TpW; decide) (by unfold TpW; decide)
  rw [hE.out, hEl.out] at tB
  clear tW
  gi_wp2_with (refine ⟨trivial, rfl, ?_⟩; gi_at_call 40; refine (callsIn_wide.2 tB).mono ?_; rintro e' w1 ⟨bw, rfl, hB1', IT⟩; have cn := ((c1.keep hB0).keep hB1').cell (i := 0) rfl)
  have hB1 := joinB hB0 hB1'
  have cb := c2.keep hB1
  clear tB cn hB0 hB1' hf ht
  have q1 := hB1.size
  refine rf_outer IT (by rfl) (enters_of Try.func62 (by kernel_rfl) rfl) (fun i args n V V' h hc => h.cel hc) (fun i args n V h => by obtain ⟨e, kv, vv, s, _, rfl, _⟩ := h; rfl)
    (fun i V => i < n ∧ Gone w1 V (W.heap.size + 1) E i)
    (fun c i V => c = .exit 0 ∧ i = n ∧ Gone w1 V (W.heap.size + 1) E i)
    (fun i A B hx hr => ⟨hx.1, hx.2.rcd hr⟩)
    (fun c i A B hx hr => ⟨hx.1, hx.2.1, hx.2.2.rcd hr⟩)
    (fun i V hv => hv.2.chg) ⟨hn0, Chg.refl _ _, _, [], cb, ⟨.inl ⟨rfl, rfl⟩, fun e he => by cases he⟩, rfl⟩ ?_ ?_ ?_
  · rintro l2 i args V Wv hl hlV hrec hiN ⟨hin, hG⟩ hb ⟨e0, kv, vv, s0, he0, rfl, hk0, hv0, _⟩
    obtain ⟨hkl, hvl⟩ := hbig.out e0 (List.mem_of_getElem? he0)
    obtain ⟨ak, nk, hk1⟩ := hk0.shape
    obtain ⟨av, nv, hv1⟩ := hv0.shape
    subst hk1 hv1
    simp
    gi_wp2
    refine ⟨Below.refl _ _, ?_⟩
    intro V2 W2 hin2 hG2 hb2 hAr2 hoth hsz3 hV2 r hrec2
    obtain ⟨e1, kv1, vv1, t1, he1, harr, hk2, hv2, ht1⟩ := hAr2
    obtain rfl : e1 = e0 := by rw [he0] at he1; cases he1; rfl
    simp at harr
    obtain ⟨rfl, rfl⟩ := harr
    obtain ⟨ov, es, g1, g2, g3⟩ := hG2.out
    have hlen : es.length = i := by have := congrArg List.length g3; simp at this; omega
    have hbD := joinB hb2 (belowD W2)
    have S0 := g1.keep hbD
    have P0 := g2.keep hbD
    have hkD := hk2.lt'.keep (belowD W2)
    have hvD := hv2.lt'.keep (belowD W2)
    obtain ⟨ao0, cc0, rfl⟩ := g2.shape
    clear hG hk0 hv0 hb hoth
    gi_wp2
    refine iz_start (z := 8) (S := fun w' => Blk w' (W.heap.size + 1) [.slice ao0 es.length cc0] 44) (by kernel_rfl) ?_
    refine iz_load 0 (some 29) (.slice ao0 es.length cc0) 44 11 (W.heap.size + 1) 0 (by kernel_rfl) (by kernel_rfl) (by kernel_rfl) (by kernel_rfl) (by kernel_rfl) (fun w' h => ld_q h) (fun _ _ _ h => h) S0 ?_
    refine iz_take 1 (some 30) (.slice ak e1.kl.length nk) (by kernel_rfl) (by kernel_rfl) (by kernel_rfl) (fun _ _ => by kernel_rfl) (fun _ _ _ h => h) S0 ?_
    refine iz_take 3 (some 32) (.slice av e1.vl.length nv) (by kernel_rfl) (by kernel_rfl) (by kernel_rfl) (fun _ _ => by kernel_rfl) (fun _ _ _ h => h) S0 ?_
    refine iz_call 2 (some 31) 11 #[.slice ak e1.kl.length nk] (by kernel_rfl) (by kernel_rfl) (by kernel_rfl) (copyBytes_any hkD.by hkl) ?_
    rintro e' w3 ⟨nkv, rfl, hO3, hB3⟩
    refine ⟨_, rfl, S0.keep hB3, ?_⟩
    refine iz_call 4 (some 33) 11 #[.slice av e1.vl.length nv] (by kernel_rfl) (by kernel_rfl) (by kernel_rfl) (copyBytes_any (hvD.keep hB3).by hvl) ?_
    rintro e' w4 ⟨nvv, rfl, hO4, hB4⟩
    have hB34 := joinB hB3 hB4
    have S4 := S0.keep hB34
    refine ⟨_, rfl, S4, ?_⟩
    obtain ⟨bk, ck, hk3⟩ := hO3.shape
    obtain ⟨bv, cv, hv3⟩ := hO4.shape
    subst hk3 hv3
    refine iz_take 5 (some 34) (.agg #[.slice bk e1.kl.length ck, .slice bv e1.vl.length cv]) (by kernel_rfl) (by kernel_rfl) (by kernel_rfl) (fun _ _ => by kernel_rfl) (fun _ _ _ h => h) S4 ?_
    have hBa := below_alloc w4 (.cells #[.slice bk e1.kl.length ck, .slice bv e1.vl.length cv] 52)
    have N4 := blk_new w4 [.slice bk e1.kl.length ck, .slice bv e1.vl.length cv] 52
    refine iz_val 6 (some 35) (.slice (some ⟨w4.heap.size, 0, none⟩) 1 1) (w4.alloc (.cells #[.slice bk e1.kl.length ck, .slice bv e1.vl.length cv] 52)) (by kernel_rfl) (by kernel_rfl) (run_bq (k := 34) (by kernel_rfl) (by kernel_rfl)) (S4.keep hBa) ?_
    obtain ⟨w4a, hw4a⟩ : ∃ w4a, Hid (w4.alloc (.cells #[.slice bk e1.kl.length ck, .slice bv e1.vl.length cv] 52) = w4a) := ⟨_, rfl⟩
    simp only [hw4a.out] at hBa N4 ⊢
    have hBD := joinB hB34 hBa
    have z1 := hG2.chg.size
    have z2 := hb2.size
    have z3 := hB3.size
    have z4 := hB4.size
    have z5 := hBa.size
    have d0 : W2.drew.heap.size = W2.heap.size := rfl
    have hE4 : EnA w4a (fun b => W2.heap.size ≤ b) ⟨.slice bk e1.kl.length ck, e1.kl, .slice bv e1.vl.length cv, e1.vl⟩ := ⟨(hO3.keep hB4).keep hBa, (hO4.keep hBa).mono (fun b _ hb => by omega)⟩
    obtain ⟨ov5, w5, hr5, P5, hS5⟩ := app_pair (e := ⟨.slice bk e1.kl.length ck, e1.kl, .slice bv e1.vl.length cv, e1.vl⟩) (a := ⟨w4.heap.size, 0, none⟩) 44 (P0.keep hBD) (by omega) (hE4.mono (fun b _ hb => by omega)) (by omega) (N4.cell (i := 0) rfl) (N4.cell (i := 1) rfl)
    have hT5 : ∀ e ∈ es ++ [⟨.slice bk e1.kl.length ck, e1.kl, .slice bv e1.vl.length cv, e1.vl⟩], EnA w5 (fun b => w1.heap.size ≤ b ∧ ¬ (V2.heap.size ≤ b ∧ b < W2.heap.size)) e := fun e he => by
      have h4 : EnA w4a (fun b => w1.heap.size ≤ b ∧ ¬ (V2.heap.size ≤ b ∧ b < W2.heap.size)) e := by
        rcases List.mem_append.1 he with h | h
        · have hx := g2.ents e h
          have hx2 : EnA V2 (fun b => w1.heap.size ≤ b ∧ ¬ (V2.heap.size ≤ b ∧ b < W2.heap.size)) e := hx.mono (fun b hb h => ⟨h, by omega⟩)
          exact (hx2.keep hbD).keep hBD
        · simp at h
          rw [h]
          exact hE4.mono (fun b _ hb => by omega)
      exact ⟨hS5.ob h4.k, hS5.ob h4.v⟩
    obtain ⟨es2, hes2⟩ : ∃ es2, Hid (es ++ [(⟨.slice bk e1.kl.length ck, e1.kl, .slice bv e1.vl.length cv, e1.vl⟩ : En)] = es2) := ⟨_, rfl⟩
    have hes3 : es2.length = i + 1 := by rw [← hes2.out, List.length_append, hlen]; rfl
    have hes4 : Hid (es2.map En.kl2 = (E.take (i + 1)).map En.kl2) := by
      show _ = _
      rw [← hes2.out, List.map_append, g3, List.take_add_one, he0, List.map_append]
      rfl
    simp only [hes2.out] at P5 hT5
    obtain ⟨ao5, cc5, rfl⟩ := P5.shape
    have S5 := hS5.blk (S4.keep hBa) (by decide)
    refine iz_val 7 (some 36) (.slice ao5 es2.length cc5) w5 (by kernel_rfl) (by kernel_rfl) (run_ap (x := 29) (y := 35) (T := 44) (ty := 44) (by kernel_rfl) (by kernel_rfl) (by kernel_rfl) (by kernel_rfl) hr5) S5 ?_
    refine iz_last (w5.setCell ⟨W.heap.size + 1, 0, none⟩ (.slice ao5 es2.length cc5)) (by kernel_rfl) (by kernel_rfl) (run_sq 11 36 (by kernel_rfl) (by kernel_rfl) (by kernel_rfl) S5) ?_
    refine iz_done (by kernel_rfl) ?_
    simp only [Act.put, List.setIfInBounds_toArray, List.set_cons_zero, List.set_cons_succ]
    have hC6 : Chg (· = W.heap.size + 1) w5 (w5.setCell ⟨W.heap.size + 1, 0, none⟩ (.slice ao5 es2.length cc5)) := (Chg.refl (fun x => x = W.heap.size + 1) w5).cell (.inl (by rfl)) _
    have S6 := S5.setCell (i := 0) (.slice ao5 es2.length cc5)
    obtain ⟨w6, hw6⟩ : ∃ w6, Hid (w5.setCell ⟨W.heap.size + 1, 0, none⟩ (.slice ao5 es2.length cc5) = w6) := ⟨_, rfl⟩
    simp only [hw6.out] at hC6 S6 ⊢
    have hboU : ∀ b, b = W.heap.size + 1 → ∀ cs, ¬ Blk w5 b cs 5 := fun b hb cs k => by
      subst hb
      have := (k.eq S5).2
      revert this
      decide
    have hT6 : ∀ e ∈ es2, EnA w6 (fun b => w1.heap.size ≤ b ∧ ¬ (V2.heap.size ≤ b ∧ b < W2.heap.size)) e := fun e he => ⟨(hT5 e he).k.chg hC6 hboU, (hT5 e he).v.chg hC6 hboU⟩
    have P6 : PrA w6 w1.heap.size (.slice ao5 es2.length cc5) es2 := ⟨P5.ex.imp id (fun ⟨b, c, e, hl, hR⟩ => ⟨b, c, e, hl, hR.chg hC6 (by omega)⟩), fun e he => ⟨(hT6 e he).k.mono (fun _ _ h => h.1), (hT6 e he).v.mono (fun _ _ h => h.1)⟩⟩
    have hk6 := (hS5.ob (hkD.keep hBD)).chg hC6 hboU
    have hv6 := (hS5.ob (hvD.keep hBD)).chg hC6 hboU
    have t7 := spoil_any hk6 hkl
    have hKa : KeepsT TpW w1.heap.size W2 w6 := ((KeepsT.of (joinB (belowD W2) hBD)).trans (hS5.keeps (.inr rfl))).trans ⟨hC6.size, fun k o hk h0 _ => (hC6.same k (lt_of_block h0) (by omega)).trans h0⟩
    have hCa : Chg (· = W.heap.size + 1) w1 w6 := (((hG2.chg.trans (Chg.of (F := fun _ => False) (joinB hbD hBD)) (fun _ _ h => h.elim)).trans hS5.chg (fun b h1 h2 => by omega))).trans hC6 (fun b _ h => h)
    have cn2 := c1.keep hB1
    have HX : Hid _ := hes3
    have HP6 : Hid _ := P6
    have HT6 : Hid _ := hT6
    have HKa : Hid _ := hKa
    have HCa : Hid _ := hCa
    have HS6 : Hid _ := S6
    have Hv6 : Hid _ := hv6
    clear hes3 P5 hT5 hr5 hS5 S5 hC6 hboU hk6 hBD hBa N4 hB34 S4 hB3 hB4 hO3 hO4 hE4 P0 S0 hkD hvD hbD g1 g2 g3 hk2 hv2 hb2 hG2 P6 hT6 hKa hCa S6 hv6
    gi_wp2_with (refine ⟨trivial, rfl, ?_⟩; gi_at_call 19; refine (CallsIn.inRound l2 (callsIn_wide.2 t7)).mono ?_; rintro e' w7 ⟨rfl, hs7⟩; clear t7)
    have hv7 := hs7.ob Hv6.out (fun b hb hd => by omega)
    have t8 := spoil_any hv7 hvl
    have hT7 : Hid (∀ e ∈ es2, EnA w7 (fun b => w1.heap.size ≤ b ∧ ¬ (V2.heap.size ≤ b ∧ b < W2.heap.size)) e) := fun e he => ⟨hs7.ob (HT6.out e he).k (fun b hb hd => by omega), hs7.ob (HT6.out e he).v (fun b hb hd => by omega)⟩
    have P7 : Hid (PrA w7 w1.heap.size (.slice ao5 es2.length cc5) es2) := HP6.out.spd (fun e he => ⟨(HT6.out e he).k.mono (fun b _ h => ⟨h.1, by omega⟩), (HT6.out e he).v.mono (fun b _ h => ⟨h.1, by omega⟩)⟩) hs7
    have S7 : Hid _ := hs7.blk HS6.out (by decide)
    have K7 : Hid (KeepsT TpW w1.heap.size W2 w7) := HKa.out.trans (hs7.keeps (.inl rfl) _)
    have C7 : Hid (Chg (· = W.heap.size + 1) w1 w7) := HCa.out.trans hs7.chg (fun b h1 h2 => by omega)
    clear hs7 hv7
    by_cases hlast : i + 1 = n
    · have hq : (es2.length : Int) = n := by have := HX.out; omega
      have HQ : Hid _ := hlast
      clear hlast
      gi_wp2_with (refine ⟨trivial, rfl, ?_⟩; gi_at_call 19; refine (CallsIn.inRound l2 (callsIn_wide.2 t8)).mono ?_; rintro e' w8 ⟨rfl, hs8⟩; clear t8; have S8 := hs8.blk S7.out (by decide); have cO := S8.cell (i := 0) rfl; have C8 := C7.out.trans hs8.chg (fun b h1 h2 => by omega); have cN := (cn2.chg C8 (by omega)).cell (i := 0) rfl)
      have P8 := P7.out.spd (fun e he => ⟨(hT7.out e he).k.mono (fun b _ h => ⟨h.1, by omega⟩), (hT7.out e he).v.mono (fun b _ h => ⟨h.1, by omega⟩)⟩) hs8
      exact ⟨K7.out.trans (hs8.keeps (.inl rfl) _), rfl, HQ.out, C8, _, es2, S8, P8, hes4.out⟩
    · have hq : ¬ ((es2.length : Int) = n) := by have := HX.out; omega
      gi_wp2_with (refine ⟨trivial, rfl, ?_⟩; gi_at_call 19; refine (CallsIn.inRound l2 (callsIn_wide.2 t8)).mono ?_; rintro e' w8 ⟨rfl, hs8⟩; clear t8; have S8 := hs8.blk S7.out (by decide); have cO := S8.cell (i := 0) rfl; have C8 := C7.out.trans hs8.chg (fun b h1 h2 => by omega); have cN := (cn2.chg C8 (by omega)).cell (i := 0) rfl)
      have P8 := P7.out.spd (fun e he => ⟨(hT7.out e he).k.mono (fun b _ h => ⟨h.1, by omega⟩), (hT7.out e he).v.mono (fun b _ h => ⟨h.1, by omega⟩)⟩) hs8
      exact ⟨K7.out.trans (hs8.keeps (.inl rfl) _), by omega, C8, _, es2, S8, P8, hes4.out⟩
  · rintro D' W' hD hK ⟨hlt, hG⟩
    obtain ⟨ov, es, g1, g2, g3⟩ := hG.out
    obtain ⟨ao, cc, rfl⟩ := g2.shape
    have g1c := g1.cell (i := 0) rfl
    gi_wp2
    refine ⟨by simp, .inl ⟨_, _, rfl, run_takeDeferred hK, ?_⟩⟩
    refine ⟨_, results_tmp rfl _ _ _, _, es, rfl, (g2.cel (Rec.put hK rfl hD _).cel).low (by omega), ?_, ?_⟩
    · rw [g3, List.take_length, List.take_of_length_le (by omega)]
    · exact gone_below b12 hB1 ((hG.rcd (Rec.put hK rfl hD _)).chg) (by omega)
  · rintro D' c i W' hD hK hiN ⟨rfl, hin, hG⟩
    obtain ⟨ov, es, g1, g2, g3⟩ := hG.out
    obtain ⟨ao, cc, rfl⟩ := g2.shape
    have g1c := g1.cell (i := 0) rfl
    gi_wp2
    refine ⟨by simp, .inl ⟨_, _, rfl, run_takeDeferred hK, ?_⟩⟩
    refine ⟨_, results_tmp rfl _ _ _, _, es, rfl, (g2.cel (Rec.put hK rfl hD _).cel).low (by omega), ?_, ?_⟩
    · rw [g3, hin]
    · exact gone_below b12 hB1 ((hG.rcd (Rec.put hK rfl hD _)).chg) (by omega)
end Pg
end Go.Proofs.Ytjnjkgakdnjlmaa

namespace Go.Proofs.Ytjnjkgakdnjlmaa
namespace Pg
open Go.RowKit Go.Lib
attribute [local go_sem] Oper.semAt_some
theorem By.at {w : World} {ao : Option Addr} {n c : Nat} {l : List Int} (h : By w (.slice ao n c) l) {i : Nat} {x : Int} (hi : l[i]? = some x) : ∃ b o, ao = some ⟨b, o, none⟩ ∧ w.cell? ⟨b, o + i, none⟩ = some (.int .u8 x) := by
  obtain ⟨ao', c', e, _, _, _, _, h6⟩ := h.ex
  cases e
  rcases h6 with rfl | ⟨b, o, e, _, hc⟩
  · simp at hi
  · exact ⟨b, o, e, hc i x hi⟩
theorem below_drewK {w w' : World} (h : Below w.heap.size w w') : ∀ k, Below w.heap.size w (w'.drewN k) := fun _ => ⟨h.os, h.tape, h.output, h.size, h.block⟩
set_option maxHeartbeats 1000000 in
set_option maxRecDepth 100000 in
theorem bytes_any {w : World} {u v : Value} {a b : List Int} (ha : By w u a) (hb : By w v b) (hla : a.length ≤ 1000000000) (hlb : b.length ≤ 1000000000) :
    Calls Try.prog 18 #[u, v] w fun e w' => e = .returned (.bool (decide (a = b))) ∧ Below w.heap.size w w' := by
  obtain ⟨ao, c, rfl, -⟩ := id ha.ex
  obtain ⟨bo, d, rfl, -⟩ := id hb.ex
  obtain ⟨r, hr⟩ : ∃ r, Hid (decide (a = b) = r) := ⟨_, rfl⟩
  obtain ⟨n, hn⟩ : ∃ n, Hid (a.length = n) := ⟨_, rfl⟩
  obtain ⟨m, hm⟩ : ∃ m, Hid (b.length = m) := ⟨_, rfl⟩
  rw [hr.out]
  rw [hn.out] at hla ha ⊢
  rw [hm.out] at hlb hb ⊢
  have HA : Hid _ := ha
  have HB : Hid _ := hb
  clear ha hb
  by_cases hne : n = m
  · subst hne
    go_enter Try.func18, Try.ntmps18
    go_wp2_with fail
    go_loopw [5] (fun ti wr => ∃ k : Nat, k ≤ n ∧ ti = .int .i64 k ∧ Hid (a.take k = b.take k) ∧ Below w.heap.size w wr) (fun ti _ => n - (intOf ti).toNat)
    case atStart => exact ⟨0, Nat.zero_le _, rfl, by show _ = _; simp, Below.refl _ _⟩
    case round =>
      obtain ⟨k, hk, rfl, hz, hbe⟩ := hrel
      by_cases hlt : k < n
      · obtain ⟨x, hx⟩ : ∃ x, a[k]? = some x := ⟨a[k]'(by have := hn.out; omega), List.getElem?_eq_getElem _⟩
        obtain ⟨y, hy⟩ : ∃ y, b[k]? = some y := ⟨b[k]'(by have := hm.out; omega), List.getElem?_eq_getElem _⟩
        obtain ⟨p, q, rfl, c1⟩ := (HA.out.keep hbe).at hx
        obtain ⟨p', q', rfl, c2⟩ := (HB.out.keep hbe).at hy
        have hk0 : (k : Int) < n := by omega
        by_cases hd : x = y
        · subst hd
          have HY : Hid (a.take (k + 1) = b.take (k + 1)) := by
            show _ = _
            rw [List.take_add_one, List.take_add_one, hz.out, hx, hy]
          clear hx hy hz
          go_wp2_with fail
          go_quiet (fail)
          go_wp2
          go_roundw
          case rel => exact ⟨k + 1, by omega, by go_num, HY.out, below_drewK hbe _⟩
          case measure => simp [intOf]; omega
        · have HF : Hid (r = false) := by
            show _ = _
            rw [← hr.out, decide_eq_false]
            intro e
            rw [e, hy] at hx
            cases hx
            exact hd rfl
          have hd' : (x != y) = true := by rw [bne_iff_ne]; exact hd
          clear hx hy hz
          go_wp2_with fail
          go_quiet (fail)
          go_wp2
          go_ret
          exact ⟨by rw [HF.out]; rfl, below_drewK hbe _⟩
      · have hkn : k = n := by omega
        have HF : Hid (r = true) := by
          show _ = _
          have e := hz.out
          rw [List.take_of_length_le (by have := hn.out; omega), List.take_of_length_le (by have := hm.out; omega)] at e
          rw [← hr.out, decide_eq_true e]
        have hk0 : ¬ ((k : Int) < n) := by omega
        clear hkn
        go_wp2
        go_ret
        exact ⟨by rw [HF.out]; rfl, hbe⟩
  · have HF : Hid (r = false) := by
      show _ = _
      rw [← hr.out, decide_eq_false]
      intro e
      exact hne (by rw [← hn.out, ← hm.out, e])
    have h0 : ¬ ((n : Int) = m) := by omega
    have HN : Hid _ := hne
    clear hne
    go_enter Try.func18, Try.ntmps18
    go_wp2
    go_ret
    exact ⟨by rw [HF.out]; rfl, Below.refl _ _⟩
theorem cmpB_drop : ∀ {k : Nat} {a b : List Int}, a.take k = b.take k → k ≤ a.length → k ≤ b.length → cmpB a b = cmpB (a.drop k) (b.drop k)
  | 0, _, _, _, _, _ => rfl
  | k + 1, [], _, _, h, _ => by simp at h
  | k + 1, _ :: _, [], _, _, h => by simp at h
  | k + 1, x :: a, y :: b, h, h1, h2 => by
    simp at h h1 h2
    obtain ⟨rfl, h⟩ := h
    rw [List.drop_succ_cons, List.drop_succ_cons, ← cmpB_drop h h1 h2]
    simp [cmpB]
theorem lt_at {k : Nat} {a b : List Int} {x y : Int} (h : a.take k = b.take k) (hx : a[k]? = some x) (hy : b[k]? = some y) (hne : x ≠ y) : Lt a b ↔ x < y := by
  obtain ⟨h1, e1⟩ := List.getElem?_eq_some_iff.1 hx
  obtain ⟨h2, e2⟩ := List.getElem?_eq_some_iff.1 hy
  unfold Lt
  rw [cmpB_drop h (by omega) (by omega), List.drop_eq_getElem_cons h1, List.drop_eq_getElem_cons h2, e1, e2]
  simp only [cmpB]
  by_cases hl : x < y
  · simp [hl]
  · simp [hl, show y < x by omega]
theorem lt_end {k : Nat} {a b : List Int} (h : a.take k = b.take k) (h1 : k ≤ a.length) (h2 : k ≤ b.length) (h3 : k = a.length ∨ k = b.length) : Lt a b ↔ a.length < b.length := by
  unfold Lt
  rw [cmpB_drop h h1 h2]
  rcases h3 with e | e
  · rw [List.drop_of_length_le (l := a) (by omega)]
    cases hb : b.drop k with
    | nil =>
      have := congrArg List.length hb
      simp at this
      simp [cmpB]; omega
    | cons y l =>
      have := congrArg List.length hb
      simp at this
      simp [cmpB]; omega
  · rw [List.drop_of_length_le (l := b) (by omega)]
    cases ha : a.drop k with
    | nil =>
      have := congrArg List.length ha
      simp at this
      simp [cmpB]; omega
    | cons y l =>
      have := congrArg List.length ha
      simp at this
      simp [cmpB]; omega
set_option maxHeartbeats 1000000 in
set_option maxRecDepth 100000 in
theorem less_by {w : World} {u v : Value} {a b : List Int} (ha : By w u a) (hb : By w v b) (hla : a.length ≤ 1000000000) :
    Calls Try.prog 28 #[u, v] w fun e w' => e = .returned (.bool (decide (Lt a b))) ∧ Below w.heap.size w w' := by
  obtain ⟨ao, c, rfl, -⟩ := id ha.ex
  obtain ⟨bo, d, rfl, -⟩ := id hb.ex
  obtain ⟨r, hr⟩ : ∃ r, Hid (decide (Lt a b) = r) := ⟨_, rfl⟩
  obtain ⟨n, hn⟩ : ∃ n, Hid (a.length = n) := ⟨_, rfl⟩
  obtain ⟨m, hm⟩ : ∃ m, Hid (b.length = m) := ⟨_, rfl⟩
  rw [hr.out]
  rw [hn.out] at hla ha ⊢
  rw [hm.out] at hb ⊢
  have HA : Hid _ := ha
  have HB : Hid _ := hb
  clear ha hb
  go_enter Try.func28, Try.ntmps28
  go_wp2_with fail
  go_loopw [5] (fun ti wr => ∃ k : Nat, k ≤ n ∧ k ≤ m ∧ ti = .int .i64 k ∧ Hid (a.take k = b.take k) ∧ Below w.heap.size w wr) (fun ti _ => n - (intOf ti).toNat)
  case atStart => exact ⟨0, Nat.zero_le _, Nat.zero_le _, rfl, by show _ = _; simp, Below.refl _ _⟩
  case round =>
    obtain ⟨k, hk, hk2, rfl, hz, hbe⟩ := hrel
    by_cases hlt : k < n ∧ k < m
    · obtain ⟨hl1, hl2⟩ := hlt
      obtain ⟨x, hx⟩ : ∃ x, a[k]? = some x := ⟨a[k]'(by have := hn.out; omega), List.getElem?_eq_getElem _⟩
      obtain ⟨y, hy⟩ : ∃ y, b[k]? = some y := ⟨b[k]'(by have := hm.out; omega), List.getElem?_eq_getElem _⟩
      obtain ⟨p, q, rfl, c1⟩ := (HA.out.keep hbe).at hx
      obtain ⟨p', q', rfl, c2⟩ := (HB.out.keep hbe).at hy
      have hk0 : (k : Int) < n := by omega
      have hk1 : (k : Int) < m := by omega
      by_cases hd : x = y
      · subst hd
        have HY : Hid (a.take (k + 1) = b.take (k + 1)) := by
          show _ = _
          rw [List.take_add_one, List.take_add_one, hz.out, hx, hy]
        clear hx hy hz
        go_wp2_with fail
        go_quiet (fail)
        go_wp2
        go_roundw
        case rel => exact ⟨k + 1, by omega, by omega, by go_num, HY.out, below_drewK hbe _⟩
        case measure => simp [intOf]; omega
      · have HF : Hid (r = decide (x < y)) := by
          show _ = _
          rw [← hr.out]
          exact decide_eq_decide.2 (lt_at hz.out hx hy hd)
        have hd' : (x != y) = true := by rw [bne_iff_ne]; exact hd
        clear hx hy hz
        go_wp2_with fail
        go_quiet (fail)
        go_wp2_with fail
        go_quiet (fail)
        go_wp2
        go_ret
        exact ⟨by rw [HF.out]; rfl, below_drewK (below_drewK hbe _) _⟩
    · have HF : Hid (r = decide (n < m)) := by
        show _ = _
        rw [← hr.out]
        refine decide_eq_decide.2 ((lt_end hz.out (by have := hn.out; omega) (by have := hm.out; omega) (by have := hn.out; have := hm.out; omega)).trans ?_)
        have := hn.out
        have := hm.out
        omega
      by_cases hk0 : (k : Int) < n
      · have hk1 : ¬ ((k : Int) < m) := by omega
        have HL : Hid _ := hlt
        clear hlt hz
        go_wp2
        go_ret
        exact ⟨by rw [HF.out]; rfl, hbe⟩
      · have HL : Hid _ := hlt
        clear hlt hz
        go_wp2
        go_ret
        exact ⟨by rw [HF.out]; rfl, hbe⟩
end Pg
end Go.Proofs.Ytjnjkgakdnjlmaa

namespace Go.Proofs.Ytjnjkgakdnjlmaa
namespace Pg
open Go.RowKit Go.Lib
attribute [local go_sem] Oper.semAt_some
/-- the rules of pages -/
structure Shp (P : List (List En)) : Prop where
  one : ∀ es ∈ P, 1 ≤ es.length ∧ es.length ≤ 32
  two : ∀ i x y, P[i]? = some x → P[i + 1]? = some y → 17 ≤ x.length + y.length
theorem IntV.keep {w w' : World} {B : Nat} {v : Value} {l : List Int} (h : IntV w B v l) (hb : Below w.heap.size w w') : IntV w' B v l := by
  obtain ⟨b, c, e, hl, hR⟩ := h.ex
  exact ⟨b, c, e, hl, hR.keep hb⟩
theorem sum_take_le {Z : List Int} (h : ∀ z ∈ Z, 0 ≤ z ∧ z ≤ 32) : ∀ k, 0 ≤ (Z.take k).sum ∧ (Z.take k).sum ≤ 32 * (k : Int)
  | 0 => by simp
  | k + 1 => by
    have ih := sum_take_le h k
    rw [List.take_add_one, List.sum_append]
    cases hz : Z[k]? with
    | none => simp; omega
    | some z =>
      have := h z (List.mem_of_getElem? hz)
      simp; omega
theorem sum_lens (P : List (List En)) : (P.map fun es => (es.length : Int)).sum = (P.flatten.length : Int) := by
  induction P with
  | nil => rfl
  | cons a P ih => simp only [List.map_cons, List.sum_cons, ih, List.flatten_cons, List.length_append]; omega
theorem ld_i {w : World} {g o : Nat} {v : Int} (c : w.cell? ⟨g, o, none⟩ = some (.int .i64 v)) : (loadVar 3 ⟨g, o, none⟩).run Try.prog w = .ok (.int .i64 v) w := by go_simp
theorem run_ii {a : Act} {w : World} {op : Oper} {x y k n c b : Nat} (ho : op.op = .indexAddr 54 (.tmp x) (.tmp y)) (hx : a.eval (.tmp x) = .slice (some ⟨b, 0, none⟩) n c) {z : Int} (hy : a.eval (.tmp y) = .int .i64 z) (hz : z = (k : Int)) (hk : k < n) : (execOp a.eval op).run Try.prog w = .ok (.value (.pointer (some ⟨b, k, none⟩))) w := by
  subst hz
  have h1 : (k : Int) < n := by omega
  have h2 : ¬ ((k : Int) < 0) := by omega
  obtain ⟨i0, hi, hz0, hs0, hb0⟩ := info_parts (P := Try.prog) (show (Try.prog.info? 3).map (fun i => (i.zero, i.size, i.bytes)) = some (some (.int .i64 0), 1, 8) by kernel_rfl)
  simp only [execOp, ho, hx, hy]
  go_simp
set_option maxHeartbeats 4000000 in
set_option maxRecDepth 100000 in
theorem shaped_any {w : World} {F D : Nat → Prop} {g : Nat} {L : List Pg} (A : MapA w F D g L) (hS : Shp (ens L)) (hn : L.length ≤ 100000000) :
    Calls Try.prog 27 #[.pointer (some ⟨g, 0, none⟩)] w fun e w' => e = .returned (.bool true) ∧ Below w.heap.size w w' := by
  have t1 := pages_any A hn
  have HA : Hid _ := A
  have HS : Hid _ := hS
  obtain ⟨Z, hZ⟩ : ∃ Z, Hid (((ens L).map fun es => (es.length : Int)) = Z) := ⟨_, rfl⟩
  rw [hZ.out] at t1
  have hZl : Z.length = L.length := by rw [← hZ.out]; simp [ens]
  have hZ1 : Hid (∀ z ∈ Z, 1 ≤ z ∧ z ≤ 32) := fun z hz => by
    rw [← hZ.out] at hz
    obtain ⟨es, h1, rfl⟩ := List.mem_map.1 hz
    have := HS.out.one es h1
    omega
  have hZ2 : Hid (∀ i x y, Z[i]? = some x → Z[i + 1]? = some y → 17 ≤ x + y) := fun i x y hx hy => by
    rw [← hZ.out, List.getElem?_map] at hx hy
    obtain ⟨x', hx', rfl⟩ := Option.map_eq_some_iff.1 hx
    obtain ⟨y', hy', rfl⟩ := Option.map_eq_some_iff.1 hy
    have := HS.out.two i x' y' hx' hy'
    omega
  have hZs : Hid (Z.sum = ((ens L).flatten.length : Int)) := by
    show _ = _
    rw [← hZ.out]
    exact sum_lens _
  have hZb : Hid (∀ k, 0 ≤ (Z.take k).sum ∧ (Z.take k).sum ≤ 32 * (k : Int)) := sum_take_le fun z hz => by have := hZ1.out z hz; omega
  have t2 := fun w' (hB : Below w.heap.size w w') => len_any (A.keep hB) (fun es he => by have := hS.one es he; omega) hn
  rw [← hZs.out] at t2
  obtain ⟨n, hnn⟩ : ∃ n, Hid (Z.length = n) := ⟨_, rfl⟩
  have hnb : n ≤ 100000000 := by have := hnn.out; omega
  clear A hS hZl hn
  go_enter Try.func27, Try.ntmps27
  go_wp2_with (go_at_call 30; refine t1.mono ?_; rintro e w1 ⟨v1, rfl, V1, B1⟩; obtain ⟨b, c, rfl, hb, R1⟩ := V1.ex; rw [hnn.out])
  have HR : Hid _ := R1
  have HB1 : Hid _ := B1
  clear R1 V1 B1 t1
  go_loopw [4, 5] (fun ts ti wr => ∃ k : Nat, k ≤ n ∧ ti = .int .i64 k ∧ ts = .int .i64 (Z.take k).sum ∧ Below w1.heap.size w1 wr) (fun _ ti _ => n - (intOf ti).toNat)
  case atStart => exact ⟨0, Nat.zero_le _, rfl, rfl, Below.refl _ _⟩
  case round =>
    obtain ⟨k, hk, rfl, rfl, hbe⟩ := hrel
    obtain ⟨s, hs⟩ : ∃ s, Hid ((Z.take k).sum = s) := ⟨_, rfl⟩
    have hsb : 0 ≤ s ∧ s ≤ 3200000000 := by have := hZb.out k; rw [hs.out] at this; omega
    rw [hs.out]
    by_cases hlt : k < n
    · obtain ⟨z, hz⟩ : ∃ z, Z[k]? = some z := ⟨Z[k]'(by have := hnn.out; omega), List.getElem?_eq_getElem _⟩
      have c1 := (HR.out.keep hbe).cell (i := k) (v := .int .i64 z) (by rw [List.getElem?_map, hz]; rfl)
      have hzz := hZ1.out z (List.mem_of_getElem? hz)
      have HT : Hid ((Z.take (k + 1)).sum = s + z) := by
        show _ = _
        rw [List.take_add_one, List.sum_append, hs.out, hz]
        simp
      have hk0 : (k : Int) < n := by omega
      have q1 : ¬ (z < 1) := by omega
      have q2 : ¬ (32 < z) := by omega
      cases k with
      | zero =>
        clear hz
        go_wp2_with fail
        have hS := (show _ ∧ True from ⟨c1, trivial⟩)
        refine rg_start (S := fun w' => w'.cell? ⟨b, 0, none⟩ = some (.int .i64 z) ∧ True) (by kernel_rfl) hS ?_
        -- R0
        refine rg_take 0 (some 14) (.slice (some ⟨b, 0, none⟩) n c) (by kernel_rfl) (fun _ _ => by kernel_rfl) (fun _ _ _ h => h) hS ?_
        refine rg_take 1 (some 15) (.int .i64 0) (by kernel_rfl) (fun _ _ => by kernel_rfl) (fun _ _ _ h => h) hS ?_
        refine rg_take 2 (some 16) (.pointer (some ⟨b, 0, none⟩)) (by kernel_rfl) (fun _ _ => run_ii (x := 14) (y := 15) (n := n) (c := c) (by kernel_rfl) (by kernel_rfl) (by kernel_rfl) (rfl) (by omega)) (fun _ _ _ h => h) hS ?_
        refine rg_load 3 (some 17) (.int .i64 z) 3 16 (b) (0) (by kernel_rfl) (by kernel_rfl) (by kernel_rfl) (fun w' h => ld_i h.1) (fun _ _ _ h => h) hS ?_
        refine rg_eq 4 (some 18) (.bool (decide (z < 1))) (.bool false) (by rw [decide_eq_false (by omega)]) (by kernel_rfl) (fun _ _ => by kernel_rfl) (fun _ _ _ h => h) hS ?_
        refine rg_take 5 (some 19) (.bool false) (by kernel_rfl) (fun _ _ => by kernel_rfl) (fun _ _ _ h => h) hS ?_
        refine rg_take 6 (some 20) (.slice (some ⟨b, 0, none⟩) n c) (by kernel_rfl) (fun _ _ => by kernel_rfl) (fun _ _ _ h => h) hS ?_
        refine rg_take 7 (some 21) (.int .i64 0) (by kernel_rfl) (fun _ _ => by kernel_rfl) (fun _ _ _ h => h) hS ?_
        refine rg_take 8 (some 22) (.pointer (some ⟨b, 0, none⟩)) (by kernel_rfl) (fun _ _ => run_ii (x := 20) (y := 21) (n := n) (c := c) (by kernel_rfl) (by kernel_rfl) (by kernel_rfl) (rfl) (by omega)) (fun _ _ _ h => h) hS ?_
        refine rg_load 9 (some 23) (.int .i64 z) 3 22 (b) (0) (by kernel_rfl) (by kernel_rfl) (by kernel_rfl) (fun w' h => ld_i h.1) (fun _ _ _ h => h) hS ?_
        refine rg_eq 10 (some 24) (.bool (decide (32 < z))) (.bool false) (by rw [decide_eq_false (by omega)]) (by kernel_rfl) (fun _ _ => by kernel_rfl) (fun _ _ _ h => h) hS ?_
        refine rg_take 11 (some 25) (.bool false) (by kernel_rfl) (fun _ _ => by kernel_rfl) (fun _ _ _ h => h) hS ?_
        refine rg_take 12 (some 26) (.bool false) (by kernel_rfl) (fun _ _ => by kernel_rfl) (fun _ _ _ h => h) hS ?_
        refine rg_take 13 (some 27) (.int .i64 0) (by kernel_rfl) (fun _ _ => by kernel_rfl) (fun _ _ _ h => h) hS ?_
        refine rg_take 14 (some 28) (.bool false) (by kernel_rfl) (fun _ _ => by kernel_rfl) (fun _ _ _ h => h) hS ?_
        refine rg_take 15 (some 29) (.bool false) (by kernel_rfl) (fun _ _ => by kernel_rfl) (fun _ _ _ h => h) hS ?_
        refine rg_skip 16 (some 30) (by kernel_rfl) (fun _ _ _ h => h) hS ?_
        refine rg_skip 17 (some 31) (by kernel_rfl) (fun _ _ _ h => h) hS ?_
        refine rg_skip 18 (some 32) (by kernel_rfl) (fun _ _ _ h => h) hS ?_
        refine rg_skip 19 (some 33) (by kernel_rfl) (fun _ _ _ h => h) hS ?_
        refine rg_skip 20 (some 34) (by kernel_rfl) (fun _ _ _ h => h) hS ?_
        refine rg_skip 21 (some 35) (by kernel_rfl) (fun _ _ _ h => h) hS ?_
        refine rg_skip 22 (some 36) (by kernel_rfl) (fun _ _ _ h => h) hS ?_
        refine rg_skip 23 (some 37) (by kernel_rfl) (fun _ _ _ h => h) hS ?_
        refine rg_skip 24 (some 38) (by kernel_rfl) (fun _ _ _ h => h) hS ?_
        refine rg_skip 25 (some 39) (by kernel_rfl) (fun _ _ _ h => h) hS ?_
        refine rg_skip 26 (some 40) (by kernel_rfl) (fun _ _ _ h => h) hS ?_
        refine rg_take 27 (some 41) (.bool false) (by kernel_rfl) (fun _ _ => by kernel_rfl) (fun _ _ _ h => h) hS ?_
        refine rg_take 28 (some 42) (.bool false) (by kernel_rfl) (fun _ _ => by kernel_rfl) (fun _ _ _ h => h) hS ?_
        refine rg_done (by kernel_rfl) ?_
        simp only [Act.put, List.setIfInBounds_toArray, List.set_cons_zero, List.set_cons_succ]
        -- R0 END
        go_wp2
        go_roundw
        case rel => exact ⟨1, by omega, by go_num, by rw [HT.out], below_drewK hbe 1⟩
        case measure => simp [intOf]; omega
      | succ j =>
        obtain ⟨y, hy⟩ : ∃ y, Z[j]? = some y := ⟨Z[j]'(by have := hnn.out; omega), List.getElem?_eq_getElem _⟩
        have c2 := (HR.out.keep hbe).cell (i := j) (v := .int .i64 y) (by rw [List.getElem?_map, hy]; rfl)
        have hyy := hZ1.out y (List.mem_of_getElem? hy)
        have q3 := hZ2.out j y z hy hz
        clear hz hy
        go_wp2_with fail
        have hS := (show _ ∧ _ from ⟨c1, c2⟩)
        refine rg_start (S := fun w' => w'.cell? ⟨b, j + 1, none⟩ = some (.int .i64 z) ∧ w'.cell? ⟨b, j, none⟩ = some (.int .i64 y)) (by kernel_rfl) hS ?_
        -- RJ
        refine rg_take 0 (some 14) (.slice (some ⟨b, 0, none⟩) n c) (by kernel_rfl) (fun _ _ => by kernel_rfl) (fun _ _ _ h => h) hS ?_
        refine rg_take 1 (some 15) (.int .i64 (j + 1)) (by kernel_rfl) (fun _ _ => by kernel_rfl) (fun _ _ _ h => h) hS ?_
        refine rg_take 2 (some 16) (.pointer (some ⟨b, (j + 1), none⟩)) (by kernel_rfl) (fun _ _ => run_ii (x := 14) (y := 15) (n := n) (c := c) (by kernel_rfl) (by kernel_rfl) (by kernel_rfl) (rfl) (by omega)) (fun _ _ _ h => h) hS ?_
        refine rg_load 3 (some 17) (.int .i64 z) 3 16 (b) ((j + 1)) (by kernel_rfl) (by kernel_rfl) (by kernel_rfl) (fun w' h => ld_i h.1) (fun _ _ _ h => h) hS ?_
        refine rg_eq 4 (some 18) (.bool (decide (z < 1))) (.bool false) (by rw [decide_eq_false (by omega)]) (by kernel_rfl) (fun _ _ => by kernel_rfl) (fun _ _ _ h => h) hS ?_
        refine rg_take 5 (some 19) (.bool false) (by kernel_rfl) (fun _ _ => by kernel_rfl) (fun _ _ _ h => h) hS ?_
        refine rg_take 6 (some 20) (.slice (some ⟨b, 0, none⟩) n c) (by kernel_rfl) (fun _ _ => by kernel_rfl) (fun _ _ _ h => h) hS ?_
        refine rg_take 7 (some 21) (.int .i64 (j + 1)) (by kernel_rfl) (fun _ _ => by kernel_rfl) (fun _ _ _ h => h) hS ?_
        refine rg_take 8 (some 22) (.pointer (some ⟨b, (j + 1), none⟩)) (by kernel_rfl) (fun _ _ => run_ii (x := 20) (y := 21) (n := n) (c := c) (by kernel_rfl) (by kernel_rfl) (by kernel_rfl) (rfl) (by omega)) (fun _ _ _ h => h) hS ?_
        refine rg_load 9 (some 23) (.int .i64 z) 3 22 (b) ((j + 1)) (by kernel_rfl) (by kernel_rfl) (by kernel_rfl) (fun w' h => ld_i h.1) (fun _ _ _ h => h) hS ?_
        refine rg_eq 10 (some 24) (.bool (decide (32 < z))) (.bool false) (by rw [decide_eq_false (by omega)]) (by kernel_rfl) (fun _ _ => by kernel_rfl) (fun _ _ _ h => h) hS ?_
        refine rg_take 11 (some 25) (.bool false) (by kernel_rfl) (fun _ _ => by kernel_rfl) (fun _ _ _ h => h) hS ?_
        refine rg_take 12 (some 26) (.bool false) (by kernel_rfl) (fun _ _ => by kernel_rfl) (fun _ _ _ h => h) hS ?_
        refine rg_take 13 (some 27) (.int .i64 (j + 1)) (by kernel_rfl) (fun _ _ => by kernel_rfl) (fun _ _ _ h => h) hS ?_
        refine rg_eq 14 (some 28) (.bool (decide (0 < ((j + 1 : Nat) : Int)))) (.bool true) (by rw [decide_eq_true (by omega)]) (by kernel_rfl) (fun _ _ => by kernel_rfl) (fun _ _ _ h => h) hS ?_
        refine rg_take 15 (some 29) (.bool true) (by kernel_rfl) (fun _ _ => by kernel_rfl) (fun _ _ _ h => h) hS ?_
        refine rg_take 16 (some 30) (.slice (some ⟨b, 0, none⟩) n c) (by kernel_rfl) (fun _ _ => by kernel_rfl) (fun _ _ _ h => h) hS ?_
        refine rg_take 17 (some 31) (.int .i64 (j + 1)) (by kernel_rfl) (fun _ _ => by kernel_rfl) (fun _ _ _ h => h) hS ?_
        refine rg_eq 18 (some 32) (.int .i64 (IntKind.i64.wrap (((j + 1 : Nat) : Int) - 1))) (.int .i64 j) (by rw [show IntKind.i64.wrap (((j + 1 : Nat) : Int) - 1) = (j : Int) by rw [IntKind.wrap_i64]; omega]) (by kernel_rfl) (fun _ _ => by kernel_rfl) (fun _ _ _ h => h) hS ?_
        refine rg_take 19 (some 33) (.pointer (some ⟨b, j, none⟩)) (by kernel_rfl) (fun _ _ => run_ii (x := 30) (y := 32) (n := n) (c := c) (by kernel_rfl) (by kernel_rfl) (by kernel_rfl) (rfl) (by omega)) (fun _ _ _ h => h) hS ?_
        refine rg_load 20 (some 34) (.int .i64 y) 3 33 (b) (j) (by kernel_rfl) (by kernel_rfl) (by kernel_rfl) (fun w' h => ld_i h.2) (fun _ _ _ h => h) hS ?_
        refine rg_take 21 (some 35) (.slice (some ⟨b, 0, none⟩) n c) (by kernel_rfl) (fun _ _ => by kernel_rfl) (fun _ _ _ h => h) hS ?_
        refine rg_take 22 (some 36) (.int .i64 (j + 1)) (by kernel_rfl) (fun _ _ => by kernel_rfl) (fun _ _ _ h => h) hS ?_
        refine rg_take 23 (some 37) (.pointer (some ⟨b, (j + 1), none⟩)) (by kernel_rfl) (fun _ _ => run_ii (x := 35) (y := 36) (n := n) (c := c) (by kernel_rfl) (by kernel_rfl) (by kernel_rfl) (rfl) (by omega)) (fun _ _ _ h => h) hS ?_
        refine rg_load 24 (some 38) (.int .i64 z) 3 37 (b) ((j + 1)) (by kernel_rfl) (by kernel_rfl) (by kernel_rfl) (fun w' h => ld_i h.1) (fun _ _ _ h => h) hS ?_
        refine rg_eq 25 (some 39) (.int .i64 (IntKind.i64.wrap (y + z))) (.int .i64 (y + z)) (by rw [show IntKind.i64.wrap (y + z) = y + z by rw [IntKind.wrap_i64]; omega]) (by kernel_rfl) (fun _ _ => by kernel_rfl) (fun _ _ _ h => h) hS ?_
        refine rg_eq 26 (some 40) (.bool (decide (y + z < 17))) (.bool false) (by rw [decide_eq_false (by omega)]) (by kernel_rfl) (fun _ _ => by kernel_rfl) (fun _ _ _ h => h) hS ?_
        refine rg_take 27 (some 41) (.bool false) (by kernel_rfl) (fun _ _ => by kernel_rfl) (fun _ _ _ h => h) hS ?_
        refine rg_take 28 (some 42) (.bool false) (by kernel_rfl) (fun _ _ => by kernel_rfl) (fun _ _ _ h => h) hS ?_
        refine rg_done (by kernel_rfl) ?_
        simp only [Act.put, List.setIfInBounds_toArray, List.set_cons_zero, List.set_cons_succ]
        -- RJ END
        go_wp2
        go_roundw
        case rel => exact ⟨j + 1 + 1, by omega, by go_num, by rw [HT.out], below_drewK hbe 1⟩
        case measure => simp [intOf]; omega
    · have hkn : k = n := by omega
      have HT : Hid (s = Z.sum) := by
        show _ = _
        rw [← hs.out, List.take_of_length_le (by have := hnn.out; omega)]
      have hk0 : ¬ ((k : Int) < n) := by omega
      have HK : Hid _ := hkn
      have HL : Hid _ := hlt
      clear hkn hlt
      have hbb := joinB HB1.out hbe
      have t3 := t2 wr hbb
      go_wp2_with (go_at_call 29; refine t3.mono ?_; rintro e w5 ⟨rfl, rfl⟩)
      go_ret
      exact ⟨by rw [HT.out]; simp, hbb⟩
end Pg
end Go.Proofs.Ytjnjkgakdnjlmaa

namespace Go.Proofs.Ytjnjkgakdnjlmaa
namespace Pg
theorem Ord.pair {P : List (List En)} (h : Ord P) : (∀ es ∈ P, es.Pairwise fun x y => Lt x.kl y.kl) ∧ P.Pairwise fun a b => ∀ x ∈ a, ∀ y ∈ b, Lt x.kl y.kl := by
  have := h.rise
  simp only [Srt, kys, List.pairwise_map, List.pairwise_flatten] at this
  exact this
theorem Ord.of {P : List (List En)} (h0 : ∀ es ∈ P, es ≠ []) (h : P.flatten.Pairwise fun x y => Lt x.kl y.kl) : Ord P := ⟨h0, by simpa only [Srt, kys, List.pairwise_map] using h⟩
theorem Ord.two {P : List (List En)} (h : Ord P) {i j : Nat} {a b : List En} {x y : En} (hij : i < j) (ha : P[i]? = some a) (hb : P[j]? = some b) (hx : x ∈ a) (hy : y ∈ b) : Lt x.kl y.kl := by
  obtain ⟨h1, rfl⟩ := List.getElem?_eq_some_iff.1 ha
  obtain ⟨h2, rfl⟩ := List.getElem?_eq_some_iff.1 hb
  exact List.pairwise_iff_getElem.1 h.pair.2 i j h1 h2 hij x hx y hy
theorem Ord.head {P : List (List En)} (h : Ord P) {i : Nat} {a : List En} (ha : P[i]? = some a) : ∃ e, e ∈ a ∧ (fks P)[i]? = some e.kl ∧ ∀ x ∈ a, ¬ Lt x.kl e.kl := by
  have hm := List.mem_of_getElem? ha
  obtain ⟨e, l, rfl, he⟩ := mem_head (h.full a hm)
  refine ⟨e, List.mem_cons_self, by rw [fks, List.getElem?_map, ha]; simp [kys], fun x hx => ?_⟩
  rcases List.mem_cons.1 hx with rfl | hx
  · exact lt_irrefl _
  · exact ((List.pairwise_cons.1 (h.pair.1 _ hm)).1 x hx).not
theorem kys_at {es : List En} {j : Nat} {e : En} (h : es[j]? = some e) : (kys es)[j]? = some e.kl := by
  rw [kys, List.getElem?_map, h]; rfl
/-- a key's place parts the entries: smaller ones ahead, none behind -/
theorem Ord.parts {P : List (List En)} (O : Ord P) (hP : P ≠ []) (k : List Int) : ∃ A es B, P = A ++ es :: B ∧ A.length = pgi P k ∧ P.getD (pgi P k) [] = es ∧
    (∀ e ∈ A.flatten ++ es.take (plc (kys es) k), Lt e.kl k) ∧ (∀ e ∈ es.drop (plc (kys es) k), ¬ Lt e.kl k) ∧ (∀ e ∈ B.flatten, Lt k e.kl) := by
  have hi : pgi P k < P.length := by
    have := plq_le (fks P) k
    have : (fks P).length = P.length := by simp [fks]
    have : P.length ≠ 0 := fun e => hP (List.eq_nil_of_length_eq_zero e)
    unfold pgi
    omega
  obtain ⟨i, hii⟩ : ∃ i, pgi P k = i := ⟨_, rfl⟩
  rw [hii] at hi ⊢
  have hg : P[i]? = some P[i] := List.getElem?_eq_getElem hi
  refine ⟨P.take i, P[i], P.drop (i + 1), ?_, by rw [List.length_take]; omega, by rw [List.getD_eq_getElem?_getD, hg]; rfl, fun e he => ?_, fun e he => ?_, fun e he => ?_⟩
  · conv => lhs; rw [← List.take_append_drop i P, List.drop_eq_getElem_cons hi]
  · rcases List.mem_append.1 he with he | he
    · obtain ⟨a, ha, hea⟩ := List.mem_flatten.1 he
      obtain ⟨j, hj⟩ := List.getElem?_of_mem ha
      have hji : j < i := by have := (List.getElem?_eq_some_iff.1 hj).1; rw [List.length_take] at this; omega
      rw [List.getElem?_take_of_lt hji] at hj
      have hj1 : P[j + 1]? = some P[j + 1] := List.getElem?_eq_getElem (by omega)
      obtain ⟨h, h1, h2, h3⟩ := O.head hj1
      have hlt := O.two (Nat.lt_succ_self j) hj hj1 hea h1
      exact hlt.of_le (plq_lt (by unfold pgi at hii; omega) h2)
    · obtain ⟨j, hj⟩ := List.getElem?_of_mem he
      have hjq : j < plc (kys P[i]) k := by have := (List.getElem?_eq_some_iff.1 hj).1; rw [List.length_take] at this; omega
      rw [List.getElem?_take_of_lt hjq] at hj
      exact plc_lt hjq (by rw [kys, List.getElem?_map, hj]; rfl)
  · obtain ⟨j, hj⟩ := List.getElem?_of_mem he
    rw [List.getElem?_drop] at hj
    have hq : plc (kys P[i]) k < P[i].length := by have := (List.getElem?_eq_some_iff.1 hj).1; omega
    have h0 := plc_ge (l := kys P[i]) (k := k) (x := (P[i][plc (kys P[i]) k]).kl) (kys_at (List.getElem?_eq_getElem hq))
    cases j with
    | zero =>
      rw [Nat.add_zero, List.getElem?_eq_getElem hq] at hj
      cases hj
      exact h0
    | succ j =>
      intro hl
      have := (O.page hg).get (i := plc (kys P[i]) k) (j := plc (kys P[i]) k + (j + 1)) (x := (P[i][plc (kys P[i]) k]).kl) (y := e.kl) (by omega) (kys_at (List.getElem?_eq_getElem hq)) (kys_at hj)
      exact h0 (this.trans hl)
  · obtain ⟨a, ha, hea⟩ := List.mem_flatten.1 he
    obtain ⟨j, hj⟩ := List.getElem?_of_mem ha
    rw [List.getElem?_drop] at hj
    obtain ⟨h, h1, h2, h3⟩ := O.head hj
    have hk : Lt k h.kl := by
      have hq : plq (fks P) k < (fks P).length := by
        have := (List.getElem?_eq_some_iff.1 h2).1
        unfold pgi at hii
        omega
      have g0 := plq_ge (l := fks P) (k := k) (x := (fks P)[plq (fks P) k]) (List.getElem?_eq_getElem hq)
      by_cases e : plq (fks P) k = i + 1 + j
      · have g1 : (fks P)[plq (fks P) k]? = some h.kl := by rw [e]; exact h2
        rw [List.getElem?_eq_getElem hq] at g1
        rw [← Option.some.inj g1]
        exact g0
      · exact g0.trans (O.heads.get (by unfold pgi at hii; omega) (List.getElem?_eq_getElem hq) h2)
    exact hk.of_le (h3 e hea)
theorem ins_parts (A B : List (List En)) (es : List En) (q : Nat) (e : En) : insQ (A ++ es :: B) A.length q e =
    if 32 < es.length + 1 then A ++ (es.take q ++ [e] ++ es.drop q).take 16 :: (es.take q ++ [e] ++ es.drop q).drop 16 :: B else A ++ (es.take q ++ [e] ++ es.drop q) :: B := by
  have e1 : (A ++ es :: B).getD A.length [] = es := by simp
  have e2 : (es.take q ++ [e] ++ es.drop q).length = es.length + 1 := by
    simp only [List.length_append, List.length_take, List.length_drop, List.length_cons, List.length_nil]; omega
  unfold insQ
  simp only [e1, e2]
  split
  · simp
  · simp
theorem ins_flatten (A B : List (List En)) (es : List En) (q : Nat) (e : En) : (insQ (A ++ es :: B) A.length q e).flatten = A.flatten ++ es.take q ++ e :: (es.drop q ++ B.flatten) := by
  rw [ins_parts]
  split
  · rw [List.flatten_append, List.flatten_cons, List.flatten_cons, ← List.append_assoc (List.take 16 _), List.take_append_drop]
    simp
  · simp
/-- entries that rise stay so with one more at its place -/
theorem rise_ins {X Y : List En} {e : En} (h : (X ++ Y).Pairwise fun x y => Lt x.kl y.kl) (h1 : ∀ x ∈ X, Lt x.kl e.kl) (h2 : ∀ y ∈ Y, Lt e.kl y.kl) : (X ++ e :: Y).Pairwise fun x y => Lt x.kl y.kl := by
  rw [List.pairwise_append] at h ⊢
  refine ⟨h.1, List.pairwise_cons.2 ⟨h2, h.2.1⟩, fun x hx y hy => ?_⟩
  rcases List.mem_cons.1 hy with rfl | hy
  · exact h1 x hx
  · exact h.2.2 x hx y hy
theorem Ord.flat {P : List (List En)} (O : Ord P) : P.flatten.Pairwise fun x y => Lt x.kl y.kl := by
  simpa only [Srt, kys, List.pairwise_map] using O.rise
/-- a key is there if and only if it is one of the entries' -/
theorem has_iff {P : List (List En)} (O : Ord P) (k : List Int) : has P k = true ↔ k ∈ kys P.flatten := by
  by_cases hP : P = []
  · subst hP; simp [has, kys]
  obtain ⟨A, es, B, e1, e2, e3, h1, h2, h4⟩ := O.parts hP k
  have hes : es ∈ P := by rw [e1]; simp
  obtain ⟨i, hi⟩ := List.getElem?_of_mem hes
  have e4 : P.isEmpty = false := by simpa using hP
  unfold has
  rw [e3, e4, Bool.not_false, Bool.true_and, thr_iff (O.page hi)]
  constructor
  · intro h
    obtain ⟨e, he, rfl⟩ := List.mem_map.1 h
    exact List.mem_map.2 ⟨e, List.mem_flatten.2 ⟨es, hes, he⟩, rfl⟩
  · intro h
    obtain ⟨e, he, rfl⟩ := List.mem_map.1 h
    refine List.mem_map.2 ⟨e, ?_, rfl⟩
    rw [e1, List.flatten_append, List.flatten_cons] at he
    rcases List.mem_append.1 he with he | he
    · exact absurd (h1 e (List.mem_append_left _ he)) (lt_irrefl _)
    · rcases List.mem_append.1 he with he | he
      · exact he
      · exact absurd (h4 e he) (lt_irrefl _)
/-- what stands at a key's place or behind it is above a key that isn't there -/
theorem above {es : List En} {k : List Int} (hs : Srt (kys es)) (h : ∀ e ∈ es.drop (plc (kys es) k), ¬ Lt e.kl k) (hn : thr (kys es) k = false) : ∀ e ∈ es.drop (plc (kys es) k), Lt k e.kl := fun e he => by
  rcases lt_tri k e.kl with h1 | h1 | h1
  · exact h1
  · exfalso
    have : k ∈ kys es := List.mem_map.2 ⟨e, List.mem_of_mem_drop he, h1.symm⟩
    rw [(thr_iff hs).2 this] at hn
    cases hn
  · exact absurd h1 (h e he)
theorem has_thr {P : List (List En)} (hP : P ≠ []) (k : List Int) : has P k = thr (kys (P.getD (pgi P k) [])) k := by
  have e4 : P.isEmpty = false := by simpa using hP
  unfold has
  rw [e4, Bool.not_false, Bool.true_and]
/-- Set of a key that isn't there: where it comes to stand -/
theorem set_ins {P : List (List En)} (O : Ord P) (hP : P ≠ []) {e : En} (hn : has P e.kl = false) : ∃ A es B X Y, P = A ++ es :: B ∧ es = X ++ Y ∧ setQ P e = (if 32 < es.length + 1 then A ++ (X ++ e :: Y).take 16 :: (X ++ e :: Y).drop 16 :: B else A ++ (X ++ e :: Y) :: B) ∧
    (∀ x ∈ A.flatten ++ X, Lt x.kl e.kl) ∧ (∀ x ∈ Y ++ B.flatten, Lt e.kl x.kl) := by
  obtain ⟨A, es, B, e1, e2, e3, h1, h2, h4⟩ := O.parts hP e.kl
  have hes : es ∈ P := by rw [e1]; simp
  obtain ⟨i, hi⟩ := List.getElem?_of_mem hes
  rw [has_thr hP, e3] at hn
  have h3 := above (O.page hi) h2 hn
  refine ⟨A, es, B, es.take (plc (kys es) e.kl), es.drop (plc (kys es) e.kl), e1, (List.take_append_drop _ _).symm, ?_, h1, fun x hx => (List.mem_append.1 hx).elim (h3 x) (h4 x)⟩
  unfold setQ
  rw [if_neg hP]
  simp only [e3, hn, Bool.false_eq_true, if_false]
  rw [← e2]
  conv => lhs; rw [e1]
  rw [ins_parts]
  simp only [List.append_assoc, List.cons_append, List.nil_append]
theorem Ord.ins {P : List (List En)} (O : Ord P) {e : En} (hn : has P e.kl = false) : Ord (setQ P e) := by
  by_cases hP : P = []
  · subst hP
    exact ⟨fun es h => by simp [setQ] at h; simp [h], by simp [setQ, Srt, kys]⟩
  obtain ⟨A, es, B, X, Y, e1, e2, e3, h1, h2⟩ := set_ins O hP hn
  have hr : (A.flatten ++ X ++ e :: (Y ++ B.flatten)).Pairwise fun x y => Lt x.kl y.kl := by
    refine rise_ins ?_ h1 h2
    have := O.flat
    rw [e1, e2, List.flatten_append, List.flatten_cons] at this
    simpa only [List.append_assoc] using this
  have hl : (X ++ e :: Y).length = es.length + 1 := by rw [e2]; simp; omega
  rw [e3]
  split
  · rename_i h32
    refine Ord.of (fun a ha => ?_) ?_
    · rcases List.mem_append.1 ha with ha | ha
      · exact O.full a (by rw [e1]; exact List.mem_append_left _ ha)
      · rcases List.mem_cons.1 ha with rfl | ha
        · exact fun h => by have := congrArg List.length h; rw [List.length_take, hl] at this; simp at this
        · rcases List.mem_cons.1 ha with rfl | ha
          · exact fun h => by have := congrArg List.length h; rw [List.length_drop, hl] at this; simp at this; omega
          · exact O.full a (by rw [e1]; exact List.mem_append_right _ (List.mem_cons_of_mem _ ha))
    · rw [List.flatten_append, List.flatten_cons, List.flatten_cons, ← List.append_assoc (List.take 16 _), List.take_append_drop]
      simpa only [List.append_assoc, List.cons_append] using hr
  · refine Ord.of (fun a ha => ?_) ?_
    · rcases List.mem_append.1 ha with ha | ha
      · exact O.full a (by rw [e1]; exact List.mem_append_left _ ha)
      · rcases List.mem_cons.1 ha with rfl | ha
        · simp
        · exact O.full a (by rw [e1]; exact List.mem_append_right _ (List.mem_cons_of_mem _ ha))
    · rw [List.flatten_append, List.flatten_cons]
      simpa only [List.append_assoc, List.cons_append] using hr
/-- a key that is there: at which entry -/
theorem Ord.at {P : List (List En)} (O : Ord P) {k : List Int} (hk : has P k = true) : ∃ A es B X x Y, P = A ++ es :: B ∧ es = X ++ x :: Y ∧ x.kl = k ∧ A.length = pgi P k ∧ P.getD (pgi P k) [] = es ∧ X.length = plc (kys es) k ∧
    (∀ y ∈ A.flatten ++ X, Lt y.kl k) ∧ (∀ y ∈ Y ++ B.flatten, Lt k y.kl) := by
  have hP : P ≠ [] := fun e => by subst e; simp [has] at hk
  obtain ⟨A, es, B, e1, e2, e3, h1, h2, h4⟩ := O.parts hP k
  have hes : es ∈ P := by rw [e1]; simp
  obtain ⟨i, hi⟩ := List.getElem?_of_mem hes
  rw [has_thr hP, e3] at hk
  obtain ⟨x, hx, hxk⟩ := thr_get hk
  have hq := (List.getElem?_eq_some_iff.1 hx).1
  have e5 : es = es.take (plc (kys es) k) ++ x :: es.drop (plc (kys es) k + 1) := by
    conv => lhs; rw [← List.take_append_drop (plc (kys es) k) es, List.drop_eq_getElem_cons hq]
    rw [(List.getElem?_eq_some_iff.1 hx).2]
  refine ⟨A, es, B, _, x, _, e1, e5, hxk, e2, e3, by rw [List.length_take]; omega, h1, fun y hy => ?_⟩
  rcases List.mem_append.1 hy with hy | hy
  · have := O.pair.1 es hes
    rw [e5, List.pairwise_append, List.pairwise_cons] at this
    rw [← hxk]
    exact this.2.1.1 y hy
  · exact h4 y hy
theorem modify_mid {α : Type} (f : α → α) : ∀ (X Y : List α) (x : α), (X ++ x :: Y).modify X.length f = X ++ f x :: Y
  | [], _, _ => rfl
  | a :: X, Y, x => by
    show (a :: (X ++ x :: Y)).modify (X.length + 1) f = _
    rw [List.modify_succ_cons, modify_mid f X Y x]; rfl
theorem set_upd {P : List (List En)} (O : Ord P) {e : En} (hk : has P e.kl = true) : ∃ A es B X x Y, P = A ++ es :: B ∧ es = X ++ x :: Y ∧ x.kl = e.kl ∧ setQ P e = A ++ (X ++ { x with vv := e.vv, vl := e.vl } :: Y) :: B := by
  have hP : P ≠ [] := fun h => by subst h; simp [has] at hk
  obtain ⟨A, es, B, X, x, Y, e1, e2, e3, e4, e5, e6, _⟩ := O.at hk
  refine ⟨A, es, B, X, x, Y, e1, e2, e3, ?_⟩
  rw [has_thr hP, e5] at hk
  unfold setQ
  rw [if_neg hP]
  simp only [e5, hk, if_true]
  rw [← e6, ← e4]
  conv => lhs; rw [e1]
  rw [List.set_append_right _ _ (Nat.le_refl _), Nat.sub_self, List.set_cons_zero, e2, modify_mid]
theorem Ord.upd {P : List (List En)} (O : Ord P) {e : En} (hk : has P e.kl = true) : Ord (setQ P e) := by
  obtain ⟨A, es, B, X, x, Y, e1, e2, e3, e4⟩ := set_upd O hk
  rw [e4]
  have h0 := O.rise
  rw [e1, e2] at h0
  refine ⟨fun a ha => ?_, by simpa [kys, Srt] using h0⟩
  rcases List.mem_append.1 ha with ha | ha
  · exact O.full a (by rw [e1]; exact List.mem_append_left _ ha)
  · rcases List.mem_cons.1 ha with rfl | ha
    · simp
    · exact O.full a (by rw [e1]; exact List.mem_append_right _ (List.mem_cons_of_mem _ ha))
theorem Ord.set {P : List (List En)} (O : Ord P) (e : En) : Ord (setQ P e) := by
  cases h : has P e.kl
  · exact O.ins h
  · exact O.upd h
end Pg
end Go.Proofs.Ytjnjkgakdnjlmaa
