/- rising: the iterator over a map's entries. -/
import Derived.Test.YtplminnejheceaaPgY
import Derived.Shelf.Abstract
import Derived.Shelf.RegionOpen
import Derived.OwnWalkIn
import Derived.TacticsInMore
import Derived.LoopNIn
import Derived.LoopIn
namespace Go.Proofs.Ytplminnejheceaa
namespace Pg
open Go.RowKit Go.Lib
attribute [local go_sem] Oper.semAt_some
theorem OB.chg {w w' : World} {D X : Nat → Prop} {v : Value} {l : List Int} (h : OB w D v l) (hc : Chg X w w') (hX : ∀ b, X b → ∀ cs, ¬ Blk w b cs 5) : OB w' D v l := by
  refine ⟨h.oct, h.ex.imp id ?_⟩
  rintro ⟨b, c, e, hd, hR⟩
  obtain ⟨cs, k⟩ := hR.kind
  exact ⟨b, c, e, hd, hR.chg hc fun x => hX b x cs k⟩
/-- what a walk over a map leans on -/
structure Wk (W : World) (X F D : Nat → Prop) (g : Nat) (L : List Pg) (bm bf bt : Nat) (fv tv : Value) (f t : List Int) : Prop where
  map : MapA W F D g L
  ord : Ord (ens L)
  few : ∀ es ∈ ens L, es.length ≤ 32
  big : L.length ≤ 100000000
  xF : ∀ b, X b → ¬ F b
  xU : ∀ b, X b → ∀ cs, ¬ Blk W b cs 5
  boxm : Blk W bm [.pointer (some ⟨g, 0, none⟩)] 58 ∧ ¬ X bm
  boxf : Blk W bf [fv] 32 ∧ ¬ X bf
  boxt : Blk W bt [tv] 32 ∧ ¬ X bt
  byf : ∃ Df, OB W Df fv f
  byt : ∃ Dt, OB W Dt tv t
theorem Wk.at {W V : World} {X F D : Nat → Prop} {g : Nat} {L : List Pg} {bm bf bt : Nat} {fv tv : Value} {f t : List Int} (h : Wk W X F D g L bm bf bt fv tv f t) (hc : Chg X W V) : MapA V F D g L ∧ By V fv f ∧ By V tv t ∧ V.cell? ⟨bm, 0, none⟩ = some (.pointer (some ⟨g, 0, none⟩)) ∧ V.cell? ⟨bf, 0, none⟩ = some fv ∧ V.cell? ⟨bt, 0, none⟩ = some tv := by
  obtain ⟨Df, hf⟩ := h.byf
  obtain ⟨Dt, ht⟩ := h.byt
  exact ⟨h.map.chg hc h.xF h.xU, (hf.chg hc h.xU).by, (ht.chg hc h.xU).by, (h.boxm.1.chg hc h.boxm.2).cell (i := 0) rfl, (h.boxf.1.chg hc h.boxf.2).cell (i := 0) rfl, (h.boxt.1.chg hc h.boxt.2).cell (i := 0) rfl⟩
theorem cut_mem {α : Type} {l : List α} {a b : Nat} {x : α} (h : x ∈ cut l a b) : x ∈ l := List.mem_of_mem_drop (List.mem_of_mem_take h)
/-- entries of pages, behind k of them -/
theorem flatMap_take {α β : Type} (l : List α) (f : α → List β) (k : Nat) (x : α) (h : l[k]? = some x) : (l.take (k + 1)).flatMap f = (l.take k).flatMap f ++ f x := by
  rw [List.take_add_one, h]; simp
theorem flatMap_at {α β : Type} (l : List α) (f : α → List β) (k j : Nat) (x : α) (y : β) (h : l[k]? = some x) (hj : (f x)[j]? = some y) : (l.flatMap f)[((l.take k).flatMap f).length + j]? = some y := by
  have hk := (List.getElem?_eq_some_iff.1 h).1
  have e : l.flatMap f = (l.take k).flatMap f ++ (f x ++ (l.drop (k + 1)).flatMap f) := by
    conv => lhs; rw [← List.take_append_drop (k + 1) l, List.flatMap_append, flatMap_take l f k x h]
    rw [List.append_assoc]
  rw [e, List.getElem?_append_right (by omega), Nat.add_sub_cancel_left, List.getElem?_append_left (List.getElem?_eq_some_iff.1 hj).1]
  exact hj
set_option maxHeartbeats 4000000 in
set_option maxRecDepth 100000 in
theorem rising_itr {Tp : TypeId → Prop} {W0 : World} {X F D : Nat → Prop} {g : Nat} {L : List Pg} {bm bf bt : Nat} {fv tv : Value} {f t : List Int} (K : Wk W0 X F D g L bm bf bt fv tv f t) :
    Itr Tp 74 #[.pointer (some ⟨bm, 0, none⟩), .pointer (some ⟨bf, 0, none⟩), .pointer (some ⟨bt, 0, none⟩)] (wlk (ens L) f t).length (fun i args _ _ => ∃ e, (wlk (ens L) f t)[i]? = some e ∧ args = #[.agg #[e.kv, e.vv]]) (fun V => Chg X W0 V) := by
  intro l J Jx W hJ hJx hRd hY h0
  obtain ⟨Am, hf, ht, cm, cf, ct⟩ := K.at (hRd 0 W h0)
  have tS := span_any Am K.ord hf ht K.big
  obtain ⟨Q, hQ⟩ : ∃ Q, Hid (cut L (pgi (ens L) f) (spanE (ens L) t) = Q) := ⟨_, rfl⟩
  rw [hQ.out] at tS
  have hQe : Hid (wlk (ens L) f t = (ens Q).flatMap fun es => wth es f t) := by
    show _ = _
    rw [← hQ.out]
    unfold wlk cut ens
    rw [List.map_take, List.map_drop]
  have hQm : ∀ p ∈ Q, p ∈ L := fun p hp => by rw [← hQ.out] at hp; exact List.mem_of_mem_drop (List.mem_of_mem_take hp)
  obtain ⟨E, hE⟩ : ∃ E, Hid (wlk (ens L) f t = E) := ⟨_, rfl⟩
  rw [hE.out] at hY ⊢
  have hQe2 : Hid (E = (ens Q).flatMap fun es => wth es f t) := by show _ = _; rw [← hE.out]; exact hQe.out
  refine (callsIn_wide (n := 0)).1 ?_
  refine callsIn_of_wp Try.func74 rfl trivial ?_ rfl
  simp only [Try.ntmps74, List.size_toArray, List.length_cons, List.length_nil, Nat.reduceAdd, Nat.reduceSub, Array.replicate_succ, Array.replicate_zero, List.push_toArray, List.append_toArray, List.nil_append, List.cons_append]
  gi_wp2_with (refine ⟨trivial, rfl, ?_⟩; gi_at_call 75; refine (callsIn_wide.2 tS).mono ?_; rintro e' w1 ⟨v1, rfl, hSp, hB1⟩; obtain ⟨ao, cc, rfl, hc1, hc2, hat⟩ := hSp.ex)
  have J1 := hJ 0 _ _ h0 (Rec.of hB1)
  clear tS h0 cm cf ct hf ht hSp
  have hat : Hid _ := hat
  have hWl : W.heap.size ≤ w1.heap.size := hB1.size
  have hCw : Hid (Chg X W0 w1) := hRd 0 _ J1
  obtain ⟨n, hnn⟩ : ∃ n, Hid (Q.length = n) := ⟨_, rfl⟩
  rw [hnn.out] at hc1 ⊢
  have hFlt : ∀ b, F b → b < W0.heap.size ∧ ¬ X b := fun b hb => ⟨K.map.lt hb, fun x => K.xF b x hb⟩
  have hcell : Hid (∀ j p, Q[j]? = some p → ∀ V, Chg X W0 V → ∃ b o, ao = some ⟨b, o, none⟩ ∧ V.cell? ⟨b, o + j, none⟩ = some p.v) := fun j p hj V hV => by
    obtain ⟨b, o, e, hF, hc⟩ := hat.out j p hj
    obtain ⟨h1, h2⟩ := hFlt b hF
    refine ⟨b, o, e, ?_⟩
    rw [World.cell?_of_block (w := W0) (a := ⟨b, o + j, none⟩) (hV.same b h1 h2), ← World.cell?_of_block (w := W0) (w' := w1) (a := ⟨b, o + j, none⟩) (hCw.out.same b h1 h2)]
    exact hc
  gi_loopw [14] (fun ti wr => ∃ a : Nat, a ≤ n ∧ ti = .int .i64 a ∧ W.heap.size ≤ wr.heap.size ∧ J ((((ens Q).take a).flatMap fun es => wth es f t).length) wr) (fun ti _ => n - (intOf ti).toNat)
  case atStart => exact ⟨0, Nat.zero_le _, rfl, hWl, J1⟩
  case round =>
    clear J1 hWl
    obtain ⟨a, ha, rfl, hsz, hJa⟩ := hrel
    by_cases hlt : a < n
    · obtain ⟨p, hp⟩ : ∃ p, Q[a]? = some p := ⟨Q[a]'(by have := hnn.out; omega), List.getElem?_eq_getElem _⟩
      obtain ⟨b, o, rfl, cP⟩ := hcell.out a p hp wr (hRd _ _ hJa)
      obtain ⟨Ap, hf, ht, cm, cf, ct⟩ := K.at (hRd _ _ hJa)
      have hpm := hQm p (List.mem_of_getElem? hp)
      have hpL : p.es ∈ ens L := List.mem_map.2 ⟨p, hpm, rfl⟩
      have hps := K.few _ hpL
      obtain ⟨pj, hpj⟩ := List.getElem?_of_mem hpL
      have tW := within_any (Ap.pages p hpm).1 (K.ord.page hpj) hf ht (by omega)
      have z1 : (a : Int) < n := by omega
      simp only [Pg.v] at cP tW
      gi_wp2_with (refine ⟨trivial, rfl, ?_⟩; gi_at_call 76; refine (callsIn_wide.2 tW).mono ?_; rintro e' w2 ⟨v2, rfl, hEs, hB2⟩; obtain ⟨ao2, cc2, rfl, hd1, hd2, hat2⟩ := hEs.ex)
      have J2 := hJ _ _ _ hJa (Rec.of hB2)
      have hsz2 : W.heap.size ≤ w2.heap.size := Nat.le_trans hsz hB2.size
      have hat2 : Hid _ := hat2
      have hCw2 : Hid (Chg X W0 w2) := hRd _ _ J2
      have hpF := (K.map.pages p hpm).2
      obtain ⟨es, hes⟩ : ∃ es, Hid (wth p.es f t = es) := ⟨_, rfl⟩
      rw [hes.out] at hd1 hat2 ⊢
      obtain ⟨m, hmm⟩ : ∃ m, Hid (es.length = m) := ⟨_, rfl⟩
      rw [hmm.out] at hd1 ⊢
      obtain ⟨bs, hbs⟩ : ∃ bs, Hid ((((ens Q).take a).flatMap fun es => wth es f t).length = bs) := ⟨_, rfl⟩
      rw [hbs.out] at J2
      have hcell2 : Hid (∀ j e, es[j]? = some e → ∀ V, Chg X W0 V → ∃ o, ao2 = some ⟨p.b, o, none⟩ ∧ V.cell? ⟨p.b, o + j * 2, none⟩ = some e.kv ∧ V.cell? ⟨p.b, o + j * 2 + 1, none⟩ = some e.vv) := fun j e hj V hV => by
        obtain ⟨o, e', hk, hv⟩ := hat2.out j e hj
        obtain ⟨h1, h2⟩ := hFlt p.b hpF
        have e1 : V.heap[p.b]? = w2.heap[p.b]? := (hV.same p.b h1 h2).trans (hCw2.out.same p.b h1 h2).symm
        exact ⟨o, e', by rw [World.cell?_of_block (w := w2) (a := ⟨p.b, o + j * 2, none⟩) e1]; exact hk, by rw [World.cell?_of_block (w := w2) (a := ⟨p.b, o + j * 2 + 1, none⟩) e1]; exact hv⟩
      have hEat : Hid (∀ j e, es[j]? = some e → E[bs + j]? = some e) := fun j e hj => by
        rw [hQe2.out, ← hbs.out]
        exact flatMap_at (ens Q) (fun es => wth es f t) a j p.es e (ens_get hp) (by rw [hes.out]; exact hj)
      clear hEs cm cf ct hf ht tW hat2 hB2 cP
      gi_loopw [23] (fun ti wv => ∃ c : Nat, c ≤ m ∧ ti = .int .i64 c ∧ W.heap.size ≤ wv.heap.size ∧ J (bs + c) wv) (fun ti _ => m - (intOf ti).toNat)
      case atStart => exact ⟨0, Nat.zero_le _, rfl, hsz2, J2⟩
      case round =>
        clear J2 hsz2
        rename World => wv
        obtain ⟨c, hc, rfl, hszv, hJc⟩ := hrel
        by_cases hltc : c < m
        · obtain ⟨e, he⟩ : ∃ e, es[c]? = some e := ⟨es[c]'(by have := hmm.out; omega), List.getElem?_eq_getElem _⟩
          obtain ⟨o2, rfl, ck, cv⟩ := hcell2.out c e he wv (hRd _ _ hJc)
          have z2 : (c : Int) < m := by omega
          have hem : e ∈ p.es := by
            have h1 := List.mem_of_getElem? he
            rw [← hes.out] at h1
            exact cut_mem h1
          have hEn := ((K.at (hRd _ _ hJc)).1.pages p hpm).1.ents e hem
          have hEi := hEat.out c e he
          have hbE : bs + c < E.length := (List.getElem?_eq_some_iff.1 hEi).1
          obtain ⟨ekv, ekl, evv, evl⟩ := e
          obtain ⟨ak, nk, hk1⟩ := hEn.k.shape
          obtain ⟨av, nv, hv1⟩ := hEn.v.shape
          simp only at hk1 hv1
          subst hk1 hv1
          have B3 := blk_new wv [.slice ak ekl.length nk, .slice av evl.length nv] 90
          have hb3 := below_alloc wv (.cells #[.slice ak ekl.length nk, .slice av evl.length nv] 90)
          have k3 := B3.cell (i := 0) rfl
          have v3 := B3.cell (i := 1) rfl
          obtain ⟨fn, tmps, assign, body, hy, hR⟩ := hY (bs + c) #[.agg #[.slice ak ekl.length nk, .slice av evl.length nv]] wv _ hbE hJc hszv hb3 ⟨_, hEi, rfl⟩
          have hs3 := hb3.size
          clear hEn B3 hb3 he hem hEi
          gi_wp2
          refine ⟨rfl, hR.mono ?_⟩
          rintro e' W4 ⟨hk4, ⟨rfl, hJ4⟩ | ⟨rfl, hJ4⟩⟩
          · gi_wp2
            go_roundw
            case rel => exact ⟨c + 1, by omega, by go_num, Nat.le_trans (Nat.le_trans hszv hs3) hk4.size, hJ4⟩
            case measure => simp [intOf]; omega
          · gi_wp2
            refine bodyPost_ret (results_none rfl _ _ _) rfl ?_
            exact ⟨⟨_, rfl⟩, Nat.le_trans (Nat.le_trans hszv hs3) hk4.size, .inr ⟨bs + c, hbE, hJ4⟩⟩
        · have hcm : c = m := by omega
          have HJ : Hid (J ((((ens Q).take (a + 1)).flatMap fun es => wth es f t).length) wv) := by
            show J _ wv
            rw [flatMap_take (ens Q) (fun es => wth es f t) a p.es (ens_get hp), List.length_append, hbs.out, hes.out, hmm.out, ← hcm]
            exact hJc
          have z2 : ¬ ((c : Int) < m) := by omega
          have HC : Hid _ := hcm
          clear hcm hJc
          gi_wp2
          go_roundw
          case rel => exact ⟨a + 1, by omega, by go_num, hszv, HJ.out⟩
          case measure => simp [intOf]; omega
    · have han : a = n := by omega
      have HJ : Hid (J E.length wr) := by
        show J _ wr
        have : (ens Q).take a = ens Q := List.take_of_length_le (by simp [ens]; have := hnn.out; omega)
        rw [this, ← hQe2.out] at hJa
        exact hJa
      have z1 : ¬ ((a : Int) < n) := by omega
      have HA : Hid _ := han
      clear han hJa
      gi_wp2
      go_end0
      exact ⟨⟨_, rfl⟩, hsz, .inl HJ.out⟩
end Pg
end Go.Proofs.Ytplminnejheceaa
