/- Several texts, joined: PgRa, PgRb, PgRc, PgRd, PgRe, PgRf0, PgRh, PgRg0, PgRi. -/
import Derived.Test.YtjnjkgakdnjlmaaJba
namespace Go.Proofs.Ytjnjkgakdnjlmaa
namespace Pg
open Go.RowKit Go.Lib
attribute [local go_sem] Oper.semAt_some
/-- a page of the document's map in memory -/
structure RpA (w : World) (D : Nat → Prop) (p : Pg) : Prop where
  row : Rw w 52 2 p.b p.es.length p.c (flat p.es)
  ents : ∀ e ∈ p.es, EnA w D e
theorem RpA.keep {w w' : World} {D : Nat → Prop} {p : Pg} (h : RpA w D p) (hb : Below w.heap.size w w') : RpA w' D p := ⟨h.row.keep hb, fun e he => (h.ents e he).keep hb⟩
/-- the document's map at block g: its own blocks are F's, its bytes lie in D's -/
structure RfM (w : World) (F D : Nat → Prop) (g : Nat) (L : List Pg) : Prop where
  top : ∃ pv, Blk w g [pv] 31 ∧ F g ∧ ((pv = .slice none 0 0 ∧ L = []) ∨ ∃ G C, pv = .slice (some ⟨G, 0, none⟩) L.length C ∧ F G ∧ Rw w 44 1 G L.length C (L.map Pg.v))
  pages : ∀ p ∈ L, RpA w D p ∧ F p.b
  apart : (L.map Pg.b).Nodup
  kind : ∀ b, F b → ∃ cs t, Blk w b cs t ∧ t ≠ 5
theorem RfM.lt {w : World} {F D : Nat → Prop} {g : Nat} {L : List Pg} (h : RfM w F D g L) {b : Nat} (hb : F b) : b < w.heap.size := by
  obtain ⟨cs, t, h, _⟩ := h.kind b hb
  exact h.lt
theorem RfM.same {w w' : World} {F D : Nat → Prop} {g : Nat} {L : List Pg} (h : RfM w F D g L) (h1 : ∀ b, F b → w'.heap[b]? = w.heap[b]?) (h2 : ∀ b, b < w.heap.size → D b → (∃ cs, Blk w b cs 5) → w'.heap[b]? = w.heap[b]?) : RfM w' F D g L := by
  obtain ⟨pv, hb, hg, hp⟩ := h.top
  have hob : ∀ {v : Value} {l : List Int}, OB w D v l → OB w' D v l := fun h => ⟨h.oct, h.ex.imp id (by
    rintro ⟨b, c, e, hd, hR⟩
    exact ⟨b, c, e, hd, hR.same (h2 b hR.lt hd hR.kind)⟩)⟩
  refine ⟨⟨pv, hb.same (h1 g hg), hg, hp.imp id ?_⟩, fun p hp => ?_, h.apart, fun b hb => ?_⟩
  · rintro ⟨G, C, e, hG, hR⟩
    exact ⟨G, C, e, hG, hR.same (h1 G hG)⟩
  · obtain ⟨hA, hF⟩ := h.pages p hp
    exact ⟨⟨hA.row.same (h1 _ hF), fun e he => ⟨hob (hA.ents e he).k, hob (hA.ents e he).v⟩⟩, hF⟩
  · obtain ⟨cs, t, hk, ht⟩ := h.kind b hb
    exact ⟨cs, t, hk.same (h1 b hb), ht⟩
theorem RfM.keep {w w' : World} {F D : Nat → Prop} {g : Nat} {L : List Pg} (h : RfM w F D g L) (hb : Below w.heap.size w w') : RfM w' F D g L := h.same (fun b hF => hb.block b (h.lt hF)) (fun b hl _ _ => hb.block b hl)
theorem RfM.rd {w : World} {F D : Nat → Prop} {g : Nat} {L : List Pg} (A : RfM w F D g L) : ∃ ao c, w.cell? ⟨g, 0, none⟩ = some (.slice ao L.length c) ∧ (∀ i p, L[i]? = some p → ∃ G, ao = some ⟨G, 0, none⟩ ∧ w.cell? ⟨G, i, none⟩ = some p.v) := by
  obtain ⟨pv, hb, hg, ⟨rfl, rfl⟩ | ⟨G, C, rfl, hG, hR⟩⟩ := A.top
  · exact ⟨_, _, hb.cell (i := 0) rfl, fun i p h => by simp at h⟩
  · exact ⟨_, C, hb.cell (i := 0) rfl, fun i p h => ⟨G, rfl, hR.cell (by simp [h])⟩⟩
/-- a page's key in memory -/
theorem RpA.key {w : World} {D : Nat → Prop} {p : Pg} (h : RpA w D p) {i : Nat} {e : En} (he : p.es[i]? = some e) : w.cell? ⟨p.b, i * 2, none⟩ = some e.kv ∧ EnA w D e := ⟨h.row.cell (flat_at he).1, h.ents e (List.mem_of_getElem? he)⟩
/-- the page of a key, told as find looks for it -/
theorem pgi_eq {P : List (List En)} (O : Ord P) {k : List Int} {p : Nat} (hp : p < P.length) (h1 : ∀ j x, 1 ≤ j → j ≤ p → (fks P)[j]? = some x → ¬ Lt k x) (h2 : ∀ x, (fks P)[p + 1]? = some x → Lt k x) : pgi P k = p := by
  have hl : (fks P).length = P.length := by simp [fks]
  unfold pgi
  have e0 : (fks P)[0]? = some ((fks P)[0]'(by omega)) := List.getElem?_eq_getElem _
  by_cases h0 : Lt k ((fks P)[0]'(by omega))
  · have hp0 : p = 0 := by
      rcases Nat.eq_zero_or_pos p with h | h
      · exact h
      · have e1 : (fks P)[1]? = some ((fks P)[1]'(by omega)) := List.getElem?_eq_getElem _
        exact (h1 1 _ (Nat.le_refl _) h e1 (h0.trans (O.heads.get (by decide) e0 e1))).elim
    subst hp0
    rw [plq_eq (i := 0) (Nat.zero_le _) (fun j x hj _ => by omega) (fun x hx => by rw [e0] at hx; cases hx; exact h0)]
  · rw [plq_eq (i := p + 1) (by omega) (fun j x hj hx => ?_) h2]
    · rfl
    · rcases Nat.eq_zero_or_pos j with h | h
      · subst h
        rw [e0] at hx
        cases hx
        exact h0
      · exact h1 j x h (by omega) hx
set_option maxHeartbeats 4000000 in
set_option maxRecDepth 100000 in
theorem rfind {w : World} {F D : Nat → Prop} {g : Nat} {L : List Pg} {p0 : Pg} {ka : Option Addr} {kc : Nat} {k : List Int} (A : RfM w F D g L) (O : Ord (ens L)) (hk : By w (.slice ka k.length kc) k) (hkl : k.length ≤ 1000000000) (hn : L.length ≤ 100000000) (hs : ∀ es ∈ ens L, es.length ≤ 32) (hb : ∀ es ∈ ens L, ∀ e ∈ es, e.kl.length ≤ 1000000000) (hp : L[pgi (ens L) k]? = some p0) :
    Calls Try.prog 35 #[.pointer (some ⟨g, 0, none⟩), .slice ka k.length kc] w fun e w' => e = .returned (.tuple #[.int .i64 (pgi (ens L) k), .int .i64 (plc (kys p0.es) k), .bool (thr (kys p0.es) k)]) ∧ Below w.heap.size w w' := by
  obtain ⟨ao, c, hc, hat⟩ := A.rd
  obtain ⟨G, rfl, _⟩ := hat _ _ hp
  have hgl := cell_lt hc
  obtain ⟨n, hnn⟩ : ∃ n, Hid (L.length = n) := ⟨_, rfl⟩
  rw [hnn.out] at hc hn
  obtain ⟨kn, hkn⟩ : ∃ kn, Hid (k.length = kn) := ⟨_, rfl⟩
  rw [hkn.out] at hk ⊢
  have HA : Hid _ := A
  have HO : Hid _ := O
  have HK : Hid _ := hk
  have HS : Hid _ := hs
  have HBG : Hid _ := hb
  have HP : Hid _ := hp
  have hat' : Hid (∀ i p, L[i]? = some p → w.cell? ⟨G, i, none⟩ = some (.slice (some ⟨p.b, 0, none⟩) p.es.length p.c)) := fun i p h => by
    obtain ⟨G', e, h'⟩ := hat i p h
    cases e
    exact h'
  have hc' : Hid _ := hc
  have hlen : Hid ((ens L).length = n) := by show _ = _; rw [← hnn.out]; simp [ens]
  have hpl : Hid (pgi (ens L) k < n) := by have := (List.getElem?_eq_some_iff.1 hp).1; rw [hnn.out] at this; exact this
  clear A O hk hs hb hp hat hc
  go_enter Try.func35, Try.ntmps35
  go_wp2_with fail
  go_loopw [7] (fun ti wr => ∃ p : Nat, p < n ∧ ti = .int .i64 p ∧ Hid (∀ j x, 1 ≤ j → j ≤ p → (fks (ens L))[j]? = some x → ¬ Lt k x) ∧ Hid (Below w.heap.size w wr)) (fun ti _ => n - (intOf ti).toNat)
  case atStart => exact ⟨0, by have := hpl.out; omega, rfl, fun j x h1 h2 => by omega, Below.refl _ _⟩
  case round =>
    obtain ⟨p, hp, rfl, HJ, HB⟩ := hrel
    have c0 : wr.cell? ⟨g, 0, none⟩ = some (.slice (some ⟨G, 0, none⟩) n c) := (HB.out.cell (p := ⟨g, 0, none⟩) hgl).trans hc'.out
    have hn0 : ¬ ((n : Int) = 0) := by omega
    by_cases hlt : p + 1 < n
    · obtain ⟨p1, hp1⟩ : ∃ p1, L[p + 1]? = some p1 := ⟨L[p + 1]'(by have := hnn.out; omega), List.getElem?_eq_getElem _⟩
      have hp1m := List.mem_of_getElem? hp1
      have hes : (ens L)[p + 1]? = some p1.es := by rw [ens, List.getElem?_map, hp1]; rfl
      have hne := HO.out.full p1.es (List.mem_of_getElem? hes)
      obtain ⟨e, es', hee, hhd⟩ := mem_head hne
      have hfk : (fks (ens L))[p + 1]? = some e.kl := by rw [fks, List.getElem?_map, hes, Option.map_some, hhd]
      have he : p1.es[0]? = some e := by rw [hee]; rfl
      have c1 : wr.cell? ⟨G, p + 1, none⟩ = some (.slice (some ⟨p1.b, 0, none⟩) p1.es.length p1.c) := (HB.out.cell (p := ⟨G, p + 1, none⟩) (cell_lt (hat'.out _ _ hp1))).trans (hat'.out _ _ hp1)
      obtain ⟨kc2, KE⟩ := (HA.out.pages p1 hp1m).1.key he
      have c2 : wr.cell? ⟨p1.b, 0, none⟩ = some e.kv := (HB.out.cell (p := ⟨p1.b, 0, none⟩) (cell_lt kc2)).trans (by simpa using kc2)
      have hlen1 : 0 < p1.es.length := by rw [hee]; simp
      obtain ⟨l1, hl1⟩ : ∃ l1, Hid (p1.es.length = l1) := ⟨_, rfl⟩
      rw [hl1.out] at c1 hlen1
      have HFK : Hid _ := hfk
      have HKE : Hid _ := KE
      obtain ⟨ek, ekl, ev, evl⟩ := e
      obtain ⟨a1, n1, e1⟩ := KE.k.shape
      simp only at e1 c2 HFK
      subst e1
      have u1 := less_by (HK.out.keep HB.out) (HKE.out.keep HB.out).k.by (by have := hkn.out; omega)
      have hlt0 : (p : Int) + 1 < n := by omega
      have hl10 : (0 : Int) < l1 := by omega
      clear kc2 KE he hee hhd hne hes hp1 hp1m hfk
      by_cases hl : Lt k ekl
      · rw [decide_eq_true hl] at u1
        have hpgi : Hid (pgi (ens L) k = p) := pgi_eq HO.out (by have := hlen.out; omega) HJ.out (fun x hx => by rw [HFK.out] at hx; cases hx; exact hl)
        clear hl
        go_wp2_with (go_at_call 28; refine u1.mono ?_; rintro e w5 ⟨rfl, B5⟩; have d3 := (B5.cell (p := ⟨g, 0, none⟩) (Nat.lt_of_lt_of_le hgl HB.out.size)).trans c0)
        have BW : Hid (Below w.heap.size w w5) := HB.out.trans (B5.mono HB.out.size)
        clear d3 B5 u1 c0 c1 c2
        have hb0 : ((n : Int) == 0) = false := by simp; omega
        try rw [hb0]
        clear hb0
        have hp0 : L[p]? = some p0 := by rw [← hpgi.out]; exact HP.out
        have hp0m := List.mem_of_getElem? hp0
        obtain ⟨m, hm⟩ : ∃ m, Hid (p0.es.length = m) := ⟨_, rfl⟩
        have hm32 : m ≤ 32 := by rw [← hm.out]; exact HS.out _ (List.mem_map.2 ⟨p0, hp0m, rfl⟩)
        have HG : Hid (w.cell? ⟨G, p, none⟩ = some (.slice (some ⟨p0.b, 0, none⟩) m p0.c)) := by rw [← hm.out]; exact hat'.out p p0 hp0
        have HPA : Hid _ := (HA.out.pages p0 hp0m).1
        have HBK : Hid _ := HBG.out p0.es (List.mem_map.2 ⟨p0, hp0m, rfl⟩)
        clear hp0 hp0m
        go_loopw [8] (fun ti wq => ∃ i : Nat, i ≤ m ∧ ti = .int .i64 i ∧ Hid (∀ j x, j < i → (kys p0.es)[j]? = some x → Lt x k) ∧ Hid (Below w.heap.size w wq)) (fun ti _ => m - (intOf ti).toNat)
        case atStart => exact ⟨0, Nat.zero_le _, rfl, fun j x h => by omega, BW⟩
        case round =>
          obtain ⟨i, hi, rfl, HI, HC⟩ := hrel
          have d0 : wr.cell? ⟨g, 0, none⟩ = some (.slice (some ⟨G, 0, none⟩) n c) := (HC.out.cell (p := ⟨g, 0, none⟩) hgl).trans hc'.out
          have d1 : wr.cell? ⟨G, p, none⟩ = some (.slice (some ⟨p0.b, 0, none⟩) m p0.c) := (HC.out.cell (p := ⟨G, p, none⟩) (cell_lt HG.out)).trans HG.out
          have hpn : (p : Int) < n := by omega
          by_cases hil : i < m
          · obtain ⟨e, he⟩ : ∃ e, p0.es[i]? = some e := ⟨p0.es[i]'(by have := hm.out; omega), List.getElem?_eq_getElem _⟩
            obtain ⟨kc2, KE⟩ := HPA.out.key he
            have d2 : wr.cell? ⟨p0.b, i * 2, none⟩ = some e.kv := (HC.out.cell (p := ⟨p0.b, i * 2, none⟩) (cell_lt kc2)).trans kc2
            have hel := HBK.out e (List.mem_of_getElem? he)
            have hek : (kys p0.es)[i]? = some e.kl := kys_at he
            have HEK : Hid _ := hek
            have HKE : Hid _ := KE
            obtain ⟨ek, ekl, ev, evl⟩ := e
            obtain ⟨a1, n1, e1⟩ := KE.k.shape
            simp only at e1 d2 hel HEK
            subst e1
            have hil0 : (i : Int) < m := by omega
            have u1 := less_by (HKE.out.keep HC.out).k.by (HK.out.keep HC.out) hel
            clear kc2 KE he hek
            by_cases hl : Lt ekl k
            · rw [decide_eq_true hl] at u1
              have HN : Hid (∀ j x, j < i + 1 → (kys p0.es)[j]? = some x → Lt x k) := fun j x hj hx => by
                rcases Nat.lt_or_ge j i with h | h
                · exact HI.out j x h hx
                · obtain rfl : j = i := by omega
                  rw [HEK.out] at hx
                  cases hx
                  exact hl
              clear hl
              go_wp2_with (go_at_call 28; refine u1.mono ?_; rintro e w5 ⟨rfl, B5⟩)
              go_roundw
              case rel => first | exact ⟨i + 1, by omega, by go_num, HN, HC.out.trans (B5.mono HC.out.size)⟩
              case measure => simp [intOf]; omega
            · rw [decide_eq_false hl] at u1
              have HPL : Hid (plc (kys p0.es) k = i) := plc_eq (by simp [kys]; have := hm.out; omega) HI.out (fun x hx => by rw [HEK.out] at hx; cases hx; exact hl)
              have HTH : Hid (thr (kys p0.es) k = decide (ekl = k)) := by
                show _ = _
                unfold thr
                rw [HPL.out, HEK.out]
                simp
              clear hl
              go_wp2_with first
                | (go_at_call 28; refine u1.mono ?_; rintro e w5 ⟨rfl, B5⟩; have B05 := HC.out.trans (B5.mono HC.out.size); have d3 := (B5.cell (p := ⟨g, 0, none⟩) (Nat.lt_of_lt_of_le hgl HC.out.size)).trans d0; have d4 := (B5.cell (p := ⟨G, p, none⟩) (cell_lt d1)).trans d1; have d5 := (B5.cell (p := ⟨p0.b, i * 2, none⟩) (cell_lt d2)).trans d2)
                | (go_at_call 18; refine (bytes_any (HKE.out.keep B05).k.by (HK.out.keep B05) hel (by have := hkn.out; omega)).mono ?_; rintro e w6 ⟨rfl, B6⟩)
              go_ret3
              rw [hpgi.out, HPL.out, HTH.out]
              exact ⟨rfl, B05.trans (B6.mono B05.size)⟩
          · obtain rfl : i = m := by omega
            have hln : (kys p0.es)[i]? = none := List.getElem?_eq_none (by simp [kys]; have := hm.out; omega)
            have HPL : Hid (plc (kys p0.es) k = i) := plc_eq (by simp [kys]; have := hm.out; omega) HI.out (fun x hx => by rw [hln] at hx; cases hx)
            have HTH : Hid (thr (kys p0.es) k = false) := by
              show _ = _
              unfold thr
              rw [HPL.out, hln]
              simp
            clear hln
            go_wp2
            go_ret3
            rw [hpgi.out, HPL.out, HTH.out]
            exact ⟨rfl, HC.out⟩
      · rw [decide_eq_false hl] at u1
        have HN : Hid (∀ j x, 1 ≤ j → j ≤ p + 1 → (fks (ens L))[j]? = some x → ¬ Lt k x) := fun j x h1 h2 hx => by
          rcases Nat.lt_or_ge j (p + 1) with h | h
          · exact HJ.out j x h1 (by omega) hx
          · obtain rfl : j = p + 1 := by omega
            rw [HFK.out] at hx
            cases hx
            exact hl
        clear hl
        go_wp2_with (go_at_call 28; refine u1.mono ?_; rintro e w5 ⟨rfl, B5⟩)
        go_roundw
        case rel => exact ⟨p + 1, by omega, by go_num, HN, HB.out.trans (B5.mono HB.out.size)⟩
        case measure => simp [intOf]; omega
    · have hpgi : Hid (pgi (ens L) k = p) := pgi_eq HO.out (by have := hlen.out; omega) HJ.out (fun x hx => by
        rw [List.getElem?_eq_none (by simp [fks]; have := hlen.out; omega)] at hx
        cases hx)
      have hlt0 : ¬ ((p : Int) + 1 < n) := by omega
      go_wp2_with fail
      have BW : Hid (Below w.heap.size w wr) := HB
      clear c0
      have hb0 : ((n : Int) == 0) = false := by simp; omega
      try rw [hb0]
      clear hb0
      have hp0 : L[p]? = some p0 := by rw [← hpgi.out]; exact HP.out
      have hp0m := List.mem_of_getElem? hp0
      obtain ⟨m, hm⟩ : ∃ m, Hid (p0.es.length = m) := ⟨_, rfl⟩
      have hm32 : m ≤ 32 := by rw [← hm.out]; exact HS.out _ (List.mem_map.2 ⟨p0, hp0m, rfl⟩)
      have HG : Hid (w.cell? ⟨G, p, none⟩ = some (.slice (some ⟨p0.b, 0, none⟩) m p0.c)) := by rw [← hm.out]; exact hat'.out p p0 hp0
      have HPA : Hid _ := (HA.out.pages p0 hp0m).1
      have HBK : Hid _ := HBG.out p0.es (List.mem_map.2 ⟨p0, hp0m, rfl⟩)
      clear hp0 hp0m
      go_loopw [8] (fun ti wq => ∃ i : Nat, i ≤ m ∧ ti = .int .i64 i ∧ Hid (∀ j x, j < i → (kys p0.es)[j]? = some x → Lt x k) ∧ Hid (Below w.heap.size w wq)) (fun ti _ => m - (intOf ti).toNat)
      case atStart => exact ⟨0, Nat.zero_le _, rfl, fun j x h => by omega, BW⟩
      case round =>
        obtain ⟨i, hi, rfl, HI, HC⟩ := hrel
        have d0 : wr.cell? ⟨g, 0, none⟩ = some (.slice (some ⟨G, 0, none⟩) n c) := (HC.out.cell (p := ⟨g, 0, none⟩) hgl).trans hc'.out
        have d1 : wr.cell? ⟨G, p, none⟩ = some (.slice (some ⟨p0.b, 0, none⟩) m p0.c) := (HC.out.cell (p := ⟨G, p, none⟩) (cell_lt HG.out)).trans HG.out
        have hpn : (p : Int) < n := by omega
        by_cases hil : i < m
        · obtain ⟨e, he⟩ : ∃ e, p0.es[i]? = some e := ⟨p0.es[i]'(by have := hm.out; omega), List.getElem?_eq_getElem _⟩
          obtain ⟨kc2, KE⟩ := HPA.out.key he
          have d2 : wr.cell? ⟨p0.b, i * 2, none⟩ = some e.kv := (HC.out.cell (p := ⟨p0.b, i * 2, none⟩) (cell_lt kc2)).trans kc2
          have hel := HBK.out e (List.mem_of_getElem? he)
          have hek : (kys p0.es)[i]? = some e.kl := kys_at he
          have HEK : Hid _ := hek
          have HKE : Hid _ := KE
          obtain ⟨ek, ekl, ev, evl⟩ := e
          obtain ⟨a1, n1, e1⟩ := KE.k.shape
          simp only at e1 d2 hel HEK
          subst e1
          have hil0 : (i : Int) < m := by omega
          have u1 := less_by (HKE.out.keep HC.out).k.by (HK.out.keep HC.out) hel
          clear kc2 KE he hek
          by_cases hl : Lt ekl k
          · rw [decide_eq_true hl] at u1
            have HN : Hid (∀ j x, j < i + 1 → (kys p0.es)[j]? = some x → Lt x k) := fun j x hj hx => by
              rcases Nat.lt_or_ge j i with h | h
              · exact HI.out j x h hx
              · obtain rfl : j = i := by omega
                rw [HEK.out] at hx
                cases hx
                exact hl
            clear hl
            go_wp2_with (go_at_call 28; refine u1.mono ?_; rintro e w5 ⟨rfl, B5⟩)
            go_roundw
            case rel => first | exact ⟨i + 1, by omega, by go_num, HN, HC.out.trans (B5.mono HC.out.size)⟩
            case measure => simp [intOf]; omega
          · rw [decide_eq_false hl] at u1
            have HPL : Hid (plc (kys p0.es) k = i) := plc_eq (by simp [kys]; have := hm.out; omega) HI.out (fun x hx => by rw [HEK.out] at hx; cases hx; exact hl)
            have HTH : Hid (thr (kys p0.es) k = decide (ekl = k)) := by
              show _ = _
              unfold thr
              rw [HPL.out, HEK.out]
              simp
            clear hl
            go_wp2_with first
              | (go_at_call 28; refine u1.mono ?_; rintro e w5 ⟨rfl, B5⟩; have B05 := HC.out.trans (B5.mono HC.out.size); have d3 := (B5.cell (p := ⟨g, 0, none⟩) (Nat.lt_of_lt_of_le hgl HC.out.size)).trans d0; have d4 := (B5.cell (p := ⟨G, p, none⟩) (cell_lt d1)).trans d1; have d5 := (B5.cell (p := ⟨p0.b, i * 2, none⟩) (cell_lt d2)).trans d2)
              | (go_at_call 18; refine (bytes_any (HKE.out.keep B05).k.by (HK.out.keep B05) hel (by have := hkn.out; omega)).mono ?_; rintro e w6 ⟨rfl, B6⟩)
            go_ret3
            rw [hpgi.out, HPL.out, HTH.out]
            exact ⟨rfl, B05.trans (B6.mono B05.size)⟩
        · obtain rfl : i = m := by omega
          have hln : (kys p0.es)[i]? = none := List.getElem?_eq_none (by simp [kys]; have := hm.out; omega)
          have HPL : Hid (plc (kys p0.es) k = i) := plc_eq (by simp [kys]; have := hm.out; omega) HI.out (fun x hx => by rw [hln] at hx; cases hx)
          have HTH : Hid (thr (kys p0.es) k = false) := by
            show _ = _
            unfold thr
            rw [HPL.out, hln]
            simp
          clear hln
          go_wp2
          go_ret3
          rw [hpgi.out, HPL.out, HTH.out]
          exact ⟨rfl, HC.out⟩
end Pg
end Go.Proofs.Ytjnjkgakdnjlmaa

namespace Go.Proofs.Ytjnjkgakdnjlmaa
namespace Pg
open Go.RowKit Go.Lib
attribute [local go_sem] Oper.semAt_some
/-- several more pairs, which lie elsewhere -/
theorem app_pairs {w : World} {B : Nat} {D : Nat → Prop} {ov : Value} {es es2 : List En} {a : Addr} {cc : Nat} (h : Pq w B D ov es) (hB : B ≤ w.heap.size) (he : ∀ e ∈ es2, EnA w D e) (h0 : es2 ≠ []) (hl : es.length + es2.length ≤ 2000000000) (hc : ∀ j u, (flat es2)[j]? = some u → w.cell? (a.add j) = some u) :
    ∃ ov' w', (Builtin.append_ #[44, 44] 44 #[ov, .slice (some a) es2.length cc]).run Try.prog w = .ok ov' w' ∧ Pq w' B D ov' (es ++ es2) ∧ Spr B w w' := by
  have hpos : 0 < es2.length := List.length_pos_iff.2 h0
  rcases h.ex with ⟨rfl, rfl⟩ | ⟨b, c, rfl, hb, hR⟩
  · simp only [List.length_nil, Nat.zero_add] at hl
    obtain ⟨c', w', hr, hR, hw⟩ := app_nil (w := w) KQ 44 a es2.length cc (flat es2) (flat_len es2) hc hpos (by omega) (by omega)
    exact ⟨_, w', hr, ⟨.inr ⟨_, c', rfl, hB, hR⟩, fun x hx => (he x hx).keep hw⟩, Spr.of hw⟩
  · obtain ⟨b', c', w', hr, hb', hR', hw⟩ := app_row (w := w) KQ 44 hR a es2.length cc (flat es2) (flat_len es2) hc (flat_one he) (by omega) (by omega)
    obtain ⟨cs0, k0⟩ := hR.kind
    have hS : Spr B w w' := ⟨hw.mono (fun x _ ex => ⟨ex ▸ hb, cs0, ex ▸ k0⟩)⟩
    refine ⟨_, w', hr, ⟨.inr ⟨b', c', by simp, by rcases hb' with rfl | rfl <;> assumption, by rw [flat_append, List.length_append]; exact hR'⟩, fun x hx => ?_⟩, hS⟩
    have hx' : EnA w D x := by
      rcases List.mem_append.1 hx with hx | hx
      · exact h.ents x hx
      · exact he x hx
    exact ⟨hS.ob hx'.k, hS.ob hx'.v⟩
theorem RpA.cells {w : World} {D : Nat → Prop} {p : Pg} (h : RpA w D p) : ∀ j u, (flat p.es)[j]? = some u → w.cell? ((⟨p.b, 0, none⟩ : Addr).add j) = some u := fun j u hj => by
  have e : (⟨p.b, 0, none⟩ : Addr).add j = ⟨p.b, j, none⟩ := by
    by_cases h0 : j = 0
    · subst h0; rfl
    · simp [Addr.add, h0]
  rw [e]
  exact h.row.cell hj
theorem take_flat {P : List (List En)} {k : Nat} {es : List En} (h : P[k]? = some es) : (P.take (k + 1)).flatten = (P.take k).flatten ++ es := by
  rw [List.take_add_one, h]
  simp
theorem flat_le {P : List (List En)} (k : Nat) : (P.take k).flatten.length ≤ P.flatten.length := by
  have : P.flatten = (P.take k).flatten ++ (P.drop k).flatten := by rw [← List.flatten_append, List.take_append_drop]
  rw [this, List.length_append]
  omega
set_option maxHeartbeats 2000000 in
set_option maxRecDepth 100000 in
theorem rAll {w : World} {F D : Nat → Prop} {g : Nat} {L : List Pg} (A : RfM w F D g L) (hf : ∀ es ∈ ens L, es ≠ []) (hN : (ens L).flatten.length ≤ 100000000) (hn : L.length ≤ 100000000) :
    Calls Try.prog 41 #[.pointer (some ⟨g, 0, none⟩)] w fun e w' => ∃ v, e = .returned v ∧ Pq w' w.heap.size D v (ens L).flatten ∧ Below w.heap.size w w' := by
  obtain ⟨ao, c, hc, hat⟩ := A.rd
  have hgl := cell_lt hc
  obtain ⟨n, hnn⟩ : ∃ n, Hid (L.length = n) := ⟨_, rfl⟩
  rw [hnn.out] at hc hn
  have HA : Hid _ := A
  have HC : Hid _ := hc
  have HAT : Hid _ := hat
  have HF : Hid _ := hf
  have hlen : Hid ((ens L).length = n) := by show _ = _; rw [← hnn.out]; simp [ens]
  have HNN : Hid _ := hN
  clear A hc hat hf hN
  go_enter Try.func41, Try.ntmps41
  go_wp2_with fail
  go_loopw [3, 4] (fun tv ti wr => ∃ k : Nat, k ≤ n ∧ ti = .int .i64 k ∧ Hid (Pq wr w.heap.size D tv ((ens L).take k).flatten) ∧ Hid (Below w.heap.size w wr)) (fun _ ti _ => n - (intOf ti).toNat)
  case atStart => exact ⟨0, Nat.zero_le _, rfl, Pq.nil _ _ _, Below.refl _ _⟩
  case round =>
    obtain ⟨k, hk, rfl, HP, HB⟩ := hrel
    obtain ⟨bo, nb, d, hbo⟩ := HP.out.sh
    subst hbo
    have c0 : wr.cell? ⟨g, 0, none⟩ = some (.slice ao n c) := (HB.out.cell (p := ⟨g, 0, none⟩) hgl).trans HC.out
    by_cases hlt : k < n
    · obtain ⟨p, hp⟩ : ∃ p, L[k]? = some p := ⟨L[k]'(by have := hnn.out; omega), List.getElem?_eq_getElem _⟩
      obtain ⟨G, rfl, cG⟩ := HAT.out k p hp
      have hpm := List.mem_of_getElem? hp
      have c1 : wr.cell? ⟨G, k, none⟩ = some (.slice (some ⟨p.b, 0, none⟩) p.es.length p.c) := (HB.out.cell (p := ⟨G, k, none⟩) (cell_lt cG)).trans cG
      have hes : (ens L)[k]? = some p.es := by rw [ens, List.getElem?_map, hp]; rfl
      have RP := ((HA.out.pages p hpm).1).keep HB.out
      have hle : (((ens L).take k).flatten).length + p.es.length ≤ 2000000000 := by
        have h1 := flat_le (P := ens L) (k + 1)
        rw [take_flat hes, List.length_append] at h1
        have := HNN.out
        omega
      obtain ⟨ov', w', hr, hP, hS⟩ := app_pairs (cc := p.c) HP.out HB.out.size RP.ents (HF.out p.es (List.mem_of_getElem? hes)) hle RP.cells
      have HPP : Hid (Pq w' w.heap.size D ov' ((ens L).take (k + 1)).flatten) := by show Pq _ _ _ _ _; rw [take_flat hes]; exact hP
      obtain ⟨a8, n8, c8, rfl⟩ := hP.sh
      have HSS : Hid (Below w.heap.size w w') := HB.out.trans (hS.below HB.out.size)
      have hk0 : (k : Int) < n := by omega
      clear hP hS RP hes hle hp hpm cG
      go_wp2_with (at_builtin; refine Lib.wpList_append_run _ rfl _ _ _ _ rfl _ _ rfl rfl _ _ hr ?_)
      go_roundw
      case rel => exact ⟨k + 1, by omega, by go_num, HPP, HSS⟩
      case measure => simp [intOf]; omega
    · obtain rfl : k = n := by omega
      go_wp2
      go_ret
      refine ⟨_, rfl, ?_, HB.out⟩
      have := HP.out
      rw [List.take_of_length_le (by have := hlen.out; omega)] at this
      exact this
/-- a list of numbers, nil where it is empty -/
def IntN (w : World) (B : Nat) (v : Value) (l : List Int) : Prop := (v = .slice none 0 0 ∧ l = []) ∨ IntV w B v l
theorem app_int {w : World} {B : Nat} {v : Value} {l : List Int} {x : Int} (h : IntN w B v l) (hB : B ≤ w.heap.size) (hl : l.length ≤ 2000000000) :
    ∃ v' w', (Builtin.append_ #[54, 54] 54 #[v, .slice (some ⟨w.heap.size, 0, none⟩) 1 1]).run Try.prog (w.alloc (.cells #[.int .i64 x] 3)) = .ok v' w' ∧ IntV w' B v' (l ++ [x]) ∧ Below B w w' := by
  have hb := below_alloc w (.cells #[.int .i64 x] 3)
  have hk := blk_new w [.int .i64 x] 3
  have hnews : ∀ j u, [Value.int .i64 x][j]? = some u → (w.alloc (.cells #[.int .i64 x] 3)).cell? ((⟨w.heap.size, 0, none⟩ : Addr).add j) = some u := fun j u hj => by
    match j with
    | 0 => exact hk.cell (i := 0) hj
    | j + 1 => simp at hj
  rcases h with ⟨rfl, rfl⟩ | h
  · obtain ⟨c', w', hr, hR, hw⟩ := app_nil (w := w.alloc (.cells #[.int .i64 x] 3)) KI 54 ⟨w.heap.size, 0, none⟩ 1 1 [.int .i64 x] rfl hnews (by decide) (by decide) (by decide)
    exact ⟨_, w', hr, ⟨_, c', rfl, Nat.le_trans hB hb.size, hR⟩, (hb.mono hB).trans (hw.mono (Nat.le_trans hB hb.size))⟩
  · obtain ⟨b, c, rfl, hl2, hR⟩ := h.ex
    obtain ⟨b', c', w', hr, hb', hR', hw⟩ := app_row (w := w.alloc (.cells #[.int .i64 x] 3)) KI 54 (hR.keep hb) ⟨w.heap.size, 0, none⟩ 1 1 [.int .i64 x] rfl hnews (by simp [Value.oneCell']) (by omega) (by omega)
    refine ⟨_, w', hr, ⟨b', c', by simp, ?_, by rw [List.map_append, List.length_append]; exact hR'⟩, (hb.mono hB).trans (hw.below (fun x e => by have e' : x = b := e; omega) (Nat.le_trans hB hb.size))⟩
    rcases hb' with rfl | rfl
    · exact hl2
    · exact Nat.le_trans hB hb.size
end Pg
end Go.Proofs.Ytjnjkgakdnjlmaa

namespace Go.Proofs.Ytjnjkgakdnjlmaa
namespace Pg
open Go.RowKit Go.Lib
attribute [local go_sem] Oper.semAt_some
theorem IntN.sh {w : World} {B : Nat} {v : Value} {l : List Int} (h : IntN w B v l) : ∃ ao n c, v = .slice ao n c := by
  rcases h with ⟨rfl, _⟩ | h
  · exact ⟨_, _, _, rfl⟩
  · obtain ⟨b, c, rfl, _⟩ := h.ex
    exact ⟨_, _, _, rfl⟩
set_option maxHeartbeats 2000000 in
set_option maxRecDepth 100000 in
theorem rShape {w : World} {F D : Nat → Prop} {g : Nat} {L : List Pg} (A : RfM w F D g L) (hn : L.length ≤ 100000000) :
    Calls Try.prog 43 #[.pointer (some ⟨g, 0, none⟩)] w fun e w' => ∃ v, e = .returned v ∧ IntN w' w.heap.size v ((ens L).map fun es => (es.length : Int)) ∧ Below w.heap.size w w' := by
  obtain ⟨ao, c, hc, hat⟩ := A.rd
  have hgl := cell_lt hc
  obtain ⟨n, hnn⟩ : ∃ n, Hid (L.length = n) := ⟨_, rfl⟩
  rw [hnn.out] at hc hn
  have HC : Hid _ := hc
  have HAT : Hid _ := hat
  have hlen : Hid ((ens L).length = n) := by show _ = _; rw [← hnn.out]; simp [ens]
  clear A hc hat
  go_enter Try.func43, Try.ntmps43
  go_wp2_with fail
  go_loopw [3, 4] (fun tv ti wr => ∃ k : Nat, k ≤ n ∧ ti = .int .i64 k ∧ Hid (IntN wr w.heap.size tv (((ens L).take k).map fun es => (es.length : Int))) ∧ Hid (Below w.heap.size w wr)) (fun _ ti _ => n - (intOf ti).toNat)
  case atStart => exact ⟨0, Nat.zero_le _, rfl, .inl ⟨rfl, rfl⟩, Below.refl _ _⟩
  case round =>
    obtain ⟨k, hk, rfl, HP, HB⟩ := hrel
    have HP0 : IntN wr w.heap.size u3 (((ens L).take k).map fun es => (es.length : Int)) := HP.out
    obtain ⟨bo, nb, d, hbo⟩ := HP0.sh
    subst hbo
    have c0 : wr.cell? ⟨g, 0, none⟩ = some (.slice ao n c) := (HB.out.cell (p := ⟨g, 0, none⟩) hgl).trans HC.out
    by_cases hlt : k < n
    · obtain ⟨p, hp⟩ : ∃ p, L[k]? = some p := ⟨L[k]'(by have := hnn.out; omega), List.getElem?_eq_getElem _⟩
      obtain ⟨G, rfl, cG⟩ := HAT.out k p hp
      have c1 : wr.cell? ⟨G, k, none⟩ = some (.slice (some ⟨p.b, 0, none⟩) p.es.length p.c) := (HB.out.cell (p := ⟨G, k, none⟩) (cell_lt cG)).trans cG
      have hes : (ens L)[k]? = some p.es := by rw [ens, List.getElem?_map, hp]; rfl
      obtain ⟨m, hm⟩ : ∃ m, Hid (p.es.length = m) := ⟨_, rfl⟩
      rw [hm.out] at c1
      obtain ⟨ov', w', hr, hP, hS⟩ := app_int (x := (m : Int)) HP0 HB.out.size (by rw [List.length_map, List.length_take]; omega)
      have HPP : Hid (IntN w' w.heap.size ov' (((ens L).take (k + 1)).map fun es => (es.length : Int))) := by
        refine .inr ?_
        rw [List.take_add_one, hes, List.map_append]
        simp only [Option.toList_some, List.map_cons, List.map_nil, hm.out]
        exact hP
      obtain ⟨b8, c8, e8, -⟩ := id hP.ex
      obtain ⟨n8, hn8⟩ : ∃ n8, Hid ((((ens L).take k).map (fun es => (es.length : Int)) ++ [(m : Int)]).length = n8) := ⟨_, rfl⟩
      rw [hn8.out] at e8
      subst e8
      have HSS : Hid (Below w.heap.size w w') := HB.out.trans hS
      have hk0 : (k : Int) < n := by omega
      clear hP hS hes hp cG HP0
      go_wp2_with (at_builtin; refine Lib.wpList_append_run _ rfl _ _ _ _ rfl _ _ rfl rfl _ _ hr ?_)
      go_roundw
      case rel => exact ⟨k + 1, by omega, by go_num, HPP, HSS⟩
      case measure => simp [intOf]; omega
    · obtain rfl : k = n := by omega
      rw [List.take_of_length_le (by have := hlen.out; omega)] at HP0
      have HP1 : Hid _ := HP0
      clear HP0
      go_wp2
      go_ret
      exact ⟨_, rfl, HP1.out, HB.out⟩
set_option maxHeartbeats 1000000 in
set_option maxRecDepth 100000 in
/-- a list of numbers held against nil -/
theorem ints_nil {w : World} {B : Nat} {u : Value} {a : List Int} (ha : IntV w B u a) (hla : a.length ≤ 1000000000) :
    Calls Try.prog 31 #[u, .slice none 0 0] w fun e w' => e = .returned (.bool (decide (a = []))) ∧ Below w.heap.size w w' := by
  obtain ⟨p, c, rfl, -⟩ := id ha.ex
  obtain ⟨n, hn⟩ : ∃ n, Hid (a.length = n) := ⟨_, rfl⟩
  obtain ⟨r, hr⟩ : ∃ r, Hid (decide (a = []) = r) := ⟨_, rfl⟩
  rw [hr.out, hn.out]
  rw [hn.out] at hla
  clear ha
  by_cases h0 : n = 0
  · subst h0
    have hr0 : Hid (r = true) := by show _ = _; rw [← hr.out, decide_eq_true (List.eq_nil_of_length_eq_zero hn.out)]
    go_enter Try.func31, Try.ntmps31
    go_wp2_with fail
    go_loopw [5] (fun ti wr => ti = .int .i64 0 ∧ Hid (Below w.heap.size w wr)) (fun _ _ => 0)
    case atStart => exact ⟨rfl, Below.refl _ _⟩
    case round =>
      obtain ⟨rfl, HB⟩ := hrel
      go_wp2
      go_ret
      exact ⟨by simp [hr0.out], HB.out⟩
  · have hr0 : Hid (r = false) := by show _ = _; rw [← hr.out, decide_eq_false (fun e => h0 (by rw [← hn.out, e]; rfl))]
    have h1 : ¬ ((n : Int) = 0) := by omega
    go_enter Try.func31, Try.ntmps31
    go_wp2
    go_ret
    exact ⟨by simp [hr0.out], Below.refl _ _⟩
theorem ints_n {w : World} {B B' : Nat} {u v : Value} {a b : List Int} (ha : IntV w B u a) (hb : IntN w B' v b) (hla : a.length ≤ 1000000000) (hlb : b.length ≤ 1000000000) :
    Calls Try.prog 31 #[u, v] w fun e w' => e = .returned (.bool (decide (a = b))) ∧ Below w.heap.size w w' := by
  rcases hb with ⟨rfl, rfl⟩ | hb
  · exact ints_nil ha hla
  · exact ints_any ha hb hla hlb
set_option maxHeartbeats 1000000 in
set_option maxRecDepth 100000 in
/-- find in an empty map -/
theorem rfind0 {w : World} {F D : Nat → Prop} {g : Nat} {ka : Option Addr} {kn kc : Nat} (A : RfM w F D g []) :
    Calls Try.prog 35 #[.pointer (some ⟨g, 0, none⟩), .slice ka kn kc] w fun e w' => e = .returned (.tuple #[.int .i64 0, .int .i64 0, .bool false]) ∧ Below w.heap.size w w' := by
  obtain ⟨ao, c, hc, -⟩ := A.rd
  simp only [List.length_nil] at hc
  have hgl := cell_lt hc
  have HC : Hid _ := hc
  clear A hc
  go_enter Try.func35, Try.ntmps35
  go_wp2_with fail
  go_loopw [7] (fun ti wr => ti = .int .i64 0 ∧ Hid (Below w.heap.size w wr)) (fun _ _ => 0)
  case atStart => exact ⟨rfl, Below.refl _ _⟩
  case round =>
    obtain ⟨rfl, HB⟩ := hrel
    have c0 : wr.cell? ⟨g, 0, none⟩ = some (.slice ao 0 c) := (HB.out.cell (p := ⟨g, 0, none⟩) hgl).trans HC.out
    go_wp2
    go_ret3
    exact ⟨rfl, HB.out⟩
set_option maxHeartbeats 2000000 in
set_option maxRecDepth 100000 in
theorem rGet {w : World} {F D : Nat → Prop} {g : Nat} {L : List Pg} {ka : Option Addr} {kc : Nat} {k : List Int} (A : RfM w F D g L) (O : Ord (ens L)) (hk : By w (.slice ka k.length kc) k) (hkl : k.length ≤ 1000000000) (hn : L.length ≤ 100000000) (hs : ∀ es ∈ ens L, es.length ≤ 32) (hb : ∀ es ∈ ens L, ∀ e ∈ es, e.kl.length ≤ 1000000000 ∧ e.vl.length ≤ 1000000000) :
    Calls Try.prog 17 #[.pointer (some ⟨g, 0, none⟩), .slice ka k.length kc] w fun e w' => ∃ v, e = .returned (.tuple #[v, .bool (has (ens L) k)]) ∧ OB w' (w.heap.size ≤ ·) v (if has (ens L) k then got (ens L) k else []) ∧ Below w.heap.size w w' := by
  by_cases hL : L = []
  · subst hL
    have t1 := rfind0 (ka := ka) (kn := k.length) (kc := kc) A
    rw [show has (ens []) k = false from rfl]
    go_enter Try.func17, Try.ntmps17
    go_wp2_with (go_at_call 35; refine t1.mono ?_; rintro e w1 ⟨rfl, B1⟩)
    go_ret2
    exact ⟨_, rfl, ⟨fun _ h => by simp at h, .inl ⟨rfl, rfl⟩⟩, B1⟩
  · obtain ⟨p, hp, hpe⟩ := at_page hL k
    have t1 := rfind A O hk hkl hn hs (fun es he e hee => (hb es he e hee).1) hp
    have hhas : has (ens L) k = thr (kys p.es) k := by rw [has_thr (ens_ne hL), hpe]
    have hgot : got (ens L) k = ((p.es)[plc (kys p.es) k]?.map En.vl).getD [] := by unfold got; rw [hpe]
    rw [hhas, hgot]
    cases ht : thr (kys p.es) k
    · rw [ht] at t1
      clear A O hk hs hb hp hpe hhas hgot
      go_enter Try.func17, Try.ntmps17
      go_wp2_with (go_at_call 35; refine t1.mono ?_; rintro e w1 ⟨rfl, B1⟩)
      go_ret2
      exact ⟨_, rfl, ⟨fun _ h => by simp at h, .inl ⟨rfl, by simp⟩⟩, B1⟩
    · rw [ht] at t1
      obtain ⟨e, he, hek⟩ := thr_get ht
      have hpm := List.mem_of_getElem? hp
      have RP := (A.pages p hpm).1
      obtain ⟨ao, c, hc, hat⟩ := A.rd
      obtain ⟨G, rfl, cG⟩ := hat _ _ hp
      have hlt := (List.getElem?_eq_some_iff.1 hp).1
      have hql := (List.getElem?_eq_some_iff.1 he).1
      have hv1 := RP.row.cell (flat_at he).2
      have HV : Hid _ := (RP.ents e (List.mem_of_getElem? he)).v
      have hvl := (hb p.es (List.mem_map.2 ⟨p, hpm, rfl⟩) e (List.mem_of_getElem? he)).2
      rw [he]
      obtain ⟨q, hq⟩ : ∃ q, Hid (plc (kys p.es) k = q) := ⟨_, rfl⟩
      obtain ⟨i, hi⟩ : ∃ i, Hid (pgi (ens L) k = i) := ⟨_, rfl⟩
      obtain ⟨n, hnn⟩ : ∃ n, Hid (L.length = n) := ⟨_, rfl⟩
      obtain ⟨m, hm⟩ : ∃ m, Hid (p.es.length = m) := ⟨_, rfl⟩
      rw [hq.out, hi.out] at t1
      rw [hq.out] at hv1 hql
      rw [hi.out, hnn.out] at hlt
      rw [hm.out] at hql
      rw [hnn.out] at hc
      rw [hi.out] at cG
      have cG' : w.cell? ⟨G, i, none⟩ = some (.slice (some ⟨p.b, 0, none⟩) m p.c) := by rw [← hm.out]; exact cG
      have HC : Hid (w.cell? ⟨g, 0, none⟩ = some (.slice (some ⟨G, 0, none⟩) n c) ∧ w.cell? ⟨G, i, none⟩ = some (.slice (some ⟨p.b, 0, none⟩) m p.c) ∧ w.cell? ⟨p.b, q * 2 + 1, none⟩ = some e.vv) := ⟨hc, cG', hv1⟩
      obtain ⟨ek, ekl, ev, evl⟩ := e
      obtain ⟨a2, n2, e2⟩ := HV.out.shape
      simp only at e2 hvl HC
      subst e2
      have hi0 : (i : Int) < n := by omega
      have hq0 : (q : Int) < m := by omega
      clear A O hk hs hb hp hpe hhas hgot hc cG cG' hv1 hat RP he hek
      go_enter Try.func17, Try.ntmps17
      go_wp2_with first
        | (go_at_call 35; refine t1.mono ?_; rintro e w1 ⟨rfl, B1⟩; have d0 := (B1.cell (p := ⟨g, 0, none⟩) (cell_lt HC.out.1)).trans HC.out.1; have d1 := (B1.cell (p := ⟨G, i, none⟩) (cell_lt HC.out.2.1)).trans HC.out.2.1; have d2 := (B1.cell (p := ⟨p.b, q * 2 + 1, none⟩) (cell_lt HC.out.2.2)).trans HC.out.2.2)
        | (go_at_call 11; refine (copyBytes_any (HV.out.keep B1).by hvl).mono ?_; rintro e w2 ⟨v2, rfl, V2, B2⟩; obtain ⟨a3, c3, rfl⟩ := V2.shape)
      go_ret2
      exact ⟨_, rfl, by simpa using V2.mono (fun b _ h => by have := B1.size; show w.heap.size ≤ b; omega), joinB B1 B2⟩
set_option maxHeartbeats 4000000 in
set_option maxRecDepth 100000 in
theorem rWalk {w : World} {F D : Nat → Prop} {g : Nat} {L : List Pg} (A : RfM w F D g L) (hff : ∀ es ∈ ens L, es ≠ []) (hN : (ens L).flatten.length ≤ 6000) (hn : L.length ≤ 100000000) (hb : ∀ es ∈ ens L, ∀ e ∈ es, e.kl.length ≤ 1000000000 ∧ e.vl.length ≤ 1000000000)
    {fa : Option Addr} {fc : Nat} {f : List Int} (hf : By w (.slice fa f.length fc) f) {ta : Option Addr} {tc : Nat} {t : List Int} (ht : By w (.slice ta t.length tc) t) :
    Calls Try.prog 23 #[.pointer (some ⟨g, 0, none⟩), .slice fa f.length fc, .slice ta t.length tc] w fun e w' => ∃ v, e = .returned v ∧ Pq w' w.heap.size D v ((ens L).flatten.filter fun x => abtw f t x.kl2) ∧ Below w.heap.size w w' := by
  have t1 := rAll A hff (by omega) hn
  obtain ⟨es, hes⟩ : ∃ es, Hid ((ens L).flatten = es) := ⟨_, rfl⟩
  rw [hes.out] at t1 hN ⊢
  have hsm : Hid (∀ x ∈ es, x.kl.length ≤ 1000000000 ∧ x.vl.length ≤ 1000000000) := by
    rw [← hes.out]
    exact small_flat.1 hb
  have Hf : Hid _ := hf
  have Ht : Hid _ := ht
  clear hf ht A hff hb
  obtain ⟨fl, hfe⟩ : ∃ fl, Hid (f.length = fl) := ⟨_, rfl⟩
  obtain ⟨tl, hte⟩ : ∃ tl, Hid (t.length = tl) := ⟨_, rfl⟩
  rw [hfe.out] at Hf ⊢
  rw [hte.out] at Ht ⊢
  obtain ⟨m, hm⟩ : ∃ m, Hid (es.length = m) := ⟨_, rfl⟩
  rw [hm.out] at hN
  go_enter Try.func23, Try.ntmps23
  go_wp2_with (go_at_call 41; refine t1.mono ?_; rintro e w1 ⟨v1, rfl, P1, B1⟩; obtain ⟨a5, d, rfl⟩ := P1.shape)
  rw [hm.out] at P1 ⊢
  have HP : Hid _ := P1
  have HW1 : Hid _ := B1
  clear P1 B1 t1
  go_loopw [7, 9] (fun tv ti wq => ∃ k : Nat, k ≤ m ∧ ti = .int .i64 k ∧ Hid (Pq wq w1.heap.size D tv ((es.take k).filter fun x => abtw f t x.kl2)) ∧ Hid (Below w1.heap.size w1 wq)) (fun _ ti _ => m - (intOf ti).toNat)
  case atStart => exact ⟨0, Nat.zero_le _, rfl, Pq.nil _ _ _, Below.refl _ _⟩
  case round =>
    obtain ⟨k, hk, rfl, HQ, HC⟩ := hrel
    obtain ⟨bo, dd, hbo⟩ := HQ.out.shape
    obtain ⟨wn, hwn⟩ : ∃ wn, Hid (((es.take k).filter fun x => abtw f t x.kl2).length = wn) := ⟨_, rfl⟩
    rw [hwn.out] at hbo
    subst hbo
    by_cases hlt : k < m
    · obtain ⟨x, hx⟩ : ∃ x, es[k]? = some x := ⟨es[k]'(by have := hm.out; omega), List.getElem?_eq_getElem _⟩
      obtain ⟨p, rfl⟩ := HP.out.some hx
      have X := HP.out.ents x (List.mem_of_getElem? hx)
      obtain ⟨c1, c2, hlp⟩ := (HP.out.keep HC.out).cells hx
      have hxs := hsm.out x (List.mem_of_getElem? hx)
      obtain ⟨xk, xkl, xv, xvl⟩ := x
      obtain ⟨a1, n1, e1⟩ := X.k.shape
      obtain ⟨a2, n2, e2⟩ := X.v.shape
      simp only at e1 e2 c1 c2 hxs
      subst e1 e2
      have hk0 : (k : Int) < m := by omega
      have HT : Hid ((es.take (k + 1)).filter (fun x => abtw f t x.kl2) = (es.take k).filter (fun x => abtw f t x.kl2) ++ if abtw f t (xkl, xvl) then [⟨.slice a1 xkl.length n1, xkl, .slice a2 xvl.length n2, xvl⟩] else []) := by
        show _ = _
        rw [List.take_add_one, List.filter_append, hx]
        simp only [Option.toList_some, List.filter_cons, List.filter_nil, En.kl2]
      have HXX : Hid _ := X
      have hwb : wn ≤ 6000 := by
        have h1 := List.length_filter_le (fun x => abtw f t x.kl2) (es.take k)
        rw [hwn.out, List.length_take] at h1
        omega
      clear X hx
      by_cases hl1 : Lt xkl f
      · have HF : Hid (abtw f t (xkl, xvl) = false) := by show _ = _; unfold abtw; rw [decide_eq_true hl1]; rfl
        have u1 := fun w' (hB : Below w1.heap.size w1 w') => less_by (HXX.out.keep hB).k.by ((Hf.out.keep HW1.out).keep hB) hxs.1
        rw [decide_eq_true hl1] at u1
        clear hl1
        go_wp2_with (go_at_call 28; refine (u1 _ HC.out).mono ?_; rintro e w6 ⟨rfl, B6⟩; obtain ⟨c16, c26⟩ := pcells2 ⟨c1, c2⟩ hlp B6)
        go_roundw
        case rel =>
          refine ⟨k + 1, by omega, by go_num, ?_, joinB HC.out B6⟩
          rw [HT.out, HF.out, if_neg (by simp), List.append_nil]
          exact HQ.out.keep B6
        case measure => simp [intOf]; omega
      · have u1 := fun w' (hB : Below w1.heap.size w1 w') => less_by (HXX.out.keep hB).k.by ((Hf.out.keep HW1.out).keep hB) hxs.1
        rw [decide_eq_false hl1] at u1
        have u2 := fun w' (hB : Below w1.heap.size w1 w') => less_by (HXX.out.keep hB).k.by ((Ht.out.keep HW1.out).keep hB) hxs.1
        by_cases hl2 : t = []
        · have HF : Hid (abtw f t (xkl, xvl) = true) := by show _ = _; unfold abtw; rw [decide_eq_false hl1, decide_eq_true hl2]; rfl
          obtain rfl : tl = 0 := by have := hte.out; rw [hl2] at this; simp at this; omega
          clear hl2 hl1 u2
          go_wp2_with first
            | (go_at_call 28; refine (u1 _ HC.out).mono ?_; rintro e w6 ⟨rfl, B6⟩; obtain ⟨c16, c26⟩ := pcells2 ⟨c1, c2⟩ hlp B6)
            | (at_builtin; obtain ⟨ov, w8, hr, hP, hS⟩ := app_copy (e := ⟨.slice a1 xkl.length n1, xkl, .slice a2 xvl.length n2, xvl⟩) (HQ.out.keep B6) (joinB HC.out B6).size (HXX.out.keep (joinB HC.out B6)) (by rw [hwn.out]; omega); obtain ⟨a8, c8, rfl⟩ := hP.shape; refine Lib.wpList_append_run _ rfl _ _ _ _ rfl _ _ rfl rfl _ _ hr ?_)
          go_roundw
          case rel =>
            refine ⟨k + 1, by omega, by go_num, ?_, (joinB HC.out B6).trans hS⟩
            rw [HT.out, HF.out, if_pos rfl]
            rw [List.length_append] at hP
            exact hP
          case measure => simp [intOf]; omega
        · have htl1 : (tl : Int) ≠ 0 := fun e => hl2 (List.eq_nil_of_length_eq_zero (by have := hte.out; omega))
          by_cases hl3 : Lt xkl t
          · have HF : Hid (abtw f t (xkl, xvl) = true) := by show _ = _; unfold abtw; rw [decide_eq_false hl1, decide_eq_true (show Lt (xkl, xvl).1 t from hl3)]; simp
            rw [decide_eq_true hl3] at u2
            clear hl2 hl1 hl3
            go_wp2_with first
              | (go_at_call 28; refine (u2 _ (joinB HC.out B6)).mono ?_; rintro e w7 ⟨rfl, B7⟩; obtain ⟨c17, c27⟩ := pcells2 ⟨c16, c26⟩ (Nat.lt_of_lt_of_le hlp B6.size) B7; have B67 := joinB B6 B7)
              | (go_at_call 28; refine (u1 _ HC.out).mono ?_; rintro e w6 ⟨rfl, B6⟩; obtain ⟨c16, c26⟩ := pcells2 ⟨c1, c2⟩ hlp B6)
              | (at_builtin; obtain ⟨ov, w8, hr, hP, hS⟩ := app_copy (e := ⟨.slice a1 xkl.length n1, xkl, .slice a2 xvl.length n2, xvl⟩) (HQ.out.keep B67) (joinB HC.out B67).size (HXX.out.keep (joinB HC.out B67)) (by rw [hwn.out]; omega); obtain ⟨a8, c8, rfl⟩ := hP.shape; refine Lib.wpList_append_run _ rfl _ _ _ _ rfl _ _ rfl rfl _ _ hr ?_)
            go_roundw
            case rel =>
              refine ⟨k + 1, by omega, by go_num, ?_, (joinB HC.out B67).trans hS⟩
              rw [HT.out, HF.out, if_pos rfl]
              rw [List.length_append] at hP
              exact hP
            case measure => simp [intOf]; omega
          · have HF : Hid (abtw f t (xkl, xvl) = false) := by show _ = _; unfold abtw; rw [decide_eq_false hl1, decide_eq_false hl2, decide_eq_false (show ¬ Lt (xkl, xvl).1 t from hl3)]; rfl
            rw [decide_eq_false hl3] at u2
            clear hl2 hl1 hl3
            go_wp2_with first
              | (go_at_call 28; refine (u2 _ (joinB HC.out B6)).mono ?_; rintro e w7 ⟨rfl, B7⟩; obtain ⟨c17, c27⟩ := pcells2 ⟨c16, c26⟩ (Nat.lt_of_lt_of_le hlp B6.size) B7)
              | (go_at_call 28; refine (u1 _ HC.out).mono ?_; rintro e w6 ⟨rfl, B6⟩; obtain ⟨c16, c26⟩ := pcells2 ⟨c1, c2⟩ hlp B6)
            go_roundw
            case rel =>
              refine ⟨k + 1, by omega, by go_num, ?_, joinB HC.out (joinB B6 B7)⟩
              rw [HT.out, HF.out, if_neg (by simp), List.append_nil]
              exact HQ.out.keep (joinB B6 B7)
            case measure => simp [intOf]; omega
    · obtain rfl : k = m := by omega
      rw [List.take_of_length_le (by have := hm.out; omega)] at HQ
      go_wp2
      go_ret
      exact ⟨_, rfl, ⟨HQ.out.ex.imp id (fun ⟨b, c, e, hl, hR⟩ => ⟨b, c, e, Nat.le_trans HW1.out.size hl, hR⟩), HQ.out.ents⟩, joinB HW1.out HC.out⟩
end Pg
end Go.Proofs.Ytjnjkgakdnjlmaa

namespace Go.Proofs.Ytjnjkgakdnjlmaa
namespace Pg
open Go.RowKit Go.Lib
attribute [local go_sem] Oper.semAt_some
theorem KO : Kd Try.prog 29 44 1 24 (.slice none 0 0) := ⟨by kernel_rfl, by kernel_rfl, rfl, by simp [Value.cells, Value.oneCell'], by decide⟩
theorem app_zero {T E : TypeId} {k bytes : Nat} {z : Value} (H : Kd Try.prog T E k bytes z) (ty : TypeId) (w : World) (ao : Option Addr) (c : Nat) : (Builtin.append_ #[T, T] ty #[.slice none 0 0, .slice ao 0 c]).run Try.prog w = .ok (.slice none 0 0) w := by
  obtain ⟨i, hi, hz, hs, hb⟩ := info_parts H.inf
  have : (Builtin.firstCells i.size 0 (.slice ao 0 c)).run Try.prog w = .ok #[] w := by
    cases ao with
    | none => rfl
    | some a => exact run_firstCells_some w i.size 0 a 0 c [] (by simp) (fun j v hj => by simp at hj)
  simp [Builtin.append_, run_underlying H.und, sizeOf, typeInfo, hi, Builtin.lenOf, this]
/-- a list of pages, in a block from B on -/
structure Ro (w : World) (B : Nat) (v : Value) (L : List Pg) : Prop where
  ex : (v = .slice none 0 0 ∧ L = []) ∨ ∃ G C, v = .slice (some ⟨G, 0, none⟩) L.length C ∧ B ≤ G ∧ Rw w 44 1 G L.length C (L.map Pg.v)
theorem Ro.nil (w : World) (B : Nat) : Ro w B (.slice none 0 0) [] := ⟨.inl ⟨rfl, rfl⟩⟩
theorem Ro.keep {w w' : World} {B : Nat} {v : Value} {L : List Pg} (h : Ro w B v L) (hb : Below w.heap.size w w') : Ro w' B v L := ⟨h.ex.imp id (fun ⟨G, C, e, hl, hR⟩ => ⟨G, C, e, hl, hR.keep hb⟩)⟩
theorem Ro.sh {w : World} {B : Nat} {v : Value} {L : List Pg} (h : Ro w B v L) : ∃ ao n c, v = .slice ao n c := by
  rcases h.ex with ⟨rfl, _⟩ | ⟨G, C, rfl, _⟩ <;> exact ⟨_, _, _, rfl⟩
/-- only lists of pages from B on are written over -/
structure Sro (B : Nat) (w w' : World) : Prop where
  chg : Chg (fun b => B ≤ b ∧ ∃ cs, Blk w b cs 44) w w'
theorem Sro.of {B : Nat} {w w' : World} (h : Below w.heap.size w w') : Sro B w w' := ⟨Chg.of h⟩
theorem Sro.below {B : Nat} {w w' : World} (h : Sro B w w') (hB : B ≤ w.heap.size) : Below B w w' := h.chg.below (fun _ h => h.1) hB
theorem Sro.blk {B : Nat} {w w' : World} (h : Sro B w w') {b : Nat} {cs : List Value} {t : TypeId} (hb : Blk w b cs t) (ht : t ≠ 44) : Blk w' b cs t := hb.chg h.chg (fun ⟨_, _, k⟩ => ht (hb.eq k).2)
theorem Sro.row {B : Nat} {w w' : World} (h : Sro B w w') {E : TypeId} {k b n c : Nat} {xs : List Value} (hR : Rw w E k b n c xs) (ht : E ≠ 44) : Rw w' E k b n c xs := by
  obtain ⟨cs, hk⟩ := hR.kind
  exact hR.chg h.chg (fun ⟨_, _, k'⟩ => ht (hk.eq k').2)
theorem Sro.ob {B : Nat} {w w' : World} (h : Sro B w w') {D : Nat → Prop} {v : Value} {l : List Int} (hv : OB w D v l) : OB w' D v l := ⟨hv.oct, hv.ex.imp id (fun ⟨b, c, e, hd, hR⟩ => ⟨b, c, e, hd, h.row hR (by decide)⟩)⟩
theorem Sro.rp {B : Nat} {w w' : World} (h : Sro B w w') {D : Nat → Prop} {p : Pg} (hp : RpA w D p) : RpA w' D p := ⟨h.row hp.row (by decide), fun e he => ⟨h.ob (hp.ents e he).k, h.ob (hp.ents e he).v⟩⟩
theorem pgv_one (L : List Pg) : ∀ u ∈ L.map Pg.v, u.oneCell' = true := fun u hu => by
  obtain ⟨p, _, rfl⟩ := List.mem_map.1 hu
  simp [Pg.v, Value.oneCell']
theorem app_ro {w : World} {B : Nat} {ov : Value} {L L2 : List Pg} {a : Addr} {cc : Nat} (h : Ro w B ov L) (hB : B ≤ w.heap.size) (hl : L.length + L2.length ≤ 1000000000) (hc : ∀ j u, (L2.map Pg.v)[j]? = some u → w.cell? (a.add j) = some u) :
    ∃ ov' w', (Builtin.append_ #[29, 29] 29 #[ov, .slice (some a) L2.length cc]).run Try.prog w = .ok ov' w' ∧ Ro w' B ov' (L ++ L2) ∧ Sro B w w' := by
  rcases h.ex with ⟨rfl, rfl⟩ | ⟨G, C, rfl, hG, hR⟩
  · by_cases h0 : L2 = []
    · subst h0
      exact ⟨_, w, app_zero KO _ w _ _, Ro.nil _ _, Sro.of (Below.refl _ _)⟩
    · simp only [List.length_nil, Nat.zero_add] at hl
      obtain ⟨c', w', hr, hR, hw⟩ := app_nil (w := w) KO 29 a L2.length cc (L2.map Pg.v) (by simp) hc (List.length_pos_iff.2 h0) (by omega) (by omega)
      exact ⟨_, w', hr, ⟨.inr ⟨_, c', rfl, hB, hR⟩⟩, Sro.of hw⟩
  · obtain ⟨b', c', w', hr, hb', hR', hw⟩ := app_row (w := w) KO 29 hR a L2.length cc (L2.map Pg.v) (by simp) hc (pgv_one L2) (by omega) (by omega)
    obtain ⟨cs0, k0⟩ := hR.kind
    refine ⟨_, w', hr, ⟨.inr ⟨b', c', by simp, ?_, by rw [List.map_append, List.length_append]; exact hR'⟩⟩, ⟨hw.mono (fun x _ ex => ⟨ex ▸ hG, cs0, ex ▸ k0⟩)⟩⟩
    rcases hb' with rfl | rfl
    · exact hG
    · exact hB
theorem adr0 (b o n : Nat) : (⟨b, o, none⟩ : Addr).add n = ⟨b, o + n, none⟩ := by
  by_cases h : n = 0
  · subst h; rfl
  · simp [Addr.add, h]
/-- pages handed to put: slices of pairs that lie somewhere -/
structure Hd (w : World) (D : Nat → Prop) (lo : Option Addr) (m : Nat) (xs : List (List En)) : Prop where
  len : xs.length = m
  get : ∀ i es, xs[i]? = some es → ∃ gl a c, lo = some ⟨gl, 0, none⟩ ∧ w.cell? ⟨gl, i, none⟩ = some (.slice (some a) es.length c) ∧ (∀ j u, (flat es)[j]? = some u → w.cell? (a.add j) = some u) ∧ (∀ e ∈ es, EnA w D e) ∧ es ≠ [] ∧ es.length ≤ 1000
theorem Hd.keep {w w' : World} {D : Nat → Prop} {lo : Option Addr} {m : Nat} {xs : List (List En)} (h : Hd w D lo m xs) (hb : Below w.heap.size w w') : Hd w' D lo m xs :=
  ⟨h.len, fun i es he => by
    obtain ⟨gl, a, c, e1, h1, h2, h3, h4, h5⟩ := h.get i es he
    refine ⟨gl, a, c, e1, (hb.cell (p := ⟨gl, i, none⟩) (cell_lt h1)).trans h1, fun j u hj => ?_, fun e he => (h3 e he).keep hb, h4, h5⟩
    have h := h2 j u hj
    have hlt : (a.add j).block < w.heap.size := by
      simp only [World.cell?] at h
      cases hh : w.heap[(a.add j).block]? with
      | none => rw [hh] at h; simp at h
      | some ob => exact lt_of_block hh
    rw [hb.cell hlt]
    exact h⟩
theorem Hd.nil (w : World) (D : Nat → Prop) : Hd w D none 0 [] := ⟨rfl, fun i es h => by simp at h⟩
theorem OB.cellg {w : World} {D : Nat → Prop} {v : Value} {l : List Int} (h : OB w D v l) {g i : Nat} {cs : List Value} (hb : Blk w g cs 31) (u : Value) : OB (w.setCell ⟨g, i, none⟩ u) D v l :=
  ⟨h.oct, h.ex.imp id (fun ⟨b, c, e, hd, hR⟩ => ⟨b, c, e, hd, hR.same (Below.heap_setCell w _ u b (fun e => by
    obtain ⟨ds, k⟩ := hR.kind
    have e' : b = g := e
    subst e'
    have := (k.eq hb).2
    revert this
    decide))⟩)⟩
theorem RpA.cellg {w : World} {D : Nat → Prop} {q : Pg} (h : RpA w D q) {g i : Nat} {cs : List Value} (hb : Blk w g cs 31) (hne : q.b ≠ g) (u : Value) : RpA (w.setCell ⟨g, i, none⟩ u) D q :=
  ⟨h.row.same (Below.heap_setCell w _ u q.b hne), fun e he => ⟨(h.ents e he).k.cellg hb u, (h.ents e he).v.cellg hb u⟩⟩
set_option maxHeartbeats 4000000 in
set_option maxRecDepth 100000 in
theorem put_any {w : World} {D : Nat → Prop} {g G C n p m lc : Nat} {A Bp : List Pg} {pv0 : Value} {lo : Option Addr} {xs : List (List En)} (hg : Blk w g [.slice (some ⟨G, 0, none⟩) n C] 31) (hR : Rw w 44 1 G n C (A.map Pg.v ++ [pv0] ++ Bp.map Pg.v)) (hA : A.length = p) (hn : n ≤ 100000000) (hX : Hd w D lo m xs) (hm : m ≤ 1000) :
    Calls Try.prog 36 #[.pointer (some ⟨g, 0, none⟩), .int .i64 p, .slice lo m lc] w fun e w' => e = .returned (.tuple #[]) ∧ ∃ v X', Blk w' g [v] 31 ∧ ens X' = xs ∧ Ro w' w.heap.size v (A ++ X' ++ Bp) ∧ (∀ q ∈ X', RpA w' D q ∧ w.heap.size ≤ q.b) ∧ (X'.map Pg.b).Nodup ∧ Chg (· = g) w w' := by
  have hnl : Hid (n = p + 1 + Bp.length) := by
    show _ = _
    have := hR.len
    simp at this
    omega
  have hc0 := hg.cell (i := 0) rfl
  have hgl := hg.lt
  have hAc : ∀ j u, (A.map Pg.v)[j]? = some u → w.cell? ((⟨G, 0, none⟩ : Addr).add j) = some u := fun j u hj => by
    rw [adr0, Nat.zero_add]
    refine hR.cell ?_
    rw [List.append_assoc, List.getElem?_append_left (List.getElem?_eq_some_iff.1 hj).1]
    exact hj
  obtain ⟨ov1, w1, hr1, R1, S1⟩ := app_ro (L2 := A) (a := ⟨G, 0, none⟩) (cc := C) (Ro.nil w w.heap.size) (Nat.le_refl _) (by simp; have := hnl.out; omega) hAc
  rw [hA] at hr1
  simp only [List.nil_append] at R1
  obtain ⟨a1, n1, c1, rfl⟩ := R1.sh
  have B1 : Hid (Below w.heap.size w w1) := S1.below (Nat.le_refl _)
  have HR1 : Hid _ := R1
  have HX : Hid _ := hX
  have HG : Hid _ := hg
  have HRW : Hid _ := hR
  have hp0 : (p : Int) ≤ n := by have := hnl.out; omega
  have hnC := hR.le
  have hpC : (p : Int) ≤ C := by omega
  clear R1 S1 hX hg hR hAc
  go_enter Try.func36, Try.ntmps36
  go_wp2_with (at_builtin; refine Lib.wpList_append_run _ rfl _ _ _ _ rfl _ _ rfl rfl _ _ hr1 ?_)
  go_loopw [6, 7] (fun tv ti wr => ∃ i : Nat, i ≤ m ∧ ti = .int .i64 i ∧ Hid (∃ X', ens X' = xs.take i ∧ Ro wr w.heap.size tv (A ++ X') ∧ (∀ q ∈ X', RpA wr D q ∧ w.heap.size ≤ q.b ∧ q.b < wr.heap.size) ∧ (X'.map Pg.b).Nodup) ∧ Hid (Below w.heap.size w wr)) (fun _ ti _ => m - (intOf ti).toNat)
  case atStart => exact ⟨0, Nat.zero_le _, rfl, ⟨[], by simp [ens], by simpa using HR1.out, fun q hq => by simp at hq, List.nodup_nil⟩, B1⟩
  case round =>
    obtain ⟨i, hi, rfl, HI, HB⟩ := hrel
    obtain ⟨X', hXe, hRo, hXp, hXn⟩ := HI.out
    obtain ⟨bo, nb, db, hbo⟩ := hRo.sh
    subst hbo
    have hwl := HB.out.size
    have hXl : X'.length = i := by
      have h1 := congrArg List.length hXe
      rw [List.length_take, HX.out.len] at h1
      simp [ens] at h1
      omega
    by_cases hlt : i < m
    · obtain ⟨es, hes⟩ : ∃ es, xs[i]? = some es := ⟨xs[i]'(by have := HX.out.len; omega), List.getElem?_eq_getElem _⟩
      obtain ⟨gl, a, c, rfl, k1, k2, k3, k4, k5⟩ := (HX.out.keep HB.out).get i es hes
      obtain ⟨c', w2, hr2, R2, b2⟩ := app_nil (w := wr) KQ 44 a es.length c (flat es) (flat_len es) k2 (List.length_pos_iff.2 k4) (by omega) (by omega)
      have hq : RpA w2 D ⟨wr.heap.size, c', es⟩ := ⟨R2, fun e he => (k3 e he).keep b2⟩
      have b3 := below_alloc w2 (.cells #[Pg.v ⟨wr.heap.size, c', es⟩] 44)
      have b23 := joinB b2 b3
      obtain ⟨ov3, w3, hr3, R3, S3⟩ := app_ro (L2 := [⟨wr.heap.size, c', es⟩]) (a := ⟨w2.heap.size, 0, none⟩) (cc := 1) (hRo.keep b23) (Nat.le_trans hwl b23.size) (by simp; have := hnl.out; omega) (fun j u hj => by
        match j with
        | 0 => exact (blk_new w2 [Pg.v ⟨wr.heap.size, c', es⟩] 44).cell (i := 0) hj
        | j + 1 => simp at hj)
      simp only [Pg.v, List.length_singleton] at hr3
      have hlw : wr.heap.size < w2.heap.size := R2.lt
      have HN : Hid (∃ X', ens X' = xs.take (i + 1) ∧ Ro w3 w.heap.size ov3 (A ++ X') ∧ (∀ q ∈ X', RpA w3 D q ∧ w.heap.size ≤ q.b ∧ q.b < w3.heap.size) ∧ (X'.map Pg.b).Nodup) := by
        refine ⟨X' ++ [⟨wr.heap.size, c', es⟩], ?_, by rw [← List.append_assoc]; exact R3, fun q hqm => ?_, ?_⟩
        · rw [ens, List.map_append, ← ens, hXe, List.take_add_one, hes]; rfl
        · rcases List.mem_append.1 hqm with h | h
          · obtain ⟨h1, h2, h3⟩ := hXp q h
            exact ⟨S3.rp (h1.keep b23), h2, by have := b23.size; have := S3.chg.size; omega⟩
          · simp at h
            subst h
            exact ⟨S3.rp (hq.keep b3), hwl, by have := b3.size; have := S3.chg.size; show wr.heap.size < _; omega⟩
        · rw [List.map_append, List.nodup_append]
          refine ⟨hXn, by simp, fun x hx y hy => ?_⟩
          simp at hy
          obtain ⟨q, h1, rfl⟩ := List.mem_map.1 hx
          have := (hXp q h1).2.2
          omega
      obtain ⟨a3, n3, c3, rfl⟩ := R3.sh
      have HS : Hid (Below w.heap.size w w3) := (HB.out.trans (b23.mono hwl)).trans (S3.below (Nat.le_trans hwl b23.size))
      have hi0 : (i : Int) < m := by omega
      clear hXe hRo hXp hXn R2 b2 hq b3 b23 R3 S3 k2 k3 k4 hes HI
      go_wp2_with first
        | (at_builtin; refine Lib.wpList_append_run _ rfl _ _ _ _ rfl _ _ rfl rfl _ _ hr2 ?_; clear hr2)
        | (at_builtin; refine Lib.wpList_append_run _ rfl _ _ _ _ rfl _ _ rfl rfl _ _ hr3 ?_; clear hr3)
      go_roundw
      case rel => exact ⟨i + 1, by omega, by go_num, HN, HS⟩
      case measure => simp [intOf]; omega
    · obtain rfl : i = m := by omega
      have c0 : wr.cell? ⟨g, 0, none⟩ = some (.slice (some ⟨G, 0, none⟩) n C) := (HB.out.cell (p := ⟨g, 0, none⟩) hgl).trans hc0
      have hpn : (p : Int) + 1 ≤ n := by have := hnl.out; omega
      by_cases hC : C = p + 1
      · subst hC
        have hn1 : n = p + 1 := by omega
        subst hn1
        obtain rfl : Bp = [] := List.eq_nil_of_length_eq_zero (by have := hnl.out; omega)
        obtain ⟨ov5, w5, hr5, R5, S5⟩ := app_ro (L2 := []) (a := ⟨G, 0, none⟩) (cc := 0) hRo hwl (by simp; omega) (fun j u hj => by simp at hj)
        simp only [List.length_nil] at hr5
        have gb := S5.blk ((HG.out.keepB HB.out hgl)) (by decide)
        have d5 := gb.cell (i := 0) rfl
        have f5 := gb.free 0
        have HN : Hid (∃ X', Blk (w5.setCell ⟨g, 0, none⟩ ov5) g [ov5] 31 ∧ ens X' = xs ∧ Ro (w5.setCell ⟨g, 0, none⟩ ov5) w.heap.size ov5 (A ++ X' ++ []) ∧ (∀ q ∈ X', RpA (w5.setCell ⟨g, 0, none⟩ ov5) D q ∧ w.heap.size ≤ q.b) ∧ (X'.map Pg.b).Nodup ∧ Chg (· = g) w (w5.setCell ⟨g, 0, none⟩ ov5)) := by
          refine ⟨X', gb.setCell ov5, by rw [hXe]; exact List.take_of_length_le (by have := HX.out.len; omega), ⟨R5.ex.imp id (fun ⟨G', C', e, hl, hRR⟩ => ⟨G', C', e, hl, hRR.same (Below.heap_setCell w5 _ ov5 G' (by show G' ≠ g; omega))⟩)⟩, fun q hq => ?_, hXn, ?_⟩
          · obtain ⟨h1, h2, _⟩ := hXp q hq
            exact ⟨(S5.rp h1).cellg gb (by omega) ov5, h2⟩
          · have hB5 : Below w.heap.size w w5 := HB.out.trans (S5.below hwl)
            exact (Chg.of (F := fun x => x = g) hB5).cell (g := g) (i := 0) (.inl rfl) ov5
        obtain ⟨a5, n5, c5, rfl⟩ := R5.sh
        clear hXe hRo hXp hXn R5 S5 HI gb
        go_wp2_with (at_builtin; refine Lib.wpList_append_run _ rfl _ _ _ _ rfl _ _ rfl rfl _ _ hr5 ?_)
        go_end0
        obtain ⟨X2, h2⟩ := HN.out
        exact ⟨rfl, _, X2, h2⟩
      · obtain ⟨ov5, w5, hr5, R5, S5⟩ := app_ro (L2 := Bp) (a := ⟨G, p + 1, none⟩) (cc := C - (p + 1)) hRo hwl (by simp; have := hnl.out; omega) (fun j u hj => by
          rw [adr0]
          have h1 := HRW.out.cell (i := p + 1 + j) (v := u) (by
            rw [List.append_assoc, List.getElem?_append_right (by simp; omega), List.getElem?_append_right (by simp; omega)]
            simp only [List.length_map, List.length_singleton]
            rw [show p + 1 + j - A.length - 1 = j by omega]
            exact hj)
          exact (HB.out.cell (p := ⟨G, p + 1 + j, none⟩) (cell_lt h1)).trans h1)
        rw [show Bp.length = n - (p + 1) by have := hnl.out; omega] at hr5
        have hC1 : ¬ (C - (p + 1) = 0) := by omega
        have gb := S5.blk ((HG.out.keepB HB.out hgl)) (by decide)
        have d5 := gb.cell (i := 0) rfl
        have f5 := gb.free 0
        have HN : Hid (∃ X', Blk (w5.setCell ⟨g, 0, none⟩ ov5) g [ov5] 31 ∧ ens X' = xs ∧ Ro (w5.setCell ⟨g, 0, none⟩ ov5) w.heap.size ov5 (A ++ X' ++ Bp) ∧ (∀ q ∈ X', RpA (w5.setCell ⟨g, 0, none⟩ ov5) D q ∧ w.heap.size ≤ q.b) ∧ (X'.map Pg.b).Nodup ∧ Chg (· = g) w (w5.setCell ⟨g, 0, none⟩ ov5)) := by
          refine ⟨X', gb.setCell ov5, by rw [hXe]; exact List.take_of_length_le (by have := HX.out.len; omega), ⟨R5.ex.imp id (fun ⟨G', C', e, hl, hRR⟩ => ⟨G', C', e, hl, hRR.same (Below.heap_setCell w5 _ ov5 G' (by show G' ≠ g; omega))⟩)⟩, fun q hq => ?_, hXn, ?_⟩
          · obtain ⟨h1, h2, _⟩ := hXp q hq
            exact ⟨(S5.rp h1).cellg gb (by omega) ov5, h2⟩
          · have hB5 : Below w.heap.size w w5 := HB.out.trans (S5.below hwl)
            exact (Chg.of (F := fun x => x = g) hB5).cell (g := g) (i := 0) (.inl rfl) ov5
        obtain ⟨a5, n5, c5, rfl⟩ := R5.sh
        clear hXe hRo hXp hXn R5 S5 HI gb
        go_wp2_with (at_builtin; refine Lib.wpList_append_run _ rfl _ _ _ _ rfl _ _ rfl rfl _ _ hr5 ?_)
        go_end0
        obtain ⟨X2, h2⟩ := HN.out
        exact ⟨rfl, _, X2, h2⟩
end Pg
end Go.Proofs.Ytjnjkgakdnjlmaa

namespace Go.Proofs.Ytjnjkgakdnjlmaa
namespace Pg
open Go.RowKit Go.Lib
attribute [local go_sem] Oper.semAt_some
theorem RfM.opn {w : World} {F D : Nat → Prop} {g : Nat} {L : List Pg} (A : RfM w F D g L) (h : L ≠ []) : ∃ G C, Blk w g [.slice (some ⟨G, 0, none⟩) L.length C] 31 ∧ F g ∧ F G ∧ Rw w 44 1 G L.length C (L.map Pg.v) := by
  obtain ⟨pv, hb, hg, ⟨rfl, rfl⟩ | ⟨G, C, rfl, hG, hR⟩⟩ := A.top
  · exact absurd rfl h
  · exact ⟨G, C, hb, hg, hG, hR⟩
/-- several more pairs, or none -/
theorem app_pairs0 {w : World} {B : Nat} {D : Nat → Prop} {ov : Value} {es es2 : List En} {a : Addr} {cc : Nat} (h : Pq w B D ov es) (hB : B ≤ w.heap.size) (he : ∀ e ∈ es2, EnA w D e) (hl : es.length + es2.length ≤ 2000000000) (hc : ∀ j u, (flat es2)[j]? = some u → w.cell? (a.add j) = some u) :
    ∃ ov' w', (Builtin.append_ #[44, 44] 44 #[ov, .slice (some a) es2.length cc]).run Try.prog w = .ok ov' w' ∧ Pq w' B D ov' (es ++ es2) ∧ Spr B w w' := by
  by_cases h0 : es2 = []
  · subst h0
    rcases h.ex with ⟨rfl, rfl⟩ | ⟨b, c, rfl, hb, hR⟩
    · exact ⟨_, w, app_zero KQ _ w _ _, Pq.nil _ _ _, Spr.of (Below.refl _ _)⟩
    · obtain ⟨b', c', w', hr, hb', hR', hw⟩ := app_row (w := w) KQ 44 hR a 0 cc [] rfl (fun j u hj => by simp at hj) (by simp) (by omega) (by omega)
      obtain ⟨cs0, k0⟩ := hR.kind
      have hS : Spr B w w' := ⟨hw.mono (fun x _ ex => ⟨ex ▸ hb, cs0, ex ▸ k0⟩)⟩
      refine ⟨_, w', hr, ⟨.inr ⟨b', c', by simp, by rcases hb' with rfl | rfl <;> assumption, by rw [List.append_nil]; simpa using hR'⟩, fun x hx => ?_⟩, hS⟩
      have hx' := h.ents x (by simpa using hx)
      exact ⟨hS.ob hx'.k, hS.ob hx'.v⟩
  · exact app_pairs h hB he h0 hl hc
theorem RpA.below {w w' : World} {D : Nat → Prop} {p : Pg} (h : RpA w D p) (hb : Below w.heap.size w w') : RpA w' D p := h.keep hb
theorem flat_take_at {es : List En} {i j : Nat} {u : Value} (h : (flat (es.take i))[j]? = some u) : (flat es)[j]? = some u := by
  rw [← flat_take, List.getElem?_take] at h
  split at h
  · exact h
  · cases h
theorem flat_drop_at {es : List En} {i j : Nat} {u : Value} (h : (flat (es.drop i))[j]? = some u) : (flat es)[i * 2 + j]? = some u := by
  rw [← flat_drop, List.getElem?_drop] at h
  exact h
/-- a page with one more entry, built by three appends -/
theorem page_built {W : World} {D : Nat → Prop} {p0 : Pg} {e : En} {i : Nat} (RP : RpA W D p0) (he : EnA W D e) (hi : i ≤ p0.es.length) (hl : p0.es.length ≤ 1000) :
    ∃ v5 w5 v6 w6 v7 w7, (Builtin.append_ #[44, 44] 44 #[.slice none 0 0, .slice (some ⟨p0.b, 0, none⟩) i p0.c]).run Try.prog W = .ok v5 w5 ∧
      (Builtin.append_ #[44, 44] 44 #[v5, .slice (some ⟨w5.heap.size, 0, none⟩) 1 1]).run Try.prog (w5.alloc (.cells #[e.kv, e.vv] 52)) = .ok v6 w6 ∧
      (Builtin.append_ #[44, 44] 44 #[v6, .slice (some ⟨p0.b, if p0.c = i then 0 else i * 2, none⟩) (p0.es.length - i) (p0.c - i)]).run Try.prog w6 = .ok v7 w7 ∧
      Pq w7 W.heap.size D v7 (p0.es.take i ++ [e] ++ p0.es.drop i) ∧ Below W.heap.size W w5 ∧ Below W.heap.size W w6 ∧ Below W.heap.size W w7 ∧ (∃ a n c, v5 = .slice a n c) ∧ (∃ a n c, v6 = .slice a n c) := by
  obtain ⟨v5, w5, hr5, P5, S5⟩ := app_pairs0 (w := W) (es2 := p0.es.take i) (a := ⟨p0.b, 0, none⟩) (cc := p0.c) (Pq.nil W W.heap.size D) (Nat.le_refl _) (fun x hx => RP.ents x (List.mem_of_mem_take hx)) (by simp; omega) (fun j u hj => RP.cells j u (flat_take_at hj))
  rw [List.length_take, Nat.min_eq_left hi] at hr5
  have b5 := S5.below (Nat.le_refl _)
  rw [List.nil_append] at P5
  obtain ⟨v6, w6, hr6, P6, b6⟩ := app_copy P5 b5.size (he.keep b5) (by rw [List.length_take]; omega)
  have b06 := b5.trans b6
  have RP6 := RP.keep b06
  have hcl := RP.row.le
  obtain ⟨v7, w7, hr7, P7, S7⟩ := app_pairs0 (es2 := p0.es.drop i) (a := ⟨p0.b, if p0.c = i then 0 else i * 2, none⟩) (cc := p0.c - i) P6 b06.size (fun x hx => RP6.ents x (List.mem_of_mem_drop hx)) (by simp; omega) (fun j u hj => by
    by_cases hC : p0.c = i
    · have : p0.es.drop i = [] := List.drop_eq_nil_of_le (by omega)
      rw [this] at hj
      simp [flat] at hj
    · rw [if_neg hC, adr0]
      exact RP6.row.cell (flat_drop_at hj))
  rw [List.length_drop] at hr7
  exact ⟨v5, w5, v6, w6, v7, w7, hr5, hr6, hr7, P7, b5, b06, b06.trans (S7.below b06.size), P5.sh, P6.sh⟩
theorem nodup_new {l : List Nat} (h : l.Nodup) {x : Nat} (hx : x ∉ l) : ∀ i, (l.set i x).Nodup := by
  induction l with
  | nil => intro i; simp
  | cons a l ih =>
    intro i
    rw [List.nodup_cons] at h
    rw [List.mem_cons, not_or] at hx
    cases i with
    | zero => rw [List.set_cons_zero, List.nodup_cons]; exact ⟨hx.2, h.2⟩
    | succ i =>
      rw [List.set_cons_succ, List.nodup_cons]
      refine ⟨fun hm => ?_, ih h.2 hx.2 i⟩
      rcases List.mem_or_eq_of_mem_set hm with hm | hm
      · exact h.1 hm
      · exact hx.1 hm.symm
/-- what Set of a key that isn't there leaves -/
def InsR (w w' : World) (F D : Nat → Prop) (g : Nat) (L : List Pg) (p i : Nat) (k v : List Int) : Prop :=
  ∃ F' L' nk nv, ens L' = insQ (ens L) p i ⟨nk, k, nv, v⟩ ∧ RfM w' F' (fun b => D b ∨ w.heap.size ≤ b) g L' ∧ (∀ b, F' b → F b ∨ w.heap.size ≤ b) ∧ Chg F w w'
/-- a page that was built, laid in a page's place -/
theorem RfM.laid {w w7 : World} {F D : Nat → Prop} {g G C p b7 c7 : Nat} {L : List Pg} {es : List En} (A : RfM w F D g L) (hg : Blk w g [.slice (some ⟨G, 0, none⟩) L.length C] 31) (hFg : F g) (hFG : F G) (hR : Rw w 44 1 G L.length C (L.map Pg.v)) (hb : Below w.heap.size w w7) (hp : p < L.length) (hn : RpA w7 (fun b => D b ∨ w.heap.size ≤ b) ⟨b7, c7, es⟩) (hb7 : w.heap.size ≤ b7) :
    RfM (w7.setCell ⟨G, p, none⟩ (Pg.v ⟨b7, c7, es⟩)) (fun b => F b ∨ b = b7) (fun b => D b ∨ w.heap.size ≤ b) g (L.set p ⟨b7, c7, es⟩) ∧ Chg F w (w7.setCell ⟨G, p, none⟩ (Pg.v ⟨b7, c7, es⟩)) := by
  have gb := hg.keep hb
  have Rb := hR.keep hb
  obtain ⟨csG, kG⟩ := Rb.kind
  have hne : g ≠ G := blk_ne gb kG (by decide)
  have hrow : ∀ {q : Pg}, RpA w7 (fun b => D b ∨ w.heap.size ≤ b) q → RpA (w7.setCell ⟨G, p, none⟩ (Pg.v ⟨b7, c7, es⟩)) (fun b => D b ∨ w.heap.size ≤ b) q := fun {q} h => by
    have hr : ∀ {E : TypeId} {k b n c : Nat} {xs : List Value}, Rw w7 E k b n c xs → E ≠ 44 → Rw (w7.setCell ⟨G, p, none⟩ (Pg.v ⟨b7, c7, es⟩)) E k b n c xs := fun {E k b n c xs} h hE => by
      obtain ⟨cs, kk⟩ := h.kind
      exact h.same (Below.heap_setCell w7 _ _ b (show b ≠ G from blk_ne kk kG hE))
    refine ⟨hr h.row (by decide), fun e he => ?_⟩
    have ho : ∀ {v : Value} {l : List Int}, OB w7 (fun b => D b ∨ w.heap.size ≤ b) v l → OB (w7.setCell ⟨G, p, none⟩ (Pg.v ⟨b7, c7, es⟩)) (fun b => D b ∨ w.heap.size ≤ b) v l := fun h => ⟨h.oct, h.ex.imp id (fun ⟨b, c, e, hd, hRR⟩ => ⟨b, c, e, hd, hr hRR (by decide)⟩)⟩
    exact ⟨ho (h.ents e he).k, ho (h.ents e he).v⟩
  refine ⟨⟨⟨_, gb.off hne _, .inl hFg, .inr ⟨G, C, by rw [List.length_set], .inl hFG, ?_⟩⟩, fun q hq => ?_, ?_, fun b hF => ?_⟩, (Chg.of hb).cell (.inl hFG) _⟩
  · rw [List.length_set, List.map_set]
    exact Rb.set p (by rw [List.length_map]; exact hp) _
  · rcases List.mem_or_eq_of_mem_set hq with h | rfl
    · obtain ⟨h1, h2⟩ := A.pages q h
      have h3 := h1.keep hb
      exact ⟨hrow ⟨h3.row, fun e he => (h3.ents e he).mono fun _ _ h => .inl h⟩, .inl h2⟩
    · exact ⟨hrow hn, .inr rfl⟩
  · rw [List.map_set]
    refine nodup_new A.apart (fun hm => ?_) p
    obtain ⟨q, h1, h2⟩ := List.mem_map.1 hm
    have := (A.pages q h1).1.row.lt
    simp only at h2
    omega
  · rcases hF with hF | rfl
    · obtain ⟨cs, tt, hk, ht⟩ := A.kind b hF
      by_cases e : b = G
      · subst e
        obtain ⟨cs', k'⟩ := (Rb.set p (by rw [List.length_map]; exact hp) (Pg.v ⟨b7, c7, es⟩)).kind
        exact ⟨cs', _, k', by decide⟩
      · exact ⟨cs, tt, (hk.keep hb).off e _, ht⟩
    · obtain ⟨cs', k'⟩ := (hrow hn).row.kind
      exact ⟨cs', _, k', by decide⟩
set_option maxHeartbeats 4000000 in
set_option maxRecDepth 100000 in
theorem rset_ins {w : World} {F D : Nat → Prop} {g : Nat} {L : List Pg} {p0 : Pg} {ka va : Option Addr} {kc vc : Nat} {k v : List Int} (A : RfM w F D g L) (O : Ord (ens L)) (hk : By w (.slice ka k.length kc) k) (hv : By w (.slice va v.length vc) v) (hkl : k.length ≤ 1000000000) (hvl : v.length ≤ 1000000000) (hn : L.length ≤ 100000000) (hs : ∀ es ∈ ens L, es.length ≤ 32) (hb : ∀ es ∈ ens L, ∀ e ∈ es, e.kl.length ≤ 1000000000) (hp : L[pgi (ens L) k]? = some p0) (ht : thr (kys p0.es) k = false) (hfew : p0.es.length < 32) :
    Calls Try.prog 13 #[.pointer (some ⟨g, 0, none⟩), .slice ka k.length kc, .slice va v.length vc] w fun e w' => e = .returned (.bool true) ∧ InsR w w' F D g L (pgi (ens L) k) (plc (kys p0.es) k) k v := by
  have t1 := rfind A O hk hkl hn hs hb hp
  rw [ht] at t1
  have hpm := List.mem_of_getElem? hp
  have hil : plc (kys p0.es) k ≤ p0.es.length := by have := plc_le (kys p0.es) k; simpa [kys] using this
  have hpl := (List.getElem?_eq_some_iff.1 hp).1
  obtain ⟨i, hi⟩ : ∃ i, Hid (plc (kys p0.es) k = i) := ⟨_, rfl⟩
  obtain ⟨p, hpp⟩ : ∃ p, Hid (pgi (ens L) k = p) := ⟨_, rfl⟩
  rw [hi.out] at hil
  rw [hpp.out] at hpl hp
  rw [hi.out, hpp.out] at t1 ⊢
  have hL : L ≠ [] := fun e => by subst e; simp at hp
  obtain ⟨G, C, hg, hFg, hFG, hR⟩ := A.opn hL
  have HK : Hid _ := hk
  have HV : Hid _ := hv
  have HGB : Hid _ := hg
  have HR : Hid _ := hR
  have HA : Hid _ := A
  have hcG : Hid (w.cell? ⟨G, p, none⟩ = some (.slice (some ⟨p0.b, 0, none⟩) p0.es.length p0.c)) := hR.cell (by rw [List.getElem?_map, hp]; rfl)
  have hRP := (A.pages p0 hpm).1
  have HRP : Hid (RpA w (fun b => D b ∨ w.heap.size ≤ b) p0) := ⟨hRP.row, fun e he => (hRP.ents e he).mono fun _ _ h => .inl h⟩
  have HEN : Hid ((ens L)[p]? = some p0.es) := by show _ = _; rw [ens, List.getElem?_map, hp]; rfl
  have hgl := hg.lt
  have hcl := hRP.row.le
  obtain ⟨n, hnn⟩ : ∃ n, Hid (L.length = n) := ⟨_, rfl⟩
  rw [hnn.out] at hpl hn
  obtain ⟨m, hm⟩ : ∃ m, Hid (p0.es.length = m) := ⟨_, rfl⟩
  rw [hm.out] at hil hfew hcl hcG
  obtain ⟨kn, hkn⟩ : ∃ kn, Hid (k.length = kn) := ⟨_, rfl⟩
  obtain ⟨vn, hvn⟩ : ∃ vn, Hid (v.length = vn) := ⟨_, rfl⟩
  rw [hkn.out] at t1 HK ⊢
  rw [hvn.out] at HV ⊢
  have hn0 : ¬ ((n : Int) = 0) := by omega
  have hpl0 : (p : Int) < n := by omega
  have hil0 : (i : Int) ≤ m := by omega
  have hic0 : (i : Int) ≤ p0.c := by omega
  clear hk hv A O hs hb hg hR hRP hp hpm
  by_cases hC : p0.c = i
  all_goals
    go_enter Try.func13, Try.ntmps13
    go_wp2_with first
      | (go_at_call 35; refine t1.mono ?_; rintro e w1 ⟨rfl, B1⟩)
      | (go_at_call 11; have gate := B2; clear gate; refine (copyBytes_any ((HV.out.keep B1).keep B2) hvl).mono ?_; rintro e w3 ⟨v3, rfl, V3, B3⟩; obtain ⟨a3, c3, e3⟩ := V3.shape; rw [hvn.out] at e3; subst e3; have B03 := joinB (joinB B1 B2) B3; have b4 := below_alloc w3 (.cells #[.slice a2 kn c2, .slice a3 vn c3] 52); have B04 := joinB B03 b4; have EN : EnA (w3.alloc (.cells #[.slice a2 kn c2, .slice a3 vn c3] 52)) (fun b => D b ∨ w.heap.size ≤ b) ⟨.slice a2 kn c2, k, .slice a3 vn c3, v⟩ := ⟨((V2.keep B3).keep b4).mono (fun b _ h => .inr (by have := B1.size; show w.heap.size ≤ b; omega)), (V3.keep b4).mono (fun b _ h => .inr (by have := B1.size; have := B2.size; show w.heap.size ≤ b; omega))⟩; obtain ⟨v5, w5, v6, w6, v7, w7, hr5, hr6, hr7, P7, b5, b6, b7, ⟨x5, y5, z5, rfl⟩, ⟨x6, y6, z6, rfl⟩⟩ := page_built (i := i) (HRP.out.keep B04) EN (by rw [hm.out]; exact hil) (by rw [hm.out]; omega); simp only at hr6; rw [hm.out] at hr7; (first | rw [if_pos hC, Nat.sub_eq_zero_of_le (show p0.c ≤ i by omega)] at hr7 | rw [if_neg hC] at hr7); obtain ⟨bb, cc, e7, hl7, R7⟩ := P7.ex.resolve_left (fun h => by have := h.2; simp at this); have hlen7 : (p0.es.take i ++ [(⟨.slice a2 kn c2, k, .slice a3 vn c3, v⟩ : En)] ++ p0.es.drop i).length = m + 1 := (by simp; have := hm.out; omega); rw [hlen7] at e7; subst e7; have d04 := (B04.cell (p := ⟨g, 0, none⟩) hgl).trans (HGB.out.cell (i := 0) rfl); have d06 := ((joinB B04 b6).cell (p := ⟨g, 0, none⟩) hgl).trans (HGB.out.cell (i := 0) rfl); have d07 := ((joinB B04 b7).cell (p := ⟨g, 0, none⟩) hgl).trans (HGB.out.cell (i := 0) rfl); rw [hnn.out] at d04 d06 d07; have g04 := (B04.cell (p := ⟨G, p, none⟩) (cell_lt hcG.out)).trans hcG.out; have g06 := ((joinB B04 b6).cell (p := ⟨G, p, none⟩) (cell_lt hcG.out)).trans hcG.out; have g07 := ((joinB B04 b7).cell (p := ⟨G, p, none⟩) (cell_lt hcG.out)).trans hcG.out; have f07 := (HR.out.keep (joinB B04 b7)).free p; have q05 := (b5.cell (p := ⟨w3.heap.size, 0, none⟩) (by simp)).trans ((blk_new w3 [.slice a2 kn c2, .slice a3 vn c3] 52).cell (i := 0) rfl); have q15 := (b5.cell (p := ⟨w3.heap.size, 1, none⟩) (by simp)).trans ((blk_new w3 [.slice a2 kn c2, .slice a3 vn c3] 52).cell (i := 1) rfl))
      | (go_at_call 11; refine (copyBytes_any (HK.out.keep B1) hkl).mono ?_; rintro e w2 ⟨v2, rfl, V2, B2⟩; obtain ⟨a2, c2, e2⟩ := V2.shape; rw [hkn.out] at e2; subst e2)
      | (at_builtin; refine Lib.wpList_append_run _ rfl _ _ _ _ rfl _ _ rfl rfl _ _ hr5 ?_; clear hr5)
      | (at_builtin; refine Lib.wpList_append_run _ rfl _ _ _ _ rfl _ _ rfl rfl _ _ hr6 ?_; clear hr6)
      | (at_builtin; refine Lib.wpList_append_run _ rfl _ _ _ _ rfl _ _ rfl rfl _ _ hr7 ?_; clear hr7)
    go_ret
    refine ⟨rfl, fun b => F b ∨ b = bb, L.set p ⟨bb, cc, p0.es.take i ++ [(⟨.slice a2 kn c2, k, .slice a3 vn c3, v⟩ : En)] ++ p0.es.drop i⟩, .slice a2 kn c2, .slice a3 vn c3, ?_, ?_⟩
    rotate_left
    · have h := HA.out.laid HGB.out hFg hFG HR.out (joinB B04 b7) (by rw [hnn.out]; exact hpl) (b7 := bb) (c7 := cc) ⟨R7, P7.ents⟩ (by have := B04.size; omega)
      have hv : Pg.v ⟨bb, cc, p0.es.take i ++ [(⟨.slice a2 kn c2, k, .slice a3 vn c3, v⟩ : En)] ++ p0.es.drop i⟩ = .slice (some ⟨bb, 0, none⟩) (m + 1) cc := by unfold Pg.v; rw [hlen7]
      rw [hv] at h
      exact ⟨h.1, fun b hb => hb.imp id (fun e => by have := B04.size; omega), h.2⟩
    · rw [ens_set]
      unfold insQ
      have hgd : (ens L).getD p [] = p0.es := by rw [List.getD_eq_getElem?_getD, HEN.out]; rfl
      simp only [hgd]
      rw [if_neg (by rw [hlen7]; omega)]
end Pg
end Go.Proofs.Ytjnjkgakdnjlmaa

namespace Go.Proofs.Ytjnjkgakdnjlmaa
namespace Pg
open Go.RowKit Go.Lib
attribute [local go_sem] Oper.semAt_some
set_option maxHeartbeats 4000000 in
set_option maxRecDepth 100000 in
theorem rset_first {w : World} {F D : Nat → Prop} {g : Nat} {ka va : Option Addr} {kc vc : Nat} {k v : List Int} (A : RfM w F D g []) (hk : By w (.slice ka k.length kc) k) (hv : By w (.slice va v.length vc) v) (hkl : k.length ≤ 1000000000) (hvl : v.length ≤ 1000000000) :
    Calls Try.prog 13 #[.pointer (some ⟨g, 0, none⟩), .slice ka k.length kc, .slice va v.length vc] w fun e w' => e = .returned (.bool true) ∧ ∃ F' L' nk nv, ens L' = [[⟨nk, k, nv, v⟩]] ∧ RfM w' F' (fun b => D b ∨ w.heap.size ≤ b) g L' ∧ (∀ b, F' b → F b ∨ w.heap.size ≤ b) ∧ Chg F w w' := by
  have t1 := rfind0 (ka := ka) (kn := k.length) (kc := kc) A
  obtain ⟨pv, hg, hFg, hpv⟩ := A.top
  obtain ⟨ao, c0, hpv0⟩ : ∃ ao c0, pv = .slice ao 0 c0 := by
    rcases hpv with ⟨h, _⟩ | ⟨G, C, e, hG, hR⟩
    · exact ⟨_, _, h⟩
    · exact ⟨_, _, e⟩
  subst hpv0
  have HK : Hid _ := hk
  have HV : Hid _ := hv
  have HGB : Hid _ := hg
  have HA : Hid _ := A
  have hgl := hg.lt
  obtain ⟨kn, hkn⟩ : ∃ kn, Hid (k.length = kn) := ⟨_, rfl⟩
  obtain ⟨vn, hvn⟩ : ∃ vn, Hid (v.length = vn) := ⟨_, rfl⟩
  rw [hkn.out] at t1 HK ⊢
  rw [hvn.out] at HV ⊢
  clear hk hv A hg hpv
  go_enter Try.func13, Try.ntmps13
  go_wp2_with first
    | (go_at_call 35; refine t1.mono ?_; rintro e w1 ⟨rfl, B1⟩)
    | (go_at_call 11; have gate := B2; clear gate; refine (copyBytes_any ((HV.out.keep B1).keep B2) hvl).mono ?_; rintro e w3 ⟨v3, rfl, V3, B3⟩; obtain ⟨a3, c3, e3⟩ := V3.shape; rw [hvn.out] at e3; subst e3; have B03 := joinB (joinB B1 B2) B3; have b4 := below_alloc w3 (.cells #[.slice a2 kn c2, .slice a3 vn c3] 52); have B04 := joinB B03 b4; have g4 := HGB.out.keep B04; have d04 := g4.cell (i := 0) rfl; have b5 := below_alloc (w3.alloc (.cells #[.slice a2 kn c2, .slice a3 vn c3] 52)) (.cells #[.slice a2 kn c2, .slice a3 vn c3] 52); have b6 := below_alloc ((w3.alloc (.cells #[.slice a2 kn c2, .slice a3 vn c3] 52)).alloc (.cells #[.slice a2 kn c2, .slice a3 vn c3] 52)) (.cells #[.slice (some ⟨w3.heap.size + 1, 0, none⟩) 1 1] 44); have b56 := joinB b5 b6; have g6 := g4.keep b56; have d06 := g6.cell (i := 0) rfl; have f06 := g6.free 0)
    | (go_at_call 11; refine (copyBytes_any (HK.out.keep B1) hkl).mono ?_; rintro e w2 ⟨v2, rfl, V2, B2⟩; obtain ⟨a2, c2, e2⟩ := V2.shape; rw [hkn.out] at e2; subst e2)
  go_ret
  have s4 : (w3.alloc (.cells #[.slice a2 kn c2, .slice a3 vn c3] 52)).heap.size = w3.heap.size + 1 := by simp
  have s5 : ((w3.alloc (.cells #[.slice a2 kn c2, .slice a3 vn c3] 52)).alloc (.cells #[.slice a2 kn c2, .slice a3 vn c3] 52)).heap.size = w3.heap.size + 2 := by simp
  have kP := (blk_new (w3.alloc (.cells #[.slice a2 kn c2, .slice a3 vn c3] 52)) [.slice a2 kn c2, .slice a3 vn c3] 52).keep b6
  have kO := blk_new ((w3.alloc (.cells #[.slice a2 kn c2, .slice a3 vn c3] 52)).alloc (.cells #[.slice a2 kn c2, .slice a3 vn c3] 52)) [.slice (some ⟨w3.heap.size + 1, 0, none⟩) 1 1] 44
  rw [s4] at kP
  rw [s5] at kO
  have hws : w.heap.size ≤ w3.heap.size := B03.size
  have n1 : g ≠ w3.heap.size + 1 := by omega
  have n2 : g ≠ w3.heap.size + 2 := by omega
  refine ⟨rfl, fun b => b = g ∨ b = w3.heap.size + 1 ∨ b = w3.heap.size + 2, [⟨w3.heap.size + 1, 1, [⟨.slice a2 kn c2, k, .slice a3 vn c3, v⟩]⟩], .slice a2 kn c2, .slice a3 vn c3, rfl, ⟨⟨_, g6.setCell _, .inl rfl, .inr ⟨w3.heap.size + 2, 1, rfl, .inr (.inr rfl), blk_rw (kO.off (Ne.symm n2) _) rfl (show 1 ≤ maxLen by decide)⟩⟩, fun q hq => ?_, by simp, fun b hb => ?_⟩, fun b hb => ?_, ?_⟩
  · simp at hq
    subst hq
    refine ⟨⟨blk_rw (kP.off (Ne.symm n1) _) rfl (show 1 ≤ maxLen by decide), fun e he => ?_⟩, .inr (.inl rfl)⟩
    simp at he
    subst he
    exact ⟨((((V2.keep B3).keep b4).keep b56).cellg g6 _).mono (fun b _ h => .inr (by have := B1.size; show w.heap.size ≤ b; omega)), (((V3.keep b4).keep b56).cellg g6 _).mono (fun b _ h => .inr (by have := B1.size; have := B2.size; show w.heap.size ≤ b; omega))⟩
  · rcases hb with rfl | rfl | rfl
    · exact ⟨_, _, g6.setCell _, by decide⟩
    · exact ⟨_, _, kP.off (Ne.symm n1) _, by decide⟩
    · exact ⟨_, _, kO.off (Ne.symm n2) _, by decide⟩
  · rcases hb with rfl | rfl | rfl
    · exact .inl hFg
    · exact .inr (by omega)
    · exact .inr (by omega)
  · exact (Chg.of (joinB B04 b56)).cell (.inl hFg) _
end Pg
end Go.Proofs.Ytjnjkgakdnjlmaa

namespace Go.Proofs.Ytjnjkgakdnjlmaa
namespace Pg
open Go.RowKit Go.Lib
attribute [local go_sem] Oper.semAt_some
theorem OB.chgg {w w' : World} {D : Nat → Prop} {v : Value} {l : List Int} (h : OB w D v l) {g : Nat} {cs : List Value} (hb : Blk w g cs 31) (hc : Chg (· = g) w w') : OB w' D v l :=
  ⟨h.oct, h.ex.imp id (fun ⟨b, c, e, hd, hR⟩ => ⟨b, c, e, hd, hR.chg hc (fun e => by
    obtain ⟨ds, k⟩ := hR.kind
    have e' : b = g := e
    subst e'
    have := (k.eq hb).2
    revert this
    decide)⟩)⟩
theorem RpA.chgg {w w' : World} {D : Nat → Prop} {q : Pg} (h : RpA w D q) {g : Nat} {cs : List Value} (hb : Blk w g cs 31) (hc : Chg (· = g) w w') : RpA w' D q :=
  ⟨h.row.chg hc (fun e => by
    obtain ⟨ds, k⟩ := h.row.kind
    have e' : q.b = g := e
    rw [e'] at k
    have := (k.eq hb).2
    revert this
    decide), fun e he => ⟨(h.ents e he).k.chgg hb hc, (h.ents e he).v.chgg hb hc⟩⟩
theorem split_at {α : Type} {l : List α} {p : Nat} {x : α} (h : l[p]? = some x) : l = l.take p ++ [x] ++ l.drop (p + 1) := by
  have e : l.drop p = x :: l.drop (p + 1) := by
    rw [List.drop_eq_getElem?_toList_append, h]
    rfl
  rw [List.append_assoc, List.singleton_append, ← e, List.take_append_drop]
theorem put_rfm {w : World} {F D : Nat → Prop} {g p m lc : Nat} {L : List Pg} {p0 : Pg} {lo : Option Addr} {xs : List (List En)} (A : RfM w F D g L) (hp : L[p]? = some p0) (hn : L.length ≤ 100000000) (hX : Hd w D lo m xs) (hm : m ≤ 1000) :
    Calls Try.prog 36 #[.pointer (some ⟨g, 0, none⟩), .int .i64 p, .slice lo m lc] w fun e w' => e = .returned (.tuple #[]) ∧ ∃ F' L', ens L' = (ens L).take p ++ xs ++ (ens L).drop (p + 1) ∧ RfM w' F' D g L' ∧ (∀ b, F' b → F b ∨ w.heap.size ≤ b) ∧ Chg F w w' := by
  have hL : L ≠ [] := fun e => by subst e; simp at hp
  obtain ⟨G, C, hg, hFg, hFG, hR⟩ := A.opn hL
  have hpl := (List.getElem?_eq_some_iff.1 hp).1
  have hsp := split_at hp
  have hR' : Rw w 44 1 G L.length C ((L.take p).map Pg.v ++ [p0.v] ++ (L.drop (p + 1)).map Pg.v) := hR.to (by
    have := congrArg (List.map Pg.v) hsp
    rw [List.map_append, List.map_append] at this
    exact this)
  refine (put_any (lc := lc) hg hR' (by rw [List.length_take]; omega) hn hX hm).mono fun e w' ⟨he, v, X', kg, hXe, hRo, hXp, hXn, hc⟩ => ⟨he, fun b => F b ∨ (w.heap.size ≤ b ∧ ∃ cs t, Blk w' b cs t ∧ t ≠ 5), L.take p ++ X' ++ L.drop (p + 1), ?_, ⟨⟨v, kg, .inl hFg, ?_⟩, fun q hq => ?_, ?_, fun b hb => ?_⟩, fun b hb => hb.imp id (fun h => h.1), hc.mono (fun b _ e => by have e' : b = g := e; rw [e']; exact hFg)⟩
  · rw [← hXe]
    simp [ens, List.map_take, List.map_drop]
  · rcases hRo.ex with ⟨e1, e2⟩ | ⟨G', C', e1, hl, hRR⟩
    · exact .inl ⟨e1, e2⟩
    · obtain ⟨cs, k⟩ := hRR.kind
      exact .inr ⟨G', C', e1, .inr ⟨hl, cs, _, k, by decide⟩, hRR⟩
  · rcases List.mem_append.1 hq with hq | hq
    · rcases List.mem_append.1 hq with hq | hq
      · obtain ⟨h1, h2⟩ := A.pages q (List.mem_of_mem_take hq)
        exact ⟨h1.chgg hg hc, .inl h2⟩
      · obtain ⟨h1, h2⟩ := hXp q hq
        obtain ⟨cs, k⟩ := h1.row.kind
        exact ⟨h1, .inr ⟨h2, cs, _, k, by decide⟩⟩
    · obtain ⟨h1, h2⟩ := A.pages q (List.mem_of_mem_drop hq)
      exact ⟨h1.chgg hg hc, .inl h2⟩
  · have h0 := A.apart
    rw [hsp, List.map_append, List.map_append, List.nodup_append, List.nodup_append] at h0
    obtain ⟨⟨h1, _, _⟩, h3, h4⟩ := h0
    have hold : ∀ x ∈ L, x.b < w.heap.size := fun x hx => (A.pages x hx).1.row.lt
    rw [List.map_append, List.map_append, List.nodup_append, List.nodup_append]
    refine ⟨⟨h1, hXn, fun x hx y hy => ?_⟩, h3, fun x hx y hy => ?_⟩
    · obtain ⟨q, hq, rfl⟩ := List.mem_map.1 hx
      obtain ⟨r, hr, rfl⟩ := List.mem_map.1 hy
      have := hold q (List.mem_of_mem_take hq)
      have := (hXp r hr).2
      omega
    · rcases List.mem_append.1 hx with hx | hx
      · exact h4 x (List.mem_append_left _ hx) y hy
      · obtain ⟨q, hq, rfl⟩ := List.mem_map.1 hx
        obtain ⟨r, hr, rfl⟩ := List.mem_map.1 hy
        have := (hXp q hq).2
        have := hold r (List.mem_of_mem_drop hr)
        omega
  · rcases hb with hb | ⟨_, h⟩
    · by_cases e : b = g
      · subst e; exact ⟨_, _, kg, by decide⟩
      · obtain ⟨cs, t, hk, ht⟩ := A.kind b hb
        exact ⟨cs, t, hk.chg hc e, ht⟩
    · exact h
theorem run_sl1 {a : Act} {w : World} {op : Oper} {x n c b : Nat} (ho : op.op = .slice 44 (.tmp x) none (some (.const (.int .i64 16))) none) (hx : a.eval (.tmp x) = .slice (some ⟨b, 0, none⟩) n c) (hc : 16 ≤ c) : (execOp a.eval op).run Try.prog w = .ok (.value (.slice (some ⟨b, 0, none⟩) 16 c)) w := by
  have h1 : ¬ ((c : Int) < 16) := by omega
  have h2 : (16 : Int) ≤ c := by omega
  obtain ⟨i0, hi, hz0, hs0, hb0⟩ := info_parts (P := Try.prog) KQ.inf
  simp only [execOp, ho, hx]
  go_simp
theorem run_sl2 {a : Act} {w : World} {op : Oper} {x n c b : Nat} (ho : op.op = .slice 44 (.tmp x) (some (.const (.int .i64 16))) none none) (hx : a.eval (.tmp x) = .slice (some ⟨b, 0, none⟩) n c) (hn : 16 ≤ n) (hc : 17 ≤ c) (hnc : n ≤ c) : (execOp a.eval op).run Try.prog w = .ok (.value (.slice (some ⟨b, 32, none⟩) (n - 16) (c - 16))) w := by
  have h1 : ¬ ((n : Int) < 16) := by omega
  have h2 : (16 : Int) ≤ n := by omega
  have h3 : ¬ (c - 16 = 0) := by omega
  have h4 : (n : Int) ≤ c := by omega
  have h5 : ¬ (c ≤ 16) := by omega
  have h6 : ¬ ((c : Int) = 16) := by omega
  have h7 : ¬ (c = 16) := by omega
  obtain ⟨i0, hi, hz0, hs0, hb0⟩ := info_parts (P := Try.prog) KQ.inf
  simp only [execOp, ho, hx]
  go_simp
end Pg
end Go.Proofs.Ytjnjkgakdnjlmaa

namespace Go.Proofs.Ytjnjkgakdnjlmaa
namespace Pg
open Go.RowKit Go.Lib
attribute [local go_sem] Oper.semAt_some
theorem run_bo2 {a : Act} {w : World} {o : Oper} {k j : Nat} {x y : Option Addr} {n c n' c' : Nat} (ho : o.op = .buildSlice 29 2 #[(0, .tmp k), (1, .tmp j)]) (hk : a.eval (.tmp k) = .slice x n c) (hj : a.eval (.tmp j) = .slice y n' c') : (execOp a.eval o).run Try.prog w = .ok (.value (.slice (some ⟨w.heap.size, 0, none⟩) 2 2)) (w.alloc (.cells #[.slice x n c, .slice y n' c'] 44)) := by
  have hk' : a.tmps[k]?.getD undef = .slice x n c := by simpa [Act.eval] using hk
  have hj' : a.tmps[j]?.getD undef = .slice y n' c' := by simpa [Act.eval] using hj
  simp only [execOp, ho]
  go_simp
set_option maxHeartbeats 4000000 in
set_option maxRecDepth 100000 in
theorem rset_split {w : World} {F D : Nat → Prop} {g : Nat} {L : List Pg} {p0 : Pg} {ka va : Option Addr} {kc vc : Nat} {k v : List Int} (A : RfM w F D g L) (O : Ord (ens L)) (hk : By w (.slice ka k.length kc) k) (hv : By w (.slice va v.length vc) v) (hkl : k.length ≤ 1000000000) (hvl : v.length ≤ 1000000000) (hn : L.length ≤ 100000000) (hs : ∀ es ∈ ens L, es.length ≤ 32) (hb : ∀ es ∈ ens L, ∀ e ∈ es, e.kl.length ≤ 1000000000) (hp : L[pgi (ens L) k]? = some p0) (ht : thr (kys p0.es) k = false) (hfull : p0.es.length = 32) :
    Calls Try.prog 13 #[.pointer (some ⟨g, 0, none⟩), .slice ka k.length kc, .slice va v.length vc] w fun e w' => e = .returned (.bool true) ∧ InsR w w' F D g L (pgi (ens L) k) (plc (kys p0.es) k) k v := by
  have t1 := rfind A O hk hkl hn hs hb hp
  rw [ht] at t1
  have hpm := List.mem_of_getElem? hp
  have hil : plc (kys p0.es) k ≤ p0.es.length := by have := plc_le (kys p0.es) k; simpa [kys] using this
  have hpl := (List.getElem?_eq_some_iff.1 hp).1
  obtain ⟨i, hi⟩ : ∃ i, Hid (plc (kys p0.es) k = i) := ⟨_, rfl⟩
  obtain ⟨p, hpp⟩ : ∃ p, Hid (pgi (ens L) k = p) := ⟨_, rfl⟩
  rw [hi.out] at hil
  rw [hpp.out] at hpl hp
  rw [hi.out, hpp.out] at t1 ⊢
  have hL : L ≠ [] := fun e => by subst e; simp at hp
  obtain ⟨G, C, hg, hFg, hFG, hR⟩ := A.opn hL
  have HK : Hid _ := hk
  have HV : Hid _ := hv
  have HGB : Hid _ := hg
  have HR : Hid _ := hR
  have HA : Hid _ := A
  have hcG : Hid (w.cell? ⟨G, p, none⟩ = some (.slice (some ⟨p0.b, 0, none⟩) p0.es.length p0.c)) := hR.cell (by rw [List.getElem?_map, hp]; rfl)
  have hRP := (A.pages p0 hpm).1
  have HRP : Hid (RpA w (fun b => D b ∨ w.heap.size ≤ b) p0) := ⟨hRP.row, fun e he => (hRP.ents e he).mono fun _ _ h => .inl h⟩
  have HEN : Hid ((ens L)[p]? = some p0.es) := by show _ = _; rw [ens, List.getElem?_map, hp]; rfl
  have hgl := hg.lt
  have hcl := hRP.row.le
  obtain ⟨n, hnn⟩ : ∃ n, Hid (L.length = n) := ⟨_, rfl⟩
  rw [hnn.out] at hpl hn
  obtain ⟨m, hm⟩ : ∃ m, Hid (p0.es.length = m) := ⟨_, rfl⟩
  rw [hm.out] at hil hfull hcl hcG
  have hm32 : Hid (m = 32) := hfull
  have hm33 : (32 : Int) < (m : Int) + 1 := by omega
  clear hfull
  obtain ⟨kn, hkn⟩ : ∃ kn, Hid (k.length = kn) := ⟨_, rfl⟩
  obtain ⟨vn, hvn⟩ : ∃ vn, Hid (v.length = vn) := ⟨_, rfl⟩
  rw [hkn.out] at t1 HK ⊢
  rw [hvn.out] at HV ⊢
  have hn0 : ¬ ((n : Int) = 0) := by omega
  have hpl0 : (p : Int) < n := by omega
  have hil0 : (i : Int) ≤ m := by omega
  have hic0 : (i : Int) ≤ p0.c := by omega
  clear hk hv A O hs hb hg hR hRP hp hpm
  by_cases hC : p0.c = i
  all_goals
    go_enter Try.func13, Try.ntmps13
    go_wp2_with first
      | (go_at_call 35; refine t1.mono ?_; rintro e w1 ⟨rfl, B1⟩)
      | (go_at_call 11; have gate := B2; clear gate; refine (copyBytes_any ((HV.out.keep B1).keep B2) hvl).mono ?_; rintro e w3 ⟨v3, rfl, V3, B3⟩; obtain ⟨a3, c3, e3⟩ := V3.shape; rw [hvn.out] at e3; subst e3; have B03 := joinB (joinB B1 B2) B3; have b4 := below_alloc w3 (.cells #[.slice a2 kn c2, .slice a3 vn c3] 52); have B04 := joinB B03 b4; have EN : EnA (w3.alloc (.cells #[.slice a2 kn c2, .slice a3 vn c3] 52)) (fun b => D b ∨ w.heap.size ≤ b) ⟨.slice a2 kn c2, k, .slice a3 vn c3, v⟩ := ⟨((V2.keep B3).keep b4).mono (fun b _ h => .inr (by have := B1.size; show w.heap.size ≤ b; omega)), (V3.keep b4).mono (fun b _ h => .inr (by have := B1.size; have := B2.size; show w.heap.size ≤ b; omega))⟩; obtain ⟨v5, w5, v6, w6, v7, w7, hr5, hr6, hr7, P7, b5, b6, b7, ⟨x5, y5, z5, rfl⟩, ⟨x6, y6, z6, rfl⟩⟩ := page_built (i := i) (HRP.out.keep B04) EN (by rw [hm.out]; exact hil) (by rw [hm.out]; have := hm32.out; omega); simp only at hr6; rw [hm.out] at hr7; (first | rw [if_pos hC, Nat.sub_eq_zero_of_le (show p0.c ≤ i by omega)] at hr7 | rw [if_neg hC] at hr7); obtain ⟨bb, cc, e7, hl7, R7⟩ := P7.ex.resolve_left (fun h => by have := h.2; simp at this); have hlen7 : (p0.es.take i ++ [(⟨.slice a2 kn c2, k, .slice a3 vn c3, v⟩ : En)] ++ p0.es.drop i).length = m + 1 := (by simp; have := hm.out; omega); rw [hlen7] at e7; subst e7; have d04 := (B04.cell (p := ⟨g, 0, none⟩) hgl).trans (HGB.out.cell (i := 0) rfl); have d06 := ((joinB B04 b6).cell (p := ⟨g, 0, none⟩) hgl).trans (HGB.out.cell (i := 0) rfl); have d07 := ((joinB B04 b7).cell (p := ⟨g, 0, none⟩) hgl).trans (HGB.out.cell (i := 0) rfl); rw [hnn.out] at d04 d06 d07; have g04 := (B04.cell (p := ⟨G, p, none⟩) (cell_lt hcG.out)).trans hcG.out; have g06 := ((joinB B04 b6).cell (p := ⟨G, p, none⟩) (cell_lt hcG.out)).trans hcG.out; have g07 := ((joinB B04 b7).cell (p := ⟨G, p, none⟩) (cell_lt hcG.out)).trans hcG.out; have f07 := (HR.out.keep (joinB B04 b7)).free p; have q05 := (b5.cell (p := ⟨w3.heap.size, 0, none⟩) (by simp)).trans ((blk_new w3 [.slice a2 kn c2, .slice a3 vn c3] 52).cell (i := 0) rfl); have q15 := (b5.cell (p := ⟨w3.heap.size, 1, none⟩) (by simp)).trans ((blk_new w3 [.slice a2 kn c2, .slice a3 vn c3] 52).cell (i := 1) rfl))
      | (go_at_call 11; refine (copyBytes_any (HK.out.keep B1) hkl).mono ?_; rintro e w2 ⟨v2, rfl, V2, B2⟩; obtain ⟨a2, c2, e2⟩ := V2.shape; rw [hkn.out] at e2; subst e2)
      | (at_builtin; refine Lib.wpList_append_run _ rfl _ _ _ _ rfl _ _ rfl rfl _ _ hr5 ?_; clear hr5)
      | (at_builtin; refine Lib.wpList_append_run _ rfl _ _ _ _ rfl _ _ rfl rfl _ _ hr6 ?_; clear hr6)
      | (at_builtin; refine Lib.wpList_append_run _ rfl _ _ _ _ rfl _ _ rfl rfl _ _ hr7 ?_; clear hr7)
    obtain ⟨es7, hes7⟩ : ∃ es7, Hid (p0.es.take i ++ [(⟨.slice a2 kn c2, k, .slice a3 vn c3, v⟩ : En)] ++ p0.es.drop i = es7) := ⟨_, rfl⟩
    rw [hes7.out] at hlen7 P7 R7
    have h8 := HA.out.laid HGB.out hFg hFG HR.out (joinB B04 b7) (by rw [hnn.out]; exact hpl) (b7 := bb) (c7 := cc) (es := es7) ⟨R7, P7.ents⟩ (by have := B04.size; omega)
    have hv8 : Pg.v ⟨bb, cc, es7⟩ = .slice (some ⟨bb, 0, none⟩) (m + 1) cc := by unfold Pg.v; rw [hlen7]
    rw [hv8] at h8
    have R8 : RpA (w7.setCell ⟨G, p, none⟩ (.slice (some ⟨bb, 0, none⟩) (m + 1) cc)) (fun b => D b ∨ w.heap.size ≤ b) ⟨bb, cc, es7⟩ := (h8.1.pages ⟨bb, cc, es7⟩ (List.mem_of_getElem? (i := p) (by rw [List.getElem?_set_self (by rw [hnn.out]; exact hpl)]))).1
    obtain ⟨W8, hW8⟩ : ∃ W8, Hid (w7.setCell ⟨G, p, none⟩ (.slice (some ⟨bb, 0, none⟩) (m + 1) cc) = W8) := ⟨_, rfl⟩
    rw [hW8.out] at h8 R8 ⊢
    have hcl7 := R7.le
    rw [hlen7] at hcl7
    have hm32' := hm32.out
    have bA := below_alloc W8.drew (.cells #[.slice (some ⟨bb, 0, none⟩) 16 cc, .slice (some ⟨bb, 32, none⟩) (m + 1 - 16) (cc - 16)] 44)
    have b89 := joinB (belowD W8) bA
    have R9 := R8.keep b89
    have kN := blk_new W8.drew [.slice (some ⟨bb, 0, none⟩) 16 cc, .slice (some ⟨bb, 32, none⟩) (m + 1 - 16) (cc - 16)] 44
    have hHd : Hd (W8.drew.alloc (.cells #[.slice (some ⟨bb, 0, none⟩) 16 cc, .slice (some ⟨bb, 32, none⟩) (m + 1 - 16) (cc - 16)] 44)) (fun b => D b ∨ w.heap.size ≤ b) (some ⟨W8.drew.heap.size, 0, none⟩) 2 [es7.take 16, es7.drop 16] := by
      refine ⟨rfl, fun j es hj => ?_⟩
      match j with
      | 0 =>
        simp at hj
        subst hj
        exact ⟨_, ⟨bb, 0, none⟩, cc, rfl, by rw [kN.cell (i := 0) rfl, List.length_take, Nat.min_eq_left (by omega)], fun j u hu => R9.cells j u (flat_take_at hu), fun e he => R9.ents e (List.mem_of_mem_take he), fun e => by have := congrArg List.length e; rw [List.length_take, hlen7] at this; simp at this, by rw [List.length_take]; omega⟩
      | 1 =>
        simp at hj
        subst hj
        exact ⟨_, ⟨bb, 32, none⟩, cc - 16, rfl, by rw [kN.cell (i := 1) rfl, List.length_drop, hlen7], fun j u hu => by rw [adr0]; exact R9.row.cell (flat_drop_at hu), fun e he => R9.ents e (List.mem_of_mem_drop he), fun e => by have := congrArg List.length e; rw [List.length_drop, hlen7] at this; simp at this; omega, by rw [List.length_drop]; omega⟩
      | j + 2 => simp at hj
    have HPUT : Hid _ := put_rfm (lc := 2) (p := p) (h8.1.keep b89) (List.getElem?_set_self (by rw [hnn.out]; exact hpl)) (by rw [List.length_set, hnn.out]; exact hn) hHd (by decide)
    refine rg_start (S := fun _ => True) (by kernel_rfl) trivial ?_
    refine rg_take 0 (some 83) (.pointer (some ⟨g, 0, none⟩)) (by kernel_rfl) (fun _ _ => by kernel_rfl) (fun _ _ _ h => h) trivial ?_
    refine rg_take 1 (some 84) (.int .i64 p) (by kernel_rfl) (fun _ _ => by kernel_rfl) (fun _ _ _ h => h) trivial ?_
    refine rg_take 2 (some 85) (.slice (some ⟨bb, 0, none⟩) (m + 1) cc) (by kernel_rfl) (fun _ _ => by kernel_rfl) (fun _ _ _ h => h) trivial ?_
    refine rg_take 3 (some 86) (.slice (some ⟨bb, 0, none⟩) 16 cc) (by kernel_rfl) (fun _ _ => run_sl1 (x := 85) (n := m + 1) (by kernel_rfl) (by kernel_rfl) (by omega)) (fun _ _ _ h => h) trivial ?_
    refine rg_take 4 (some 87) (.slice (some ⟨bb, 0, none⟩) (m + 1) cc) (by kernel_rfl) (fun _ _ => by kernel_rfl) (fun _ _ _ h => h) trivial ?_
    refine rg_take 5 (some 88) (.slice (some ⟨bb, 32, none⟩) (m + 1 - 16) (cc - 16)) (by kernel_rfl) (fun _ _ => run_sl2 (x := 87) (n := m + 1) (by kernel_rfl) (by kernel_rfl) (by omega) (by omega) (by omega)) (fun _ _ _ h => h) trivial ?_
    refine rg_ready [6] (by kernel_rfl) (by simp) (ar_val 6 (some 89) (.slice (some ⟨W8.heap.size, 0, none⟩) 2 2) (W8.drew.alloc (.cells #[.slice (some ⟨bb, 0, none⟩) 16 cc, .slice (some ⟨bb, 32, none⟩) (m + 1 - 16) (cc - 16)] 44)) (by kernel_rfl) (run_bo2 (k := 86) (j := 88) (by kernel_rfl) (by kernel_rfl) (by kernel_rfl)) trivial ?_ ar_nil)
    refine rg_call 7 (some 90) 36 #[.pointer (some ⟨g, 0, none⟩), .int .i64 p, .slice (some ⟨W8.heap.size, 0, none⟩) 2 2] (by kernel_rfl) (by kernel_rfl) HPUT.out ?_
    rintro e' w9 ⟨rfl, F9, L9, hL9, A9, hF9, hC9⟩
    refine ⟨_, rfl, trivial, ?_⟩
    refine rg_done (by kernel_rfl) ?_
    simp only [Act.put, List.setIfInBounds_toArray, List.set_cons_zero, List.set_cons_succ]
    go_wp2
    go_ret
    refine ⟨rfl, F9, L9, .slice a2 kn c2, .slice a3 vn c3, ?_, A9, fun b hb => ?_, ?_⟩
    · rw [hL9, ens_set]
      unfold insQ
      have hgd : (ens L).getD p [] = p0.es := by rw [List.getD_eq_getElem?_getD, HEN.out]; rfl
      simp only [hgd]
      rw [hes7.out, if_pos (by rw [hlen7]; omega)]
      rw [List.take_set_of_le (Nat.le_refl _), List.drop_set_of_lt (Nat.lt_succ_self _)]
    · rcases hF9 b hb with (h | h) | h
      · exact .inl h
      · exact .inr (by have := B04.size; omega)
      · have := h8.2.size
        have := b89.size
        exact .inr (by omega)
    · refine (h8.2.trans (Chg.of (F := fun _ => False) b89) (fun _ _ f => f.elim)).trans hC9 (fun b hb hf => ?_)
      rcases hf with h | h
      · exact h
      · have := B04.size
        omega
end Pg
end Go.Proofs.Ytjnjkgakdnjlmaa

namespace Go.Proofs.Ytjnjkgakdnjlmaa
namespace Pg
open Go.RowKit Go.Lib
attribute [local go_sem] Oper.semAt_some
theorem ld_oo {w : World} {g o : Nat} {v : Value} (c : w.cell? ⟨g, o, none⟩ = some v) : (loadVar 29 ⟨g, o, none⟩).run Try.prog w = .ok v w := by go_simp
theorem ld_op {w : World} {g o : Nat} {v : Value} (c : w.cell? ⟨g, o, none⟩ = some v) : (loadVar 44 ⟨g, o, none⟩).run Try.prog w = .ok v w := by go_simp
theorem ld_oe {w : World} {g o : Nat} {v u : Value} (c : w.cell? ⟨g, o, none⟩ = some v) (d : w.cell? ⟨g, o + 1, none⟩ = some u) : (loadVar 52 ⟨g, o, none⟩).run Try.prog w = .ok (.agg #[v, u]) w := by go_simp
theorem run_io {a : Act} {w : World} {op : Oper} {x y k n c b : Nat} (ho : op.op = .indexAddr 29 (.tmp x) (.tmp y)) (hx : a.eval (.tmp x) = .slice (some ⟨b, 0, none⟩) n c) {z : Int} (hy : a.eval (.tmp y) = .int .i64 z) (hz : z = (k : Int)) (hk : k < n) : (execOp a.eval op).run Try.prog w = .ok (.value (.pointer (some ⟨b, k, none⟩))) w := by
  subst hz
  have h1 : (k : Int) < n := by omega
  have h2 : ¬ ((k : Int) < 0) := by omega
  obtain ⟨i0, hi, hz0, hs0, hb0⟩ := info_parts (P := Try.prog) KO.inf
  simp only [execOp, ho, hx, hy]
  go_simp
theorem run_so {a : Act} {w : World} {o : Oper} (k q : Nat) {g off : Nat} {x y : Option Addr} {n c n' c' : Nat} {u1 u2 : Value} (ho : o.op = .store 52 (.tmp k) (.tmp q)) (hp : a.eval (.tmp k) = .pointer (some ⟨g, off, none⟩)) (hq : a.eval (.tmp q) = .agg #[.slice x n c, .slice y n' c']) (h1 : w.cell? ⟨g, off, none⟩ = some u1) (h2 : w.cell? ⟨g, off + 1, none⟩ = some u2) (f1 : w.frozen? ⟨g, off, none⟩ = false) (f2 : w.frozen? ⟨g, off + 1, none⟩ = false) :
    (execOp a.eval o).run Try.prog w = .ok .skip ((w.setCell ⟨g, off, none⟩ (.slice x n c)).setCell ⟨g, off + 1, none⟩ (.slice y n' c')) := by
  simp only [execOp, ho, hp, hq]
  go_simp
theorem set_self {α : Type} : ∀ {l : List α} {i : Nat} {x : α}, l[i]? = some x → l.set i x = l
  | [], i, x, h => by simp at h
  | a :: l, 0, x, h => by simp at h; subst h; rfl
  | a :: l, i + 1, x, h => by simp at h; simp [set_self h]
theorem flat_set2 : ∀ {l : List En} {i : Nat} (e : En), i < l.length → ((flat l).set (i * 2) e.kv).set (i * 2 + 1) e.vv = flat (l.set i e)
  | [], i, e, h => by simp at h
  | a :: l, 0, e, h => rfl
  | a :: l, i + 1, e, h => by
    have := flat_set2 (l := l) (i := i) e (by simpa using h)
    rw [show (i + 1) * 2 = i * 2 + 1 + 1 by omega]
    simp only [flat, List.set_cons_succ]
    rw [this]
theorem RfM.upd {w w1 : World} {F D : Nat → Prop} {g i q : Nat} {L : List Pg} {p : Pg} {e : En} (A : RfM w F D g L) (hi : L[i]? = some p) (hq : q < p.es.length) (B : Below w.heap.size w w1) (he : EnA w1 (fun b => D b ∨ w.heap.size ≤ b) e) :
    RfM ((w1.setCell ⟨p.b, q * 2, none⟩ e.kv).setCell ⟨p.b, q * 2 + 1, none⟩ e.vv) F (fun b => D b ∨ w.heap.size ≤ b) g (L.set i ⟨p.b, p.c, p.es.set q e⟩) ∧ Chg F w ((w1.setCell ⟨p.b, q * 2, none⟩ e.kv).setCell ⟨p.b, q * 2 + 1, none⟩ e.vv) := by
  have hil := (List.getElem?_eq_some_iff.1 hi).1
  have hL : L ≠ [] := fun e => by subst e; simp at hil
  obtain ⟨G, C, hg, hFg, hFG, hR⟩ := A.opn hL
  have hp := A.pages p (List.mem_of_getElem? hi)
  obtain ⟨W, hW⟩ : ∃ W, W = (w1.setCell ⟨p.b, q * 2, none⟩ e.kv).setCell ⟨p.b, q * 2 + 1, none⟩ e.vv := ⟨_, rfl⟩
  have hC1 : Chg (· = p.b) w1 W := by rw [hW]; exact ((Chg.refl (fun x => x = p.b) w1).cell (g := p.b) (.inl rfl) _).cell (g := p.b) (.inl rfl) _
  have hC : Chg (· = p.b) w W := (Chg.of (F := fun x => x = p.b) B).trans hC1 (fun _ _ h => h)
  obtain ⟨ds, kp⟩ := (hp.1.row.keep B).kind
  obtain ⟨ds0, kp0⟩ := hp.1.row.kind
  have hoff : ∀ {v : Value} {l : List Int} {D' : Nat → Prop}, OB w1 D' v l → OB W D' v l := fun h => ⟨h.oct, h.ex.imp id (by
    rintro ⟨b, c, e, hd, hR'⟩
    refine ⟨b, c, e, hd, hR'.chg hC1 (fun e => ?_)⟩
    obtain ⟨cs, k⟩ := hR'.kind
    exact blk_ne k kp (by decide) e)⟩
  have hrow : Rw W 52 2 p.b p.es.length p.c (flat (p.es.set q e)) := by
    rw [hW]
    refine (((hp.1.row.keep B).set (q * 2) (by rw [flat_len]; omega) e.kv).set (q * 2 + 1) (by rw [List.length_set, flat_len]; omega) e.vv).to (flat_set2 e hq)
  have hA : RpA W (fun b => D b ∨ w.heap.size ≤ b) ⟨p.b, p.c, p.es.set q e⟩ := by
    refine ⟨by simpa using hrow, fun x hx => ?_⟩
    rcases List.mem_or_eq_of_mem_set hx with h | rfl
    · have h0 := hp.1.ents x h
      exact ⟨(hoff (h0.k.keep B)).mono (fun _ _ h => .inl h), (hoff (h0.v.keep B)).mono (fun _ _ h => .inl h)⟩
    · exact ⟨hoff he.k, hoff he.v⟩
  have hv : (⟨p.b, p.c, p.es.set q e⟩ : Pg).v = p.v := by simp [Pg.v]
  obtain ⟨dsG, kG⟩ := hR.kind
  rw [← hW]
  refine ⟨⟨⟨_, hg.chg hC (fun e => blk_ne hg kp0 (by decide) e), hFg, .inr ⟨G, C, by rw [List.length_set], hFG, ?_⟩⟩, fun x hx => ?_, ?_, fun b hb => ?_⟩, hC.mono (fun b _ e => by have e' : b = p.b := e; rw [e']; exact hp.2)⟩
  · rw [List.length_set, List.map_set, hv, set_self (by rw [List.getElem?_map, hi]; rfl)]
    exact hR.chg hC (fun e => blk_ne kG kp0 (by decide) e)
  · obtain ⟨j, hj⟩ := List.getElem?_of_mem hx
    rw [List.getElem?_set] at hj
    by_cases ej : i = j
    · rw [if_pos ej, if_pos (by omega)] at hj
      cases hj
      exact ⟨hA, hp.2⟩
    · rw [if_neg ej] at hj
      obtain ⟨h1, h2⟩ := A.pages x (List.mem_of_getElem? hj)
      have hne := nodup_ne A.apart hj hi (fun h => ej h.symm)
      exact ⟨⟨h1.row.chg hC (fun e => hne e), fun y hy => ⟨(hoff ((h1.ents y hy).k.keep B)).mono (fun _ _ h => .inl h), (hoff ((h1.ents y hy).v.keep B)).mono (fun _ _ h => .inl h)⟩⟩, h2⟩
  · rw [List.map_set, show (⟨p.b, p.c, p.es.set q e⟩ : Pg).b = p.b from rfl, set_self (by rw [List.getElem?_map, hi]; rfl)]
    exact A.apart
  · by_cases eb : b = p.b
    · subst eb
      obtain ⟨cs, k⟩ := hrow.kind
      exact ⟨cs, _, k, by decide⟩
    · obtain ⟨cs, t, hk, ht⟩ := A.kind b hb
      exact ⟨cs, t, hk.chg hC eb, ht⟩
theorem cell_two {w : World} {b x i j o : Nat} {u v : Value} (h : x ≠ b) : ((w.setCell ⟨b, i, none⟩ u).setCell ⟨b, j, none⟩ v).cell? ⟨x, o, none⟩ = w.cell? ⟨x, o, none⟩ :=
  World.cell?_of_block ((Below.heap_setCell _ _ _ x h).trans (Below.heap_setCell w _ _ x h))
set_option maxHeartbeats 4000000 in
set_option maxRecDepth 100000 in
theorem rset_old {w : World} {F D : Nat → Prop} {g : Nat} {L : List Pg} {p0 : Pg} {ka va : Option Addr} {kc vc : Nat} {k v : List Int} (A : RfM w F D g L) (O : Ord (ens L)) (hk : By w (.slice ka k.length kc) k) (hv : By w (.slice va v.length vc) v) (hkl : k.length ≤ 1000000000) (hvl : v.length ≤ 1000000000) (hn : L.length ≤ 100000000) (hs : ∀ es ∈ ens L, es.length ≤ 32) (hb : ∀ es ∈ ens L, ∀ e ∈ es, e.kl.length ≤ 1000000000) (hp : L[pgi (ens L) k]? = some p0) (ht : thr (kys p0.es) k = true) :
    Calls Try.prog 13 #[.pointer (some ⟨g, 0, none⟩), .slice ka k.length kc, .slice va v.length vc] w fun e w' => e = .returned (.bool false) ∧ ∃ nk nv, RfM w' F (fun b => D b ∨ w.heap.size ≤ b) g (L.set (pgi (ens L) k) ⟨p0.b, p0.c, p0.es.set (plc (kys p0.es) k) ⟨nk, k, nv, v⟩⟩) ∧ Chg F w w' := by
  have t1 := rfind A O hk hkl hn hs hb hp
  rw [ht] at t1
  have hpm := List.mem_of_getElem? hp
  obtain ⟨e0, he0, hek0⟩ := thr_get ht
  have hq0 := (List.getElem?_eq_some_iff.1 he0).1
  have hil : plc (kys p0.es) k ≤ p0.es.length := by have := plc_le (kys p0.es) k; simpa [kys] using this
  have hpl := (List.getElem?_eq_some_iff.1 hp).1
  obtain ⟨i, hi⟩ : ∃ i, Hid (plc (kys p0.es) k = i) := ⟨_, rfl⟩
  obtain ⟨p, hpp⟩ : ∃ p, Hid (pgi (ens L) k = p) := ⟨_, rfl⟩
  rw [hi.out] at hil hq0
  rw [hpp.out] at hpl hp
  rw [hi.out, hpp.out] at t1 ⊢
  have hL : L ≠ [] := fun e => by subst e; simp at hp
  obtain ⟨G, C, hg, hFg, hFG, hR⟩ := A.opn hL
  have HK : Hid _ := hk
  have HV : Hid _ := hv
  have HGB : Hid _ := hg
  have HR : Hid _ := hR
  have HA : Hid _ := A
  have hcG : Hid (w.cell? ⟨G, p, none⟩ = some (.slice (some ⟨p0.b, 0, none⟩) p0.es.length p0.c)) := hR.cell (by rw [List.getElem?_map, hp]; rfl)
  have hRP := (A.pages p0 hpm).1
  have HRP : Hid (RpA w (fun b => D b ∨ w.heap.size ≤ b) p0) := ⟨hRP.row, fun e he => (hRP.ents e he).mono fun _ _ h => .inl h⟩
  have HPI : Hid (L[p]? = some p0) := hp
  have HEN : Hid ((ens L)[p]? = some p0.es) := by show _ = _; rw [ens, List.getElem?_map, hp]; rfl
  have hgl := hg.lt
  have hcl := hRP.row.le
  obtain ⟨n, hnn⟩ : ∃ n, Hid (L.length = n) := ⟨_, rfl⟩
  rw [hnn.out] at hpl hn
  obtain ⟨m, hm⟩ : ∃ m, Hid (p0.es.length = m) := ⟨_, rfl⟩
  rw [hm.out] at hil hcl hcG hq0
  obtain ⟨kn, hkn⟩ : ∃ kn, Hid (k.length = kn) := ⟨_, rfl⟩
  obtain ⟨vn, hvn⟩ : ∃ vn, Hid (v.length = vn) := ⟨_, rfl⟩
  rw [hkn.out] at t1 HK ⊢
  rw [hvn.out] at HV ⊢
  have hpl0 : (p : Int) < n := by omega
  have hq00 : (i : Int) < m := by omega
  clear hk hv A O hs hb hg hR hRP hp hpm he0 hek0
  go_enter Try.func13, Try.ntmps13
  go_wp2_with first
    | (go_at_call 35; refine t1.mono ?_; rintro e w1 ⟨rfl, B1⟩)
    | (go_at_call 11; have gate := B2; clear gate; refine (copyBytes_any ((HV.out.keep B1).keep B2) hvl).mono ?_; rintro e w3 ⟨v3, rfl, V3, B3⟩; obtain ⟨a3, c3, e3⟩ := V3.shape; rw [hvn.out] at e3; subst e3)
    | (go_at_call 11; refine (copyBytes_any (HK.out.keep B1) hkl).mono ?_; rintro e w2 ⟨v2, rfl, V2, B2⟩; obtain ⟨a2, c2, e2⟩ := V2.shape; rw [hkn.out] at e2; subst e2)
  obtain ⟨W4, hW4⟩ : ∃ W4, Hid (w3.alloc (.cells #[.slice a2 kn c2, .slice a3 vn c3] 52) = W4) := ⟨_, rfl⟩
  have B03 := joinB (joinB B1 B2) B3
  have b4 : Below w3.heap.size w3 W4 := by rw [← hW4.out]; exact below_alloc w3 _
  have kE : Blk W4 w3.heap.size [.slice a2 kn c2, .slice a3 vn c3] 52 := by rw [← hW4.out]; exact blk_new w3 _ _
  rw [hW4.out]
  have B04 := joinB B03 (joinB b4 (belowD W4))
  have kE' : Blk W4.drew w3.heap.size [.slice a2 kn c2, .slice a3 vn c3] 52 := kE.drew
  have EN : EnA W4.drew (fun b => D b ∨ w.heap.size ≤ b) ⟨.slice a2 kn c2, k, .slice a3 vn c3, v⟩ := ⟨((V2.keep B3).keep (joinB b4 (belowD W4))).mono (fun b _ h => .inr (by have := B1.size; show w.heap.size ≤ b; omega)), (V3.keep (joinB b4 (belowD W4))).mono (fun b _ h => .inr (by have := B1.size; have := B2.size; show w.heap.size ≤ b; omega))⟩
  have hU := HA.out.upd HPI.out (q := i) (by rw [hm.out]; exact hq0) B04 EN
  have RP4 := HRP.out.keep B04
  have hrl := RP4.row.len
  have hcA : ∃ u1, W4.drew.cell? ⟨p0.b, i * 2, none⟩ = some u1 := ⟨_, RP4.row.cell (List.getElem?_eq_getElem (by rw [hrl, hm.out]; omega))⟩
  have hcB : ∃ u2, W4.drew.cell? ⟨p0.b, i * 2 + 1, none⟩ = some u2 := ⟨_, RP4.row.cell (List.getElem?_eq_getElem (by rw [hrl, hm.out]; omega))⟩
  obtain ⟨u1, hu1⟩ := hcA
  obtain ⟨u2, hu2⟩ := hcB
  have f1 := RP4.row.free (i * 2)
  have f2 := RP4.row.free (i * 2 + 1)
  obtain ⟨dp, kp⟩ := RP4.row.kind
  have g4 := HGB.out.keep B04
  have RG4 := HR.out.keep B04
  obtain ⟨dG, kG⟩ := RG4.kind
  have n1 : g ≠ p0.b := blk_ne g4 kp (by decide)
  have n2 : G ≠ p0.b := blk_ne kG kp (by decide)
  have n3 : w3.heap.size ≠ p0.b := by have := (HRP.out.row).lt; have := B03.size; omega
  have c1 : W4.drew.cell? ⟨g, 0, none⟩ = some (.slice (some ⟨G, 0, none⟩) n C) := by have := g4.cell (i := 0) rfl; rw [hnn.out] at this; exact this
  have c2' : W4.drew.cell? ⟨G, p, none⟩ = some (.slice (some ⟨p0.b, 0, none⟩) m p0.c) := (B04.cell (p := ⟨G, p, none⟩) (cell_lt hcG.out)).trans hcG.out
  have hS := (show _ ∧ _ ∧ _ ∧ _ from ⟨c1, c2', kE'.cell (i := 0) rfl, kE'.cell (i := 1) rfl⟩)
  refine rg_start (S := fun w' => w'.cell? ⟨g, 0, none⟩ = some (.slice (some ⟨G, 0, none⟩) n C) ∧ w'.cell? ⟨G, p, none⟩ = some (.slice (some ⟨p0.b, 0, none⟩) m p0.c) ∧ w'.cell? ⟨w3.heap.size, 0, none⟩ = some (.slice a2 kn c2) ∧ w'.cell? ⟨w3.heap.size, 0 + 1, none⟩ = some (.slice a3 vn c3)) (by kernel_rfl) hS ?_
  refine rg_take 0 (some 25) (.pointer (some ⟨g, 0, none⟩)) (by kernel_rfl) (fun _ _ => by kernel_rfl) (fun _ _ _ h => h) hS ?_
  refine rg_take 1 (some 26) (.pointer (some ⟨g, 0, none⟩)) (by kernel_rfl) (fun _ _ => by kernel_rfl) (fun _ _ _ h => h) hS ?_
  refine rg_take 2 (some 27) (.pointer (some ⟨g, 0, none⟩)) (by kernel_rfl) (fun _ _ => by kernel_rfl) (fun _ _ _ h => h) hS ?_
  refine rg_load 3 (some 28) (.slice (some ⟨G, 0, none⟩) n C) 29 27 g 0 (by kernel_rfl) (by kernel_rfl) (by kernel_rfl) (fun w' h => ld_oo h.1) (fun _ _ _ h => h) hS ?_
  refine rg_take 4 (some 29) (.int .i64 p) (by kernel_rfl) (fun _ _ => by kernel_rfl) (fun _ _ _ h => h) hS ?_
  refine rg_take 5 (some 30) (.pointer (some ⟨G, p, none⟩)) (by kernel_rfl) (fun _ _ => run_io (x := 28) (y := 29) (k := p) (n := n) (c := C) (by kernel_rfl) (by kernel_rfl) (by kernel_rfl) rfl hpl) (fun _ _ _ h => h) hS ?_
  refine rg_load 6 (some 31) (.slice (some ⟨p0.b, 0, none⟩) m p0.c) 44 30 G p (by kernel_rfl) (by kernel_rfl) (by kernel_rfl) (fun w' h => ld_op h.2.1) (fun _ _ _ h => h) hS ?_
  refine rg_take 7 (some 32) (.int .i64 i) (by kernel_rfl) (fun _ _ => by kernel_rfl) (fun _ _ _ h => h) hS ?_
  refine rg_load 8 (some 33) (.agg #[.slice a2 kn c2, .slice a3 vn c3]) 52 10 w3.heap.size 0 (by kernel_rfl) (by kernel_rfl) (by kernel_rfl) (fun w' h => ld_oe h.2.2.1 h.2.2.2) (fun _ _ _ h => h) hS ?_
  refine rg_take 9 (some 34) (.pointer (some ⟨p0.b, i * 2, none⟩)) (by kernel_rfl) (fun _ _ => run_iq (x := 31) (y := 32) (k := i) (n := m) (c := p0.c) (by kernel_rfl) (by kernel_rfl) (by kernel_rfl) rfl hq0) (fun _ _ _ h => h) hS ?_
  refine rg_ready [10] (by kernel_rfl) (by simp) (ar_void 10 ((W4.drew.setCell ⟨p0.b, i * 2, none⟩ (.slice a2 kn c2)).setCell ⟨p0.b, i * 2 + 1, none⟩ (.slice a3 vn c3)) (by kernel_rfl) (run_so 34 33 (by kernel_rfl) (by kernel_rfl) (by kernel_rfl) hu1 hu2 f1 f2) ⟨(cell_two n1).trans hS.1, (cell_two n2).trans hS.2.1, (cell_two n3).trans hS.2.2.1, (cell_two n3).trans hS.2.2.2⟩ ?_ ar_nil)
  refine rg_done (by kernel_rfl) ?_
  simp only [Act.put, List.setIfInBounds_toArray, List.set_cons_zero, List.set_cons_succ]
  go_wp2
  go_ret
  exact ⟨rfl, ⟨_, _, hU.1⟩, hU.2⟩
end Pg
end Go.Proofs.Ytjnjkgakdnjlmaa
