/- Pages and Copy. -/
import Derived.Test.YtplminnejheceaaPgN
namespace Go.Proofs.Ytplminnejheceaa
namespace Pg
open Go.RowKit Go.Lib
/-- a list of ints in a block of its own -/
structure IntV (w : World) (B : Nat) (v : Value) (l : List Int) : Prop where
  ex : ∃ b c, v = .slice (some ⟨b, 0, none⟩) l.length c ∧ B ≤ b ∧ Rw w 3 1 b l.length c (l.map (Value.int .i64))
/-- what a copy is, behind k pages -/
structure CpA (w : World) (B : Nat) (D : Nat → Prop) (b n : Nat) (L Q : List Pg) : Prop where
  row : Rw w 87 1 b n n (Q.map Pg.v ++ List.replicate (n - Q.length) (.slice none 0 0))
  pages : ∀ p ∈ Q, PgA w D p ∧ B ≤ p.b
  apart : (Q.map Pg.b).Nodup
  same : ens Q = (ens L).take Q.length
theorem CpA.below {w w' : World} {B : Nat} {D : Nat → Prop} {b n : Nat} {L Q : List Pg} (h : CpA w B D b n L Q) (hb : Below w.heap.size w w') : CpA w' B D b n L Q := ⟨h.row.keep hb, fun p hp => ⟨(h.pages p hp).1.keep hb, (h.pages p hp).2⟩, h.apart, h.same⟩
set_option maxHeartbeats 2000000 in
set_option maxRecDepth 100000 in
theorem copy_any {w : World} {F D : Nat → Prop} {g : Nat} {L : List Pg} (A : MapA w F D g L) (hs : ∀ es ∈ ens L, es.length ≤ 32) (hn : L.length ≤ 100000000) :
    Calls Try.prog 31 #[.pointer (some ⟨g, 0, none⟩)] w fun e w' => ∃ g' F' L', e = .returned (.pointer (some ⟨g', 0, none⟩)) ∧ ens L' = ens L ∧ MapA w' F' D g' L' ∧ (∀ b, F' b → w.heap.size ≤ b) ∧ Below w.heap.size w w' := by
  obtain ⟨ao, c, hc, hc1, hc2, hat⟩ := A.rd
  obtain ⟨n, hnn⟩ : ∃ n, Hid (L.length = n) := ⟨_, rfl⟩
  rw [hnn.out] at hc hc1 hn
  have hgl := cell_lt hc
  obtain ⟨W1, hr1, R1, B1⟩ := make_row (w := w) KP rfl n (by omega) (by decide)
  have c1 : W1.cell? ⟨g, 0, none⟩ = _ := (B1.cell (p := ⟨g, 0, none⟩) hgl).trans hc
  go_enter Try.func31, Try.ntmps31
  go_wp2
  go_loopw [17] (fun ti wr => ∃ k : Nat, k ≤ n ∧ ti = .int .i64 k ∧ Below w.heap.size w wr ∧ ∃ Q, Q.length = k ∧ CpA wr (w.heap.size + 1) D w.heap.size n L Q) (fun ti _ => n - (intOf ti).toNat)
  case atStart => exact ⟨0, Nat.zero_le _, rfl, B1, [], rfl, R1.to (by simp), fun p hp => by simp at hp, by simp, by simp [ens]⟩
  case round =>
    clear R1 B1 c1
    obtain ⟨k, hk, rfl, hB, Q, hQ, hCp⟩ := hrel
    by_cases hlt : k < n
    · obtain ⟨p, hp⟩ : ∃ p, L[k]? = some p := ⟨L[k]'(by have := hnn.out; omega), List.getElem?_eq_getElem _⟩
      obtain ⟨G, rfl, cG⟩ := hat k p hp
      have cG1 : wr.cell? ⟨G, k, none⟩ = _ := (hB.cell (p := ⟨G, k, none⟩) (cell_lt cG)).trans cG
      simp only [Pg.v] at cG1
      have z1 : (k : Int) < n := by omega
      have hpm := List.mem_of_getElem? hp
      have hpA := (A.pages p hpm).1.keep hB
      have hps := hs p.es (List.mem_map.2 ⟨p, hpm, rfl⟩)
      have tC := cloneE (w := wr) (a := ⟨p.b, 0, none⟩) (n := p.es.length) (c := p.c) (xs := flat p.es) (by omega) (flat_len _) (fun j v hj => by rw [Addr.add_lit, Nat.zero_add]; exact hpA.row.cell hj) hpA.one
      have hQl : (Q.map Pg.v).length = k := by simp [hQ]
      have hqk : (Q.map Pg.v ++ List.replicate (n - Q.length) (Value.slice none 0 0))[k]? = some (.slice none 0 0) := by rw [List.getElem?_append_right (Nat.le_of_eq hQl), hQl, Nat.sub_self, List.getElem?_replicate, if_pos (by omega)]
      have HC : Hid _ := hCp
      have hwl : w.heap.size < wr.heap.size := hCp.row.lt
      have hPA : Hid _ := hpA
      clear hCp hpA
      go_wp2_with (go_at_call 56; refine tC.mono ?_; rintro e' w2 ⟨b2, c2, rfl, hb2, R2, D2⟩; have q2 : w2.cell? ⟨w.heap.size, k, none⟩ = some (.slice none 0 0) := (HC.out.row.keep D2).cell hqk; have f2 := (HC.out.row.keep D2).free k)
      have hC2 := HC.out.below D2
      have hR3 := (hC2.row.set k (by simp; omega) (.slice (some ⟨b2, 0, none⟩) p.es.length c2)).to (ys := (Q ++ [(⟨b2, c2, p.es⟩ : Pg)]).map Pg.v ++ List.replicate (n - (Q ++ [(⟨b2, c2, p.es⟩ : Pg)]).length) (.slice none 0 0)) (by
        rw [List.set_append_right _ _ (Nat.le_of_eq hQl), hQl, Nat.sub_self, show n - Q.length = (n - (k + 1)) + 1 by omega, List.replicate_succ, List.set_cons_zero]
        simp [Pg.v, hQ])
      have hset : ∀ b, b ≠ w.heap.size → (w2.setCell ⟨w.heap.size, k, none⟩ (.slice (some ⟨b2, 0, none⟩) p.es.length c2)).heap[b]? = w2.heap[b]? := fun b hb => Below.heap_setCell w2 _ _ b hb
      have hEn : ∀ e, EnA w2 D e → EnA (w2.setCell ⟨w.heap.size, k, none⟩ (.slice (some ⟨b2, 0, none⟩) p.es.length c2)) D e := fun e he => he.off fun b _ hk => by
        obtain ⟨cs, kk⟩ := hk
        obtain ⟨ds, k'⟩ := hC2.row.kind
        exact hset b (blk_ne kk k' (by decide))
      have hP3 : PgA (w2.setCell ⟨w.heap.size, k, none⟩ (.slice (some ⟨b2, 0, none⟩) p.es.length c2)) D ⟨b2, c2, p.es⟩ := ⟨R2.same (hset _ (by omega)), fun e he => hEn e ((hPA.out.ents e he).keep D2)⟩
      have hCp3 : CpA (w2.setCell ⟨w.heap.size, k, none⟩ (.slice (some ⟨b2, 0, none⟩) p.es.length c2)) (w.heap.size + 1) D w.heap.size n L (Q ++ [⟨b2, c2, p.es⟩]) := by
        refine ⟨hR3, fun q hq => ?_, ?_, ?_⟩
        · rcases List.mem_append.1 hq with h | h
          · obtain ⟨h1, h2⟩ := hC2.pages q h
            exact ⟨⟨h1.row.same (hset _ (by omega)), fun e he => hEn e (h1.ents e he)⟩, h2⟩
          · simp at h; subst h; exact ⟨hP3, by show w.heap.size + 1 ≤ b2; omega⟩
        · rw [List.map_append, List.nodup_append]
          refine ⟨HC.out.apart, by simp, fun a ha b hb => ?_⟩
          simp at hb
          subst hb
          obtain ⟨q, hq, rfl⟩ := List.mem_map.1 ha
          have := (HC.out.pages q hq).1.row.lt
          omega
        · have h0 := HC.out.same
          rw [List.length_append, hQ, List.length_singleton, List.take_add_one, ens_get hp]
          rw [hQ] at h0
          rw [← h0]
          simp [ens]
      have hB3 : Below w.heap.size w (w2.setCell ⟨w.heap.size, k, none⟩ (.slice (some ⟨b2, 0, none⟩) p.es.length c2)) := (joinB hB D2).setCell (p := ⟨w.heap.size, k, none⟩) (Nat.le_refl _) _
      go_roundw
      case rel => exact ⟨k + 1, by omega, by go_num, hB3, _, by simp [hQ], hCp3⟩
      case measure => simp [intOf]; omega
    · have hkn : k = n := by omega
      have z1 : ¬ ((k : Int) < n) := by omega
      have HC : Hid _ := hCp
      have HK : Hid _ := hkn
      clear hCp hkn
      go_wp2
      go_ret
      have e0 := HK.out
      have hl : Q.length = n := by omega
      have hb4 := below_alloc wr (.cells #[.slice (some ⟨w.heap.size, 0, none⟩) n n] 86)
      have hCp := HC.out.below hb4
      have N4 := blk_new wr [.slice (some ⟨w.heap.size, 0, none⟩) n n] 86
      have hrow := hCp.row.to (ys := Q.map Pg.v) (by rw [hl, Nat.sub_self]; simp)
      refine ⟨wr.heap.size, rfl, fun x => x = wr.heap.size ∨ x = w.heap.size ∨ x ∈ Q.map Pg.b, Q, ?_, ⟨⟨_, N4, .inl rfl, .inr ⟨w.heap.size, n, by rw [hl], .inr (.inl rfl), by rw [hl]; exact hrow⟩⟩, fun p hp => ⟨(hCp.pages p hp).1, .inr (.inr (List.mem_map.2 ⟨p, hp, rfl⟩))⟩, hCp.apart, fun b hb => ?_⟩, fun b hb => ?_, hB.trans (hb4.mono hB.size)⟩
      · rw [hCp.same, List.take_of_length_le (by rw [hl]; have := hnn.out; simp [ens]; omega)]
      · rcases hb with rfl | rfl | h
        · exact ⟨_, _, N4, by decide⟩
        · obtain ⟨ds, kk⟩ := hrow.kind
          exact ⟨ds, _, kk, by decide⟩
        · obtain ⟨p, hp, rfl⟩ := List.mem_map.1 h
          obtain ⟨ds, kk⟩ := (hCp.pages p hp).1.row.kind
          exact ⟨ds, _, kk, by decide⟩
      · rcases hb with rfl | rfl | h
        · exact hB.size
        · exact Nat.le_refl _
        · obtain ⟨p, hp, rfl⟩ := List.mem_map.1 h
          have := (hCp.pages p hp).2
          omega
end Pg
end Go.Proofs.Ytplminnejheceaa
