/- The document's keys: Next; what Read asks. -/
import Derived.Test.YtfljmcfipnmkgaaKyRa
import Derived.Test.YtfljmcfipnmkgaaKyX
namespace Go.Proofs.Ytfljmcfipnmkgaa
namespace Ky
open Go.RowKit Go.Lib Pg
attribute [local go_sem] Oper.semAt_some eq50
theorem map_set_last {l : List Int} {j : Nat} {x y : Int} (hj : l[j]? = some x) : ((l.take (j + 1)).map (Value.int .u8)).set j (.int .u8 y) = (l.take j ++ [y]).map (Value.int .u8) := by
  have hlt := (List.getElem?_eq_some_iff.1 hj).1
  rw [← List.map_set, List.take_add_one, hj]
  simp only [Option.toList_some]
  rw [List.set_append_right _ _ (by rw [List.length_take]; omega), List.length_take, Nat.min_eq_left (by omega), Nat.sub_self]
  rfl
set_option maxHeartbeats 4000000 in
set_option maxRecDepth 100000 in
theorem rnext_any {w : World} {ao : Option Addr} {n c : Nat} {l : List Int} (h : By w (.slice ao n c) l) (hbig : n ≤ 1000000000) :
    Calls Try.prog 16 #[.slice ao n c] w fun e w' => ∃ v, e = .returned v ∧ By w' v (nxt l) ∧ Below w.heap.size w w' := by
  obtain ⟨hl, hnc, hcm⟩ := By.lens h
  have HB := hid2 h
  have HL := hid2 hl
  clear h hl
  go_enter Try.func16, Try.ntmps16
  go_wp2_with fail
  go_loopw [3] (fun ti wr => ∃ k : Nat, k ≤ n ∧ ti = .int .i64 k ∧ wr = w ∧ Hid (∀ i y, l[i]? = some y → k ≤ i → y = 255)) (fun ti _ => (intOf ti).toNat)
  case atStart => exact ⟨n, Nat.le_refl _, rfl, rfl, fun i y hi hk => by have := (List.getElem?_eq_some_iff.1 hi).1; have := HL.out; omega⟩
  case round =>
    obtain ⟨k, hk, rfl, rfl, HA⟩ := hrel
    cases k with
    | zero =>
      have HN : Hid (nxt l = []) := nxt_all (fun x hx => by
        obtain ⟨i, hi⟩ := List.getElem?_of_mem hx
        exact HA.out i x hi (Nat.zero_le _))
      go_wp2
      go_ret
      exact ⟨_, rfl, by rw [HN.out]; exact By.nil _, Below.refl _ _⟩
    | succ j =>
      obtain ⟨x, hx⟩ : ∃ x, l[j]? = some x := ⟨l[j]'(by have := HL.out; omega), List.getElem?_eq_getElem _⟩
      obtain ⟨b, o, rfl, c1⟩ := By.at HB.out hx
      have hxo := HB.out.oct x (List.mem_of_getElem? hx)
      have HX := hid2 hx
      have g0 : ((j + 1 : Nat) : Int) = (j : Int) + 1 := by omega
      have g1 : (0 : Int) < (j : Int) + 1 := by omega
      have g2 : IntKind.i64.wrap ((j : Int) + 1 - 1) = (j : Int) := by rw [IntKind.wrap_i64]; omega
      have g3 : (j : Int) < n := by omega
      have g4 : (j : Int) + 1 ≤ c := by omega
      have g5 : ¬ ((j : Int) + 1 = 0) := by omega
      rw [g0]
      clear hx g0
      by_cases h5 : x = 255
      · subst h5
        clear hxo
        go_wp2
        go_roundw
        case rel => exact ⟨j, by omega, by go_num, trivial, fun i y hi hji => by
          by_cases e : i = j
          · subst e; have h := HX.out; rw [hi] at h; cases h; rfl
          · exact HA.out i y hi (by omega)⟩
        case measure => simp [intOf]
      · have HT := hid2 (By.take HB.out (j + 1) hk)
        have HN : Hid (nxt l = l.take j ++ [x + 1]) := nxt_at HX.out h5 (fun i y hi hji => HA.out i y hi (by omega))
        have h5b : (x == 255) = false := by simp [h5]
        have lt1 : (l.take (j + 1)).length ≤ 1000000000 := by rw [List.length_take]; omega
        have u1 := copyBytes_any HT.out lt1
        have hw8 : IntKind.u8.wrap (x + 1) = x + 1 := by rw [IntKind.wrap_u8]; omega
        have hlen : Hid ((l.take (j + 1)).length = j + 1) := by show _ = _; rw [List.length_take]; have := HL.out; omega
        clear HT lt1
        go_wp2_with (go_at_call 12; go_must (refine u1.mono ?_); rintro e w1 ⟨v1, rfl, O1, B1⟩; obtain ⟨e, _⟩ | ⟨b1, c9, rfl, hb1, R1⟩ := O1.ex; (exfalso; have hy := (By.lens (e ▸ O1.by)).1; have := hlen.out; omega); (rw [hlen.out] at R1 ⊢; have d1 := R1.cell (i := j) (v := .int .u8 x) (by rw [List.getElem?_map, List.getElem?_take, if_pos (by omega), HX.out]; rfl); have d2 := R1.free j; have d3 := R1.le; replace R1 := hid2 R1; clear u1 O1))
        go_ret
        have R2 := R1.out.set j (by rw [List.length_map, hlen.out]; omega) (.int .u8 (x + 1))
        rw [map_set_last HX.out] at R2
        have hj9 : (l.take j ++ [x + 1]).length = j + 1 := by rw [List.length_append, List.length_take]; simp; have := HL.out; omega
        refine ⟨.slice (some ⟨b1, 0, none⟩) (j + 1) c9, rfl, ?_, B1.setCell hb1 _⟩
        rw [HN.out]
        exact OB.by (D := (wr.heap.size ≤ ·)) ⟨fun y hy => by
          rcases List.mem_append.1 hy with h | h
          · exact HB.out.oct y (List.mem_of_mem_take h)
          · simp at h; omega, .inr ⟨b1, c9, by rw [hj9], hb1, by rw [hj9]; exact R2⟩⟩
theorem be_bv : ∀ (n : Nat) (l : List Int), Oct l → l.length = n → be n (bv l) = l
  | 0, l, _, h => by rw [List.eq_nil_of_length_eq_zero h]; rfl
  | n + 1, l, ho, h => by
    rcases List.eq_nil_or_concat l with rfl | ⟨l', x, rfl⟩
    · simp at h
    · have ho1 := ho x (by simp)
      have ih := be_bv n l' (fun y hy => ho y (by simp [hy])) (by simpa using h)
      rw [List.concat_eq_append, bv_snoc, be_snoc]
      rw [show (bv l' * 256 + x) / 256 = bv l' by omega, show (bv l' * 256 + x) % 256 = x by omega, ih]
theorem bv_u64 {l : List Int} (ho : Oct l) (h : l.length ≤ 8) : 0 ≤ bv l ∧ bv l < 18446744073709551616 := by
  have h1 := bv_bound l.length l ho rfl
  have h2 : (256 : Int) ^ l.length ≤ 18446744073709551616 := by
    generalize l.length = k at h
    have h9 : (256 : Nat) ^ k ≤ 256 ^ 8 := Nat.pow_le_pow_right (by decide) h
    have h10 : ((256 ^ k : Nat) : Int) ≤ ((256 ^ 8 : Nat) : Int) := by omega
    rw [Int.natCast_pow] at h10
    exact h10
  omega
theorem rdA_u64 {k : Nat} {l : List Int} (ho : Oct l) : 0 ≤ rdA k l ∧ rdA k l < 18446744073709551616 := by
  unfold rdA
  split
  · have h := bv_u64 (l := (l.drop 1).take 8) (fun x hx => ho x (List.mem_of_mem_drop (List.mem_of_mem_take hx))) (by rw [List.length_take]; omega)
    unfold tn
    split <;> omega
  · decide
theorem rdB_u64 {l : List Int} (ho : Oct l) : 0 ≤ rdB l ∧ rdB l < 18446744073709551616 := by
  unfold rdB
  split
  · exact bv_u64 (fun x hx => ho x (List.mem_of_mem_drop hx)) (by rw [List.length_drop]; omega)
  · decide
theorem rd_E {k : Nat} (hk : k < 18) (h0 : 0 < k) {l : List Int} (hn : (frm k).1 = l.length) : mkE k (rdA k l) (rdB l) = false := by
  have hp := frm_pos k hk h0
  refine (mkE_eq (n := (frm k).1) (m0 := (frm k).2.1) (m1 := (frm k).2.2) rfl (by omega)).2 ⟨fun h => ?_, fun h => ?_⟩
  · unfold rdA; rw [if_neg (by omega)]
  · unfold rdB; rw [if_neg (by omega)]
theorem fIn_mk {k : Nat} (hk : k < 18) (h0 : 0 < k) {l : List Int} (ho : Oct l) (h : frm k = fIn l) : mk k (rdA k l) (rdB l) = l := by
  have hF := frm_form k hk h0
  obtain ⟨⟨n, m0, m1⟩, hf⟩ : ∃ f, frm k = f := ⟨_, rfl⟩
  rw [hf] at hF h
  simp only at hF
  rw [mk_eq hf]
  simp only [fIn, Prod.mk.injEq] at h
  obtain ⟨h1, h2, h3⟩ := h
  have T : ∀ x, tn (k : Int) (tn (k : Int) x) = x := fun x => tn_tn
  rcases hF with ⟨rfl, rfl⟩ | ⟨rfl, rfl⟩ | ⟨rfl, hm⟩ | ⟨rfl, rfl⟩ | ⟨rfl, hm⟩
  · have hl : l.length = 1 := by omega
    match l, hl with
    | [x], _ => simp at h2; simp [h2]
  · have hl : l.length = 9 := by omega
    have e := be_bv 8 ((l.drop 1).take 8) (fun x hx => ho x (List.mem_of_mem_drop (List.mem_of_mem_take hx))) (by rw [List.length_take, List.length_drop]; omega)
    have eA : rdA k l = tn k (bv ((l.drop 1).take 8)) := by unfold rdA; rw [if_pos (by omega)]
    rw [eA, T, e]
    match l, hl with
    | x :: r, hl =>
      simp at h2 hl
      simp [h2, List.take_of_length_le (show r.length ≤ 8 by omega)]
  · have hl : l.length = 10 := by omega
    have e := be_bv 8 ((l.drop 1).take 8) (fun x hx => ho x (List.mem_of_mem_drop (List.mem_of_mem_take hx))) (by rw [List.length_take, List.length_drop]; omega)
    have eA : rdA k l = tn k (bv ((l.drop 1).take 8)) := by unfold rdA; rw [if_pos (by omega)]
    rw [eA, T, e]
    rw [if_pos (by omega)] at h3
    match l, hl with
    | [x0, x1, x2, x3, x4, x5, x6, x7, x8, x9], _ => simp at h2 h3; simp [h2, h3]; intro hx; exact absurd (h3.trans hx) hm
  · have hl : l.length = 17 := by omega
    have e := be_bv 8 ((l.drop 1).take 8) (fun x hx => ho x (List.mem_of_mem_drop (List.mem_of_mem_take hx))) (by rw [List.length_take, List.length_drop]; omega)
    have e2 := be_bv 8 (l.drop (l.length - 8)) (fun x hx => ho x (List.mem_of_mem_drop hx)) (by rw [List.length_drop]; omega)
    have eA : rdA k l = tn k (bv ((l.drop 1).take 8)) := by unfold rdA; rw [if_pos (by omega)]
    have eB : rdB l = bv (l.drop (l.length - 8)) := by unfold rdB; rw [if_pos (by omega)]
    rw [eA, eB, T, e, e2]
    match l, hl with
    | [x0, x1, x2, x3, x4, x5, x6, x7, x8, x9, y0, y1, y2, y3, y4, y5, y6], _ => simp at h2; simp [h2]
  · have hl : l.length = 18 := by omega
    have e := be_bv 8 ((l.drop 1).take 8) (fun x hx => ho x (List.mem_of_mem_drop (List.mem_of_mem_take hx))) (by rw [List.length_take, List.length_drop]; omega)
    have e2 := be_bv 8 (l.drop (l.length - 8)) (fun x hx => ho x (List.mem_of_mem_drop hx)) (by rw [List.length_drop]; omega)
    have eA : rdA k l = tn k (bv ((l.drop 1).take 8)) := by unfold rdA; rw [if_pos (by omega)]
    have eB : rdB l = bv (l.drop (l.length - 8)) := by unfold rdB; rw [if_pos (by omega)]
    rw [eA, eB, T, e, e2]
    rw [if_pos (by omega)] at h3
    match l, hl with
    | [x0, x1, x2, x3, x4, x5, x6, x7, x8, x9, y0, y1, y2, y3, y4, y5, y6, y7], _ => simp at h2 h3; simp [h2, h3]; rw [if_neg (fun hx => hm (h3.trans hx))]; rfl
theorem mk_fIn {k : Nat} (hk : k < 18) (h0 : 0 < k) {l : List Int} (ho : Oct l) (hn : (frm k).1 = l.length) (h : mk k (rdA k l) (rdB l) = l) : frm k = fIn l := by
  have := (mk_back hk h0 (rdA_u64 (k := k) ho) (rdB_u64 ho) (rd_E hk h0 hn)).1
  rw [h] at this
  exact this
theorem rU_got {w0 w : World} {g b o n c m : Nat} {l : List Int} (hY : By w0 (.slice (some ⟨b, o, none⟩) n c) l) (hB : Below w0.heap.size w0 w) (hg : w0.heap.size ≤ g) (hK : Blk w g [.slice (some ⟨b, o, none⟩) n c, .int .i64 0] 63) (hm : m ≤ n) (h8 : m ≤ 8) :
    Calls Try.prog 37 #[.pointer (some ⟨g, 0, none⟩), .int .i64 m] w fun e w' => e = .returned (.int .u64 (bv (l.take m))) ∧ (m < c → Blk w' g [.slice (some ⟨b, o + m, none⟩) (n - m) (c - m), .int .i64 0] 63) ∧ Chg (· = g) w w' := by
  refine (rU_any hY hB hg hK hm h8).mono ?_
  rintro e w' ⟨rfl, rfl⟩
  refine ⟨rfl, fun hlt => ?_, (Chg.refl (· = g) w).cell (.inl rfl) _⟩
  have h := hK.setCell (i := 0) (.slice (rsAt b o c m) (n - m) (c - m))
  unfold rsAt at h ⊢
  rw [if_neg (by omega)] at h ⊢
  exact h
end Ky
end Go.Proofs.Ytfljmcfipnmkgaa
