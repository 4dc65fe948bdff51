/- gleanlaw5.PageLong: up to 4,000 keys told by two numbers. -/
import Derived.Test.YtmcldniffieeiaaJca
namespace Go.Proofs.Ytmcldniffieeiaa
namespace Pg
open Go.RowKit Go.Lib
attribute [local go_sem] Oper.semAt_some
set_option maxHeartbeats 8000000 in
set_option maxRecDepth 100000 in
theorem pageLong_walk {w : World} {q : Int} (_hq : -9223372036854775808 ≤ q ∧ q ≤ 9223372036854775807) {r : Int} (_hr : -9223372036854775808 ≤ r ∧ r ≤ 9223372036854775807) :
    Calls Try.prog 6 #[.int .i64 q, .int .i64 r] w fun e w' => e = .returned (.bool true) ∧ Below w.heap.size w w' := by
  have t1 := known_any (w := w)
  go_enter Try.func6, Try.ntmps6
  go_wp2_with first
    | (go_at_call 7; refine t1.mono ?_; rintro e w1 ⟨rfl, B1⟩; clear t1)
    | (go_at_call 10; have gate := hn; clear gate; refine (place_by q 2147483647 (by decide) (by decide) _).mono ?_; rintro e w2 ⟨s0, hs0, rfl, rfl⟩)
    | (go_at_call 10; refine (place_by r 4000 (by decide) (by decide) _).mono ?_; rintro e w2 ⟨n, hn, rfl, rfl⟩)
    | (go_at_call 9; refine mnew.mono ?_; rintro e w3 ⟨rfl, M3, B3⟩; obtain ⟨w4, hr4, R4, B4⟩ := make_row (w := w3) KI rfl 600 (by decide) (by decide); replace hr4 : (Instr.makeSlice 54 (.int .i64 600) (.int .i64 600)).run Try.prog w3 = .ok (.slice (some ⟨w3.heap.size, 0, none⟩) 600 600) w4 := hr4)
  obtain ⟨g, hg⟩ : ∃ g, Hid (w2.heap.size = g) := ⟨_, rfl⟩
  obtain ⟨gt, hgt⟩ : ∃ gt, Hid (w3.heap.size = gt) := ⟨_, rfl⟩
  rw [hg.out] at M3
  rw [hgt.out] at R4
  rw [hg.out, hgt.out]
  have hgg : g < gt := by rw [← hgt.out]; exact M3.lt rfl
  have hwg : w.heap.size ≤ g := by have := hg.out; have := B1.size; omega
  have HB4 : Hid (Below w.heap.size w w4) := (B1.trans (B3.mono B1.size)).trans (B4.mono (by have := B1.size; have := B3.size; omega))
  have HI : Hid (∃ Q T, Mv w4 w.heap.size gt (gt + 1) g Q 0 ∧ Bk Q T ∧ T.length = 600 ∧ (∀ x ∈ T, 0 ≤ x ∧ x ≤ 256) ∧ Rw w4 3 1 gt 600 600 (T.map (Value.int .i64))) := by
    refine ⟨[], List.replicate 600 0, ⟨_, (M3.keep B4).mono (fun _ _ h => h.elim), fun b hb => ?_, fun b hb => ?_⟩, Bk.nil, List.length_replicate, fun x hx => ?_, R4.to (by rw [List.map_replicate])⟩
    · have hb' : b = g := hb
      omega
    · have hb' : b = g := hb
      omega
    · rw [List.eq_of_mem_replicate hx]; decide
  clear M3 R4 B1 B3 B4 hr4
  go_loopw [6, 9] (fun ts ti wr => ∃ (k : Nat) (s : Int), k ≤ n ∧ ti = .int .i64 k ∧ 0 ≤ s ∧ s < 2147483648 ∧ ts = .int .i64 s ∧ Hid (∃ Q T, Mv wr w.heap.size gt (gt + 1) g Q k ∧ Bk Q T ∧ T.length = 600 ∧ (∀ x ∈ T, 0 ≤ x ∧ x ≤ 256) ∧ Rw wr 3 1 gt 600 600 (T.map (Value.int .i64))) ∧ Hid (Below w.heap.size w wr)) (fun _ ti _ => n - (intOf ti).toNat)
  case atStart => exact ⟨0, s0, Nat.zero_le _, rfl, by omega, by omega, rfl, HI, HB4⟩
  case round =>
    obtain ⟨k, s, hk, rfl, hs1, hs2, rfl, HX, HB⟩ := hrel
    have hwl := HB.out.size
    by_cases hlt : k < n
    · have hk0 : (k : Int) < n := by omega
      obtain ⟨Q, T, MV, hBk, hTl, hTb, hR⟩ := HX.out
      obtain ⟨Z, hZ⟩ : ∃ Z, Hid (bits BinOp.and IntKind.i64 (s * 1103515 + 12345) 2147483647 = Z) := ⟨_, rfl⟩
      have hZ12 : 0 ≤ Z ∧ Z < 2147483648 := by rw [← hZ.out]; exact and_mask _
      obtain ⟨κ, hκl, hκ⟩ := kap Z hZ12.1 hZ12.2
      obtain ⟨tk, htk⟩ : ∃ tk, Hid (T[κ]? = some tk) := ⟨T[κ]'(by omega), List.getElem?_eq_getElem _⟩
      have HTD : Hid (T.getD κ 0 = tk) := by show _ = _; rw [List.getD_eq_getElem?_getD, htk.out]; rfl
      have htb := hTb tk (List.mem_of_getElem? htk.out)
      obtain ⟨W1, hW1⟩ : ∃ W1, Hid (wr.alloc (.cells #[.int .u8 ((κ / 256 : Nat) : Int), .int .u8 ((κ % 256 : Nat) : Int)] 5) = W1) := ⟨_, rfl⟩
      have hb1 : Below wr.heap.size wr W1 := by rw [← hW1.out]; exact below_alloc _ _
      have hky : OB W1 (wr.heap.size ≤ ·) (.slice (some ⟨wr.heap.size, 0, none⟩) 2 2) (ky κ) := by rw [← hW1.out]; exact ob_pair wr _ _ (by omega) (by omega)
      have hgl : gt < wr.heap.size := hR.lt
      have hbl := below_lit W1.drew ((k : Int) % 256)
      have hbD : Below W1.heap.size W1 W1.drew := belowD W1
      have hb2 := joinB (joinB hb1 hbD) hbl
      have hc0 : wr.cell? ⟨gt, κ, none⟩ = some (.int .i64 tk) := hR.cell (by rw [List.getElem?_map, htk.out]; rfl)
      have hSD : Hid (W1.drew.cell? ⟨gt, κ, none⟩ = some (.int .i64 tk)) := ((joinB hb1 hbD).cell (p := ⟨gt, κ, none⟩) hgl).trans hc0
      have HSl : Hid ((lit8 W1.drew ((k : Int) % 256)).cell? ⟨gt, κ, none⟩ = some (.int .i64 tk)) := (hb2.cell (p := ⟨gt, κ, none⟩) hgl).trans hc0
      have HSET : Hid _ := (MV.keep hb2).set (Nat.le_trans hwl hb2.size) (by have := hb2.size; omega) ((hky.keep hbD).keep hbl).by (ob_lit W1.drew ((k : Int) % 256) (by omega)).by (by simp [ky]) (by simp) (by omega)
      have HDEL : Hid _ := (MV.keep (joinB hb1 hbD)).del (Nat.le_trans hwl (joinB hb1 hbD).size) (by have := (joinB hb1 hbD).size; omega) (hky.keep hbD).by (by omega)
      obtain ⟨e0, he0⟩ : ∃ e0, Hid (decide (tk = 0) = e0) := ⟨_, rfl⟩
      obtain ⟨e1, he1⟩ : ∃ e1, Hid (decide (¬ tk = 0) = e1) := ⟨_, rfl⟩
      have hres0 : Hid ((!ahas Q (ky κ)) = e0) := by show _ = _; rw [hBk.has MV.b.ord hκl, HTD.out, ← he0.out]; by_cases h : tk = 0 <;> simp [h]
      have hres1 : Hid (ahas Q (ky κ) = e1) := by show _ = _; rw [hBk.has MV.b.ord hκl, HTD.out, ← he1.out]
      have HBS : Hid (Bk (aset Q (ky κ) [(k : Int) % 256]) (T.set κ ((k : Int) % 256 + 1))) := hBk.set MV.b.ord hκl hTl (by omega)
      have HBD : Hid (Bk (adel Q (ky κ)) (T.set κ 0)) := hBk.del MV.b.ord hκl hTl
      have HTb : Hid _ := hTb
      have HR : Hid _ := hR
      have Hb2 : Hid _ := hb2
      have HbD : Hid _ := joinB hb1 hbD
      have HTl : Hid _ := hTl
      clear MV hBk hTb hR hb1 hbD hbl hb2 hky hc0 hTl HX
      go_wp2_with fail
      · simp only [hZ.out, hκ.out, kap1 κ hκl, kap2, hW1.out]
        have hS := hSD.out
        have hSl := HSl.out
        have hres := hres0
        refine rg_start (S := fun w' => w'.cell? ⟨gt, κ, none⟩ = some (.int .i64 tk)) (by kernel_rfl) hS ?_
        refine rg_take 0 (some 45) (.pointer (some ⟨g, 0, none⟩)) (by kernel_rfl) (fun _ _ => by kernel_rfl) (fun _ _ _ h => h) hS ?_
        refine rg_take 1 (some 46) (.slice (some ⟨wr.heap.size, 0, none⟩) 2 2) (by kernel_rfl) (fun _ _ => by kernel_rfl) (fun _ _ _ h => h) hS ?_
        refine rg_take 2 (some 47) (.int .i64 k) (by kernel_rfl) (fun _ _ => by kernel_rfl) (fun _ _ _ h => h) hS ?_
        refine rg_eq 3 (some 48) (.int .u8 (IntKind.u8.wrap (k : Int))) (.int .u8 ((k : Int) % 256)) (by rw [IntKind.wrap_u8]) (by kernel_rfl) (fun _ _ => by kernel_rfl) (fun _ _ _ h => h) hS ?_
        refine rg_take 6 (some 51) (.slice (some ⟨gt, 0, none⟩) 600 600) (by kernel_rfl) (fun _ _ => by kernel_rfl) (fun _ _ _ h => h) hS ?_
        refine rg_take 7 (some 52) (.int .i64 κ) (by kernel_rfl) (fun _ _ => by kernel_rfl) (fun _ _ _ h => h) hS ?_
        refine rg_take 8 (some 53) (.pointer (some ⟨gt, κ, none⟩)) (by kernel_rfl) (fun _ _ => run_ii (x := 51) (y := 52) (n := 600) (c := 600) (by kernel_rfl) (by kernel_rfl) (by kernel_rfl) rfl hκl) (fun _ _ _ h => h) hS ?_
        refine rg_load 9 (some 54) (.int .i64 tk) 3 53 (gt) (κ) (by kernel_rfl) (by kernel_rfl) (by kernel_rfl) (fun w' h => ld_i h) (fun _ _ _ h => h) hS ?_
        refine rg_eq 10 (some 55) (.bool (tk == 0)) (.bool e0) (by rw [← he0.out]; rfl) (by kernel_rfl) (fun _ _ => by kernel_rfl) (fun _ _ _ h => h) hS ?_
        refine rg_ready [4] (by kernel_rfl) (by simp) (ar_val 4 (some 49) (.slice (some ⟨W1.heap.size, 0, none⟩) 1 1) (lit8 W1.drew ((k : Int) % 256)) (by kernel_rfl) (run_b8 (k := 48) (by kernel_rfl) (by kernel_rfl)) (hSl) ?_ ar_nil)
        replace hS := hSl
        refine rg_call 5 (some 50) 12 #[.pointer (some ⟨g, 0, none⟩), .slice (some ⟨wr.heap.size, 0, none⟩) 2 2, .slice (some ⟨W1.heap.size, 0, none⟩) 1 1] (by kernel_rfl) (by kernel_rfl) (HSET.out) ?_
        rintro e' w2 ⟨rfl, M2, hB2, hK2⟩
        rw [hres.out]
        have hS2 := (hK2.cl (i := κ) (Nat.le_refl _) (Nat.lt_succ_self _)).trans hS
        refine ⟨_, rfl, hS2, ?_⟩
        clear hS
        have hS := hS2
        refine rg_eq 11 (some 56) (.bool (e0 != e0)) (.bool false) (by rw [bne_self_eq_false]) (by kernel_rfl) (fun _ _ => by kernel_rfl) (fun _ _ _ h => h) hS ?_
        refine rg_done (by kernel_rfl) ?_
        simp only [Act.put, List.setIfInBounds_toArray, List.set_cons_zero, List.set_cons_succ]
        have R2 : Rw w2 3 1 gt 600 600 (T.map (Value.int .i64)) := (HR.out.keep Hb2.out).kpr hK2 (Nat.le_refl _) (Nat.lt_succ_self _)
        obtain ⟨cs2, hblk⟩ := R2.kind
        have c5 := hS
        have f5 := R2.free κ
        have hwl2 : w.heap.size ≤ w2.heap.size := by have := Hb2.out.size; have := hB2.size; omega
        have HBF : Hid (Below w.heap.size w w2) := (HB.out.trans (Hb2.out.mono hwl)).trans hB2
        have HR2 : Hid _ := R2
        have HK : Hid _ := hblk
        have HM2 : Hid _ := M2
        have hgw : w.heap.size ≤ gt := by omega
        clear R2 hblk M2 hB2 hK2
        go_wp2
        go_roundw
        case rel =>
          refine ⟨k + 1, Z, by omega, by go_num, by omega, by omega, rfl, ⟨_, T.set κ ((k : Int) % 256 + 1), (HM2.out.cell (Nat.le_refl _) (Nat.lt_succ_self _) HK.out _), HBS.out, by rw [List.length_set]; exact HTl.out, fun x hx => ?_, (HR2.out.set κ (by rw [List.length_map, HTl.out]; exact hκl) _).to ?_⟩, ?_⟩
          · rcases List.mem_or_eq_of_mem_set hx with h | rfl
            · exact HTb.out x h
            · omega
          · first
              | (rw [List.map_set]; done)
              | (rw [List.map_set]; congr 2; omega)
              | (rw [List.map_set]; congr 2; rw [Int.tmod_eq_emod_of_nonneg (by omega)]; omega)
          · exact HBF.out.trans (((Chg.refl (fun x => x = gt) w2).cell (.inl rfl) _).below (fun b e => by have e' : b = gt := e; omega) hwl2)
        case measure => simp [intOf]; omega
      · simp only [hZ.out, hκ.out, kap1 κ hκl, kap2, hW1.out]
        have hS := hSD.out
        have hres := hres1
        refine rg_start (S := fun w' => w'.cell? ⟨gt, κ, none⟩ = some (.int .i64 tk)) (by kernel_rfl) hS ?_
        refine rg_take 0 (some 63) (.pointer (some ⟨g, 0, none⟩)) (by kernel_rfl) (fun _ _ => by kernel_rfl) (fun _ _ _ h => h) hS ?_
        refine rg_take 1 (some 64) (.slice (some ⟨wr.heap.size, 0, none⟩) 2 2) (by kernel_rfl) (fun _ _ => by kernel_rfl) (fun _ _ _ h => h) hS ?_
        refine rg_take 3 (some 66) (.slice (some ⟨gt, 0, none⟩) 600 600) (by kernel_rfl) (fun _ _ => by kernel_rfl) (fun _ _ _ h => h) hS ?_
        refine rg_take 4 (some 67) (.int .i64 κ) (by kernel_rfl) (fun _ _ => by kernel_rfl) (fun _ _ _ h => h) hS ?_
        refine rg_take 5 (some 68) (.pointer (some ⟨gt, κ, none⟩)) (by kernel_rfl) (fun _ _ => run_ii (x := 66) (y := 67) (n := 600) (c := 600) (by kernel_rfl) (by kernel_rfl) (by kernel_rfl) rfl hκl) (fun _ _ _ h => h) hS ?_
        refine rg_load 6 (some 69) (.int .i64 tk) 3 68 (gt) (κ) (by kernel_rfl) (by kernel_rfl) (by kernel_rfl) (fun w' h => ld_i h) (fun _ _ _ h => h) hS ?_
        refine rg_eq 7 (some 70) (.bool (tk != 0)) (.bool e1) (by rw [← he1.out]; by_cases h : tk = 0 <;> simp [h]) (by kernel_rfl) (fun _ _ => by kernel_rfl) (fun _ _ _ h => h) hS ?_
        refine rg_call 2 (some 65) 14 #[.pointer (some ⟨g, 0, none⟩), .slice (some ⟨wr.heap.size, 0, none⟩) 2 2] (by kernel_rfl) (by kernel_rfl) (HDEL.out) ?_
        rintro e' w2 ⟨rfl, M2, hB2, hK2⟩
        rw [hres.out]
        have hS2 := (hK2.cl (i := κ) (Nat.le_refl _) (Nat.lt_succ_self _)).trans hS
        refine ⟨_, rfl, hS2, ?_⟩
        clear hS
        have hS := hS2
        refine rg_eq 8 (some 71) (.bool (e1 != e1)) (.bool false) (by rw [bne_self_eq_false]) (by kernel_rfl) (fun _ _ => by kernel_rfl) (fun _ _ _ h => h) hS ?_
        refine rg_done (by kernel_rfl) ?_
        simp only [Act.put, List.setIfInBounds_toArray, List.set_cons_zero, List.set_cons_succ]
        have R2 : Rw w2 3 1 gt 600 600 (T.map (Value.int .i64)) := (HR.out.keep HbD.out).kpr hK2 (Nat.le_refl _) (Nat.lt_succ_self _)
        obtain ⟨cs2, hblk⟩ := R2.kind
        have c5 := hS
        have f5 := R2.free κ
        have hwl2 : w.heap.size ≤ w2.heap.size := by have := HbD.out.size; have := hB2.size; omega
        have HBF : Hid (Below w.heap.size w w2) := (HB.out.trans (HbD.out.mono hwl)).trans hB2
        have HR2 : Hid _ := R2
        have HK : Hid _ := hblk
        have HM2 : Hid _ := M2
        have hgw : w.heap.size ≤ gt := by omega
        clear R2 hblk M2 hB2 hK2
        go_wp2
        go_roundw
        case rel =>
          refine ⟨k + 1, Z, by omega, by go_num, by omega, by omega, rfl, ⟨_, T.set κ (0), (HM2.out.cell (Nat.le_refl _) (Nat.lt_succ_self _) HK.out _).more (by omega), HBD.out, by rw [List.length_set]; exact HTl.out, fun x hx => ?_, (HR2.out.set κ (by rw [List.length_map, HTl.out]; exact hκl) _).to ?_⟩, ?_⟩
          · rcases List.mem_or_eq_of_mem_set hx with h | rfl
            · exact HTb.out x h
            · omega
          · first
              | (rw [List.map_set]; done)
              | (rw [List.map_set]; congr 2; omega)
              | (rw [List.map_set]; congr 2; rw [Int.tmod_eq_emod_of_nonneg (by omega)]; omega)
          · exact HBF.out.trans (((Chg.refl (fun x => x = gt) w2).cell (.inl rfl) _).below (fun b e => by have e' : b = gt := e; omega) hwl2)
        case measure => simp [intOf]; omega
    · obtain rfl : k = n := by omega
      obtain ⟨Q, T, MV, hBk, hTl, hTb, hR⟩ := HX.out
      have HMV : Hid _ := MV
      have hQl := MV.b.size
      go_wp2_with first
        | (go_at_call 27; go_must (refine (HMV.out.b.shaped (by omega)).mono ?_); rintro e w5 ⟨rfl, B5⟩)
        | (go_at_call 21; go_must (refine ((HMV.out.keep B5).b.up (n := 1073741824) (by omega) (By.nil _) (By.nil _) (by decide) (by decide) (by decide) (by decide)).mono ?_); rintro e w6 ⟨v6, es, rfl, P6, E6, B6⟩; obtain ⟨a6, d, rfl⟩ := P6.shape)
      rw [filter_all, List.take_of_length_le (by omega)] at E6
      obtain ⟨m, hm⟩ : ∃ m, Hid (es.length = m) := ⟨_, rfl⟩
      rw [hm.out] at P6 ⊢
      have HE : Hid (es.map En.kl2 = lst T 0 600) := E6.trans hBk
      have HP : Hid _ := P6
      have B56 := joinB B5 B6
      have HR : Hid _ := hR.keep B56
      have HBB : Hid (Below w.heap.size w w6) := HB.out.trans (B56.mono hwl)
      have HTb : Hid _ := hTb
      have hmb : m ≤ 100000 := by rw [← hm.out, ← List.length_map (f := En.kl2), E6]; omega
      have HL : Hid ((lst T 0 600).length = m) := by show _ = _; rw [← HE.out, List.length_map]; exact hm.out
      have HTl : Hid _ := hTl
      clear P6 E6 B5 B6 B56 hR hTb hBk MV HMV HX hTl
      go_loopw [13, 14] (fun ta tj wz => ∃ j a : Nat, j ≤ 600 ∧ tj = .int .i64 j ∧ ta = .int .i64 a ∧ Hid ((lst T 0 j).length = a) ∧ Hid (Below w6.heap.size w6 wz)) (fun _ tj _ => 600 - (intOf tj).toNat)
      case atStart => exact ⟨0, 0, Nat.zero_le _, rfl, rfl, by show _ = _; rfl, Below.refl _ _⟩
      case round =>
        obtain ⟨j, a, hj, rfl, rfl, hja, HC⟩ := hrel
        by_cases hjl : j < 600
        · have hj0 : (j : Int) < 600 := by omega
          obtain ⟨tj, htj⟩ : ∃ tj, Hid (T[j]? = some tj) := ⟨T[j]'(by have := HTl.out; omega), List.getElem?_eq_getElem _⟩
          have HTD : Hid (T.getD j 0 = tj) := by show _ = _; rw [List.getD_eq_getElem?_getD, htj.out]; rfl
          have htb := HTb.out tj (List.mem_of_getElem? htj.out)
          have c1 : wr.cell? ⟨gt, j, none⟩ = some (.int .i64 tj) := (HR.out.keep HC.out).cell (by rw [List.getElem?_map, htj.out]; rfl)
          have hst : Hid (lst T 0 (j + 1) = lst T 0 j ++ (ent T j).toList) := by show _ = _; rw [lst_add, lst_one, Nat.zero_add]
          by_cases h0 : tj = 0
          · subst h0
            have HN : Hid ((lst T 0 (j + 1)).length = a) := by show _ = _; rw [hst.out]; unfold ent; rw [HTD.out, if_pos rfl]; simpa using hja.out
            go_wp2
            go_roundw
            case rel => exact ⟨j + 1, a, by omega, by go_num, rfl, HN, HC⟩
            case measure => simp [intOf]; omega
          · have hen : ent T j = some (ky j, [tj - 1]) := by unfold ent; rw [HTD.out, if_neg h0]
            have HN : Hid ((lst T 0 (j + 1)).length = a + 1) := by show _ = _; rw [hst.out, hen, List.length_append, hja.out]; rfl
            have hax : (es.map En.kl2)[a]? = some (ky j, [tj - 1]) := by
              rw [HE.out, lst_split T hjl, hen, List.getElem?_append_right (by have := hja.out; omega), hja.out, Nat.sub_self]
              rfl
            rw [List.getElem?_map] at hax
            obtain ⟨x, hx, hxe⟩ := Option.map_eq_some_iff.1 hax
            have ham : a < m := by rw [← hm.out]; exact (List.getElem?_eq_some_iff.1 hx).1
            have hxk : x.kl = ky j := congrArg Prod.fst hxe
            have hxv : x.vl = [tj - 1] := congrArg Prod.snd hxe
            obtain ⟨p, rfl⟩ := HP.out.q.some hx
            have hbD := joinB HC.out (belowD wr)
            have PA := HP.out.keep hbD
            have X := PA.ents x (List.mem_of_getElem? hx)
            obtain ⟨x1, x2, hlp⟩ := PA.cells hx
            have c2 : wr.drew.cell? ⟨gt, j, none⟩ = some (.int .i64 tj) := c1
            have hgl := cell_lt c2
            have HX : Hid _ := X
            have HS0 : Hid (wr.drew.cell? ⟨p, a * 2, none⟩ = some x.kv ∧ wr.drew.cell? ⟨p, a * 2 + 1, none⟩ = some x.vv ∧ wr.drew.cell? ⟨gt, j, none⟩ = some (.int .i64 tj)) := ⟨x1, x2, c2⟩
            have HXK : Hid (x.kl = ky j) := hxk
            have HXV : Hid (x.vl = [tj - 1]) := hxv
            have ha0 : (a : Int) < m := by omega
            clear X PA x1 x2 c2 hx hax hxe hxk hxv hen hbD
            go_wp2_with fail
            have X := HX.out
            have hS := HS0.out
            have w1 : IntKind.i64.wrap ((j : Int).tdiv 256) = ((j / 256 : Nat) : Int) := by rw [Int.tdiv_eq_ediv_of_nonneg (by omega), IntKind.wrap_i64]; omega
            have w2' : IntKind.u8.wrap ((j / 256 : Nat) : Int) = ((j / 256 : Nat) : Int) := by rw [IntKind.wrap_u8]; omega
            have w3' : IntKind.u8.wrap (j : Int) = ((j % 256 : Nat) : Int) := by rw [IntKind.wrap_u8]; omega
            have w4' : IntKind.i64.wrap (tj - 1) = tj - 1 := by rw [IntKind.wrap_i64]; omega
            have w5' : IntKind.u8.wrap (tj - 1) = tj - 1 := by rw [IntKind.wrap_u8]; omega
            have b1 : Below wr.drew.heap.size wr.drew (wr.drew.alloc (.cells #[.int .u8 ((j / 256 : Nat) : Int), .int .u8 ((j % 256 : Nat) : Int)] 5)) := below_alloc _ _
            have K1 : OB _ (wr.drew.heap.size ≤ ·) (.slice (some ⟨wr.drew.heap.size, 0, none⟩) 2 2) (ky j) := ob_pair wr.drew ((j / 256 : Nat) : Int) ((j % 256 : Nat) : Int) (by omega) (by omega)
            refine rg_start (S := fun w' => w'.cell? ⟨p, a * 2, none⟩ = some x.kv ∧ w'.cell? ⟨p, a * 2 + 1, none⟩ = some x.vv ∧ w'.cell? ⟨gt, j, none⟩ = some (.int .i64 tj)) (by kernel_rfl) hS ?_
            refine rg_take 0 (some 89) (.int .i64 a) (by kernel_rfl) (fun _ _ => by kernel_rfl) (fun _ _ _ h => h) hS ?_
            refine rg_take 1 (some 90) (.slice (some ⟨p, 0, none⟩) m d) (by kernel_rfl) (fun _ _ => by kernel_rfl) (fun _ _ _ h => h) hS ?_
            refine rg_take 2 (some 91) (.int .i64 m) (by kernel_rfl) (fun _ _ => by kernel_rfl) (fun _ _ _ h => h) hS ?_
            refine rg_eq 3 (some 92) (.bool (decide ((m : Int) ≤ (a : Int)))) (.bool false) (by rw [decide_eq_false (by omega)]) (by kernel_rfl) (fun _ _ => by kernel_rfl) (fun _ _ _ h => h) hS ?_
            refine rg_take 4 (some 93) (.bool false) (by kernel_rfl) (fun _ _ => by kernel_rfl) (fun _ _ _ h => h) hS ?_
            refine rg_take 5 (some 94) (.slice (some ⟨p, 0, none⟩) m d) (by kernel_rfl) (fun _ _ => by kernel_rfl) (fun _ _ _ h => h) hS ?_
            refine rg_take 6 (some 95) (.int .i64 a) (by kernel_rfl) (fun _ _ => by kernel_rfl) (fun _ _ _ h => h) hS ?_
            refine rg_take 7 (some 96) (.pointer (some ⟨p, a * 2, none⟩)) (by kernel_rfl) (fun _ _ => run_iq (x := 94) (y := 95) (k := a) (n := m) (c := d) (by kernel_rfl) (by kernel_rfl) (by kernel_rfl) rfl ham) (fun _ _ _ h => h) hS ?_
            refine rg_take 8 (some 97) (.pointer (some ⟨p, a * 2, none⟩)) (by kernel_rfl) (fun _ _ => by kernel_rfl) (fun _ _ _ h => h) hS ?_
            refine rg_load 9 (some 98) (x.kv) 33 97 (p) (a * 2) (by kernel_rfl) (by kernel_rfl) (by kernel_rfl) (fun w' h => ld_b h.1) (fun _ _ _ h => h) hS ?_
            refine rg_take 10 (some 99) (.int .i64 j) (by kernel_rfl) (fun _ _ => by kernel_rfl) (fun _ _ _ h => h) hS ?_
            refine rg_eq 11 (some 100) (.int .i64 (IntKind.i64.wrap ((j : Int).tdiv 256))) (.int .i64 (((j / 256 : Nat) : Int))) (by rw [w1]) (by kernel_rfl) (fun _ _ => by kernel_rfl) (fun _ _ _ h => h) hS ?_
            refine rg_eq 12 (some 101) (.int .u8 (IntKind.u8.wrap (((j / 256 : Nat) : Int)))) (.int .u8 (((j / 256 : Nat) : Int))) (by rw [w2']) (by kernel_rfl) (fun _ _ => by kernel_rfl) (fun _ _ _ h => h) hS ?_
            refine rg_take 13 (some 102) (.int .i64 j) (by kernel_rfl) (fun _ _ => by kernel_rfl) (fun _ _ _ h => h) hS ?_
            refine rg_eq 14 (some 103) (.int .u8 (IntKind.u8.wrap (j : Int))) (.int .u8 (((j % 256 : Nat) : Int))) (by rw [w3']) (by kernel_rfl) (fun _ _ => by kernel_rfl) (fun _ _ _ h => h) hS ?_
            refine rg_ready [15] (by kernel_rfl) (by simp) (ar_val 15 (some 104) (.slice (some ⟨wr.heap.size, 0, none⟩) 2 2) (wr.drew.alloc (.cells #[.int .u8 ((j / 256 : Nat) : Int), .int .u8 ((j % 256 : Nat) : Int)] 5)) (by kernel_rfl) (run_b82 (k := 101) (j := 103) (by kernel_rfl) (by kernel_rfl) (by kernel_rfl)) (pcells3 hS hlp hgl b1) ?_ ar_nil)
            replace hS := pcells3 hS hlp hgl b1
            refine rg_call 16 (some 105) 18 #[x.kv, .slice (some ⟨wr.heap.size, 0, none⟩) 2 2] (by kernel_rfl) (by kernel_rfl) (bytes_any (X.k.keep b1).by K1.by (by rw [HXK.out]; simp [ky]) (by simp [ky])) ?_
            rintro e' w7 ⟨rfl, B7⟩
            rw [decide_eq_true (show x.kl = ky j from HXK.out)]
            have b17 := joinB b1 B7
            refine ⟨_, rfl, pcells3 hS (Nat.lt_of_lt_of_le hlp b1.size) (Nat.lt_of_lt_of_le hgl b1.size) B7, ?_⟩
            replace hS := pcells3 hS (Nat.lt_of_lt_of_le hlp b1.size) (Nat.lt_of_lt_of_le hgl b1.size) B7
            refine rg_take 17 (some 106) (.bool false) (by kernel_rfl) (fun _ _ => by kernel_rfl) (fun _ _ _ h => h) hS ?_
            refine rg_take 18 (some 107) (.bool false) (by kernel_rfl) (fun _ _ => by kernel_rfl) (fun _ _ _ h => h) hS ?_
            refine rg_take 19 (some 108) (.bool false) (by kernel_rfl) (fun _ _ => by kernel_rfl) (fun _ _ _ h => h) hS ?_
            refine rg_take 20 (some 109) (.slice (some ⟨p, 0, none⟩) m d) (by kernel_rfl) (fun _ _ => by kernel_rfl) (fun _ _ _ h => h) hS ?_
            refine rg_take 21 (some 110) (.int .i64 a) (by kernel_rfl) (fun _ _ => by kernel_rfl) (fun _ _ _ h => h) hS ?_
            refine rg_take 22 (some 111) (.pointer (some ⟨p, a * 2, none⟩)) (by kernel_rfl) (fun _ _ => run_iq (x := 109) (y := 110) (k := a) (n := m) (c := d) (by kernel_rfl) (by kernel_rfl) (by kernel_rfl) rfl ham) (fun _ _ _ h => h) hS ?_
            refine rg_take 23 (some 112) (.pointer (some ⟨p, a * 2 + 1, none⟩)) (by kernel_rfl) (fun _ _ => by kernel_rfl) (fun _ _ _ h => h) hS ?_
            refine rg_load 24 (some 113) (x.vv) 33 112 (p) (a * 2 + 1) (by kernel_rfl) (by kernel_rfl) (by kernel_rfl) (fun w' h => ld_b h.2.1) (fun _ _ _ h => h) hS ?_
            refine rg_take 25 (some 114) (.slice (some ⟨gt, 0, none⟩) 600 600) (by kernel_rfl) (fun _ _ => by kernel_rfl) (fun _ _ _ h => h) hS ?_
            refine rg_take 26 (some 115) (.int .i64 j) (by kernel_rfl) (fun _ _ => by kernel_rfl) (fun _ _ _ h => h) hS ?_
            refine rg_take 27 (some 116) (.pointer (some ⟨gt, j, none⟩)) (by kernel_rfl) (fun _ _ => run_ii (x := 114) (y := 115) (n := 600) (c := 600) (by kernel_rfl) (by kernel_rfl) (by kernel_rfl) rfl hjl) (fun _ _ _ h => h) hS ?_
            refine rg_load 28 (some 117) (.int .i64 tj) 3 116 (gt) (j) (by kernel_rfl) (by kernel_rfl) (by kernel_rfl) (fun w' h => ld_i h.2.2) (fun _ _ _ h => h) hS ?_
            refine rg_eq 29 (some 118) (.int .i64 (IntKind.i64.wrap (tj - 1))) (.int .i64 (tj - 1)) (by rw [w4']) (by kernel_rfl) (fun _ _ => by kernel_rfl) (fun _ _ _ h => h) hS ?_
            refine rg_eq 30 (some 119) (.int .u8 (IntKind.u8.wrap (tj - 1))) (.int .u8 (tj - 1)) (by rw [w5']) (by kernel_rfl) (fun _ _ => by kernel_rfl) (fun _ _ _ h => h) hS ?_
            refine rg_ready [31] (by kernel_rfl) (by simp) (ar_val 31 (some 120) (.slice (some ⟨w7.heap.size, 0, none⟩) 1 1) (lit8 w7 (tj - 1)) (by kernel_rfl) (run_b8 (k := 119) (by kernel_rfl) (by kernel_rfl)) (pcells3 hS (Nat.lt_of_lt_of_le hlp b17.size) (Nat.lt_of_lt_of_le hgl b17.size) (below_lit w7 (tj - 1))) ?_ ar_nil)
            replace hS := pcells3 hS (Nat.lt_of_lt_of_le hlp b17.size) (Nat.lt_of_lt_of_le hgl b17.size) (below_lit w7 (tj - 1))
            have b2 := below_lit w7 (tj - 1)
            have b18 := joinB b17 b2
            refine rg_call 32 (some 121) 18 #[x.vv, .slice (some ⟨w7.heap.size, 0, none⟩) 1 1] (by kernel_rfl) (by kernel_rfl) (bytes_any (X.v.keep b18).by (ob_lit w7 (tj - 1) (by omega)).by (by rw [HXV.out]; simp) (by simp)) ?_
            rintro e' w8 ⟨rfl, B8⟩
            rw [decide_eq_true (show x.vl = [tj - 1] from HXV.out)]
            refine ⟨_, rfl, pcells3 hS (Nat.lt_of_lt_of_le hlp b18.size) (Nat.lt_of_lt_of_le hgl b18.size) B8, ?_⟩
            replace hS := pcells3 hS (Nat.lt_of_lt_of_le hlp b18.size) (Nat.lt_of_lt_of_le hgl b18.size) B8
            refine rg_take 33 (some 122) (.bool false) (by kernel_rfl) (fun _ _ => by kernel_rfl) (fun _ _ _ h => h) hS ?_
            refine rg_take 34 (some 123) (.bool false) (by kernel_rfl) (fun _ _ => by kernel_rfl) (fun _ _ _ h => h) hS ?_
            refine rg_done (by kernel_rfl) ?_
            simp only [Act.put, List.setIfInBounds_toArray, List.set_cons_zero, List.set_cons_succ]
            go_wp2
            go_roundw
            case rel => exact ⟨j + 1, a + 1, by omega, by go_num, by go_num, HN, joinB HC.out (below_drew0 (joinB (joinB (joinB b1 B7) b2) B8))⟩
            case measure => simp [intOf]; omega
        · obtain rfl : j = 600 := by omega
          have hfin : (a : Int) = m := by have := hja.out; have := HL.out; omega
          obtain rfl : a = m := by omega
          go_wp2
          go_ret
          exact ⟨by simp, joinB HBB.out HC.out⟩
end Pg
end Go.Proofs.Ytmcldniffieeiaa
