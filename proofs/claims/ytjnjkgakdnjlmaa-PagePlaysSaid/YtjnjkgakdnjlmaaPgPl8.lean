/- gleanlaw5.PagePlays: a round: w8. -/
import Derived.Test.YtjnjkgakdnjlmaaPgPl
namespace Go.Proofs.Ytjnjkgakdnjlmaa
namespace Pg
open Go.RowKit Go.Lib
attribute [local go_sem] Oper.semAt_some
set_option maxHeartbeats 40000000 in
set_option maxRecDepth 1000000 in
theorem plays_w8 {w : World} {ao : Option Addr} {n c sm sr : Nat} {ss : List Ste} {c16 c17 c18 c19 c20 c21 c22 c23 c24 c25 c26 c27 c28 c29 c30 c31 : Value} {Q0 : Exit → Act → World → Prop} {wr : World} {u2 u6 u7 u8 u9 u10 u11 u12 u13 u14 u15 u32 u33 u34 u35 u36 u37 u38 u39 u40 u41 u42 u43 u44 u45 u46 u47 u48 u49 u50 u51 u52 u53 u54 u55 u56 u57 u58 u59 u60 u61 u62 u63 u64 u65 u66 u67 u68 u69 u70 u71 u72 u73 u74 u75 u76 u77 u78 u79 u80 u81 u82 u83 u84 u85 u86 u87 u88 u89 u90 u91 u92 u93 u94 u95 u96 u97 u98 u99 u100 u101 u102 u103 u104 u105 u106 u107 u108 u109 u110 u111 u112 u113 u114 u115 u116 u117 u118 u119 u120 u121 u122 u123 u124 u125 u126 u127 u128 u129 u130 u131 u132 u133 u134 u135 u136 u137 u138 u139 u140 u141 u142 u143 u144 u145 u146 u147 u148 u149 u150 u151 u152 u153 u154 u155 u156 u157 u158 u159 u160 u161 u162 u163 u164 u165 u166 u167 u168 u169 u170 u171 u172 u173 u174 u175 u176 u177 u178 u179 u180 u181 u182 u183 u184 u185 u186 u187 u188 u189 u190 u191 u192 u193 u194 u195 u196 u197 u198 u199 u200 u201 u202 : Value} {k : Nat} (HS : Hid (StesA w ao n ss)) (HL : Hid (n + hvy ss ≤ 6000)) (hn : n ≤ 6000) (h5 : w.heap.size ≤ sm) (hr5 : w.heap.size ≤ sr) (hlt : k < n) (HX : Hid (∃ ms rs Q, Tx wr w.heap.size sm sr 0 0 k ms rs Q Q)) (HB : Hid (Below w.heap.size w wr)) (HP : Hid (∀ c a d v w, Q0 (.panic c) (Act.put a d v) w → Q0 (.panic c) a w)) (hwhat : ∀ s, ss[k]? = some s → s.what = 8) :
    Code.wp Try.prog bodyP (Exit.then (fun a' w'' => WI w ao n c sm sr c16 c17 c18 c19 c20 c21 c22 c23 c24 c25 c26 c27 c28 c29 c30 c31 a' w'' ∧ Wmu n a' w'' < Wmu n ⟨#[.slice ao n c, undef, u2, .slice (some ⟨sm, 0, none⟩) 3 3, .slice (some ⟨sr, 0, none⟩) 3 3, (.int .i64 k), u6, u7, u8, u9, u10, u11, u12, u13, u14, u15, c16, c17, c18, c19, c20, c21, c22, c23, c24, c25, c26, c27, c28, c29, c30, c31, u32, u33, u34, u35, u36, u37, u38, u39, u40, u41, u42, u43, u44, u45, u46, u47, u48, u49, u50, u51, u52, u53, u54, u55, u56, u57, u58, u59, u60, u61, u62, u63, u64, u65, u66, u67, u68, u69, u70, u71, u72, u73, u74, u75, u76, u77, u78, u79, u80, u81, u82, u83, u84, u85, u86, u87, u88, u89, u90, u91, u92, u93, u94, u95, u96, u97, u98, u99, u100, u101, u102, u103, u104, u105, u106, u107, u108, u109, u110, u111, u112, u113, u114, u115, u116, u117, u118, u119, u120, u121, u122, u123, u124, u125, u126, u127, u128, u129, u130, u131, u132, u133, u134, u135, u136, u137, u138, u139, u140, u141, u142, u143, u144, u145, u146, u147, u148, u149, u150, u151, u152, u153, u154, u155, u156, u157, u158, u159, u160, u161, u162, u163, u164, u165, u166, u167, u168, u169, u170, u171, u172, u173, u174, u175, u176, u177, u178, u179, u180, u181, u182, u183, u184, u185, u186, u187, u188, u189, u190, u191, u192, u193, u194, u195, u196, u197, u198, u199, u200, u201, u202, undef, undef, undef, undef, undef, undef, undef, undef, undef, undef, undef, undef, undef, undef, undef, undef, undef, undef, undef, undef, undef, undef, undef, undef, undef], []⟩ wr) Q0) ⟨#[.slice ao n c, undef, u2, .slice (some ⟨sm, 0, none⟩) 3 3, .slice (some ⟨sr, 0, none⟩) 3 3, (.int .i64 k), u6, u7, u8, u9, u10, u11, u12, u13, u14, u15, c16, c17, c18, c19, c20, c21, c22, c23, c24, c25, c26, c27, c28, c29, c30, c31, u32, u33, u34, u35, u36, u37, u38, u39, u40, u41, u42, u43, u44, u45, u46, u47, u48, u49, u50, u51, u52, u53, u54, u55, u56, u57, u58, u59, u60, u61, u62, u63, u64, u65, u66, u67, u68, u69, u70, u71, u72, u73, u74, u75, u76, u77, u78, u79, u80, u81, u82, u83, u84, u85, u86, u87, u88, u89, u90, u91, u92, u93, u94, u95, u96, u97, u98, u99, u100, u101, u102, u103, u104, u105, u106, u107, u108, u109, u110, u111, u112, u113, u114, u115, u116, u117, u118, u119, u120, u121, u122, u123, u124, u125, u126, u127, u128, u129, u130, u131, u132, u133, u134, u135, u136, u137, u138, u139, u140, u141, u142, u143, u144, u145, u146, u147, u148, u149, u150, u151, u152, u153, u154, u155, u156, u157, u158, u159, u160, u161, u162, u163, u164, u165, u166, u167, u168, u169, u170, u171, u172, u173, u174, u175, u176, u177, u178, u179, u180, u181, u182, u183, u184, u185, u186, u187, u188, u189, u190, u191, u192, u193, u194, u195, u196, u197, u198, u199, u200, u201, u202, undef, undef, undef, undef, undef, undef, undef, undef, undef, undef, undef, undef, undef, undef, undef, undef, undef, undef, undef, undef, undef, undef, undef, undef, undef], []⟩ wr := by
  conv => arg 2; whnf
  have hwl := HB.out.size
  obtain ⟨ms, rs, Q, T⟩ := HX.out
  obtain ⟨⟨loc, wh, num, ka, kc, kl, va, vc, vl⟩, b, o, e1, rfl, C0, A0⟩ := HS.out.at hlt
  have hw9 := hwhat _ e1
  simp only at hw9
  subst hw9
  have hw8 := hvy_mem e1
  simp only at hw8
  have hkl : kl.length ≤ 1000000000 := by have := HL.out; omega
  have hvl : vl.length ≤ 1000000000 := by have := HL.out; omega
  have HA : Hid _ := A0
  obtain ⟨c0, c1, c2, c3, c4⟩ := C0.keep HB.out
  simp only [Ste.kv, Ste.vv] at c0 c1 c2 c3 c4
  have hk0 : (k : Int) < n := by omega
  have HTr : Hid (Tx wr w.heap.size sm sr 0 0 k ms rs Q Q) := T
  have hlm := T.ltm
  have hlr := T.ltr
  clear T HX C0 A0 e1 hw8 hwhat
  go_wp2_with (go_at_call 10; refine (place_by loc 3 (by decide) (by decide) _).mono ?_; rintro e w6 ⟨i, hi, rfl, rfl⟩)
  clear c0 c1 c2 c3 c4
  have X1b := blk_new wr [.int .i64 loc, .int .i64 8, .int .i64 num, .slice ka kl.length kc, .slice va vl.length vc] 35
  have X1c := below_alloc wr (.cells #[.int .i64 loc, .int .i64 8, .int .i64 num, .slice ka kl.length kc, .slice va vl.length vc] 35)
  have X1s : (wr.alloc (.cells #[.int .i64 loc, .int .i64 8, .int .i64 num, .slice ka kl.length kc, .slice va vl.length vc] 35)).heap.size = wr.heap.size + 1 := by simp
  generalize hX1 : wr.alloc (.cells #[.int .i64 loc, .int .i64 8, .int .i64 num, .slice ka kl.length kc, .slice va vl.length vc] 35) = X1 at X1s X1c ⊢
  replace X1b : Blk X1 wr.heap.size [.int .i64 loc, .int .i64 8, .int .i64 num, .slice ka kl.length kc, .slice va vl.length vc] 35 := by rw [← hX1]; exact X1b
  have B1 : Below w.heap.size w X1 := HB.out.trans (X1c.mono hwl)
  have BD1 := B1.trans ((belowD X1).mono B1.size)
  have T1 := fun t => ((HTr.out.cut (s := wr.heap.size) (t := t) (Nat.le_refl _)).keep X1c).keep (belowD X1)
  clear hX1 X1c HTr
  generalize hq : wr.heap.size = q at hlm hlr X1s X1b T1 hwl ⊢
  clear hq
  have hS : X1.drew.cell? ⟨q, 3, none⟩ = some (.slice ka kl.length kc) ∧ X1.drew.cell? ⟨q, 4, none⟩ = some (.slice va vl.length vc) := ⟨X1b.drew.cell rfl, X1b.drew.cell rfl⟩
  refine rg_start (S := fun w' => w'.cell? ⟨q, 3, none⟩ = some (.slice ka kl.length kc) ∧ w'.cell? ⟨q, 4, none⟩ = some (.slice va vl.length vc)) (by kernel_rfl) hS ?_
  refine rg_take 0 (some 45) (.pointer (some ⟨q, 3, none⟩)) (by kernel_rfl) (fun _ _ => by kernel_rfl) (fun _ _ _ h => HP.out _ _ _ _ _ h) hS ?_
  refine rg_load 1 (some 46) (.slice ka kl.length kc) 33 45 (q) (3) (by kernel_rfl) (by kernel_rfl) (by kernel_rfl) (fun w' h => ld_b h.1) (fun _ _ _ h => HP.out _ _ _ _ _ h) hS ?_
  refine rg_take 3 (some 48) (.pointer (some ⟨q, 4, none⟩)) (by kernel_rfl) (fun _ _ => by kernel_rfl) (fun _ _ _ h => HP.out _ _ _ _ _ h) hS ?_
  refine rg_load 4 (some 49) (.slice va vl.length vc) 33 48 (q) (4) (by kernel_rfl) (by kernel_rfl) (by kernel_rfl) (fun w' h => ld_b h.2) (fun _ _ _ h => HP.out _ _ _ _ _ h) hS ?_
  refine rg_call 2 (some 47) 11 #[.slice ka kl.length kc] (by kernel_rfl) (by kernel_rfl) (copyBytes_any (HA.out.keep BD1).k hkl) ?_
  rintro e' wA ⟨k', rfl, OK1, bA⟩
  obtain ⟨ka2, kc2, rfl⟩ := OK1.shape
  have hS2 := pcells2 hS (Nat.lt_of_lt_of_le (Nat.lt_succ_self q) (Nat.le_of_eq X1s.symm)) bA
  refine ⟨_, rfl, hS2, ?_⟩
  replace hS := hS2
  have BA := BD1.trans (bA.mono BD1.size)
  refine rg_call 5 (some 50) 11 #[.slice va vl.length vc] (by kernel_rfl) (by kernel_rfl) (copyBytes_any (HA.out.keep BA).v hvl) ?_
  rintro e' wT ⟨v', rfl, OV, bT⟩
  obtain ⟨va2, vc2, rfl⟩ := OV.shape
  have hS2 := pcells2 hS (Nat.lt_of_lt_of_le (Nat.lt_of_lt_of_le (Nat.lt_succ_self q) (Nat.le_of_eq X1s.symm)) bA.size) bT
  refine ⟨_, rfl, hS2, ?_⟩
  replace hS := hS2
  have BT := BA.trans (bT.mono BA.size)
  refine rg_take 6 (some 8) (.slice ka2 kl.length kc2) (by kernel_rfl) (fun _ _ => by kernel_rfl) (fun _ _ _ h => HP.out _ _ _ _ _ h) hS ?_
  refine rg_take 7 (some 9) (.slice va2 vl.length vc2) (by kernel_rfl) (fun _ _ => by kernel_rfl) (fun _ _ _ h => HP.out _ _ _ _ _ h) hS ?_
  refine rg_done (by kernel_rfl) ?_
  simp only [Act.put, List.setIfInBounds_toArray, List.set_cons_zero, List.set_cons_succ]
  have T2 := ((T1 wT.heap.size).keep bA).keep bT
  have K2 : Kx wT q wA.heap.size wT.heap.size loc 8 num ka kc kl va vc vl (.slice ka2 kl.length kc2) (.slice va2 vl.length vc2) := ⟨(X1b.drew.keep bA).keep bT, by have := bA.size; have h9 : X1.drew.heap.size = X1.heap.size := rfl; omega, bT.size, (OK1.mono (D' := fun b => q < b ∧ b < wA.heap.size) (fun b hb h => ⟨by have h9 : X1.drew.heap.size = X1.heap.size := rfl; omega, hb⟩)).keep bT, OV.mono (fun b hb h => ⟨h, hb⟩)⟩
  clear T1 OK1 OV bA hS X1b BA BD1 B1
  generalize hu : wA.heap.size = u at K2
  clear hu bT
  obtain ⟨t, ht0⟩ : ∃ t, Hid (wT.heap.size = t) := ⟨_, rfl⟩
  rw [ht0.out] at T2 K2
  have ht : t ≤ wT.heap.size := Nat.le_of_eq ht0.out.symm
  clear ht0
  have HT2 := hid T2
  have HK2 := hid K2
  have HB2 := hid BT
  have hwq := hwl
  have hsmD : Dq w.heap.size q t sm := ⟨h5, by omega⟩
  have hsrD : Dq w.heap.size q t sr := ⟨hr5, by omega⟩
  have HDM := hid hsmD
  have HDR := hid hsrD
  clear T2 K2 BT HB hwl X1s hlm hlr hsmD hsrD
  have cq1 := HK2.out.b.cell (i := 1) rfl
  have cq2 := HK2.out.b.cell (i := 2) rfl
  go_wp2_with (go_at_call 10; refine (place_by num 3 (by decide) (by decide) _).mono ?_; rintro e w6 ⟨j, hj, rfl, rfl⟩)
  have TW := HT2.out.keep (belowD _)
  have KD := HK2.out.keep (belowD _)
  have BD := HB2.out.trans ((belowD _).mono HB2.out.size)
  have hS : True := trivial
  refine rg_start (S := fun _ => True) (by kernel_rfl) hS ?_
  refine rg_take 0 (some 161) (.slice (some ⟨sm, 0, none⟩) 3 3) (by kernel_rfl) (fun _ _ => by kernel_rfl) (fun _ _ _ h => HP.out _ _ _ _ _ h) hS ?_
  refine rg_take 1 (some 162) (.int .i64 j) (by kernel_rfl) (fun _ _ => by kernel_rfl) (fun _ _ _ h => HP.out _ _ _ _ _ h) hS ?_
  refine rg_take 2 (some 163) (.slice (some ⟨sr, 0, none⟩) 3 3) (by kernel_rfl) (fun _ _ => by kernel_rfl) (fun _ _ _ h => HP.out _ _ _ _ _ h) hS ?_
  refine rg_take 3 (some 164) (.int .i64 j) (by kernel_rfl) (fun _ _ => by kernel_rfl) (fun _ _ _ h => HP.out _ _ _ _ _ h) hS ?_
  refine rg_take 4 (some 165) (.slice (some ⟨sm, 0, none⟩) 3 3) (by kernel_rfl) (fun _ _ => by kernel_rfl) (fun _ _ _ h => HP.out _ _ _ _ _ h) hS ?_
  refine rg_take 5 (some 166) (.int .i64 i) (by kernel_rfl) (fun _ _ => by kernel_rfl) (fun _ _ _ h => HP.out _ _ _ _ _ h) hS ?_
  refine rg_take 6 (some 167) (.pointer (some ⟨sm, i, none⟩)) (by kernel_rfl) (fun _ _ => run_im (x := 165) (y := 166) (k := i) (by kernel_rfl) (by kernel_rfl) (by kernel_rfl) rfl hi) (fun _ _ _ h => HP.out _ _ _ _ _ h) hS ?_
  refine rg_take 9 (some 170) (.slice (some ⟨sr, 0, none⟩) 3 3) (by kernel_rfl) (fun _ _ => by kernel_rfl) (fun _ _ _ h => HP.out _ _ _ _ _ h) hS ?_
  refine rg_take 10 (some 171) (.int .i64 i) (by kernel_rfl) (fun _ _ => by kernel_rfl) (fun _ _ _ h => HP.out _ _ _ _ _ h) hS ?_
  refine rg_take 11 (some 172) (.pointer (some ⟨sr, i, none⟩)) (by kernel_rfl) (fun _ _ => run_ir (x := 170) (y := 171) (k := i) (by kernel_rfl) (by kernel_rfl) (by kernel_rfl) rfl hi) (fun _ _ _ h => HP.out _ _ _ _ _ h) hS ?_
  refine rg_ready [7, 12] (by kernel_rfl) (by simp) (ar_val 7 (some 168) (.pointer (some ⟨ms i, 0, none⟩)) (_) (by kernel_rfl) (run_lp 167 (by kernel_rfl) (by kernel_rfl) (ld_mp (TW.cm hi))) trivial ?_ (ar_val 12 (some 173) (.pointer (some ⟨rs i, 0, none⟩)) (_) (by kernel_rfl) (run_lp 172 (by kernel_rfl) (by kernel_rfl) (ld_rp (TW.cr hi))) trivial ?_ ar_nil))
  · refine rg_ready [8, 12] (by kernel_rfl) (by simp) (ar_call 8 (some 169) 24 #[.pointer (some ⟨ms i, 0, none⟩)] (by kernel_rfl) (by kernel_rfl) (TW.copy BD.size ht hi hj (by omega)) ?_ (ar_val 12 (some 173) (.pointer (some ⟨rs i, 0, none⟩)) (_) (by kernel_rfl) (run_lp 172 (by kernel_rfl) (by kernel_rfl) (ld_rp (TW.cr hi))) trivial ?_ ar_nil))
    · rintro e' w3 ⟨g', rfl, b3, T3, u5⟩
      refine ⟨_, rfl, trivial, ?_⟩
      refine rg_ready [12] (by kernel_rfl) (by simp) (ar_val 12 (some 173) (.pointer (some ⟨rs i, 0, none⟩)) (_) (by kernel_rfl) (run_lp 172 (by kernel_rfl) (by kernel_rfl) (ld_rp (T3.cr hi))) trivial ?_ ar_nil)
      refine rg_ready [13] (by kernel_rfl) (by simp) (ar_call 13 (some 174) 25 #[.pointer (some ⟨rs i, 0, none⟩)] (by kernel_rfl) (by kernel_rfl) u5 ?_ ar_nil)
      rintro e' w4 ⟨r', rfl, b4, T4, T5, T⟩
      refine ⟨_, rfl, trivial, ?_⟩
      refine rg_take 14 (some 175) (.pointer (some ⟨sm, j, none⟩)) (by kernel_rfl) (fun _ _ => run_im (x := 161) (y := 162) (k := j) (by kernel_rfl) (by kernel_rfl) (by kernel_rfl) rfl hj) (fun _ _ _ h => HP.out _ _ _ _ _ h) hS ?_
      refine rg_ready [15] (by kernel_rfl) (by simp) (ar_void 15 (w4.setCell ⟨sm, j, none⟩ (.pointer (some ⟨g', 0, none⟩))) (by kernel_rfl) (run_smp 175 169 (by kernel_rfl) (by kernel_rfl) (by kernel_rfl) (T4.cm hj) (T4.frm j)) trivial ?_ ar_nil)
      refine rg_take 16 (some 176) (.pointer (some ⟨sr, j, none⟩)) (by kernel_rfl) (fun _ _ => run_ir (x := 163) (y := 164) (k := j) (by kernel_rfl) (by kernel_rfl) (by kernel_rfl) rfl hj) (fun _ _ _ h => HP.out _ _ _ _ _ h) hS ?_
      refine rg_ready [17] (by kernel_rfl) (by simp) (ar_void 17 ((w4.setCell ⟨sm, j, none⟩ (.pointer (some ⟨g', 0, none⟩))).setCell ⟨sr, j, none⟩ (.pointer (some ⟨r', 0, none⟩))) (by kernel_rfl) (run_srp 176 174 (by kernel_rfl) (by kernel_rfl) (by kernel_rfl) (T5.cr hj) (T5.frr j)) trivial ?_ ar_nil)
      refine rg_done (by kernel_rfl) ?_
      simp only [Act.put, List.setIfInBounds_toArray, List.set_cons_zero, List.set_cons_succ]
      have C5 : Chg (Dq w.heap.size q t) w4 ((w4.setCell ⟨sm, j, none⟩ (.pointer (some ⟨g', 0, none⟩))).setCell ⟨sr, j, none⟩ (.pointer (some ⟨r', 0, none⟩))) := ((Chg.refl _ w4).cell (.inl HDM.out) _).cell (.inl HDR.out) _
      have KX := ((KD.keep b3).keep b4).chg C5
      have BX := ((BD.trans (b3.mono BD.size)).trans (b4.mono (Nat.le_trans BD.size b3.size))).trans (C5.below (fun b h => h.1) (Nat.le_trans BD.size (joinB b3 b4).size))
      obtain ⟨ms', hms⟩ : ∃ m, Hid (upd ms j g' = m) := ⟨_, rfl⟩
      obtain ⟨rs', hrs⟩ : ∃ m, Hid (upd rs j r' = m) := ⟨_, rfl⟩
      obtain ⟨W, hW⟩ : ∃ W, Hid ((w4.setCell ⟨sm, j, none⟩ (.pointer (some ⟨g', 0, none⟩))).setCell ⟨sr, j, none⟩ (.pointer (some ⟨r', 0, none⟩)) = W) := ⟨_, rfl⟩
      rw [hW.out] at T KX BX ⊢
      rw [hms.out, hrs.out] at T
      clear TW KD T3 T4 T5 C5 b3 b4 BD hS hW hms hrs
      have HT := hid T
      have HK := hid KX
      have HBX := hid BX
      have hq3 := KX.b.cell (i := 3) rfl
      have hq4 := KX.b.cell (i := 4) rfl
      have u1 := fun w' (hB : Below (W).heap.size (W) w') => bytes_any (w := w') (HK.out.keep hB).k.by ((HA.out.keep HBX.out).keep hB).k hkl hkl
      have u2 := fun w' (hB : Below (W).heap.size (W) w') => bytes_any (w := w') (HK.out.keep hB).v.by ((HA.out.keep HBX.out).keep hB).v hvl hvl
      rw [decide_eq_true rfl] at u1 u2
      have u3 := fun w' (hB : Below (W).heap.size (W) w') => (HT.out.keep hB).tail (HK.out.keep hB) hkl hvl
      clear T KX BX
      go_wp2_with first
        | (go_at_call 18; have gate := u1; clear gate; go_must (refine (u1 _ (Below.refl _ _)).mono ?_); clear u1; rintro e wA ⟨rfl, bA⟩; have hq4a := (HK.out.keep bA).b.cell (i := 4) rfl)
        | (go_at_call 18; have gate := u2; clear gate; go_must (refine (u2 _ bA).mono ?_); clear u2; rintro e wB ⟨rfl, bB⟩)
        | (go_at_call 19; have gate := u3; clear gate; go_must (refine (u3 _ (joinB bA bB)).mono ?_); clear u3; rintro e wC ⟨rfl, u4⟩)
        | (go_at_call 19; have gate := u4; clear gate; go_must (refine u4.mono ?_); clear u4; rintro e wD ⟨rfl, TD, bD⟩)
      have TZ := TD.keep (belowD wD)
      have hS := TZ.s2 hi
      refine rg_start (S := Sm sm sr i ((ms') i) ((rs') i)) (by kernel_rfl) hS ?_
      refine rg_take 0 (some 193) (.slice (some ⟨sm, 0, none⟩) 3 3) (by kernel_rfl) (fun _ _ => by kernel_rfl) (fun _ _ _ h => HP.out _ _ _ _ _ h) hS ?_
      refine rg_take 1 (some 194) (.int .i64 i) (by kernel_rfl) (fun _ _ => by kernel_rfl) (fun _ _ _ h => HP.out _ _ _ _ _ h) hS ?_
      refine rg_take 2 (some 195) (.pointer (some ⟨sm, i, none⟩)) (by kernel_rfl) (fun _ _ => run_im (x := 193) (y := 194) (k := i) (by kernel_rfl) (by kernel_rfl) (by kernel_rfl) rfl hi) (fun _ _ _ h => HP.out _ _ _ _ _ h) hS ?_
      refine rg_load 3 (some 196) (.pointer (some ⟨(ms') i, 0, none⟩)) 25 195 (sm) (i) (by kernel_rfl) (by kernel_rfl) (by kernel_rfl) (fun w' h => ld_mp h.m) (fun _ _ _ h => HP.out _ _ _ _ _ h) hS ?_
      refine rg_take 4 (some 197) (.slice (some ⟨sr, 0, none⟩) 3 3) (by kernel_rfl) (fun _ _ => by kernel_rfl) (fun _ _ _ h => HP.out _ _ _ _ _ h) hS ?_
      refine rg_take 5 (some 198) (.int .i64 i) (by kernel_rfl) (fun _ _ => by kernel_rfl) (fun _ _ _ h => HP.out _ _ _ _ _ h) hS ?_
      refine rg_take 6 (some 199) (.pointer (some ⟨sr, i, none⟩)) (by kernel_rfl) (fun _ _ => run_ir (x := 197) (y := 198) (k := i) (by kernel_rfl) (by kernel_rfl) (by kernel_rfl) rfl hi) (fun _ _ _ h => HP.out _ _ _ _ _ h) hS ?_
      refine rg_load 7 (some 200) (.pointer (some ⟨(rs') i, 0, none⟩)) 28 199 (sr) (i) (by kernel_rfl) (by kernel_rfl) (by kernel_rfl) (fun w' h => ld_rp h.r) (fun _ _ _ h => HP.out _ _ _ _ _ h) hS ?_
      refine rg_call 8 (some 201) 26 #[.pointer (some ⟨(ms') i, 0, none⟩), .pointer (some ⟨(rs') i, 0, none⟩)] (by kernel_rfl) (by kernel_rfl) (TZ.same hi (by omega)) ?_
      rintro e' wZ ⟨rfl, bZ⟩
      have TY := hid (TZ.keep bZ)
      refine ⟨_, rfl, (TY.out).s2 hi, ?_⟩
      have hS := (TY.out).s2 hi
      refine rg_take 9 (some 202) (.bool false) (by kernel_rfl) (fun _ _ => by kernel_rfl) (fun _ _ _ h => HP.out _ _ _ _ _ h) hS ?_
      refine rg_done (by kernel_rfl) ?_
      simp only [Act.put, List.setIfInBounds_toArray, List.set_cons_zero, List.set_cons_succ]
      have HTY := hid TY.out.all
      have z1 : w.heap.size ≤ wB.heap.size := Nat.le_trans HBX.out.size (joinB bA bB).size
      have z2 := (HBX.out.trans ((joinB bA bB).mono HBX.out.size)).trans (bD w.heap.size hwq z1)
      have HBY : Hid (Below w.heap.size w wZ) := z2.trans ((joinB (belowD wD) bZ).mono z2.size)
      clear TD TZ TY hS bZ bD bA bB z1 z2
      go_wp2
      refine ⟨?_, by simp [Wmu, intOf]; omega⟩
      unfold WI
      refine ⟨_, _, _, _, _, _, _, _, _, _, _, _, _, _, _, _, _, _, _, _, _, _, _, _, _, _, _, _, _, _, _, _, _, _, _, _, _, _, _, _, _, _, _, _, _, _, _, _, _, _, _, _, _, _, _, _, _, _, _, _, _, _, _, _, _, _, _, _, _, _, _, _, _, _, _, _, _, _, _, _, _, _, _, _, _, _, _, _, _, _, _, _, _, _, _, _, _, _, _, _, _, _, _, _, _, _, _, _, _, _, _, _, _, _, _, _, _, _, _, _, _, _, _, _, _, _, _, _, _, _, _, _, _, _, _, _, _, _, _, _, _, _, _, _, _, _, _, _, _, _, _, _, _, _, _, _, _, _, _, _, _, _, _, _, _, _, _, _, _, _, _, _, _, _, _, _, _, _, _, _, _, _, _, ?_, rfl⟩
      exact ⟨k + 1, by omega, by go_num, ⟨_, _, _, HTY.out.more (by omega)⟩, HBY.out⟩
    · refine rg_ready [8] (by kernel_rfl) (by simp) (ar_call 8 (some 169) 24 #[.pointer (some ⟨ms i, 0, none⟩)] (by kernel_rfl) (by kernel_rfl) (TW.copy BD.size ht hi hj (by omega)) ?_ ar_nil)
      rintro e' w3 ⟨g', rfl, b3, T3, u5⟩
      refine ⟨_, rfl, trivial, ?_⟩
      refine rg_ready [13] (by kernel_rfl) (by simp) (ar_call 13 (some 174) 25 #[.pointer (some ⟨rs i, 0, none⟩)] (by kernel_rfl) (by kernel_rfl) u5 ?_ ar_nil)
      rintro e' w4 ⟨r', rfl, b4, T4, T5, T⟩
      refine ⟨_, rfl, trivial, ?_⟩
      refine rg_take 14 (some 175) (.pointer (some ⟨sm, j, none⟩)) (by kernel_rfl) (fun _ _ => run_im (x := 161) (y := 162) (k := j) (by kernel_rfl) (by kernel_rfl) (by kernel_rfl) rfl hj) (fun _ _ _ h => HP.out _ _ _ _ _ h) hS ?_
      refine rg_ready [15] (by kernel_rfl) (by simp) (ar_void 15 (w4.setCell ⟨sm, j, none⟩ (.pointer (some ⟨g', 0, none⟩))) (by kernel_rfl) (run_smp 175 169 (by kernel_rfl) (by kernel_rfl) (by kernel_rfl) (T4.cm hj) (T4.frm j)) trivial ?_ ar_nil)
      refine rg_take 16 (some 176) (.pointer (some ⟨sr, j, none⟩)) (by kernel_rfl) (fun _ _ => run_ir (x := 163) (y := 164) (k := j) (by kernel_rfl) (by kernel_rfl) (by kernel_rfl) rfl hj) (fun _ _ _ h => HP.out _ _ _ _ _ h) hS ?_
      refine rg_ready [17] (by kernel_rfl) (by simp) (ar_void 17 ((w4.setCell ⟨sm, j, none⟩ (.pointer (some ⟨g', 0, none⟩))).setCell ⟨sr, j, none⟩ (.pointer (some ⟨r', 0, none⟩))) (by kernel_rfl) (run_srp 176 174 (by kernel_rfl) (by kernel_rfl) (by kernel_rfl) (T5.cr hj) (T5.frr j)) trivial ?_ ar_nil)
      refine rg_done (by kernel_rfl) ?_
      simp only [Act.put, List.setIfInBounds_toArray, List.set_cons_zero, List.set_cons_succ]
      have C5 : Chg (Dq w.heap.size q t) w4 ((w4.setCell ⟨sm, j, none⟩ (.pointer (some ⟨g', 0, none⟩))).setCell ⟨sr, j, none⟩ (.pointer (some ⟨r', 0, none⟩))) := ((Chg.refl _ w4).cell (.inl HDM.out) _).cell (.inl HDR.out) _
      have KX := ((KD.keep b3).keep b4).chg C5
      have BX := ((BD.trans (b3.mono BD.size)).trans (b4.mono (Nat.le_trans BD.size b3.size))).trans (C5.below (fun b h => h.1) (Nat.le_trans BD.size (joinB b3 b4).size))
      obtain ⟨ms', hms⟩ : ∃ m, Hid (upd ms j g' = m) := ⟨_, rfl⟩
      obtain ⟨rs', hrs⟩ : ∃ m, Hid (upd rs j r' = m) := ⟨_, rfl⟩
      obtain ⟨W, hW⟩ : ∃ W, Hid ((w4.setCell ⟨sm, j, none⟩ (.pointer (some ⟨g', 0, none⟩))).setCell ⟨sr, j, none⟩ (.pointer (some ⟨r', 0, none⟩)) = W) := ⟨_, rfl⟩
      rw [hW.out] at T KX BX ⊢
      rw [hms.out, hrs.out] at T
      clear TW KD T3 T4 T5 C5 b3 b4 BD hS hW hms hrs
      have HT := hid T
      have HK := hid KX
      have HBX := hid BX
      have hq3 := KX.b.cell (i := 3) rfl
      have hq4 := KX.b.cell (i := 4) rfl
      have u1 := fun w' (hB : Below (W).heap.size (W) w') => bytes_any (w := w') (HK.out.keep hB).k.by ((HA.out.keep HBX.out).keep hB).k hkl hkl
      have u2 := fun w' (hB : Below (W).heap.size (W) w') => bytes_any (w := w') (HK.out.keep hB).v.by ((HA.out.keep HBX.out).keep hB).v hvl hvl
      rw [decide_eq_true rfl] at u1 u2
      have u3 := fun w' (hB : Below (W).heap.size (W) w') => (HT.out.keep hB).tail (HK.out.keep hB) hkl hvl
      clear T KX BX
      go_wp2_with first
        | (go_at_call 18; have gate := u1; clear gate; go_must (refine (u1 _ (Below.refl _ _)).mono ?_); clear u1; rintro e wA ⟨rfl, bA⟩; have hq4a := (HK.out.keep bA).b.cell (i := 4) rfl)
        | (go_at_call 18; have gate := u2; clear gate; go_must (refine (u2 _ bA).mono ?_); clear u2; rintro e wB ⟨rfl, bB⟩)
        | (go_at_call 19; have gate := u3; clear gate; go_must (refine (u3 _ (joinB bA bB)).mono ?_); clear u3; rintro e wC ⟨rfl, u4⟩)
        | (go_at_call 19; have gate := u4; clear gate; go_must (refine u4.mono ?_); clear u4; rintro e wD ⟨rfl, TD, bD⟩)
      have TZ := TD.keep (belowD wD)
      have hS := TZ.s2 hi
      refine rg_start (S := Sm sm sr i ((ms') i) ((rs') i)) (by kernel_rfl) hS ?_
      refine rg_take 0 (some 193) (.slice (some ⟨sm, 0, none⟩) 3 3) (by kernel_rfl) (fun _ _ => by kernel_rfl) (fun _ _ _ h => HP.out _ _ _ _ _ h) hS ?_
      refine rg_take 1 (some 194) (.int .i64 i) (by kernel_rfl) (fun _ _ => by kernel_rfl) (fun _ _ _ h => HP.out _ _ _ _ _ h) hS ?_
      refine rg_take 2 (some 195) (.pointer (some ⟨sm, i, none⟩)) (by kernel_rfl) (fun _ _ => run_im (x := 193) (y := 194) (k := i) (by kernel_rfl) (by kernel_rfl) (by kernel_rfl) rfl hi) (fun _ _ _ h => HP.out _ _ _ _ _ h) hS ?_
      refine rg_load 3 (some 196) (.pointer (some ⟨(ms') i, 0, none⟩)) 25 195 (sm) (i) (by kernel_rfl) (by kernel_rfl) (by kernel_rfl) (fun w' h => ld_mp h.m) (fun _ _ _ h => HP.out _ _ _ _ _ h) hS ?_
      refine rg_take 4 (some 197) (.slice (some ⟨sr, 0, none⟩) 3 3) (by kernel_rfl) (fun _ _ => by kernel_rfl) (fun _ _ _ h => HP.out _ _ _ _ _ h) hS ?_
      refine rg_take 5 (some 198) (.int .i64 i) (by kernel_rfl) (fun _ _ => by kernel_rfl) (fun _ _ _ h => HP.out _ _ _ _ _ h) hS ?_
      refine rg_take 6 (some 199) (.pointer (some ⟨sr, i, none⟩)) (by kernel_rfl) (fun _ _ => run_ir (x := 197) (y := 198) (k := i) (by kernel_rfl) (by kernel_rfl) (by kernel_rfl) rfl hi) (fun _ _ _ h => HP.out _ _ _ _ _ h) hS ?_
      refine rg_load 7 (some 200) (.pointer (some ⟨(rs') i, 0, none⟩)) 28 199 (sr) (i) (by kernel_rfl) (by kernel_rfl) (by kernel_rfl) (fun w' h => ld_rp h.r) (fun _ _ _ h => HP.out _ _ _ _ _ h) hS ?_
      refine rg_call 8 (some 201) 26 #[.pointer (some ⟨(ms') i, 0, none⟩), .pointer (some ⟨(rs') i, 0, none⟩)] (by kernel_rfl) (by kernel_rfl) (TZ.same hi (by omega)) ?_
      rintro e' wZ ⟨rfl, bZ⟩
      have TY := hid (TZ.keep bZ)
      refine ⟨_, rfl, (TY.out).s2 hi, ?_⟩
      have hS := (TY.out).s2 hi
      refine rg_take 9 (some 202) (.bool false) (by kernel_rfl) (fun _ _ => by kernel_rfl) (fun _ _ _ h => HP.out _ _ _ _ _ h) hS ?_
      refine rg_done (by kernel_rfl) ?_
      simp only [Act.put, List.setIfInBounds_toArray, List.set_cons_zero, List.set_cons_succ]
      have HTY := hid TY.out.all
      have z1 : w.heap.size ≤ wB.heap.size := Nat.le_trans HBX.out.size (joinB bA bB).size
      have z2 := (HBX.out.trans ((joinB bA bB).mono HBX.out.size)).trans (bD w.heap.size hwq z1)
      have HBY : Hid (Below w.heap.size w wZ) := z2.trans ((joinB (belowD wD) bZ).mono z2.size)
      clear TD TZ TY hS bZ bD bA bB z1 z2
      go_wp2
      refine ⟨?_, by simp [Wmu, intOf]; omega⟩
      unfold WI
      refine ⟨_, _, _, _, _, _, _, _, _, _, _, _, _, _, _, _, _, _, _, _, _, _, _, _, _, _, _, _, _, _, _, _, _, _, _, _, _, _, _, _, _, _, _, _, _, _, _, _, _, _, _, _, _, _, _, _, _, _, _, _, _, _, _, _, _, _, _, _, _, _, _, _, _, _, _, _, _, _, _, _, _, _, _, _, _, _, _, _, _, _, _, _, _, _, _, _, _, _, _, _, _, _, _, _, _, _, _, _, _, _, _, _, _, _, _, _, _, _, _, _, _, _, _, _, _, _, _, _, _, _, _, _, _, _, _, _, _, _, _, _, _, _, _, _, _, _, _, _, _, _, _, _, _, _, _, _, _, _, _, _, _, _, _, _, _, _, _, _, _, _, _, _, _, _, _, _, _, _, _, _, _, _, _, ?_, rfl⟩
      exact ⟨k + 1, by omega, by go_num, ⟨_, _, _, HTY.out.more (by omega)⟩, HBY.out⟩
  · refine rg_ready [7] (by kernel_rfl) (by simp) (ar_val 7 (some 168) (.pointer (some ⟨ms i, 0, none⟩)) (_) (by kernel_rfl) (run_lp 167 (by kernel_rfl) (by kernel_rfl) (ld_mp (TW.cm hi))) trivial ?_ ar_nil)
    refine rg_ready [8] (by kernel_rfl) (by simp) (ar_call 8 (some 169) 24 #[.pointer (some ⟨ms i, 0, none⟩)] (by kernel_rfl) (by kernel_rfl) (TW.copy BD.size ht hi hj (by omega)) ?_ ar_nil)
    rintro e' w3 ⟨g', rfl, b3, T3, u5⟩
    refine ⟨_, rfl, trivial, ?_⟩
    refine rg_ready [13] (by kernel_rfl) (by simp) (ar_call 13 (some 174) 25 #[.pointer (some ⟨rs i, 0, none⟩)] (by kernel_rfl) (by kernel_rfl) u5 ?_ ar_nil)
    rintro e' w4 ⟨r', rfl, b4, T4, T5, T⟩
    refine ⟨_, rfl, trivial, ?_⟩
    refine rg_take 14 (some 175) (.pointer (some ⟨sm, j, none⟩)) (by kernel_rfl) (fun _ _ => run_im (x := 161) (y := 162) (k := j) (by kernel_rfl) (by kernel_rfl) (by kernel_rfl) rfl hj) (fun _ _ _ h => HP.out _ _ _ _ _ h) hS ?_
    refine rg_ready [15] (by kernel_rfl) (by simp) (ar_void 15 (w4.setCell ⟨sm, j, none⟩ (.pointer (some ⟨g', 0, none⟩))) (by kernel_rfl) (run_smp 175 169 (by kernel_rfl) (by kernel_rfl) (by kernel_rfl) (T4.cm hj) (T4.frm j)) trivial ?_ ar_nil)
    refine rg_take 16 (some 176) (.pointer (some ⟨sr, j, none⟩)) (by kernel_rfl) (fun _ _ => run_ir (x := 163) (y := 164) (k := j) (by kernel_rfl) (by kernel_rfl) (by kernel_rfl) rfl hj) (fun _ _ _ h => HP.out _ _ _ _ _ h) hS ?_
    refine rg_ready [17] (by kernel_rfl) (by simp) (ar_void 17 ((w4.setCell ⟨sm, j, none⟩ (.pointer (some ⟨g', 0, none⟩))).setCell ⟨sr, j, none⟩ (.pointer (some ⟨r', 0, none⟩))) (by kernel_rfl) (run_srp 176 174 (by kernel_rfl) (by kernel_rfl) (by kernel_rfl) (T5.cr hj) (T5.frr j)) trivial ?_ ar_nil)
    refine rg_done (by kernel_rfl) ?_
    simp only [Act.put, List.setIfInBounds_toArray, List.set_cons_zero, List.set_cons_succ]
    have C5 : Chg (Dq w.heap.size q t) w4 ((w4.setCell ⟨sm, j, none⟩ (.pointer (some ⟨g', 0, none⟩))).setCell ⟨sr, j, none⟩ (.pointer (some ⟨r', 0, none⟩))) := ((Chg.refl _ w4).cell (.inl HDM.out) _).cell (.inl HDR.out) _
    have KX := ((KD.keep b3).keep b4).chg C5
    have BX := ((BD.trans (b3.mono BD.size)).trans (b4.mono (Nat.le_trans BD.size b3.size))).trans (C5.below (fun b h => h.1) (Nat.le_trans BD.size (joinB b3 b4).size))
    obtain ⟨ms', hms⟩ : ∃ m, Hid (upd ms j g' = m) := ⟨_, rfl⟩
    obtain ⟨rs', hrs⟩ : ∃ m, Hid (upd rs j r' = m) := ⟨_, rfl⟩
    obtain ⟨W, hW⟩ : ∃ W, Hid ((w4.setCell ⟨sm, j, none⟩ (.pointer (some ⟨g', 0, none⟩))).setCell ⟨sr, j, none⟩ (.pointer (some ⟨r', 0, none⟩)) = W) := ⟨_, rfl⟩
    rw [hW.out] at T KX BX ⊢
    rw [hms.out, hrs.out] at T
    clear TW KD T3 T4 T5 C5 b3 b4 BD hS hW hms hrs
    have HT := hid T
    have HK := hid KX
    have HBX := hid BX
    have hq3 := KX.b.cell (i := 3) rfl
    have hq4 := KX.b.cell (i := 4) rfl
    have u1 := fun w' (hB : Below (W).heap.size (W) w') => bytes_any (w := w') (HK.out.keep hB).k.by ((HA.out.keep HBX.out).keep hB).k hkl hkl
    have u2 := fun w' (hB : Below (W).heap.size (W) w') => bytes_any (w := w') (HK.out.keep hB).v.by ((HA.out.keep HBX.out).keep hB).v hvl hvl
    rw [decide_eq_true rfl] at u1 u2
    have u3 := fun w' (hB : Below (W).heap.size (W) w') => (HT.out.keep hB).tail (HK.out.keep hB) hkl hvl
    clear T KX BX
    go_wp2_with first
      | (go_at_call 18; have gate := u1; clear gate; go_must (refine (u1 _ (Below.refl _ _)).mono ?_); clear u1; rintro e wA ⟨rfl, bA⟩; have hq4a := (HK.out.keep bA).b.cell (i := 4) rfl)
      | (go_at_call 18; have gate := u2; clear gate; go_must (refine (u2 _ bA).mono ?_); clear u2; rintro e wB ⟨rfl, bB⟩)
      | (go_at_call 19; have gate := u3; clear gate; go_must (refine (u3 _ (joinB bA bB)).mono ?_); clear u3; rintro e wC ⟨rfl, u4⟩)
      | (go_at_call 19; have gate := u4; clear gate; go_must (refine u4.mono ?_); clear u4; rintro e wD ⟨rfl, TD, bD⟩)
    have TZ := TD.keep (belowD wD)
    have hS := TZ.s2 hi
    refine rg_start (S := Sm sm sr i ((ms') i) ((rs') i)) (by kernel_rfl) hS ?_
    refine rg_take 0 (some 193) (.slice (some ⟨sm, 0, none⟩) 3 3) (by kernel_rfl) (fun _ _ => by kernel_rfl) (fun _ _ _ h => HP.out _ _ _ _ _ h) hS ?_
    refine rg_take 1 (some 194) (.int .i64 i) (by kernel_rfl) (fun _ _ => by kernel_rfl) (fun _ _ _ h => HP.out _ _ _ _ _ h) hS ?_
    refine rg_take 2 (some 195) (.pointer (some ⟨sm, i, none⟩)) (by kernel_rfl) (fun _ _ => run_im (x := 193) (y := 194) (k := i) (by kernel_rfl) (by kernel_rfl) (by kernel_rfl) rfl hi) (fun _ _ _ h => HP.out _ _ _ _ _ h) hS ?_
    refine rg_load 3 (some 196) (.pointer (some ⟨(ms') i, 0, none⟩)) 25 195 (sm) (i) (by kernel_rfl) (by kernel_rfl) (by kernel_rfl) (fun w' h => ld_mp h.m) (fun _ _ _ h => HP.out _ _ _ _ _ h) hS ?_
    refine rg_take 4 (some 197) (.slice (some ⟨sr, 0, none⟩) 3 3) (by kernel_rfl) (fun _ _ => by kernel_rfl) (fun _ _ _ h => HP.out _ _ _ _ _ h) hS ?_
    refine rg_take 5 (some 198) (.int .i64 i) (by kernel_rfl) (fun _ _ => by kernel_rfl) (fun _ _ _ h => HP.out _ _ _ _ _ h) hS ?_
    refine rg_take 6 (some 199) (.pointer (some ⟨sr, i, none⟩)) (by kernel_rfl) (fun _ _ => run_ir (x := 197) (y := 198) (k := i) (by kernel_rfl) (by kernel_rfl) (by kernel_rfl) rfl hi) (fun _ _ _ h => HP.out _ _ _ _ _ h) hS ?_
    refine rg_load 7 (some 200) (.pointer (some ⟨(rs') i, 0, none⟩)) 28 199 (sr) (i) (by kernel_rfl) (by kernel_rfl) (by kernel_rfl) (fun w' h => ld_rp h.r) (fun _ _ _ h => HP.out _ _ _ _ _ h) hS ?_
    refine rg_call 8 (some 201) 26 #[.pointer (some ⟨(ms') i, 0, none⟩), .pointer (some ⟨(rs') i, 0, none⟩)] (by kernel_rfl) (by kernel_rfl) (TZ.same hi (by omega)) ?_
    rintro e' wZ ⟨rfl, bZ⟩
    have TY := hid (TZ.keep bZ)
    refine ⟨_, rfl, (TY.out).s2 hi, ?_⟩
    have hS := (TY.out).s2 hi
    refine rg_take 9 (some 202) (.bool false) (by kernel_rfl) (fun _ _ => by kernel_rfl) (fun _ _ _ h => HP.out _ _ _ _ _ h) hS ?_
    refine rg_done (by kernel_rfl) ?_
    simp only [Act.put, List.setIfInBounds_toArray, List.set_cons_zero, List.set_cons_succ]
    have HTY := hid TY.out.all
    have z1 : w.heap.size ≤ wB.heap.size := Nat.le_trans HBX.out.size (joinB bA bB).size
    have z2 := (HBX.out.trans ((joinB bA bB).mono HBX.out.size)).trans (bD w.heap.size hwq z1)
    have HBY : Hid (Below w.heap.size w wZ) := z2.trans ((joinB (belowD wD) bZ).mono z2.size)
    clear TD TZ TY hS bZ bD bA bB z1 z2
    go_wp2
    refine ⟨?_, by simp [Wmu, intOf]; omega⟩
    unfold WI
    refine ⟨_, _, _, _, _, _, _, _, _, _, _, _, _, _, _, _, _, _, _, _, _, _, _, _, _, _, _, _, _, _, _, _, _, _, _, _, _, _, _, _, _, _, _, _, _, _, _, _, _, _, _, _, _, _, _, _, _, _, _, _, _, _, _, _, _, _, _, _, _, _, _, _, _, _, _, _, _, _, _, _, _, _, _, _, _, _, _, _, _, _, _, _, _, _, _, _, _, _, _, _, _, _, _, _, _, _, _, _, _, _, _, _, _, _, _, _, _, _, _, _, _, _, _, _, _, _, _, _, _, _, _, _, _, _, _, _, _, _, _, _, _, _, _, _, _, _, _, _, _, _, _, _, _, _, _, _, _, _, _, _, _, _, _, _, _, _, _, _, _, _, _, _, _, _, _, _, _, _, _, _, _, _, _, ?_, rfl⟩
    exact ⟨k + 1, by omega, by go_num, ⟨_, _, _, HTY.out.more (by omega)⟩, HBY.out⟩
end Pg
end Go.Proofs.Ytjnjkgakdnjlmaa
