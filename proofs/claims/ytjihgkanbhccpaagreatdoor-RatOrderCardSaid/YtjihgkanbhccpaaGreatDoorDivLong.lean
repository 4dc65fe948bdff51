/- nat.divideLong: long division, digit by digit. -/
import Derived.Test.YtjihgkanbhccpaaGreatDoorGuess
import Derived.Test.YtjihgkanbhccpaaGreatDoorMul
import Derived.ScopeJumps
namespace Go.Proofs.YtjihgkanbhccpaaGreatDoor
open Go.RowKit Lim

structure DLInv (lu : List Int) (V : Int) (q0 k m : Nat) (lq lu1 : List Int) : Prop where
  lenq : lq.length = q0
  lenu : lu1.length = q0 + (k + 2)
  wq : Words lq
  wu : Words lu1
  eq : val lu = 18446744073709551616 ^ m * val (lq.drop m) * V + val lu1
  lt : val lu1 < V * 18446744073709551616 ^ m
theorem DLInv.window {lu : List Int} {V : Int} {q0 k a : Nat} {lq lu1 : List Int} (h : DLInv lu V q0 k (a + 1) lq lu1) (ha : a < q0) (hV : V < 18446744073709551616 ^ (k + 2)) :
    val lu1 = val (lu1.take a) + 18446744073709551616 ^ a * val ((lu1.drop a).take (k + 3)) ∧ val ((lu1.drop a).take (k + 3)) < V * 18446744073709551616 := by
  have hl := h.lenu
  have e1 := val_split lu1 a (by omega)
  have e2 := val_split (lu1.drop a) (k + 3) (by simp; omega)
  have h0 := val_nonneg (h.wu.take a)
  have h1 := val_nonneg ((h.wu.drop a).take (k + 3))
  have h2 := val_nonneg ((h.wu.drop a).drop (k + 3))
  have hlt := h.lt
  have hp := pow_pos a
  have hz : val ((lu1.drop a).drop (k + 3)) = 0 := by
    by_cases c : val ((lu1.drop a).drop (k + 3)) = 0
    · exact c
    · have k1 : 18446744073709551616 ^ (k + 3) * 1 ≤ 18446744073709551616 ^ (k + 3) * val ((lu1.drop a).drop (k + 3)) := Int.mul_le_mul_of_nonneg_left (by omega) (Int.le_of_lt (pow_pos _))
      have k2 : 18446744073709551616 ^ a * 18446744073709551616 ^ (k + 3) ≤ 18446744073709551616 ^ a * val (lu1.drop a) := Int.mul_le_mul_of_nonneg_left (by omega) (Int.le_of_lt hp)
      have k3 : (V + 1) * 18446744073709551616 ^ (a + 1) ≤ 18446744073709551616 ^ (k + 2) * 18446744073709551616 ^ (a + 1) := Int.mul_le_mul_of_nonneg_right (by omega) (Int.le_of_lt (pow_pos _))
      rw [Int.add_mul] at k3
      have k4 : (18446744073709551616 : Int) ^ (k + 2) * 18446744073709551616 ^ (a + 1) = 18446744073709551616 ^ a * 18446744073709551616 ^ (k + 3) := by rw [← Int.pow_add, ← Int.pow_add]; congr 1; omega
      have k5 := pow_pos (a + 1)
      omega
  rw [hz, Int.mul_zero, Int.add_zero] at e2
  rw [e2] at e1
  refine ⟨e1, ?_⟩
  have k6 : 18446744073709551616 ^ a * val ((lu1.drop a).take (k + 3)) < 18446744073709551616 ^ a * (V * 18446744073709551616) := by
    have : 18446744073709551616 ^ a * (V * 18446744073709551616) = V * 18446744073709551616 ^ (a + 1) := by rw [Int.pow_succ]; grind
    omega
  exact Int.lt_of_mul_lt_mul_left k6 (Int.le_of_lt hp)
theorem DLInv.step {lu : List Int} {V d : Int} {q0 k a : Nat} {lq lu1 nw : List Int} (h : DLInv lu V q0 k (a + 1) lq lu1) (ha : a < q0) (hV : V < 18446744073709551616 ^ (k + 2)) (d0 : 0 ≤ d) (d1 : d < 18446744073709551616) (wn : Words nw) (hn : nw.length = k + 3)
    (e : val nw = val ((lu1.drop a).take (k + 3)) - d * V) (e1 : val nw < V) : DLInv lu V q0 k a (lq.set a d) (patch lu1 a nw) := by
  have hw := h.window ha hV
  have hl := h.lenu
  have hlq := h.lenq
  have hpv := patch_val (l := lu1) (m := nw) (k := a) (by omega)
  have ht := val_lt (h.wu.take a)
  rw [List.length_take, Nat.min_eq_left (by omega)] at ht
  have hp := pow_pos a
  refine ⟨by simp [hlq], by rw [patch_length (by omega)]; exact hl, h.wq.set a d0 d1, patch_words h.wu wn, ?_, ?_⟩
  · rw [h.eq, val_drop (l := lq.set a d) (by simp; omega), nth_set (by omega), if_pos rfl, List.drop_set, if_pos (by omega), hpv, hn, e, Int.pow_succ]
    grind
  · have k1 : 18446744073709551616 ^ a * (val nw + 1) ≤ 18446744073709551616 ^ a * V := Int.mul_le_mul_of_nonneg_left (by omega) (Int.le_of_lt hp)
    rw [hpv, hn, Int.mul_sub, Int.mul_comm V]
    rw [Int.mul_add] at k1
    omega
theorem near_ok {U V g o Z : Int} {n : Nat} {x : Int} (hn : Near U V g) (hVB : V < 18446744073709551616 ^ n) (hx : x = U - V * g + 18446744073709551616 ^ n * o) (x1 : x < 18446744073709551616 ^ n) (hU : 0 ≤ U) (ho : 0 ≤ o) :
    (o = 0 → x = U - g * V ∧ x < V) ∧ (o ≠ 0 → Z = (x + V * 1) % 18446744073709551616 ^ n → 1 ≤ g ∧ Z = U - (g - 1) * V ∧ Z < V) := by
  obtain ⟨g0, g1, n1, n2⟩ := hn
  rw [Int.sub_mul] at n1
  rw [Int.add_mul] at n2
  rw [Int.mul_comm V g] at hx
  have hp := pow_pos n
  constructor
  · intro h; subst h; omega
  · intro h hz
    have k1 : 18446744073709551616 ^ n * 1 ≤ 18446744073709551616 ^ n * o := Int.mul_le_mul_of_nonneg_left (by omega) (Int.le_of_lt hp)
    have ho1 : o = 1 := by
      by_cases c : 2 ≤ o
      · have k2 : 18446744073709551616 ^ n * 2 ≤ 18446744073709551616 ^ n * o := Int.mul_le_mul_of_nonneg_left c (Int.le_of_lt hp)
        omega
      · omega
    subst ho1
    have hneg : U - g * V < 0 := by omega
    have hg : 1 ≤ g := by
      by_cases c : 1 ≤ g
      · exact c
      · have : g = 0 := by omega
        subst this; omega
    have e : x + V * 1 = (U - (g - 1) * V) + 18446744073709551616 ^ n * 1 := by rw [hx, Int.sub_mul]; omega
    rw [e, Int.add_mul_emod_self_left, Int.sub_mul, Int.emod_eq_of_lt (by omega) (by omega)] at hz
    rw [Int.sub_mul]
    exact ⟨hg, by omega, by omega⟩

theorem scope_jumps_twice {P : Program} {a : Act} {w : World} {Q : Exit → Act → World → Prop} {c rest : Code} (l : Nat) (J : Act → World → Prop) (μ : Act → World → Nat) (hf : findLabel c l = some (Code.skip.seq rest))
    (first : (∀ a w, J a w → rest.wp P (Exit.jump l J Q) a w) → c.wp P (Exit.jump l J Q) a w)
    (pass : ∀ a w, J a w → rest.wp P (Exit.jump l (fun a' w' => J a' w' ∧ μ a' w' < μ a w) Q) a w) : (Code.scope c).wp P Q a w :=
  wp_scope_jumps l J μ hf (first fun a w hJ => wp_mono (pass a w hJ) fun e a' w' h => by
    cases e with
    | goto l' => exact ⟨h.1, h.2.1⟩
    | _ => exact h) fun a w hJ => wp_seq (wp_skip (pass a w hJ))
theorem patch_patch {l m m' : List Int} {k : Nat} (h : k + m.length ≤ l.length) (hm : m'.length = m.length) : patch (patch l k m) k m' = patch l k m' := by
  have e : (l.take k).length = k := by simp; omega
  unfold patch
  rw [List.take_left' e, hm, ← List.append_assoc (l.take k) m, List.drop_left' (by simp; omega)]
theorem Free.below {B : Nat} {w w' : World} (h : Below B w w') {b o n : Nat} (k : Free w b o n) (hb : b < B) : Free w' b o n := fun i hi => by
  rw [World.frozen?_of_block (w := w) (h.block b hb)]; exact k i hi

set_option maxHeartbeats 4000000 in
set_option maxRecDepth 100000 in
theorem divideLong_any (bu ou cu : Nat) (av : Option Addr) (k q0 cv bv ov : Nat) (lu lv : List Int) (w : World) (hlu : lu.length = q0 + (k + 2)) (hlv : lv.length = k + 2) (hbig : k ≤ 1099511627776) (hbigq : q0 ≤ 1099511627776) (hcu : q0 + (k + 2) ≤ cu) (hcv : k + 2 ≤ cv)
    (wu : Words lu) (wv : Words lv) (hu : At w (some ⟨bu, ou, none⟩) bu ou lu) (hfu : Free w bu ou (q0 + (k + 2))) (hv : At w av bv ov lv) (hne : bv ≠ bu) (htop : 9223372036854775808 ≤ nth lv (k + 1)) (hval : val lu < val lv * 18446744073709551616 ^ q0) :
    Calls Tryz.prog 144 #[.slice (some ⟨bu, ou, none⟩) (q0 + (k + 2)) cu, .slice av (k + 2) cv] w fun e w' => ∃ lq lr : List Int, e = .returned (.slice (some ⟨w.heap.size, 0, none⟩) q0 q0) ∧ DLInv lu (val lv) q0 k 0 lq lr ∧ At w' (some ⟨w.heap.size, 0, none⟩) w.heap.size 0 lq ∧ Free w' w.heap.size 0 q0 ∧ At w' (some ⟨bu, ou, none⟩) bu ou lr ∧ Free w' bu ou (q0 + (k + 2)) ∧ Below bu w w' := by
  go_enter Tryz.func144, Tryz.ntmps144
  go_wp2
  refine scope_jumps_twice 0 (fun a' w' => ∃ (m : Nat) (lq lu1 : List Int) (u8 u9 u10 u11 u12 u13 u14 u15 u16 u17 u18 u19 u20 u21 u22 u23 u24 u25 u26 u27 u28 u29 u30 u31 u32 u33 u34 u35 u36 u37 u38 u39 u40 u41 u42 u43 u44 u45 u46 u47 u48 u49 u50 u51 u52 u53 u54 : Value), a' = { tmps := #[.slice (some ⟨bu, ou, none⟩) (q0 + (k + 2)) cu, .slice av (k + 2) cv, undef, undef, .slice none 0 0, .int .i64 ((k : Int) + 2), .int .i64 (m : Int), .slice (some ⟨w.heap.size, 0, none⟩) q0 q0, u8, u9, u10, u11, u12, u13, u14, u15, u16, u17, u18, u19, u20, u21, u22, u23, u24, u25, u26, u27, u28, u29, u30, u31, u32, u33, u34, u35, u36, u37, u38, u39, u40, u41, u42, u43, u44, u45, u46, u47, u48, u49, u50, u51, u52, u53, u54], defers := [] } ∧ m ≤ q0 ∧ DLInv lu (val lv) q0 k m lq lu1 ∧ At w' (some ⟨w.heap.size, 0, none⟩) w.heap.size 0 lq ∧ Free w' w.heap.size 0 q0 ∧ At w' (some ⟨bu, ou, none⟩) bu ou lu1 ∧ Free w' bu ou (q0 + (k + 2)) ∧ At w' av bv ov lv ∧ w.heap.size < w'.heap.size ∧ Below bu w w') (fun a' _ => (intOf (a'.tmps.getD 6 undef)).toNat) rfl ?_ ?_
  · intro hpass
    go_wp2_with (at_make; refine wpList_makeN rfl _ _ rfl q0 _ _ rfl rfl (by omega) (by omega) (by omega) ?_; intro w1 hrow hbel hsz)
    go_step3
    have hbu : bu < w.heap.size := by
      rcases hu.lt with e | e
      · subst e; simp at hlu
      · exact e
    have hI : DLInv lu (val lv) q0 k q0 (List.replicate q0 0) lu := ⟨by simp, hlu, words_zero _, wu, by simp [val], hval⟩
    rename_i K hK
    refine hK _ _ (hpass _ _ ⟨q0, List.replicate q0 0, lu, _, _, _, _, _, _, _, _, _, _, _, _, _, _, _, _, _, _, _, _, _, _, _, _, _, _, _, _, _, _, _, _, _, _, _, _, _, _, _, _, _, _, _, _, _, _, _, rfl, Nat.le_refl _, hI, hrow.at, hrow.free 0 q0, hu.keep hbel, Free.below hbel hfu hbu, hv.keep hbel, by omega, hbel.mono (Nat.le_of_lt hbu)⟩)
  · rintro a' wr ⟨m, lq, lu1, u8, u9, u10, u11, u12, u13, u14, u15, u16, u17, u18, u19, u20, u21, u22, u23, u24, u25, u26, u27, u28, u29, u30, u31, u32, u33, u34, u35, u36, u37, u38, u39, u40, u41, u42, u43, u44, u45, u46, u47, u48, u49, u50, u51, u52, u53, u54, rfl, hm, hinv, hq, hfq, hu1, hfu1, hv1, hszr, hbl⟩
    by_cases hm0 : m = 0
    · subst hm0
      go_wp2
      rw [show ∀ J Q b w, Exit.jump 0 J Q .ret b w = Q .ret b w from fun _ _ _ _ => rfl]
      go_ret
      exact ⟨lq, lu1, rfl, hinv, hq, hfq, hu1, hfu1, hbl⟩
    · obtain ⟨a, rfl⟩ : ∃ a, m = a + 1 := ⟨m - 1, by omega⟩
      have hlq := hinv.lenq
      have hl1 := hinv.lenu
      have hk1 : a + (k + 2) + 1 - a = k + 3 := by omega
      have hVB := val_lt wv
      rw [hlv] at hVB
      obtain ⟨hW1, hW2⟩ := hinv.window (by omega) hVB
      have hwin := hu1.window a (k + 3)
      have hfwin := hfu1.window (k := a) (m := k + 3) (by omega)
      have hwl : ((lu1.drop a).take (k + 3)).length = k + 3 := by simp; omega
      have hww : Words ((lu1.drop a).take (k + 3)) := (hinv.wu.drop a).take (k + 3)
      have hcall := fun wx hx hy => guess_any (some ⟨bu, ou + a, none⟩) (k + 3) bu (ou + a) av k cv bv ov ((lu1.drop a).take (k + 3)) lv wx hwl hlv (by omega) hww wv hx hy htop hW2
      have hstep := fun d nw => hinv.step (d := d) (nw := nw) (by omega) hVB
      have HH := (show Hid _ from And.intro hW1 (And.intro hwl (And.intro hww (And.intro hlq (And.intro hl1 hstep)))))
      clear hinv hW1 hwl hww hlq hl1 hstep
      have e1 : ((a : Nat) : Int) + 1 - 1 = a := by omega
      generalize hL : (lu1.drop a).take (k + 3) = L at *
      go_wp2_with fail
      rw [hk1]
      refine (hcall _ hwin hv1).mono ?_
      rintro e w2 ⟨g, rfl, hnear, hbel⟩
      obtain ⟨hW1, hwl, hww, hlq, hl1, hstep⟩ := HH.out
      have hsz2 : w.heap.size < w2.heap.size := Nat.lt_of_lt_of_le hszr hbel.size
      have hbu : bu < wr.heap.size := by
        rcases hu1.lt with e | e
        · subst e; simp at hl1
        · exact e
      have HB2 := (show Hid _ from hbl.trans (hbel.mono (Nat.le_of_lt hbu)))
      clear hbl
      have hq2 := hq.keep hbel
      have hfq2 := Free.below hbel hfq hszr
      have hu2 := hu1.keep hbel
      have hfu2 := Free.below hbel hfu1 hbu
      have hv2 := hv1.keep hbel
      have hc := hq2.cell a (by omega)
      have hf := hfq2 a (by omega)
      rw [Nat.zero_add] at hc hf
      clear hcall hwin
      have hg0 := hnear.1
      have hg1 := hnear.2.1
      clear hW1 hwl hww hlq hl1 hstep hq hfq hu1 hfu1 hv1
      go_wp2_with fail
      have hbq : bu ≠ w.heap.size := by
        rcases hu.lt with e | e
        · subst e; simp at hlu
        · omega
      have hbq' : bu ≤ w.heap.size := by
        rcases hu.lt with e | e
        · subst e; simp at hlu
        · omega
      have hbv : bv ≠ w.heap.size := by
        rcases hv.lt with e | e
        · subst e; simp at hlv
        · omega
      obtain ⟨hW1, hwl, hww, hlq, hl1, hstep⟩ := HH.out
      have hwr3 : Wr w.heap.size 0 q0 w2 (w2.setCell ⟨w.heap.size, a, none⟩ (.int .u64 g)) := (Wr.refl _ _ _ _).setCell (by omega) (by omega) _
      have hq3 := hq2.setCell (i := a) (by omega) g
      rw [Nat.zero_add] at hq3
      generalize w2.setCell ⟨w.heap.size, a, none⟩ (.int .u64 g) = w3 at *
      have hfq3 := hwr3.free hfq2
      have hfu3 := hwr3.free hfu2
      have hu3 := hu2.wr hwr3 (.inr hbq)
      have hv3 := hv2.wr hwr3 (.inr hbv)
      have hsz3 : w.heap.size < w3.heap.size := by rw [hwr3.size]; exact hsz2
      have hwin3 := hu3.window a (k + 3)
      rw [hL] at hwin3
      have hfwin3 := hfu3.window (k := a) (m := k + 3) (by omega)
      refine (takeTimes_any (some ⟨bu, ou + a, none⟩) bu (ou + a) (k + 3) (k + 3) av bv ov (k + 2) cv g L lv w3 hwl hlv (by omega) (by omega) (Nat.le_refl _) hcv hg0 hg1 hww wv hwin3 hfwin3 hv3 (.inr hne)).mono ?_
      rintro e w4 ⟨owed, rfl, ho0, ho1, nw, hnl, hnw, hat4, hwr4, hval4⟩
      have HB4 := (show Hid _ from (HB2.out.trans (hwr3.below hbq')).trans (hwr4.below (Nat.le_refl _)))
      have hfq4 := hwr4.free hfq3
      have hfu4 := hwr4.free hfu3
      have hq4 := hq3.wr hwr4 (.inr (Ne.symm hbq))
      have hv4 := hv3.wr hwr4 (.inr hne)
      have hu4 := hu3.patch hwr4 hat4 hnl (by omega)
      have hsz4 : w.heap.size < w4.heap.size := by rw [hwr4.size]; exact hsz3
      have hP := patch_length (l := lu1) (m := nw) (k := a) (by omega)
      have hVB3 : val lv < 18446744073709551616 ^ (k + 3) := by
        have := pow_pos (k + 2)
        rw [Int.pow_succ _ (k + 2)]; omega
      have hnl2 := val_lt hnw
      rw [hnl] at hnl2
      have hNO := fun Z => near_ok (Z := Z) (n := k + 3) hnear hVB3 hval4 hnl2 (val_nonneg hww) ho0
      clear hwr3 hfq2 hfu2 hu2 hv2 hq2 hfq3 hfu3 hu3 hv3 hwin3 hfwin3 hwr4 hq3
      by_cases ho : owed = 0
      · subst ho
        have hx := (hNO 0).1 rfl
        have hJ := hstep g nw hg0 hg1 hnw hnl hx.1 hx.2
        have HJ := (show Hid _ from hJ)
        clear hJ hx hNO hstep HH hW1 hwl hww hlq hl1 hval4 hnl2 hP
        go_wp2_with fail
        go_step3
        refine And.intro (Eq.refl 0) (And.intro ?_ ?_)
        · exact ⟨a, lq.set a g, patch lu1 a nw, _, _, _, _, _, _, _, _, _, _, _, _, _, _, _, _, _, _, _, _, _, _, _, _, _, _, _, _, _, _, _, _, _, _, _, _, _, _, _, _, _, _, _, _, _, _, _, rfl, by omega, HJ.out, hq4, hfq4, hu4, hfu4, hv4, hsz4, HB4.out⟩
        · simp [intOf]
      · have hg1' : 1 ≤ g := ((hNO ((val nw + val lv * 1) % 18446744073709551616 ^ (k + 3))).2 ho rfl).1
        have hq4c := hq4.cell a (by simp; omega)
        have hq4f := hfq4 a (by omega)
        rw [Nat.zero_add] at hq4c hq4f
        rw [nth_set (by omega), if_pos rfl] at hq4c
        have HN := (show Hid _ from And.intro hNO (And.intro hstep (And.intro hlq (And.intro hl1 (And.intro hW1 (And.intro hwl (And.intro hww (And.intro hP hnl))))))))
        clear hNO hstep HH hW1 hwl hww hlq hl1 hval4 hnl2 hP
        have hgw : IntKind.u64.wrap (g - 1) = g - 1 := by rw [IntKind.wrap_u64]; omega
        have hob : (owed == 0) = false := by simpa using ho
        go_wp2_with fail
        obtain ⟨hNO, hstep, hlq, hl1, hW1, hwl, hww, hP, hnl'⟩ := HN.out
        have hwr5 : Wr w.heap.size 0 q0 w4 (w4.setCell ⟨w.heap.size, a, none⟩ (.int .u64 (g - 1))) := (Wr.refl _ _ _ _).setCell (by omega) (by omega) _
        have hq5 := hq4.setCell (i := a) (by simp; omega) (g - 1)
        rw [Nat.zero_add, List.set_set] at hq5
        generalize w4.setCell ⟨w.heap.size, a, none⟩ (.int .u64 (g - 1)) = w5 at *
        have hfq5 := hwr5.free hfq4
        have hfu5 := hwr5.free hfu4
        have hu5 := hu4.wr hwr5 (.inr hbq)
        have hv5 := hv4.wr hwr5 (.inr hbv)
        have hat5 := hat4.wr hwr5 (.inr hbq)
        have hsz5 : w.heap.size < w5.heap.size := by rw [hwr5.size]; exact hsz4
        have hfwin5 := hfu5.window (k := a) (m := k + 3) (by omega)
        refine (addTimes_any (some ⟨bu, ou + a, none⟩) bu (ou + a) (k + 3) (k + 3) av bv ov (k + 2) cv 1 nw lv w5 hnl hlv (by omega) (by omega) (Nat.le_refl _) hcv (by omega) (by omega) hnw wv hat5 hfwin5 hv5 (.inr hne)).mono ?_
        rintro e w6 ⟨rfl, n2, hnl6, hnw6, hat6, hwr6, hval6⟩
        have HB6 := (show Hid _ from (HB4.out.trans (hwr5.below hbq')).trans (hwr6.below (Nat.le_refl _)))
        have hfq6 := hwr6.free hfq5
        have hfu6 := hwr6.free hfu5
        have hq6 := hq5.wr hwr6 (.inr (Ne.symm hbq))
        have hv6 := hv5.wr hwr6 (.inr hne)
        have hu6 := hu5.patch hwr6 hat6 hnl6 (by omega)
        rw [patch_patch (by omega) (by omega)] at hu6
        have hsz6 : w.heap.size < w6.heap.size := by rw [hwr6.size]; exact hsz5
        have hx := (hNO (val n2)).2 ho hval6
        have HJ := (show Hid _ from hstep (g - 1) n2 (by omega) (by omega) hnw6 hnl6 hx.2.1 hx.2.2)
        clear hx hNO hstep HN hW1 hwl hww hlq hl1 hP hwr5 hq5 hfq5 hfu5 hu5 hv5 hat5 hfwin5 hwr6 hq4 hfq4 hu4 hv4 hfu4 hval6 hq4c hq4f
        go_wp2_with fail
        go_step3
        refine And.intro (Eq.refl 0) (And.intro ?_ ?_)
        · exact ⟨a, lq.set a (g - 1), patch lu1 a n2, _, _, _, _, _, _, _, _, _, _, _, _, _, _, _, _, _, _, _, _, _, _, _, _, _, _, _, _, _, _, _, _, _, _, _, _, _, _, _, _, _, _, _, _, _, _, _, rfl, by omega, HJ.out, hq6, hfq6, hu6, hfu6, hv6, hsz6, HB6.out⟩
        · simp [intOf]
end Go.Proofs.YtjihgkanbhccpaaGreatDoor
