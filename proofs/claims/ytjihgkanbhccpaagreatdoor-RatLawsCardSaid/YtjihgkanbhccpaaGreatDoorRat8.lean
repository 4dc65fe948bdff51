/- Package rat: the sum of a list. -/
import Derived.Test.YtjihgkanbhccpaaGreatDoorRatO
namespace Go.Proofs.YtjihgkanbhccpaaGreatDoor
open Go.RowKit Lim

/-- fractions lie one behind the other at ao -/
structure RatL (w : World) (ao : Option Addr) (l : List (Int × Int)) (B : Nat) : Prop where
  get : ∀ i (h : i < l.length), ∃ b o a0 n0 c0 a1 n1 c1, ao = some ⟨b, o, none⟩ ∧ w.cell? ⟨b, o + i * 2, none⟩ = some (.slice a0 n0 c0) ∧ w.cell? ⟨b, o + i * 2 + 1, none⟩ = some (.slice a1 n1 c1) ∧ NatA w a0 n0 c0 l[i].1 ∧ NatA w a1 n1 c1 l[i].2 ∧ n0 ≤ B ∧ n1 ≤ B
theorem RatL.keep {w w' : World} {ao : Option Addr} {l : List (Int × Int)} {B : Nat} (h : RatL w ao l B) (hb : Below w.heap.size w w') : RatL w' ao l B := ⟨fun i hi => by
  obtain ⟨b, o, a0, n0, c0, a1, n1, c1, h1, h2, h3, h4, h5, h6, h7⟩ := h.get i hi
  exact ⟨b, o, a0, n0, c0, a1, n1, c1, h1, by rw [hb.cell (p := ⟨b, o + i * 2, none⟩) (cell_lt h2)]; exact h2, by rw [hb.cell (p := ⟨b, o + i * 2 + 1, none⟩) (cell_lt h3)]; exact h3, h4.keep hb, h5.keep hb, h6, h7⟩⟩
set_option maxHeartbeats 4000000 in
set_option maxRecDepth 100000 in
theorem qFold {w : World} {ao : Option Addr} {n c : Nat} {l : List (Int × Int)} {B : Nat} (hl : l.length = n) (hW : n * (2 * B + 4 + n * (B + 2)) ≤ 8589934592) (h : RatL w ao l B) (hlB : n * (B + 2) ≤ 8589934000) (hb : B ≤ 8589934592) (hn : n ≤ 1099511627776) :
    Calls Tryz.prog 75 #[.func (.func 76) #[] #[], .slice ao n c] w fun e w' => ∃ a k d a' k' d' N D, e = .returned (.agg #[.slice a k d, .slice a' k' d']) ∧ NatO w' a k d N ∧ NatO w' a' k' d' D ∧ Red N D (rsum l).1 (rsum l).2 ∧ k ≤ n * (2 * B + 4 + n * (B + 2)) ∧ k' ≤ 1 + n * (B + 2) ∧ Below w.heap.size w w' := by
  have HB := below_alloc w (.cells #[.slice none 0 0, .slice none 0 0] 30)
  have X4 := box_new w [.slice none 0 0, .slice none 0 0] 30
  replace h := h.keep HB
  go_enter Tryz.func75, Tryz.ntmps75
  go_wp2_with fail
  refine (qOfNat (natO_nil _).a (by omega)).mono ?_
  rintro e w1 ⟨A, K, D, A', K', D', rfl, O1, O2, hk, hk', hB⟩
  replace X4 := X4.keep hB
  replace h := h.keep hB
  replace HB := joinB HB hB
  have hg4 := X4.lt
  clear hB
  have BA := below_alloc w1 (.cells #[.slice A K D, .slice A' K' D'] 30)
  have X5 := box_new w1 [.slice A K D, .slice A' K' D'] 30
  replace O1 := O1.keep BA
  replace O2 := O2.keep BA
  go_wp2_with fail
  go_loopw [11] (fun ti wr => ∃ (k : Nat) (P : Option Addr) (L M : Nat) (P' : Option Addr) (L' M' : Nat) (N Q : Int), k ≤ n ∧ ti = .int .i64 k ∧ Box wr w1.heap.size [.slice P L M, .slice P' L' M'] 30 ∧ NatO wr P L M N ∧ NatO wr P' L' M' Q ∧ Hid (Red N Q (rsum (l.take k)).1 (rsum (l.take k)).2) ∧ Hid (L ≤ k * (2 * B + 4 + n * (B + 2))) ∧ Hid (L' ≤ 1 + k * (B + 2)) ∧ Below w1.heap.size w1 wr) (fun ti _ => n - (intOf ti).toNat)
  case atStart => exact ⟨0, A, K, D, A', K', D', 0, 1, Nat.zero_le _, rfl, X5, O1, O2, ⟨by decide, by decide, by decide, by simp [rsum]⟩, (show K ≤ 0 * _ by omega), (show K' ≤ 1 + 0 * _ by omega), BA⟩
  case round =>
    clear BA X5 O1 O2 hk hk'
    obtain ⟨k, P, L, M, P', L', M', N, Q, hk, rfl, X5, N1, N2, HR, hL, hL', BW⟩ := hrel
    by_cases hlt : k < n
    · have hi : k < l.length := by omega
      obtain ⟨b, o, a0, n0, c0, a1, n1, c1, rfl, q1, q2, E1, E2, hn0, hn1⟩ := (h.keep BW).get k hi
      have HS : Hid (rsum (l.take (k + 1)) = rstep (rsum (l.take k)) l[k]) := rsum_step l k hi
      have hk0 : (k : Int) < n := by omega
      have w1' := Nat.mul_le_mul_right (B + 2) hk
      have w2' := Nat.mul_le_mul_right (2 * B + 4 + n * (B + 2)) hk
      have w3' := Nat.succ_mul k (B + 2)
      have w4' := Nat.succ_mul k (2 * B + 4 + n * (B + 2))
      have w5' := hL.out
      have w6' := hL'.out
      have hLb : L ≤ 8589934592 := by omega
      have hLb' : L' ≤ 8589934592 := by omega
      have HW1 : Hid (∀ G, G ≤ L + n0 + L' + n1 + 3 → G ≤ (k + 1) * (2 * B + 4 + n * (B + 2))) := fun G hG => by
        rw [show k + 1 = k.succ from rfl, w4']; omega
      have HW2 : Hid (∀ G, G ≤ L' + n1 + 2 → G ≤ 1 + (k + 1) * (B + 2)) := fun G hG => by
        rw [show k + 1 = k.succ from rfl, w3']; omega
      clear w1' w2' w3' w4' w5' w6' hL hL'
      generalize l[k] = ev at *
      obtain ⟨x1, y1⟩ := ev
      have BE := below_alloc wr (.cells #[.slice a0 n0 c0, .slice a1 n1 c1] 30)
      have XE := box_new wr [.slice a0 n0 c0, .slice a1 n1 c1] 30
      replace X5 := X5.keep BE
      replace N1 := N1.keep BE
      replace N2 := N2.keep BE
      replace E1 := E1.keep BE
      replace E2 := E2.keep BE
      replace BW := joinB BW BE
      obtain ⟨j1, j2, j3, j4⟩ := X5.cells2
      obtain ⟨i1, i2, i3, i4⟩ := XE.cells2
      go_wp2_with fail
      refine (qStepR N1.a N2.a (by omega) (by omega) E1 E2 (by omega) (by omega) HR.out).mono ?_
      rintro e w2 ⟨F, G, H, F', G', H', N3, Q3, rfl, T1, T2, R3, hG, hG', hB⟩
      have HR3 : Hid (Red N3 Q3 (rsum (l.take (k + 1))).1 (rsum (l.take (k + 1))).2) := by
        show Red _ _ _ _
        rw [HS.out]; exact R3
      clear j1 j2 j3 j4 i1 i2 i3 i4 N1 N2 E1 E2 XE BE q1 q2 R3 HS HR
      replace X5 := X5.keep hB
      replace BW := joinB BW hB
      obtain ⟨j1, j2, j3, j4⟩ := X5.cells2
      have S2 := X5.put2 (.slice F G H) (.slice F' G' H')
      have Q1 := T1.put2 X5 (.slice F G H) (.slice F' G' H')
      have Q2 := T2.put2 X5 (.slice F G H) (.slice F' G' H')
      have BW2 := below_put2 BW (g := w1.heap.size) (Nat.le_refl _) (.slice F G H) (.slice F' G' H')
      clear hB T1 T2 X5 BW
      go_wp2
      go_roundw
      case rel => exact ⟨k + 1, F, G, H, F', G', H', N3, Q3, by omega, by go_num, S2, Q1, Q2, HR3, HW1.out _ hG, HW2.out _ hG', BW2⟩
      case measure => simp [intOf]; omega
    · have hkn : k = n := by omega
      subst hkn
      have HR3 : Hid (Red N Q (rsum l).1 (rsum l).2) := by
        have h3 := HR.out
        rw [List.take_of_length_le (by omega)] at h3
        exact h3
      clear HR
      have hX4 := X4.keep BW
      obtain ⟨j1, j2, j3, j4⟩ := X5.cells2
      obtain ⟨i1, i2, i3, i4⟩ := hX4.cells2
      have S2 := hX4.put2 (.slice P L M) (.slice P' L' M')
      have Q1 := N1.put2 hX4 (.slice P L M) (.slice P' L' M')
      have Q2 := N2.put2 hX4 (.slice P L M) (.slice P' L' M')
      have HB2 := below_put2 (joinB HB BW) (g := w.heap.size) (Nat.le_refl _) (.slice P L M) (.slice P' L' M')
      clear N1 N2 X4 hX4 X5 HB BW
      go_wp2
      refine bodyPost_ret (ret_rat rfl rfl S2) rfl ?_
      exact ⟨P, L, M, P', L', M', N, Q, rfl, Q1, Q2, HR3.out, hL.out, hL'.out, HB2⟩
set_option maxHeartbeats 4000000 in
set_option maxRecDepth 100000 in
theorem qSum {w : World} {ao : Option Addr} {n c : Nat} {l : List (Int × Int)} {B : Nat} (hl : l.length = n) (hW : n * (2 * B + 4 + n * (B + 2)) ≤ 8589934592) (h : RatL w ao l B) (hlB : n * (B + 2) ≤ 8589934000) (hb : B ≤ 8589934592) (hn : n ≤ 1099511627776) :
    Calls Tryz.prog 17 #[.slice ao n c] w fun e w' => ∃ a k d a' k' d' N D, e = .returned (.agg #[.slice a k d, .slice a' k' d']) ∧ NatO w' a k d N ∧ NatO w' a' k' d' D ∧ Red N D (rsum l).1 (rsum l).2 ∧ k ≤ n * (2 * B + 4 + n * (B + 2)) ∧ k' ≤ 1 + n * (B + 2) ∧ Below w.heap.size w w' := by
  have HB := below_alloc w (.cells #[.slice none 0 0, .slice none 0 0] 30)
  have X4 := box_new w [.slice none 0 0, .slice none 0 0] 30
  replace h := h.keep HB
  go_enter Tryz.func17, Tryz.ntmps17
  go_wp2_with fail
  refine (qFold hl hW h hlB hb hn).mono ?_
  rintro e w1 ⟨P, L, M, P', L', M', N, Q, rfl, N1, N2, R3, hL, hL', hB⟩
  have HR := (show Hid _ from R3)
  clear R3
  replace X4 := X4.keep hB
  replace HB := joinB HB hB
  obtain ⟨i1, i2, i3, i4⟩ := X4.cells2
  have S2 := X4.put2 (.slice P L M) (.slice P' L' M')
  have Q1 := N1.put2 X4 (.slice P L M) (.slice P' L' M')
  have Q2 := N2.put2 X4 (.slice P L M) (.slice P' L' M')
  have HB2 := below_put2 HB (g := w.heap.size) (Nat.le_refl _) (.slice P L M) (.slice P' L' M')
  clear N1 N2 X4 HB hB h
  go_wp2
  refine bodyPost_ret (ret_rat rfl rfl S2) rfl ?_
  exact ⟨P, L, M, P', L', M', N, Q, rfl, Q1, Q2, HR.out, hL, hL', HB2⟩
theorem ratl_two {w : World} {g : Nat} {t : TypeId} {B : Nat} {a0 b0 : Option Addr} {n0 c0 m0 d0 : Nat} {x0 y0 : Int} {a1 b1 : Option Addr} {n1 c1 m1 d1 : Nat} {x1 y1 : Int} (hB : Box w g [.slice a0 n0 c0, .slice b0 m0 d0, .slice a1 n1 c1, .slice b1 m1 d1] t) (h0 : NatA w a0 n0 c0 x0) (e0 : NatA w b0 m0 d0 y0) (h1 : NatA w a1 n1 c1 x1) (e1 : NatA w b1 m1 d1 y1) (hn0 : n0 ≤ B) (hm0 : m0 ≤ B) (hn1 : n1 ≤ B) (hm1 : m1 ≤ B) :
    RatL w (some ⟨g, 0, none⟩) [(x0, y0), (x1, y1)] B := ⟨fun i hi => by
  have hb := hB.blk
  match i, hi with
  | 0, _ => exact ⟨g, 0, a0, n0, c0, b0, m0, d0, rfl, by simp [World.cell?, hb], by simp [World.cell?, hb], h0, e0, hn0, hm0⟩
  | 1, _ => exact ⟨g, 0, a1, n1, c1, b1, m1, d1, rfl, by simp [World.cell?, hb], by simp [World.cell?, hb], h1, e1, hn1, hm1⟩⟩
set_option maxHeartbeats 4000000 in
set_option maxRecDepth 100000 in
theorem qAdd {w : World} {B : Nat} {a0 b0 : Option Addr} {n0 c0 m0 d0 : Nat} {x0 y0 : Int} {a1 b1 : Option Addr} {n1 c1 m1 d1 : Nat} {x1 y1 : Int} (h0 : NatA w a0 n0 c0 x0) (e0 : NatA w b0 m0 d0 y0) (hn0 : n0 ≤ B) (hm0 : m0 ≤ B) (h1 : NatA w a1 n1 c1 x1) (e1 : NatA w b1 m1 d1 y1) (hn1 : n1 ≤ B) (hm1 : m1 ≤ B) (hb : B ≤ 1000000000) :
    Calls Tryz.prog 18 #[.agg #[.slice a0 n0 c0, .slice b0 m0 d0], .agg #[.slice a1 n1 c1, .slice b1 m1 d1]] w fun e w' => ∃ a k d a' k' d' N D, e = .returned (.agg #[.slice a k d, .slice a' k' d']) ∧ NatO w' a k d N ∧ NatO w' a' k' d' D ∧ Red N D (rsum [(x0, y0), (x1, y1)]).1 (rsum [(x0, y0), (x1, y1)]).2 ∧ k ≤ 8 * B + 16 ∧ k' ≤ 2 * B + 5 ∧ Below w.heap.size w w' := by
  have HB := below3 w (.cells #[.slice a0 n0 c0, .slice b0 m0 d0] 30) (.cells #[.slice a1 n1 c1, .slice b1 m1 d1] 30) (.cells #[.slice none 0 0, .slice none 0 0] 30)
  have P0 := ((box_new w [.slice a0 n0 c0, .slice b0 m0 d0] 30).keep (below_alloc _ (.cells #[.slice a1 n1 c1, .slice b1 m1 d1] 30))).keep (below_alloc _ (.cells #[.slice none 0 0, .slice none 0 0] 30))
  have P1 := (box_new (w.alloc (.cells #[.slice a0 n0 c0, .slice b0 m0 d0] 30)) [.slice a1 n1 c1, .slice b1 m1 d1] 30).keep (below_alloc _ (.cells #[.slice none 0 0, .slice none 0 0] 30))
  have X4 := box_new ((w.alloc (.cells #[.slice a0 n0 c0, .slice b0 m0 d0] 30)).alloc (.cells #[.slice a1 n1 c1, .slice b1 m1 d1] 30)) [.slice none 0 0, .slice none 0 0] 30
  rw [show (w.alloc (.cells #[.slice a0 n0 c0, .slice b0 m0 d0] 30)).heap.size = w.heap.size + 1 by simp] at P1
  rw [show ((w.alloc (.cells #[.slice a0 n0 c0, .slice b0 m0 d0] 30)).alloc (.cells #[.slice a1 n1 c1, .slice b1 m1 d1] 30)).heap.size = w.heap.size + 1 + 1 by simp] at X4
  replace h0 := h0.keep HB
  replace e0 := e0.keep HB
  replace h1 := h1.keep HB
  replace e1 := e1.keep HB
  obtain ⟨j1, j2, j3, j4⟩ := P0.cells2
  obtain ⟨i1, i2, i3, i4⟩ := P1.cells2
  have BA := below_alloc (((w.alloc (.cells #[.slice a0 n0 c0, .slice b0 m0 d0] 30)).alloc (.cells #[.slice a1 n1 c1, .slice b1 m1 d1] 30)).alloc (.cells #[.slice none 0 0, .slice none 0 0] 30)) (.cells #[.slice a0 n0 c0, .slice b0 m0 d0, .slice a1 n1 c1, .slice b1 m1 d1] 30)
  have XL := box_new (((w.alloc (.cells #[.slice a0 n0 c0, .slice b0 m0 d0] 30)).alloc (.cells #[.slice a1 n1 c1, .slice b1 m1 d1] 30)).alloc (.cells #[.slice none 0 0, .slice none 0 0] 30)) [.slice a0 n0 c0, .slice b0 m0 d0, .slice a1 n1 c1, .slice b1 m1 d1] 30
  rw [show (((w.alloc (.cells #[.slice a0 n0 c0, .slice b0 m0 d0] 30)).alloc (.cells #[.slice a1 n1 c1, .slice b1 m1 d1] 30)).alloc (.cells #[.slice none 0 0, .slice none 0 0] 30)).heap.size = w.heap.size + 1 + 1 + 1 by simp] at XL
  have RL := ratl_two XL (h0.keep BA) (e0.keep BA) (h1.keep BA) (e1.keep BA) hn0 hm0 hn1 hm1
  replace HB := joinB HB BA
  replace X4 := X4.keep BA
  clear h0 e0 h1 e1 XL BA
  go_enter Tryz.func18, Tryz.ntmps18
  go_wp2_with fail
  refine (qSum (l := [(x0, y0), (x1, y1)]) (n := 2) rfl (by omega) RL (by omega) (by omega) (by omega)).mono ?_
  rintro e w1 ⟨P, L, M, P', L', M', N, Q, rfl, N1, N2, R3, hL, hL', hB⟩
  have HR := (show Hid _ from R3)
  clear R3 j1 j2 j3 j4 i1 i2 i3 i4 P0 P1
  replace X4 := X4.keep hB
  replace HB := joinB HB hB
  obtain ⟨i1, i2, i3, i4⟩ := X4.cells2
  have S2 := X4.put2 (.slice P L M) (.slice P' L' M')
  have Q1 := N1.put2 X4 (.slice P L M) (.slice P' L' M')
  have Q2 := N2.put2 X4 (.slice P L M) (.slice P' L' M')
  have HB2 := below_put2 HB (g := w.heap.size + 1 + 1) (by omega) (.slice P L M) (.slice P' L' M')
  clear N1 N2 X4 HB hB RL
  go_wp2
  refine bodyPost_ret (ret_rat rfl rfl S2) rfl ?_
  exact ⟨P, L, M, P', L', M', N, Q, rfl, Q1, Q2, HR.out, by omega, by omega, HB2⟩
end Go.Proofs.YtjihgkanbhccpaaGreatDoor
