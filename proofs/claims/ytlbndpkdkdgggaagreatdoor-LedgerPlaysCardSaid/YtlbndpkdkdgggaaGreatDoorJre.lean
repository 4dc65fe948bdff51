/- Several texts, joined: RatO, Rat8, Rat9, Rat4, Rat6, Rat5, Pairs, Split, Text, Shelf, App, Frac, Known, Places, Dec2, Mid, Dec4, DText, DParse, Dec3, DBasis. -/
import Derived.Test.YtlbndpkdkdgggaaGreatDoorJrd
import Derived.Test.YtlbndpkdkdgggaaGreatDoorJrc
import Derived.Laws.Tables
import Derived.Laws.Rows
import Derived.Laws.CopyOwn
import Derived.Test.YtlbndpkdkdgggaaGreatDoorJnb
import Derived.Lib.AppendStr
import Derived.Shelf.Strings.Trim
import Derived.Shelf.Strings.Search1
import Derived.Shelf.Strings.Search2
import Derived.Shelf.LaysM
import Derived.Shelf.Strings.Prefix
import Derived.Test.YtlbndpkdkdgggaaGreatDoorProg
import Derived.Shelf.Strconv.AppendUint10
import Derived.Test.YtlbndpkdkdgggaaGreatDoorJna
import Derived.Deep.RegionLaw
import Derived.Deep.RegionHeld3
namespace Go.Proofs.YtlbndpkdkdgggaaGreatDoor
open Go.RowKit Lim

theorem tog_back (p0 p1 q0 q1 : Int) : p0 * (q1 / (Int.gcd q0 q1 : Nat)) * (Int.gcd q0 q1 : Nat) = p0 * q1 ∧ p1 * (q0 / (Int.gcd q0 q1 : Nat)) * (Int.gcd q0 q1 : Nat) = p1 * q0 := by
  rw [Int.mul_assoc, Int.ediv_mul_cancel (Int.gcd_dvd_right q0 q1), Int.mul_assoc, Int.ediv_mul_cancel (Int.gcd_dvd_left q0 q1)]
  exact ⟨rfl, rfl⟩
theorem tog_le {p0 q0 x0 y0 p1 q1 x1 y1 : Int} (R0 : Red p0 q0 x0 y0) (R1 : Red p1 q1 x1 y1) (hy0 : 0 < y0) (hy1 : 0 < y1) :
    p1 * (q0 / (Int.gcd q0 q1 : Nat)) ≤ p0 * (q1 / (Int.gcd q0 q1 : Nat)) ↔ x1 * y0 ≤ x0 * y1 := by
  have hq0 := R0.d0
  have hq1 := R1.d0
  have e0 := R0.eq
  have e1 := R1.eq
  have hg : 0 < ((Int.gcd q0 q1 : Nat) : Int) := by
    have : 0 < Int.gcd q0 q1 := Int.gcd_pos_of_ne_zero_left _ (by omega)
    omega
  obtain ⟨b0, b1⟩ := tog_back p0 p1 q0 q1
  have hq : 0 < q0 * q1 := Int.mul_pos hq0 hq1
  have hy : 0 < y0 * y1 := Int.mul_pos hy0 hy1
  have f0 : p0 * q1 * (y0 * y1) = x0 * y1 * (q0 * q1) := by
    calc p0 * q1 * (y0 * y1) = p0 * y0 * (q1 * y1) := by grind
      _ = x0 * q0 * (q1 * y1) := by rw [e0]
      _ = _ := by grind
  have f1 : p1 * q0 * (y0 * y1) = x1 * y0 * (q0 * q1) := by
    calc p1 * q0 * (y0 * y1) = p1 * y1 * (q0 * y0) := by grind
      _ = x1 * q1 * (q0 * y0) := by rw [e1]
      _ = _ := by grind
  constructor
  · intro h
    have h1 := Int.mul_le_mul_of_nonneg_right h (Int.le_of_lt hg)
    rw [b0, b1] at h1
    have h2 := Int.mul_le_mul_of_nonneg_right h1 (Int.le_of_lt hy)
    rw [f0, f1] at h2
    exact Int.le_of_mul_le_mul_right h2 hq
  · intro h
    have h2 := Int.mul_le_mul_of_nonneg_right h (Int.le_of_lt hq)
    rw [← f0, ← f1] at h2
    have h1 := Int.le_of_mul_le_mul_right h2 hy
    rw [← b0, ← b1] at h1
    exact Int.le_of_mul_le_mul_right h1 hg
theorem tog_sum {p0 q0 x0 y0 p1 q1 x1 y1 : Int} (R0 : Red p0 q0 x0 y0) (R1 : Red p1 q1 x1 y1) :
    Red ((p0 * (q1 / (Int.gcd q0 q1 : Nat)) + p1 * (q0 / (Int.gcd q0 q1 : Nat))) / (Int.gcd (p0 * (q1 / (Int.gcd q0 q1 : Nat)) + p1 * (q0 / (Int.gcd q0 q1 : Nat))) (Int.gcd q0 q1 : Nat) : Nat))
      (q0 / (Int.gcd q0 q1 : Nat) * (q1 / (Int.gcd (p0 * (q1 / (Int.gcd q0 q1 : Nat)) + p1 * (q0 / (Int.gcd q0 q1 : Nat))) (Int.gcd q0 q1 : Nat) : Nat))) (x0 * y1 + x1 * y0) (y0 * y1) := by
  have hq0 := R0.d0
  have hq1 := R1.d0
  have e0 := R0.eq
  have e1 := R1.eq
  have hV : 0 ≤ p0 * (q1 / (Int.gcd q0 q1 : Nat)) + p1 * (q0 / (Int.gcd q0 q1 : Nat)) :=
    Int.add_nonneg (Int.mul_nonneg R0.n0 (Int.ediv_nonneg (by omega) (Int.natCast_nonneg _))) (Int.mul_nonneg R1.n0 (Int.ediv_nonneg (by omega) (Int.natCast_nonneg _)))
  obtain ⟨c, n, d, e⟩ := tog_red R0.n0 hq0 R0.co R1.n0 hq1 R1.co hV (.inl rfl)
  obtain ⟨b0, b1⟩ := tog_back p0 p1 q0 q1
  refine Red.cross (q := q0 * q1) ⟨n, d, c, e⟩ (Int.mul_pos hq0 hq1) ?_
  rw [Int.add_mul, b0, b1]
  calc (p0 * q1 + p1 * q0) * (y0 * y1) = p0 * y0 * (q1 * y1) + p1 * y1 * (q0 * y0) := by grind
    _ = x0 * q0 * (q1 * y1) + x1 * q1 * (q0 * y0) := by rw [e0, e1]
    _ = _ := by grind
theorem tog_diff {p0 q0 x0 y0 p1 q1 x1 y1 : Int} (R0 : Red p0 q0 x0 y0) (R1 : Red p1 q1 x1 y1) (h : p1 * (q0 / (Int.gcd q0 q1 : Nat)) ≤ p0 * (q1 / (Int.gcd q0 q1 : Nat))) :
    Red ((p0 * (q1 / (Int.gcd q0 q1 : Nat)) - p1 * (q0 / (Int.gcd q0 q1 : Nat))) / (Int.gcd (p0 * (q1 / (Int.gcd q0 q1 : Nat)) - p1 * (q0 / (Int.gcd q0 q1 : Nat))) (Int.gcd q0 q1 : Nat) : Nat))
      (q0 / (Int.gcd q0 q1 : Nat) * (q1 / (Int.gcd (p0 * (q1 / (Int.gcd q0 q1 : Nat)) - p1 * (q0 / (Int.gcd q0 q1 : Nat))) (Int.gcd q0 q1 : Nat) : Nat))) (x0 * y1 - x1 * y0) (y0 * y1) := by
  have hq0 := R0.d0
  have hq1 := R1.d0
  have e0 := R0.eq
  have e1 := R1.eq
  have hV : 0 ≤ p0 * (q1 / (Int.gcd q0 q1 : Nat)) - p1 * (q0 / (Int.gcd q0 q1 : Nat)) := Int.sub_nonneg.2 h
  obtain ⟨c, n, d, e⟩ := tog_red R0.n0 hq0 R0.co R1.n0 hq1 R1.co hV (.inr rfl)
  obtain ⟨b0, b1⟩ := tog_back p0 p1 q0 q1
  refine Red.cross (q := q0 * q1) ⟨n, d, c, e⟩ (Int.mul_pos hq0 hq1) ?_
  rw [Int.sub_mul, b0, b1]
  calc (p0 * q1 - p1 * q0) * (y0 * y1) = p0 * y0 * (q1 * y1) - p1 * y1 * (q0 * y0) := by grind
    _ = x0 * q0 * (q1 * y1) - x1 * q1 * (q0 * y0) := by rw [e0, e1]
    _ = _ := by grind
theorem qStepR {w : World} {a0 b0 : Option Addr} {n0 c0 m0 d0 : Nat} {x0 y0 : Int} {a1 b1 : Option Addr} {n1 c1 m1 d1 : Nat} {x1 y1 X Y : Int} (h0 : NatA w a0 n0 c0 x0) (e0 : NatA w b0 m0 d0 y0) (hn0 : n0 ≤ 8589934592) (hm0 : m0 ≤ 8589934592) (h1 : NatA w a1 n1 c1 x1) (e1 : NatA w b1 m1 d1 y1) (hn1 : n1 ≤ 8589934592) (hm1 : m1 ≤ 8589934592) (R : Red x0 y0 X Y) :
    Calls Tryz.prog 97 #[.agg #[.slice a0 n0 c0, .slice b0 m0 d0], .agg #[.slice a1 n1 c1, .slice b1 m1 d1]] w fun e w' => ∃ a k d a' k' d' N D, e = .returned (.agg #[.slice a k d, .slice a' k' d']) ∧ NatO w' a k d N ∧ NatO w' a' k' d' D ∧ Red N D (rstep (X, Y) (x1, y1)).1 (rstep (X, Y) (x1, y1)).2 ∧ k ≤ n0 + n1 + m0 + m1 + 3 ∧ k' ≤ m0 + m1 + 2 ∧ Below w.heap.size w w' := by
  have R1 := red_of (cn_nonneg y1 h1.nonneg) (cd_pos e1.nonneg)
  have hd := R.d0
  refine (qStep h0 e0 hn0 hm0 h1 e1 hn1 hm1 (by omega)).mono ?_
  rintro e w1 ⟨a, k, d, a', k', d', rfl, O1, O2, hk, hk', hB⟩
  exact ⟨a, k, d, a', k', d', _, _, rfl, O1, O2, tog_sum R R1, hk, hk', hB⟩
/-- rat.Sub: a - b in lowest terms where it is not below 0 -/
theorem qSubR {w : World} {a0 b0 : Option Addr} {n0 c0 m0 d0 : Nat} {x0 y0 : Int} {a1 b1 : Option Addr} {n1 c1 m1 d1 : Nat} {x1 y1 : Int} (h0 : NatA w a0 n0 c0 x0) (e0 : NatA w b0 m0 d0 y0) (hn0 : n0 ≤ 8589934592) (hm0 : m0 ≤ 8589934592) (h1 : NatA w a1 n1 c1 x1) (e1 : NatA w b1 m1 d1 y1) (hn1 : n1 ≤ 8589934592) (hm1 : m1 ≤ 8589934592) (hge : cn x1 y1 * cd y0 ≤ cn x0 y0 * cd y1) :
    Calls Tryz.prog 44 #[.agg #[.slice a0 n0 c0, .slice b0 m0 d0], .agg #[.slice a1 n1 c1, .slice b1 m1 d1]] w fun e w' => ∃ a k d a' k' d' N D, e = .returned (.tuple #[.agg #[.slice a k d, .slice a' k' d'], .int .i64 0]) ∧ NatO w' a k d N ∧ NatO w' a' k' d' D ∧ Red N D (cn x0 y0 * cd y1 - cn x1 y1 * cd y0) (cd y0 * cd y1) ∧ k ≤ n0 + n1 + m0 + m1 + 3 ∧ k' ≤ m0 + m1 + 2 ∧ Below w.heap.size w w' := by
  have R0 := red_of (cn_nonneg y0 h0.nonneg) (cd_pos e0.nonneg)
  have R1 := red_of (cn_nonneg y1 h1.nonneg) (cd_pos e1.nonneg)
  have hh := (tog_le R0 R1 (cd_pos e0.nonneg) (cd_pos e1.nonneg)).2 hge
  refine (qSub h0 e0 hn0 hm0 h1 e1 hn1 hm1 hh).mono ?_
  rintro e w1 ⟨a, k, d, a', k', d', rfl, O1, O2, hk, hk', hB⟩
  exact ⟨a, k, d, a', k', d', _, _, rfl, O1, O2, tog_diff R0 R1 hh, hk, hk', hB⟩
theorem qSubRLt {w : World} {a0 b0 : Option Addr} {n0 c0 m0 d0 : Nat} {x0 y0 : Int} {a1 b1 : Option Addr} {n1 c1 m1 d1 : Nat} {x1 y1 : Int} (h0 : NatA w a0 n0 c0 x0) (e0 : NatA w b0 m0 d0 y0) (hn0 : n0 ≤ 8589934592) (hm0 : m0 ≤ 8589934592) (h1 : NatA w a1 n1 c1 x1) (e1 : NatA w b1 m1 d1 y1) (hn1 : n1 ≤ 8589934592) (hm1 : m1 ≤ 8589934592) (hlt : cn x0 y0 * cd y1 < cn x1 y1 * cd y0) :
    Calls Tryz.prog 44 #[.agg #[.slice a0 n0 c0, .slice b0 m0 d0], .agg #[.slice a1 n1 c1, .slice b1 m1 d1]] w fun e w' => e = .returned (.tuple #[.agg #[.slice none 0 0, .slice none 0 0], .int .i64 31]) ∧ Below w.heap.size w w' := by
  have R0 := red_of (cn_nonneg y0 h0.nonneg) (cd_pos e0.nonneg)
  have R1 := red_of (cn_nonneg y1 h1.nonneg) (cd_pos e1.nonneg)
  refine qSubLt h0 e0 hn0 hm0 h1 e1 hn1 hm1 (Int.not_le.1 fun h => ?_)
  have := (tog_le R0 R1 (cd_pos e0.nonneg) (cd_pos e1.nonneg)).1 h
  omega
end Go.Proofs.YtlbndpkdkdgggaaGreatDoor

namespace Go.Proofs.YtlbndpkdkdgggaaGreatDoor
open Go.RowKit Lim

/-- fractions lie one behind the other at ao -/
structure RatL (w : World) (ao : Option Addr) (l : List (Int × Int)) (B : Nat) : Prop where
  get : ∀ i (h : i < l.length), ∃ b o a0 n0 c0 a1 n1 c1, ao = some ⟨b, o, none⟩ ∧ w.cell? ⟨b, o + i * 2, none⟩ = some (.slice a0 n0 c0) ∧ w.cell? ⟨b, o + i * 2 + 1, none⟩ = some (.slice a1 n1 c1) ∧ NatA w a0 n0 c0 l[i].1 ∧ NatA w a1 n1 c1 l[i].2 ∧ n0 ≤ B ∧ n1 ≤ B
theorem RatL.keep {w w' : World} {ao : Option Addr} {l : List (Int × Int)} {B : Nat} (h : RatL w ao l B) (hb : Below w.heap.size w w') : RatL w' ao l B := ⟨fun i hi => by
  obtain ⟨b, o, a0, n0, c0, a1, n1, c1, h1, h2, h3, h4, h5, h6, h7⟩ := h.get i hi
  exact ⟨b, o, a0, n0, c0, a1, n1, c1, h1, by rw [hb.cell (p := ⟨b, o + i * 2, none⟩) (cell_lt h2)]; exact h2, by rw [hb.cell (p := ⟨b, o + i * 2 + 1, none⟩) (cell_lt h3)]; exact h3, h4.keep hb, h5.keep hb, h6, h7⟩⟩
set_option maxHeartbeats 4000000 in
set_option maxRecDepth 100000 in
theorem qFold {w : World} {ao : Option Addr} {n c : Nat} {l : List (Int × Int)} {B : Nat} (hl : l.length = n) (hW : n * (2 * B + 4 + n * (B + 2)) ≤ 8589934592) (h : RatL w ao l B) (hlB : n * (B + 2) ≤ 8589934000) (hb : B ≤ 8589934592) (hn : n ≤ 1099511627776) :
    Calls Tryz.prog 96 #[.func (.func 97) #[] #[], .slice ao n c] w fun e w' => ∃ a k d a' k' d' N D, e = .returned (.agg #[.slice a k d, .slice a' k' d']) ∧ NatO w' a k d N ∧ NatO w' a' k' d' D ∧ Red N D (rsum l).1 (rsum l).2 ∧ k ≤ n * (2 * B + 4 + n * (B + 2)) ∧ k' ≤ 1 + n * (B + 2) ∧ Below w.heap.size w w' := by
  have HB := below_alloc w (.cells #[.slice none 0 0, .slice none 0 0] 40)
  have X4 := box_new w [.slice none 0 0, .slice none 0 0] 40
  replace h := h.keep HB
  go_enter Tryz.func96, Tryz.ntmps96
  go_wp2_with fail
  refine (qOfNat (natO_nil _).a (by omega)).mono ?_
  rintro e w1 ⟨A, K, D, A', K', D', rfl, O1, O2, hk, hk', hB⟩
  replace X4 := X4.keep hB
  replace h := h.keep hB
  replace HB := joinB HB hB
  have hg4 := X4.lt
  clear hB
  have BA := below_alloc w1 (.cells #[.slice A K D, .slice A' K' D'] 40)
  have X5 := box_new w1 [.slice A K D, .slice A' K' D'] 40
  replace O1 := O1.keep BA
  replace O2 := O2.keep BA
  go_wp2_with fail
  go_loopw [11] (fun ti wr => ∃ (k : Nat) (P : Option Addr) (L M : Nat) (P' : Option Addr) (L' M' : Nat) (N Q : Int), k ≤ n ∧ ti = .int .i64 k ∧ Box wr w1.heap.size [.slice P L M, .slice P' L' M'] 40 ∧ NatO wr P L M N ∧ NatO wr P' L' M' Q ∧ Hid (Red N Q (rsum (l.take k)).1 (rsum (l.take k)).2) ∧ Hid (L ≤ k * (2 * B + 4 + n * (B + 2))) ∧ Hid (L' ≤ 1 + k * (B + 2)) ∧ Below w1.heap.size w1 wr) (fun ti _ => n - (intOf ti).toNat)
  case atStart => exact ⟨0, A, K, D, A', K', D', 0, 1, Nat.zero_le _, rfl, X5, O1, O2, ⟨by decide, by decide, by decide, by simp [rsum]⟩, (show K ≤ 0 * _ by omega), (show K' ≤ 1 + 0 * _ by omega), BA⟩
  case round =>
    clear BA X5 O1 O2 hk hk'
    obtain ⟨k, P, L, M, P', L', M', N, Q, hk, rfl, X5, N1, N2, HR, hL, hL', BW⟩ := hrel
    by_cases hlt : k < n
    · have hi : k < l.length := by omega
      obtain ⟨b, o, a0, n0, c0, a1, n1, c1, rfl, q1, q2, E1, E2, hn0, hn1⟩ := (h.keep BW).get k hi
      have HS : Hid (rsum (l.take (k + 1)) = rstep (rsum (l.take k)) l[k]) := rsum_step l k hi
      have hk0 : (k : Int) < n := by omega
      have w1' := Nat.mul_le_mul_right (B + 2) hk
      have w2' := Nat.mul_le_mul_right (2 * B + 4 + n * (B + 2)) hk
      have w3' := Nat.succ_mul k (B + 2)
      have w4' := Nat.succ_mul k (2 * B + 4 + n * (B + 2))
      have w5' := hL.out
      have w6' := hL'.out
      have hLb : L ≤ 8589934592 := by omega
      have hLb' : L' ≤ 8589934592 := by omega
      have HW1 : Hid (∀ G, G ≤ L + n0 + L' + n1 + 3 → G ≤ (k + 1) * (2 * B + 4 + n * (B + 2))) := fun G hG => by
        rw [show k + 1 = k.succ from rfl, w4']; omega
      have HW2 : Hid (∀ G, G ≤ L' + n1 + 2 → G ≤ 1 + (k + 1) * (B + 2)) := fun G hG => by
        rw [show k + 1 = k.succ from rfl, w3']; omega
      clear w1' w2' w3' w4' w5' w6' hL hL'
      generalize l[k] = ev at *
      obtain ⟨x1, y1⟩ := ev
      have BE := below_alloc wr (.cells #[.slice a0 n0 c0, .slice a1 n1 c1] 40)
      have XE := box_new wr [.slice a0 n0 c0, .slice a1 n1 c1] 40
      replace X5 := X5.keep BE
      replace N1 := N1.keep BE
      replace N2 := N2.keep BE
      replace E1 := E1.keep BE
      replace E2 := E2.keep BE
      replace BW := joinB BW BE
      obtain ⟨j1, j2, j3, j4⟩ := X5.cells2
      obtain ⟨i1, i2, i3, i4⟩ := XE.cells2
      go_wp2_with fail
      refine (qStepR N1.a N2.a (by omega) (by omega) E1 E2 (by omega) (by omega) HR.out).mono ?_
      rintro e w2 ⟨F, G, H, F', G', H', N3, Q3, rfl, T1, T2, R3, hG, hG', hB⟩
      have HR3 : Hid (Red N3 Q3 (rsum (l.take (k + 1))).1 (rsum (l.take (k + 1))).2) := by
        show Red _ _ _ _
        rw [HS.out]; exact R3
      clear j1 j2 j3 j4 i1 i2 i3 i4 N1 N2 E1 E2 XE BE q1 q2 R3 HS HR
      replace X5 := X5.keep hB
      replace BW := joinB BW hB
      obtain ⟨j1, j2, j3, j4⟩ := X5.cells2
      have S2 := X5.put2 (.slice F G H) (.slice F' G' H')
      have Q1 := T1.put2 X5 (.slice F G H) (.slice F' G' H')
      have Q2 := T2.put2 X5 (.slice F G H) (.slice F' G' H')
      have BW2 := below_put2 BW (g := w1.heap.size) (Nat.le_refl _) (.slice F G H) (.slice F' G' H')
      clear hB T1 T2 X5 BW
      go_wp2
      go_roundw
      case rel => exact ⟨k + 1, F, G, H, F', G', H', N3, Q3, by omega, by go_num, S2, Q1, Q2, HR3, HW1.out _ hG, HW2.out _ hG', BW2⟩
      case measure => simp [intOf]; omega
    · have hkn : k = n := by omega
      subst hkn
      have HR3 : Hid (Red N Q (rsum l).1 (rsum l).2) := by
        have h3 := HR.out
        rw [List.take_of_length_le (by omega)] at h3
        exact h3
      clear HR
      have hX4 := X4.keep BW
      obtain ⟨j1, j2, j3, j4⟩ := X5.cells2
      obtain ⟨i1, i2, i3, i4⟩ := hX4.cells2
      have S2 := hX4.put2 (.slice P L M) (.slice P' L' M')
      have Q1 := N1.put2 hX4 (.slice P L M) (.slice P' L' M')
      have Q2 := N2.put2 hX4 (.slice P L M) (.slice P' L' M')
      have HB2 := below_put2 (joinB HB BW) (g := w.heap.size) (Nat.le_refl _) (.slice P L M) (.slice P' L' M')
      clear N1 N2 X4 hX4 X5 HB BW
      go_wp2
      refine bodyPost_ret (ret_rat rfl rfl S2) rfl ?_
      exact ⟨P, L, M, P', L', M', N, Q, rfl, Q1, Q2, HR3.out, hL.out, hL'.out, HB2⟩
set_option maxHeartbeats 4000000 in
set_option maxRecDepth 100000 in
theorem qSum {w : World} {ao : Option Addr} {n c : Nat} {l : List (Int × Int)} {B : Nat} (hl : l.length = n) (hW : n * (2 * B + 4 + n * (B + 2)) ≤ 8589934592) (h : RatL w ao l B) (hlB : n * (B + 2) ≤ 8589934000) (hb : B ≤ 8589934592) (hn : n ≤ 1099511627776) :
    Calls Tryz.prog 58 #[.slice ao n c] w fun e w' => ∃ a k d a' k' d' N D, e = .returned (.agg #[.slice a k d, .slice a' k' d']) ∧ NatO w' a k d N ∧ NatO w' a' k' d' D ∧ Red N D (rsum l).1 (rsum l).2 ∧ k ≤ n * (2 * B + 4 + n * (B + 2)) ∧ k' ≤ 1 + n * (B + 2) ∧ Below w.heap.size w w' := by
  have HB := below_alloc w (.cells #[.slice none 0 0, .slice none 0 0] 40)
  have X4 := box_new w [.slice none 0 0, .slice none 0 0] 40
  replace h := h.keep HB
  go_enter Tryz.func58, Tryz.ntmps58
  go_wp2_with fail
  refine (qFold hl hW h hlB hb hn).mono ?_
  rintro e w1 ⟨P, L, M, P', L', M', N, Q, rfl, N1, N2, R3, hL, hL', hB⟩
  have HR := (show Hid _ from R3)
  clear R3
  replace X4 := X4.keep hB
  replace HB := joinB HB hB
  obtain ⟨i1, i2, i3, i4⟩ := X4.cells2
  have S2 := X4.put2 (.slice P L M) (.slice P' L' M')
  have Q1 := N1.put2 X4 (.slice P L M) (.slice P' L' M')
  have Q2 := N2.put2 X4 (.slice P L M) (.slice P' L' M')
  have HB2 := below_put2 HB (g := w.heap.size) (Nat.le_refl _) (.slice P L M) (.slice P' L' M')
  clear N1 N2 X4 HB hB h
  go_wp2
  refine bodyPost_ret (ret_rat rfl rfl S2) rfl ?_
  exact ⟨P, L, M, P', L', M', N, Q, rfl, Q1, Q2, HR.out, hL, hL', HB2⟩
theorem ratl_two {w : World} {g : Nat} {t : TypeId} {B : Nat} {a0 b0 : Option Addr} {n0 c0 m0 d0 : Nat} {x0 y0 : Int} {a1 b1 : Option Addr} {n1 c1 m1 d1 : Nat} {x1 y1 : Int} (hB : Box w g [.slice a0 n0 c0, .slice b0 m0 d0, .slice a1 n1 c1, .slice b1 m1 d1] t) (h0 : NatA w a0 n0 c0 x0) (e0 : NatA w b0 m0 d0 y0) (h1 : NatA w a1 n1 c1 x1) (e1 : NatA w b1 m1 d1 y1) (hn0 : n0 ≤ B) (hm0 : m0 ≤ B) (hn1 : n1 ≤ B) (hm1 : m1 ≤ B) :
    RatL w (some ⟨g, 0, none⟩) [(x0, y0), (x1, y1)] B := ⟨fun i hi => by
  have hb := hB.blk
  match i, hi with
  | 0, _ => exact ⟨g, 0, a0, n0, c0, b0, m0, d0, rfl, by simp [World.cell?, hb], by simp [World.cell?, hb], h0, e0, hn0, hm0⟩
  | 1, _ => exact ⟨g, 0, a1, n1, c1, b1, m1, d1, rfl, by simp [World.cell?, hb], by simp [World.cell?, hb], h1, e1, hn1, hm1⟩⟩
set_option maxHeartbeats 4000000 in
set_option maxRecDepth 100000 in
theorem qAdd {w : World} {B : Nat} {a0 b0 : Option Addr} {n0 c0 m0 d0 : Nat} {x0 y0 : Int} {a1 b1 : Option Addr} {n1 c1 m1 d1 : Nat} {x1 y1 : Int} (h0 : NatA w a0 n0 c0 x0) (e0 : NatA w b0 m0 d0 y0) (hn0 : n0 ≤ B) (hm0 : m0 ≤ B) (h1 : NatA w a1 n1 c1 x1) (e1 : NatA w b1 m1 d1 y1) (hn1 : n1 ≤ B) (hm1 : m1 ≤ B) (hb : B ≤ 1000000000) :
    Calls Tryz.prog 52 #[.agg #[.slice a0 n0 c0, .slice b0 m0 d0], .agg #[.slice a1 n1 c1, .slice b1 m1 d1]] w fun e w' => ∃ a k d a' k' d' N D, e = .returned (.agg #[.slice a k d, .slice a' k' d']) ∧ NatO w' a k d N ∧ NatO w' a' k' d' D ∧ Red N D (rsum [(x0, y0), (x1, y1)]).1 (rsum [(x0, y0), (x1, y1)]).2 ∧ k ≤ 8 * B + 16 ∧ k' ≤ 2 * B + 5 ∧ Below w.heap.size w w' := by
  have HB := below3 w (.cells #[.slice a0 n0 c0, .slice b0 m0 d0] 40) (.cells #[.slice a1 n1 c1, .slice b1 m1 d1] 40) (.cells #[.slice none 0 0, .slice none 0 0] 40)
  have P0 := ((box_new w [.slice a0 n0 c0, .slice b0 m0 d0] 40).keep (below_alloc _ (.cells #[.slice a1 n1 c1, .slice b1 m1 d1] 40))).keep (below_alloc _ (.cells #[.slice none 0 0, .slice none 0 0] 40))
  have P1 := (box_new (w.alloc (.cells #[.slice a0 n0 c0, .slice b0 m0 d0] 40)) [.slice a1 n1 c1, .slice b1 m1 d1] 40).keep (below_alloc _ (.cells #[.slice none 0 0, .slice none 0 0] 40))
  have X4 := box_new ((w.alloc (.cells #[.slice a0 n0 c0, .slice b0 m0 d0] 40)).alloc (.cells #[.slice a1 n1 c1, .slice b1 m1 d1] 40)) [.slice none 0 0, .slice none 0 0] 40
  rw [show (w.alloc (.cells #[.slice a0 n0 c0, .slice b0 m0 d0] 40)).heap.size = w.heap.size + 1 by simp] at P1
  rw [show ((w.alloc (.cells #[.slice a0 n0 c0, .slice b0 m0 d0] 40)).alloc (.cells #[.slice a1 n1 c1, .slice b1 m1 d1] 40)).heap.size = w.heap.size + 1 + 1 by simp] at X4
  replace h0 := h0.keep HB
  replace e0 := e0.keep HB
  replace h1 := h1.keep HB
  replace e1 := e1.keep HB
  obtain ⟨j1, j2, j3, j4⟩ := P0.cells2
  obtain ⟨i1, i2, i3, i4⟩ := P1.cells2
  have BA := below_alloc (((w.alloc (.cells #[.slice a0 n0 c0, .slice b0 m0 d0] 40)).alloc (.cells #[.slice a1 n1 c1, .slice b1 m1 d1] 40)).alloc (.cells #[.slice none 0 0, .slice none 0 0] 40)) (.cells #[.slice a0 n0 c0, .slice b0 m0 d0, .slice a1 n1 c1, .slice b1 m1 d1] 40)
  have XL := box_new (((w.alloc (.cells #[.slice a0 n0 c0, .slice b0 m0 d0] 40)).alloc (.cells #[.slice a1 n1 c1, .slice b1 m1 d1] 40)).alloc (.cells #[.slice none 0 0, .slice none 0 0] 40)) [.slice a0 n0 c0, .slice b0 m0 d0, .slice a1 n1 c1, .slice b1 m1 d1] 40
  rw [show (((w.alloc (.cells #[.slice a0 n0 c0, .slice b0 m0 d0] 40)).alloc (.cells #[.slice a1 n1 c1, .slice b1 m1 d1] 40)).alloc (.cells #[.slice none 0 0, .slice none 0 0] 40)).heap.size = w.heap.size + 1 + 1 + 1 by simp] at XL
  have RL := ratl_two XL (h0.keep BA) (e0.keep BA) (h1.keep BA) (e1.keep BA) hn0 hm0 hn1 hm1
  replace HB := joinB HB BA
  replace X4 := X4.keep BA
  clear h0 e0 h1 e1 XL BA
  go_enter Tryz.func52, Tryz.ntmps52
  go_wp2_with fail
  refine (qSum (l := [(x0, y0), (x1, y1)]) (n := 2) rfl (by omega) RL (by omega) (by omega) (by omega)).mono ?_
  rintro e w1 ⟨P, L, M, P', L', M', N, Q, rfl, N1, N2, R3, hL, hL', hB⟩
  have HR := (show Hid _ from R3)
  clear R3 j1 j2 j3 j4 i1 i2 i3 i4 P0 P1
  replace X4 := X4.keep hB
  replace HB := joinB HB hB
  obtain ⟨i1, i2, i3, i4⟩ := X4.cells2
  have S2 := X4.put2 (.slice P L M) (.slice P' L' M')
  have Q1 := N1.put2 X4 (.slice P L M) (.slice P' L' M')
  have Q2 := N2.put2 X4 (.slice P L M) (.slice P' L' M')
  have HB2 := below_put2 HB (g := w.heap.size + 1 + 1) (by omega) (.slice P L M) (.slice P' L' M')
  clear N1 N2 X4 HB hB RL
  go_wp2
  refine bodyPost_ret (ret_rat rfl rfl S2) rfl ?_
  exact ⟨P, L, M, P', L', M', N, Q, rfl, Q1, Q2, HR.out, by omega, by omega, HB2⟩
end Go.Proofs.YtlbndpkdkdgggaaGreatDoor

namespace Go.Proofs.YtlbndpkdkdgggaaGreatDoor
open Go.RowKit Lim

set_option maxHeartbeats 4000000 in
set_option maxRecDepth 100000 in
theorem qSame {w : World} {a0 b0 : Option Addr} {n0 c0 m0 d0 : Nat} {x0 y0 : Int} {a1 b1 : Option Addr} {n1 c1 m1 d1 : Nat} {x1 y1 : Int} (h0 : NatO w a0 n0 c0 x0) (e0 : NatO w b0 m0 d0 y0) (hn0 : n0 ≤ 4398046511104) (hm0 : m0 ≤ 4398046511104) (h1 : NatO w a1 n1 c1 x1) (e1 : NatO w b1 m1 d1 y1) (hn1 : n1 ≤ 4398046511104) (hm1 : m1 ≤ 4398046511104) :
    Calls Tryz.prog 16 #[.agg #[.slice a0 n0 c0, .slice b0 m0 d0], .agg #[.slice a1 n1 c1, .slice b1 m1 d1]] w fun e w' => e = .returned (.bool (decide (x0 = x1 ∧ y0 = y1))) ∧ Below w.heap.size w w' := by
  have HB := below2 w (.cells #[.slice a0 n0 c0, .slice b0 m0 d0] 40) (.cells #[.slice a1 n1 c1, .slice b1 m1 d1] 40)
  have P0 := (box_new w [.slice a0 n0 c0, .slice b0 m0 d0] 40).keep (below_alloc _ (.cells #[.slice a1 n1 c1, .slice b1 m1 d1] 40))
  have P1 := box_new (w.alloc (.cells #[.slice a0 n0 c0, .slice b0 m0 d0] 40)) [.slice a1 n1 c1, .slice b1 m1 d1] 40
  rw [show (w.alloc (.cells #[.slice a0 n0 c0, .slice b0 m0 d0] 40)).heap.size = w.heap.size + 1 by simp] at P1
  replace h0 := h0.keep HB
  replace e0 := e0.keep HB
  replace h1 := h1.keep HB
  replace e1 := e1.keep HB
  obtain ⟨j1, j2, j3, j4⟩ := P0.cells2
  obtain ⟨i1, i2, i3, i4⟩ := P1.cells2
  have t := nSame h0 h1 hn0 hn1
  by_cases hx : x0 = x1
  · rw [decide_eq_true hx] at t
    rw [show decide (x0 = x1 ∧ y0 = y1) = decide (y0 = y1) from decide_eq_decide.2 ⟨fun h => h.2, fun h => ⟨hx, h⟩⟩]
    clear hx
    go_enter Tryz.func16, Tryz.ntmps16
    go_wp2_with fail
    refine t.mono ?_
    rintro e w1 ⟨rfl, hB⟩
    replace e0 := e0.keep hB
    replace e1 := e1.keep hB
    replace P0 := P0.keep hB
    replace P1 := P1.keep hB
    replace HB := joinB HB hB
    clear hB t j1 j2 j3 j4 i1 i2 i3 i4 h0 h1
    obtain ⟨j1, j2, j3, j4⟩ := P0.cells2
    obtain ⟨i1, i2, i3, i4⟩ := P1.cells2
    go_wp2_with fail
    refine (nSame e0 e1 hm0 hm1).mono ?_
    rintro e w2 ⟨rfl, hB⟩
    go_wp2
    go_ret
    exact ⟨rfl, joinB HB hB⟩
  · rw [decide_eq_false hx] at t
    rw [decide_eq_false (fun h => hx h.1)]
    clear hx
    go_enter Tryz.func16, Tryz.ntmps16
    go_wp2_with fail
    refine t.mono ?_
    rintro e w1 ⟨rfl, hB⟩
    clear t
    go_wp2
    go_ret
    exact ⟨rfl, joinB HB hB⟩
end Go.Proofs.YtlbndpkdkdgggaaGreatDoor

namespace Go.Proofs.YtlbndpkdkdgggaaGreatDoor
open Go.RowKit Lim

set_option maxHeartbeats 1000000 in
set_option maxRecDepth 100000 in
theorem qZero {w : World} {ao ao' : Option Addr} {n c n' c' : Nat} {x y : Int} (h : NatA w ao n c x) (h' : NatA w ao' n' c' y) (hn : n ≤ 1099511627776) (hn' : n' ≤ 1099511627776) :
    Calls Tryz.prog 40 #[.agg #[.slice ao n c, .slice ao' n' c']] w fun e w' => e = .returned (.bool (decide (x = 0 ∨ y = 0))) ∧ Below w.heap.size w w' := by
  have B0 := below_alloc w (.cells #[.slice ao n c, .slice ao' n' c'] 40)
  have SP := box_new w [.slice ao n c, .slice ao' n' c'] 40
  replace h := h.keep B0
  replace h' := h'.keep B0
  obtain ⟨p1, p2, p3, p4⟩ := SP.cells2
  have t := nBits h hn
  have hm := bitLen_zero x h.nonneg
  by_cases hx : x = 0
  · have hm := hm.2 hx
    rw [hm] at t
    rw [decide_eq_true (Or.inl hx)]
    clear hm hx h
    go_enter Tryz.func40, Tryz.ntmps40
    go_wp2_with fail
    refine t.mono ?_
    rintro e w1 ⟨rfl, hB⟩
    go_wp2
    go_ret
    exact ⟨rfl, joinB B0 hB⟩
  · have hm1 : bitLen x.toNat ≠ 0 := fun e => hx (hm.1 e)
    clear hm
    generalize bitLen x.toNat = m at *
    obtain ⟨j, rfl⟩ : ∃ j, m = j + 1 := ⟨m - 1, by omega⟩
    clear hm1
    have hz := bitLen_zero y h'.nonneg
    by_cases hy : y = 0
    · have hz := hz.2 hy
      rw [decide_eq_true (Or.inr hy)]
      clear hx hy h
      go_enter Tryz.func40, Tryz.ntmps40
      go_wp2_with fail
      refine t.mono ?_
      rintro e w1 ⟨rfl, hB⟩
      have t' := nBits (h'.keep hB) hn'
      rw [hz] at t'
      replace SP := SP.keep hB
      replace B0 := joinB B0 hB
      obtain ⟨p1, p2, p3, p4⟩ := SP.cells2
      clear hB t hz h'
      go_wp2_with fail
      refine t'.mono ?_
      rintro e w2 ⟨rfl, hB⟩
      clear t'
      go_wp2
      go_ret
      exact ⟨rfl, joinB B0 hB⟩
    · have hz1 : bitLen y.toNat ≠ 0 := fun e => hy (hz.1 e)
      rw [decide_eq_false (fun h => h.elim hx hy)]
      clear hx hy h hz
      generalize hq : bitLen y.toNat = q at *
      obtain ⟨i, rfl⟩ : ∃ i, q = i + 1 := ⟨q - 1, by omega⟩
      clear hz1
      go_enter Tryz.func40, Tryz.ntmps40
      go_wp2_with fail
      refine t.mono ?_
      rintro e w1 ⟨rfl, hB⟩
      have t' := nBits (h'.keep hB) hn'
      rw [hq] at t'
      replace SP := SP.keep hB
      replace B0 := joinB B0 hB
      obtain ⟨p1, p2, p3, p4⟩ := SP.cells2
      clear hB t hq h'
      go_wp2_with fail
      refine t'.mono ?_
      rintro e w2 ⟨rfl, hB⟩
      clear t'
      go_wp2
      go_ret
      refine ⟨?_, joinB B0 hB⟩
      congr 2
end Go.Proofs.YtlbndpkdkdgggaaGreatDoor

namespace Go.Proofs.YtlbndpkdkdgggaaGreatDoor
open Go.RowKit Lim

set_option maxHeartbeats 4000000 in
set_option maxRecDepth 100000 in
theorem qQuoZ {w : World} {v : Value} {u1 u2 : Value} {a1 b1 : Option Addr} {n1 c1 m1 d1 : Nat} {x1 y1 : Int} (hv : v = .agg #[u1, u2]) (h1 : NatA w a1 n1 c1 x1) (e1 : NatA w b1 m1 d1 y1) (hn1 : n1 ≤ 34359738368) (hm1 : m1 ≤ 34359738368) (hz : x1 = 0 ∨ y1 = 0) :
    Calls Tryz.prog 35 #[v, .agg #[.slice a1 n1 c1, .slice b1 m1 d1]] w fun e w' => e = .returned (.tuple #[.agg #[.slice none 0 0, .slice none 0 0], .int .i64 30]) ∧ Below w.heap.size w w' := by
  subst hv
  have HB := below3 w (.cells #[u1, u2] 40) (.cells #[.slice a1 n1 c1, .slice b1 m1 d1] 40) (.cells #[.slice none 0 0, .slice none 0 0] 40)
  have P1 := (box_new (w.alloc (.cells #[u1, u2] 40)) [.slice a1 n1 c1, .slice b1 m1 d1] 40).keep (below_alloc _ (.cells #[.slice none 0 0, .slice none 0 0] 40))
  have X4 := box_new ((w.alloc (.cells #[u1, u2] 40)).alloc (.cells #[.slice a1 n1 c1, .slice b1 m1 d1] 40)) [.slice none 0 0, .slice none 0 0] 40
  rw [show (w.alloc (.cells #[u1, u2] 40)).heap.size = w.heap.size + 1 by simp] at P1
  rw [show ((w.alloc (.cells #[u1, u2] 40)).alloc (.cells #[.slice a1 n1 c1, .slice b1 m1 d1] 40)).heap.size = w.heap.size + 1 + 1 by simp] at X4
  replace h1 := h1.keep HB
  replace e1 := e1.keep HB
  have t := qZero h1 e1 (by omega) (by omega)
  rw [decide_eq_true hz] at t
  clear hz
  have hld := load_rat P1
  go_enter Tryz.func35, Tryz.ntmps35
  go_wp2_with fail
  refine t.mono ?_
  rintro e w1 ⟨rfl, hB⟩
  replace X4 := X4.keep hB
  replace HB := joinB HB hB
  obtain ⟨k1, k2, k3, k4⟩ := X4.cells2
  have S2 := X4.put2 (.slice none 0 0) (.slice none 0 0)
  have HB2 := below_put2 HB (g := w.heap.size + 1 + 1) (by omega) (.slice none 0 0) (.slice none 0 0)
  clear hB t h1 e1 P1 X4 HB hld
  go_wp2
  refine bodyPost_ret (ret_rat_tmp rfl rfl rfl S2) rfl ?_
  exact ⟨rfl, HB2⟩
set_option maxHeartbeats 4000000 in
set_option maxRecDepth 100000 in
theorem qQuo {w : World} {a0 b0 : Option Addr} {n0 c0 m0 d0 : Nat} {x0 y0 : Int} {a1 b1 : Option Addr} {n1 c1 m1 d1 : Nat} {x1 y1 : Int} (h0 : NatA w a0 n0 c0 x0) (e0 : NatA w b0 m0 d0 y0) (hn0 : n0 ≤ 34359738368) (hm0 : m0 ≤ 34359738368) (h1 : NatA w a1 n1 c1 x1) (e1 : NatA w b1 m1 d1 y1) (hn1 : n1 ≤ 34359738368) (hm1 : m1 ≤ 34359738368) (hx : x1 ≠ 0) (hy : y1 ≠ 0) :
    Calls Tryz.prog 35 #[.agg #[.slice a0 n0 c0, .slice b0 m0 d0], .agg #[.slice a1 n1 c1, .slice b1 m1 d1]] w fun e w' => ∃ a k d a' k' d', e = .returned (.tuple #[.agg #[.slice a k d, .slice a' k' d'], .int .i64 0]) ∧ NatO w' a k d (rn (cn x0 y0 * cn y1 x1) (cd y0 * cd x1)) ∧ NatO w' a' k' d' (rd (cn x0 y0 * cn y1 x1) (cd y0 * cd x1)) ∧ k ≤ n0 + m1 ∧ k' ≤ m0 + n1 + 2 ∧ Below w.heap.size w w' := by
  have HB := below3 w (.cells #[.slice a0 n0 c0, .slice b0 m0 d0] 40) (.cells #[.slice a1 n1 c1, .slice b1 m1 d1] 40) (.cells #[.slice none 0 0, .slice none 0 0] 40)
  have P0 := ((box_new w [.slice a0 n0 c0, .slice b0 m0 d0] 40).keep (below_alloc _ (.cells #[.slice a1 n1 c1, .slice b1 m1 d1] 40))).keep (below_alloc _ (.cells #[.slice none 0 0, .slice none 0 0] 40))
  have P1 := (box_new (w.alloc (.cells #[.slice a0 n0 c0, .slice b0 m0 d0] 40)) [.slice a1 n1 c1, .slice b1 m1 d1] 40).keep (below_alloc _ (.cells #[.slice none 0 0, .slice none 0 0] 40))
  have X4 := box_new ((w.alloc (.cells #[.slice a0 n0 c0, .slice b0 m0 d0] 40)).alloc (.cells #[.slice a1 n1 c1, .slice b1 m1 d1] 40)) [.slice none 0 0, .slice none 0 0] 40
  rw [show (w.alloc (.cells #[.slice a0 n0 c0, .slice b0 m0 d0] 40)).heap.size = w.heap.size + 1 by simp] at P1
  rw [show ((w.alloc (.cells #[.slice a0 n0 c0, .slice b0 m0 d0] 40)).alloc (.cells #[.slice a1 n1 c1, .slice b1 m1 d1] 40)).heap.size = w.heap.size + 1 + 1 by simp] at X4
  replace h0 := h0.keep HB
  replace e0 := e0.keep HB
  replace h1 := h1.keep HB
  replace e1 := e1.keep HB
  have t := qZero h1 e1 (by omega) (by omega)
  rw [decide_eq_false (fun h => h.elim hx hy)] at t
  clear hx hy
  have hld := load_rat P1
  go_enter Tryz.func35, Tryz.ntmps35
  go_wp2_with fail
  refine t.mono ?_
  rintro e w1 ⟨rfl, hB⟩
  replace h0 := h0.keep hB
  replace e0 := e0.keep hB
  replace h1 := h1.keep hB
  replace e1 := e1.keep hB
  replace P0 := P0.keep hB
  replace P1 := P1.keep hB
  replace X4 := X4.keep hB
  replace HB := joinB HB hB
  clear hB t hld
  obtain ⟨k1, k2, k3, k4⟩ := P1.cells2
  obtain ⟨j1, j2, j3, j4⟩ := P0.cells2
  go_wp2_with fail
  refine (qMul h0 e0 (by omega) (by omega) e1 h1 (by omega) (by omega)).mono ?_
  rintro e w2 ⟨a, k, d, a', k', d', rfl, O1, O2, hk, hk', hB⟩
  clear k1 k2 k3 k4 j1 j2 j3 j4 P0 P1 h0 e0 h1 e1
  replace X4 := X4.keep hB
  replace HB := joinB HB hB
  obtain ⟨k1, k2, k3, k4⟩ := X4.cells2
  have S2 := X4.put2 (.slice a k d) (.slice a' k' d')
  have Q1 := O1.put2 X4 (.slice a k d) (.slice a' k' d')
  have Q2 := O2.put2 X4 (.slice a k d) (.slice a' k' d')
  have HB2 := below_put2 HB (g := w.heap.size + 1 + 1) (by omega) (.slice a k d) (.slice a' k' d')
  clear hB O1 O2 X4 HB
  go_wp2
  refine bodyPost_ret (ret_rat_tmp rfl rfl rfl S2) rfl ?_
  exact ⟨a, k, d, a', k', d', rfl, Q1, Q2, by omega, by omega, HB2⟩
end Go.Proofs.YtlbndpkdkdgggaaGreatDoor

namespace Go.Proofs.YtlbndpkdkdgggaaGreatDoor
open Go.RowKit Lim

set_option maxHeartbeats 4000000 in
set_option maxRecDepth 100000 in
theorem qOfDec {w : World} {ao : Option Addr} {n c : Nat} {x : Int} (h : NatA w ao n c x) (hn : n ≤ 274877906944) :
    Calls Tryz.prog 36 #[.agg #[.slice ao n c]] w fun e w' => ∃ a k d a' k' d', e = .returned (.agg #[.slice a k d, .slice a' k' d']) ∧ NatO w' a k d (rn x U36) ∧ NatO w' a' k' d' (rd x U36) ∧ k ≤ n ∧ k' ≤ 39 ∧ Below w.heap.size w w' := by
  have HB := below2 w (.cells #[.slice ao n c] 35) (.cells #[.slice none 0 0, .slice none 0 0] 40)
  have PX := (box_new w [.slice ao n c] 35).keep (below_alloc _ (.cells #[.slice none 0 0, .slice none 0 0] 40))
  have X4 := box_new (w.alloc (.cells #[.slice ao n c] 35)) [.slice none 0 0, .slice none 0 0] 40
  rw [show (w.alloc (.cells #[.slice ao n c] 35)).heap.size = w.heap.size + 1 by simp] at X4
  replace h := h.keep HB
  go_enter Tryz.func36, Tryz.ntmps36
  go_wp2_with fail
  refine rg_start (S := fun w' => Box w' w.heap.size [.slice ao n c] 35 ∧ True) (by kernel_rfl) (⟨PX.drew, trivial⟩) ?_
  replace h := h.drew
  replace HB := HB.drew
  replace PX := PX.drew
  replace X4 := X4.drew
  have hS := (show _ ∧ _ from ⟨PX, trivial⟩)
  clear PX
  refine rg_take 0 (some 3) (.pointer (some ⟨w.heap.size, 0, none⟩)) (by kernel_rfl) (fun _ _ => by kernel_rfl) (fun _ _ _ h => h) hS ?_
  refine rg_load 1 (some 4) (.slice ao n c) 33 3 (w.heap.size) 0 (by kernel_rfl) (by kernel_rfl) (by kernel_rfl) (fun _ hs => load_raw ⟨hs.1.blk⟩) (fun _ _ _ h => h) hS ?_
  refine rg_call 2 (some 5) 79 #[] (by kernel_rfl) (by kernel_rfl) (qUnit) ?_
  rintro e z1 ⟨A, K, DD, rfl, OU, hK, hB⟩
  refine ⟨_, rfl, ⟨hS.1.keep hB, trivial⟩, ?_⟩
  replace hS := (show _ ∧ _ from ⟨hS.1.keep hB, trivial⟩)
  replace h := h.keep hB
  replace X4 := X4.keep hB
  replace HB := joinB HB hB
  clear hB
  refine rg_call 3 (some 6) 78 #[.slice ao n c, .slice A K DD] (by kernel_rfl) (by kernel_rfl) (qReduced h OU.a (by omega) (by omega) (by decide)) ?_
  rintro e z2 ⟨Ar, Kr, Dr, As', Ks, Ds, rfl, Or1, Or2, hkr, hks, hB⟩
  refine ⟨_, rfl, ⟨hS.1.keep hB, trivial⟩, ?_⟩
  replace hS := (show _ ∧ _ from ⟨hS.1.keep hB, trivial⟩)
  replace h := h.keep hB
  replace X4 := X4.keep hB
  replace OU := OU.keep hB
  replace HB := joinB HB hB
  clear hB
  refine rg_ready [4] (by kernel_rfl) (by simp) ?_
  refine ar_store 4 40 40 2 6 (w.heap.size + 1) [.slice none 0 0, .slice none 0 0] [.slice Ar Kr Dr, .slice As' Ks Ds] (by kernel_rfl) (by kernel_rfl) (by kernel_rfl) (by kernel_rfl) X4 (by kernel_rfl) rfl (by kernel_rfl) ?_ ar_nil
  intro z3 Y hw hB
  refine ⟨⟨hS.1.off (by omega) hw, trivial⟩, ?_⟩
  replace hS := (show _ ∧ _ from ⟨hS.1.off (by omega) hw, trivial⟩)
  replace HB := HB.trans (hB.mono (by omega))
  replace h := h.blk X4 (no_ints2 _ _ _ _ _ _) hw
  skip
  replace OU := OU.blk X4 (no_ints2 _ _ _ _ _ _) hw
  replace Or1 := Or1.blk X4 (no_ints2 _ _ _ _ _ _) hw
  replace Or2 := Or2.blk X4 (no_ints2 _ _ _ _ _ _) hw
  replace X4 := Y
  clear hB hw
  refine rg_done (by kernel_rfl) ?_
  try simp only [Act.put, List.setIfInBounds_toArray, List.set_cons_zero, List.set_cons_succ]
  go_wp2
  refine bodyPost_ret (ret_rat rfl rfl X4) rfl ?_
  exact ⟨_, _, _, _, _, _, rfl, Or1, Or2, by omega, by omega, HB⟩
end Go.Proofs.YtlbndpkdkdgggaaGreatDoor

namespace Go.Proofs.YtlbndpkdkdgggaaGreatDoor
open Go.RowKit Lim

/-- block g holds the bytes l -/
structure RowT (w : World) (g : Nat) (t : TypeId) (l : List Int) : Prop where
  blk : w.heap[g]? = some (.cells (l.map (Value.int .u8)).toArray t (0, 0))
theorem RowT.lt {w : World} {g : Nat} {t : TypeId} {l : List Int} (h : RowT w g t l) : g < w.heap.size := lt_of_block h.blk
theorem RowT.keep {w w' : World} {g : Nat} {t : TypeId} {l : List Int} (h : RowT w g t l) (hb : Below w.heap.size w w') : RowT w' g t l := ⟨by rw [hb.block g h.lt]; exact h.blk⟩
theorem RowT.cell {w : World} {g : Nat} {t : TypeId} {l : List Int} (h : RowT w g t l) {i : Nat} (hi : i < l.length) : w.cell? ⟨g, i, none⟩ = some (.int .u8 (nth l i)) := by
  simp [World.cell?, h.blk, hi, nth_eq hi]
theorem RowT.free {w : World} {g : Nat} {t : TypeId} {l : List Int} (h : RowT w g t l) (i : Nat) : w.frozen? ⟨g, i, none⟩ = false := by simp [World.frozen?, h.blk]
theorem RowT.set {w : World} {g : Nat} {t : TypeId} {l : List Int} (h : RowT w g t l) (i : Nat) (x : Int) : RowT (w.setCell ⟨g, i, none⟩ (.int .u8 x)) g t (l.set i x) := ⟨by
  have hb := h.blk
  simp only [World.setCell, Array.getElem?_modify, if_true, hb]
  simp⟩
theorem RowT.other {w : World} {g g' i : Nat} {t : TypeId} {l : List Int} (h : RowT w g t l) (hne : g ≠ g') (u : Value) : RowT (w.setCell ⟨g', i, none⟩ u) g t l := ⟨by rw [Below.heap_setCell w _ u g hne]; exact h.blk⟩
theorem RowT.drew {w : World} {g : Nat} {t : TypeId} {l : List Int} (h : RowT w g t l) : RowT w.drew g t l := ⟨h.blk⟩
theorem rowT_new (w : World) (t : TypeId) (l : List Int) : RowT (w.alloc (.cells (l.map (Value.int .u8)).toArray t)) w.heap.size t l := ⟨by
  show (w.heap.push _)[w.heap.size]? = _
  rw [Array.getElem?_push_size]⟩

/-- the digits of 00 to 99 -/
def pairL : Nat → List Int
  | 0 => []
  | k + 1 => pairL k ++ [48 + (k : Int) / 10, 48 + (k : Int) % 10]
theorem pairL_length (k : Nat) : (pairL k).length = 2 * k := by
  induction k with
  | zero => rfl
  | succ k ih => simp [pairL, ih]; omega
theorem pairL_nth {k i : Nat} (h : i < k) : nth (pairL k) (2 * i) = 48 + (i : Int) / 10 ∧ nth (pairL k) (2 * i + 1) = 48 + (i : Int) % 10 := by
  induction k with
  | zero => omega
  | succ k ih =>
    have hl := pairL_length k
    by_cases e : i = k
    · subst e
      rw [pairL, nth_append_right (by omega), nth_append_right (by omega), hl, Nat.sub_self, show 2 * i + 1 - 2 * i = 1 by omega]
      exact ⟨rfl, rfl⟩
    · rw [pairL, nth_append_left (by omega), nth_append_left (by omega)]
      exact ih (by omega)

end Go.Proofs.YtlbndpkdkdgggaaGreatDoor

namespace Go.Proofs.YtlbndpkdkdgggaaGreatDoor
open Go.RowKit Lim

/-- what groups are worth, the lowest first -/
def gval : List Int → Int
  | [] => 0
  | x :: l => x + 10000000000000000000 * gval l
def GroupsOk (l : List Int) : Prop := ∀ x ∈ l, 0 ≤ x ∧ x < 10000000000000000000
theorem gval_append (a b : List Int) : gval (a ++ b) = gval a + 10000000000000000000 ^ a.length * gval b := by
  induction a with
  | nil => simp [gval]
  | cons x a ih => simp only [List.cons_append, gval, ih, List.length_cons, Int.pow_succ]; grind
theorem gval_nonneg {l : List Int} (h : GroupsOk l) : 0 ≤ gval l := by
  induction l with
  | nil => simp [gval]
  | cons x l ih => have := h x List.mem_cons_self; have := ih fun y hy => h y (List.mem_cons_of_mem _ hy); simp only [gval]; omega

def lenOf : Value → Nat | .slice _ n _ => n | _ => 0
theorem under_u64s : Tryz.prog.underlying 32 = some (.slice 31) := by kernel_rfl

theorem own_len {w : World} {B : Nat} {e : TypeId} {v : Value} {n : Nat} {xs : List Value} (h : w.ownsRow B e 1 v n xs) : lenOf v = n := by
  rcases h.2 with ⟨rfl, h0⟩ | ⟨g', cap, cur, rfl, _⟩
  · simp [lenOf, h0]
  · rfl
theorem Mine.wr {b o n : Nat} {w w' : World} {B : Nat} {v : Value} {l : List Int} (h : Mine w B v l) (hw : Wr b o n w w') (hb : b < B) : Mine w' B v l := by
  obtain ⟨h1, h2⟩ := h
  refine ⟨h1, ?_⟩
  rcases h2 with h2 | ⟨g, cap, cur, rfl, hB1, hh, hr⟩
  · exact .inl h2
  · exact .inr ⟨g, cap, cur, rfl, hB1, by rw [hw.block g (by omega)]; exact hh, hr⟩
theorem Mine.mono {w : World} {B B' : Nat} {v : Value} {l : List Int} (h : Mine w B v l) (hB : B' ≤ B) : Mine w B' v l := by
  obtain ⟨h1, h2⟩ := h
  refine ⟨h1, ?_⟩
  rcases h2 with h2 | ⟨g, cap, cur, rfl, hB1, hr⟩
  · exact .inl h2
  · exact .inr ⟨g, cap, cur, rfl, by omega, hr⟩
/-- no more groups than limbs and a few -/
theorem groups_few {n k : Nat} {V R : Int} (h1 : 10000000000000000000 ^ k * R ≤ V) (hR : 1 ≤ R) (h2 : V < 18446744073709551616 ^ n) : k ≤ 2 * n := by
  by_cases c : k ≤ 2 * n
  · exact c
  · have e1 : (18446744073709551616 : Int) ^ n ≤ (4294967296 ^ 2) ^ n := by rw [show (4294967296 : Int) ^ 2 = 18446744073709551616 from rfl]; exact Int.le_refl _
    rw [← Int.pow_mul] at e1
    have e2 : (4294967296 : Int) ^ (2 * n) ≤ 4294967296 ^ k := by
      have : (4294967296 : Nat) ^ (2 * n) ≤ 4294967296 ^ k := Nat.pow_le_pow_right (by decide) (by omega)
      have a1 : ((4294967296 ^ (2 * n) : Nat) : Int) = (4294967296 : Int) ^ (2 * n) := by rw [Int.natCast_pow]; rfl
      have a2 : ((4294967296 ^ k : Nat) : Int) = (4294967296 : Int) ^ k := by rw [Int.natCast_pow]; rfl
      omega
    have e3 : (4294967296 : Int) ^ k ≤ 10000000000000000000 ^ k := by
      have : (4294967296 : Nat) ^ k ≤ 10000000000000000000 ^ k := Nat.pow_le_pow_left (by omega) _
      have a1 : ((4294967296 ^ k : Nat) : Int) = (4294967296 : Int) ^ k := by rw [Int.natCast_pow]; rfl
      have a2 : ((10000000000000000000 ^ k : Nat) : Int) = (10000000000000000000 : Int) ^ k := by rw [Int.natCast_pow]; rfl
      omega
    have e4 : (10000000000000000000 : Int) ^ k * 1 ≤ 10000000000000000000 ^ k * R := Int.mul_le_mul_of_nonneg_left hR (Int.le_of_lt (Int.pow_pos (by decide)))
    omega

end Go.Proofs.YtlbndpkdkdgggaaGreatDoor

namespace Go.Proofs.YtlbndpkdkdgggaaGreatDoor
open Go.RowKit Lim

theorem under_string : Tryz.prog.underlying 9 = some .string := by kernel_rfl

theorem under_u8 : Tryz.prog.underlying 5 = some (.int .u8) := by kernel_rfl
theorem push_data (d : List Int) : ∀ r : ByteArray, (d.foldl (fun r n => r.push (UInt8.ofNat n.toNat)) r).data.toList = r.data.toList ++ d.map (fun n => UInt8.ofNat n.toNat) := by
  induction d with
  | nil => intro r; simp
  | cons c d ih => intro r; rw [List.foldl_cons, ih]; simp
theorem gval_drop {g : List Int} {i : Nat} (h : i < g.length) : gval (g.drop i) = nth g i + 10000000000000000000 * gval (g.drop (i + 1)) := by
  rw [List.drop_eq_getElem_cons h, gval, nth_eq h]
theorem MineB.open {w : World} {B : Nat} {v : Value} {l : List Int} (h : MineB w B v l) (hl : 0 < l.length) : ∃ g c, v = .slice (some ⟨g, 0, none⟩) l.length c ∧ l.length ≤ c ∧ B ≤ g ∧ AtB w (some ⟨g, 0, none⟩) g 0 l ∧ Free w g 0 l.length := by
  obtain ⟨_, h2⟩ := h
  rcases h2 with ⟨rfl, h0⟩ | ⟨g, cap, cur, rfl, hB, hh, hle, hmx, hsz, htk⟩
  · omega
  · refine ⟨g, cap, rfl, hle, hB, ⟨.inr rfl, fun i hi => ?_⟩, fun i hi => ?_⟩
    · have e : cur.toList[i]? = some (.int .u8 (nth l i)) := by
        have h1 : (cur.toList.take (l.length * 1))[i]? = some (.int .u8 (nth l i)) := by
          rw [htk, List.getElem?_map, List.getElem?_eq_getElem hi, nth_eq hi]; rfl
        rwa [Nat.mul_one, List.getElem?_take_of_lt hi] at h1
      simp only [World.cell?, hh]
      simpa using e
    · simp [World.frozen?, hh]

/-- the digits of a value: as a text is -/
structure TextOf (s : ByteArray) (n : Int) : Prop where
  bytes : ∃ d : List Int, s.data.toList.map (fun c => (c.toNat : Int)) = d ∧ DigI d ∧ dvI d = n ∧ 0 < d.length ∧ (d.length = 1 ∨ nth d 0 ≠ 48)

end Go.Proofs.YtlbndpkdkdgggaaGreatDoor

namespace Go.Proofs
open Go.Shelf
def Tryz.lays161_ren : Go.Shelf.Ren := ⟨fun | 161 => 122 | 231 => 140 | 227 => 141 | 233 => 142 | 235 => 143 | 228 => 159 | 197 => 160 | 151 => 161 | 260 => 165 | 152 => 166 | 137 => 167 | 119 => 168 | 224 => 157 | 225 => 156 | 217 => 155 | 266 => 163 | n => n, fun | 9 => 9 | 4 => 4 | 3 => 3 | 5 => 5 | 117 => 147 | 116 => 146 | 0 => 0 | 124 => 150 | 105 => 165 | 21 => 21 | 119 => 175 | 46 => 116 | 139 => 178 | 138 => 177 | n => n, fun | 3 => 3 | 4 => 4 | n => n⟩
theorem Tryz.lays161 : Go.Proofs.Lays.n161 Tryz.prog Tryz.lays161_ren := {
  mixed := by kernel_rfl
  f119 := Tryz.func168.trans (congrArg some (by kernel_rfl))
  f137 := Tryz.func167.trans (congrArg some (by kernel_rfl))
  f151 := Tryz.func161.trans (congrArg some (by kernel_rfl))
  f152 := Tryz.func166.trans (congrArg some (by kernel_rfl))
  f161 := Tryz.func122.trans (congrArg some (by kernel_rfl))
  f197 := Tryz.func160.trans (congrArg some (by kernel_rfl))
  f217 := Tryz.func155.trans (congrArg some (by kernel_rfl))
  f224 := Tryz.func157.trans (congrArg some (by kernel_rfl))
  f225 := Tryz.func156.trans (congrArg some (by kernel_rfl))
  f227 := Tryz.func141.trans (congrArg some (by kernel_rfl))
  f228 := Tryz.func159.trans (congrArg some (by kernel_rfl))
  f231 := Tryz.func140.trans (congrArg some (by kernel_rfl))
  f233 := Tryz.func142.trans (congrArg some (by kernel_rfl))
  f235 := Tryz.func143.trans (congrArg some (by kernel_rfl))
  f260 := Tryz.func165.trans (congrArg some (by kernel_rfl))
  f266 := Tryz.func163.trans (congrArg some (by kernel_rfl))
  t0 := Tryz.underlying0
  a0 := Tryz.isAgg0
  z0 := Tryz.sizeOf0
  v0 := Tryz.zeroValue0
  t3 := Tryz.underlying3
  a3 := Tryz.isAgg3
  z3 := Tryz.sizeOf3
  v3 := Tryz.zeroValue3
  t4 := Tryz.underlying4
  a4 := Tryz.isAgg4
  z4 := Tryz.sizeOf4
  v4 := Tryz.zeroValue4
  t5 := Tryz.underlying5
  a5 := Tryz.isAgg5
  z5 := Tryz.sizeOf5
  v5 := Tryz.zeroValue5
  t9 := Tryz.underlying9
  a9 := Tryz.isAgg9
  z9 := Tryz.sizeOf9
  v9 := Tryz.zeroValue9
  t21 := Tryz.underlying21
  a21 := Tryz.isAgg21
  z21 := Tryz.sizeOf21
  v21 := Tryz.zeroValue21
  t46 := Tryz.underlying116
  a46 := Tryz.isAgg116
  z46 := Tryz.sizeOf116
  v46 := Tryz.zeroValue116
  t105 := Tryz.underlying165
  a105 := Tryz.isAgg165
  z105 := Tryz.sizeOf165
  v105 := Tryz.zeroValue165
  t116 := Tryz.underlying146
  a116 := Tryz.isAgg146
  z116 := Tryz.sizeOf146
  t117 := Tryz.underlying147
  a117 := Tryz.isAgg147
  z117 := Tryz.sizeOf147
  v117 := Tryz.zeroValue147
  t119 := Tryz.underlying175
  a119 := Tryz.isAgg175
  z119 := Tryz.sizeOf175
  t124 := Tryz.underlying150
  a124 := Tryz.isAgg150
  z124 := Tryz.sizeOf150
  v124 := Tryz.zeroValue150
  t138 := Tryz.underlying177
  a138 := Tryz.isAgg177
  z138 := Tryz.sizeOf177
  v138 := Tryz.zeroValue177
  t139 := Tryz.underlying178
  a139 := Tryz.isAgg178
  z139 := Tryz.sizeOf178
  v139 := Tryz.zeroValue178
  g3 := by kernel_rfl
  g4 := by kernel_rfl }
open Go.RowKit in
theorem Tryz.strings_TrimLeft_one (s : ByteArray) (c : UInt8) (hc : c.toNat < 128) (w : World) :
    Calls Tryz.prog 122 #[.string s, .string ⟨#[c]⟩] w fun e w' => e = .returned (.string ⟨(Lib.trimLeftB s.data.toList c).toArray⟩) ∧ w' = w := Any.strings_TrimLeft_one Tryz.lays161 s c hc w
def Tryz.lays219_ren : Go.Shelf.Ren := ⟨fun | 219 => 138 | 217 => 155 | 225 => 156 | 224 => 157 | 267 => 158 | 266 => 163 | 314 => 164 | n => n, fun | 9 => 9 | 3 => 3 | 4 => 4 | 5 => 5 | 46 => 116 | 146 => 172 | 51 => 171 | n => n, fun | 1 => 0 | n => n⟩
theorem Tryz.lays219 : Go.Proofs.Lays.n219 Tryz.prog Tryz.lays219_ren := {
  mixed := by kernel_rfl
  f217 := Tryz.func155.trans (congrArg some (by kernel_rfl))
  f219 := Tryz.func138.trans (congrArg some (by kernel_rfl))
  f224 := Tryz.func157.trans (congrArg some (by kernel_rfl))
  f225 := Tryz.func156.trans (congrArg some (by kernel_rfl))
  f266 := Tryz.func163.trans (congrArg some (by kernel_rfl))
  f267 := Tryz.func158.trans (congrArg some (by kernel_rfl))
  f314 := Tryz.func164.trans (congrArg some (by kernel_rfl))
  t3 := Tryz.underlying3
  a3 := Tryz.isAgg3
  z3 := Tryz.sizeOf3
  v3 := Tryz.zeroValue3
  t4 := Tryz.underlying4
  a4 := Tryz.isAgg4
  z4 := Tryz.sizeOf4
  v4 := Tryz.zeroValue4
  t5 := Tryz.underlying5
  a5 := Tryz.isAgg5
  z5 := Tryz.sizeOf5
  v5 := Tryz.zeroValue5
  t9 := Tryz.underlying9
  a9 := Tryz.isAgg9
  z9 := Tryz.sizeOf9
  v9 := Tryz.zeroValue9
  t46 := Tryz.underlying116
  a46 := Tryz.isAgg116
  z46 := Tryz.sizeOf116
  v46 := Tryz.zeroValue116
  t51 := Tryz.underlying171
  a51 := Tryz.isAgg171
  z51 := Tryz.sizeOf171
  v51 := Tryz.zeroValue171
  t146 := Tryz.underlying172
  a146 := Tryz.isAgg172
  z146 := Tryz.sizeOf172
  v146 := Tryz.zeroValue172
  g1 := by kernel_rfl }
open Go.RowKit Go.Lib in
theorem Tryz.stringslite_Index_one (s : ByteArray) (c : UInt8) (w : World) :
    Calls Tryz.prog 138 #[.string s, .string ⟨#[c]⟩] w fun e w' => e = .returned (.int .i64 (Lib.indexByte s.data.toList c)) ∧ w' = w := Any.stringslite_Index_one Tryz.lays219 s c w
def Tryz.lays100_ren : Go.Shelf.Ren := ⟨fun | 100 => 121 | 207 => 139 | n => n, fun | 9 => 9 | 4 => 4 | 3 => 3 | n => n, fun | n => n⟩
theorem Tryz.lays100 : Go.Proofs.Lays.n100 Tryz.prog Tryz.lays100_ren := {
  mixed := by kernel_rfl
  f100 := Tryz.func121.trans (congrArg some (by kernel_rfl))
  f207 := Tryz.func139.trans (congrArg some (by kernel_rfl))
  t3 := Tryz.underlying3
  a3 := Tryz.isAgg3
  z3 := Tryz.sizeOf3
  v3 := Tryz.zeroValue3
  t4 := Tryz.underlying4
  a4 := Tryz.isAgg4
  z4 := Tryz.sizeOf4
  v4 := Tryz.zeroValue4
  t9 := Tryz.underlying9
  a9 := Tryz.isAgg9
  z9 := Tryz.sizeOf9
  v9 := Tryz.zeroValue9 }
open Go.RowKit Go.Lib in
theorem Tryz.strings_HasSuffix (s p : ByteArray) (w : World) (hs : s.size ≤ 9223372036854775807) :
    Calls Tryz.prog 121 #[.string s, .string p] w fun e w' => e = .returned (.bool (Lib.hasSuffix s.data.toList p.data.toList)) ∧ w' = w := Any.strings_HasSuffix Tryz.lays100 s p w hs
end Go.Proofs

namespace Go.Proofs.YtlbndpkdkdgggaaGreatDoor
open Go.RowKit Lim

theorem u8_small {n : Nat} (h : n < 256) : (UInt8.ofNat n).toNat = n := by simp [Nat.mod_eq_of_lt h]
theorem dec_dig (u : Nat) : DigI ((Lib.decDigits u).map fun c => (c.toNat : Int)) ∧ dvI ((Lib.decDigits u).map fun c => (c.toNat : Int)) = u ∧ 0 < (Lib.decDigits u).length ∧ (0 < u → nth ((Lib.decDigits u).map fun c => (c.toNat : Int)) 0 ≠ 48) := by
  induction u using Nat.strongRecOn with
  | ind u ih =>
    by_cases h : u < 10
    · rw [Lib.decDigits, dif_pos h]
      have e : (UInt8.ofNat (48 + u)).toNat = 48 + u := u8_small (by omega)
      simp only [List.map_cons, List.map_nil, e]
      refine ⟨fun c hc => ?_, ?_, by simp, fun h0 => ?_⟩
      · rw [List.mem_singleton] at hc; omega
      · simp [dvI]; omega
      · rw [nth_zero]; omega
    · rw [Lib.decDigits, dif_neg h]
      obtain ⟨i1, i2, i3, i4⟩ := ih (u / 10) (by omega)
      have e : (UInt8.ofNat (48 + u % 10)).toNat = 48 + u % 10 := u8_small (by omega)
      simp only [List.map_append, List.map_cons, List.map_nil, e]
      refine ⟨i1.snoc (by omega) (by omega), ?_, by simp, fun _ => ?_⟩
      · rw [dvI_snoc, i2]; omega
      · rw [nth_append_left (by simpa using i3)]; exact i4 (by omega)
theorem byteCells_ints (l : List UInt8) : Lib.byteCells l = (l.map fun c => (c.toNat : Int)).map (Value.int .u8) := by
  simp [Lib.byteCells]

theorem app_post {u : Nat} {wx w' : World} {e : Ending} (h0 : 0 < u) (h20 : (Lib.decDigits u).length ≤ 20)
    (h : ∃ v', e = .returned v' ∧ w'.ownsRow wx.heap.size 5 1 v' (0 + (Lib.decDigits u).length) ([] ++ Lib.byteCells (Lib.decDigits u)) ∧ Below wx.heap.size wx w' ∧ Lib.OthersKept 5 none wx w') :
    ∃ v d, e = .returned v ∧ MineB w' wx.heap.size v d ∧ DigI d ∧ dvI d = (u : Int) ∧ 0 < d.length ∧ d.length ≤ 20 ∧ nth d 0 ≠ 48 ∧ Below wx.heap.size wx w' := by
  obtain ⟨v, rfl, h1, h2, _⟩ := h
  obtain ⟨d1, d2, d3, d4⟩ := dec_dig u
  refine ⟨v, _, rfl, ?_, d1, d2, by simpa using d3, by simpa using h20, d4 h0, h2⟩
  unfold MineB
  rw [← byteCells_ints, List.length_map]
  rw [Nat.zero_add, List.nil_append] at h1
  exact h1
theorem dec20 {u : Nat} (h : u < 18446744073709551616) : (Lib.decDigits u).length ≤ 20 := by
  by_cases h0 : u = 0
  · subst h0; rw [Lib.decDigits_one (by decide)]; simp
  · have := Lib.numDigits_eq u (by omega) h
    rw [Lib.decDigits_length]
    split at this <;> omega

end Go.Proofs.YtlbndpkdkdgggaaGreatDoor

namespace Go.Proofs.YtlbndpkdkdgggaaGreatDoor
open Go.RowKit Lim

/-- the last k decimal digits of x, as bytes -/
def digL : Nat → Int → List Int
  | 0, _ => []
  | k + 1, x => digL k (x / 10) ++ [48 + x % 10]
theorem digL_length (k : Nat) (x : Int) : (digL k x).length = k := by
  induction k generalizing x with
  | zero => rfl
  | succ k ih => simp [digL, ih]
theorem digL_dig {k : Nat} {x : Int} (h : 0 ≤ x) : DigI (digL k x) := by
  induction k generalizing x with
  | zero => intro c hc; simp [digL] at hc
  | succ k ih => exact (ih (by omega)).snoc (by omega) (by omega)
theorem digL_val {k : Nat} {x : Int} (h : 0 ≤ x) : dvI (digL k x) = x % 10 ^ k := by
  induction k generalizing x with
  | zero => simp [digL, dvI]
  | succ k ih =>
    rw [digL, dvI_snoc, ih (by omega), Int.pow_succ]
    have hp : (0 : Int) < 10 ^ k := Int.pow_pos (by decide)
    have e1 := Int.mul_ediv_add_emod (x / 10) (10 ^ k)
    have e2 := Int.mul_ediv_add_emod x 10
    have e3 := Int.emod_nonneg (x / 10) (show (10 : Int) ^ k ≠ 0 by omega)
    have e4 := Int.emod_lt_of_pos (x / 10) hp
    generalize x / 10 % 10 ^ k = r at *
    generalize hq : x / 10 / 10 ^ k = q at *
    generalize (10 : Int) ^ k = P at *
    have h5 : x = (10 * r + x % 10) + (P * 10) * q := by
      have : 10 * (P * q + r) + x % 10 = x := by rw [e1]; omega
      rw [← this]; rw [Int.mul_add]; have : 10 * (P * q) = P * 10 * q := by rw [← Int.mul_assoc, Int.mul_comm 10 P]
      omega
    conv => rhs; rw [h5]
    rw [Int.add_mul_emod_self_left, Int.emod_eq_of_lt (a := 10 * r + x % 10) (b := P * 10) (by omega) (by omega)]
    omega
theorem digL_split (k m : Nat) (x : Int) (h : 0 ≤ x) : digL (k + m) x = digL k (x / 10 ^ m) ++ digL m x := by
  induction m generalizing x with
  | zero => simp [digL]
  | succ m ih =>
    rw [Nat.add_succ, digL, ih _ (by omega), digL, List.append_assoc]
    congr 2
    rw [Int.pow_succ, Int.mul_comm, ← Int.ediv_ediv_of_nonneg (by decide)]
/-- two digits at once -/
theorem digL_two (k : Nat) (x : Int) : digL (k + 2) x = digL k (x / 100) ++ [48 + x % 100 / 10, 48 + x % 100 % 10] := by
  rw [digL, digL, List.append_assoc]
  have e1 : x / 10 / 10 = x / 100 := by omega
  have e2 : x / 10 % 10 = x % 100 / 10 := by omega
  have e3 : x % 10 = x % 100 % 10 := by omega
  rw [e1, e2, e3]; rfl
end Go.Proofs.YtlbndpkdkdgggaaGreatDoor

namespace Go.Proofs.YtlbndpkdkdgggaaGreatDoor
open Go.RowKit Lim

theorem built11 (w : World) (x y : Int) : At ((w.alloc (.cells #[.int .u64 x] 31)).alloc (.cells #[.int .u64 y] 31)) (some ⟨w.heap.size, 0, none⟩) w.heap.size 0 [x] ∧
    At ((w.alloc (.cells #[.int .u64 x] 31)).alloc (.cells #[.int .u64 y] 31)) (some ⟨w.heap.size + 1, 0, none⟩) (w.heap.size + 1) 0 [y] ∧ Below w.heap.size w ((w.alloc (.cells #[.int .u64 x] 31)).alloc (.cells #[.int .u64 y] 31)) := by
  have h1 := Row.built1 w x
  have h2 := Row.built1 (w.alloc (.cells #[.int .u64 x] 31)) y
  have b1 := below_alloc w (.cells #[.int .u64 x] 31)
  have b2 := below_alloc (w.alloc (.cells #[.int .u64 x] 31)) (.cells #[.int .u64 y] 31)
  have e : (w.alloc (.cells #[.int .u64 x] 31)).heap.size = w.heap.size + 1 := by simp
  rw [e] at h2
  exact ⟨h1.at.keep b2, h2.at, b1.trans (b2.mono (by rw [e]; omega))⟩
theorem built21 (w : World) (x x' y : Int) : At ((w.alloc (.cells #[.int .u64 x, .int .u64 x'] 31)).alloc (.cells #[.int .u64 y] 31)) (some ⟨w.heap.size, 0, none⟩) w.heap.size 0 [x, x'] ∧
    At ((w.alloc (.cells #[.int .u64 x, .int .u64 x'] 31)).alloc (.cells #[.int .u64 y] 31)) (some ⟨w.heap.size + 1, 0, none⟩) (w.heap.size + 1) 0 [y] ∧ Below w.heap.size w ((w.alloc (.cells #[.int .u64 x, .int .u64 x'] 31)).alloc (.cells #[.int .u64 y] 31)) := by
  have h1 := Row.built2 w x x'
  have h2 := Row.built1 (w.alloc (.cells #[.int .u64 x, .int .u64 x'] 31)) y
  have b1 := below_alloc w (.cells #[.int .u64 x, .int .u64 x'] 31)
  have b2 := below_alloc (w.alloc (.cells #[.int .u64 x, .int .u64 x'] 31)) (.cells #[.int .u64 y] 31)
  have e : (w.alloc (.cells #[.int .u64 x, .int .u64 x'] 31)).heap.size = w.heap.size + 1 := by simp
  rw [e] at h2
  exact ⟨h1.at.keep b2, h2.at, b1.trans (b2.mono (by rw [e]; omega))⟩
theorem built1 (w : World) (x : Int) : At (w.alloc (.cells #[.int .u64 x] 31)) (some ⟨w.heap.size, 0, none⟩) w.heap.size 0 [x] ∧ Below w.heap.size w (w.alloc (.cells #[.int .u64 x] 31)) :=
  ⟨(Row.built1 w x).at, below_alloc _ _⟩
theorem built2 (w : World) (x y : Int) : At (w.alloc (.cells #[.int .u64 x, .int .u64 y] 31)) (some ⟨w.heap.size, 0, none⟩) w.heap.size 0 [x, y] ∧ Below w.heap.size w (w.alloc (.cells #[.int .u64 x, .int .u64 y] 31)) :=
  ⟨(Row.built2 w x y).at, below_alloc _ _⟩
theorem builtB (w : World) (x y : Int) : AtB (w.alloc (.cells #[.int .u8 x, .int .u8 y] 5)) (some ⟨w.heap.size, 0, none⟩) w.heap.size 0 [x, y] ∧ Below w.heap.size w (w.alloc (.cells #[.int .u8 x, .int .u8 y] 5)) := by
  refine ⟨RowB.at ?_, below_alloc _ _⟩
  show (w.heap.push _)[w.heap.size]? = _
  rw [Array.getElem?_push_size]; rfl
theorem built111 (w : World) (x y z : Int) : At (((w.alloc (.cells #[.int .u64 x] 31)).alloc (.cells #[.int .u64 y] 31)).alloc (.cells #[.int .u64 z] 31)) (some ⟨w.heap.size, 0, none⟩) w.heap.size 0 [x] ∧
    At (((w.alloc (.cells #[.int .u64 x] 31)).alloc (.cells #[.int .u64 y] 31)).alloc (.cells #[.int .u64 z] 31)) (some ⟨w.heap.size + 1, 0, none⟩) (w.heap.size + 1) 0 [y] ∧
    At (((w.alloc (.cells #[.int .u64 x] 31)).alloc (.cells #[.int .u64 y] 31)).alloc (.cells #[.int .u64 z] 31)) (some ⟨w.heap.size + 2, 0, none⟩) (w.heap.size + 2) 0 [z] ∧
    Below w.heap.size w (((w.alloc (.cells #[.int .u64 x] 31)).alloc (.cells #[.int .u64 y] 31)).alloc (.cells #[.int .u64 z] 31)) := by
  obtain ⟨a1, a2, b⟩ := built11 w x y
  have h3 := Row.built1 ((w.alloc (.cells #[.int .u64 x] 31)).alloc (.cells #[.int .u64 y] 31)) z
  have b3 := below_alloc ((w.alloc (.cells #[.int .u64 x] 31)).alloc (.cells #[.int .u64 y] 31)) (.cells #[.int .u64 z] 31)
  have e : ((w.alloc (.cells #[.int .u64 x] 31)).alloc (.cells #[.int .u64 y] 31)).heap.size = w.heap.size + 2 := by simp
  rw [e] at h3
  exact ⟨a1.keep b3, a2.keep b3, h3.at, b.trans (b3.mono (by rw [e]; omega))⟩
theorem join {w wa w' : World} (b : Below w.heap.size w wa) (h : Below wa.heap.size wa w') : Below w.heap.size w w' := b.trans (h.mono b.size)
theorem dvI_bound {l : List Int} (h : DigI l) : 0 ≤ dvI l ∧ dvI l < 10 ^ l.length := by
  induction l with
  | nil => simp [dvI]
  | cons c l ih =>
    have hc := h c (by simp)
    have := ih fun x hx => h x (by simp [hx])
    have e : dvI (c :: l) = (c - 48) * 10 ^ l.length + dvI l := by rw [show c :: l = [c] ++ l from rfl, dvI_append]; simp [dvI]
    have hp : (0 : Int) < 10 ^ l.length := Int.pow_pos (by decide)
    have h1 : 0 ≤ (c - 48) * 10 ^ l.length := Int.mul_nonneg (by omega) (Int.le_of_lt hp)
    have h2 : (c - 48) * 10 ^ l.length ≤ 9 * 10 ^ l.length := Int.mul_le_mul_of_nonneg_right (by omega) (Int.le_of_lt hp)
    rw [e, List.length_cons, Int.pow_succ]; omega
theorem dvI_ge {l : List Int} (h : DigI l) (h0 : 0 < l.length) (h1 : nth l 0 ≠ 48) : 10 ^ (l.length - 1) ≤ dvI l := by
  cases l with
  | nil => simp at h0
  | cons c l =>
    rw [nth_zero] at h1
    have hc := h c (by simp)
    have hb := dvI_bound (l := l) fun x hx => h x (by simp [hx])
    have e : dvI (c :: l) = (c - 48) * 10 ^ l.length + dvI l := by rw [show c :: l = [c] ++ l from rfl, dvI_append]; simp [dvI]
    have hp : (0 : Int) < 10 ^ l.length := Int.pow_pos (by decide)
    have : 1 * 10 ^ l.length ≤ (c - 48) * 10 ^ l.length := Int.mul_le_mul_of_nonneg_right (by omega) (Int.le_of_lt hp)
    rw [e, List.length_cons, Nat.add_sub_cancel]; omega
theorem dvI_inj : ∀ {a b : List Int}, DigI a → DigI b → a.length = b.length → dvI a = dvI b → a = b
  | [], [], _, _, _, _ => rfl
  | x :: a, y :: b, ha, hb, hl, hv => by
    have ha' : DigI a := fun z hz => ha z (by simp [hz])
    have hb' : DigI b := fun z hz => hb z (by simp [hz])
    have hl' : a.length = b.length := by simpa using hl
    have h1 := dvI_bound ha'
    have h2 := dvI_bound hb'
    have e1 : dvI (x :: a) = (x - 48) * 10 ^ b.length + dvI a := by rw [show x :: a = [x] ++ a from rfl, dvI_append, hl']; simp [dvI]
    have e2 : dvI (y :: b) = (y - 48) * 10 ^ b.length + dvI b := by rw [show y :: b = [y] ++ b from rfl, dvI_append]; simp [dvI]
    rw [e1, e2] at hv
    rw [hl'] at h1
    have hp : (0 : Int) < 10 ^ b.length := Int.pow_pos (by decide)
    have e : x = y := by
      rcases Int.lt_trichotomy x y with c | c | c
      · have : (x - 48 + 1) * 10 ^ b.length ≤ (y - 48) * 10 ^ b.length := Int.mul_le_mul_of_nonneg_right (by omega) (Int.le_of_lt hp)
        rw [Int.add_mul] at this; omega
      · exact c
      · have : (y - 48 + 1) * 10 ^ b.length ≤ (x - 48) * 10 ^ b.length := Int.mul_le_mul_of_nonneg_right (by omega) (Int.le_of_lt hp)
        rw [Int.add_mul] at this; omega
    subst e
    rw [dvI_inj ha' hb' hl' (by omega)]
theorem dig_unique {a b : List Int} (ha : DigI a) (hb : DigI b) (h0 : 0 < a.length) (h1 : 0 < b.length) (ka : a.length = 1 ∨ nth a 0 ≠ 48) (kb : b.length = 1 ∨ nth b 0 ≠ 48) (hv : dvI a = dvI b) : a = b := by
  apply dvI_inj ha hb _ hv
  have key : ∀ {a b : List Int}, DigI a → DigI b → 0 < a.length → 0 < b.length → (b.length = 1 ∨ nth b 0 ≠ 48) → dvI a = dvI b → ¬ a.length < b.length := by
    intro a b ha hb h0 h1 kb hv hlt
    have h2 := (dvI_bound ha).2
    rcases kb with e | e
    · omega
    · have h3 := dvI_ge hb h1 e
      have := pow10_le (show a.length ≤ b.length - 1 by omega)
      omega
  have k1 := key ha hb h0 h1 kb hv
  have k2 := key hb ha h1 h0 ka hv.symm
  omega
/-- the text of a value, told by its digits -/
theorem text_is {S : ByteArray} {n : Int} (h : TextOf S n) (l : List UInt8) (hd : (l.map (fun c => (c.toNat : Int))).all (fun c => decide (48 ≤ c ∧ c ≤ 57)) = true) (hv : dvI (l.map (fun c => (c.toNat : Int))) = n) (h0 : 0 < l.length) (h1 : l.length = 1 ∨ nth (l.map (fun c => (c.toNat : Int))) 0 ≠ 48) : S = ⟨l.toArray⟩ := by
  obtain ⟨d, e, hdd, hdv, hd0, hd1⟩ := h.bytes
  have hD : DigI (l.map (fun c => (c.toNat : Int))) := fun c hc => by
    rw [List.all_eq_true] at hd; simpa using hd c hc
  have := dig_unique hdd hD hd0 (by simpa using h0) hd1 (by simpa using h1) (hdv.trans hv.symm)
  rw [← e] at this
  have h2 : S.data.toList = l := List.map_inj_right (fun a b hab => UInt8.toNat_inj.1 (by omega)) |>.1 this
  cases S with
  | mk arr => simp at h2; simp [← h2]
theorem text_big {g : List Int} (h : GroupsOk g) (hv : gval g = 18446744073709551616) (h0 : g ≠ []) (ht : 0 < nth g (g.length - 1)) : nth g (g.length - 1) = 1 := by
  match g, h, hv, h0, ht with
  | [x], h, hv, _, _ => simp only [gval] at hv; have := h x (by simp); omega
  | [x, y], h, hv, _, _ =>
    simp only [gval] at hv; have := h x (by simp)
    show nth [x, y] 1 = 1
    rw [nth_succ, nth_zero]; omega
  | x :: y :: z :: g, h, hv, _, ht =>
    exfalso
    simp only [gval] at hv
    have hx := h x (by simp)
    have hy := h y (by simp)
    have hz := h z (by simp)
    have hg := gval_nonneg (l := g) (fun a ha => h a (by simp [ha]))
    by_cases hgz : gval g = 0
    · by_cases hz0 : z = 0
      · have hall : ∀ l : List Int, GroupsOk l → gval l = 0 → ∀ i, nth l i = 0 := by
          intro l
          induction l with
          | nil => intro _ _ i; exact nth_nil i
          | cons a l ih =>
            intro hl hg0 i
            simp only [gval] at hg0
            have h1 := hl a (by simp)
            have h2 := gval_nonneg (l := l) (fun b hb => hl b (by simp [hb]))
            cases i with
            | zero => rw [nth_zero]; omega
            | succ i => rw [nth_succ]; exact ih (fun b hb => hl b (by simp [hb])) (by omega) i
        have h3 := hall g (fun a ha => h a (by simp [ha])) hgz
        cases g with
        | nil =>
          simp only [List.length_cons, List.length_nil] at ht
          rw [show nth [x, y, z] (0 + 1 + 1 + 1 - 1) = z from rfl] at ht
          omega
        | cons a g =>
          have h4 := h3 g.length
          rw [show (x :: y :: z :: a :: g).length - 1 = g.length + 1 + 1 + 1 from by simp, nth_succ, nth_succ, nth_succ, h4] at ht
          omega
      · omega
    · omega
theorem w1 {x : Int} (h0 : 0 ≤ x) (h1 : x < 18446744073709551616) : Words [x] := Words.cons h0 h1 Words.nil
theorem w2 {x y : Int} (h0 : 0 ≤ x) (h1 : x < 18446744073709551616) (h2 : 0 ≤ y) (h3 : y < 18446744073709551616) : Words [x, y] := Words.cons h0 h1 (w1 h2 h3)

end Go.Proofs.YtlbndpkdkdgggaaGreatDoor

namespace Go.Proofs.YtlbndpkdkdgggaaGreatDoor
open Go.RowKit Lim

theorem info_b1 : (Tryz.prog.info? 5).map (·.size) = some 1 := by kernel_rfl
theorem write_step {l : List Int} {en k : Nat} {X : Nat} (hl : l.length = 36) (he : en ≤ 36) (hk : 2 * k + 2 ≤ en) :
    splice ((l.take (en - 2 * k) ++ digL (2 * k) X ++ l.drop en).map (Value.int .u8)) (en - 2 * k - 2) [Value.int .u8 (48 + (((X / 100 ^ k % 100 : Nat) : Nat) : Int) / 10), Value.int .u8 (48 + (((X / 100 ^ k % 100 : Nat) : Nat) : Int) % 10)]
      = (l.take (en - 2 * (k + 1)) ++ digL (2 * (k + 1)) X ++ l.drop en).map (Value.int .u8) := by
  have hX : (0 : Int) ≤ (X : Int) := by omega
  have e1 : digL (2 * (k + 1)) (X : Int) = [48 + (((X / 100 ^ k % 100 : Nat) : Nat) : Int) / 10, 48 + (((X / 100 ^ k % 100 : Nat) : Nat) : Int) % 10] ++ digL (2 * k) X := by
    rw [show 2 * (k + 1) = 2 + 2 * k by omega, digL_split 2 (2 * k) _ hX]
    congr 1
    rw [show (2 : Nat) = 0 + 2 from rfl, digL_two]
    have e2 : (X : Int) / 10 ^ (2 * k) = ((X / 100 ^ k : Nat) : Int) := by
      rw [Int.natCast_ediv]
      congr 1
      rw [Int.pow_mul]
      simp
    rw [e2]
    simp [digL]
  rw [e1]
  have hA : (l.take (en - 2 * k)).length = en - 2 * k := by simp; omega
  unfold splice
  simp only [List.map_append, List.append_assoc, List.map_cons, List.length_cons, List.length_nil, List.cons_append, List.nil_append]
  rw [List.take_append_of_le_length (by simp; omega), List.drop_append, List.drop_of_length_le (by simp; omega)]
  rw [← List.map_take, List.take_take, Nat.min_eq_left (by omega), show en - 2 * k - 2 = en - 2 * (k + 1) by omega]
  rw [List.length_map, hA, show en - 2 * (k + 1) + (0 + 1 + 1) - (en - 2 * k) = 0 by omega]
  simp
theorem step_copy_row {P : Program} {ops : Array Oper} {o : Oper} {a : Act} {w : World} {K : Act → World → Prop} {Q : Exit → Act → World → Prop} {E : Prop} (hgd : o.guard = none) (d s : Operand) (dT sT : TypeId)
    (ho : o.op = .call { callee := .builtin .copy, args := #[d, s], argTypes := #[dT, sT] }) (elem : TypeId) (hu : P.underlying dT = some (.slice elem)) (hsz : (P.info? elem).map (·.size) = some 1)
    (g off dLen dCap : Nat) (ad : Addr) (sLen sCap : Nat) (hd : a.eval d = .slice (some ⟨g, off, none⟩) dLen dCap) (hs : a.eval s = .slice (some ad) sLen sCap)
    (cur : List Value) (t : TypeId) (hg : w.heap[g]? = some (.cells cur.toArray t (0, 0))) (cs : List Value) (hn : cs.length = Nat.min sLen dLen)
    (hsrc : ∀ j v, cs[j]? = some v → w.cell? (ad.add j) = some v) (hfit : off + cs.length ≤ cur.length) (h1 : ∀ v ∈ cs, v.oneCell' = true)
    (h : ∀ w', Hid (w'.heap[g]? = some (.cells (splice cur off cs).toArray t (0, 0))) → Hid (∀ b, b ≠ g → w'.heap[b]? = w.heap[b]?) → Hid (∀ B w0, B ≤ g → Below B w0 w → Below B w0 w') → K (a.put o.dst (goInt cs.length)) w') :
    if Region.wanted o (yielded ops a.tmps) = true then Oper.wp P o a w K Q else E := by
  have hw : Region.wanted o (yielded ops a.tmps) = true := by simp [Region.wanted, hgd]
  rw [if_pos hw]
  have hrun := run_copy_row (P := P) w dT sT o.type elem g off dLen dCap ad sLen sCap cur.toArray t cs hu hsz hg hn hsrc (by simpa using hfit) h1
  unfold Oper.wp
  simp [execOp, ho, resolve, invoke, builtin, hd, hs, hrun, Result.andThen]
  exact h _ (show _ = _ by simpa [splice] using setRow_heap w g _ _ t _ hg) (fun b hb => setRow_other w g b _ hb) (fun B w0 h1 h2 => below_setRow h2 h1 _)

theorem NatO.over {w w' : World} {ao : Option Addr} {n c g : Nat} {x : Int} {t : TypeId} {l : List Int} (h : NatO w ao n c x) (T : RowT w g t l) (HK : ∀ b, b < w.heap.size → b ≠ g → w'.heap[b]? = w.heap[b]?) : NatO w' ao n c x := by
  obtain ⟨b, o, m, h1, h2, h3, h4⟩ := h.ex
  refine ⟨b, o, m, h1, h2, h3, h4.loc, fun i hi => ?_⟩
  have hc := h4.cell i hi
  have hb := cell_lt hc
  have hne : b ≠ g := by
    intro e
    subst e
    have hbk := T.blk
    simp only [World.cell?, hbk] at hc
    simp at hc
  rw [World.cell?_of_block (w := w) (HK b hb hne)]
  exact hc
theorem RowT.over {w w' : World} {g g' : Nat} {t : TypeId} {l : List Int} (h : RowT w g' t l) (hne : g' ≠ g) (HK : ∀ b, b < w.heap.size → b ≠ g → w'.heap[b]? = w.heap[b]?) : RowT w' g' t l := ⟨by rw [HK g' h.lt hne]; exact h.blk⟩
end Go.Proofs.YtlbndpkdkdgggaaGreatDoor

namespace Go.Proofs.YtlbndpkdkdgggaaGreatDoor
open Go.RowKit Lim

/-- m / z, rounded up if told so -/
def rnd (up : Bool) (m z : Int) : Int := if up = true ∧ m % z ≠ 0 then m / z + 1 else m / z
theorem rnd_down (m z : Int) : rnd false m z = m / z := by simp [rnd]

end Go.Proofs.YtlbndpkdkdgggaaGreatDoor

namespace Go.Proofs.YtlbndpkdkdgggaaGreatDoor
open Go.RowKit Lim

theorem wp_mid {P : Program} {c : Code} {K : Act → World → Prop} {Q' : Exit → Act → World → Prop} {a : Act} {w : World} (R : Act → World → Prop)
    (h1 : Code.wp P c (Exit.then R (fun _ _ _ => False)) a w) (h2 : ∀ a' w', R a' w' → K a' w') : Code.wp P c (Exit.then K Q') a w :=
  Code.wp_mono (fun e a' w' h => by cases e <;> first | exact h2 _ _ h | exact h.elim) h1
/-- one end: a new variable g, and what three calls gave -/
theorem mid3 {P : Program} {c : Code} {K : Act → World → Prop} {Q' : Exit → Act → World → Prop} {a : Act} {w : World} {T : Nat → Option Addr → Nat → Nat → Option Addr → Nat → Nat → Option Addr → Nat → Nat → Act}
    (F : Nat → Option Addr → Nat → Nat → World → Prop)
    (h1 : Code.wp P c (Exit.then (fun a' w' => ∃ g a1 k1 d1 a2 k2 d2 a3 k3 d3, a' = T g a1 k1 d1 a2 k2 d2 a3 k3 d3 ∧ F g a3 k3 d3 w') (fun _ _ _ => False)) a w)
    (h2 : ∀ g a1 k1 d1 a2 k2 d2 a3 k3 d3 w', F g a3 k3 d3 w' → K (T g a1 k1 d1 a2 k2 d2 a3 k3 d3) w') : Code.wp P c (Exit.then K Q') a w :=
  wp_mid _ h1 fun _ w' ⟨g, a1, k1, d1, a2, k2, d2, a3, k3, d3, e, hF⟩ => e ▸ h2 g a1 k1 d1 a2 k2 d2 a3 k3 d3 w' hF
/-- one end: a new variable g, and what at most four calls gave -/
theorem mid4 {P : Program} {c : Code} {K : Act → World → Prop} {Q' : Exit → Act → World → Prop} {a : Act} {w : World} {T : Nat → Option Addr → Nat → Nat → Option Addr → Nat → Nat → Option Addr → Nat → Nat → Option Addr → Nat → Nat → Act}
    (F : Nat → Option Addr → Nat → Nat → Option Addr → Nat → Nat → Option Addr → Nat → Nat → Option Addr → Nat → Nat → World → Prop)
    (h1 : Code.wp P c (Exit.then (fun a' w' => ∃ g a1 k1 d1 a2 k2 d2 a3 k3 d3 a4 k4 d4, a' = T g a1 k1 d1 a2 k2 d2 a3 k3 d3 a4 k4 d4 ∧ F g a1 k1 d1 a2 k2 d2 a3 k3 d3 a4 k4 d4 w') (fun _ _ _ => False)) a w)
    (h2 : ∀ g a1 k1 d1 a2 k2 d2 a3 k3 d3 a4 k4 d4 w', F g a1 k1 d1 a2 k2 d2 a3 k3 d3 a4 k4 d4 w' → K (T g a1 k1 d1 a2 k2 d2 a3 k3 d3 a4 k4 d4) w') : Code.wp P c (Exit.then K Q') a w :=
  wp_mid _ h1 fun _ w' ⟨g, a1, k1, d1, a2, k2, d2, a3, k3, d3, a4, k4, d4, e, hF⟩ => e ▸ h2 g a1 k1 d1 a2 k2 d2 a3 k3 d3 a4 k4 d4 w' hF
theorem slotA {w : World} {ao : Option Addr} {n c : Nat} {x : Int} (_h : NatA w ao n c x) (v : Value) (t : TypeId) : Slot (w.alloc (.cells #[v] t)) w.heap.size v t := slot_new w v t
theorem atW {P : Program} {f : FuncId} {args : Array Value} {w : World} {Q : Ending → World → Prop} {ao : Option Addr} {n c : Nat} {x : Int} (_h : NatA w ao n c x) (h : Calls P f args w Q) : Calls P f args w Q := h
theorem someNat : ∃ _n : Nat, True := ⟨0, trivial⟩
theorem someAddr : ∃ _a : Option Addr, True := ⟨none, trivial⟩
theorem step_call {P : Program} {ops : Array Oper} {o : Oper} {a : Act} {w : World} {K : Act → World → Prop} {Q : Exit → Act → World → Prop} {E : Prop} {f : FuncId} {args : Array Value}
    (hw : Region.wanted o (yielded ops a.tmps) = true) (hrun : (execOp a.eval o).run P w = .ok (.enter f args) w)
    (hc : Calls P f args w fun
      | .returned v, w'' => K (a.put o.dst v) w''
      | .panicked chain, w'' => Q (.panic chain) a w''
      | .outgrown, _ => LetsOut Q) :
    if Region.wanted o (yielded ops a.tmps) = true then Oper.wp P o a w K Q else E := by
  rw [if_pos hw]
  unfold Oper.wp
  rw [hrun]
  exact hc
end Go.Proofs.YtlbndpkdkdgggaaGreatDoor

namespace Go.Proofs.YtlbndpkdkdgggaaGreatDoor
open Go.RowKit Lim

end Go.Proofs.YtlbndpkdkdgggaaGreatDoor

namespace Go.Proofs.YtlbndpkdkdgggaaGreatDoor
open Go.RowKit Lim

/-- 36 places as bytes -/
def fr36 (r : Int) : List UInt8 := (digL 36 r).map fun c => UInt8.ofNat c.toNat
/-- what stands behind the whole part -/
def fracT (r : Int) : List UInt8 := if r = 0 then [] else 46 :: Lib.trimRightB (fr36 r) 48
structure DText (S : ByteArray) (x : Int) : Prop where
  ex : ∃ Sw : ByteArray, TextOf Sw (x / U36) ∧ S.data.toList = Sw.data.toList ++ fracT (x % U36)
theorem fr36_of {S : ByteArray} {r : Int} (h : S.data.toList.map (fun c => (c.toNat : Int)) = digL 36 r) : S.data.toList = fr36 r := by
  unfold fr36
  rw [← h, List.map_map]
  conv => lhs; rw [← List.map_id S.data.toList]
  apply List.map_congr_left
  intro c _
  simp [Function.comp]
theorem trimR_le (l : List UInt8) (c : UInt8) : (Lib.trimRightB l c).length ≤ l.length := by
  unfold Lib.trimRightB
  rw [List.length_reverse]
  have := (List.dropWhile_sublist (fun x => x == c) (l := l.reverse)).length_le
  rwa [List.length_reverse] at this
theorem fr36_length (r : Int) : (fr36 r).length = 36 := by unfold fr36; rw [List.length_map, digL_length]
end Go.Proofs.YtlbndpkdkdgggaaGreatDoor

namespace Go.Proofs.YtlbndpkdkdgggaaGreatDoor
open Go.RowKit Lim

set_option maxHeartbeats 2000000 in
set_option maxRecDepth 100000 in
theorem cut_yes (s : ByteArray) (i : Nat) (w : World) (hs : s.size ≤ 1099511627776) (h : Lib.indexByte s.data.toList 46 = (i : Int)) (hi : i < s.size) :
    Calls Tryz.prog 90 #[.string s, .string ⟨#[46]⟩] w fun e w' => e = .returned (.tuple #[.string (s.extract 0 i), .string (s.extract (i + 1) s.size), .bool true]) ∧ Below w.heap.size w w' := by
  have t := Tryz.stringslite_Index_one s 46
  rw [h] at t
  clear h
  have hi0 : (i : Int) < s.size := by omega
  go_enter Tryz.func90, Tryz.ntmps90
  go_wp2_with (first
    | (go_at_call 138; refine (t _).mono ?_; rintro e w' ⟨rfl, rfl⟩)
    | go_in)
  go_quiet (fail)
  go_wp2
  go_ret3
  exact ⟨rfl, below_drewN (Below.refl _ _) _⟩

set_option maxHeartbeats 2000000 in
set_option maxRecDepth 100000 in
theorem places_ok (s : ByteArray) (w : World) (hs : s.size ≤ 36) (h1 : Lib.hasSuffix s.data.toList [48] = false) (h2 : isT (Lib.trimLeftB s.data.toList 48) = true) :
    Calls Tryz.prog 92 #[.string s] w fun e w' => ∃ a k d, e = .returned (.tuple #[.agg #[.slice a k d], .int .i64 0]) ∧ NatO w' a k d (dval (Lib.trimLeftB s.data.toList 48) * 10 ^ (36 - s.size)) ∧ k ≤ 80 ∧ Below w.heap.size w w' := by
  have B0 := below_alloc w (.cells #[.slice none 0 0] 35)
  have S0 := slot_new w (.slice none 0 0) 35
  have tH := Tryz.strings_HasSuffix s ⟨#[48]⟩
  rw [show (⟨#[48]⟩ : ByteArray).data.toList = [48] from rfl, h1] at tH
  have tL := Tryz.strings_TrimLeft_one s 48 (by decide)
  have hlen : (Lib.trimLeftB s.data.toList 48).length ≤ 36 := by
    unfold Lib.trimLeftB
    have := (List.dropWhile_sublist (fun x => x == 48) (l := s.data.toList)).length_le
    rw [len_data] at this
    omega
  have hsub : ((36 : Int) - (s.size : Int)) = ((36 - s.size : Nat) : Int) := by omega
  clear h1
  generalize hR : (⟨(Lib.trimLeftB s.data.toList 48).toArray⟩ : ByteArray) = R at tL
  have hRd : R.data.toList = Lib.trimLeftB s.data.toList 48 := by rw [← hR]
  have hRs : R.size ≤ 36 := by rw [← len_data, hRd]; exact hlen
  have tP := fun w => parse_yes R w (by omega) (by rw [hRd]; exact h2)
  rw [hRd] at tP
  clear hR hRd h2 hlen
  generalize dval (Lib.trimLeftB s.data.toList 48) = V at *
  have HSUB := (show Hid _ from hsub)
  clear hsub
  go_enter Tryz.func92, Tryz.ntmps92
  go_wp2_with (first
    | (go_at_call 121; refine (tH _ (by omega)).mono ?_; rintro e w' ⟨rfl, rfl⟩)
    | (go_at_call 122; refine (tL _).mono ?_; rintro e w' ⟨rfl, rfl⟩))
  refine (tP _).mono ?_
  rintro e w1 ⟨v, r, rfl, hnw, hI, hlr, hB⟩
  obtain ⟨a, d, rfl, hO⟩ := hnw.o hI
  have S0 := S0.keep hB
  have B0 := joinB B0 hB
  clear hB hnw hI tP tH tL
  have tT := dTenTo (w := w1) (36 - s.size) (by omega)
  rw [← HSUB.out] at tT
  go_wp2_with fail
  refine tT.mono ?_
  rintro e w2 ⟨a2, k2, d2, rfl, hO2, hk2, hB⟩
  have S0 := S0.keep hB
  have B0 := joinB B0 hB
  have hO := hO.keep hB
  clear hB tT
  go_wp2_with fail
  refine (nMul hO.a hO2.a (by omega) (by omega)).mono ?_
  rintro e w3 ⟨a', k', d', rfl, hO', hk', hB⟩
  have S1 := S0.keep hB
  have c1 := S1.cell
  have f1 := S1.free
  have S2 := S1.put (.slice a' k' d')
  have hOz := hO'.put S1 not_int (.slice a' k' d')
  have HB := belowPut B0 hB (g := w.heap.size) (Nat.le_refl _) (.slice a' k' d')
  clear hO hO2 hO' hB S0 S1 B0
  go_wp2
  refine bodyPost_ret (ret_dec_tmp rfl rfl rfl S2) rfl ?_
  exact ⟨a', k', d', rfl, hOz, by omega, HB⟩

set_option maxHeartbeats 2000000 in
set_option maxRecDepth 100000 in
theorem places_suf (s : ByteArray) (w : World) (hs : s.size ≤ 36) (h1 : Lib.hasSuffix s.data.toList [48] = true) :
    Calls Tryz.prog 92 #[.string s] w fun e w' => e = .returned (.tuple #[.agg #[.slice none 0 0], .int .i64 22]) ∧ Below w.heap.size w w' := by
  have B0 := below_alloc w (.cells #[.slice none 0 0] 35)
  have S0 := slot_new w (.slice none 0 0) 35
  have tH := Tryz.strings_HasSuffix s ⟨#[48]⟩
  rw [show (⟨#[48]⟩ : ByteArray).data.toList = [48] from rfl, h1] at tH
  clear h1
  go_enter Tryz.func92, Tryz.ntmps92
  go_wp2_with (go_at_call 121; refine (tH _ (by omega)).mono ?_; rintro e w' ⟨rfl, rfl⟩)
  refine bodyPost_ret (ret_dec_tmp rfl rfl rfl S0) rfl ?_
  exact ⟨rfl, B0⟩

set_option maxHeartbeats 2000000 in
set_option maxRecDepth 100000 in
theorem dParse_suf (s : ByteArray) (i : Nat) (w : World) (hs : s.size ≤ 1000000) (h : Lib.indexByte s.data.toList 46 = (i : Int)) (hi : i < s.size) (ht : isT (s.extract 0 i).data.toList = true) (h36 : (s.extract (i + 1) s.size).size ≤ 36) (hf : Lib.hasSuffix (s.extract (i + 1) s.size).data.toList [48] = true) :
    Calls Tryz.prog 48 #[.string s] w fun e w' => e = .returned (.tuple #[.agg #[.slice none 0 0], .int .i64 22]) ∧ Below w.heap.size w w' := by
  have B0 := below_alloc w (.cells #[.slice none 0 0] 35)
  have S0 := slot_new w (.slice none 0 0) 35
  have tC := fun w => cut_yes s i w (by omega) h hi
  have hsz : (s.extract 0 i).size ≤ 1000000 := by rw [ByteArray.size_extract]; omega
  have tP := fun w => parse_yes (s.extract 0 i) w (by omega) ht
  have tQ := fun w => places_suf (s.extract (i + 1) s.size) w h36 hf
  clear h hi ht h36 hf
  generalize s.extract 0 i = D at *
  generalize s.extract (i + 1) s.size = E at *
  go_enter Tryz.func48, Tryz.ntmps48
  go_wp2_with fail
  refine (tC _).mono ?_
  rintro e w1 ⟨rfl, hB⟩
  have S0 := S0.keep hB
  have B0 := joinB B0 hB
  clear hB tC
  go_wp2_with fail
  refine (tP _).mono ?_
  rintro e w2 ⟨v, r, rfl, hnw, hI, hlr, hB⟩
  obtain ⟨a, d, rfl, hO⟩ := hnw.o hI
  have S0 := S0.keep hB
  have B0 := joinB B0 hB
  clear hB hnw hI tP
  go_wp2_with fail
  refine (tQ _).mono ?_
  rintro e w3 ⟨rfl, hB⟩
  have S0 := S0.keep hB
  have B0 := joinB B0 hB
  clear hB tQ
  have c0 := S0.cell
  have f0 := S0.free
  have S2 := (S0.put (.slice none 0 0)).alloc (.cells #[.slice none 0 0] 35)
  have HB := joinB (B0.setCell (p := ⟨w.heap.size, 0, none⟩) (Nat.le_refl _) (.slice none 0 0)) (below_alloc _ (.cells #[.slice none 0 0] 35))
  have S3 := S0.alloc (.cells #[.slice none 0 0] 35)
  have c3 := S3.cell
  have f3 := S3.free
  have S4 := S3.put (.slice none 0 0)
  have HB4 := (joinB B0 (below_alloc _ (.cells #[.slice none 0 0] 35))).setCell (p := ⟨w.heap.size, 0, none⟩) (Nat.le_refl _) (.slice none 0 0)
  clear S0 B0 S3
  go_wp2
  first
  | (refine bodyPost_ret (ret_dec_tmp rfl rfl rfl S2) rfl ?_; exact ⟨rfl, HB⟩)
  | (refine bodyPost_ret (ret_dec_tmp rfl rfl rfl S4) rfl ?_; exact ⟨rfl, HB4⟩)
  | trace_state

set_option maxHeartbeats 2000000 in
set_option maxRecDepth 100000 in
theorem dParse_ok (s : ByteArray) (i : Nat) (w : World) (hs : s.size ≤ 1000000) (h : Lib.indexByte s.data.toList 46 = (i : Int)) (hi : i < s.size) (ht : isT (s.extract 0 i).data.toList = true) (h36 : (s.extract (i + 1) s.size).size ≤ 36) (hf : Lib.hasSuffix (s.extract (i + 1) s.size).data.toList [48] = false) (hl : isT (Lib.trimLeftB (s.extract (i + 1) s.size).data.toList 48) = true) :
    Calls Tryz.prog 48 #[.string s] w fun e w' => ∃ a k d, e = .returned (.tuple #[.agg #[.slice a k d], .int .i64 0]) ∧ NatO w' a k d (dval (s.extract 0 i).data.toList * U36 + dval (Lib.trimLeftB (s.extract (i + 1) s.size).data.toList 48) * 10 ^ (36 - (s.extract (i + 1) s.size).size)) ∧ k ≤ s.size + 200 ∧ Below w.heap.size w w' := by
  have B0 := below_alloc w (.cells #[.slice none 0 0] 35)
  have S0 := slot_new w (.slice none 0 0) 35
  have tC := fun w => cut_yes s i w (by omega) h hi
  have hsz : (s.extract 0 i).size ≤ s.size := by rw [ByteArray.size_extract]; omega
  have tP := fun w => parse_yes (s.extract 0 i) w (by omega) ht
  have tQ := fun w => places_ok (s.extract (i + 1) s.size) w h36 hf hl
  clear h hi ht h36 hf hl
  generalize dval (s.extract 0 i).data.toList = X at *
  generalize dval (Lib.trimLeftB (s.extract (i + 1) s.size).data.toList 48) * 10 ^ (36 - (s.extract (i + 1) s.size).size) = Y at *
  generalize s.extract 0 i = D at *
  generalize s.extract (i + 1) s.size = E at *
  go_enter Tryz.func48, Tryz.ntmps48
  go_wp2_with fail
  refine (tC _).mono ?_
  rintro e w1 ⟨rfl, hB⟩
  have S0 := S0.keep hB
  have B0 := joinB B0 hB
  clear hB tC
  go_wp2_with fail
  refine (tP _).mono ?_
  rintro e w2 ⟨v, r, rfl, hnw, hI, hlr, hB⟩
  obtain ⟨a, d, rfl, hO⟩ := hnw.o hI
  have S0 := S0.keep hB
  have B0 := joinB B0 hB
  clear hB hnw hI tP
  go_wp2_with fail
  refine (tQ _).mono ?_
  rintro e w3 ⟨a3, k3, d3, rfl, hO3, hk3, hB⟩
  have S0 := S0.keep hB
  have B0 := joinB B0 hB
  have hO := hO.keep hB
  clear hB tQ
  have hgl := S0.lt
  have BA := below_alloc w3 (.cells #[.slice a3 k3 d3] 35)
  have SL := slot_new w3 (.slice a3 k3 d3) 35
  have S0 := S0.keep BA
  have hO := hO.keep BA
  have hO3 := hO3.keep BA
  have B0 := joinB B0 BA
  clear BA
  have cL := SL.cell
  go_wp2_with fail
  generalize w3.alloc (.cells #[.slice a3 k3 d3] 35) = w4 at *
  generalize w3.heap.size = gL at *
  go_region_held3 (fun w' => w'.cell? ⟨gL, 0, none⟩ = some (.slice a3 k3 d3)) (first | exact (by assumption) | exact (SL.other (by omega) _).cell | go_keep)
    (first
    | (go_at_call 88; refine (dOfNat hO.drew.a (by omega)).mono ?_; rintro e w5 ⟨a5, k5, d5, rfl, hO5, hk5, hB⟩; have S0 := S0.drew.keep hB; have SL := SL.drew.keep hB; have cL := SL.cell; have hO3 := hO3.drew.keep hB; have B0 := joinB B0.drew hB; clear hB hO)
    | (go_at_call 45; refine (dAdd hO5.a hO3.a (by omega) (by omega)).mono ?_; rintro e w6 ⟨a6, k6, d6, rfl, hO6, hk6, hB⟩; have S1 := S0.keep hB; have c1 := S1.cell; have f1 := S1.free; have SL := SL.keep hB; have cL := SL.cell; have S2 := S1.put (.slice a6 k6 d6); have hOz := hO6.put S1 not_int (.slice a6 k6 d6); have HB := (joinB B0 hB).setCell (p := ⟨w.heap.size, 0, none⟩) (Nat.le_refl _) (.slice a6 k6 d6); clear hB hO5 hO3 hO6 S0 B0))
  all_goals go_wp2
  all_goals refine bodyPost_ret (ret_dec_tmp rfl rfl rfl S2) rfl ?_
  all_goals exact ⟨a6, k6, d6, rfl, hOz, by omega, HB⟩
end Go.Proofs.YtlbndpkdkdgggaaGreatDoor

namespace Go.Proofs.YtlbndpkdkdgggaaGreatDoor
open Go.RowKit Lim

end Go.Proofs.YtlbndpkdkdgggaaGreatDoor

namespace Go.Proofs.YtlbndpkdkdgggaaGreatDoor
open Go.RowKit Lim

end Go.Proofs.YtlbndpkdkdgggaaGreatDoor
