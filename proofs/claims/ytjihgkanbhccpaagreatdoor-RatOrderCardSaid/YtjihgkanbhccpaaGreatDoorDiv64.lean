/- math/bits.Div64 at this dump: the quotient of two limbs by one, and what is left. -/
import Derived.Test.YtjihgkanbhccpaaGreatDoorLen
import Derived.Deep.QuietTactic
import Derived.BigQuiet
namespace Go.Proofs.YtjihgkanbhccpaaGreatDoor
open Go.RowKit Lim

/-- a shift that brings the highest bit to the top -/
theorem clz_n (y : Int) (w : World) (h0 : 0 < y) (h1 : y < 18446744073709551616) :
    Calls Tryz.prog 124 #[.int .u64 y] w fun e w' => ∃ s : Nat, e = .returned (.int .i64 s) ∧ s ≤ 63 ∧ Hid (9223372036854775808 ≤ y * 2 ^ s ∧ y * 2 ^ s < 18446744073709551616) ∧ w' = w := by
  refine (clz64 y w (by omega) h1).mono ?_
  rintro e w' ⟨rfl, rfl⟩
  have hl := bitLen_le64 (n := y.toNat) (by omega)
  have hp := bitLen_pos (n := y.toNat) (by omega)
  have hs := bitLen_spec y.toNat
  generalize bitLen y.toNat = L at *
  refine ⟨64 - L, ret1 (by omega), by omega, ?_, rfl⟩
  have hs1 := hs.1
  have hs2 := hs.2 (by omega)
  obtain ⟨n, rfl⟩ : ∃ n : Nat, y = n := ⟨y.toNat, by omega⟩
  rw [Int.toNat_natCast] at hs1 hs2
  have e1 : (2 : Nat) ^ L * 2 ^ (64 - L) = 18446744073709551616 := by rw [← Nat.pow_add, show L + (64 - L) = 64 from by omega]
  have e2 : (2 : Nat) ^ (L - 1) * 2 ^ (64 - L) = 9223372036854775808 := by rw [← Nat.pow_add, show L - 1 + (64 - L) = 63 from by omega]
  have k1 : n * 2 ^ (64 - L) < 2 ^ L * 2 ^ (64 - L) := Nat.mul_lt_mul_of_pos_right hs1 (Nat.two_pow_pos _)
  have k2 : 2 ^ (L - 1) * 2 ^ (64 - L) ≤ n * 2 ^ (64 - L) := Nat.mul_le_mul_right _ hs2
  rw [e1] at k1
  rw [e2] at k2
  have c : ((n * 2 ^ (64 - L) : Nat) : Int) = (n : Int) * 2 ^ (64 - L) := by rw [Int.natCast_mul, Int.natCast_pow]; rfl
  show _ ∧ _
  rw [← c]
  omega

/-- a digit that is not too small, and what it leaves -/
structure DInv (y y1 u a q r : Int) : Prop where
  eq : q * y1 + r = u
  r0 : 0 ≤ r
  up : u * 4294967296 + a < (q + 1) * y
  q0 : 0 ≤ q
  qb : q ≤ 4294967297

theorem DInv.start {y y1 y0 u a : Int} (e : y = y1 * 4294967296 + y0) (h0 : 0 ≤ y0) (h1 : y0 < 4294967296) (h2 : 2147483648 ≤ y1) (u0 : 0 ≤ u) (u1 : u < y) (a0 : 0 ≤ a) (a1 : a < 4294967296) :
    DInv y y1 u a (u / y1) (u % y1) := by
  have hq := Int.mul_ediv_add_emod u y1
  have hr := Int.emod_nonneg u (show y1 ≠ 0 by omega)
  have hr1 := Int.emod_lt_of_pos u (show 0 < y1 by omega)
  have hq0 : 0 ≤ u / y1 := Int.ediv_nonneg u0 (by omega)
  generalize u / y1 = q at *
  generalize u % y1 = r at *
  refine ⟨by rw [Int.mul_comm]; exact hq, hr, ?_, hq0, ?_⟩
  · have k1 : (q + 1) * y = (y1 * q + y1) * 4294967296 + (q + 1) * y0 := by rw [e]; grind
    have k2 : 0 ≤ (q + 1) * y0 := Int.mul_nonneg (by omega) h0
    rw [k1]; omega
  · by_cases hc : q ≤ 4294967297
    · exact hc
    · have k : y1 * 4294967298 ≤ y1 * q := Int.mul_le_mul_of_nonneg_left (by omega) (by omega)
      omega
theorem DInv.big {y y1 u a q r : Int} (h : DInv y y1 u a q r) (a1 : a < 4294967296) (y0 : 0 < y) (u1 : u < y) (hq : 4294967296 ≤ q) (h2 : 0 ≤ y1) : DInv y y1 u a (q - 1) (r + y1) := by
  have k : y * 4294967296 ≤ y * q := Int.mul_le_mul_of_nonneg_left hq (by omega)
  have := h.eq; have := h.r0; have := h.qb
  refine ⟨by rw [Int.sub_mul]; omega, by omega, ?_, by omega, by omega⟩
  rw [Int.sub_add_cancel, Int.mul_comm q y]; omega
theorem DInv.more {y y1 y0 u a q r : Int} (h : DInv y y1 u a q r) (e : y = y1 * 4294967296 + y0) (u0 : 0 ≤ u) (a0 : 0 ≤ a) (h2 : 0 ≤ y1) (hc : 4294967296 * r + a < q * y0) : DInv y y1 u a (q - 1) (r + y1) := by
  have he := h.eq; have := h.r0; have := h.qb; have := h.q0
  have k : q * y = q * y1 * 4294967296 + q * y0 := by rw [e]; grind
  have hup : u * 4294967296 + a < q * y := by rw [k]; omega
  have hq1 : 1 ≤ q := by
    by_cases c : 1 ≤ q
    · exact c
    · have : q = 0 := by omega
      subst this
      simp at hup; omega
  refine ⟨by rw [Int.sub_mul]; omega, by omega, ?_, by omega, by omega⟩
  rw [Int.sub_add_cancel]; exact hup
/-- the digit -/
structure Dig (y u a q : Int) : Prop where
  lo : q * y ≤ u * 4294967296 + a
  hi : u * 4294967296 + a < (q + 1) * y
  q0 : 0 ≤ q
  q1 : q < 4294967296
theorem DInv.dig {y y1 y0 u a q r : Int} (h : DInv y y1 u a q r) (e : y = y1 * 4294967296 + y0) (yp : 0 < y) (u1 : u < y) (a1 : a < 4294967296) (hc : q * y0 ≤ 4294967296 * r + a) : Dig y u a q := by
  have he := h.eq
  have k : q * y = q * y1 * 4294967296 + q * y0 := by rw [e]; grind
  have lo : q * y ≤ u * 4294967296 + a := by rw [k]; omega
  refine ⟨lo, h.up, h.q0, ?_⟩
  by_cases c : q < 4294967296
  · exact c
  · have : 4294967296 * y ≤ q * y := Int.mul_le_mul_of_nonneg_right (by omega) (by omega)
    omega
theorem DInv.broke {y y1 y0 u a q r : Int} (h : DInv y y1 u a q r) (e : y = y1 * 4294967296 + y0) (yp : 0 < y) (u1 : u < y) (a0 : 0 ≤ a) (a1 : a < 4294967296) (h0 : 0 ≤ y0) (h1 : y0 < 4294967296) (hq : q ≤ 4294967296) (hr : 4294967296 ≤ r) : Dig y u a q :=
  h.dig e yp u1 a1 (by
    have : q * y0 ≤ 4294967296 * y0 := Int.mul_le_mul_of_nonneg_right hq h0
    omega)
theorem Dig.rest {y u a q : Int} (h : Dig y u a q) : 0 ≤ u * 4294967296 + a - q * y ∧ u * 4294967296 + a - q * y < y := by
  have := h.lo; have h2 := h.hi
  rw [Int.add_mul] at h2
  omega

theorem ediv64 (x S T : Int) (hS : 0 < S) (h : S * T = 18446744073709551616) : x * S / 18446744073709551616 = x / T := by
  rw [← h, Int.mul_comm S T, Int.mul_ediv_mul_of_pos_left _ _ hS]
theorem or_add (a b : Int) (s : Nat) (k : Int) (ha : a = k * 2 ^ s) (hk : 0 ≤ k) (ha1 : a < 18446744073709551616) (hb0 : 0 ≤ b) (hb1 : b < 2 ^ s) (hb2 : b < 18446744073709551616) : bits .or .u64 a b = a + b := by
  have h2 : (0 : Int) < 2 ^ s := Int.pow_pos (by decide)
  have ha0 : 0 ≤ a := by rw [ha]; exact Int.mul_nonneg hk (Int.le_of_lt h2)
  rw [u64_or a b ha0 ha1 hb0 hb2]
  obtain ⟨k, rfl⟩ := Int.eq_ofNat_of_zero_le hk
  obtain ⟨b, rfl⟩ := Int.eq_ofNat_of_zero_le hb0
  have e : a.toNat = 2 ^ s * k := by
    have : a = ((2 ^ s * k : Nat) : Int) := by rw [ha, Int.natCast_mul, Int.natCast_pow, Int.mul_comm]; rfl
    rw [this, Int.toNat_natCast]
  have hb' : b < 2 ^ s := by
    have : ((2 ^ s : Nat) : Int) = 2 ^ s := by rw [Int.natCast_pow]; rfl
    omega
  rw [e, Int.toNat_natCast, ← Nat.two_pow_add_eq_or_of_lt hb', ← e]
  omega
/-- the shifted numbers' halves -/
theorem div_prep (hi lo y : Int) (s : Nat) (h0 : 0 ≤ hi) (h1 : hi < y) (l0 : 0 ≤ lo) (l1 : lo < 18446744073709551616) (hs : s ≤ 63) (HS : 9223372036854775808 ≤ y * 2 ^ s ∧ y * 2 ^ s < 18446744073709551616) :
    ∃ Y Yh Yl U A A1 A0 : Int, IntKind.u64.wrap (y * 2 ^ s) = Y ∧ Y / 4294967296 = Yh ∧ bits .and .u64 Y 4294967295 = Yl ∧ bits .or .u64 (IntKind.u64.wrap (hi * 2 ^ s)) (lo / 2 ^ (64 - s)) = U ∧
      IntKind.u64.wrap (lo * 2 ^ s) = A ∧ A / 4294967296 = A1 ∧ bits .and .u64 A 4294967295 = A0 ∧ 0 ≤ Yl ∧ Yl < 4294967296 ∧ 2147483648 ≤ Yh ∧ Yh < 4294967296 ∧ 0 ≤ U ∧ U < Y ∧ Y < 18446744073709551616 ∧ 0 ≤ A1 ∧ A1 < 4294967296 ∧ 0 ≤ A0 ∧ A0 < 4294967296 ∧
      Hid (Y = Yh * 4294967296 + Yl) ∧ Hid ((U * 4294967296 + A1) * 4294967296 + A0 = (hi * 18446744073709551616 + lo) * 2 ^ s ∧ Y = y * 2 ^ s) := by
  have hS : (0 : Int) < 2 ^ s := Int.pow_pos (by decide)
  have hT : (0 : Int) < 2 ^ (64 - s) := Int.pow_pos (by decide)
  have hST : (2 : Int) ^ s * 2 ^ (64 - s) = 18446744073709551616 := by rw [← Int.pow_add, show s + (64 - s) = 64 from by omega]; rfl
  have hSle : (2 : Int) ^ s * 1 ≤ 2 ^ s * 2 ^ (64 - s) := Int.mul_le_mul_of_nonneg_left (by omega) (Int.le_of_lt hS)
  have hhi : 0 ≤ hi * 2 ^ s := Int.mul_nonneg h0 (Int.le_of_lt hS)
  have hhi2 : (hi + 1) * 2 ^ s ≤ y * 2 ^ s := Int.mul_le_mul_of_nonneg_right (by omega) (Int.le_of_lt hS)
  rw [Int.add_mul, Int.one_mul] at hhi2
  have hlo : 0 ≤ lo * 2 ^ s := Int.mul_nonneg l0 (Int.le_of_lt hS)
  have hlT0 : 0 ≤ lo / 2 ^ (64 - s) := Int.ediv_nonneg l0 (Int.le_of_lt hT)
  have hlT1 : lo / 2 ^ (64 - s) < 2 ^ s := by
    rw [Int.ediv_lt_iff_lt_mul hT, hST]; exact l1
  have hq := ediv64 lo (2 ^ s) (2 ^ (64 - s)) hS hST
  have hU : bits .or .u64 (IntKind.u64.wrap (hi * 2 ^ s)) (lo / 2 ^ (64 - s)) = hi * 2 ^ s + lo / 2 ^ (64 - s) := by
    rw [IntKind.wrap_u64, Int.emod_eq_of_lt hhi (by omega)]
    exact or_add _ _ s hi rfl h0 (by omega) hlT0 hlT1 (by omega)
  have hY : IntKind.u64.wrap (y * 2 ^ s) = y * 2 ^ s := by rw [IntKind.wrap_u64]; omega
  have hA : IntKind.u64.wrap (lo * 2 ^ s) = lo * 2 ^ s % 18446744073709551616 := IntKind.wrap_u64 _
  have e3 : (hi * 18446744073709551616 + lo) * 2 ^ s = hi * 2 ^ s * 18446744073709551616 + lo * 2 ^ s := by grind
  rw [hU, hY, hA]
  rw [← hq] at hlT0 hlT1 ⊢
  rw [e3]
  generalize hi * 2 ^ s = H at *
  generalize lo * 2 ^ s = Lo at *
  generalize y * 2 ^ s = Y at *
  refine ⟨Y, _, _, _, _, _, _, rfl, rfl, and32 _ (by omega) (by omega), rfl, rfl, rfl, and32 _ (by omega) (by omega), by omega, by omega, by omega, by omega, by omega, by omega, by omega, by omega, by omega, by omega, by omega, ?_, ?_, rfl⟩
  · show _ = _; omega
  · omega
theorem rest_wrap (U A p V : Int) (h : V = U * 4294967296 + A - p) (h0 : 0 ≤ V) (h1 : V < 18446744073709551616) : IntKind.u64.wrap (IntKind.u64.wrap (IntKind.u64.wrap (U * 4294967296) + A) - IntKind.u64.wrap p) = V := by
  simp only [IntKind.wrap_u64]; omega
theorem hat_wrap (u y : Int) (hu : 0 ≤ u) (hu1 : u < 18446744073709551616) (hy : 0 < y) : IntKind.u64.wrap (u - IntKind.u64.wrap (u / y * y)) = u % y := by
  have h1 := Int.mul_ediv_add_emod u y
  have h2 := Int.emod_nonneg u (show y ≠ 0 by omega)
  have h3 := Int.mul_nonneg (Int.ediv_nonneg hu (Int.le_of_lt hy)) (Int.le_of_lt hy)
  rw [Int.mul_comm] at h1
  generalize u / y * y = p at *
  generalize u % y = r at *
  simp only [IntKind.wrap_u64]; omega
/-- one digit's start: quotient and rest under names -/
theorem dig_start (Y Yh Yl u a : Int) (hy : Y = Yh * 4294967296 + Yl) (h0 : 0 ≤ Yl) (h1 : Yl < 4294967296) (h2 : 2147483648 ≤ Yh) (h3 : Yh < 4294967296) (u0 : 0 ≤ u) (u1 : u < Y) (u2 : Y < 18446744073709551616) (a0 : 0 ≤ a) (a1 : a < 4294967296) :
    IntKind.u64.wrap (u - IntKind.u64.wrap (u / Yh * Yh)) = u % Yh ∧ DInv Y Yh u a (u / Yh) (u % Yh) ∧ u % Yh < 4294967296 :=
  ⟨hat_wrap u Yh u0 (by omega) (by omega), DInv.start hy h0 h1 h2 u0 u1 a0 a1, by have := Int.emod_lt_of_pos u (show 0 < Yh by omega); omega⟩
theorem dig_rest {Y u a q : Int} (h : Dig Y u a q) (hY : Y < 18446744073709551616) : ∃ V : Int, IntKind.u64.wrap (IntKind.u64.wrap (IntKind.u64.wrap (u * 4294967296) + a) - IntKind.u64.wrap (q * Y)) = V ∧ 0 ≤ V ∧ V < Y ∧ Hid (V = u * 4294967296 + a - q * Y) := by
  have := h.rest
  exact ⟨u * 4294967296 + a - q * Y, rest_wrap u a (q * Y) _ rfl this.1 (by omega), this.1, this.2, rfl⟩
theorem div_fin (hi lo y Y U A1 A0 Q V Q2 : Int) (s : Nat) (hy : 0 < y) (e : (U * 4294967296 + A1) * 4294967296 + A0 = (hi * 18446744073709551616 + lo) * 2 ^ s) (eY : Y = y * 2 ^ s) (hV : V = U * 4294967296 + A1 - Q * Y) (hd : Dig Y V A0 Q2) :
    Q * 4294967296 + Q2 = (hi * 18446744073709551616 + lo) / y ∧ (V * 4294967296 + A0 - Q2 * Y) / 2 ^ s = (hi * 18446744073709551616 + lo) % y := by
  have hS : (0 : Int) < 2 ^ s := Int.pow_pos (by decide)
  have hr := hd.rest
  have h1 := hd.q0
  have h2 := hd.q1
  generalize hN : hi * 18446744073709551616 + lo = N at *
  have key : N * 2 ^ s = (Q * 4294967296 + Q2) * y * 2 ^ s + (V * 4294967296 + A0 - Q2 * Y) := by rw [← e, hV, eY]; grind
  generalize hR : V * 4294967296 + A0 - Q2 * Y = R at *
  have hdiv : R = (N - (Q * 4294967296 + Q2) * y) * 2 ^ s := by rw [Int.sub_mul]; omega
  generalize hK : Q * 4294967296 + Q2 = K at *
  generalize hD : N - K * y = D at *
  rw [hdiv] at hr
  rw [eY] at hr
  have d0 : 0 ≤ D := by
    by_cases c : 0 ≤ D
    · exact c
    · have : D * 2 ^ s ≤ -1 * 2 ^ s := Int.mul_le_mul_of_nonneg_right (by omega) (Int.le_of_lt hS)
      omega
  have d1 : D < y := Int.lt_of_mul_lt_mul_right hr.2 (Int.le_of_lt hS)
  have hND : N = y * K + D := by rw [← hD, Int.mul_comm y K]; omega
  constructor
  · have : N / y = K := by rw [hND, Int.add_comm, Int.add_mul_ediv_left _ _ (by omega), Int.ediv_eq_zero_of_lt d0 d1, Int.zero_add]
    omega
  · rw [hdiv, Int.mul_ediv_cancel _ (by omega), hND, Int.add_comm, Int.add_mul_emod_self_left, Int.emod_eq_of_lt d0 d1]

set_option maxHeartbeats 4000000 in
set_option maxRecDepth 100000 in
theorem div64_big (hi lo y : Int) (w : World) (h0 : 0 < hi) (h1 : hi < y) (l0 : 0 ≤ lo) (l1 : lo < 18446744073709551616) (y1 : y < 18446744073709551616) :
    Calls Tryz.prog 166 #[.int .u64 hi, .int .u64 lo, .int .u64 y] w fun e w' => e = .returned (.tuple #[.int .u64 ((hi * 18446744073709551616 + lo) / y), .int .u64 ((hi * 18446744073709551616 + lo) % y)]) ∧ w' = w := by
  have hb0 : (hi == 0) = false := beq_eq_false_iff_ne.2 (by omega)
  have hb1 : (y == 0) = false := beq_eq_false_iff_ne.2 (by omega)
  go_enter Tryz.func166, Tryz.ntmps166
  go_wp2_with fail
  refine (clz_n y _ (by omega) y1).mono ?_
  rintro e w' ⟨s, rfl, hs, HS, rfl⟩
  obtain ⟨Y, Yh, Yl, U, A, A1, A0, e1, e2, e3, e4, e5, e6, e7, yl0, yl1, yh0, yh1, u0, u1, yy, a10, a11, a00, a01, HY, HF⟩ := div_prep hi lo y s (by omega) h1 l0 l1 hs HS.out
  obtain ⟨d2, hD0, hr0⟩ := dig_start Y Yh Yl U A1 HY.out yl0 yl1 yh0 yh1 u0 u1 yy a10 a11
  go_wp2_with fail
  clear e1 e2 e3 e4 e5 e6 e7 d2 HS hb0 hb1
  go_loop [15, 16] (fun tq tr => ∃ q r : Int, tq = .int .u64 q ∧ tr = .int .u64 r ∧ DInv Y Yh U A1 q r ∧ r < 4294967296) (fun tq _ => (intOf tq).toNat)
  case atStart => exact ⟨_, _, rfl, rfl, hD0, hr0⟩
  case round =>
    clear hD0 hr0
    obtain ⟨q, r, rfl, rfl, hD, hr⟩ := hrel
    have q0 := hD.q0
    have qb := hD.qb
    have r0 := hD.r0
    by_cases c1 : 4294967296 ≤ q
    · have hD' := hD.big a11 (by omega) u1 c1 (by omega)
      obtain ⟨Q, hQ⟩ : ∃ Q, q - 1 = Q := ⟨_, rfl⟩
      obtain ⟨R, hR⟩ : ∃ R, r + Yh = R := ⟨_, rfl⟩
      rw [hQ, hR] at hD'
      have Q0 := hD'.q0
      have Qlt : Q < q := by omega
      have Rb : R < 8589934592 := by omega
      have R0 := hD'.r0
      by_cases c2 : 4294967296 ≤ R
      · have HD : Hid (Dig Y U A1 Q) := hD'.broke HY.out (by omega) u1 (by omega) a11 yl0 yl1 (by omega) c2
        have Q1 := HD.out.q1
        obtain ⟨V, v1, v2, v3, HV⟩ := dig_rest HD.out yy
        obtain ⟨d2, hD0, hr0⟩ := dig_start Y Yh Yl V A0 HY.out yl0 yl1 yh0 yh1 v2 v3 yy a00 a01
        obtain ⟨QQ, hQQ⟩ : ∃ QQ, QQ = Q := ⟨_, rfl⟩
        have QQ0 : 0 ≤ QQ := by omega
        have QQ1 : QQ < 4294967296 := by omega
        have HV : Hid (V = U * 4294967296 + A1 - QQ * Y) := by rw [hQQ]; exact HV
        go_wp2_with fail
        rw [← hQQ]
        clear v1 d2 hQQ
        go_loop [18, 16] (fun tq tr => ∃ q r : Int, tq = .int .u64 q ∧ tr = .int .u64 r ∧ DInv Y Yh V A0 q r ∧ r < 4294967296) (fun tq _ => (intOf tq).toNat)
        case atStart => exact ⟨_, _, rfl, rfl, hD0, hr0⟩
        case round =>
          clear hD0 hr0 HD
          obtain ⟨q, r, rfl, rfl, hD, hr⟩ := hrel
          have q0 := hD.q0
          have qb := hD.qb
          have r0 := hD.r0
          by_cases c1 : 4294967296 ≤ q
          · have hD' := hD.big a01 (by omega) v3 c1 (by omega)
            obtain ⟨Q, hQ⟩ : ∃ Q, q - 1 = Q := ⟨_, rfl⟩
            obtain ⟨R, hR⟩ : ∃ R, r + Yh = R := ⟨_, rfl⟩
            rw [hQ, hR] at hD'
            have Q0 := hD'.q0
            have Qlt : Q < q := by omega
            have Rb : R < 8589934592 := by omega
            have R0 := hD'.r0
            by_cases c2 : 4294967296 ≤ R
            · have HD : Hid (Dig Y V A0 Q) := hD'.broke HY.out (by omega) v3 (by omega) a01 yl0 yl1 (by omega) c2
              have Q1 := HD.out.q1
              obtain ⟨Z, z1, z2, z3, HZ⟩ := dig_rest HD.out yy
              go_wp2
              go_ret2
              have hfin := div_fin hi lo y Y U A1 A0 QQ V Q s (by omega) HF.out.1 HF.out.2 HV.out HD.out
              exact ⟨ret2 hfin.1 (by rw [← hfin.2, ← HZ.out]), rfl⟩
            · have HR : Hid (DInv Y Yh V A0 Q R) := hD'
              clear hD' hD
              go_wp2
              go_round
              case rel => exact ⟨Q, R, rfl, rfl, HR.out, by omega⟩
              case measure => simp [intOf]; omega
          · obtain ⟨p, hp⟩ : ∃ p, q * Yl = p := ⟨_, rfl⟩
            have p0 : 0 ≤ p := by rw [← hp]; exact Int.mul_nonneg q0 yl0
            have p1 : p < 18446744073709551616 := by
              have := Int.mul_le_mul (show q ≤ 4294967295 by omega) (show Yl ≤ 4294967295 by omega) yl0 (by decide)
              omega
            by_cases c3 : 4294967296 * r + A0 < p
            · have hD' := hD.more HY.out (by omega) (by omega) (by omega) (by rw [hp]; exact c3)
              obtain ⟨Q, hQ⟩ : ∃ Q, q - 1 = Q := ⟨_, rfl⟩
              obtain ⟨R, hR⟩ : ∃ R, r + Yh = R := ⟨_, rfl⟩
              rw [hQ, hR] at hD'
              have Q0 := hD'.q0
              have Qlt : Q < q := by omega
              have Rb : R < 8589934592 := by omega
              have R0 := hD'.r0
              by_cases c2 : 4294967296 ≤ R
              · have HD : Hid (Dig Y V A0 Q) := hD'.broke HY.out (by omega) v3 (by omega) a01 yl0 yl1 (by omega) c2
                have Q1 := HD.out.q1
                obtain ⟨Z, z1, z2, z3, HZ⟩ := dig_rest HD.out yy
                go_wp2
                go_ret2
                have hfin := div_fin hi lo y Y U A1 A0 QQ V Q s (by omega) HF.out.1 HF.out.2 HV.out HD.out
                exact ⟨ret2 hfin.1 (by rw [← hfin.2, ← HZ.out]), rfl⟩
              · have HR : Hid (DInv Y Yh V A0 Q R) := hD'
                clear hD' hD
                go_wp2
                go_round
                case rel => exact ⟨Q, R, rfl, rfl, HR.out, by omega⟩
                case measure => simp [intOf]; omega
            · have HD : Hid (Dig Y V A0 q) := hD.dig HY.out (by omega) v3 a01 (by rw [hp]; omega)
              have Q1 := HD.out.q1
              have Q0 := HD.out.q0
              clear hD
              have hqq : ∃ Q, Q = q := ⟨_, rfl⟩
              obtain ⟨Q, rfl⟩ := hqq
              obtain ⟨Z, z1, z2, z3, HZ⟩ := dig_rest HD.out yy
              go_wp2
              go_ret2
              have hfin := div_fin hi lo y Y U A1 A0 QQ V Q s (by omega) HF.out.1 HF.out.2 HV.out HD.out
              exact ⟨ret2 hfin.1 (by rw [← hfin.2, ← HZ.out]), rfl⟩
      · have HR : Hid (DInv Y Yh U A1 Q R) := hD'
        clear hD' hD
        go_wp2
        go_round
        case rel => exact ⟨Q, R, rfl, rfl, HR.out, by omega⟩
        case measure => simp [intOf]; omega
    · obtain ⟨p, hp⟩ : ∃ p, q * Yl = p := ⟨_, rfl⟩
      have p0 : 0 ≤ p := by rw [← hp]; exact Int.mul_nonneg q0 yl0
      have p1 : p < 18446744073709551616 := by
        have := Int.mul_le_mul (show q ≤ 4294967295 by omega) (show Yl ≤ 4294967295 by omega) yl0 (by decide)
        omega
      by_cases c3 : 4294967296 * r + A1 < p
      · have hD' := hD.more HY.out (by omega) (by omega) (by omega) (by rw [hp]; exact c3)
        obtain ⟨Q, hQ⟩ : ∃ Q, q - 1 = Q := ⟨_, rfl⟩
        obtain ⟨R, hR⟩ : ∃ R, r + Yh = R := ⟨_, rfl⟩
        rw [hQ, hR] at hD'
        have Q0 := hD'.q0
        have Qlt : Q < q := by omega
        have Rb : R < 8589934592 := by omega
        have R0 := hD'.r0
        by_cases c2 : 4294967296 ≤ R
        · have HD : Hid (Dig Y U A1 Q) := hD'.broke HY.out (by omega) u1 (by omega) a11 yl0 yl1 (by omega) c2
          have Q1 := HD.out.q1
          obtain ⟨V, v1, v2, v3, HV⟩ := dig_rest HD.out yy
          obtain ⟨d2, hD0, hr0⟩ := dig_start Y Yh Yl V A0 HY.out yl0 yl1 yh0 yh1 v2 v3 yy a00 a01
          obtain ⟨QQ, hQQ⟩ : ∃ QQ, QQ = Q := ⟨_, rfl⟩
          have QQ0 : 0 ≤ QQ := by omega
          have QQ1 : QQ < 4294967296 := by omega
          have HV : Hid (V = U * 4294967296 + A1 - QQ * Y) := by rw [hQQ]; exact HV
          go_wp2_with fail
          rw [← hQQ]
          clear v1 d2 hQQ
          go_loop [18, 16] (fun tq tr => ∃ q r : Int, tq = .int .u64 q ∧ tr = .int .u64 r ∧ DInv Y Yh V A0 q r ∧ r < 4294967296) (fun tq _ => (intOf tq).toNat)
          case atStart => exact ⟨_, _, rfl, rfl, hD0, hr0⟩
          case round =>
            clear hD0 hr0 HD
            obtain ⟨q, r, rfl, rfl, hD, hr⟩ := hrel
            have q0 := hD.q0
            have qb := hD.qb
            have r0 := hD.r0
            by_cases c1 : 4294967296 ≤ q
            · have hD' := hD.big a01 (by omega) v3 c1 (by omega)
              obtain ⟨Q, hQ⟩ : ∃ Q, q - 1 = Q := ⟨_, rfl⟩
              obtain ⟨R, hR⟩ : ∃ R, r + Yh = R := ⟨_, rfl⟩
              rw [hQ, hR] at hD'
              have Q0 := hD'.q0
              have Qlt : Q < q := by omega
              have Rb : R < 8589934592 := by omega
              have R0 := hD'.r0
              by_cases c2 : 4294967296 ≤ R
              · have HD : Hid (Dig Y V A0 Q) := hD'.broke HY.out (by omega) v3 (by omega) a01 yl0 yl1 (by omega) c2
                have Q1 := HD.out.q1
                obtain ⟨Z, z1, z2, z3, HZ⟩ := dig_rest HD.out yy
                go_wp2
                go_ret2
                have hfin := div_fin hi lo y Y U A1 A0 QQ V Q s (by omega) HF.out.1 HF.out.2 HV.out HD.out
                exact ⟨ret2 hfin.1 (by rw [← hfin.2, ← HZ.out]), rfl⟩
              · have HR : Hid (DInv Y Yh V A0 Q R) := hD'
                clear hD' hD
                go_wp2
                go_round
                case rel => exact ⟨Q, R, rfl, rfl, HR.out, by omega⟩
                case measure => simp [intOf]; omega
            · obtain ⟨p, hp⟩ : ∃ p, q * Yl = p := ⟨_, rfl⟩
              have p0 : 0 ≤ p := by rw [← hp]; exact Int.mul_nonneg q0 yl0
              have p1 : p < 18446744073709551616 := by
                have := Int.mul_le_mul (show q ≤ 4294967295 by omega) (show Yl ≤ 4294967295 by omega) yl0 (by decide)
                omega
              by_cases c3 : 4294967296 * r + A0 < p
              · have hD' := hD.more HY.out (by omega) (by omega) (by omega) (by rw [hp]; exact c3)
                obtain ⟨Q, hQ⟩ : ∃ Q, q - 1 = Q := ⟨_, rfl⟩
                obtain ⟨R, hR⟩ : ∃ R, r + Yh = R := ⟨_, rfl⟩
                rw [hQ, hR] at hD'
                have Q0 := hD'.q0
                have Qlt : Q < q := by omega
                have Rb : R < 8589934592 := by omega
                have R0 := hD'.r0
                by_cases c2 : 4294967296 ≤ R
                · have HD : Hid (Dig Y V A0 Q) := hD'.broke HY.out (by omega) v3 (by omega) a01 yl0 yl1 (by omega) c2
                  have Q1 := HD.out.q1
                  obtain ⟨Z, z1, z2, z3, HZ⟩ := dig_rest HD.out yy
                  go_wp2
                  go_ret2
                  have hfin := div_fin hi lo y Y U A1 A0 QQ V Q s (by omega) HF.out.1 HF.out.2 HV.out HD.out
                  exact ⟨ret2 hfin.1 (by rw [← hfin.2, ← HZ.out]), rfl⟩
                · have HR : Hid (DInv Y Yh V A0 Q R) := hD'
                  clear hD' hD
                  go_wp2
                  go_round
                  case rel => exact ⟨Q, R, rfl, rfl, HR.out, by omega⟩
                  case measure => simp [intOf]; omega
              · have HD : Hid (Dig Y V A0 q) := hD.dig HY.out (by omega) v3 a01 (by rw [hp]; omega)
                have Q1 := HD.out.q1
                have Q0 := HD.out.q0
                clear hD
                have hqq : ∃ Q, Q = q := ⟨_, rfl⟩
                obtain ⟨Q, rfl⟩ := hqq
                obtain ⟨Z, z1, z2, z3, HZ⟩ := dig_rest HD.out yy
                go_wp2
                go_ret2
                have hfin := div_fin hi lo y Y U A1 A0 QQ V Q s (by omega) HF.out.1 HF.out.2 HV.out HD.out
                exact ⟨ret2 hfin.1 (by rw [← hfin.2, ← HZ.out]), rfl⟩
        · have HR : Hid (DInv Y Yh U A1 Q R) := hD'
          clear hD' hD
          go_wp2
          go_round
          case rel => exact ⟨Q, R, rfl, rfl, HR.out, by omega⟩
          case measure => simp [intOf]; omega
      · have HD : Hid (Dig Y U A1 q) := hD.dig HY.out (by omega) u1 a11 (by rw [hp]; omega)
        have Q1 := HD.out.q1
        have Q0 := HD.out.q0
        clear hD
        have hqq : ∃ Q, Q = q := ⟨_, rfl⟩
        obtain ⟨Q, rfl⟩ := hqq
        obtain ⟨V, v1, v2, v3, HV⟩ := dig_rest HD.out yy
        obtain ⟨d2, hD0, hr0⟩ := dig_start Y Yh Yl V A0 HY.out yl0 yl1 yh0 yh1 v2 v3 yy a00 a01
        obtain ⟨QQ, hQQ⟩ : ∃ QQ, QQ = Q := ⟨_, rfl⟩
        have QQ0 : 0 ≤ QQ := by omega
        have QQ1 : QQ < 4294967296 := by omega
        have HV : Hid (V = U * 4294967296 + A1 - QQ * Y) := by rw [hQQ]; exact HV
        go_wp2_with fail
        rw [← hQQ]
        clear v1 d2 hQQ
        go_loop [18, 16] (fun tq tr => ∃ q r : Int, tq = .int .u64 q ∧ tr = .int .u64 r ∧ DInv Y Yh V A0 q r ∧ r < 4294967296) (fun tq _ => (intOf tq).toNat)
        case atStart => exact ⟨_, _, rfl, rfl, hD0, hr0⟩
        case round =>
          clear hD0 hr0 HD
          obtain ⟨q, r, rfl, rfl, hD, hr⟩ := hrel
          have q0 := hD.q0
          have qb := hD.qb
          have r0 := hD.r0
          by_cases c1 : 4294967296 ≤ q
          · have hD' := hD.big a01 (by omega) v3 c1 (by omega)
            obtain ⟨Q, hQ⟩ : ∃ Q, q - 1 = Q := ⟨_, rfl⟩
            obtain ⟨R, hR⟩ : ∃ R, r + Yh = R := ⟨_, rfl⟩
            rw [hQ, hR] at hD'
            have Q0 := hD'.q0
            have Qlt : Q < q := by omega
            have Rb : R < 8589934592 := by omega
            have R0 := hD'.r0
            by_cases c2 : 4294967296 ≤ R
            · have HD : Hid (Dig Y V A0 Q) := hD'.broke HY.out (by omega) v3 (by omega) a01 yl0 yl1 (by omega) c2
              have Q1 := HD.out.q1
              obtain ⟨Z, z1, z2, z3, HZ⟩ := dig_rest HD.out yy
              go_wp2
              go_ret2
              have hfin := div_fin hi lo y Y U A1 A0 QQ V Q s (by omega) HF.out.1 HF.out.2 HV.out HD.out
              exact ⟨ret2 hfin.1 (by rw [← hfin.2, ← HZ.out]), rfl⟩
            · have HR : Hid (DInv Y Yh V A0 Q R) := hD'
              clear hD' hD
              go_wp2
              go_round
              case rel => exact ⟨Q, R, rfl, rfl, HR.out, by omega⟩
              case measure => simp [intOf]; omega
          · obtain ⟨p, hp⟩ : ∃ p, q * Yl = p := ⟨_, rfl⟩
            have p0 : 0 ≤ p := by rw [← hp]; exact Int.mul_nonneg q0 yl0
            have p1 : p < 18446744073709551616 := by
              have := Int.mul_le_mul (show q ≤ 4294967295 by omega) (show Yl ≤ 4294967295 by omega) yl0 (by decide)
              omega
            by_cases c3 : 4294967296 * r + A0 < p
            · have hD' := hD.more HY.out (by omega) (by omega) (by omega) (by rw [hp]; exact c3)
              obtain ⟨Q, hQ⟩ : ∃ Q, q - 1 = Q := ⟨_, rfl⟩
              obtain ⟨R, hR⟩ : ∃ R, r + Yh = R := ⟨_, rfl⟩
              rw [hQ, hR] at hD'
              have Q0 := hD'.q0
              have Qlt : Q < q := by omega
              have Rb : R < 8589934592 := by omega
              have R0 := hD'.r0
              by_cases c2 : 4294967296 ≤ R
              · have HD : Hid (Dig Y V A0 Q) := hD'.broke HY.out (by omega) v3 (by omega) a01 yl0 yl1 (by omega) c2
                have Q1 := HD.out.q1
                obtain ⟨Z, z1, z2, z3, HZ⟩ := dig_rest HD.out yy
                go_wp2
                go_ret2
                have hfin := div_fin hi lo y Y U A1 A0 QQ V Q s (by omega) HF.out.1 HF.out.2 HV.out HD.out
                exact ⟨ret2 hfin.1 (by rw [← hfin.2, ← HZ.out]), rfl⟩
              · have HR : Hid (DInv Y Yh V A0 Q R) := hD'
                clear hD' hD
                go_wp2
                go_round
                case rel => exact ⟨Q, R, rfl, rfl, HR.out, by omega⟩
                case measure => simp [intOf]; omega
            · have HD : Hid (Dig Y V A0 q) := hD.dig HY.out (by omega) v3 a01 (by rw [hp]; omega)
              have Q1 := HD.out.q1
              have Q0 := HD.out.q0
              clear hD
              have hqq : ∃ Q, Q = q := ⟨_, rfl⟩
              obtain ⟨Q, rfl⟩ := hqq
              obtain ⟨Z, z1, z2, z3, HZ⟩ := dig_rest HD.out yy
              go_wp2
              go_ret2
              have hfin := div_fin hi lo y Y U A1 A0 QQ V Q s (by omega) HF.out.1 HF.out.2 HV.out HD.out
              exact ⟨ret2 hfin.1 (by rw [← hfin.2, ← HZ.out]), rfl⟩
set_option maxHeartbeats 1000000 in
set_option maxRecDepth 100000 in
theorem div64_zero (lo y : Int) (w : World) (hy : 0 < y) (l0 : 0 ≤ lo) (l1 : lo < 18446744073709551616) (y1 : y < 18446744073709551616) :
    Calls Tryz.prog 166 #[.int .u64 0, .int .u64 lo, .int .u64 y] w fun e w' => e = .returned (.tuple #[.int .u64 (lo / y), .int .u64 (lo % y)]) ∧ ∃ n, w' = w.drewN n := by
  have hb1 : (y == 0) = false := beq_eq_false_iff_ne.2 (by omega)
  go_enter Tryz.func166, Tryz.ntmps166
  go_wp2_with fail
  go_quiet (fail)
  go_wp2
  go_ret2
  exact ⟨rfl, _, rfl⟩
theorem div64 (hi lo y : Int) (w : World) (h0 : 0 ≤ hi) (h1 : hi < y) (l0 : 0 ≤ lo) (l1 : lo < 18446744073709551616) (y1 : y < 18446744073709551616) :
    Calls Tryz.prog 166 #[.int .u64 hi, .int .u64 lo, .int .u64 y] w fun e w' => ∃ q r : Int, e = .returned (.tuple #[.int .u64 q, .int .u64 r]) ∧ 0 ≤ q ∧ q < 18446744073709551616 ∧ 0 ≤ r ∧ r < y ∧ Hid (q * y + r = hi * 18446744073709551616 + lo) ∧ ∃ n, w' = w.drewN n := by
  have fin : ∀ N : Int, 0 ≤ N → N < y * 18446744073709551616 → 0 ≤ N / y ∧ N / y < 18446744073709551616 ∧ 0 ≤ N % y ∧ N % y < y ∧ Hid (N / y * y + N % y = N) := by
    intro N n0 n1
    refine ⟨Int.ediv_nonneg n0 (by omega), (Int.ediv_lt_iff_lt_mul (by omega)).2 (by rw [Int.mul_comm]; exact n1), Int.emod_nonneg _ (by omega), Int.emod_lt_of_pos _ (by omega), ?_⟩
    show _ = _
    rw [Int.mul_comm]; exact Int.mul_ediv_add_emod N y
  by_cases c : hi = 0
  · subst c
    refine (div64_zero lo y w (by omega) l0 l1 y1).mono ?_
    rintro e w' ⟨rfl, hw⟩
    obtain ⟨f1, f2, f3, f4, f5⟩ := fin lo l0 (by omega)
    exact ⟨_, _, rfl, f1, f2, f3, f4, by simpa using f5, hw⟩
  · refine (div64_big hi lo y w (by omega) h1 l0 l1 y1).mono ?_
    rintro e w' ⟨rfl, rfl⟩
    obtain ⟨f1, f2, f3, f4, f5⟩ := fin (hi * 18446744073709551616 + lo) (by omega) (by omega)
    exact ⟨_, _, rfl, f1, f2, f3, f4, f5, 0, rfl⟩
end Go.Proofs.YtjihgkanbhccpaaGreatDoor
