/- gleanlaw4.EncOne: what was read without an error, laid again, are the bytes that were taken. -/
import Derived.Test.YtapnhfppjefnfaaJca
namespace Go.Proofs.Ytapnhfppjefnfaa
open Go.RowKit Lim

theorem roU8 {w : World} {g b : Nat} {L : List Int} (R : RdA w g b 0 L) :
    Calls Try.prog 12 #[.pointer (some ⟨g, 0, none⟩)] w fun e w' => ∃ V err' L', e = .returned (.int .u8 V) ∧ (0 ≤ V ∧ V < 256) ∧ RdA w' g b err' L' ∧ But g w w' ∧ One err' L L' (fun t => be 1 V = t) := by
  refine (rdU8 R).mono ?_
  rintro e w' ⟨h1, h2, h3⟩
  obtain ⟨k1, k2⟩ := pFix_v (m := 1) R
  rw [show (256 : Int) ^ 1 = 256 by decide] at k2
  exact ⟨_, _, _, h1, ⟨k1, k2⟩, h2, h3, one_fix R.oct 1⟩
theorem roU32 {w : World} {g b : Nat} {L : List Int} (R : RdA w g b 0 L) :
    Calls Try.prog 13 #[.pointer (some ⟨g, 0, none⟩)] w fun e w' => ∃ V err' L', e = .returned (.int .u32 V) ∧ (0 ≤ V ∧ V < 4294967296) ∧ RdA w' g b err' L' ∧ But g w w' ∧ One err' L L' (fun t => be 4 V = t) := by
  refine (rdU32 R).mono ?_
  rintro e w' ⟨h1, h2, h3⟩
  obtain ⟨k1, k2⟩ := pFix_v (m := 4) R
  rw [show (256 : Int) ^ 4 = 4294967296 by decide] at k2
  exact ⟨_, _, _, h1, ⟨k1, k2⟩, h2, h3, one_fix R.oct 4⟩
theorem roU64 {w : World} {g b : Nat} {L : List Int} (R : RdA w g b 0 L) :
    Calls Try.prog 14 #[.pointer (some ⟨g, 0, none⟩)] w fun e w' => ∃ V err' L', e = .returned (.int .u64 V) ∧ (0 ≤ V ∧ V < 18446744073709551616) ∧ RdA w' g b err' L' ∧ But g w w' ∧ One err' L L' (fun t => be 8 V = t) := by
  refine (rdU64 R).mono ?_
  rintro e w' ⟨h1, h2, h3⟩
  obtain ⟨k1, k2⟩ := pFix_v (m := 8) R
  rw [show (256 : Int) ^ 8 = 18446744073709551616 by decide] at k2
  exact ⟨_, _, _, h1, ⟨k1, k2⟩, h2, h3, one_fix R.oct 8⟩
theorem roBool {w : World} {g b : Nat} {L : List Int} (R : RdA w g b 0 L) :
    Calls Try.prog 15 #[.pointer (some ⟨g, 0, none⟩)] w fun e w' => ∃ V err' L', e = .returned (.bool V) ∧ True ∧ RdA w' g b err' L' ∧ But g w w' ∧ One err' L L' (fun t => be 1 (if V then 1 else 0) = t) := by
  refine (rdBool R).mono ?_
  rintro e w' ⟨h1, h2, h3⟩
  exact ⟨_, _, _, h1, trivial, h2, h3, one_bool R.oct⟩
theorem roNat {w : World} {g b : Nat} {L : List Int} (R : RdA w g b 0 L) :
    Calls Try.prog 16 #[.pointer (some ⟨g, 0, none⟩)] w fun e w' => ∃ a n c V err' L', e = .returned (.slice a n c) ∧ (NatO w' a n c V ∧ n ≤ 255) ∧ RdA w' g b err' L' ∧ But g w w' ∧ One err' L L' (fun t => natE V 0 = 0 ∧ ∀ K, natL V 0 K = K ++ t) := by
  refine (rdNat R).mono ?_
  rintro e w' ⟨a, n, c, h1, h4, h5, h2, h3⟩
  exact ⟨a, n, c, _, _, _, h1, ⟨h4, h5⟩, h2, h3, one_nat R.oct⟩
theorem roDec {w : World} {g b : Nat} {L : List Int} (R : RdA w g b 0 L) :
    Calls Try.prog 17 #[.pointer (some ⟨g, 0, none⟩)] w fun e w' => ∃ a n c V err' L', e = .returned (.agg #[.slice a n c]) ∧ (NatO w' a n c V ∧ n ≤ 255) ∧ RdA w' g b err' L' ∧ But g w w' ∧ One err' L L' (fun t => natE V 0 = 0 ∧ ∀ K, natL V 0 K = K ++ t) := by
  refine (rdDec R).mono ?_
  rintro e w' ⟨a, n, c, h1, h4, h5, h2, h3⟩
  exact ⟨a, n, c, _, _, _, h1, ⟨h4, h5⟩, h2, h3, one_nat R.oct⟩
theorem roRaw {w : World} {g b : Nat} {most : Int} {L : List Int} (hm1 : -9223372036854775808 ≤ most) (hm2 : most ≤ 9223372036854775807) (R : RdA w g b 0 L) :
    Calls Try.prog 18 #[.pointer (some ⟨g, 0, none⟩), .int .i64 most] w fun e w' => ∃ a n c bq x err' L', e = .returned (.slice a n c) ∧ (ByA w' bq a n c x ∧ w.heap.size ≤ bq ∧ n ≤ L.length) ∧ RdA w' g b err' L' ∧ But g w w' ∧ One err' L L' (fun t => cntd 4 x = t) := by
  refine (rdRaw hm1 hm2 R).mono ?_
  rintro e w' ⟨v, h1, h4, h2, h3⟩
  obtain ⟨bq, a, c, rfl, h5, h6⟩ := h4.bya (pRaw_oct R.oct)
  exact ⟨a, _, c, bq, _, _, _, h1, ⟨h6, h5, pRaw_len⟩, h2, h3, one_raw R.oct⟩
theorem erO {w : World} {g b : Nat} {err : Int} {L : List Int} (R : RdA w g b err L) :
    Calls Try.prog 20 #[.pointer (some ⟨g, 0, none⟩)] w fun e w' => e = .returned (.int .i64 err) ∧ w = w' := by
  refine (rdErr R).mono ?_
  rintro e w' ⟨h1, h2⟩
  exact ⟨h1, h2.symm⟩
theorem leO {w : World} {g b : Nat} {err : Int} {L : List Int} (R : RdA w g b err L) {len : Nat} (h : L.length = len) :
    Calls Try.prog 21 #[.pointer (some ⟨g, 0, none⟩)] w fun e w' => e = .returned (.int .i64 len) ∧ w = w' := by
  subst h
  refine (rdLeft R).mono ?_
  rintro e w' ⟨h1, h2⟩
  exact ⟨h1, h2.symm⟩
set_option maxHeartbeats 4000000 in
set_option maxRecDepth 100000 in
theorem encOne_walk {w : World} {b n0 c0 n c : Nat} {a0 ao : Option Addr} {L0 : List Int} {ss : List Stp} (A0 : ByA w b a0 n0 c0 L0) (S : StepsA w ao n ss) :
    Calls Try.prog 6 #[.slice a0 n0 c0, .slice ao n c] w fun e w' => e = .returned (.bool true) ∧ Below w.heap.size w w' := by
  have HS := (show Hid _ from S)
  have HA := (show Hid _ from A0)
  have hl0 : L0.length = n0 := by obtain ⟨_, h, _⟩ := A0.ex; exact h
  have HL := (show Hid _ from hl0)
  have hle := S.le
  have hle' : (n : Int) ≤ 9223372036854775807 := by omega
  have hnc : (n0 : Int) ≤ c0 := by obtain ⟨_, _, h, ⟨h2, _⟩, _⟩ := A0.ex; omega
  have hc0 : (c0 : Int) ≤ 9223372036854775807 := by obtain ⟨_, _, h, ⟨h2, _⟩, _⟩ := A0.ex; omega
  clear S A0 hle hl0
  go_enter Try.func6, Try.ntmps6
  go_wp2_with fail
  refine (knownE w).mono ?_
  rintro e w1 ⟨rfl, hB⟩
  replace hB := (show Hid _ from hB)
  go_wp2_with fail
  refine (light_any (c := c) (HS.out.keep hB.out)).mono ?_
  rintro e w2 ⟨rfl, hB2⟩
  replace hB := (show Hid _ from joinB hB.out hB2)
  clear hB2
  by_cases hlt : n + heavy ss ≤ 3000
  · rw [decide_eq_true hlt]
    by_cases hb : (n0 : Int) ≤ 3000
    · have hq : ((3000 : Int) < n0) = False := eq_false (by omega)
      have hnn : (n : Int) ≤ 3000 := by omega
      clear hlt
      go_wp2_with fail
      refine (rdNew2 (HA.out.keep hB.out) (by omega)).mono ?_
      rintro e w3 ⟨g, bb, rfl, ⟨hg, -, hbb⟩, R, b'⟩
      have HG := (show Hid _ from Nat.le_trans hB.out.size hg)
      have HGV := (show Hid _ from R.lt)
      have HBV := (show Hid _ from hbb)
      replace hB := (show Hid _ from joinB hB.out b')
      have HV := (show Hid _ from hB.out.size)
      have hal := below_alloc w3 (.cells Try.zeroCells51 51)
      have HX := (show Hid _ from wrNew w3)
      have HR := (show Hid _ from R.keep hal)
      replace hB := (show Hid _ from joinB hB.out hal)
      clear b' hg hbb R hal
      go_wp2_with fail
      go_loopw [7] (fun ti wr => ∃ (k : Nat) (L K : List Int), k ≤ n ∧ ti = .int .i64 k ∧ K ++ L = L0 ∧ RdA wr g bb 0 L ∧ WrA wr w3.heap.size 0 K ∧ Below w.heap.size w wr) (fun ti _ => n - (intOf ti).toNat)
      case atStart => exact ⟨0, L0, [], Nat.zero_le _, rfl, rfl, HR.out, HX.out, hB.out⟩
      case round =>
        obtain ⟨k, L, K, hk, rfl, hK, hR, hX, hB9⟩ := hrel
        have R := (show Hid _ from hR)
        have X := (show Hid _ from hX)
        have B := (show Hid _ from hB9)
        have HK := (show Hid _ from hK)
        have HK3 : Hid (K.length + L.length = n0) := by show _ = _; rw [← HL.out, ← HK.out, List.length_append]
        clear hR hB9 hB HR HX hX hK
        obtain ⟨len, hLL⟩ : ∃ m, L.length = m := ⟨_, rfl⟩
        have HLL := (show Hid _ from hLL)
        have hlen : (len : Int) ≤ n0 := by have := HK3.out; omega
        clear hLL
        by_cases hlt : k < n
        · obtain ⟨s, sb, so, e1, rfl, C, A⟩ := (HS.out.keep B.out).at hlt
          have s0 := C.c0
          have hlt' : (k : Int) < n := by omega
          clear e1 C A
          obtain ⟨what, num, na, nn, nc, V, ba, bn, bc, bY, bl, most⟩ := s
          simp only at s0
          clear num na nn nc V ba bn bc bY bl most
          go_wp2_with fail
          refine (leO R.out HLL.out).mono ?_
          rintro e wx ⟨rfl, rfl⟩
          by_cases h0 : what = 0
          · subst h0
            have t := roU8 R.out
            go_wp2_with fail
            refine t.mono ?_
            rintro e w4 ⟨V, err', L', rfl, f1, R', b', hO⟩
            have hv : w3.heap.size ≠ g := by have := HGV.out; omega
            have X4 := X.out.offR R.out hv b'
            replace B := (show Hid _ from b'.below B.out HG.out (Nat.le_refl _))
            have HO := (show Hid _ from hO)
            have t2 := wrU8 X4 f1.1 f1.2 (by have := HK3.out; omega)
            have R4 := (show Hid _ from R')
            clear t hO b' R'
            go_wp2_with fail
            refine t2.mono ?_
            rintro e w5 ⟨rfl, X5, b'⟩
            have R5 := (show Hid _ from R4.out.offW (Ne.symm hv) (Nat.ne_of_lt HBV.out) b')
            replace B := (show Hid _ from b'.below B.out HV.out (Nat.le_refl _))
            replace X5 := (show Hid _ from X5)
            clear t2 b' R4 R hv
            rcases HO.out with ⟨he, rfl⟩ | ⟨rfl, kk, hkk, hla, rfl⟩
            · have hb2 : (err' != 0) = true := bne_iff_ne.2 he
              clear he
              go_wp2_with fail
              refine (erO R5.out).mono ?_
              rintro e wx ⟨rfl, rfl⟩
              go_wp2_with fail
              refine (leO R5.out HLL.out).mono ?_
              rintro e wx ⟨rfl, rfl⟩
              go_wp2
              go_ret
              exact ⟨rfl, B.out⟩
            · have HX5 : Hid (WrA w5 w3.heap.size 0 (K ++ L.take kk)) := by
                rw [← hla]; exact X5.out
              clear X5 X hla hkk
              go_wp2_with fail
              refine (erO R5.out).mono ?_
              rintro e wx ⟨rfl, rfl⟩
              go_wp2
              refine ⟨⟨k + 1, _, _, by omega, by go_num, ?_, R5.out, HX5.out, B.out⟩, by simp [intOf]; omega⟩
              rw [← HK.out, List.append_assoc, List.take_append_drop]
          · replace h0 : (what == 0) = false := beq_eq_false_iff_ne.2 h0
            by_cases h1 : what = 1
            · subst h1
              have t := roU32 R.out
              go_wp2_with fail
              refine t.mono ?_
              rintro e w4 ⟨V, err', L', rfl, f1, R', b', hO⟩
              have hv : w3.heap.size ≠ g := by have := HGV.out; omega
              have X4 := X.out.offR R.out hv b'
              replace B := (show Hid _ from b'.below B.out HG.out (Nat.le_refl _))
              have HO := (show Hid _ from hO)
              have t2 := wrU32 X4 f1.1 f1.2 (by have := HK3.out; omega)
              have R4 := (show Hid _ from R')
              clear t hO b' R'
              go_wp2_with fail
              refine t2.mono ?_
              rintro e w5 ⟨rfl, X5, b'⟩
              have R5 := (show Hid _ from R4.out.offW (Ne.symm hv) (Nat.ne_of_lt HBV.out) b')
              replace B := (show Hid _ from b'.below B.out HV.out (Nat.le_refl _))
              replace X5 := (show Hid _ from X5)
              clear t2 b' R4 R hv
              rcases HO.out with ⟨he, rfl⟩ | ⟨rfl, kk, hkk, hla, rfl⟩
              · have hb2 : (err' != 0) = true := bne_iff_ne.2 he
                clear he
                go_wp2_with fail
                refine (erO R5.out).mono ?_
                rintro e wx ⟨rfl, rfl⟩
                go_wp2_with fail
                refine (leO R5.out HLL.out).mono ?_
                rintro e wx ⟨rfl, rfl⟩
                go_wp2
                go_ret
                exact ⟨rfl, B.out⟩
              · have HX5 : Hid (WrA w5 w3.heap.size 0 (K ++ L.take kk)) := by
                  rw [← hla]; exact X5.out
                clear X5 X hla hkk
                go_wp2_with fail
                refine (erO R5.out).mono ?_
                rintro e wx ⟨rfl, rfl⟩
                go_wp2
                refine ⟨⟨k + 1, _, _, by omega, by go_num, ?_, R5.out, HX5.out, B.out⟩, by simp [intOf]; omega⟩
                rw [← HK.out, List.append_assoc, List.take_append_drop]
            · replace h1 : (what == 1) = false := beq_eq_false_iff_ne.2 h1
              by_cases h2 : what = 2
              · subst h2
                have t := roU64 R.out
                go_wp2_with fail
                refine t.mono ?_
                rintro e w4 ⟨V, err', L', rfl, f1, R', b', hO⟩
                have hv : w3.heap.size ≠ g := by have := HGV.out; omega
                have X4 := X.out.offR R.out hv b'
                replace B := (show Hid _ from b'.below B.out HG.out (Nat.le_refl _))
                have HO := (show Hid _ from hO)
                have t2 := wrU64 (x := V) X4 (by have := HK3.out; omega)
                have R4 := (show Hid _ from R')
                clear t hO b' R'
                go_wp2_with fail
                refine t2.mono ?_
                rintro e w5 ⟨rfl, X5, b'⟩
                have R5 := (show Hid _ from R4.out.offW (Ne.symm hv) (Nat.ne_of_lt HBV.out) b')
                replace B := (show Hid _ from b'.below B.out HV.out (Nat.le_refl _))
                replace X5 := (show Hid _ from X5)
                clear t2 b' R4 R hv
                rcases HO.out with ⟨he, rfl⟩ | ⟨rfl, kk, hkk, hla, rfl⟩
                · have hb2 : (err' != 0) = true := bne_iff_ne.2 he
                  clear he
                  go_wp2_with fail
                  refine (erO R5.out).mono ?_
                  rintro e wx ⟨rfl, rfl⟩
                  go_wp2_with fail
                  refine (leO R5.out HLL.out).mono ?_
                  rintro e wx ⟨rfl, rfl⟩
                  go_wp2
                  go_ret
                  exact ⟨rfl, B.out⟩
                · have HX5 : Hid (WrA w5 w3.heap.size 0 (K ++ L.take kk)) := by
                    rw [← hla]; exact X5.out
                  clear X5 X hla hkk
                  go_wp2_with fail
                  refine (erO R5.out).mono ?_
                  rintro e wx ⟨rfl, rfl⟩
                  go_wp2
                  refine ⟨⟨k + 1, _, _, by omega, by go_num, ?_, R5.out, HX5.out, B.out⟩, by simp [intOf]; omega⟩
                  rw [← HK.out, List.append_assoc, List.take_append_drop]
              · replace h2 : (what == 2) = false := beq_eq_false_iff_ne.2 h2
                by_cases h3 : what = 3
                · subst h3
                  have t := roBool R.out
                  go_wp2_with fail
                  refine t.mono ?_
                  rintro e w4 ⟨V, err', L', rfl, f1, R', b', hO⟩
                  have hv : w3.heap.size ≠ g := by have := HGV.out; omega
                  have X4 := X.out.offR R.out hv b'
                  replace B := (show Hid _ from b'.below B.out HG.out (Nat.le_refl _))
                  have HO := (show Hid _ from hO)
                  have t2 := wrBool (x := V) X4 (by have := HK3.out; omega)
                  have R4 := (show Hid _ from R')
                  clear t hO b' R'
                  go_wp2_with fail
                  refine t2.mono ?_
                  rintro e w5 ⟨rfl, X5, b'⟩
                  have R5 := (show Hid _ from R4.out.offW (Ne.symm hv) (Nat.ne_of_lt HBV.out) b')
                  replace B := (show Hid _ from b'.below B.out HV.out (Nat.le_refl _))
                  replace X5 := (show Hid _ from X5)
                  clear t2 b' R4 R hv
                  rcases HO.out with ⟨he, rfl⟩ | ⟨rfl, kk, hkk, hla, rfl⟩
                  · have hb2 : (err' != 0) = true := bne_iff_ne.2 he
                    clear he
                    go_wp2_with fail
                    refine (erO R5.out).mono ?_
                    rintro e wx ⟨rfl, rfl⟩
                    go_wp2_with fail
                    refine (leO R5.out HLL.out).mono ?_
                    rintro e wx ⟨rfl, rfl⟩
                    go_wp2
                    go_ret
                    exact ⟨rfl, B.out⟩
                  · have HX5 : Hid (WrA w5 w3.heap.size 0 (K ++ L.take kk)) := by
                      rw [← hla]; exact X5.out
                    clear X5 X hla hkk
                    go_wp2_with fail
                    refine (erO R5.out).mono ?_
                    rintro e wx ⟨rfl, rfl⟩
                    go_wp2
                    refine ⟨⟨k + 1, _, _, by omega, by go_num, ?_, R5.out, HX5.out, B.out⟩, by simp [intOf]; omega⟩
                    rw [← HK.out, List.append_assoc, List.take_append_drop]
                · replace h3 : (what == 3) = false := beq_eq_false_iff_ne.2 h3
                  by_cases h4 : what = 4
                  · subst h4
                    have t := roNat R.out
                    go_wp2_with fail
                    refine t.mono ?_
                    rintro e w4 ⟨a9, n9, c9, V, err', L', rfl, f1, R', b', hO⟩
                    have hv : w3.heap.size ≠ g := by have := HGV.out; omega
                    have X4 := X.out.offR R.out hv b'
                    replace B := (show Hid _ from b'.below B.out HG.out (Nat.le_refl _))
                    have HO := (show Hid _ from hO)
                    have t2 := wrNat X4 f1.1.a (by have := f1.2; omega) (by have := HK3.out; have := f1.2; omega)
                    have R4 := (show Hid _ from R')
                    clear t hO b' R'
                    clear f1
                    go_wp2_with fail
                    refine t2.mono ?_
                    rintro e w5 ⟨rfl, X5, b'⟩
                    have R5 := (show Hid _ from R4.out.offW (Ne.symm hv) (Nat.ne_of_lt HBV.out) b')
                    replace B := (show Hid _ from b'.below B.out HV.out (Nat.le_refl _))
                    replace X5 := (show Hid _ from X5)
                    clear t2 b' R4 R hv
                    rcases HO.out with ⟨he, rfl⟩ | ⟨rfl, kk, hkk, hla, rfl⟩
                    · have hb2 : (err' != 0) = true := bne_iff_ne.2 he
                      clear he
                      go_wp2_with fail
                      refine (erO R5.out).mono ?_
                      rintro e wx ⟨rfl, rfl⟩
                      go_wp2_with fail
                      refine (leO R5.out HLL.out).mono ?_
                      rintro e wx ⟨rfl, rfl⟩
                      go_wp2
                      go_ret
                      exact ⟨rfl, B.out⟩
                    · have HX5 : Hid (WrA w5 w3.heap.size 0 (K ++ L.take kk)) := by
                        have := X5.out; rw [hla.1, hla.2] at this; exact this
                      clear X5 X hla hkk
                      go_wp2_with fail
                      refine (erO R5.out).mono ?_
                      rintro e wx ⟨rfl, rfl⟩
                      go_wp2
                      refine ⟨⟨k + 1, _, _, by omega, by go_num, ?_, R5.out, HX5.out, B.out⟩, by simp [intOf]; omega⟩
                      rw [← HK.out, List.append_assoc, List.take_append_drop]
                  · replace h4 : (what == 4) = false := beq_eq_false_iff_ne.2 h4
                    by_cases h5 : what = 5
                    · subst h5
                      have t := roDec R.out
                      go_wp2_with fail
                      refine t.mono ?_
                      rintro e w4 ⟨a9, n9, c9, V, err', L', rfl, f1, R', b', hO⟩
                      have hv : w3.heap.size ≠ g := by have := HGV.out; omega
                      have X4 := X.out.offR R.out hv b'
                      replace B := (show Hid _ from b'.below B.out HG.out (Nat.le_refl _))
                      have HO := (show Hid _ from hO)
                      have t2 := wrDec X4 f1.1.a (by have := f1.2; omega) (by have := HK3.out; have := f1.2; omega)
                      have R4 := (show Hid _ from R')
                      clear t hO b' R'
                      clear f1
                      go_wp2_with fail
                      refine t2.mono ?_
                      rintro e w5 ⟨rfl, X5, b'⟩
                      have R5 := (show Hid _ from R4.out.offW (Ne.symm hv) (Nat.ne_of_lt HBV.out) b')
                      replace B := (show Hid _ from b'.below B.out HV.out (Nat.le_refl _))
                      replace X5 := (show Hid _ from X5)
                      clear t2 b' R4 R hv
                      rcases HO.out with ⟨he, rfl⟩ | ⟨rfl, kk, hkk, hla, rfl⟩
                      · have hb2 : (err' != 0) = true := bne_iff_ne.2 he
                        clear he
                        go_wp2_with fail
                        refine (erO R5.out).mono ?_
                        rintro e wx ⟨rfl, rfl⟩
                        go_wp2_with fail
                        refine (leO R5.out HLL.out).mono ?_
                        rintro e wx ⟨rfl, rfl⟩
                        go_wp2
                        go_ret
                        exact ⟨rfl, B.out⟩
                      · have HX5 : Hid (WrA w5 w3.heap.size 0 (K ++ L.take kk)) := by
                          have := X5.out; rw [hla.1, hla.2] at this; exact this
                        clear X5 X hla hkk
                        go_wp2_with fail
                        refine (erO R5.out).mono ?_
                        rintro e wx ⟨rfl, rfl⟩
                        go_wp2
                        refine ⟨⟨k + 1, _, _, by omega, by go_num, ?_, R5.out, HX5.out, B.out⟩, by simp [intOf]; omega⟩
                        rw [← HK.out, List.append_assoc, List.take_append_drop]
                    · replace h5 : (what == 5) = false := beq_eq_false_iff_ne.2 h5
                      by_cases h6 : what = 6
                      · subst h6
                        have t := roRaw (most := (n0 : Int)) (by omega) (by omega) R.out
                        go_wp2_with fail
                        refine t.mono ?_
                        rintro e w4 ⟨a9, n9, c9, bq, x9, err', L', rfl, ⟨f1, f2, f3⟩, R', b', hO⟩
                        have hv : w3.heap.size ≠ g := by have := HGV.out; omega
                        have X4 := X.out.offR R.out hv b'
                        replace B := (show Hid _ from b'.below B.out HG.out (Nat.le_refl _))
                        have HO := (show Hid _ from hO)
                        have hvq : bq ≠ w3.heap.size := by have := X.out.lt; omega
                        obtain ⟨oq, q1, q2, -, -, q5⟩ := f1.ex
                        have t2 := wrRaw X4 q5 q1 q2 hvq (by have := HLL.out; omega) (by have := HK3.out; have := HLL.out; omega)
                        have R4 := (show Hid _ from R')
                        clear t hO b' R'
                        clear f1 q1 q2 q5
                        go_wp2_with fail
                        refine t2.mono ?_
                        rintro e w5 ⟨rfl, X5, b'⟩
                        have R5 := (show Hid _ from R4.out.offW (Ne.symm hv) (Nat.ne_of_lt HBV.out) b')
                        replace B := (show Hid _ from b'.below B.out HV.out (Nat.le_refl _))
                        replace X5 := (show Hid _ from X5)
                        clear t2 b' R4 R hv
                        rcases HO.out with ⟨he, rfl⟩ | ⟨rfl, kk, hkk, hla, rfl⟩
                        · have hb2 : (err' != 0) = true := bne_iff_ne.2 he
                          clear he
                          go_wp2_with fail
                          refine (erO R5.out).mono ?_
                          rintro e wx ⟨rfl, rfl⟩
                          go_wp2_with fail
                          refine (leO R5.out HLL.out).mono ?_
                          rintro e wx ⟨rfl, rfl⟩
                          go_wp2
                          go_ret
                          exact ⟨rfl, B.out⟩
                        · have HX5 : Hid (WrA w5 w3.heap.size 0 (K ++ L.take kk)) := by
                            rw [← hla]; exact X5.out
                          clear X5 X hla hkk
                          go_wp2_with fail
                          refine (erO R5.out).mono ?_
                          rintro e wx ⟨rfl, rfl⟩
                          go_wp2
                          refine ⟨⟨k + 1, _, _, by omega, by go_num, ?_, R5.out, HX5.out, B.out⟩, by simp [intOf]; omega⟩
                          rw [← HK.out, List.append_assoc, List.take_append_drop]
                      · replace h6 : (what == 6) = false := beq_eq_false_iff_ne.2 h6
                        go_wp2_with fail
                        refine (erO R.out).mono ?_
                        rintro e wx ⟨rfl, rfl⟩
                        go_wp2
                        exact ⟨⟨k + 1, L, K, by omega, by go_num, HK.out, R.out, X.out, B.out⟩, by simp [intOf]; omega⟩
        · obtain rfl : k = n := by omega
          have t := wrOut X.out (by have := HK3.out; omega)
          obtain ⟨kl, hkl⟩ : ∃ m, K.length = m := ⟨_, rfl⟩
          have hsub : (n0 : Int) - (len : Int) = (kl : Int) := by have h1 := HK3.out; have h2 := HLL.out; omega
          have hkc : (kl : Int) ≤ c0 := by omega
          have hkn : kl ≤ n0 := by omega
          rw [hkl] at t
          have HKL := (show Hid _ from hkl)
          clear hkl
          go_wp2_with fail
          refine t.mono ?_
          rintro e w4 ⟨rfl, Y, b'⟩
          replace R := (show Hid _ from R.out.keep b')
          replace B := (show Hid _ from joinB B.out b')
          have YA : Hid (ByA w4 wr.heap.size (some ⟨wr.heap.size, 0, none⟩) kl kl K) := by
            have := Y.bya (fun x hx => by obtain ⟨_, _, _, _, h4, _⟩ := HA.out.ex; exact h4 x (by rw [← HK.out]; exact List.mem_append_left _ hx)) (by have := HKL.out; omega)
            rw [HKL.out] at this
            exact this
          clear t Y b' X
          go_wp2_with fail
          refine (leO R.out HLL.out).mono ?_
          rintro e wx ⟨rfl, rfl⟩
          go_wp2_with fail
          have A2 := (HA.out.keep B.out).front2 hkn
          have e2 : L0.take kl = K := by rw [← HK.out, ← HKL.out]; simp
          rw [e2] at A2
          have t := bSame YA.out A2 (by omega) (by omega)
          rw [eqB_true rfl] at t
          clear A2 e2
          refine t.mono ?_
          rintro e w5 ⟨rfl, b'⟩
          replace B := (show Hid _ from joinB B.out b')
          clear t b'
          go_wp2
          go_ret
          exact ⟨rfl, B.out⟩
    · have hq : ((3000 : Int) < n0) = True := eq_true (by omega)
      clear hb hlt
      go_wp2
      go_ret
      exact ⟨rfl, hB.out⟩
  · rw [decide_eq_false hlt]
    clear hlt
    go_wp2
    go_ret
    exact ⟨rfl, hB.out⟩
end Go.Proofs.Ytapnhfppjefnfaa
