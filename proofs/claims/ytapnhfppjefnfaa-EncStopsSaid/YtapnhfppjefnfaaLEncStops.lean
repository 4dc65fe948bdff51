/- gleanlaw4.EncStops: behind its first error a Reader reads nothing. -/
import Derived.Test.YtapnhfppjefnfaaJba
namespace Go.Proofs.Ytapnhfppjefnfaa
open Go.RowKit Lim

/-- a Reader's part is read: behind an error nothing; with one, nothing is taken -/
def Told (err : Int) (L : List Int) (err' : Int) (L' : List Int) (z : Prop) : Prop := (err ≠ 0 ∧ err' = err ∧ L' = L ∧ z) ∨ (err = 0 ∧ err' = 0 ∧ L'.length ≤ L.length) ∨ (err = 0 ∧ err' ≠ 0 ∧ L' = L ∧ z)
theorem told_rd {α : Type} {z : α} {p : Int ⊕ α × Nat} {err : Int} {L : List Int} (hp : ∀ e0, p = .inl e0 → e0 ≠ 0) : Told err L (rdE p err) (rdL p err L) (rdV z p err = z) := by
  by_cases he : err = 0
  · subst he
    match p, hp with
    | .inl e0, hp => exact .inr (.inr ⟨rfl, hp e0 rfl, rfl, rfl⟩)
    | .inr (x, k), _ => exact .inr (.inl ⟨rfl, rfl, by show (L.drop k).length ≤ _; rw [List.length_drop]; omega⟩)
  · exact .inl ⟨he, rdE_bad he, rdL_bad he, rdV_bad he⟩
theorem Told.imp {err err' : Int} {L L' : List Int} {z z' : Prop} (h : Told err L err' L' z) (hz : z → z') : Told err L err' L' z' := by
  rcases h with ⟨h1, h2, h3, h4⟩ | h | ⟨h1, h2, h3, h4⟩
  · exact .inl ⟨h1, h2, h3, hz h4⟩
  · exact .inr (.inl h)
  · exact .inr (.inr ⟨h1, h2, h3, hz h4⟩)
theorem stU8 {w : World} {g b : Nat} {err : Int} {L : List Int} (R : RdA w g b err L) :
    Calls Try.prog 12 #[.pointer (some ⟨g, 0, none⟩)] w fun e w' => ∃ V err' L', e = .returned (.int .u8 V) ∧ RdA w' g b err' L' ∧ But g w w' ∧ Told err L err' L' (V = 0) := by
  refine (rdU8 R).mono ?_
  rintro e w' ⟨h1, h2, h3⟩
  exact ⟨_, _, _, h1, h2, h3, told_rd fun _ => pFix_ne⟩
theorem stU32 {w : World} {g b : Nat} {err : Int} {L : List Int} (R : RdA w g b err L) :
    Calls Try.prog 13 #[.pointer (some ⟨g, 0, none⟩)] w fun e w' => ∃ V err' L', e = .returned (.int .u32 V) ∧ RdA w' g b err' L' ∧ But g w w' ∧ Told err L err' L' (V = 0) := by
  refine (rdU32 R).mono ?_
  rintro e w' ⟨h1, h2, h3⟩
  exact ⟨_, _, _, h1, h2, h3, told_rd fun _ => pFix_ne⟩
theorem stU64 {w : World} {g b : Nat} {err : Int} {L : List Int} (R : RdA w g b err L) :
    Calls Try.prog 14 #[.pointer (some ⟨g, 0, none⟩)] w fun e w' => ∃ V err' L', e = .returned (.int .u64 V) ∧ RdA w' g b err' L' ∧ But g w w' ∧ Told err L err' L' (V = 0) := by
  refine (rdU64 R).mono ?_
  rintro e w' ⟨h1, h2, h3⟩
  exact ⟨_, _, _, h1, h2, h3, told_rd fun _ => pFix_ne⟩
theorem stBool {w : World} {g b : Nat} {err : Int} {L : List Int} (R : RdA w g b err L) :
    Calls Try.prog 15 #[.pointer (some ⟨g, 0, none⟩)] w fun e w' => ∃ V err' L', e = .returned (.bool V) ∧ RdA w' g b err' L' ∧ But g w w' ∧ Told err L err' L' (V = false) := by
  refine (rdBool R).mono ?_
  rintro e w' ⟨h1, h2, h3⟩
  exact ⟨_, _, _, h1, h2, h3, told_rd fun _ => pBool_ne⟩
theorem stNat {w : World} {g b : Nat} {err : Int} {L : List Int} (R : RdA w g b err L) :
    Calls Try.prog 16 #[.pointer (some ⟨g, 0, none⟩)] w fun e w' => ∃ a V d err' L', e = .returned (.slice a V d) ∧ RdA w' g b err' L' ∧ But g w w' ∧ Told err L err' L' (V = 0) := by
  refine (rdNat R).mono ?_
  rintro e w' ⟨a, n, c, h1, h4, -, h2, h3⟩
  exact ⟨a, n, c, _, _, h1, h2, h3, (told_rd fun _ => pNat_ne).imp fun hz => h4.zero_iff.2 hz⟩
theorem stDec {w : World} {g b : Nat} {err : Int} {L : List Int} (R : RdA w g b err L) :
    Calls Try.prog 17 #[.pointer (some ⟨g, 0, none⟩)] w fun e w' => ∃ a V d err' L', e = .returned (.agg #[.slice a V d]) ∧ RdA w' g b err' L' ∧ But g w w' ∧ Told err L err' L' (V = 0) := by
  refine (rdDec R).mono ?_
  rintro e w' ⟨a, n, c, h1, h4, -, h2, h3⟩
  exact ⟨a, n, c, _, _, h1, h2, h3, (told_rd fun _ => pNat_ne).imp fun hz => h4.zero_iff.2 hz⟩
theorem mineB_len {w : World} {B : Nat} {v : Value} {l : List Int} (h : MineB w B v l) : ∃ a c, v = .slice a l.length c := by
  rcases h.2 with ⟨h1, h2⟩ | ⟨g, cap, cur, h1, _⟩
  · exact ⟨none, 0, by rw [h1, h2]⟩
  · exact ⟨_, _, h1⟩
theorem stRaw {w : World} {g b : Nat} {err most : Int} {L : List Int} (hm1 : -9223372036854775808 ≤ most) (hm2 : most ≤ 9223372036854775807) (R : RdA w g b err L) :
    Calls Try.prog 18 #[.pointer (some ⟨g, 0, none⟩), .int .i64 most] w fun e w' => ∃ a V d err' L', e = .returned (.slice a V d) ∧ RdA w' g b err' L' ∧ But g w w' ∧ Told err L err' L' (V = 0) := by
  refine (rdRaw hm1 hm2 R).mono ?_
  rintro e w' ⟨v, h1, h4, h2, h3⟩
  obtain ⟨a, c, rfl⟩ := mineB_len h4
  exact ⟨a, _, c, _, _, h1, h2, h3, (told_rd fun _ => pRaw_ne).imp fun hz => by rw [hz]; rfl⟩
theorem stEnd {w : World} {g b : Nat} {err : Int} {L : List Int} (R : RdA w g b err L) (hL : L.length ≤ 3000) :
    Calls Try.prog 19 #[.pointer (some ⟨g, 0, none⟩)] w fun e w' => ∃ V err' L', e = .returned (.int .i64 V) ∧ RdA w' g b err' L' ∧ But g w w' ∧ Told err L err' L' True := by
  refine (rdEnd R (by omega)).mono ?_
  rintro e w' ⟨h1, h2, h3⟩
  refine ⟨_, _, _, h1, h2, h3, ?_⟩
  by_cases he : err = 0
  · subst he
    by_cases h0 : endE 0 L = 0
    · exact .inr (.inl ⟨rfl, h0, Nat.le_refl _⟩)
    · exact .inr (.inr ⟨rfl, h0, rfl, trivial⟩)
  · exact .inl ⟨he, by unfold endE; rw [if_neg he], rfl, trivial⟩
theorem erE {w : World} {g b : Nat} {err : Int} {L : List Int} (R : RdA w g b err L) :
    Calls Try.prog 20 #[.pointer (some ⟨g, 0, none⟩)] w fun e w' => e = .returned (.int .i64 err) ∧ w = w' := by
  refine (rdErr R).mono ?_
  rintro e w' ⟨h1, h2⟩
  exact ⟨h1, h2.symm⟩
theorem leE {w : World} {g b : Nat} {err : Int} {L : List Int} (R : RdA w g b err L) {len : Nat} (h : L.length = len) :
    Calls Try.prog 21 #[.pointer (some ⟨g, 0, none⟩)] w fun e w' => e = .returned (.int .i64 len) ∧ w = w' := by
  subst h
  refine (rdLeft R).mono ?_
  rintro e w' ⟨h1, h2⟩
  exact ⟨h1, h2.symm⟩
set_option maxHeartbeats 4000000 in
set_option maxRecDepth 100000 in
theorem encStops_walk {w : World} {b n0 c0 n c : Nat} {a0 ao : Option Addr} {L0 : List Int} {ss : List Stp} (A0 : ByA w b a0 n0 c0 L0) (S : StepsA w ao n ss) :
    Calls Try.prog 3 #[.slice a0 n0 c0, .slice ao n c] w fun e w' => e = .returned (.bool true) ∧ Below w.heap.size w w' := by
  have HS := (show Hid _ from S)
  have HA := (show Hid _ from A0)
  have hl0 : L0.length = n0 := by obtain ⟨_, h, _⟩ := A0.ex; exact h
  have HL := (show Hid _ from hl0)
  have hle := S.le
  have hle' : (n : Int) ≤ 9223372036854775807 := by omega
  have hn0 : (n0 : Int) ≤ 9223372036854775807 := by obtain ⟨_, _, h, ⟨h2, _⟩, _⟩ := A0.ex; omega
  clear S A0 hle hl0
  have qf : ∀ (w : World) (a : Option Addr) (n c : Nat), (Instr.field 39 (.agg #[.slice a n c]) 0).run Try.prog w = .ok (.slice a n c) w := fun _ _ _ _ => by kernel_rfl
  go_enter Try.func3, Try.ntmps3
  go_wp2_with fail
  refine (knownE w).mono ?_
  rintro e w1 ⟨rfl, hB⟩
  replace hB := (show Hid _ from hB)
  go_wp2_with fail
  refine (light_any (c := c) (HS.out.keep hB.out)).mono ?_
  rintro e w2 ⟨rfl, hB2⟩
  replace hB := (show Hid _ from joinB hB.out hB2)
  clear hB2
  by_cases hlt : n + heavy ss ≤ 3000
  · rw [decide_eq_true hlt]
    by_cases hb : (n0 : Int) ≤ 3000
    · have hq : ((3000 : Int) < n0) = False := eq_false (by omega)
      have hnn : (n : Int) ≤ 3000 := by omega
      have HLT := (show Hid _ from hlt)
      clear hlt
      go_wp2_with fail
      refine (rdNew2 (HA.out.keep hB.out) (by omega)).mono ?_
      rintro e w3 ⟨g, bb, rfl, ⟨hg, -, -⟩, R, b'⟩
      have HG := (show Hid _ from Nat.le_trans hB.out.size hg)
      replace hB := (show Hid _ from joinB hB.out b')
      clear b' hg
      have HR := (show Hid _ from R)
      clear R
      go_wp2_with fail
      go_loopw [6, 7, 8] (fun tb tl ti wr => ∃ (k : Nat) (err : Int) (L : List Int), k ≤ n ∧ ti = .int .i64 k ∧ tb = .int .i64 err ∧ tl = .int .i64 L.length ∧ L.length ≤ 3000 ∧ RdA wr g bb err L ∧ Below w.heap.size w wr) (fun _ _ ti _ => n - (intOf ti).toNat)
      case atStart => exact ⟨0, 0, L0, Nat.zero_le _, rfl, rfl, by rw [HL.out], by have := HL.out; omega, HR.out, hB.out⟩
      case round =>
        obtain ⟨k, err, L, hk, rfl, rfl, rfl, hL, hR, hB9⟩ := hrel
        have R := (show Hid _ from hR)
        have B := (show Hid _ from hB9)
        clear hR hB9 hB HR
        by_cases hlt : k < n
        · obtain ⟨s, sb, so, e1, rfl, C, A⟩ := (HS.out.keep B.out).at hlt
          have HSA := (show Hid _ from A)
          have s0 := C.c0
          have s1 := C.c1
          have s2 := C.c2
          have s3 := C.c3
          have s4 := C.c4
          have hlt' : (k : Int) < n := by omega
          clear e1 C A
          obtain ⟨what, num, na, nn, nc, V, ba, bn, bc, bY, bl, most⟩ := s
          simp only at s0 s1 s2 s3 s4
          generalize hLL : L.length = len at *
          have HLL := (show Hid _ from hLL)
          clear hLL
          by_cases h0 : what = 0
          · subst h0
            have hal := below_alloc wr (.cells #[.int .i64 0, .int .u64 num, .slice na nn nc, .slice ba bn bc, .int .i64 most] 32)
            have t := stU8 (R.out.keep hal)
            replace B := (show Hid _ from joinB B.out hal)
            have HLN := (show Hid _ from HLL.out)
            clear hal R
            go_wp2_with fail
            refine t.mono ?_
            rintro e w4 ⟨V, err', L', rfl, R', b', hT⟩
            have R := (show Hid _ from R')
            replace B := (show Hid _ from b'.below B.out HG.out (Nat.le_refl _))
            clear R' b' t
            rcases hT with ⟨he, rfl, rfl, hz⟩ | ⟨he, rfl, hle9⟩ | ⟨he, he', rfl, hz⟩
            · subst hz
              have hb1 : (err' == 0) = false := beq_eq_false_iff_ne.2 he
              have hb2 : (err' != 0) = true := bne_iff_ne.2 he
              clear he
              go_wp2_with fail
              refine (erE R.out).mono ?_
              rintro e wx ⟨rfl, rfl⟩
              go_wp2_with fail
              refine (leE R.out HLL.out).mono ?_
              rintro e wx ⟨rfl, rfl⟩
              go_wp2_with fail
              refine (erE R.out).mono ?_
              rintro e wx ⟨rfl, rfl⟩
              go_wp2_with fail
              refine (leE R.out HLL.out).mono ?_
              rintro e wx ⟨rfl, rfl⟩
              go_wp2_with fail
              refine (erE R.out).mono ?_
              rintro e wx ⟨rfl, rfl⟩
              go_wp2_with fail
              refine (leE R.out HLL.out).mono ?_
              rintro e wx ⟨rfl, rfl⟩
              go_wp2
              refine ⟨⟨k + 1, err', L', by omega, by go_num, rfl, by rw [HLL.out], by have := HLL.out; omega, R.out, B.out⟩, by simp [intOf]; omega⟩
            · subst he
              obtain ⟨len', hlen'⟩ : ∃ m, L'.length = m := ⟨_, rfl⟩
              rw [hlen', HLL.out] at hle9
              have HL' := (show Hid _ from hlen')
              have hq9 : ((len : Int) < len') = False := eq_false (by omega)
              clear hlen'
              go_wp2_with fail
              refine (erE R.out).mono ?_
              rintro e wx ⟨rfl, rfl⟩
              go_wp2_with fail
              refine (leE R.out HL'.out).mono ?_
              rintro e wx ⟨rfl, rfl⟩
              go_wp2_with fail
              refine (erE R.out).mono ?_
              rintro e wx ⟨rfl, rfl⟩
              go_wp2_with fail
              refine (leE R.out HL'.out).mono ?_
              rintro e wx ⟨rfl, rfl⟩
              go_wp2
              refine ⟨⟨k + 1, 0, L', by omega, by go_num, rfl, by rw [HL'.out], by have := HL'.out; omega, R.out, B.out⟩, by simp [intOf]; omega⟩
            · subst he
              subst hz
              have hb1 : (err' == 0) = false := beq_eq_false_iff_ne.2 he'
              have hb2 : (err' != 0) = true := bne_iff_ne.2 he'
              clear he'
              go_wp2_with fail
              refine (erE R.out).mono ?_
              rintro e wx ⟨rfl, rfl⟩
              go_wp2_with fail
              refine (leE R.out HLL.out).mono ?_
              rintro e wx ⟨rfl, rfl⟩
              go_wp2_with fail
              refine (leE R.out HLL.out).mono ?_
              rintro e wx ⟨rfl, rfl⟩
              go_wp2_with fail
              refine (erE R.out).mono ?_
              rintro e wx ⟨rfl, rfl⟩
              go_wp2_with fail
              refine (leE R.out HLL.out).mono ?_
              rintro e wx ⟨rfl, rfl⟩
              go_wp2
              refine ⟨⟨k + 1, err', L', by omega, by go_num, rfl, by rw [HLL.out], by have := HLL.out; omega, R.out, B.out⟩, by simp [intOf]; omega⟩
          · replace h0 : (what == 0) = false := beq_eq_false_iff_ne.2 h0
            by_cases h1 : what = 1
            · subst h1
              have hal := below_alloc wr (.cells #[.int .i64 1, .int .u64 num, .slice na nn nc, .slice ba bn bc, .int .i64 most] 32)
              have t := stU32 (R.out.keep hal)
              replace B := (show Hid _ from joinB B.out hal)
              have HLN := (show Hid _ from HLL.out)
              clear hal R
              go_wp2_with fail
              refine t.mono ?_
              rintro e w4 ⟨V, err', L', rfl, R', b', hT⟩
              have R := (show Hid _ from R')
              replace B := (show Hid _ from b'.below B.out HG.out (Nat.le_refl _))
              clear R' b' t
              rcases hT with ⟨he, rfl, rfl, hz⟩ | ⟨he, rfl, hle9⟩ | ⟨he, he', rfl, hz⟩
              · subst hz
                have hb1 : (err' == 0) = false := beq_eq_false_iff_ne.2 he
                have hb2 : (err' != 0) = true := bne_iff_ne.2 he
                clear he
                go_wp2_with fail
                refine (erE R.out).mono ?_
                rintro e wx ⟨rfl, rfl⟩
                go_wp2_with fail
                refine (leE R.out HLL.out).mono ?_
                rintro e wx ⟨rfl, rfl⟩
                go_wp2_with fail
                refine (erE R.out).mono ?_
                rintro e wx ⟨rfl, rfl⟩
                go_wp2_with fail
                refine (leE R.out HLL.out).mono ?_
                rintro e wx ⟨rfl, rfl⟩
                go_wp2_with fail
                refine (erE R.out).mono ?_
                rintro e wx ⟨rfl, rfl⟩
                go_wp2_with fail
                refine (leE R.out HLL.out).mono ?_
                rintro e wx ⟨rfl, rfl⟩
                go_wp2
                refine ⟨⟨k + 1, err', L', by omega, by go_num, rfl, by rw [HLL.out], by have := HLL.out; omega, R.out, B.out⟩, by simp [intOf]; omega⟩
              · subst he
                obtain ⟨len', hlen'⟩ : ∃ m, L'.length = m := ⟨_, rfl⟩
                rw [hlen', HLL.out] at hle9
                have HL' := (show Hid _ from hlen')
                have hq9 : ((len : Int) < len') = False := eq_false (by omega)
                clear hlen'
                go_wp2_with fail
                refine (erE R.out).mono ?_
                rintro e wx ⟨rfl, rfl⟩
                go_wp2_with fail
                refine (leE R.out HL'.out).mono ?_
                rintro e wx ⟨rfl, rfl⟩
                go_wp2_with fail
                refine (erE R.out).mono ?_
                rintro e wx ⟨rfl, rfl⟩
                go_wp2_with fail
                refine (leE R.out HL'.out).mono ?_
                rintro e wx ⟨rfl, rfl⟩
                go_wp2
                refine ⟨⟨k + 1, 0, L', by omega, by go_num, rfl, by rw [HL'.out], by have := HL'.out; omega, R.out, B.out⟩, by simp [intOf]; omega⟩
              · subst he
                subst hz
                have hb1 : (err' == 0) = false := beq_eq_false_iff_ne.2 he'
                have hb2 : (err' != 0) = true := bne_iff_ne.2 he'
                clear he'
                go_wp2_with fail
                refine (erE R.out).mono ?_
                rintro e wx ⟨rfl, rfl⟩
                go_wp2_with fail
                refine (leE R.out HLL.out).mono ?_
                rintro e wx ⟨rfl, rfl⟩
                go_wp2_with fail
                refine (leE R.out HLL.out).mono ?_
                rintro e wx ⟨rfl, rfl⟩
                go_wp2_with fail
                refine (erE R.out).mono ?_
                rintro e wx ⟨rfl, rfl⟩
                go_wp2_with fail
                refine (leE R.out HLL.out).mono ?_
                rintro e wx ⟨rfl, rfl⟩
                go_wp2
                refine ⟨⟨k + 1, err', L', by omega, by go_num, rfl, by rw [HLL.out], by have := HLL.out; omega, R.out, B.out⟩, by simp [intOf]; omega⟩
            · replace h1 : (what == 1) = false := beq_eq_false_iff_ne.2 h1
              by_cases h2 : what = 2
              · subst h2
                have hal := below_alloc wr (.cells #[.int .i64 2, .int .u64 num, .slice na nn nc, .slice ba bn bc, .int .i64 most] 32)
                have t := stU64 (R.out.keep hal)
                replace B := (show Hid _ from joinB B.out hal)
                have HLN := (show Hid _ from HLL.out)
                clear hal R
                go_wp2_with fail
                refine t.mono ?_
                rintro e w4 ⟨V, err', L', rfl, R', b', hT⟩
                have R := (show Hid _ from R')
                replace B := (show Hid _ from b'.below B.out HG.out (Nat.le_refl _))
                clear R' b' t
                rcases hT with ⟨he, rfl, rfl, hz⟩ | ⟨he, rfl, hle9⟩ | ⟨he, he', rfl, hz⟩
                · subst hz
                  have hb1 : (err' == 0) = false := beq_eq_false_iff_ne.2 he
                  have hb2 : (err' != 0) = true := bne_iff_ne.2 he
                  clear he
                  go_wp2_with fail
                  refine (erE R.out).mono ?_
                  rintro e wx ⟨rfl, rfl⟩
                  go_wp2_with fail
                  refine (leE R.out HLL.out).mono ?_
                  rintro e wx ⟨rfl, rfl⟩
                  go_wp2_with fail
                  refine (erE R.out).mono ?_
                  rintro e wx ⟨rfl, rfl⟩
                  go_wp2_with fail
                  refine (leE R.out HLL.out).mono ?_
                  rintro e wx ⟨rfl, rfl⟩
                  go_wp2_with fail
                  refine (erE R.out).mono ?_
                  rintro e wx ⟨rfl, rfl⟩
                  go_wp2_with fail
                  refine (leE R.out HLL.out).mono ?_
                  rintro e wx ⟨rfl, rfl⟩
                  go_wp2
                  refine ⟨⟨k + 1, err', L', by omega, by go_num, rfl, by rw [HLL.out], by have := HLL.out; omega, R.out, B.out⟩, by simp [intOf]; omega⟩
                · subst he
                  obtain ⟨len', hlen'⟩ : ∃ m, L'.length = m := ⟨_, rfl⟩
                  rw [hlen', HLL.out] at hle9
                  have HL' := (show Hid _ from hlen')
                  have hq9 : ((len : Int) < len') = False := eq_false (by omega)
                  clear hlen'
                  go_wp2_with fail
                  refine (erE R.out).mono ?_
                  rintro e wx ⟨rfl, rfl⟩
                  go_wp2_with fail
                  refine (leE R.out HL'.out).mono ?_
                  rintro e wx ⟨rfl, rfl⟩
                  go_wp2_with fail
                  refine (erE R.out).mono ?_
                  rintro e wx ⟨rfl, rfl⟩
                  go_wp2_with fail
                  refine (leE R.out HL'.out).mono ?_
                  rintro e wx ⟨rfl, rfl⟩
                  go_wp2
                  refine ⟨⟨k + 1, 0, L', by omega, by go_num, rfl, by rw [HL'.out], by have := HL'.out; omega, R.out, B.out⟩, by simp [intOf]; omega⟩
                · subst he
                  subst hz
                  have hb1 : (err' == 0) = false := beq_eq_false_iff_ne.2 he'
                  have hb2 : (err' != 0) = true := bne_iff_ne.2 he'
                  clear he'
                  go_wp2_with fail
                  refine (erE R.out).mono ?_
                  rintro e wx ⟨rfl, rfl⟩
                  go_wp2_with fail
                  refine (leE R.out HLL.out).mono ?_
                  rintro e wx ⟨rfl, rfl⟩
                  go_wp2_with fail
                  refine (leE R.out HLL.out).mono ?_
                  rintro e wx ⟨rfl, rfl⟩
                  go_wp2_with fail
                  refine (erE R.out).mono ?_
                  rintro e wx ⟨rfl, rfl⟩
                  go_wp2_with fail
                  refine (leE R.out HLL.out).mono ?_
                  rintro e wx ⟨rfl, rfl⟩
                  go_wp2
                  refine ⟨⟨k + 1, err', L', by omega, by go_num, rfl, by rw [HLL.out], by have := HLL.out; omega, R.out, B.out⟩, by simp [intOf]; omega⟩
              · replace h2 : (what == 2) = false := beq_eq_false_iff_ne.2 h2
                by_cases h3 : what = 3
                · subst h3
                  have hal := below_alloc wr (.cells #[.int .i64 3, .int .u64 num, .slice na nn nc, .slice ba bn bc, .int .i64 most] 32)
                  have t := stBool (R.out.keep hal)
                  replace B := (show Hid _ from joinB B.out hal)
                  have HLN := (show Hid _ from HLL.out)
                  clear hal R
                  go_wp2_with fail
                  refine t.mono ?_
                  rintro e w4 ⟨V, err', L', rfl, R', b', hT⟩
                  have R := (show Hid _ from R')
                  replace B := (show Hid _ from b'.below B.out HG.out (Nat.le_refl _))
                  clear R' b' t
                  rcases hT with ⟨he, rfl, rfl, hz⟩ | ⟨he, rfl, hle9⟩ | ⟨he, he', rfl, hz⟩
                  · subst hz
                    have hb1 : (err' == 0) = false := beq_eq_false_iff_ne.2 he
                    have hb2 : (err' != 0) = true := bne_iff_ne.2 he
                    clear he
                    go_wp2_with fail
                    refine (erE R.out).mono ?_
                    rintro e wx ⟨rfl, rfl⟩
                    go_wp2_with fail
                    refine (leE R.out HLL.out).mono ?_
                    rintro e wx ⟨rfl, rfl⟩
                    go_wp2_with fail
                    refine (erE R.out).mono ?_
                    rintro e wx ⟨rfl, rfl⟩
                    go_wp2_with fail
                    refine (leE R.out HLL.out).mono ?_
                    rintro e wx ⟨rfl, rfl⟩
                    go_wp2_with fail
                    refine (erE R.out).mono ?_
                    rintro e wx ⟨rfl, rfl⟩
                    go_wp2_with fail
                    refine (leE R.out HLL.out).mono ?_
                    rintro e wx ⟨rfl, rfl⟩
                    go_wp2
                    refine ⟨⟨k + 1, err', L', by omega, by go_num, rfl, by rw [HLL.out], by have := HLL.out; omega, R.out, B.out⟩, by simp [intOf]; omega⟩
                  · subst he
                    obtain ⟨len', hlen'⟩ : ∃ m, L'.length = m := ⟨_, rfl⟩
                    rw [hlen', HLL.out] at hle9
                    have HL' := (show Hid _ from hlen')
                    have hq9 : ((len : Int) < len') = False := eq_false (by omega)
                    clear hlen'
                    go_wp2_with fail
                    refine (erE R.out).mono ?_
                    rintro e wx ⟨rfl, rfl⟩
                    go_wp2_with fail
                    refine (leE R.out HL'.out).mono ?_
                    rintro e wx ⟨rfl, rfl⟩
                    go_wp2_with fail
                    refine (erE R.out).mono ?_
                    rintro e wx ⟨rfl, rfl⟩
                    go_wp2_with fail
                    refine (leE R.out HL'.out).mono ?_
                    rintro e wx ⟨rfl, rfl⟩
                    go_wp2
                    refine ⟨⟨k + 1, 0, L', by omega, by go_num, rfl, by rw [HL'.out], by have := HL'.out; omega, R.out, B.out⟩, by simp [intOf]; omega⟩
                  · subst he
                    subst hz
                    have hb1 : (err' == 0) = false := beq_eq_false_iff_ne.2 he'
                    have hb2 : (err' != 0) = true := bne_iff_ne.2 he'
                    clear he'
                    go_wp2_with fail
                    refine (erE R.out).mono ?_
                    rintro e wx ⟨rfl, rfl⟩
                    go_wp2_with fail
                    refine (leE R.out HLL.out).mono ?_
                    rintro e wx ⟨rfl, rfl⟩
                    go_wp2_with fail
                    refine (leE R.out HLL.out).mono ?_
                    rintro e wx ⟨rfl, rfl⟩
                    go_wp2_with fail
                    refine (erE R.out).mono ?_
                    rintro e wx ⟨rfl, rfl⟩
                    go_wp2_with fail
                    refine (leE R.out HLL.out).mono ?_
                    rintro e wx ⟨rfl, rfl⟩
                    go_wp2
                    refine ⟨⟨k + 1, err', L', by omega, by go_num, rfl, by rw [HLL.out], by have := HLL.out; omega, R.out, B.out⟩, by simp [intOf]; omega⟩
                · replace h3 : (what == 3) = false := beq_eq_false_iff_ne.2 h3
                  by_cases h4 : what = 4
                  · subst h4
                    have hal := below_alloc wr (.cells #[.int .i64 4, .int .u64 num, .slice na nn nc, .slice ba bn bc, .int .i64 most] 32)
                    have t := stNat (R.out.keep hal)
                    replace B := (show Hid _ from joinB B.out hal)
                    have HLN := (show Hid _ from HLL.out)
                    clear hal R
                    go_wp2_with fail
                    refine t.mono ?_
                    rintro e w4 ⟨a9, V, d9, err', L', rfl, R', b', hT⟩
                    have R := (show Hid _ from R')
                    replace B := (show Hid _ from b'.below B.out HG.out (Nat.le_refl _))
                    clear R' b' t
                    rcases hT with ⟨he, rfl, rfl, hz⟩ | ⟨he, rfl, hle9⟩ | ⟨he, he', rfl, hz⟩
                    · subst hz
                      have hb1 : (err' == 0) = false := beq_eq_false_iff_ne.2 he
                      have hb2 : (err' != 0) = true := bne_iff_ne.2 he
                      clear he
                      go_wp2_with fail
                      refine (erE R.out).mono ?_
                      rintro e wx ⟨rfl, rfl⟩
                      go_wp2_with fail
                      refine (leE R.out HLL.out).mono ?_
                      rintro e wx ⟨rfl, rfl⟩
                      go_wp2_with fail
                      refine (erE R.out).mono ?_
                      rintro e wx ⟨rfl, rfl⟩
                      go_wp2_with fail
                      refine (leE R.out HLL.out).mono ?_
                      rintro e wx ⟨rfl, rfl⟩
                      go_wp2_with fail
                      refine (erE R.out).mono ?_
                      rintro e wx ⟨rfl, rfl⟩
                      go_wp2_with fail
                      refine (leE R.out HLL.out).mono ?_
                      rintro e wx ⟨rfl, rfl⟩
                      go_wp2
                      refine ⟨⟨k + 1, err', L', by omega, by go_num, rfl, by rw [HLL.out], by have := HLL.out; omega, R.out, B.out⟩, by simp [intOf]; omega⟩
                    · subst he
                      obtain ⟨len', hlen'⟩ : ∃ m, L'.length = m := ⟨_, rfl⟩
                      rw [hlen', HLL.out] at hle9
                      have HL' := (show Hid _ from hlen')
                      have hq9 : ((len : Int) < len') = False := eq_false (by omega)
                      clear hlen'
                      go_wp2_with fail
                      refine (erE R.out).mono ?_
                      rintro e wx ⟨rfl, rfl⟩
                      go_wp2_with fail
                      refine (leE R.out HL'.out).mono ?_
                      rintro e wx ⟨rfl, rfl⟩
                      go_wp2_with fail
                      refine (erE R.out).mono ?_
                      rintro e wx ⟨rfl, rfl⟩
                      go_wp2_with fail
                      refine (leE R.out HL'.out).mono ?_
                      rintro e wx ⟨rfl, rfl⟩
                      go_wp2
                      refine ⟨⟨k + 1, 0, L', by omega, by go_num, rfl, by rw [HL'.out], by have := HL'.out; omega, R.out, B.out⟩, by simp [intOf]; omega⟩
                    · subst he
                      subst hz
                      have hb1 : (err' == 0) = false := beq_eq_false_iff_ne.2 he'
                      have hb2 : (err' != 0) = true := bne_iff_ne.2 he'
                      clear he'
                      go_wp2_with fail
                      refine (erE R.out).mono ?_
                      rintro e wx ⟨rfl, rfl⟩
                      go_wp2_with fail
                      refine (leE R.out HLL.out).mono ?_
                      rintro e wx ⟨rfl, rfl⟩
                      go_wp2_with fail
                      refine (leE R.out HLL.out).mono ?_
                      rintro e wx ⟨rfl, rfl⟩
                      go_wp2_with fail
                      refine (erE R.out).mono ?_
                      rintro e wx ⟨rfl, rfl⟩
                      go_wp2_with fail
                      refine (leE R.out HLL.out).mono ?_
                      rintro e wx ⟨rfl, rfl⟩
                      go_wp2
                      refine ⟨⟨k + 1, err', L', by omega, by go_num, rfl, by rw [HLL.out], by have := HLL.out; omega, R.out, B.out⟩, by simp [intOf]; omega⟩
                  · replace h4 : (what == 4) = false := beq_eq_false_iff_ne.2 h4
                    by_cases h5 : what = 5
                    · subst h5
                      have hal := below_alloc wr (.cells #[.int .i64 5, .int .u64 num, .slice na nn nc, .slice ba bn bc, .int .i64 most] 32)
                      have t := stDec (R.out.keep hal)
                      replace B := (show Hid _ from joinB B.out hal)
                      have HLN := (show Hid _ from HLL.out)
                      clear hal R
                      go_wp2_with fail
                      refine t.mono ?_
                      rintro e w4 ⟨a9, V, d9, err', L', rfl, R', b', hT⟩
                      have R := (show Hid _ from R')
                      replace B := (show Hid _ from b'.below B.out HG.out (Nat.le_refl _))
                      clear R' b' t
                      rcases hT with ⟨he, rfl, rfl, hz⟩ | ⟨he, rfl, hle9⟩ | ⟨he, he', rfl, hz⟩
                      · subst hz
                        have hb1 : (err' == 0) = false := beq_eq_false_iff_ne.2 he
                        have hb2 : (err' != 0) = true := bne_iff_ne.2 he
                        clear he
                        go_wp2_with fail
                        refine (erE R.out).mono ?_
                        rintro e wx ⟨rfl, rfl⟩
                        go_wp2_with fail
                        refine (leE R.out HLL.out).mono ?_
                        rintro e wx ⟨rfl, rfl⟩
                        go_wp2_with fail
                        refine (erE R.out).mono ?_
                        rintro e wx ⟨rfl, rfl⟩
                        go_wp2_with fail
                        refine (leE R.out HLL.out).mono ?_
                        rintro e wx ⟨rfl, rfl⟩
                        go_wp2_with fail
                        refine (erE R.out).mono ?_
                        rintro e wx ⟨rfl, rfl⟩
                        go_wp2_with fail
                        refine (leE R.out HLL.out).mono ?_
                        rintro e wx ⟨rfl, rfl⟩
                        go_wp2
                        refine ⟨⟨k + 1, err', L', by omega, by go_num, rfl, by rw [HLL.out], by have := HLL.out; omega, R.out, B.out⟩, by simp [intOf]; omega⟩
                      · subst he
                        obtain ⟨len', hlen'⟩ : ∃ m, L'.length = m := ⟨_, rfl⟩
                        rw [hlen', HLL.out] at hle9
                        have HL' := (show Hid _ from hlen')
                        have hq9 : ((len : Int) < len') = False := eq_false (by omega)
                        clear hlen'
                        go_wp2_with fail
                        refine (erE R.out).mono ?_
                        rintro e wx ⟨rfl, rfl⟩
                        go_wp2_with fail
                        refine (leE R.out HL'.out).mono ?_
                        rintro e wx ⟨rfl, rfl⟩
                        go_wp2_with fail
                        refine (erE R.out).mono ?_
                        rintro e wx ⟨rfl, rfl⟩
                        go_wp2_with fail
                        refine (leE R.out HL'.out).mono ?_
                        rintro e wx ⟨rfl, rfl⟩
                        go_wp2
                        refine ⟨⟨k + 1, 0, L', by omega, by go_num, rfl, by rw [HL'.out], by have := HL'.out; omega, R.out, B.out⟩, by simp [intOf]; omega⟩
                      · subst he
                        subst hz
                        have hb1 : (err' == 0) = false := beq_eq_false_iff_ne.2 he'
                        have hb2 : (err' != 0) = true := bne_iff_ne.2 he'
                        clear he'
                        go_wp2_with fail
                        refine (erE R.out).mono ?_
                        rintro e wx ⟨rfl, rfl⟩
                        go_wp2_with fail
                        refine (leE R.out HLL.out).mono ?_
                        rintro e wx ⟨rfl, rfl⟩
                        go_wp2_with fail
                        refine (leE R.out HLL.out).mono ?_
                        rintro e wx ⟨rfl, rfl⟩
                        go_wp2_with fail
                        refine (erE R.out).mono ?_
                        rintro e wx ⟨rfl, rfl⟩
                        go_wp2_with fail
                        refine (leE R.out HLL.out).mono ?_
                        rintro e wx ⟨rfl, rfl⟩
                        go_wp2
                        refine ⟨⟨k + 1, err', L', by omega, by go_num, rfl, by rw [HLL.out], by have := HLL.out; omega, R.out, B.out⟩, by simp [intOf]; omega⟩
                    · replace h5 : (what == 5) = false := beq_eq_false_iff_ne.2 h5
                      by_cases h6 : what = 6
                      · subst h6
                        have hal := below_alloc wr (.cells #[.int .i64 6, .int .u64 num, .slice na nn nc, .slice ba bn bc, .int .i64 most] 32)
                        have t := stRaw HSA.out.m1 HSA.out.m2 (R.out.keep hal)
                        replace B := (show Hid _ from joinB B.out hal)
                        have HLN := (show Hid _ from HLL.out)
                        clear hal R
                        go_wp2_with fail
                        refine t.mono ?_
                        rintro e w4 ⟨a9, V, d9, err', L', rfl, R', b', hT⟩
                        have R := (show Hid _ from R')
                        replace B := (show Hid _ from b'.below B.out HG.out (Nat.le_refl _))
                        clear R' b' t
                        rcases hT with ⟨he, rfl, rfl, hz⟩ | ⟨he, rfl, hle9⟩ | ⟨he, he', rfl, hz⟩
                        · subst hz
                          have hb1 : (err' == 0) = false := beq_eq_false_iff_ne.2 he
                          have hb2 : (err' != 0) = true := bne_iff_ne.2 he
                          clear he
                          go_wp2_with fail
                          refine (erE R.out).mono ?_
                          rintro e wx ⟨rfl, rfl⟩
                          go_wp2_with fail
                          refine (leE R.out HLL.out).mono ?_
                          rintro e wx ⟨rfl, rfl⟩
                          go_wp2_with fail
                          refine (erE R.out).mono ?_
                          rintro e wx ⟨rfl, rfl⟩
                          go_wp2_with fail
                          refine (leE R.out HLL.out).mono ?_
                          rintro e wx ⟨rfl, rfl⟩
                          go_wp2_with fail
                          refine (erE R.out).mono ?_
                          rintro e wx ⟨rfl, rfl⟩
                          go_wp2_with fail
                          refine (leE R.out HLL.out).mono ?_
                          rintro e wx ⟨rfl, rfl⟩
                          go_wp2
                          refine ⟨⟨k + 1, err', L', by omega, by go_num, rfl, by rw [HLL.out], by have := HLL.out; omega, R.out, B.out⟩, by simp [intOf]; omega⟩
                        · subst he
                          obtain ⟨len', hlen'⟩ : ∃ m, L'.length = m := ⟨_, rfl⟩
                          rw [hlen', HLL.out] at hle9
                          have HL' := (show Hid _ from hlen')
                          have hq9 : ((len : Int) < len') = False := eq_false (by omega)
                          clear hlen'
                          go_wp2_with fail
                          refine (erE R.out).mono ?_
                          rintro e wx ⟨rfl, rfl⟩
                          go_wp2_with fail
                          refine (leE R.out HL'.out).mono ?_
                          rintro e wx ⟨rfl, rfl⟩
                          go_wp2_with fail
                          refine (erE R.out).mono ?_
                          rintro e wx ⟨rfl, rfl⟩
                          go_wp2_with fail
                          refine (leE R.out HL'.out).mono ?_
                          rintro e wx ⟨rfl, rfl⟩
                          go_wp2
                          refine ⟨⟨k + 1, 0, L', by omega, by go_num, rfl, by rw [HL'.out], by have := HL'.out; omega, R.out, B.out⟩, by simp [intOf]; omega⟩
                        · subst he
                          subst hz
                          have hb1 : (err' == 0) = false := beq_eq_false_iff_ne.2 he'
                          have hb2 : (err' != 0) = true := bne_iff_ne.2 he'
                          clear he'
                          go_wp2_with fail
                          refine (erE R.out).mono ?_
                          rintro e wx ⟨rfl, rfl⟩
                          go_wp2_with fail
                          refine (leE R.out HLL.out).mono ?_
                          rintro e wx ⟨rfl, rfl⟩
                          go_wp2_with fail
                          refine (leE R.out HLL.out).mono ?_
                          rintro e wx ⟨rfl, rfl⟩
                          go_wp2_with fail
                          refine (erE R.out).mono ?_
                          rintro e wx ⟨rfl, rfl⟩
                          go_wp2_with fail
                          refine (leE R.out HLL.out).mono ?_
                          rintro e wx ⟨rfl, rfl⟩
                          go_wp2
                          refine ⟨⟨k + 1, err', L', by omega, by go_num, rfl, by rw [HLL.out], by have := HLL.out; omega, R.out, B.out⟩, by simp [intOf]; omega⟩
                      · replace h6 : (what == 6) = false := beq_eq_false_iff_ne.2 h6
                        by_cases h8 : what = 8
                        · subst h8
                          have hal := below_alloc wr (.cells #[.int .i64 8, .int .u64 num, .slice na nn nc, .slice ba bn bc, .int .i64 most] 32)
                          have t := stEnd (R.out.keep hal) (by have := HLL.out; omega)
                          replace B := (show Hid _ from joinB B.out hal)
                          have HLN := (show Hid _ from HLL.out)
                          clear hal R
                          go_wp2_with fail
                          refine t.mono ?_
                          rintro e w4 ⟨V, err', L', rfl, R', b', hT⟩
                          have R := (show Hid _ from R')
                          replace B := (show Hid _ from b'.below B.out HG.out (Nat.le_refl _))
                          clear R' b' t
                          rcases hT with ⟨he, rfl, rfl, hz⟩ | ⟨he, rfl, hle9⟩ | ⟨he, he', rfl, hz⟩
                          · clear hz
                            have hb1 : (err' == 0) = false := beq_eq_false_iff_ne.2 he
                            have hb2 : (err' != 0) = true := bne_iff_ne.2 he
                            clear he
                            go_wp2_with fail
                            refine (erE R.out).mono ?_
                            rintro e wx ⟨rfl, rfl⟩
                            go_wp2_with fail
                            refine (leE R.out HLL.out).mono ?_
                            rintro e wx ⟨rfl, rfl⟩
                            go_wp2_with fail
                            refine (erE R.out).mono ?_
                            rintro e wx ⟨rfl, rfl⟩
                            go_wp2_with fail
                            refine (leE R.out HLL.out).mono ?_
                            rintro e wx ⟨rfl, rfl⟩
                            go_wp2_with fail
                            refine (erE R.out).mono ?_
                            rintro e wx ⟨rfl, rfl⟩
                            go_wp2_with fail
                            refine (leE R.out HLL.out).mono ?_
                            rintro e wx ⟨rfl, rfl⟩
                            go_wp2
                            refine ⟨⟨k + 1, err', L', by omega, by go_num, rfl, by rw [HLL.out], by have := HLL.out; omega, R.out, B.out⟩, by simp [intOf]; omega⟩
                          · subst he
                            obtain ⟨len', hlen'⟩ : ∃ m, L'.length = m := ⟨_, rfl⟩
                            rw [hlen', HLL.out] at hle9
                            have HL' := (show Hid _ from hlen')
                            have hq9 : ((len : Int) < len') = False := eq_false (by omega)
                            clear hlen'
                            go_wp2_with fail
                            refine (erE R.out).mono ?_
                            rintro e wx ⟨rfl, rfl⟩
                            go_wp2_with fail
                            refine (leE R.out HL'.out).mono ?_
                            rintro e wx ⟨rfl, rfl⟩
                            go_wp2_with fail
                            refine (erE R.out).mono ?_
                            rintro e wx ⟨rfl, rfl⟩
                            go_wp2_with fail
                            refine (leE R.out HL'.out).mono ?_
                            rintro e wx ⟨rfl, rfl⟩
                            go_wp2
                            refine ⟨⟨k + 1, 0, L', by omega, by go_num, rfl, by rw [HL'.out], by have := HL'.out; omega, R.out, B.out⟩, by simp [intOf]; omega⟩
                          · subst he
                            clear hz
                            have hb1 : (err' == 0) = false := beq_eq_false_iff_ne.2 he'
                            have hb2 : (err' != 0) = true := bne_iff_ne.2 he'
                            clear he'
                            go_wp2_with fail
                            refine (erE R.out).mono ?_
                            rintro e wx ⟨rfl, rfl⟩
                            go_wp2_with fail
                            refine (leE R.out HLL.out).mono ?_
                            rintro e wx ⟨rfl, rfl⟩
                            go_wp2_with fail
                            refine (leE R.out HLL.out).mono ?_
                            rintro e wx ⟨rfl, rfl⟩
                            go_wp2_with fail
                            refine (erE R.out).mono ?_
                            rintro e wx ⟨rfl, rfl⟩
                            go_wp2_with fail
                            refine (leE R.out HLL.out).mono ?_
                            rintro e wx ⟨rfl, rfl⟩
                            go_wp2
                            refine ⟨⟨k + 1, err', L', by omega, by go_num, rfl, by rw [HLL.out], by have := HLL.out; omega, R.out, B.out⟩, by simp [intOf]; omega⟩
                        · replace h8 : (what == 8) = false := beq_eq_false_iff_ne.2 h8
                          have hal := below_alloc wr (.cells #[.int .i64 what, .int .u64 num, .slice na nn nc, .slice ba bn bc, .int .i64 most] 32)
                          replace R := (show Hid _ from R.out.keep hal)
                          replace B := (show Hid _ from joinB B.out hal)
                          clear hal
                          by_cases he : err = 0
                          · subst he
                            go_wp2_with fail
                            refine (erE R.out).mono ?_
                            rintro e wx ⟨rfl, rfl⟩
                            go_wp2_with fail
                            refine (leE R.out HLL.out).mono ?_
                            rintro e wx ⟨rfl, rfl⟩
                            go_wp2_with fail
                            refine (erE R.out).mono ?_
                            rintro e wx ⟨rfl, rfl⟩
                            go_wp2_with fail
                            refine (leE R.out HLL.out).mono ?_
                            rintro e wx ⟨rfl, rfl⟩
                            go_wp2
                            refine ⟨⟨k + 1, 0, L, by omega, by go_num, rfl, by rw [HLL.out], by have := HLL.out; omega, R.out, B.out⟩, by simp [intOf]; omega⟩
                          · have hb1 : (err == 0) = false := beq_eq_false_iff_ne.2 he
                            have hb2 : (err != 0) = true := bne_iff_ne.2 he
                            clear he
                            go_wp2_with fail
                            refine (erE R.out).mono ?_
                            rintro e wx ⟨rfl, rfl⟩
                            go_wp2_with fail
                            refine (leE R.out HLL.out).mono ?_
                            rintro e wx ⟨rfl, rfl⟩
                            go_wp2_with fail
                            refine (erE R.out).mono ?_
                            rintro e wx ⟨rfl, rfl⟩
                            go_wp2_with fail
                            refine (leE R.out HLL.out).mono ?_
                            rintro e wx ⟨rfl, rfl⟩
                            go_wp2_with fail
                            refine (erE R.out).mono ?_
                            rintro e wx ⟨rfl, rfl⟩
                            go_wp2_with fail
                            refine (leE R.out HLL.out).mono ?_
                            rintro e wx ⟨rfl, rfl⟩
                            go_wp2
                            refine ⟨⟨k + 1, err, L, by omega, by go_num, rfl, by rw [HLL.out], by have := HLL.out; omega, R.out, B.out⟩, by simp [intOf]; omega⟩
        · obtain rfl : k = n := by omega
          by_cases he : err = 0
          · subst he
            go_wp2
            go_ret
            exact ⟨rfl, B.out⟩
          · have hb1 : (err == 0) = false := beq_eq_false_iff_ne.2 he
            have hE : endE err L = err := by unfold endE; rw [if_neg he]
            have t := rdEnd R.out (by omega)
            rw [hE] at t
            clear he hE
            go_wp2_with fail
            refine t.mono ?_
            rintro e w4 ⟨rfl, -, b'⟩
            replace B := (show Hid _ from b'.below B.out HG.out (Nat.le_refl _))
            clear t b'
            go_wp2
            go_ret
            exact ⟨rfl, B.out⟩
    · have hq : ((3000 : Int) < n0) = True := eq_true (by omega)
      clear hb hlt
      go_wp2
      go_ret
      exact ⟨rfl, hB.out⟩
  · rw [decide_eq_false hlt]
    clear hlt
    go_wp2
    go_ret
    exact ⟨rfl, hB.out⟩
end Go.Proofs.Ytapnhfppjefnfaa
