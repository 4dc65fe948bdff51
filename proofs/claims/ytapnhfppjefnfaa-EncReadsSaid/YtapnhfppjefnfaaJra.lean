/- Several texts, joined: EncP, EncQ, EncR, EncS, EncT, EncU. -/
import Derived.Test.YtapnhfppjefnfaaJwa
namespace Go.Proofs.Ytapnhfppjefnfaa
open Go.RowKit Lim

/-- the document's Reader: its bytes, its error -/
structure RfA (w : World) (g b : Nat) (err : Int) (l : List Int) : Prop where
  ex : ∃ ao n c, Box w g [.slice ao n c, .int .i64 err] 72 ∧ ByA w b ao n c l
theorem RfA.keep {w w' : World} {g b : Nat} {err : Int} {l : List Int} (h : RfA w g b err l) (hb : Below w.heap.size w w') : RfA w' g b err l := by
  obtain ⟨ao, n, c, h1, h2⟩ := h.ex
  exact ⟨ao, n, c, h1.keep hb, h2.keep hb⟩
theorem no_u8f (err : Int) (ao : Option Addr) (n c : Nat) : ∀ v ∈ [Value.slice ao n c, Value.int .i64 err], ∀ x, v ≠ .int .u8 x := fun v hv x e => by
  rcases List.mem_cons.1 hv with h | h
  · subst h; cases e
  · rw [List.mem_singleton] at h; subst h; cases e
theorem RfA.lt {w : World} {g b : Nat} {err : Int} {l : List Int} (h : RfA w g b err l) : g < w.heap.size := by
  obtain ⟨_, _, _, X, _⟩ := h.ex
  exact X.lt
theorem RfA.oct {w : World} {g b : Nat} {err : Int} {l : List Int} (h : RfA w g b err l) : Octets l := by
  obtain ⟨_, _, _, _, A⟩ := h.ex
  obtain ⟨o, _, _, _, h4, _⟩ := A.ex
  exact h4
theorem RfA.len {w : World} {g b : Nat} {err : Int} {l : List Int} (h : RfA w g b err l) : l.length ≤ 9223372036854775807 := by
  obtain ⟨_, _, _, _, A⟩ := h.ex
  obtain ⟨o, _, _, ⟨_, _⟩, _, _⟩ := A.ex
  omega
/-- the Reader is read: the document's stays -/
theorem RfA.offR {w w' : World} {g g' b b' : Nat} {err e' : Int} {l l' : List Int} (h : RfA w g b err l) (h' : RdA w g' b' e' l') (hne : g ≠ g') (hB : But g' w w') : RfA w' g b err l := by
  obtain ⟨ao, n, c, X, A⟩ := h.ex
  obtain ⟨_, _, _, X', _⟩ := h'.ex
  exact ⟨ao, n, c, ⟨by rw [hB.block g X.lt hne]; exact X.blk⟩, A.but X' (no_u8 _ _ _ _) hB⟩
/-- the document's is read: the Reader stays -/
theorem RdA.offF {w w' : World} {g g' b b' : Nat} {err e' : Int} {l l' : List Int} (h : RdA w g b err l) (h' : RfA w g' b' e' l') (hne : g ≠ g') (hB : But g' w w') : RdA w' g b err l := by
  obtain ⟨ao, n, c, X, A⟩ := h.ex
  obtain ⟨_, _, _, X', _⟩ := h'.ex
  exact ⟨ao, n, c, ⟨by rw [hB.block g X.lt hne]; exact X.blk⟩, A.but X' (no_u8f _ _ _ _) hB⟩
theorem RfA.offN {w w' : World} {g g' b : Nat} {err : Int} {l : List Int} (h : RfA w g b err l) (hne : g ≠ g') (hb : b ≠ g') (hB : But g' w w') : RfA w' g b err l := by
  obtain ⟨ao, n, c, X, A⟩ := h.ex
  exact ⟨ao, n, c, ⟨by rw [hB.block g X.lt hne]; exact X.blk⟩, A.butN hb hB⟩
theorem but_set (w : World) (g k : Nat) (v : Value) : But g w (w.setCell ⟨g, k, none⟩ v) := ⟨rfl, rfl, rfl, by rw [size_set]; exact Nat.le_refl _, fun _ _ h2 => Below.heap_setCell _ _ _ _ h2⟩
set_option maxRecDepth 100000 in
theorem rfTake {w : World} {g b m : Nat} {l : List Int} (h : RfA w g b 0 l) (hm : m ≤ l.length) :
    Calls Try.prog 71 #[.pointer (some ⟨g, 0, none⟩), .int .i64 m] w fun e w' => ∃ ao c, e = .returned (.slice ao m c) ∧ ByA w' b ao m c (l.take m) ∧ RfA w' g b 0 (l.drop m) ∧ But g w w' := by
  obtain ⟨ao, n, c, X, A⟩ := h.ex
  obtain ⟨o, h1, h2, ⟨h3, -⟩, -, -⟩ := A.ex
  have hmn : m ≤ n := by omega
  have H : But g w (w.setCell ⟨g, 0, none⟩ (.slice (restAt ao c m) (n - m) (c - m))) := but_set _ _ _ _
  have HR : Hid (∀ w', w' = w.setCell ⟨g, 0, none⟩ (.slice (restAt ao c m) (n - m) (c - m)) → ByA w' b ao m c (l.take m) ∧ RfA w' g b 0 (l.drop m) ∧ But g w w') := fun w' e => by
    subst e
    exact ⟨(A.front2 hmn).but X (no_u8f _ _ _ _) H, ⟨_, _, _, box_put0 X _, (A.rest hmn).but X (no_u8f _ _ _ _) H⟩, H⟩
  obtain ⟨c1, c2, c3, c4⟩ := X.two
  have hm0 : (m : Int) ≤ n := by omega
  have hm1 : (m : Int) ≤ c := by omega
  have hq : ((n : Int) < m) = False := eq_false (by omega)
  have hn9 : (c : Int) ≤ 9223372036854775807 := by omega
  clear X A h H
  go_enter Try.func71, Try.ntmps71
  go_wp2
  · subst h
    go_ret
    exact ⟨ao, c, rfl, HR.out _ (by unfold restAt; rw [if_pos rfl, Nat.sub_self])⟩
  · go_ret
    exact ⟨ao, c, rfl, HR.out _ (by unfold restAt; rw [if_neg (by assumption)])⟩
set_option maxRecDepth 100000 in
theorem rfTakeS {w : World} {g b m : Nat} {l : List Int} (h : RfA w g b 0 l) (hm : l.length < m) :
    Calls Try.prog 71 #[.pointer (some ⟨g, 0, none⟩), .int .i64 m] w fun e w' => e = .returned (.slice none 0 0) ∧ RfA w' g b 40 l ∧ But g w w' := by
  obtain ⟨ao, n, c, X, A⟩ := h.ex
  obtain ⟨o, h1, h2, ⟨h3, -⟩, -, -⟩ := A.ex
  have H : But g w (w.setCell ⟨g, 1, none⟩ (.int .i64 40)) := but_set _ _ _ _
  have HR : Hid (RfA (w.setCell ⟨g, 1, none⟩ (.int .i64 40)) g b 40 l ∧ But g w (w.setCell ⟨g, 1, none⟩ (.int .i64 40))) := ⟨⟨_, _, _, box_put1 X _, A.but X (no_u8f _ _ _ _) H⟩, H⟩
  obtain ⟨c1, c2, c3, c4⟩ := X.two
  have d2 := (box_put1 X (.int .i64 40)).two.2.1
  have hq : ((n : Int) < m) = True := eq_true (by omega)
  clear X A h H hm
  go_enter Try.func71, Try.ntmps71
  go_wp2
  go_ret
  exact ⟨rfl, HR.out⟩
set_option maxRecDepth 100000 in
theorem rfTakeE {w : World} {g b : Nat} {m err : Int} {l : List Int} (h : RfA w g b err l) (he : err ≠ 0) :
    Calls Try.prog 71 #[.pointer (some ⟨g, 0, none⟩), .int .i64 m] w fun e w' => e = .returned (.slice none 0 0) ∧ w' = w := by
  obtain ⟨ao, n, c, X, A⟩ := h.ex
  obtain ⟨c1, c2, c3, c4⟩ := X.two
  have hb1 : (err == 0) = false := beq_eq_false_iff_ne.2 he
  have hb2 : (err != 0) = true := bne_iff_ne.2 he
  clear X A h he
  go_enter Try.func71, Try.ntmps71
  go_wp2
  go_ret
  exact ⟨rfl, rfl⟩
set_option maxHeartbeats 2000000 in
set_option maxRecDepth 100000 in
theorem rfU {w : World} {g b m : Nat} {err : Int} {l : List Int} (h : RfA w g b err l) (h8 : m ≤ 8) :
    Calls Try.prog 56 #[.pointer (some ⟨g, 0, none⟩), .int .i64 m] w fun e w' => e = .returned (.int .u64 (rdV 0 (pFix m l) err)) ∧ RfA w' g b (rdE (pFix m l) err) (rdL (pFix m l) err l) ∧ But g w w' := by
  by_cases he : err = 0
  · subst he
    by_cases hm : m ≤ l.length
    · have hp : pFix m l = .inr (bval (l.take m), m) := by unfold pFix; rw [if_pos hm]
      rw [hp]
      show Calls Try.prog _ _ w fun e w' => e = .returned (.int .u64 (bval (l.take m))) ∧ RfA w' g b 0 (l.drop m) ∧ But g w w'
      have HO : Hid (Octets (l.take m)) := fun x hx => h.oct x (List.mem_of_mem_take hx)
      have hlm : (l.take m).length = m := by rw [List.length_take]; omega
      have t := rfTake h hm
      clear hp h
      generalize l.take m = d at *
      generalize l.drop m = r at *
      have h8' : (m : Int) ≤ 8 := by omega
      go_enter Try.func56, Try.ntmps56
      go_wp2_with fail
      refine t.mono ?_
      rintro e w1 ⟨ao, c, rfl, A1, R1, b1⟩
      have HR1 := (show Hid _ from R1)
      have HB1 := (show Hid _ from b1)
      obtain ⟨o, -, -, -, -, hA5⟩ := A1.ex
      have HA5 := (show Hid _ from hA5)
      clear t A1 R1 b1 hA5
      go_wp2_with fail
      go_loop [6, 7] (fun tx ti => ∃ k : Nat, k ≤ m ∧ ti = .int .i64 k ∧ tx = .int .u64 (bval (d.take k))) (fun _ ti => m - (intOf ti).toNat)
      case atStart => exact ⟨0, Nat.zero_le _, rfl, rfl⟩
      case round =>
        obtain ⟨k, hk, rfl, rfl⟩ := hrel
        by_cases hlt : k < m
        · have hkl : k < d.length := by omega
          have hcell := HA5.out.cell k hkl
          obtain rfl : ao = some ⟨b, o, none⟩ := by
            rcases HA5.out.loc with e | e
            · rw [e] at hkl; simp at hkl
            · exact e
          have hk0 : (k : Int) < m := by omega
          have hd := HO.out.nth k
          have HB := bval_bound (l := d.take k) (fun x hx => HO.out x (List.mem_of_mem_take hx))
          have hp : (256 : Int) ^ (d.take k).length ≤ 256 ^ 7 := pow256_mono (by rw [List.length_take]; omega)
          have hx1 : bval (d.take k) < 72057594037927936 := by
            have e7 : (256 : Int) ^ 7 = 72057594037927936 := by decide
            omega
          have hx0 := HB.1
          have hor := or8 (bval (d.take k)) (nth d k) hx0 hx1 hd.1 hd.2
          have HN : Hid (bval (d.take (k + 1)) = bval (d.take k) * 256 + nth d k) := by show _ = _; rw [take_succ_nth hkl, bval_snoc2]
          clear HB hp
          generalize bval (d.take k) = V at *
          generalize nth d k = D at *
          go_wp2
          go_round
          case rel => exact ⟨k + 1, by omega, by go_num, by rw [HN.out]⟩
          case measure => simp [intOf]; omega
        · obtain rfl : k = m := by omega
          have hdk : d.take k = d := List.take_of_length_le (by omega)
          rw [hdk]
          go_wp2
          go_ret
          exact ⟨rfl, HR1.out, HB1.out⟩
    · have hp : pFix m l = .inl 40 := by unfold pFix; rw [if_neg hm]
      rw [hp]
      show Calls Try.prog _ _ w fun e w' => e = .returned (.int .u64 0) ∧ RfA w' g b 40 l ∧ But g w w'
      have t := rfTakeS (m := m) h (by omega)
      clear hp h hm
      go_enter Try.func56, Try.ntmps56
      go_wp2_with fail
      refine t.mono ?_
      rintro e w1 ⟨rfl, R1, b1⟩
      have HR1 := (show Hid _ from R1)
      have HB1 := (show Hid _ from b1)
      clear t R1 b1
      go_wp2_with fail
      go_loop [6, 7] (fun tx ti => tx = .int .u64 0 ∧ ti = .int .i64 0) (fun _ _ => 0)
      case atStart => exact ⟨rfl, rfl⟩
      case round =>
        obtain ⟨rfl, rfl⟩ := hrel
        go_wp2
        go_ret
        exact ⟨rfl, HR1.out, HB1.out⟩
  · rw [rdV_bad he, rdE_bad he, rdL_bad he]
    have t := rfTakeE (m := (m : Int)) h he
    have HH := (show Hid _ from h)
    clear h he
    go_enter Try.func56, Try.ntmps56
    go_wp2_with fail
    refine t.mono ?_
    rintro e w1 ⟨rfl, hw1⟩
    subst hw1
    clear t
    go_wp2_with fail
    go_loop [6, 7] (fun tx ti => tx = .int .u64 0 ∧ ti = .int .i64 0) (fun _ _ => 0)
    case atStart => exact ⟨rfl, rfl⟩
    case round =>
      obtain ⟨rfl, rfl⟩ := hrel
      go_wp2
      go_ret
      exact ⟨rfl, HH.out, But.refl _ _⟩
set_option maxRecDepth 100000 in
theorem rfEnd {w : World} {g b : Nat} {err : Int} {l : List Int} (h : RfA w g b err l) :
    Calls Try.prog 62 #[.pointer (some ⟨g, 0, none⟩)] w fun e w' => e = .returned (.int .i64 (endE err l)) ∧ RfA w' g b (endE err l) l ∧ But g w w' := by
  obtain ⟨ao, n, c, X, A⟩ := h.ex
  obtain ⟨o, h1, h2, ⟨h3, -⟩, -, -⟩ := A.ex
  have H : But g w (w.setCell ⟨g, 1, none⟩ (.int .i64 43)) := but_set _ _ _ _
  have HR : Hid (RfA (w.setCell ⟨g, 1, none⟩ (.int .i64 43)) g b 43 l ∧ But g w (w.setCell ⟨g, 1, none⟩ (.int .i64 43))) := ⟨⟨_, _, _, box_put1 X _, A.but X (no_u8f _ _ _ _) H⟩, H⟩
  obtain ⟨c1, c2, c3, c4⟩ := X.two
  have d2 := (box_put1 X (.int .i64 43)).two.2.1
  have HH := (show Hid _ from h)
  by_cases he : err = 0
  · subst he
    by_cases hl : l.length = 0
    · have e : endE 0 l = 0 := by unfold endE; rw [if_pos rfl, if_pos hl]
      rw [e]
      have hn : n = 0 := by omega
      subst hn
      clear X A h H HR e hl d2
      go_enter Try.func62, Try.ntmps62
      go_wp2
      go_ret
      exact ⟨rfl, HH.out, But.refl _ _⟩
    · have e : endE 0 l = 43 := by unfold endE; rw [if_pos rfl, if_neg hl]
      rw [e]
      have hn : 0 < n := by omega
      clear X A h H e hl HH
      go_enter Try.func62, Try.ntmps62
      go_wp2
      go_ret
      exact ⟨rfl, HR.out⟩
  · have e : endE err l = err := by unfold endE; rw [if_neg he]
    rw [e]
    have hb1 : (err == 0) = false := beq_eq_false_iff_ne.2 he
    clear X A h H HR e he d2
    go_enter Try.func62, Try.ntmps62
    go_wp2
    go_ret
    exact ⟨rfl, HH.out, But.refl _ _⟩
end Go.Proofs.Ytapnhfppjefnfaa

namespace Go.Proofs.Ytapnhfppjefnfaa
open Go.RowKit Lim

theorem bval_one {l : List Int} (h : 1 ≤ l.length) : bval (l.take 1) = nth l 0 := by
  cases l with
  | nil => simp at h
  | cons x t => simp [bval, nth]
theorem nth_drop1 (l : List Int) : nth (l.drop 1) 0 = nth l 1 := by
  cases l with
  | nil => rfl
  | cons x t => rfl
set_option maxHeartbeats 2000000 in
set_option maxRecDepth 100000 in
theorem rfBool {w : World} {g b : Nat} {err : Int} {l : List Int} (h : RfA w g b err l) :
    Calls Try.prog 57 #[.pointer (some ⟨g, 0, none⟩)] w fun e w' => e = .returned (.bool (rdV false (pBool l) err)) ∧ RfA w' g b (rdE (pBool l) err) (rdL (pBool l) err l) ∧ But g w w' := by
  obtain ⟨ao, n, c, X, A⟩ := h.ex
  obtain ⟨o, h1, h2, ⟨h3, -⟩, -, h5⟩ := A.ex
  obtain ⟨c1, c2, c3, c4⟩ := X.two
  by_cases he : err = 0
  · subst he
    by_cases hl : 1 ≤ l.length
    · have hc0 := h5.cell 0 (by omega)
      rw [Nat.add_zero] at hc0
      obtain rfl : ao = some ⟨b, o, none⟩ := by
        rcases h5.loc with e | e
        · rw [e] at hl; simp at hl
        · exact e
      have hn : 0 < n := by omega
      have hbv := bval_one hl
      have t := rfU (m := 1) h (by decide)
      have hpf : pFix 1 l = .inr (nth l 0, 1) := by unfold pFix; rw [if_pos hl, hbv]
      by_cases hx : 1 < nth l 0
      · have hp : pBool l = .inl 41 := by unfold pBool; rw [if_pos hl, hbv, if_pos hx]
        rw [hp]
        show Calls Try.prog _ _ w fun e w' => e = .returned (.bool false) ∧ RfA w' g b 41 l ∧ But g w w'
        have H : But g w (w.setCell ⟨g, 1, none⟩ (.int .i64 41)) := but_set _ _ _ _
        have R1 : RfA (w.setCell ⟨g, 1, none⟩ (.int .i64 41)) g b 41 l := ⟨_, _, _, box_put1 X _, A.but X (no_u8f _ _ _ _) H⟩
        have t1 : Calls Try.prog 56 #[.pointer (some ⟨g, 0, none⟩), .int .i64 1] (w.setCell ⟨g, 1, none⟩ (.int .i64 41)) fun e w' => e = .returned (.int .u64 0) ∧ RfA w' g b 41 l ∧ But g (w.setCell ⟨g, 1, none⟩ (.int .i64 41)) w' := rfU (m := 1) R1 (by decide)
        have HH := (show Hid _ from H)
        clear t hp hpf hbv h5 X A h R1 H
        generalize nth l 0 = x at *
        go_enter Try.func57, Try.ntmps57
        go_wp2_with fail
        refine t1.mono ?_
        rintro e w1 ⟨rfl, R2, b2⟩
        have HR := (show Hid _ from R2)
        have HB := (show Hid _ from HH.out.trans b2)
        clear t1 R2 b2
        go_wp2
        go_ret
        exact ⟨rfl, HR.out, HB.out⟩
      · have hp : pBool l = .inr (nth l 0 == 1, 1) := by unfold pBool; rw [if_pos hl, hbv, if_neg hx]
        rw [hp]
        rw [hpf] at t
        show Calls Try.prog _ _ w fun e w' => e = .returned (.bool (nth l 0 == 1)) ∧ RfA w' g b 0 (l.drop 1) ∧ But g w w'
        have t1 : Calls Try.prog 56 #[.pointer (some ⟨g, 0, none⟩), .int .i64 1] w fun e w' => e = .returned (.int .u64 (nth l 0)) ∧ RfA w' g b 0 (l.drop 1) ∧ But g w w' := t
        clear t hp hpf hbv h5 X A h
        have hq : ((1 : Int) < nth l 0) = False := eq_false hx
        clear hx
        generalize nth l 0 = x at *
        go_enter Try.func57, Try.ntmps57
        go_wp2_with fail
        refine t1.mono ?_
        rintro e w1 ⟨rfl, R2, b2⟩
        have HR := (show Hid _ from R2)
        have HB := (show Hid _ from b2)
        clear t1 R2 b2
        go_wp2
        go_ret
        exact ⟨rfl, HR.out, HB.out⟩
    · have hp : pBool l = .inl 40 := by unfold pBool; rw [if_neg hl]
      rw [hp]
      have hn : n = 0 := by omega
      subst hn
      have t1 : Calls Try.prog 56 #[.pointer (some ⟨g, 0, none⟩), .int .i64 1] w fun e w' => e = .returned (.int .u64 0) ∧ RfA w' g b 40 l ∧ But g w w' := by
        have t := rfU (m := 1) h (by decide)
        have e : pFix 1 l = .inl 40 := by unfold pFix; rw [if_neg hl]
        rw [e] at t
        exact t
      show Calls Try.prog _ _ w fun e w' => e = .returned (.bool false) ∧ RfA w' g b 40 l ∧ But g w w'
      clear hp h5 X A h hl
      go_enter Try.func57, Try.ntmps57
      go_wp2_with fail
      refine t1.mono ?_
      rintro e w1 ⟨rfl, R2, b2⟩
      have HR := (show Hid _ from R2)
      have HB := (show Hid _ from b2)
      clear t1 R2 b2
      go_wp2
      go_ret
      exact ⟨rfl, HR.out, HB.out⟩
  · have t := rfU (m := 1) h (by decide)
    rw [rdV_bad he, rdE_bad he, rdL_bad he] at t ⊢
    have hb1 : (err == 0) = false := beq_eq_false_iff_ne.2 he
    clear he h5 X A h
    go_enter Try.func57, Try.ntmps57
    go_wp2_with fail
    refine t.mono ?_
    rintro e w1 ⟨rfl, R2, b2⟩
    have HR := (show Hid _ from R2)
    have HB := (show Hid _ from b2)
    clear t R2 b2
    go_wp2
    go_ret
    exact ⟨rfl, HR.out, HB.out⟩
set_option maxHeartbeats 2000000 in
set_option maxRecDepth 100000 in
theorem rfNatE {w : World} {g b : Nat} {err : Int} {l : List Int} (h : RfA w g b err l) (he : err ≠ 0) :
    Calls Try.prog 58 #[.pointer (some ⟨g, 0, none⟩)] w fun e w' => e = .returned (.slice none 0 0) ∧ RfA w' g b err l ∧ But g w w' := by
  obtain ⟨ao, n, c, X, A⟩ := h.ex
  obtain ⟨c1, c2, c3, c4⟩ := X.two
  have HH := (show Hid _ from h)
  have hb1 : (err == 0) = false := beq_eq_false_iff_ne.2 he
  have hb2 : (err != 0) = true := bne_iff_ne.2 he
  clear X A h he
  go_enter Try.func58, Try.ntmps58
  go_wp2_with fail
  go_region
  go_wp2
  go_ret
  exact ⟨rfl, HH.out.keep (Below.refl _ _).drew, But.of (Below.refl _ _).drew⟩
end Go.Proofs.Ytapnhfppjefnfaa

namespace Go.Proofs.Ytapnhfppjefnfaa
open Go.RowKit Lim

theorem RfA.err {w : World} {g b n c : Nat} {ao : Option Addr} {l : List Int} (e : Int) (X : Box w g [.slice ao n c, .int .i64 0] 72) (A : ByA w b ao n c l) :
    RfA (w.drew.setCell ⟨g, 1, none⟩ (.int .i64 e)) g b e l ∧ But g w (w.drew.setCell ⟨g, 1, none⟩ (.int .i64 e)) := by
  have hd : Below w.heap.size w w.drew := (Below.refl _ _).drew
  have H : But g w.drew (w.drew.setCell ⟨g, 1, none⟩ (.int .i64 e)) := but_set _ _ _ _
  exact ⟨⟨_, _, _, box_put1 X.drew _, (A.keep hd).but X.drew (no_u8f _ _ _ _) H⟩, (But.of hd).trans H⟩
set_option maxHeartbeats 400000 in
set_option maxRecDepth 100000 in
theorem rfNatS {w : World} {g b : Nat} {l : List Int} (h : RfA w g b 0 l) (hs : ¬ (1 ≤ l.length ∧ 1 + cntOf 1 l ≤ l.length)) :
    Calls Try.prog 58 #[.pointer (some ⟨g, 0, none⟩)] w fun e w' => e = .returned (.slice none 0 0) ∧ RfA w' g b 40 l ∧ But g w w' := by
  obtain ⟨ao, n, c, X, A⟩ := h.ex
  obtain ⟨o, h1, h2, ⟨h3, -⟩, h4, h5⟩ := A.ex
  obtain ⟨c1, c2, c3, c4⟩ := X.two
  have HR := (show Hid _ from RfA.err 40 X A)
  have d2 := (box_put1 X.drew (.int .i64 40)).two.2.1
  by_cases hl : 1 ≤ l.length
  · have hc0 := h5.cell 0 (by omega)
    rw [Nat.add_zero] at hc0
    obtain rfl : ao = some ⟨b, o, none⟩ := by
      rcases h5.loc with e | e
      · rw [e] at hl; simp at hl
      · exact e
    have hn : 0 < n := by omega
    have hnz : (n == 0) = false := beq_eq_false_iff_ne.2 (by omega)
    have hnz2 : ((n : Int) == 0) = false := beq_eq_false_iff_ne.2 (by omega)
    have hnz3 : ((n : Int) = 0) = False := eq_false (by omega)
    have hnz4 : (n = 0) = False := eq_false (by omega)
    have hx : (cntOf 1 l : Int) = nth l 0 := by rw [cntOf_nn h4, bval_one hl]
    rw [← hx] at hc0
    have hxb : cntOf 1 l < 256 := by
      have := h4.nth 0
      omega
    have hlt : ¬ 1 + cntOf 1 l ≤ n := fun hh => hs ⟨hl, by omega⟩
    clear X A h hs h5 hx h4
    generalize cntOf 1 l = x at *
    have hq : ((n : Int) < 1 + (x : Int)) = True := eq_true (by omega)
    clear hlt
    go_enter Try.func58, Try.ntmps58
    go_wp2_with fail
    go_region
    go_wp2
    go_ret
    exact ⟨rfl, HR.out⟩
  · have hn : n = 0 := by omega
    subst hn
    clear X A h hs h5
    go_enter Try.func58, Try.ntmps58
    go_wp2_with fail
    go_region
    go_wp2
    go_ret
    exact ⟨rfl, HR.out⟩
set_option maxHeartbeats 400000 in
set_option maxRecDepth 100000 in
theorem rfNatF {w : World} {g b : Nat} {l : List Int} (h : RfA w g b 0 l) (hl : 1 ≤ l.length) (hs : 1 + cntOf 1 l ≤ l.length) (hz : 0 < cntOf 1 l ∧ nth (l.drop 1) 0 = 0) :
    Calls Try.prog 58 #[.pointer (some ⟨g, 0, none⟩)] w fun e w' => e = .returned (.slice none 0 0) ∧ RfA w' g b 41 l ∧ But g w w' := by
  obtain ⟨ao, n, c, X, A⟩ := h.ex
  obtain ⟨o, h1, h2, ⟨h3, -⟩, h4, h5⟩ := A.ex
  obtain ⟨c1, c2, c3, c4⟩ := X.two
  have HR := (show Hid _ from RfA.err 41 X A)
  have d2 := (box_put1 X.drew (.int .i64 41)).two.2.1
  have hc0 := h5.cell 0 (by omega)
  rw [Nat.add_zero] at hc0
  have hc1 := h5.cell 1 (by omega)
  rw [nth_drop1] at hz
  rw [hz.2] at hc1
  obtain rfl : ao = some ⟨b, o, none⟩ := by
    rcases h5.loc with e | e
    · rw [e] at hl; simp at hl
    · exact e
  have hn : 0 < n := by omega
  have hnz : (n == 0) = false := beq_eq_false_iff_ne.2 (by omega)
  have hnz2 : ((n : Int) == 0) = false := beq_eq_false_iff_ne.2 (by omega)
  have hnz3 : ((n : Int) = 0) = False := eq_false (by omega)
  have hnz4 : (n = 0) = False := eq_false (by omega)
  have hx : (cntOf 1 l : Int) = nth l 0 := by rw [cntOf_nn h4, bval_one hl]
  rw [← hx] at hc0
  have hxb : cntOf 1 l < 256 := by
    have := h4.nth 0
    omega
  have hz1 := hz.1
  rw [h1] at hs
  clear X A h h5 hx h4 hz hl
  generalize cntOf 1 l = x at *
  have hq : ((n : Int) < 1 + (x : Int)) = False := eq_false (by omega)
  have hn1 : (1 : Int) < n := by omega
  go_enter Try.func58, Try.ntmps58
  go_wp2_with fail
  go_region
  go_wp2
  go_ret
  exact ⟨rfl, HR.out⟩
set_option maxHeartbeats 400000 in
set_option maxRecDepth 100000 in
theorem rfNatY {w : World} {g b : Nat} {l : List Int} (h : RfA w g b 0 l) (hl : 1 ≤ l.length) (hs : 1 + cntOf 1 l ≤ l.length) (hz : ¬ (0 < cntOf 1 l ∧ nth (l.drop 1) 0 = 0)) :
    Calls Try.prog 58 #[.pointer (some ⟨g, 0, none⟩)] w fun e w' => ∃ a n c, e = .returned (.slice a n c) ∧ NatO w' a n c (bval ((l.drop 1).take (cntOf 1 l))) ∧ n ≤ 510 ∧ RfA w' g b 0 (l.drop (1 + cntOf 1 l)) ∧ But g w w' := by
  obtain ⟨ao, n, c, X, A⟩ := h.ex
  obtain ⟨o, h1, h2, ⟨h3, -⟩, h4, h5⟩ := A.ex
  obtain ⟨c1, c2, c3, c4⟩ := X.two
  have hc0 := h5.cell 0 (by omega)
  rw [Nat.add_zero] at hc0
  obtain rfl : ao = some ⟨b, o, none⟩ := by
    rcases h5.loc with e | e
    · rw [e] at hl; simp at hl
    · exact e
  have hn : 0 < n := by omega
  have hnz : (n == 0) = false := beq_eq_false_iff_ne.2 (by omega)
  have hnz2 : ((n : Int) == 0) = false := beq_eq_false_iff_ne.2 (by omega)
  have hnz3 : ((n : Int) = 0) = False := eq_false (by omega)
  have hnz4 : (n = 0) = False := eq_false (by omega)
  have hx : (cntOf 1 l : Int) = nth l 0 := by rw [cntOf_nn h4, bval_one hl]
  rw [← hx] at hc0
  have hxb : cntOf 1 l < 256 := by
    have := h4.nth 0
    omega
  have t := rfTake (h.keep (Below.refl w.heap.size w).drew) hs
  rw [show ((1 + cntOf 1 l : Nat) : Int) = 1 + (cntOf 1 l : Int) from by omega] at t
  have htk : (l.take (1 + cntOf 1 l)).drop 1 = (l.drop 1).take (cntOf 1 l) := by rw [Nat.add_comm, List.drop_take]; simp
  have hlb : ((l.drop 1).take (cntOf 1 l)).length = cntOf 1 l := by rw [List.length_take, List.length_drop]; omega
  have hob : Octets ((l.drop 1).take (cntOf 1 l)) := fun y hy => h4 y (List.mem_of_mem_drop (List.mem_of_mem_take hy))
  have hnb : 0 < cntOf 1 l → nth ((l.drop 1).take (cntOf 1 l)) 0 ≠ 0 := fun h0 h9 => hz ⟨h0, by rw [nth_take h0] at h9; exact h9⟩
  have hcell1 : 0 < cntOf 1 l → w.cell? ⟨b, o + 1, none⟩ = some (.int .u8 (nth l 1)) := fun _ => h5.cell 1 (by omega)
  have hne1 : 0 < cntOf 1 l → nth l 1 ≠ 0 := fun h0 h9 => hz ⟨h0, by rw [nth_drop1]; exact h9⟩
  rw [h1] at hs
  have HTK := (show Hid _ from htk)
  have HLB := (show Hid _ from hlb)
  have HOB := (show Hid _ from hob)
  have HNB := (show Hid _ from hnb)
  clear X A h h5 hx h4 hz htk hlb hob hnb
  generalize (l.drop 1).take (cntOf 1 l) = lb at *
  generalize l.drop (1 + cntOf 1 l) = rr at *
  generalize l.take (1 + cntOf 1 l) = ll at *
  generalize nth l 1 = y at *
  generalize cntOf 1 l = x at *
  have hq : ((n : Int) < 1 + (x : Int)) = False := eq_false (by omega)
  have hBD := (show Hid _ from (Below.refl w.heap.size w).drew)
  by_cases hz0 : x = 0
  · have hx0 : ((0 : Int) < (x : Int)) = False := eq_false (by omega)
    have hx1 : (0 < x) = False := eq_false (by omega)
    clear hcell1 hne1 hz0
    go_enter Try.func58, Try.ntmps58
    go_wp2_with fail
    go_region
    go_wp2_with fail
    refine t.mono ?_
    rintro e w1 ⟨ao, c9, rfl, A1, R1, b1⟩
    have hc9 : 1 + x ≤ c9 := by obtain ⟨_, _, h9, _⟩ := A1.ex; exact h9
    have A2 := A1.rest (k := 1) (by omega)
    rw [HTK.out, show 1 + x - 1 = x from by omega] at A2
    have hsl : ∀ W, (Instr.sliceAt 22 (.slice ao (1 + x) c9) (some (.int .i64 1)) none none).run Try.prog W = .ok (.slice (restAt ao c9 1) x (c9 - 1)) W := fun W => by
      have h9 := sliceB ao (1 + x) c9 1 W (by omega) hc9
      rw [show 1 + x - 1 = x from by omega] at h9
      exact h9
    obtain ⟨o2, k1, k2, k3, k4, k5⟩ := A2.ex
    have t2 := refFrom_yes (restAt ao c9 1) x (c9 - 1) b o2 lb w1 k1 (by omega) HOB.out k5 HNB.out
    have HR1 := (show Hid _ from R1)
    have HB1 := (show Hid _ from (But.of (g := g) hBD.out).trans b1)
    clear t A1 R1 b1 A2 k1 k2 k3 k4 k5
    go_wp2_with fail
    refine t2.mono ?_
    rintro e w2 ⟨v, r, rfl, N2, I2, hr2, b2⟩
    obtain ⟨a', c', rfl, hO⟩ := N2.o I2
    have HOO := (show Hid _ from hO)
    have HR2 := (show Hid _ from HR1.out.keep b2)
    have HB2 := (show Hid _ from HB1.out.trans (But.of b2))
    clear t2 N2 I2 hO b2
    go_wp2
    go_ret
    exact ⟨_, _, _, rfl, HOO.out, by omega, HR2.out, HB2.out⟩
  · have hx0 : (0 : Int) < (x : Int) := by omega
    have hx1 : 0 < x := by omega
    have hc1 := hcell1 hx1
    have hy : (y == 0) = false := beq_eq_false_iff_ne.2 (hne1 hx1)
    have hn1 : (1 : Int) < n := by omega
    clear hcell1 hne1 hz0
    go_enter Try.func58, Try.ntmps58
    go_wp2_with fail
    go_region
    go_wp2_with fail
    refine t.mono ?_
    rintro e w1 ⟨ao, c9, rfl, A1, R1, b1⟩
    have hc9 : 1 + x ≤ c9 := by obtain ⟨_, _, h9, _⟩ := A1.ex; exact h9
    have A2 := A1.rest (k := 1) (by omega)
    rw [HTK.out, show 1 + x - 1 = x from by omega] at A2
    have hsl : ∀ W, (Instr.sliceAt 22 (.slice ao (1 + x) c9) (some (.int .i64 1)) none none).run Try.prog W = .ok (.slice (restAt ao c9 1) x (c9 - 1)) W := fun W => by
      have h9 := sliceB ao (1 + x) c9 1 W (by omega) hc9
      rw [show 1 + x - 1 = x from by omega] at h9
      exact h9
    obtain ⟨o2, k1, k2, k3, k4, k5⟩ := A2.ex
    have t2 := refFrom_yes (restAt ao c9 1) x (c9 - 1) b o2 lb w1 k1 (by omega) HOB.out k5 HNB.out
    have HR1 := (show Hid _ from R1)
    have HB1 := (show Hid _ from (But.of (g := g) hBD.out).trans b1)
    clear t A1 R1 b1 A2 k1 k2 k3 k4 k5
    go_wp2_with fail
    refine t2.mono ?_
    rintro e w2 ⟨v, r, rfl, N2, I2, hr2, b2⟩
    obtain ⟨a', c', rfl, hO⟩ := N2.o I2
    have HOO := (show Hid _ from hO)
    have HR2 := (show Hid _ from HR1.out.keep b2)
    have HB2 := (show Hid _ from HB1.out.trans (But.of b2))
    clear t2 N2 I2 hO b2
    go_wp2
    go_ret
    exact ⟨_, _, _, rfl, HOO.out, by omega, HR2.out, HB2.out⟩
theorem rfNat {w : World} {g b : Nat} {err : Int} {l : List Int} (h : RfA w g b err l) :
    Calls Try.prog 58 #[.pointer (some ⟨g, 0, none⟩)] w fun e w' => ∃ a n c, e = .returned (.slice a n c) ∧ NatO w' a n c (rdV 0 (pNat l) err) ∧ n ≤ 510 ∧ RfA w' g b (rdE (pNat l) err) (rdL (pNat l) err l) ∧ But g w w' := by
  by_cases he : err = 0
  · subst he
    by_cases hl : 1 ≤ l.length ∧ 1 + cntOf 1 l ≤ l.length
    · by_cases hz : 0 < cntOf 1 l ∧ nth (l.drop 1) 0 = 0
      · have hp : pNat l = .inl 41 := by unfold pNat; rw [if_pos hl.1, if_pos hl.2, if_pos hz]
        rw [hp]
        refine (rfNatF h hl.1 hl.2 hz).mono ?_
        rintro e w' ⟨h1, h2, h3⟩
        exact ⟨none, 0, 0, h1, natO_nil _, by decide, h2, h3⟩
      · have hp : pNat l = .inr (bval ((l.drop 1).take (cntOf 1 l)), 1 + cntOf 1 l) := by unfold pNat; rw [if_pos hl.1, if_pos hl.2, if_neg hz]
        rw [hp]
        exact rfNatY h hl.1 hl.2 hz
    · have hp : pNat l = .inl 40 := by
        unfold pNat
        by_cases h1 : 1 ≤ l.length
        · rw [if_pos h1, if_neg (fun h2 => hl ⟨h1, h2⟩)]
        · rw [if_neg h1]
      rw [hp]
      refine (rfNatS h hl).mono ?_
      rintro e w' ⟨h1, h2, h3⟩
      exact ⟨none, 0, 0, h1, natO_nil _, by decide, h2, h3⟩
  · rw [rdV_bad he, rdE_bad he, rdL_bad he]
    refine (rfNatE h he).mono ?_
    rintro e w' ⟨h1, h2, h3⟩
    exact ⟨none, 0, 0, h1, natO_nil _, by decide, h2, h3⟩
end Go.Proofs.Ytapnhfppjefnfaa

namespace Go.Proofs.Ytapnhfppjefnfaa
open Go.RowKit Lim

theorem atB_srcS {w : World} {x : Addr} {b o : Nat} {l : List Int} (h : AtB w (some x) b o l) : ∀ j u, (l.map (Value.int .u8))[j]? = some u → w.cell? (x.add j) = some u := by
  intro j u hu
  rw [List.getElem?_map] at hu
  rcases Nat.lt_or_ge j l.length with hj | hj
  · rw [List.getElem?_eq_getElem hj] at hu
    simp at hu
    subst hu
    have hx : x = ⟨b, o, none⟩ := by
      rcases h.loc with e | e
      · subst e; simp at hj
      · simpa using e
    subst hx
    have := h.cell j hj
    rw [nth_eq hj] at this
    rw [addr_add]
    exact this
  · rw [List.getElem?_eq_none hj] at hu; simp at hu
theorem i64_or_nat (a b : Nat) (ha : a < 9223372036854775808) (hb : b < 9223372036854775808) : bits .or .i64 (a : Int) (b : Int) = ((a ||| b : Nat) : Int) := by
  have hx : a ||| b < 2 ^ 63 := Nat.or_lt_two_pow (by omega) (by omega)
  show IntKind.i64.wrap ((BitVec.ofInt 64 (a : Int) ||| BitVec.ofInt 64 (b : Int)).toNat : Int) = _
  rw [BitVec.toNat_or, ofInt_u64 a (by omega), ofInt_u64 b (by omega)]
  simp [IntKind.wrap, IntKind.bits, IntKind.signed]
  omega
theorem or_addi (a b : Int) (s : Nat) (k : Int) (ha : a = k * 2 ^ s) (hk : 0 ≤ k) (ha1 : a < 9223372036854775808) (hb0 : 0 ≤ b) (hb1 : b < 2 ^ s) (hb2 : b < 9223372036854775808) : bits .or .i64 a b = a + b := by
  have h2 : (0 : Int) < 2 ^ s := Int.pow_pos (by decide)
  have ha0 : 0 ≤ a := by rw [ha]; exact Int.mul_nonneg hk (Int.le_of_lt h2)
  obtain ⟨A, rfl⟩ := Int.eq_ofNat_of_zero_le ha0
  obtain ⟨k, rfl⟩ := Int.eq_ofNat_of_zero_le hk
  obtain ⟨b, rfl⟩ := Int.eq_ofNat_of_zero_le hb0
  rw [i64_or_nat A b (by omega) (by omega)]
  have e : A = 2 ^ s * k := by
    have : (A : Int) = ((2 ^ s * k : Nat) : Int) := by rw [ha, Int.natCast_mul, Int.natCast_pow, Int.mul_comm]; rfl
    omega
  have hb' : b < 2 ^ s := by
    have : ((2 ^ s : Nat) : Int) = 2 ^ s := by rw [Int.natCast_pow]; rfl
    omega
  rw [e, ← Nat.two_pow_add_eq_or_of_lt hb']
  omega
theorem bval_four {l : List Int} (h : 4 ≤ l.length) : bval (l.take 4) = nth l 0 * 16777216 + nth l 1 * 65536 + nth l 2 * 256 + nth l 3 := by
  match l, h with
  | a :: b :: c :: d :: r, _ =>
    simp [bval, nth]
    omega
theorem RfA.put {w : World} {g b G : Nat} {err : Int} {l : List Int} (h : RfA w g b err l) {v u : Value} {t : TypeId} (s : Slot w G v t) (hG : G ≠ g) (hv : ∀ x, v ≠ .int .u8 x) : RfA (w.setCell ⟨G, 0, none⟩ u) g b err l := by
  obtain ⟨ao, n, c, X, A⟩ := h.ex
  refine ⟨ao, n, c, ⟨?_⟩, A.box s.bx (fun v' hv' => by rw [List.mem_singleton] at hv'; subst hv'; exact hv) fun k hk => Below.heap_setCell _ _ _ k hk⟩
  rw [Below.heap_setCell _ _ _ g hG.symm]
  exact X.blk
set_option maxRecDepth 100000 in
theorem rfDec {w : World} {g b : Nat} {err : Int} {l : List Int} (h : RfA w g b err l) :
    Calls Try.prog 60 #[.pointer (some ⟨g, 0, none⟩)] w fun e w' => ∃ ao n c, e = .returned (.agg #[.slice ao n c]) ∧ NatO w' ao n c (rdV 0 (pNat l) err) ∧ n ≤ 510 ∧ RfA w' g b (rdE (pNat l) err) (rdL (pNat l) err l) ∧ But g w w' := by
  have HB := (show Hid _ from below_alloc w (.cells #[.slice none 0 0] 39))
  have S0 := slot_new w (.slice none 0 0) 39
  have hg : w.heap.size ≠ g := by have := h.lt; omega
  have HG := (show Hid _ from hg)
  have t := rfNat (h.keep HB.out)
  clear h hg
  generalize rdV 0 (pNat l) err = V at *
  generalize rdE (pNat l) err = E at *
  generalize rdL (pNat l) err l = R at *
  go_enter Try.func60, Try.ntmps60
  go_wp2_with fail
  refine t.mono ?_
  rintro e w1 ⟨ao, n, c, rfl, k3, k4, k1, k2⟩
  have S1 := S0.but k2 HG.out
  have c1 := S1.cell
  have f1 := S1.free
  have S2 := S1.put (.slice ao n c)
  have HO := (show Hid _ from k3.put S1 not_int (.slice ao n c))
  have HR := (show Hid _ from k1.put (u := .slice ao n c) S1 HG.out (fun x e => by cases e))
  have HW := (show Hid _ from ((But.of (g := g) HB.out).trans k2).put (Nat.le_refl _) (.slice ao n c))
  clear t S0 S1 k1 k2 k3 HB HG
  go_wp2
  refine bodyPost_ret (ret_dec rfl rfl S2) rfl ?_
  exact ⟨ao, n, c, rfl, HO.out, k4, HR.out, HW.out⟩
end Go.Proofs.Ytapnhfppjefnfaa

namespace Go.Proofs.Ytapnhfppjefnfaa
open Go.RowKit Lim

set_option maxRecDepth 100000 in
theorem rfRaw4 {w : World} {g b : Nat} {most : Int} {l : List Int} (h : RfA w g b 0 l) (hl : ¬ 4 ≤ l.length) :
    Calls Try.prog 61 #[.pointer (some ⟨g, 0, none⟩), .int .i64 most] w fun e w' => e = .returned (.slice none 0 0) ∧ RfA w' g b 40 l ∧ But g w w' := by
  obtain ⟨ao, n, c, X, A⟩ := h.ex
  obtain ⟨o, h1, h2, ⟨h3, -⟩, h4, h5⟩ := A.ex
  obtain ⟨c1, c2, c3, c4⟩ := X.two
  have H : But g w (w.setCell ⟨g, 1, none⟩ (.int .i64 40)) := but_set _ _ _ _
  have HR : Hid (RfA (w.setCell ⟨g, 1, none⟩ (.int .i64 40)) g b 40 l ∧ But g w (w.setCell ⟨g, 1, none⟩ (.int .i64 40))) := ⟨⟨_, _, _, box_put1 X _, A.but X (no_u8f _ _ _ _) H⟩, H⟩
  have hn4 : (n : Int) < 4 := by omega
  clear X A h h5 h4 H hl
  go_enter Try.func61, Try.ntmps61
  go_wp2
  go_ret
  exact ⟨rfl, HR.out⟩
set_option maxRecDepth 100000 in
theorem rfRawE {w : World} {g b : Nat} {most err : Int} {l : List Int} (h : RfA w g b err l) (he : err ≠ 0) :
    Calls Try.prog 61 #[.pointer (some ⟨g, 0, none⟩), .int .i64 most] w fun e w' => e = .returned (.slice none 0 0) ∧ RfA w' g b err l ∧ But g w w' := by
  obtain ⟨ao, n, c, X, A⟩ := h.ex
  obtain ⟨c1, c2, c3, c4⟩ := X.two
  have HH := (show Hid _ from h)
  have hb2 : (err != 0) = true := bne_iff_ne.2 he
  clear X A h he
  go_enter Try.func61, Try.ntmps61
  go_wp2
  go_ret
  exact ⟨rfl, HH.out, But.refl _ _⟩
theorem run_idxc {a : Act} {w : World} {op : Oper} {x i n c b o : Nat} (ho : op.op = .indexAddr 22 (.tmp x) (.const (.int .i64 (i : Int)))) (hx : a.eval (.tmp x) = .slice (some ⟨b, o, none⟩) n c) (hk : (i : Int) < n) : (execOp a.eval op).run Try.prog w = .ok (.value (.pointer (some ⟨b, o + i, none⟩))) w := by
  have hy : a.eval (.const (.int .i64 (i : Int))) = .int .i64 (i : Int) := rfl
  simp only [execOp, ho, hx, hy]
  go_simp
theorem ld_u8 {w : World} {g o : Nat} {x : Int} (hc : w.cell? ⟨g, o, none⟩ = some (.int .u8 x)) : (loadVar 5 ⟨g, o, none⟩).run Try.prog w = .ok (.int .u8 x) w := by go_simp
def shT : Op → TypeId
  | .binOp _ _ _ _ t => t
  | _ => 0
theorem wrap_in {v : Int} (h0 : 0 ≤ v) (h1 : v < 9223372036854775808) : IntKind.i64.wrap v = v := by
  simp [IntKind.wrap, IntKind.bits, IntKind.signed]
  omega
theorem run_cv {a : Act} {w : World} {op : Oper} {x : Nat} {v : Int} (ho : op.op = .convert 5 3 (.tmp x)) (hx : a.eval (.tmp x) = .int .u8 v) (h : 0 ≤ v ∧ v < 256) : (execOp a.eval op).run Try.prog w = .ok (.value (.int .i64 v)) w := by
  obtain ⟨h1, h2⟩ := h
  simp only [execOp, ho, hx]
  go_simp
  exact wrap_in h1 (by omega)
theorem run_shl24 {a : Act} {w : World} {op : Oper} {x : Nat} {v : Int} (ho : op.op = .binOp .shl 3 (.tmp x) (.const (.int .u64 24)) (shT op.op)) (hx : a.eval (.tmp x) = .int .i64 v) (h : 0 ≤ v ∧ v < 256) : (execOp a.eval op).run Try.prog w = .ok (.value (.int .i64 (v * 16777216))) w := by
  obtain ⟨h1, h2⟩ := h
  generalize shT op.op = t at ho
  have hy : a.eval (.const (.int .u64 24)) = .int .u64 24 := rfl
  simp only [execOp, ho, hx, hy]
  go_simp
  exact wrap_in (by omega) (by omega)
theorem run_shl16 {a : Act} {w : World} {op : Oper} {x : Nat} {v : Int} (ho : op.op = .binOp .shl 3 (.tmp x) (.const (.int .u64 16)) (shT op.op)) (hx : a.eval (.tmp x) = .int .i64 v) (h : 0 ≤ v ∧ v < 256) : (execOp a.eval op).run Try.prog w = .ok (.value (.int .i64 (v * 65536))) w := by
  obtain ⟨h1, h2⟩ := h
  generalize shT op.op = t at ho
  have hy : a.eval (.const (.int .u64 16)) = .int .u64 16 := rfl
  simp only [execOp, ho, hx, hy]
  go_simp
  exact wrap_in (by omega) (by omega)
theorem run_shl8 {a : Act} {w : World} {op : Oper} {x : Nat} {v : Int} (ho : op.op = .binOp .shl 3 (.tmp x) (.const (.int .u64 8)) (shT op.op)) (hx : a.eval (.tmp x) = .int .i64 v) (h : 0 ≤ v ∧ v < 256) : (execOp a.eval op).run Try.prog w = .ok (.value (.int .i64 (v * 256))) w := by
  obtain ⟨h1, h2⟩ := h
  generalize shT op.op = t at ho
  have hy : a.eval (.const (.int .u64 8)) = .int .u64 8 := rfl
  simp only [execOp, ho, hx, hy]
  go_simp
  exact wrap_in (by omega) (by omega)
set_option maxHeartbeats 4000000 in
set_option maxRecDepth 100000 in
theorem rfRawL {w : World} {g b : Nat} {most : Int} {l : List Int} (h : RfA w g b 0 l) (hl : 4 ≤ l.length) (hq : most < (cntOf 4 l : Int)) :
    Calls Try.prog 61 #[.pointer (some ⟨g, 0, none⟩), .int .i64 most] w fun e w' => e = .returned (.slice none 0 0) ∧ RfA w' g b 42 l ∧ But g w w' := by
  obtain ⟨ao, n, c, X, A⟩ := h.ex
  obtain ⟨o, h1, h2, ⟨h3, -⟩, h4, h5⟩ := A.ex
  obtain ⟨c1, c2, c3, c4⟩ := X.two
  have hc0 := h5.cell 0 (by omega)
  rw [Nat.add_zero] at hc0
  have hc1 := h5.cell 1 (by omega)
  have hc2 := h5.cell 2 (by omega)
  have hc3 := h5.cell 3 (by omega)
  obtain rfl : ao = some ⟨b, o, none⟩ := by
    rcases h5.loc with e | e
    · rw [e] at hl; simp at hl
    · exact e
  have b0 := h4.nth 0
  have b1 := h4.nth 1
  have b2 := h4.nth 2
  have b3 := h4.nth 3
  have hx : (cntOf 4 l : Int) = nth l 0 * 16777216 + nth l 1 * 65536 + nth l 2 * 256 + nth l 3 := by rw [cntOf_nn h4, bval_four hl]
  have o1 := or_addi (nth l 0 * 16777216) (nth l 1 * 65536) 24 (nth l 0) (by rw [show (2 : Int) ^ 24 = 16777216 by decide]) b0.1 (by omega) (by omega) (by rw [show (2 : Int) ^ 24 = 16777216 by decide]; omega) (by omega)
  have o2 := or_addi (nth l 0 * 16777216 + nth l 1 * 65536) (nth l 2 * 256) 16 (nth l 0 * 256 + nth l 1) (by rw [show (2 : Int) ^ 16 = 65536 by decide]; omega) (by omega) (by omega) (by omega) (by rw [show (2 : Int) ^ 16 = 65536 by decide]; omega) (by omega)
  have o3 := or_addi (nth l 0 * 16777216 + nth l 1 * 65536 + nth l 2 * 256) (nth l 3) 8 (nth l 0 * 65536 + nth l 1 * 256 + nth l 2) (by rw [show (2 : Int) ^ 8 = 256 by decide]; omega) (by omega) (by omega) (by omega) (by rw [show (2 : Int) ^ 8 = 256 by decide]; omega) (by omega)
  rw [← hx] at o3
  have hN : (cntOf 4 l : Int) < 4294967296 := by omega
  have hn4 : ((n : Int) < 4) = False := eq_false (by omega)
  have hn0 : ((0 : Nat) : Int) < n := by omega
  have hn1 : ((1 : Nat) : Int) < n := by omega
  have hn2 : ((2 : Nat) : Int) < n := by omega
  have hn3 : ((3 : Nat) : Int) < n := by omega
  have HLN := (show Hid _ from h1)
  obtain ⟨N, hNN⟩ : ∃ N, cntOf 4 l = N := ⟨_, rfl⟩
  rw [hNN] at o3 hN
  have HR := (show Hid _ from RfA.err 42 X A)
  rw [hNN] at hq
  clear X A h h5 h4 hNN
  clear hx hl h1
  generalize nth l 0 = x0 at *
  generalize nth l 1 = x1 at *
  generalize nth l 2 = x2 at *
  generalize nth l 3 = x3 at *
  go_enter Try.func61, Try.ntmps61
  go_wp2_with fail
  have hS : w.drew.cell? ⟨g, 0, none⟩ = some (.slice (some ⟨b, o, none⟩) n c) ∧ w.drew.cell? ⟨b, o, none⟩ = some (.int .u8 x0) ∧ w.drew.cell? ⟨b, o + 1, none⟩ = some (.int .u8 x1) ∧ w.drew.cell? ⟨b, o + 2, none⟩ = some (.int .u8 x2) ∧ w.drew.cell? ⟨b, o + 3, none⟩ = some (.int .u8 x3) := ⟨c1, hc0, hc1, hc2, hc3⟩
  refine rg_start (S := fun w' => w'.cell? ⟨g, 0, none⟩ = some (.slice (some ⟨b, o, none⟩) n c) ∧ w'.cell? ⟨b, o, none⟩ = some (.int .u8 x0) ∧ w'.cell? ⟨b, o + 1, none⟩ = some (.int .u8 x1) ∧ w'.cell? ⟨b, o + 2, none⟩ = some (.int .u8 x2) ∧ w'.cell? ⟨b, o + 3, none⟩ = some (.int .u8 x3)) (by kernel_rfl) hS ?_
  refine rg_take 0 (some 20) (.pointer (some ⟨g, 0, none⟩)) (by kernel_rfl) (fun _ _ => by kernel_rfl) (fun _ _ _ h => h) hS ?_
  refine rg_take 1 (some 21) (.pointer (some ⟨g, 0, none⟩)) (by kernel_rfl) (fun _ _ => by kernel_rfl) (fun _ _ _ h => h) hS ?_
  refine rg_take 2 (some 22) (.pointer (some ⟨g, 0, none⟩)) (by kernel_rfl) (fun _ _ => by kernel_rfl) (fun _ _ _ h => h) hS ?_
  refine rg_load 3 (some 23) (.slice (some ⟨b, o, none⟩) n c) 22 22 g 0 (by kernel_rfl) (by kernel_rfl) (by kernel_rfl) (fun _ h => ld_byt h.1) (fun _ _ _ h => h) hS ?_
  refine rg_take 4 (some 24) (.pointer (some ⟨b, o, none⟩)) (by kernel_rfl) (fun _ _ => run_idxc (x := 23) (i := 0) (n := n) (c := c) (by kernel_rfl) (by kernel_rfl) hn0) (fun _ _ _ h => h) hS ?_
  refine rg_load 5 (some 25) (.int .u8 x0) 5 24 b (o) (by kernel_rfl) (by kernel_rfl) (by kernel_rfl) (fun _ h => ld_u8 h.2.1) (fun _ _ _ h => h) hS ?_
  refine rg_take 6 (some 26) (.int .i64 x0) (by kernel_rfl) (fun _ _ => run_cv (x := 25) (by kernel_rfl) (by kernel_rfl) b0) (fun _ _ _ h => h) hS ?_
  refine rg_take 7 (some 27) (.int .i64 (x0 * 16777216)) (by kernel_rfl) (fun _ _ => run_shl24 (x := 26) (by kernel_rfl) (by kernel_rfl) b0) (fun _ _ _ h => h) hS ?_
  refine rg_take 8 (some 28) (.pointer (some ⟨g, 0, none⟩)) (by kernel_rfl) (fun _ _ => by kernel_rfl) (fun _ _ _ h => h) hS ?_
  refine rg_take 9 (some 29) (.pointer (some ⟨g, 0, none⟩)) (by kernel_rfl) (fun _ _ => by kernel_rfl) (fun _ _ _ h => h) hS ?_
  refine rg_take 10 (some 30) (.pointer (some ⟨g, 0, none⟩)) (by kernel_rfl) (fun _ _ => by kernel_rfl) (fun _ _ _ h => h) hS ?_
  refine rg_load 11 (some 31) (.slice (some ⟨b, o, none⟩) n c) 22 30 g 0 (by kernel_rfl) (by kernel_rfl) (by kernel_rfl) (fun _ h => ld_byt h.1) (fun _ _ _ h => h) hS ?_
  refine rg_take 12 (some 32) (.pointer (some ⟨b, o + 1, none⟩)) (by kernel_rfl) (fun _ _ => run_idxc (x := 31) (i := 1) (n := n) (c := c) (by kernel_rfl) (by kernel_rfl) hn1) (fun _ _ _ h => h) hS ?_
  refine rg_load 13 (some 33) (.int .u8 x1) 5 32 b (o + 1) (by kernel_rfl) (by kernel_rfl) (by kernel_rfl) (fun _ h => ld_u8 h.2.2.1) (fun _ _ _ h => h) hS ?_
  refine rg_take 14 (some 34) (.int .i64 x1) (by kernel_rfl) (fun _ _ => run_cv (x := 33) (by kernel_rfl) (by kernel_rfl) b1) (fun _ _ _ h => h) hS ?_
  refine rg_take 15 (some 35) (.int .i64 (x1 * 65536)) (by kernel_rfl) (fun _ _ => run_shl16 (x := 34) (by kernel_rfl) (by kernel_rfl) b1) (fun _ _ _ h => h) hS ?_
  refine rg_eq 16 (some 36) (.int .i64 (bits .or .i64 (x0 * 16777216) (x1 * 65536))) (.int .i64 (x0 * 16777216 + x1 * 65536)) (by rw [o1]) (by kernel_rfl) (fun _ _ => by kernel_rfl) (fun _ _ _ h => h) hS ?_
  refine rg_take 17 (some 37) (.pointer (some ⟨g, 0, none⟩)) (by kernel_rfl) (fun _ _ => by kernel_rfl) (fun _ _ _ h => h) hS ?_
  refine rg_take 18 (some 38) (.pointer (some ⟨g, 0, none⟩)) (by kernel_rfl) (fun _ _ => by kernel_rfl) (fun _ _ _ h => h) hS ?_
  refine rg_take 19 (some 39) (.pointer (some ⟨g, 0, none⟩)) (by kernel_rfl) (fun _ _ => by kernel_rfl) (fun _ _ _ h => h) hS ?_
  refine rg_load 20 (some 40) (.slice (some ⟨b, o, none⟩) n c) 22 39 g 0 (by kernel_rfl) (by kernel_rfl) (by kernel_rfl) (fun _ h => ld_byt h.1) (fun _ _ _ h => h) hS ?_
  refine rg_take 21 (some 41) (.pointer (some ⟨b, o + 2, none⟩)) (by kernel_rfl) (fun _ _ => run_idxc (x := 40) (i := 2) (n := n) (c := c) (by kernel_rfl) (by kernel_rfl) hn2) (fun _ _ _ h => h) hS ?_
  refine rg_load 22 (some 42) (.int .u8 x2) 5 41 b (o + 2) (by kernel_rfl) (by kernel_rfl) (by kernel_rfl) (fun _ h => ld_u8 h.2.2.2.1) (fun _ _ _ h => h) hS ?_
  refine rg_take 23 (some 43) (.int .i64 x2) (by kernel_rfl) (fun _ _ => run_cv (x := 42) (by kernel_rfl) (by kernel_rfl) b2) (fun _ _ _ h => h) hS ?_
  refine rg_take 24 (some 44) (.int .i64 (x2 * 256)) (by kernel_rfl) (fun _ _ => run_shl8 (x := 43) (by kernel_rfl) (by kernel_rfl) b2) (fun _ _ _ h => h) hS ?_
  refine rg_eq 25 (some 45) (.int .i64 (bits .or .i64 (x0 * 16777216 + x1 * 65536) (x2 * 256))) (.int .i64 (x0 * 16777216 + x1 * 65536 + x2 * 256)) (by rw [o2]) (by kernel_rfl) (fun _ _ => by kernel_rfl) (fun _ _ _ h => h) hS ?_
  refine rg_take 26 (some 46) (.pointer (some ⟨g, 0, none⟩)) (by kernel_rfl) (fun _ _ => by kernel_rfl) (fun _ _ _ h => h) hS ?_
  refine rg_take 27 (some 47) (.pointer (some ⟨g, 0, none⟩)) (by kernel_rfl) (fun _ _ => by kernel_rfl) (fun _ _ _ h => h) hS ?_
  refine rg_take 28 (some 48) (.pointer (some ⟨g, 0, none⟩)) (by kernel_rfl) (fun _ _ => by kernel_rfl) (fun _ _ _ h => h) hS ?_
  refine rg_load 29 (some 49) (.slice (some ⟨b, o, none⟩) n c) 22 48 g 0 (by kernel_rfl) (by kernel_rfl) (by kernel_rfl) (fun _ h => ld_byt h.1) (fun _ _ _ h => h) hS ?_
  refine rg_take 30 (some 50) (.pointer (some ⟨b, o + 3, none⟩)) (by kernel_rfl) (fun _ _ => run_idxc (x := 49) (i := 3) (n := n) (c := c) (by kernel_rfl) (by kernel_rfl) hn3) (fun _ _ _ h => h) hS ?_
  refine rg_load 31 (some 51) (.int .u8 x3) 5 50 b (o + 3) (by kernel_rfl) (by kernel_rfl) (by kernel_rfl) (fun _ h => ld_u8 h.2.2.2.2) (fun _ _ _ h => h) hS ?_
  refine rg_take 32 (some 52) (.int .i64 x3) (by kernel_rfl) (fun _ _ => run_cv (x := 51) (by kernel_rfl) (by kernel_rfl) b3) (fun _ _ _ h => h) hS ?_
  refine rg_eq 33 (some 53) (.int .i64 (bits .or .i64 (x0 * 16777216 + x1 * 65536 + x2 * 256) (x3))) (.int .i64 ((N : Int))) (by rw [o3]) (by kernel_rfl) (fun _ _ => by kernel_rfl) (fun _ _ _ h => h) hS ?_
  refine rg_take 34 (some 5) (.int .i64 (N : Int)) (by kernel_rfl) (fun _ _ => by kernel_rfl) (fun _ _ _ h => h) hS ?_
  refine rg_done (by kernel_rfl) ?_
  clear hS o1 o2 o3 b0 b1 b2 b3 hc0 hc1 hc2 hc3
  try simp only [Act.put, List.setIfInBounds_toArray, List.set_cons_zero, List.set_cons_succ]
  generalize x0 * 16777216 + x1 * 65536 + x2 * 256 = y3
  generalize x0 * 16777216 + x1 * 65536 = y2
  generalize x0 * 16777216 = y0
  generalize x1 * 65536 = y1
  generalize x2 * 256 = y4
  go_wp2
  go_ret
  exact ⟨rfl, HR.out⟩
set_option maxHeartbeats 4000000 in
set_option maxRecDepth 100000 in
theorem rfRawS {w : World} {g b : Nat} {most : Int} {l : List Int} (h : RfA w g b 0 l) (hl : 4 ≤ l.length) (hq : ¬ most < (cntOf 4 l : Int)) (hs : ¬ 4 + cntOf 4 l ≤ l.length) :
    Calls Try.prog 61 #[.pointer (some ⟨g, 0, none⟩), .int .i64 most] w fun e w' => e = .returned (.slice none 0 0) ∧ RfA w' g b 40 l ∧ But g w w' := by
  obtain ⟨ao, n, c, X, A⟩ := h.ex
  obtain ⟨o, h1, h2, ⟨h3, -⟩, h4, h5⟩ := A.ex
  obtain ⟨c1, c2, c3, c4⟩ := X.two
  have hc0 := h5.cell 0 (by omega)
  rw [Nat.add_zero] at hc0
  have hc1 := h5.cell 1 (by omega)
  have hc2 := h5.cell 2 (by omega)
  have hc3 := h5.cell 3 (by omega)
  obtain rfl : ao = some ⟨b, o, none⟩ := by
    rcases h5.loc with e | e
    · rw [e] at hl; simp at hl
    · exact e
  have b0 := h4.nth 0
  have b1 := h4.nth 1
  have b2 := h4.nth 2
  have b3 := h4.nth 3
  have hx : (cntOf 4 l : Int) = nth l 0 * 16777216 + nth l 1 * 65536 + nth l 2 * 256 + nth l 3 := by rw [cntOf_nn h4, bval_four hl]
  have o1 := or_addi (nth l 0 * 16777216) (nth l 1 * 65536) 24 (nth l 0) (by rw [show (2 : Int) ^ 24 = 16777216 by decide]) b0.1 (by omega) (by omega) (by rw [show (2 : Int) ^ 24 = 16777216 by decide]; omega) (by omega)
  have o2 := or_addi (nth l 0 * 16777216 + nth l 1 * 65536) (nth l 2 * 256) 16 (nth l 0 * 256 + nth l 1) (by rw [show (2 : Int) ^ 16 = 65536 by decide]; omega) (by omega) (by omega) (by omega) (by rw [show (2 : Int) ^ 16 = 65536 by decide]; omega) (by omega)
  have o3 := or_addi (nth l 0 * 16777216 + nth l 1 * 65536 + nth l 2 * 256) (nth l 3) 8 (nth l 0 * 65536 + nth l 1 * 256 + nth l 2) (by rw [show (2 : Int) ^ 8 = 256 by decide]; omega) (by omega) (by omega) (by omega) (by rw [show (2 : Int) ^ 8 = 256 by decide]; omega) (by omega)
  rw [← hx] at o3
  have hN : (cntOf 4 l : Int) < 4294967296 := by omega
  have hn4 : ((n : Int) < 4) = False := eq_false (by omega)
  have hn0 : ((0 : Nat) : Int) < n := by omega
  have hn1 : ((1 : Nat) : Int) < n := by omega
  have hn2 : ((2 : Nat) : Int) < n := by omega
  have hn3 : ((3 : Nat) : Int) < n := by omega
  have HLN := (show Hid _ from h1)
  obtain ⟨N, hNN⟩ : ∃ N, cntOf 4 l = N := ⟨_, rfl⟩
  rw [hNN] at o3 hN
  have HR := (show Hid _ from RfA.err 40 X A)
  rw [hNN] at hq hs
  have hs2 : (n : Int) < 4 + (N : Int) := by omega
  have hq2 : (most < (N : Int)) = False := eq_false hq
  clear X A h h5 h4 hNN hs hq
  clear hx hl h1
  generalize nth l 0 = x0 at *
  generalize nth l 1 = x1 at *
  generalize nth l 2 = x2 at *
  generalize nth l 3 = x3 at *
  go_enter Try.func61, Try.ntmps61
  go_wp2_with fail
  have hS : w.drew.cell? ⟨g, 0, none⟩ = some (.slice (some ⟨b, o, none⟩) n c) ∧ w.drew.cell? ⟨b, o, none⟩ = some (.int .u8 x0) ∧ w.drew.cell? ⟨b, o + 1, none⟩ = some (.int .u8 x1) ∧ w.drew.cell? ⟨b, o + 2, none⟩ = some (.int .u8 x2) ∧ w.drew.cell? ⟨b, o + 3, none⟩ = some (.int .u8 x3) := ⟨c1, hc0, hc1, hc2, hc3⟩
  refine rg_start (S := fun w' => w'.cell? ⟨g, 0, none⟩ = some (.slice (some ⟨b, o, none⟩) n c) ∧ w'.cell? ⟨b, o, none⟩ = some (.int .u8 x0) ∧ w'.cell? ⟨b, o + 1, none⟩ = some (.int .u8 x1) ∧ w'.cell? ⟨b, o + 2, none⟩ = some (.int .u8 x2) ∧ w'.cell? ⟨b, o + 3, none⟩ = some (.int .u8 x3)) (by kernel_rfl) hS ?_
  refine rg_take 0 (some 20) (.pointer (some ⟨g, 0, none⟩)) (by kernel_rfl) (fun _ _ => by kernel_rfl) (fun _ _ _ h => h) hS ?_
  refine rg_take 1 (some 21) (.pointer (some ⟨g, 0, none⟩)) (by kernel_rfl) (fun _ _ => by kernel_rfl) (fun _ _ _ h => h) hS ?_
  refine rg_take 2 (some 22) (.pointer (some ⟨g, 0, none⟩)) (by kernel_rfl) (fun _ _ => by kernel_rfl) (fun _ _ _ h => h) hS ?_
  refine rg_load 3 (some 23) (.slice (some ⟨b, o, none⟩) n c) 22 22 g 0 (by kernel_rfl) (by kernel_rfl) (by kernel_rfl) (fun _ h => ld_byt h.1) (fun _ _ _ h => h) hS ?_
  refine rg_take 4 (some 24) (.pointer (some ⟨b, o, none⟩)) (by kernel_rfl) (fun _ _ => run_idxc (x := 23) (i := 0) (n := n) (c := c) (by kernel_rfl) (by kernel_rfl) hn0) (fun _ _ _ h => h) hS ?_
  refine rg_load 5 (some 25) (.int .u8 x0) 5 24 b (o) (by kernel_rfl) (by kernel_rfl) (by kernel_rfl) (fun _ h => ld_u8 h.2.1) (fun _ _ _ h => h) hS ?_
  refine rg_take 6 (some 26) (.int .i64 x0) (by kernel_rfl) (fun _ _ => run_cv (x := 25) (by kernel_rfl) (by kernel_rfl) b0) (fun _ _ _ h => h) hS ?_
  refine rg_take 7 (some 27) (.int .i64 (x0 * 16777216)) (by kernel_rfl) (fun _ _ => run_shl24 (x := 26) (by kernel_rfl) (by kernel_rfl) b0) (fun _ _ _ h => h) hS ?_
  refine rg_take 8 (some 28) (.pointer (some ⟨g, 0, none⟩)) (by kernel_rfl) (fun _ _ => by kernel_rfl) (fun _ _ _ h => h) hS ?_
  refine rg_take 9 (some 29) (.pointer (some ⟨g, 0, none⟩)) (by kernel_rfl) (fun _ _ => by kernel_rfl) (fun _ _ _ h => h) hS ?_
  refine rg_take 10 (some 30) (.pointer (some ⟨g, 0, none⟩)) (by kernel_rfl) (fun _ _ => by kernel_rfl) (fun _ _ _ h => h) hS ?_
  refine rg_load 11 (some 31) (.slice (some ⟨b, o, none⟩) n c) 22 30 g 0 (by kernel_rfl) (by kernel_rfl) (by kernel_rfl) (fun _ h => ld_byt h.1) (fun _ _ _ h => h) hS ?_
  refine rg_take 12 (some 32) (.pointer (some ⟨b, o + 1, none⟩)) (by kernel_rfl) (fun _ _ => run_idxc (x := 31) (i := 1) (n := n) (c := c) (by kernel_rfl) (by kernel_rfl) hn1) (fun _ _ _ h => h) hS ?_
  refine rg_load 13 (some 33) (.int .u8 x1) 5 32 b (o + 1) (by kernel_rfl) (by kernel_rfl) (by kernel_rfl) (fun _ h => ld_u8 h.2.2.1) (fun _ _ _ h => h) hS ?_
  refine rg_take 14 (some 34) (.int .i64 x1) (by kernel_rfl) (fun _ _ => run_cv (x := 33) (by kernel_rfl) (by kernel_rfl) b1) (fun _ _ _ h => h) hS ?_
  refine rg_take 15 (some 35) (.int .i64 (x1 * 65536)) (by kernel_rfl) (fun _ _ => run_shl16 (x := 34) (by kernel_rfl) (by kernel_rfl) b1) (fun _ _ _ h => h) hS ?_
  refine rg_eq 16 (some 36) (.int .i64 (bits .or .i64 (x0 * 16777216) (x1 * 65536))) (.int .i64 (x0 * 16777216 + x1 * 65536)) (by rw [o1]) (by kernel_rfl) (fun _ _ => by kernel_rfl) (fun _ _ _ h => h) hS ?_
  refine rg_take 17 (some 37) (.pointer (some ⟨g, 0, none⟩)) (by kernel_rfl) (fun _ _ => by kernel_rfl) (fun _ _ _ h => h) hS ?_
  refine rg_take 18 (some 38) (.pointer (some ⟨g, 0, none⟩)) (by kernel_rfl) (fun _ _ => by kernel_rfl) (fun _ _ _ h => h) hS ?_
  refine rg_take 19 (some 39) (.pointer (some ⟨g, 0, none⟩)) (by kernel_rfl) (fun _ _ => by kernel_rfl) (fun _ _ _ h => h) hS ?_
  refine rg_load 20 (some 40) (.slice (some ⟨b, o, none⟩) n c) 22 39 g 0 (by kernel_rfl) (by kernel_rfl) (by kernel_rfl) (fun _ h => ld_byt h.1) (fun _ _ _ h => h) hS ?_
  refine rg_take 21 (some 41) (.pointer (some ⟨b, o + 2, none⟩)) (by kernel_rfl) (fun _ _ => run_idxc (x := 40) (i := 2) (n := n) (c := c) (by kernel_rfl) (by kernel_rfl) hn2) (fun _ _ _ h => h) hS ?_
  refine rg_load 22 (some 42) (.int .u8 x2) 5 41 b (o + 2) (by kernel_rfl) (by kernel_rfl) (by kernel_rfl) (fun _ h => ld_u8 h.2.2.2.1) (fun _ _ _ h => h) hS ?_
  refine rg_take 23 (some 43) (.int .i64 x2) (by kernel_rfl) (fun _ _ => run_cv (x := 42) (by kernel_rfl) (by kernel_rfl) b2) (fun _ _ _ h => h) hS ?_
  refine rg_take 24 (some 44) (.int .i64 (x2 * 256)) (by kernel_rfl) (fun _ _ => run_shl8 (x := 43) (by kernel_rfl) (by kernel_rfl) b2) (fun _ _ _ h => h) hS ?_
  refine rg_eq 25 (some 45) (.int .i64 (bits .or .i64 (x0 * 16777216 + x1 * 65536) (x2 * 256))) (.int .i64 (x0 * 16777216 + x1 * 65536 + x2 * 256)) (by rw [o2]) (by kernel_rfl) (fun _ _ => by kernel_rfl) (fun _ _ _ h => h) hS ?_
  refine rg_take 26 (some 46) (.pointer (some ⟨g, 0, none⟩)) (by kernel_rfl) (fun _ _ => by kernel_rfl) (fun _ _ _ h => h) hS ?_
  refine rg_take 27 (some 47) (.pointer (some ⟨g, 0, none⟩)) (by kernel_rfl) (fun _ _ => by kernel_rfl) (fun _ _ _ h => h) hS ?_
  refine rg_take 28 (some 48) (.pointer (some ⟨g, 0, none⟩)) (by kernel_rfl) (fun _ _ => by kernel_rfl) (fun _ _ _ h => h) hS ?_
  refine rg_load 29 (some 49) (.slice (some ⟨b, o, none⟩) n c) 22 48 g 0 (by kernel_rfl) (by kernel_rfl) (by kernel_rfl) (fun _ h => ld_byt h.1) (fun _ _ _ h => h) hS ?_
  refine rg_take 30 (some 50) (.pointer (some ⟨b, o + 3, none⟩)) (by kernel_rfl) (fun _ _ => run_idxc (x := 49) (i := 3) (n := n) (c := c) (by kernel_rfl) (by kernel_rfl) hn3) (fun _ _ _ h => h) hS ?_
  refine rg_load 31 (some 51) (.int .u8 x3) 5 50 b (o + 3) (by kernel_rfl) (by kernel_rfl) (by kernel_rfl) (fun _ h => ld_u8 h.2.2.2.2) (fun _ _ _ h => h) hS ?_
  refine rg_take 32 (some 52) (.int .i64 x3) (by kernel_rfl) (fun _ _ => run_cv (x := 51) (by kernel_rfl) (by kernel_rfl) b3) (fun _ _ _ h => h) hS ?_
  refine rg_eq 33 (some 53) (.int .i64 (bits .or .i64 (x0 * 16777216 + x1 * 65536 + x2 * 256) (x3))) (.int .i64 ((N : Int))) (by rw [o3]) (by kernel_rfl) (fun _ _ => by kernel_rfl) (fun _ _ _ h => h) hS ?_
  refine rg_take 34 (some 5) (.int .i64 (N : Int)) (by kernel_rfl) (fun _ _ => by kernel_rfl) (fun _ _ _ h => h) hS ?_
  refine rg_done (by kernel_rfl) ?_
  clear hS o1 o2 o3 b0 b1 b2 b3 hc0 hc1 hc2 hc3
  try simp only [Act.put, List.setIfInBounds_toArray, List.set_cons_zero, List.set_cons_succ]
  generalize x0 * 16777216 + x1 * 65536 + x2 * 256 = y3
  generalize x0 * 16777216 + x1 * 65536 = y2
  generalize x0 * 16777216 = y0
  generalize x1 * 65536 = y1
  generalize x2 * 256 = y4
  go_wp2
  go_ret
  exact ⟨rfl, HR.out⟩
set_option maxHeartbeats 4000000 in
set_option maxRecDepth 100000 in
theorem rfRawY {w : World} {g b : Nat} {most : Int} {l : List Int} (h : RfA w g b 0 l) (hl : 4 ≤ l.length) (hq : ¬ most < (cntOf 4 l : Int)) (hs : 4 + cntOf 4 l ≤ l.length) :
    Calls Try.prog 61 #[.pointer (some ⟨g, 0, none⟩), .int .i64 most] w fun e w' => ∃ v, e = .returned v ∧ MineB w' w.heap.size v ((l.drop 4).take (cntOf 4 l)) ∧ RfA w' g b 0 (l.drop (4 + cntOf 4 l)) ∧ But g w w' := by
  obtain ⟨i0, hi, hz0, hz1, hz2⟩ := info_parts info_u8
  have HI : Hid (Try.prog.info? 5 = some i0 ∧ i0.zero = some (.int .u8 0) ∧ i0.size = 1 ∧ i0.bytes = 1) := ⟨hi, hz0, hz1, hz2⟩
  clear hi hz0 hz1 hz2
  obtain ⟨ao, n, c, X, A⟩ := h.ex
  obtain ⟨o, h1, h2, ⟨h3, -⟩, h4, h5⟩ := A.ex
  obtain ⟨c1, c2, c3, c4⟩ := X.two
  have hc0 := h5.cell 0 (by omega)
  rw [Nat.add_zero] at hc0
  have hc1 := h5.cell 1 (by omega)
  have hc2 := h5.cell 2 (by omega)
  have hc3 := h5.cell 3 (by omega)
  obtain rfl : ao = some ⟨b, o, none⟩ := by
    rcases h5.loc with e | e
    · rw [e] at hl; simp at hl
    · exact e
  have b0 := h4.nth 0
  have b1 := h4.nth 1
  have b2 := h4.nth 2
  have b3 := h4.nth 3
  have hx : (cntOf 4 l : Int) = nth l 0 * 16777216 + nth l 1 * 65536 + nth l 2 * 256 + nth l 3 := by rw [cntOf_nn h4, bval_four hl]
  have o1 := or_addi (nth l 0 * 16777216) (nth l 1 * 65536) 24 (nth l 0) (by rw [show (2 : Int) ^ 24 = 16777216 by decide]) b0.1 (by omega) (by omega) (by rw [show (2 : Int) ^ 24 = 16777216 by decide]; omega) (by omega)
  have o2 := or_addi (nth l 0 * 16777216 + nth l 1 * 65536) (nth l 2 * 256) 16 (nth l 0 * 256 + nth l 1) (by rw [show (2 : Int) ^ 16 = 65536 by decide]; omega) (by omega) (by omega) (by omega) (by rw [show (2 : Int) ^ 16 = 65536 by decide]; omega) (by omega)
  have o3 := or_addi (nth l 0 * 16777216 + nth l 1 * 65536 + nth l 2 * 256) (nth l 3) 8 (nth l 0 * 65536 + nth l 1 * 256 + nth l 2) (by rw [show (2 : Int) ^ 8 = 256 by decide]; omega) (by omega) (by omega) (by omega) (by rw [show (2 : Int) ^ 8 = 256 by decide]; omega) (by omega)
  rw [← hx] at o3
  have hN : (cntOf 4 l : Int) < 4294967296 := by omega
  have hn4 : ((n : Int) < 4) = False := eq_false (by omega)
  have hn0 : ((0 : Nat) : Int) < n := by omega
  have hn1 : ((1 : Nat) : Int) < n := by omega
  have hn2 : ((2 : Nat) : Int) < n := by omega
  have hn3 : ((3 : Nat) : Int) < n := by omega
  have HLN := (show Hid _ from h1)
  obtain ⟨N, hNN⟩ : ∃ N, cntOf 4 l = N := ⟨_, rfl⟩
  rw [hNN] at o3 hN
  rw [hNN] at hq hs ⊢
  have hBD := (show Hid _ from (Below.refl w.heap.size w).drew)
  have HH := (show Hid _ from h.keep hBD.out)
  have hs2 : ((n : Int) < 4 + (N : Int)) = False := eq_false (by omega)
  have hq2 : (most < (N : Int)) = False := eq_false hq
  have t := rfTake HH.out hs
  rw [show ((4 + N : Nat) : Int) = 4 + (N : Int) from by omega] at t
  have htk : (l.take (4 + N)).drop 4 = (l.drop 4).take N := by rw [Nat.add_comm, List.drop_take]; simp
  have hlb : ((l.drop 4).take N).length = N := by have := HLN.out; rw [List.length_take, List.length_drop]; omega
  have HTK := (show Hid _ from htk)
  have HLB := (show Hid _ from hlb)
  clear X A h h5 h4 hNN hs hq htk hlb HH
  generalize (l.drop 4).take N = lb at *
  generalize l.drop (4 + N) = rr at *
  generalize l.take (4 + N) = ll at *
  clear hx hl h1
  generalize nth l 0 = x0 at *
  generalize nth l 1 = x1 at *
  generalize nth l 2 = x2 at *
  generalize nth l 3 = x3 at *
  go_enter Try.func61, Try.ntmps61
  go_wp2_with fail
  have hS : w.drew.cell? ⟨g, 0, none⟩ = some (.slice (some ⟨b, o, none⟩) n c) ∧ w.drew.cell? ⟨b, o, none⟩ = some (.int .u8 x0) ∧ w.drew.cell? ⟨b, o + 1, none⟩ = some (.int .u8 x1) ∧ w.drew.cell? ⟨b, o + 2, none⟩ = some (.int .u8 x2) ∧ w.drew.cell? ⟨b, o + 3, none⟩ = some (.int .u8 x3) := ⟨c1, hc0, hc1, hc2, hc3⟩
  refine rg_start (S := fun w' => w'.cell? ⟨g, 0, none⟩ = some (.slice (some ⟨b, o, none⟩) n c) ∧ w'.cell? ⟨b, o, none⟩ = some (.int .u8 x0) ∧ w'.cell? ⟨b, o + 1, none⟩ = some (.int .u8 x1) ∧ w'.cell? ⟨b, o + 2, none⟩ = some (.int .u8 x2) ∧ w'.cell? ⟨b, o + 3, none⟩ = some (.int .u8 x3)) (by kernel_rfl) hS ?_
  refine rg_take 0 (some 20) (.pointer (some ⟨g, 0, none⟩)) (by kernel_rfl) (fun _ _ => by kernel_rfl) (fun _ _ _ h => h) hS ?_
  refine rg_take 1 (some 21) (.pointer (some ⟨g, 0, none⟩)) (by kernel_rfl) (fun _ _ => by kernel_rfl) (fun _ _ _ h => h) hS ?_
  refine rg_take 2 (some 22) (.pointer (some ⟨g, 0, none⟩)) (by kernel_rfl) (fun _ _ => by kernel_rfl) (fun _ _ _ h => h) hS ?_
  refine rg_load 3 (some 23) (.slice (some ⟨b, o, none⟩) n c) 22 22 g 0 (by kernel_rfl) (by kernel_rfl) (by kernel_rfl) (fun _ h => ld_byt h.1) (fun _ _ _ h => h) hS ?_
  refine rg_take 4 (some 24) (.pointer (some ⟨b, o, none⟩)) (by kernel_rfl) (fun _ _ => run_idxc (x := 23) (i := 0) (n := n) (c := c) (by kernel_rfl) (by kernel_rfl) hn0) (fun _ _ _ h => h) hS ?_
  refine rg_load 5 (some 25) (.int .u8 x0) 5 24 b (o) (by kernel_rfl) (by kernel_rfl) (by kernel_rfl) (fun _ h => ld_u8 h.2.1) (fun _ _ _ h => h) hS ?_
  refine rg_take 6 (some 26) (.int .i64 x0) (by kernel_rfl) (fun _ _ => run_cv (x := 25) (by kernel_rfl) (by kernel_rfl) b0) (fun _ _ _ h => h) hS ?_
  refine rg_take 7 (some 27) (.int .i64 (x0 * 16777216)) (by kernel_rfl) (fun _ _ => run_shl24 (x := 26) (by kernel_rfl) (by kernel_rfl) b0) (fun _ _ _ h => h) hS ?_
  refine rg_take 8 (some 28) (.pointer (some ⟨g, 0, none⟩)) (by kernel_rfl) (fun _ _ => by kernel_rfl) (fun _ _ _ h => h) hS ?_
  refine rg_take 9 (some 29) (.pointer (some ⟨g, 0, none⟩)) (by kernel_rfl) (fun _ _ => by kernel_rfl) (fun _ _ _ h => h) hS ?_
  refine rg_take 10 (some 30) (.pointer (some ⟨g, 0, none⟩)) (by kernel_rfl) (fun _ _ => by kernel_rfl) (fun _ _ _ h => h) hS ?_
  refine rg_load 11 (some 31) (.slice (some ⟨b, o, none⟩) n c) 22 30 g 0 (by kernel_rfl) (by kernel_rfl) (by kernel_rfl) (fun _ h => ld_byt h.1) (fun _ _ _ h => h) hS ?_
  refine rg_take 12 (some 32) (.pointer (some ⟨b, o + 1, none⟩)) (by kernel_rfl) (fun _ _ => run_idxc (x := 31) (i := 1) (n := n) (c := c) (by kernel_rfl) (by kernel_rfl) hn1) (fun _ _ _ h => h) hS ?_
  refine rg_load 13 (some 33) (.int .u8 x1) 5 32 b (o + 1) (by kernel_rfl) (by kernel_rfl) (by kernel_rfl) (fun _ h => ld_u8 h.2.2.1) (fun _ _ _ h => h) hS ?_
  refine rg_take 14 (some 34) (.int .i64 x1) (by kernel_rfl) (fun _ _ => run_cv (x := 33) (by kernel_rfl) (by kernel_rfl) b1) (fun _ _ _ h => h) hS ?_
  refine rg_take 15 (some 35) (.int .i64 (x1 * 65536)) (by kernel_rfl) (fun _ _ => run_shl16 (x := 34) (by kernel_rfl) (by kernel_rfl) b1) (fun _ _ _ h => h) hS ?_
  refine rg_eq 16 (some 36) (.int .i64 (bits .or .i64 (x0 * 16777216) (x1 * 65536))) (.int .i64 (x0 * 16777216 + x1 * 65536)) (by rw [o1]) (by kernel_rfl) (fun _ _ => by kernel_rfl) (fun _ _ _ h => h) hS ?_
  refine rg_take 17 (some 37) (.pointer (some ⟨g, 0, none⟩)) (by kernel_rfl) (fun _ _ => by kernel_rfl) (fun _ _ _ h => h) hS ?_
  refine rg_take 18 (some 38) (.pointer (some ⟨g, 0, none⟩)) (by kernel_rfl) (fun _ _ => by kernel_rfl) (fun _ _ _ h => h) hS ?_
  refine rg_take 19 (some 39) (.pointer (some ⟨g, 0, none⟩)) (by kernel_rfl) (fun _ _ => by kernel_rfl) (fun _ _ _ h => h) hS ?_
  refine rg_load 20 (some 40) (.slice (some ⟨b, o, none⟩) n c) 22 39 g 0 (by kernel_rfl) (by kernel_rfl) (by kernel_rfl) (fun _ h => ld_byt h.1) (fun _ _ _ h => h) hS ?_
  refine rg_take 21 (some 41) (.pointer (some ⟨b, o + 2, none⟩)) (by kernel_rfl) (fun _ _ => run_idxc (x := 40) (i := 2) (n := n) (c := c) (by kernel_rfl) (by kernel_rfl) hn2) (fun _ _ _ h => h) hS ?_
  refine rg_load 22 (some 42) (.int .u8 x2) 5 41 b (o + 2) (by kernel_rfl) (by kernel_rfl) (by kernel_rfl) (fun _ h => ld_u8 h.2.2.2.1) (fun _ _ _ h => h) hS ?_
  refine rg_take 23 (some 43) (.int .i64 x2) (by kernel_rfl) (fun _ _ => run_cv (x := 42) (by kernel_rfl) (by kernel_rfl) b2) (fun _ _ _ h => h) hS ?_
  refine rg_take 24 (some 44) (.int .i64 (x2 * 256)) (by kernel_rfl) (fun _ _ => run_shl8 (x := 43) (by kernel_rfl) (by kernel_rfl) b2) (fun _ _ _ h => h) hS ?_
  refine rg_eq 25 (some 45) (.int .i64 (bits .or .i64 (x0 * 16777216 + x1 * 65536) (x2 * 256))) (.int .i64 (x0 * 16777216 + x1 * 65536 + x2 * 256)) (by rw [o2]) (by kernel_rfl) (fun _ _ => by kernel_rfl) (fun _ _ _ h => h) hS ?_
  refine rg_take 26 (some 46) (.pointer (some ⟨g, 0, none⟩)) (by kernel_rfl) (fun _ _ => by kernel_rfl) (fun _ _ _ h => h) hS ?_
  refine rg_take 27 (some 47) (.pointer (some ⟨g, 0, none⟩)) (by kernel_rfl) (fun _ _ => by kernel_rfl) (fun _ _ _ h => h) hS ?_
  refine rg_take 28 (some 48) (.pointer (some ⟨g, 0, none⟩)) (by kernel_rfl) (fun _ _ => by kernel_rfl) (fun _ _ _ h => h) hS ?_
  refine rg_load 29 (some 49) (.slice (some ⟨b, o, none⟩) n c) 22 48 g 0 (by kernel_rfl) (by kernel_rfl) (by kernel_rfl) (fun _ h => ld_byt h.1) (fun _ _ _ h => h) hS ?_
  refine rg_take 30 (some 50) (.pointer (some ⟨b, o + 3, none⟩)) (by kernel_rfl) (fun _ _ => run_idxc (x := 49) (i := 3) (n := n) (c := c) (by kernel_rfl) (by kernel_rfl) hn3) (fun _ _ _ h => h) hS ?_
  refine rg_load 31 (some 51) (.int .u8 x3) 5 50 b (o + 3) (by kernel_rfl) (by kernel_rfl) (by kernel_rfl) (fun _ h => ld_u8 h.2.2.2.2) (fun _ _ _ h => h) hS ?_
  refine rg_take 32 (some 52) (.int .i64 x3) (by kernel_rfl) (fun _ _ => run_cv (x := 51) (by kernel_rfl) (by kernel_rfl) b3) (fun _ _ _ h => h) hS ?_
  refine rg_eq 33 (some 53) (.int .i64 (bits .or .i64 (x0 * 16777216 + x1 * 65536 + x2 * 256) (x3))) (.int .i64 ((N : Int))) (by rw [o3]) (by kernel_rfl) (fun _ _ => by kernel_rfl) (fun _ _ _ h => h) hS ?_
  refine rg_take 34 (some 5) (.int .i64 (N : Int)) (by kernel_rfl) (fun _ _ => by kernel_rfl) (fun _ _ _ h => h) hS ?_
  refine rg_done (by kernel_rfl) ?_
  clear hS o1 o2 o3 b0 b1 b2 b3 hc0 hc1 hc2 hc3
  try simp only [Act.put, List.setIfInBounds_toArray, List.set_cons_zero, List.set_cons_succ]
  generalize x0 * 16777216 + x1 * 65536 + x2 * 256 = y3
  generalize x0 * 16777216 + x1 * 65536 = y2
  generalize x0 * 16777216 = y0
  generalize x1 * 65536 = y1
  generalize x2 * 256 = y4
  go_wp2_with fail
  refine t.mono ?_
  rintro e w1 ⟨ao, c9, rfl, A1, R1, b1⟩
  have hc9 : 4 + N ≤ c9 := by obtain ⟨_, _, h9, _⟩ := A1.ex; exact h9
  have A2 := A1.rest (k := 4) (by omega)
  rw [HTK.out, show 4 + N - 4 = N from by omega] at A2
  have hsl : ∀ W, (Instr.sliceAt 22 (.slice ao (4 + N) c9) (some (.int .i64 4)) none none).run Try.prog W = .ok (.slice (restAt ao c9 4) N (c9 - 4)) W := fun W => by
    have h9 := sliceB ao (4 + N) c9 4 W (by omega) hc9
    rw [show 4 + N - 4 = N from by omega] at h9
    exact h9
  have HA2 := (show Hid _ from A2)
  have HR1 := (show Hid _ from R1)
  have HB1 := (show Hid _ from (But.of (g := g) hBD.out).trans b1)
  have HSZ := (show Hid _ from HB1.out.size)
  have hown : w1.ownsRow w1.heap.size 5 1 (.slice none 0 0) 0 [] := World.ownsRow_nil _ _ _ _
  clear t A1 R1 b1 A2
  generalize restAt ao c9 4 = a2 at *
  generalize hcc : c9 - 4 = c8 at *
  clear hcc hc9
  cases a2 with
  | none =>
    have e0 : N = 0 ∧ c8 = 0 ∧ lb = [] := by
      obtain ⟨o2, k1, k2, k3, k4, k5⟩ := HA2.out.ex
      have h0 := k3.2 rfl
      have hN0 : N = 0 := by omega
      exact ⟨hN0, h0, List.eq_nil_of_length_eq_zero (by omega)⟩
    obtain ⟨hN0, hc0, hlb0⟩ := e0
    have HM0 : Hid (MineB w1 w.heap.size (.slice none 0 0) lb) := by
      rw [hlb0]
      exact World.ownsRow_nil _ _ _ _
    rw [hc0] at hsl
    have hsl0 : ∀ W, (Instr.sliceAt 22 (.slice ao (4 + N) c9) (some (.int .i64 4)) none none).run Try.prog W = .ok (.slice none 0 0) W := fun W => by
      rw [hsl W, hN0]
    clear hsl hN0 hc0 hlb0
    go_wp2_with (at_builtin; refine wpList_append_own_none rfl _ _ 22 rfl w1.heap.size 5 i0 1 under_bytes HI.out.1 _ _ _ rfl hown rfl ?_)
    go_wp2
    go_ret
    exact ⟨_, rfl, HM0.out, HR1.out, HB1.out⟩
  | some x =>
    have hsrc : ∀ j u, (lb.map (Value.int .u8))[j]? = some u → w1.cell? (x.add j) = some u := by
      obtain ⟨o2, k1, k2, k3, k4, k5⟩ := HA2.out.ex
      exact atB_srcS k5
    go_wp2_with (at_builtin; refine wpList_append_own _ rfl _ _ 22 rfl w1.heap.size 5 i0 (.int .u8 0) 1 1 under_bytes HI.out.1 HI.out.2.1 HI.out.2.2.1 HI.out.2.2.2 rfl (by decide) _ _ _ rfl hown x N c8 (lb.map (Value.int .u8)) rfl (by rw [List.length_map, HLB.out, Nat.mul_one]) ?c1 ?c2 ?c3 ?c4 ?c5 ?_)
    case c1 => exact hsrc
    case c2 => exact ints_oneCell _ _
    case c3 => unfold maxLen; omega
    case c4 => omega
    case c5 => exact Nat.le_refl _
    intro v' w2 hown' hgrow _
    have hge := own_ge hown
    have HB2 := (show Hid (Below w1.heap.size w1 w2) from (Below.refl _ _).grown hgrow (Nat.le_refl _) hge)
    have HM : Hid (MineB w2 w.heap.size v' lb) := by
      refine mineB_mono (B := w1.heap.size) ?_ HSZ.out
      unfold MineB
      rw [HLB.out]
      simpa using hown'
    clear hown hown' hgrow hge hsrc
    go_wp2
    go_ret
    exact ⟨v', rfl, HM.out, HR1.out.keep HB2.out, HB1.out.trans (But.of HB2.out)⟩
theorem rfRawM {w : World} {g b : Nat} {most : Int} {l : List Int} (h : RfA w g b 0 l) (hl : 4 ≤ l.length) :
    Calls Try.prog 61 #[.pointer (some ⟨g, 0, none⟩), .int .i64 most] w fun e w' => ∃ v, e = .returned v ∧ MineB w' w.heap.size v (rdV [] (pRaw most l) 0) ∧ RfA w' g b (rdE (pRaw most l) 0) (rdL (pRaw most l) 0 l) ∧ But g w w' := by
  by_cases hq : most < (cntOf 4 l : Int)
  · have hp : pRaw most l = .inl 42 := by unfold pRaw; rw [if_pos hl, if_pos hq]
    rw [hp]
    refine (rfRawL h hl hq).mono ?_
    rintro e w' ⟨h1, h2, h3⟩
    exact ⟨_, h1, World.ownsRow_nil _ _ _ _, h2, h3⟩
  · by_cases hs : 4 + cntOf 4 l ≤ l.length
    · have hp : pRaw most l = .inr ((l.drop 4).take (cntOf 4 l), 4 + cntOf 4 l) := by unfold pRaw; rw [if_pos hl, if_neg hq, if_pos hs]
      rw [hp]
      exact rfRawY h hl hq hs
    · have hp : pRaw most l = .inl 40 := by unfold pRaw; rw [if_pos hl, if_neg hq, if_neg hs]
      rw [hp]
      refine (rfRawS h hl hq hs).mono ?_
      rintro e w' ⟨h1, h2, h3⟩
      exact ⟨_, h1, World.ownsRow_nil _ _ _ _, h2, h3⟩
theorem rfRaw {w : World} {g b : Nat} {most err : Int} {l : List Int} (h : RfA w g b err l) :
    Calls Try.prog 61 #[.pointer (some ⟨g, 0, none⟩), .int .i64 most] w fun e w' => ∃ v, e = .returned v ∧ MineB w' w.heap.size v (rdV [] (pRaw most l) err) ∧ RfA w' g b (rdE (pRaw most l) err) (rdL (pRaw most l) err l) ∧ But g w w' := by
  by_cases he : err = 0
  · subst he
    by_cases hl : 4 ≤ l.length
    · exact rfRawM h hl
    · have hp : pRaw most l = .inl 40 := by unfold pRaw; rw [if_neg hl]
      rw [hp]
      refine (rfRaw4 h hl).mono ?_
      rintro e w' ⟨h1, h2, h3⟩
      exact ⟨_, h1, World.ownsRow_nil _ _ _ _, h2, h3⟩
  · rw [rdV_bad he, rdE_bad he, rdL_bad he]
    refine (rfRawE h he).mono ?_
    rintro e w' ⟨h1, h2, h3⟩
    exact ⟨_, h1, World.ownsRow_nil _ _ _ _, h2, h3⟩
end Go.Proofs.Ytapnhfppjefnfaa

namespace Go.Proofs.Ytapnhfppjefnfaa
open Go.RowKit Lim

theorem rdL_len {α : Type} {p : Int ⊕ α × Nat} {err : Int} {l : List Int} : (rdL p err l).length ≤ l.length := by
  unfold rdL
  split
  · split
    · exact Nat.le_refl _
    · rw [List.length_drop]; omega
  · exact Nat.le_refl _
theorem NatO.but {w w' : World} {ao : Option Addr} {n c g : Nat} {V : Int} (h : NatO w ao n c V) {cs : List Value} {t : TypeId} (X : Box w g cs t) (hv : ∀ v ∈ cs, ∀ x, v ≠ .int .u64 x) (hB : But g w w') : NatO w' ao n c V := by
  obtain ⟨b, o, l, h1, h2, h3, h4⟩ := h.ex
  refine ⟨b, o, l, h1, h2, h3, h4.loc, fun i hi => ?_⟩
  have hc := h4.cell i hi
  refine hB.cell hc (fun e => ?_)
  subst e
  simp only [World.cell?, X.blk] at hc
  have h6 : cs.toArray[o + i]? = some (.int .u64 (nth l i)) := by simpa using hc
  rw [List.getElem?_toArray] at h6
  exact absurd rfl (hv _ (List.mem_of_getElem? h6) _)
theorem no_u64f (err : Int) (ao : Option Addr) (n c : Nat) : ∀ v ∈ [Value.slice ao n c, Value.int .i64 err], ∀ x, v ≠ .int .u64 x := fun v hv x e => by
  rcases List.mem_cons.1 hv with h | h
  · subst h; cases e
  · rw [List.mem_singleton] at h; subst h; cases e
theorem NatO.offF {w w' : World} {ao : Option Addr} {n c g b : Nat} {V err : Int} {l : List Int} (h : NatO w ao n c V) (F : RfA w g b err l) (hB : But g w w') : NatO w' ao n c V := by
  obtain ⟨_, _, _, X, _⟩ := F.ex
  exact h.but X (no_u64f _ _ _ _) hB
set_option maxRecDepth 100000 in
theorem decSameE {w : World} {a0 a1 : Option Addr} {n0 c0 n1 c1 : Nat} {x : Int} (h0 : NatO w a0 n0 c0 x) (h1 : NatO w a1 n1 c1 x) (hn0 : n0 ≤ 4398046511104) (hn1 : n1 ≤ 4398046511104) :
    Calls Try.prog 59 #[.agg #[.slice a0 n0 c0], .agg #[.slice a1 n1 c1]] w fun e w' => e = .returned (.bool true) ∧ Below w.heap.size w w' := by
  have HB := (show Hid _ from below2 w (.cells #[.slice a0 n0 c0] 39) (.cells #[.slice a1 n1 c1] 39))
  have t := nSameE (h0.keep HB.out) (h1.keep HB.out) hn0 hn1
  clear h0 h1
  go_enter Try.func59, Try.ntmps59
  go_wp2_with fail
  refine t.mono ?_
  rintro e w1 ⟨rfl, b1⟩
  have HB1 := (show Hid _ from joinB HB.out b1)
  clear t b1
  go_wp2
  go_ret
  exact ⟨rfl, HB1.out⟩
theorem MineB.at7 {w : World} {B : Nat} {v : Value} {l : List Int} (h : MineB w B v l) : ∃ b ao c, v = .slice ao l.length c ∧ AtB w ao b 0 l := by
  obtain ⟨_, h2⟩ := h
  rcases h2 with ⟨rfl, h0⟩ | ⟨g, cap, cur, rfl, hB, hh, hle, hmx, hsz, htk⟩
  · have e : l = [] := List.eq_nil_of_length_eq_zero h0
    subst e
    exact ⟨B, none, 0, rfl, .inl rfl, fun i hi => by simp at hi⟩
  · refine ⟨g, _, _, rfl, .inr rfl, fun i hi => ?_⟩
    simp only [World.cell?, hh]
    have e : cur[0 + i]? = some (.int .u8 (nth l i)) := by
      have h3 : (cur.toList.take (l.length * 1))[i]? = some (.int .u8 (nth l i)) := by
        rw [htk, List.getElem?_map, List.getElem?_eq_getElem hi, nth_eq hi]
        rfl
      rw [List.getElem?_take] at h3
      split at h3
      · rw [Nat.zero_add, ← Array.getElem?_toList]
        exact h3
      · cases h3
    simpa using e
theorem mineB_but7 {w w' : World} {B g : Nat} {v : Value} {l : List Int} (h : MineB w B v l) (b : But g w w') (hg : g < B) : MineB w' B v l := by
  obtain ⟨h1, h2⟩ := h
  refine ⟨h1, ?_⟩
  rcases h2 with h2 | ⟨q, cap, cur, h3, h4, h5, h6⟩
  · exact .inl h2
  · refine .inr ⟨q, cap, cur, h3, h4, ?_, h6⟩
    rw [b.block q (lt_of_block h5) (by omega)]
    exact h5
/-- only new blocks, and these two, are changed -/
structure Two (g x : Nat) (w w' : World) : Prop where
  size : w.heap.size ≤ w'.heap.size
  low : ∀ (A : Nat) (w0 : World), Below A w0 w → A ≤ g → A ≤ x → A ≤ w0.heap.size → Below A w0 w'
theorem Two.of {g x : Nat} {w w' : World} (h : Below w.heap.size w w') : Two g x w w' := ⟨h.size, fun _ _ hb _ _ hs => ⟨h.os.trans hb.os, h.tape.trans hb.tape, h.output.trans hb.output, Nat.le_trans hb.size h.size, fun k hk => (h.block k (Nat.lt_of_lt_of_le (Nat.lt_of_lt_of_le hk hs) hb.size)).trans (hb.block k hk)⟩⟩
theorem Two.but {g x q : Nat} {w w' : World} (h : But q w w') (hq : q = g ∨ q = x ∨ (g ≤ q)) : Two g x w w' := ⟨h.size, fun _ _ hb h1 h2 hs => h.below hb (by rcases hq with e | e | e <;> omega) hs⟩
theorem Two.trans {g x : Nat} {w w1 w2 : World} (h : Two g x w w1) (h' : Two g x w1 w2) : Two g x w w2 := ⟨Nat.le_trans h.size h'.size, fun A w0 hb h1 h2 hs => h'.low A w0 (h.low A w0 hb h1 h2 hs) h1 h2 hs⟩
set_option maxHeartbeats 4000000 in
set_option maxRecDepth 100000 in
theorem read_any {w : World} {g b x bx : Nat} {err : Int} {l : List Int} {s : Stp} (R : RdA w g b err l) (F : RfA w x bx err l) (hm1 : -9223372036854775808 ≤ s.most) (hm2 : s.most ≤ 9223372036854775807) (hgx : g ≠ x) (hb : b < w.heap.size) (hbx : bx < w.heap.size) (hl : l.length ≤ 3000) :
    Calls Try.prog 37 #[.pointer (some ⟨g, 0, none⟩), .pointer (some ⟨x, 0, none⟩), .agg #[.int .i64 s.what, .int .u64 s.num, .slice s.na s.nn s.nc, .slice s.ba s.bn s.bc, .int .i64 s.most]] w fun e w' => e = .returned (.bool true) ∧ ∃ err' l', RdA w' g b err' l' ∧ RfA w' x bx err' l' ∧ l'.length ≤ l.length ∧ Two g x w w' := by
  obtain ⟨what, num, na, nn, nc, V, ba, bn, bc, bb, bl, most⟩ := s
  simp only at hm1 hm2 ⊢
  have hal := below_alloc w (.cells #[.int .i64 what, .int .u64 num, .slice na nn nc, .slice ba bn bc, .int .i64 most] 32)
  have R1 := (show Hid _ from R.keep hal)
  have F1 := (show Hid _ from F.keep hal)
  have T1 : Hid (Two g x w (w.alloc (.cells #[.int .i64 what, .int .u64 num, .slice na nn nc, .slice ba bn bc, .int .i64 most] 32))) := Two.of hal
  have HGX := (show Hid _ from hgx)
  have HB := (show Hid _ from Nat.lt_of_lt_of_le hb hal.size)
  have HBX := (show Hid _ from Nat.lt_of_lt_of_le hbx hal.size)
  have HG := (show Hid _ from R1.out.lt)
  have HX := (show Hid _ from F1.out.lt)
  have HLL := (show Hid _ from hl)
  have HG0 := (show Hid _ from R.lt)
  clear hal R F hgx hb hbx hl
  by_cases h0 : what = 0
  · subst h0
    have t := rdU8 R1.out
    obtain ⟨v1, v2⟩ := pFix_v (m := 1) R1.out
    rw [show (256 : Int) ^ 1 = 256 by decide] at v2
    have HLN : Hid ((rdL (pFix 1 l) err l).length ≤ l.length) := rdL_len
    have tF := fun (W : World) (F : RfA W x bx err l) => rfU (m := 1) F (by decide)
    generalize rdV 0 (pFix 1 l) err = V9 at *
    generalize rdE (pFix 1 l) err = E9 at *
    generalize rdL (pFix 1 l) err l = L9 at *
    go_enter Try.func37, Try.ntmps37
    go_wp2_with fail
    refine t.mono ?_
    rintro e w2 ⟨rfl, R2, b2⟩
    have F2 := (show Hid _ from F1.out.offR R1.out (Ne.symm HGX.out) b2)
    have T2 := (show Hid _ from T1.out.trans (Two.but b2 (.inl rfl)))
    replace R2 := (show Hid _ from R2)
    have t2 := tF _ F2.out
    clear t b2
    go_wp2_with fail
    refine t2.mono ?_
    rintro e w3 ⟨rfl, F3, b3⟩
    have R3 := (show Hid _ from R2.out.offF F2.out HGX.out b3)
    have T3 := (show Hid _ from T2.out.trans (Two.but b3 (.inr (.inl rfl))))
    replace F3 := (show Hid _ from F3)
    clear t2 tF b3
    go_wp2
    go_ret
    exact ⟨rfl, E9, L9, R3.out, F3.out, HLN.out, T3.out⟩
  · replace h0 : (what == 0) = false := beq_eq_false_iff_ne.2 h0
    by_cases h1 : what = 1
    · subst h1
      have t := rdU32 R1.out
      obtain ⟨v1, v2⟩ := pFix_v (m := 4) R1.out
      rw [show (256 : Int) ^ 4 = 4294967296 by decide] at v2
      have HLN : Hid ((rdL (pFix 4 l) err l).length ≤ l.length) := rdL_len
      have tF := fun (W : World) (F : RfA W x bx err l) => rfU (m := 4) F (by decide)
      generalize rdV 0 (pFix 4 l) err = V9 at *
      generalize rdE (pFix 4 l) err = E9 at *
      generalize rdL (pFix 4 l) err l = L9 at *
      go_enter Try.func37, Try.ntmps37
      go_wp2_with fail
      refine t.mono ?_
      rintro e w2 ⟨rfl, R2, b2⟩
      have F2 := (show Hid _ from F1.out.offR R1.out (Ne.symm HGX.out) b2)
      have T2 := (show Hid _ from T1.out.trans (Two.but b2 (.inl rfl)))
      replace R2 := (show Hid _ from R2)
      have t2 := tF _ F2.out
      clear t b2
      go_wp2_with fail
      refine t2.mono ?_
      rintro e w3 ⟨rfl, F3, b3⟩
      have R3 := (show Hid _ from R2.out.offF F2.out HGX.out b3)
      have T3 := (show Hid _ from T2.out.trans (Two.but b3 (.inr (.inl rfl))))
      replace F3 := (show Hid _ from F3)
      clear t2 tF b3
      go_wp2
      go_ret
      exact ⟨rfl, E9, L9, R3.out, F3.out, HLN.out, T3.out⟩
    · replace h1 : (what == 1) = false := beq_eq_false_iff_ne.2 h1
      by_cases h2 : what = 2
      · subst h2
        have t := rdU64 R1.out
        obtain ⟨v1, v2⟩ := pFix_v (m := 8) R1.out
        rw [show (256 : Int) ^ 8 = 18446744073709551616 by decide] at v2
        have HLN : Hid ((rdL (pFix 8 l) err l).length ≤ l.length) := rdL_len
        have tF := fun (W : World) (F : RfA W x bx err l) => rfU (m := 8) F (by decide)
        generalize rdV 0 (pFix 8 l) err = V9 at *
        generalize rdE (pFix 8 l) err = E9 at *
        generalize rdL (pFix 8 l) err l = L9 at *
        go_enter Try.func37, Try.ntmps37
        go_wp2_with fail
        refine t.mono ?_
        rintro e w2 ⟨rfl, R2, b2⟩
        have F2 := (show Hid _ from F1.out.offR R1.out (Ne.symm HGX.out) b2)
        have T2 := (show Hid _ from T1.out.trans (Two.but b2 (.inl rfl)))
        replace R2 := (show Hid _ from R2)
        have t2 := tF _ F2.out
        clear t b2
        go_wp2_with fail
        refine t2.mono ?_
        rintro e w3 ⟨rfl, F3, b3⟩
        have R3 := (show Hid _ from R2.out.offF F2.out HGX.out b3)
        have T3 := (show Hid _ from T2.out.trans (Two.but b3 (.inr (.inl rfl))))
        replace F3 := (show Hid _ from F3)
        clear t2 tF b3
        go_wp2
        go_ret
        exact ⟨rfl, E9, L9, R3.out, F3.out, HLN.out, T3.out⟩
      · replace h2 : (what == 2) = false := beq_eq_false_iff_ne.2 h2
        by_cases h3 : what = 3
        · subst h3
          have t := rdBool R1.out
          have HLN : Hid ((rdL (pBool l) err l).length ≤ l.length) := rdL_len
          have tF := fun (W : World) (F : RfA W x bx err l) => rfBool F
          generalize rdV false (pBool l) err = V9 at *
          generalize rdE (pBool l) err = E9 at *
          generalize rdL (pBool l) err l = L9 at *
          go_enter Try.func37, Try.ntmps37
          go_wp2_with fail
          refine t.mono ?_
          rintro e w2 ⟨rfl, R2, b2⟩
          have F2 := (show Hid _ from F1.out.offR R1.out (Ne.symm HGX.out) b2)
          have T2 := (show Hid _ from T1.out.trans (Two.but b2 (.inl rfl)))
          replace R2 := (show Hid _ from R2)
          have t2 := tF _ F2.out
          clear t b2
          go_wp2_with fail
          refine t2.mono ?_
          rintro e w3 ⟨rfl, F3, b3⟩
          have R3 := (show Hid _ from R2.out.offF F2.out HGX.out b3)
          have T3 := (show Hid _ from T2.out.trans (Two.but b3 (.inr (.inl rfl))))
          replace F3 := (show Hid _ from F3)
          clear t2 tF b3
          go_wp2
          go_ret
          exact ⟨rfl, E9, L9, R3.out, F3.out, HLN.out, T3.out⟩
        · replace h3 : (what == 3) = false := beq_eq_false_iff_ne.2 h3
          by_cases h4 : what = 4
          · subst h4
            have t := rdNat R1.out
            have HLN : Hid ((rdL (pNat l) err l).length ≤ l.length) := rdL_len
            have tF := fun (W : World) (F : RfA W x bx err l) => rfNat F
            generalize rdV 0 (pNat l) err = V9 at *
            generalize rdE (pNat l) err = E9 at *
            generalize rdL (pNat l) err l = L9 at *
            go_enter Try.func37, Try.ntmps37
            go_wp2_with fail
            refine t.mono ?_
            rintro e w2 ⟨a1, n1, c1, rfl, O1, hn1, R2, b2⟩
            have F2 := (show Hid _ from F1.out.offR R1.out (Ne.symm HGX.out) b2)
            have T2 := (show Hid _ from T1.out.trans (Two.but b2 (.inl rfl)))
            replace R2 := (show Hid _ from R2)
            have t2 := tF _ F2.out
            clear t b2
            go_wp2_with fail
            refine t2.mono ?_
            rintro e w3 ⟨a2, n2, c2, rfl, O2, hn2, F3, b3⟩
            have R3 := (show Hid _ from R2.out.offF F2.out HGX.out b3)
            have T3 := (show Hid _ from T2.out.trans (Two.but b3 (.inr (.inl rfl))))
            replace F3 := (show Hid _ from F3)
            have O3 := O1.offF F2.out b3
            have t3 := nSameE O3 O2 (by omega) (by omega)
            clear t2 tF b3 O1 O2 O3
            go_wp2_with fail
            refine t3.mono ?_
            rintro e w4 ⟨rfl, b4⟩
            have R4 := (show Hid _ from R3.out.keep b4)
            have F4 := (show Hid _ from F3.out.keep b4)
            have T4 := (show Hid _ from T3.out.trans (Two.of b4))
            clear t3 b4
            go_wp2
            go_ret
            exact ⟨rfl, E9, L9, R4.out, F4.out, HLN.out, T4.out⟩
          · replace h4 : (what == 4) = false := beq_eq_false_iff_ne.2 h4
            by_cases h5 : what = 5
            · subst h5
              have t := rdDec R1.out
              have HLN : Hid ((rdL (pNat l) err l).length ≤ l.length) := rdL_len
              have tF := fun (W : World) (F : RfA W x bx err l) => rfDec F
              generalize rdV 0 (pNat l) err = V9 at *
              generalize rdE (pNat l) err = E9 at *
              generalize rdL (pNat l) err l = L9 at *
              go_enter Try.func37, Try.ntmps37
              go_wp2_with fail
              refine t.mono ?_
              rintro e w2 ⟨a1, n1, c1, rfl, O1, hn1, R2, b2⟩
              have F2 := (show Hid _ from F1.out.offR R1.out (Ne.symm HGX.out) b2)
              have T2 := (show Hid _ from T1.out.trans (Two.but b2 (.inl rfl)))
              replace R2 := (show Hid _ from R2)
              have t2 := tF _ F2.out
              clear t b2
              go_wp2_with fail
              refine t2.mono ?_
              rintro e w3 ⟨a2, n2, c2, rfl, O2, hn2, F3, b3⟩
              have R3 := (show Hid _ from R2.out.offF F2.out HGX.out b3)
              have T3 := (show Hid _ from T2.out.trans (Two.but b3 (.inr (.inl rfl))))
              replace F3 := (show Hid _ from F3)
              have O3 := O1.offF F2.out b3
              have t3 := decSameE O3 O2 (by omega) (by omega)
              clear t2 tF b3 O1 O2 O3
              go_wp2_with fail
              refine t3.mono ?_
              rintro e w4 ⟨rfl, b4⟩
              have R4 := (show Hid _ from R3.out.keep b4)
              have F4 := (show Hid _ from F3.out.keep b4)
              have T4 := (show Hid _ from T3.out.trans (Two.of b4))
              clear t3 b4
              go_wp2
              go_ret
              exact ⟨rfl, E9, L9, R4.out, F4.out, HLN.out, T4.out⟩
            · replace h5 : (what == 5) = false := beq_eq_false_iff_ne.2 h5
              by_cases h6 : what = 6
              · subst h6
                have t := rdRaw hm1 hm2 R1.out
                have HLN : Hid ((rdL (pRaw most l) err l).length ≤ l.length) := rdL_len
                have HVL : Hid ((rdV [] (pRaw most l) err).length ≤ 3000) := Nat.le_trans pRaw_len HLL.out
                have tF := fun (W : World) (F : RfA W x bx err l) => rfRaw (most := most) F
                generalize rdV [] (pRaw most l) err = V9 at *
                generalize rdE (pRaw most l) err = E9 at *
                generalize rdL (pRaw most l) err l = L9 at *
                go_enter Try.func37, Try.ntmps37
                go_wp2_with fail
                refine t.mono ?_
                rintro e w2 ⟨v1, rfl, M1, R2, b2⟩
                have F2 := (show Hid _ from F1.out.offR R1.out (Ne.symm HGX.out) b2)
                have T2 := (show Hid _ from T1.out.trans (Two.but b2 (.inl rfl)))
                replace R2 := (show Hid _ from R2)
                have hb9 := (box_new w [.int .i64 6, .int .u64 num, .slice na nn nc, .slice ba bn bc, .int .i64 most] 32).blk
                have c4 : (w.alloc (.cells #[.int .i64 6, .int .u64 num, .slice na nn nc, .slice ba bn bc, .int .i64 most] 32)).cell? ⟨w.heap.size, 4, none⟩ = some (.int .i64 most) := by
                  simp only [World.cell?, hb9]
                  rfl
                have hcm : w2.cell? ⟨w.heap.size, 4, none⟩ = some (.int .i64 most) := b2.cell c4 (by have := HG0.out; show w.heap.size ≠ g; omega)
                clear hb9 c4
                obtain ⟨q, hq⟩ : ∃ q, V9.length = q := ⟨_, rfl⟩
                have HQ := (show Hid _ from hq)
                have HM1 := (show Hid (MineB w2 (w.alloc (.cells #[.int .i64 6, .int .u64 num, .slice na nn nc, .slice ba bn bc, .int .i64 most] 32)).heap.size v1 V9) from M1)
                obtain ⟨a1, c1, rfl⟩ := M1.shape
                rw [hq]
                rw [hq] at HM1
                clear M1 hq
                have t2 := tF _ F2.out
                clear t b2
                go_wp2_with fail
                refine t2.mono ?_
                rintro e w3 ⟨v2, rfl, M2, F3, b3⟩
                have R3 := (show Hid _ from R2.out.offF F2.out HGX.out b3)
                have T3 := (show Hid _ from T2.out.trans (Two.but b3 (.inr (.inl rfl))))
                replace F3 := (show Hid _ from F3)
                clear hcm
                have HM3 : Hid (MineB w3 (w.alloc (.cells #[.int .i64 6, .int .u64 num, .slice na nn nc, .slice ba bn bc, .int .i64 most] 32)).heap.size (.slice a1 q c1) V9) := mineB_but7 HM1.out b3 HX.out
                obtain ⟨bA, aA, cA, eA, AA⟩ := HM3.out.at7
                injection eA with e1 e2 e3
                subst e1 e3
                obtain ⟨bB, aB, cB, rfl, AB⟩ := M2.at7
                have t3 := helpBytes a1 q c1 bA 0 aB q cB bB 0 V9 V9 w3 HQ.out HQ.out (by have := HVL.out; have := HQ.out; omega) (by have := HVL.out; have := HQ.out; omega) AA AB
                rw [eqB_true rfl] at t3
                rw [HQ.out]
                clear t2 tF b3 M2 AA AB e2
                go_wp2_with fail
                refine t3.mono ?_
                rintro e w4 ⟨rfl, b4⟩
                have R4 := (show Hid _ from R3.out.keep b4)
                have F4 := (show Hid _ from F3.out.keep b4)
                have T4 := (show Hid _ from T3.out.trans (Two.of b4))
                have HM4 : Hid (MineB w4 (w.alloc (.cells #[.int .i64 6, .int .u64 num, .slice na nn nc, .slice ba bn bc, .int .i64 most] 32)).heap.size (.slice a1 q c1) V9) := mineB_keep HM3.out b4
                clear t3 b4
                rcases HM4.out.byr with ⟨e0, e1⟩ | ⟨gv, cv, e0, hgv, hgl, hby⟩
                · injection e0 with e2 e3 e4
                  subst e2 e3 e4
                  have t4 := spoilB0 (w := w4) (c := 0) (ao := none)
                  go_wp2_with fail
                  refine t4.mono ?_
                  rintro e w5 ⟨rfl, hw5⟩
                  subst hw5
                  clear t4
                  go_wp2
                  go_ret
                  exact ⟨rfl, E9, L9, R4.out, F4.out, HLN.out, T4.out⟩
                · injection e0 with e2 e3 e4
                  subst e2 e4
                  rw [HQ.out] at hby
                  have t4 := spoilB (c := c1) hby (by have := HVL.out; have := HQ.out; omega)
                  have HGV := (show Hid _ from hgv)
                  clear e3 hgv hgl hby
                  go_wp2_with fail
                  refine t4.mono ?_
                  rintro e w5 ⟨rfl, b5⟩
                  have R5 := (show Hid _ from R4.out.offW (by have h1 := HGV.out; have h2 := HG.out; omega) (by have h1 := HGV.out; have h2 := HB.out; omega) b5)
                  have F5 := (show Hid _ from F4.out.offN (by have h1 := HGV.out; have h2 := HX.out; omega) (by have h1 := HGV.out; have h2 := HBX.out; omega) b5)
                  have T5 := (show Hid _ from T4.out.trans (Two.but b5 (.inr (.inr (by have h1 := HGV.out; have h2 := HG.out; omega)))))
                  clear t4 b5
                  go_wp2
                  go_ret
                  exact ⟨rfl, E9, L9, R5.out, F5.out, HLN.out, T5.out⟩
              · replace h6 : (what == 6) = false := beq_eq_false_iff_ne.2 h6
                by_cases h8 : what = 8
                · subst h8
                  have t := rdEnd R1.out (by have := HLL.out; omega)
                  have tF := fun (W : World) (F : RfA W x bx err l) => rfEnd F
                  generalize endE err l = E9 at *
                  go_enter Try.func37, Try.ntmps37
                  go_wp2_with fail
                  refine t.mono ?_
                  rintro e w2 ⟨rfl, R2, b2⟩
                  have F2 := (show Hid _ from F1.out.offR R1.out (Ne.symm HGX.out) b2)
                  have T2 := (show Hid _ from T1.out.trans (Two.but b2 (.inl rfl)))
                  replace R2 := (show Hid _ from R2)
                  have t2 := tF _ F2.out
                  clear t b2
                  go_wp2_with fail
                  refine t2.mono ?_
                  rintro e w3 ⟨rfl, F3, b3⟩
                  have R3 := (show Hid _ from R2.out.offF F2.out HGX.out b3)
                  have T3 := (show Hid _ from T2.out.trans (Two.but b3 (.inr (.inl rfl))))
                  replace F3 := (show Hid _ from F3)
                  clear t2 tF b3
                  go_wp2
                  go_ret
                  exact ⟨rfl, E9, l, R3.out, F3.out, Nat.le_refl _, T3.out⟩
                · replace h8 : (what == 8) = false := beq_eq_false_iff_ne.2 h8
                  go_enter Try.func37, Try.ntmps37
                  go_wp2
                  go_ret
                  exact ⟨rfl, err, l, R1.out, F1.out, Nat.le_refl _, T1.out⟩
end Go.Proofs.Ytapnhfppjefnfaa
