/- Several texts, joined: EncP, EncQ, EncR, EncS, RcO, RcRd. -/
import Derived.Test.YtenlhceceplldaaGreatJga
import Derived.Test.YtenlhceceplldaaGreatJee
import Derived.Test.YtenlhceceplldaaGreatJha
namespace Go.Proofs.YtenlhceceplldaaGreat
open Go.RowKit Lim

/-- the document's Reader: its bytes, its error -/
structure RfA (w : World) (g b : Nat) (err : Int) (l : List Int) : Prop where
  ex : ∃ ao n c, Box w g [.slice ao n c, .int .i64 err] 188 ∧ ByA w b ao n c l
theorem RfA.keep {w w' : World} {g b : Nat} {err : Int} {l : List Int} (h : RfA w g b err l) (hb : Below w.heap.size w w') : RfA w' g b err l := by
  obtain ⟨ao, n, c, h1, h2⟩ := h.ex
  exact ⟨ao, n, c, h1.keep hb, h2.keep hb⟩
theorem no_u8f (err : Int) (ao : Option Addr) (n c : Nat) : ∀ v ∈ [Value.slice ao n c, Value.int .i64 err], ∀ x, v ≠ .int .u8 x := fun v hv x e => by
  rcases List.mem_cons.1 hv with h | h
  · subst h; cases e
  · rw [List.mem_singleton] at h; subst h; cases e
theorem RfA.lt {w : World} {g b : Nat} {err : Int} {l : List Int} (h : RfA w g b err l) : g < w.heap.size := by
  obtain ⟨_, _, _, X, _⟩ := h.ex
  exact X.lt
theorem RfA.oct {w : World} {g b : Nat} {err : Int} {l : List Int} (h : RfA w g b err l) : Octets l := by
  obtain ⟨_, _, _, _, A⟩ := h.ex
  obtain ⟨o, _, _, _, h4, _⟩ := A.ex
  exact h4
theorem RfA.len {w : World} {g b : Nat} {err : Int} {l : List Int} (h : RfA w g b err l) : l.length ≤ 9223372036854775807 := by
  obtain ⟨_, _, _, _, A⟩ := h.ex
  obtain ⟨o, _, _, ⟨_, _⟩, _, _⟩ := A.ex
  omega
/-- the Reader is read: the document's stays -/
theorem RfA.offR {w w' : World} {g g' b b' : Nat} {err e' : Int} {l l' : List Int} (h : RfA w g b err l) (h' : RdA w g' b' e' l') (hne : g ≠ g') (hB : But g' w w') : RfA w' g b err l := by
  obtain ⟨ao, n, c, X, A⟩ := h.ex
  obtain ⟨_, _, _, X', _⟩ := h'.ex
  exact ⟨ao, n, c, ⟨by rw [hB.block g X.lt hne]; exact X.blk⟩, A.but X' (no_u8 _ _ _ _) hB⟩
/-- the document's is read: the Reader stays -/
theorem RdA.offF {w w' : World} {g g' b b' : Nat} {err e' : Int} {l l' : List Int} (h : RdA w g b err l) (h' : RfA w g' b' e' l') (hne : g ≠ g') (hB : But g' w w') : RdA w' g b err l := by
  obtain ⟨ao, n, c, X, A⟩ := h.ex
  obtain ⟨_, _, _, X', _⟩ := h'.ex
  exact ⟨ao, n, c, ⟨by rw [hB.block g X.lt hne]; exact X.blk⟩, A.but X' (no_u8f _ _ _ _) hB⟩
theorem RfA.offN {w w' : World} {g g' b : Nat} {err : Int} {l : List Int} (h : RfA w g b err l) (hne : g ≠ g') (hb : b ≠ g') (hB : But g' w w') : RfA w' g b err l := by
  obtain ⟨ao, n, c, X, A⟩ := h.ex
  exact ⟨ao, n, c, ⟨by rw [hB.block g X.lt hne]; exact X.blk⟩, A.butN hb hB⟩
theorem but_set (w : World) (g k : Nat) (v : Value) : But g w (w.setCell ⟨g, k, none⟩ v) := ⟨rfl, rfl, rfl, by rw [size_set]; exact Nat.le_refl _, fun _ _ h2 => Below.heap_setCell _ _ _ _ h2⟩
set_option maxRecDepth 100000 in
theorem rfTake {w : World} {g b m : Nat} {l : List Int} (h : RfA w g b 0 l) (hm : m ≤ l.length) :
    Calls Tryz.prog 182 #[.pointer (some ⟨g, 0, none⟩), .int .i64 m] w fun e w' => ∃ ao c, e = .returned (.slice ao m c) ∧ ByA w' b ao m c (l.take m) ∧ RfA w' g b 0 (l.drop m) ∧ But g w w' := by
  obtain ⟨ao, n, c, X, A⟩ := h.ex
  obtain ⟨o, h1, h2, ⟨h3, -⟩, -, -⟩ := A.ex
  have hmn : m ≤ n := by omega
  have H : But g w (w.setCell ⟨g, 0, none⟩ (.slice (restAt ao c m) (n - m) (c - m))) := but_set _ _ _ _
  have HR : Hid (∀ w', w' = w.setCell ⟨g, 0, none⟩ (.slice (restAt ao c m) (n - m) (c - m)) → ByA w' b ao m c (l.take m) ∧ RfA w' g b 0 (l.drop m) ∧ But g w w') := fun w' e => by
    subst e
    exact ⟨(A.front2 hmn).but X (no_u8f _ _ _ _) H, ⟨_, _, _, box_put0 X _, (A.rest hmn).but X (no_u8f _ _ _ _) H⟩, H⟩
  obtain ⟨c1, c2, c3, c4⟩ := X.two
  have hm0 : (m : Int) ≤ n := by omega
  have hm1 : (m : Int) ≤ c := by omega
  have hq : ((n : Int) < m) = False := eq_false (by omega)
  have hn9 : (c : Int) ≤ 9223372036854775807 := by omega
  clear X A h H
  go_enter Tryz.func182, Tryz.ntmps182
  go_wp2
  · subst h
    go_ret
    exact ⟨ao, c, rfl, HR.out _ (by unfold restAt; rw [if_pos rfl, Nat.sub_self])⟩
  · go_ret
    exact ⟨ao, c, rfl, HR.out _ (by unfold restAt; rw [if_neg (by assumption)])⟩
set_option maxRecDepth 100000 in
theorem rfTakeS {w : World} {g b m : Nat} {l : List Int} (h : RfA w g b 0 l) (hm : l.length < m) :
    Calls Tryz.prog 182 #[.pointer (some ⟨g, 0, none⟩), .int .i64 m] w fun e w' => e = .returned (.slice none 0 0) ∧ RfA w' g b 40 l ∧ But g w w' := by
  obtain ⟨ao, n, c, X, A⟩ := h.ex
  obtain ⟨o, h1, h2, ⟨h3, -⟩, -, -⟩ := A.ex
  have H : But g w (w.setCell ⟨g, 1, none⟩ (.int .i64 40)) := but_set _ _ _ _
  have HR : Hid (RfA (w.setCell ⟨g, 1, none⟩ (.int .i64 40)) g b 40 l ∧ But g w (w.setCell ⟨g, 1, none⟩ (.int .i64 40))) := ⟨⟨_, _, _, box_put1 X _, A.but X (no_u8f _ _ _ _) H⟩, H⟩
  obtain ⟨c1, c2, c3, c4⟩ := X.two
  have d2 := (box_put1 X (.int .i64 40)).two.2.1
  have hq : ((n : Int) < m) = True := eq_true (by omega)
  clear X A h H hm
  go_enter Tryz.func182, Tryz.ntmps182
  go_wp2
  go_ret
  exact ⟨rfl, HR.out⟩
set_option maxRecDepth 100000 in
theorem rfTakeE {w : World} {g b : Nat} {m err : Int} {l : List Int} (h : RfA w g b err l) (he : err ≠ 0) :
    Calls Tryz.prog 182 #[.pointer (some ⟨g, 0, none⟩), .int .i64 m] w fun e w' => e = .returned (.slice none 0 0) ∧ w' = w := by
  obtain ⟨ao, n, c, X, A⟩ := h.ex
  obtain ⟨c1, c2, c3, c4⟩ := X.two
  have hb1 : (err == 0) = false := beq_eq_false_iff_ne.2 he
  have hb2 : (err != 0) = true := bne_iff_ne.2 he
  clear X A h he
  go_enter Tryz.func182, Tryz.ntmps182
  go_wp2
  go_ret
  exact ⟨rfl, rfl⟩
set_option maxHeartbeats 2000000 in
set_option maxRecDepth 100000 in
theorem rfU {w : World} {g b m : Nat} {err : Int} {l : List Int} (h : RfA w g b err l) (h8 : m ≤ 8) :
    Calls Tryz.prog 142 #[.pointer (some ⟨g, 0, none⟩), .int .i64 m] w fun e w' => e = .returned (.int .u64 (rdV 0 (pFix m l) err)) ∧ RfA w' g b (rdE (pFix m l) err) (rdL (pFix m l) err l) ∧ But g w w' := by
  by_cases he : err = 0
  · subst he
    by_cases hm : m ≤ l.length
    · have hp : pFix m l = .inr (bval (l.take m), m) := by unfold pFix; rw [if_pos hm]
      rw [hp]
      show Calls Tryz.prog _ _ w fun e w' => e = .returned (.int .u64 (bval (l.take m))) ∧ RfA w' g b 0 (l.drop m) ∧ But g w w'
      have HO : Hid (Octets (l.take m)) := fun x hx => h.oct x (List.mem_of_mem_take hx)
      have hlm : (l.take m).length = m := by rw [List.length_take]; omega
      have t := rfTake h hm
      clear hp h
      generalize l.take m = d at *
      generalize l.drop m = r at *
      have h8' : (m : Int) ≤ 8 := by omega
      go_enter Tryz.func142, Tryz.ntmps142
      go_wp2_with fail
      refine t.mono ?_
      rintro e w1 ⟨ao, c, rfl, A1, R1, b1⟩
      have HR1 := (show Hid _ from R1)
      have HB1 := (show Hid _ from b1)
      obtain ⟨o, -, -, -, -, hA5⟩ := A1.ex
      have HA5 := (show Hid _ from hA5)
      clear t A1 R1 b1 hA5
      go_wp2_with fail
      go_loop [6, 7] (fun tx ti => ∃ k : Nat, k ≤ m ∧ ti = .int .i64 k ∧ tx = .int .u64 (bval (d.take k))) (fun _ ti => m - (intOf ti).toNat)
      case atStart => exact ⟨0, Nat.zero_le _, rfl, rfl⟩
      case round =>
        obtain ⟨k, hk, rfl, rfl⟩ := hrel
        by_cases hlt : k < m
        · have hkl : k < d.length := by omega
          have hcell := HA5.out.cell k hkl
          obtain rfl : ao = some ⟨b, o, none⟩ := by
            rcases HA5.out.loc with e | e
            · rw [e] at hkl; simp at hkl
            · exact e
          have hk0 : (k : Int) < m := by omega
          have hd := HO.out.nth k
          have HB := bval_bound (l := d.take k) (fun x hx => HO.out x (List.mem_of_mem_take hx))
          have hp : (256 : Int) ^ (d.take k).length ≤ 256 ^ 7 := pow256_mono (by rw [List.length_take]; omega)
          have hx1 : bval (d.take k) < 72057594037927936 := by
            have e7 : (256 : Int) ^ 7 = 72057594037927936 := by decide
            omega
          have hx0 := HB.1
          have hor := or8 (bval (d.take k)) (nth d k) hx0 hx1 hd.1 hd.2
          have HN : Hid (bval (d.take (k + 1)) = bval (d.take k) * 256 + nth d k) := by show _ = _; rw [take_succ_nth hkl, bval_snoc2]
          clear HB hp
          generalize bval (d.take k) = V at *
          generalize nth d k = D at *
          go_wp2
          go_round
          case rel => exact ⟨k + 1, by omega, by go_num, by rw [HN.out]⟩
          case measure => simp [intOf]; omega
        · obtain rfl : k = m := by omega
          have hdk : d.take k = d := List.take_of_length_le (by omega)
          rw [hdk]
          go_wp2
          go_ret
          exact ⟨rfl, HR1.out, HB1.out⟩
    · have hp : pFix m l = .inl 40 := by unfold pFix; rw [if_neg hm]
      rw [hp]
      show Calls Tryz.prog _ _ w fun e w' => e = .returned (.int .u64 0) ∧ RfA w' g b 40 l ∧ But g w w'
      have t := rfTakeS (m := m) h (by omega)
      clear hp h hm
      go_enter Tryz.func142, Tryz.ntmps142
      go_wp2_with fail
      refine t.mono ?_
      rintro e w1 ⟨rfl, R1, b1⟩
      have HR1 := (show Hid _ from R1)
      have HB1 := (show Hid _ from b1)
      clear t R1 b1
      go_wp2_with fail
      go_loop [6, 7] (fun tx ti => tx = .int .u64 0 ∧ ti = .int .i64 0) (fun _ _ => 0)
      case atStart => exact ⟨rfl, rfl⟩
      case round =>
        obtain ⟨rfl, rfl⟩ := hrel
        go_wp2
        go_ret
        exact ⟨rfl, HR1.out, HB1.out⟩
  · rw [rdV_bad he, rdE_bad he, rdL_bad he]
    have t := rfTakeE (m := (m : Int)) h he
    have HH := (show Hid _ from h)
    clear h he
    go_enter Tryz.func142, Tryz.ntmps142
    go_wp2_with fail
    refine t.mono ?_
    rintro e w1 ⟨rfl, hw1⟩
    subst hw1
    clear t
    go_wp2_with fail
    go_loop [6, 7] (fun tx ti => tx = .int .u64 0 ∧ ti = .int .i64 0) (fun _ _ => 0)
    case atStart => exact ⟨rfl, rfl⟩
    case round =>
      obtain ⟨rfl, rfl⟩ := hrel
      go_wp2
      go_ret
      exact ⟨rfl, HH.out, But.refl _ _⟩
set_option maxRecDepth 100000 in
theorem rfEnd {w : World} {g b : Nat} {err : Int} {l : List Int} (h : RfA w g b err l) :
    Calls Tryz.prog 183 #[.pointer (some ⟨g, 0, none⟩)] w fun e w' => e = .returned (.int .i64 (endE err l)) ∧ RfA w' g b (endE err l) l ∧ But g w w' := by
  obtain ⟨ao, n, c, X, A⟩ := h.ex
  obtain ⟨o, h1, h2, ⟨h3, -⟩, -, -⟩ := A.ex
  have H : But g w (w.setCell ⟨g, 1, none⟩ (.int .i64 43)) := but_set _ _ _ _
  have HR : Hid (RfA (w.setCell ⟨g, 1, none⟩ (.int .i64 43)) g b 43 l ∧ But g w (w.setCell ⟨g, 1, none⟩ (.int .i64 43))) := ⟨⟨_, _, _, box_put1 X _, A.but X (no_u8f _ _ _ _) H⟩, H⟩
  obtain ⟨c1, c2, c3, c4⟩ := X.two
  have d2 := (box_put1 X (.int .i64 43)).two.2.1
  have HH := (show Hid _ from h)
  by_cases he : err = 0
  · subst he
    by_cases hl : l.length = 0
    · have e : endE 0 l = 0 := by unfold endE; rw [if_pos rfl, if_pos hl]
      rw [e]
      have hn : n = 0 := by omega
      subst hn
      clear X A h H HR e hl d2
      go_enter Tryz.func183, Tryz.ntmps183
      go_wp2
      go_ret
      exact ⟨rfl, HH.out, But.refl _ _⟩
    · have e : endE 0 l = 43 := by unfold endE; rw [if_pos rfl, if_neg hl]
      rw [e]
      have hn : 0 < n := by omega
      clear X A h H e hl HH
      go_enter Tryz.func183, Tryz.ntmps183
      go_wp2
      go_ret
      exact ⟨rfl, HR.out⟩
  · have e : endE err l = err := by unfold endE; rw [if_neg he]
    rw [e]
    have hb1 : (err == 0) = false := beq_eq_false_iff_ne.2 he
    clear X A h H HR e he d2
    go_enter Tryz.func183, Tryz.ntmps183
    go_wp2
    go_ret
    exact ⟨rfl, HH.out, But.refl _ _⟩
end Go.Proofs.YtenlhceceplldaaGreat

namespace Go.Proofs.YtenlhceceplldaaGreat
open Go.RowKit Lim

theorem bval_one {l : List Int} (h : 1 ≤ l.length) : bval (l.take 1) = nth l 0 := by
  cases l with
  | nil => simp at h
  | cons x t => simp [bval, nth]
theorem nth_drop1 (l : List Int) : nth (l.drop 1) 0 = nth l 1 := by
  cases l with
  | nil => rfl
  | cons x t => rfl
set_option maxHeartbeats 2000000 in
set_option maxRecDepth 100000 in
theorem rfBool {w : World} {g b : Nat} {err : Int} {l : List Int} (h : RfA w g b err l) :
    Calls Tryz.prog 147 #[.pointer (some ⟨g, 0, none⟩)] w fun e w' => e = .returned (.bool (rdV false (pBool l) err)) ∧ RfA w' g b (rdE (pBool l) err) (rdL (pBool l) err l) ∧ But g w w' := by
  obtain ⟨ao, n, c, X, A⟩ := h.ex
  obtain ⟨o, h1, h2, ⟨h3, -⟩, -, h5⟩ := A.ex
  obtain ⟨c1, c2, c3, c4⟩ := X.two
  by_cases he : err = 0
  · subst he
    by_cases hl : 1 ≤ l.length
    · have hc0 := h5.cell 0 (by omega)
      rw [Nat.add_zero] at hc0
      obtain rfl : ao = some ⟨b, o, none⟩ := by
        rcases h5.loc with e | e
        · rw [e] at hl; simp at hl
        · exact e
      have hn : 0 < n := by omega
      have hbv := bval_one hl
      have t := rfU (m := 1) h (by decide)
      have hpf : pFix 1 l = .inr (nth l 0, 1) := by unfold pFix; rw [if_pos hl, hbv]
      by_cases hx : 1 < nth l 0
      · have hp : pBool l = .inl 41 := by unfold pBool; rw [if_pos hl, hbv, if_pos hx]
        rw [hp]
        show Calls Tryz.prog _ _ w fun e w' => e = .returned (.bool false) ∧ RfA w' g b 41 l ∧ But g w w'
        have H : But g w (w.setCell ⟨g, 1, none⟩ (.int .i64 41)) := but_set _ _ _ _
        have R1 : RfA (w.setCell ⟨g, 1, none⟩ (.int .i64 41)) g b 41 l := ⟨_, _, _, box_put1 X _, A.but X (no_u8f _ _ _ _) H⟩
        have t1 : Calls Tryz.prog 142 #[.pointer (some ⟨g, 0, none⟩), .int .i64 1] (w.setCell ⟨g, 1, none⟩ (.int .i64 41)) fun e w' => e = .returned (.int .u64 0) ∧ RfA w' g b 41 l ∧ But g (w.setCell ⟨g, 1, none⟩ (.int .i64 41)) w' := rfU (m := 1) R1 (by decide)
        have HH := (show Hid _ from H)
        clear t hp hpf hbv h5 X A h R1 H
        generalize nth l 0 = x at *
        go_enter Tryz.func147, Tryz.ntmps147
        go_wp2_with fail
        refine t1.mono ?_
        rintro e w1 ⟨rfl, R2, b2⟩
        have HR := (show Hid _ from R2)
        have HB := (show Hid _ from HH.out.trans b2)
        clear t1 R2 b2
        go_wp2
        go_ret
        exact ⟨rfl, HR.out, HB.out⟩
      · have hp : pBool l = .inr (nth l 0 == 1, 1) := by unfold pBool; rw [if_pos hl, hbv, if_neg hx]
        rw [hp]
        rw [hpf] at t
        show Calls Tryz.prog _ _ w fun e w' => e = .returned (.bool (nth l 0 == 1)) ∧ RfA w' g b 0 (l.drop 1) ∧ But g w w'
        have t1 : Calls Tryz.prog 142 #[.pointer (some ⟨g, 0, none⟩), .int .i64 1] w fun e w' => e = .returned (.int .u64 (nth l 0)) ∧ RfA w' g b 0 (l.drop 1) ∧ But g w w' := t
        clear t hp hpf hbv h5 X A h
        have hq : ((1 : Int) < nth l 0) = False := eq_false hx
        clear hx
        generalize nth l 0 = x at *
        go_enter Tryz.func147, Tryz.ntmps147
        go_wp2_with fail
        refine t1.mono ?_
        rintro e w1 ⟨rfl, R2, b2⟩
        have HR := (show Hid _ from R2)
        have HB := (show Hid _ from b2)
        clear t1 R2 b2
        go_wp2
        go_ret
        exact ⟨rfl, HR.out, HB.out⟩
    · have hp : pBool l = .inl 40 := by unfold pBool; rw [if_neg hl]
      rw [hp]
      have hn : n = 0 := by omega
      subst hn
      have t1 : Calls Tryz.prog 142 #[.pointer (some ⟨g, 0, none⟩), .int .i64 1] w fun e w' => e = .returned (.int .u64 0) ∧ RfA w' g b 40 l ∧ But g w w' := by
        have t := rfU (m := 1) h (by decide)
        have e : pFix 1 l = .inl 40 := by unfold pFix; rw [if_neg hl]
        rw [e] at t
        exact t
      show Calls Tryz.prog _ _ w fun e w' => e = .returned (.bool false) ∧ RfA w' g b 40 l ∧ But g w w'
      clear hp h5 X A h hl
      go_enter Tryz.func147, Tryz.ntmps147
      go_wp2_with fail
      refine t1.mono ?_
      rintro e w1 ⟨rfl, R2, b2⟩
      have HR := (show Hid _ from R2)
      have HB := (show Hid _ from b2)
      clear t1 R2 b2
      go_wp2
      go_ret
      exact ⟨rfl, HR.out, HB.out⟩
  · have t := rfU (m := 1) h (by decide)
    rw [rdV_bad he, rdE_bad he, rdL_bad he] at t ⊢
    have hb1 : (err == 0) = false := beq_eq_false_iff_ne.2 he
    clear he h5 X A h
    go_enter Tryz.func147, Tryz.ntmps147
    go_wp2_with fail
    refine t.mono ?_
    rintro e w1 ⟨rfl, R2, b2⟩
    have HR := (show Hid _ from R2)
    have HB := (show Hid _ from b2)
    clear t R2 b2
    go_wp2
    go_ret
    exact ⟨rfl, HR.out, HB.out⟩
set_option maxHeartbeats 2000000 in
set_option maxRecDepth 100000 in
theorem rfNatE {w : World} {g b : Nat} {err : Int} {l : List Int} (h : RfA w g b err l) (he : err ≠ 0) :
    Calls Tryz.prog 190 #[.pointer (some ⟨g, 0, none⟩)] w fun e w' => e = .returned (.slice none 0 0) ∧ RfA w' g b err l ∧ But g w w' := by
  obtain ⟨ao, n, c, X, A⟩ := h.ex
  obtain ⟨c1, c2, c3, c4⟩ := X.two
  have HH := (show Hid _ from h)
  have hb1 : (err == 0) = false := beq_eq_false_iff_ne.2 he
  have hb2 : (err != 0) = true := bne_iff_ne.2 he
  clear X A h he
  go_enter Tryz.func190, Tryz.ntmps190
  go_wp2_with fail
  go_region
  go_wp2
  go_ret
  exact ⟨rfl, HH.out.keep (Below.refl _ _).drew, But.of (Below.refl _ _).drew⟩
end Go.Proofs.YtenlhceceplldaaGreat

namespace Go.Proofs.YtenlhceceplldaaGreat
open Go.RowKit Lim

theorem RfA.err {w : World} {g b n c : Nat} {ao : Option Addr} {l : List Int} (e : Int) (X : Box w g [.slice ao n c, .int .i64 0] 188) (A : ByA w b ao n c l) :
    RfA (w.drew.setCell ⟨g, 1, none⟩ (.int .i64 e)) g b e l ∧ But g w (w.drew.setCell ⟨g, 1, none⟩ (.int .i64 e)) := by
  have hd : Below w.heap.size w w.drew := (Below.refl _ _).drew
  have H : But g w.drew (w.drew.setCell ⟨g, 1, none⟩ (.int .i64 e)) := but_set _ _ _ _
  exact ⟨⟨_, _, _, box_put1 X.drew _, (A.keep hd).but X.drew (no_u8f _ _ _ _) H⟩, (But.of hd).trans H⟩
set_option maxHeartbeats 400000 in
set_option maxRecDepth 100000 in
theorem rfNatS {w : World} {g b : Nat} {l : List Int} (h : RfA w g b 0 l) (hs : ¬ (1 ≤ l.length ∧ 1 + cntOf 1 l ≤ l.length)) :
    Calls Tryz.prog 190 #[.pointer (some ⟨g, 0, none⟩)] w fun e w' => e = .returned (.slice none 0 0) ∧ RfA w' g b 40 l ∧ But g w w' := by
  obtain ⟨ao, n, c, X, A⟩ := h.ex
  obtain ⟨o, h1, h2, ⟨h3, -⟩, h4, h5⟩ := A.ex
  obtain ⟨c1, c2, c3, c4⟩ := X.two
  have HR := (show Hid _ from RfA.err 40 X A)
  have d2 := (box_put1 X.drew (.int .i64 40)).two.2.1
  by_cases hl : 1 ≤ l.length
  · have hc0 := h5.cell 0 (by omega)
    rw [Nat.add_zero] at hc0
    obtain rfl : ao = some ⟨b, o, none⟩ := by
      rcases h5.loc with e | e
      · rw [e] at hl; simp at hl
      · exact e
    have hn : 0 < n := by omega
    have hnz : (n == 0) = false := beq_eq_false_iff_ne.2 (by omega)
    have hnz2 : ((n : Int) == 0) = false := beq_eq_false_iff_ne.2 (by omega)
    have hnz3 : ((n : Int) = 0) = False := eq_false (by omega)
    have hnz4 : (n = 0) = False := eq_false (by omega)
    have hx : (cntOf 1 l : Int) = nth l 0 := by rw [cntOf_nn h4, bval_one hl]
    rw [← hx] at hc0
    have hxb : cntOf 1 l < 256 := by
      have := h4.nth 0
      omega
    have hlt : ¬ 1 + cntOf 1 l ≤ n := fun hh => hs ⟨hl, by omega⟩
    clear X A h hs h5 hx h4
    generalize cntOf 1 l = x at *
    have hq : ((n : Int) < 1 + (x : Int)) = True := eq_true (by omega)
    clear hlt
    go_enter Tryz.func190, Tryz.ntmps190
    go_wp2_with fail
    go_region
    go_wp2
    go_ret
    exact ⟨rfl, HR.out⟩
  · have hn : n = 0 := by omega
    subst hn
    clear X A h hs h5
    go_enter Tryz.func190, Tryz.ntmps190
    go_wp2_with fail
    go_region
    go_wp2
    go_ret
    exact ⟨rfl, HR.out⟩
set_option maxHeartbeats 400000 in
set_option maxRecDepth 100000 in
theorem rfNatF {w : World} {g b : Nat} {l : List Int} (h : RfA w g b 0 l) (hl : 1 ≤ l.length) (hs : 1 + cntOf 1 l ≤ l.length) (hz : 0 < cntOf 1 l ∧ nth (l.drop 1) 0 = 0) :
    Calls Tryz.prog 190 #[.pointer (some ⟨g, 0, none⟩)] w fun e w' => e = .returned (.slice none 0 0) ∧ RfA w' g b 41 l ∧ But g w w' := by
  obtain ⟨ao, n, c, X, A⟩ := h.ex
  obtain ⟨o, h1, h2, ⟨h3, -⟩, h4, h5⟩ := A.ex
  obtain ⟨c1, c2, c3, c4⟩ := X.two
  have HR := (show Hid _ from RfA.err 41 X A)
  have d2 := (box_put1 X.drew (.int .i64 41)).two.2.1
  have hc0 := h5.cell 0 (by omega)
  rw [Nat.add_zero] at hc0
  have hc1 := h5.cell 1 (by omega)
  rw [nth_drop1] at hz
  rw [hz.2] at hc1
  obtain rfl : ao = some ⟨b, o, none⟩ := by
    rcases h5.loc with e | e
    · rw [e] at hl; simp at hl
    · exact e
  have hn : 0 < n := by omega
  have hnz : (n == 0) = false := beq_eq_false_iff_ne.2 (by omega)
  have hnz2 : ((n : Int) == 0) = false := beq_eq_false_iff_ne.2 (by omega)
  have hnz3 : ((n : Int) = 0) = False := eq_false (by omega)
  have hnz4 : (n = 0) = False := eq_false (by omega)
  have hx : (cntOf 1 l : Int) = nth l 0 := by rw [cntOf_nn h4, bval_one hl]
  rw [← hx] at hc0
  have hxb : cntOf 1 l < 256 := by
    have := h4.nth 0
    omega
  have hz1 := hz.1
  rw [h1] at hs
  clear X A h h5 hx h4 hz hl
  generalize cntOf 1 l = x at *
  have hq : ((n : Int) < 1 + (x : Int)) = False := eq_false (by omega)
  have hn1 : (1 : Int) < n := by omega
  go_enter Tryz.func190, Tryz.ntmps190
  go_wp2_with fail
  go_region
  go_wp2
  go_ret
  exact ⟨rfl, HR.out⟩
set_option maxHeartbeats 400000 in
set_option maxRecDepth 100000 in
theorem rfNatY {w : World} {g b : Nat} {l : List Int} (h : RfA w g b 0 l) (hl : 1 ≤ l.length) (hs : 1 + cntOf 1 l ≤ l.length) (hz : ¬ (0 < cntOf 1 l ∧ nth (l.drop 1) 0 = 0)) :
    Calls Tryz.prog 190 #[.pointer (some ⟨g, 0, none⟩)] w fun e w' => ∃ a n c, e = .returned (.slice a n c) ∧ NatO w' a n c (bval ((l.drop 1).take (cntOf 1 l))) ∧ n ≤ 510 ∧ RfA w' g b 0 (l.drop (1 + cntOf 1 l)) ∧ But g w w' := by
  obtain ⟨ao, n, c, X, A⟩ := h.ex
  obtain ⟨o, h1, h2, ⟨h3, -⟩, h4, h5⟩ := A.ex
  obtain ⟨c1, c2, c3, c4⟩ := X.two
  have hc0 := h5.cell 0 (by omega)
  rw [Nat.add_zero] at hc0
  obtain rfl : ao = some ⟨b, o, none⟩ := by
    rcases h5.loc with e | e
    · rw [e] at hl; simp at hl
    · exact e
  have hn : 0 < n := by omega
  have hnz : (n == 0) = false := beq_eq_false_iff_ne.2 (by omega)
  have hnz2 : ((n : Int) == 0) = false := beq_eq_false_iff_ne.2 (by omega)
  have hnz3 : ((n : Int) = 0) = False := eq_false (by omega)
  have hnz4 : (n = 0) = False := eq_false (by omega)
  have hx : (cntOf 1 l : Int) = nth l 0 := by rw [cntOf_nn h4, bval_one hl]
  rw [← hx] at hc0
  have hxb : cntOf 1 l < 256 := by
    have := h4.nth 0
    omega
  have t := rfTake (h.keep (Below.refl w.heap.size w).drew) hs
  rw [show ((1 + cntOf 1 l : Nat) : Int) = 1 + (cntOf 1 l : Int) from by omega] at t
  have htk : (l.take (1 + cntOf 1 l)).drop 1 = (l.drop 1).take (cntOf 1 l) := by rw [Nat.add_comm, List.drop_take]; simp
  have hlb : ((l.drop 1).take (cntOf 1 l)).length = cntOf 1 l := by rw [List.length_take, List.length_drop]; omega
  have hob : Octets ((l.drop 1).take (cntOf 1 l)) := fun y hy => h4 y (List.mem_of_mem_drop (List.mem_of_mem_take hy))
  have hnb : 0 < cntOf 1 l → nth ((l.drop 1).take (cntOf 1 l)) 0 ≠ 0 := fun h0 h9 => hz ⟨h0, by rw [nth_take h0] at h9; exact h9⟩
  have hcell1 : 0 < cntOf 1 l → w.cell? ⟨b, o + 1, none⟩ = some (.int .u8 (nth l 1)) := fun _ => h5.cell 1 (by omega)
  have hne1 : 0 < cntOf 1 l → nth l 1 ≠ 0 := fun h0 h9 => hz ⟨h0, by rw [nth_drop1]; exact h9⟩
  rw [h1] at hs
  have HTK := (show Hid _ from htk)
  have HLB := (show Hid _ from hlb)
  have HOB := (show Hid _ from hob)
  have HNB := (show Hid _ from hnb)
  clear X A h h5 hx h4 hz htk hlb hob hnb
  generalize (l.drop 1).take (cntOf 1 l) = lb at *
  generalize l.drop (1 + cntOf 1 l) = rr at *
  generalize l.take (1 + cntOf 1 l) = ll at *
  generalize nth l 1 = y at *
  generalize cntOf 1 l = x at *
  have hq : ((n : Int) < 1 + (x : Int)) = False := eq_false (by omega)
  have hBD := (show Hid _ from (Below.refl w.heap.size w).drew)
  by_cases hz0 : x = 0
  · have hx0 : ((0 : Int) < (x : Int)) = False := eq_false (by omega)
    have hx1 : (0 < x) = False := eq_false (by omega)
    clear hcell1 hne1 hz0
    go_enter Tryz.func190, Tryz.ntmps190
    go_wp2_with fail
    go_region
    go_wp2_with fail
    refine t.mono ?_
    rintro e w1 ⟨ao, c9, rfl, A1, R1, b1⟩
    have hc9 : 1 + x ≤ c9 := by obtain ⟨_, _, h9, _⟩ := A1.ex; exact h9
    have A2 := A1.rest (k := 1) (by omega)
    rw [HTK.out, show 1 + x - 1 = x from by omega] at A2
    have hsl : ∀ W, (Instr.sliceAt 49 (.slice ao (1 + x) c9) (some (.int .i64 1)) none none).run Tryz.prog W = .ok (.slice (restAt ao c9 1) x (c9 - 1)) W := fun W => by
      have h9 := sliceB ao (1 + x) c9 1 W (by omega) hc9
      rw [show 1 + x - 1 = x from by omega] at h9
      exact h9
    obtain ⟨o2, k1, k2, k3, k4, k5⟩ := A2.ex
    have t2 := refFrom_yes (restAt ao c9 1) x (c9 - 1) b o2 lb w1 k1 (by omega) HOB.out k5 HNB.out
    have HR1 := (show Hid _ from R1)
    have HB1 := (show Hid _ from (But.of (g := g) hBD.out).trans b1)
    clear t A1 R1 b1 A2 k1 k2 k3 k4 k5
    go_wp2_with fail
    refine t2.mono ?_
    rintro e w2 ⟨v, r, rfl, N2, I2, hr2, b2⟩
    obtain ⟨a', c', rfl, hO⟩ := N2.o I2
    have HOO := (show Hid _ from hO)
    have HR2 := (show Hid _ from HR1.out.keep b2)
    have HB2 := (show Hid _ from HB1.out.trans (But.of b2))
    clear t2 N2 I2 hO b2
    go_wp2
    go_ret
    exact ⟨_, _, _, rfl, HOO.out, by omega, HR2.out, HB2.out⟩
  · have hx0 : (0 : Int) < (x : Int) := by omega
    have hx1 : 0 < x := by omega
    have hc1 := hcell1 hx1
    have hy : (y == 0) = false := beq_eq_false_iff_ne.2 (hne1 hx1)
    have hn1 : (1 : Int) < n := by omega
    clear hcell1 hne1 hz0
    go_enter Tryz.func190, Tryz.ntmps190
    go_wp2_with fail
    go_region
    go_wp2_with fail
    refine t.mono ?_
    rintro e w1 ⟨ao, c9, rfl, A1, R1, b1⟩
    have hc9 : 1 + x ≤ c9 := by obtain ⟨_, _, h9, _⟩ := A1.ex; exact h9
    have A2 := A1.rest (k := 1) (by omega)
    rw [HTK.out, show 1 + x - 1 = x from by omega] at A2
    have hsl : ∀ W, (Instr.sliceAt 49 (.slice ao (1 + x) c9) (some (.int .i64 1)) none none).run Tryz.prog W = .ok (.slice (restAt ao c9 1) x (c9 - 1)) W := fun W => by
      have h9 := sliceB ao (1 + x) c9 1 W (by omega) hc9
      rw [show 1 + x - 1 = x from by omega] at h9
      exact h9
    obtain ⟨o2, k1, k2, k3, k4, k5⟩ := A2.ex
    have t2 := refFrom_yes (restAt ao c9 1) x (c9 - 1) b o2 lb w1 k1 (by omega) HOB.out k5 HNB.out
    have HR1 := (show Hid _ from R1)
    have HB1 := (show Hid _ from (But.of (g := g) hBD.out).trans b1)
    clear t A1 R1 b1 A2 k1 k2 k3 k4 k5
    go_wp2_with fail
    refine t2.mono ?_
    rintro e w2 ⟨v, r, rfl, N2, I2, hr2, b2⟩
    obtain ⟨a', c', rfl, hO⟩ := N2.o I2
    have HOO := (show Hid _ from hO)
    have HR2 := (show Hid _ from HR1.out.keep b2)
    have HB2 := (show Hid _ from HB1.out.trans (But.of b2))
    clear t2 N2 I2 hO b2
    go_wp2
    go_ret
    exact ⟨_, _, _, rfl, HOO.out, by omega, HR2.out, HB2.out⟩
theorem rfNat {w : World} {g b : Nat} {err : Int} {l : List Int} (h : RfA w g b err l) :
    Calls Tryz.prog 190 #[.pointer (some ⟨g, 0, none⟩)] w fun e w' => ∃ a n c, e = .returned (.slice a n c) ∧ NatO w' a n c (rdV 0 (pNat l) err) ∧ n ≤ 510 ∧ RfA w' g b (rdE (pNat l) err) (rdL (pNat l) err l) ∧ But g w w' := by
  by_cases he : err = 0
  · subst he
    by_cases hl : 1 ≤ l.length ∧ 1 + cntOf 1 l ≤ l.length
    · by_cases hz : 0 < cntOf 1 l ∧ nth (l.drop 1) 0 = 0
      · have hp : pNat l = .inl 41 := by unfold pNat; rw [if_pos hl.1, if_pos hl.2, if_pos hz]
        rw [hp]
        refine (rfNatF h hl.1 hl.2 hz).mono ?_
        rintro e w' ⟨h1, h2, h3⟩
        exact ⟨none, 0, 0, h1, natO_nil _, by decide, h2, h3⟩
      · have hp : pNat l = .inr (bval ((l.drop 1).take (cntOf 1 l)), 1 + cntOf 1 l) := by unfold pNat; rw [if_pos hl.1, if_pos hl.2, if_neg hz]
        rw [hp]
        exact rfNatY h hl.1 hl.2 hz
    · have hp : pNat l = .inl 40 := by
        unfold pNat
        by_cases h1 : 1 ≤ l.length
        · rw [if_pos h1, if_neg (fun h2 => hl ⟨h1, h2⟩)]
        · rw [if_neg h1]
      rw [hp]
      refine (rfNatS h hl).mono ?_
      rintro e w' ⟨h1, h2, h3⟩
      exact ⟨none, 0, 0, h1, natO_nil _, by decide, h2, h3⟩
  · rw [rdV_bad he, rdE_bad he, rdL_bad he]
    refine (rfNatE h he).mono ?_
    rintro e w' ⟨h1, h2, h3⟩
    exact ⟨none, 0, 0, h1, natO_nil _, by decide, h2, h3⟩
end Go.Proofs.YtenlhceceplldaaGreat

namespace Go.Proofs.YtenlhceceplldaaGreat
open Go.RowKit Lim

theorem atB_srcS {w : World} {x : Addr} {b o : Nat} {l : List Int} (h : AtB w (some x) b o l) : ∀ j u, (l.map (Value.int .u8))[j]? = some u → w.cell? (x.add j) = some u := by
  intro j u hu
  rw [List.getElem?_map] at hu
  rcases Nat.lt_or_ge j l.length with hj | hj
  · rw [List.getElem?_eq_getElem hj] at hu
    simp at hu
    subst hu
    have hx : x = ⟨b, o, none⟩ := by
      rcases h.loc with e | e
      · subst e; simp at hj
      · simpa using e
    subst hx
    have := h.cell j hj
    rw [nth_eq hj] at this
    rw [addr_add]
    exact this
  · rw [List.getElem?_eq_none hj] at hu; simp at hu
theorem i64_or_nat (a b : Nat) (ha : a < 9223372036854775808) (hb : b < 9223372036854775808) : bits .or .i64 (a : Int) (b : Int) = ((a ||| b : Nat) : Int) := by
  have hx : a ||| b < 2 ^ 63 := Nat.or_lt_two_pow (by omega) (by omega)
  show IntKind.i64.wrap ((BitVec.ofInt 64 (a : Int) ||| BitVec.ofInt 64 (b : Int)).toNat : Int) = _
  rw [BitVec.toNat_or, ofInt_u64 a (by omega), ofInt_u64 b (by omega)]
  simp [IntKind.wrap, IntKind.bits, IntKind.signed]
  omega
theorem or_addi (a b : Int) (s : Nat) (k : Int) (ha : a = k * 2 ^ s) (hk : 0 ≤ k) (ha1 : a < 9223372036854775808) (hb0 : 0 ≤ b) (hb1 : b < 2 ^ s) (hb2 : b < 9223372036854775808) : bits .or .i64 a b = a + b := by
  have h2 : (0 : Int) < 2 ^ s := Int.pow_pos (by decide)
  have ha0 : 0 ≤ a := by rw [ha]; exact Int.mul_nonneg hk (Int.le_of_lt h2)
  obtain ⟨A, rfl⟩ := Int.eq_ofNat_of_zero_le ha0
  obtain ⟨k, rfl⟩ := Int.eq_ofNat_of_zero_le hk
  obtain ⟨b, rfl⟩ := Int.eq_ofNat_of_zero_le hb0
  rw [i64_or_nat A b (by omega) (by omega)]
  have e : A = 2 ^ s * k := by
    have : (A : Int) = ((2 ^ s * k : Nat) : Int) := by rw [ha, Int.natCast_mul, Int.natCast_pow, Int.mul_comm]; rfl
    omega
  have hb' : b < 2 ^ s := by
    have : ((2 ^ s : Nat) : Int) = 2 ^ s := by rw [Int.natCast_pow]; rfl
    omega
  rw [e, ← Nat.two_pow_add_eq_or_of_lt hb']
  omega
theorem bval_four {l : List Int} (h : 4 ≤ l.length) : bval (l.take 4) = nth l 0 * 16777216 + nth l 1 * 65536 + nth l 2 * 256 + nth l 3 := by
  match l, h with
  | a :: b :: c :: d :: r, _ =>
    simp [bval, nth]
    omega
theorem RfA.put {w : World} {g b G : Nat} {err : Int} {l : List Int} (h : RfA w g b err l) {v u : Value} {t : TypeId} (s : Slot w G v t) (hG : G ≠ g) (hv : ∀ x, v ≠ .int .u8 x) : RfA (w.setCell ⟨G, 0, none⟩ u) g b err l := by
  obtain ⟨ao, n, c, X, A⟩ := h.ex
  refine ⟨ao, n, c, ⟨?_⟩, A.box s.bx (fun v' hv' => by rw [List.mem_singleton] at hv'; subst hv'; exact hv) fun k hk => Below.heap_setCell _ _ _ k hk⟩
  rw [Below.heap_setCell _ _ _ g hG.symm]
  exact X.blk
set_option maxRecDepth 100000 in
theorem rfDec {w : World} {g b : Nat} {err : Int} {l : List Int} (h : RfA w g b err l) :
    Calls Tryz.prog 146 #[.pointer (some ⟨g, 0, none⟩)] w fun e w' => ∃ ao n c, e = .returned (.agg #[.slice ao n c]) ∧ NatO w' ao n c (rdV 0 (pNat l) err) ∧ n ≤ 510 ∧ RfA w' g b (rdE (pNat l) err) (rdL (pNat l) err l) ∧ But g w w' := by
  have HB := (show Hid _ from below_alloc w (.cells #[.slice none 0 0] 30))
  have S0 := slot_new w (.slice none 0 0) 30
  have hg : w.heap.size ≠ g := by have := h.lt; omega
  have HG := (show Hid _ from hg)
  have t := rfNat (h.keep HB.out)
  clear h hg
  generalize rdV 0 (pNat l) err = V at *
  generalize rdE (pNat l) err = E at *
  generalize rdL (pNat l) err l = R at *
  go_enter Tryz.func146, Tryz.ntmps146
  go_wp2_with fail
  refine t.mono ?_
  rintro e w1 ⟨ao, n, c, rfl, k3, k4, k1, k2⟩
  have S1 := S0.but k2 HG.out
  have c1 := S1.cell
  have f1 := S1.free
  have S2 := S1.put (.slice ao n c)
  have HO := (show Hid _ from k3.put S1 not_int (.slice ao n c))
  have HR := (show Hid _ from k1.put (u := .slice ao n c) S1 HG.out (fun x e => by cases e))
  have HW := (show Hid _ from ((But.of (g := g) HB.out).trans k2).put (Nat.le_refl _) (.slice ao n c))
  clear t S0 S1 k1 k2 k3 HB HG
  go_wp2
  refine bodyPost_ret (ret_dec rfl rfl S2) rfl ?_
  exact ⟨ao, n, c, rfl, HO.out, k4, HR.out, HW.out⟩
end Go.Proofs.YtenlhceceplldaaGreat

namespace Go.Proofs.YtenlhceceplldaaGreat
namespace Rc
open Go.RowKit Go.Lib Pg Lim
attribute [local go_sem] Oper.semAt_some
set_option maxHeartbeats 400000 in
set_option maxRecDepth 100000 in
theorem rfNatYW {w : World} {g b : Nat} {l : List Int} (h : RfA w g b 0 l) (hl : 1 ≤ l.length) (hs : 1 + cntOf 1 l ≤ l.length) (hz : ¬ (0 < cntOf 1 l ∧ nth (l.drop 1) 0 = 0)) :
    Calls Tryz.prog 190 #[.pointer (some ⟨g, 0, none⟩)] w fun e w' => ∃ a n c, e = .returned (.slice a n c) ∧ NatW w' w.heap.size a n c (bval ((l.drop 1).take (cntOf 1 l))) ∧ n ≤ 510 ∧ RfA w' g b 0 (l.drop (1 + cntOf 1 l)) ∧ But g w w' := by
  obtain ⟨ao, n, c, X, A⟩ := h.ex
  obtain ⟨o, h1, h2, ⟨h3, -⟩, h4, h5⟩ := A.ex
  obtain ⟨c1, c2, c3, c4⟩ := X.two
  have hc0 := h5.cell 0 (by omega)
  rw [Nat.add_zero] at hc0
  obtain rfl : ao = some ⟨b, o, none⟩ := by
    rcases h5.loc with e | e
    · rw [e] at hl; simp at hl
    · exact e
  have hn : 0 < n := by omega
  have hnz : (n == 0) = false := beq_eq_false_iff_ne.2 (by omega)
  have hnz2 : ((n : Int) == 0) = false := beq_eq_false_iff_ne.2 (by omega)
  have hnz3 : ((n : Int) = 0) = False := eq_false (by omega)
  have hnz4 : (n = 0) = False := eq_false (by omega)
  have hx : (cntOf 1 l : Int) = nth l 0 := by rw [cntOf_nn h4, bval_one hl]
  rw [← hx] at hc0
  have hxb : cntOf 1 l < 256 := by
    have := h4.nth 0
    omega
  have t := rfTake (h.keep (Below.refl w.heap.size w).drew) hs
  rw [show ((1 + cntOf 1 l : Nat) : Int) = 1 + (cntOf 1 l : Int) from by omega] at t
  have htk : (l.take (1 + cntOf 1 l)).drop 1 = (l.drop 1).take (cntOf 1 l) := by rw [Nat.add_comm, List.drop_take]; simp
  have hlb : ((l.drop 1).take (cntOf 1 l)).length = cntOf 1 l := by rw [List.length_take, List.length_drop]; omega
  have hob : Octets ((l.drop 1).take (cntOf 1 l)) := fun y hy => h4 y (List.mem_of_mem_drop (List.mem_of_mem_take hy))
  have hnb : 0 < cntOf 1 l → nth ((l.drop 1).take (cntOf 1 l)) 0 ≠ 0 := fun h0 h9 => hz ⟨h0, by rw [nth_take h0] at h9; exact h9⟩
  have hcell1 : 0 < cntOf 1 l → w.cell? ⟨b, o + 1, none⟩ = some (.int .u8 (nth l 1)) := fun _ => h5.cell 1 (by omega)
  have hne1 : 0 < cntOf 1 l → nth l 1 ≠ 0 := fun h0 h9 => hz ⟨h0, by rw [nth_drop1]; exact h9⟩
  rw [h1] at hs
  have HTK := (show Hid _ from htk)
  have HLB := (show Hid _ from hlb)
  have HOB := (show Hid _ from hob)
  have HNB := (show Hid _ from hnb)
  clear X A h h5 hx h4 hz htk hlb hob hnb
  generalize (l.drop 1).take (cntOf 1 l) = lb at *
  generalize l.drop (1 + cntOf 1 l) = rr at *
  generalize l.take (1 + cntOf 1 l) = ll at *
  generalize nth l 1 = y at *
  generalize cntOf 1 l = x at *
  have hq : ((n : Int) < 1 + (x : Int)) = False := eq_false (by omega)
  have hBD := (show Hid _ from (Below.refl w.heap.size w).drew)
  by_cases hz0 : x = 0
  · have hx0 : ((0 : Int) < (x : Int)) = False := eq_false (by omega)
    have hx1 : (0 < x) = False := eq_false (by omega)
    clear hcell1 hne1 hz0
    go_enter Tryz.func190, Tryz.ntmps190
    go_wp2_with fail
    go_region
    go_wp2_with fail
    refine t.mono ?_
    rintro e w1 ⟨ao, c9, rfl, A1, R1, b1⟩
    have hc9 : 1 + x ≤ c9 := by obtain ⟨_, _, h9, _⟩ := A1.ex; exact h9
    have A2 := A1.rest (k := 1) (by omega)
    rw [HTK.out, show 1 + x - 1 = x from by omega] at A2
    have hsl : ∀ W, (Instr.sliceAt 49 (.slice ao (1 + x) c9) (some (.int .i64 1)) none none).run Tryz.prog W = .ok (.slice (restAt ao c9 1) x (c9 - 1)) W := fun W => by
      have h9 := sliceB ao (1 + x) c9 1 W (by omega) hc9
      rw [show 1 + x - 1 = x from by omega] at h9
      exact h9
    obtain ⟨o2, k1, k2, k3, k4, k5⟩ := A2.ex
    have t2 := refFrom_yes (restAt ao c9 1) x (c9 - 1) b o2 lb w1 k1 (by omega) HOB.out k5 HNB.out
    have HR1 := (show Hid _ from R1)
    have HB1 := (show Hid _ from (But.of (g := g) hBD.out).trans b1)
    clear t A1 R1 b1 A2 k1 k2 k3 k4 k5
    go_wp2_with fail
    refine t2.mono ?_
    rintro e w2 ⟨v, r, rfl, N2, I2, hr2, b2⟩
    obtain ⟨a', c', rfl, hO⟩ := newV_w N2 I2 (show w.heap.size ≤ w1.heap.size from HB1.out.size)
    have HOO := (show Hid _ from hO)
    have HR2 := (show Hid _ from HR1.out.keep b2)
    have HB2 := (show Hid _ from HB1.out.trans (But.of b2))
    clear t2 N2 I2 hO b2
    go_wp2
    go_ret
    exact ⟨_, _, _, rfl, HOO.out, by omega, HR2.out, HB2.out⟩
  · have hx0 : (0 : Int) < (x : Int) := by omega
    have hx1 : 0 < x := by omega
    have hc1 := hcell1 hx1
    have hy : (y == 0) = false := beq_eq_false_iff_ne.2 (hne1 hx1)
    have hn1 : (1 : Int) < n := by omega
    clear hcell1 hne1 hz0
    go_enter Tryz.func190, Tryz.ntmps190
    go_wp2_with fail
    go_region
    go_wp2_with fail
    refine t.mono ?_
    rintro e w1 ⟨ao, c9, rfl, A1, R1, b1⟩
    have hc9 : 1 + x ≤ c9 := by obtain ⟨_, _, h9, _⟩ := A1.ex; exact h9
    have A2 := A1.rest (k := 1) (by omega)
    rw [HTK.out, show 1 + x - 1 = x from by omega] at A2
    have hsl : ∀ W, (Instr.sliceAt 49 (.slice ao (1 + x) c9) (some (.int .i64 1)) none none).run Tryz.prog W = .ok (.slice (restAt ao c9 1) x (c9 - 1)) W := fun W => by
      have h9 := sliceB ao (1 + x) c9 1 W (by omega) hc9
      rw [show 1 + x - 1 = x from by omega] at h9
      exact h9
    obtain ⟨o2, k1, k2, k3, k4, k5⟩ := A2.ex
    have t2 := refFrom_yes (restAt ao c9 1) x (c9 - 1) b o2 lb w1 k1 (by omega) HOB.out k5 HNB.out
    have HR1 := (show Hid _ from R1)
    have HB1 := (show Hid _ from (But.of (g := g) hBD.out).trans b1)
    clear t A1 R1 b1 A2 k1 k2 k3 k4 k5
    go_wp2_with fail
    refine t2.mono ?_
    rintro e w2 ⟨v, r, rfl, N2, I2, hr2, b2⟩
    obtain ⟨a', c', rfl, hO⟩ := newV_w N2 I2 (show w.heap.size ≤ w1.heap.size from HB1.out.size)
    have HOO := (show Hid _ from hO)
    have HR2 := (show Hid _ from HR1.out.keep b2)
    have HB2 := (show Hid _ from HB1.out.trans (But.of b2))
    clear t2 N2 I2 hO b2
    go_wp2
    go_ret
    exact ⟨_, _, _, rfl, HOO.out, by omega, HR2.out, HB2.out⟩
theorem rfNatW {w : World} {g b : Nat} {err : Int} {l : List Int} (h : RfA w g b err l) :
    Calls Tryz.prog 190 #[.pointer (some ⟨g, 0, none⟩)] w fun e w' => ∃ a n c, e = .returned (.slice a n c) ∧ NatW w' w.heap.size a n c (rdV 0 (pNat l) err) ∧ n ≤ 510 ∧ RfA w' g b (rdE (pNat l) err) (rdL (pNat l) err l) ∧ But g w w' := by
  by_cases he : err = 0
  · subst he
    by_cases hl : 1 ≤ l.length ∧ 1 + cntOf 1 l ≤ l.length
    · by_cases hz : 0 < cntOf 1 l ∧ nth (l.drop 1) 0 = 0
      · have hp : pNat l = .inl 41 := by unfold pNat; rw [if_pos hl.1, if_pos hl.2, if_pos hz]
        rw [hp]
        refine (rfNatF h hl.1 hl.2 hz).mono ?_
        rintro e w' ⟨h1, h2, h3⟩
        exact ⟨none, 0, 0, h1, natW_nil _ _, by decide, h2, h3⟩
      · have hp : pNat l = .inr (bval ((l.drop 1).take (cntOf 1 l)), 1 + cntOf 1 l) := by unfold pNat; rw [if_pos hl.1, if_pos hl.2, if_neg hz]
        rw [hp]
        exact rfNatYW h hl.1 hl.2 hz
    · have hp : pNat l = .inl 40 := by
        unfold pNat
        by_cases h1 : 1 ≤ l.length
        · rw [if_pos h1, if_neg (fun h2 => hl ⟨h1, h2⟩)]
        · rw [if_neg h1]
      rw [hp]
      refine (rfNatS h hl).mono ?_
      rintro e w' ⟨h1, h2, h3⟩
      exact ⟨none, 0, 0, h1, natW_nil _ _, by decide, h2, h3⟩
  · rw [rdV_bad he, rdE_bad he, rdL_bad he]
    refine (rfNatE h he).mono ?_
    rintro e w' ⟨h1, h2, h3⟩
    exact ⟨none, 0, 0, h1, natW_nil _ _, by decide, h2, h3⟩
set_option maxRecDepth 100000 in
theorem rfDecW {w : World} {g b : Nat} {err : Int} {l : List Int} (h : RfA w g b err l) :
    Calls Tryz.prog 146 #[.pointer (some ⟨g, 0, none⟩)] w fun e w' => ∃ ao n c, e = .returned (.agg #[.slice ao n c]) ∧ NatW w' w.heap.size ao n c (rdV 0 (pNat l) err) ∧ n ≤ 510 ∧ RfA w' g b (rdE (pNat l) err) (rdL (pNat l) err l) ∧ But g w w' := by
  have HB := (show Hid _ from below_alloc w (.cells #[.slice none 0 0] 30))
  have S0 := slot_new w (.slice none 0 0) 30
  have hg : w.heap.size ≠ g := by have := h.lt; omega
  have HG := (show Hid _ from hg)
  have t := rfNatW (h.keep HB.out)
  clear h hg
  generalize rdV 0 (pNat l) err = V at *
  generalize rdE (pNat l) err = E at *
  generalize rdL (pNat l) err l = R at *
  go_enter Tryz.func146, Tryz.ntmps146
  go_wp2_with fail
  refine t.mono ?_
  rintro e w1 ⟨ao, n, c, rfl, k3, k4, k1, k2⟩
  have S1 := S0.but k2 HG.out
  have c1 := S1.cell
  have f1 := S1.free
  have S2 := S1.put (.slice ao n c)
  have HO := (show Hid (NatW (w1.setCell ⟨w.heap.size, 0, none⟩ (.slice ao n c)) w.heap.size ao n c V) from (k3.off (w' := w1.setCell ⟨w.heap.size, 0, none⟩ (.slice ao n c)) (by rw [size_set]; exact Nat.le_refl _) (fun b hb _ => Below.heap_setCell _ _ _ b (by have := size_al w (.cells #[.slice none 0 0] 30); show b ≠ w.heap.size; omega))).low HB.out.size)
  have HR := (show Hid _ from k1.put (u := .slice ao n c) S1 HG.out (fun x e => by cases e))
  have HW := (show Hid _ from ((But.of (g := g) HB.out).trans k2).put (Nat.le_refl _) (.slice ao n c))
  clear t S0 S1 k1 k2 k3 HB HG
  go_wp2
  refine bodyPost_ret (ret_dec rfl rfl S2) rfl ?_
  exact ⟨ao, n, c, rfl, HO.out, k4, HR.out, HW.out⟩
end Rc
end Go.Proofs.YtenlhceceplldaaGreat

namespace Go.Proofs.YtenlhceceplldaaGreat
namespace Rc
open Go.RowKit Go.Lib Pg Lim Gl
/-- what a record's reading gives -/
def outR (s : RSt) : Int := if endE s.1 s.2.1 = 0 then 0 else 80
def outX (s : RSt) : Nat → Int := if endE s.1 s.2.1 = 0 then s.2.2 else fun _ => 0
theorem outX_ok {s : RSt} (h : outR s = 0) : outX s = s.2.2 := by
  unfold outR at h
  unfold outX
  split at h
  · rename_i h'; rw [if_pos h']
  · cases h
theorem outX_no {s : RSt} (h : ¬ outR s = 0) : outX s = fun _ => 0 := by
  unfold outR at h
  unfold outX
  split at h
  · exact absurd rfl h
  · rename_i h'; rw [if_neg h']
theorem out_of {s : RSt} {xs : Nat → Int} {r : Int} (h1 : endE s.1 s.2.1 = 0 → r = 0 ∧ xs = s.2.2) (h2 : endE s.1 s.2.1 ≠ 0 → r = 80 ∧ xs = fun _ => 0) : xs = outX s ∧ r = outR s := by
  unfold outX outR
  by_cases h : endE s.1 s.2.1 = 0
  · rw [if_pos h, if_pos h]; exact ⟨(h1 h).2, (h1 h).1⟩
  · rw [if_neg h, if_neg h]; exact ⟨(h2 h).2, (h2 h).1⟩
theorem But.blk {w w' : World} {b g : Nat} {cs : List Value} {t : TypeId} (h : But b w w') (X : Blk w g cs t) (hn : g ≠ b) : Blk w' g cs t := X.same (h.block g X.lt hn)
theorem chg_but {g : Nat} {w w' : World} (h : Chg (· = g) w w') : But g w w' := ⟨h.os, h.tape, h.output, h.size, fun b hb hne => h.same b hb hne⟩
def u8V : Value → Bool
  | .int .u8 _ => true
  | _ => false
theorem RfA.offB {w w' : World} {g g' b : Nat} {err : Int} {l : List Int} {cs : List Value} {t : TypeId} (h : RfA w g b err l) (X : Blk w g' cs t) (hno : cs.any u8V = false) (hne : g ≠ g') (hB : But g' w w') : RfA w' g b err l := by
  obtain ⟨ao, n, c, Y, A⟩ := h.ex
  exact ⟨ao, n, c, ⟨by rw [hB.block g Y.lt hne]; exact Y.blk⟩, A.but ⟨X.blk⟩ (fun v hv x e => by
    have := List.any_eq_false.1 hno v hv
    rw [e] at this
    exact this rfl) hB⟩
theorem NatW.keep {w w' : World} {B n c : Nat} {ao : Option Addr} {x : Int} (h : NatW w B ao n c x) (hb : Below w.heap.size w w') : NatW w' B ao n c x := h.off hb.size fun b _ hl => hb.block b hl
theorem NatW.but {w w' : World} {B n c g : Nat} {ao : Option Addr} {x : Int} (h : NatW w B ao n c x) (hb : But g w w') (hg : g < B) : NatW w' B ao n c x := h.off hb.size fun b hB hl => hb.block b hl (by omega)
/-- a number in blocks from B to T that stay as they were -/
structure NatX (w : World) (B T : Nat) (ao : Option Addr) (n c : Nat) (x : Int) : Prop where
  ex : ∃ w0 : World, w0.heap.size = T ∧ T ≤ w.heap.size ∧ NatW w0 B ao n c x ∧ ∀ b, B ≤ b → b < T → w.heap[b]? = w0.heap[b]?
theorem natX {w : World} {B n c : Nat} {ao : Option Addr} {x : Int} (h : NatW w B ao n c x) : NatX w B w.heap.size ao n c x := ⟨w, rfl, Nat.le_refl _, h, fun _ _ _ => rfl⟩
theorem NatX.nat {w : World} {B T n c : Nat} {ao : Option Addr} {x : Int} (h : NatX w B T ao n c x) : NatW w B ao n c x := by
  obtain ⟨w0, h1, h2, h3, h4⟩ := h.ex
  exact h3.off (by omega) fun b hb hl => h4 b hb (by omega)
theorem NatX.but {w w' : World} {B T n c g : Nat} {ao : Option Addr} {x : Int} (h : NatX w B T ao n c x) (U : But g w w') (hg : g < B ∨ T ≤ g) : NatX w' B T ao n c x := by
  obtain ⟨w0, h1, h2, h3, h4⟩ := h.ex
  exact ⟨w0, h1, Nat.le_trans h2 U.size, h3, fun b hb hl => (U.block b (by omega) (by omega)).trans (h4 b hb hl)⟩
theorem NatX.keep {w w' : World} {B T n c : Nat} {ao : Option Addr} {x : Int} (h : NatX w B T ao n c x) (U : Below w.heap.size w w') : NatX w' B T ao n c x := by
  obtain ⟨w0, h1, h2, h3, h4⟩ := h.ex
  exact ⟨w0, h1, Nat.le_trans h2 U.size, h3, fun b hb hl => (U.block b (by omega)).trans (h4 b hb hl)⟩
theorem jU {w : World} {g b : Nat} {s : RSt} (o : Nat) (h : RfA w g b s.1 s.2.1) : Calls Tryz.prog 142 #[pg g, .int .i64 8] w fun e w' => ∃ s', s' = rnx 0 o s ∧ e = .returned (.int .u64 (s'.2.2 o)) ∧ RfA w' g b s'.1 s'.2.1 ∧ But g w w' := by
  refine (rfU (m := 8) h (by decide)).mono ?_
  rintro e w' ⟨rfl, R, U⟩
  refine ⟨_, rfl, ?_, R, U⟩
  simp [rnx, p1]
theorem jB {w : World} {g b : Nat} {s : RSt} (o : Nat) (h : RfA w g b s.1 s.2.1) : Calls Tryz.prog 147 #[pg g] w fun e w' => ∃ s', s' = rnx 1 o s ∧ e = .returned (.bool (s'.2.2 o == 1)) ∧ RfA w' g b s'.1 s'.2.1 ∧ But g w w' := by
  refine (rfBool h).mono ?_
  rintro e w' ⟨rfl, R, U⟩
  refine ⟨_, rfl, ?_, ?_, U⟩
  · simp only [rnx, p1, if_true, pBoolI_V]
    cases rdV false (pBool s.2.1) s.1 <;> rfl
  · simp only [rnx, p1, pBoolI_E, pBoolI_L]
    exact R
theorem jD {w : World} {g b : Nat} {s : RSt} (o : Nat) (h : RfA w g b s.1 s.2.1) : Calls Tryz.prog 146 #[pg g] w fun e w' => ∃ s', s' = rnx 2 o s ∧ ∃ a n c, e = .returned (.agg #[.slice a n c]) ∧ NatW w' w.heap.size a n c (s'.2.2 o) ∧ n ≤ 510 ∧ RfA w' g b s'.1 s'.2.1 ∧ But g w w' := by
  refine (rfDecW h).mono ?_
  rintro e w' ⟨a, n, c, rfl, N, hn, R, U⟩
  refine ⟨_, rfl, a, n, c, rfl, ?_, hn, R, U⟩
  simpa [rnx, p1] using N
set_option maxRecDepth 100000 in
theorem jends {w : World} {g b : Nat} {s : RSt} (h : RfA w g b s.1 s.2.1) : Calls Tryz.prog 143 #[pg g] w fun e w' => e = .returned (.int .i64 (outR s)) ∧ But g w w' := by
  refine gc_enter (n := 6) Tryz.func143 rfl (by kernel_rfl) (by kernel_rfl) ?_
  refine gc_seq ?_
  refine gc_reg ?_
  refine t 2 (.int .i64 0) ?_
  refine gl_nil ?_
  refine ge_then ?_
  refine gc_seq ?_
  refine gc_seq ?_
  refine gc_reg ?_
  refine t 3 (pg g) ?_
  refine tc 4 183 #[pg g] (rfEnd h) ?_
  rintro _ v1 ⟨rfl, -, U⟩
  refine ⟨_, rfl, ?_⟩
  by_cases c2 : (endE s.1 s.2.1 : Int) = 0
  · refine tq 5 (.bool ((endE s.1 s.2.1 : Int) != 0)) (.bool false) (congrArg Value.bool (bne_eq_false_iff_eq.2 c2)) ?_
    refine gl_nil ?_
    refine ge_then ?_
    refine gc_no ?_
    refine gc_skip ?_
    refine ge_then ?_
    refine gc_seq ?_
    refine gc_reg ?_
    refine t 2 (.int .i64 0) ?_
    refine gl_nil ?_
    refine ge_then ?_
    refine gc_ret ?_
    refine ge_ret (.int .i64 0) (rs1 2 (by kernel_rfl) (by kernel_rfl)) ?_
    exact ⟨by unfold outR; rw [if_pos c2], U⟩
  · refine tq 5 (.bool ((endE s.1 s.2.1 : Int) != 0)) (.bool true) (congrArg Value.bool (bne_iff_ne.2 c2)) ?_
    refine gl_nil ?_
    refine ge_then ?_
    refine gc_yes ?_
    refine gc_seq ?_
    refine gc_reg ?_
    refine t 2 (.int .i64 80) ?_
    refine gl_nil ?_
    refine ge_then ?_
    refine gc_ret ?_
    refine ge_tr ?_
    refine ge_ret (.int .i64 80) (rs1 2 (by kernel_rfl) (by kernel_rfl)) ?_
    exact ⟨by unfold outR; rw [if_neg c2], U⟩
def stParams (l : List Int) : RSt := thr rnx [(0, 0), (0, 1), (0, 2), (0, 3), (0, 4), (0, 5), (0, 6), (0, 7), (0, 8), (0, 9)] (0, l, fun _ => 0)
theorem outParams {w w' : World} {s : RSt} {e : Ending} (h : FinR w kd_Params 10 mkA s e w') : e = .returned (.tuple #[.agg #[.int .u64 (outX s 0), .int .u64 (outX s 1), .int .u64 (outX s 2), .int .u64 (outX s 3), .int .u64 (outX s 4), .int .u64 (outX s 5), .int .u64 (outX s 6), .int .u64 (outX s 7), .int .u64 (outX s 8), .int .u64 (outX s 9)], .int .i64 (outR s)]) ∧ Below w.heap.size w w' := by
  obtain ⟨⟨cs, xs, r, rfl, h1, h2, h3, h4⟩, B⟩ := h
  obtain ⟨e1, e2⟩ := out_of h3 h4
  subst e1 e2
  have q0 := (h2 0).1 rfl
  have q1 := (h2 1).1 rfl
  have q2 := (h2 2).1 rfl
  have q3 := (h2 3).1 rfl
  have q4 := (h2 4).1 rfl
  have q5 := (h2 5).1 rfl
  have q6 := (h2 6).1 rfl
  have q7 := (h2 7).1 rfl
  have q8 := (h2 8).1 rfl
  have q9 := (h2 9).1 rfl
  have ecs : cs = [.int .u64 (outX s 0), .int .u64 (outX s 1), .int .u64 (outX s 2), .int .u64 (outX s 3), .int .u64 (outX s 4), .int .u64 (outX s 5), .int .u64 (outX s 6), .int .u64 (outX s 7), .int .u64 (outX s 8), .int .u64 (outX s 9)] := by
    refine List.ext_getElem? fun i => ?_
    rcases Nat.lt_or_ge i 10 with hi | hi
    · match i, hi with
      | 0, _ => exact q0
      | 1, _ => exact q1
      | 2, _ => exact q2
      | 3, _ => exact q3
      | 4, _ => exact q4
      | 5, _ => exact q5
      | 6, _ => exact q6
      | 7, _ => exact q7
      | 8, _ => exact q8
      | 9, _ => exact q9
      | n + 10, h => exact absurd h (by omega)
    · rw [List.getElem?_eq_none (by omega), List.getElem?_eq_none hi]
  subst ecs
  exact ⟨rfl, B⟩
theorem oParams {w : World} {bb n c : Nat} {ao : Option Addr} {l : List Int} (A : ByA w bb ao n c l) (hn : n ≤ 1000000000) : Calls Tryz.prog 71 #[.slice ao n c] w fun e w' => e = .returned (.tuple #[.agg #[.int .u64 (outX (stParams l) 0), .int .u64 (outX (stParams l) 1), .int .u64 (outX (stParams l) 2), .int .u64 (outX (stParams l) 3), .int .u64 (outX (stParams l) 4), .int .u64 (outX (stParams l) 5), .int .u64 (outX (stParams l) 6), .int .u64 (outX (stParams l) 7), .int .u64 (outX (stParams l) 8), .int .u64 (outX (stParams l) 9)], .int .i64 (outR (stParams l))]) ∧ Below w.heap.size w w' := by
  refine (Params_any A hn (by obtain ⟨o, h1, _⟩ := A.ex; exact h1)).mono ?_
  intro e w' h
  exact outParams h
set_option maxHeartbeats 2000000 in
set_option maxRecDepth 100000 in
theorem rParams {w : World} {bb n c : Nat} {ao : Option Addr} {l : List Int} (A : ByA w bb ao n c l) :
    Calls Tryz.prog 72 #[.slice ao n c] w fun e w' => e = .returned (.tuple #[.agg #[.int .u64 (outX (stParams l) 0), .int .u64 (outX (stParams l) 1), .int .u64 (outX (stParams l) 2), .int .u64 (outX (stParams l) 3), .int .u64 (outX (stParams l) 4), .int .u64 (outX (stParams l) 5), .int .u64 (outX (stParams l) 6), .int .u64 (outX (stParams l) 7), .int .u64 (outX (stParams l) 8), .int .u64 (outX (stParams l) 9)], .int .i64 (outR (stParams l))]) ∧ Below w.heap.size w w' := by
  have BB := Below.refl w.heap.size w
  obtain ⟨s0, hs0⟩ : ∃ s : RSt, (0, l, fun _ => 0) = s := ⟨_, rfl⟩
  refine gc_enter (n := 47) Tryz.func72 rfl (by kernel_rfl) (by kernel_rfl) ?_
  refine gc_seq ?_
  refine gc_reg ?_
  refine ta 2 [.int .u64 0, .int .u64 0, .int .u64 0, .int .u64 0, .int .u64 0, .int .u64 0, .int .u64 0, .int .u64 0, .int .u64 0, .int .u64 0] 24 (pg) ?_
  intro v1 g2 Xg2 hg2 B
  have zg2 := Nat.le_trans BB.size hg2
  replace BB := joinB BB B
  clear B
  refine t 3 (.int .i64 0) ?_
  refine gl_nil ?_
  refine ge_then ?_
  refine gc_seq ?_
  refine gc_reg ?_
  refine t 7 (.slice ao n c) ?_
  refine t 8 (.agg #[.slice ao n c, .int .i64 0]) ?_
  have lXg2 := Xg2.lt
  refine ta 9 [.slice ao n c, .int .i64 0] 188 (pg) ?_
  intro v3 g4 Xg4 hg4 B
  have zg4 := Nat.le_trans BB.size hg4
  replace BB := joinB BB B
  replace Xg2 := Xg2.keep B
  clear B
  have RF : RfA v3 g4 bb s0.1 s0.2.1 := by subst hs0; exact ⟨ao, n, c, ⟨Xg4.blk⟩, A.keep BB⟩
  clear Xg4
  have lRF := RF.lt
  refine t 4 (pg g4) ?_
  refine gl_nil ?_
  refine ge_then ?_
  refine gc_seq ?_
  refine gc_reg ?_
  have lXg2 := Xg2.lt
  have lRF := RF.lt
  refine ta 5 [.int .u64 0, .int .u64 0, .int .u64 0, .int .u64 0, .int .u64 0, .int .u64 0, .int .u64 0, .int .u64 0, .int .u64 0, .int .u64 0] 24 (pg) ?_
  intro v5 g6 Xg6 hg6 B
  have zg6 := Nat.le_trans BB.size hg6
  replace BB := joinB BB B
  replace Xg2 := Xg2.keep B
  replace RF := RF.keep B
  clear B
  refine gl_nil ?_
  refine ge_then ?_
  refine gc_seq ?_
  refine gc_reg ?_
  refine t 10 (pg g4) ?_
  refine tc 11 142 #[pg g4, .int .i64 8] (jU 0 (s := s0) RF) ?_
  rintro _ v7 ⟨s1, e1, rfl, RG, U⟩
  refine ⟨_, rfl, ?_⟩
  replace BB := But.below U BB (by omega) (Nat.le_refl _)
  replace Xg2 := But.blk U Xg2 (show g2 ≠ g4 by omega)
  replace Xg6 := But.blk U Xg6 (show g6 ≠ g4 by omega)
  clear U
  replace RF := RG
  clear RG
  refine t 12 (pg g6) ?_
  refine ts Xg6 0 (.int .u64 (s1.2.2 0)) [.int .u64 (s1.2.2 0)] [.int .u64 (s1.2.2 0), .int .u64 0, .int .u64 0, .int .u64 0, .int .u64 0, .int .u64 0, .int .u64 0, .int .u64 0, .int .u64 0, .int .u64 0] ?_
  intro v8 Y C
  replace BB := belowC BB C (by omega)
  replace Xg2 := Xg2.chg C (show g2 ≠ g6 by omega)
  replace RF := RfA.offB RF Xg6 rfl (by omega) (chg_but C)
  clear C Xg6
  have Xg6 := Y
  clear Y
  refine gl_nil ?_
  refine ge_then ?_
  refine gc_seq ?_
  refine gc_reg ?_
  refine t 13 (pg g4) ?_
  refine tc 14 142 #[pg g4, .int .i64 8] (jU 1 (s := s1) RF) ?_
  rintro _ v9 ⟨s2, e2, rfl, RG, U⟩
  refine ⟨_, rfl, ?_⟩
  replace BB := But.below U BB (by omega) (Nat.le_refl _)
  replace Xg2 := But.blk U Xg2 (show g2 ≠ g4 by omega)
  replace Xg6 := But.blk U Xg6 (show g6 ≠ g4 by omega)
  clear U
  replace RF := RG
  clear RG
  refine t 15 (pq g6 1) ?_
  refine ts Xg6 1 (.int .u64 (s2.2.2 1)) [.int .u64 (s2.2.2 1)] [.int .u64 (s1.2.2 0), .int .u64 (s2.2.2 1), .int .u64 0, .int .u64 0, .int .u64 0, .int .u64 0, .int .u64 0, .int .u64 0, .int .u64 0, .int .u64 0] ?_
  intro v10 Y C
  replace BB := belowC BB C (by omega)
  replace Xg2 := Xg2.chg C (show g2 ≠ g6 by omega)
  replace RF := RfA.offB RF Xg6 rfl (by omega) (chg_but C)
  clear C Xg6
  have Xg6 := Y
  clear Y
  refine gl_nil ?_
  refine ge_then ?_
  refine gc_seq ?_
  refine gc_reg ?_
  refine t 16 (pg g4) ?_
  refine tc 17 142 #[pg g4, .int .i64 8] (jU 2 (s := s2) RF) ?_
  rintro _ v11 ⟨s3, e3, rfl, RG, U⟩
  refine ⟨_, rfl, ?_⟩
  replace BB := But.below U BB (by omega) (Nat.le_refl _)
  replace Xg2 := But.blk U Xg2 (show g2 ≠ g4 by omega)
  replace Xg6 := But.blk U Xg6 (show g6 ≠ g4 by omega)
  clear U
  replace RF := RG
  clear RG
  refine t 18 (pq g6 2) ?_
  refine ts Xg6 2 (.int .u64 (s3.2.2 2)) [.int .u64 (s3.2.2 2)] [.int .u64 (s1.2.2 0), .int .u64 (s2.2.2 1), .int .u64 (s3.2.2 2), .int .u64 0, .int .u64 0, .int .u64 0, .int .u64 0, .int .u64 0, .int .u64 0, .int .u64 0] ?_
  intro v12 Y C
  replace BB := belowC BB C (by omega)
  replace Xg2 := Xg2.chg C (show g2 ≠ g6 by omega)
  replace RF := RfA.offB RF Xg6 rfl (by omega) (chg_but C)
  clear C Xg6
  have Xg6 := Y
  clear Y
  refine gl_nil ?_
  refine ge_then ?_
  refine gc_fr [(2, pg g2), (3, .int .i64 0), (4, pg g4), (5, pg g6)] (by kernel_rfl) ?_
  refine gc_seq ?_
  refine gc_reg ?_
  refine t 19 (pg g4) ?_
  refine tc 20 142 #[pg g4, .int .i64 8] (jU 3 (s := s3) RF) ?_
  rintro _ v13 ⟨s4, e4, rfl, RG, U⟩
  refine ⟨_, rfl, ?_⟩
  replace BB := But.below U BB (by omega) (Nat.le_refl _)
  replace Xg2 := But.blk U Xg2 (show g2 ≠ g4 by omega)
  replace Xg6 := But.blk U Xg6 (show g6 ≠ g4 by omega)
  clear U
  replace RF := RG
  clear RG
  refine t 21 (pq g6 3) ?_
  refine ts Xg6 3 (.int .u64 (s4.2.2 3)) [.int .u64 (s4.2.2 3)] [.int .u64 (s1.2.2 0), .int .u64 (s2.2.2 1), .int .u64 (s3.2.2 2), .int .u64 (s4.2.2 3), .int .u64 0, .int .u64 0, .int .u64 0, .int .u64 0, .int .u64 0, .int .u64 0] ?_
  intro v14 Y C
  replace BB := belowC BB C (by omega)
  replace Xg2 := Xg2.chg C (show g2 ≠ g6 by omega)
  replace RF := RfA.offB RF Xg6 rfl (by omega) (chg_but C)
  clear C Xg6
  have Xg6 := Y
  clear Y
  refine gl_nil ?_
  refine ge_then ?_
  refine gc_seq ?_
  refine gc_reg ?_
  refine t 22 (pg g4) ?_
  refine tc 23 142 #[pg g4, .int .i64 8] (jU 4 (s := s4) RF) ?_
  rintro _ v15 ⟨s5, e5, rfl, RG, U⟩
  refine ⟨_, rfl, ?_⟩
  replace BB := But.below U BB (by omega) (Nat.le_refl _)
  replace Xg2 := But.blk U Xg2 (show g2 ≠ g4 by omega)
  replace Xg6 := But.blk U Xg6 (show g6 ≠ g4 by omega)
  clear U
  replace RF := RG
  clear RG
  refine t 24 (pq g6 4) ?_
  refine ts Xg6 4 (.int .u64 (s5.2.2 4)) [.int .u64 (s5.2.2 4)] [.int .u64 (s1.2.2 0), .int .u64 (s2.2.2 1), .int .u64 (s3.2.2 2), .int .u64 (s4.2.2 3), .int .u64 (s5.2.2 4), .int .u64 0, .int .u64 0, .int .u64 0, .int .u64 0, .int .u64 0] ?_
  intro v16 Y C
  replace BB := belowC BB C (by omega)
  replace Xg2 := Xg2.chg C (show g2 ≠ g6 by omega)
  replace RF := RfA.offB RF Xg6 rfl (by omega) (chg_but C)
  clear C Xg6
  have Xg6 := Y
  clear Y
  refine gl_nil ?_
  refine ge_then ?_
  refine gc_seq ?_
  refine gc_reg ?_
  refine t 25 (pg g4) ?_
  refine tc 26 142 #[pg g4, .int .i64 8] (jU 5 (s := s5) RF) ?_
  rintro _ v17 ⟨s6, e6, rfl, RG, U⟩
  refine ⟨_, rfl, ?_⟩
  replace BB := But.below U BB (by omega) (Nat.le_refl _)
  replace Xg2 := But.blk U Xg2 (show g2 ≠ g4 by omega)
  replace Xg6 := But.blk U Xg6 (show g6 ≠ g4 by omega)
  clear U
  replace RF := RG
  clear RG
  refine t 27 (pq g6 5) ?_
  refine ts Xg6 5 (.int .u64 (s6.2.2 5)) [.int .u64 (s6.2.2 5)] [.int .u64 (s1.2.2 0), .int .u64 (s2.2.2 1), .int .u64 (s3.2.2 2), .int .u64 (s4.2.2 3), .int .u64 (s5.2.2 4), .int .u64 (s6.2.2 5), .int .u64 0, .int .u64 0, .int .u64 0, .int .u64 0] ?_
  intro v18 Y C
  replace BB := belowC BB C (by omega)
  replace Xg2 := Xg2.chg C (show g2 ≠ g6 by omega)
  replace RF := RfA.offB RF Xg6 rfl (by omega) (chg_but C)
  clear C Xg6
  have Xg6 := Y
  clear Y
  refine gl_nil ?_
  refine ge_then ?_
  refine gc_seq ?_
  refine gc_reg ?_
  refine t 28 (pg g4) ?_
  refine tc 29 142 #[pg g4, .int .i64 8] (jU 6 (s := s6) RF) ?_
  rintro _ v19 ⟨s7, e7, rfl, RG, U⟩
  refine ⟨_, rfl, ?_⟩
  replace BB := But.below U BB (by omega) (Nat.le_refl _)
  replace Xg2 := But.blk U Xg2 (show g2 ≠ g4 by omega)
  replace Xg6 := But.blk U Xg6 (show g6 ≠ g4 by omega)
  clear U
  replace RF := RG
  clear RG
  refine t 30 (pq g6 6) ?_
  refine ts Xg6 6 (.int .u64 (s7.2.2 6)) [.int .u64 (s7.2.2 6)] [.int .u64 (s1.2.2 0), .int .u64 (s2.2.2 1), .int .u64 (s3.2.2 2), .int .u64 (s4.2.2 3), .int .u64 (s5.2.2 4), .int .u64 (s6.2.2 5), .int .u64 (s7.2.2 6), .int .u64 0, .int .u64 0, .int .u64 0] ?_
  intro v20 Y C
  replace BB := belowC BB C (by omega)
  replace Xg2 := Xg2.chg C (show g2 ≠ g6 by omega)
  replace RF := RfA.offB RF Xg6 rfl (by omega) (chg_but C)
  clear C Xg6
  have Xg6 := Y
  clear Y
  refine gl_nil ?_
  refine ge_then ?_
  refine gc_seq ?_
  refine gc_reg ?_
  refine t 31 (pg g4) ?_
  refine tc 32 142 #[pg g4, .int .i64 8] (jU 7 (s := s7) RF) ?_
  rintro _ v21 ⟨s8, e8, rfl, RG, U⟩
  refine ⟨_, rfl, ?_⟩
  replace BB := But.below U BB (by omega) (Nat.le_refl _)
  replace Xg2 := But.blk U Xg2 (show g2 ≠ g4 by omega)
  replace Xg6 := But.blk U Xg6 (show g6 ≠ g4 by omega)
  clear U
  replace RF := RG
  clear RG
  refine t 33 (pq g6 7) ?_
  refine ts Xg6 7 (.int .u64 (s8.2.2 7)) [.int .u64 (s8.2.2 7)] [.int .u64 (s1.2.2 0), .int .u64 (s2.2.2 1), .int .u64 (s3.2.2 2), .int .u64 (s4.2.2 3), .int .u64 (s5.2.2 4), .int .u64 (s6.2.2 5), .int .u64 (s7.2.2 6), .int .u64 (s8.2.2 7), .int .u64 0, .int .u64 0] ?_
  intro v22 Y C
  replace BB := belowC BB C (by omega)
  replace Xg2 := Xg2.chg C (show g2 ≠ g6 by omega)
  replace RF := RfA.offB RF Xg6 rfl (by omega) (chg_but C)
  clear C Xg6
  have Xg6 := Y
  clear Y
  refine gl_nil ?_
  refine ge_then ?_
  refine gc_seq ?_
  refine gc_reg ?_
  refine t 34 (pg g4) ?_
  refine tc 35 142 #[pg g4, .int .i64 8] (jU 8 (s := s8) RF) ?_
  rintro _ v23 ⟨s9, e9, rfl, RG, U⟩
  refine ⟨_, rfl, ?_⟩
  replace BB := But.below U BB (by omega) (Nat.le_refl _)
  replace Xg2 := But.blk U Xg2 (show g2 ≠ g4 by omega)
  replace Xg6 := But.blk U Xg6 (show g6 ≠ g4 by omega)
  clear U
  replace RF := RG
  clear RG
  refine t 36 (pq g6 8) ?_
  refine ts Xg6 8 (.int .u64 (s9.2.2 8)) [.int .u64 (s9.2.2 8)] [.int .u64 (s1.2.2 0), .int .u64 (s2.2.2 1), .int .u64 (s3.2.2 2), .int .u64 (s4.2.2 3), .int .u64 (s5.2.2 4), .int .u64 (s6.2.2 5), .int .u64 (s7.2.2 6), .int .u64 (s8.2.2 7), .int .u64 (s9.2.2 8), .int .u64 0] ?_
  intro v24 Y C
  replace BB := belowC BB C (by omega)
  replace Xg2 := Xg2.chg C (show g2 ≠ g6 by omega)
  replace RF := RfA.offB RF Xg6 rfl (by omega) (chg_but C)
  clear C Xg6
  have Xg6 := Y
  clear Y
  refine gl_nil ?_
  refine ge_then ?_
  refine gc_fr [(2, pg g2), (3, .int .i64 0), (4, pg g4), (5, pg g6)] (by kernel_rfl) ?_
  refine gc_seq ?_
  refine gc_reg ?_
  refine t 37 (pg g4) ?_
  refine tc 38 142 #[pg g4, .int .i64 8] (jU 9 (s := s9) RF) ?_
  rintro _ v25 ⟨s10, e10, rfl, RG, U⟩
  refine ⟨_, rfl, ?_⟩
  replace BB := But.below U BB (by omega) (Nat.le_refl _)
  replace Xg2 := But.blk U Xg2 (show g2 ≠ g4 by omega)
  replace Xg6 := But.blk U Xg6 (show g6 ≠ g4 by omega)
  clear U
  replace RF := RG
  clear RG
  refine t 39 (pq g6 9) ?_
  refine ts Xg6 9 (.int .u64 (s10.2.2 9)) [.int .u64 (s10.2.2 9)] [.int .u64 (s1.2.2 0), .int .u64 (s2.2.2 1), .int .u64 (s3.2.2 2), .int .u64 (s4.2.2 3), .int .u64 (s5.2.2 4), .int .u64 (s6.2.2 5), .int .u64 (s7.2.2 6), .int .u64 (s8.2.2 7), .int .u64 (s9.2.2 8), .int .u64 (s10.2.2 9)] ?_
  intro v26 Y C
  replace BB := belowC BB C (by omega)
  replace Xg2 := Xg2.chg C (show g2 ≠ g6 by omega)
  replace RF := RfA.offB RF Xg6 rfl (by omega) (chg_but C)
  clear C Xg6
  have Xg6 := Y
  clear Y
  refine gl_nil ?_
  refine ge_then ?_
  refine gc_seq ?_
  refine gc_reg ?_
  refine t 40 (pg g4) ?_
  refine tc 41 143 #[pg g4] (jends RF) ?_
  rintro _ v27 ⟨rfl, U⟩
  refine ⟨_, rfl, ?_⟩
  replace BB := But.below U BB (by omega) (Nat.le_refl _)
  replace Xg2 := But.blk U Xg2 (show g2 ≠ g4 by omega)
  replace Xg6 := But.blk U Xg6 (show g6 ≠ g4 by omega)
  clear U
  clear RF
  refine t 6 (.int .i64 (outR s10)) ?_
  refine gl_nil ?_
  refine ge_then ?_
  refine gc_seq ?_
  refine gc_seq ?_
  refine gc_reg ?_
  refine t 42 (.int .i64 (outR s10)) ?_
  by_cases c28 : (outR s10 : Int) = 0
  · refine tq 43 (.bool ((outR s10 : Int) != 0)) (.bool false) (congrArg Value.bool (bne_eq_false_iff_eq.2 c28)) ?_
    refine gl_nil ?_
    refine ge_then ?_
    refine gc_no ?_
    refine gc_skip ?_
    refine ge_then ?_
    refine gc_seq ?_
    refine gc_reg ?_
    refine tlr 46 [.int .u64 (s1.2.2 0), .int .u64 (s2.2.2 1), .int .u64 (s3.2.2 2), .int .u64 (s4.2.2 3), .int .u64 (s5.2.2 4), .int .u64 (s6.2.2 5), .int .u64 (s7.2.2 6), .int .u64 (s8.2.2 7), .int .u64 (s9.2.2 8), .int .u64 (s10.2.2 9)] Xg6 0 ?_
    refine ts Xg2 0 (.agg #[.int .u64 (s1.2.2 0), .int .u64 (s2.2.2 1), .int .u64 (s3.2.2 2), .int .u64 (s4.2.2 3), .int .u64 (s5.2.2 4), .int .u64 (s6.2.2 5), .int .u64 (s7.2.2 6), .int .u64 (s8.2.2 7), .int .u64 (s9.2.2 8), .int .u64 (s10.2.2 9)]) [.int .u64 (s1.2.2 0), .int .u64 (s2.2.2 1), .int .u64 (s3.2.2 2), .int .u64 (s4.2.2 3), .int .u64 (s5.2.2 4), .int .u64 (s6.2.2 5), .int .u64 (s7.2.2 6), .int .u64 (s8.2.2 7), .int .u64 (s9.2.2 8), .int .u64 (s10.2.2 9)] [.int .u64 (s1.2.2 0), .int .u64 (s2.2.2 1), .int .u64 (s3.2.2 2), .int .u64 (s4.2.2 3), .int .u64 (s5.2.2 4), .int .u64 (s6.2.2 5), .int .u64 (s7.2.2 6), .int .u64 (s8.2.2 7), .int .u64 (s9.2.2 8), .int .u64 (s10.2.2 9)] ?_
    intro v29 Y C
    replace BB := belowC BB C (by omega)
    replace Xg6 := Xg6.chg C (show g6 ≠ g2 by omega)
    clear C Xg2
    have Xg2 := Y
    clear Y
    refine t 3 (.int .i64 0) ?_
    refine gl_nil ?_
    refine ge_then ?_
    refine gc_ret ?_
    refine ge_ret (.tuple #[.agg #[.int .u64 (s1.2.2 0), .int .u64 (s2.2.2 1), .int .u64 (s3.2.2 2), .int .u64 (s4.2.2 3), .int .u64 (s5.2.2 4), .int .u64 (s6.2.2 5), .int .u64 (s7.2.2 6), .int .u64 (s8.2.2 7), .int .u64 (s9.2.2 8), .int .u64 (s10.2.2 9)], .int .i64 0]) (rsct 2 3 (T := 24) (by kernel_rfl) (by kernel_rfl) (by kernel_rfl) (lr Xg2 0)) ?_
    have es : s10 = (stParams l) := by rw [e10, e9, e8, e7, e6, e5, e4, e3, e2, e1, ← hs0]; rfl
    have h0 : outR (stParams l) = 0 := by rw [← es]; exact c28
    have ex : outX (stParams l) = s10.2.2 := by rw [← es]; exact outX_ok c28
    clear es
    have x0 : s1.2.2 0 = outX (stParams l) 0 := by rw [ex, e10, e9, e8, e7, e6, e5, e4, e3, e2]; rfl
    have x1 : s2.2.2 1 = outX (stParams l) 1 := by rw [ex, e10, e9, e8, e7, e6, e5, e4, e3]; rfl
    have x2 : s3.2.2 2 = outX (stParams l) 2 := by rw [ex, e10, e9, e8, e7, e6, e5, e4]; rfl
    have x3 : s4.2.2 3 = outX (stParams l) 3 := by rw [ex, e10, e9, e8, e7, e6, e5]; rfl
    have x4 : s5.2.2 4 = outX (stParams l) 4 := by rw [ex, e10, e9, e8, e7, e6]; rfl
    have x5 : s6.2.2 5 = outX (stParams l) 5 := by rw [ex, e10, e9, e8, e7]; rfl
    have x6 : s7.2.2 6 = outX (stParams l) 6 := by rw [ex, e10, e9, e8]; rfl
    have x7 : s8.2.2 7 = outX (stParams l) 7 := by rw [ex, e10, e9]; rfl
    have x8 : s9.2.2 8 = outX (stParams l) 8 := by rw [ex, e10]; rfl
    have x9 : s10.2.2 9 = outX (stParams l) 9 := by rw [ex]
    exact ⟨by rw [h0, x0, x1, x2, x3, x4, x5, x6, x7, x8, x9], BB⟩
  · refine tq 43 (.bool ((outR s10 : Int) != 0)) (.bool true) (congrArg Value.bool (bne_iff_ne.2 c28)) ?_
    refine gl_nil ?_
    refine ge_then ?_
    refine gc_yes ?_
    refine gc_seq ?_
    refine gc_reg ?_
    refine t 44 (.agg #[.int .u64 0, .int .u64 0, .int .u64 0, .int .u64 0, .int .u64 0, .int .u64 0, .int .u64 0, .int .u64 0, .int .u64 0, .int .u64 0]) ?_
    refine t 45 (.int .i64 (outR s10)) ?_
    refine ts Xg2 0 (.agg #[.int .u64 0, .int .u64 0, .int .u64 0, .int .u64 0, .int .u64 0, .int .u64 0, .int .u64 0, .int .u64 0, .int .u64 0, .int .u64 0]) [.int .u64 0, .int .u64 0, .int .u64 0, .int .u64 0, .int .u64 0, .int .u64 0, .int .u64 0, .int .u64 0, .int .u64 0, .int .u64 0] [.int .u64 0, .int .u64 0, .int .u64 0, .int .u64 0, .int .u64 0, .int .u64 0, .int .u64 0, .int .u64 0, .int .u64 0, .int .u64 0] ?_
    intro v30 Y C
    replace BB := belowC BB C (by omega)
    replace Xg6 := Xg6.chg C (show g6 ≠ g2 by omega)
    clear C Xg2
    have Xg2 := Y
    clear Y
    refine t 3 (.int .i64 (outR s10)) ?_
    refine gl_nil ?_
    refine ge_then ?_
    refine gc_ret ?_
    refine ge_tr ?_
    refine ge_ret (.tuple #[.agg #[.int .u64 0, .int .u64 0, .int .u64 0, .int .u64 0, .int .u64 0, .int .u64 0, .int .u64 0, .int .u64 0, .int .u64 0, .int .u64 0], .int .i64 (outR s10)]) (rsct 2 3 (T := 24) (by kernel_rfl) (by kernel_rfl) (by kernel_rfl) (lr Xg2 0)) ?_
    have es : s10 = (stParams l) := by rw [e10, e9, e8, e7, e6, e5, e4, e3, e2, e1, ← hs0]; rfl
    have ex : outX (stParams l) = fun _ => 0 := by rw [← es]; exact outX_no c28
    rw [es]
    exact ⟨by rw [ex], BB⟩
def stChain (l : List Int) : RSt := thr rnx [(0, 0), (0, 1)] (0, l, fun _ => 0)
theorem outChain {w w' : World} {s : RSt} {e : Ending} (h : FinR w kd_Chain 2 mkA s e w') : e = .returned (.tuple #[.agg #[.int .u64 (outX s 0), .int .u64 (outX s 1)], .int .i64 (outR s)]) ∧ Below w.heap.size w w' := by
  obtain ⟨⟨cs, xs, r, rfl, h1, h2, h3, h4⟩, B⟩ := h
  obtain ⟨e1, e2⟩ := out_of h3 h4
  subst e1 e2
  have q0 := (h2 0).1 rfl
  have q1 := (h2 1).1 rfl
  have ecs : cs = [.int .u64 (outX s 0), .int .u64 (outX s 1)] := by
    refine List.ext_getElem? fun i => ?_
    rcases Nat.lt_or_ge i 2 with hi | hi
    · match i, hi with
      | 0, _ => exact q0
      | 1, _ => exact q1
      | n + 2, h => exact absurd h (by omega)
    · rw [List.getElem?_eq_none (by omega), List.getElem?_eq_none hi]
  subst ecs
  exact ⟨rfl, B⟩
theorem oChain {w : World} {bb n c : Nat} {ao : Option Addr} {l : List Int} (A : ByA w bb ao n c l) (hn : n ≤ 1000000000) : Calls Tryz.prog 73 #[.slice ao n c] w fun e w' => e = .returned (.tuple #[.agg #[.int .u64 (outX (stChain l) 0), .int .u64 (outX (stChain l) 1)], .int .i64 (outR (stChain l))]) ∧ Below w.heap.size w w' := by
  refine (Chain_any A hn (by obtain ⟨o, h1, _⟩ := A.ex; exact h1)).mono ?_
  intro e w' h
  exact outChain h
set_option maxHeartbeats 2000000 in
set_option maxRecDepth 100000 in
theorem rChain {w : World} {bb n c : Nat} {ao : Option Addr} {l : List Int} (A : ByA w bb ao n c l) :
    Calls Tryz.prog 74 #[.slice ao n c] w fun e w' => e = .returned (.tuple #[.agg #[.int .u64 (outX (stChain l) 0), .int .u64 (outX (stChain l) 1)], .int .i64 (outR (stChain l))]) ∧ Below w.heap.size w w' := by
  have BB := Below.refl w.heap.size w
  obtain ⟨s0, hs0⟩ : ∃ s : RSt, (0, l, fun _ => 0) = s := ⟨_, rfl⟩
  refine gc_enter (n := 23) Tryz.func74 rfl (by kernel_rfl) (by kernel_rfl) ?_
  refine gc_seq ?_
  refine gc_reg ?_
  refine ta 2 [.int .u64 0, .int .u64 0] 26 (pg) ?_
  intro v1 g2 Xg2 hg2 B
  have zg2 := Nat.le_trans BB.size hg2
  replace BB := joinB BB B
  clear B
  refine t 3 (.int .i64 0) ?_
  refine gl_nil ?_
  refine ge_then ?_
  refine gc_seq ?_
  refine gc_reg ?_
  refine t 7 (.slice ao n c) ?_
  refine t 8 (.agg #[.slice ao n c, .int .i64 0]) ?_
  have lXg2 := Xg2.lt
  refine ta 9 [.slice ao n c, .int .i64 0] 188 (pg) ?_
  intro v3 g4 Xg4 hg4 B
  have zg4 := Nat.le_trans BB.size hg4
  replace BB := joinB BB B
  replace Xg2 := Xg2.keep B
  clear B
  have RF : RfA v3 g4 bb s0.1 s0.2.1 := by subst hs0; exact ⟨ao, n, c, ⟨Xg4.blk⟩, A.keep BB⟩
  clear Xg4
  have lRF := RF.lt
  refine t 4 (pg g4) ?_
  refine gl_nil ?_
  refine ge_then ?_
  refine gc_seq ?_
  refine gc_reg ?_
  refine t 10 (pg g4) ?_
  refine tc 11 142 #[pg g4, .int .i64 8] (jU 0 (s := s0) RF) ?_
  rintro _ v5 ⟨s1, e1, rfl, RG, U⟩
  refine ⟨_, rfl, ?_⟩
  replace BB := But.below U BB (by omega) (Nat.le_refl _)
  replace Xg2 := But.blk U Xg2 (show g2 ≠ g4 by omega)
  clear U
  replace RF := RG
  clear RG
  refine t 12 (.agg #[.int .u64 (s1.2.2 0), .int .u64 0]) ?_
  have lXg2 := Xg2.lt
  have lRF := RF.lt
  refine ta 5 [.int .u64 0, .int .u64 0] 26 (pg) ?_
  intro v6 g7 Xg7 hg7 B
  have zg7 := Nat.le_trans BB.size hg7
  replace BB := joinB BB B
  replace Xg2 := Xg2.keep B
  replace RF := RF.keep B
  clear B
  refine ts Xg7 0 (.agg #[.int .u64 (s1.2.2 0), .int .u64 0]) [.int .u64 (s1.2.2 0), .int .u64 0] [.int .u64 (s1.2.2 0), .int .u64 0] ?_
  intro v8 Y C
  replace BB := belowC BB C (by omega)
  replace Xg2 := Xg2.chg C (show g2 ≠ g7 by omega)
  replace RF := RfA.offB RF Xg7 rfl (by omega) (chg_but C)
  clear C Xg7
  have Xg7 := Y
  clear Y
  refine gl_nil ?_
  refine ge_then ?_
  refine gc_seq ?_
  refine gc_reg ?_
  refine t 13 (pg g4) ?_
  refine tc 14 142 #[pg g4, .int .i64 8] (jU 1 (s := s1) RF) ?_
  rintro _ v9 ⟨s2, e2, rfl, RG, U⟩
  refine ⟨_, rfl, ?_⟩
  replace BB := But.below U BB (by omega) (Nat.le_refl _)
  replace Xg2 := But.blk U Xg2 (show g2 ≠ g4 by omega)
  replace Xg7 := But.blk U Xg7 (show g7 ≠ g4 by omega)
  clear U
  replace RF := RG
  clear RG
  refine t 15 (pq g7 1) ?_
  refine ts Xg7 1 (.int .u64 (s2.2.2 1)) [.int .u64 (s2.2.2 1)] [.int .u64 (s1.2.2 0), .int .u64 (s2.2.2 1)] ?_
  intro v10 Y C
  replace BB := belowC BB C (by omega)
  replace Xg2 := Xg2.chg C (show g2 ≠ g7 by omega)
  replace RF := RfA.offB RF Xg7 rfl (by omega) (chg_but C)
  clear C Xg7
  have Xg7 := Y
  clear Y
  refine gl_nil ?_
  refine ge_then ?_
  refine gc_seq ?_
  refine gc_reg ?_
  refine t 16 (pg g4) ?_
  refine tc 17 143 #[pg g4] (jends RF) ?_
  rintro _ v11 ⟨rfl, U⟩
  refine ⟨_, rfl, ?_⟩
  replace BB := But.below U BB (by omega) (Nat.le_refl _)
  replace Xg2 := But.blk U Xg2 (show g2 ≠ g4 by omega)
  replace Xg7 := But.blk U Xg7 (show g7 ≠ g4 by omega)
  clear U
  clear RF
  refine t 6 (.int .i64 (outR s2)) ?_
  refine gl_nil ?_
  refine ge_then ?_
  refine gc_fr [(2, pg g2), (3, .int .i64 0), (5, pg g7), (6, .int .i64 (outR s2))] (by kernel_rfl) ?_
  refine gc_seq ?_
  refine gc_seq ?_
  refine gc_reg ?_
  refine t 18 (.int .i64 (outR s2)) ?_
  by_cases c12 : (outR s2 : Int) = 0
  · refine tq 19 (.bool ((outR s2 : Int) != 0)) (.bool false) (congrArg Value.bool (bne_eq_false_iff_eq.2 c12)) ?_
    refine gl_nil ?_
    refine ge_then ?_
    refine gc_no ?_
    refine gc_skip ?_
    refine ge_then ?_
    refine gc_seq ?_
    refine gc_reg ?_
    refine tlr 22 [.int .u64 (s1.2.2 0), .int .u64 (s2.2.2 1)] Xg7 0 ?_
    refine ts Xg2 0 (.agg #[.int .u64 (s1.2.2 0), .int .u64 (s2.2.2 1)]) [.int .u64 (s1.2.2 0), .int .u64 (s2.2.2 1)] [.int .u64 (s1.2.2 0), .int .u64 (s2.2.2 1)] ?_
    intro v13 Y C
    replace BB := belowC BB C (by omega)
    replace Xg7 := Xg7.chg C (show g7 ≠ g2 by omega)
    clear C Xg2
    have Xg2 := Y
    clear Y
    refine t 3 (.int .i64 0) ?_
    refine gl_nil ?_
    refine ge_then ?_
    refine gc_ret ?_
    refine ge_ret (.tuple #[.agg #[.int .u64 (s1.2.2 0), .int .u64 (s2.2.2 1)], .int .i64 0]) (rsct 2 3 (T := 26) (by kernel_rfl) (by kernel_rfl) (by kernel_rfl) (lr Xg2 0)) ?_
    have es : s2 = (stChain l) := by rw [e2, e1, ← hs0]; rfl
    have h0 : outR (stChain l) = 0 := by rw [← es]; exact c12
    have ex : outX (stChain l) = s2.2.2 := by rw [← es]; exact outX_ok c12
    clear es
    have x0 : s1.2.2 0 = outX (stChain l) 0 := by rw [ex, e2]; rfl
    have x1 : s2.2.2 1 = outX (stChain l) 1 := by rw [ex]
    exact ⟨by rw [h0, x0, x1], BB⟩
  · refine tq 19 (.bool ((outR s2 : Int) != 0)) (.bool true) (congrArg Value.bool (bne_iff_ne.2 c12)) ?_
    refine gl_nil ?_
    refine ge_then ?_
    refine gc_yes ?_
    refine gc_seq ?_
    refine gc_reg ?_
    refine t 20 (.agg #[.int .u64 0, .int .u64 0]) ?_
    refine t 21 (.int .i64 (outR s2)) ?_
    refine ts Xg2 0 (.agg #[.int .u64 0, .int .u64 0]) [.int .u64 0, .int .u64 0] [.int .u64 0, .int .u64 0] ?_
    intro v14 Y C
    replace BB := belowC BB C (by omega)
    replace Xg7 := Xg7.chg C (show g7 ≠ g2 by omega)
    clear C Xg2
    have Xg2 := Y
    clear Y
    refine t 3 (.int .i64 (outR s2)) ?_
    refine gl_nil ?_
    refine ge_then ?_
    refine gc_ret ?_
    refine ge_tr ?_
    refine ge_ret (.tuple #[.agg #[.int .u64 0, .int .u64 0], .int .i64 (outR s2)]) (rsct 2 3 (T := 26) (by kernel_rfl) (by kernel_rfl) (by kernel_rfl) (lr Xg2 0)) ?_
    have es : s2 = (stChain l) := by rw [e2, e1, ← hs0]; rfl
    have ex : outX (stChain l) = fun _ => 0 := by rw [← es]; exact outX_no c12
    rw [es]
    exact ⟨by rw [ex], BB⟩
def stPool (l : List Int) : RSt := thr rnx [(2, 0)] (0, l, fun _ => 0)
theorem outPool {w w' : World} {s : RSt} {e : Ending} (h : FinR w kd_Pool 1 mkA s e w') : ∃ a0 n0 c0, e = .returned (.tuple #[.agg #[.slice a0 n0 c0], .int .i64 (outR s)]) ∧ (NatW w' w.heap.size a0 n0 c0 (outX s 0) ∧ n0 ≤ 510) ∧ Below w.heap.size w w' := by
  obtain ⟨⟨cs, xs, r, rfl, h1, h2, h3, h4⟩, B⟩ := h
  obtain ⟨e1, e2⟩ := out_of h3 h4
  subst e1 e2
  obtain ⟨a0, n0, c0, q0, y0, z0⟩ := (h2 0).2.2 rfl
  have ecs : cs = [.slice a0 n0 c0] := by
    refine List.ext_getElem? fun i => ?_
    rcases Nat.lt_or_ge i 1 with hi | hi
    · match i, hi with
      | 0, _ => exact q0
      | n + 1, h => exact absurd h (by omega)
    · rw [List.getElem?_eq_none (by omega), List.getElem?_eq_none hi]
  subst ecs
  exact ⟨a0, n0, c0, rfl, ⟨y0, by omega⟩, B⟩
theorem oPool {w : World} {bb n c : Nat} {ao : Option Addr} {l : List Int} (A : ByA w bb ao n c l) (hn : n ≤ 1000000000) : Calls Tryz.prog 75 #[.slice ao n c] w fun e w' => ∃ a0 n0 c0, e = .returned (.tuple #[.agg #[.slice a0 n0 c0], .int .i64 (outR (stPool l))]) ∧ (NatW w' w.heap.size a0 n0 c0 (outX (stPool l) 0) ∧ n0 ≤ 510) ∧ Below w.heap.size w w' := by
  refine (Pool_any A hn (by obtain ⟨o, h1, _⟩ := A.ex; exact h1)).mono ?_
  intro e w' h
  exact outPool h
set_option maxHeartbeats 2000000 in
set_option maxRecDepth 100000 in
theorem rPool {w : World} {bb n c : Nat} {ao : Option Addr} {l : List Int} (A : ByA w bb ao n c l) :
    Calls Tryz.prog 76 #[.slice ao n c] w fun e w' => ∃ a0 n0 c0, e = .returned (.tuple #[.agg #[.slice a0 n0 c0], .int .i64 (outR (stPool l))]) ∧ (NatW w' w.heap.size a0 n0 c0 (outX (stPool l) 0) ∧ n0 ≤ 510) ∧ Below w.heap.size w w' := by
  have BB := Below.refl w.heap.size w
  obtain ⟨s0, hs0⟩ : ∃ s : RSt, (0, l, fun _ => 0) = s := ⟨_, rfl⟩
  refine gc_enter (n := 19) Tryz.func76 rfl (by kernel_rfl) (by kernel_rfl) ?_
  refine gc_seq ?_
  refine gc_reg ?_
  refine ta 2 [.slice none 0 0] 30 (pg) ?_
  intro v1 g2 Xg2 hg2 B
  have zg2 := Nat.le_trans BB.size hg2
  replace BB := joinB BB B
  clear B
  refine t 3 (.int .i64 0) ?_
  refine gl_nil ?_
  refine ge_then ?_
  refine gc_seq ?_
  refine gc_reg ?_
  refine t 7 (.slice ao n c) ?_
  refine t 8 (.agg #[.slice ao n c, .int .i64 0]) ?_
  have lXg2 := Xg2.lt
  refine ta 9 [.slice ao n c, .int .i64 0] 188 (pg) ?_
  intro v3 g4 Xg4 hg4 B
  have zg4 := Nat.le_trans BB.size hg4
  replace BB := joinB BB B
  replace Xg2 := Xg2.keep B
  clear B
  have RF : RfA v3 g4 bb s0.1 s0.2.1 := by subst hs0; exact ⟨ao, n, c, ⟨Xg4.blk⟩, A.keep BB⟩
  clear Xg4
  have lRF := RF.lt
  refine t 4 (pg g4) ?_
  refine gl_nil ?_
  refine ge_then ?_
  refine gc_seq ?_
  refine gc_reg ?_
  refine t 10 (pg g4) ?_
  have k0_g2 := Xg2.lt
  have k0_r := RF.lt
  have k0_b := BB.size
  refine tc 11 146 #[pg g4] (jD 0 (s := s0) RF) ?_
  rintro _ v5 ⟨s1, e1, a0, n0, c0, rfl, Q0, L0, RG, U⟩
  refine ⟨_, rfl, ?_⟩
  replace BB := But.below U BB (by omega) (Nat.le_refl _)
  replace Xg2 := But.blk U Xg2 (show g2 ≠ g4 by omega)
  clear U
  replace RF := RG
  clear RG
  replace Q0 := natX Q0
  have lXg2 := Xg2.lt
  have lRF := RF.lt
  refine ta 5 [.slice none 0 0] 30 (pg) ?_
  intro v6 g7 Xg7 hg7 B
  have zg7 := Nat.le_trans BB.size hg7
  replace BB := joinB BB B
  replace Xg2 := Xg2.keep B
  replace RF := RF.keep B
  replace Q0 := NatX.keep Q0 B
  clear B
  refine ts Xg7 0 (.agg #[.slice a0 n0 c0]) [.slice a0 n0 c0] [.slice a0 n0 c0] ?_
  intro v8 Y C
  replace BB := belowC BB C (by omega)
  replace Xg2 := Xg2.chg C (show g2 ≠ g7 by omega)
  replace RF := RfA.offB RF Xg7 rfl (by omega) (chg_but C)
  replace Q0 := NatX.but Q0 (chg_but C) (by omega)
  clear C Xg7
  have Xg7 := Y
  clear Y
  refine gl_nil ?_
  refine ge_then ?_
  refine gc_seq ?_
  refine gc_reg ?_
  refine t 12 (pg g4) ?_
  refine tc 13 143 #[pg g4] (jends RF) ?_
  rintro _ v9 ⟨rfl, U⟩
  refine ⟨_, rfl, ?_⟩
  replace BB := But.below U BB (by omega) (Nat.le_refl _)
  replace Xg2 := But.blk U Xg2 (show g2 ≠ g4 by omega)
  replace Q0 := NatX.but Q0 U (by omega)
  replace Xg7 := But.blk U Xg7 (show g7 ≠ g4 by omega)
  clear U
  clear RF
  refine t 6 (.int .i64 (outR s1)) ?_
  refine gl_nil ?_
  refine ge_then ?_
  refine gc_seq ?_
  refine gc_seq ?_
  refine gc_reg ?_
  refine t 14 (.int .i64 (outR s1)) ?_
  by_cases c10 : (outR s1 : Int) = 0
  · refine tq 15 (.bool ((outR s1 : Int) != 0)) (.bool false) (congrArg Value.bool (bne_eq_false_iff_eq.2 c10)) ?_
    refine gl_nil ?_
    refine ge_then ?_
    refine gc_no ?_
    refine gc_skip ?_
    refine ge_then ?_
    refine gc_seq ?_
    refine gc_reg ?_
    refine tlr 18 [.slice a0 n0 c0] Xg7 0 ?_
    refine ts Xg2 0 (.agg #[.slice a0 n0 c0]) [.slice a0 n0 c0] [.slice a0 n0 c0] ?_
    intro v11 Y C
    replace BB := belowC BB C (by omega)
    replace Q0 := NatX.but Q0 (chg_but C) (by omega)
    replace Xg7 := Xg7.chg C (show g7 ≠ g2 by omega)
    clear C Xg2
    have Xg2 := Y
    clear Y
    refine t 3 (.int .i64 0) ?_
    refine gl_nil ?_
    refine ge_then ?_
    refine gc_fr [(2, pg g2), (3, .int .i64 0)] (by kernel_rfl) ?_
    refine gc_ret ?_
    refine ge_ret (.tuple #[.agg #[.slice a0 n0 c0], .int .i64 0]) (rsct 2 3 (T := 30) (by kernel_rfl) (by kernel_rfl) (by kernel_rfl) (lr Xg2 0)) ?_
    have es : s1 = (stPool l) := by rw [e1, ← hs0]; rfl
    have h0 : outR (stPool l) = 0 := by rw [← es]; exact c10
    have ex : outX (stPool l) = s1.2.2 := by rw [← es]; exact outX_ok c10
    clear es
    have x0 : s1.2.2 0 = outX (stPool l) 0 := by rw [ex]
    rw [x0] at Q0
    exact ⟨_, _, _, by rw [h0], ⟨Q0.nat.low (by omega), L0⟩, BB⟩
  · refine tq 15 (.bool ((outR s1 : Int) != 0)) (.bool true) (congrArg Value.bool (bne_iff_ne.2 c10)) ?_
    refine gl_nil ?_
    refine ge_then ?_
    refine gc_yes ?_
    refine gc_seq ?_
    refine gc_reg ?_
    refine t 16 (.agg #[.slice none 0 0]) ?_
    refine t 17 (.int .i64 (outR s1)) ?_
    refine ts Xg2 0 (.agg #[.slice none 0 0]) [.slice none 0 0] [.slice none 0 0] ?_
    intro v12 Y C
    replace BB := belowC BB C (by omega)
    replace Q0 := NatX.but Q0 (chg_but C) (by omega)
    replace Xg7 := Xg7.chg C (show g7 ≠ g2 by omega)
    clear C Xg2
    have Xg2 := Y
    clear Y
    refine t 3 (.int .i64 (outR s1)) ?_
    refine gl_nil ?_
    refine ge_then ?_
    refine gc_fr [(2, pg g2), (3, .int .i64 (outR s1)), (5, pg g7)] (by kernel_rfl) ?_
    refine gc_ret ?_
    refine ge_tr ?_
    refine ge_ret (.tuple #[.agg #[.slice none 0 0], .int .i64 (outR s1)]) (rsct 2 3 (T := 30) (by kernel_rfl) (by kernel_rfl) (by kernel_rfl) (lr Xg2 0)) ?_
    have es : s1 = (stPool l) := by rw [e1, ← hs0]; rfl
    have ex : outX (stPool l) = fun _ => 0 := by rw [← es]; exact outX_no c10
    rw [es]
    exact ⟨none, 0, 0, rfl, ⟨by rw [ex]; exact natW_nil _ _, by decide⟩, BB⟩
def stAccount (l : List Int) : RSt := thr rnx [(0, 0), (0, 1)] (0, l, fun _ => 0)
theorem outAccount {w w' : World} {s : RSt} {e : Ending} (h : FinR w kd_Account 2 mkA s e w') : e = .returned (.tuple #[.agg #[.int .u64 (outX s 0), .int .u64 (outX s 1)], .int .i64 (outR s)]) ∧ Below w.heap.size w w' := by
  obtain ⟨⟨cs, xs, r, rfl, h1, h2, h3, h4⟩, B⟩ := h
  obtain ⟨e1, e2⟩ := out_of h3 h4
  subst e1 e2
  have q0 := (h2 0).1 rfl
  have q1 := (h2 1).1 rfl
  have ecs : cs = [.int .u64 (outX s 0), .int .u64 (outX s 1)] := by
    refine List.ext_getElem? fun i => ?_
    rcases Nat.lt_or_ge i 2 with hi | hi
    · match i, hi with
      | 0, _ => exact q0
      | 1, _ => exact q1
      | n + 2, h => exact absurd h (by omega)
    · rw [List.getElem?_eq_none (by omega), List.getElem?_eq_none hi]
  subst ecs
  exact ⟨rfl, B⟩
theorem oAccount {w : World} {bb n c : Nat} {ao : Option Addr} {l : List Int} (A : ByA w bb ao n c l) (hn : n ≤ 1000000000) : Calls Tryz.prog 39 #[.slice ao n c] w fun e w' => e = .returned (.tuple #[.agg #[.int .u64 (outX (stAccount l) 0), .int .u64 (outX (stAccount l) 1)], .int .i64 (outR (stAccount l))]) ∧ Below w.heap.size w w' := by
  refine (Account_any A hn (by obtain ⟨o, h1, _⟩ := A.ex; exact h1)).mono ?_
  intro e w' h
  exact outAccount h
set_option maxHeartbeats 2000000 in
set_option maxRecDepth 100000 in
theorem rAccount {w : World} {bb n c : Nat} {ao : Option Addr} {l : List Int} (A : ByA w bb ao n c l) :
    Calls Tryz.prog 77 #[.slice ao n c] w fun e w' => e = .returned (.tuple #[.agg #[.int .u64 (outX (stAccount l) 0), .int .u64 (outX (stAccount l) 1)], .int .i64 (outR (stAccount l))]) ∧ Below w.heap.size w w' := by
  have BB := Below.refl w.heap.size w
  obtain ⟨s0, hs0⟩ : ∃ s : RSt, (0, l, fun _ => 0) = s := ⟨_, rfl⟩
  refine gc_enter (n := 23) Tryz.func77 rfl (by kernel_rfl) (by kernel_rfl) ?_
  refine gc_seq ?_
  refine gc_reg ?_
  refine ta 2 [.int .u64 0, .int .u64 0] 32 (pg) ?_
  intro v1 g2 Xg2 hg2 B
  have zg2 := Nat.le_trans BB.size hg2
  replace BB := joinB BB B
  clear B
  refine t 3 (.int .i64 0) ?_
  refine gl_nil ?_
  refine ge_then ?_
  refine gc_seq ?_
  refine gc_reg ?_
  refine t 7 (.slice ao n c) ?_
  refine t 8 (.agg #[.slice ao n c, .int .i64 0]) ?_
  have lXg2 := Xg2.lt
  refine ta 9 [.slice ao n c, .int .i64 0] 188 (pg) ?_
  intro v3 g4 Xg4 hg4 B
  have zg4 := Nat.le_trans BB.size hg4
  replace BB := joinB BB B
  replace Xg2 := Xg2.keep B
  clear B
  have RF : RfA v3 g4 bb s0.1 s0.2.1 := by subst hs0; exact ⟨ao, n, c, ⟨Xg4.blk⟩, A.keep BB⟩
  clear Xg4
  have lRF := RF.lt
  refine t 4 (pg g4) ?_
  refine gl_nil ?_
  refine ge_then ?_
  refine gc_seq ?_
  refine gc_reg ?_
  refine t 10 (pg g4) ?_
  refine tc 11 142 #[pg g4, .int .i64 8] (jU 0 (s := s0) RF) ?_
  rintro _ v5 ⟨s1, e1, rfl, RG, U⟩
  refine ⟨_, rfl, ?_⟩
  replace BB := But.below U BB (by omega) (Nat.le_refl _)
  replace Xg2 := But.blk U Xg2 (show g2 ≠ g4 by omega)
  clear U
  replace RF := RG
  clear RG
  refine t 12 (.agg #[.int .u64 (s1.2.2 0), .int .u64 0]) ?_
  have lXg2 := Xg2.lt
  have lRF := RF.lt
  refine ta 5 [.int .u64 0, .int .u64 0] 32 (pg) ?_
  intro v6 g7 Xg7 hg7 B
  have zg7 := Nat.le_trans BB.size hg7
  replace BB := joinB BB B
  replace Xg2 := Xg2.keep B
  replace RF := RF.keep B
  clear B
  refine ts Xg7 0 (.agg #[.int .u64 (s1.2.2 0), .int .u64 0]) [.int .u64 (s1.2.2 0), .int .u64 0] [.int .u64 (s1.2.2 0), .int .u64 0] ?_
  intro v8 Y C
  replace BB := belowC BB C (by omega)
  replace Xg2 := Xg2.chg C (show g2 ≠ g7 by omega)
  replace RF := RfA.offB RF Xg7 rfl (by omega) (chg_but C)
  clear C Xg7
  have Xg7 := Y
  clear Y
  refine gl_nil ?_
  refine ge_then ?_
  refine gc_seq ?_
  refine gc_reg ?_
  refine t 13 (pg g4) ?_
  refine tc 14 142 #[pg g4, .int .i64 8] (jU 1 (s := s1) RF) ?_
  rintro _ v9 ⟨s2, e2, rfl, RG, U⟩
  refine ⟨_, rfl, ?_⟩
  replace BB := But.below U BB (by omega) (Nat.le_refl _)
  replace Xg2 := But.blk U Xg2 (show g2 ≠ g4 by omega)
  replace Xg7 := But.blk U Xg7 (show g7 ≠ g4 by omega)
  clear U
  replace RF := RG
  clear RG
  refine t 15 (pq g7 1) ?_
  refine ts Xg7 1 (.int .u64 (s2.2.2 1)) [.int .u64 (s2.2.2 1)] [.int .u64 (s1.2.2 0), .int .u64 (s2.2.2 1)] ?_
  intro v10 Y C
  replace BB := belowC BB C (by omega)
  replace Xg2 := Xg2.chg C (show g2 ≠ g7 by omega)
  replace RF := RfA.offB RF Xg7 rfl (by omega) (chg_but C)
  clear C Xg7
  have Xg7 := Y
  clear Y
  refine gl_nil ?_
  refine ge_then ?_
  refine gc_seq ?_
  refine gc_reg ?_
  refine t 16 (pg g4) ?_
  refine tc 17 143 #[pg g4] (jends RF) ?_
  rintro _ v11 ⟨rfl, U⟩
  refine ⟨_, rfl, ?_⟩
  replace BB := But.below U BB (by omega) (Nat.le_refl _)
  replace Xg2 := But.blk U Xg2 (show g2 ≠ g4 by omega)
  replace Xg7 := But.blk U Xg7 (show g7 ≠ g4 by omega)
  clear U
  clear RF
  refine t 6 (.int .i64 (outR s2)) ?_
  refine gl_nil ?_
  refine ge_then ?_
  refine gc_fr [(2, pg g2), (3, .int .i64 0), (5, pg g7), (6, .int .i64 (outR s2))] (by kernel_rfl) ?_
  refine gc_seq ?_
  refine gc_seq ?_
  refine gc_reg ?_
  refine t 18 (.int .i64 (outR s2)) ?_
  by_cases c12 : (outR s2 : Int) = 0
  · refine tq 19 (.bool ((outR s2 : Int) != 0)) (.bool false) (congrArg Value.bool (bne_eq_false_iff_eq.2 c12)) ?_
    refine gl_nil ?_
    refine ge_then ?_
    refine gc_no ?_
    refine gc_skip ?_
    refine ge_then ?_
    refine gc_seq ?_
    refine gc_reg ?_
    refine tlr 22 [.int .u64 (s1.2.2 0), .int .u64 (s2.2.2 1)] Xg7 0 ?_
    refine ts Xg2 0 (.agg #[.int .u64 (s1.2.2 0), .int .u64 (s2.2.2 1)]) [.int .u64 (s1.2.2 0), .int .u64 (s2.2.2 1)] [.int .u64 (s1.2.2 0), .int .u64 (s2.2.2 1)] ?_
    intro v13 Y C
    replace BB := belowC BB C (by omega)
    replace Xg7 := Xg7.chg C (show g7 ≠ g2 by omega)
    clear C Xg2
    have Xg2 := Y
    clear Y
    refine t 3 (.int .i64 0) ?_
    refine gl_nil ?_
    refine ge_then ?_
    refine gc_ret ?_
    refine ge_ret (.tuple #[.agg #[.int .u64 (s1.2.2 0), .int .u64 (s2.2.2 1)], .int .i64 0]) (rsct 2 3 (T := 32) (by kernel_rfl) (by kernel_rfl) (by kernel_rfl) (lr Xg2 0)) ?_
    have es : s2 = (stAccount l) := by rw [e2, e1, ← hs0]; rfl
    have h0 : outR (stAccount l) = 0 := by rw [← es]; exact c12
    have ex : outX (stAccount l) = s2.2.2 := by rw [← es]; exact outX_ok c12
    clear es
    have x0 : s1.2.2 0 = outX (stAccount l) 0 := by rw [ex, e2]; rfl
    have x1 : s2.2.2 1 = outX (stAccount l) 1 := by rw [ex]
    exact ⟨by rw [h0, x0, x1], BB⟩
  · refine tq 19 (.bool ((outR s2 : Int) != 0)) (.bool true) (congrArg Value.bool (bne_iff_ne.2 c12)) ?_
    refine gl_nil ?_
    refine ge_then ?_
    refine gc_yes ?_
    refine gc_seq ?_
    refine gc_reg ?_
    refine t 20 (.agg #[.int .u64 0, .int .u64 0]) ?_
    refine t 21 (.int .i64 (outR s2)) ?_
    refine ts Xg2 0 (.agg #[.int .u64 0, .int .u64 0]) [.int .u64 0, .int .u64 0] [.int .u64 0, .int .u64 0] ?_
    intro v14 Y C
    replace BB := belowC BB C (by omega)
    replace Xg7 := Xg7.chg C (show g7 ≠ g2 by omega)
    clear C Xg2
    have Xg2 := Y
    clear Y
    refine t 3 (.int .i64 (outR s2)) ?_
    refine gl_nil ?_
    refine ge_then ?_
    refine gc_ret ?_
    refine ge_tr ?_
    refine ge_ret (.tuple #[.agg #[.int .u64 0, .int .u64 0], .int .i64 (outR s2)]) (rsct 2 3 (T := 32) (by kernel_rfl) (by kernel_rfl) (by kernel_rfl) (lr Xg2 0)) ?_
    have es : s2 = (stAccount l) := by rw [e2, e1, ← hs0]; rfl
    have ex : outX (stAccount l) = fun _ => 0 := by rw [← es]; exact outX_no c12
    rw [es]
    exact ⟨by rw [ex], BB⟩
def stVal (l : List Int) : RSt := thr rnx [(0, 0), (0, 1), (2, 2), (1, 3), (0, 4), (1, 5), (0, 6), (2, 7), (2, 8), (2, 9)] (0, l, fun _ => 0)
theorem outVal {w w' : World} {s : RSt} {e : Ending} (h : FinR w kd_Val 10 mkA s e w') : ∃ a2 n2 c2 a7 n7 c7 a8 n8 c8 a9 n9 c9, e = .returned (.tuple #[.agg #[.int .u64 (outX s 0), .int .u64 (outX s 1), .slice a2 n2 c2, .bool (outX s 3 == 1), .int .u64 (outX s 4), .bool (outX s 5 == 1), .int .u64 (outX s 6), .slice a7 n7 c7, .slice a8 n8 c8, .slice a9 n9 c9], .int .i64 (outR s)]) ∧ (NatW w' w.heap.size a2 n2 c2 (outX s 2) ∧ n2 ≤ 510) ∧ (NatW w' w.heap.size a7 n7 c7 (outX s 7) ∧ n7 ≤ 510) ∧ (NatW w' w.heap.size a8 n8 c8 (outX s 8) ∧ n8 ≤ 510) ∧ (NatW w' w.heap.size a9 n9 c9 (outX s 9) ∧ n9 ≤ 510) ∧ Below w.heap.size w w' := by
  obtain ⟨⟨cs, xs, r, rfl, h1, h2, h3, h4⟩, B⟩ := h
  obtain ⟨e1, e2⟩ := out_of h3 h4
  subst e1 e2
  have q0 := (h2 0).1 rfl
  have q1 := (h2 1).1 rfl
  obtain ⟨a2, n2, c2, q2, y2, z2⟩ := (h2 2).2.2 rfl
  obtain ⟨t3, q3, y3⟩ := (h2 3).2.1 rfl
  have y3 : (outX s 3 == 1) = t3 := by rw [y3]; cases t3 <;> rfl
  rw [← y3] at q3
  have q4 := (h2 4).1 rfl
  obtain ⟨t5, q5, y5⟩ := (h2 5).2.1 rfl
  have y5 : (outX s 5 == 1) = t5 := by rw [y5]; cases t5 <;> rfl
  rw [← y5] at q5
  have q6 := (h2 6).1 rfl
  obtain ⟨a7, n7, c7, q7, y7, z7⟩ := (h2 7).2.2 rfl
  obtain ⟨a8, n8, c8, q8, y8, z8⟩ := (h2 8).2.2 rfl
  obtain ⟨a9, n9, c9, q9, y9, z9⟩ := (h2 9).2.2 rfl
  have ecs : cs = [.int .u64 (outX s 0), .int .u64 (outX s 1), .slice a2 n2 c2, .bool (outX s 3 == 1), .int .u64 (outX s 4), .bool (outX s 5 == 1), .int .u64 (outX s 6), .slice a7 n7 c7, .slice a8 n8 c8, .slice a9 n9 c9] := by
    refine List.ext_getElem? fun i => ?_
    rcases Nat.lt_or_ge i 10 with hi | hi
    · match i, hi with
      | 0, _ => exact q0
      | 1, _ => exact q1
      | 2, _ => exact q2
      | 3, _ => exact q3
      | 4, _ => exact q4
      | 5, _ => exact q5
      | 6, _ => exact q6
      | 7, _ => exact q7
      | 8, _ => exact q8
      | 9, _ => exact q9
      | n + 10, h => exact absurd h (by omega)
    · rw [List.getElem?_eq_none (by omega), List.getElem?_eq_none hi]
  subst ecs
  exact ⟨a2, n2, c2, a7, n7, c7, a8, n8, c8, a9, n9, c9, rfl, ⟨y2, by omega⟩, ⟨y7, by omega⟩, ⟨y8, by omega⟩, ⟨y9, by omega⟩, B⟩
theorem oVal {w : World} {bb n c : Nat} {ao : Option Addr} {l : List Int} (A : ByA w bb ao n c l) (hn : n ≤ 1000000000) : Calls Tryz.prog 40 #[.slice ao n c] w fun e w' => ∃ a2 n2 c2 a7 n7 c7 a8 n8 c8 a9 n9 c9, e = .returned (.tuple #[.agg #[.int .u64 (outX (stVal l) 0), .int .u64 (outX (stVal l) 1), .slice a2 n2 c2, .bool (outX (stVal l) 3 == 1), .int .u64 (outX (stVal l) 4), .bool (outX (stVal l) 5 == 1), .int .u64 (outX (stVal l) 6), .slice a7 n7 c7, .slice a8 n8 c8, .slice a9 n9 c9], .int .i64 (outR (stVal l))]) ∧ (NatW w' w.heap.size a2 n2 c2 (outX (stVal l) 2) ∧ n2 ≤ 510) ∧ (NatW w' w.heap.size a7 n7 c7 (outX (stVal l) 7) ∧ n7 ≤ 510) ∧ (NatW w' w.heap.size a8 n8 c8 (outX (stVal l) 8) ∧ n8 ≤ 510) ∧ (NatW w' w.heap.size a9 n9 c9 (outX (stVal l) 9) ∧ n9 ≤ 510) ∧ Below w.heap.size w w' := by
  refine (Val_any A hn (by obtain ⟨o, h1, _⟩ := A.ex; exact h1)).mono ?_
  intro e w' h
  exact outVal h
set_option maxHeartbeats 2000000 in
set_option maxRecDepth 100000 in
theorem rVal {w : World} {bb n c : Nat} {ao : Option Addr} {l : List Int} (A : ByA w bb ao n c l) :
    Calls Tryz.prog 78 #[.slice ao n c] w fun e w' => ∃ a2 n2 c2 a7 n7 c7 a8 n8 c8 a9 n9 c9, e = .returned (.tuple #[.agg #[.int .u64 (outX (stVal l) 0), .int .u64 (outX (stVal l) 1), .slice a2 n2 c2, .bool (outX (stVal l) 3 == 1), .int .u64 (outX (stVal l) 4), .bool (outX (stVal l) 5 == 1), .int .u64 (outX (stVal l) 6), .slice a7 n7 c7, .slice a8 n8 c8, .slice a9 n9 c9], .int .i64 (outR (stVal l))]) ∧ (NatW w' w.heap.size a2 n2 c2 (outX (stVal l) 2) ∧ n2 ≤ 510) ∧ (NatW w' w.heap.size a7 n7 c7 (outX (stVal l) 7) ∧ n7 ≤ 510) ∧ (NatW w' w.heap.size a8 n8 c8 (outX (stVal l) 8) ∧ n8 ≤ 510) ∧ (NatW w' w.heap.size a9 n9 c9 (outX (stVal l) 9) ∧ n9 ≤ 510) ∧ Below w.heap.size w w' := by
  have BB := Below.refl w.heap.size w
  obtain ⟨s0, hs0⟩ : ∃ s : RSt, (0, l, fun _ => 0) = s := ⟨_, rfl⟩
  refine gc_enter (n := 47) Tryz.func78 rfl (by kernel_rfl) (by kernel_rfl) ?_
  refine gc_seq ?_
  refine gc_reg ?_
  refine ta 2 [.int .u64 0, .int .u64 0, .slice none 0 0, .bool false, .int .u64 0, .bool false, .int .u64 0, .slice none 0 0, .slice none 0 0, .slice none 0 0] 34 (pg) ?_
  intro v1 g2 Xg2 hg2 B
  have zg2 := Nat.le_trans BB.size hg2
  replace BB := joinB BB B
  clear B
  refine t 3 (.int .i64 0) ?_
  refine gl_nil ?_
  refine ge_then ?_
  refine gc_seq ?_
  refine gc_reg ?_
  refine t 7 (.slice ao n c) ?_
  refine t 8 (.agg #[.slice ao n c, .int .i64 0]) ?_
  have lXg2 := Xg2.lt
  refine ta 9 [.slice ao n c, .int .i64 0] 188 (pg) ?_
  intro v3 g4 Xg4 hg4 B
  have zg4 := Nat.le_trans BB.size hg4
  replace BB := joinB BB B
  replace Xg2 := Xg2.keep B
  clear B
  have RF : RfA v3 g4 bb s0.1 s0.2.1 := by subst hs0; exact ⟨ao, n, c, ⟨Xg4.blk⟩, A.keep BB⟩
  clear Xg4
  have lRF := RF.lt
  refine t 4 (pg g4) ?_
  refine gl_nil ?_
  refine ge_then ?_
  refine gc_seq ?_
  refine gc_reg ?_
  have lXg2 := Xg2.lt
  have lRF := RF.lt
  refine ta 5 [.int .u64 0, .int .u64 0, .slice none 0 0, .bool false, .int .u64 0, .bool false, .int .u64 0, .slice none 0 0, .slice none 0 0, .slice none 0 0] 34 (pg) ?_
  intro v5 g6 Xg6 hg6 B
  have zg6 := Nat.le_trans BB.size hg6
  replace BB := joinB BB B
  replace Xg2 := Xg2.keep B
  replace RF := RF.keep B
  clear B
  refine gl_nil ?_
  refine ge_then ?_
  refine gc_seq ?_
  refine gc_reg ?_
  refine t 10 (pg g4) ?_
  refine tc 11 142 #[pg g4, .int .i64 8] (jU 0 (s := s0) RF) ?_
  rintro _ v7 ⟨s1, e1, rfl, RG, U⟩
  refine ⟨_, rfl, ?_⟩
  replace BB := But.below U BB (by omega) (Nat.le_refl _)
  replace Xg2 := But.blk U Xg2 (show g2 ≠ g4 by omega)
  replace Xg6 := But.blk U Xg6 (show g6 ≠ g4 by omega)
  clear U
  replace RF := RG
  clear RG
  refine t 12 (pg g6) ?_
  refine ts Xg6 0 (.int .u64 (s1.2.2 0)) [.int .u64 (s1.2.2 0)] [.int .u64 (s1.2.2 0), .int .u64 0, .slice none 0 0, .bool false, .int .u64 0, .bool false, .int .u64 0, .slice none 0 0, .slice none 0 0, .slice none 0 0] ?_
  intro v8 Y C
  replace BB := belowC BB C (by omega)
  replace Xg2 := Xg2.chg C (show g2 ≠ g6 by omega)
  replace RF := RfA.offB RF Xg6 rfl (by omega) (chg_but C)
  clear C Xg6
  have Xg6 := Y
  clear Y
  refine gl_nil ?_
  refine ge_then ?_
  refine gc_seq ?_
  refine gc_reg ?_
  refine t 13 (pg g4) ?_
  refine tc 14 142 #[pg g4, .int .i64 8] (jU 1 (s := s1) RF) ?_
  rintro _ v9 ⟨s2, e2, rfl, RG, U⟩
  refine ⟨_, rfl, ?_⟩
  replace BB := But.below U BB (by omega) (Nat.le_refl _)
  replace Xg2 := But.blk U Xg2 (show g2 ≠ g4 by omega)
  replace Xg6 := But.blk U Xg6 (show g6 ≠ g4 by omega)
  clear U
  replace RF := RG
  clear RG
  refine t 15 (pq g6 1) ?_
  refine ts Xg6 1 (.int .u64 (s2.2.2 1)) [.int .u64 (s2.2.2 1)] [.int .u64 (s1.2.2 0), .int .u64 (s2.2.2 1), .slice none 0 0, .bool false, .int .u64 0, .bool false, .int .u64 0, .slice none 0 0, .slice none 0 0, .slice none 0 0] ?_
  intro v10 Y C
  replace BB := belowC BB C (by omega)
  replace Xg2 := Xg2.chg C (show g2 ≠ g6 by omega)
  replace RF := RfA.offB RF Xg6 rfl (by omega) (chg_but C)
  clear C Xg6
  have Xg6 := Y
  clear Y
  refine gl_nil ?_
  refine ge_then ?_
  refine gc_seq ?_
  refine gc_reg ?_
  refine t 16 (pg g4) ?_
  have k2_g2 := Xg2.lt
  have k2_g6 := Xg6.lt
  have k2_r := RF.lt
  have k2_b := BB.size
  refine tc 17 146 #[pg g4] (jD 2 (s := s2) RF) ?_
  rintro _ v11 ⟨s3, e3, a2, n2, c2, rfl, Q2, L2, RG, U⟩
  refine ⟨_, rfl, ?_⟩
  replace BB := But.below U BB (by omega) (Nat.le_refl _)
  replace Xg2 := But.blk U Xg2 (show g2 ≠ g4 by omega)
  replace Xg6 := But.blk U Xg6 (show g6 ≠ g4 by omega)
  clear U
  replace RF := RG
  clear RG
  replace Q2 := natX Q2
  refine t 18 (pq g6 2) ?_
  refine ts Xg6 2 (.agg #[.slice a2 n2 c2]) [.slice a2 n2 c2] [.int .u64 (s1.2.2 0), .int .u64 (s2.2.2 1), .slice a2 n2 c2, .bool false, .int .u64 0, .bool false, .int .u64 0, .slice none 0 0, .slice none 0 0, .slice none 0 0] ?_
  intro v12 Y C
  replace BB := belowC BB C (by omega)
  replace Xg2 := Xg2.chg C (show g2 ≠ g6 by omega)
  replace RF := RfA.offB RF Xg6 rfl (by omega) (chg_but C)
  replace Q2 := NatX.but Q2 (chg_but C) (by omega)
  clear C Xg6
  have Xg6 := Y
  clear Y
  refine gl_nil ?_
  refine ge_then ?_
  refine gc_fr [(2, pg g2), (3, .int .i64 0), (4, pg g4), (5, pg g6)] (by kernel_rfl) ?_
  refine gc_seq ?_
  refine gc_reg ?_
  refine t 19 (pg g4) ?_
  refine tc 20 147 #[pg g4] (jB 3 (s := s3) RF) ?_
  rintro _ v13 ⟨s4, e4, rfl, RG, U⟩
  refine ⟨_, rfl, ?_⟩
  replace BB := But.below U BB (by omega) (Nat.le_refl _)
  replace Xg2 := But.blk U Xg2 (show g2 ≠ g4 by omega)
  replace Xg6 := But.blk U Xg6 (show g6 ≠ g4 by omega)
  replace Q2 := NatX.but Q2 U (by omega)
  clear U
  replace RF := RG
  clear RG
  refine t 21 (pq g6 3) ?_
  refine ts Xg6 3 (.bool (s4.2.2 3 == 1)) [.bool (s4.2.2 3 == 1)] [.int .u64 (s1.2.2 0), .int .u64 (s2.2.2 1), .slice a2 n2 c2, .bool (s4.2.2 3 == 1), .int .u64 0, .bool false, .int .u64 0, .slice none 0 0, .slice none 0 0, .slice none 0 0] ?_
  intro v14 Y C
  replace BB := belowC BB C (by omega)
  replace Xg2 := Xg2.chg C (show g2 ≠ g6 by omega)
  replace RF := RfA.offB RF Xg6 rfl (by omega) (chg_but C)
  replace Q2 := NatX.but Q2 (chg_but C) (by omega)
  clear C Xg6
  have Xg6 := Y
  clear Y
  refine gl_nil ?_
  refine ge_then ?_
  refine gc_seq ?_
  refine gc_reg ?_
  refine t 22 (pg g4) ?_
  refine tc 23 142 #[pg g4, .int .i64 8] (jU 4 (s := s4) RF) ?_
  rintro _ v15 ⟨s5, e5, rfl, RG, U⟩
  refine ⟨_, rfl, ?_⟩
  replace BB := But.below U BB (by omega) (Nat.le_refl _)
  replace Xg2 := But.blk U Xg2 (show g2 ≠ g4 by omega)
  replace Xg6 := But.blk U Xg6 (show g6 ≠ g4 by omega)
  replace Q2 := NatX.but Q2 U (by omega)
  clear U
  replace RF := RG
  clear RG
  refine t 24 (pq g6 4) ?_
  refine ts Xg6 4 (.int .u64 (s5.2.2 4)) [.int .u64 (s5.2.2 4)] [.int .u64 (s1.2.2 0), .int .u64 (s2.2.2 1), .slice a2 n2 c2, .bool (s4.2.2 3 == 1), .int .u64 (s5.2.2 4), .bool false, .int .u64 0, .slice none 0 0, .slice none 0 0, .slice none 0 0] ?_
  intro v16 Y C
  replace BB := belowC BB C (by omega)
  replace Xg2 := Xg2.chg C (show g2 ≠ g6 by omega)
  replace RF := RfA.offB RF Xg6 rfl (by omega) (chg_but C)
  replace Q2 := NatX.but Q2 (chg_but C) (by omega)
  clear C Xg6
  have Xg6 := Y
  clear Y
  refine gl_nil ?_
  refine ge_then ?_
  refine gc_seq ?_
  refine gc_reg ?_
  refine t 25 (pg g4) ?_
  refine tc 26 147 #[pg g4] (jB 5 (s := s5) RF) ?_
  rintro _ v17 ⟨s6, e6, rfl, RG, U⟩
  refine ⟨_, rfl, ?_⟩
  replace BB := But.below U BB (by omega) (Nat.le_refl _)
  replace Xg2 := But.blk U Xg2 (show g2 ≠ g4 by omega)
  replace Xg6 := But.blk U Xg6 (show g6 ≠ g4 by omega)
  replace Q2 := NatX.but Q2 U (by omega)
  clear U
  replace RF := RG
  clear RG
  refine t 27 (pq g6 5) ?_
  refine ts Xg6 5 (.bool (s6.2.2 5 == 1)) [.bool (s6.2.2 5 == 1)] [.int .u64 (s1.2.2 0), .int .u64 (s2.2.2 1), .slice a2 n2 c2, .bool (s4.2.2 3 == 1), .int .u64 (s5.2.2 4), .bool (s6.2.2 5 == 1), .int .u64 0, .slice none 0 0, .slice none 0 0, .slice none 0 0] ?_
  intro v18 Y C
  replace BB := belowC BB C (by omega)
  replace Xg2 := Xg2.chg C (show g2 ≠ g6 by omega)
  replace RF := RfA.offB RF Xg6 rfl (by omega) (chg_but C)
  replace Q2 := NatX.but Q2 (chg_but C) (by omega)
  clear C Xg6
  have Xg6 := Y
  clear Y
  refine gl_nil ?_
  refine ge_then ?_
  refine gc_seq ?_
  refine gc_reg ?_
  refine t 28 (pg g4) ?_
  refine tc 29 142 #[pg g4, .int .i64 8] (jU 6 (s := s6) RF) ?_
  rintro _ v19 ⟨s7, e7, rfl, RG, U⟩
  refine ⟨_, rfl, ?_⟩
  replace BB := But.below U BB (by omega) (Nat.le_refl _)
  replace Xg2 := But.blk U Xg2 (show g2 ≠ g4 by omega)
  replace Xg6 := But.blk U Xg6 (show g6 ≠ g4 by omega)
  replace Q2 := NatX.but Q2 U (by omega)
  clear U
  replace RF := RG
  clear RG
  refine t 30 (pq g6 6) ?_
  refine ts Xg6 6 (.int .u64 (s7.2.2 6)) [.int .u64 (s7.2.2 6)] [.int .u64 (s1.2.2 0), .int .u64 (s2.2.2 1), .slice a2 n2 c2, .bool (s4.2.2 3 == 1), .int .u64 (s5.2.2 4), .bool (s6.2.2 5 == 1), .int .u64 (s7.2.2 6), .slice none 0 0, .slice none 0 0, .slice none 0 0] ?_
  intro v20 Y C
  replace BB := belowC BB C (by omega)
  replace Xg2 := Xg2.chg C (show g2 ≠ g6 by omega)
  replace RF := RfA.offB RF Xg6 rfl (by omega) (chg_but C)
  replace Q2 := NatX.but Q2 (chg_but C) (by omega)
  clear C Xg6
  have Xg6 := Y
  clear Y
  refine gl_nil ?_
  refine ge_then ?_
  refine gc_seq ?_
  refine gc_reg ?_
  refine t 31 (pg g4) ?_
  have k7_g2 := Xg2.lt
  have k7_g6 := Xg6.lt
  have k7_r := RF.lt
  have k7_b := BB.size
  refine tc 32 146 #[pg g4] (jD 7 (s := s7) RF) ?_
  rintro _ v21 ⟨s8, e8, a7, n7, c7, rfl, Q7, L7, RG, U⟩
  refine ⟨_, rfl, ?_⟩
  replace BB := But.below U BB (by omega) (Nat.le_refl _)
  replace Xg2 := But.blk U Xg2 (show g2 ≠ g4 by omega)
  replace Xg6 := But.blk U Xg6 (show g6 ≠ g4 by omega)
  replace Q2 := NatX.but Q2 U (by omega)
  clear U
  replace RF := RG
  clear RG
  replace Q7 := natX Q7
  refine t 33 (pq g6 7) ?_
  refine ts Xg6 7 (.agg #[.slice a7 n7 c7]) [.slice a7 n7 c7] [.int .u64 (s1.2.2 0), .int .u64 (s2.2.2 1), .slice a2 n2 c2, .bool (s4.2.2 3 == 1), .int .u64 (s5.2.2 4), .bool (s6.2.2 5 == 1), .int .u64 (s7.2.2 6), .slice a7 n7 c7, .slice none 0 0, .slice none 0 0] ?_
  intro v22 Y C
  replace BB := belowC BB C (by omega)
  replace Xg2 := Xg2.chg C (show g2 ≠ g6 by omega)
  replace RF := RfA.offB RF Xg6 rfl (by omega) (chg_but C)
  replace Q2 := NatX.but Q2 (chg_but C) (by omega)
  replace Q7 := NatX.but Q7 (chg_but C) (by omega)
  clear C Xg6
  have Xg6 := Y
  clear Y
  refine gl_nil ?_
  refine ge_then ?_
  refine gc_seq ?_
  refine gc_reg ?_
  refine t 34 (pg g4) ?_
  have k8_g2 := Xg2.lt
  have k8_g6 := Xg6.lt
  have k8_r := RF.lt
  have k8_b := BB.size
  refine tc 35 146 #[pg g4] (jD 8 (s := s8) RF) ?_
  rintro _ v23 ⟨s9, e9, a8, n8, c8, rfl, Q8, L8, RG, U⟩
  refine ⟨_, rfl, ?_⟩
  replace BB := But.below U BB (by omega) (Nat.le_refl _)
  replace Xg2 := But.blk U Xg2 (show g2 ≠ g4 by omega)
  replace Xg6 := But.blk U Xg6 (show g6 ≠ g4 by omega)
  replace Q2 := NatX.but Q2 U (by omega)
  replace Q7 := NatX.but Q7 U (by omega)
  clear U
  replace RF := RG
  clear RG
  replace Q8 := natX Q8
  refine t 36 (pq g6 8) ?_
  refine ts Xg6 8 (.agg #[.slice a8 n8 c8]) [.slice a8 n8 c8] [.int .u64 (s1.2.2 0), .int .u64 (s2.2.2 1), .slice a2 n2 c2, .bool (s4.2.2 3 == 1), .int .u64 (s5.2.2 4), .bool (s6.2.2 5 == 1), .int .u64 (s7.2.2 6), .slice a7 n7 c7, .slice a8 n8 c8, .slice none 0 0] ?_
  intro v24 Y C
  replace BB := belowC BB C (by omega)
  replace Xg2 := Xg2.chg C (show g2 ≠ g6 by omega)
  replace RF := RfA.offB RF Xg6 rfl (by omega) (chg_but C)
  replace Q2 := NatX.but Q2 (chg_but C) (by omega)
  replace Q7 := NatX.but Q7 (chg_but C) (by omega)
  replace Q8 := NatX.but Q8 (chg_but C) (by omega)
  clear C Xg6
  have Xg6 := Y
  clear Y
  refine gl_nil ?_
  refine ge_then ?_
  refine gc_fr [(2, pg g2), (3, .int .i64 0), (4, pg g4), (5, pg g6)] (by kernel_rfl) ?_
  refine gc_seq ?_
  refine gc_reg ?_
  refine t 37 (pg g4) ?_
  have k9_g2 := Xg2.lt
  have k9_g6 := Xg6.lt
  have k9_r := RF.lt
  have k9_b := BB.size
  refine tc 38 146 #[pg g4] (jD 9 (s := s9) RF) ?_
  rintro _ v25 ⟨s10, e10, a9, n9, c9, rfl, Q9, L9, RG, U⟩
  refine ⟨_, rfl, ?_⟩
  replace BB := But.below U BB (by omega) (Nat.le_refl _)
  replace Xg2 := But.blk U Xg2 (show g2 ≠ g4 by omega)
  replace Xg6 := But.blk U Xg6 (show g6 ≠ g4 by omega)
  replace Q2 := NatX.but Q2 U (by omega)
  replace Q7 := NatX.but Q7 U (by omega)
  replace Q8 := NatX.but Q8 U (by omega)
  clear U
  replace RF := RG
  clear RG
  replace Q9 := natX Q9
  refine t 39 (pq g6 9) ?_
  refine ts Xg6 9 (.agg #[.slice a9 n9 c9]) [.slice a9 n9 c9] [.int .u64 (s1.2.2 0), .int .u64 (s2.2.2 1), .slice a2 n2 c2, .bool (s4.2.2 3 == 1), .int .u64 (s5.2.2 4), .bool (s6.2.2 5 == 1), .int .u64 (s7.2.2 6), .slice a7 n7 c7, .slice a8 n8 c8, .slice a9 n9 c9] ?_
  intro v26 Y C
  replace BB := belowC BB C (by omega)
  replace Xg2 := Xg2.chg C (show g2 ≠ g6 by omega)
  replace RF := RfA.offB RF Xg6 rfl (by omega) (chg_but C)
  replace Q2 := NatX.but Q2 (chg_but C) (by omega)
  replace Q7 := NatX.but Q7 (chg_but C) (by omega)
  replace Q8 := NatX.but Q8 (chg_but C) (by omega)
  replace Q9 := NatX.but Q9 (chg_but C) (by omega)
  clear C Xg6
  have Xg6 := Y
  clear Y
  refine gl_nil ?_
  refine ge_then ?_
  refine gc_seq ?_
  refine gc_reg ?_
  refine t 40 (pg g4) ?_
  refine tc 41 143 #[pg g4] (jends RF) ?_
  rintro _ v27 ⟨rfl, U⟩
  refine ⟨_, rfl, ?_⟩
  replace BB := But.below U BB (by omega) (Nat.le_refl _)
  replace Xg2 := But.blk U Xg2 (show g2 ≠ g4 by omega)
  replace Xg6 := But.blk U Xg6 (show g6 ≠ g4 by omega)
  replace Q2 := NatX.but Q2 U (by omega)
  replace Q7 := NatX.but Q7 U (by omega)
  replace Q8 := NatX.but Q8 U (by omega)
  replace Q9 := NatX.but Q9 U (by omega)
  clear U
  clear RF
  refine t 6 (.int .i64 (outR s10)) ?_
  refine gl_nil ?_
  refine ge_then ?_
  refine gc_seq ?_
  refine gc_seq ?_
  refine gc_reg ?_
  refine t 42 (.int .i64 (outR s10)) ?_
  by_cases c28 : (outR s10 : Int) = 0
  · refine tq 43 (.bool ((outR s10 : Int) != 0)) (.bool false) (congrArg Value.bool (bne_eq_false_iff_eq.2 c28)) ?_
    refine gl_nil ?_
    refine ge_then ?_
    refine gc_no ?_
    refine gc_skip ?_
    refine ge_then ?_
    refine gc_seq ?_
    refine gc_reg ?_
    refine tlr 46 [.int .u64 (s1.2.2 0), .int .u64 (s2.2.2 1), .slice a2 n2 c2, .bool (s4.2.2 3 == 1), .int .u64 (s5.2.2 4), .bool (s6.2.2 5 == 1), .int .u64 (s7.2.2 6), .slice a7 n7 c7, .slice a8 n8 c8, .slice a9 n9 c9] Xg6 0 ?_
    refine ts Xg2 0 (.agg #[.int .u64 (s1.2.2 0), .int .u64 (s2.2.2 1), .slice a2 n2 c2, .bool (s4.2.2 3 == 1), .int .u64 (s5.2.2 4), .bool (s6.2.2 5 == 1), .int .u64 (s7.2.2 6), .slice a7 n7 c7, .slice a8 n8 c8, .slice a9 n9 c9]) [.int .u64 (s1.2.2 0), .int .u64 (s2.2.2 1), .slice a2 n2 c2, .bool (s4.2.2 3 == 1), .int .u64 (s5.2.2 4), .bool (s6.2.2 5 == 1), .int .u64 (s7.2.2 6), .slice a7 n7 c7, .slice a8 n8 c8, .slice a9 n9 c9] [.int .u64 (s1.2.2 0), .int .u64 (s2.2.2 1), .slice a2 n2 c2, .bool (s4.2.2 3 == 1), .int .u64 (s5.2.2 4), .bool (s6.2.2 5 == 1), .int .u64 (s7.2.2 6), .slice a7 n7 c7, .slice a8 n8 c8, .slice a9 n9 c9] ?_
    intro v29 Y C
    replace BB := belowC BB C (by omega)
    replace Xg6 := Xg6.chg C (show g6 ≠ g2 by omega)
    replace Q2 := NatX.but Q2 (chg_but C) (by omega)
    replace Q7 := NatX.but Q7 (chg_but C) (by omega)
    replace Q8 := NatX.but Q8 (chg_but C) (by omega)
    replace Q9 := NatX.but Q9 (chg_but C) (by omega)
    clear C Xg2
    have Xg2 := Y
    clear Y
    refine t 3 (.int .i64 0) ?_
    refine gl_nil ?_
    refine ge_then ?_
    refine gc_ret ?_
    refine ge_ret (.tuple #[.agg #[.int .u64 (s1.2.2 0), .int .u64 (s2.2.2 1), .slice a2 n2 c2, .bool (s4.2.2 3 == 1), .int .u64 (s5.2.2 4), .bool (s6.2.2 5 == 1), .int .u64 (s7.2.2 6), .slice a7 n7 c7, .slice a8 n8 c8, .slice a9 n9 c9], .int .i64 0]) (rsct 2 3 (T := 34) (by kernel_rfl) (by kernel_rfl) (by kernel_rfl) (lr Xg2 0)) ?_
    have es : s10 = (stVal l) := by rw [e10, e9, e8, e7, e6, e5, e4, e3, e2, e1, ← hs0]; rfl
    have h0 : outR (stVal l) = 0 := by rw [← es]; exact c28
    have ex : outX (stVal l) = s10.2.2 := by rw [← es]; exact outX_ok c28
    clear es
    have x0 : s1.2.2 0 = outX (stVal l) 0 := by rw [ex, e10, e9, e8, e7, e6, e5, e4, e3, e2]; rfl
    have x1 : s2.2.2 1 = outX (stVal l) 1 := by rw [ex, e10, e9, e8, e7, e6, e5, e4, e3]; rfl
    have x2 : s3.2.2 2 = outX (stVal l) 2 := by rw [ex, e10, e9, e8, e7, e6, e5, e4]; rfl
    have x3 : s4.2.2 3 = outX (stVal l) 3 := by rw [ex, e10, e9, e8, e7, e6, e5]; rfl
    have x4 : s5.2.2 4 = outX (stVal l) 4 := by rw [ex, e10, e9, e8, e7, e6]; rfl
    have x5 : s6.2.2 5 = outX (stVal l) 5 := by rw [ex, e10, e9, e8, e7]; rfl
    have x6 : s7.2.2 6 = outX (stVal l) 6 := by rw [ex, e10, e9, e8]; rfl
    have x7 : s8.2.2 7 = outX (stVal l) 7 := by rw [ex, e10, e9]; rfl
    have x8 : s9.2.2 8 = outX (stVal l) 8 := by rw [ex, e10]; rfl
    have x9 : s10.2.2 9 = outX (stVal l) 9 := by rw [ex]
    rw [x2] at Q2
    rw [x7] at Q7
    rw [x8] at Q8
    rw [x9] at Q9
    exact ⟨_, _, _, _, _, _, _, _, _, _, _, _, by rw [h0, x0, x1, x3, x4, x5, x6], ⟨Q2.nat.low (by omega), L2⟩, ⟨Q7.nat.low (by omega), L7⟩, ⟨Q8.nat.low (by omega), L8⟩, ⟨Q9.nat.low (by omega), L9⟩, BB⟩
  · refine tq 43 (.bool ((outR s10 : Int) != 0)) (.bool true) (congrArg Value.bool (bne_iff_ne.2 c28)) ?_
    refine gl_nil ?_
    refine ge_then ?_
    refine gc_yes ?_
    refine gc_seq ?_
    refine gc_reg ?_
    refine t 44 (.agg #[.int .u64 0, .int .u64 0, .slice none 0 0, .bool false, .int .u64 0, .bool false, .int .u64 0, .slice none 0 0, .slice none 0 0, .slice none 0 0]) ?_
    refine t 45 (.int .i64 (outR s10)) ?_
    refine ts Xg2 0 (.agg #[.int .u64 0, .int .u64 0, .slice none 0 0, .bool false, .int .u64 0, .bool false, .int .u64 0, .slice none 0 0, .slice none 0 0, .slice none 0 0]) [.int .u64 0, .int .u64 0, .slice none 0 0, .bool false, .int .u64 0, .bool false, .int .u64 0, .slice none 0 0, .slice none 0 0, .slice none 0 0] [.int .u64 0, .int .u64 0, .slice none 0 0, .bool false, .int .u64 0, .bool false, .int .u64 0, .slice none 0 0, .slice none 0 0, .slice none 0 0] ?_
    intro v30 Y C
    replace BB := belowC BB C (by omega)
    replace Xg6 := Xg6.chg C (show g6 ≠ g2 by omega)
    replace Q2 := NatX.but Q2 (chg_but C) (by omega)
    replace Q7 := NatX.but Q7 (chg_but C) (by omega)
    replace Q8 := NatX.but Q8 (chg_but C) (by omega)
    replace Q9 := NatX.but Q9 (chg_but C) (by omega)
    clear C Xg2
    have Xg2 := Y
    clear Y
    refine t 3 (.int .i64 (outR s10)) ?_
    refine gl_nil ?_
    refine ge_then ?_
    refine gc_ret ?_
    refine ge_tr ?_
    refine ge_ret (.tuple #[.agg #[.int .u64 0, .int .u64 0, .slice none 0 0, .bool false, .int .u64 0, .bool false, .int .u64 0, .slice none 0 0, .slice none 0 0, .slice none 0 0], .int .i64 (outR s10)]) (rsct 2 3 (T := 34) (by kernel_rfl) (by kernel_rfl) (by kernel_rfl) (lr Xg2 0)) ?_
    have es : s10 = (stVal l) := by rw [e10, e9, e8, e7, e6, e5, e4, e3, e2, e1, ← hs0]; rfl
    have ex : outX (stVal l) = fun _ => 0 := by rw [← es]; exact outX_no c28
    rw [es]
    exact ⟨none, 0, 0, none, 0, 0, none, 0, 0, none, 0, 0, by rw [ex]; rfl, ⟨by rw [ex]; exact natW_nil _ _, by decide⟩, ⟨by rw [ex]; exact natW_nil _ _, by decide⟩, ⟨by rw [ex]; exact natW_nil _ _, by decide⟩, ⟨by rw [ex]; exact natW_nil _ _, by decide⟩, BB⟩
def stDelegation (l : List Int) : RSt := thr rnx [(2, 0), (0, 1), (2, 2)] (0, l, fun _ => 0)
theorem outDelegation {w w' : World} {s : RSt} {e : Ending} (h : FinR w kd_Delegation 3 mkA s e w') : ∃ a0 n0 c0 a2 n2 c2, e = .returned (.tuple #[.agg #[.slice a0 n0 c0, .int .u64 (outX s 1), .slice a2 n2 c2], .int .i64 (outR s)]) ∧ (NatW w' w.heap.size a0 n0 c0 (outX s 0) ∧ n0 ≤ 510) ∧ (NatW w' w.heap.size a2 n2 c2 (outX s 2) ∧ n2 ≤ 510) ∧ Below w.heap.size w w' := by
  obtain ⟨⟨cs, xs, r, rfl, h1, h2, h3, h4⟩, B⟩ := h
  obtain ⟨e1, e2⟩ := out_of h3 h4
  subst e1 e2
  obtain ⟨a0, n0, c0, q0, y0, z0⟩ := (h2 0).2.2 rfl
  have q1 := (h2 1).1 rfl
  obtain ⟨a2, n2, c2, q2, y2, z2⟩ := (h2 2).2.2 rfl
  have ecs : cs = [.slice a0 n0 c0, .int .u64 (outX s 1), .slice a2 n2 c2] := by
    refine List.ext_getElem? fun i => ?_
    rcases Nat.lt_or_ge i 3 with hi | hi
    · match i, hi with
      | 0, _ => exact q0
      | 1, _ => exact q1
      | 2, _ => exact q2
      | n + 3, h => exact absurd h (by omega)
    · rw [List.getElem?_eq_none (by omega), List.getElem?_eq_none hi]
  subst ecs
  exact ⟨a0, n0, c0, a2, n2, c2, rfl, ⟨y0, by omega⟩, ⟨y2, by omega⟩, B⟩
theorem oDelegation {w : World} {bb n c : Nat} {ao : Option Addr} {l : List Int} (A : ByA w bb ao n c l) (hn : n ≤ 1000000000) : Calls Tryz.prog 79 #[.slice ao n c] w fun e w' => ∃ a0 n0 c0 a2 n2 c2, e = .returned (.tuple #[.agg #[.slice a0 n0 c0, .int .u64 (outX (stDelegation l) 1), .slice a2 n2 c2], .int .i64 (outR (stDelegation l))]) ∧ (NatW w' w.heap.size a0 n0 c0 (outX (stDelegation l) 0) ∧ n0 ≤ 510) ∧ (NatW w' w.heap.size a2 n2 c2 (outX (stDelegation l) 2) ∧ n2 ≤ 510) ∧ Below w.heap.size w w' := by
  refine (Delegation_any A hn (by obtain ⟨o, h1, _⟩ := A.ex; exact h1)).mono ?_
  intro e w' h
  exact outDelegation h
set_option maxHeartbeats 2000000 in
set_option maxRecDepth 100000 in
theorem rDelegation {w : World} {bb n c : Nat} {ao : Option Addr} {l : List Int} (A : ByA w bb ao n c l) :
    Calls Tryz.prog 80 #[.slice ao n c] w fun e w' => ∃ a0 n0 c0 a2 n2 c2, e = .returned (.tuple #[.agg #[.slice a0 n0 c0, .int .u64 (outX (stDelegation l) 1), .slice a2 n2 c2], .int .i64 (outR (stDelegation l))]) ∧ (NatW w' w.heap.size a0 n0 c0 (outX (stDelegation l) 0) ∧ n0 ≤ 510) ∧ (NatW w' w.heap.size a2 n2 c2 (outX (stDelegation l) 2) ∧ n2 ≤ 510) ∧ Below w.heap.size w w' := by
  have BB := Below.refl w.heap.size w
  obtain ⟨s0, hs0⟩ : ∃ s : RSt, (0, l, fun _ => 0) = s := ⟨_, rfl⟩
  refine gc_enter (n := 26) Tryz.func80 rfl (by kernel_rfl) (by kernel_rfl) ?_
  refine gc_seq ?_
  refine gc_reg ?_
  refine ta 2 [.slice none 0 0, .int .u64 0, .slice none 0 0] 36 (pg) ?_
  intro v1 g2 Xg2 hg2 B
  have zg2 := Nat.le_trans BB.size hg2
  replace BB := joinB BB B
  clear B
  refine t 3 (.int .i64 0) ?_
  refine gl_nil ?_
  refine ge_then ?_
  refine gc_seq ?_
  refine gc_reg ?_
  refine t 7 (.slice ao n c) ?_
  refine t 8 (.agg #[.slice ao n c, .int .i64 0]) ?_
  have lXg2 := Xg2.lt
  refine ta 9 [.slice ao n c, .int .i64 0] 188 (pg) ?_
  intro v3 g4 Xg4 hg4 B
  have zg4 := Nat.le_trans BB.size hg4
  replace BB := joinB BB B
  replace Xg2 := Xg2.keep B
  clear B
  have RF : RfA v3 g4 bb s0.1 s0.2.1 := by subst hs0; exact ⟨ao, n, c, ⟨Xg4.blk⟩, A.keep BB⟩
  clear Xg4
  have lRF := RF.lt
  refine t 4 (pg g4) ?_
  refine gl_nil ?_
  refine ge_then ?_
  refine gc_seq ?_
  refine gc_reg ?_
  refine t 10 (pg g4) ?_
  have k0_g2 := Xg2.lt
  have k0_r := RF.lt
  have k0_b := BB.size
  refine tc 11 146 #[pg g4] (jD 0 (s := s0) RF) ?_
  rintro _ v5 ⟨s1, e1, a0, n0, c0, rfl, Q0, L0, RG, U⟩
  refine ⟨_, rfl, ?_⟩
  replace BB := But.below U BB (by omega) (Nat.le_refl _)
  replace Xg2 := But.blk U Xg2 (show g2 ≠ g4 by omega)
  clear U
  replace RF := RG
  clear RG
  replace Q0 := natX Q0
  refine t 12 (.agg #[.slice a0 n0 c0, .int .u64 0, .slice none 0 0]) ?_
  have lXg2 := Xg2.lt
  have lRF := RF.lt
  refine ta 5 [.slice none 0 0, .int .u64 0, .slice none 0 0] 36 (pg) ?_
  intro v6 g7 Xg7 hg7 B
  have zg7 := Nat.le_trans BB.size hg7
  replace BB := joinB BB B
  replace Xg2 := Xg2.keep B
  replace RF := RF.keep B
  replace Q0 := NatX.keep Q0 B
  clear B
  refine ts Xg7 0 (.agg #[.slice a0 n0 c0, .int .u64 0, .slice none 0 0]) [.slice a0 n0 c0, .int .u64 0, .slice none 0 0] [.slice a0 n0 c0, .int .u64 0, .slice none 0 0] ?_
  intro v8 Y C
  replace BB := belowC BB C (by omega)
  replace Xg2 := Xg2.chg C (show g2 ≠ g7 by omega)
  replace RF := RfA.offB RF Xg7 rfl (by omega) (chg_but C)
  replace Q0 := NatX.but Q0 (chg_but C) (by omega)
  clear C Xg7
  have Xg7 := Y
  clear Y
  refine gl_nil ?_
  refine ge_then ?_
  refine gc_seq ?_
  refine gc_reg ?_
  refine t 13 (pg g4) ?_
  refine tc 14 142 #[pg g4, .int .i64 8] (jU 1 (s := s1) RF) ?_
  rintro _ v9 ⟨s2, e2, rfl, RG, U⟩
  refine ⟨_, rfl, ?_⟩
  replace BB := But.below U BB (by omega) (Nat.le_refl _)
  replace Xg2 := But.blk U Xg2 (show g2 ≠ g4 by omega)
  replace Q0 := NatX.but Q0 U (by omega)
  replace Xg7 := But.blk U Xg7 (show g7 ≠ g4 by omega)
  clear U
  replace RF := RG
  clear RG
  refine t 15 (pq g7 1) ?_
  refine ts Xg7 1 (.int .u64 (s2.2.2 1)) [.int .u64 (s2.2.2 1)] [.slice a0 n0 c0, .int .u64 (s2.2.2 1), .slice none 0 0] ?_
  intro v10 Y C
  replace BB := belowC BB C (by omega)
  replace Xg2 := Xg2.chg C (show g2 ≠ g7 by omega)
  replace RF := RfA.offB RF Xg7 rfl (by omega) (chg_but C)
  replace Q0 := NatX.but Q0 (chg_but C) (by omega)
  clear C Xg7
  have Xg7 := Y
  clear Y
  refine gl_nil ?_
  refine ge_then ?_
  refine gc_seq ?_
  refine gc_reg ?_
  refine t 16 (pg g4) ?_
  have k2_g2 := Xg2.lt
  have k2_g7 := Xg7.lt
  have k2_r := RF.lt
  have k2_b := BB.size
  refine tc 17 146 #[pg g4] (jD 2 (s := s2) RF) ?_
  rintro _ v11 ⟨s3, e3, a2, n2, c2, rfl, Q2, L2, RG, U⟩
  refine ⟨_, rfl, ?_⟩
  replace BB := But.below U BB (by omega) (Nat.le_refl _)
  replace Xg2 := But.blk U Xg2 (show g2 ≠ g4 by omega)
  replace Q0 := NatX.but Q0 U (by omega)
  replace Xg7 := But.blk U Xg7 (show g7 ≠ g4 by omega)
  clear U
  replace RF := RG
  clear RG
  replace Q2 := natX Q2
  refine t 18 (pq g7 2) ?_
  refine ts Xg7 2 (.agg #[.slice a2 n2 c2]) [.slice a2 n2 c2] [.slice a0 n0 c0, .int .u64 (s2.2.2 1), .slice a2 n2 c2] ?_
  intro v12 Y C
  replace BB := belowC BB C (by omega)
  replace Xg2 := Xg2.chg C (show g2 ≠ g7 by omega)
  replace RF := RfA.offB RF Xg7 rfl (by omega) (chg_but C)
  replace Q0 := NatX.but Q0 (chg_but C) (by omega)
  replace Q2 := NatX.but Q2 (chg_but C) (by omega)
  clear C Xg7
  have Xg7 := Y
  clear Y
  refine gl_nil ?_
  refine ge_then ?_
  refine gc_fr [(2, pg g2), (3, .int .i64 0), (4, pg g4), (5, pg g7)] (by kernel_rfl) ?_
  refine gc_seq ?_
  refine gc_reg ?_
  refine t 19 (pg g4) ?_
  refine tc 20 143 #[pg g4] (jends RF) ?_
  rintro _ v13 ⟨rfl, U⟩
  refine ⟨_, rfl, ?_⟩
  replace BB := But.below U BB (by omega) (Nat.le_refl _)
  replace Xg2 := But.blk U Xg2 (show g2 ≠ g4 by omega)
  replace Q0 := NatX.but Q0 U (by omega)
  replace Xg7 := But.blk U Xg7 (show g7 ≠ g4 by omega)
  replace Q2 := NatX.but Q2 U (by omega)
  clear U
  clear RF
  refine t 6 (.int .i64 (outR s3)) ?_
  refine gl_nil ?_
  refine ge_then ?_
  refine gc_seq ?_
  refine gc_seq ?_
  refine gc_reg ?_
  refine t 21 (.int .i64 (outR s3)) ?_
  by_cases c14 : (outR s3 : Int) = 0
  · refine tq 22 (.bool ((outR s3 : Int) != 0)) (.bool false) (congrArg Value.bool (bne_eq_false_iff_eq.2 c14)) ?_
    refine gl_nil ?_
    refine ge_then ?_
    refine gc_no ?_
    refine gc_skip ?_
    refine ge_then ?_
    refine gc_seq ?_
    refine gc_reg ?_
    refine tlr 25 [.slice a0 n0 c0, .int .u64 (s2.2.2 1), .slice a2 n2 c2] Xg7 0 ?_
    refine ts Xg2 0 (.agg #[.slice a0 n0 c0, .int .u64 (s2.2.2 1), .slice a2 n2 c2]) [.slice a0 n0 c0, .int .u64 (s2.2.2 1), .slice a2 n2 c2] [.slice a0 n0 c0, .int .u64 (s2.2.2 1), .slice a2 n2 c2] ?_
    intro v15 Y C
    replace BB := belowC BB C (by omega)
    replace Q0 := NatX.but Q0 (chg_but C) (by omega)
    replace Xg7 := Xg7.chg C (show g7 ≠ g2 by omega)
    replace Q2 := NatX.but Q2 (chg_but C) (by omega)
    clear C Xg2
    have Xg2 := Y
    clear Y
    refine t 3 (.int .i64 0) ?_
    refine gl_nil ?_
    refine ge_then ?_
    refine gc_ret ?_
    refine ge_ret (.tuple #[.agg #[.slice a0 n0 c0, .int .u64 (s2.2.2 1), .slice a2 n2 c2], .int .i64 0]) (rsct 2 3 (T := 36) (by kernel_rfl) (by kernel_rfl) (by kernel_rfl) (lr Xg2 0)) ?_
    have es : s3 = (stDelegation l) := by rw [e3, e2, e1, ← hs0]; rfl
    have h0 : outR (stDelegation l) = 0 := by rw [← es]; exact c14
    have ex : outX (stDelegation l) = s3.2.2 := by rw [← es]; exact outX_ok c14
    clear es
    have x0 : s1.2.2 0 = outX (stDelegation l) 0 := by rw [ex, e3, e2]; rfl
    have x1 : s2.2.2 1 = outX (stDelegation l) 1 := by rw [ex, e3]; rfl
    have x2 : s3.2.2 2 = outX (stDelegation l) 2 := by rw [ex]
    rw [x0] at Q0
    rw [x2] at Q2
    exact ⟨_, _, _, _, _, _, by rw [h0, x1], ⟨Q0.nat.low (by omega), L0⟩, ⟨Q2.nat.low (by omega), L2⟩, BB⟩
  · refine tq 22 (.bool ((outR s3 : Int) != 0)) (.bool true) (congrArg Value.bool (bne_iff_ne.2 c14)) ?_
    refine gl_nil ?_
    refine ge_then ?_
    refine gc_yes ?_
    refine gc_seq ?_
    refine gc_reg ?_
    refine t 23 (.agg #[.slice none 0 0, .int .u64 0, .slice none 0 0]) ?_
    refine t 24 (.int .i64 (outR s3)) ?_
    refine ts Xg2 0 (.agg #[.slice none 0 0, .int .u64 0, .slice none 0 0]) [.slice none 0 0, .int .u64 0, .slice none 0 0] [.slice none 0 0, .int .u64 0, .slice none 0 0] ?_
    intro v16 Y C
    replace BB := belowC BB C (by omega)
    replace Q0 := NatX.but Q0 (chg_but C) (by omega)
    replace Xg7 := Xg7.chg C (show g7 ≠ g2 by omega)
    replace Q2 := NatX.but Q2 (chg_but C) (by omega)
    clear C Xg2
    have Xg2 := Y
    clear Y
    refine t 3 (.int .i64 (outR s3)) ?_
    refine gl_nil ?_
    refine ge_then ?_
    refine gc_ret ?_
    refine ge_tr ?_
    refine ge_ret (.tuple #[.agg #[.slice none 0 0, .int .u64 0, .slice none 0 0], .int .i64 (outR s3)]) (rsct 2 3 (T := 36) (by kernel_rfl) (by kernel_rfl) (by kernel_rfl) (lr Xg2 0)) ?_
    have es : s3 = (stDelegation l) := by rw [e3, e2, e1, ← hs0]; rfl
    have ex : outX (stDelegation l) = fun _ => 0 := by rw [← es]; exact outX_no c14
    rw [es]
    exact ⟨none, 0, 0, none, 0, 0, by rw [ex], ⟨by rw [ex]; exact natW_nil _ _, by decide⟩, ⟨by rw [ex]; exact natW_nil _ _, by decide⟩, BB⟩
def stHistory (l : List Int) : RSt := thr rnx [(2, 0), (0, 1)] (0, l, fun _ => 0)
theorem outHistory {w w' : World} {s : RSt} {e : Ending} (h : FinR w kd_History 2 mkA s e w') : ∃ a0 n0 c0, e = .returned (.tuple #[.agg #[.slice a0 n0 c0, .int .u64 (outX s 1)], .int .i64 (outR s)]) ∧ (NatW w' w.heap.size a0 n0 c0 (outX s 0) ∧ n0 ≤ 510) ∧ Below w.heap.size w w' := by
  obtain ⟨⟨cs, xs, r, rfl, h1, h2, h3, h4⟩, B⟩ := h
  obtain ⟨e1, e2⟩ := out_of h3 h4
  subst e1 e2
  obtain ⟨a0, n0, c0, q0, y0, z0⟩ := (h2 0).2.2 rfl
  have q1 := (h2 1).1 rfl
  have ecs : cs = [.slice a0 n0 c0, .int .u64 (outX s 1)] := by
    refine List.ext_getElem? fun i => ?_
    rcases Nat.lt_or_ge i 2 with hi | hi
    · match i, hi with
      | 0, _ => exact q0
      | 1, _ => exact q1
      | n + 2, h => exact absurd h (by omega)
    · rw [List.getElem?_eq_none (by omega), List.getElem?_eq_none hi]
  subst ecs
  exact ⟨a0, n0, c0, rfl, ⟨y0, by omega⟩, B⟩
theorem oHistory {w : World} {bb n c : Nat} {ao : Option Addr} {l : List Int} (A : ByA w bb ao n c l) (hn : n ≤ 1000000000) : Calls Tryz.prog 41 #[.slice ao n c] w fun e w' => ∃ a0 n0 c0, e = .returned (.tuple #[.agg #[.slice a0 n0 c0, .int .u64 (outX (stHistory l) 1)], .int .i64 (outR (stHistory l))]) ∧ (NatW w' w.heap.size a0 n0 c0 (outX (stHistory l) 0) ∧ n0 ≤ 510) ∧ Below w.heap.size w w' := by
  refine (History_any A hn (by obtain ⟨o, h1, _⟩ := A.ex; exact h1)).mono ?_
  intro e w' h
  exact outHistory h
set_option maxHeartbeats 2000000 in
set_option maxRecDepth 100000 in
theorem rHistory {w : World} {bb n c : Nat} {ao : Option Addr} {l : List Int} (A : ByA w bb ao n c l) :
    Calls Tryz.prog 82 #[.slice ao n c] w fun e w' => ∃ a0 n0 c0, e = .returned (.tuple #[.agg #[.slice a0 n0 c0, .int .u64 (outX (stHistory l) 1)], .int .i64 (outR (stHistory l))]) ∧ (NatW w' w.heap.size a0 n0 c0 (outX (stHistory l) 0) ∧ n0 ≤ 510) ∧ Below w.heap.size w w' := by
  have BB := Below.refl w.heap.size w
  obtain ⟨s0, hs0⟩ : ∃ s : RSt, (0, l, fun _ => 0) = s := ⟨_, rfl⟩
  refine gc_enter (n := 23) Tryz.func82 rfl (by kernel_rfl) (by kernel_rfl) ?_
  refine gc_seq ?_
  refine gc_reg ?_
  refine ta 2 [.slice none 0 0, .int .u64 0] 38 (pg) ?_
  intro v1 g2 Xg2 hg2 B
  have zg2 := Nat.le_trans BB.size hg2
  replace BB := joinB BB B
  clear B
  refine t 3 (.int .i64 0) ?_
  refine gl_nil ?_
  refine ge_then ?_
  refine gc_seq ?_
  refine gc_reg ?_
  refine t 7 (.slice ao n c) ?_
  refine t 8 (.agg #[.slice ao n c, .int .i64 0]) ?_
  have lXg2 := Xg2.lt
  refine ta 9 [.slice ao n c, .int .i64 0] 188 (pg) ?_
  intro v3 g4 Xg4 hg4 B
  have zg4 := Nat.le_trans BB.size hg4
  replace BB := joinB BB B
  replace Xg2 := Xg2.keep B
  clear B
  have RF : RfA v3 g4 bb s0.1 s0.2.1 := by subst hs0; exact ⟨ao, n, c, ⟨Xg4.blk⟩, A.keep BB⟩
  clear Xg4
  have lRF := RF.lt
  refine t 4 (pg g4) ?_
  refine gl_nil ?_
  refine ge_then ?_
  refine gc_seq ?_
  refine gc_reg ?_
  refine t 10 (pg g4) ?_
  have k0_g2 := Xg2.lt
  have k0_r := RF.lt
  have k0_b := BB.size
  refine tc 11 146 #[pg g4] (jD 0 (s := s0) RF) ?_
  rintro _ v5 ⟨s1, e1, a0, n0, c0, rfl, Q0, L0, RG, U⟩
  refine ⟨_, rfl, ?_⟩
  replace BB := But.below U BB (by omega) (Nat.le_refl _)
  replace Xg2 := But.blk U Xg2 (show g2 ≠ g4 by omega)
  clear U
  replace RF := RG
  clear RG
  replace Q0 := natX Q0
  refine t 12 (.agg #[.slice a0 n0 c0, .int .u64 0]) ?_
  have lXg2 := Xg2.lt
  have lRF := RF.lt
  refine ta 5 [.slice none 0 0, .int .u64 0] 38 (pg) ?_
  intro v6 g7 Xg7 hg7 B
  have zg7 := Nat.le_trans BB.size hg7
  replace BB := joinB BB B
  replace Xg2 := Xg2.keep B
  replace RF := RF.keep B
  replace Q0 := NatX.keep Q0 B
  clear B
  refine ts Xg7 0 (.agg #[.slice a0 n0 c0, .int .u64 0]) [.slice a0 n0 c0, .int .u64 0] [.slice a0 n0 c0, .int .u64 0] ?_
  intro v8 Y C
  replace BB := belowC BB C (by omega)
  replace Xg2 := Xg2.chg C (show g2 ≠ g7 by omega)
  replace RF := RfA.offB RF Xg7 rfl (by omega) (chg_but C)
  replace Q0 := NatX.but Q0 (chg_but C) (by omega)
  clear C Xg7
  have Xg7 := Y
  clear Y
  refine gl_nil ?_
  refine ge_then ?_
  refine gc_seq ?_
  refine gc_reg ?_
  refine t 13 (pg g4) ?_
  refine tc 14 142 #[pg g4, .int .i64 8] (jU 1 (s := s1) RF) ?_
  rintro _ v9 ⟨s2, e2, rfl, RG, U⟩
  refine ⟨_, rfl, ?_⟩
  replace BB := But.below U BB (by omega) (Nat.le_refl _)
  replace Xg2 := But.blk U Xg2 (show g2 ≠ g4 by omega)
  replace Q0 := NatX.but Q0 U (by omega)
  replace Xg7 := But.blk U Xg7 (show g7 ≠ g4 by omega)
  clear U
  replace RF := RG
  clear RG
  refine t 15 (pq g7 1) ?_
  refine ts Xg7 1 (.int .u64 (s2.2.2 1)) [.int .u64 (s2.2.2 1)] [.slice a0 n0 c0, .int .u64 (s2.2.2 1)] ?_
  intro v10 Y C
  replace BB := belowC BB C (by omega)
  replace Xg2 := Xg2.chg C (show g2 ≠ g7 by omega)
  replace RF := RfA.offB RF Xg7 rfl (by omega) (chg_but C)
  replace Q0 := NatX.but Q0 (chg_but C) (by omega)
  clear C Xg7
  have Xg7 := Y
  clear Y
  refine gl_nil ?_
  refine ge_then ?_
  refine gc_seq ?_
  refine gc_reg ?_
  refine t 16 (pg g4) ?_
  refine tc 17 143 #[pg g4] (jends RF) ?_
  rintro _ v11 ⟨rfl, U⟩
  refine ⟨_, rfl, ?_⟩
  replace BB := But.below U BB (by omega) (Nat.le_refl _)
  replace Xg2 := But.blk U Xg2 (show g2 ≠ g4 by omega)
  replace Q0 := NatX.but Q0 U (by omega)
  replace Xg7 := But.blk U Xg7 (show g7 ≠ g4 by omega)
  clear U
  clear RF
  refine t 6 (.int .i64 (outR s2)) ?_
  refine gl_nil ?_
  refine ge_then ?_
  refine gc_fr [(2, pg g2), (3, .int .i64 0), (5, pg g7), (6, .int .i64 (outR s2))] (by kernel_rfl) ?_
  refine gc_seq ?_
  refine gc_seq ?_
  refine gc_reg ?_
  refine t 18 (.int .i64 (outR s2)) ?_
  by_cases c12 : (outR s2 : Int) = 0
  · refine tq 19 (.bool ((outR s2 : Int) != 0)) (.bool false) (congrArg Value.bool (bne_eq_false_iff_eq.2 c12)) ?_
    refine gl_nil ?_
    refine ge_then ?_
    refine gc_no ?_
    refine gc_skip ?_
    refine ge_then ?_
    refine gc_seq ?_
    refine gc_reg ?_
    refine tlr 22 [.slice a0 n0 c0, .int .u64 (s2.2.2 1)] Xg7 0 ?_
    refine ts Xg2 0 (.agg #[.slice a0 n0 c0, .int .u64 (s2.2.2 1)]) [.slice a0 n0 c0, .int .u64 (s2.2.2 1)] [.slice a0 n0 c0, .int .u64 (s2.2.2 1)] ?_
    intro v13 Y C
    replace BB := belowC BB C (by omega)
    replace Q0 := NatX.but Q0 (chg_but C) (by omega)
    replace Xg7 := Xg7.chg C (show g7 ≠ g2 by omega)
    clear C Xg2
    have Xg2 := Y
    clear Y
    refine t 3 (.int .i64 0) ?_
    refine gl_nil ?_
    refine ge_then ?_
    refine gc_ret ?_
    refine ge_ret (.tuple #[.agg #[.slice a0 n0 c0, .int .u64 (s2.2.2 1)], .int .i64 0]) (rsct 2 3 (T := 38) (by kernel_rfl) (by kernel_rfl) (by kernel_rfl) (lr Xg2 0)) ?_
    have es : s2 = (stHistory l) := by rw [e2, e1, ← hs0]; rfl
    have h0 : outR (stHistory l) = 0 := by rw [← es]; exact c12
    have ex : outX (stHistory l) = s2.2.2 := by rw [← es]; exact outX_ok c12
    clear es
    have x0 : s1.2.2 0 = outX (stHistory l) 0 := by rw [ex, e2]; rfl
    have x1 : s2.2.2 1 = outX (stHistory l) 1 := by rw [ex]
    rw [x0] at Q0
    exact ⟨_, _, _, by rw [h0, x1], ⟨Q0.nat.low (by omega), L0⟩, BB⟩
  · refine tq 19 (.bool ((outR s2 : Int) != 0)) (.bool true) (congrArg Value.bool (bne_iff_ne.2 c12)) ?_
    refine gl_nil ?_
    refine ge_then ?_
    refine gc_yes ?_
    refine gc_seq ?_
    refine gc_reg ?_
    refine t 20 (.agg #[.slice none 0 0, .int .u64 0]) ?_
    refine t 21 (.int .i64 (outR s2)) ?_
    refine ts Xg2 0 (.agg #[.slice none 0 0, .int .u64 0]) [.slice none 0 0, .int .u64 0] [.slice none 0 0, .int .u64 0] ?_
    intro v14 Y C
    replace BB := belowC BB C (by omega)
    replace Q0 := NatX.but Q0 (chg_but C) (by omega)
    replace Xg7 := Xg7.chg C (show g7 ≠ g2 by omega)
    clear C Xg2
    have Xg2 := Y
    clear Y
    refine t 3 (.int .i64 (outR s2)) ?_
    refine gl_nil ?_
    refine ge_then ?_
    refine gc_ret ?_
    refine ge_tr ?_
    refine ge_ret (.tuple #[.agg #[.slice none 0 0, .int .u64 0], .int .i64 (outR s2)]) (rsct 2 3 (T := 38) (by kernel_rfl) (by kernel_rfl) (by kernel_rfl) (lr Xg2 0)) ?_
    have es : s2 = (stHistory l) := by rw [e2, e1, ← hs0]; rfl
    have ex : outX (stHistory l) = fun _ => 0 := by rw [← es]; exact outX_no c12
    rw [es]
    exact ⟨none, 0, 0, by rw [ex], ⟨by rw [ex]; exact natW_nil _ _, by decide⟩, BB⟩
def stCut (l : List Int) : RSt := thr rnx [(0, 0), (0, 1)] (0, l, fun _ => 0)
theorem outCut {w w' : World} {s : RSt} {e : Ending} (h : FinR w kd_Cut 2 mkA s e w') : e = .returned (.tuple #[.agg #[.int .u64 (outX s 0), .int .u64 (outX s 1)], .int .i64 (outR s)]) ∧ Below w.heap.size w w' := by
  obtain ⟨⟨cs, xs, r, rfl, h1, h2, h3, h4⟩, B⟩ := h
  obtain ⟨e1, e2⟩ := out_of h3 h4
  subst e1 e2
  have q0 := (h2 0).1 rfl
  have q1 := (h2 1).1 rfl
  have ecs : cs = [.int .u64 (outX s 0), .int .u64 (outX s 1)] := by
    refine List.ext_getElem? fun i => ?_
    rcases Nat.lt_or_ge i 2 with hi | hi
    · match i, hi with
      | 0, _ => exact q0
      | 1, _ => exact q1
      | n + 2, h => exact absurd h (by omega)
    · rw [List.getElem?_eq_none (by omega), List.getElem?_eq_none hi]
  subst ecs
  exact ⟨rfl, B⟩
theorem oCut {w : World} {bb n c : Nat} {ao : Option Addr} {l : List Int} (A : ByA w bb ao n c l) (hn : n ≤ 1000000000) : Calls Tryz.prog 38 #[.slice ao n c] w fun e w' => e = .returned (.tuple #[.agg #[.int .u64 (outX (stCut l) 0), .int .u64 (outX (stCut l) 1)], .int .i64 (outR (stCut l))]) ∧ Below w.heap.size w w' := by
  refine (Cut_any A hn (by obtain ⟨o, h1, _⟩ := A.ex; exact h1)).mono ?_
  intro e w' h
  exact outCut h
set_option maxHeartbeats 2000000 in
set_option maxRecDepth 100000 in
theorem rCut {w : World} {bb n c : Nat} {ao : Option Addr} {l : List Int} (A : ByA w bb ao n c l) :
    Calls Tryz.prog 83 #[.slice ao n c] w fun e w' => e = .returned (.tuple #[.agg #[.int .u64 (outX (stCut l) 0), .int .u64 (outX (stCut l) 1)], .int .i64 (outR (stCut l))]) ∧ Below w.heap.size w w' := by
  have BB := Below.refl w.heap.size w
  obtain ⟨s0, hs0⟩ : ∃ s : RSt, (0, l, fun _ => 0) = s := ⟨_, rfl⟩
  refine gc_enter (n := 23) Tryz.func83 rfl (by kernel_rfl) (by kernel_rfl) ?_
  refine gc_seq ?_
  refine gc_reg ?_
  refine ta 2 [.int .u64 0, .int .u64 0] 40 (pg) ?_
  intro v1 g2 Xg2 hg2 B
  have zg2 := Nat.le_trans BB.size hg2
  replace BB := joinB BB B
  clear B
  refine t 3 (.int .i64 0) ?_
  refine gl_nil ?_
  refine ge_then ?_
  refine gc_seq ?_
  refine gc_reg ?_
  refine t 7 (.slice ao n c) ?_
  refine t 8 (.agg #[.slice ao n c, .int .i64 0]) ?_
  have lXg2 := Xg2.lt
  refine ta 9 [.slice ao n c, .int .i64 0] 188 (pg) ?_
  intro v3 g4 Xg4 hg4 B
  have zg4 := Nat.le_trans BB.size hg4
  replace BB := joinB BB B
  replace Xg2 := Xg2.keep B
  clear B
  have RF : RfA v3 g4 bb s0.1 s0.2.1 := by subst hs0; exact ⟨ao, n, c, ⟨Xg4.blk⟩, A.keep BB⟩
  clear Xg4
  have lRF := RF.lt
  refine t 4 (pg g4) ?_
  refine gl_nil ?_
  refine ge_then ?_
  refine gc_seq ?_
  refine gc_reg ?_
  refine t 10 (pg g4) ?_
  refine tc 11 142 #[pg g4, .int .i64 8] (jU 0 (s := s0) RF) ?_
  rintro _ v5 ⟨s1, e1, rfl, RG, U⟩
  refine ⟨_, rfl, ?_⟩
  replace BB := But.below U BB (by omega) (Nat.le_refl _)
  replace Xg2 := But.blk U Xg2 (show g2 ≠ g4 by omega)
  clear U
  replace RF := RG
  clear RG
  refine t 12 (.agg #[.int .u64 (s1.2.2 0), .int .u64 0]) ?_
  have lXg2 := Xg2.lt
  have lRF := RF.lt
  refine ta 5 [.int .u64 0, .int .u64 0] 40 (pg) ?_
  intro v6 g7 Xg7 hg7 B
  have zg7 := Nat.le_trans BB.size hg7
  replace BB := joinB BB B
  replace Xg2 := Xg2.keep B
  replace RF := RF.keep B
  clear B
  refine ts Xg7 0 (.agg #[.int .u64 (s1.2.2 0), .int .u64 0]) [.int .u64 (s1.2.2 0), .int .u64 0] [.int .u64 (s1.2.2 0), .int .u64 0] ?_
  intro v8 Y C
  replace BB := belowC BB C (by omega)
  replace Xg2 := Xg2.chg C (show g2 ≠ g7 by omega)
  replace RF := RfA.offB RF Xg7 rfl (by omega) (chg_but C)
  clear C Xg7
  have Xg7 := Y
  clear Y
  refine gl_nil ?_
  refine ge_then ?_
  refine gc_seq ?_
  refine gc_reg ?_
  refine t 13 (pg g4) ?_
  refine tc 14 142 #[pg g4, .int .i64 8] (jU 1 (s := s1) RF) ?_
  rintro _ v9 ⟨s2, e2, rfl, RG, U⟩
  refine ⟨_, rfl, ?_⟩
  replace BB := But.below U BB (by omega) (Nat.le_refl _)
  replace Xg2 := But.blk U Xg2 (show g2 ≠ g4 by omega)
  replace Xg7 := But.blk U Xg7 (show g7 ≠ g4 by omega)
  clear U
  replace RF := RG
  clear RG
  refine t 15 (pq g7 1) ?_
  refine ts Xg7 1 (.int .u64 (s2.2.2 1)) [.int .u64 (s2.2.2 1)] [.int .u64 (s1.2.2 0), .int .u64 (s2.2.2 1)] ?_
  intro v10 Y C
  replace BB := belowC BB C (by omega)
  replace Xg2 := Xg2.chg C (show g2 ≠ g7 by omega)
  replace RF := RfA.offB RF Xg7 rfl (by omega) (chg_but C)
  clear C Xg7
  have Xg7 := Y
  clear Y
  refine gl_nil ?_
  refine ge_then ?_
  refine gc_seq ?_
  refine gc_reg ?_
  refine t 16 (pg g4) ?_
  refine tc 17 143 #[pg g4] (jends RF) ?_
  rintro _ v11 ⟨rfl, U⟩
  refine ⟨_, rfl, ?_⟩
  replace BB := But.below U BB (by omega) (Nat.le_refl _)
  replace Xg2 := But.blk U Xg2 (show g2 ≠ g4 by omega)
  replace Xg7 := But.blk U Xg7 (show g7 ≠ g4 by omega)
  clear U
  clear RF
  refine t 6 (.int .i64 (outR s2)) ?_
  refine gl_nil ?_
  refine ge_then ?_
  refine gc_fr [(2, pg g2), (3, .int .i64 0), (5, pg g7), (6, .int .i64 (outR s2))] (by kernel_rfl) ?_
  refine gc_seq ?_
  refine gc_seq ?_
  refine gc_reg ?_
  refine t 18 (.int .i64 (outR s2)) ?_
  by_cases c12 : (outR s2 : Int) = 0
  · refine tq 19 (.bool ((outR s2 : Int) != 0)) (.bool false) (congrArg Value.bool (bne_eq_false_iff_eq.2 c12)) ?_
    refine gl_nil ?_
    refine ge_then ?_
    refine gc_no ?_
    refine gc_skip ?_
    refine ge_then ?_
    refine gc_seq ?_
    refine gc_reg ?_
    refine tlr 22 [.int .u64 (s1.2.2 0), .int .u64 (s2.2.2 1)] Xg7 0 ?_
    refine ts Xg2 0 (.agg #[.int .u64 (s1.2.2 0), .int .u64 (s2.2.2 1)]) [.int .u64 (s1.2.2 0), .int .u64 (s2.2.2 1)] [.int .u64 (s1.2.2 0), .int .u64 (s2.2.2 1)] ?_
    intro v13 Y C
    replace BB := belowC BB C (by omega)
    replace Xg7 := Xg7.chg C (show g7 ≠ g2 by omega)
    clear C Xg2
    have Xg2 := Y
    clear Y
    refine t 3 (.int .i64 0) ?_
    refine gl_nil ?_
    refine ge_then ?_
    refine gc_ret ?_
    refine ge_ret (.tuple #[.agg #[.int .u64 (s1.2.2 0), .int .u64 (s2.2.2 1)], .int .i64 0]) (rsct 2 3 (T := 40) (by kernel_rfl) (by kernel_rfl) (by kernel_rfl) (lr Xg2 0)) ?_
    have es : s2 = (stCut l) := by rw [e2, e1, ← hs0]; rfl
    have h0 : outR (stCut l) = 0 := by rw [← es]; exact c12
    have ex : outX (stCut l) = s2.2.2 := by rw [← es]; exact outX_ok c12
    clear es
    have x0 : s1.2.2 0 = outX (stCut l) 0 := by rw [ex, e2]; rfl
    have x1 : s2.2.2 1 = outX (stCut l) 1 := by rw [ex]
    exact ⟨by rw [h0, x0, x1], BB⟩
  · refine tq 19 (.bool ((outR s2 : Int) != 0)) (.bool true) (congrArg Value.bool (bne_iff_ne.2 c12)) ?_
    refine gl_nil ?_
    refine ge_then ?_
    refine gc_yes ?_
    refine gc_seq ?_
    refine gc_reg ?_
    refine t 20 (.agg #[.int .u64 0, .int .u64 0]) ?_
    refine t 21 (.int .i64 (outR s2)) ?_
    refine ts Xg2 0 (.agg #[.int .u64 0, .int .u64 0]) [.int .u64 0, .int .u64 0] [.int .u64 0, .int .u64 0] ?_
    intro v14 Y C
    replace BB := belowC BB C (by omega)
    replace Xg7 := Xg7.chg C (show g7 ≠ g2 by omega)
    clear C Xg2
    have Xg2 := Y
    clear Y
    refine t 3 (.int .i64 (outR s2)) ?_
    refine gl_nil ?_
    refine ge_then ?_
    refine gc_ret ?_
    refine ge_tr ?_
    refine ge_ret (.tuple #[.agg #[.int .u64 0, .int .u64 0], .int .i64 (outR s2)]) (rsct 2 3 (T := 40) (by kernel_rfl) (by kernel_rfl) (by kernel_rfl) (lr Xg2 0)) ?_
    have es : s2 = (stCut l) := by rw [e2, e1, ← hs0]; rfl
    have ex : outX (stCut l) = fun _ => 0 := by rw [← es]; exact outX_no c12
    rw [es]
    exact ⟨by rw [ex], BB⟩
def stUnbonding (l : List Int) : RSt := thr rnx [(0, 0), (0, 1), (0, 2), (0, 3), (0, 4), (0, 5)] (0, l, fun _ => 0)
theorem outUnbonding {w w' : World} {s : RSt} {e : Ending} (h : FinR w kd_Unbonding 6 mkA s e w') : e = .returned (.tuple #[.agg #[.int .u64 (outX s 0), .int .u64 (outX s 1), .int .u64 (outX s 2), .int .u64 (outX s 3), .int .u64 (outX s 4), .int .u64 (outX s 5)], .int .i64 (outR s)]) ∧ Below w.heap.size w w' := by
  obtain ⟨⟨cs, xs, r, rfl, h1, h2, h3, h4⟩, B⟩ := h
  obtain ⟨e1, e2⟩ := out_of h3 h4
  subst e1 e2
  have q0 := (h2 0).1 rfl
  have q1 := (h2 1).1 rfl
  have q2 := (h2 2).1 rfl
  have q3 := (h2 3).1 rfl
  have q4 := (h2 4).1 rfl
  have q5 := (h2 5).1 rfl
  have ecs : cs = [.int .u64 (outX s 0), .int .u64 (outX s 1), .int .u64 (outX s 2), .int .u64 (outX s 3), .int .u64 (outX s 4), .int .u64 (outX s 5)] := by
    refine List.ext_getElem? fun i => ?_
    rcases Nat.lt_or_ge i 6 with hi | hi
    · match i, hi with
      | 0, _ => exact q0
      | 1, _ => exact q1
      | 2, _ => exact q2
      | 3, _ => exact q3
      | 4, _ => exact q4
      | 5, _ => exact q5
      | n + 6, h => exact absurd h (by omega)
    · rw [List.getElem?_eq_none (by omega), List.getElem?_eq_none hi]
  subst ecs
  exact ⟨rfl, B⟩
theorem oUnbonding {w : World} {bb n c : Nat} {ao : Option Addr} {l : List Int} (A : ByA w bb ao n c l) (hn : n ≤ 1000000000) : Calls Tryz.prog 84 #[.slice ao n c] w fun e w' => e = .returned (.tuple #[.agg #[.int .u64 (outX (stUnbonding l) 0), .int .u64 (outX (stUnbonding l) 1), .int .u64 (outX (stUnbonding l) 2), .int .u64 (outX (stUnbonding l) 3), .int .u64 (outX (stUnbonding l) 4), .int .u64 (outX (stUnbonding l) 5)], .int .i64 (outR (stUnbonding l))]) ∧ Below w.heap.size w w' := by
  refine (Unbonding_any A hn (by obtain ⟨o, h1, _⟩ := A.ex; exact h1)).mono ?_
  intro e w' h
  exact outUnbonding h
set_option maxHeartbeats 2000000 in
set_option maxRecDepth 100000 in
theorem rUnbonding {w : World} {bb n c : Nat} {ao : Option Addr} {l : List Int} (A : ByA w bb ao n c l) :
    Calls Tryz.prog 85 #[.slice ao n c] w fun e w' => e = .returned (.tuple #[.agg #[.int .u64 (outX (stUnbonding l) 0), .int .u64 (outX (stUnbonding l) 1), .int .u64 (outX (stUnbonding l) 2), .int .u64 (outX (stUnbonding l) 3), .int .u64 (outX (stUnbonding l) 4), .int .u64 (outX (stUnbonding l) 5)], .int .i64 (outR (stUnbonding l))]) ∧ Below w.heap.size w w' := by
  have BB := Below.refl w.heap.size w
  obtain ⟨s0, hs0⟩ : ∃ s : RSt, (0, l, fun _ => 0) = s := ⟨_, rfl⟩
  refine gc_enter (n := 35) Tryz.func85 rfl (by kernel_rfl) (by kernel_rfl) ?_
  refine gc_seq ?_
  refine gc_reg ?_
  refine ta 2 [.int .u64 0, .int .u64 0, .int .u64 0, .int .u64 0, .int .u64 0, .int .u64 0] 42 (pg) ?_
  intro v1 g2 Xg2 hg2 B
  have zg2 := Nat.le_trans BB.size hg2
  replace BB := joinB BB B
  clear B
  refine t 3 (.int .i64 0) ?_
  refine gl_nil ?_
  refine ge_then ?_
  refine gc_seq ?_
  refine gc_reg ?_
  refine t 7 (.slice ao n c) ?_
  refine t 8 (.agg #[.slice ao n c, .int .i64 0]) ?_
  have lXg2 := Xg2.lt
  refine ta 9 [.slice ao n c, .int .i64 0] 188 (pg) ?_
  intro v3 g4 Xg4 hg4 B
  have zg4 := Nat.le_trans BB.size hg4
  replace BB := joinB BB B
  replace Xg2 := Xg2.keep B
  clear B
  have RF : RfA v3 g4 bb s0.1 s0.2.1 := by subst hs0; exact ⟨ao, n, c, ⟨Xg4.blk⟩, A.keep BB⟩
  clear Xg4
  have lRF := RF.lt
  refine t 4 (pg g4) ?_
  refine gl_nil ?_
  refine ge_then ?_
  refine gc_seq ?_
  refine gc_reg ?_
  have lXg2 := Xg2.lt
  have lRF := RF.lt
  refine ta 5 [.int .u64 0, .int .u64 0, .int .u64 0, .int .u64 0, .int .u64 0, .int .u64 0] 42 (pg) ?_
  intro v5 g6 Xg6 hg6 B
  have zg6 := Nat.le_trans BB.size hg6
  replace BB := joinB BB B
  replace Xg2 := Xg2.keep B
  replace RF := RF.keep B
  clear B
  refine gl_nil ?_
  refine ge_then ?_
  refine gc_seq ?_
  refine gc_reg ?_
  refine t 10 (pg g4) ?_
  refine tc 11 142 #[pg g4, .int .i64 8] (jU 0 (s := s0) RF) ?_
  rintro _ v7 ⟨s1, e1, rfl, RG, U⟩
  refine ⟨_, rfl, ?_⟩
  replace BB := But.below U BB (by omega) (Nat.le_refl _)
  replace Xg2 := But.blk U Xg2 (show g2 ≠ g4 by omega)
  replace Xg6 := But.blk U Xg6 (show g6 ≠ g4 by omega)
  clear U
  replace RF := RG
  clear RG
  refine t 12 (pg g6) ?_
  refine ts Xg6 0 (.int .u64 (s1.2.2 0)) [.int .u64 (s1.2.2 0)] [.int .u64 (s1.2.2 0), .int .u64 0, .int .u64 0, .int .u64 0, .int .u64 0, .int .u64 0] ?_
  intro v8 Y C
  replace BB := belowC BB C (by omega)
  replace Xg2 := Xg2.chg C (show g2 ≠ g6 by omega)
  replace RF := RfA.offB RF Xg6 rfl (by omega) (chg_but C)
  clear C Xg6
  have Xg6 := Y
  clear Y
  refine gl_nil ?_
  refine ge_then ?_
  refine gc_seq ?_
  refine gc_reg ?_
  refine t 13 (pg g4) ?_
  refine tc 14 142 #[pg g4, .int .i64 8] (jU 1 (s := s1) RF) ?_
  rintro _ v9 ⟨s2, e2, rfl, RG, U⟩
  refine ⟨_, rfl, ?_⟩
  replace BB := But.below U BB (by omega) (Nat.le_refl _)
  replace Xg2 := But.blk U Xg2 (show g2 ≠ g4 by omega)
  replace Xg6 := But.blk U Xg6 (show g6 ≠ g4 by omega)
  clear U
  replace RF := RG
  clear RG
  refine t 15 (pq g6 1) ?_
  refine ts Xg6 1 (.int .u64 (s2.2.2 1)) [.int .u64 (s2.2.2 1)] [.int .u64 (s1.2.2 0), .int .u64 (s2.2.2 1), .int .u64 0, .int .u64 0, .int .u64 0, .int .u64 0] ?_
  intro v10 Y C
  replace BB := belowC BB C (by omega)
  replace Xg2 := Xg2.chg C (show g2 ≠ g6 by omega)
  replace RF := RfA.offB RF Xg6 rfl (by omega) (chg_but C)
  clear C Xg6
  have Xg6 := Y
  clear Y
  refine gl_nil ?_
  refine ge_then ?_
  refine gc_seq ?_
  refine gc_reg ?_
  refine t 16 (pg g4) ?_
  refine tc 17 142 #[pg g4, .int .i64 8] (jU 2 (s := s2) RF) ?_
  rintro _ v11 ⟨s3, e3, rfl, RG, U⟩
  refine ⟨_, rfl, ?_⟩
  replace BB := But.below U BB (by omega) (Nat.le_refl _)
  replace Xg2 := But.blk U Xg2 (show g2 ≠ g4 by omega)
  replace Xg6 := But.blk U Xg6 (show g6 ≠ g4 by omega)
  clear U
  replace RF := RG
  clear RG
  refine t 18 (pq g6 2) ?_
  refine ts Xg6 2 (.int .u64 (s3.2.2 2)) [.int .u64 (s3.2.2 2)] [.int .u64 (s1.2.2 0), .int .u64 (s2.2.2 1), .int .u64 (s3.2.2 2), .int .u64 0, .int .u64 0, .int .u64 0] ?_
  intro v12 Y C
  replace BB := belowC BB C (by omega)
  replace Xg2 := Xg2.chg C (show g2 ≠ g6 by omega)
  replace RF := RfA.offB RF Xg6 rfl (by omega) (chg_but C)
  clear C Xg6
  have Xg6 := Y
  clear Y
  refine gl_nil ?_
  refine ge_then ?_
  refine gc_fr [(2, pg g2), (3, .int .i64 0), (4, pg g4), (5, pg g6)] (by kernel_rfl) ?_
  refine gc_seq ?_
  refine gc_reg ?_
  refine t 19 (pg g4) ?_
  refine tc 20 142 #[pg g4, .int .i64 8] (jU 3 (s := s3) RF) ?_
  rintro _ v13 ⟨s4, e4, rfl, RG, U⟩
  refine ⟨_, rfl, ?_⟩
  replace BB := But.below U BB (by omega) (Nat.le_refl _)
  replace Xg2 := But.blk U Xg2 (show g2 ≠ g4 by omega)
  replace Xg6 := But.blk U Xg6 (show g6 ≠ g4 by omega)
  clear U
  replace RF := RG
  clear RG
  refine t 21 (pq g6 3) ?_
  refine ts Xg6 3 (.int .u64 (s4.2.2 3)) [.int .u64 (s4.2.2 3)] [.int .u64 (s1.2.2 0), .int .u64 (s2.2.2 1), .int .u64 (s3.2.2 2), .int .u64 (s4.2.2 3), .int .u64 0, .int .u64 0] ?_
  intro v14 Y C
  replace BB := belowC BB C (by omega)
  replace Xg2 := Xg2.chg C (show g2 ≠ g6 by omega)
  replace RF := RfA.offB RF Xg6 rfl (by omega) (chg_but C)
  clear C Xg6
  have Xg6 := Y
  clear Y
  refine gl_nil ?_
  refine ge_then ?_
  refine gc_seq ?_
  refine gc_reg ?_
  refine t 22 (pg g4) ?_
  refine tc 23 142 #[pg g4, .int .i64 8] (jU 4 (s := s4) RF) ?_
  rintro _ v15 ⟨s5, e5, rfl, RG, U⟩
  refine ⟨_, rfl, ?_⟩
  replace BB := But.below U BB (by omega) (Nat.le_refl _)
  replace Xg2 := But.blk U Xg2 (show g2 ≠ g4 by omega)
  replace Xg6 := But.blk U Xg6 (show g6 ≠ g4 by omega)
  clear U
  replace RF := RG
  clear RG
  refine t 24 (pq g6 4) ?_
  refine ts Xg6 4 (.int .u64 (s5.2.2 4)) [.int .u64 (s5.2.2 4)] [.int .u64 (s1.2.2 0), .int .u64 (s2.2.2 1), .int .u64 (s3.2.2 2), .int .u64 (s4.2.2 3), .int .u64 (s5.2.2 4), .int .u64 0] ?_
  intro v16 Y C
  replace BB := belowC BB C (by omega)
  replace Xg2 := Xg2.chg C (show g2 ≠ g6 by omega)
  replace RF := RfA.offB RF Xg6 rfl (by omega) (chg_but C)
  clear C Xg6
  have Xg6 := Y
  clear Y
  refine gl_nil ?_
  refine ge_then ?_
  refine gc_seq ?_
  refine gc_reg ?_
  refine t 25 (pg g4) ?_
  refine tc 26 142 #[pg g4, .int .i64 8] (jU 5 (s := s5) RF) ?_
  rintro _ v17 ⟨s6, e6, rfl, RG, U⟩
  refine ⟨_, rfl, ?_⟩
  replace BB := But.below U BB (by omega) (Nat.le_refl _)
  replace Xg2 := But.blk U Xg2 (show g2 ≠ g4 by omega)
  replace Xg6 := But.blk U Xg6 (show g6 ≠ g4 by omega)
  clear U
  replace RF := RG
  clear RG
  refine t 27 (pq g6 5) ?_
  refine ts Xg6 5 (.int .u64 (s6.2.2 5)) [.int .u64 (s6.2.2 5)] [.int .u64 (s1.2.2 0), .int .u64 (s2.2.2 1), .int .u64 (s3.2.2 2), .int .u64 (s4.2.2 3), .int .u64 (s5.2.2 4), .int .u64 (s6.2.2 5)] ?_
  intro v18 Y C
  replace BB := belowC BB C (by omega)
  replace Xg2 := Xg2.chg C (show g2 ≠ g6 by omega)
  replace RF := RfA.offB RF Xg6 rfl (by omega) (chg_but C)
  clear C Xg6
  have Xg6 := Y
  clear Y
  refine gl_nil ?_
  refine ge_then ?_
  refine gc_seq ?_
  refine gc_reg ?_
  refine t 28 (pg g4) ?_
  refine tc 29 143 #[pg g4] (jends RF) ?_
  rintro _ v19 ⟨rfl, U⟩
  refine ⟨_, rfl, ?_⟩
  replace BB := But.below U BB (by omega) (Nat.le_refl _)
  replace Xg2 := But.blk U Xg2 (show g2 ≠ g4 by omega)
  replace Xg6 := But.blk U Xg6 (show g6 ≠ g4 by omega)
  clear U
  clear RF
  refine t 6 (.int .i64 (outR s6)) ?_
  refine gl_nil ?_
  refine ge_then ?_
  refine gc_seq ?_
  refine gc_seq ?_
  refine gc_reg ?_
  refine t 30 (.int .i64 (outR s6)) ?_
  by_cases c20 : (outR s6 : Int) = 0
  · refine tq 31 (.bool ((outR s6 : Int) != 0)) (.bool false) (congrArg Value.bool (bne_eq_false_iff_eq.2 c20)) ?_
    refine gl_nil ?_
    refine ge_then ?_
    refine gc_no ?_
    refine gc_skip ?_
    refine ge_then ?_
    refine gc_seq ?_
    refine gc_reg ?_
    refine tlr 34 [.int .u64 (s1.2.2 0), .int .u64 (s2.2.2 1), .int .u64 (s3.2.2 2), .int .u64 (s4.2.2 3), .int .u64 (s5.2.2 4), .int .u64 (s6.2.2 5)] Xg6 0 ?_
    refine ts Xg2 0 (.agg #[.int .u64 (s1.2.2 0), .int .u64 (s2.2.2 1), .int .u64 (s3.2.2 2), .int .u64 (s4.2.2 3), .int .u64 (s5.2.2 4), .int .u64 (s6.2.2 5)]) [.int .u64 (s1.2.2 0), .int .u64 (s2.2.2 1), .int .u64 (s3.2.2 2), .int .u64 (s4.2.2 3), .int .u64 (s5.2.2 4), .int .u64 (s6.2.2 5)] [.int .u64 (s1.2.2 0), .int .u64 (s2.2.2 1), .int .u64 (s3.2.2 2), .int .u64 (s4.2.2 3), .int .u64 (s5.2.2 4), .int .u64 (s6.2.2 5)] ?_
    intro v21 Y C
    replace BB := belowC BB C (by omega)
    replace Xg6 := Xg6.chg C (show g6 ≠ g2 by omega)
    clear C Xg2
    have Xg2 := Y
    clear Y
    refine t 3 (.int .i64 0) ?_
    refine gl_nil ?_
    refine ge_then ?_
    refine gc_fr [(2, pg g2), (3, .int .i64 0)] (by kernel_rfl) ?_
    refine gc_ret ?_
    refine ge_ret (.tuple #[.agg #[.int .u64 (s1.2.2 0), .int .u64 (s2.2.2 1), .int .u64 (s3.2.2 2), .int .u64 (s4.2.2 3), .int .u64 (s5.2.2 4), .int .u64 (s6.2.2 5)], .int .i64 0]) (rsct 2 3 (T := 42) (by kernel_rfl) (by kernel_rfl) (by kernel_rfl) (lr Xg2 0)) ?_
    have es : s6 = (stUnbonding l) := by rw [e6, e5, e4, e3, e2, e1, ← hs0]; rfl
    have h0 : outR (stUnbonding l) = 0 := by rw [← es]; exact c20
    have ex : outX (stUnbonding l) = s6.2.2 := by rw [← es]; exact outX_ok c20
    clear es
    have x0 : s1.2.2 0 = outX (stUnbonding l) 0 := by rw [ex, e6, e5, e4, e3, e2]; rfl
    have x1 : s2.2.2 1 = outX (stUnbonding l) 1 := by rw [ex, e6, e5, e4, e3]; rfl
    have x2 : s3.2.2 2 = outX (stUnbonding l) 2 := by rw [ex, e6, e5, e4]; rfl
    have x3 : s4.2.2 3 = outX (stUnbonding l) 3 := by rw [ex, e6, e5]; rfl
    have x4 : s5.2.2 4 = outX (stUnbonding l) 4 := by rw [ex, e6]; rfl
    have x5 : s6.2.2 5 = outX (stUnbonding l) 5 := by rw [ex]
    exact ⟨by rw [h0, x0, x1, x2, x3, x4, x5], BB⟩
  · refine tq 31 (.bool ((outR s6 : Int) != 0)) (.bool true) (congrArg Value.bool (bne_iff_ne.2 c20)) ?_
    refine gl_nil ?_
    refine ge_then ?_
    refine gc_yes ?_
    refine gc_seq ?_
    refine gc_reg ?_
    refine t 32 (.agg #[.int .u64 0, .int .u64 0, .int .u64 0, .int .u64 0, .int .u64 0, .int .u64 0]) ?_
    refine t 33 (.int .i64 (outR s6)) ?_
    refine ts Xg2 0 (.agg #[.int .u64 0, .int .u64 0, .int .u64 0, .int .u64 0, .int .u64 0, .int .u64 0]) [.int .u64 0, .int .u64 0, .int .u64 0, .int .u64 0, .int .u64 0, .int .u64 0] [.int .u64 0, .int .u64 0, .int .u64 0, .int .u64 0, .int .u64 0, .int .u64 0] ?_
    intro v22 Y C
    replace BB := belowC BB C (by omega)
    replace Xg6 := Xg6.chg C (show g6 ≠ g2 by omega)
    clear C Xg2
    have Xg2 := Y
    clear Y
    refine t 3 (.int .i64 (outR s6)) ?_
    refine gl_nil ?_
    refine ge_then ?_
    refine gc_fr [(2, pg g2), (3, .int .i64 (outR s6)), (5, pg g6)] (by kernel_rfl) ?_
    refine gc_ret ?_
    refine ge_tr ?_
    refine ge_ret (.tuple #[.agg #[.int .u64 0, .int .u64 0, .int .u64 0, .int .u64 0, .int .u64 0, .int .u64 0], .int .i64 (outR s6)]) (rsct 2 3 (T := 42) (by kernel_rfl) (by kernel_rfl) (by kernel_rfl) (lr Xg2 0)) ?_
    have es : s6 = (stUnbonding l) := by rw [e6, e5, e4, e3, e2, e1, ← hs0]; rfl
    have ex : outX (stUnbonding l) = fun _ => 0 := by rw [← es]; exact outX_no c20
    rw [es]
    exact ⟨by rw [ex], BB⟩
def stMove (l : List Int) : RSt := thr rnx [(0, 0), (0, 1), (0, 2), (0, 3), (0, 4), (0, 5), (2, 6)] (0, l, fun _ => 0)
theorem outMove {w w' : World} {s : RSt} {e : Ending} (h : FinR w kd_Move 7 mkA s e w') : ∃ a6 n6 c6, e = .returned (.tuple #[.agg #[.int .u64 (outX s 0), .int .u64 (outX s 1), .int .u64 (outX s 2), .int .u64 (outX s 3), .int .u64 (outX s 4), .int .u64 (outX s 5), .slice a6 n6 c6], .int .i64 (outR s)]) ∧ (NatW w' w.heap.size a6 n6 c6 (outX s 6) ∧ n6 ≤ 510) ∧ Below w.heap.size w w' := by
  obtain ⟨⟨cs, xs, r, rfl, h1, h2, h3, h4⟩, B⟩ := h
  obtain ⟨e1, e2⟩ := out_of h3 h4
  subst e1 e2
  have q0 := (h2 0).1 rfl
  have q1 := (h2 1).1 rfl
  have q2 := (h2 2).1 rfl
  have q3 := (h2 3).1 rfl
  have q4 := (h2 4).1 rfl
  have q5 := (h2 5).1 rfl
  obtain ⟨a6, n6, c6, q6, y6, z6⟩ := (h2 6).2.2 rfl
  have ecs : cs = [.int .u64 (outX s 0), .int .u64 (outX s 1), .int .u64 (outX s 2), .int .u64 (outX s 3), .int .u64 (outX s 4), .int .u64 (outX s 5), .slice a6 n6 c6] := by
    refine List.ext_getElem? fun i => ?_
    rcases Nat.lt_or_ge i 7 with hi | hi
    · match i, hi with
      | 0, _ => exact q0
      | 1, _ => exact q1
      | 2, _ => exact q2
      | 3, _ => exact q3
      | 4, _ => exact q4
      | 5, _ => exact q5
      | 6, _ => exact q6
      | n + 7, h => exact absurd h (by omega)
    · rw [List.getElem?_eq_none (by omega), List.getElem?_eq_none hi]
  subst ecs
  exact ⟨a6, n6, c6, rfl, ⟨y6, by omega⟩, B⟩
theorem oMove {w : World} {bb n c : Nat} {ao : Option Addr} {l : List Int} (A : ByA w bb ao n c l) (hn : n ≤ 1000000000) : Calls Tryz.prog 86 #[.slice ao n c] w fun e w' => ∃ a6 n6 c6, e = .returned (.tuple #[.agg #[.int .u64 (outX (stMove l) 0), .int .u64 (outX (stMove l) 1), .int .u64 (outX (stMove l) 2), .int .u64 (outX (stMove l) 3), .int .u64 (outX (stMove l) 4), .int .u64 (outX (stMove l) 5), .slice a6 n6 c6], .int .i64 (outR (stMove l))]) ∧ (NatW w' w.heap.size a6 n6 c6 (outX (stMove l) 6) ∧ n6 ≤ 510) ∧ Below w.heap.size w w' := by
  refine (Move_any A hn (by obtain ⟨o, h1, _⟩ := A.ex; exact h1)).mono ?_
  intro e w' h
  exact outMove h
set_option maxHeartbeats 2000000 in
set_option maxRecDepth 100000 in
theorem rMove {w : World} {bb n c : Nat} {ao : Option Addr} {l : List Int} (A : ByA w bb ao n c l) :
    Calls Tryz.prog 87 #[.slice ao n c] w fun e w' => ∃ a6 n6 c6, e = .returned (.tuple #[.agg #[.int .u64 (outX (stMove l) 0), .int .u64 (outX (stMove l) 1), .int .u64 (outX (stMove l) 2), .int .u64 (outX (stMove l) 3), .int .u64 (outX (stMove l) 4), .int .u64 (outX (stMove l) 5), .slice a6 n6 c6], .int .i64 (outR (stMove l))]) ∧ (NatW w' w.heap.size a6 n6 c6 (outX (stMove l) 6) ∧ n6 ≤ 510) ∧ Below w.heap.size w w' := by
  have BB := Below.refl w.heap.size w
  obtain ⟨s0, hs0⟩ : ∃ s : RSt, (0, l, fun _ => 0) = s := ⟨_, rfl⟩
  refine gc_enter (n := 38) Tryz.func87 rfl (by kernel_rfl) (by kernel_rfl) ?_
  refine gc_seq ?_
  refine gc_reg ?_
  refine ta 2 [.int .u64 0, .int .u64 0, .int .u64 0, .int .u64 0, .int .u64 0, .int .u64 0, .slice none 0 0] 44 (pg) ?_
  intro v1 g2 Xg2 hg2 B
  have zg2 := Nat.le_trans BB.size hg2
  replace BB := joinB BB B
  clear B
  refine t 3 (.int .i64 0) ?_
  refine gl_nil ?_
  refine ge_then ?_
  refine gc_seq ?_
  refine gc_reg ?_
  refine t 7 (.slice ao n c) ?_
  refine t 8 (.agg #[.slice ao n c, .int .i64 0]) ?_
  have lXg2 := Xg2.lt
  refine ta 9 [.slice ao n c, .int .i64 0] 188 (pg) ?_
  intro v3 g4 Xg4 hg4 B
  have zg4 := Nat.le_trans BB.size hg4
  replace BB := joinB BB B
  replace Xg2 := Xg2.keep B
  clear B
  have RF : RfA v3 g4 bb s0.1 s0.2.1 := by subst hs0; exact ⟨ao, n, c, ⟨Xg4.blk⟩, A.keep BB⟩
  clear Xg4
  have lRF := RF.lt
  refine t 4 (pg g4) ?_
  refine gl_nil ?_
  refine ge_then ?_
  refine gc_seq ?_
  refine gc_reg ?_
  have lXg2 := Xg2.lt
  have lRF := RF.lt
  refine ta 5 [.int .u64 0, .int .u64 0, .int .u64 0, .int .u64 0, .int .u64 0, .int .u64 0, .slice none 0 0] 44 (pg) ?_
  intro v5 g6 Xg6 hg6 B
  have zg6 := Nat.le_trans BB.size hg6
  replace BB := joinB BB B
  replace Xg2 := Xg2.keep B
  replace RF := RF.keep B
  clear B
  refine gl_nil ?_
  refine ge_then ?_
  refine gc_seq ?_
  refine gc_reg ?_
  refine t 10 (pg g4) ?_
  refine tc 11 142 #[pg g4, .int .i64 8] (jU 0 (s := s0) RF) ?_
  rintro _ v7 ⟨s1, e1, rfl, RG, U⟩
  refine ⟨_, rfl, ?_⟩
  replace BB := But.below U BB (by omega) (Nat.le_refl _)
  replace Xg2 := But.blk U Xg2 (show g2 ≠ g4 by omega)
  replace Xg6 := But.blk U Xg6 (show g6 ≠ g4 by omega)
  clear U
  replace RF := RG
  clear RG
  refine t 12 (pg g6) ?_
  refine ts Xg6 0 (.int .u64 (s1.2.2 0)) [.int .u64 (s1.2.2 0)] [.int .u64 (s1.2.2 0), .int .u64 0, .int .u64 0, .int .u64 0, .int .u64 0, .int .u64 0, .slice none 0 0] ?_
  intro v8 Y C
  replace BB := belowC BB C (by omega)
  replace Xg2 := Xg2.chg C (show g2 ≠ g6 by omega)
  replace RF := RfA.offB RF Xg6 rfl (by omega) (chg_but C)
  clear C Xg6
  have Xg6 := Y
  clear Y
  refine gl_nil ?_
  refine ge_then ?_
  refine gc_seq ?_
  refine gc_reg ?_
  refine t 13 (pg g4) ?_
  refine tc 14 142 #[pg g4, .int .i64 8] (jU 1 (s := s1) RF) ?_
  rintro _ v9 ⟨s2, e2, rfl, RG, U⟩
  refine ⟨_, rfl, ?_⟩
  replace BB := But.below U BB (by omega) (Nat.le_refl _)
  replace Xg2 := But.blk U Xg2 (show g2 ≠ g4 by omega)
  replace Xg6 := But.blk U Xg6 (show g6 ≠ g4 by omega)
  clear U
  replace RF := RG
  clear RG
  refine t 15 (pq g6 1) ?_
  refine ts Xg6 1 (.int .u64 (s2.2.2 1)) [.int .u64 (s2.2.2 1)] [.int .u64 (s1.2.2 0), .int .u64 (s2.2.2 1), .int .u64 0, .int .u64 0, .int .u64 0, .int .u64 0, .slice none 0 0] ?_
  intro v10 Y C
  replace BB := belowC BB C (by omega)
  replace Xg2 := Xg2.chg C (show g2 ≠ g6 by omega)
  replace RF := RfA.offB RF Xg6 rfl (by omega) (chg_but C)
  clear C Xg6
  have Xg6 := Y
  clear Y
  refine gl_nil ?_
  refine ge_then ?_
  refine gc_seq ?_
  refine gc_reg ?_
  refine t 16 (pg g4) ?_
  refine tc 17 142 #[pg g4, .int .i64 8] (jU 2 (s := s2) RF) ?_
  rintro _ v11 ⟨s3, e3, rfl, RG, U⟩
  refine ⟨_, rfl, ?_⟩
  replace BB := But.below U BB (by omega) (Nat.le_refl _)
  replace Xg2 := But.blk U Xg2 (show g2 ≠ g4 by omega)
  replace Xg6 := But.blk U Xg6 (show g6 ≠ g4 by omega)
  clear U
  replace RF := RG
  clear RG
  refine t 18 (pq g6 2) ?_
  refine ts Xg6 2 (.int .u64 (s3.2.2 2)) [.int .u64 (s3.2.2 2)] [.int .u64 (s1.2.2 0), .int .u64 (s2.2.2 1), .int .u64 (s3.2.2 2), .int .u64 0, .int .u64 0, .int .u64 0, .slice none 0 0] ?_
  intro v12 Y C
  replace BB := belowC BB C (by omega)
  replace Xg2 := Xg2.chg C (show g2 ≠ g6 by omega)
  replace RF := RfA.offB RF Xg6 rfl (by omega) (chg_but C)
  clear C Xg6
  have Xg6 := Y
  clear Y
  refine gl_nil ?_
  refine ge_then ?_
  refine gc_fr [(2, pg g2), (3, .int .i64 0), (4, pg g4), (5, pg g6)] (by kernel_rfl) ?_
  refine gc_seq ?_
  refine gc_reg ?_
  refine t 19 (pg g4) ?_
  refine tc 20 142 #[pg g4, .int .i64 8] (jU 3 (s := s3) RF) ?_
  rintro _ v13 ⟨s4, e4, rfl, RG, U⟩
  refine ⟨_, rfl, ?_⟩
  replace BB := But.below U BB (by omega) (Nat.le_refl _)
  replace Xg2 := But.blk U Xg2 (show g2 ≠ g4 by omega)
  replace Xg6 := But.blk U Xg6 (show g6 ≠ g4 by omega)
  clear U
  replace RF := RG
  clear RG
  refine t 21 (pq g6 3) ?_
  refine ts Xg6 3 (.int .u64 (s4.2.2 3)) [.int .u64 (s4.2.2 3)] [.int .u64 (s1.2.2 0), .int .u64 (s2.2.2 1), .int .u64 (s3.2.2 2), .int .u64 (s4.2.2 3), .int .u64 0, .int .u64 0, .slice none 0 0] ?_
  intro v14 Y C
  replace BB := belowC BB C (by omega)
  replace Xg2 := Xg2.chg C (show g2 ≠ g6 by omega)
  replace RF := RfA.offB RF Xg6 rfl (by omega) (chg_but C)
  clear C Xg6
  have Xg6 := Y
  clear Y
  refine gl_nil ?_
  refine ge_then ?_
  refine gc_seq ?_
  refine gc_reg ?_
  refine t 22 (pg g4) ?_
  refine tc 23 142 #[pg g4, .int .i64 8] (jU 4 (s := s4) RF) ?_
  rintro _ v15 ⟨s5, e5, rfl, RG, U⟩
  refine ⟨_, rfl, ?_⟩
  replace BB := But.below U BB (by omega) (Nat.le_refl _)
  replace Xg2 := But.blk U Xg2 (show g2 ≠ g4 by omega)
  replace Xg6 := But.blk U Xg6 (show g6 ≠ g4 by omega)
  clear U
  replace RF := RG
  clear RG
  refine t 24 (pq g6 4) ?_
  refine ts Xg6 4 (.int .u64 (s5.2.2 4)) [.int .u64 (s5.2.2 4)] [.int .u64 (s1.2.2 0), .int .u64 (s2.2.2 1), .int .u64 (s3.2.2 2), .int .u64 (s4.2.2 3), .int .u64 (s5.2.2 4), .int .u64 0, .slice none 0 0] ?_
  intro v16 Y C
  replace BB := belowC BB C (by omega)
  replace Xg2 := Xg2.chg C (show g2 ≠ g6 by omega)
  replace RF := RfA.offB RF Xg6 rfl (by omega) (chg_but C)
  clear C Xg6
  have Xg6 := Y
  clear Y
  refine gl_nil ?_
  refine ge_then ?_
  refine gc_seq ?_
  refine gc_reg ?_
  refine t 25 (pg g4) ?_
  refine tc 26 142 #[pg g4, .int .i64 8] (jU 5 (s := s5) RF) ?_
  rintro _ v17 ⟨s6, e6, rfl, RG, U⟩
  refine ⟨_, rfl, ?_⟩
  replace BB := But.below U BB (by omega) (Nat.le_refl _)
  replace Xg2 := But.blk U Xg2 (show g2 ≠ g4 by omega)
  replace Xg6 := But.blk U Xg6 (show g6 ≠ g4 by omega)
  clear U
  replace RF := RG
  clear RG
  refine t 27 (pq g6 5) ?_
  refine ts Xg6 5 (.int .u64 (s6.2.2 5)) [.int .u64 (s6.2.2 5)] [.int .u64 (s1.2.2 0), .int .u64 (s2.2.2 1), .int .u64 (s3.2.2 2), .int .u64 (s4.2.2 3), .int .u64 (s5.2.2 4), .int .u64 (s6.2.2 5), .slice none 0 0] ?_
  intro v18 Y C
  replace BB := belowC BB C (by omega)
  replace Xg2 := Xg2.chg C (show g2 ≠ g6 by omega)
  replace RF := RfA.offB RF Xg6 rfl (by omega) (chg_but C)
  clear C Xg6
  have Xg6 := Y
  clear Y
  refine gl_nil ?_
  refine ge_then ?_
  refine gc_seq ?_
  refine gc_reg ?_
  refine t 28 (pg g4) ?_
  have k6_g2 := Xg2.lt
  have k6_g6 := Xg6.lt
  have k6_r := RF.lt
  have k6_b := BB.size
  refine tc 29 146 #[pg g4] (jD 6 (s := s6) RF) ?_
  rintro _ v19 ⟨s7, e7, a6, n6, c6, rfl, Q6, L6, RG, U⟩
  refine ⟨_, rfl, ?_⟩
  replace BB := But.below U BB (by omega) (Nat.le_refl _)
  replace Xg2 := But.blk U Xg2 (show g2 ≠ g4 by omega)
  replace Xg6 := But.blk U Xg6 (show g6 ≠ g4 by omega)
  clear U
  replace RF := RG
  clear RG
  replace Q6 := natX Q6
  refine t 30 (pq g6 6) ?_
  refine ts Xg6 6 (.agg #[.slice a6 n6 c6]) [.slice a6 n6 c6] [.int .u64 (s1.2.2 0), .int .u64 (s2.2.2 1), .int .u64 (s3.2.2 2), .int .u64 (s4.2.2 3), .int .u64 (s5.2.2 4), .int .u64 (s6.2.2 5), .slice a6 n6 c6] ?_
  intro v20 Y C
  replace BB := belowC BB C (by omega)
  replace Xg2 := Xg2.chg C (show g2 ≠ g6 by omega)
  replace RF := RfA.offB RF Xg6 rfl (by omega) (chg_but C)
  replace Q6 := NatX.but Q6 (chg_but C) (by omega)
  clear C Xg6
  have Xg6 := Y
  clear Y
  refine gl_nil ?_
  refine ge_then ?_
  refine gc_seq ?_
  refine gc_reg ?_
  refine t 31 (pg g4) ?_
  refine tc 32 143 #[pg g4] (jends RF) ?_
  rintro _ v21 ⟨rfl, U⟩
  refine ⟨_, rfl, ?_⟩
  replace BB := But.below U BB (by omega) (Nat.le_refl _)
  replace Xg2 := But.blk U Xg2 (show g2 ≠ g4 by omega)
  replace Xg6 := But.blk U Xg6 (show g6 ≠ g4 by omega)
  replace Q6 := NatX.but Q6 U (by omega)
  clear U
  clear RF
  refine t 6 (.int .i64 (outR s7)) ?_
  refine gl_nil ?_
  refine ge_then ?_
  refine gc_seq ?_
  refine gc_seq ?_
  refine gc_reg ?_
  refine t 33 (.int .i64 (outR s7)) ?_
  by_cases c22 : (outR s7 : Int) = 0
  · refine tq 34 (.bool ((outR s7 : Int) != 0)) (.bool false) (congrArg Value.bool (bne_eq_false_iff_eq.2 c22)) ?_
    refine gl_nil ?_
    refine ge_then ?_
    refine gc_fr [(2, pg g2), (3, .int .i64 0), (5, pg g6), (6, .int .i64 (outR s7)), (34, .bool false)] (by kernel_rfl) ?_
    refine gc_no ?_
    refine gc_skip ?_
    refine ge_then ?_
    refine gc_seq ?_
    refine gc_reg ?_
    refine tlr 37 [.int .u64 (s1.2.2 0), .int .u64 (s2.2.2 1), .int .u64 (s3.2.2 2), .int .u64 (s4.2.2 3), .int .u64 (s5.2.2 4), .int .u64 (s6.2.2 5), .slice a6 n6 c6] Xg6 0 ?_
    refine ts Xg2 0 (.agg #[.int .u64 (s1.2.2 0), .int .u64 (s2.2.2 1), .int .u64 (s3.2.2 2), .int .u64 (s4.2.2 3), .int .u64 (s5.2.2 4), .int .u64 (s6.2.2 5), .slice a6 n6 c6]) [.int .u64 (s1.2.2 0), .int .u64 (s2.2.2 1), .int .u64 (s3.2.2 2), .int .u64 (s4.2.2 3), .int .u64 (s5.2.2 4), .int .u64 (s6.2.2 5), .slice a6 n6 c6] [.int .u64 (s1.2.2 0), .int .u64 (s2.2.2 1), .int .u64 (s3.2.2 2), .int .u64 (s4.2.2 3), .int .u64 (s5.2.2 4), .int .u64 (s6.2.2 5), .slice a6 n6 c6] ?_
    intro v23 Y C
    replace BB := belowC BB C (by omega)
    replace Xg6 := Xg6.chg C (show g6 ≠ g2 by omega)
    replace Q6 := NatX.but Q6 (chg_but C) (by omega)
    clear C Xg2
    have Xg2 := Y
    clear Y
    refine t 3 (.int .i64 0) ?_
    refine gl_nil ?_
    refine ge_then ?_
    refine gc_ret ?_
    refine ge_ret (.tuple #[.agg #[.int .u64 (s1.2.2 0), .int .u64 (s2.2.2 1), .int .u64 (s3.2.2 2), .int .u64 (s4.2.2 3), .int .u64 (s5.2.2 4), .int .u64 (s6.2.2 5), .slice a6 n6 c6], .int .i64 0]) (rsct 2 3 (T := 44) (by kernel_rfl) (by kernel_rfl) (by kernel_rfl) (lr Xg2 0)) ?_
    have es : s7 = (stMove l) := by rw [e7, e6, e5, e4, e3, e2, e1, ← hs0]; rfl
    have h0 : outR (stMove l) = 0 := by rw [← es]; exact c22
    have ex : outX (stMove l) = s7.2.2 := by rw [← es]; exact outX_ok c22
    clear es
    have x0 : s1.2.2 0 = outX (stMove l) 0 := by rw [ex, e7, e6, e5, e4, e3, e2]; rfl
    have x1 : s2.2.2 1 = outX (stMove l) 1 := by rw [ex, e7, e6, e5, e4, e3]; rfl
    have x2 : s3.2.2 2 = outX (stMove l) 2 := by rw [ex, e7, e6, e5, e4]; rfl
    have x3 : s4.2.2 3 = outX (stMove l) 3 := by rw [ex, e7, e6, e5]; rfl
    have x4 : s5.2.2 4 = outX (stMove l) 4 := by rw [ex, e7, e6]; rfl
    have x5 : s6.2.2 5 = outX (stMove l) 5 := by rw [ex, e7]; rfl
    have x6 : s7.2.2 6 = outX (stMove l) 6 := by rw [ex]
    rw [x6] at Q6
    exact ⟨_, _, _, by rw [h0, x0, x1, x2, x3, x4, x5], ⟨Q6.nat.low (by omega), L6⟩, BB⟩
  · refine tq 34 (.bool ((outR s7 : Int) != 0)) (.bool true) (congrArg Value.bool (bne_iff_ne.2 c22)) ?_
    refine gl_nil ?_
    refine ge_then ?_
    refine gc_fr [(2, pg g2), (3, .int .i64 0), (5, pg g6), (6, .int .i64 (outR s7)), (34, .bool true)] (by kernel_rfl) ?_
    refine gc_yes ?_
    refine gc_seq ?_
    refine gc_reg ?_
    refine t 35 (.agg #[.int .u64 0, .int .u64 0, .int .u64 0, .int .u64 0, .int .u64 0, .int .u64 0, .slice none 0 0]) ?_
    refine t 36 (.int .i64 (outR s7)) ?_
    refine ts Xg2 0 (.agg #[.int .u64 0, .int .u64 0, .int .u64 0, .int .u64 0, .int .u64 0, .int .u64 0, .slice none 0 0]) [.int .u64 0, .int .u64 0, .int .u64 0, .int .u64 0, .int .u64 0, .int .u64 0, .slice none 0 0] [.int .u64 0, .int .u64 0, .int .u64 0, .int .u64 0, .int .u64 0, .int .u64 0, .slice none 0 0] ?_
    intro v24 Y C
    replace BB := belowC BB C (by omega)
    replace Xg6 := Xg6.chg C (show g6 ≠ g2 by omega)
    replace Q6 := NatX.but Q6 (chg_but C) (by omega)
    clear C Xg2
    have Xg2 := Y
    clear Y
    refine t 3 (.int .i64 (outR s7)) ?_
    refine gl_nil ?_
    refine ge_then ?_
    refine gc_ret ?_
    refine ge_tr ?_
    refine ge_ret (.tuple #[.agg #[.int .u64 0, .int .u64 0, .int .u64 0, .int .u64 0, .int .u64 0, .int .u64 0, .slice none 0 0], .int .i64 (outR s7)]) (rsct 2 3 (T := 44) (by kernel_rfl) (by kernel_rfl) (by kernel_rfl) (lr Xg2 0)) ?_
    have es : s7 = (stMove l) := by rw [e7, e6, e5, e4, e3, e2, e1, ← hs0]; rfl
    have ex : outX (stMove l) = fun _ => 0 := by rw [← es]; exact outX_no c22
    rw [es]
    exact ⟨none, 0, 0, by rw [ex], ⟨by rw [ex]; exact natW_nil _ _, by decide⟩, BB⟩
def stNumber (l : List Int) : RSt := thr rnx [(0, 0)] (0, l, fun _ => 0)
theorem outNumber {w w' : World} {s : RSt} {e : Ending} (h : FinR w kd_Number 1 mkO s e w') : e = .returned (.tuple #[.int .u64 (outX s 0), .int .i64 (outR s)]) ∧ Below w.heap.size w w' := by
  obtain ⟨⟨cs, xs, r, rfl, h1, h2, h3, h4⟩, B⟩ := h
  obtain ⟨e1, e2⟩ := out_of h3 h4
  subst e1 e2
  have q0 := (h2 0).1 rfl
  have ecs : cs = [.int .u64 (outX s 0)] := by
    refine List.ext_getElem? fun i => ?_
    rcases Nat.lt_or_ge i 1 with hi | hi
    · match i, hi with
      | 0, _ => exact q0
      | n + 1, h => exact absurd h (by omega)
    · rw [List.getElem?_eq_none (by omega), List.getElem?_eq_none hi]
  subst ecs
  exact ⟨rfl, B⟩
theorem oNumber {w : World} {bb n c : Nat} {ao : Option Addr} {l : List Int} (A : ByA w bb ao n c l) (hn : n ≤ 1000000000) : Calls Tryz.prog 42 #[.slice ao n c] w fun e w' => e = .returned (.tuple #[.int .u64 (outX (stNumber l) 0), .int .i64 (outR (stNumber l))]) ∧ Below w.heap.size w w' := by
  refine (Number_any A hn (by obtain ⟨o, h1, _⟩ := A.ex; exact h1)).mono ?_
  intro e w' h
  exact outNumber h
set_option maxHeartbeats 2000000 in
set_option maxRecDepth 100000 in
theorem rNumber {w : World} {bb n c : Nat} {ao : Option Addr} {l : List Int} (A : ByA w bb ao n c l) :
    Calls Tryz.prog 89 #[.slice ao n c] w fun e w' => e = .returned (.tuple #[.int .u64 (outX (stNumber l) 0), .int .i64 (outR (stNumber l))]) ∧ Below w.heap.size w w' := by
  have BB := Below.refl w.heap.size w
  obtain ⟨s0, hs0⟩ : ∃ s : RSt, (0, l, fun _ => 0) = s := ⟨_, rfl⟩
  refine gc_enter (n := 18) Tryz.func89 rfl (by kernel_rfl) (by kernel_rfl) ?_
  refine gc_seq ?_
  refine gc_reg ?_
  refine t 2 (.int .u64 0) ?_
  refine t 3 (.int .i64 0) ?_
  refine gl_nil ?_
  refine ge_then ?_
  refine gc_seq ?_
  refine gc_reg ?_
  refine t 7 (.slice ao n c) ?_
  refine t 8 (.agg #[.slice ao n c, .int .i64 0]) ?_
  refine ta 9 [.slice ao n c, .int .i64 0] 188 (pg) ?_
  intro v1 g2 Xg2 hg2 B
  have zg2 := Nat.le_trans BB.size hg2
  replace BB := joinB BB B
  clear B
  have RF : RfA v1 g2 bb s0.1 s0.2.1 := by subst hs0; exact ⟨ao, n, c, ⟨Xg2.blk⟩, A.keep BB⟩
  clear Xg2
  have lRF := RF.lt
  refine t 4 (pg g2) ?_
  refine gl_nil ?_
  refine ge_then ?_
  refine gc_seq ?_
  refine gc_reg ?_
  refine t 10 (pg g2) ?_
  refine tc 11 142 #[pg g2, .int .i64 8] (jU 0 (s := s0) RF) ?_
  rintro _ v3 ⟨s1, e1, rfl, RG, U⟩
  refine ⟨_, rfl, ?_⟩
  replace BB := But.below U BB (by omega) (Nat.le_refl _)
  clear U
  replace RF := RG
  clear RG
  refine t 5 (.int .u64 (s1.2.2 0)) ?_
  refine gl_nil ?_
  refine ge_then ?_
  refine gc_seq ?_
  refine gc_reg ?_
  refine t 12 (pg g2) ?_
  refine tc 13 143 #[pg g2] (jends RF) ?_
  rintro _ v4 ⟨rfl, U⟩
  refine ⟨_, rfl, ?_⟩
  replace BB := But.below U BB (by omega) (Nat.le_refl _)
  clear U
  clear RF
  refine t 6 (.int .i64 (outR s1)) ?_
  refine gl_nil ?_
  refine ge_then ?_
  refine gc_seq ?_
  refine gc_seq ?_
  refine gc_reg ?_
  refine t 14 (.int .i64 (outR s1)) ?_
  by_cases c5 : (outR s1 : Int) = 0
  · refine tq 15 (.bool ((outR s1 : Int) != 0)) (.bool false) (congrArg Value.bool (bne_eq_false_iff_eq.2 c5)) ?_
    refine gl_nil ?_
    refine ge_then ?_
    refine gc_no ?_
    refine gc_skip ?_
    refine ge_then ?_
    refine gc_seq ?_
    refine gc_reg ?_
    refine t 17 (.int .u64 (s1.2.2 0)) ?_
    refine t 2 (.int .u64 (s1.2.2 0)) ?_
    refine t 3 (.int .i64 0) ?_
    refine gl_nil ?_
    refine ge_then ?_
    refine gc_fr [(2, .int .u64 (s1.2.2 0)), (3, .int .i64 0)] (by kernel_rfl) ?_
    refine gc_ret ?_
    refine ge_ret (.tuple #[.int .u64 (s1.2.2 0), .int .i64 0]) (rs2 2 3 (by kernel_rfl) (by kernel_rfl) (by kernel_rfl)) ?_
    have es : s1 = (stNumber l) := by rw [e1, ← hs0]; rfl
    have h0 : outR (stNumber l) = 0 := by rw [← es]; exact c5
    have ex : outX (stNumber l) = s1.2.2 := by rw [← es]; exact outX_ok c5
    clear es
    have x0 : s1.2.2 0 = outX (stNumber l) 0 := by rw [ex]
    exact ⟨by rw [h0, x0], BB⟩
  · refine tq 15 (.bool ((outR s1 : Int) != 0)) (.bool true) (congrArg Value.bool (bne_iff_ne.2 c5)) ?_
    refine gl_nil ?_
    refine ge_then ?_
    refine gc_yes ?_
    refine gc_seq ?_
    refine gc_reg ?_
    refine t 16 (.int .i64 (outR s1)) ?_
    refine t 2 (.int .u64 0) ?_
    refine t 3 (.int .i64 (outR s1)) ?_
    refine gl_nil ?_
    refine ge_then ?_
    refine gc_fr [(2, .int .u64 0), (3, .int .i64 (outR s1)), (5, .int .u64 (s1.2.2 0))] (by kernel_rfl) ?_
    refine gc_ret ?_
    refine ge_tr ?_
    refine ge_ret (.tuple #[.int .u64 0, .int .i64 (outR s1)]) (rs2 2 3 (by kernel_rfl) (by kernel_rfl) (by kernel_rfl)) ?_
    have es : s1 = (stNumber l) := by rw [e1, ← hs0]; rfl
    have ex : outX (stNumber l) = fun _ => 0 := by rw [← es]; exact outX_no c5
    rw [es]
    exact ⟨by rw [ex], BB⟩
end Rc
end Go.Proofs.YtenlhceceplldaaGreat
