/- Several texts, joined: EncP. -/
import Derived.Test.YtgfglfpckjkcdaaJea
namespace Go.Proofs.Ytgfglfpckjkcdaa
open Go.RowKit Lim

/-- the document's Reader: its bytes, its error -/
structure RfA (w : World) (g b : Nat) (err : Int) (l : List Int) : Prop where
  ex : ∃ ao n c, Box w g [.slice ao n c, .int .i64 err] 69 ∧ ByA w b ao n c l
theorem RfA.keep {w w' : World} {g b : Nat} {err : Int} {l : List Int} (h : RfA w g b err l) (hb : Below w.heap.size w w') : RfA w' g b err l := by
  obtain ⟨ao, n, c, h1, h2⟩ := h.ex
  exact ⟨ao, n, c, h1.keep hb, h2.keep hb⟩
theorem no_u8f (err : Int) (ao : Option Addr) (n c : Nat) : ∀ v ∈ [Value.slice ao n c, Value.int .i64 err], ∀ x, v ≠ .int .u8 x := fun v hv x e => by
  rcases List.mem_cons.1 hv with h | h
  · subst h; cases e
  · rw [List.mem_singleton] at h; subst h; cases e
theorem RfA.lt {w : World} {g b : Nat} {err : Int} {l : List Int} (h : RfA w g b err l) : g < w.heap.size := by
  obtain ⟨_, _, _, X, _⟩ := h.ex
  exact X.lt
theorem RfA.oct {w : World} {g b : Nat} {err : Int} {l : List Int} (h : RfA w g b err l) : Octets l := by
  obtain ⟨_, _, _, _, A⟩ := h.ex
  obtain ⟨o, _, _, _, h4, _⟩ := A.ex
  exact h4
theorem RfA.len {w : World} {g b : Nat} {err : Int} {l : List Int} (h : RfA w g b err l) : l.length ≤ 9223372036854775807 := by
  obtain ⟨_, _, _, _, A⟩ := h.ex
  obtain ⟨o, _, _, ⟨_, _⟩, _, _⟩ := A.ex
  omega
/-- the Reader is read: the document's stays -/
theorem RfA.offR {w w' : World} {g g' b b' : Nat} {err e' : Int} {l l' : List Int} (h : RfA w g b err l) (h' : RdA w g' b' e' l') (hne : g ≠ g') (hB : But g' w w') : RfA w' g b err l := by
  obtain ⟨ao, n, c, X, A⟩ := h.ex
  obtain ⟨_, _, _, X', _⟩ := h'.ex
  exact ⟨ao, n, c, ⟨by rw [hB.block g X.lt hne]; exact X.blk⟩, A.but X' (no_u8 _ _ _ _) hB⟩
/-- the document's is read: the Reader stays -/
theorem RdA.offF {w w' : World} {g g' b b' : Nat} {err e' : Int} {l l' : List Int} (h : RdA w g b err l) (h' : RfA w g' b' e' l') (hne : g ≠ g') (hB : But g' w w') : RdA w' g b err l := by
  obtain ⟨ao, n, c, X, A⟩ := h.ex
  obtain ⟨_, _, _, X', _⟩ := h'.ex
  exact ⟨ao, n, c, ⟨by rw [hB.block g X.lt hne]; exact X.blk⟩, A.but X' (no_u8f _ _ _ _) hB⟩
theorem RfA.offN {w w' : World} {g g' b : Nat} {err : Int} {l : List Int} (h : RfA w g b err l) (hne : g ≠ g') (hb : b ≠ g') (hB : But g' w w') : RfA w' g b err l := by
  obtain ⟨ao, n, c, X, A⟩ := h.ex
  exact ⟨ao, n, c, ⟨by rw [hB.block g X.lt hne]; exact X.blk⟩, A.butN hb hB⟩
theorem but_set (w : World) (g k : Nat) (v : Value) : But g w (w.setCell ⟨g, k, none⟩ v) := ⟨rfl, rfl, rfl, by rw [size_set]; exact Nat.le_refl _, fun _ _ h2 => Below.heap_setCell _ _ _ _ h2⟩
set_option maxRecDepth 100000 in
theorem rfTake {w : World} {g b m : Nat} {l : List Int} (h : RfA w g b 0 l) (hm : m ≤ l.length) :
    Calls Try.prog 38 #[.pointer (some ⟨g, 0, none⟩), .int .i64 m] w fun e w' => ∃ ao c, e = .returned (.slice ao m c) ∧ ByA w' b ao m c (l.take m) ∧ RfA w' g b 0 (l.drop m) ∧ But g w w' := by
  obtain ⟨ao, n, c, X, A⟩ := h.ex
  obtain ⟨o, h1, h2, ⟨h3, -⟩, -, -⟩ := A.ex
  have hmn : m ≤ n := by omega
  have H : But g w (w.setCell ⟨g, 0, none⟩ (.slice (restAt ao c m) (n - m) (c - m))) := but_set _ _ _ _
  have HR : Hid (∀ w', w' = w.setCell ⟨g, 0, none⟩ (.slice (restAt ao c m) (n - m) (c - m)) → ByA w' b ao m c (l.take m) ∧ RfA w' g b 0 (l.drop m) ∧ But g w w') := fun w' e => by
    subst e
    exact ⟨(A.front2 hmn).but X (no_u8f _ _ _ _) H, ⟨_, _, _, box_put0 X _, (A.rest hmn).but X (no_u8f _ _ _ _) H⟩, H⟩
  obtain ⟨c1, c2, c3, c4⟩ := X.two
  have hm0 : (m : Int) ≤ n := by omega
  have hm1 : (m : Int) ≤ c := by omega
  have hq : ((n : Int) < m) = False := eq_false (by omega)
  have hn9 : (c : Int) ≤ 9223372036854775807 := by omega
  clear X A h H
  go_enter Try.func38, Try.ntmps38
  go_wp2
  · subst h
    go_ret
    exact ⟨ao, c, rfl, HR.out _ (by unfold restAt; rw [if_pos rfl, Nat.sub_self])⟩
  · go_ret
    exact ⟨ao, c, rfl, HR.out _ (by unfold restAt; rw [if_neg (by assumption)])⟩
set_option maxRecDepth 100000 in
theorem rfTakeS {w : World} {g b m : Nat} {l : List Int} (h : RfA w g b 0 l) (hm : l.length < m) :
    Calls Try.prog 38 #[.pointer (some ⟨g, 0, none⟩), .int .i64 m] w fun e w' => e = .returned (.slice none 0 0) ∧ RfA w' g b 40 l ∧ But g w w' := by
  obtain ⟨ao, n, c, X, A⟩ := h.ex
  obtain ⟨o, h1, h2, ⟨h3, -⟩, -, -⟩ := A.ex
  have H : But g w (w.setCell ⟨g, 1, none⟩ (.int .i64 40)) := but_set _ _ _ _
  have HR : Hid (RfA (w.setCell ⟨g, 1, none⟩ (.int .i64 40)) g b 40 l ∧ But g w (w.setCell ⟨g, 1, none⟩ (.int .i64 40))) := ⟨⟨_, _, _, box_put1 X _, A.but X (no_u8f _ _ _ _) H⟩, H⟩
  obtain ⟨c1, c2, c3, c4⟩ := X.two
  have d2 := (box_put1 X (.int .i64 40)).two.2.1
  have hq : ((n : Int) < m) = True := eq_true (by omega)
  clear X A h H hm
  go_enter Try.func38, Try.ntmps38
  go_wp2
  go_ret
  exact ⟨rfl, HR.out⟩
set_option maxRecDepth 100000 in
theorem rfTakeE {w : World} {g b : Nat} {m err : Int} {l : List Int} (h : RfA w g b err l) (he : err ≠ 0) :
    Calls Try.prog 38 #[.pointer (some ⟨g, 0, none⟩), .int .i64 m] w fun e w' => e = .returned (.slice none 0 0) ∧ w' = w := by
  obtain ⟨ao, n, c, X, A⟩ := h.ex
  obtain ⟨c1, c2, c3, c4⟩ := X.two
  have hb1 : (err == 0) = false := beq_eq_false_iff_ne.2 he
  have hb2 : (err != 0) = true := bne_iff_ne.2 he
  clear X A h he
  go_enter Try.func38, Try.ntmps38
  go_wp2
  go_ret
  exact ⟨rfl, rfl⟩
set_option maxHeartbeats 2000000 in
set_option maxRecDepth 100000 in
theorem rfU {w : World} {g b m : Nat} {err : Int} {l : List Int} (h : RfA w g b err l) (h8 : m ≤ 8) :
    Calls Try.prog 24 #[.pointer (some ⟨g, 0, none⟩), .int .i64 m] w fun e w' => e = .returned (.int .u64 (rdV 0 (pFix m l) err)) ∧ RfA w' g b (rdE (pFix m l) err) (rdL (pFix m l) err l) ∧ But g w w' := by
  by_cases he : err = 0
  · subst he
    by_cases hm : m ≤ l.length
    · have hp : pFix m l = .inr (bval (l.take m), m) := by unfold pFix; rw [if_pos hm]
      rw [hp]
      show Calls Try.prog _ _ w fun e w' => e = .returned (.int .u64 (bval (l.take m))) ∧ RfA w' g b 0 (l.drop m) ∧ But g w w'
      have HO : Hid (Octets (l.take m)) := fun x hx => h.oct x (List.mem_of_mem_take hx)
      have hlm : (l.take m).length = m := by rw [List.length_take]; omega
      have t := rfTake h hm
      clear hp h
      generalize l.take m = d at *
      generalize l.drop m = r at *
      have h8' : (m : Int) ≤ 8 := by omega
      go_enter Try.func24, Try.ntmps24
      go_wp2_with fail
      refine t.mono ?_
      rintro e w1 ⟨ao, c, rfl, A1, R1, b1⟩
      have HR1 := (show Hid _ from R1)
      have HB1 := (show Hid _ from b1)
      obtain ⟨o, -, -, -, -, hA5⟩ := A1.ex
      have HA5 := (show Hid _ from hA5)
      clear t A1 R1 b1 hA5
      go_wp2_with fail
      go_loop [6, 7] (fun tx ti => ∃ k : Nat, k ≤ m ∧ ti = .int .i64 k ∧ tx = .int .u64 (bval (d.take k))) (fun _ ti => m - (intOf ti).toNat)
      case atStart => exact ⟨0, Nat.zero_le _, rfl, rfl⟩
      case round =>
        obtain ⟨k, hk, rfl, rfl⟩ := hrel
        by_cases hlt : k < m
        · have hkl : k < d.length := by omega
          have hcell := HA5.out.cell k hkl
          obtain rfl : ao = some ⟨b, o, none⟩ := by
            rcases HA5.out.loc with e | e
            · rw [e] at hkl; simp at hkl
            · exact e
          have hk0 : (k : Int) < m := by omega
          have hd := HO.out.nth k
          have HB := bval_bound (l := d.take k) (fun x hx => HO.out x (List.mem_of_mem_take hx))
          have hp : (256 : Int) ^ (d.take k).length ≤ 256 ^ 7 := pow256_mono (by rw [List.length_take]; omega)
          have hx1 : bval (d.take k) < 72057594037927936 := by
            have e7 : (256 : Int) ^ 7 = 72057594037927936 := by decide
            omega
          have hx0 := HB.1
          have hor := or8 (bval (d.take k)) (nth d k) hx0 hx1 hd.1 hd.2
          have HN : Hid (bval (d.take (k + 1)) = bval (d.take k) * 256 + nth d k) := by show _ = _; rw [take_succ_nth hkl, bval_snoc2]
          clear HB hp
          generalize bval (d.take k) = V at *
          generalize nth d k = D at *
          go_wp2
          go_round
          case rel => exact ⟨k + 1, by omega, by go_num, by rw [HN.out]⟩
          case measure => simp [intOf]; omega
        · obtain rfl : k = m := by omega
          have hdk : d.take k = d := List.take_of_length_le (by omega)
          rw [hdk]
          go_wp2
          go_ret
          exact ⟨rfl, HR1.out, HB1.out⟩
    · have hp : pFix m l = .inl 40 := by unfold pFix; rw [if_neg hm]
      rw [hp]
      show Calls Try.prog _ _ w fun e w' => e = .returned (.int .u64 0) ∧ RfA w' g b 40 l ∧ But g w w'
      have t := rfTakeS (m := m) h (by omega)
      clear hp h hm
      go_enter Try.func24, Try.ntmps24
      go_wp2_with fail
      refine t.mono ?_
      rintro e w1 ⟨rfl, R1, b1⟩
      have HR1 := (show Hid _ from R1)
      have HB1 := (show Hid _ from b1)
      clear t R1 b1
      go_wp2_with fail
      go_loop [6, 7] (fun tx ti => tx = .int .u64 0 ∧ ti = .int .i64 0) (fun _ _ => 0)
      case atStart => exact ⟨rfl, rfl⟩
      case round =>
        obtain ⟨rfl, rfl⟩ := hrel
        go_wp2
        go_ret
        exact ⟨rfl, HR1.out, HB1.out⟩
  · rw [rdV_bad he, rdE_bad he, rdL_bad he]
    have t := rfTakeE (m := (m : Int)) h he
    have HH := (show Hid _ from h)
    clear h he
    go_enter Try.func24, Try.ntmps24
    go_wp2_with fail
    refine t.mono ?_
    rintro e w1 ⟨rfl, hw1⟩
    subst hw1
    clear t
    go_wp2_with fail
    go_loop [6, 7] (fun tx ti => tx = .int .u64 0 ∧ ti = .int .i64 0) (fun _ _ => 0)
    case atStart => exact ⟨rfl, rfl⟩
    case round =>
      obtain ⟨rfl, rfl⟩ := hrel
      go_wp2
      go_ret
      exact ⟨rfl, HH.out, But.refl _ _⟩
set_option maxRecDepth 100000 in
theorem rfEnd {w : World} {g b : Nat} {err : Int} {l : List Int} (h : RfA w g b err l) :
    Calls Try.prog 25 #[.pointer (some ⟨g, 0, none⟩)] w fun e w' => e = .returned (.int .i64 (endE err l)) ∧ RfA w' g b (endE err l) l ∧ But g w w' := by
  obtain ⟨ao, n, c, X, A⟩ := h.ex
  obtain ⟨o, h1, h2, ⟨h3, -⟩, -, -⟩ := A.ex
  have H : But g w (w.setCell ⟨g, 1, none⟩ (.int .i64 43)) := but_set _ _ _ _
  have HR : Hid (RfA (w.setCell ⟨g, 1, none⟩ (.int .i64 43)) g b 43 l ∧ But g w (w.setCell ⟨g, 1, none⟩ (.int .i64 43))) := ⟨⟨_, _, _, box_put1 X _, A.but X (no_u8f _ _ _ _) H⟩, H⟩
  obtain ⟨c1, c2, c3, c4⟩ := X.two
  have d2 := (box_put1 X (.int .i64 43)).two.2.1
  have HH := (show Hid _ from h)
  by_cases he : err = 0
  · subst he
    by_cases hl : l.length = 0
    · have e : endE 0 l = 0 := by unfold endE; rw [if_pos rfl, if_pos hl]
      rw [e]
      have hn : n = 0 := by omega
      subst hn
      clear X A h H HR e hl d2
      go_enter Try.func25, Try.ntmps25
      go_wp2
      go_ret
      exact ⟨rfl, HH.out, But.refl _ _⟩
    · have e : endE 0 l = 43 := by unfold endE; rw [if_pos rfl, if_neg hl]
      rw [e]
      have hn : 0 < n := by omega
      clear X A h H e hl HH
      go_enter Try.func25, Try.ntmps25
      go_wp2
      go_ret
      exact ⟨rfl, HR.out⟩
  · have e : endE err l = err := by unfold endE; rw [if_neg he]
    rw [e]
    have hb1 : (err == 0) = false := beq_eq_false_iff_ne.2 he
    clear X A h H HR e he d2
    go_enter Try.func25, Try.ntmps25
    go_wp2
    go_ret
    exact ⟨rfl, HH.out, But.refl _ _⟩
end Go.Proofs.Ytgfglfpckjkcdaa
