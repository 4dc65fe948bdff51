/- Several texts, joined: KyRa, KyRb, KyY, KyRc. -/
import Derived.Test.YtidnifmehnjipaaGreatJag
import Derived.Test.YtidnifmehnjipaaGreatJah
namespace Go.Proofs.YtidnifmehnjipaaGreat
namespace Ky
open Go.RowKit Go.Lib Pg
attribute [local go_sem] Oper.semAt_some eq50
/-- where what is left begins -/
def rsAt (b o c m : Nat) : Option Addr := if c = m then some ⟨b, o, none⟩ else some ⟨b, o + m, none⟩
theorem By.rest {w : World} {b o n c : Nat} {l : List Int} (h : By w (.slice (some ⟨b, o, none⟩) n c) l) {m : Nat} (hm : m ≤ n) : By w (.slice (rsAt b o c m) (n - m) (c - m)) (l.drop m) := by
  obtain ⟨hl, hnc, hcm⟩ := By.lens h
  unfold rsAt
  by_cases e : c = m
  · have : l.drop m = [] := List.drop_of_length_le (by omega)
    rw [if_pos e, this]
    exact ⟨_, c - m, by rw [show n - m = 0 by omega]; rfl, by simp, by omega, (fun e => by cases e), fun _ h => by simp at h, .inl rfl⟩
  · rw [if_neg e]; exact By.drop h m hm
set_option maxHeartbeats 1000000 in
set_option maxRecDepth 100000 in
theorem rtake_any {w : World} {g b o n c m : Nat} (hK : Blk w g [.slice (some ⟨b, o, none⟩) n c, .int .i64 0] 243) (hm : m ≤ n) (hnc : n ≤ c) (hc : c ≤ 9223372036854775807) :
    Calls Tryz.prog 196 #[.pointer (some ⟨g, 0, none⟩), .int .i64 m] w fun e w' => e = .returned (.slice (some ⟨b, o, none⟩) m c) ∧ w' = w.setCell ⟨g, 0, none⟩ (.slice (rsAt b o c m) (n - m) (c - m)) := by
  have c1 := hK.cell (i := 0) rfl
  have c2 := hK.cell (i := 1) rfl
  have c3 := hK.free 0
  have c4 := hK.free 1
  have hm0 : (m : Int) ≤ n := by omega
  have hm1 : (m : Int) ≤ c := by omega
  have hq : ((n : Int) < m) = False := eq_false (by omega)
  have hn9 : (c : Int) ≤ 9223372036854775807 := by omega
  clear hK
  go_enter Tryz.func196, Tryz.ntmps196
  go_wp2
  · subst h
    go_ret
    exact ⟨rfl, by unfold rsAt; rw [if_pos rfl]⟩
  · go_ret
    exact ⟨rfl, by unfold rsAt; rw [if_neg (by assumption)]⟩
set_option maxHeartbeats 4000000 in
set_option maxRecDepth 100000 in
theorem rU_any {w0 w : World} {g b o n c m : Nat} {l : List Int} (hY : By w0 (.slice (some ⟨b, o, none⟩) n c) l) (hB : Below w0.heap.size w0 w) (hg : w0.heap.size ≤ g) (hK : Blk w g [.slice (some ⟨b, o, none⟩) n c, .int .i64 0] 243) (hm : m ≤ n) (h8 : m ≤ 8) :
    Calls Tryz.prog 146 #[.pointer (some ⟨g, 0, none⟩), .int .i64 m] w fun e w' => e = .returned (.int .u64 (bv (l.take m))) ∧ w' = w.setCell ⟨g, 0, none⟩ (.slice (rsAt b o c m) (n - m) (c - m)) := by
  obtain ⟨hl, hnc, hcm⟩ := By.lens hY
  have t := rtake_any hK hm hnc hcm
  have HO : Hid (Oct (l.take m)) := fun x hx => hY.oct x (List.mem_of_mem_take hx)
  have HY : Hid (By (w.setCell ⟨g, 0, none⟩ (.slice (rsAt b o c m) (n - m) (c - m))) (.slice (some ⟨b, o, none⟩) m c) (l.take m)) := (By.take hY m hm).keep (hB.setCell hg _)
  have hlm : Hid ((l.take m).length = m) := by show _ = _; rw [List.length_take]; omega
  clear hY hK
  generalize l.take m = d at *
  have h8' : (m : Int) ≤ 8 := by omega
  go_enter Tryz.func146, Tryz.ntmps146
  go_wp2_with (go_at_call 196; refine t.mono ?_; rintro e w1 ⟨rfl, rfl⟩)
  generalize hW : w.setCell ⟨g, 0, none⟩ (.slice (rsAt b o c m) (n - m) (c - m)) = W at *
  replace hW := hid2 hW
  go_loop [6, 7] (fun tx ti => ∃ k : Nat, k ≤ m ∧ ti = .int .i64 k ∧ tx = .int .u64 (bv (d.take k))) (fun _ ti => m - (intOf ti).toNat)
  case atStart => exact ⟨0, Nat.zero_le _, rfl, rfl⟩
  case round =>
    obtain ⟨k, hk, rfl, rfl⟩ := hrel
    by_cases hlt : k < m
    · obtain ⟨x, hx⟩ : ∃ x, d[k]? = some x := ⟨d[k]'(by have := hlm.out; omega), List.getElem?_eq_getElem _⟩
      obtain ⟨b', o', e, cx⟩ := By.at HY.out hx
      cases e
      have hxb := HO.out x (List.mem_of_getElem? hx)
      have HT : Hid (bv (d.take (k + 1)) = bv (d.take k) * 256 + x) := by
        show _ = _
        rw [List.take_add_one, hx]
        exact bv_snoc _ _
      have hb := bv_bound k (d.take k) (fun y hy => HO.out y (List.mem_of_mem_take hy)) (by rw [List.length_take]; have := hlm.out; omega)
      have hb2 : bv (d.take k) < 72057594037927936 := by
        have h9 : (256 : Int) ^ k ≤ 256 ^ 7 := by
          have : (256 : Nat) ^ k ≤ 256 ^ 7 := Nat.pow_le_pow_right (by decide) (by omega)
          exact_mod_cast this
        have : (256 : Int) ^ 7 = 72057594037927936 := by decide
        omega
      have ho4 := or64 (bv (d.take k)) x hb.1 hb2 hxb.1 hxb.2
      generalize bv (d.take k) = V at *
      have hk0 : (k : Int) < m := by omega
      clear hb hb2 hx
      go_wp2
      go_round
      case rel =>
        refine ⟨k + 1, by omega, by go_num, ?_⟩
        rw [HT.out]
      case measure => simp [intOf]; omega
    · obtain rfl : k = m := by omega
      have hdk : d.take k = d := List.take_of_length_le (by have := hlm.out; omega)
      rw [hdk]
      have hk0 : ¬ ((k : Int) < k) := by omega
      go_wp2
      go_ret
      exact ⟨rfl, hW.out.symm⟩
theorem under_len {k : Int} {a : Int} (h : 16 < (frm k).1) : (mk k a 0).take ((mk k a 0).length - 8) = mkb (frm k) (tn k a) := by
  unfold mk
  rw [if_pos h]
  simp [be_length]
set_option maxHeartbeats 4000000 in
set_option maxRecDepth 100000 in
theorem runder_any {w : World} {k a : Int} (h0 : 0 ≤ a) (h1 : a < 18446744073709551616) : Calls Tryz.prog 111 #[.int .i64 k, .int .u64 a] w fun e w' => ∃ v, e = .returned (.tuple #[v, .int .i64 (if 16 < (frm k).1 then 0 else 70)]) ∧ By w' v (if 16 < (frm k).1 then mkb (frm k) (tn k a) else []) ∧ Below w.heap.size w w' := by
  have u1 := fun w => rform_any (w := w) (k := k)
  have u2 := fun w => rmake_any (w := w) (k := k) (a := a) (b := 0) h0 h1
  obtain ⟨n, N, m0, m1, hf, hN, hN2, h8, h16, hm, hm0, hm1, hz, h10⟩ := frm_doc k
  by_cases hk : 16 < (frm k).1
  · have hE : mkE k a 0 = false := by unfold mkE; simp; omega
    have hL := under_len (a := a) hk
    have hlen : 8 ≤ (mk k a 0).length := by
      unfold mk; rw [if_pos hk]; simp [be_length]
    rw [hE] at u2
    rw [if_pos hk, if_pos hk, ← hL]
    rw [hf] at hk u1
    simp only [hN] at u1
    have hN3 : ¬ ((N : Int) < 2) := by have := h16; simp only at hk; omega
    clear hf hN h8 h16 hm hm0 hm1 hz h10 hE hL hN2
    generalize hmk : mk k a 0 = L at *
    simp only [Bool.false_eq_true, if_false] at u2
    obtain ⟨ln, hln⟩ : ∃ ln, Hid (L.length = ln) := ⟨_, rfl⟩
    rw [hln.out] at hlen ⊢
    have HL := hid2 hlen
    have g1 : (8 : Int) ≤ ln := by omega
    clear hmk hk hlen
    go_enter Tryz.func111, Tryz.ntmps111
    go_wp2_with first
      | (go_at_call 88; refine (u1 _).mono ?_; rintro e w1 ⟨rfl, rfl⟩)
      | (go_at_call 37; go_loud (refine (u2 _).mono ?_; rintro e w2 ⟨v2, rfl, O2, B2⟩; obtain ⟨a2, c2, rfl⟩ := OB.sh O2; rw [hln.out] at O2 ⊢; have BY := O2.by; have hcap := (By.lens BY).2; have g2 : (ln : Int) - 8 ≤ c2 := (by omega); have g3 : IntKind.i64.wrap ((ln : Int) - 8) = ((ln - 8 : Nat) : Int) := (by rw [IntKind.wrap_i64]; omega); replace BY := hid2 BY; clear O2 hcap))
    go_ret2
    exact ⟨_, rfl, By.take BY.out (ln - 8) (by omega), B2⟩
  · rw [if_neg hk, if_neg hk]
    rw [hf] at hk u1
    simp only [hN] at u1
    have hN3 : ((N : Int) < 2) := by have := h16; simp only at hk; omega
    clear hf hN h8 h16 hm hm0 hm1 hz h10 hN2 u2 hk
    go_enter Tryz.func111, Tryz.ntmps111
    go_wp2_with first
      | (go_at_call 88; refine (u1 _).mono ?_; rintro e w1 ⟨rfl, rfl⟩)
    go_ret2
    exact ⟨_, rfl, By.nil _, Below.refl _ _⟩
end Ky
end Go.Proofs.YtidnifmehnjipaaGreat

namespace Go.Proofs.YtidnifmehnjipaaGreat
namespace Ky
open Go.RowKit Go.Lib Pg
attribute [local go_sem] Oper.semAt_some eq50
theorem map_set_last {l : List Int} {j : Nat} {x y : Int} (hj : l[j]? = some x) : ((l.take (j + 1)).map (Value.int .u8)).set j (.int .u8 y) = (l.take j ++ [y]).map (Value.int .u8) := by
  have hlt := (List.getElem?_eq_some_iff.1 hj).1
  rw [← List.map_set, List.take_add_one, hj]
  simp only [Option.toList_some]
  rw [List.set_append_right _ _ (by rw [List.length_take]; omega), List.length_take, Nat.min_eq_left (by omega), Nat.sub_self]
  rfl
theorem be_bv : ∀ (n : Nat) (l : List Int), Oct l → l.length = n → be n (bv l) = l
  | 0, l, _, h => by rw [List.eq_nil_of_length_eq_zero h]; rfl
  | n + 1, l, ho, h => by
    rcases List.eq_nil_or_concat l with rfl | ⟨l', x, rfl⟩
    · simp at h
    · have ho1 := ho x (by simp)
      have ih := be_bv n l' (fun y hy => ho y (by simp [hy])) (by simpa using h)
      rw [List.concat_eq_append, bv_snoc, be_snoc]
      rw [show (bv l' * 256 + x) / 256 = bv l' by omega, show (bv l' * 256 + x) % 256 = x by omega, ih]
theorem bv_u64 {l : List Int} (ho : Oct l) (h : l.length ≤ 8) : 0 ≤ bv l ∧ bv l < 18446744073709551616 := by
  have h1 := bv_bound l.length l ho rfl
  have h2 : (256 : Int) ^ l.length ≤ 18446744073709551616 := by
    generalize l.length = k at h
    have h9 : (256 : Nat) ^ k ≤ 256 ^ 8 := Nat.pow_le_pow_right (by decide) h
    have h10 : ((256 ^ k : Nat) : Int) ≤ ((256 ^ 8 : Nat) : Int) := by omega
    rw [Int.natCast_pow] at h10
    exact h10
  omega
theorem rdA_u64 {k : Nat} {l : List Int} (ho : Oct l) : 0 ≤ rdA k l ∧ rdA k l < 18446744073709551616 := by
  unfold rdA
  split
  · have h := bv_u64 (l := (l.drop 1).take 8) (fun x hx => ho x (List.mem_of_mem_drop (List.mem_of_mem_take hx))) (by rw [List.length_take]; omega)
    unfold tn
    split <;> omega
  · decide
theorem rdB_u64 {l : List Int} (ho : Oct l) : 0 ≤ rdB l ∧ rdB l < 18446744073709551616 := by
  unfold rdB
  split
  · exact bv_u64 (fun x hx => ho x (List.mem_of_mem_drop hx)) (by rw [List.length_drop]; omega)
  · decide
theorem rd_E {k : Nat} (hk : k < 18) (h0 : 0 < k) {l : List Int} (hn : (frm k).1 = l.length) : mkE k (rdA k l) (rdB l) = false := by
  have hp := frm_pos k hk h0
  refine (mkE_eq (n := (frm k).1) (m0 := (frm k).2.1) (m1 := (frm k).2.2) rfl (by omega)).2 ⟨fun h => ?_, fun h => ?_⟩
  · unfold rdA; rw [if_neg (by omega)]
  · unfold rdB; rw [if_neg (by omega)]
theorem fIn_mk {k : Nat} (hk : k < 18) (h0 : 0 < k) {l : List Int} (ho : Oct l) (h : frm k = fIn l) : mk k (rdA k l) (rdB l) = l := by
  have hF := frm_form k hk h0
  obtain ⟨⟨n, m0, m1⟩, hf⟩ : ∃ f, frm k = f := ⟨_, rfl⟩
  rw [hf] at hF h
  simp only at hF
  rw [mk_eq hf]
  simp only [fIn, Prod.mk.injEq] at h
  obtain ⟨h1, h2, h3⟩ := h
  have T : ∀ x, tn (k : Int) (tn (k : Int) x) = x := fun x => tn_tn
  rcases hF with ⟨rfl, rfl⟩ | ⟨rfl, rfl⟩ | ⟨rfl, hm⟩ | ⟨rfl, rfl⟩ | ⟨rfl, hm⟩
  · have hl : l.length = 1 := by omega
    match l, hl with
    | [x], _ => simp at h2; simp [h2]
  · have hl : l.length = 9 := by omega
    have e := be_bv 8 ((l.drop 1).take 8) (fun x hx => ho x (List.mem_of_mem_drop (List.mem_of_mem_take hx))) (by rw [List.length_take, List.length_drop]; omega)
    have eA : rdA k l = tn k (bv ((l.drop 1).take 8)) := by unfold rdA; rw [if_pos (by omega)]
    rw [eA, T, e]
    match l, hl with
    | x :: r, hl =>
      simp at h2 hl
      simp [h2, List.take_of_length_le (show r.length ≤ 8 by omega)]
  · have hl : l.length = 10 := by omega
    have e := be_bv 8 ((l.drop 1).take 8) (fun x hx => ho x (List.mem_of_mem_drop (List.mem_of_mem_take hx))) (by rw [List.length_take, List.length_drop]; omega)
    have eA : rdA k l = tn k (bv ((l.drop 1).take 8)) := by unfold rdA; rw [if_pos (by omega)]
    rw [eA, T, e]
    rw [if_pos (by omega)] at h3
    match l, hl with
    | [x0, x1, x2, x3, x4, x5, x6, x7, x8, x9], _ => simp at h2 h3; simp [h2, h3]; intro hx; exact absurd (h3.trans hx) hm
  · have hl : l.length = 17 := by omega
    have e := be_bv 8 ((l.drop 1).take 8) (fun x hx => ho x (List.mem_of_mem_drop (List.mem_of_mem_take hx))) (by rw [List.length_take, List.length_drop]; omega)
    have e2 := be_bv 8 (l.drop (l.length - 8)) (fun x hx => ho x (List.mem_of_mem_drop hx)) (by rw [List.length_drop]; omega)
    have eA : rdA k l = tn k (bv ((l.drop 1).take 8)) := by unfold rdA; rw [if_pos (by omega)]
    have eB : rdB l = bv (l.drop (l.length - 8)) := by unfold rdB; rw [if_pos (by omega)]
    rw [eA, eB, T, e, e2]
    match l, hl with
    | [x0, x1, x2, x3, x4, x5, x6, x7, x8, x9, y0, y1, y2, y3, y4, y5, y6], _ => simp at h2; simp [h2]
  · have hl : l.length = 18 := by omega
    have e := be_bv 8 ((l.drop 1).take 8) (fun x hx => ho x (List.mem_of_mem_drop (List.mem_of_mem_take hx))) (by rw [List.length_take, List.length_drop]; omega)
    have e2 := be_bv 8 (l.drop (l.length - 8)) (fun x hx => ho x (List.mem_of_mem_drop hx)) (by rw [List.length_drop]; omega)
    have eA : rdA k l = tn k (bv ((l.drop 1).take 8)) := by unfold rdA; rw [if_pos (by omega)]
    have eB : rdB l = bv (l.drop (l.length - 8)) := by unfold rdB; rw [if_pos (by omega)]
    rw [eA, eB, T, e, e2]
    rw [if_pos (by omega)] at h3
    match l, hl with
    | [x0, x1, x2, x3, x4, x5, x6, x7, x8, x9, y0, y1, y2, y3, y4, y5, y6, y7], _ => simp at h2 h3; simp [h2, h3]; rw [if_neg (fun hx => hm (h3.trans hx))]; rfl
theorem mk_fIn {k : Nat} (hk : k < 18) (h0 : 0 < k) {l : List Int} (ho : Oct l) (hn : (frm k).1 = l.length) (h : mk k (rdA k l) (rdB l) = l) : frm k = fIn l := by
  have := (mk_back hk h0 (rdA_u64 (k := k) ho) (rdB_u64 ho) (rd_E hk h0 hn)).1
  rw [h] at this
  exact this
theorem rU_got {w0 w : World} {g b o n c m : Nat} {l : List Int} (hY : By w0 (.slice (some ⟨b, o, none⟩) n c) l) (hB : Below w0.heap.size w0 w) (hg : w0.heap.size ≤ g) (hK : Blk w g [.slice (some ⟨b, o, none⟩) n c, .int .i64 0] 243) (hm : m ≤ n) (h8 : m ≤ 8) :
    Calls Tryz.prog 146 #[.pointer (some ⟨g, 0, none⟩), .int .i64 m] w fun e w' => e = .returned (.int .u64 (bv (l.take m))) ∧ (m < c → Blk w' g [.slice (some ⟨b, o + m, none⟩) (n - m) (c - m), .int .i64 0] 243) ∧ Chg (· = g) w w' := by
  refine (rU_any hY hB hg hK hm h8).mono ?_
  rintro e w' ⟨rfl, rfl⟩
  refine ⟨rfl, fun hlt => ?_, (Chg.refl (· = g) w).cell (.inl rfl) _⟩
  have h := hK.setCell (i := 0) (.slice (rsAt b o c m) (n - m) (c - m))
  unfold rsAt at h ⊢
  rw [if_neg (by omega)] at h ⊢
  exact h
end Ky
end Go.Proofs.YtidnifmehnjipaaGreat

namespace Go.Proofs.YtidnifmehnjipaaGreat
namespace Ky
open Go.RowKit Go.Lib Pg
attribute [local go_sem] Oper.semAt_some
abbrev U64 (a : Int) : Prop := 0 ≤ a ∧ a < 18446744073709551616
theorem make_ok {w : World} {k a b : Int} (h : U64 a) (hE : mkE k a b = false) : Calls Tryz.prog 32 #[.agg #[.int .i64 k, .int .u64 a, .int .u64 b]] w fun e w' => ∃ ao n c, e = .returned (.tuple #[.slice ao n c, .int .i64 0]) ∧ By w' (.slice ao n c) (mk k a b) ∧ Below w.heap.size w w' := by
  refine (make_any (w := w) (b := b) h.1 h.2).mono ?_
  rw [hE]
  rintro e w' ⟨v, rfl, O, b⟩
  obtain ⟨ao, c, rfl⟩ := OB.sh O
  exact ⟨ao, _, c, rfl, O.by, b⟩
theorem make_no {w : World} {k a b : Int} (h : U64 a) (hE : mkE k a b = true) : Calls Tryz.prog 32 #[.agg #[.int .i64 k, .int .u64 a, .int .u64 b]] w fun e w' => ∃ ao c, e = .returned (.tuple #[.slice ao 0 c, .int .i64 70]) ∧ Below w.heap.size w w' := by
  refine (make_any (w := w) (b := b) h.1 h.2).mono ?_
  rw [hE]
  rintro e w' ⟨v, rfl, O, b⟩
  obtain ⟨ao, c, rfl⟩ := OB.sh O
  exact ⟨ao, c, rfl, b⟩
theorem bytes_is {w : World} {u v : Value} {a b : List Int} {r : Bool} (ha : By w u a) (hb : By w v b) (hla : a.length ≤ 1000) (hlb : b.length ≤ 1000) (hr : decide (a = b) = r) : Calls Tryz.prog 61 #[u, v] w fun e w' => e = .returned (.bool r) ∧ Below w.heap.size w w' := by
  rw [← hr]; exact bytes_any ha hb (by omega) (by omega)
theorem less_is {w : World} {u v : Value} {a b : List Int} {r : Bool} (ha : By w u a) (hb : By w v b) (hla : a.length ≤ 1000) (hr : decide (Lt a b) = r) : Calls Tryz.prog 87 #[u, v] w fun e w' => e = .returned (.bool r) ∧ Below w.heap.size w w' := by
  rw [← hr]; exact less_by ha hb (by omega)
theorem read_ok {w : World} {ao : Option Addr} {n c m : Nat} (hm : m < 17) {a b : Int} (ha : U64 a) (hb : U64 b) (hE : mkE (1 + (m : Int)) a b = false) (h : By w (.slice ao n c) (mk (1 + (m : Int)) a b)) :
    Calls Tryz.prog 121 #[.slice ao n c] w fun e w' => e = .returned (.tuple #[.agg #[.int .i64 (1 + (m : Int)), .int .u64 a, .int .u64 b], .int .i64 0]) ∧ Below w.heap.size w w' := by
  have e1 : (1 + (m : Int)) = ((1 + m : Nat) : Int) := by omega
  rw [e1] at hE h ⊢
  exact read_mk (by omega) (by omega) ha hb hE h (by have := (By.lens h).1; have := mk_len ((1 + m : Nat) : Int) a b; omega)

theorem read_ok10 {w : World} {ao : Option Addr} {n c : Nat} {a b : Int} (ha : U64 a) (hb : U64 b) (hE : mkE 10 a b = false) (h : By w (.slice ao n c) (mk 10 a b)) :
    Calls Tryz.prog 121 #[.slice ao n c] w fun e w' => e = .returned (.tuple #[.agg #[.int .i64 10, .int .u64 a, .int .u64 b], .int .i64 0]) ∧ Below w.heap.size w w' := read_ok (m := 9) (by decide) ha hb hE h
end Ky
end Go.Proofs.YtidnifmehnjipaaGreat

namespace Go.Proofs.YtidnifmehnjipaaGreat
namespace Ky
open Go.RowKit Go.Lib Pg
attribute [local go_sem] Oper.semAt_some eq50
theorem rmake_ok {w : World} {k a b : Int} (h : U64 a) (hE : mkE k a b = false) : Calls Tryz.prog 37 #[.agg #[.int .i64 k, .int .u64 a, .int .u64 b]] w fun e w' => ∃ ao n c, e = .returned (.tuple #[.slice ao n c, .int .i64 0]) ∧ By w' (.slice ao n c) (mk k a b) ∧ Below w.heap.size w w' := by
  refine (rmake_any (w := w) (b := b) h.1 h.2).mono ?_
  rw [hE]
  rintro e w' ⟨v, rfl, O, b⟩
  obtain ⟨ao, c, rfl⟩ := OB.sh O
  exact ⟨ao, _, c, rfl, O.by, b⟩
set_option maxHeartbeats 16000000 in
set_option maxRecDepth 100000 in
theorem rread_any {w : World} {b o n c : Nat} {l : List Int} (h : By w (.slice (some ⟨b, o, none⟩) n c) l) (hbig : n ≤ 1000000000) (hn0 : 0 < n) :
    Calls Tryz.prog 157 #[.slice (some ⟨b, o, none⟩) n c] w fun e w' => ∃ R A B E, e = .returned (.tuple #[.agg #[.int .i64 R, .int .u64 A, .int .u64 B], .int .i64 E]) ∧ ((∃ k : Nat, k < 18 ∧ 0 < k ∧ frm k = fIn l ∧ R = k ∧ A = rdA k l ∧ B = rdB l ∧ E = 0) ∨ ((∀ j : Nat, j < 18 → 0 < j → frm j ≠ fIn l) ∧ R = 0 ∧ A = 0 ∧ B = 0 ∧ E = 70)) ∧ Below w.heap.size w w' := by
  obtain ⟨hl, hnc, hcm⟩ := By.lens h
  have HB := hid2 h
  have HL := hid2 hl
  have HO := hid2 h.oct
  have hcm' : (c : Int) ≤ 9223372036854775807 := by omega
  clear h hl
  go_enter Tryz.func157, Tryz.ntmps157
  go_wp2_with fail
  have z1 := hid2 (blk_new w [.int .i64 0, .int .u64 0, .int .u64 0] 90)
  have z2 := hid2 (below_alloc w (.cells #[.int .i64 0, .int .u64 0, .int .u64 0] 90))
  have z3 : Hid (w.heap.size < (w.alloc (.cells #[.int .i64 0, .int .u64 0, .int .u64 0] 90)).heap.size) := by show _ < _; simp
  go_loopw [4] (fun ti wr => ∃ k : Nat, 1 ≤ k ∧ k ≤ 18 ∧ ti = .int .i64 k ∧ Hid (∀ j : Nat, j < k → 0 < j → frm j ≠ fIn l) ∧ Hid (Blk wr w.heap.size [.int .i64 0, .int .u64 0, .int .u64 0] 90) ∧ Hid (Below w.heap.size w wr) ∧ Hid (w.heap.size < wr.heap.size)) (fun ti _ => 18 - (intOf ti).toNat)
  case atStart => exact ⟨1, by decide, by decide, rfl, fun j h1 h2 => by omega, z1, z2, z3⟩
  case round =>
    obtain ⟨k, hk1, hk2, rfl, HA, HQ, HW, HZ⟩ := hrel
    clear z1 z2 z3
    by_cases hlt : k < 18
    · have hk0 : (k : Int) ≤ 17 := by omega
      have u1 := fun w => rform_any (w := w) (k := k)
      have hF := frm_form k hlt hk1
      have hT := frm_ten k hlt hk1
      obtain ⟨⟨fn, m0, m1⟩, hf⟩ : ∃ f, frm k = f := ⟨_, rfl⟩
      rw [hf] at hF hT u1
      simp only at hF hT u1
      rcases hF with ⟨rfl, rfl⟩ | ⟨rfl, rfl⟩ | ⟨rfl, hm1⟩ | ⟨rfl, rfl⟩ | ⟨rfl, hm1⟩
      · by_cases hn : n = 1
        · subst hn
          have h10 : ¬ ((k : Int) = 10) := fun h => by have := hT (by omega); omega
          by_cases hfr : frm k = fIn l
          · have hc : 1 ≤ c := by omega
            have gc1 : (1 : Int) ≤ c := by omega
            have sz9 : (wr.alloc (.cells #[.int .i64 (k : Int), .int .u64 0, .int .u64 0] 90)).heap.size = wr.heap.size + 1 := by simp
            have zlt : w.heap.size < wr.heap.size := HZ.out
            have HSB := hid2 (Nat.le_of_lt zlt)
            have hEE := rd_E (k := k) hlt hk1 (l := l) (by rw [hf]; have := HL.out; simp only; omega)
            have ldec := hid2 (decide_eq_true (fIn_mk hlt hk1 HO.out hfr : mk (k : Nat) (rdA k l) (rdB l) = l))
            have rmk := fun w => rmake_ok (w := w) (k := ((k : Nat) : Int)) (rdA_u64 (k := k) HO.out) hEE
            have Llen : Hid ((mk (k : Nat) (rdA k l) (rdB l)).length ≤ 1000) := by have h9 := mk_len (k : Nat) (rdA k l) (rdB l); show _ ≤ _; omega
            generalize mk (k : Nat) (rdA k l) (rdB l) = L at *
            have llen : Hid (l.length ≤ 1000) := by have := HL.out; show _ ≤ _; omega
            have HFR := hid2 hfr
            clear hfr hEE hf
            have q9 := fun (ob : Obj) => (blk_new wr [.int .i64 (k : Int), .int .u64 0, .int .u64 0] 90).keep (below_alloc (wr.alloc (.cells #[.int .i64 (k : Int), .int .u64 0, .int .u64 0] 90)) ob)
            have D2 : ∀ ob, Below wr.heap.size wr ((wr.alloc (.cells #[.int .i64 (k : Int), .int .u64 0, .int .u64 0] 90)).alloc ob) := fun ob => joinB (below_alloc _ _) (below_alloc _ _)
            have k0 := fun ob => (q9 ob).cell (i := 0) rfl
            have k1 := fun ob => (q9 ob).cell (i := 1) rfl
            have k2 := fun ob => (q9 ob).cell (i := 2) rfl
            clear hT
            go_wp2_with first
                | (go_at_call 88; refine (u1 _).mono ?_; rintro e y0 ⟨rfl, hy0⟩; replace hy0 := hy0.symm; subst hy0)
                | (go_at_call 37; have EA : rdA k l = 0 := (by rw [rdA, if_neg (by have := HL.out; omega)]); have EB : rdB l = 0 := (by rw [rdB, if_neg (by have := HL.out; omega)]); rw [EA, EB] at rmk; replace EA := hid2 EA; replace EB := hid2 EB; go_must (refine (rmk _).mono ?_); rintro e y8 ⟨a8, n8, c8, rfl, O8, b8⟩; have D8 := joinB (D2 _) b8; have q8 := (q9 _).keep b8; have BW := HB.out.keep (joinB HW.out D8); replace D8 := hid2 D8; replace q8 := hid2 q8; clear b8 rmk)
                | (go_at_call 61; go_must (refine (bytes_is O8 BW Llen.out llen.out ldec.out).mono ?_); rintro e y9 ⟨rfl, b9⟩; have D11 := joinB D8.out b9; have q11 := q8.out.keep b9; have q0 := q11.cell (i := 0) rfl; have q1 := q11.cell (i := 1) rfl; have q2 := q11.cell (i := 2) rfl; have z9 := HQ.out.keepB D11 zlt; have c0 := z9.cell (i := 0) rfl; have c1 := z9.cell (i := 1) rfl; have c2 := z9.cell (i := 2) rfl; have f0 := z9.free 0; have f1 := z9.free 1; have f2 := z9.free 2; replace z9 := hid2 z9; replace D11 := hid2 D11; clear b9 O8 BW)
            · refine bodyPost_ret (res_cell_tmp rfl rfl rfl (ld_key (row3 z9.out _ _ _))) rfl ?_
              exact ⟨_, _, _, _, rfl, .inl ⟨k, hlt, hk1, HFR.out, rfl, EA.out.symm, EB.out.symm, rfl⟩, below3 (joinB HW.out D11.out) _ _ _⟩
            · refine bodyPost_ret (res_cell_tmp rfl rfl rfl (ld_key (row3 z9.out _ _ _))) rfl ?_
              exact ⟨_, _, _, _, rfl, .inl ⟨k, hlt, hk1, HFR.out, rfl, EA.out.symm, EB.out.symm, rfl⟩, below3 (joinB HW.out D11.out) _ _ _⟩
          · have hc : 1 ≤ c := by omega
            have gc1 : (1 : Int) ≤ c := by omega
            have sz9 : (wr.alloc (.cells #[.int .i64 (k : Int), .int .u64 0, .int .u64 0] 90)).heap.size = wr.heap.size + 1 := by simp
            have zlt : w.heap.size < wr.heap.size := HZ.out
            have HSB := hid2 (Nat.le_of_lt zlt)
            have hEE := rd_E (k := k) hlt hk1 (l := l) (by rw [hf]; have := HL.out; simp only; omega)
            have ldec := hid2 (decide_eq_false (fun h => hfr (mk_fIn hlt hk1 HO.out (by rw [hf]; have := HL.out; simp only; omega) h) : ¬ mk (k : Nat) (rdA k l) (rdB l) = l))
            have rmk := fun w => rmake_ok (w := w) (k := ((k : Nat) : Int)) (rdA_u64 (k := k) HO.out) hEE
            have Llen : Hid ((mk (k : Nat) (rdA k l) (rdB l)).length ≤ 1000) := by have h9 := mk_len (k : Nat) (rdA k l) (rdB l); show _ ≤ _; omega
            generalize mk (k : Nat) (rdA k l) (rdB l) = L at *
            have llen : Hid (l.length ≤ 1000) := by have := HL.out; show _ ≤ _; omega
            have HFR := hid2 hfr
            clear hfr hEE hf
            have q9 := fun (ob : Obj) => (blk_new wr [.int .i64 (k : Int), .int .u64 0, .int .u64 0] 90).keep (below_alloc (wr.alloc (.cells #[.int .i64 (k : Int), .int .u64 0, .int .u64 0] 90)) ob)
            have D2 : ∀ ob, Below wr.heap.size wr ((wr.alloc (.cells #[.int .i64 (k : Int), .int .u64 0, .int .u64 0] 90)).alloc ob) := fun ob => joinB (below_alloc _ _) (below_alloc _ _)
            have k0 := fun ob => (q9 ob).cell (i := 0) rfl
            have k1 := fun ob => (q9 ob).cell (i := 1) rfl
            have k2 := fun ob => (q9 ob).cell (i := 2) rfl
            clear hT
            go_wp2_with first
                | (go_at_call 88; refine (u1 _).mono ?_; rintro e y0 ⟨rfl, hy0⟩; replace hy0 := hy0.symm; subst hy0)
                | (go_at_call 37; have EA : rdA k l = 0 := (by rw [rdA, if_neg (by have := HL.out; omega)]); have EB : rdB l = 0 := (by rw [rdB, if_neg (by have := HL.out; omega)]); rw [EA, EB] at rmk; replace EA := hid2 EA; replace EB := hid2 EB; go_must (refine (rmk _).mono ?_); rintro e y8 ⟨a8, n8, c8, rfl, O8, b8⟩; have D8 := joinB (D2 _) b8; have q8 := (q9 _).keep b8; have BW := HB.out.keep (joinB HW.out D8); replace D8 := hid2 D8; replace q8 := hid2 q8; clear b8 rmk)
                | (go_at_call 61; go_must (refine (bytes_is O8 BW Llen.out llen.out ldec.out).mono ?_); rintro e y9 ⟨rfl, b9⟩; have D11 := joinB D8.out b9; have q11 := q8.out.keep b9; skip; replace D11 := hid2 D11; clear b9 O8 BW)
            go_roundw
            case rel => exact ⟨k + 1, by omega, by omega, by go_num, fun j h1 h2 => by
              by_cases e : j = k
              · subst e; exact HFR.out
              · exact HA.out j (by omega) h2, HQ.out.keepB D11.out zlt, joinB HW.out D11.out, Nat.lt_of_lt_of_le zlt D11.out.size⟩
            case measure => simp [intOf]; omega
        · have g1 : ¬ ((n : Int) = 1) := by omega
          have HFR : Hid (frm k ≠ fIn l) := fun e => by rw [hf] at e; have h1 := congrArg Prod.fst e; simp only [fIn] at h1; have := HL.out; omega
          clear hf hT
          go_wp2_with first
            | (go_at_call 88; refine (u1 _).mono ?_; rintro e y0 ⟨rfl, hy0⟩; replace hy0 := hy0.symm; subst hy0)
          go_roundw
          case rel => exact ⟨k + 1, by omega, by omega, by go_num, fun j h1 h2 => by
            by_cases e : j = k
            · subst e; exact HFR.out
            · exact HA.out j (by omega) h2, HQ, HW, HZ⟩
          case measure => simp [intOf]; omega
      · by_cases hn : n = 9
        · subst hn
          have h10 : ¬ ((k : Int) = 10) := fun h => by have := hT (by omega); omega
          by_cases hfr : frm k = fIn l
          · have G0 : True := trivial
            have hc : 9 ≤ c := by omega
            have hc9 : ¬ ((c : Int) = 1) := by omega
            have gc1 : (1 : Int) ≤ c := by omega
            have sz9 : (wr.alloc (.cells #[.int .i64 (k : Int), .int .u64 0, .int .u64 0] 90)).heap.size = wr.heap.size + 1 := by simp
            have zlt : w.heap.size < wr.heap.size := HZ.out
            have HSB := hid2 (Nat.le_of_lt zlt)
            have hEE := rd_E (k := k) hlt hk1 (l := l) (by rw [hf]; have := HL.out; simp only; omega)
            have ldec := hid2 (decide_eq_true (fIn_mk hlt hk1 HO.out hfr : mk (k : Nat) (rdA k l) (rdB l) = l))
            have rmk := fun w => rmake_ok (w := w) (k := ((k : Nat) : Int)) (rdA_u64 (k := k) HO.out) hEE
            have Llen : Hid ((mk (k : Nat) (rdA k l) (rdB l)).length ≤ 1000) := by have h9 := mk_len (k : Nat) (rdA k l) (rdB l); show _ ≤ _; omega
            generalize mk (k : Nat) (rdA k l) (rdB l) = L at *
            have llen : Hid (l.length ≤ 1000) := by have := HL.out; show _ ≤ _; omega
            have HFR := hid2 hfr
            clear hfr hEE hf
            have Y1 := hid2 (By.drop HB.out 1 (by decide))
            have q9 := (blk_new wr [.int .i64 (k : Int), .int .u64 0, .int .u64 0] 90).keep (below_alloc (wr.alloc (.cells #[.int .i64 (k : Int), .int .u64 0, .int .u64 0] 90)) (.cells #[.slice (some ⟨b, o + 1, none⟩) 8 (c - 1), .int .i64 0] 243))
            have q10 := blk_new (wr.alloc (.cells #[.int .i64 (k : Int), .int .u64 0, .int .u64 0] 90)) [.slice (some ⟨b, o + 1, none⟩) 8 (c - 1), .int .i64 0] 243
            rw [sz9] at q10
            have D2 : Below wr.heap.size wr ((wr.alloc (.cells #[.int .i64 (k : Int), .int .u64 0, .int .u64 0] 90)).alloc (.cells #[.slice (some ⟨b, o + 1, none⟩) 8 (c - 1), .int .i64 0] 243)) := joinB (below_alloc _ _) (below_alloc _ _)
            clear hT
            go_wp2_with first
                | (go_at_call 88; refine (u1 _).mono ?_; rintro e y0 ⟨rfl, hy0⟩; replace hy0 := hy0.symm; subst hy0)
                | (go_at_call 146; have gate := G0; clear gate; go_must (refine (rU_got (m := 8) Y1.out (joinB HW.out D2) (by have := HSB.out; omega) q10 (by decide) (by decide)).mono ?_); clear G0; rintro e y3 ⟨rfl, q10_3, C3⟩; have q9_3 := q9.chg C3 (by omega); have D_3 := D2.trans (C3.below (B := wr.heap.size) (fun b e => by omega) (D2.size)); generalize hV0 : bv ((l.drop 1).take 8) = V0 at *; replace hV0 := hid2 hV0; have e1_3 := q9_3.cell (i := 1) rfl; have f1_3 := q9_3.free 1; replace q9_3 := q9_3.setCell (i := 1) (.int .u64 V0); replace D_3 := D_3.setCell (p := ⟨wr.heap.size, 1, none⟩) (Nat.le_refl _) (.int .u64 V0); have k0 := q9_3.cell (i := 0) rfl; have k1 := q9_3.cell (i := 1) rfl; have k2 := q9_3.cell (i := 2) rfl; clear C3)
                | (go_at_call 37; have EA : rdA k l = V0 := (by rw [rdA, if_pos (by have := HL.out; omega), hV0.out]; unfold tn; rw [if_neg h10]); have EB : rdB l = 0 := (by rw [rdB, if_neg (by have := HL.out; omega)]); rw [EA, EB] at rmk; replace EA := hid2 EA; replace EB := hid2 EB; go_must (refine (rmk _).mono ?_); rintro e y8 ⟨a8, n8, c8, rfl, O8, b8⟩; have D8 := joinB D_3 b8; have q8 := q9_3.keep b8; have BW := HB.out.keep (joinB HW.out D8); replace D8 := hid2 D8; replace q8 := hid2 q8; clear b8 rmk)
                | (go_at_call 61; go_must (refine (bytes_is O8 BW Llen.out llen.out ldec.out).mono ?_); rintro e y9 ⟨rfl, b9⟩; have D11 := joinB D8.out b9; have q11 := q8.out.keep b9; have q0 := q11.cell (i := 0) rfl; have q1 := q11.cell (i := 1) rfl; have q2 := q11.cell (i := 2) rfl; have z9 := HQ.out.keepB D11 zlt; have c0 := z9.cell (i := 0) rfl; have c1 := z9.cell (i := 1) rfl; have c2 := z9.cell (i := 2) rfl; have f0 := z9.free 0; have f1 := z9.free 1; have f2 := z9.free 2; replace z9 := hid2 z9; replace D11 := hid2 D11; clear b9 O8 BW)
            refine bodyPost_ret (res_cell_tmp rfl rfl rfl (ld_key (row3 z9.out _ _ _))) rfl ?_
            exact ⟨_, _, _, _, rfl, .inl ⟨k, hlt, hk1, HFR.out, rfl, EA.out.symm, EB.out.symm, rfl⟩, below3 (joinB HW.out D11.out) _ _ _⟩
          · have G0 : True := trivial
            have hc : 9 ≤ c := by omega
            have hc9 : ¬ ((c : Int) = 1) := by omega
            have gc1 : (1 : Int) ≤ c := by omega
            have sz9 : (wr.alloc (.cells #[.int .i64 (k : Int), .int .u64 0, .int .u64 0] 90)).heap.size = wr.heap.size + 1 := by simp
            have zlt : w.heap.size < wr.heap.size := HZ.out
            have HSB := hid2 (Nat.le_of_lt zlt)
            have hEE := rd_E (k := k) hlt hk1 (l := l) (by rw [hf]; have := HL.out; simp only; omega)
            have ldec := hid2 (decide_eq_false (fun h => hfr (mk_fIn hlt hk1 HO.out (by rw [hf]; have := HL.out; simp only; omega) h) : ¬ mk (k : Nat) (rdA k l) (rdB l) = l))
            have rmk := fun w => rmake_ok (w := w) (k := ((k : Nat) : Int)) (rdA_u64 (k := k) HO.out) hEE
            have Llen : Hid ((mk (k : Nat) (rdA k l) (rdB l)).length ≤ 1000) := by have h9 := mk_len (k : Nat) (rdA k l) (rdB l); show _ ≤ _; omega
            generalize mk (k : Nat) (rdA k l) (rdB l) = L at *
            have llen : Hid (l.length ≤ 1000) := by have := HL.out; show _ ≤ _; omega
            have HFR := hid2 hfr
            clear hfr hEE hf
            have Y1 := hid2 (By.drop HB.out 1 (by decide))
            have q9 := (blk_new wr [.int .i64 (k : Int), .int .u64 0, .int .u64 0] 90).keep (below_alloc (wr.alloc (.cells #[.int .i64 (k : Int), .int .u64 0, .int .u64 0] 90)) (.cells #[.slice (some ⟨b, o + 1, none⟩) 8 (c - 1), .int .i64 0] 243))
            have q10 := blk_new (wr.alloc (.cells #[.int .i64 (k : Int), .int .u64 0, .int .u64 0] 90)) [.slice (some ⟨b, o + 1, none⟩) 8 (c - 1), .int .i64 0] 243
            rw [sz9] at q10
            have D2 : Below wr.heap.size wr ((wr.alloc (.cells #[.int .i64 (k : Int), .int .u64 0, .int .u64 0] 90)).alloc (.cells #[.slice (some ⟨b, o + 1, none⟩) 8 (c - 1), .int .i64 0] 243)) := joinB (below_alloc _ _) (below_alloc _ _)
            clear hT
            go_wp2_with first
                | (go_at_call 88; refine (u1 _).mono ?_; rintro e y0 ⟨rfl, hy0⟩; replace hy0 := hy0.symm; subst hy0)
                | (go_at_call 146; have gate := G0; clear gate; go_must (refine (rU_got (m := 8) Y1.out (joinB HW.out D2) (by have := HSB.out; omega) q10 (by decide) (by decide)).mono ?_); clear G0; rintro e y3 ⟨rfl, q10_3, C3⟩; have q9_3 := q9.chg C3 (by omega); have D_3 := D2.trans (C3.below (B := wr.heap.size) (fun b e => by omega) (D2.size)); generalize hV0 : bv ((l.drop 1).take 8) = V0 at *; replace hV0 := hid2 hV0; have e1_3 := q9_3.cell (i := 1) rfl; have f1_3 := q9_3.free 1; replace q9_3 := q9_3.setCell (i := 1) (.int .u64 V0); replace D_3 := D_3.setCell (p := ⟨wr.heap.size, 1, none⟩) (Nat.le_refl _) (.int .u64 V0); have k0 := q9_3.cell (i := 0) rfl; have k1 := q9_3.cell (i := 1) rfl; have k2 := q9_3.cell (i := 2) rfl; clear C3)
                | (go_at_call 37; have EA : rdA k l = V0 := (by rw [rdA, if_pos (by have := HL.out; omega), hV0.out]; unfold tn; rw [if_neg h10]); have EB : rdB l = 0 := (by rw [rdB, if_neg (by have := HL.out; omega)]); rw [EA, EB] at rmk; replace EA := hid2 EA; replace EB := hid2 EB; go_must (refine (rmk _).mono ?_); rintro e y8 ⟨a8, n8, c8, rfl, O8, b8⟩; have D8 := joinB D_3 b8; have q8 := q9_3.keep b8; have BW := HB.out.keep (joinB HW.out D8); replace D8 := hid2 D8; replace q8 := hid2 q8; clear b8 rmk)
                | (go_at_call 61; go_must (refine (bytes_is O8 BW Llen.out llen.out ldec.out).mono ?_); rintro e y9 ⟨rfl, b9⟩; have D11 := joinB D8.out b9; have q11 := q8.out.keep b9; skip; replace D11 := hid2 D11; clear b9 O8 BW)
            go_roundw
            case rel => exact ⟨k + 1, by omega, by omega, by go_num, fun j h1 h2 => by
              by_cases e : j = k
              · subst e; exact HFR.out
              · exact HA.out j (by omega) h2, HQ.out.keepB D11.out zlt, joinB HW.out D11.out, Nat.lt_of_lt_of_le zlt D11.out.size⟩
            case measure => simp [intOf]; omega
        · have g1 : ¬ ((n : Int) = 9) := by omega
          have HFR : Hid (frm k ≠ fIn l) := fun e => by rw [hf] at e; have h1 := congrArg Prod.fst e; simp only [fIn] at h1; have := HL.out; omega
          clear hf hT
          go_wp2_with first
            | (go_at_call 88; refine (u1 _).mono ?_; rintro e y0 ⟨rfl, hy0⟩; replace hy0 := hy0.symm; subst hy0)
          go_roundw
          case rel => exact ⟨k + 1, by omega, by omega, by go_num, fun j h1 h2 => by
            by_cases e : j = k
            · subst e; exact HFR.out
            · exact HA.out j (by omega) h2, HQ, HW, HZ⟩
          case measure => simp [intOf]; omega
      · by_cases hn : n = 10
        · subst hn
          have h10 : ¬ ((k : Int) = 10) := fun h => by have := hT (by omega); omega
          by_cases hfr : frm k = fIn l
          · have G0 : True := trivial
            have G1 : True := trivial
            have hc : 10 ≤ c := by omega
            have hc9 : ¬ ((c : Int) = 1) := by omega
            have gc1 : (1 : Int) ≤ c := by omega
            have sz9 : (wr.alloc (.cells #[.int .i64 (k : Int), .int .u64 0, .int .u64 0] 90)).heap.size = wr.heap.size + 1 := by simp
            have zlt : w.heap.size < wr.heap.size := HZ.out
            have HSB := hid2 (Nat.le_of_lt zlt)
            have hEE := rd_E (k := k) hlt hk1 (l := l) (by rw [hf]; have := HL.out; simp only; omega)
            have ldec := hid2 (decide_eq_true (fIn_mk hlt hk1 HO.out hfr : mk (k : Nat) (rdA k l) (rdB l) = l))
            have rmk := fun w => rmake_ok (w := w) (k := ((k : Nat) : Int)) (rdA_u64 (k := k) HO.out) hEE
            have Llen : Hid ((mk (k : Nat) (rdA k l) (rdB l)).length ≤ 1000) := by have h9 := mk_len (k : Nat) (rdA k l) (rdB l); show _ ≤ _; omega
            generalize mk (k : Nat) (rdA k l) (rdB l) = L at *
            have llen : Hid (l.length ≤ 1000) := by have := HL.out; show _ ≤ _; omega
            have HFR := hid2 hfr
            clear hfr hEE hf
            have Y1 := hid2 (By.drop HB.out 1 (by decide))
            have q9 := (blk_new wr [.int .i64 (k : Int), .int .u64 0, .int .u64 0] 90).keep (below_alloc (wr.alloc (.cells #[.int .i64 (k : Int), .int .u64 0, .int .u64 0] 90)) (.cells #[.slice (some ⟨b, o + 1, none⟩) 9 (c - 1), .int .i64 0] 243))
            have q10 := blk_new (wr.alloc (.cells #[.int .i64 (k : Int), .int .u64 0, .int .u64 0] 90)) [.slice (some ⟨b, o + 1, none⟩) 9 (c - 1), .int .i64 0] 243
            rw [sz9] at q10
            have D2 : Below wr.heap.size wr ((wr.alloc (.cells #[.int .i64 (k : Int), .int .u64 0, .int .u64 0] 90)).alloc (.cells #[.slice (some ⟨b, o + 1, none⟩) 9 (c - 1), .int .i64 0] 243)) := joinB (below_alloc _ _) (below_alloc _ _)
            clear hT
            go_wp2_with first
                | (go_at_call 88; refine (u1 _).mono ?_; rintro e y0 ⟨rfl, hy0⟩; replace hy0 := hy0.symm; subst hy0)
                | (go_at_call 146; have gate := G0; clear gate; go_must (refine (rU_got (m := 8) Y1.out (joinB HW.out D2) (by have := HSB.out; omega) q10 (by decide) (by decide)).mono ?_); clear G0; rintro e y3 ⟨rfl, q10_3, C3⟩; have q9_3 := q9.chg C3 (by omega); have D_3 := D2.trans (C3.below (B := wr.heap.size) (fun b e => by omega) (D2.size)); replace q10_3 := q10_3 (by omega); have Y3 := hid2 (By.drop Y1.out 8 (by decide)); generalize hV0 : bv ((l.drop 1).take 8) = V0 at *; replace hV0 := hid2 hV0; have e1_3 := q9_3.cell (i := 1) rfl; have f1_3 := q9_3.free 1; replace q10_3 := q10_3.off (by omega) (i := 1) (g' := wr.heap.size) (.int .u64 V0); replace q9_3 := q9_3.setCell (i := 1) (.int .u64 V0); replace D_3 := D_3.setCell (p := ⟨wr.heap.size, 1, none⟩) (Nat.le_refl _) (.int .u64 V0); clear C3)
                | (go_at_call 146; have gate := G1; clear gate; go_must (refine (rU_got (m := 1) Y3.out (joinB HW.out D_3) (by have := HSB.out; omega) q10_3 (by decide) (by decide)).mono ?_); clear G1; rintro e y4 ⟨rfl, q10_4, C4⟩; have q9_4 := q9_3.chg C4 (by omega); have D_4 := D_3.trans (C4.below (B := wr.heap.size) (fun b e => by omega) (D_3.size)); generalize bv (((l.drop 1).drop 8).take 1) = V1 at *; have k0 := q9_4.cell (i := 0) rfl; have k1 := q9_4.cell (i := 1) rfl; have k2 := q9_4.cell (i := 2) rfl; clear C4)
                | (go_at_call 37; have EA : rdA k l = V0 := (by rw [rdA, if_pos (by have := HL.out; omega), hV0.out]; unfold tn; rw [if_neg h10]); have EB : rdB l = 0 := (by rw [rdB, if_neg (by have := HL.out; omega)]); rw [EA, EB] at rmk; replace EA := hid2 EA; replace EB := hid2 EB; go_must (refine (rmk _).mono ?_); rintro e y8 ⟨a8, n8, c8, rfl, O8, b8⟩; have D8 := joinB D_4 b8; have q8 := q9_4.keep b8; have BW := HB.out.keep (joinB HW.out D8); replace D8 := hid2 D8; replace q8 := hid2 q8; clear b8 rmk)
                | (go_at_call 61; go_must (refine (bytes_is O8 BW Llen.out llen.out ldec.out).mono ?_); rintro e y9 ⟨rfl, b9⟩; have D11 := joinB D8.out b9; have q11 := q8.out.keep b9; have q0 := q11.cell (i := 0) rfl; have q1 := q11.cell (i := 1) rfl; have q2 := q11.cell (i := 2) rfl; have z9 := HQ.out.keepB D11 zlt; have c0 := z9.cell (i := 0) rfl; have c1 := z9.cell (i := 1) rfl; have c2 := z9.cell (i := 2) rfl; have f0 := z9.free 0; have f1 := z9.free 1; have f2 := z9.free 2; replace z9 := hid2 z9; replace D11 := hid2 D11; clear b9 O8 BW)
            refine bodyPost_ret (res_cell_tmp rfl rfl rfl (ld_key (row3 z9.out _ _ _))) rfl ?_
            exact ⟨_, _, _, _, rfl, .inl ⟨k, hlt, hk1, HFR.out, rfl, EA.out.symm, EB.out.symm, rfl⟩, below3 (joinB HW.out D11.out) _ _ _⟩
          · have G0 : True := trivial
            have G1 : True := trivial
            have hc : 10 ≤ c := by omega
            have hc9 : ¬ ((c : Int) = 1) := by omega
            have gc1 : (1 : Int) ≤ c := by omega
            have sz9 : (wr.alloc (.cells #[.int .i64 (k : Int), .int .u64 0, .int .u64 0] 90)).heap.size = wr.heap.size + 1 := by simp
            have zlt : w.heap.size < wr.heap.size := HZ.out
            have HSB := hid2 (Nat.le_of_lt zlt)
            have hEE := rd_E (k := k) hlt hk1 (l := l) (by rw [hf]; have := HL.out; simp only; omega)
            have ldec := hid2 (decide_eq_false (fun h => hfr (mk_fIn hlt hk1 HO.out (by rw [hf]; have := HL.out; simp only; omega) h) : ¬ mk (k : Nat) (rdA k l) (rdB l) = l))
            have rmk := fun w => rmake_ok (w := w) (k := ((k : Nat) : Int)) (rdA_u64 (k := k) HO.out) hEE
            have Llen : Hid ((mk (k : Nat) (rdA k l) (rdB l)).length ≤ 1000) := by have h9 := mk_len (k : Nat) (rdA k l) (rdB l); show _ ≤ _; omega
            generalize mk (k : Nat) (rdA k l) (rdB l) = L at *
            have llen : Hid (l.length ≤ 1000) := by have := HL.out; show _ ≤ _; omega
            have HFR := hid2 hfr
            clear hfr hEE hf
            have Y1 := hid2 (By.drop HB.out 1 (by decide))
            have q9 := (blk_new wr [.int .i64 (k : Int), .int .u64 0, .int .u64 0] 90).keep (below_alloc (wr.alloc (.cells #[.int .i64 (k : Int), .int .u64 0, .int .u64 0] 90)) (.cells #[.slice (some ⟨b, o + 1, none⟩) 9 (c - 1), .int .i64 0] 243))
            have q10 := blk_new (wr.alloc (.cells #[.int .i64 (k : Int), .int .u64 0, .int .u64 0] 90)) [.slice (some ⟨b, o + 1, none⟩) 9 (c - 1), .int .i64 0] 243
            rw [sz9] at q10
            have D2 : Below wr.heap.size wr ((wr.alloc (.cells #[.int .i64 (k : Int), .int .u64 0, .int .u64 0] 90)).alloc (.cells #[.slice (some ⟨b, o + 1, none⟩) 9 (c - 1), .int .i64 0] 243)) := joinB (below_alloc _ _) (below_alloc _ _)
            clear hT
            go_wp2_with first
                | (go_at_call 88; refine (u1 _).mono ?_; rintro e y0 ⟨rfl, hy0⟩; replace hy0 := hy0.symm; subst hy0)
                | (go_at_call 146; have gate := G0; clear gate; go_must (refine (rU_got (m := 8) Y1.out (joinB HW.out D2) (by have := HSB.out; omega) q10 (by decide) (by decide)).mono ?_); clear G0; rintro e y3 ⟨rfl, q10_3, C3⟩; have q9_3 := q9.chg C3 (by omega); have D_3 := D2.trans (C3.below (B := wr.heap.size) (fun b e => by omega) (D2.size)); replace q10_3 := q10_3 (by omega); have Y3 := hid2 (By.drop Y1.out 8 (by decide)); generalize hV0 : bv ((l.drop 1).take 8) = V0 at *; replace hV0 := hid2 hV0; have e1_3 := q9_3.cell (i := 1) rfl; have f1_3 := q9_3.free 1; replace q10_3 := q10_3.off (by omega) (i := 1) (g' := wr.heap.size) (.int .u64 V0); replace q9_3 := q9_3.setCell (i := 1) (.int .u64 V0); replace D_3 := D_3.setCell (p := ⟨wr.heap.size, 1, none⟩) (Nat.le_refl _) (.int .u64 V0); clear C3)
                | (go_at_call 146; have gate := G1; clear gate; go_must (refine (rU_got (m := 1) Y3.out (joinB HW.out D_3) (by have := HSB.out; omega) q10_3 (by decide) (by decide)).mono ?_); clear G1; rintro e y4 ⟨rfl, q10_4, C4⟩; have q9_4 := q9_3.chg C4 (by omega); have D_4 := D_3.trans (C4.below (B := wr.heap.size) (fun b e => by omega) (D_3.size)); generalize bv (((l.drop 1).drop 8).take 1) = V1 at *; have k0 := q9_4.cell (i := 0) rfl; have k1 := q9_4.cell (i := 1) rfl; have k2 := q9_4.cell (i := 2) rfl; clear C4)
                | (go_at_call 37; have EA : rdA k l = V0 := (by rw [rdA, if_pos (by have := HL.out; omega), hV0.out]; unfold tn; rw [if_neg h10]); have EB : rdB l = 0 := (by rw [rdB, if_neg (by have := HL.out; omega)]); rw [EA, EB] at rmk; replace EA := hid2 EA; replace EB := hid2 EB; go_must (refine (rmk _).mono ?_); rintro e y8 ⟨a8, n8, c8, rfl, O8, b8⟩; have D8 := joinB D_4 b8; have q8 := q9_4.keep b8; have BW := HB.out.keep (joinB HW.out D8); replace D8 := hid2 D8; replace q8 := hid2 q8; clear b8 rmk)
                | (go_at_call 61; go_must (refine (bytes_is O8 BW Llen.out llen.out ldec.out).mono ?_); rintro e y9 ⟨rfl, b9⟩; have D11 := joinB D8.out b9; have q11 := q8.out.keep b9; skip; replace D11 := hid2 D11; clear b9 O8 BW)
            go_roundw
            case rel => exact ⟨k + 1, by omega, by omega, by go_num, fun j h1 h2 => by
              by_cases e : j = k
              · subst e; exact HFR.out
              · exact HA.out j (by omega) h2, HQ.out.keepB D11.out zlt, joinB HW.out D11.out, Nat.lt_of_lt_of_le zlt D11.out.size⟩
            case measure => simp [intOf]; omega
        · have g1 : ¬ ((n : Int) = 10) := by omega
          have HFR : Hid (frm k ≠ fIn l) := fun e => by rw [hf] at e; have h1 := congrArg Prod.fst e; simp only [fIn] at h1; have := HL.out; omega
          clear hf hT
          go_wp2_with first
            | (go_at_call 88; refine (u1 _).mono ?_; rintro e y0 ⟨rfl, hy0⟩; replace hy0 := hy0.symm; subst hy0)
          go_roundw
          case rel => exact ⟨k + 1, by omega, by omega, by go_num, fun j h1 h2 => by
            by_cases e : j = k
            · subst e; exact HFR.out
            · exact HA.out j (by omega) h2, HQ, HW, HZ⟩
          case measure => simp [intOf]; omega
      · by_cases hn : n = 17
        · subst hn
          by_cases h10n : k = 10
          · subst h10n
            clear u1 hT hk0 hk2
            by_cases hfr : frm (10 : Nat) = fIn l
            · have G0 : True := trivial
              have G1 : True := trivial
              have u1 := fun w => rform_any (w := w) (k := 10)
              rw [show frm 10 = (17, 105, 0) from by decide] at u1
              simp only at u1
              have hc : 17 ≤ c := by omega
              have hc9 : ¬ ((c : Int) = 1) := by omega
              have gc1 : (1 : Int) ≤ c := by omega
              have sz9 : (wr.alloc (.cells #[.int .i64 10, .int .u64 0, .int .u64 0] 90)).heap.size = wr.heap.size + 1 := by simp
              have zlt : w.heap.size < wr.heap.size := HZ.out
              have HSB := hid2 (Nat.le_of_lt zlt)
              have hEE := rd_E (k := 10) hlt hk1 (l := l) (by rw [hf]; have := HL.out; simp only; omega)
              have ldec := hid2 (decide_eq_true (fIn_mk hlt hk1 HO.out hfr : mk (10 : Nat) (rdA 10 l) (rdB l) = l))
              have rmk := fun w => rmake_ok (w := w) (k := ((10 : Nat) : Int)) (rdA_u64 (k := 10) HO.out) hEE
              have Llen : Hid ((mk (10 : Nat) (rdA 10 l) (rdB l)).length ≤ 1000) := by have h9 := mk_len (10 : Nat) (rdA 10 l) (rdB l); show _ ≤ _; omega
              generalize mk (10 : Nat) (rdA 10 l) (rdB l) = L at *
              have llen : Hid (l.length ≤ 1000) := by have := HL.out; show _ ≤ _; omega
              have tr : ((10 : Nat) : Int) = 10 := rfl
              rw [tr] at rmk
              clear tr
              have HFR := hid2 hfr
              clear hfr hEE hf
              have Y1 := hid2 (By.drop HB.out 1 (by decide))
              have q9 := (blk_new wr [.int .i64 10, .int .u64 0, .int .u64 0] 90).keep (below_alloc (wr.alloc (.cells #[.int .i64 10, .int .u64 0, .int .u64 0] 90)) (.cells #[.slice (some ⟨b, o + 1, none⟩) 16 (c - 1), .int .i64 0] 243))
              have q10 := blk_new (wr.alloc (.cells #[.int .i64 10, .int .u64 0, .int .u64 0] 90)) [.slice (some ⟨b, o + 1, none⟩) 16 (c - 1), .int .i64 0] 243
              rw [sz9] at q10
              have D2 : Below wr.heap.size wr ((wr.alloc (.cells #[.int .i64 10, .int .u64 0, .int .u64 0] 90)).alloc (.cells #[.slice (some ⟨b, o + 1, none⟩) 16 (c - 1), .int .i64 0] 243)) := joinB (below_alloc _ _) (below_alloc _ _)
              go_wp2_with first
                  | (go_at_call 88; refine (u1 _).mono ?_; rintro e y0 ⟨rfl, hy0⟩; replace hy0 := hy0.symm; subst hy0)
                  | (go_at_call 146; have gate := G0; clear gate; go_must (refine (rU_got (m := 8) Y1.out (joinB HW.out D2) (by have := HSB.out; omega) q10 (by decide) (by decide)).mono ?_); clear G0; rintro e y3 ⟨rfl, q10_3, C3⟩; have q9_3 := q9.chg C3 (by omega); have D_3 := D2.trans (C3.below (B := wr.heap.size) (fun b e => by omega) (D2.size)); replace q10_3 := q10_3 (by omega); have Y3 := hid2 (By.drop Y1.out 8 (by decide)); have bV := bv_u64 (l := ((l.drop 1).take 8)) (fun x hx => HO.out x (List.mem_of_mem_drop (List.mem_of_mem_take hx))) (by rw [List.length_take]; omega); generalize hV0 : bv ((l.drop 1).take 8) = V0 at *; replace hV0 := hid2 hV0; have hw0 : IntKind.u64.wrap (18446744073709551615 - V0) = 18446744073709551615 - V0 := (by rw [IntKind.wrap_u64]; omega); clear bV; have e1_3 := q9_3.cell (i := 1) rfl; have f1_3 := q9_3.free 1; replace q10_3 := q10_3.off (by omega) (i := 1) (g' := wr.heap.size) (.int .u64 V0); replace q9_3 := q9_3.setCell (i := 1) (.int .u64 V0); replace D_3 := D_3.setCell (p := ⟨wr.heap.size, 1, none⟩) (Nat.le_refl _) (.int .u64 V0); clear C3)
                  | (go_at_call 146; have gate := G1; clear gate; go_must (refine (rU_got (m := 8) Y3.out (joinB HW.out D_3) (by have := HSB.out; omega) q10_3 (by decide) (by decide)).mono ?_); clear G1; rintro e y4 ⟨rfl, q10_4, C4⟩; have q9_4 := q9_3.chg C4 (by omega); have D_4 := D_3.trans (C4.below (B := wr.heap.size) (fun b e => by omega) (D_3.size)); generalize hV1 : bv (((l.drop 1).drop 8).take 8) = V1 at *; replace hV1 := hid2 hV1; have e1_4 := q9_4.cell (i := 2) rfl; have f1_4 := q9_4.free 2; replace q9_4 := q9_4.setCell (i := 2) (.int .u64 V1); replace D_4 := D_4.setCell (p := ⟨wr.heap.size, 2, none⟩) (Nat.le_refl _) (.int .u64 V1); have x1 := q9_4.cell (i := 1) rfl; have x2 := q9_4.free 1; replace q9_4 := q9_4.setCell (i := 1) (.int .u64 (18446744073709551615 - V0)); replace D_4 := D_4.setCell (p := ⟨wr.heap.size, 1, none⟩) (Nat.le_refl _) (.int .u64 (18446744073709551615 - V0)); have k0 := q9_4.cell (i := 0) rfl; have k1 := q9_4.cell (i := 1) rfl; have k2 := q9_4.cell (i := 2) rfl; clear C4)
                  | (go_at_call 37; have EA : rdA 10 l = (18446744073709551615 - V0) := (by rw [rdA, if_pos (by have := HL.out; omega), hV0.out]; unfold tn; rfl); have EB : rdB l = V1 := (by rw [rdB, if_pos (by have := HL.out; omega), ← hV1.out, HL.out]; simp only [List.drop_drop]; rw [List.take_of_length_le (by rw [List.length_drop]; have := HL.out; omega)]); rw [EA, EB] at rmk; replace EA := hid2 EA; replace EB := hid2 EB; go_must (refine (rmk _).mono ?_); rintro e y8 ⟨a8, n8, c8, rfl, O8, b8⟩; have D8 := joinB D_4 b8; have q8 := q9_4.keep b8; have BW := HB.out.keep (joinB HW.out D8); replace D8 := hid2 D8; replace q8 := hid2 q8; clear b8 rmk)
                  | (go_at_call 61; go_must (refine (bytes_is O8 BW Llen.out llen.out ldec.out).mono ?_); rintro e y9 ⟨rfl, b9⟩; have D11 := joinB D8.out b9; have q11 := q8.out.keep b9; have q0 := q11.cell (i := 0) rfl; have q1 := q11.cell (i := 1) rfl; have q2 := q11.cell (i := 2) rfl; have z9 := HQ.out.keepB D11 zlt; have c0 := z9.cell (i := 0) rfl; have c1 := z9.cell (i := 1) rfl; have c2 := z9.cell (i := 2) rfl; have f0 := z9.free 0; have f1 := z9.free 1; have f2 := z9.free 2; replace z9 := hid2 z9; replace D11 := hid2 D11; clear b9 O8 BW)
              refine bodyPost_ret (res_cell_tmp rfl rfl rfl (ld_key (row3 z9.out _ _ _))) rfl ?_
              exact ⟨_, _, _, _, rfl, .inl ⟨10, hlt, hk1, HFR.out, rfl, EA.out.symm, EB.out.symm, rfl⟩, below3 (joinB HW.out D11.out) _ _ _⟩
            · have G0 : True := trivial
              have G1 : True := trivial
              have u1 := fun w => rform_any (w := w) (k := 10)
              rw [show frm 10 = (17, 105, 0) from by decide] at u1
              simp only at u1
              have hc : 17 ≤ c := by omega
              have hc9 : ¬ ((c : Int) = 1) := by omega
              have gc1 : (1 : Int) ≤ c := by omega
              have sz9 : (wr.alloc (.cells #[.int .i64 10, .int .u64 0, .int .u64 0] 90)).heap.size = wr.heap.size + 1 := by simp
              have zlt : w.heap.size < wr.heap.size := HZ.out
              have HSB := hid2 (Nat.le_of_lt zlt)
              have hEE := rd_E (k := 10) hlt hk1 (l := l) (by rw [hf]; have := HL.out; simp only; omega)
              have ldec := hid2 (decide_eq_false (fun h => hfr (mk_fIn hlt hk1 HO.out (by rw [hf]; have := HL.out; simp only; omega) h) : ¬ mk (10 : Nat) (rdA 10 l) (rdB l) = l))
              have rmk := fun w => rmake_ok (w := w) (k := ((10 : Nat) : Int)) (rdA_u64 (k := 10) HO.out) hEE
              have Llen : Hid ((mk (10 : Nat) (rdA 10 l) (rdB l)).length ≤ 1000) := by have h9 := mk_len (10 : Nat) (rdA 10 l) (rdB l); show _ ≤ _; omega
              generalize mk (10 : Nat) (rdA 10 l) (rdB l) = L at *
              have llen : Hid (l.length ≤ 1000) := by have := HL.out; show _ ≤ _; omega
              have tr : ((10 : Nat) : Int) = 10 := rfl
              rw [tr] at rmk
              clear tr
              have HFR := hid2 hfr
              clear hfr hEE hf
              have Y1 := hid2 (By.drop HB.out 1 (by decide))
              have q9 := (blk_new wr [.int .i64 10, .int .u64 0, .int .u64 0] 90).keep (below_alloc (wr.alloc (.cells #[.int .i64 10, .int .u64 0, .int .u64 0] 90)) (.cells #[.slice (some ⟨b, o + 1, none⟩) 16 (c - 1), .int .i64 0] 243))
              have q10 := blk_new (wr.alloc (.cells #[.int .i64 10, .int .u64 0, .int .u64 0] 90)) [.slice (some ⟨b, o + 1, none⟩) 16 (c - 1), .int .i64 0] 243
              rw [sz9] at q10
              have D2 : Below wr.heap.size wr ((wr.alloc (.cells #[.int .i64 10, .int .u64 0, .int .u64 0] 90)).alloc (.cells #[.slice (some ⟨b, o + 1, none⟩) 16 (c - 1), .int .i64 0] 243)) := joinB (below_alloc _ _) (below_alloc _ _)
              go_wp2_with first
                  | (go_at_call 88; refine (u1 _).mono ?_; rintro e y0 ⟨rfl, hy0⟩; replace hy0 := hy0.symm; subst hy0)
                  | (go_at_call 146; have gate := G0; clear gate; go_must (refine (rU_got (m := 8) Y1.out (joinB HW.out D2) (by have := HSB.out; omega) q10 (by decide) (by decide)).mono ?_); clear G0; rintro e y3 ⟨rfl, q10_3, C3⟩; have q9_3 := q9.chg C3 (by omega); have D_3 := D2.trans (C3.below (B := wr.heap.size) (fun b e => by omega) (D2.size)); replace q10_3 := q10_3 (by omega); have Y3 := hid2 (By.drop Y1.out 8 (by decide)); have bV := bv_u64 (l := ((l.drop 1).take 8)) (fun x hx => HO.out x (List.mem_of_mem_drop (List.mem_of_mem_take hx))) (by rw [List.length_take]; omega); generalize hV0 : bv ((l.drop 1).take 8) = V0 at *; replace hV0 := hid2 hV0; have hw0 : IntKind.u64.wrap (18446744073709551615 - V0) = 18446744073709551615 - V0 := (by rw [IntKind.wrap_u64]; omega); clear bV; have e1_3 := q9_3.cell (i := 1) rfl; have f1_3 := q9_3.free 1; replace q10_3 := q10_3.off (by omega) (i := 1) (g' := wr.heap.size) (.int .u64 V0); replace q9_3 := q9_3.setCell (i := 1) (.int .u64 V0); replace D_3 := D_3.setCell (p := ⟨wr.heap.size, 1, none⟩) (Nat.le_refl _) (.int .u64 V0); clear C3)
                  | (go_at_call 146; have gate := G1; clear gate; go_must (refine (rU_got (m := 8) Y3.out (joinB HW.out D_3) (by have := HSB.out; omega) q10_3 (by decide) (by decide)).mono ?_); clear G1; rintro e y4 ⟨rfl, q10_4, C4⟩; have q9_4 := q9_3.chg C4 (by omega); have D_4 := D_3.trans (C4.below (B := wr.heap.size) (fun b e => by omega) (D_3.size)); generalize hV1 : bv (((l.drop 1).drop 8).take 8) = V1 at *; replace hV1 := hid2 hV1; have e1_4 := q9_4.cell (i := 2) rfl; have f1_4 := q9_4.free 2; replace q9_4 := q9_4.setCell (i := 2) (.int .u64 V1); replace D_4 := D_4.setCell (p := ⟨wr.heap.size, 2, none⟩) (Nat.le_refl _) (.int .u64 V1); have x1 := q9_4.cell (i := 1) rfl; have x2 := q9_4.free 1; replace q9_4 := q9_4.setCell (i := 1) (.int .u64 (18446744073709551615 - V0)); replace D_4 := D_4.setCell (p := ⟨wr.heap.size, 1, none⟩) (Nat.le_refl _) (.int .u64 (18446744073709551615 - V0)); have k0 := q9_4.cell (i := 0) rfl; have k1 := q9_4.cell (i := 1) rfl; have k2 := q9_4.cell (i := 2) rfl; clear C4)
                  | (go_at_call 37; have EA : rdA 10 l = (18446744073709551615 - V0) := (by rw [rdA, if_pos (by have := HL.out; omega), hV0.out]; unfold tn; rfl); have EB : rdB l = V1 := (by rw [rdB, if_pos (by have := HL.out; omega), ← hV1.out, HL.out]; simp only [List.drop_drop]; rw [List.take_of_length_le (by rw [List.length_drop]; have := HL.out; omega)]); rw [EA, EB] at rmk; replace EA := hid2 EA; replace EB := hid2 EB; go_must (refine (rmk _).mono ?_); rintro e y8 ⟨a8, n8, c8, rfl, O8, b8⟩; have D8 := joinB D_4 b8; have q8 := q9_4.keep b8; have BW := HB.out.keep (joinB HW.out D8); replace D8 := hid2 D8; replace q8 := hid2 q8; clear b8 rmk)
                  | (go_at_call 61; go_must (refine (bytes_is O8 BW Llen.out llen.out ldec.out).mono ?_); rintro e y9 ⟨rfl, b9⟩; have D11 := joinB D8.out b9; have q11 := q8.out.keep b9; skip; replace D11 := hid2 D11; clear b9 O8 BW)
              go_roundw
              case rel => exact ⟨10 + 1, by omega, by omega, by go_num, fun j h1 h2 => by
                by_cases e : j = 10
                · subst e; exact HFR.out
                · exact HA.out j (by omega) h2, HQ.out.keepB D11.out zlt, joinB HW.out D11.out, Nat.lt_of_lt_of_le zlt D11.out.size⟩
              case measure => simp [intOf]
          · have h10 : ¬ ((k : Int) = 10) := by omega
            by_cases hfr : frm k = fIn l
            · have G0 : True := trivial
              have G1 : True := trivial
              have hc : 17 ≤ c := by omega
              have hc9 : ¬ ((c : Int) = 1) := by omega
              have gc1 : (1 : Int) ≤ c := by omega
              have sz9 : (wr.alloc (.cells #[.int .i64 (k : Int), .int .u64 0, .int .u64 0] 90)).heap.size = wr.heap.size + 1 := by simp
              have zlt : w.heap.size < wr.heap.size := HZ.out
              have HSB := hid2 (Nat.le_of_lt zlt)
              have hEE := rd_E (k := k) hlt hk1 (l := l) (by rw [hf]; have := HL.out; simp only; omega)
              have ldec := hid2 (decide_eq_true (fIn_mk hlt hk1 HO.out hfr : mk (k : Nat) (rdA k l) (rdB l) = l))
              have rmk := fun w => rmake_ok (w := w) (k := ((k : Nat) : Int)) (rdA_u64 (k := k) HO.out) hEE
              have Llen : Hid ((mk (k : Nat) (rdA k l) (rdB l)).length ≤ 1000) := by have h9 := mk_len (k : Nat) (rdA k l) (rdB l); show _ ≤ _; omega
              generalize mk (k : Nat) (rdA k l) (rdB l) = L at *
              have llen : Hid (l.length ≤ 1000) := by have := HL.out; show _ ≤ _; omega
              have HFR := hid2 hfr
              clear hfr hEE hf
              have Y1 := hid2 (By.drop HB.out 1 (by decide))
              have q9 := (blk_new wr [.int .i64 (k : Int), .int .u64 0, .int .u64 0] 90).keep (below_alloc (wr.alloc (.cells #[.int .i64 (k : Int), .int .u64 0, .int .u64 0] 90)) (.cells #[.slice (some ⟨b, o + 1, none⟩) 16 (c - 1), .int .i64 0] 243))
              have q10 := blk_new (wr.alloc (.cells #[.int .i64 (k : Int), .int .u64 0, .int .u64 0] 90)) [.slice (some ⟨b, o + 1, none⟩) 16 (c - 1), .int .i64 0] 243
              rw [sz9] at q10
              have D2 : Below wr.heap.size wr ((wr.alloc (.cells #[.int .i64 (k : Int), .int .u64 0, .int .u64 0] 90)).alloc (.cells #[.slice (some ⟨b, o + 1, none⟩) 16 (c - 1), .int .i64 0] 243)) := joinB (below_alloc _ _) (below_alloc _ _)
              clear hT
              go_wp2_with first
                  | (go_at_call 88; refine (u1 _).mono ?_; rintro e y0 ⟨rfl, hy0⟩; replace hy0 := hy0.symm; subst hy0)
                  | (go_at_call 146; have gate := G0; clear gate; go_must (refine (rU_got (m := 8) Y1.out (joinB HW.out D2) (by have := HSB.out; omega) q10 (by decide) (by decide)).mono ?_); clear G0; rintro e y3 ⟨rfl, q10_3, C3⟩; have q9_3 := q9.chg C3 (by omega); have D_3 := D2.trans (C3.below (B := wr.heap.size) (fun b e => by omega) (D2.size)); replace q10_3 := q10_3 (by omega); have Y3 := hid2 (By.drop Y1.out 8 (by decide)); generalize hV0 : bv ((l.drop 1).take 8) = V0 at *; replace hV0 := hid2 hV0; have e1_3 := q9_3.cell (i := 1) rfl; have f1_3 := q9_3.free 1; replace q10_3 := q10_3.off (by omega) (i := 1) (g' := wr.heap.size) (.int .u64 V0); replace q9_3 := q9_3.setCell (i := 1) (.int .u64 V0); replace D_3 := D_3.setCell (p := ⟨wr.heap.size, 1, none⟩) (Nat.le_refl _) (.int .u64 V0); clear C3)
                  | (go_at_call 146; have gate := G1; clear gate; go_must (refine (rU_got (m := 8) Y3.out (joinB HW.out D_3) (by have := HSB.out; omega) q10_3 (by decide) (by decide)).mono ?_); clear G1; rintro e y4 ⟨rfl, q10_4, C4⟩; have q9_4 := q9_3.chg C4 (by omega); have D_4 := D_3.trans (C4.below (B := wr.heap.size) (fun b e => by omega) (D_3.size)); generalize hV1 : bv (((l.drop 1).drop 8).take 8) = V1 at *; replace hV1 := hid2 hV1; have e1_4 := q9_4.cell (i := 2) rfl; have f1_4 := q9_4.free 2; replace q9_4 := q9_4.setCell (i := 2) (.int .u64 V1); replace D_4 := D_4.setCell (p := ⟨wr.heap.size, 2, none⟩) (Nat.le_refl _) (.int .u64 V1); have k0 := q9_4.cell (i := 0) rfl; have k1 := q9_4.cell (i := 1) rfl; have k2 := q9_4.cell (i := 2) rfl; clear C4)
                  | (go_at_call 37; have EA : rdA k l = V0 := (by rw [rdA, if_pos (by have := HL.out; omega), hV0.out]; unfold tn; rw [if_neg h10]); have EB : rdB l = V1 := (by rw [rdB, if_pos (by have := HL.out; omega), ← hV1.out, HL.out]; simp only [List.drop_drop]; rw [List.take_of_length_le (by rw [List.length_drop]; have := HL.out; omega)]); rw [EA, EB] at rmk; replace EA := hid2 EA; replace EB := hid2 EB; go_must (refine (rmk _).mono ?_); rintro e y8 ⟨a8, n8, c8, rfl, O8, b8⟩; have D8 := joinB D_4 b8; have q8 := q9_4.keep b8; have BW := HB.out.keep (joinB HW.out D8); replace D8 := hid2 D8; replace q8 := hid2 q8; clear b8 rmk)
                  | (go_at_call 61; go_must (refine (bytes_is O8 BW Llen.out llen.out ldec.out).mono ?_); rintro e y9 ⟨rfl, b9⟩; have D11 := joinB D8.out b9; have q11 := q8.out.keep b9; have q0 := q11.cell (i := 0) rfl; have q1 := q11.cell (i := 1) rfl; have q2 := q11.cell (i := 2) rfl; have z9 := HQ.out.keepB D11 zlt; have c0 := z9.cell (i := 0) rfl; have c1 := z9.cell (i := 1) rfl; have c2 := z9.cell (i := 2) rfl; have f0 := z9.free 0; have f1 := z9.free 1; have f2 := z9.free 2; replace z9 := hid2 z9; replace D11 := hid2 D11; clear b9 O8 BW)
              refine bodyPost_ret (res_cell_tmp rfl rfl rfl (ld_key (row3 z9.out _ _ _))) rfl ?_
              exact ⟨_, _, _, _, rfl, .inl ⟨k, hlt, hk1, HFR.out, rfl, EA.out.symm, EB.out.symm, rfl⟩, below3 (joinB HW.out D11.out) _ _ _⟩
            · have G0 : True := trivial
              have G1 : True := trivial
              have hc : 17 ≤ c := by omega
              have hc9 : ¬ ((c : Int) = 1) := by omega
              have gc1 : (1 : Int) ≤ c := by omega
              have sz9 : (wr.alloc (.cells #[.int .i64 (k : Int), .int .u64 0, .int .u64 0] 90)).heap.size = wr.heap.size + 1 := by simp
              have zlt : w.heap.size < wr.heap.size := HZ.out
              have HSB := hid2 (Nat.le_of_lt zlt)
              have hEE := rd_E (k := k) hlt hk1 (l := l) (by rw [hf]; have := HL.out; simp only; omega)
              have ldec := hid2 (decide_eq_false (fun h => hfr (mk_fIn hlt hk1 HO.out (by rw [hf]; have := HL.out; simp only; omega) h) : ¬ mk (k : Nat) (rdA k l) (rdB l) = l))
              have rmk := fun w => rmake_ok (w := w) (k := ((k : Nat) : Int)) (rdA_u64 (k := k) HO.out) hEE
              have Llen : Hid ((mk (k : Nat) (rdA k l) (rdB l)).length ≤ 1000) := by have h9 := mk_len (k : Nat) (rdA k l) (rdB l); show _ ≤ _; omega
              generalize mk (k : Nat) (rdA k l) (rdB l) = L at *
              have llen : Hid (l.length ≤ 1000) := by have := HL.out; show _ ≤ _; omega
              have HFR := hid2 hfr
              clear hfr hEE hf
              have Y1 := hid2 (By.drop HB.out 1 (by decide))
              have q9 := (blk_new wr [.int .i64 (k : Int), .int .u64 0, .int .u64 0] 90).keep (below_alloc (wr.alloc (.cells #[.int .i64 (k : Int), .int .u64 0, .int .u64 0] 90)) (.cells #[.slice (some ⟨b, o + 1, none⟩) 16 (c - 1), .int .i64 0] 243))
              have q10 := blk_new (wr.alloc (.cells #[.int .i64 (k : Int), .int .u64 0, .int .u64 0] 90)) [.slice (some ⟨b, o + 1, none⟩) 16 (c - 1), .int .i64 0] 243
              rw [sz9] at q10
              have D2 : Below wr.heap.size wr ((wr.alloc (.cells #[.int .i64 (k : Int), .int .u64 0, .int .u64 0] 90)).alloc (.cells #[.slice (some ⟨b, o + 1, none⟩) 16 (c - 1), .int .i64 0] 243)) := joinB (below_alloc _ _) (below_alloc _ _)
              clear hT
              go_wp2_with first
                  | (go_at_call 88; refine (u1 _).mono ?_; rintro e y0 ⟨rfl, hy0⟩; replace hy0 := hy0.symm; subst hy0)
                  | (go_at_call 146; have gate := G0; clear gate; go_must (refine (rU_got (m := 8) Y1.out (joinB HW.out D2) (by have := HSB.out; omega) q10 (by decide) (by decide)).mono ?_); clear G0; rintro e y3 ⟨rfl, q10_3, C3⟩; have q9_3 := q9.chg C3 (by omega); have D_3 := D2.trans (C3.below (B := wr.heap.size) (fun b e => by omega) (D2.size)); replace q10_3 := q10_3 (by omega); have Y3 := hid2 (By.drop Y1.out 8 (by decide)); generalize hV0 : bv ((l.drop 1).take 8) = V0 at *; replace hV0 := hid2 hV0; have e1_3 := q9_3.cell (i := 1) rfl; have f1_3 := q9_3.free 1; replace q10_3 := q10_3.off (by omega) (i := 1) (g' := wr.heap.size) (.int .u64 V0); replace q9_3 := q9_3.setCell (i := 1) (.int .u64 V0); replace D_3 := D_3.setCell (p := ⟨wr.heap.size, 1, none⟩) (Nat.le_refl _) (.int .u64 V0); clear C3)
                  | (go_at_call 146; have gate := G1; clear gate; go_must (refine (rU_got (m := 8) Y3.out (joinB HW.out D_3) (by have := HSB.out; omega) q10_3 (by decide) (by decide)).mono ?_); clear G1; rintro e y4 ⟨rfl, q10_4, C4⟩; have q9_4 := q9_3.chg C4 (by omega); have D_4 := D_3.trans (C4.below (B := wr.heap.size) (fun b e => by omega) (D_3.size)); generalize hV1 : bv (((l.drop 1).drop 8).take 8) = V1 at *; replace hV1 := hid2 hV1; have e1_4 := q9_4.cell (i := 2) rfl; have f1_4 := q9_4.free 2; replace q9_4 := q9_4.setCell (i := 2) (.int .u64 V1); replace D_4 := D_4.setCell (p := ⟨wr.heap.size, 2, none⟩) (Nat.le_refl _) (.int .u64 V1); have k0 := q9_4.cell (i := 0) rfl; have k1 := q9_4.cell (i := 1) rfl; have k2 := q9_4.cell (i := 2) rfl; clear C4)
                  | (go_at_call 37; have EA : rdA k l = V0 := (by rw [rdA, if_pos (by have := HL.out; omega), hV0.out]; unfold tn; rw [if_neg h10]); have EB : rdB l = V1 := (by rw [rdB, if_pos (by have := HL.out; omega), ← hV1.out, HL.out]; simp only [List.drop_drop]; rw [List.take_of_length_le (by rw [List.length_drop]; have := HL.out; omega)]); rw [EA, EB] at rmk; replace EA := hid2 EA; replace EB := hid2 EB; go_must (refine (rmk _).mono ?_); rintro e y8 ⟨a8, n8, c8, rfl, O8, b8⟩; have D8 := joinB D_4 b8; have q8 := q9_4.keep b8; have BW := HB.out.keep (joinB HW.out D8); replace D8 := hid2 D8; replace q8 := hid2 q8; clear b8 rmk)
                  | (go_at_call 61; go_must (refine (bytes_is O8 BW Llen.out llen.out ldec.out).mono ?_); rintro e y9 ⟨rfl, b9⟩; have D11 := joinB D8.out b9; have q11 := q8.out.keep b9; skip; replace D11 := hid2 D11; clear b9 O8 BW)
              go_roundw
              case rel => exact ⟨k + 1, by omega, by omega, by go_num, fun j h1 h2 => by
                by_cases e : j = k
                · subst e; exact HFR.out
                · exact HA.out j (by omega) h2, HQ.out.keepB D11.out zlt, joinB HW.out D11.out, Nat.lt_of_lt_of_le zlt D11.out.size⟩
              case measure => simp [intOf]; omega
        · have g1 : ¬ ((n : Int) = 17) := by omega
          have HFR : Hid (frm k ≠ fIn l) := fun e => by rw [hf] at e; have h1 := congrArg Prod.fst e; simp only [fIn] at h1; have := HL.out; omega
          clear hf hT
          go_wp2_with first
            | (go_at_call 88; refine (u1 _).mono ?_; rintro e y0 ⟨rfl, hy0⟩; replace hy0 := hy0.symm; subst hy0)
          go_roundw
          case rel => exact ⟨k + 1, by omega, by omega, by go_num, fun j h1 h2 => by
            by_cases e : j = k
            · subst e; exact HFR.out
            · exact HA.out j (by omega) h2, HQ, HW, HZ⟩
          case measure => simp [intOf]; omega
      · by_cases hn : n = 18
        · subst hn
          have h10 : ¬ ((k : Int) = 10) := fun h => by have := hT (by omega); omega
          by_cases hfr : frm k = fIn l
          · have G0 : True := trivial
            have G1 : True := trivial
            have G2 : True := trivial
            have hc : 18 ≤ c := by omega
            have hc9 : ¬ ((c : Int) = 1) := by omega
            have gc1 : (1 : Int) ≤ c := by omega
            have sz9 : (wr.alloc (.cells #[.int .i64 (k : Int), .int .u64 0, .int .u64 0] 90)).heap.size = wr.heap.size + 1 := by simp
            have zlt : w.heap.size < wr.heap.size := HZ.out
            have HSB := hid2 (Nat.le_of_lt zlt)
            have hEE := rd_E (k := k) hlt hk1 (l := l) (by rw [hf]; have := HL.out; simp only; omega)
            have ldec := hid2 (decide_eq_true (fIn_mk hlt hk1 HO.out hfr : mk (k : Nat) (rdA k l) (rdB l) = l))
            have rmk := fun w => rmake_ok (w := w) (k := ((k : Nat) : Int)) (rdA_u64 (k := k) HO.out) hEE
            have Llen : Hid ((mk (k : Nat) (rdA k l) (rdB l)).length ≤ 1000) := by have h9 := mk_len (k : Nat) (rdA k l) (rdB l); show _ ≤ _; omega
            generalize mk (k : Nat) (rdA k l) (rdB l) = L at *
            have llen : Hid (l.length ≤ 1000) := by have := HL.out; show _ ≤ _; omega
            have HFR := hid2 hfr
            clear hfr hEE hf
            have Y1 := hid2 (By.drop HB.out 1 (by decide))
            have q9 := (blk_new wr [.int .i64 (k : Int), .int .u64 0, .int .u64 0] 90).keep (below_alloc (wr.alloc (.cells #[.int .i64 (k : Int), .int .u64 0, .int .u64 0] 90)) (.cells #[.slice (some ⟨b, o + 1, none⟩) 17 (c - 1), .int .i64 0] 243))
            have q10 := blk_new (wr.alloc (.cells #[.int .i64 (k : Int), .int .u64 0, .int .u64 0] 90)) [.slice (some ⟨b, o + 1, none⟩) 17 (c - 1), .int .i64 0] 243
            rw [sz9] at q10
            have D2 : Below wr.heap.size wr ((wr.alloc (.cells #[.int .i64 (k : Int), .int .u64 0, .int .u64 0] 90)).alloc (.cells #[.slice (some ⟨b, o + 1, none⟩) 17 (c - 1), .int .i64 0] 243)) := joinB (below_alloc _ _) (below_alloc _ _)
            clear hT
            go_wp2_with first
                | (go_at_call 88; refine (u1 _).mono ?_; rintro e y0 ⟨rfl, hy0⟩; replace hy0 := hy0.symm; subst hy0)
                | (go_at_call 146; have gate := G0; clear gate; go_must (refine (rU_got (m := 8) Y1.out (joinB HW.out D2) (by have := HSB.out; omega) q10 (by decide) (by decide)).mono ?_); clear G0; rintro e y3 ⟨rfl, q10_3, C3⟩; have q9_3 := q9.chg C3 (by omega); have D_3 := D2.trans (C3.below (B := wr.heap.size) (fun b e => by omega) (D2.size)); replace q10_3 := q10_3 (by omega); have Y3 := hid2 (By.drop Y1.out 8 (by decide)); generalize hV0 : bv ((l.drop 1).take 8) = V0 at *; replace hV0 := hid2 hV0; have e1_3 := q9_3.cell (i := 1) rfl; have f1_3 := q9_3.free 1; replace q10_3 := q10_3.off (by omega) (i := 1) (g' := wr.heap.size) (.int .u64 V0); replace q9_3 := q9_3.setCell (i := 1) (.int .u64 V0); replace D_3 := D_3.setCell (p := ⟨wr.heap.size, 1, none⟩) (Nat.le_refl _) (.int .u64 V0); clear C3)
                | (go_at_call 146; have gate := G1; clear gate; go_must (refine (rU_got (m := 1) Y3.out (joinB HW.out D_3) (by have := HSB.out; omega) q10_3 (by decide) (by decide)).mono ?_); clear G1; rintro e y4 ⟨rfl, q10_4, C4⟩; have q9_4 := q9_3.chg C4 (by omega); have D_4 := D_3.trans (C4.below (B := wr.heap.size) (fun b e => by omega) (D_3.size)); replace q10_4 := q10_4 (by omega); have Y4 := hid2 (By.drop Y3.out 1 (by decide)); generalize bv (((l.drop 1).drop 8).take 1) = V1 at *; clear C4)
                | (go_at_call 146; have gate := G2; clear gate; go_must (refine (rU_got (m := 8) Y4.out (joinB HW.out D_4) (by have := HSB.out; omega) q10_4 (by decide) (by decide)).mono ?_); clear G2; rintro e y5 ⟨rfl, q10_5, C5⟩; have q9_5 := q9_4.chg C5 (by omega); have D_5 := D_4.trans (C5.below (B := wr.heap.size) (fun b e => by omega) (D_4.size)); generalize hV2 : bv ((((l.drop 1).drop 8).drop 1).take 8) = V2 at *; replace hV2 := hid2 hV2; have e1_5 := q9_5.cell (i := 2) rfl; have f1_5 := q9_5.free 2; replace q9_5 := q9_5.setCell (i := 2) (.int .u64 V2); replace D_5 := D_5.setCell (p := ⟨wr.heap.size, 2, none⟩) (Nat.le_refl _) (.int .u64 V2); have k0 := q9_5.cell (i := 0) rfl; have k1 := q9_5.cell (i := 1) rfl; have k2 := q9_5.cell (i := 2) rfl; clear C5)
                | (go_at_call 37; have EA : rdA k l = V0 := (by rw [rdA, if_pos (by have := HL.out; omega), hV0.out]; unfold tn; rw [if_neg h10]); have EB : rdB l = V2 := (by rw [rdB, if_pos (by have := HL.out; omega), ← hV2.out, HL.out]; simp only [List.drop_drop]; rw [List.take_of_length_le (by rw [List.length_drop]; have := HL.out; omega)]); rw [EA, EB] at rmk; replace EA := hid2 EA; replace EB := hid2 EB; go_must (refine (rmk _).mono ?_); rintro e y8 ⟨a8, n8, c8, rfl, O8, b8⟩; have D8 := joinB D_5 b8; have q8 := q9_5.keep b8; have BW := HB.out.keep (joinB HW.out D8); replace D8 := hid2 D8; replace q8 := hid2 q8; clear b8 rmk)
                | (go_at_call 61; go_must (refine (bytes_is O8 BW Llen.out llen.out ldec.out).mono ?_); rintro e y9 ⟨rfl, b9⟩; have D11 := joinB D8.out b9; have q11 := q8.out.keep b9; have q0 := q11.cell (i := 0) rfl; have q1 := q11.cell (i := 1) rfl; have q2 := q11.cell (i := 2) rfl; have z9 := HQ.out.keepB D11 zlt; have c0 := z9.cell (i := 0) rfl; have c1 := z9.cell (i := 1) rfl; have c2 := z9.cell (i := 2) rfl; have f0 := z9.free 0; have f1 := z9.free 1; have f2 := z9.free 2; replace z9 := hid2 z9; replace D11 := hid2 D11; clear b9 O8 BW)
            refine bodyPost_ret (res_cell_tmp rfl rfl rfl (ld_key (row3 z9.out _ _ _))) rfl ?_
            exact ⟨_, _, _, _, rfl, .inl ⟨k, hlt, hk1, HFR.out, rfl, EA.out.symm, EB.out.symm, rfl⟩, below3 (joinB HW.out D11.out) _ _ _⟩
          · have G0 : True := trivial
            have G1 : True := trivial
            have G2 : True := trivial
            have hc : 18 ≤ c := by omega
            have hc9 : ¬ ((c : Int) = 1) := by omega
            have gc1 : (1 : Int) ≤ c := by omega
            have sz9 : (wr.alloc (.cells #[.int .i64 (k : Int), .int .u64 0, .int .u64 0] 90)).heap.size = wr.heap.size + 1 := by simp
            have zlt : w.heap.size < wr.heap.size := HZ.out
            have HSB := hid2 (Nat.le_of_lt zlt)
            have hEE := rd_E (k := k) hlt hk1 (l := l) (by rw [hf]; have := HL.out; simp only; omega)
            have ldec := hid2 (decide_eq_false (fun h => hfr (mk_fIn hlt hk1 HO.out (by rw [hf]; have := HL.out; simp only; omega) h) : ¬ mk (k : Nat) (rdA k l) (rdB l) = l))
            have rmk := fun w => rmake_ok (w := w) (k := ((k : Nat) : Int)) (rdA_u64 (k := k) HO.out) hEE
            have Llen : Hid ((mk (k : Nat) (rdA k l) (rdB l)).length ≤ 1000) := by have h9 := mk_len (k : Nat) (rdA k l) (rdB l); show _ ≤ _; omega
            generalize mk (k : Nat) (rdA k l) (rdB l) = L at *
            have llen : Hid (l.length ≤ 1000) := by have := HL.out; show _ ≤ _; omega
            have HFR := hid2 hfr
            clear hfr hEE hf
            have Y1 := hid2 (By.drop HB.out 1 (by decide))
            have q9 := (blk_new wr [.int .i64 (k : Int), .int .u64 0, .int .u64 0] 90).keep (below_alloc (wr.alloc (.cells #[.int .i64 (k : Int), .int .u64 0, .int .u64 0] 90)) (.cells #[.slice (some ⟨b, o + 1, none⟩) 17 (c - 1), .int .i64 0] 243))
            have q10 := blk_new (wr.alloc (.cells #[.int .i64 (k : Int), .int .u64 0, .int .u64 0] 90)) [.slice (some ⟨b, o + 1, none⟩) 17 (c - 1), .int .i64 0] 243
            rw [sz9] at q10
            have D2 : Below wr.heap.size wr ((wr.alloc (.cells #[.int .i64 (k : Int), .int .u64 0, .int .u64 0] 90)).alloc (.cells #[.slice (some ⟨b, o + 1, none⟩) 17 (c - 1), .int .i64 0] 243)) := joinB (below_alloc _ _) (below_alloc _ _)
            clear hT
            go_wp2_with first
                | (go_at_call 88; refine (u1 _).mono ?_; rintro e y0 ⟨rfl, hy0⟩; replace hy0 := hy0.symm; subst hy0)
                | (go_at_call 146; have gate := G0; clear gate; go_must (refine (rU_got (m := 8) Y1.out (joinB HW.out D2) (by have := HSB.out; omega) q10 (by decide) (by decide)).mono ?_); clear G0; rintro e y3 ⟨rfl, q10_3, C3⟩; have q9_3 := q9.chg C3 (by omega); have D_3 := D2.trans (C3.below (B := wr.heap.size) (fun b e => by omega) (D2.size)); replace q10_3 := q10_3 (by omega); have Y3 := hid2 (By.drop Y1.out 8 (by decide)); generalize hV0 : bv ((l.drop 1).take 8) = V0 at *; replace hV0 := hid2 hV0; have e1_3 := q9_3.cell (i := 1) rfl; have f1_3 := q9_3.free 1; replace q10_3 := q10_3.off (by omega) (i := 1) (g' := wr.heap.size) (.int .u64 V0); replace q9_3 := q9_3.setCell (i := 1) (.int .u64 V0); replace D_3 := D_3.setCell (p := ⟨wr.heap.size, 1, none⟩) (Nat.le_refl _) (.int .u64 V0); clear C3)
                | (go_at_call 146; have gate := G1; clear gate; go_must (refine (rU_got (m := 1) Y3.out (joinB HW.out D_3) (by have := HSB.out; omega) q10_3 (by decide) (by decide)).mono ?_); clear G1; rintro e y4 ⟨rfl, q10_4, C4⟩; have q9_4 := q9_3.chg C4 (by omega); have D_4 := D_3.trans (C4.below (B := wr.heap.size) (fun b e => by omega) (D_3.size)); replace q10_4 := q10_4 (by omega); have Y4 := hid2 (By.drop Y3.out 1 (by decide)); generalize bv (((l.drop 1).drop 8).take 1) = V1 at *; clear C4)
                | (go_at_call 146; have gate := G2; clear gate; go_must (refine (rU_got (m := 8) Y4.out (joinB HW.out D_4) (by have := HSB.out; omega) q10_4 (by decide) (by decide)).mono ?_); clear G2; rintro e y5 ⟨rfl, q10_5, C5⟩; have q9_5 := q9_4.chg C5 (by omega); have D_5 := D_4.trans (C5.below (B := wr.heap.size) (fun b e => by omega) (D_4.size)); generalize hV2 : bv ((((l.drop 1).drop 8).drop 1).take 8) = V2 at *; replace hV2 := hid2 hV2; have e1_5 := q9_5.cell (i := 2) rfl; have f1_5 := q9_5.free 2; replace q9_5 := q9_5.setCell (i := 2) (.int .u64 V2); replace D_5 := D_5.setCell (p := ⟨wr.heap.size, 2, none⟩) (Nat.le_refl _) (.int .u64 V2); have k0 := q9_5.cell (i := 0) rfl; have k1 := q9_5.cell (i := 1) rfl; have k2 := q9_5.cell (i := 2) rfl; clear C5)
                | (go_at_call 37; have EA : rdA k l = V0 := (by rw [rdA, if_pos (by have := HL.out; omega), hV0.out]; unfold tn; rw [if_neg h10]); have EB : rdB l = V2 := (by rw [rdB, if_pos (by have := HL.out; omega), ← hV2.out, HL.out]; simp only [List.drop_drop]; rw [List.take_of_length_le (by rw [List.length_drop]; have := HL.out; omega)]); rw [EA, EB] at rmk; replace EA := hid2 EA; replace EB := hid2 EB; go_must (refine (rmk _).mono ?_); rintro e y8 ⟨a8, n8, c8, rfl, O8, b8⟩; have D8 := joinB D_5 b8; have q8 := q9_5.keep b8; have BW := HB.out.keep (joinB HW.out D8); replace D8 := hid2 D8; replace q8 := hid2 q8; clear b8 rmk)
                | (go_at_call 61; go_must (refine (bytes_is O8 BW Llen.out llen.out ldec.out).mono ?_); rintro e y9 ⟨rfl, b9⟩; have D11 := joinB D8.out b9; have q11 := q8.out.keep b9; skip; replace D11 := hid2 D11; clear b9 O8 BW)
            go_roundw
            case rel => exact ⟨k + 1, by omega, by omega, by go_num, fun j h1 h2 => by
              by_cases e : j = k
              · subst e; exact HFR.out
              · exact HA.out j (by omega) h2, HQ.out.keepB D11.out zlt, joinB HW.out D11.out, Nat.lt_of_lt_of_le zlt D11.out.size⟩
            case measure => simp [intOf]; omega
        · have g1 : ¬ ((n : Int) = 18) := by omega
          have HFR : Hid (frm k ≠ fIn l) := fun e => by rw [hf] at e; have h1 := congrArg Prod.fst e; simp only [fIn] at h1; have := HL.out; omega
          clear hf hT
          go_wp2_with first
            | (go_at_call 88; refine (u1 _).mono ?_; rintro e y0 ⟨rfl, hy0⟩; replace hy0 := hy0.symm; subst hy0)
          go_roundw
          case rel => exact ⟨k + 1, by omega, by omega, by go_num, fun j h1 h2 => by
            by_cases e : j = k
            · subst e; exact HFR.out
            · exact HA.out j (by omega) h2, HQ, HW, HZ⟩
          case measure => simp [intOf]; omega
    · obtain rfl : k = 18 := by omega
      have c0 := HQ.out.cell (i := 0) rfl
      have c1 := HQ.out.cell (i := 1) rfl
      have c2 := HQ.out.cell (i := 2) rfl
      have f0 := HQ.out.free 0
      have f1 := HQ.out.free 1
      have f2 := HQ.out.free 2
      go_wp2
      refine bodyPost_ret (res_cell_tmp rfl rfl rfl (ld_key (row3 HQ.out _ _ _))) rfl ?_
      exact ⟨_, _, _, _, rfl, .inr ⟨HA.out, rfl, rfl, rfl, rfl⟩, below3 HW.out _ _ _⟩
end Ky
end Go.Proofs.YtidnifmehnjipaaGreat
