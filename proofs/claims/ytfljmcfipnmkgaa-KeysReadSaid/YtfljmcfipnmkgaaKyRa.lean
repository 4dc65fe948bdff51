/- The document's keys: Under, Next; its Reader's take and U where there are bytes enough. -/
import Derived.Test.YtfljmcfipnmkgaaKyU
namespace Go.Proofs.Ytfljmcfipnmkgaa
namespace Ky
open Go.RowKit Go.Lib Pg
attribute [local go_sem] Oper.semAt_some eq50
/-- where what is left begins -/
def rsAt (b o c m : Nat) : Option Addr := if c = m then some ⟨b, o, none⟩ else some ⟨b, o + m, none⟩
theorem By.rest {w : World} {b o n c : Nat} {l : List Int} (h : By w (.slice (some ⟨b, o, none⟩) n c) l) {m : Nat} (hm : m ≤ n) : By w (.slice (rsAt b o c m) (n - m) (c - m)) (l.drop m) := by
  obtain ⟨hl, hnc, hcm⟩ := By.lens h
  unfold rsAt
  by_cases e : c = m
  · have : l.drop m = [] := List.drop_of_length_le (by omega)
    rw [if_pos e, this]
    exact ⟨_, c - m, by rw [show n - m = 0 by omega]; rfl, by simp, by omega, (fun e => by cases e), fun _ h => by simp at h, .inl rfl⟩
  · rw [if_neg e]; exact By.drop h m hm
set_option maxHeartbeats 1000000 in
set_option maxRecDepth 100000 in
theorem rtake_any {w : World} {g b o n c m : Nat} (hK : Blk w g [.slice (some ⟨b, o, none⟩) n c, .int .i64 0] 63) (hm : m ≤ n) (hnc : n ≤ c) (hc : c ≤ 9223372036854775807) :
    Calls Try.prog 42 #[.pointer (some ⟨g, 0, none⟩), .int .i64 m] w fun e w' => e = .returned (.slice (some ⟨b, o, none⟩) m c) ∧ w' = w.setCell ⟨g, 0, none⟩ (.slice (rsAt b o c m) (n - m) (c - m)) := by
  have c1 := hK.cell (i := 0) rfl
  have c2 := hK.cell (i := 1) rfl
  have c3 := hK.free 0
  have c4 := hK.free 1
  have hm0 : (m : Int) ≤ n := by omega
  have hm1 : (m : Int) ≤ c := by omega
  have hq : ((n : Int) < m) = False := eq_false (by omega)
  have hn9 : (c : Int) ≤ 9223372036854775807 := by omega
  clear hK
  go_enter Try.func42, Try.ntmps42
  go_wp2
  · subst h
    go_ret
    exact ⟨rfl, by unfold rsAt; rw [if_pos rfl]⟩
  · go_ret
    exact ⟨rfl, by unfold rsAt; rw [if_neg (by assumption)]⟩
set_option maxHeartbeats 4000000 in
set_option maxRecDepth 100000 in
theorem rU_any {w0 w : World} {g b o n c m : Nat} {l : List Int} (hY : By w0 (.slice (some ⟨b, o, none⟩) n c) l) (hB : Below w0.heap.size w0 w) (hg : w0.heap.size ≤ g) (hK : Blk w g [.slice (some ⟨b, o, none⟩) n c, .int .i64 0] 63) (hm : m ≤ n) (h8 : m ≤ 8) :
    Calls Try.prog 37 #[.pointer (some ⟨g, 0, none⟩), .int .i64 m] w fun e w' => e = .returned (.int .u64 (bv (l.take m))) ∧ w' = w.setCell ⟨g, 0, none⟩ (.slice (rsAt b o c m) (n - m) (c - m)) := by
  obtain ⟨hl, hnc, hcm⟩ := By.lens hY
  have t := rtake_any hK hm hnc hcm
  have HO : Hid (Oct (l.take m)) := fun x hx => hY.oct x (List.mem_of_mem_take hx)
  have HY : Hid (By (w.setCell ⟨g, 0, none⟩ (.slice (rsAt b o c m) (n - m) (c - m))) (.slice (some ⟨b, o, none⟩) m c) (l.take m)) := (By.take hY m hm).keep (hB.setCell hg _)
  have hlm : Hid ((l.take m).length = m) := by show _ = _; rw [List.length_take]; omega
  clear hY hK
  generalize l.take m = d at *
  have h8' : (m : Int) ≤ 8 := by omega
  go_enter Try.func37, Try.ntmps37
  go_wp2_with (go_at_call 42; refine t.mono ?_; rintro e w1 ⟨rfl, rfl⟩)
  generalize hW : w.setCell ⟨g, 0, none⟩ (.slice (rsAt b o c m) (n - m) (c - m)) = W at *
  replace hW := hid2 hW
  go_loop [6, 7] (fun tx ti => ∃ k : Nat, k ≤ m ∧ ti = .int .i64 k ∧ tx = .int .u64 (bv (d.take k))) (fun _ ti => m - (intOf ti).toNat)
  case atStart => exact ⟨0, Nat.zero_le _, rfl, rfl⟩
  case round =>
    obtain ⟨k, hk, rfl, rfl⟩ := hrel
    by_cases hlt : k < m
    · obtain ⟨x, hx⟩ : ∃ x, d[k]? = some x := ⟨d[k]'(by have := hlm.out; omega), List.getElem?_eq_getElem _⟩
      obtain ⟨b', o', e, cx⟩ := By.at HY.out hx
      cases e
      have hxb := HO.out x (List.mem_of_getElem? hx)
      have HT : Hid (bv (d.take (k + 1)) = bv (d.take k) * 256 + x) := by
        show _ = _
        rw [List.take_add_one, hx]
        exact bv_snoc _ _
      have hb := bv_bound k (d.take k) (fun y hy => HO.out y (List.mem_of_mem_take hy)) (by rw [List.length_take]; have := hlm.out; omega)
      have hb2 : bv (d.take k) < 72057594037927936 := by
        have h9 : (256 : Int) ^ k ≤ 256 ^ 7 := by
          have : (256 : Nat) ^ k ≤ 256 ^ 7 := Nat.pow_le_pow_right (by decide) (by omega)
          exact_mod_cast this
        have : (256 : Int) ^ 7 = 72057594037927936 := by decide
        omega
      have ho4 := or64 (bv (d.take k)) x hb.1 hb2 hxb.1 hxb.2
      generalize bv (d.take k) = V at *
      have hk0 : (k : Int) < m := by omega
      clear hb hb2 hx
      go_wp2
      go_round
      case rel =>
        refine ⟨k + 1, by omega, by go_num, ?_⟩
        rw [HT.out]
      case measure => simp [intOf]; omega
    · obtain rfl : k = m := by omega
      have hdk : d.take k = d := List.take_of_length_le (by have := hlm.out; omega)
      rw [hdk]
      have hk0 : ¬ ((k : Int) < k) := by omega
      go_wp2
      go_ret
      exact ⟨rfl, hW.out.symm⟩
theorem under_len {k : Int} {a : Int} (h : 16 < (frm k).1) : (mk k a 0).take ((mk k a 0).length - 8) = mkb (frm k) (tn k a) := by
  unfold mk
  rw [if_pos h]
  simp [be_length]
set_option maxHeartbeats 4000000 in
set_option maxRecDepth 100000 in
theorem runder_any {w : World} {k a : Int} (h0 : 0 ≤ a) (h1 : a < 18446744073709551616) : Calls Try.prog 25 #[.int .i64 k, .int .u64 a] w fun e w' => ∃ v, e = .returned (.tuple #[v, .int .i64 (if 16 < (frm k).1 then 0 else 70)]) ∧ By w' v (if 16 < (frm k).1 then mkb (frm k) (tn k a) else []) ∧ Below w.heap.size w w' := by
  have u1 := fun w => rform_any (w := w) (k := k)
  have u2 := fun w => rmake_any (w := w) (k := k) (a := a) (b := 0) h0 h1
  obtain ⟨n, N, m0, m1, hf, hN, hN2, h8, h16, hm, hm0, hm1, hz, h10⟩ := frm_doc k
  by_cases hk : 16 < (frm k).1
  · have hE : mkE k a 0 = false := by unfold mkE; simp; omega
    have hL := under_len (a := a) hk
    have hlen : 8 ≤ (mk k a 0).length := by
      unfold mk; rw [if_pos hk]; simp [be_length]
    rw [hE] at u2
    rw [if_pos hk, if_pos hk, ← hL]
    rw [hf] at hk u1
    simp only [hN] at u1
    have hN3 : ¬ ((N : Int) < 2) := by have := h16; simp only at hk; omega
    clear hf hN h8 h16 hm hm0 hm1 hz h10 hE hL hN2
    generalize hmk : mk k a 0 = L at *
    simp only [Bool.false_eq_true, if_false] at u2
    obtain ⟨ln, hln⟩ : ∃ ln, Hid (L.length = ln) := ⟨_, rfl⟩
    rw [hln.out] at hlen ⊢
    have HL := hid2 hlen
    have g1 : (8 : Int) ≤ ln := by omega
    clear hmk hk hlen
    go_enter Try.func25, Try.ntmps25
    go_wp2_with first
      | (go_at_call 36; refine (u1 _).mono ?_; rintro e w1 ⟨rfl, rfl⟩)
      | (go_at_call 23; go_loud (refine (u2 _).mono ?_; rintro e w2 ⟨v2, rfl, O2, B2⟩; obtain ⟨a2, c2, rfl⟩ := OB.sh O2; rw [hln.out] at O2 ⊢; have BY := O2.by; have hcap := (By.lens BY).2; have g2 : (ln : Int) - 8 ≤ c2 := (by omega); have g3 : IntKind.i64.wrap ((ln : Int) - 8) = ((ln - 8 : Nat) : Int) := (by rw [IntKind.wrap_i64]; omega); replace BY := hid2 BY; clear O2 hcap))
    go_ret2
    exact ⟨_, rfl, By.take BY.out (ln - 8) (by omega), B2⟩
  · rw [if_neg hk, if_neg hk]
    rw [hf] at hk u1
    simp only [hN] at u1
    have hN3 : ((N : Int) < 2) := by have := h16; simp only at hk; omega
    clear hf hN h8 h16 hm hm0 hm1 hz h10 hN2 u2 hk
    go_enter Try.func25, Try.ntmps25
    go_wp2_with first
      | (go_at_call 36; refine (u1 _).mono ?_; rintro e w1 ⟨rfl, rfl⟩)
    go_ret2
    exact ⟨_, rfl, By.nil _, Below.refl _ _⟩
end Ky
end Go.Proofs.Ytfljmcfipnmkgaa
