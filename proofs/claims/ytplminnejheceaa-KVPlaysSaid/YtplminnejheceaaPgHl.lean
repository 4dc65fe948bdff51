/- gleanhelp.Bytes and gleanhelp.Less, over bytes in memory. -/
import Derived.Test.YtplminnejheceaaPgWd
namespace Go.Proofs.Ytplminnejheceaa
namespace Pg
open Go.RowKit Go.Lib
attribute [local go_sem] Oper.semAt_some
theorem By.at {w : World} {ao : Option Addr} {n c : Nat} {l : List Int} (h : By w (.slice ao n c) l) {i : Nat} {x : Int} (hi : l[i]? = some x) : ∃ b o, ao = some ⟨b, o, none⟩ ∧ w.cell? ⟨b, o + i, none⟩ = some (.int .u8 x) := by
  obtain ⟨ao', c', e, _, _, _, _, h6⟩ := h.ex
  cases e
  rcases h6 with rfl | ⟨b, o, e, _, hc⟩
  · simp at hi
  · exact ⟨b, o, e, hc i x hi⟩
theorem below_drewK {w w' : World} (h : Below w.heap.size w w') : ∀ k, Below w.heap.size w (w'.drewN k) := fun _ => ⟨h.os, h.tape, h.output, h.size, h.block⟩
set_option maxHeartbeats 1000000 in
set_option maxRecDepth 100000 in
theorem bytes_any {w : World} {u v : Value} {a b : List Int} (ha : By w u a) (hb : By w v b) (hla : a.length ≤ 1000000000) (hlb : b.length ≤ 1000000000) :
    Calls Try.prog 23 #[u, v] w fun e w' => e = .returned (.bool (decide (a = b))) ∧ Below w.heap.size w w' := by
  obtain ⟨ao, c, rfl, -⟩ := id ha.ex
  obtain ⟨bo, d, rfl, -⟩ := id hb.ex
  obtain ⟨r, hr⟩ : ∃ r, Hid (decide (a = b) = r) := ⟨_, rfl⟩
  obtain ⟨n, hn⟩ : ∃ n, Hid (a.length = n) := ⟨_, rfl⟩
  obtain ⟨m, hm⟩ : ∃ m, Hid (b.length = m) := ⟨_, rfl⟩
  rw [hr.out]
  rw [hn.out] at hla ha ⊢
  rw [hm.out] at hlb hb ⊢
  have HA : Hid _ := ha
  have HB : Hid _ := hb
  clear ha hb
  by_cases hne : n = m
  · subst hne
    go_enter Try.func23, Try.ntmps23
    go_wp2_with fail
    go_loopw [5] (fun ti wr => ∃ k : Nat, k ≤ n ∧ ti = .int .i64 k ∧ Hid (a.take k = b.take k) ∧ Below w.heap.size w wr) (fun ti _ => n - (intOf ti).toNat)
    case atStart => exact ⟨0, Nat.zero_le _, rfl, by show _ = _; simp, Below.refl _ _⟩
    case round =>
      obtain ⟨k, hk, rfl, hz, hbe⟩ := hrel
      by_cases hlt : k < n
      · obtain ⟨x, hx⟩ : ∃ x, a[k]? = some x := ⟨a[k]'(by have := hn.out; omega), List.getElem?_eq_getElem _⟩
        obtain ⟨y, hy⟩ : ∃ y, b[k]? = some y := ⟨b[k]'(by have := hm.out; omega), List.getElem?_eq_getElem _⟩
        obtain ⟨p, q, rfl, c1⟩ := (HA.out.keep hbe).at hx
        obtain ⟨p', q', rfl, c2⟩ := (HB.out.keep hbe).at hy
        have hk0 : (k : Int) < n := by omega
        by_cases hd : x = y
        · subst hd
          have HY : Hid (a.take (k + 1) = b.take (k + 1)) := by
            show _ = _
            rw [List.take_add_one, List.take_add_one, hz.out, hx, hy]
          clear hx hy hz
          go_wp2_with fail
          go_quiet (fail)
          go_wp2
          go_roundw
          case rel => exact ⟨k + 1, by omega, by go_num, HY.out, below_drewK hbe _⟩
          case measure => simp [intOf]; omega
        · have HF : Hid (r = false) := by
            show _ = _
            rw [← hr.out, decide_eq_false]
            intro e
            rw [e, hy] at hx
            cases hx
            exact hd rfl
          have hd' : (x != y) = true := by rw [bne_iff_ne]; exact hd
          clear hx hy hz
          go_wp2_with fail
          go_quiet (fail)
          go_wp2
          go_ret
          exact ⟨by rw [HF.out]; rfl, below_drewK hbe _⟩
      · have hkn : k = n := by omega
        have HF : Hid (r = true) := by
          show _ = _
          have e := hz.out
          rw [List.take_of_length_le (by have := hn.out; omega), List.take_of_length_le (by have := hm.out; omega)] at e
          rw [← hr.out, decide_eq_true e]
        have hk0 : ¬ ((k : Int) < n) := by omega
        clear hkn
        go_wp2
        go_ret
        exact ⟨by rw [HF.out]; rfl, hbe⟩
  · have HF : Hid (r = false) := by
      show _ = _
      rw [← hr.out, decide_eq_false]
      intro e
      exact hne (by rw [← hn.out, ← hm.out, e])
    have h0 : ¬ ((n : Int) = m) := by omega
    have HN : Hid _ := hne
    clear hne
    go_enter Try.func23, Try.ntmps23
    go_wp2
    go_ret
    exact ⟨by rw [HF.out]; rfl, Below.refl _ _⟩
theorem cmpB_drop : ∀ {k : Nat} {a b : List Int}, a.take k = b.take k → k ≤ a.length → k ≤ b.length → cmpB a b = cmpB (a.drop k) (b.drop k)
  | 0, _, _, _, _, _ => rfl
  | k + 1, [], _, _, h, _ => by simp at h
  | k + 1, _ :: _, [], _, _, h => by simp at h
  | k + 1, x :: a, y :: b, h, h1, h2 => by
    simp at h h1 h2
    obtain ⟨rfl, h⟩ := h
    rw [List.drop_succ_cons, List.drop_succ_cons, ← cmpB_drop h h1 h2]
    simp [cmpB]
theorem lt_at {k : Nat} {a b : List Int} {x y : Int} (h : a.take k = b.take k) (hx : a[k]? = some x) (hy : b[k]? = some y) (hne : x ≠ y) : Lt a b ↔ x < y := by
  obtain ⟨h1, e1⟩ := List.getElem?_eq_some_iff.1 hx
  obtain ⟨h2, e2⟩ := List.getElem?_eq_some_iff.1 hy
  unfold Lt
  rw [cmpB_drop h (by omega) (by omega), List.drop_eq_getElem_cons h1, List.drop_eq_getElem_cons h2, e1, e2]
  simp only [cmpB]
  by_cases hl : x < y
  · simp [hl]
  · simp [hl, show y < x by omega]
theorem lt_end {k : Nat} {a b : List Int} (h : a.take k = b.take k) (h1 : k ≤ a.length) (h2 : k ≤ b.length) (h3 : k = a.length ∨ k = b.length) : Lt a b ↔ a.length < b.length := by
  unfold Lt
  rw [cmpB_drop h h1 h2]
  rcases h3 with e | e
  · rw [List.drop_of_length_le (l := a) (by omega)]
    cases hb : b.drop k with
    | nil =>
      have := congrArg List.length hb
      simp at this
      simp [cmpB]; omega
    | cons y l =>
      have := congrArg List.length hb
      simp at this
      simp [cmpB]; omega
  · rw [List.drop_of_length_le (l := b) (by omega)]
    cases ha : a.drop k with
    | nil =>
      have := congrArg List.length ha
      simp at this
      simp [cmpB]; omega
    | cons y l =>
      have := congrArg List.length ha
      simp at this
      simp [cmpB]; omega
set_option maxHeartbeats 1000000 in
set_option maxRecDepth 100000 in
theorem less_by {w : World} {u v : Value} {a b : List Int} (ha : By w u a) (hb : By w v b) (hla : a.length ≤ 1000000000) :
    Calls Try.prog 58 #[u, v] w fun e w' => e = .returned (.bool (decide (Lt a b))) ∧ Below w.heap.size w w' := by
  obtain ⟨ao, c, rfl, -⟩ := id ha.ex
  obtain ⟨bo, d, rfl, -⟩ := id hb.ex
  obtain ⟨r, hr⟩ : ∃ r, Hid (decide (Lt a b) = r) := ⟨_, rfl⟩
  obtain ⟨n, hn⟩ : ∃ n, Hid (a.length = n) := ⟨_, rfl⟩
  obtain ⟨m, hm⟩ : ∃ m, Hid (b.length = m) := ⟨_, rfl⟩
  rw [hr.out]
  rw [hn.out] at hla ha ⊢
  rw [hm.out] at hb ⊢
  have HA : Hid _ := ha
  have HB : Hid _ := hb
  clear ha hb
  go_enter Try.func58, Try.ntmps58
  go_wp2_with fail
  go_loopw [5] (fun ti wr => ∃ k : Nat, k ≤ n ∧ k ≤ m ∧ ti = .int .i64 k ∧ Hid (a.take k = b.take k) ∧ Below w.heap.size w wr) (fun ti _ => n - (intOf ti).toNat)
  case atStart => exact ⟨0, Nat.zero_le _, Nat.zero_le _, rfl, by show _ = _; simp, Below.refl _ _⟩
  case round =>
    obtain ⟨k, hk, hk2, rfl, hz, hbe⟩ := hrel
    by_cases hlt : k < n ∧ k < m
    · obtain ⟨hl1, hl2⟩ := hlt
      obtain ⟨x, hx⟩ : ∃ x, a[k]? = some x := ⟨a[k]'(by have := hn.out; omega), List.getElem?_eq_getElem _⟩
      obtain ⟨y, hy⟩ : ∃ y, b[k]? = some y := ⟨b[k]'(by have := hm.out; omega), List.getElem?_eq_getElem _⟩
      obtain ⟨p, q, rfl, c1⟩ := (HA.out.keep hbe).at hx
      obtain ⟨p', q', rfl, c2⟩ := (HB.out.keep hbe).at hy
      have hk0 : (k : Int) < n := by omega
      have hk1 : (k : Int) < m := by omega
      by_cases hd : x = y
      · subst hd
        have HY : Hid (a.take (k + 1) = b.take (k + 1)) := by
          show _ = _
          rw [List.take_add_one, List.take_add_one, hz.out, hx, hy]
        clear hx hy hz
        go_wp2_with fail
        go_quiet (fail)
        go_wp2
        go_roundw
        case rel => exact ⟨k + 1, by omega, by omega, by go_num, HY.out, below_drewK hbe _⟩
        case measure => simp [intOf]; omega
      · have HF : Hid (r = decide (x < y)) := by
          show _ = _
          rw [← hr.out]
          exact decide_eq_decide.2 (lt_at hz.out hx hy hd)
        have hd' : (x != y) = true := by rw [bne_iff_ne]; exact hd
        clear hx hy hz
        go_wp2_with fail
        go_quiet (fail)
        go_wp2_with fail
        go_quiet (fail)
        go_wp2
        go_ret
        exact ⟨by rw [HF.out]; rfl, below_drewK (below_drewK hbe _) _⟩
    · have HF : Hid (r = decide (n < m)) := by
        show _ = _
        rw [← hr.out]
        refine decide_eq_decide.2 ((lt_end hz.out (by have := hn.out; omega) (by have := hm.out; omega) (by have := hn.out; have := hm.out; omega)).trans ?_)
        have := hn.out
        have := hm.out
        omega
      by_cases hk0 : (k : Int) < n
      · have hk1 : ¬ ((k : Int) < m) := by omega
        have HL : Hid _ := hlt
        clear hlt hz
        go_wp2
        go_ret
        exact ⟨by rw [HF.out]; rfl, hbe⟩
      · have HL : Hid _ := hlt
        clear hlt hz
        go_wp2
        go_ret
        exact ⟨by rw [HF.out]; rfl, hbe⟩
end Pg
end Go.Proofs.Ytplminnejheceaa
