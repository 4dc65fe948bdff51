/- nat.Pow10 tells a power of ten. -/
import Derived.Test.YtjihgkanbhccpaaGreatDoorScale
namespace Go.Proofs.YtjihgkanbhccpaaGreatDoor
open Go.RowKit Lim

theorem Mine.cell {w : World} {B g n c : Nat} {l : List Int} (h : Mine w B (.slice (some ⟨g, 0, none⟩) n c) l) {i : Nat} (hi : i < l.length) : w.cell? ⟨g, i, none⟩ = some (.int .u64 (nth l i)) ∧ w.frozen? ⟨g, i, none⟩ = false := by
  obtain ⟨ao, c', e, _, _, g', hloc, _, hat, hfr⟩ := h.open
  simp only [Value.slice.injEq] at e
  obtain ⟨rfl, _, _⟩ := e
  have hg : g' = g := by
    rcases hloc with e | e
    · subst e; simp at hi
    · simpa using e.symm
  subst hg
  have h1 := hat.cell i hi
  have h2 := hfr i hi
  rw [Nat.zero_add] at h1 h2
  exact ⟨h1, h2⟩
theorem make_mine {w : World} {ops : Array Oper} {rest : List Oper} {o : Oper} {a : Act} {Q : Exit → Act → World → Prop}
    (hg : o.guard = none) (l c : Operand) (hop : o.op = Op.makeSlice 28 l c) (n m : Nat) (L C : Int) (hl : a.eval l = .int .i64 L) (hc : a.eval c = .int .i64 C) (hL : L = (n : Int)) (hC : C = (m : Int)) (hnm : n ≤ m) (hn : m ≤ 17592186044416)
    (hK : ∀ w', Mine w' w.heap.size (.slice (some ⟨w.heap.size, 0, none⟩) n m) (List.replicate n 0) → Below w.heap.size w w' → w'.heap.size = w.heap.size + 1 → wpList Tryz.prog ops Q rest (a.put o.dst (.slice (some ⟨w.heap.size, 0, none⟩) n m)) w') :
    wpList Tryz.prog ops Q (o :: rest) a w := by
  obtain ⟨i, hi, hz, hs, hb⟩ := info_parts info_u64
  refine wpList_plain hg fun K hK' => ?_
  have hrun := run_make (P := Tryz.prog) w 28 39 i (.int .u64 0) under_nat hi hz .i64 .i64 (n : Int) (m : Int) (by omega) (by omega) (by rw [hb]; omega) (by omega)
  subst hL
  subst hC
  unfold Oper.wp
  simp only [execOp, hop, hl, hc]
  simp [hrun, Result.andThen]
  refine hK' _ _ (hK _ ⟨by simp, .inr ⟨w.heap.size, m, ((List.replicate m 0).map (Value.int .u64)).toArray, by simp, Nat.le_refl _, ?_, by simpa using hnm, by unfold maxLen; omega, by simp, ?_⟩⟩ ?_ ?_)
  · show (w.heap.push _)[w.heap.size]? = _
    rw [Array.getElem?_push_size, hs, Nat.mul_one, made_u64]
  · simp; omega
  · exact (Below.refl _ _).alloc (Nat.le_refl _) _
  · simp

set_option maxHeartbeats 1000000 in
set_option maxRecDepth 100000 in
theorem pow10_any (n : Nat) (w : World) (hn : n ≤ 4096) :
    Calls Tryz.prog 168 #[.int .i64 n] w fun e w' => ∃ v r, e = .returned (.tuple #[v, .int .i64 0]) ∧ NewV w w' v r ∧ IsN r (10 ^ n) ∧ r.length ≤ n + 2 ∧ Below w.heap.size w w' := by
  obtain ⟨q, hq⟩ : ∃ q : Nat, q = n / 19 := ⟨_, rfl⟩
  obtain ⟨t, ht⟩ : ∃ t : Nat, t = n % 19 := ⟨_, rfl⟩
  have hqi : (n : Int) / 19 = q := by omega
  have hti : (n : Int) % 19 = t := by omega
  have ht1 : t < 19 := by omega
  have HN : Hid (n = 19 * q + t) := by show _ = _; omega
  have hqn : q ≤ n := by omega
  clear hq ht
  have hb0 : decide ((n : Int) < 0) = false := by simp
  have hb1 : decide (4096 < (n : Int)) = false := by simp; omega
  go_enter Tryz.func168, Tryz.ntmps168
  go_wp2_with (at_make; refine make_mine rfl _ _ rfl 1 (q + 1) _ _ rfl rfl rfl (by omega) (by omega) (by omega) ?_; intro w1 hmine hbel hsz; have hcf := hmine.cell (i := 0) (by simp); obtain ⟨hc0, hf0⟩ := hcf)
  have hm1 := hmine.setCell (c := q + 1) (g := w.heap.size) rfl (i := 0) (by simp) 1
  rw [show (List.replicate 1 (0 : Int)).set 0 1 = [1] from rfl, Nat.add_zero] at hm1
  have hb2 := hbel.setCell (p := ⟨w.heap.size, 0, none⟩) (Nat.le_refl _) (.int .u64 1)
  clear hmine hbel hc0 hf0
  go_loopw [4, 19] (fun tz ti wr => ∃ (k : Nat) (l : List Int), k ≤ q ∧ ti = .int .i64 k ∧ Mine wr w.heap.size tz l ∧ Words l ∧ Hid (nlen l = l.length) ∧ Hid (val l = 10 ^ (19 * k)) ∧ l.length ≤ k + 1 ∧ Below w.heap.size w wr) (fun _ ti _ => q - (intOf ti).toNat)
  case atStart => exact ⟨0, [1], Nat.zero_le _, rfl, hm1, Words.cons (by decide) (by decide) Words.nil, rfl, rfl, by simp, hb2⟩
  case round =>
    clear hm1 hb2 hsz
    obtain ⟨k, l, hk, rfl, hm, wl, hnl, hv, hlen, hbe⟩ := hrel
    have hsz := hbe.size
    by_cases hlt : k < q
    · go_wp2_with (go_at_call 148; refine (scale_any w.heap.size _ l 10000000000000000000 0 _ hsz hm (by omega) wl (by decide) (by decide) (by decide) (by decide)).mono ?_; rintro e w5 ⟨v', r, rfl, hm', wr', hv', hlen', hn', hbe'⟩)
      have e1 := hv.out
      have e2 := hn' hnl.out (by decide)
      go_roundw
      case rel => exact ⟨k + 1, r, by omega, by go_num, hm', wr', e2, by show _ = _; rw [hv', e1, Int.add_zero, show 19 * (k + 1) = 19 * k + 19 from by omega, Int.pow_add]; rfl, by omega, hbe.trans hbe'⟩
      case measure => simp [intOf]; omega
    · have hkq : k = q := by omega
      have HK : Hid (k = q) := hkq
      clear hkq
      have hten : (0 : Int) < 10 ^ t := Int.pow_pos (by decide)
      have hten1 : (10 : Int) ^ t < 18446744073709551616 := by
        have : (10 : Nat) ^ t ≤ 10 ^ 18 := Nat.pow_le_pow_right (by decide) (by omega)
        have e : ((10 ^ t : Nat) : Int) = (10 : Int) ^ t := by rw [Int.natCast_pow]; rfl
        have e2 : (10 : Nat) ^ 18 = 1000000000000000000 := by decide
        omega
      have tT := tenTo_any t wr (by omega)
      generalize hp : (10 : Int) ^ t = p at *
      have HP : Hid ((10 : Int) ^ t = p) := hp
      clear hp
      go_wp2_with fail
      refine tT.mono ?_
      rintro e w4 ⟨rfl, rfl⟩
      go_wp2_with fail
      refine (scale_any w.heap.size _ l p 0 _ hsz hm (by omega) wl (by omega) hten1 (by decide) (by decide)).mono ?_
      rintro e w5 ⟨v', r, rfl, hm', wr', hv', hlen', hn', hbe'⟩
      have e1 := hv.out
      have e2 := hn' hnl.out hten
      have e3 : val r = 10 ^ n := by rw [hv', e1, Int.add_zero, HN.out, Int.pow_add, HP.out, HK.out]
      clear hv'
      go_wp2
      go_ret2
      exact ⟨v', r, rfl, hm'.new, ⟨wr', e2, e3⟩, by omega, hbe.trans hbe'⟩
end Go.Proofs.YtjihgkanbhccpaaGreatDoor
