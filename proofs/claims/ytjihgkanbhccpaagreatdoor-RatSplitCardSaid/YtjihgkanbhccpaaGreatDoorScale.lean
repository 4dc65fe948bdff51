/- nat.scale makes z m + c of z; nat.tenTo tells a small power of ten; nat.Pow10. -/
import Derived.Test.YtjihgkanbhccpaaGreatDoorAddT
import Derived.Test.YtjihgkanbhccpaaGreatDoorDivOne
namespace Go.Proofs.YtjihgkanbhccpaaGreatDoor
open Go.RowKit Lim

/-- the slice v holds the limbs l, in memory of its own from block B on -/
def Mine (w : World) (B : Nat) (v : Value) (l : List Int) : Prop := w.ownsRow B 39 1 v l.length (l.map (Value.int .u64))

theorem Mine.open {w : World} {B : Nat} {v : Value} {l : List Int} (h : Mine w B v l) : ∃ ao c, v = .slice ao l.length c ∧ l.length ≤ c ∧ c ≤ maxLen ∧ ∃ g, (l = [] ∨ ao = some ⟨g, 0, none⟩) ∧ B ≤ g ∧ At w ao g 0 l ∧ Free w g 0 l.length := by
  obtain ⟨_, h2⟩ := h
  rcases h2 with ⟨rfl, h0⟩ | ⟨g, cap, cur, rfl, hB, hh, hle, hmx, hsz, htk⟩
  · have e : l = [] := List.eq_nil_of_length_eq_zero h0
    subst e
    exact ⟨none, 0, rfl, Nat.le_refl _, by decide, B, .inl rfl, Nat.le_refl _, ⟨.inl rfl, fun i hi => by simp at hi⟩, fun i hi => by simp at hi⟩
  · refine ⟨some ⟨g, 0, none⟩, cap, rfl, hle, hmx, g, .inr rfl, hB, ⟨.inr rfl, fun i hi => ?_⟩, fun i hi => ?_⟩
    · have e : cur.toList[i]? = some (.int .u64 (nth l i)) := by
        have h1 : (cur.toList.take (l.length * 1))[i]? = some (.int .u64 (nth l i)) := by
          rw [htk, List.getElem?_map, List.getElem?_eq_getElem hi, nth_eq hi]; rfl
        rwa [Nat.mul_one, List.getElem?_take_of_lt hi] at h1
      simp only [World.cell?, hh]
      simpa using e
    · simp [World.frozen?, hh]
theorem Mine.setCell {w : World} {B : Nat} {v : Value} {l : List Int} (h : Mine w B v l) {c g : Nat} (hv : v = .slice (some ⟨g, 0, none⟩) l.length c) {i : Nat} (hi : i < l.length) (x : Int) : Mine (w.setCell ⟨g, 0 + i, none⟩ (.int .u64 x)) B v (l.set i x) := by
  obtain ⟨_, h2⟩ := h
  refine ⟨by simp, ?_⟩
  rcases h2 with ⟨rfl, h0⟩ | ⟨g', cap, cur, rfl, hB, hh, hle, hmx, hsz, htk⟩
  · omega
  · simp only [Value.slice.injEq, Option.some.injEq, Addr.mk.injEq, and_true, true_and] at hv
    obtain ⟨rfl, rfl⟩ := hv
    right
    refine ⟨g', cap, cur.setIfInBounds i (.int .u64 x), by simp, hB, ?_, by simpa using hle, hmx, by simpa using hsz, ?_⟩
    · simp only [World.setCell, Array.getElem?_modify, if_true, hh, Nat.zero_add]
      simp
    · rw [List.length_set, Nat.mul_one] at *
      rw [Array.toList_setIfInBounds, List.map_set, ← htk, List.take_set]
theorem Mine.below {w w' : World} {B B' : Nat} {v : Value} {l : List Int} (h : Mine w B v l) (hb : Below B' w w') (hB : ∀ g, v.ownBlock = some g → g < B') : Mine w' B v l := by
  obtain ⟨h1, h2⟩ := h
  refine ⟨h1, ?_⟩
  rcases h2 with h2 | ⟨g, cap, cur, rfl, hB1, hh, hr⟩
  · exact .inl h2
  · exact .inr ⟨g, cap, cur, rfl, hB1, by rw [hb.block g (hB g rfl)]; exact hh, hr⟩
theorem Mine.new {w w' : World} {v : Value} {l : List Int} (h : Mine w' w.heap.size v l) : NewV w w' v l := by
  obtain ⟨ao, c, rfl, hc, _, g, _, hg, hat, hf⟩ := h.open
  exact ⟨ao, g, 0, c, rfl, hc, hg, hat, hf⟩

/-- scale's limbs: z m + c from place k on -/
structure ScInv (l : List Int) (m c0 : Int) (k : Nat) (l1 : List Int) (c : Int) : Prop where
  len : l1.length = l.length
  words : Words l1
  high : ∀ i, k ≤ i → nth l1 i = nth l i
  val : Lim.val (l1.take k) + 18446744073709551616 ^ k * c = Lim.val (l.take k) * m + c0
theorem ScInv.step {l l1 : List Int} {m c0 c z' c' : Int} {k : Nat} (h : ScInv l m c0 k l1 c) (hk : k < l.length) (hz0 : 0 ≤ z') (hz1 : z' < 18446744073709551616)
    (e : z' + 18446744073709551616 * c' = nth l k * m + c) : ScInv l m c0 (k + 1) (l1.set k z') c' := by
  have h1 := h.len
  refine ⟨by simp [h1], h.words.set k hz0 hz1, fun i hi => by rw [nth_set (by omega), if_neg (by omega)]; exact h.high i (by omega), ?_⟩
  have h4 := h.val
  rw [val_take_succ (by simp [h1]; omega), val_take_succ hk, List.take_set_of_le (Nat.le_refl _), nth_set (by omega), if_pos rfl, Int.pow_succ]
  have : 18446744073709551616 ^ k * (z' + 18446744073709551616 * c') = 18446744073709551616 ^ k * (nth l k * m + c) := by rw [e]
  grind

set_option maxHeartbeats 1000000 in
set_option maxRecDepth 100000 in
theorem tenTo_any (n : Nat) (w : World) (hn : n ≤ 19) : Calls Tryz.prog 149 #[.int .i64 n] w fun e w' => e = .returned (.int .u64 (10 ^ n)) ∧ w' = w := by
  go_enter Tryz.func149, Tryz.ntmps149
  go_wp2
  go_loop [3, 5] (fun tx ti => ∃ (k : Nat) (p : Int), k ≤ n ∧ ti = .int .i64 k ∧ tx = .int .u64 p ∧ Hid (p = 10 ^ k)) (fun _ ti => n - (intOf ti).toNat)
  case atStart => exact ⟨0, 1, Nat.zero_le _, rfl, rfl, rfl⟩
  case round =>
    obtain ⟨k, p, hk, rfl, rfl, hp⟩ := hrel
    by_cases hlt : k < n
    · have h1 : (1 : Int) ≤ p := by rw [hp.out]; exact Int.pow_pos (by decide)
      have h2 : p ≤ 1000000000000000000 := by
        rw [hp.out]
        have : (10 : Nat) ^ k ≤ 10 ^ 18 := Nat.pow_le_pow_right (by decide) (by omega)
        have e : ((10 ^ k : Nat) : Int) = (10 : Int) ^ k := by rw [Int.natCast_pow]; rfl
        rw [← e]; omega
      go_wp2
      go_round
      case rel => exact ⟨k + 1, p * 10, by omega, by go_num, rfl, by show _ = _; rw [Int.pow_succ, ← hp.out]⟩
      case measure => simp [intOf]; omega
    · have hkn : k = n := by omega
      subst hkn
      go_wp2
      go_ret
      exact ⟨ret1 hp.out, rfl⟩

theorem nlen_snoc {l : List Int} {c : Int} (hc : c ≠ 0) : nlen (l ++ [c]) = (l ++ [c]).length := by
  apply nlen_of (Nat.le_refl _)
  · intro i hi; exact nth_ge hi
  · intro _; rw [List.length_append, List.length_singleton, Nat.add_sub_cancel, nth_append_right (Nat.le_refl _), Nat.sub_self, nth_zero]; exact hc
theorem scale_norm {l r : List Int} {m c : Int} (wl : Words l) (wr : Words r) (hlen : r.length = l.length) (hv : val r = val l * m + c) (hm : 0 < m) (hc : 0 ≤ c) (hn : nlen l = l.length) : nlen r = r.length := by
  have h1 := nlen_le r
  by_cases h0 : l.length = 0
  · omega
  have h2 := val_ge_of_nlen wl (by omega)
  have h3 := val_lt_nlen wr
  have h4 := val_nonneg wl
  have h5 : val l * 1 ≤ val l * m := Int.mul_le_mul_of_nonneg_left (by omega) h4
  by_cases hlt : nlen r < r.length
  · have := pow_mono (show nlen r ≤ nlen l - 1 by omega)
    omega
  · omega
theorem ScInv.fin {l l1 : List Int} {m c0 c : Int} (h : ScInv l m c0 l.length l1 c) : Lim.val (l1 ++ [c]) = Lim.val l * m + c0 := by
  have h4 := h.val
  rw [List.take_of_length_le (by rw [h.len]; exact Nat.le_refl _), List.take_of_length_le (Nat.le_refl _)] at h4
  rw [val_append, val_single, h.len]; exact h4

set_option maxHeartbeats 1000000 in
set_option maxRecDepth 100000 in
theorem scale_any (B : Nat) (v : Value) (l : List Int) (m c0 : Int) (w : World) (hB : B ≤ w.heap.size) (hmine : Mine w B v l) (hbig : l.length ≤ 1099511627776) (wl : Words l) (hm0 : 0 ≤ m) (hm1 : m < 18446744073709551616) (hc0 : 0 ≤ c0) (hc1 : c0 < 18446744073709551616) :
    Calls Tryz.prog 148 #[v, .int .u64 m, .int .u64 c0] w fun e w' => ∃ v' r, e = .returned v' ∧ Mine w' B v' r ∧ Words r ∧ val r = val l * m + c0 ∧ r.length ≤ l.length + 1 ∧ (nlen l = l.length → 0 < m → nlen r = r.length) ∧ Below B w w' := by
  obtain ⟨i0, hi, hz0, hz1, hz2⟩ := info_parts info_u64
  obtain ⟨ao, cap, rfl, hcap, hmax, g, hloc, hBg, _, _⟩ := hmine.open
  have hn0 : ∃ n, n = l.length := ⟨_, rfl⟩
  obtain ⟨n, hn⟩ := hn0
  have hn1 : n ≤ l.length := by omega
  have hn2 : l.length ≤ n := by omega
  have HN0 : Hid (n = l.length) := hn
  rw [← hn] at hmine hbig hcap ⊢
  clear hn
  go_enter Tryz.func148, Tryz.ntmps148
  go_wp2
  go_loopw [2, 13] (fun tc ti wr => ∃ (k : Nat) (c : Int) (l1 : List Int), k ≤ n ∧ ti = .int .i64 k ∧ tc = .int .u64 c ∧ 0 ≤ c ∧ c < 18446744073709551616 ∧ ScInv l m c0 k l1 c ∧ Mine wr B (.slice ao n cap) l1 ∧ Below B w wr) (fun _ ti _ => n - (intOf ti).toNat)
  case atStart => exact ⟨0, c0, l, Nat.zero_le _, rfl, rfl, hc0, hc1, ⟨rfl, wl, fun _ _ => rfl, by simp [val]⟩, hmine, Below.refl _ _⟩
  case round =>
    clear hmine
    obtain ⟨k, c, l1, hk, rfl, rfl, hcc0, hcc1, hinv, hmine, hbel⟩ := hrel
    have hlen1 := hinv.len
    by_cases hlt : k < n
    · rcases hloc with e | rfl
      · subst e; simp at hn1; omega
      obtain ⟨ao', c', e', _, _, g', hloc', hBg', hat, hfr⟩ := hmine.open
      simp only [Value.slice.injEq] at e'
      obtain ⟨rfl, e1, rfl⟩ := e'
      have hg' : g' = g := by
        rcases hloc' with e | e
        · subst e; simp at e1; omega
        · simpa using e.symm
      subst hg'
      have hcz := hat.cell k (by omega)
      have hfz := hfr k (by omega)
      rw [Nat.zero_add] at hcz hfz
      rw [hinv.high k (Nat.le_refl _)] at hcz
      obtain ⟨hx0, hx1⟩ := wl.nth k
      have HI : Hid (ScInv l m c0 k l1 c) := hinv
      have HM : Hid (Mine wr B (.slice (some ⟨g', 0, none⟩) n cap) l1) := hmine
      have HB : Hid (Below B w wr) := hbel
      have HE : Hid (n = l1.length) := e1
      clear hinv hmine hbel hat hfr hloc' e1 wl
      go_wp2_with (first
        | (go_at_call 122; refine (mul64_n _ _ hx0 hx1 hm0 hm1 _).mono ?_; rintro e w' ⟨hi', lo, rfl, h1, h2, h3, h4, h5, rfl⟩)
        | simp only [add64 _ _ h3 hcc0])
      have hxm : nth l k * m ≤ 340282366920938463426481119284349108225 := by
        have := Int.mul_le_mul (show nth l k ≤ 18446744073709551615 by omega) (show m ≤ 18446744073709551615 by omega) hm0 (by decide)
        simpa using this
      have h5' := h5.out
      have e5 : (lo + c) % 18446744073709551616 + 18446744073709551616 * (hi' + (lo + c) / 18446744073709551616) = nth l k * m + c := by omega
      have HN := HM.out.setCell (c := cap) (g := g') (by rw [← HE.out]) (i := k) (by omega) ((lo + c) % 18446744073709551616)
      rw [Nat.zero_add] at HN
      go_roundw
      case rel => exact ⟨k + 1, _, _, by omega, by go_num, rfl, by omega, by omega, HI.out.step (by omega) (Int.emod_nonneg _ (by decide)) (Int.emod_lt_of_pos _ (by decide)) e5, HN, HB.out.setCell hBg' _⟩
      case measure => simp [intOf]; omega
    · have hkn : k = n := by omega
      subst hkn
      have HF : Hid (val (l1 ++ [c]) = val l * m + c0) := by rw [HN0.out] at hinv; exact hinv.fin
      have hw1 := hinv.words
      by_cases hc : c = 0
      · subst hc
        go_wp2
        go_ret
        have hv1 : val l1 = val l * m + c0 := by rw [← HF.out, val_append]; simp [val]
        refine ⟨_, l1, rfl, hmine, hw1, hv1, by omega, fun h1 h2 => scale_norm wl hw1 (by omega) hv1 h2 hc0 (by omega), hbel⟩
      · have hcb : (c != 0) = true := by rw [bne_iff_ne]; exact hc
        have hown : wr.ownsRow B 39 1 (.slice ao k cap) k (l1.map (Value.int .u64)) := by have := hmine; unfold Mine at this; rwa [hlen1, ← HN0.out] at this
        have hsz := hbel.size
        go_wp2_with (at_builtin; refine wpList_append_own _ rfl _ _ 28 rfl B 39 i0 (.int .u64 0) 1 8 under_nat hi hz0 hz1 hz2 rfl (by decide) _ _ _ rfl (hown.alloc _) ⟨wr.heap.size, 0, none⟩ 1 1 [.int .u64 c] rfl rfl ?c1 ?c2 ?c3 ?c4 ?c5 ?_)
        case c1 => exact cell_one_new _ _ _
        case c2 => intro u hu; simp at hu; subst hu; rfl
        case c3 => unfold maxLen; omega
        case c4 => omega
        case c5 => simp; omega
        intro v' w1 hown' hgrow _
        go_wp2
        go_ret
        have hM : Mine w1 B v' (l1 ++ [c]) := by
          unfold Mine
          rw [List.length_append, hlen1, ← HN0.out, List.map_append]; exact hown'
        refine ⟨_, l1 ++ [c], rfl, hM, hw1.append (Words.cons hcc0 hcc1 Words.nil), HF.out, by simp; omega, fun _ _ => nlen_snoc hc, ?_⟩
        exact (hbel.alloc (by omega) _).grown hgrow (by simp; omega) (by
          intro g1 hg1
          rcases hloc with e | rfl
          · subst e
            rcases hmine.2 with ⟨e2, _⟩ | ⟨g2, cap2, cur2, e2, hB2, _⟩
            · rw [e2] at hg1; simp [Value.ownBlock] at hg1
            · rw [e2] at hg1; simp [Value.ownBlock] at hg1; omega
          · simp [Value.ownBlock] at hg1; omega)
end Go.Proofs.YtjihgkanbhccpaaGreatDoor
