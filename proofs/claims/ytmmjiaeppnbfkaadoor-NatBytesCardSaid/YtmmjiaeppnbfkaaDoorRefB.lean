/- gleanref1.FromBytes and Bytes: the document's answers. -/
import Derived.Test.YtmmjiaeppnbfkaaDoorRefD
import Derived.Test.YtmmjiaeppnbfkaaDoorToB
namespace Go.Proofs.YtmmjiaeppnbfkaaDoor
open Go.RowKit Lim

set_option maxHeartbeats 1000000 in
set_option maxRecDepth 100000 in
theorem refFrom_no (ao : Option Addr) (n c b o : Nat) (lb : List Int) (w : World) (hl : lb.length = n) (hn : 0 < n) (ha : AtB w ao b o lb) (h0 : nth lb 0 = 0) :
    Calls Tryd.prog 38 #[.slice ao n c] w fun e w' => e = .returned (.tuple #[.slice none 0 0, .int .i64 13]) ∧ w' = w := by
  rcases ha.loc with e | rfl
  · subst e; simp at hl; omega
  have hc := ha.cell 0 (by omega)
  rw [h0, Nat.add_zero] at hc
  go_enter Tryd.func38, Tryd.ntmps38
  go_wp2
  go_ret2
  exact ⟨rfl, rfl⟩

set_option maxHeartbeats 2000000 in
set_option maxRecDepth 100000 in
theorem refFrom_yes (ao : Option Addr) (n c b o : Nat) (lb : List Int) (w : World) (hl : lb.length = n) (hbig : n ≤ 1099511627776) (ho : Octets lb) (ha : AtB w ao b o lb) (h0 : 0 < n → nth lb 0 ≠ 0) :
    Calls Tryd.prog 38 #[.slice ao n c] w fun e w' => ∃ v r, e = .returned (.tuple #[v, .int .i64 0]) ∧ NewV w w' v r ∧ IsN r (bval lb) ∧ r.length ≤ 2 * n ∧ Below w.heap.size w w' := by
  obtain ⟨m, hm⟩ : ∃ m : Nat, ((n : Int) + 7) / 8 = m := ⟨(n + 7) / 8, by omega⟩
  have hm2 : m ≤ n := by omega
  have hne : lb = [] ∨ b ≠ w.heap.size := by
    rcases ha.lt with e | e
    · exact .inl e
    · exact .inr (by omega)
  by_cases hn : 0 < n
  · rcases ha.loc with e | rfl
    · subst e; simp at hl; omega
    have hc := ha.cell 0 (by omega)
    rw [Nat.add_zero] at hc
    have hcz : (nth lb 0 == 0) = false := beq_eq_false_iff_ne.2 (h0 hn)
    have hfin : nth lb 0 ≠ 0 := h0 hn
    have HF := (show Hid _ from hfin)
    clear hfin h0
    go_enter Tryd.func38, Tryd.ntmps38
    go_wp2_with (at_make; refine wpList_makeN rfl _ _ rfl m _ _ rfl rfl (by omega) (by omega) (by omega) ?_; intro w1 hrow hbel hsz)
    have hatb := ha.keep hbel
    clear hc hcz
    go_loopw [5] (fun ti wr => ∃ (k : Nat) (lz : List Int), k ≤ n ∧ ti = .int .i64 k ∧ FbInv lb m k lz ∧ At wr (some ⟨w.heap.size, 0, none⟩) w.heap.size 0 lz ∧ Wr w.heap.size 0 m w1 wr) (fun ti _ => n - (intOf ti).toNat)
    case atStart => exact ⟨0, _, Nat.zero_le _, rfl, ⟨by simp, words_zero _, by rw [Nat.sub_zero, List.drop_length, val_zeros fun i => by simp [nth, List.getElem?_replicate]; split <;> rfl]; rfl⟩, hrow.at, Wr.refl _ _ _ _⟩
    case round =>
      obtain ⟨k, lz, hk, rfl, hinv, hat, hwr⟩ := hrel
      have hlen := hinv.len
      by_cases hlt : k < n
      · obtain ⟨i, hi⟩ : ∃ i : Nat, (k : Int) / 8 = i := ⟨k / 8, by omega⟩
        obtain ⟨j, hj⟩ : ∃ j : Nat, (k : Int) % 8 = j := ⟨k % 8, by omega⟩
        obtain ⟨h, hh⟩ : ∃ h : Nat, (n : Int) - 1 - k = h := ⟨n - 1 - k, by omega⟩
        have hi1 : (i : Int) < m := by omega
        have hh1 : (h : Int) < n := by omega
        have hj1 : j < 8 := by omega
        have hcz := hat.cell i (by omega)
        have hcb := (hatb.wr hwr hne).cell h (by omega)
        have hfr := hwr.free (hrow.free 0 m) i (by omega)
        rw [Nat.zero_add] at hcz hfr
        have hst := fb_step ho (m := m) (by omega) hinv (by omega)
        rw [show k / 8 = i from by omega, show k % 8 = j from by omega, show lb.length - 1 - k = h from by omega] at hst
        obtain ⟨hst1, hst2⟩ := hst
        have HS := (show Hid _ from hst2)
        have HA := (show Hid _ from hat)
        have HW := (show Hid _ from hwr)
        have hxx := ho.nth h
        clear hst2 hat hwr hinv hrow hatb ho
        generalize nth lz i = z at *
        generalize nth lb h = x at *
        go_wp2_with fail
        go_region
        go_wp2
        refine ⟨⟨k + 1, _, by omega, by go_num, HS.out, ?_, ?_⟩, by simp [intOf]; omega⟩
        · have := (HA.out.setCell (i := i) (by omega) (z + x * 2 ^ (8 * j))).drew
          rwa [Nat.zero_add] at this
        · exact (HW.out.setCell (by omega) (by omega) _).drew
      · have hkn : k = n := by omega
        subst hkn
        have hv := hinv.val
        rw [← hl, Nat.sub_self, List.drop_zero] at hv
        have HB := hbel.trans (hwr.below (Nat.le_refl _))
        have hbb := bval_bound ho
        have hge := bval_ge ho (fun e => by subst e; simp at hl; omega) HF.out
        have hnm : nlen lz = lz.length := by
          have h1 := nlen_le lz
          by_cases c : nlen lz < lz.length
          · have h2 := val_lt_nlen hinv.words
            have h3 := pow_mono (show nlen lz ≤ m - 1 by omega)
            have h4 : (18446744073709551616 : Int) ^ (m - 1) ≤ 256 ^ (lb.length - 1) := by
              rw [show (18446744073709551616 : Int) = 256 ^ 8 from by decide, ← Int.pow_mul]
              exact pow256_mono (by omega)
            rw [hv] at h2
            omega
          · omega
        have HI : IsN lz (bval lb) := ⟨hinv.words, hnm, hv⟩
        clear hinv hrow hwr hbel hatb hv hbb hge hnm
        have hsz9 := HB.size
        have tN := refNorm_any (some ⟨w.heap.size, 0, none⟩) m m w.heap.size 0 lz wr hlen (by omega) HI.1 hat
        rw [HI.2.2] at tN
        go_wp2_with fail
        refine tN.mono ?_
        rintro e w7 ⟨u, r, rfl, hn7, hI7, hl7, hb7⟩
        go_wp2
        go_ret2
        exact ⟨u, r, rfl, hn7.mono hsz9, hI7, by omega, HB.trans (hb7.mono hsz9)⟩
  · have hn0 : n = 0 := by omega
    subst hn0
    have e0 : lb = [] := List.eq_nil_of_length_eq_zero hl
    subst e0
    have hm0 : m = 0 := by omega
    subst hm0
    clear hm ha hne
    go_enter Tryd.func38, Tryd.ntmps38
    go_wp2_with (at_make; refine wpList_makeN rfl _ _ rfl 0 _ _ rfl rfl (by omega) (by omega) (by omega) ?_; intro w1 hrow hbel hsz)
    refine wp_loop_rounds 1 ?_
    rw [rounds_succ]
    have hsz9 := hbel.size
    have tN := refNorm_any (some ⟨w.heap.size, 0, none⟩) 0 0 w.heap.size 0 [] w1 rfl (by decide) Words.nil hrow.at
    go_wp2_with fail
    refine tN.mono ?_
    rintro e w7 ⟨u, r, rfl, hn7, hI7, hl7, hb7⟩
    go_wp2
    go_ret2
    exact ⟨u, r, rfl, hn7.mono hsz9, hI7, by omega, hbel.trans (hb7.mono hsz9)⟩

set_option maxHeartbeats 2000000 in
set_option maxRecDepth 100000 in
theorem copyBytes_any (ao : Option Addr) (n c b o : Nat) (l : List Int) (w : World) (hl : l.length = n) (hbig : n ≤ 1099511627776) (hnil : ao = none → c = 0) (ha : AtB w ao b o l) :
    Calls Tryd.prog 36 #[.slice ao n c] w fun e w' => ∃ v, e = .returned v ∧ MineB w' w.heap.size v l ∧ Below w.heap.size w w' := by
  obtain ⟨i0, hi, hz0, hz1, hz2⟩ := info_parts info_u8
  have hown : w.ownsRow w.heap.size 5 1 (.slice none 0 0) 0 [] := World.ownsRow_nil _ _ _ _
  have hge := own_ge hown
  cases ao with
  | none =>
    have e0 : l = [] := by rcases ha.loc with e | e
                           · exact e
                           · simp at e
    subst e0
    have hn0 : n = 0 := hl.symm
    subst hn0
    have hc0 := hnil rfl
    subst hc0
    go_enter Tryd.func36, Tryd.ntmps36
    go_wp2_with (at_builtin; refine wpList_append_own_none rfl _ _ 50 rfl w.heap.size 5 i0 1 under_bytes hi _ _ _ rfl hown rfl ?_)
    go_ret
    exact ⟨_, rfl, hown, Below.refl _ _⟩
  | some x =>
    have hsrc : ∀ j u, (l.map (Value.int .u8))[j]? = some u → w.cell? (x.add j) = some u := by
      intro j u hu
      rw [List.getElem?_map] at hu
      have hj : j < l.length := by
        rcases Nat.lt_or_ge j l.length with hj | hj
        · exact hj
        · rw [List.getElem?_eq_none hj] at hu; simp at hu
      rw [List.getElem?_eq_getElem hj] at hu
      simp at hu
      subst hu
      have hx : x = ⟨b, o, none⟩ := by
        rcases ha.loc with e | e
        · subst e; simp at hj
        · simpa using e
      subst hx
      have := ha.cell j hj
      rw [nth_eq hj] at this
      rw [← this]
      by_cases hj0 : j = 0
      · subst hj0; exact congrArg w.cell? (by simp [Addr.add])
      · exact congrArg w.cell? (by simp [Addr.add, hj0])
    go_enter Tryd.func36, Tryd.ntmps36
    go_wp2_with (at_builtin; refine wpList_append_own _ rfl _ _ 50 rfl w.heap.size 5 i0 (.int .u8 0) 1 1 under_bytes hi hz0 hz1 hz2 rfl (by decide) _ _ _ rfl hown x n c (l.map (Value.int .u8)) rfl (by simp [hl]) ?c1 ?c2 ?c3 ?c4 ?c5 ?_)
    case c1 => exact hsrc
    case c2 => exact ints_oneCell _ _
    case c3 => unfold maxLen; omega
    case c4 => omega
    case c5 => exact Nat.le_refl _
    intro v' w1 hown' hgrow _
    go_wp2
    go_ret
    refine ⟨v', rfl, ?_, (Below.refl _ _).grown hgrow (Nat.le_refl _) hge⟩
    unfold MineB
    rw [hl]
    simpa using hown'
end Go.Proofs.YtmmjiaeppnbfkaaDoor
