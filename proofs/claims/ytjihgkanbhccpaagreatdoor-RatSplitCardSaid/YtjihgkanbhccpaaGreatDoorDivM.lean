/- The mathematics of DivMod's long case. -/
import Derived.Test.YtjihgkanbhccpaaGreatDoorDivLong
import Derived.Test.YtjihgkanbhccpaaGreatDoorDivOne
namespace Go.Proofs.YtjihgkanbhccpaaGreatDoor
open Go.RowKit Lim

theorem top1 {l : List Int} (wl : Words l) {n : Nat} (hn : l.length = n + 1) : nth l n * 18446744073709551616 ^ n ≤ val l ∧ val l < (nth l n + 1) * 18446744073709551616 ^ n := by
  have e1 := val_split l n (by omega)
  have h0 := val_nonneg (wl.take n)
  have h1 := val_lt (wl.take n)
  rw [List.length_take, Nat.min_eq_left (by omega)] at h1
  rw [val_drop (by omega), List.drop_of_length_le (show l.length ≤ n + 1 by omega)] at e1
  have e2 : (18446744073709551616 : Int) ^ n * (nth l n + 18446744073709551616 * val []) = nth l n * 18446744073709551616 ^ n := by
    rw [show val [] = 0 from rfl]; grind
  rw [e2] at e1
  rw [Int.add_mul (nth l n) 1]
  omega
theorem le_of_mul_lt {a b p : Int} (hp : 0 < p) (h : a * p < b * p) : a < b := Int.lt_of_mul_lt_mul_right h (Int.le_of_lt hp)
theorem raised_top {L lv : List Int} {k s : Nat} (wL : Words L) (hL : L.length = k + 2) (wv : Words lv) (hv : lv.length = k + 3) (hs : s ≤ 63) (e : val lv = val L * 2 ^ s)
    (b0 : 9223372036854775808 ≤ nth L (k + 1) * 2 ^ s) (b1 : nth L (k + 1) * 2 ^ s < 18446744073709551616) : nlen lv = k + 2 ∧ 9223372036854775808 ≤ nth lv (k + 1) := by
  obtain ⟨t1, t2⟩ := top1 (n := k + 1) wL hL
  obtain ⟨u1, u2⟩ := top1 (n := k + 2) wv hv
  have hP : (0 : Int) < 2 ^ s := Int.pow_pos (by decide)
  have hB := pow_pos (k + 1)
  have hC := pow_pos (k + 2)
  have c1 : (nth L (k + 1) + 1) * 2 ^ s ≤ 18446744073709551616 := by
    have hd : (18446744073709551616 : Int) = 2 ^ (64 - s) * 2 ^ s := by rw [← Int.pow_add, show 64 - s + s = 64 by omega]; rfl
    rw [hd] at b1 ⊢
    have := le_of_mul_lt hP b1
    exact Int.mul_le_mul_of_nonneg_right (by omega) (Int.le_of_lt hP)
  have c2 : val lv < 1 * 18446744073709551616 ^ (k + 2) := by
    have k1 : val L * 2 ^ s < (nth L (k + 1) + 1) * 18446744073709551616 ^ (k + 1) * 2 ^ s := Int.mul_lt_mul_of_pos_right t2 hP
    have k2 : (nth L (k + 1) + 1) * 2 ^ s * 18446744073709551616 ^ (k + 1) ≤ 18446744073709551616 * 18446744073709551616 ^ (k + 1) := Int.mul_le_mul_of_nonneg_right c1 (Int.le_of_lt hB)
    rw [Int.mul_right_comm] at k1
    rw [Int.pow_succ _ (k + 1), Int.mul_comm _ 18446744073709551616]
    omega
  have c3 : nth lv (k + 2) < 1 := le_of_mul_lt hC (by omega)
  have hz : nth lv (k + 2) = 0 := by have := wv.nth (k + 2); omega
  have e1 := val_split lv (k + 2) (by omega)
  rw [val_drop (by omega), List.drop_of_length_le (show lv.length ≤ k + 2 + 1 by omega), hz, show val [] = 0 from rfl] at e1
  obtain ⟨v1, v2⟩ := top1 (n := k + 1) (wv.take (k + 2)) (by simp; omega)
  rw [nth_take (by omega)] at v1 v2
  have c4 : 9223372036854775808 * 18446744073709551616 ^ (k + 1) ≤ val lv := by
    have k1 : nth L (k + 1) * 18446744073709551616 ^ (k + 1) * 2 ^ s ≤ val L * 2 ^ s := Int.mul_le_mul_of_nonneg_right t1 (Int.le_of_lt hP)
    have k2 : 9223372036854775808 * 18446744073709551616 ^ (k + 1) ≤ nth L (k + 1) * 2 ^ s * 18446744073709551616 ^ (k + 1) := Int.mul_le_mul_of_nonneg_right b0 (Int.le_of_lt hB)
    rw [Int.mul_right_comm] at k1
    omega
  have c5 : 9223372036854775808 < nth lv (k + 1) + 1 := le_of_mul_lt hB (by omega)
  refine ⟨nlen_of (by omega) ?_ ?_, by omega⟩
  · intro i hi
    by_cases hi2 : i = k + 2
    · subst hi2; exact hz
    · simp [nth, List.getElem?_eq_none (show lv.length ≤ i by omega)]
  · intro _
    rw [show k + 2 - 1 = k + 1 from rfl]; omega
theorem room_ok {l L : List Int} {N k s : Nat} (wl : Words l) (hl : l.length = N) (wL : Words L) (hL : L.length = k + 2) (h1 : 1 ≤ nth L (k + 1)) (hN : k + 2 ≤ N) :
    val l * 2 ^ s < val L * 2 ^ s * 18446744073709551616 ^ (N + 1 - (k + 2)) := by
  obtain ⟨t1, t2⟩ := top1 (n := k + 1) wL hL
  have hP : (0 : Int) < 2 ^ s := Int.pow_pos (by decide)
  have hB := pow_pos (k + 1)
  have hD := pow_pos (N + 1 - (k + 2))
  have h2 := val_lt wl
  rw [hl] at h2
  have k1 : 1 * 18446744073709551616 ^ (k + 1) ≤ nth L (k + 1) * 18446744073709551616 ^ (k + 1) := Int.mul_le_mul_of_nonneg_right h1 (Int.le_of_lt hB)
  have k2 : 18446744073709551616 ^ (k + 1) * 18446744073709551616 ^ (N + 1 - (k + 2)) ≤ val L * 18446744073709551616 ^ (N + 1 - (k + 2)) := Int.mul_le_mul_of_nonneg_right (by omega) (Int.le_of_lt hD)
  rw [← Int.pow_add, show k + 1 + (N + 1 - (k + 2)) = N by omega] at k2
  rw [Int.mul_right_comm]
  exact Int.mul_lt_mul_of_pos_right (by omega) hP
theorem div_back {x V Q R P : Int} (hP : 0 < P) (hV : 0 < V) (e : x * P = Q * (V * P) + R) (r0 : 0 ≤ R) (r1 : R < V * P) : Q = x / V ∧ R / P = x % V := by
  have hR : R = (x - Q * V) * P := by rw [Int.sub_mul, e, Int.mul_assoc]; omega
  have hd : R / P = x - Q * V := by rw [hR, Int.mul_ediv_cancel _ (by omega)]
  have h0 : 0 ≤ x - Q * V := by rw [← hd]; exact Int.ediv_nonneg r0 (Int.le_of_lt hP)
  have h1 : x - Q * V < V := le_of_mul_lt hP (by rw [← hR]; exact r1)
  have hh := (Int.ediv_emod_unique (a := x) (b := V) (r := x - Q * V) (q := Q) hV).2 ⟨by rw [Int.mul_comm V]; omega, h0, h1⟩
  exact ⟨hh.1.symm, by rw [hd]; exact hh.2.symm⟩

set_option maxHeartbeats 1000000 in
set_option maxRecDepth 100000 in
theorem div_long (ao : Option Addr) (n c b o : Nat) (ao' : Option Addr) (n' c' b' o' : Nat) (l l' : List Int) (w : World) (hl : l.length = n) (hl' : l'.length = n') (hc : n ≤ c) (hc' : n' ≤ c') (hbig : n ≤ 1099511627776) (hbig' : n' ≤ 1099511627776)
    (wl : Words l) (wl' : Words l') (ha : At w ao b o l) (ha' : At w ao' b' o' l') (hge : val l' ≤ val l) (h2 : 2 ≤ nlen l') :
    Calls Tryz.prog 110 #[.slice ao n c, .slice ao' n' c'] w fun e w' => DivPost w w' e (val l) (val l') n n' := by
  have h0 := val_nonneg wl
  have hn := nlen_le l
  have hn' := nlen_le l'
  have hNN : nlen l' ≤ nlen l := by
    by_cases c : nlen l < nlen l'
    · have := val_lt_of_nlen_lt wl wl' c; omega
    · omega
  have t1 := trim_any ao' n' c' l' w hl' hc' (by omega) ha'.cells
  have hs' := ha'.sub (nlen l')
  rw [show l'.take (nlen l') = norm l' from rfl] at hs'
  have t2 := cmp_any ao n c b o ao' (nlen l') (nlen l') b' o' l (norm l') w hl (norm_length l') hc (Nat.le_refl _) (by omega) (by omega) wl wl'.norm ha hs'
  rw [val_norm] at t2
  have hs0 : 0 ≤ sgn (val l) (val l') := by unfold sgn; split <;> (try split) <;> omega
  have hnl' := norm_length l'
  have hw' := wl'.norm
  have hv' := val_norm l'
  have htop : nth (norm l') (nlen l' - 1) ≠ 0 := by rw [norm_nth]; exact nlen_last (by omega)
  generalize norm l' = L' at *
  generalize hN' : nlen l' = N' at *
  obtain ⟨m, hm⟩ : ∃ m, N' = m + 1 := ⟨N' - 1, by omega⟩
  rw [show N' - 1 = m by omega] at htop
  have hmi : (N' : Int) - 1 = m := by omega
  have hmN : m < N' := by omega
  have hmN' : (m : Int) < N' := by omega
  have hty := hw'.nth m
  rcases hs'.loc with e | rfl
  · subst e; simp at hnl'; omega
  generalize sgn (val l) (val l') = sg at *
  have H1 := (show Hid _ from And.intro hv' (And.intro hm (And.intro hnl' (And.intro hge (And.intro hl hN')))))
  clear hv' hm hnl' hN'
  go_enter Tryz.func110, Tryz.ntmps110
  go_wp2_with fail
  refine t1.mono ?_
  rintro e w1 ⟨rfl, rfl⟩
  go_wp2_with fail
  refine t2.mono ?_
  rintro e w2 ⟨rfl, hb2⟩
  have hcy := (hs'.keep hb2).cell m (by rw [H1.out.2.2.1]; exact hmN)
  clear t1 t2
  go_wp2_with fail
  refine (clz_n (nth L' m) w2 (by omega) hty.2).mono ?_
  rintro e w3 ⟨s, rfl, hs, HS, rfl⟩
  have ta := trim_any ao n c l w3 hl hc (by omega) (ha.keep hb2).cells
  have hsa := (ha.keep hb2).sub (nlen l)
  rw [show l.take (nlen l) = norm l from rfl] at hsa
  have hnl := norm_length l
  have hwn := wl.norm
  have HV := (show Hid _ from val_norm l)
  rw [hl] at hn
  generalize norm l = L at *
  generalize nlen l = N at *
  clear hcy
  go_wp2_with fail
  refine ta.mono ?_
  rintro e w4 ⟨rfl, rfl⟩
  clear ta
  go_wp2_with fail
  refine (raise_any ao N N b o s L w4 hnl (Nat.le_refl _) (by omega) hs hwn hsa).mono ?_
  rintro e w5 ⟨lu, rfl, hlu, hwu, hatu, hfu, hszu, hvu, hbu⟩
  have hs5 := (hs'.keep hb2).keep hbu
  have HU := (show Hid _ from And.intro hlu (And.intro hvu hnl))
  clear hlu hvu hnl
  go_wp2_with fail
  refine (raise_any (some ⟨b', o', none⟩) N' N' b' o' s L' w5 H1.out.2.2.1 (Nat.le_refl _) (by omega) hs hw' hs5).mono ?_
  rintro e w6 ⟨lv, rfl, hlv, hwv, hatv, hfv, hszv, hvv, hbv⟩
  obtain ⟨k, hk⟩ : ∃ k, k + 2 = N' := ⟨N' - 2, by omega⟩
  obtain ⟨q0, hq0⟩ : ∃ q0, q0 + (k + 2) = N + 1 := ⟨N + 1 - (k + 2), by omega⟩
  obtain ⟨hv', hm, hnl', hge', hl2, hN'⟩ := H1.out
  have hmk : m = k + 1 := by omega
  have hrt := raised_top (k := k) hw' (by omega) hwv (by omega) hs hvv (by rw [← hmk]; exact HS.out.1) (by rw [← hmk]; exact HS.out.2)
  have hro := room_ok (s := s) (N := N) (k := k) (l := L) (L := L') hwn HU.out.2.2 hw' (by omega) (by rw [← hmk]; omega) (by omega)
  rw [← HU.out.2.1, ← hvv, show N + 1 - (k + 2) = q0 by omega] at hro
  have tv := trim_any (some ⟨w5.heap.size, 0, none⟩) (N' + 1) (N' + 1) lv w6 hlv (Nat.le_refl _) (by omega) hatv.cells
  rw [hrt.1, hk] at tv
  have hsv := hatv.sub (nlen lv)
  rw [show lv.take (nlen lv) = norm lv from rfl] at hsv
  have hnlv := norm_length lv
  rw [hrt.1] at hnlv
  have hdl := divideLong_any w4.heap.size 0 (N + 1) (some ⟨w5.heap.size, 0, none⟩) k q0 N' w5.heap.size 0 lu (norm lv) w6 (by rw [hq0]; exact HU.out.1) hnlv (by omega) (by omega) (by omega) (by omega) hwu hwv.norm (hatu.keep hbv) (by rw [hq0]; exact Free.below hbv hfu hszu) hsv (by omega) (by rw [norm_nth]; exact hrt.2) (by rw [val_norm]; exact hro)
  rw [hq0, hk, val_norm] at hdl
  have HK := (show Hid _ from And.intro hk (And.intro hq0 (And.intro hvv hmk)))
  have hq0n : q0 ≤ N := by omega
  clear hv' hm hnl' hN' hk hq0 hmk hrt hro hnlv hvv hl2
  go_wp2_with fail
  refine tv.mono ?_
  rintro e w7 ⟨rfl, rfl⟩
  clear tv
  go_wp2_with fail
  refine hdl.mono ?_
  rintro e w8 ⟨lq, lr, rfl, hdi, hatq, hfq, hatr, hfr, hbd⟩
  clear hdl
  have hlr : lr.length = N + 1 := by rw [hdi.lenu]; exact HK.out.2.1
  have HD := (show Hid _ from hdi)
  have hwr' := hdi.wu
  clear hdi
  go_wp2_with fail
  refine (lower_any (some ⟨w4.heap.size, 0, none⟩) w4.heap.size 0 (N + 1) (N + 1) s lr w8 hlr (by omega) (Nat.le_refl _) hs hwr' hatr hfr).mono ?_
  rintro e w9 ⟨rfl, lz, hlz, hwz, hatz, hwrz, hvz⟩
  have hq9 := hatq.wr hwrz (.inr (by omega))
  have hfq9 := hwrz.free hfq
  have hfz9 := hwrz.free hfr
  have tq := trim_any (some ⟨w7.heap.size, 0, none⟩) q0 q0 lq w9 HD.out.lenq (Nat.le_refl _) (by omega) hq9.cells
  have tr := trim_any (some ⟨w4.heap.size, 0, none⟩) (N + 1) (N + 1) lz w9 hlz (Nat.le_refl _) (by omega) hatz.cells
  have hz1 := nlen_le lz
  have hz2 := nlen_le lq
  rw [HD.out.lenq] at hz2
  rw [hlz] at hz1
  have HX := (show Hid _ from And.intro hlr (And.intro hlz hvz))
  clear hlr hlz hvz
  go_wp2_with fail
  refine tq.mono ?_
  rintro e w10 ⟨rfl, rfl⟩
  go_wp2_with fail
  refine tr.mono ?_
  rintro e w11 ⟨rfl, rfl⟩
  clear tq tr
  go_wp2
  go_ret3
  have hsq := hq9.sub (nlen lq)
  have hsz := hatz.sub (nlen lz)
  have hsz2 := hb2.size
  have hsz5 := hbu.size
  have hsz7 := hbv.size
  have HB : Below w1.heap.size w1 w11 := (((hb2.trans (hbu.mono hsz2)).trans (hbv.mono (by omega))).trans (hbd.mono hsz2)).trans (hwrz.below hsz2)
  obtain ⟨hv', hm, hnl', hge', hl2, hN'⟩ := H1.out
  obtain ⟨hlr, hlz, hvz⟩ := HX.out
  have he := HD.out.eq
  have hlt := HD.out.lt
  rw [HU.out.2.1, HV.out, HK.out.2.2.1, hv', Int.pow_zero, Int.one_mul, List.drop_zero] at he
  rw [HK.out.2.2.1, hv', Int.pow_zero, Int.mul_one] at hlt
  have hV : 0 < val l' := by
    have : val l' ≠ 0 := fun e => by have := (nlen_eq_zero_iff_val wl').2 e; omega
    have := val_nonneg wl'
    omega
  have hdb := div_back (pow2_bounds s hs).1 hV he (val_nonneg hwr') hlt
  have i1 := isN_norm HD.out.wq
  have i2 := isN_norm hwz
  rw [hdb.1] at i1
  rw [hvz, hdb.2] at i2
  exact ⟨_, _, norm lq, norm lz, rfl, NewV.of (norm_length lq).symm (Nat.le_refl _) (by omega) hsq (fun i hi => hfq9 i (by omega)), NewV.of (norm_length lz).symm (Nat.le_refl _) hsz2 hsz (fun i hi => hfz9 i (by omega)), i1, i2, by rw [norm_length]; omega, by rw [norm_length]; omega, HB⟩

/-- DivMod, the divisor not zero -/
theorem div_any (ao : Option Addr) (n c b o : Nat) (ao' : Option Addr) (n' c' b' o' : Nat) (l l' : List Int) (w : World) (hl : l.length = n) (hl' : l'.length = n') (hc : n ≤ c) (hc' : n' ≤ c') (hbig : n ≤ 1099511627776) (hbig' : n' ≤ 1099511627776)
    (wl : Words l) (wl' : Words l') (ha : At w ao b o l) (ha' : At w ao' b' o' l') (hne : val l' ≠ 0) :
    Calls Tryz.prog 110 #[.slice ao n c, .slice ao' n' c'] w fun e w' => DivPost w w' e (val l) (val l') n n' := by
  by_cases h1 : val l < val l'
  · exact div_lt ao n c b o ao' n' c' b' o' l l' w hl hl' hc hc' hbig hbig' wl wl' ha ha' h1
  · have h0 : nlen l' ≠ 0 := fun e => hne ((nlen_eq_zero_iff_val wl').1 e)
    by_cases h2 : nlen l' = 1
    · exact div_one ao n c b o ao' n' c' b' o' l l' w hl hl' hc hc' hbig hbig' wl wl' ha ha' (by omega) h2
    · exact div_long ao n c b o ao' n' c' b' o' l l' w hl hl' hc hc' hbig hbig' wl wl' ha ha' (by omega) (by omega)

set_option maxHeartbeats 1000000 in
set_option maxRecDepth 100000 in
theorem muldiv_any (ao : Option Addr) (n c b o : Nat) (ao' : Option Addr) (n' c' b' o' : Nat) (ad : Option Addr) (nd cd bd od : Nat) (l l' ld : List Int) (w : World) (hl : l.length = n) (hl' : l'.length = n') (hld : ld.length = nd) (hc : n ≤ c) (hc' : n' ≤ c') (hcd : nd ≤ cd) (hbig : n ≤ 274877906944) (hbig' : n' ≤ 274877906944) (hbigd : nd ≤ 274877906944)
    (wl : Words l) (wl' : Words l') (wd : Words ld) (ha : At w ao b o l) (ha' : At w ao' b' o' l') (had : At w ad bd od ld) (hne : val ld ≠ 0) :
    Calls Tryz.prog 129 #[.slice ao n c, .slice ao' n' c', .slice ad nd cd] w fun e w' => DivPost w w' e (val l * val l') (val ld) (n + n') nd := by
  go_enter Tryz.func129, Tryz.ntmps129
  go_wp2_with fail
  refine (mul_any ao n c b o ao' n' c' b' o' l l' w hl hl' hc hc' (by omega) (by omega) wl wl' ha ha').mono ?_
  rintro e w1 ⟨v, r, rfl, hnew, hI, hlen, hb1⟩
  obtain ⟨ar, br, or', cr, rfl, hrc, hbr, hatr, _⟩ := hnew.is
  have had1 := had.keep hb1
  have hsz := hb1.size
  have t2 := div_any ar r.length cr br or' ad nd cd bd od r ld w1 rfl hld hrc hcd (by omega) (by omega) hI.1 wd hatr had1 hne
  rw [hI.2.2] at t2
  go_wp2_with fail
  refine t2.mono ?_
  rintro e w2 ⟨q, u, rq, ru, rfl, hq, hu, hIq, hIu, hlq, hlu, hb2⟩
  go_wp2
  go_ret3
  exact ⟨q, u, rq, ru, rfl, hq.mono hsz, hu.mono hsz, hIq, hIu, by omega, by omega, hb1.trans (hb2.mono hsz)⟩
end Go.Proofs.YtjihgkanbhccpaaGreatDoor
