/- nat.Parse reads decimal digits. -/
import Derived.Test.YtjihgkanbhccpaaGreatDoorDigits
import Derived.Test.YtjihgkanbhccpaaGreatDoorPow
import Derived.Deep.RegionWith
namespace Go.Proofs.YtjihgkanbhccpaaGreatDoor
open Go.RowKit Lim

theorem ext_data (s : ByteArray) (a b : Nat) : (s.extract a b).data.toList = (s.data.toList.drop a).take (b - a) := by
  simp [ByteArray.data_extract, List.extract_eq_take_drop]

theorem Mine.drewM {w : World} {B : Nat} {v : Value} {l : List Int} (h : Mine w B v l) : Mine w.drew B v l := h

set_option maxHeartbeats 1000000 in
set_option maxRecDepth 100000 in
theorem parse_no (s : ByteArray) (w : World) (hs : s.size ≤ 1099511627776) (ht : isT s.data.toList = false) :
    Calls Tryz.prog 113 #[.string s] w fun e w' => e = .returned (.tuple #[.slice none 0 0, .int .i64 13]) ∧ w' = w := by
  have t1 := isText_any s w hs
  rw [ht] at t1
  go_enter Tryz.func113, Tryz.ntmps113
  go_wp2_with fail
  refine t1.mono ?_
  rintro e w1 ⟨rfl, rfl⟩
  go_wp2_with fail
  go_ret2
  exact ⟨rfl, rfl⟩

set_option maxHeartbeats 1000000 in
set_option maxRecDepth 100000 in
theorem parse_yes (s : ByteArray) (w : World) (hs : s.size ≤ 1099511627776) (ht : isT s.data.toList = true) :
    Calls Tryz.prog 113 #[.string s] w fun e w' => ∃ v r, e = .returned (.tuple #[v, .int .i64 0]) ∧ NewV w w' v r ∧ IsN r (dval s.data.toList) ∧ r.length ≤ s.size + 1 ∧ Below w.heap.size w w' := by
  have t1 := isText_any s w hs
  rw [ht] at t1
  have hall : s.data.toList.all isD = true := by simp only [isT, Bool.and_eq_true] at ht; exact ht.2
  have HALL := (show Hid (s.data.toList.all isD = true) from hall)
  have HSZ := (show Hid (s.data.toList.length = s.size) from len_data s)
  clear ht hall
  go_enter Tryz.func113, Tryz.ntmps113
  go_wp2_with fail
  refine t1.mono ?_
  rintro e w1 ⟨rfl, rfl⟩
  clear t1
  obtain ⟨q, hq⟩ : ∃ q : Nat, (s.size : Int) / 19 = q := ⟨s.size / 19, by omega⟩
  have hq1 : q ≤ 1099511627776 := by omega
  go_wp2_with (at_make; refine make_mine rfl _ _ rfl 0 (q + 1) _ _ rfl rfl rfl (by omega) (by omega) (by omega) ?_; intro w2 hmine hbel hsz)
  rw [show List.replicate 0 (0 : Int) = [] from rfl] at hmine
  go_loopw [0, 4] (fun ts tz wr => ∃ (t : ByteArray) (pre : List UInt8) (l : List Int), ts = .string t ∧ t.size ≤ s.size ∧ Hid (s.data.toList = pre ++ t.data.toList) ∧ Mine wr w1.heap.size tz l ∧ Words l ∧ Hid (nlen l = l.length) ∧ Hid (val l = dval pre) ∧ l.length + t.size ≤ s.size ∧ Below w1.heap.size w1 wr) (fun ts _ _ => match ts with | .string t => t.size | _ => 0)
  case atStart => exact ⟨s, [], [], rfl, Nat.le_refl _, rfl, hmine, Words.nil, rfl, rfl, by simp, hbel⟩
  case round =>
    clear hmine hbel hsz
    obtain ⟨t, pre, l, rfl, hts, hpre, hm, wl, hnl, hv, hlen, hbe⟩ := hrel
    have hsz := hbe.size
    by_cases hlt : 0 < t.size
    · by_cases h19 : (t.size : Int) < 19
      · have hdl : ((t).data.toList) = t.data.toList.take t.size := by exact (List.take_of_length_le (by simp)).symm
        have hsz0 : (t).size = t.size := by rfl
        have hall1 : (t.data.toList.take t.size).all isD = true := by
          have h1 := HALL.out
          rw [hpre.out, List.all_append, Bool.and_eq_true] at h1
          rw [List.all_eq_true] at h1 ⊢
          exact fun x hx => by
            have h2 := h1.2
            rw [List.all_eq_true] at h2
            exact h2 x (List.mem_of_mem_take hx)
        have tG := fun wx => group_any (t) wx (by omega) (by rw [hdl]; exact hall1)
        have tT := fun wx => tenTo_any t.size wx (by omega)
        have hdb := dval_bound hall1
        have hlen1 : (t.data.toList.take t.size).length = t.size := by simp
        rw [hdl] at tG
        rw [hlen1] at hdb
        have _hk := hsz
        have hten1 : (10 : Int) ^ t.size < 18446744073709551616 := by
          have h1 := pow10_le (show t.size ≤ 19 by omega)
          have h2 : (10 : Int) ^ 19 = 10000000000000000000 := by decide
          omega
        have hten : (0 : Int) < 10 ^ t.size := Int.pow_pos (by decide)
        have HV : Hid (dval (pre ++ t.data.toList.take t.size) = dval pre * 10 ^ t.size + dval (t.data.toList.take t.size)) := by show _ = _; rw [dval_append, hlen1]
        have HP : Hid (s.data.toList = (pre ++ t.data.toList.take t.size) ++ (t.data.toList.drop t.size)) := by show _ = _; rw [List.append_assoc, List.take_append_drop]; exact hpre.out
        obtain ⟨d0, d1⟩ := hdb
        generalize hD : dval (t.data.toList.take t.size) = D at *
        generalize hT : (10 : Int) ^ t.size = T at *
        clear hall1 hlen1 hdl hsz0 hD hT
        go_wp2_with fail
        go_region_with (first
          | (go_at_call 149; refine (tT _).mono ?_; rintro e w3 ⟨rfl, rfl⟩)
          | (go_at_call 150; refine (tG _).mono ?_; rintro e w4 ⟨rfl, rfl⟩)
          | (go_at_call 148; refine (scale_any w1.heap.size _ l T D _ (by exact hsz) (by exact hm.drewM) (by omega) wl (by omega) (by omega) d0 (by omega)).mono ?_; rintro e w5 ⟨v', r, rfl, hm', wr', hv', hlen', hn', hbe'⟩))
        all_goals go_wp2
        have hxs : (t.extract t.size t.size).size = t.size - t.size := by simp
        go_roundw
        case rel =>
          refine ⟨t.extract t.size t.size, pre ++ t.data.toList.take t.size, r, by simp, by omega, ?_, hm', wr', hn' hnl.out (by omega), ?_, by omega, hbe.drew.trans hbe'⟩
          · show _ = _
            rw [ext_data, HP.out, List.take_of_length_le (l := t.data.toList.drop t.size) (by simp)]
          · show _ = _
            rw [hv', hv.out, HV.out]
        case measure => simp; omega
      · have hdl : ((t.extract 0 19).data.toList) = t.data.toList.take 19 := by rw [ext_data]; simp
        have hsz0 : (t.extract 0 19).size = 19 := by simp; omega
        have hall1 : (t.data.toList.take 19).all isD = true := by
          have h1 := HALL.out
          rw [hpre.out, List.all_append, Bool.and_eq_true] at h1
          rw [List.all_eq_true] at h1 ⊢
          exact fun x hx => by
            have h2 := h1.2
            rw [List.all_eq_true] at h2
            exact h2 x (List.mem_of_mem_take hx)
        have tG := fun wx => group_any (t.extract 0 19) wx (by omega) (by rw [hdl]; exact hall1)
        have tT := fun wx => tenTo_any 19 wx (by omega)
        have hdb := dval_bound hall1
        have hlen1 : (t.data.toList.take 19).length = 19 := by simp; omega
        rw [hdl] at tG
        rw [hlen1] at hdb
        rw [show ((19 : Nat) : Int) = 19 from rfl] at tT
        have hten1 : (10 : Int) ^ 19 < 18446744073709551616 := by
          have h1 := pow10_le (show 19 ≤ 19 by omega)
          have h2 : (10 : Int) ^ 19 = 10000000000000000000 := by decide
          omega
        have hten : (0 : Int) < 10 ^ 19 := Int.pow_pos (by decide)
        have HV : Hid (dval (pre ++ t.data.toList.take 19) = dval pre * 10 ^ 19 + dval (t.data.toList.take 19)) := by show _ = _; rw [dval_append, hlen1]
        have HP : Hid (s.data.toList = (pre ++ t.data.toList.take 19) ++ (t.data.toList.drop 19)) := by show _ = _; rw [List.append_assoc, List.take_append_drop]; exact hpre.out
        obtain ⟨d0, d1⟩ := hdb
        generalize hD : dval (t.data.toList.take 19) = D at *
        generalize hT : (10 : Int) ^ 19 = T at *
        clear hall1 hlen1 hdl hsz0 hD hT
        go_wp2_with fail
        go_region_with (first
          | (go_at_call 149; refine (tT _).mono ?_; rintro e w3 ⟨rfl, rfl⟩)
          | (go_at_call 150; refine (tG _).mono ?_; rintro e w4 ⟨rfl, rfl⟩)
          | (go_at_call 148; refine (scale_any w1.heap.size _ l T D _ (by exact hsz) (by exact hm.drewM) (by omega) wl (by omega) (by omega) d0 (by omega)).mono ?_; rintro e w5 ⟨v', r, rfl, hm', wr', hv', hlen', hn', hbe'⟩))
        all_goals go_wp2
        have hxs : (t.extract 19 t.size).size = t.size - 19 := by simp
        go_roundw
        case rel =>
          refine ⟨t.extract 19 t.size, pre ++ t.data.toList.take 19, r, rfl, by omega, ?_, hm', wr', hn' hnl.out (by omega), ?_, by omega, hbe.drew.trans hbe'⟩
          · show _ = _
            rw [ext_data, HP.out, List.take_of_length_le (l := t.data.toList.drop 19) (by simp)]
          · show _ = _
            rw [hv', hv.out, HV.out]
        case measure => simp; omega
    · have ht0 : t.data.toList = [] := List.eq_nil_of_length_eq_zero (by rw [len_data]; omega)
      have HP : Hid (s.data.toList = pre) := by have := hpre.out; rw [ht0, List.append_nil] at this; exact this
      clear ht0 hpre
      go_wp2
      go_ret2
      exact ⟨_, l, rfl, hm.new, ⟨wl, hnl.out, by rw [hv.out, HP.out]⟩, by omega, hbe⟩
end Go.Proofs.YtjihgkanbhccpaaGreatDoor
