/- Several texts, joined: Ref2c. -/
import Derived.Test.YtjihgkanbhccpaaGreatDoorJea
import Derived.Test.YtjihgkanbhccpaaGreatDoorJgc
import Derived.Test.YtjihgkanbhccpaaGreatDoorJfa
namespace Go.Proofs.YtjihgkanbhccpaaGreatDoor
open Go.RowKit Lim

def vsize : Value → Nat
  | .string s => s.size
  | _ => 0
theorem cat_list (a b : ByteArray) : (a ++ b).data.toList = a.data.toList ++ b.data.toList := by
  rw [ByteArray.data_append, Array.toList_append]
theorem dvI_dval (l : List UInt8) : dvI (l.map fun c => (c.toNat : Int)) = dval l := by
  have key : ∀ (l : List UInt8) (a : Int), (l.map fun c => (c.toNat : Int)).foldl (fun x c => 10 * x + (c - 48)) a = l.foldl (fun x c => 10 * x + ((c.toNat : Int) - 48)) a := by
    intro l
    induction l with
    | nil => intro a; rfl
    | cons c l ih => intro a; rw [List.map_cons, List.foldl_cons, List.foldl_cons, ih]
  exact key l 0
theorem digI_map {l : List UInt8} (h : l.all isD = true) : DigI (l.map fun c => (c.toNat : Int)) := by
  intro x hx
  obtain ⟨c, hc, rfl⟩ := List.mem_map.1 hx
  rw [List.all_eq_true] at h
  have := h c hc
  simp only [isD, decide_eq_true_eq] at this
  omega
theorem map_toNat_inj {a b : List UInt8} (h : a.map (fun c => (c.toNat : Int)) = b.map (fun c => (c.toNat : Int))) : a = b := by
  induction a generalizing b with
  | nil => cases b with
    | nil => rfl
    | cons c b => simp at h
  | cons x a ih => cases b with
    | nil => simp at h
    | cons c b =>
      rw [List.map_cons, List.map_cons] at h
      obtain ⟨h1, h2⟩ := List.cons.inj h
      rw [ih h2, UInt8.toNat_inj.1 (Int.ofNat.inj h1)]
/-- 36 digits worth r -/
theorem fr36_is {l : List UInt8} {r : Int} (h0 : 0 ≤ r) (h1 : r < U36) (hl : l.length = 36) (hd : l.all isD = true) (hv : dval l = r) : l = fr36 r := by
  obtain ⟨g1, g2⟩ := fr36_all h0
  rw [show (10 : Int) ^ 36 = U36 from rfl, Int.emod_eq_of_lt h0 h1] at g2
  refine map_toNat_inj (dvI_inj (digI_map hd) (digI_map g1) ?_ ?_)
  · rw [List.length_map, List.length_map, hl, fr36_length]
  · rw [dvI_dval, dvI_dval, hv, g2]
theorem trim_is {F : List UInt8} {m : Nat} (hm : m < F.length) (h1 : F[m]? ≠ some 48) (h2 : ∀ j, m < j → j < F.length → F[j]? = some 48) : F.take (m + 1) = Lib.trimRightB F 48 := by
  unfold Lib.trimRightB
  have e : F = F.take (m + 1) ++ F.drop (m + 1) := (List.take_append_drop _ _).symm
  have hz : ∀ c ∈ F.drop (m + 1), c = 48 := by
    intro c hc
    obtain ⟨i, hi, rfl⟩ := List.getElem_of_mem hc
    rw [List.length_drop] at hi
    have := h2 (m + 1 + i) (by omega) (by omega)
    rw [List.getElem_drop]
    rw [List.getElem?_eq_getElem (by omega)] at this
    exact Option.some.inj this
  have hT : ∃ A c, F.take (m + 1) = A ++ [c] ∧ c ≠ 48 := by
    refine ⟨F.take m, F[m], by rw [List.take_succ_eq_append_getElem hm], fun e => ?_⟩
    rw [List.getElem?_eq_getElem hm] at h1
    exact h1 (by rw [e])
  obtain ⟨A, c, hA, hc⟩ := hT
  conv => rhs; rw [e, List.reverse_append, hA]
  rw [hA]
  have hd : ∀ (z : List UInt8) (y : List UInt8), (∀ c ∈ z, c = 48) → (z ++ y).dropWhile (· == 48) = y.dropWhile (· == 48) := by
    intro z
    induction z with
    | nil => intro y _; rfl
    | cons x z ih =>
      intro y h
      have := h x (List.mem_cons_self ..)
      subst this
      rw [List.cons_append, List.dropWhile_cons_of_pos (p := (· == 48)) rfl]
      exact ih y fun c hc => h c (List.mem_cons_of_mem _ hc)
  rw [hd _ _ fun x hx => hz x (List.mem_reverse.1 hx), List.reverse_append, List.reverse_singleton, List.singleton_append, List.dropWhile_cons_of_neg (p := (· == 48)) (by simpa using hc), List.reverse_cons, List.reverse_reverse]
theorem text_len {S : ByteArray} {r : Int} (h : TextOf S r) (h1 : r < U36) : S.size ≤ 36 := by
  obtain ⟨d, e, hd, hv, h0, hz⟩ := h.bytes
  have hs : S.size = d.length := by rw [← e, List.length_map, len_data]
  rcases hz with c | c
  · omega
  · have := dvI_ge hd h0 c
    rw [hv] at this
    rcases Nat.lt_or_ge 36 d.length with g | g
    · have hp : (10 : Int) ^ 36 ≤ 10 ^ (d.length - 1) := pow10_le (by omega)
      have : U36 = 10 ^ 36 := rfl
      omega
    · omega
theorem last_non48 {r : Int} (h0 : 0 < r) (h1 : r < U36) : ∃ m, m < 36 ∧ (fr36 r)[m]? ≠ some 48 ∧ ∀ j, m < j → j < 36 → (fr36 r)[j]? = some 48 := by
  obtain ⟨g1, g2⟩ := fr36_all (r := r) (by omega)
  rw [show (10 : Int) ^ 36 = U36 from rfl, Int.emod_eq_of_lt (by omega) h1] at g2
  have hl := fr36_length r
  generalize fr36 r = F at *
  have key : ∀ k, k ≤ 36 → (∀ j, k ≤ j → j < 36 → F[j]? = some 48) → ∃ m, m < k ∧ F[m]? ≠ some 48 ∧ ∀ j, m < j → j < 36 → F[j]? = some 48 := by
    intro k
    induction k with
    | zero =>
      intro _ h
      exfalso
      have : dval F = 0 := dval_zeros fun c hc => by
        obtain ⟨i, hi, rfl⟩ := List.getElem_of_mem hc
        have := h i (Nat.zero_le _) (by omega)
        rw [List.getElem?_eq_getElem hi] at this
        exact Option.some.inj this
      omega
    | succ k ih =>
      intro hk h
      by_cases e : F[k]? = some 48
      · obtain ⟨m, a1, a2, a3⟩ := ih (by omega) fun j hj hj2 => by
          by_cases ej : j = k
          · subst ej; exact e
          · exact h j (by omega) hj2
        exact ⟨m, by omega, a2, a3⟩
      · exact ⟨k, by omega, e, fun j hj hj2 => h j (by omega) hj2⟩
  obtain ⟨m, a1, a2, a3⟩ := key 36 (Nat.le_refl _) fun j hj hj2 => by omega
  exact ⟨m, a1, a2, a3⟩
set_option maxHeartbeats 4000000 in
set_option maxRecDepth 100000 in
theorem eText {w : World} {ao : Option Addr} {n c : Nat} {x : Int} (h : NatA w ao n c x) (hn : n ≤ 1000000) :
    Calls Tryz.prog 71 #[.agg #[.slice ao n c]] w fun e w' => ∃ S : ByteArray, e = .returned (.string S) ∧ DText S x ∧ S.size ≤ 128 * n + 100 ∧ Below w.heap.size w w' := by
  have B0 := below_alloc w (.cells #[.slice ao n c] 46)
  have P0 := slot_new w (.slice ao n c) 46
  replace h := h.keep B0
  have q0 := P0.cell
  go_enter Tryz.func71, Tryz.ntmps71
  have hx0 := h.nonneg
  have hup := U36_pos
  have hr0 : 0 ≤ x % U36 := Int.emod_nonneg _ (by omega)
  have hr1 : x % U36 < U36 := Int.emod_lt_of_pos _ hup
  go_wp2_with fail
  refine (eTrunc h (by omega)).mono ?_
  rintro e w1 ⟨a1, k1, d1, a2, k2, d2, rfl, O1, O2, hk1, hk2, hB⟩
  replace B0 := joinB B0 hB
  clear hB h P0 q0
  have BA := below_alloc w1 (.cells #[.slice a2 k2 d2] 46)
  have SL := slot_new w1 (.slice a2 k2 d2) 46
  replace O1 := O1.keep BA
  replace O2 := O2.keep BA
  replace B0 := joinB B0 BA
  clear BA
  go_wp2_with fail
  refine (rText O1.a (by omega)).mono ?_
  rintro e w2 ⟨Sw, rfl, hSw, hSz, hB⟩
  replace O2 := O2.keep hB
  replace SL := SL.keep hB
  replace B0 := joinB B0 hB
  have cL := SL.cell
  clear hB O1
  generalize w1.heap.size = gL at *
  have HSw := (show Hid _ from hSw)
  clear hSw
  by_cases hz : x % U36 = 0
  · obtain rfl : k2 = 0 := natO_zero2 (O2.eqv hz)
    have HZ := (show Hid _ from hz)
    clear hz O2
    go_wp2
    go_ret
    exact ⟨Sw, rfl, ⟨Sw, HSw.out, by rw [HZ.out]; simp [fracT]⟩, by omega, B0⟩
  · obtain ⟨j, rfl⟩ : ∃ j, k2 = j + 1 := ⟨k2 - 1, by have := natO_pos2 O2 hz; omega⟩
    have HZ := (show Hid _ from hz)
    have hrp : 0 < x % U36 := by omega
    have HR : Hid (0 < x % U36 ∧ x % U36 < U36) := ⟨hrp, hr1⟩
    clear hz hr0 hr1 hup hrp
    go_wp2_with fail
    refine (rText O2.a (by omega)).mono ?_
    rintro e w3 ⟨T0, rfl, hT0, hTz, hB⟩
    have hT36 := text_len hT0 HR.out.2
    obtain ⟨hTT, hTV⟩ := text_isT hT0
    have hTD : T0.data.toList.all isD = true := by simp only [isT, Bool.and_eq_true] at hTT; exact hTT.2
    replace B0 := joinB B0 hB
    have HT : Hid (T0.data.toList.all isD = true ∧ dval T0.data.toList = x % U36) := ⟨hTD, hTV⟩
    clear hB O2 hTT hTV hTD hT0 SL cL hTz
    generalize hxr : x % U36 = r at *
    have HXR := (show Hid _ from hxr)
    clear hxr
    go_wp2_with fail
    go_loop [6] (fun tt => ∃ t : ByteArray, tt = .string t ∧ t.size ≤ 36 ∧ Hid (t.data.toList.all isD = true ∧ dval t.data.toList = r)) (fun tt => 36 - vsize tt)
    case atStart => exact ⟨T0, rfl, hT36, HT⟩
    case round =>
      clear HT hT36
      obtain ⟨t, rfl, ht, HT⟩ := hrel
      by_cases hlt : t.size < 36
      · have hlt0 : (t.size : Int) < 36 := by omega
        have HT2 : Hid ((⟨#[48]⟩ ++ t : ByteArray).data.toList.all isD = true ∧ dval (⟨#[48]⟩ ++ t : ByteArray).data.toList = r) := by
          obtain ⟨g1, g2⟩ := HT.out
          have e : (⟨#[48]⟩ ++ t : ByteArray).data.toList = [48] ++ t.data.toList := cat_list _ _
          refine ⟨?_, ?_⟩
          · rw [e, List.all_append, g1]; decide
          · rw [e, dval_append, g2]; simp [dval]
        have hsz : (⟨#[48]⟩ ++ t : ByteArray).size = t.size + 1 := by rw [ByteArray.size_append]; show 1 + t.size = _; omega
        clear HT
        go_wp2
        go_round
        case rel => exact ⟨_, rfl, by omega, HT2⟩
        case measure => show 36 - (⟨#[48]⟩ ++ t : ByteArray).size < 36 - t.size; omega
      · have ht2 : (36 : Int) ≤ t.size := by omega
        have HF : Hid (t.data.toList = fr36 r) := fr36_is (by have := HR.out; omega) HR.out.2 (by rw [len_data]; omega) HT.out.1 HT.out.2
        have hts : t.size = 36 := by omega
        have HTS : Hid (t.size = 36) := by show t.size = 36; omega
        have HX : Hid (∃ m, m < 36 ∧ (fr36 r)[m]? ≠ some 48 ∧ ∀ j, m < j → j < 36 → (fr36 r)[j]? = some 48) := last_non48 HR.out.1 HR.out.2
        clear HT hlt ht
        obtain ⟨m0, hm0, hm1, hm2⟩ := HX.out
        have HM : Hid (∀ p (hp : p < t.size), m0 < p → t[p].toNat = 48) := fun p hp hmp => by
          have := hm2 p hmp (by omega)
          rw [← HF.out] at this
          have e : t.data.toList[p]? = some t[p] := by rw [List.getElem?_eq_getElem (by rw [len_data]; exact hp)]; rfl
          rw [e] at this
          rw [Option.some.inj this]; rfl
        have HN : Hid (∀ (hp : m0 < t.size), t[m0].toNat ≠ 48) := fun hp e48 => by
          apply hm1
          rw [← HF.out, List.getElem?_eq_getElem (by rw [len_data]; exact hp)]
          congr 1
          exact UInt8.toNat_inj.1 e48
        have HTR : Hid ((fr36 r).take (m0 + 1) = Lib.trimRightB (fr36 r) 48) := trim_is (by rw [fr36_length]; exact hm0) hm1 (by rw [fr36_length]; exact hm2)
        have HFR : Hid (fracT r = 46 :: Lib.trimRightB (fr36 r) 48) := by
          show fracT r = _
          unfold fracT
          rw [if_neg (fun e => by have := HR.out.1; omega)]
        clear HX hm1 hm2
        go_wp2_with fail
        go_loopw [7] (fun ti wr => ∃ p : Nat, p < 36 ∧ m0 ≤ p ∧ ti = .int .i64 ((p : Int) + 1) ∧ Below w.heap.size w wr) (fun ti _ => (intOf ti).toNat)
        case atStart => exact ⟨35, by omega, by omega, by rfl, B0⟩
        case round =>
          clear B0
          obtain ⟨p, hp, hmp, rfl, B0⟩ := hrel
          have hpt : p < t.size := by omega
          by_cases he : m0 < p
          · have h48 : (t[p].toNat : Int) = 48 := by have := HM.out p hpt he; omega
            have hb48 : ((t[p].toNat : Int) == 48) = true := by rw [beq_iff_eq]; exact h48
            have hp0 : (p : Int) < t.size := by omega
            clear h48 hts ht2 HM HN HTR HF HTS HR HZ HSw HFR
            go_wp2
            go_roundw
            case rel => exact ⟨p - 1, by omega, by omega, by go_num, B0⟩
            case measure => simp [intOf]
          · obtain rfl : p = m0 := by omega
            have hb48 : ((t[p].toNat : Int) == 48) = false := by
              rw [beq_eq_false_iff_ne]
              have := HN.out hpt
              omega
            have hp0 : (p : Int) < t.size := by omega
            clear HN HM he hmp hts ht2
            go_wp2
            go_ret
            refine ⟨_, rfl, ⟨Sw, HSw.out, ?_⟩, ?_, B0⟩
            · rw [HXR.out, cat_list, cat_list, ext_list, HF.out, List.drop_zero]
              have e2 : (fr36 r).take (p + 1 - 0) = Lib.trimRightB (fr36 r) 48 := HTR.out
              rw [e2]
              generalize Lib.trimRightB (fr36 r) 48 = RR at *
              have hfr : fracT r = 46 :: RR := HFR.out
              rw [hfr, List.append_assoc, show (⟨#[46]⟩ : ByteArray).data.toList = [46] from rfl, List.singleton_append]
            · rw [ByteArray.size_append, ByteArray.size_append, ByteArray.size_extract]
              have e3 : (⟨#[46]⟩ : ByteArray).size = 1 := rfl
              omega
end Go.Proofs.YtjihgkanbhccpaaGreatDoor
