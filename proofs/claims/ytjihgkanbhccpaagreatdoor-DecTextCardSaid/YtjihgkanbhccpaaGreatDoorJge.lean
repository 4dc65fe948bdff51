/- Several texts, joined: DParV, Ref2d. -/
import Derived.Test.YtjihgkanbhccpaaGreatDoorJfa
import Derived.Test.YtjihgkanbhccpaaGreatDoorJea
import Derived.Test.YtjihgkanbhccpaaGreatDoorJga
namespace Go.Proofs.YtjihgkanbhccpaaGreatDoor
open Go.RowKit Lim

/-- what may stand behind the dot -/
def plOk (E : List UInt8) : Bool := !E.isEmpty && decide (E.length ≤ 36) && !(E.getLast? == some 48) && E.all isD
/-- what a text is worth -/
def decP (l : List UInt8) : Option Int :=
  if Lib.indexByte l 46 = -1 then (if isT l then some (dval l * U36) else none)
  else if isT (l.take (Lib.indexByte l 46).toNat) && plOk (l.drop ((Lib.indexByte l 46).toNat + 1)) then some (dval (l.take (Lib.indexByte l 46).toNat) * U36 + dval (l.drop ((Lib.indexByte l 46).toNat + 1)) * 10 ^ (36 - (l.drop ((Lib.indexByte l 46).toNat + 1)).length)) else none
def decPE (l : List UInt8) : Int := if (decP l).isSome then 0 else 22
def decPV (l : List UInt8) : Int := (decP l).getD 0
theorem suf_last (E : List UInt8) : Lib.hasSuffix E [48] = (E.getLast? == some 48) := by
  unfold Lib.hasSuffix
  rw [List.isSuffixOf, List.getLast?_eq_head?_reverse]
  generalize E.reverse = r
  cases r with
  | nil => rfl
  | cons c r =>
    simp only [List.reverse_cons, List.reverse_nil, List.nil_append, List.isPrefixOf, Bool.and_true, List.head?_cons]
    rw [Bool.eq_iff_iff]
    constructor
    · intro h
      have h2 := eq_of_beq h
      subst h2
      rfl
    · intro h
      have h2 := Option.some.inj (eq_of_beq h)
      subst h2
      rfl
theorem trimL_isT (E : List UInt8) (hl : (E.getLast? == some 48) = false) : isT (Lib.trimLeftB E 48) = (!E.isEmpty && E.all isD) := by
  obtain ⟨z, e, hz⟩ := trimL_val E
  have hh := drop_head E
  have hL : Lib.trimLeftB E 48 = E.dropWhile (· == 48) := rfl
  rw [← hL] at hh
  generalize Lib.trimLeftB E 48 = L at *
  have hzd : z.all isD = true := by
    rw [List.all_eq_true]
    intro c hc
    rw [hz c hc]; decide
  have hallE : E.all isD = L.all isD := by rw [e, List.all_append, hzd, Bool.true_and]
  rw [hallE]
  unfold isT
  cases L with
  | nil =>
    rw [List.append_nil] at e
    have : E = [] := by
      cases hE : E.getLast? with
      | none => exact List.getLast?_eq_none_iff.1 hE
      | some c =>
        have hc : c ∈ E := List.mem_of_getLast? hE
        rw [e] at hc
        rw [hE, hz c hc] at hl
        simp at hl
    rw [this]; rfl
  | cons c L =>
    have hne : E.isEmpty = false := by rw [e]; simp
    have hc : ((c :: L).head? == some 48) = false := by rw [beq_eq_false_iff_ne]; exact hh
    rw [hne, hc]
    rfl
theorem trimL_dval (E : List UInt8) : dval (Lib.trimLeftB E 48) = dval E := by
  obtain ⟨z, e, hz⟩ := trimL_val E
  conv => rhs; rw [e]
  rw [dval_append, dval_zeros hz, Int.zero_mul, Int.zero_add]
set_option maxHeartbeats 2000000 in
set_option maxRecDepth 100000 in
theorem places_long (s : ByteArray) (w : World) (hs : 36 < s.size) (hm : s.size ≤ 1000000) :
    Calls Tryz.prog 114 #[.string s] w fun e w' => e = .returned (.tuple #[.agg #[.slice none 0 0], .int .i64 22]) ∧ Below w.heap.size w w' := by
  have B0 := below_alloc w (.cells #[.slice none 0 0] 46)
  have S0 := slot_new w (.slice none 0 0) 46
  have hs' : (36 : Int) < s.size := by omega
  go_enter Tryz.func114, Tryz.ntmps114
  go_wp2
  refine bodyPost_ret (ret_dec_tmp rfl rfl rfl S0) rfl ?_
  exact ⟨rfl, B0⟩
set_option maxHeartbeats 2000000 in
set_option maxRecDepth 100000 in
theorem places_bad (s : ByteArray) (w : World) (hs : s.size ≤ 36) (h1 : Lib.hasSuffix s.data.toList [48] = false) (h2 : isT (Lib.trimLeftB s.data.toList 48) = false) :
    Calls Tryz.prog 114 #[.string s] w fun e w' => e = .returned (.tuple #[.agg #[.slice none 0 0], .int .i64 22]) ∧ Below w.heap.size w w' := by
  have B0 := below_alloc w (.cells #[.slice none 0 0] 46)
  have S0 := slot_new w (.slice none 0 0) 46
  have tH := Tryz.strings_HasSuffix s ⟨#[48]⟩
  rw [show (⟨#[48]⟩ : ByteArray).data.toList = [48] from rfl, h1] at tH
  have tL := Tryz.strings_TrimLeft_one s 48 (by decide)
  have hlen : (Lib.trimLeftB s.data.toList 48).length ≤ 36 := by
    unfold Lib.trimLeftB
    have := (List.dropWhile_sublist (fun x => x == 48) (l := s.data.toList)).length_le
    rw [len_data] at this
    omega
  clear h1
  generalize hR : (⟨(Lib.trimLeftB s.data.toList 48).toArray⟩ : ByteArray) = R at tL
  have hRd : R.data.toList = Lib.trimLeftB s.data.toList 48 := by rw [← hR]
  have hRs : R.size ≤ 36 := by rw [← len_data, hRd]; exact hlen
  have tP := fun w => parse_no R w (by omega) (by rw [hRd]; exact h2)
  clear hR hRd h2 hlen
  go_enter Tryz.func114, Tryz.ntmps114
  go_wp2_with (first
    | (go_at_call 151; refine (tH _ (by omega)).mono ?_; rintro e w' ⟨rfl, rfl⟩)
    | (go_at_call 152; refine (tL _).mono ?_; rintro e w' ⟨rfl, rfl⟩)
    | (go_at_call 113; refine (tP _).mono ?_; rintro e w' ⟨rfl, rfl⟩))
  refine bodyPost_ret (ret_dec_tmp rfl rfl rfl S0) rfl ?_
  exact ⟨rfl, B0⟩
set_option maxHeartbeats 2000000 in
set_option maxRecDepth 100000 in
theorem dParse_errD (s D E : ByteArray) (b : Bool) (w : World) (tC : ∀ w, Calls Tryz.prog 112 #[.string s, .string ⟨#[46]⟩] w fun e w' => e = .returned (.tuple #[.string D, .string E, .bool b]) ∧ Below w.heap.size w w') (hD : D.size ≤ 1000000) (ht : isT D.data.toList = false) :
    Calls Tryz.prog 68 #[.string s] w fun e w' => e = .returned (.tuple #[.agg #[.slice none 0 0], .int .i64 22]) ∧ Below w.heap.size w w' := by
  have B0 := below_alloc w (.cells #[.slice none 0 0] 46)
  have S0 := slot_new w (.slice none 0 0) 46
  have tP := fun w => parse_no D w (by omega) ht
  clear ht
  go_enter Tryz.func68, Tryz.ntmps68
  go_wp2_with fail
  refine (tC _).mono ?_
  rintro e w1 ⟨rfl, hB⟩
  have S0 := S0.keep hB
  have B0 := joinB B0 hB
  clear hB tC
  go_wp2_with fail
  refine (tP _).mono ?_
  rintro e w2 ⟨rfl, rfl⟩
  clear tP
  have c0 := S0.cell
  have f0 := S0.free
  have S2 := S0.put (.slice none 0 0)
  have HB := B0.setCell (p := ⟨w.heap.size, 0, none⟩) (Nat.le_refl _) (.slice none 0 0)
  clear S0 B0
  go_wp2
  refine bodyPost_ret (ret_dec_tmp rfl rfl rfl S2) rfl ?_
  exact ⟨rfl, HB⟩
set_option maxHeartbeats 2000000 in
set_option maxRecDepth 100000 in
theorem dParse_errE (s : ByteArray) (i : Nat) (w : World) (hs : s.size ≤ 1000000) (h : Lib.indexByte s.data.toList 46 = (i : Int)) (hi : i < s.size) (ht : isT (s.extract 0 i).data.toList = true) (tQ : ∀ w, Calls Tryz.prog 114 #[.string (s.extract (i + 1) s.size)] w fun e w' => e = .returned (.tuple #[.agg #[.slice none 0 0], .int .i64 22]) ∧ Below w.heap.size w w') :
    Calls Tryz.prog 68 #[.string s] w fun e w' => e = .returned (.tuple #[.agg #[.slice none 0 0], .int .i64 22]) ∧ Below w.heap.size w w' := by
  have B0 := below_alloc w (.cells #[.slice none 0 0] 46)
  have S0 := slot_new w (.slice none 0 0) 46
  have tC := fun w => cut_yes s i w (by omega) h hi
  have hsz : (s.extract 0 i).size ≤ 1000000 := by rw [ByteArray.size_extract]; omega
  have tP := fun w => parse_yes (s.extract 0 i) w (by omega) ht
  clear h hi ht
  generalize s.extract 0 i = D at *
  generalize s.extract (i + 1) s.size = E at *
  go_enter Tryz.func68, Tryz.ntmps68
  go_wp2_with fail
  refine (tC _).mono ?_
  rintro e w1 ⟨rfl, hB⟩
  have S0 := S0.keep hB
  have B0 := joinB B0 hB
  clear hB tC
  go_wp2_with fail
  refine (tP _).mono ?_
  rintro e w2 ⟨v, r, rfl, hnw, hI, hlr, hB⟩
  obtain ⟨a, d, rfl, hO⟩ := hnw.o hI
  have S0 := S0.keep hB
  have B0 := joinB B0 hB
  clear hB hnw hI tP
  go_wp2_with fail
  refine (tQ _).mono ?_
  rintro e w3 ⟨rfl, hB⟩
  have S0 := S0.keep hB
  have B0 := joinB B0 hB
  clear hB tQ
  have c0 := S0.cell
  have f0 := S0.free
  have S2 := (S0.put (.slice none 0 0)).alloc (.cells #[.slice none 0 0] 46)
  have HB := joinB (B0.setCell (p := ⟨w.heap.size, 0, none⟩) (Nat.le_refl _) (.slice none 0 0)) (below_alloc _ (.cells #[.slice none 0 0] 46))
  have S3 := S0.alloc (.cells #[.slice none 0 0] 46)
  have c3 := S3.cell
  have f3 := S3.free
  have S4 := S3.put (.slice none 0 0)
  have HB4 := (joinB B0 (below_alloc _ (.cells #[.slice none 0 0] 46))).setCell (p := ⟨w.heap.size, 0, none⟩) (Nat.le_refl _) (.slice none 0 0)
  clear S0 B0 S3
  go_wp2
  first
  | (refine bodyPost_ret (ret_dec_tmp rfl rfl rfl S2) rfl ?_; exact ⟨rfl, HB⟩)
  | (refine bodyPost_ret (ret_dec_tmp rfl rfl rfl S4) rfl ?_; exact ⟨rfl, HB4⟩)
  | trace_state
theorem idx_range (l : List UInt8) : Lib.indexByte l 46 = -1 ∨ (0 ≤ Lib.indexByte l 46 ∧ Lib.indexByte l 46 < l.length) := by
  induction l with
  | nil => exact .inl rfl
  | cons c l ih =>
    simp only [Lib.indexByte, List.length_cons]
    split
    · right; omega
    · split
      · exact .inl rfl
      · rename_i h1 h2
        have h2' : Lib.indexByte l 46 ≠ -1 := by simpa using h2
        right; omega
/-- dec.Parse of every text -/
theorem dParseV (s : ByteArray) (w : World) (hs : s.size ≤ 1000000) :
    Calls Tryz.prog 68 #[.string s] w fun e w' => ∃ a k d, e = .returned (.tuple #[.agg #[.slice a k d], .int .i64 (decPE s.data.toList)]) ∧ NatO w' a k d (decPV s.data.toList) ∧ k ≤ s.size + 200 ∧ Below w.heap.size w w' := by
  have hlen := len_data s
  have bad : decP s.data.toList = none → (Calls Tryz.prog 68 #[.string s] w fun e w' => e = .returned (.tuple #[.agg #[.slice none 0 0], .int .i64 22]) ∧ Below w.heap.size w w') → Calls Tryz.prog 68 #[.string s] w fun e w' => ∃ a k d, e = .returned (.tuple #[.agg #[.slice a k d], .int .i64 (decPE s.data.toList)]) ∧ NatO w' a k d (decPV s.data.toList) ∧ k ≤ s.size + 200 ∧ Below w.heap.size w w' := by
    intro hn t
    unfold decPE decPV
    rw [hn]
    refine t.mono ?_
    rintro e w' ⟨rfl, hB⟩
    exact ⟨none, 0, 0, rfl, natO_nil _, Nat.zero_le _, hB⟩
  by_cases hi : Lib.indexByte s.data.toList 46 = -1
  · by_cases ht : isT s.data.toList = true
    · have hp : decP s.data.toList = some (dval s.data.toList * U36) := by unfold decP; rw [if_pos hi, if_pos ht]
      unfold decPE decPV
      rw [hp]
      exact dParse_nodot s w hs hi ht
    · refine bad (by unfold decP; rw [if_pos hi, if_neg ht]) (dParse_errD s s ByteArray.empty false w (fun w => cut_no s w hi) hs (by simpa using ht))
  · rcases idx_range s.data.toList with c | ⟨c1, c2⟩
    · exact absurd c hi
    · obtain ⟨i, ei⟩ : ∃ i : Nat, Lib.indexByte s.data.toList 46 = (i : Int) := ⟨(Lib.indexByte s.data.toList 46).toNat, by omega⟩
      have hi2 : i < s.size := by omega
      have hp : decP s.data.toList = if isT (s.data.toList.take i) && plOk (s.data.toList.drop (i + 1)) then some (dval (s.data.toList.take i) * U36 + dval (s.data.toList.drop (i + 1)) * 10 ^ (36 - (s.data.toList.drop (i + 1)).length)) else none := by
        unfold decP
        rw [if_neg hi, ei, Int.toNat_natCast]
      have x1 : (s.extract 0 i).data.toList = s.data.toList.take i := by rw [ext_list, List.drop_zero, Nat.sub_zero]
      have x2 : (s.extract (i + 1) s.size).data.toList = s.data.toList.drop (i + 1) := by rw [ext_list, List.take_of_length_le (by rw [List.length_drop]; omega)]
      have x3 : (s.extract (i + 1) s.size).size = (s.data.toList.drop (i + 1)).length := by rw [← len_data, x2]
      have x4 : (s.extract 0 i).size ≤ s.size := by rw [ByteArray.size_extract]; omega
      have x5 : (s.extract (i + 1) s.size).size ≤ s.size := by rw [ByteArray.size_extract]; omega
      by_cases ht : isT (s.data.toList.take i) = true
      · rw [ht, Bool.true_and] at hp
        rw [← x1] at ht
        generalize hE : s.data.toList.drop (i + 1) = E at *
        by_cases hl : E.length ≤ 36
        · by_cases hf : (E.getLast? == some 48) = true
          · refine bad (by rw [hp, if_neg]; unfold plOk; rw [hf]; simp) (dParse_suf s i w hs ei hi2 ht (by omega) (by rw [x2, suf_last]; exact hf))
          · have hf' : (E.getLast? == some 48) = false := by simpa using hf
            have hT := trimL_isT E hf'
            have hpl : plOk E = isT (Lib.trimLeftB E 48) := by
              rw [hT]; unfold plOk; rw [decide_eq_true hl, hf']; simp
            rw [hpl] at hp
            by_cases hk : isT (Lib.trimLeftB E 48) = true
            · rw [if_pos hk] at hp
              unfold decPE decPV
              rw [hp]
              have t := dParse_ok s i w hs ei hi2 ht (by omega) (by rw [x2, suf_last]; exact hf') (by rw [x2]; exact hk)
              rw [x1, x2, x3, trimL_dval] at t
              exact t
            · rw [if_neg hk] at hp
              exact bad hp (dParse_errE s i w hs ei hi2 ht (fun w => places_bad _ w (by omega) (by rw [x2, suf_last]; exact hf') (by rw [x2]; simpa using hk)))
        · refine bad (by rw [hp, if_neg]; unfold plOk; rw [decide_eq_false hl]; simp) (dParse_errE s i w hs ei hi2 ht (fun w => places_long _ w (by omega) (by omega)))
      · have ht' : isT (s.data.toList.take i) = false := by simpa using ht
        refine bad (by rw [hp, ht']; rfl) (dParse_errD s _ _ true w (fun w => cut_yes s i w (by omega) ei hi2) (by omega) (by rw [x1]; exact ht'))
end Go.Proofs.YtjihgkanbhccpaaGreatDoor

namespace Go.Proofs.YtjihgkanbhccpaaGreatDoor
open Go.RowKit Lim

theorem pow64_mono2 {s t : Nat} (h : s ≤ t) : (18446744073709551616 : Int) ^ s ≤ 18446744073709551616 ^ t := by
  have := Nat.pow_le_pow_right (show 0 < 18446744073709551616 by decide) h
  have h2 : ((18446744073709551616 ^ s : Nat) : Int) ≤ ((18446744073709551616 ^ t : Nat) : Int) := Int.ofNat_le.2 this
  rw [Int.natCast_pow, Int.natCast_pow] at h2
  exact h2
theorem natO_len2 {w : World} {a : Option Addr} {k d : Nat} {x : Int} (h : NatO w a k d x) {s : Nat} (hs : x < 18446744073709551616 ^ s) : k ≤ s := by
  obtain ⟨b, o, l, h1, h2, h3, h4⟩ := h.ex
  obtain ⟨g1, g2, g3⟩ := h3
  by_cases h0 : k = 0
  · omega
  · have := val_ge_of_nlen g1 (by omega)
    rw [g3] at this
    rcases Nat.lt_or_ge s k with c | c
    · have hp : (18446744073709551616 : Int) ^ s ≤ 18446744073709551616 ^ (nlen l - 1) := pow64_mono2 (by omega)
      omega
    · exact c
theorem ten_le64 (k : Nat) : (10 : Int) ^ k ≤ 18446744073709551616 ^ k := by
  have := Nat.pow_le_pow_left (show 10 ≤ 18446744073709551616 by decide) k
  have h2 : ((10 ^ k : Nat) : Int) ≤ ((18446744073709551616 ^ k : Nat) : Int) := Int.ofNat_le.2 this
  rw [Int.natCast_pow, Int.natCast_pow] at h2
  exact h2
theorem idx_take {s : ByteArray} {k : Nat} (hk : k < s.size) (h1 : ∀ c ∈ s.data.toList.take k, c ≠ 46) (h2 : s[k].toNat = 46) : Lib.indexByte s.data.toList 46 = (k : Int) := by
  have e : s.data.toList = s.data.toList.take k ++ 46 :: s.data.toList.drop (k + 1) := by
    conv => lhs; rw [← List.take_append_drop k s.data.toList]
    congr 1
    rw [List.drop_eq_getElem_cons (by rw [len_data]; exact hk)]
    congr 1
    exact UInt8.toNat_inj.1 h2
  have hl : (s.data.toList.take k).length = k := by rw [List.length_take, len_data]; omega
  rw [e]
  generalize s.data.toList.take k = A at *
  clear e h2
  subst hl
  clear hk
  generalize s.data.toList.drop (A.length + 1) = B at *
  induction A with
  | nil => simp [Lib.indexByte]
  | cons c A ih =>
    have hc : (c == 46) = false := beq_eq_false_iff_ne.2 (h1 c (List.mem_cons_self ..))
    have := ih fun x hx => h1 x (List.mem_cons_of_mem _ hx)
    simp only [List.cons_append, Lib.indexByte, hc, this, List.length_cons]
    have hne : ((A.length : Int) == -1) = false := by rw [beq_eq_false_iff_ne]; omega
    simp [hne]
theorem idx_absent {l : List UInt8} (h : ∀ c ∈ l, c ≠ 46) : Lib.indexByte l 46 = -1 := by
  induction l with
  | nil => rfl
  | cons c l ih =>
    have hc : (c == 46) = false := beq_eq_false_iff_ne.2 (h c (List.mem_cons_self ..))
    simp [Lib.indexByte, hc, ih fun x hx => h x (List.mem_cons_of_mem _ hx)]
theorem str_at {w : World} {a : Act} {o : Oper} {x k m : Nat} {E : ByteArray} (hm : m < E.size) (ho : o.op = .index 9 (.tmp x) (.tmp k)) (hx : a.eval (.tmp x) = .string E) (hk : a.eval (.tmp k) = .int .i64 (m : Int)) :
    (execOp a.eval o).run Tryz.prog w = .ok (.value (.int .u8 (E[m].toNat : Int))) w := by
  have hm0 : (m : Int) < E.size := by omega
  have t : (Instr.index 9 (.string E) (.int .i64 (m : Int))).run Tryz.prog w = .ok (.int .u8 (E[m].toNat : Int)) w := by
    go_simp
  simp only [execOp, ho, hx, hk]
  simp [t]
theorem sub_48 {w : World} {a : Act} {o : Oper} {x : Nat} {c : Int} (h0 : 48 ≤ c) (h1 : c ≤ 57) (ho : o.op = .binOp .sub 5 (.tmp x) (.const (.int .u8 48)) 5) (hx : a.eval (.tmp x) = .int .u8 c) (hc : a.eval (.const (.int .u8 48)) = .int .u8 48) :
    (execOp a.eval o).run Tryz.prog w = .ok (.value (.int .u8 (c - 48))) w := by
  simp only [execOp, ho, hx, hc]
  go_simp
  rw [IntKind.wrap_u8]
  omega
theorem conv_8 {w : World} {a : Act} {o : Oper} {x : Nat} {c : Int} (h0 : 0 ≤ c) (h1 : c ≤ 9) (ho : o.op = .convert 5 39 (.tmp x)) (hx : a.eval (.tmp x) = .int .u8 c) :
    (execOp a.eval o).run Tryz.prog w = .ok (.value (.int .u64 c)) w := by
  simp only [execOp, ho, hx]
  go_simp
  rw [IntKind.wrap_u64]
  omega
theorem last_byte {E : ByteArray} {n : Nat} (h : E.size = n + 1) : E.data.toList.getLast? = some (E[n]'(by omega)) := by
  have e : E.data.toList.length - 1 = n := by rw [len_data]; omega
  rw [List.getLast?_eq_getElem?, e, List.getElem?_eq_getElem (by rw [len_data]; omega)]
  rfl
set_option maxHeartbeats 4000000 in
set_option maxRecDepth 100000 in
/-- the part behind the dot, from its first byte on -/
theorem eParse {w : World} (s : ByteArray) (hs : s.size ≤ 1000) :
    Calls Tryz.prog 69 #[.string s] w fun e w' => ∃ a k d, e = .returned (.tuple #[.agg #[.slice a k d], .int .i64 (decPE s.data.toList)]) ∧ NatO w' a k d (decPV s.data.toList) ∧ k ≤ 100000 ∧ Below w.heap.size w w' := by
  have B0 := below_alloc w (.cells #[.slice none 0 0] 46)
  have S0 := slot_new w (.slice none 0 0) 46
  have hlen := len_data s
  have HLEN := (show Hid _ from hlen)
  clear hlen
  have BAD : Hid (∀ W, decP s.data.toList = none → Below w.heap.size w W → ∃ a k d, Ending.returned (.tuple #[.agg #[.slice none 0 0], .int .i64 22]) = Ending.returned (.tuple #[.agg #[.slice a k d], .int .i64 (decPE s.data.toList)]) ∧ NatO W a k d (decPV s.data.toList) ∧ k ≤ 100000 ∧ Below w.heap.size w W) := by
    intro W h hB
    unfold decPE decPV
    rw [h]
    exact ⟨none, 0, 0, rfl, natO_nil _, Nat.zero_le _, hB⟩
  go_enter Tryz.func69, Tryz.ntmps69
  go_wp2_with fail
  go_loop [4, 5] (fun td ti => ∃ k : Nat, k ≤ s.size ∧ td = .int .i64 s.size ∧ ti = .int .i64 k ∧ Hid (∀ c ∈ s.data.toList.take k, c ≠ 46)) (fun _ ti => s.size - (intOf ti).toNat)
  case atStart => exact ⟨0, Nat.zero_le _, rfl, rfl, fun c hc => by simp at hc⟩
  case round =>
    obtain ⟨k, hk, rfl, rfl, HN⟩ := hrel
    by_cases hlt : k < s.size
    · have hk0 : (k : Int) < s.size := by omega
      by_cases hd : s[k].toNat = 46
      · have hb : ((s[k].toNat : Int) == 46) = true := by rw [beq_iff_eq]; omega
        have hI := idx_take hlt HN.out hd
        have HI := (show Hid _ from hI)
        have hkne : ((k : Int) == (s.size : Int)) = false := by rw [beq_eq_false_iff_ne]; omega
        clear hd hI HN
        have x1 : (s.extract 0 k).data.toList = s.data.toList.take k := by rw [ext_list, List.drop_zero, Nat.sub_zero]
        have x2 : (s.extract (k + 1) s.size).data.toList = s.data.toList.drop (k + 1) := by rw [ext_list, List.take_of_length_le (by rw [List.length_drop, len_data]; omega)]
        have HP : Hid (decP s.data.toList = if isT (s.extract 0 k).data.toList && plOk (s.extract (k + 1) s.size).data.toList then some (dval (s.extract 0 k).data.toList * U36 + dval (s.extract (k + 1) s.size).data.toList * 10 ^ (36 - (s.extract (k + 1) s.size).data.toList.length)) else none) := by
          show _ = _
          unfold decP
          rw [if_neg (by rw [HI.out]; omega), HI.out, Int.toNat_natCast, x1, x2]
        have z1 : (s.extract 0 k).size ≤ 1000 := by rw [ByteArray.size_extract]; omega
        have z2 : (s.extract (k + 1) s.size).size ≤ 1000 := by rw [ByteArray.size_extract]; omega
        clear x1 x2 HI
        have tP := fun w => rParse (w := w) (s.extract 0 k) (by omega)
        by_cases ht : isT (s.extract 0 k).data.toList = true
        · rw [(par_yes ht).1, (par_yes ht).2] at tP
          rw [ht, Bool.true_and] at HP
          clear ht
          generalize dval (s.extract 0 k).data.toList = X at *
          generalize hEE : s.extract (k + 1) s.size = E at *
          have HE := (show Hid _ from hEE)
          go_wp2_with fail
          refine (tP _).mono ?_
          rintro e w1 ⟨a1, k1, d1, rfl, O1, hk1, hB⟩
          replace S0 := S0.keep hB
          replace B0 := joinB B0 hB
          clear hB tP
          go_wp2_with fail
          refine (eOfNat O1.a (by omega)).mono ?_
          rintro e w2 ⟨a2, k2, d2, rfl, O2, hk2, hB⟩
          replace S0 := S0.keep hB
          replace B0 := joinB B0 hB
          have hg0 := S0.lt
          clear hB O1
          have S2 := (S0.put (.slice none 0 0)).alloc (.cells #[.slice a2 k2 d2] 46)
          have HBZ := joinB (B0.setCell (p := ⟨w.heap.size, 0, none⟩) (Nat.le_refl _) (.slice none 0 0)) (below_alloc _ (.cells #[.slice a2 k2 d2] 46))
          have BA := below_alloc w2 (.cells #[.slice a2 k2 d2] 46)
          have X8 := box_new w2 [.slice a2 k2 d2] 46
          replace O2 := O2.keep BA
          replace S0 := S0.keep BA
          replace B0 := joinB B0 BA
          clear BA
          have c0 := S0.cell
          have f0 := S0.free
          have LENE := len_data E
          have HL := (show Hid _ from LENE)
          clear LENE
          by_cases he0 : E.size = 0
          · have HN2 : Hid (decP s.data.toList = none) := by
              show _ = _
              rw [HP.out]
              have : E.data.toList = [] := List.eq_nil_of_length_eq_zero (by rw [HL.out]; exact he0)
              rw [this]; rfl
            have hz0 : ((E.size : Int) == 0) = true := by rw [beq_iff_eq]; omega
            clear he0 HP HL O2 X8
            go_wp2
            refine bodyPost_ret (ret_dec_tmp rfl rfl rfl S2) rfl ?_
            exact BAD.out _ HN2.out HBZ
          · obtain ⟨n, hn⟩ : ∃ n, E.size = n + 1 := ⟨E.size - 1, by omega⟩
            have hlast := last_byte hn
            have hnz : (((n : Int) + 1) == 0) = false := by rw [beq_eq_false_iff_ne]; omega
            clear he0
            by_cases h36 : 36 < n + 1
            · have HN2 : Hid (decP s.data.toList = none) := by
                show _ = _
                rw [HP.out, if_neg]
                unfold plOk
                rw [decide_eq_false (by rw [HL.out]; omega)]
                simp
              have h36' : (36 : Int) < (n : Int) + 1 := by omega
              clear HP HL O2 X8 hlast
              go_wp2
              refine bodyPost_ret (ret_dec_tmp rfl rfl rfl S2) rfl ?_
              exact BAD.out _ HN2.out HBZ
            · by_cases h48 : E[n].toNat = 48
              · have HN2 : Hid (decP s.data.toList = none) := by
                  show _ = _
                  rw [HP.out, if_neg]
                  unfold plOk
                  rw [hlast, show E[n] = 48 from UInt8.toNat_inj.1 h48]
                  simp
                have h36' : (n : Int) + 1 ≤ 36 := by omega
                have hb48 : ((E[n].toNat : Int) == 48) = true := by rw [beq_iff_eq]; omega
                clear HP HL O2 X8 hlast h48 h36
                go_wp2
                refine bodyPost_ret (ret_dec_tmp rfl rfl rfl S2) rfl ?_
                exact BAD.out _ HN2.out HBZ
              · have h36' : (n : Int) + 1 ≤ 36 := by omega
                have hb48 : ((E[n].toNat : Int) == 48) = false := by rw [beq_eq_false_iff_ne]; omega
                have HPL : Hid (plOk E.data.toList = E.data.toList.all isD) := by
                  show _ = _
                  unfold plOk
                  have hne : E.data.toList.isEmpty = false := by rw [List.isEmpty_eq_false_iff]; intro e; have := HL.out; rw [e] at this; simp at this; omega
                  have h4 : (E.data.toList.getLast? == some 48) = false := by
                    rw [hlast, beq_eq_false_iff_ne]
                    intro e
                    exact h48 (by rw [Option.some.inj e]; rfl)
                  rw [hne, decide_eq_true (by rw [HL.out]; omega), h4]
                  rfl
                clear hlast h48 S2 HBZ c0 f0
                go_wp2_with fail
                generalize w2.alloc (.cells #[.slice a2 k2 d2] 46) = W at *
                generalize w2.heap.size = g8 at *
                go_loopw [10, 11] (fun tr ti wr => ∃ (m : Nat) (A : Option Addr) (N C : Nat), m ≤ n + 1 ∧ ti = .int .i64 m ∧ tr = .slice A N C ∧ NatO wr A N C (dval (E.data.toList.take m)) ∧ Hid ((E.data.toList.take m).all isD = true) ∧ N ≤ m ∧ Below W.heap.size W wr) (fun _ ti _ => n + 1 - (intOf ti).toNat)
                case atStart => exact ⟨0, none, 0, 0, Nat.zero_le _, rfl, rfl, natO_nil _, rfl, Nat.le_refl _, Below.refl _ _⟩
                case round =>
                  obtain ⟨m, A, N, C, hm, rfl, rfl, OR, HA, hNm, BW⟩ := hrel
                  by_cases hmn : m < n + 1
                  · have hmE : m < E.size := by omega
                    have hm0 : (m : Int) < (n : Int) + 1 := by omega
                    by_cases hdg : isD E[m] = true
                    · have hd2 : (48 : Int) ≤ E[m].toNat ∧ (E[m].toNat : Int) ≤ 57 := by
                        simp only [isD, decide_eq_true_eq] at hdg; omega
                      obtain ⟨hd0, hd1⟩ := hd2
                      have HV : Hid (dval (E.data.toList.take (m + 1)) = dval (E.data.toList.take m) * 10 + ((E[m].toNat : Int) - 48)) := by show _ = _; rw [take_snoc E m hmE, dval_snoc, Int.mul_comm]
                      have HAL : Hid ((E.data.toList.take (m + 1)).all isD = true) := by show _ = _; rw [all_take_succ E m hmE, HA.out, hdg]; rfl
                      have HBD : Hid (dval (E.data.toList.take (m + 1)) < 18446744073709551616 ^ (m + 1)) := by
                        have h1 := (dval_bound HAL.out).2
                        have h2 : (E.data.toList.take (m + 1)).length = m + 1 := by rw [List.length_take, HL.out]; omega
                        rw [h2] at h1
                        have h3 := ten_le64 (m + 1)
                        show _ < _
                        omega
                      clear hdg HA
                      generalize dval (E.data.toList.take m) = V at *
                      go_wp2_with fail
                      refine rg_start (S := fun _ => True) (by kernel_rfl) trivial ?_
                      replace OR := OR.drew
                      replace BW := BW.drew
                      refine rg_take 0 (some 82) (.slice A N C) (by kernel_rfl) (fun _ _ => by kernel_rfl) (fun _ _ _ h => h) trivial ?_
                      refine rg_take 3 (some 85) (.string E) (by kernel_rfl) (fun _ _ => by kernel_rfl) (fun _ _ _ h => h) trivial ?_
                      refine rg_take 4 (some 86) (.int .i64 (m : Int)) (by kernel_rfl) (fun _ _ => by kernel_rfl) (fun _ _ _ h => h) trivial ?_
                      refine rg_take 5 (some 87) (.int .u8 (E[m].toNat : Int)) (by kernel_rfl) (fun _ _ => str_at (x := 85) (k := 86) hmE (by kernel_rfl) (by kernel_rfl) (by kernel_rfl)) (fun _ _ _ h => h) trivial ?_
                      refine rg_take 6 (some 88) (.int .u8 ((E[m].toNat : Int) - 48)) (by kernel_rfl) (fun _ _ => sub_48 (x := 87) hd0 hd1 (by kernel_rfl) (by kernel_rfl) (by kernel_rfl)) (fun _ _ _ h => h) trivial ?_
                      refine rg_take 7 (some 89) (.int .u64 ((E[m].toNat : Int) - 48)) (by kernel_rfl) (fun _ _ => conv_8 (x := 88) (by omega) (by omega) (by kernel_rfl) (by kernel_rfl)) (fun _ _ _ h => h) trivial ?_
                      refine rg_call 1 (some 83) 97 #[.int .u64 10] (by kernel_rfl) (by kernel_rfl) (rOf (x := 10) (by decide) (by decide)) ?_
                      rintro e v1 ⟨A1, N1, C1, rfl, P1, hp1, hB⟩
                      refine ⟨_, rfl, trivial, ?_⟩
                      replace OR := OR.keep hB
                      replace BW := joinB BW hB
                      clear hB
                      refine rg_call 2 (some 84) 103 #[.slice A N C, .slice A1 N1 C1] (by kernel_rfl) (by kernel_rfl) (rMul OR.a P1.a (by omega) (by omega)) ?_
                      rintro e v2 ⟨A2, N2, C2, rfl, P2, hp2, hB⟩
                      refine ⟨_, rfl, trivial, ?_⟩
                      replace BW := joinB BW hB
                      clear hB OR P1
                      refine rg_call 8 (some 90) 97 #[.int .u64 ((E[m].toNat : Int) - 48)] (by kernel_rfl) (by kernel_rfl) (rOf (x := (E[m].toNat : Int) - 48) (by omega) (by omega)) ?_
                      rintro e v3 ⟨A3, N3, C3, rfl, P3, hp3, hB⟩
                      refine ⟨_, rfl, trivial, ?_⟩
                      replace P2 := P2.keep hB
                      replace BW := joinB BW hB
                      clear hB
                      refine rg_call 9 (some 91) 105 #[.slice A2 N2 C2, .slice A3 N3 C3] (by kernel_rfl) (by kernel_rfl) (rAdd P2.a P3.a (by omega) (by omega)) ?_
                      rintro e v4 ⟨A4, N4, C4, rfl, P4, hp4, hB⟩
                      refine ⟨_, rfl, trivial, ?_⟩
                      replace BW := joinB BW hB
                      clear hB P2 P3
                      refine rg_take 10 (some 10) (.slice A4 N4 C4) (by kernel_rfl) (fun _ _ => by kernel_rfl) (fun _ _ _ h => h) trivial ?_
                      refine rg_done (by kernel_rfl) ?_
                      try simp only [Act.put, List.setIfInBounds_toArray, List.set_cons_zero, List.set_cons_succ]
                      replace P4 := P4.eqv HV.out.symm
                      have hN4 := natO_len2 P4 HBD.out
                      clear HV HBD hp1 hp2 hp3 hp4
                      go_wp2
                      go_roundw
                      case rel => exact ⟨m + 1, A4, N4, C4, by omega, by go_num, rfl, P4, HAL, hN4, BW⟩
                      case measure => simp [intOf]; omega
                    · have HN2 : Hid (decP s.data.toList = none) := by
                        show _ = _
                        rw [HP.out, HPL.out, if_neg]
                        intro hall
                        rw [List.all_eq_true] at hall
                        exact hdg (hall _ (by
                          have : E[m] = E.data.toList[m]'(by rw [HL.out]; exact hmE) := rfl
                          rw [this]; exact List.getElem_mem _))
                      have hS := S0.keep BW
                      have c0 := hS.cell
                      have f0 := hS.free
                      have S2 := hS.put (.slice none 0 0)
                      have HBZ := (joinB B0 BW).setCell (p := ⟨w.heap.size, 0, none⟩) (Nat.le_refl _) (.slice none 0 0)
                      have hr2 : (E[m].toNat : Int) < 48 ∨ (48 ≤ (E[m].toNat : Int) ∧ 57 < (E[m].toNat : Int)) := by
                        simp only [isD, decide_eq_true_eq] at hdg; omega
                      clear HP HPL HL hdg HA OR X8 O2 hS
                      rcases hr2 with hr | ⟨hr, hr'⟩
                      · go_wp2
                        refine bodyPost_ret (ret_dec_tmp rfl rfl rfl S2) rfl ?_
                        exact BAD.out _ HN2.out HBZ
                      · go_wp2
                        refine bodyPost_ret (ret_dec_tmp rfl rfl rfl S2) rfl ?_
                        exact BAD.out _ HN2.out HBZ
                  · obtain rfl : m = n + 1 := by omega
                    have hful : E.data.toList.take (n + 1) = E.data.toList := List.take_of_length_le (by rw [HL.out]; omega)
                    rw [hful] at OR
                    have HA2 : Hid (E.data.toList.all isD = true) := by show _ = _; rw [← hful]; exact HA.out
                    have HP2 : Hid (decP s.data.toList = some (X * U36 + dval E.data.toList * 10 ^ (36 - (n + 1)))) := by
                      show _ = _
                      rw [HP.out, HPL.out, HA2.out, HL.out, hn]
                      rfl
                    have hsub : ((36 : Int) - ((n : Int) + 1)) = ((36 - (n + 1) : Nat) : Int) := by omega
                    have tT := rPow (w := wr) (36 - (n + 1)) (by omega)
                    rw [← hsub] at tT
                    clear hsub HP HPL HA HA2 hful HL hmn
                    generalize dval E.data.toList = Y at *
                    replace O2 := O2.keep BW
                    replace X8 := X8.keep BW
                    replace S0 := S0.keep BW
                    replace B0 := joinB B0 BW
                    clear BW
                    have hx8 := X8.lt
                    go_wp2_with fail
                    refine tT.mono ?_
                    rintro e y1 ⟨A5, N5, C5, rfl, P5, hp5, hB⟩
                    replace O2 := O2.keep hB
                    replace OR := OR.keep hB
                    replace X8 := X8.keep hB
                    replace S0 := S0.keep hB
                    replace B0 := joinB B0 hB
                    clear hB tT
                    go_wp2_with fail
                    refine rg_start (S := fun w' => Box w' g8 [.slice a2 k2 d2] 46) (by kernel_rfl) X8.drew ?_
                    have hS := X8.drew
                    replace O2 := O2.drew
                    replace OR := OR.drew
                    replace P5 := P5.drew
                    have X4 : Box y1.drew w.heap.size [.slice none 0 0] 46 := ⟨S0.blk⟩
                    replace B0 := B0.drew
                    clear X8 S0
                    refine rg_load 0 (some 99) (.agg #[.slice a2 k2 d2]) 46 8 g8 0 (by kernel_rfl) (by kernel_rfl) (by kernel_rfl) (fun _ hs => load_dec hs.slot) (fun _ _ _ h => h) hS ?_
                    refine rg_take 1 (some 100) (.slice A N C) (by kernel_rfl) (fun _ _ => by kernel_rfl) (fun _ _ _ h => h) hS ?_
                    refine rg_take 2 (some 101) (.slice A5 N5 C5) (by kernel_rfl) (fun _ _ => by kernel_rfl) (fun _ _ _ h => h) hS ?_
                    refine rg_call 3 (some 102) 103 #[.slice A N C, .slice A5 N5 C5] (by kernel_rfl) (by kernel_rfl) (rMul OR.a P5.a (by omega) (by omega)) ?_
                    rintro e y2 ⟨A6, N6, C6, rfl, P6, hp6, hB⟩
                    refine ⟨_, rfl, hS.keep hB, ?_⟩
                    replace hS := hS.keep hB
                    replace O2 := O2.keep hB
                    replace X4 := X4.keep hB
                    replace B0 := joinB B0 hB
                    clear hB OR P5
                    refine rg_take 4 (some 103) (.agg #[.slice A6 N6 C6]) (by kernel_rfl) (fun _ _ => by kernel_rfl) (fun _ _ _ h => h) hS ?_
                    refine rg_call 5 (some 104) 58 #[.agg #[.slice a2 k2 d2], .agg #[.slice A6 N6 C6]] (by kernel_rfl) (by kernel_rfl) (eAdd O2.a P6.a (by omega) (by omega)) ?_
                    rintro e y3 ⟨A7, N7, C7, rfl, P7, hp7, hB⟩
                    refine ⟨_, rfl, hS.keep hB, ?_⟩
                    replace hS := hS.keep hB
                    replace X4 := X4.keep hB
                    replace B0 := joinB B0 hB
                    clear hB O2 P6
                    refine rg_ready [6] (by kernel_rfl) (by simp) ?_
                    refine ar_store 6 46 46 2 104 w.heap.size [.slice none 0 0] [.slice A7 N7 C7] (by kernel_rfl) (by kernel_rfl) (by kernel_rfl) (by kernel_rfl) X4 (by kernel_rfl) rfl (by kernel_rfl) ?_ ar_nil
                    intro y4 YY hw hB
                    refine ⟨hS.off (by omega) hw, ?_⟩
                    replace hS := hS.off (show g8 ≠ w.heap.size by omega) hw
                    replace B0 := B0.trans (hB.mono (Nat.le_refl _))
                    replace P7 := P7.blk X4 (no_ints1 _ _ _) hw
                    clear hB hw X4
                    refine rg_take 7 (some 3) (.int .i64 0) (by kernel_rfl) (fun _ _ => by kernel_rfl) (fun _ _ _ h => h) hS ?_
                    refine rg_done (by kernel_rfl) ?_
                    clear hS
                    try simp only [Act.put, List.setIfInBounds_toArray, List.set_cons_zero, List.set_cons_succ]
                    go_wp2
                    refine bodyPost_ret (ret_dec_tmp rfl rfl rfl YY.slot) rfl ?_
                    unfold decPE decPV
                    rw [HP2.out]
                    exact ⟨A7, N7, C7, rfl, P7, by omega, B0⟩
        · have ht' : isT (s.extract 0 k).data.toList = false := by simpa using ht
          rw [(par_no ht').1, (par_no ht').2] at tP
          have HN2 : Hid (decP s.data.toList = none) := by show _ = _; rw [HP.out, ht']; rfl
          clear ht ht' HP
          go_wp2_with fail
          refine (tP _).mono ?_
          rintro e w1 ⟨a1, k1, d1, rfl, O1, hk1, hB⟩
          replace S0 := S0.keep hB
          replace B0 := joinB B0 hB
          clear hB tP O1
          have c0 := S0.cell
          have f0 := S0.free
          have S2 := S0.put (.slice none 0 0)
          have HB := B0.setCell (p := ⟨w.heap.size, 0, none⟩) (Nat.le_refl _) (.slice none 0 0)
          clear S0 B0
          go_wp2
          refine bodyPost_ret (ret_dec_tmp rfl rfl rfl S2) rfl ?_
          exact BAD.out _ HN2.out HB
      · have hb : ((s[k].toNat : Int) == 46) = false := by rw [beq_eq_false_iff_ne]; omega
        have HN2 : Hid (∀ c ∈ s.data.toList.take (k + 1), c ≠ 46) := by
          intro c hc
          rw [take_snoc s k hlt] at hc
          rcases List.mem_append.1 hc with e | e
          · exact HN.out c e
          · rw [List.mem_singleton] at e
            subst e
            intro e
            exact hd (by rw [e]; rfl)
        clear hd HN
        go_wp2
        go_round
        case rel => exact ⟨k + 1, by omega, rfl, by go_num, HN2⟩
        case measure => simp [intOf]; omega
    · have hks : k = s.size := by omega
      have HI : Hid (Lib.indexByte s.data.toList 46 = -1) := idx_absent fun c hc => HN.out c (by rw [hks, ← HLEN.out, List.take_length]; exact hc)
      have hnk : (s.size : Int) ≤ k := by omega
      subst hks
      clear HN hlt
      have tP := fun w => rParse (w := w) s (by omega)
      by_cases ht : isT s.data.toList = true
      · rw [(par_yes ht).1, (par_yes ht).2] at tP
        have HP : Hid (decP s.data.toList = some (dval s.data.toList * U36)) := by show _ = _; unfold decP; rw [if_pos HI.out, if_pos ht]
        clear ht HI
        go_wp2_with fail
        refine (tP _).mono ?_
        rintro e w1 ⟨a1, k1, d1, rfl, O1, hk1, hB⟩
        replace S0 := S0.keep hB
        replace B0 := joinB B0 hB
        clear hB tP
        go_wp2_with fail
        refine (eOfNat O1.a (by omega)).mono ?_
        rintro e w2 ⟨a2, k2, d2, rfl, O2, hk2, hB⟩
        replace S0 := S0.keep hB
        replace B0 := joinB B0 hB
        clear hB O1
        have BA := below_alloc w2 (.cells #[.slice a2 k2 d2] 46)
        have SL := slot_new w2 (.slice a2 k2 d2) 46
        replace O2 := O2.keep BA
        replace S0 := S0.keep BA
        replace B0 := joinB B0 BA
        clear BA
        have cL := SL.cell
        have c0 := S0.cell
        have f0 := S0.free
        have S2 := S0.put (.slice a2 k2 d2)
        have O3 := O2.put S0 not_int (.slice a2 k2 d2)
        have HB := B0.setCell (p := ⟨w.heap.size, 0, none⟩) (Nat.le_refl _) (.slice a2 k2 d2)
        clear S0 B0 O2
        go_wp2
        refine bodyPost_ret (ret_dec_tmp rfl rfl rfl S2) rfl ?_
        unfold decPE decPV
        rw [HP.out]
        exact ⟨a2, k2, d2, rfl, O3, by omega, HB⟩
      · have ht' : isT s.data.toList = false := by simpa using ht
        rw [(par_no ht').1, (par_no ht').2] at tP
        have HN2 : Hid (decP s.data.toList = none) := by show _ = _; unfold decP; rw [if_pos HI.out, if_neg ht]
        clear ht ht' HI
        go_wp2_with fail
        refine (tP _).mono ?_
        rintro e w1 ⟨a1, k1, d1, rfl, O1, hk1, hB⟩
        replace S0 := S0.keep hB
        replace B0 := joinB B0 hB
        clear hB tP O1
        have c0 := S0.cell
        have f0 := S0.free
        have S2 := S0.put (.slice none 0 0)
        have HB := B0.setCell (p := ⟨w.heap.size, 0, none⟩) (Nat.le_refl _) (.slice none 0 0)
        clear S0 B0
        go_wp2
        refine bodyPost_ret (ret_dec_tmp rfl rfl rfl S2) rfl ?_
        exact BAD.out _ HN2.out HB
end Go.Proofs.YtjihgkanbhccpaaGreatDoor
