/- Several texts, joined: BLess, DBack. -/
import Derived.Test.YtjihgkanbhccpaaGreatDoorJda
import Derived.Test.YtjihgkanbhccpaaGreatDoorJna
namespace Go.Proofs.YtjihgkanbhccpaaGreatDoor
open Go.RowKit Lim

theorem bval_split (l : List Int) (i : Nat) : bval l = bval (l.take i) * 256 ^ (l.length - i) + bval (l.drop i) := by
  induction l generalizing i with
  | nil => simp [bval]
  | cons x l ih =>
    cases i with
    | zero => simp [bval]
    | succ i =>
      by_cases h : i ≤ l.length
      · simp only [List.take_succ_cons, List.drop_succ_cons, bval, List.length_cons, List.length_take, Nat.min_eq_left h]
        rw [ih i]
        have e : (256 : Int) ^ l.length = 256 ^ i * 256 ^ (l.length - i) := by rw [← Int.pow_add]; congr 1; omega
        rw [e, show l.length + 1 - (i + 1) = l.length - i by omega, Int.add_mul, Int.mul_assoc]
        omega
      · rw [List.take_of_length_le (by simp; omega), List.drop_of_length_le (by simp; omega), show (x :: l).length - (i + 1) = 0 by simp; omega]
        simp [bval]
theorem bval_less {l l' : List Int} {i : Nat} (ho : Octets l) (ho' : Octets l') (hl : l.length = l'.length) (hi : i < l.length) (he : ∀ j, j < i → nth l j = nth l' j) (hd : nth l i < nth l' i) : bval l < bval l' := by
  have e : l.take i = l'.take i := nth_ext (by simp [hl]) fun j hj => by
    have hj' : j < i := by simp at hj; omega
    rw [nth_take hj', nth_take hj']; exact he j hj'
  rw [bval_split l i, bval_split l' i, e, hl, bval_drop hi, bval_drop (l := l') (by omega)]
  have b1 := bval_bound (ho.drop (i + 1))
  have b2 := bval_bound (ho'.drop (i + 1))
  rw [List.length_drop] at b1 b2
  rw [show l.length - (i + 1) = l'.length - 1 - i by omega] at b1
  rw [hl]
  have h1 : (nth l i + 1) * 256 ^ (l'.length - 1 - i) ≤ nth l' i * 256 ^ (l'.length - 1 - i) := Int.mul_le_mul_of_nonneg_right (by omega) (Int.le_of_lt (Int.pow_pos (by decide)))
  rw [Int.add_mul, Int.one_mul] at h1
  omega

theorem text_isT {S : ByteArray} {n : Int} (h : TextOf S n) : isT S.data.toList = true ∧ dval S.data.toList = n := by
  obtain ⟨d, hd, hD, hv, h0, h1⟩ := h.bytes
  subst hd
  have hall : S.data.toList.all isD = true := by
    rw [List.all_eq_true]
    intro c hc
    have := hD _ (List.mem_map_of_mem hc)
    simp only [isD, decide_eq_true_eq]
    omega
  refine ⟨?_, ?_⟩
  · unfold isT
    rw [hall, Bool.and_true]
    rw [List.length_map] at h0 h1
    cases hl : S.data.toList with
    | nil => rw [hl] at h0; simp at h0
    | cons c t =>
      rw [hl] at h1
      simp only [List.map_cons, nth_zero, List.length_cons] at h1
      simp
      rcases h1 with e | e
      · right; simpa using e
      · left
        intro e'
        subst e'
        exact e rfl
  · rw [← hv]
    unfold dval dvI
    rw [List.foldl_map]
end Go.Proofs.YtjihgkanbhccpaaGreatDoor

namespace Go.Proofs.YtjihgkanbhccpaaGreatDoor
open Go.RowKit Lim

theorem ext_list (s : ByteArray) (a b : Nat) : (s.extract a b).data.toList = (s.data.toList.drop a).take (b - a) := by
  rw [ByteArray.data_extract, Array.toList_extract, List.extract_eq_take_drop]
theorem isD_ne46 {c : UInt8} (h : isD c = true) : (c == 46) = false := by
  rw [beq_eq_false_iff_ne]
  intro e
  subst e
  simp [isD] at h
theorem idx_none {l : List UInt8} (h : l.all isD = true) : Lib.indexByte l 46 = -1 := by
  induction l with
  | nil => rfl
  | cons c l ih =>
    simp only [List.all_cons, Bool.and_eq_true] at h
    simp [Lib.indexByte, isD_ne46 h.1, ih h.2]
theorem idx_app {l : List UInt8} (h : l.all isD = true) (m : List UInt8) : Lib.indexByte (l ++ 46 :: m) 46 = (l.length : Int) := by
  induction l with
  | nil => simp [Lib.indexByte]
  | cons c l ih =>
    simp only [List.all_cons, Bool.and_eq_true] at h
    have := ih h.2
    simp only [List.cons_append, Lib.indexByte, isD_ne46 h.1, this, List.length_cons]
    have hne : ((l.length : Int) == -1) = false := by rw [beq_eq_false_iff_ne]; omega
    simp [hne]
theorem dval_zeros {z : List UInt8} (h : ∀ c ∈ z, c = 48) : dval z = 0 := by
  induction z with
  | nil => rfl
  | cons c z ih =>
    have h1 := h c (List.mem_cons_self ..)
    have h2 := ih fun x hx => h x (List.mem_cons_of_mem _ hx)
    have := dval_append [c] z
    rw [List.singleton_append] at this
    rw [this, h2, h1]
    simp [dval]
theorem take_zeros (l : List UInt8) : ∀ c ∈ l.takeWhile (· == 48), c = 48 := by
  induction l with
  | nil => intro c hc; simp at hc
  | cons x l ih =>
    intro c hc
    by_cases e : x == 48
    · rw [List.takeWhile_cons_of_pos (p := (· == 48)) e] at hc
      rcases List.mem_cons.1 hc with h | h
      · rw [h]; exact eq_of_beq e
      · exact ih c h
    · rw [List.takeWhile_cons_of_neg (p := (· == 48)) e] at hc
      simp at hc
theorem drop_head (l : List UInt8) : (l.dropWhile (· == 48)).head? ≠ some 48 := by
  induction l with
  | nil => simp
  | cons x l ih =>
    by_cases e : x == 48
    · rw [List.dropWhile_cons_of_pos (p := (· == 48)) e]; exact ih
    · rw [List.dropWhile_cons_of_neg (p := (· == 48)) e]
      simp only [List.head?_cons, ne_eq, Option.some.injEq]
      intro h; subst h; simp at e
theorem trimR_val (F : List UInt8) : ∃ z : List UInt8, F = Lib.trimRightB F 48 ++ z ∧ ∀ c ∈ z, c = 48 := by
  refine ⟨(F.reverse.takeWhile (· == 48)).reverse, ?_, fun c hc => take_zeros F.reverse c (List.mem_reverse.1 hc)⟩
  unfold Lib.trimRightB
  rw [← List.reverse_append, List.takeWhile_append_dropWhile, List.reverse_reverse]
theorem trimL_val (F : List UInt8) : ∃ z : List UInt8, F = z ++ Lib.trimLeftB F 48 ∧ ∀ c ∈ z, c = 48 := by
  refine ⟨F.takeWhile (· == 48), ?_, take_zeros F⟩
  unfold Lib.trimLeftB
  rw [List.takeWhile_append_dropWhile]
theorem all_app {a b : List UInt8} (h : (a ++ b).all isD = true) : a.all isD = true ∧ b.all isD = true := by
  rw [List.all_append, Bool.and_eq_true] at h; exact h
theorem fr36_all {r : Int} (h : 0 ≤ r) : (fr36 r).all isD = true ∧ dval (fr36 r) = r % 10 ^ 36 := by
  have hd := digL_dig (k := 36) h
  have hv := digL_val (k := 36) h
  unfold fr36
  generalize digL 36 r = l at *
  rw [← hv]
  clear hv
  constructor
  · rw [List.all_eq_true]
    intro c hc
    obtain ⟨x, hx, rfl⟩ := List.mem_map.1 hc
    have := hd x hx
    simp only [isD, decide_eq_true_eq]
    have : x.toNat < 256 := by omega
    rw [UInt8.toNat_ofNat_of_lt' this]
    omega
  · have key : ∀ (l : List Int) (a : Int), DigI l → (l.map fun c => UInt8.ofNat c.toNat).foldl (fun x c => 10 * x + ((c.toNat : Int) - 48)) a = l.foldl (fun x c => 10 * x + (c - 48)) a := by
      intro l
      induction l with
      | nil => intro a _; rfl
      | cons x l ih =>
        intro a h
        have hx := h x (List.mem_cons_self ..)
        have : x.toNat < 256 := by omega
        rw [List.map_cons, List.foldl_cons, List.foldl_cons, ih _ fun c hc => h c (List.mem_cons_of_mem _ hc), UInt8.toNat_ofNat_of_lt' this]
        congr 1
        omega
    exact key l 0 hd
theorem frac_back {r : Int} (h0 : 0 < r) (h1 : r < U36) : isT (Lib.trimLeftB (Lib.trimRightB (fr36 r) 48) 48) = true ∧ Lib.hasSuffix (Lib.trimRightB (fr36 r) 48) [48] = false ∧ (Lib.trimRightB (fr36 r) 48).length ≤ 36 ∧ dval (Lib.trimLeftB (Lib.trimRightB (fr36 r) 48) 48) * 10 ^ (36 - (Lib.trimRightB (fr36 r) 48).length) = r := by
  obtain ⟨hall, hval⟩ := fr36_all (r := r) (by omega)
  have hlen := fr36_length r
  rw [show (10 : Int) ^ 36 = U36 from rfl, Int.emod_eq_of_lt (by omega) h1] at hval
  obtain ⟨z, e1, hz⟩ := trimR_val (fr36 r)
  have hsuf : Lib.hasSuffix (Lib.trimRightB (fr36 r) 48) [48] = false := by
    unfold Lib.hasSuffix Lib.trimRightB
    have hd := drop_head (fr36 r).reverse
    generalize (fr36 r).reverse.dropWhile (· == 48) = Dd at *
    rw [List.isSuffixOf, List.reverse_reverse]
    cases Dd with
    | nil => rfl
    | cons c Dd =>
      simp only [List.head?_cons, ne_eq, Option.some.injEq] at hd
      simp only [List.reverse_cons, List.reverse_nil, List.nil_append, List.isPrefixOf]
      rw [beq_eq_false_iff_ne.2 (Ne.symm hd)]
      rfl
  generalize hR : Lib.trimRightB (fr36 r) 48 = R at *
  obtain ⟨y, e2, hy⟩ := trimL_val R
  have hLh := drop_head R
  have hlR : R.length + z.length = 36 := by
    rw [← hlen, ← List.length_append, ← e1]
  generalize hL : Lib.trimLeftB R 48 = L at *
  have hv1 : dval R * 10 ^ z.length = r := by
    rw [← hval]; conv => rhs; rw [e1]
    rw [dval_append, dval_zeros hz, Int.add_zero]
  have hv2 : dval L = dval R := by
    conv => rhs; rw [e2]
    rw [dval_append, dval_zeros hy, Int.zero_mul, Int.zero_add]
  have hallR : R.all isD = true := by rw [e1] at hall; exact (all_app hall).1
  have hallL : L.all isD = true := by rw [e2] at hallR; exact (all_app hallR).2
  have hLe : Lib.trimLeftB R 48 = R.dropWhile (· == 48) := rfl
  rw [hL] at hLe
  refine ⟨?_, hsuf, by omega, ?_⟩
  · unfold isT
    have hne : L.isEmpty = false := by
      rw [List.isEmpty_eq_false_iff]
      intro e
      rw [e] at hv2
      have : dval R = 0 := hv2.symm
      rw [this, Int.zero_mul] at hv1
      omega
    have hh : (L.head? == some 48) = false := by
      rw [beq_eq_false_iff_ne, hLe]; exact hLh
    rw [hne, hh, hallL]
    rfl
  · rw [hv2, show 36 - R.length = z.length by omega]
    exact hv1
set_option maxHeartbeats 2000000 in
set_option maxRecDepth 100000 in
theorem cut_no (s : ByteArray) (w : World) (h : Lib.indexByte s.data.toList 46 = -1) :
    Calls Tryz.prog 112 #[.string s, .string ⟨#[46]⟩] w fun e w' => e = .returned (.tuple #[.string s, .string ByteArray.empty, .bool false]) ∧ Below w.heap.size w w' := by
  have t := Tryz.stringslite_Index_one s 46
  rw [h] at t
  clear h
  go_enter Tryz.func112, Tryz.ntmps112
  go_wp2_with (first
    | (go_at_call 171; refine (t _).mono ?_; rintro e w' ⟨rfl, rfl⟩)
    | go_in)
  go_ret3
  exact ⟨rfl, Below.refl _ _⟩
set_option maxHeartbeats 2000000 in
set_option maxRecDepth 100000 in
theorem dParse_nodot (s : ByteArray) (w : World) (hs : s.size ≤ 1000000) (h : Lib.indexByte s.data.toList 46 = -1) (ht : isT s.data.toList = true) :
    Calls Tryz.prog 68 #[.string s] w fun e w' => ∃ a k d, e = .returned (.tuple #[.agg #[.slice a k d], .int .i64 0]) ∧ NatO w' a k d (dval s.data.toList * U36) ∧ k ≤ s.size + 200 ∧ Below w.heap.size w w' := by
  have B0 := below_alloc w (.cells #[.slice none 0 0] 46)
  have S0 := slot_new w (.slice none 0 0) 46
  have tC := fun w => cut_no s w h
  have tP := fun w => parse_yes s w (by omega) ht
  clear h ht
  generalize dval s.data.toList = X at *
  go_enter Tryz.func68, Tryz.ntmps68
  go_wp2_with fail
  refine (tC _).mono ?_
  rintro e w1 ⟨rfl, hB⟩
  have S0 := S0.keep hB
  have B0 := joinB B0 hB
  clear hB tC
  go_wp2_with fail
  refine (tP _).mono ?_
  rintro e w2 ⟨v, r, rfl, hnw, hI, hlr, hB⟩
  obtain ⟨a, d, rfl, hO⟩ := hnw.o hI
  have S0 := S0.keep hB
  have B0 := joinB B0 hB
  clear hB hnw hI tP
  go_wp2_with fail
  refine (dOfNat hO.a (by omega)).mono ?_
  rintro e w3 ⟨a', k', d', rfl, hO', hk', hB⟩
  have S1 := S0.keep hB
  have c1 := S1.cell
  have f1 := S1.free
  have S2 := S1.put (.slice a' k' d')
  have hO1 := hO'.put S1 not_int (.slice a' k' d')
  have HB := belowPut B0 hB (g := w.heap.size) (Nat.le_refl _) (.slice a' k' d')
  clear hO hO' hB S0 S1 B0
  go_wp2
  refine bodyPost_ret (ret_dec_tmp rfl rfl rfl S2) rfl ?_
  exact ⟨a', k', d', rfl, hO1, by omega, HB⟩
theorem dParse_text {S : ByteArray} {x : Int} (hS : DText S x) (hsz : S.size ≤ 1000000) (w : World) :
    Calls Tryz.prog 68 #[.string S] w fun e w' => ∃ a k d, e = .returned (.tuple #[.agg #[.slice a k d], .int .i64 0]) ∧ NatO w' a k d x ∧ k ≤ S.size + 200 ∧ Below w.heap.size w w' := by
  obtain ⟨Sw, hw, he⟩ := hS.ex
  obtain ⟨hT, hV⟩ := text_isT hw
  have hall : Sw.data.toList.all isD = true := by simp only [isT, Bool.and_eq_true] at hT; exact hT.2
  have hup := U36_pos
  have hr0 : 0 ≤ x % U36 := Int.emod_nonneg _ (by omega)
  have hr1 : x % U36 < U36 := Int.emod_lt_of_pos _ hup
  have hdm : x / U36 * U36 + x % U36 = x := by rw [Int.mul_comm]; exact Int.mul_ediv_add_emod x U36
  unfold fracT at he
  by_cases hz : x % U36 = 0
  · rw [if_pos hz, List.append_nil] at he
    have t := dParse_nodot S w hsz (by rw [he]; exact idx_none hall) (by rw [he]; exact hT)
    rw [he, hV, show x / U36 * U36 = x by omega] at t
    exact t
  · rw [if_neg hz] at he
    obtain ⟨f1, f2, f3, f4⟩ := frac_back (r := x % U36) (by omega) hr1
    generalize Lib.trimRightB (fr36 (x % U36)) 48 = R at *
    have hlen : S.size = Sw.data.toList.length + (R.length + 1) := by
      rw [← len_data, he, List.length_append, List.length_cons]
    have x1 : (S.extract 0 Sw.data.toList.length).data.toList = Sw.data.toList := by
      rw [ext_list, he, List.drop_zero, Nat.sub_zero, List.take_left']
      rfl
    have x2 : (S.extract (Sw.data.toList.length + 1) S.size).data.toList = R := by
      rw [ext_list, he, List.drop_append, List.drop_eq_nil_of_le (by omega), List.nil_append, show Sw.data.toList.length + 1 - Sw.data.toList.length = 1 by omega, List.drop_one, List.tail_cons, List.take_of_length_le (by omega)]
    have x3 : (S.extract (Sw.data.toList.length + 1) S.size).size = R.length := by rw [← len_data, x2]
    have t := dParse_ok S Sw.data.toList.length w hsz (by rw [he]; exact idx_app hall R) (by omega) (by rw [x1]; exact hT) (by rw [x3]; exact f3) (by rw [x2]; exact f2) (by rw [x2]; exact f1)
    rw [x1, x2, x3, hV, f4, hdm] at t
    exact t
end Go.Proofs.YtjihgkanbhccpaaGreatDoor
