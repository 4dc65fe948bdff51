/- Several texts, joined: ShB, ShC. -/
import Derived.Test.YtgflacmnfegjlaaDoorJca
import Derived.Test.YtgflacmnfegjlaaDoorJab
namespace Go.Proofs.YtgflacmnfegjlaaDoor
namespace Sh
open Go.RowKit Go.Lib Pg Lim
attribute [local go_sem] Oper.semAt_some
theorem rem_rng {M y : Int} (_h : 0 ≤ y ∧ y < 18446744073709551616) (h0 : 0 < M) (h1 : M ≤ 18446744073709551616) : 0 ≤ y % M ∧ y % M < 18446744073709551616 := by
  have a := Int.emod_nonneg y (show M ≠ 0 by omega)
  have b := Int.emod_lt_of_pos y h0
  omega
theorem re_rng {T S x : Int} (h : 0 ≤ T ∧ T < 18446744073709551616) (hx : 0 ≤ x) : 0 ≤ reV T S x ∧ reV T S x < 18446744073709551616 := by
  have := reV_rng (S := S) h.1 hx
  omega
theorem cut_rng {n p : Int} (h : 0 ≤ n ∧ n < 18446744073709551616) (hp : 0 ≤ p ∧ p < 18446744073709551616) : 0 ≤ n * min p 10000 / 10000 ∧ n * min p 10000 / 10000 < 18446744073709551616 := by
  have h1 := cut_n (q := p) h.1
  have h2 : 0 ≤ n * min p 10000 / 10000 := Int.ediv_nonneg (Int.mul_nonneg h.1 (by omega)) (by decide)
  omega
theorem run_rem {a : Act} {w : World} {o : Oper} {x : Nat} {p : Int} (ho : o.op = .binOp .rem 22 (.tmp x) (.const (.int .u64 1000000000000000000)) 22) (hx : a.eval (.tmp x) = .int .u64 p) (hp : 0 ≤ p ∧ p < 18446744073709551616) : (execOp a.eval o).run Tryd.prog w = .ok (.value (.int .u64 (p % 1000000000000000000))) w := by
  have hx' : a.tmps[x]?.getD undef = .int .u64 p := by simpa [Act.eval] using hx
  have e : p.tmod 1000000000000000000 = p % 1000000000000000000 := Int.tmod_eq_emod_of_nonneg hp.1
  have e1 := Int.emod_nonneg p (show (1000000000000000000 : Int) ≠ 0 by decide)
  have e2 := Int.emod_lt_of_pos p (show (0 : Int) < 1000000000000000000 by decide)
  have e3 : p % 1000000000000000000 % 18446744073709551616 = p % 1000000000000000000 := Int.emod_eq_of_lt e1 (by omega)
  simp only [execOp, ho]
  go_simp
  try simp [e, e3]
theorem wrap_u {p : Int} (h : 0 ≤ p ∧ p < 18446744073709551616) : IntKind.u64.wrap p = p := by
  rw [IntKind.wrap_u64]
  omega
theorem run_addu {a : Act} {w : World} {o : Oper} {x y : Nat} {p q : Int} (ho : o.op = .binOp .add 22 (.tmp x) (.tmp y) 22) (hx : a.eval (.tmp x) = .int .u64 p) (hy : a.eval (.tmp y) = .int .u64 q) (h : 0 ≤ p + q ∧ p + q < 18446744073709551616) : (execOp a.eval o).run Tryd.prog w = .ok (.value (.int .u64 (p + q))) w := by
  have hx' : a.tmps[x]?.getD undef = .int .u64 p := by simpa [Act.eval] using hx
  have hy' : a.tmps[y]?.getD undef = .int .u64 q := by simpa [Act.eval] using hy
  simp only [execOp, ho]
  go_simp
  exact wrap_u h
theorem run_subu {a : Act} {w : World} {o : Oper} {x y : Nat} {p q : Int} (ho : o.op = .binOp .sub 22 (.tmp x) (.tmp y) 22) (hx : a.eval (.tmp x) = .int .u64 p) (hy : a.eval (.tmp y) = .int .u64 q) (h : 0 ≤ p - q ∧ p - q < 18446744073709551616) : (execOp a.eval o).run Tryd.prog w = .ok (.value (.int .u64 (p - q))) w := by
  have hx' : a.tmps[x]?.getD undef = .int .u64 p := by simpa [Act.eval] using hx
  have hy' : a.tmps[y]?.getD undef = .int .u64 q := by simpa [Act.eval] using hy
  simp only [execOp, ho]
  go_simp
  exact wrap_u h
theorem str_sameC {w : World} {a : Act} {o : Oper} {x : Nat} {s : ByteArray} (ho : o.op = .binOp .eql 9 (.tmp x) (.const (.string s)) 9) (hx : a.eval (.tmp x) = .string s) :
    (execOp a.eval o).run Tryd.prog w = .ok (.value (.bool true)) w := by
  have hx' : a.tmps[x]?.getD undef = .string s := by simpa [Act.eval] using hx
  simp only [execOp, ho]
  go_simp
theorem one_limb {w : World} {g : Nat} {t : TypeId} (X : Blk w g [.int .u64 1] t) : NatA w (some ⟨g, 0, none⟩) 1 1 1 :=
  ⟨g, 0, [1], rfl, Nat.le_refl _, fun x hx => by simp at hx; omega, ⟨.inr rfl, fun i hi => by
    have : i = 0 := by simp at hi; omega
    subst this
    exact X.cell rfl⟩, by decide⟩
theorem textL {w : World} {ao : Option Addr} {n c : Nat} {x : Int} (h : NatA w ao n c x) (hn : n ≤ 4294967000) (hx : x / U36 < 100) (l wl : List UInt8) (hd : (wl.map (fun c => (c.toNat : Int))).all (fun c => decide (48 ≤ c ∧ c ≤ 57)) = true) (hv : dvI (wl.map (fun c => (c.toNat : Int))) = x / U36) (h0 : 0 < wl.length) (h1 : wl.length = 1 ∨ nth (wl.map (fun c => (c.toNat : Int))) 0 ≠ 48) (hl : l = wl ++ fracT (x % U36)) :
    Calls Tryd.prog 17 #[.agg #[.slice ao n c]] w fun e w' => e = .returned (.string ⟨l.toArray⟩) ∧ Below w.heap.size w w' := by
  refine (dText h hn (appAll_small hx)).mono ?_
  rintro e w' ⟨S, rfl, hS, _, hB⟩
  exact ⟨by rw [dtext_is hS l wl hd hv h0 h1 hl], hB⟩
theorem sIssueL {w : World} {T t : Int} {a0 : Option Addr} {n0 c0 : Nat} {x0 v er : Int} (hT : 0 ≤ T ∧ T < 18446744073709551616) (h0 : NatA w a0 n0 c0 x0) (k0 : n0 ≤ 100000) (ht : 0 ≤ t ∧ t < 18446744073709551616) (hv : isV T x0 t = v) (he : isE T x0 t = er) :
    Calls Tryd.prog 14 #[.int .u64 T, .agg #[.slice a0 n0 c0], .int .u64 t] w fun e w' => ∃ a k d, e = .returned (.tuple #[.agg #[.slice a k d], .int .i64 er]) ∧ NatO w' a k d v ∧ k ≤ n0 + 41 ∧ Below w.heap.size w w' := by
  subst hv he; exact sIssue hT h0 k0 ht
theorem sNeedL {w : World} {T t : Int} {a0 : Option Addr} {n0 c0 : Nat} {x0 v er : Int} (hT : 0 ≤ T ∧ T < 18446744073709551616) (h0 : NatA w a0 n0 c0 x0) (k0 : n0 ≤ 100000) (ht : 0 ≤ t ∧ t < 18446744073709551616) (hv : neV T x0 t = v) (he : neE T t = er) :
    Calls Tryd.prog 15 #[.int .u64 T, .agg #[.slice a0 n0 c0], .int .u64 t] w fun e w' => ∃ a k d, e = .returned (.tuple #[.agg #[.slice a k d], .int .i64 er]) ∧ NatO w' a k d v ∧ k ≤ n0 + 41 ∧ Below w.heap.size w w' := by
  subst hv he; exact sNeed hT h0 k0 ht
theorem sRedeemL {w : World} {T : Int} {a0 a1 : Option Addr} {n0 c0 n1 c1 : Nat} {x0 x1 v er : Int} (hT : 0 ≤ T ∧ T < 18446744073709551616) (h0 : NatA w a0 n0 c0 x0) (k0 : n0 ≤ 100000) (h1 : NatA w a1 n1 c1 x1) (k1 : n1 ≤ 100000) (hv : reV T x0 x1 = v) (he : reE x0 x1 = er) :
    Calls Tryd.prog 8 #[.int .u64 T, .agg #[.slice a0 n0 c0], .agg #[.slice a1 n1 c1]] w fun e w' => e = .returned (.tuple #[.int .u64 v, .int .i64 er]) ∧ Below w.heap.size w w' := by
  subst hv he; exact sRedeem hT h0 k0 h1 k1
theorem sCutL {w : World} {n p v : Int} (hn : 0 ≤ n ∧ n < 18446744073709551616) (hp : 0 ≤ p ∧ p < 18446744073709551616) (hv : n * min p 10000 / 10000 = v) :
    Calls Tryd.prog 18 #[.int .u64 n, .int .u64 p] w fun e w' => e = .returned (.int .u64 v) ∧ Below w.heap.size w w' := by
  subst hv; exact sCut hn hp
def smallS (vs : List (Option Addr × Nat × Nat)) : Bool := vs.all fun v => decide (v.2.1 ≤ 12)

set_option maxHeartbeats 1000000 in
set_option maxRecDepth 100000 in
theorem smallS_any (vs : List (Option Addr × Nat × Nat)) (g n c : Nat) (w : World) (hn : vs.length = n) (hbig : n ≤ 1000) (hlen : ∀ i, (theNth vs i).2.1 ≤ 9223372036854775807)
    (hcell : ∀ i, i < n → w.cell? ⟨g, i, none⟩ = some (.slice (theNth vs i).1 (theNth vs i).2.1 (theNth vs i).2.2)) :
    Calls Tryd.prog 5 #[.slice (some ⟨g, 0, none⟩) n c] w fun e w' => e = .returned (.bool (smallS vs)) ∧ w' = w := by
  have HF : Hid (∀ i, i < n → 12 < (theNth vs i).2.1 → smallS vs = false) := by
    intro i hi h40
    unfold smallS
    rw [Bool.eq_false_iff]
    intro hall
    rw [List.all_eq_true] at hall
    have e : theNth vs i = vs[i]'(by omega) := by simp [theNth, List.getElem?_eq_getElem (show i < vs.length by omega)]
    have := hall (theNth vs i) (by rw [e]; exact List.getElem_mem _)
    simp at this; omega
  have HT : Hid ((∀ i, i < n → (theNth vs i).2.1 ≤ 12) → smallS vs = true) := by
    intro h
    unfold smallS
    rw [List.all_eq_true]
    intro v hv
    obtain ⟨i, hi, rfl⟩ := List.getElem_of_mem hv
    have := h i (by omega)
    have e : theNth vs i = vs[i] := by simp [theNth, List.getElem?_eq_getElem hi]
    rw [e] at this
    simpa using this
  go_enter Tryd.func5, Tryd.ntmps5
  go_wp2
  go_loop [3] (fun ti => ∃ k : Nat, k ≤ n ∧ ti = .int .i64 k ∧ Hid (∀ i, i < k → (theNth vs i).2.1 ≤ 12)) (fun ti => n - (RowKit.intOf ti).toNat)
  case atStart => exact ⟨0, Nat.zero_le _, rfl, fun i hi => by omega⟩
  case round =>
    obtain ⟨k, hk, rfl, hz⟩ := hrel
    by_cases hlt : k < n
    · have q1 := hcell k hlt
      have hl1 := hlen k
      have hk0 : (k : Int) < n := by omega
      have HF1 : Hid (12 < (theNth vs k).2.1 → smallS vs = false) := HF.out k hlt
      have HZ1 : Hid ((theNth vs k).2.1 ≤ 12 → ∀ i, i < k + 1 → (theNth vs i).2.1 ≤ 12) := by
        intro h i hi
        by_cases e : i = k
        · subst e; exact h
        · exact hz.out i (by omega)
      clear hcell hlen
      generalize (theNth vs k).1 = a at *
      generalize (theNth vs k).2.2 = c' at *
      generalize (theNth vs k).2.1 = m at *
      by_cases h40 : 12 < m
      · go_wp2
        go_ret
        exact ⟨retB (HF1.out h40).symm, rfl⟩
      · have h41 := HZ1.out (by omega)
        have H41 := (show Hid _ from h41)
        clear h41
        go_wp2
        go_round
        case rel => exact ⟨k + 1, by omega, by go_num, H41⟩
        case measure => simp [RowKit.intOf]; omega
    · go_wp2
      go_ret
      exact ⟨retB (HT.out fun i hi => hz.out i (by omega)).symm, rfl⟩

theorem small1 {w : World} {g : Nat} {t : TypeId} {a0 : Option Addr} {n0 c0 : Nat} (X : Blk w g [.slice a0 n0 c0] t) (l0 : n0 ≤ 9223372036854775807) (r : Bool) (hr : decide (n0 ≤ 12) = r) :
    Calls Tryd.prog 5 #[.slice (some ⟨g, 0, none⟩) 1 1] w fun e w' => e = .returned (.bool r) ∧ Below w.heap.size w w' := by
  refine (smallS_any [(a0, n0, c0)] g 1 1 w rfl (by decide) (fun i => by
    match i with
    | 0 => exact l0
    | _ + 1 => exact Nat.zero_le _) (fun i hi => by
    match i, hi with
    | 0, _ => exact X.cell rfl)).mono ?_
  rintro e w' ⟨rfl, rfl⟩
  refine ⟨by rw [← hr]; simp [smallS], Below.refl _ _⟩
theorem small2 {w : World} {g : Nat} {t : TypeId} {a0 a1 : Option Addr} {n0 c0 n1 c1 : Nat} (X : Blk w g [.slice a0 n0 c0, .slice a1 n1 c1] t) (l0 : n0 ≤ 9223372036854775807) (l1 : n1 ≤ 9223372036854775807) (r : Bool) (hr : decide (n0 ≤ 12 ∧ n1 ≤ 12) = r) :
    Calls Tryd.prog 5 #[.slice (some ⟨g, 0, none⟩) 2 2] w fun e w' => e = .returned (.bool r) ∧ Below w.heap.size w w' := by
  refine (smallS_any [(a0, n0, c0), (a1, n1, c1)] g 2 2 w rfl (by decide) (fun i => by
    match i with
    | 0 => exact l0
    | 1 => exact l1
    | _ + 2 => exact Nat.zero_le _) (fun i hi => by
    match i, hi with
    | 0, _ => exact X.cell rfl
    | 1, _ => exact X.cell rfl)).mono ?_
  rintro e w' ⟨rfl, rfl⟩
  refine ⟨by rw [← hr]; simp [smallS], Below.refl _ _⟩
theorem small3 {w : World} {g : Nat} {t : TypeId} {a0 a1 a2 : Option Addr} {n0 c0 n1 c1 n2 c2 : Nat} (X : Blk w g [.slice a0 n0 c0, .slice a1 n1 c1, .slice a2 n2 c2] t) (l0 : n0 ≤ 9223372036854775807) (l1 : n1 ≤ 9223372036854775807) (l2 : n2 ≤ 9223372036854775807) (r : Bool) (hr : decide (n0 ≤ 12 ∧ n1 ≤ 12 ∧ n2 ≤ 12) = r) :
    Calls Tryd.prog 5 #[.slice (some ⟨g, 0, none⟩) 3 3] w fun e w' => e = .returned (.bool r) ∧ Below w.heap.size w w' := by
  refine (smallS_any [(a0, n0, c0), (a1, n1, c1), (a2, n2, c2)] g 3 3 w rfl (by decide) (fun i => by
    match i with
    | 0 => exact l0
    | 1 => exact l1
    | 2 => exact l2
    | _ + 3 => exact Nat.zero_le _) (fun i hi => by
    match i, hi with
    | 0, _ => exact X.cell rfl
    | 1, _ => exact X.cell rfl
    | 2, _ => exact X.cell rfl)).mono ?_
  rintro e w' ⟨rfl, rfl⟩
  refine ⟨by rw [← hr]; simp [smallS], Below.refl _ _⟩
theorem sgn_le_iff (x y : Int) : decide (sgn x y ≤ 0) = decide (x ≤ y) := by
  unfold sgn
  by_cases h : x < y
  · rw [if_pos h, decide_eq_true (by omega : x ≤ y)]; rfl
  · rw [if_neg h]
    by_cases h2 : y < x
    · rw [if_pos h2, decide_eq_false (by omega : ¬ x ≤ y)]; rfl
    · rw [if_neg h2, decide_eq_true (by omega : x ≤ y)]; rfl
set_option maxRecDepth 100000 in
theorem ldx24 {w : World} {g o : Nat} {v0 : Value} (c0 : w.cell? ⟨g, o, none⟩ = some v0) : (loadVar 27 ⟨g, o, none⟩).run Tryd.prog w = .ok (v0) w := by go_simp
theorem bsx24_1c {a : Act} {o : Oper} (ho : o.op = .buildSlice 27 1 #[(0, .const (.int .u64 1))]) (w : World) : (execOp a.eval o).run Tryd.prog w = .ok (.value (.slice (some ⟨w.heap.size, 0, none⟩) 1 1)) (w.alloc (.cells [.int .u64 1].toArray 22)) := by
  simp only [execOp, ho]
  go_simp
set_option maxHeartbeats 4000000 in
set_option maxRecDepth 100000 in
theorem knownS {w : World} : Calls Tryd.prog 4 #[] w fun e w' => e = .returned (.bool true) ∧ Below w.heap.size w w' := by
  have BB := Below.refl w.heap.size w
  go_enter Tryd.func4, Tryd.ntmps4
  refine wp_seq ?_
  refine wl_start ?_
  refine wl_take (some 0) (.bool false) rfl rfl (by kernel_rfl) ?_
  refine wl_nil ?_
  refine wp_then ?_
  refine wp_frame (a' := ⟨#[(.bool false), undef, undef, undef, undef, undef, undef, undef, undef, undef, undef, undef, undef, undef, undef, undef, undef, undef, undef, undef, undef, undef, undef, undef, undef, undef, undef, undef, undef, undef, undef, undef, undef, undef, undef, undef, undef, undef, undef, undef, undef, undef, undef, undef, undef, undef, undef, undef, undef, undef, undef, undef, undef, undef, undef, undef, undef, undef, undef, undef, undef, undef, undef, undef, undef, undef, undef, undef, undef, undef, undef, undef, undef, undef, undef, undef, undef, undef, undef, undef, undef, undef, undef, undef, undef, undef, undef, undef, undef, undef, undef, undef, undef, undef, undef, undef, undef, undef, undef, undef, undef, undef, undef, undef, undef, undef, undef, undef, undef, undef, undef, undef, undef, undef, undef, undef, undef, undef, undef, undef, undef, undef, undef, undef, undef, undef, undef, undef, undef, undef, undef], []⟩) (by kernel_rfl) ?_
  refine wp_seq ?_
  refine wl_start ?_
  refine wl_take (some 21) (.agg #[.slice none 0 0]) rfl rfl (by kernel_rfl) ?_
  refine wl_call (some 22) 14 #[.int .u64 0, .agg #[.slice none 0 0], .int .u64 5] rfl rfl (by kernel_rfl) (sIssueL (T := 0) (x0 := 0) (t := 5) (v := 5000000000000000000000000000000000000) (er := 0) ⟨by decide, by decide⟩ (natO_nil _).a (by omega) ⟨by decide, by decide⟩ (by decide +kernel) (by decide +kernel)) ?_
  rintro e1 v1w ⟨Az1, Nz1, Cz1, rfl, Oz1, Kz1, B⟩
  refine ⟨_, rfl, ?_⟩
  replace BB := joinB BB B
  clear B
  refine wl_take (some 20) (.tuple #[.agg #[.slice Az1 Nz1 Cz1], .int .i64 0]) rfl rfl (by kernel_rfl) ?_
  refine wl_take (some 23) (.agg #[.slice Az1 Nz1 Cz1]) rfl rfl (by kernel_rfl) ?_
  refine wl_take (some 24) (.int .i64 0) rfl rfl (by kernel_rfl) ?_
  have bs1 := BB.size
  refine wl_new 1 23 29 [.slice none 0 0] [.slice Az1 Nz1 Cz1] rfl rfl rfl rfl rfl rfl allocx26 (fun _ => by kernel_rfl) (fun _ => by kernel_rfl) (by kernel_rfl) rfl (by kernel_rfl) ?_
  intro v2w g2v X1 hg2v B
  replace Oz1 := Oz1.keep B
  replace BB := joinB BB B
  clear B
  refine wl_take (some 2) (.int .i64 0) rfl rfl (by kernel_rfl) ?_
  refine wl_nil ?_
  refine wp_then ?_
  refine wp_frame (a' := ⟨#[(.bool false), (.pointer (some ⟨g2v, 0, none⟩)), (.int .i64 0), undef, undef, undef, undef, undef, undef, undef, undef, undef, undef, undef, undef, undef, undef, undef, undef, undef, (.tuple #[.agg #[.slice Az1 Nz1 Cz1], .int .i64 0]), (.agg #[.slice none 0 0]), (.tuple #[.agg #[.slice Az1 Nz1 Cz1], .int .i64 0]), (.agg #[.slice Az1 Nz1 Cz1]), (.int .i64 0), undef, undef, undef, undef, undef, undef, undef, undef, undef, undef, undef, undef, undef, undef, undef, undef, undef, undef, undef, undef, undef, undef, undef, undef, undef, undef, undef, undef, undef, undef, undef, undef, undef, undef, undef, undef, undef, undef, undef, undef, undef, undef, undef, undef, undef, undef, undef, undef, undef, undef, undef, undef, undef, undef, undef, undef, undef, undef, undef, undef, undef, undef, undef, undef, undef, undef, undef, undef, undef, undef, undef, undef, undef, undef, undef, undef, undef, undef, undef, undef, undef, undef, undef, undef, undef, undef, undef, undef, undef, undef, undef, undef, undef, undef, undef, undef, undef, undef, undef, undef, undef, undef, undef, undef, undef, undef], []⟩) (by kernel_rfl) ?_
  refine wp_seq ?_
  refine wl_start ?_
  refine wl_call (some 26) 13 #[.int .u64 3] rfl rfl (by kernel_rfl) (dOf (x := 3) (by decide) (by decide)) ?_
  rintro e1 v3w ⟨Az2, Nz2, Cz2, rfl, Oz2, Kz2, B⟩
  refine ⟨_, rfl, ?_⟩
  replace Oz1 := Oz1.keep B
  replace X1 := X1.keep B
  replace BB := joinB BB B
  clear B
  replace Oz2 := Oz2.eqv (show _ = (3000000000000000000000000000000000000 : Int) from by decide +kernel)
  refine wl_call (some 27) 14 #[.int .u64 2, .agg #[.slice Az2 Nz2 Cz2], .int .u64 5] rfl rfl (by kernel_rfl) (sIssueL (T := 2) (x0 := 3000000000000000000000000000000000000) (t := 5) (v := 7500000000000000000000000000000000000) (er := 0) ⟨by decide, by decide⟩ Oz2.a (by omega) ⟨by decide, by decide⟩ (by decide +kernel) (by decide +kernel)) ?_
  rintro e1 v4w ⟨Az3, Nz3, Cz3, rfl, Oz3, Kz3, B⟩
  refine ⟨_, rfl, ?_⟩
  replace Oz1 := Oz1.keep B
  replace X1 := X1.keep B
  replace Oz2 := Oz2.keep B
  replace BB := joinB BB B
  clear B
  refine wl_take (some 25) (.tuple #[.agg #[.slice Az3 Nz3 Cz3], .int .i64 0]) rfl rfl (by kernel_rfl) ?_
  refine wl_take (some 28) (.agg #[.slice Az3 Nz3 Cz3]) rfl rfl (by kernel_rfl) ?_
  refine wl_take (some 29) (.int .i64 0) rfl rfl (by kernel_rfl) ?_
  have bs4 := BB.size
  refine wl_new 3 28 29 [.slice none 0 0] [.slice Az3 Nz3 Cz3] rfl rfl rfl rfl rfl rfl allocx26 (fun _ => by kernel_rfl) (fun _ => by kernel_rfl) (by kernel_rfl) rfl (by kernel_rfl) ?_
  intro v5w g5v X3 hg5v B
  replace Oz1 := Oz1.keep B
  replace X1 := X1.keep B
  replace Oz2 := Oz2.keep B
  replace Oz3 := Oz3.keep B
  replace BB := joinB BB B
  clear B
  refine wl_take (some 4) (.int .i64 0) rfl rfl (by kernel_rfl) ?_
  refine wl_nil ?_
  refine wp_then ?_
  refine wp_frame (a' := ⟨#[(.bool false), (.pointer (some ⟨g2v, 0, none⟩)), (.int .i64 0), (.pointer (some ⟨g5v, 0, none⟩)), (.int .i64 0), undef, undef, undef, undef, undef, undef, undef, undef, undef, undef, undef, undef, undef, undef, undef, (.tuple #[.agg #[.slice Az1 Nz1 Cz1], .int .i64 0]), (.agg #[.slice none 0 0]), (.tuple #[.agg #[.slice Az1 Nz1 Cz1], .int .i64 0]), (.agg #[.slice Az1 Nz1 Cz1]), (.int .i64 0), (.tuple #[.agg #[.slice Az3 Nz3 Cz3], .int .i64 0]), (.agg #[.slice Az2 Nz2 Cz2]), (.tuple #[.agg #[.slice Az3 Nz3 Cz3], .int .i64 0]), (.agg #[.slice Az3 Nz3 Cz3]), (.int .i64 0), undef, undef, undef, undef, undef, undef, undef, undef, undef, undef, undef, undef, undef, undef, undef, undef, undef, undef, undef, undef, undef, undef, undef, undef, undef, undef, undef, undef, undef, undef, undef, undef, undef, undef, undef, undef, undef, undef, undef, undef, undef, undef, undef, undef, undef, undef, undef, undef, undef, undef, undef, undef, undef, undef, undef, undef, undef, undef, undef, undef, undef, undef, undef, undef, undef, undef, undef, undef, undef, undef, undef, undef, undef, undef, undef, undef, undef, undef, undef, undef, undef, undef, undef, undef, undef, undef, undef, undef, undef, undef, undef, undef, undef, undef, undef, undef, undef, undef, undef, undef, undef], []⟩) (by kernel_rfl) ?_
  refine wp_seq ?_
  refine wl_start ?_
  refine wl_call (some 31) 13 #[.int .u64 1] rfl rfl (by kernel_rfl) (dOf (x := 1) (by decide) (by decide)) ?_
  rintro e1 v6w ⟨Az4, Nz4, Cz4, rfl, Oz4, Kz4, B⟩
  refine ⟨_, rfl, ?_⟩
  replace Oz1 := Oz1.keep B
  replace X1 := X1.keep B
  replace Oz2 := Oz2.keep B
  replace Oz3 := Oz3.keep B
  replace X3 := X3.keep B
  replace BB := joinB BB B
  clear B
  replace Oz4 := Oz4.eqv (show _ = (1000000000000000000000000000000000000 : Int) from by decide +kernel)
  refine wl_call (some 32) 14 #[.int .u64 0, .agg #[.slice Az4 Nz4 Cz4], .int .u64 5] rfl rfl (by kernel_rfl) (sIssueL (T := 0) (x0 := 1000000000000000000000000000000000000) (t := 5) (v := 0) (er := 100) ⟨by decide, by decide⟩ Oz4.a (by omega) ⟨by decide, by decide⟩ (by decide +kernel) (by decide +kernel)) ?_
  rintro e1 v7w ⟨Az5, Nz5, Cz5, rfl, Oz5, Kz5, B⟩
  refine ⟨_, rfl, ?_⟩
  replace Oz1 := Oz1.keep B
  replace X1 := X1.keep B
  replace Oz2 := Oz2.keep B
  replace Oz3 := Oz3.keep B
  replace X3 := X3.keep B
  replace Oz4 := Oz4.keep B
  replace BB := joinB BB B
  clear B
  refine wl_take (some 30) (.tuple #[.agg #[.slice Az5 Nz5 Cz5], .int .i64 100]) rfl rfl (by kernel_rfl) ?_
  refine wl_take (some 33) (.agg #[.slice Az5 Nz5 Cz5]) rfl rfl (by kernel_rfl) ?_
  refine wl_take (some 34) (.int .i64 100) rfl rfl (by kernel_rfl) ?_
  have bs7 := BB.size
  refine wl_new 5 33 29 [.slice none 0 0] [.slice Az5 Nz5 Cz5] rfl rfl rfl rfl rfl rfl allocx26 (fun _ => by kernel_rfl) (fun _ => by kernel_rfl) (by kernel_rfl) rfl (by kernel_rfl) ?_
  intro v8w g8v X5 hg8v B
  replace Oz1 := Oz1.keep B
  replace X1 := X1.keep B
  replace Oz2 := Oz2.keep B
  replace Oz3 := Oz3.keep B
  replace X3 := X3.keep B
  replace Oz4 := Oz4.keep B
  replace Oz5 := Oz5.keep B
  replace BB := joinB BB B
  clear B
  refine wl_take (some 6) (.int .i64 100) rfl rfl (by kernel_rfl) ?_
  refine wl_nil ?_
  refine wp_then ?_
  refine wp_frame (a' := ⟨#[(.bool false), (.pointer (some ⟨g2v, 0, none⟩)), (.int .i64 0), (.pointer (some ⟨g5v, 0, none⟩)), (.int .i64 0), (.pointer (some ⟨g8v, 0, none⟩)), (.int .i64 100), undef, undef, undef, undef, undef, undef, undef, undef, undef, undef, undef, undef, undef, (.tuple #[.agg #[.slice Az1 Nz1 Cz1], .int .i64 0]), (.agg #[.slice none 0 0]), (.tuple #[.agg #[.slice Az1 Nz1 Cz1], .int .i64 0]), (.agg #[.slice Az1 Nz1 Cz1]), (.int .i64 0), (.tuple #[.agg #[.slice Az3 Nz3 Cz3], .int .i64 0]), (.agg #[.slice Az2 Nz2 Cz2]), (.tuple #[.agg #[.slice Az3 Nz3 Cz3], .int .i64 0]), (.agg #[.slice Az3 Nz3 Cz3]), (.int .i64 0), (.tuple #[.agg #[.slice Az5 Nz5 Cz5], .int .i64 100]), (.agg #[.slice Az4 Nz4 Cz4]), (.tuple #[.agg #[.slice Az5 Nz5 Cz5], .int .i64 100]), (.agg #[.slice Az5 Nz5 Cz5]), (.int .i64 100), undef, undef, undef, undef, undef, undef, undef, undef, undef, undef, undef, undef, undef, undef, undef, undef, undef, undef, undef, undef, undef, undef, undef, undef, undef, undef, undef, undef, undef, undef, undef, undef, undef, undef, undef, undef, undef, undef, undef, undef, undef, undef, undef, undef, undef, undef, undef, undef, undef, undef, undef, undef, undef, undef, undef, undef, undef, undef, undef, undef, undef, undef, undef, undef, undef, undef, undef, undef, undef, undef, undef, undef, undef, undef, undef, undef, undef, undef, undef, undef, undef, undef, undef, undef, undef, undef, undef, undef, undef, undef, undef, undef, undef, undef, undef, undef], []⟩) (by kernel_rfl) ?_
  refine wp_seq ?_
  refine wl_start ?_
  refine wl_call (some 36) 13 #[.int .u64 4] rfl rfl (by kernel_rfl) (dOf (x := 4) (by decide) (by decide)) ?_
  rintro e1 v9w ⟨Az6, Nz6, Cz6, rfl, Oz6, Kz6, B⟩
  refine ⟨_, rfl, ?_⟩
  replace Oz1 := Oz1.keep B
  replace X1 := X1.keep B
  replace Oz2 := Oz2.keep B
  replace Oz3 := Oz3.keep B
  replace X3 := X3.keep B
  replace Oz4 := Oz4.keep B
  replace Oz5 := Oz5.keep B
  replace X5 := X5.keep B
  replace BB := joinB BB B
  clear B
  replace Oz6 := Oz6.eqv (show _ = (4000000000000000000000000000000000000 : Int) from by decide +kernel)
  refine wl_call (some 37) 13 #[.int .u64 1] rfl rfl (by kernel_rfl) (dOf (x := 1) (by decide) (by decide)) ?_
  rintro e1 v10w ⟨Az7, Nz7, Cz7, rfl, Oz7, Kz7, B⟩
  refine ⟨_, rfl, ?_⟩
  replace Oz1 := Oz1.keep B
  replace X1 := X1.keep B
  replace Oz2 := Oz2.keep B
  replace Oz3 := Oz3.keep B
  replace X3 := X3.keep B
  replace Oz4 := Oz4.keep B
  replace Oz5 := Oz5.keep B
  replace X5 := X5.keep B
  replace Oz6 := Oz6.keep B
  replace BB := joinB BB B
  clear B
  replace Oz7 := Oz7.eqv (show _ = (1000000000000000000000000000000000000 : Int) from by decide +kernel)
  refine wl_call (some 38) 8 #[.int .u64 10, .agg #[.slice Az6 Nz6 Cz6], .agg #[.slice Az7 Nz7 Cz7]] rfl rfl (by kernel_rfl) (sRedeemL (T := 10) (x0 := 4000000000000000000000000000000000000) (x1 := 1000000000000000000000000000000000000) (v := 2) (er := 0) ⟨by decide, by decide⟩ Oz6.a (by omega) Oz7.a (by omega) (by decide +kernel) (by decide +kernel)) ?_
  rintro e1 v11w ⟨rfl, B⟩
  refine ⟨_, rfl, ?_⟩
  replace Oz1 := Oz1.keep B
  replace X1 := X1.keep B
  replace Oz2 := Oz2.keep B
  replace Oz3 := Oz3.keep B
  replace X3 := X3.keep B
  replace Oz4 := Oz4.keep B
  replace Oz5 := Oz5.keep B
  replace X5 := X5.keep B
  replace Oz6 := Oz6.keep B
  replace Oz7 := Oz7.keep B
  replace BB := joinB BB B
  clear B
  refine wl_take (some 35) (.tuple #[.int .u64 2, .int .i64 0]) rfl rfl (by kernel_rfl) ?_
  refine wl_take (some 39) (.int .u64 2) rfl rfl (by kernel_rfl) ?_
  refine wl_take (some 40) (.int .i64 0) rfl rfl (by kernel_rfl) ?_
  refine wl_take (some 7) (.int .u64 2) rfl rfl (by kernel_rfl) ?_
  refine wl_take (some 8) (.int .i64 0) rfl rfl (by kernel_rfl) ?_
  refine wl_nil ?_
  refine wp_then ?_
  refine wp_frame (a' := ⟨#[(.bool false), (.pointer (some ⟨g2v, 0, none⟩)), (.int .i64 0), (.pointer (some ⟨g5v, 0, none⟩)), (.int .i64 0), (.pointer (some ⟨g8v, 0, none⟩)), (.int .i64 100), (.int .u64 2), (.int .i64 0), undef, undef, undef, undef, undef, undef, undef, undef, undef, undef, undef, (.tuple #[.agg #[.slice Az1 Nz1 Cz1], .int .i64 0]), (.agg #[.slice none 0 0]), (.tuple #[.agg #[.slice Az1 Nz1 Cz1], .int .i64 0]), (.agg #[.slice Az1 Nz1 Cz1]), (.int .i64 0), (.tuple #[.agg #[.slice Az3 Nz3 Cz3], .int .i64 0]), (.agg #[.slice Az2 Nz2 Cz2]), (.tuple #[.agg #[.slice Az3 Nz3 Cz3], .int .i64 0]), (.agg #[.slice Az3 Nz3 Cz3]), (.int .i64 0), (.tuple #[.agg #[.slice Az5 Nz5 Cz5], .int .i64 100]), (.agg #[.slice Az4 Nz4 Cz4]), (.tuple #[.agg #[.slice Az5 Nz5 Cz5], .int .i64 100]), (.agg #[.slice Az5 Nz5 Cz5]), (.int .i64 100), (.tuple #[.int .u64 2, .int .i64 0]), (.agg #[.slice Az6 Nz6 Cz6]), (.agg #[.slice Az7 Nz7 Cz7]), (.tuple #[.int .u64 2, .int .i64 0]), (.int .u64 2), (.int .i64 0), undef, undef, undef, undef, undef, undef, undef, undef, undef, undef, undef, undef, undef, undef, undef, undef, undef, undef, undef, undef, undef, undef, undef, undef, undef, undef, undef, undef, undef, undef, undef, undef, undef, undef, undef, undef, undef, undef, undef, undef, undef, undef, undef, undef, undef, undef, undef, undef, undef, undef, undef, undef, undef, undef, undef, undef, undef, undef, undef, undef, undef, undef, undef, undef, undef, undef, undef, undef, undef, undef, undef, undef, undef, undef, undef, undef, undef, undef, undef, undef, undef, undef, undef, undef, undef, undef, undef, undef, undef, undef], []⟩) (by kernel_rfl) ?_
  refine wp_seq ?_
  refine wl_start ?_
  refine wl_call (some 42) 13 #[.int .u64 4] rfl rfl (by kernel_rfl) (dOf (x := 4) (by decide) (by decide)) ?_
  rintro e1 v12w ⟨Az8, Nz8, Cz8, rfl, Oz8, Kz8, B⟩
  refine ⟨_, rfl, ?_⟩
  replace Oz1 := Oz1.keep B
  replace X1 := X1.keep B
  replace Oz2 := Oz2.keep B
  replace Oz3 := Oz3.keep B
  replace X3 := X3.keep B
  replace Oz4 := Oz4.keep B
  replace Oz5 := Oz5.keep B
  replace X5 := X5.keep B
  replace Oz6 := Oz6.keep B
  replace Oz7 := Oz7.keep B
  replace BB := joinB BB B
  clear B
  replace Oz8 := Oz8.eqv (show _ = (4000000000000000000000000000000000000 : Int) from by decide +kernel)
  refine wl_call (some 43) 15 #[.int .u64 10, .agg #[.slice Az8 Nz8 Cz8], .int .u64 3] rfl rfl (by kernel_rfl) (sNeedL (T := 10) (x0 := 4000000000000000000000000000000000000) (t := 3) (v := 1200000000000000000000000000000000000) (er := 0) ⟨by decide, by decide⟩ Oz8.a (by omega) ⟨by decide, by decide⟩ (by decide +kernel) (by decide +kernel)) ?_
  rintro e1 v13w ⟨Az9, Nz9, Cz9, rfl, Oz9, Kz9, B⟩
  refine ⟨_, rfl, ?_⟩
  replace Oz1 := Oz1.keep B
  replace X1 := X1.keep B
  replace Oz2 := Oz2.keep B
  replace Oz3 := Oz3.keep B
  replace X3 := X3.keep B
  replace Oz4 := Oz4.keep B
  replace Oz5 := Oz5.keep B
  replace X5 := X5.keep B
  replace Oz6 := Oz6.keep B
  replace Oz7 := Oz7.keep B
  replace Oz8 := Oz8.keep B
  replace BB := joinB BB B
  clear B
  refine wl_take (some 41) (.tuple #[.agg #[.slice Az9 Nz9 Cz9], .int .i64 0]) rfl rfl (by kernel_rfl) ?_
  refine wl_take (some 44) (.agg #[.slice Az9 Nz9 Cz9]) rfl rfl (by kernel_rfl) ?_
  refine wl_take (some 45) (.int .i64 0) rfl rfl (by kernel_rfl) ?_
  have bs13 := BB.size
  refine wl_new 9 44 29 [.slice none 0 0] [.slice Az9 Nz9 Cz9] rfl rfl rfl rfl rfl rfl allocx26 (fun _ => by kernel_rfl) (fun _ => by kernel_rfl) (by kernel_rfl) rfl (by kernel_rfl) ?_
  intro v14w g14v X9 hg14v B
  replace Oz1 := Oz1.keep B
  replace X1 := X1.keep B
  replace Oz2 := Oz2.keep B
  replace Oz3 := Oz3.keep B
  replace X3 := X3.keep B
  replace Oz4 := Oz4.keep B
  replace Oz5 := Oz5.keep B
  replace X5 := X5.keep B
  replace Oz6 := Oz6.keep B
  replace Oz7 := Oz7.keep B
  replace Oz8 := Oz8.keep B
  replace Oz9 := Oz9.keep B
  replace BB := joinB BB B
  clear B
  refine wl_take (some 10) (.int .i64 0) rfl rfl (by kernel_rfl) ?_
  refine wl_nil ?_
  refine wp_then ?_
  refine wp_frame (a' := ⟨#[(.bool false), (.pointer (some ⟨g2v, 0, none⟩)), (.int .i64 0), (.pointer (some ⟨g5v, 0, none⟩)), (.int .i64 0), (.pointer (some ⟨g8v, 0, none⟩)), (.int .i64 100), (.int .u64 2), (.int .i64 0), (.pointer (some ⟨g14v, 0, none⟩)), (.int .i64 0), undef, undef, undef, undef, undef, undef, undef, undef, undef, (.tuple #[.agg #[.slice Az1 Nz1 Cz1], .int .i64 0]), (.agg #[.slice none 0 0]), (.tuple #[.agg #[.slice Az1 Nz1 Cz1], .int .i64 0]), (.agg #[.slice Az1 Nz1 Cz1]), (.int .i64 0), (.tuple #[.agg #[.slice Az3 Nz3 Cz3], .int .i64 0]), (.agg #[.slice Az2 Nz2 Cz2]), (.tuple #[.agg #[.slice Az3 Nz3 Cz3], .int .i64 0]), (.agg #[.slice Az3 Nz3 Cz3]), (.int .i64 0), (.tuple #[.agg #[.slice Az5 Nz5 Cz5], .int .i64 100]), (.agg #[.slice Az4 Nz4 Cz4]), (.tuple #[.agg #[.slice Az5 Nz5 Cz5], .int .i64 100]), (.agg #[.slice Az5 Nz5 Cz5]), (.int .i64 100), (.tuple #[.int .u64 2, .int .i64 0]), (.agg #[.slice Az6 Nz6 Cz6]), (.agg #[.slice Az7 Nz7 Cz7]), (.tuple #[.int .u64 2, .int .i64 0]), (.int .u64 2), (.int .i64 0), (.tuple #[.agg #[.slice Az9 Nz9 Cz9], .int .i64 0]), (.agg #[.slice Az8 Nz8 Cz8]), (.tuple #[.agg #[.slice Az9 Nz9 Cz9], .int .i64 0]), (.agg #[.slice Az9 Nz9 Cz9]), (.int .i64 0), undef, undef, undef, undef, undef, undef, undef, undef, undef, undef, undef, undef, undef, undef, undef, undef, undef, undef, undef, undef, undef, undef, undef, undef, undef, undef, undef, undef, undef, undef, undef, undef, undef, undef, undef, undef, undef, undef, undef, undef, undef, undef, undef, undef, undef, undef, undef, undef, undef, undef, undef, undef, undef, undef, undef, undef, undef, undef, undef, undef, undef, undef, undef, undef, undef, undef, undef, undef, undef, undef, undef, undef, undef, undef, undef, undef, undef, undef, undef, undef, undef, undef, undef, undef, undef], []⟩) (by kernel_rfl) ?_
  refine wp_seq ?_
  refine wl_start ?_
  refine wl_list 46 [.int .u64 1] 22 rfl rfl (bsx24_1c (by kernel_rfl)) ?_
  intro v15w g15v L15 hg15v B
  replace Oz1 := Oz1.keep B
  replace X1 := X1.keep B
  replace Oz2 := Oz2.keep B
  replace Oz3 := Oz3.keep B
  replace X3 := X3.keep B
  replace Oz4 := Oz4.keep B
  replace Oz5 := Oz5.keep B
  replace X5 := X5.keep B
  replace Oz6 := Oz6.keep B
  replace Oz7 := Oz7.keep B
  replace Oz8 := Oz8.keep B
  replace Oz9 := Oz9.keep B
  replace X9 := X9.keep B
  replace BB := joinB BB B
  clear B
  have N10b := one_limb L15
  refine wl_take (some 47) (.agg #[.slice (some ⟨g15v, 0, none⟩) 1 1]) rfl rfl (by kernel_rfl) ?_
  have bs15 := BB.size
  refine wl_new 11 47 29 [.slice none 0 0] [.slice (some ⟨g15v, 0, none⟩) 1 1] rfl rfl rfl rfl rfl rfl allocx26 (fun _ => by kernel_rfl) (fun _ => by kernel_rfl) (by kernel_rfl) rfl (by kernel_rfl) ?_
  intro v16w g16v X11 hg16v B
  replace Oz1 := Oz1.keep B
  replace X1 := X1.keep B
  replace Oz2 := Oz2.keep B
  replace Oz3 := Oz3.keep B
  replace X3 := X3.keep B
  replace Oz4 := Oz4.keep B
  replace Oz5 := Oz5.keep B
  replace X5 := X5.keep B
  replace Oz6 := Oz6.keep B
  replace Oz7 := Oz7.keep B
  replace Oz8 := Oz8.keep B
  replace Oz9 := Oz9.keep B
  replace X9 := X9.keep B
  replace L15 := L15.keep B
  replace N10b := N10b.keep B
  replace BB := joinB BB B
  clear B
  refine wl_nil ?_
  refine wp_then ?_
  refine wp_frame (a' := ⟨#[(.bool false), (.pointer (some ⟨g2v, 0, none⟩)), (.int .i64 0), (.pointer (some ⟨g5v, 0, none⟩)), (.int .i64 0), (.pointer (some ⟨g8v, 0, none⟩)), (.int .i64 100), (.int .u64 2), (.int .i64 0), (.pointer (some ⟨g14v, 0, none⟩)), (.int .i64 0), (.pointer (some ⟨g16v, 0, none⟩)), undef, undef, undef, undef, undef, undef, undef, undef, (.tuple #[.agg #[.slice Az1 Nz1 Cz1], .int .i64 0]), (.agg #[.slice none 0 0]), (.tuple #[.agg #[.slice Az1 Nz1 Cz1], .int .i64 0]), (.agg #[.slice Az1 Nz1 Cz1]), (.int .i64 0), (.tuple #[.agg #[.slice Az3 Nz3 Cz3], .int .i64 0]), (.agg #[.slice Az2 Nz2 Cz2]), (.tuple #[.agg #[.slice Az3 Nz3 Cz3], .int .i64 0]), (.agg #[.slice Az3 Nz3 Cz3]), (.int .i64 0), (.tuple #[.agg #[.slice Az5 Nz5 Cz5], .int .i64 100]), (.agg #[.slice Az4 Nz4 Cz4]), (.tuple #[.agg #[.slice Az5 Nz5 Cz5], .int .i64 100]), (.agg #[.slice Az5 Nz5 Cz5]), (.int .i64 100), (.tuple #[.int .u64 2, .int .i64 0]), (.agg #[.slice Az6 Nz6 Cz6]), (.agg #[.slice Az7 Nz7 Cz7]), (.tuple #[.int .u64 2, .int .i64 0]), (.int .u64 2), (.int .i64 0), (.tuple #[.agg #[.slice Az9 Nz9 Cz9], .int .i64 0]), (.agg #[.slice Az8 Nz8 Cz8]), (.tuple #[.agg #[.slice Az9 Nz9 Cz9], .int .i64 0]), (.agg #[.slice Az9 Nz9 Cz9]), (.int .i64 0), (.slice (some ⟨g15v, 0, none⟩) 1 1), (.agg #[.slice (some ⟨g15v, 0, none⟩) 1 1]), undef, undef, undef, undef, undef, undef, undef, undef, undef, undef, undef, undef, undef, undef, undef, undef, undef, undef, undef, undef, undef, undef, undef, undef, undef, undef, undef, undef, undef, undef, undef, undef, undef, undef, undef, undef, undef, undef, undef, undef, undef, undef, undef, undef, undef, undef, undef, undef, undef, undef, undef, undef, undef, undef, undef, undef, undef, undef, undef, undef, undef, undef, undef, undef, undef, undef, undef, undef, undef, undef, undef, undef, undef, undef, undef, undef, undef, undef, undef, undef, undef, undef, undef], []⟩) (by kernel_rfl) ?_
  refine wp_seq ?_
  refine wl_start ?_
  refine wl_take (some 49) (.agg #[.slice (some ⟨g15v, 0, none⟩) 1 1]) rfl rfl (run_lp 11 (by kernel_rfl) (by kernel_rfl) (ldx26 (X11.cell (i := 0) rfl))) ?_
  refine wl_take (some 50) (.agg #[.slice (some ⟨g15v, 0, none⟩) 1 1]) rfl rfl (run_lp 11 (by kernel_rfl) (by kernel_rfl) (ldx26 (X11.cell (i := 0) rfl))) ?_
  refine wl_call (some 51) 8 #[.int .u64 5, .agg #[.slice (some ⟨g15v, 0, none⟩) 1 1], .agg #[.slice (some ⟨g15v, 0, none⟩) 1 1]] rfl rfl (by kernel_rfl) (sRedeemL (T := 5) (x0 := 1) (x1 := 1) (v := 5) (er := 0) ⟨by decide, by decide⟩ N10b (by omega) N10b (by omega) (by decide +kernel) (by decide +kernel)) ?_
  rintro e1 v17w ⟨rfl, B⟩
  refine ⟨_, rfl, ?_⟩
  replace Oz1 := Oz1.keep B
  replace X1 := X1.keep B
  replace Oz2 := Oz2.keep B
  replace Oz3 := Oz3.keep B
  replace X3 := X3.keep B
  replace Oz4 := Oz4.keep B
  replace Oz5 := Oz5.keep B
  replace X5 := X5.keep B
  replace Oz6 := Oz6.keep B
  replace Oz7 := Oz7.keep B
  replace Oz8 := Oz8.keep B
  replace Oz9 := Oz9.keep B
  replace X9 := X9.keep B
  replace L15 := L15.keep B
  replace N10b := N10b.keep B
  replace X11 := X11.keep B
  replace BB := joinB BB B
  clear B
  refine wl_take (some 48) (.tuple #[.int .u64 5, .int .i64 0]) rfl rfl (by kernel_rfl) ?_
  refine wl_take (some 52) (.int .u64 5) rfl rfl (by kernel_rfl) ?_
  refine wl_take (some 53) (.int .i64 0) rfl rfl (by kernel_rfl) ?_
  refine wl_take (some 12) (.int .u64 5) rfl rfl (by kernel_rfl) ?_
  refine wl_take (some 13) (.int .i64 0) rfl rfl (by kernel_rfl) ?_
  refine wl_nil ?_
  refine wp_then ?_
  refine wp_frame (a' := ⟨#[(.bool false), (.pointer (some ⟨g2v, 0, none⟩)), (.int .i64 0), (.pointer (some ⟨g5v, 0, none⟩)), (.int .i64 0), (.pointer (some ⟨g8v, 0, none⟩)), (.int .i64 100), (.int .u64 2), (.int .i64 0), (.pointer (some ⟨g14v, 0, none⟩)), (.int .i64 0), (.pointer (some ⟨g16v, 0, none⟩)), (.int .u64 5), (.int .i64 0), undef, undef, undef, undef, undef, undef, (.tuple #[.agg #[.slice Az1 Nz1 Cz1], .int .i64 0]), (.agg #[.slice none 0 0]), (.tuple #[.agg #[.slice Az1 Nz1 Cz1], .int .i64 0]), (.agg #[.slice Az1 Nz1 Cz1]), (.int .i64 0), (.tuple #[.agg #[.slice Az3 Nz3 Cz3], .int .i64 0]), (.agg #[.slice Az2 Nz2 Cz2]), (.tuple #[.agg #[.slice Az3 Nz3 Cz3], .int .i64 0]), (.agg #[.slice Az3 Nz3 Cz3]), (.int .i64 0), (.tuple #[.agg #[.slice Az5 Nz5 Cz5], .int .i64 100]), (.agg #[.slice Az4 Nz4 Cz4]), (.tuple #[.agg #[.slice Az5 Nz5 Cz5], .int .i64 100]), (.agg #[.slice Az5 Nz5 Cz5]), (.int .i64 100), (.tuple #[.int .u64 2, .int .i64 0]), (.agg #[.slice Az6 Nz6 Cz6]), (.agg #[.slice Az7 Nz7 Cz7]), (.tuple #[.int .u64 2, .int .i64 0]), (.int .u64 2), (.int .i64 0), (.tuple #[.agg #[.slice Az9 Nz9 Cz9], .int .i64 0]), (.agg #[.slice Az8 Nz8 Cz8]), (.tuple #[.agg #[.slice Az9 Nz9 Cz9], .int .i64 0]), (.agg #[.slice Az9 Nz9 Cz9]), (.int .i64 0), (.slice (some ⟨g15v, 0, none⟩) 1 1), (.agg #[.slice (some ⟨g15v, 0, none⟩) 1 1]), (.tuple #[.int .u64 5, .int .i64 0]), (.agg #[.slice (some ⟨g15v, 0, none⟩) 1 1]), (.agg #[.slice (some ⟨g15v, 0, none⟩) 1 1]), (.tuple #[.int .u64 5, .int .i64 0]), (.int .u64 5), (.int .i64 0), undef, undef, undef, undef, undef, undef, undef, undef, undef, undef, undef, undef, undef, undef, undef, undef, undef, undef, undef, undef, undef, undef, undef, undef, undef, undef, undef, undef, undef, undef, undef, undef, undef, undef, undef, undef, undef, undef, undef, undef, undef, undef, undef, undef, undef, undef, undef, undef, undef, undef, undef, undef, undef, undef, undef, undef, undef, undef, undef, undef, undef, undef, undef, undef, undef, undef, undef, undef, undef, undef, undef, undef, undef, undef, undef, undef, undef], []⟩) (by kernel_rfl) ?_
  refine wp_seq ?_
  refine wl_start ?_
  refine wl_take (some 55) (.agg #[.slice (some ⟨g15v, 0, none⟩) 1 1]) rfl rfl (run_lp 11 (by kernel_rfl) (by kernel_rfl) (ldx26 (X11.cell (i := 0) rfl))) ?_
  refine wl_call (some 56) 15 #[.int .u64 1, .agg #[.slice (some ⟨g15v, 0, none⟩) 1 1], .int .u64 2] rfl rfl (by kernel_rfl) (sNeedL (T := 1) (x0 := 1) (t := 2) (v := 0) (er := 102) ⟨by decide, by decide⟩ N10b (by omega) ⟨by decide, by decide⟩ (by decide +kernel) (by decide +kernel)) ?_
  rintro e1 v18w ⟨Az11, Nz11, Cz11, rfl, Oz11, Kz11, B⟩
  refine ⟨_, rfl, ?_⟩
  replace Oz1 := Oz1.keep B
  replace X1 := X1.keep B
  replace Oz2 := Oz2.keep B
  replace Oz3 := Oz3.keep B
  replace X3 := X3.keep B
  replace Oz4 := Oz4.keep B
  replace Oz5 := Oz5.keep B
  replace X5 := X5.keep B
  replace Oz6 := Oz6.keep B
  replace Oz7 := Oz7.keep B
  replace Oz8 := Oz8.keep B
  replace Oz9 := Oz9.keep B
  replace X9 := X9.keep B
  replace L15 := L15.keep B
  replace N10b := N10b.keep B
  replace X11 := X11.keep B
  replace BB := joinB BB B
  clear B
  refine wl_take (some 54) (.tuple #[.agg #[.slice Az11 Nz11 Cz11], .int .i64 102]) rfl rfl (by kernel_rfl) ?_
  refine wl_take (some 57) (.agg #[.slice Az11 Nz11 Cz11]) rfl rfl (by kernel_rfl) ?_
  refine wl_take (some 58) (.int .i64 102) rfl rfl (by kernel_rfl) ?_
  have bs18 := BB.size
  refine wl_new 14 57 29 [.slice none 0 0] [.slice Az11 Nz11 Cz11] rfl rfl rfl rfl rfl rfl allocx26 (fun _ => by kernel_rfl) (fun _ => by kernel_rfl) (by kernel_rfl) rfl (by kernel_rfl) ?_
  intro v19w g19v X14 hg19v B
  replace Oz1 := Oz1.keep B
  replace X1 := X1.keep B
  replace Oz2 := Oz2.keep B
  replace Oz3 := Oz3.keep B
  replace X3 := X3.keep B
  replace Oz4 := Oz4.keep B
  replace Oz5 := Oz5.keep B
  replace X5 := X5.keep B
  replace Oz6 := Oz6.keep B
  replace Oz7 := Oz7.keep B
  replace Oz8 := Oz8.keep B
  replace Oz9 := Oz9.keep B
  replace X9 := X9.keep B
  replace L15 := L15.keep B
  replace N10b := N10b.keep B
  replace X11 := X11.keep B
  replace Oz11 := Oz11.keep B
  replace BB := joinB BB B
  clear B
  refine wl_take (some 15) (.int .i64 102) rfl rfl (by kernel_rfl) ?_
  refine wl_nil ?_
  refine wp_then ?_
  refine wp_frame (a' := ⟨#[(.bool false), (.pointer (some ⟨g2v, 0, none⟩)), (.int .i64 0), (.pointer (some ⟨g5v, 0, none⟩)), (.int .i64 0), (.pointer (some ⟨g8v, 0, none⟩)), (.int .i64 100), (.int .u64 2), (.int .i64 0), (.pointer (some ⟨g14v, 0, none⟩)), (.int .i64 0), (.pointer (some ⟨g16v, 0, none⟩)), (.int .u64 5), (.int .i64 0), (.pointer (some ⟨g19v, 0, none⟩)), (.int .i64 102), undef, undef, undef, undef, (.tuple #[.agg #[.slice Az1 Nz1 Cz1], .int .i64 0]), (.agg #[.slice none 0 0]), (.tuple #[.agg #[.slice Az1 Nz1 Cz1], .int .i64 0]), (.agg #[.slice Az1 Nz1 Cz1]), (.int .i64 0), (.tuple #[.agg #[.slice Az3 Nz3 Cz3], .int .i64 0]), (.agg #[.slice Az2 Nz2 Cz2]), (.tuple #[.agg #[.slice Az3 Nz3 Cz3], .int .i64 0]), (.agg #[.slice Az3 Nz3 Cz3]), (.int .i64 0), (.tuple #[.agg #[.slice Az5 Nz5 Cz5], .int .i64 100]), (.agg #[.slice Az4 Nz4 Cz4]), (.tuple #[.agg #[.slice Az5 Nz5 Cz5], .int .i64 100]), (.agg #[.slice Az5 Nz5 Cz5]), (.int .i64 100), (.tuple #[.int .u64 2, .int .i64 0]), (.agg #[.slice Az6 Nz6 Cz6]), (.agg #[.slice Az7 Nz7 Cz7]), (.tuple #[.int .u64 2, .int .i64 0]), (.int .u64 2), (.int .i64 0), (.tuple #[.agg #[.slice Az9 Nz9 Cz9], .int .i64 0]), (.agg #[.slice Az8 Nz8 Cz8]), (.tuple #[.agg #[.slice Az9 Nz9 Cz9], .int .i64 0]), (.agg #[.slice Az9 Nz9 Cz9]), (.int .i64 0), (.slice (some ⟨g15v, 0, none⟩) 1 1), (.agg #[.slice (some ⟨g15v, 0, none⟩) 1 1]), (.tuple #[.int .u64 5, .int .i64 0]), (.agg #[.slice (some ⟨g15v, 0, none⟩) 1 1]), (.agg #[.slice (some ⟨g15v, 0, none⟩) 1 1]), (.tuple #[.int .u64 5, .int .i64 0]), (.int .u64 5), (.int .i64 0), (.tuple #[.agg #[.slice Az11 Nz11 Cz11], .int .i64 102]), (.agg #[.slice (some ⟨g15v, 0, none⟩) 1 1]), (.tuple #[.agg #[.slice Az11 Nz11 Cz11], .int .i64 102]), (.agg #[.slice Az11 Nz11 Cz11]), (.int .i64 102), undef, undef, undef, undef, undef, undef, undef, undef, undef, undef, undef, undef, undef, undef, undef, undef, undef, undef, undef, undef, undef, undef, undef, undef, undef, undef, undef, undef, undef, undef, undef, undef, undef, undef, undef, undef, undef, undef, undef, undef, undef, undef, undef, undef, undef, undef, undef, undef, undef, undef, undef, undef, undef, undef, undef, undef, undef, undef, undef, undef, undef, undef, undef, undef, undef, undef, undef, undef, undef, undef, undef, undef], []⟩) (by kernel_rfl) ?_
  refine wp_seq ?_
  refine wl_start ?_
  refine wl_call (some 60) 16 #[.int .i64 90] rfl rfl (by kernel_rfl) (nPow 90 (by decide)) ?_
  rintro e1 v20w ⟨Az12, Nz12, Cz12, rfl, Oz12, Kz12, B⟩
  refine ⟨_, rfl, ?_⟩
  replace Oz1 := Oz1.keep B
  replace X1 := X1.keep B
  replace Oz2 := Oz2.keep B
  replace Oz3 := Oz3.keep B
  replace X3 := X3.keep B
  replace Oz4 := Oz4.keep B
  replace Oz5 := Oz5.keep B
  replace X5 := X5.keep B
  replace Oz6 := Oz6.keep B
  replace Oz7 := Oz7.keep B
  replace Oz8 := Oz8.keep B
  replace Oz9 := Oz9.keep B
  replace X9 := X9.keep B
  replace L15 := L15.keep B
  replace N10b := N10b.keep B
  replace X11 := X11.keep B
  replace Oz11 := Oz11.keep B
  replace X14 := X14.keep B
  replace BB := joinB BB B
  clear B
  replace Oz12 := Oz12.eqv (show _ = (1000000000000000000000000000000000000000000000000000000000000000000000000000000000000000000 : Int) from by decide +kernel)
  refine wl_take (some 59) (.tuple #[.slice Az12 Nz12 Cz12, .int .i64 0]) rfl rfl (by kernel_rfl) ?_
  refine wl_take (some 61) (.slice Az12 Nz12 Cz12) rfl rfl (by kernel_rfl) ?_
  refine wl_take (some 62) (.int .i64 0) rfl rfl (by kernel_rfl) ?_
  refine wl_take (some 16) (.slice Az12 Nz12 Cz12) rfl rfl (by kernel_rfl) ?_
  refine wl_take (some 17) (.int .i64 0) rfl rfl (by kernel_rfl) ?_
  refine wl_nil ?_
  refine wp_then ?_
  refine wp_frame (a' := ⟨#[(.bool false), (.pointer (some ⟨g2v, 0, none⟩)), (.int .i64 0), (.pointer (some ⟨g5v, 0, none⟩)), (.int .i64 0), (.pointer (some ⟨g8v, 0, none⟩)), (.int .i64 100), (.int .u64 2), (.int .i64 0), (.pointer (some ⟨g14v, 0, none⟩)), (.int .i64 0), (.pointer (some ⟨g16v, 0, none⟩)), (.int .u64 5), (.int .i64 0), (.pointer (some ⟨g19v, 0, none⟩)), (.int .i64 102), (.slice Az12 Nz12 Cz12), (.int .i64 0), undef, undef, (.tuple #[.agg #[.slice Az1 Nz1 Cz1], .int .i64 0]), (.agg #[.slice none 0 0]), (.tuple #[.agg #[.slice Az1 Nz1 Cz1], .int .i64 0]), (.agg #[.slice Az1 Nz1 Cz1]), (.int .i64 0), (.tuple #[.agg #[.slice Az3 Nz3 Cz3], .int .i64 0]), (.agg #[.slice Az2 Nz2 Cz2]), (.tuple #[.agg #[.slice Az3 Nz3 Cz3], .int .i64 0]), (.agg #[.slice Az3 Nz3 Cz3]), (.int .i64 0), (.tuple #[.agg #[.slice Az5 Nz5 Cz5], .int .i64 100]), (.agg #[.slice Az4 Nz4 Cz4]), (.tuple #[.agg #[.slice Az5 Nz5 Cz5], .int .i64 100]), (.agg #[.slice Az5 Nz5 Cz5]), (.int .i64 100), (.tuple #[.int .u64 2, .int .i64 0]), (.agg #[.slice Az6 Nz6 Cz6]), (.agg #[.slice Az7 Nz7 Cz7]), (.tuple #[.int .u64 2, .int .i64 0]), (.int .u64 2), (.int .i64 0), (.tuple #[.agg #[.slice Az9 Nz9 Cz9], .int .i64 0]), (.agg #[.slice Az8 Nz8 Cz8]), (.tuple #[.agg #[.slice Az9 Nz9 Cz9], .int .i64 0]), (.agg #[.slice Az9 Nz9 Cz9]), (.int .i64 0), (.slice (some ⟨g15v, 0, none⟩) 1 1), (.agg #[.slice (some ⟨g15v, 0, none⟩) 1 1]), (.tuple #[.int .u64 5, .int .i64 0]), (.agg #[.slice (some ⟨g15v, 0, none⟩) 1 1]), (.agg #[.slice (some ⟨g15v, 0, none⟩) 1 1]), (.tuple #[.int .u64 5, .int .i64 0]), (.int .u64 5), (.int .i64 0), (.tuple #[.agg #[.slice Az11 Nz11 Cz11], .int .i64 102]), (.agg #[.slice (some ⟨g15v, 0, none⟩) 1 1]), (.tuple #[.agg #[.slice Az11 Nz11 Cz11], .int .i64 102]), (.agg #[.slice Az11 Nz11 Cz11]), (.int .i64 102), (.tuple #[.slice Az12 Nz12 Cz12, .int .i64 0]), (.tuple #[.slice Az12 Nz12 Cz12, .int .i64 0]), (.slice Az12 Nz12 Cz12), (.int .i64 0), undef, undef, undef, undef, undef, undef, undef, undef, undef, undef, undef, undef, undef, undef, undef, undef, undef, undef, undef, undef, undef, undef, undef, undef, undef, undef, undef, undef, undef, undef, undef, undef, undef, undef, undef, undef, undef, undef, undef, undef, undef, undef, undef, undef, undef, undef, undef, undef, undef, undef, undef, undef, undef, undef, undef, undef, undef, undef, undef, undef, undef, undef, undef, undef, undef, undef, undef, undef], []⟩) (by kernel_rfl) ?_
  refine wp_seq ?_
  refine wl_start ?_
  refine wl_take (some 64) (.slice Az12 Nz12 Cz12) rfl rfl (by kernel_rfl) ?_
  refine wl_take (some 65) (.agg #[.slice Az12 Nz12 Cz12]) rfl rfl (by kernel_rfl) ?_
  refine wl_call (some 66) 14 #[.int .u64 1, .agg #[.slice Az12 Nz12 Cz12], .int .u64 1] rfl rfl (by kernel_rfl) (sIssueL (T := 1) (x0 := 1000000000000000000000000000000000000000000000000000000000000000000000000000000000000000000) (t := 1) (v := 0) (er := 103) ⟨by decide, by decide⟩ Oz12.a (by omega) ⟨by decide, by decide⟩ (by decide +kernel) (by decide +kernel)) ?_
  rintro e1 v21w ⟨Az13, Nz13, Cz13, rfl, Oz13, Kz13, B⟩
  refine ⟨_, rfl, ?_⟩
  replace Oz1 := Oz1.keep B
  replace X1 := X1.keep B
  replace Oz2 := Oz2.keep B
  replace Oz3 := Oz3.keep B
  replace X3 := X3.keep B
  replace Oz4 := Oz4.keep B
  replace Oz5 := Oz5.keep B
  replace X5 := X5.keep B
  replace Oz6 := Oz6.keep B
  replace Oz7 := Oz7.keep B
  replace Oz8 := Oz8.keep B
  replace Oz9 := Oz9.keep B
  replace X9 := X9.keep B
  replace L15 := L15.keep B
  replace N10b := N10b.keep B
  replace X11 := X11.keep B
  replace Oz11 := Oz11.keep B
  replace X14 := X14.keep B
  replace Oz12 := Oz12.keep B
  replace BB := joinB BB B
  clear B
  refine wl_take (some 63) (.tuple #[.agg #[.slice Az13 Nz13 Cz13], .int .i64 103]) rfl rfl (by kernel_rfl) ?_
  refine wl_take (some 67) (.agg #[.slice Az13 Nz13 Cz13]) rfl rfl (by kernel_rfl) ?_
  refine wl_take (some 68) (.int .i64 103) rfl rfl (by kernel_rfl) ?_
  have bs21 := BB.size
  refine wl_new 18 67 29 [.slice none 0 0] [.slice Az13 Nz13 Cz13] rfl rfl rfl rfl rfl rfl allocx26 (fun _ => by kernel_rfl) (fun _ => by kernel_rfl) (by kernel_rfl) rfl (by kernel_rfl) ?_
  intro v22w g22v X18 hg22v B
  replace Oz1 := Oz1.keep B
  replace X1 := X1.keep B
  replace Oz2 := Oz2.keep B
  replace Oz3 := Oz3.keep B
  replace X3 := X3.keep B
  replace Oz4 := Oz4.keep B
  replace Oz5 := Oz5.keep B
  replace X5 := X5.keep B
  replace Oz6 := Oz6.keep B
  replace Oz7 := Oz7.keep B
  replace Oz8 := Oz8.keep B
  replace Oz9 := Oz9.keep B
  replace X9 := X9.keep B
  replace L15 := L15.keep B
  replace N10b := N10b.keep B
  replace X11 := X11.keep B
  replace Oz11 := Oz11.keep B
  replace X14 := X14.keep B
  replace Oz12 := Oz12.keep B
  replace Oz13 := Oz13.keep B
  replace BB := joinB BB B
  clear B
  refine wl_take (some 19) (.int .i64 103) rfl rfl (by kernel_rfl) ?_
  refine wl_nil ?_
  refine wp_then ?_
  refine wp_frame (a' := ⟨#[(.bool false), (.pointer (some ⟨g2v, 0, none⟩)), (.int .i64 0), (.pointer (some ⟨g5v, 0, none⟩)), (.int .i64 0), (.pointer (some ⟨g8v, 0, none⟩)), (.int .i64 100), (.int .u64 2), (.int .i64 0), (.pointer (some ⟨g14v, 0, none⟩)), (.int .i64 0), (.pointer (some ⟨g16v, 0, none⟩)), (.int .u64 5), (.int .i64 0), (.pointer (some ⟨g19v, 0, none⟩)), (.int .i64 102), (.slice Az12 Nz12 Cz12), (.int .i64 0), (.pointer (some ⟨g22v, 0, none⟩)), (.int .i64 103), (.tuple #[.agg #[.slice Az1 Nz1 Cz1], .int .i64 0]), (.agg #[.slice none 0 0]), (.tuple #[.agg #[.slice Az1 Nz1 Cz1], .int .i64 0]), (.agg #[.slice Az1 Nz1 Cz1]), (.int .i64 0), (.tuple #[.agg #[.slice Az3 Nz3 Cz3], .int .i64 0]), (.agg #[.slice Az2 Nz2 Cz2]), (.tuple #[.agg #[.slice Az3 Nz3 Cz3], .int .i64 0]), (.agg #[.slice Az3 Nz3 Cz3]), (.int .i64 0), (.tuple #[.agg #[.slice Az5 Nz5 Cz5], .int .i64 100]), (.agg #[.slice Az4 Nz4 Cz4]), (.tuple #[.agg #[.slice Az5 Nz5 Cz5], .int .i64 100]), (.agg #[.slice Az5 Nz5 Cz5]), (.int .i64 100), (.tuple #[.int .u64 2, .int .i64 0]), (.agg #[.slice Az6 Nz6 Cz6]), (.agg #[.slice Az7 Nz7 Cz7]), (.tuple #[.int .u64 2, .int .i64 0]), (.int .u64 2), (.int .i64 0), (.tuple #[.agg #[.slice Az9 Nz9 Cz9], .int .i64 0]), (.agg #[.slice Az8 Nz8 Cz8]), (.tuple #[.agg #[.slice Az9 Nz9 Cz9], .int .i64 0]), (.agg #[.slice Az9 Nz9 Cz9]), (.int .i64 0), (.slice (some ⟨g15v, 0, none⟩) 1 1), (.agg #[.slice (some ⟨g15v, 0, none⟩) 1 1]), (.tuple #[.int .u64 5, .int .i64 0]), (.agg #[.slice (some ⟨g15v, 0, none⟩) 1 1]), (.agg #[.slice (some ⟨g15v, 0, none⟩) 1 1]), (.tuple #[.int .u64 5, .int .i64 0]), (.int .u64 5), (.int .i64 0), (.tuple #[.agg #[.slice Az11 Nz11 Cz11], .int .i64 102]), (.agg #[.slice (some ⟨g15v, 0, none⟩) 1 1]), (.tuple #[.agg #[.slice Az11 Nz11 Cz11], .int .i64 102]), (.agg #[.slice Az11 Nz11 Cz11]), (.int .i64 102), (.tuple #[.slice Az12 Nz12 Cz12, .int .i64 0]), (.tuple #[.slice Az12 Nz12 Cz12, .int .i64 0]), (.slice Az12 Nz12 Cz12), (.int .i64 0), (.tuple #[.agg #[.slice Az13 Nz13 Cz13], .int .i64 103]), (.slice Az12 Nz12 Cz12), (.agg #[.slice Az12 Nz12 Cz12]), (.tuple #[.agg #[.slice Az13 Nz13 Cz13], .int .i64 103]), (.agg #[.slice Az13 Nz13 Cz13]), (.int .i64 103), undef, undef, undef, undef, undef, undef, undef, undef, undef, undef, undef, undef, undef, undef, undef, undef, undef, undef, undef, undef, undef, undef, undef, undef, undef, undef, undef, undef, undef, undef, undef, undef, undef, undef, undef, undef, undef, undef, undef, undef, undef, undef, undef, undef, undef, undef, undef, undef, undef, undef, undef, undef, undef, undef, undef, undef, undef, undef, undef, undef, undef, undef], []⟩) (by kernel_rfl) ?_
  refine wp_seq ?_
  refine wp_seq ?_
  refine wl_start ?_
  refine wl_take (some 69) (.int .i64 0) rfl rfl (by kernel_rfl) ?_
  refine wl_take (some 70) (.int .i64 0) rfl rfl (by kernel_rfl) ?_
  refine wl_take (some 71) (.int .i64 0) rfl rfl (by kernel_rfl) ?_
  refine wl_take (some 72) (.int .i64 0) rfl rfl (by kernel_rfl) ?_
  refine wl_take (some 73) (.int .i64 0) rfl rfl (by kernel_rfl) ?_
  refine wl_take (some 74) (.int .i64 0) rfl rfl (by kernel_rfl) ?_
  refine wl_take (some 75) (.int .i64 0) rfl rfl (by kernel_rfl) ?_
  refine wl_frame (a' := ⟨#[(.bool false), (.pointer (some ⟨g2v, 0, none⟩)), (.int .i64 0), (.pointer (some ⟨g5v, 0, none⟩)), (.int .i64 0), (.pointer (some ⟨g8v, 0, none⟩)), (.int .i64 100), (.int .u64 2), (.int .i64 0), (.pointer (some ⟨g14v, 0, none⟩)), (.int .i64 0), (.pointer (some ⟨g16v, 0, none⟩)), (.int .u64 5), (.int .i64 0), (.pointer (some ⟨g19v, 0, none⟩)), (.int .i64 102), (.slice Az12 Nz12 Cz12), (.int .i64 0), (.pointer (some ⟨g22v, 0, none⟩)), (.int .i64 103), (.tuple #[.agg #[.slice Az1 Nz1 Cz1], .int .i64 0]), (.agg #[.slice none 0 0]), (.tuple #[.agg #[.slice Az1 Nz1 Cz1], .int .i64 0]), (.agg #[.slice Az1 Nz1 Cz1]), (.int .i64 0), (.tuple #[.agg #[.slice Az3 Nz3 Cz3], .int .i64 0]), (.agg #[.slice Az2 Nz2 Cz2]), (.tuple #[.agg #[.slice Az3 Nz3 Cz3], .int .i64 0]), (.agg #[.slice Az3 Nz3 Cz3]), (.int .i64 0), (.tuple #[.agg #[.slice Az5 Nz5 Cz5], .int .i64 100]), (.agg #[.slice Az4 Nz4 Cz4]), (.tuple #[.agg #[.slice Az5 Nz5 Cz5], .int .i64 100]), (.agg #[.slice Az5 Nz5 Cz5]), (.int .i64 100), (.tuple #[.int .u64 2, .int .i64 0]), (.agg #[.slice Az6 Nz6 Cz6]), (.agg #[.slice Az7 Nz7 Cz7]), (.tuple #[.int .u64 2, .int .i64 0]), (.int .u64 2), (.int .i64 0), (.tuple #[.agg #[.slice Az9 Nz9 Cz9], .int .i64 0]), (.agg #[.slice Az8 Nz8 Cz8]), (.tuple #[.agg #[.slice Az9 Nz9 Cz9], .int .i64 0]), (.agg #[.slice Az9 Nz9 Cz9]), (.int .i64 0), (.slice (some ⟨g15v, 0, none⟩) 1 1), (.agg #[.slice (some ⟨g15v, 0, none⟩) 1 1]), (.tuple #[.int .u64 5, .int .i64 0]), (.agg #[.slice (some ⟨g15v, 0, none⟩) 1 1]), (.agg #[.slice (some ⟨g15v, 0, none⟩) 1 1]), (.tuple #[.int .u64 5, .int .i64 0]), (.int .u64 5), (.int .i64 0), (.tuple #[.agg #[.slice Az11 Nz11 Cz11], .int .i64 102]), (.agg #[.slice (some ⟨g15v, 0, none⟩) 1 1]), (.tuple #[.agg #[.slice Az11 Nz11 Cz11], .int .i64 102]), (.agg #[.slice Az11 Nz11 Cz11]), (.int .i64 102), (.tuple #[.slice Az12 Nz12 Cz12, .int .i64 0]), (.tuple #[.slice Az12 Nz12 Cz12, .int .i64 0]), (.slice Az12 Nz12 Cz12), (.int .i64 0), (.tuple #[.agg #[.slice Az13 Nz13 Cz13], .int .i64 103]), (.slice Az12 Nz12 Cz12), (.agg #[.slice Az12 Nz12 Cz12]), (.tuple #[.agg #[.slice Az13 Nz13 Cz13], .int .i64 103]), (.agg #[.slice Az13 Nz13 Cz13]), (.int .i64 103), (.int .i64 0), (.int .i64 0), (.int .i64 0), (.int .i64 0), (.int .i64 0), (.int .i64 0), (.int .i64 0), undef, undef, undef, undef, undef, undef, undef, undef, undef, undef, undef, undef, undef, undef, undef, undef, undef, undef, undef, undef, undef, undef, undef, undef, undef, undef, undef, undef, undef, undef, undef, undef, undef, undef, undef, undef, undef, undef, undef, undef, undef, undef, undef, undef, undef, undef, undef, undef, undef, undef, undef, undef, undef, undef, undef], []⟩) (by kernel_rfl) ?_
  refine wl_take (some 76) (.int .i64 0) rfl rfl (by kernel_rfl) ?_
  refine wl_take (some 77) (.int .i64 0) rfl rfl (by kernel_rfl) ?_
  refine wl_take (some 78) (.bool false) rfl rfl (by kernel_rfl) ?_
  refine wl_take (some 79) (.bool false) rfl rfl (by kernel_rfl) ?_
  refine wg_take (some 80) (.int .i64 100) (by kernel_rfl) rfl (by kernel_rfl) ?_
  refine wg_take (some 81) (.bool false) (by kernel_rfl) rfl (by kernel_rfl) ?_
  refine wl_take (some 82) (.bool false) rfl rfl (by kernel_rfl) ?_
  refine wl_frame (a' := ⟨#[(.bool false), (.pointer (some ⟨g2v, 0, none⟩)), (.int .i64 0), (.pointer (some ⟨g5v, 0, none⟩)), (.int .i64 0), (.pointer (some ⟨g8v, 0, none⟩)), (.int .i64 100), (.int .u64 2), (.int .i64 0), (.pointer (some ⟨g14v, 0, none⟩)), (.int .i64 0), (.pointer (some ⟨g16v, 0, none⟩)), (.int .u64 5), (.int .i64 0), (.pointer (some ⟨g19v, 0, none⟩)), (.int .i64 102), (.slice Az12 Nz12 Cz12), (.int .i64 0), (.pointer (some ⟨g22v, 0, none⟩)), (.int .i64 103), (.tuple #[.agg #[.slice Az1 Nz1 Cz1], .int .i64 0]), (.agg #[.slice none 0 0]), (.tuple #[.agg #[.slice Az1 Nz1 Cz1], .int .i64 0]), (.agg #[.slice Az1 Nz1 Cz1]), (.int .i64 0), (.tuple #[.agg #[.slice Az3 Nz3 Cz3], .int .i64 0]), (.agg #[.slice Az2 Nz2 Cz2]), (.tuple #[.agg #[.slice Az3 Nz3 Cz3], .int .i64 0]), (.agg #[.slice Az3 Nz3 Cz3]), (.int .i64 0), (.tuple #[.agg #[.slice Az5 Nz5 Cz5], .int .i64 100]), (.agg #[.slice Az4 Nz4 Cz4]), (.tuple #[.agg #[.slice Az5 Nz5 Cz5], .int .i64 100]), (.agg #[.slice Az5 Nz5 Cz5]), (.int .i64 100), (.tuple #[.int .u64 2, .int .i64 0]), (.agg #[.slice Az6 Nz6 Cz6]), (.agg #[.slice Az7 Nz7 Cz7]), (.tuple #[.int .u64 2, .int .i64 0]), (.int .u64 2), (.int .i64 0), (.tuple #[.agg #[.slice Az9 Nz9 Cz9], .int .i64 0]), (.agg #[.slice Az8 Nz8 Cz8]), (.tuple #[.agg #[.slice Az9 Nz9 Cz9], .int .i64 0]), (.agg #[.slice Az9 Nz9 Cz9]), (.int .i64 0), (.slice (some ⟨g15v, 0, none⟩) 1 1), (.agg #[.slice (some ⟨g15v, 0, none⟩) 1 1]), (.tuple #[.int .u64 5, .int .i64 0]), (.agg #[.slice (some ⟨g15v, 0, none⟩) 1 1]), (.agg #[.slice (some ⟨g15v, 0, none⟩) 1 1]), (.tuple #[.int .u64 5, .int .i64 0]), (.int .u64 5), (.int .i64 0), (.tuple #[.agg #[.slice Az11 Nz11 Cz11], .int .i64 102]), (.agg #[.slice (some ⟨g15v, 0, none⟩) 1 1]), (.tuple #[.agg #[.slice Az11 Nz11 Cz11], .int .i64 102]), (.agg #[.slice Az11 Nz11 Cz11]), (.int .i64 102), (.tuple #[.slice Az12 Nz12 Cz12, .int .i64 0]), (.tuple #[.slice Az12 Nz12 Cz12, .int .i64 0]), (.slice Az12 Nz12 Cz12), (.int .i64 0), (.tuple #[.agg #[.slice Az13 Nz13 Cz13], .int .i64 103]), (.slice Az12 Nz12 Cz12), (.agg #[.slice Az12 Nz12 Cz12]), (.tuple #[.agg #[.slice Az13 Nz13 Cz13], .int .i64 103]), (.agg #[.slice Az13 Nz13 Cz13]), (.int .i64 103), (.int .i64 0), (.int .i64 0), (.int .i64 0), (.int .i64 0), (.int .i64 0), (.int .i64 0), (.int .i64 0), (.int .i64 0), (.int .i64 0), (.bool false), (.bool false), (.int .i64 100), (.bool false), (.bool false), undef, undef, undef, undef, undef, undef, undef, undef, undef, undef, undef, undef, undef, undef, undef, undef, undef, undef, undef, undef, undef, undef, undef, undef, undef, undef, undef, undef, undef, undef, undef, undef, undef, undef, undef, undef, undef, undef, undef, undef, undef, undef, undef, undef, undef, undef, undef, undef], []⟩) (by kernel_rfl) ?_
  refine wl_take (some 83) (.bool false) rfl rfl (by kernel_rfl) ?_
  refine wg_take (some 84) (.int .i64 102) (by kernel_rfl) rfl (by kernel_rfl) ?_
  refine wg_take (some 85) (.bool false) (by kernel_rfl) rfl (by kernel_rfl) ?_
  refine wl_take (some 86) (.bool false) rfl rfl (by kernel_rfl) ?_
  refine wl_take (some 87) (.bool false) rfl rfl (by kernel_rfl) ?_
  refine wg_take (some 88) (.int .i64 103) (by kernel_rfl) rfl (by kernel_rfl) ?_
  refine wg_take (some 89) (.bool false) (by kernel_rfl) rfl (by kernel_rfl) ?_
  refine wl_frame (a' := ⟨#[(.bool false), (.pointer (some ⟨g2v, 0, none⟩)), (.int .i64 0), (.pointer (some ⟨g5v, 0, none⟩)), (.int .i64 0), (.pointer (some ⟨g8v, 0, none⟩)), (.int .i64 100), (.int .u64 2), (.int .i64 0), (.pointer (some ⟨g14v, 0, none⟩)), (.int .i64 0), (.pointer (some ⟨g16v, 0, none⟩)), (.int .u64 5), (.int .i64 0), (.pointer (some ⟨g19v, 0, none⟩)), (.int .i64 102), (.slice Az12 Nz12 Cz12), (.int .i64 0), (.pointer (some ⟨g22v, 0, none⟩)), (.int .i64 103), (.tuple #[.agg #[.slice Az1 Nz1 Cz1], .int .i64 0]), (.agg #[.slice none 0 0]), (.tuple #[.agg #[.slice Az1 Nz1 Cz1], .int .i64 0]), (.agg #[.slice Az1 Nz1 Cz1]), (.int .i64 0), (.tuple #[.agg #[.slice Az3 Nz3 Cz3], .int .i64 0]), (.agg #[.slice Az2 Nz2 Cz2]), (.tuple #[.agg #[.slice Az3 Nz3 Cz3], .int .i64 0]), (.agg #[.slice Az3 Nz3 Cz3]), (.int .i64 0), (.tuple #[.agg #[.slice Az5 Nz5 Cz5], .int .i64 100]), (.agg #[.slice Az4 Nz4 Cz4]), (.tuple #[.agg #[.slice Az5 Nz5 Cz5], .int .i64 100]), (.agg #[.slice Az5 Nz5 Cz5]), (.int .i64 100), (.tuple #[.int .u64 2, .int .i64 0]), (.agg #[.slice Az6 Nz6 Cz6]), (.agg #[.slice Az7 Nz7 Cz7]), (.tuple #[.int .u64 2, .int .i64 0]), (.int .u64 2), (.int .i64 0), (.tuple #[.agg #[.slice Az9 Nz9 Cz9], .int .i64 0]), (.agg #[.slice Az8 Nz8 Cz8]), (.tuple #[.agg #[.slice Az9 Nz9 Cz9], .int .i64 0]), (.agg #[.slice Az9 Nz9 Cz9]), (.int .i64 0), (.slice (some ⟨g15v, 0, none⟩) 1 1), (.agg #[.slice (some ⟨g15v, 0, none⟩) 1 1]), (.tuple #[.int .u64 5, .int .i64 0]), (.agg #[.slice (some ⟨g15v, 0, none⟩) 1 1]), (.agg #[.slice (some ⟨g15v, 0, none⟩) 1 1]), (.tuple #[.int .u64 5, .int .i64 0]), (.int .u64 5), (.int .i64 0), (.tuple #[.agg #[.slice Az11 Nz11 Cz11], .int .i64 102]), (.agg #[.slice (some ⟨g15v, 0, none⟩) 1 1]), (.tuple #[.agg #[.slice Az11 Nz11 Cz11], .int .i64 102]), (.agg #[.slice Az11 Nz11 Cz11]), (.int .i64 102), (.tuple #[.slice Az12 Nz12 Cz12, .int .i64 0]), (.tuple #[.slice Az12 Nz12 Cz12, .int .i64 0]), (.slice Az12 Nz12 Cz12), (.int .i64 0), (.tuple #[.agg #[.slice Az13 Nz13 Cz13], .int .i64 103]), (.slice Az12 Nz12 Cz12), (.agg #[.slice Az12 Nz12 Cz12]), (.tuple #[.agg #[.slice Az13 Nz13 Cz13], .int .i64 103]), (.agg #[.slice Az13 Nz13 Cz13]), (.int .i64 103), (.int .i64 0), (.int .i64 0), (.int .i64 0), (.int .i64 0), (.int .i64 0), (.int .i64 0), (.int .i64 0), (.int .i64 0), (.int .i64 0), (.bool false), (.bool false), (.int .i64 100), (.bool false), (.bool false), (.bool false), (.int .i64 102), (.bool false), (.bool false), (.bool false), (.int .i64 103), (.bool false), undef, undef, undef, undef, undef, undef, undef, undef, undef, undef, undef, undef, undef, undef, undef, undef, undef, undef, undef, undef, undef, undef, undef, undef, undef, undef, undef, undef, undef, undef, undef, undef, undef, undef, undef, undef, undef, undef, undef, undef, undef], []⟩) (by kernel_rfl) ?_
  refine wl_take (some 90) (.bool false) rfl rfl (by kernel_rfl) ?_
  refine wl_take (some 91) (.bool false) rfl rfl (by kernel_rfl) ?_
  refine wg_take (some 92) (.int .u64 2) (by kernel_rfl) rfl (by kernel_rfl) ?_
  refine wg_take (some 93) (.bool false) (by kernel_rfl) rfl (by kernel_rfl) ?_
  refine wl_take (some 94) (.bool false) rfl rfl (by kernel_rfl) ?_
  refine wl_take (some 95) (.bool false) rfl rfl (by kernel_rfl) ?_
  refine wg_take (some 96) (.int .u64 5) (by kernel_rfl) rfl (by kernel_rfl) ?_
  refine wg_take (some 97) (.bool false) (by kernel_rfl) rfl (by kernel_rfl) ?_
  refine wl_take (some 98) (.bool false) rfl rfl (by kernel_rfl) ?_
  refine wl_nil ?_
  refine wp_then ?_
  refine wp_frame (a' := ⟨#[(.bool false), (.pointer (some ⟨g2v, 0, none⟩)), (.int .i64 0), (.pointer (some ⟨g5v, 0, none⟩)), (.int .i64 0), (.pointer (some ⟨g8v, 0, none⟩)), (.int .i64 100), (.int .u64 2), (.int .i64 0), (.pointer (some ⟨g14v, 0, none⟩)), (.int .i64 0), (.pointer (some ⟨g16v, 0, none⟩)), (.int .u64 5), (.int .i64 0), (.pointer (some ⟨g19v, 0, none⟩)), (.int .i64 102), (.slice Az12 Nz12 Cz12), (.int .i64 0), (.pointer (some ⟨g22v, 0, none⟩)), (.int .i64 103), (.tuple #[.agg #[.slice Az1 Nz1 Cz1], .int .i64 0]), (.agg #[.slice none 0 0]), (.tuple #[.agg #[.slice Az1 Nz1 Cz1], .int .i64 0]), (.agg #[.slice Az1 Nz1 Cz1]), (.int .i64 0), (.tuple #[.agg #[.slice Az3 Nz3 Cz3], .int .i64 0]), (.agg #[.slice Az2 Nz2 Cz2]), (.tuple #[.agg #[.slice Az3 Nz3 Cz3], .int .i64 0]), (.agg #[.slice Az3 Nz3 Cz3]), (.int .i64 0), (.tuple #[.agg #[.slice Az5 Nz5 Cz5], .int .i64 100]), (.agg #[.slice Az4 Nz4 Cz4]), (.tuple #[.agg #[.slice Az5 Nz5 Cz5], .int .i64 100]), (.agg #[.slice Az5 Nz5 Cz5]), (.int .i64 100), (.tuple #[.int .u64 2, .int .i64 0]), (.agg #[.slice Az6 Nz6 Cz6]), (.agg #[.slice Az7 Nz7 Cz7]), (.tuple #[.int .u64 2, .int .i64 0]), (.int .u64 2), (.int .i64 0), (.tuple #[.agg #[.slice Az9 Nz9 Cz9], .int .i64 0]), (.agg #[.slice Az8 Nz8 Cz8]), (.tuple #[.agg #[.slice Az9 Nz9 Cz9], .int .i64 0]), (.agg #[.slice Az9 Nz9 Cz9]), (.int .i64 0), (.slice (some ⟨g15v, 0, none⟩) 1 1), (.agg #[.slice (some ⟨g15v, 0, none⟩) 1 1]), (.tuple #[.int .u64 5, .int .i64 0]), (.agg #[.slice (some ⟨g15v, 0, none⟩) 1 1]), (.agg #[.slice (some ⟨g15v, 0, none⟩) 1 1]), (.tuple #[.int .u64 5, .int .i64 0]), (.int .u64 5), (.int .i64 0), (.tuple #[.agg #[.slice Az11 Nz11 Cz11], .int .i64 102]), (.agg #[.slice (some ⟨g15v, 0, none⟩) 1 1]), (.tuple #[.agg #[.slice Az11 Nz11 Cz11], .int .i64 102]), (.agg #[.slice Az11 Nz11 Cz11]), (.int .i64 102), (.tuple #[.slice Az12 Nz12 Cz12, .int .i64 0]), (.tuple #[.slice Az12 Nz12 Cz12, .int .i64 0]), (.slice Az12 Nz12 Cz12), (.int .i64 0), (.tuple #[.agg #[.slice Az13 Nz13 Cz13], .int .i64 103]), (.slice Az12 Nz12 Cz12), (.agg #[.slice Az12 Nz12 Cz12]), (.tuple #[.agg #[.slice Az13 Nz13 Cz13], .int .i64 103]), (.agg #[.slice Az13 Nz13 Cz13]), (.int .i64 103), (.int .i64 0), (.int .i64 0), (.int .i64 0), (.int .i64 0), (.int .i64 0), (.int .i64 0), (.int .i64 0), (.int .i64 0), (.int .i64 0), (.bool false), (.bool false), (.int .i64 100), (.bool false), (.bool false), (.bool false), (.int .i64 102), (.bool false), (.bool false), (.bool false), (.int .i64 103), (.bool false), (.bool false), (.bool false), (.int .u64 2), (.bool false), (.bool false), (.bool false), (.int .u64 5), (.bool false), (.bool false), undef, undef, undef, undef, undef, undef, undef, undef, undef, undef, undef, undef, undef, undef, undef, undef, undef, undef, undef, undef, undef, undef, undef, undef, undef, undef, undef, undef, undef, undef, undef, undef], []⟩) (by kernel_rfl) ?_
  refine wp_cond_false (by kernel_rfl) ?_
  refine wp_skip_then ?_
  refine wp_seq ?_
  refine wl_start ?_
  refine wl_take (some 99) (.agg #[.slice Az1 Nz1 Cz1]) rfl rfl (run_lp 1 (by kernel_rfl) (by kernel_rfl) (ldx26 (X1.cell (i := 0) rfl))) ?_
  refine wl_call (some 100) 17 #[.agg #[.slice Az1 Nz1 Cz1]] rfl rfl (by kernel_rfl) (textL (x := 5000000000000000000000000000000000000) Oz1.a (by omega) (by decide +kernel) [53] [53] (by decide +kernel) (by decide +kernel) (by decide) (by decide +kernel) (by kernel_rfl)) ?_
  rintro e1 v23w ⟨rfl, B⟩
  refine ⟨_, rfl, ?_⟩
  replace Oz1 := Oz1.keep B
  replace X1 := X1.keep B
  replace Oz2 := Oz2.keep B
  replace Oz3 := Oz3.keep B
  replace X3 := X3.keep B
  replace Oz4 := Oz4.keep B
  replace Oz5 := Oz5.keep B
  replace X5 := X5.keep B
  replace Oz6 := Oz6.keep B
  replace Oz7 := Oz7.keep B
  replace Oz8 := Oz8.keep B
  replace Oz9 := Oz9.keep B
  replace X9 := X9.keep B
  replace L15 := L15.keep B
  replace N10b := N10b.keep B
  replace X11 := X11.keep B
  replace Oz11 := Oz11.keep B
  replace X14 := X14.keep B
  replace Oz12 := Oz12.keep B
  replace Oz13 := Oz13.keep B
  replace X18 := X18.keep B
  replace BB := joinB BB B
  clear B
  refine wl_take (some 101) (.bool true) rfl rfl (str_sameC (x := 100) (s := ⟨#[53]⟩) (by kernel_rfl) (by kernel_rfl)) ?_
  refine wl_take (some 102) (.bool true) rfl rfl (by kernel_rfl) ?_
  refine wg_take (some 103) (.agg #[.slice Az3 Nz3 Cz3]) (by kernel_rfl) rfl (run_lp 3 (by kernel_rfl) (by kernel_rfl) (ldx26 (X3.cell (i := 0) rfl))) ?_
  refine wg_call (some 104) 17 #[.agg #[.slice Az3 Nz3 Cz3]] (by kernel_rfl) rfl (by kernel_rfl) (textL (x := 7500000000000000000000000000000000000) Oz3.a (by omega) (by decide +kernel) [55, 46, 53] [55] (by decide +kernel) (by decide +kernel) (by decide) (by decide +kernel) (by kernel_rfl)) ?_
  rintro e1 v24w ⟨rfl, B⟩
  refine ⟨_, rfl, ?_⟩
  replace Oz1 := Oz1.keep B
  replace X1 := X1.keep B
  replace Oz2 := Oz2.keep B
  replace Oz3 := Oz3.keep B
  replace X3 := X3.keep B
  replace Oz4 := Oz4.keep B
  replace Oz5 := Oz5.keep B
  replace X5 := X5.keep B
  replace Oz6 := Oz6.keep B
  replace Oz7 := Oz7.keep B
  replace Oz8 := Oz8.keep B
  replace Oz9 := Oz9.keep B
  replace X9 := X9.keep B
  replace L15 := L15.keep B
  replace N10b := N10b.keep B
  replace X11 := X11.keep B
  replace Oz11 := Oz11.keep B
  replace X14 := X14.keep B
  replace Oz12 := Oz12.keep B
  replace Oz13 := Oz13.keep B
  replace X18 := X18.keep B
  replace BB := joinB BB B
  clear B
  refine wg_take (some 105) (.bool true) (by kernel_rfl) rfl (str_sameC (x := 104) (s := ⟨#[55, 46, 53]⟩) (by kernel_rfl) (by kernel_rfl)) ?_
  refine wl_frame (a' := ⟨#[(.bool false), (.pointer (some ⟨g2v, 0, none⟩)), (.int .i64 0), (.pointer (some ⟨g5v, 0, none⟩)), (.int .i64 0), (.pointer (some ⟨g8v, 0, none⟩)), (.int .i64 100), (.int .u64 2), (.int .i64 0), (.pointer (some ⟨g14v, 0, none⟩)), (.int .i64 0), (.pointer (some ⟨g16v, 0, none⟩)), (.int .u64 5), (.int .i64 0), (.pointer (some ⟨g19v, 0, none⟩)), (.int .i64 102), (.slice Az12 Nz12 Cz12), (.int .i64 0), (.pointer (some ⟨g22v, 0, none⟩)), (.int .i64 103), (.tuple #[.agg #[.slice Az1 Nz1 Cz1], .int .i64 0]), (.agg #[.slice none 0 0]), (.tuple #[.agg #[.slice Az1 Nz1 Cz1], .int .i64 0]), (.agg #[.slice Az1 Nz1 Cz1]), (.int .i64 0), (.tuple #[.agg #[.slice Az3 Nz3 Cz3], .int .i64 0]), (.agg #[.slice Az2 Nz2 Cz2]), (.tuple #[.agg #[.slice Az3 Nz3 Cz3], .int .i64 0]), (.agg #[.slice Az3 Nz3 Cz3]), (.int .i64 0), (.tuple #[.agg #[.slice Az5 Nz5 Cz5], .int .i64 100]), (.agg #[.slice Az4 Nz4 Cz4]), (.tuple #[.agg #[.slice Az5 Nz5 Cz5], .int .i64 100]), (.agg #[.slice Az5 Nz5 Cz5]), (.int .i64 100), (.tuple #[.int .u64 2, .int .i64 0]), (.agg #[.slice Az6 Nz6 Cz6]), (.agg #[.slice Az7 Nz7 Cz7]), (.tuple #[.int .u64 2, .int .i64 0]), (.int .u64 2), (.int .i64 0), (.tuple #[.agg #[.slice Az9 Nz9 Cz9], .int .i64 0]), (.agg #[.slice Az8 Nz8 Cz8]), (.tuple #[.agg #[.slice Az9 Nz9 Cz9], .int .i64 0]), (.agg #[.slice Az9 Nz9 Cz9]), (.int .i64 0), (.slice (some ⟨g15v, 0, none⟩) 1 1), (.agg #[.slice (some ⟨g15v, 0, none⟩) 1 1]), (.tuple #[.int .u64 5, .int .i64 0]), (.agg #[.slice (some ⟨g15v, 0, none⟩) 1 1]), (.agg #[.slice (some ⟨g15v, 0, none⟩) 1 1]), (.tuple #[.int .u64 5, .int .i64 0]), (.int .u64 5), (.int .i64 0), (.tuple #[.agg #[.slice Az11 Nz11 Cz11], .int .i64 102]), (.agg #[.slice (some ⟨g15v, 0, none⟩) 1 1]), (.tuple #[.agg #[.slice Az11 Nz11 Cz11], .int .i64 102]), (.agg #[.slice Az11 Nz11 Cz11]), (.int .i64 102), (.tuple #[.slice Az12 Nz12 Cz12, .int .i64 0]), (.tuple #[.slice Az12 Nz12 Cz12, .int .i64 0]), (.slice Az12 Nz12 Cz12), (.int .i64 0), (.tuple #[.agg #[.slice Az13 Nz13 Cz13], .int .i64 103]), (.slice Az12 Nz12 Cz12), (.agg #[.slice Az12 Nz12 Cz12]), (.tuple #[.agg #[.slice Az13 Nz13 Cz13], .int .i64 103]), (.agg #[.slice Az13 Nz13 Cz13]), (.int .i64 103), (.int .i64 0), (.int .i64 0), (.int .i64 0), (.int .i64 0), (.int .i64 0), (.int .i64 0), (.int .i64 0), (.int .i64 0), (.int .i64 0), (.bool false), (.bool false), (.int .i64 100), (.bool false), (.bool false), (.bool false), (.int .i64 102), (.bool false), (.bool false), (.bool false), (.int .i64 103), (.bool false), (.bool false), (.bool false), (.int .u64 2), (.bool false), (.bool false), (.bool false), (.int .u64 5), (.bool false), (.bool false), (.agg #[.slice Az1 Nz1 Cz1]), (.string ⟨#[53]⟩), (.bool true), (.bool true), (.agg #[.slice Az3 Nz3 Cz3]), (.string ⟨#[55, 46, 53]⟩), (.bool true), undef, undef, undef, undef, undef, undef, undef, undef, undef, undef, undef, undef, undef, undef, undef, undef, undef, undef, undef, undef, undef, undef, undef, undef, undef], []⟩) (by kernel_rfl) ?_
  refine wl_take (some 106) (.bool true) rfl rfl (by kernel_rfl) ?_
  refine wl_take (some 107) (.bool true) rfl rfl (by kernel_rfl) ?_
  refine wg_take (some 108) (.agg #[.slice Az9 Nz9 Cz9]) (by kernel_rfl) rfl (run_lp 9 (by kernel_rfl) (by kernel_rfl) (ldx26 (X9.cell (i := 0) rfl))) ?_
  refine wg_call (some 109) 17 #[.agg #[.slice Az9 Nz9 Cz9]] (by kernel_rfl) rfl (by kernel_rfl) (textL (x := 1200000000000000000000000000000000000) Oz9.a (by omega) (by decide +kernel) [49, 46, 50] [49] (by decide +kernel) (by decide +kernel) (by decide) (by decide +kernel) (by kernel_rfl)) ?_
  rintro e1 v25w ⟨rfl, B⟩
  refine ⟨_, rfl, ?_⟩
  replace Oz1 := Oz1.keep B
  replace X1 := X1.keep B
  replace Oz2 := Oz2.keep B
  replace Oz3 := Oz3.keep B
  replace X3 := X3.keep B
  replace Oz4 := Oz4.keep B
  replace Oz5 := Oz5.keep B
  replace X5 := X5.keep B
  replace Oz6 := Oz6.keep B
  replace Oz7 := Oz7.keep B
  replace Oz8 := Oz8.keep B
  replace Oz9 := Oz9.keep B
  replace X9 := X9.keep B
  replace L15 := L15.keep B
  replace N10b := N10b.keep B
  replace X11 := X11.keep B
  replace Oz11 := Oz11.keep B
  replace X14 := X14.keep B
  replace Oz12 := Oz12.keep B
  replace Oz13 := Oz13.keep B
  replace X18 := X18.keep B
  replace BB := joinB BB B
  clear B
  refine wg_take (some 110) (.bool true) (by kernel_rfl) rfl (str_sameC (x := 109) (s := ⟨#[49, 46, 50]⟩) (by kernel_rfl) (by kernel_rfl)) ?_
  refine wl_take (some 111) (.bool true) rfl rfl (by kernel_rfl) ?_
  refine wl_take (some 112) (.bool true) rfl rfl (by kernel_rfl) ?_
  refine wl_frame (a' := ⟨#[(.bool false), (.pointer (some ⟨g2v, 0, none⟩)), (.int .i64 0), (.pointer (some ⟨g5v, 0, none⟩)), (.int .i64 0), (.pointer (some ⟨g8v, 0, none⟩)), (.int .i64 100), (.int .u64 2), (.int .i64 0), (.pointer (some ⟨g14v, 0, none⟩)), (.int .i64 0), (.pointer (some ⟨g16v, 0, none⟩)), (.int .u64 5), (.int .i64 0), (.pointer (some ⟨g19v, 0, none⟩)), (.int .i64 102), (.slice Az12 Nz12 Cz12), (.int .i64 0), (.pointer (some ⟨g22v, 0, none⟩)), (.int .i64 103), (.tuple #[.agg #[.slice Az1 Nz1 Cz1], .int .i64 0]), (.agg #[.slice none 0 0]), (.tuple #[.agg #[.slice Az1 Nz1 Cz1], .int .i64 0]), (.agg #[.slice Az1 Nz1 Cz1]), (.int .i64 0), (.tuple #[.agg #[.slice Az3 Nz3 Cz3], .int .i64 0]), (.agg #[.slice Az2 Nz2 Cz2]), (.tuple #[.agg #[.slice Az3 Nz3 Cz3], .int .i64 0]), (.agg #[.slice Az3 Nz3 Cz3]), (.int .i64 0), (.tuple #[.agg #[.slice Az5 Nz5 Cz5], .int .i64 100]), (.agg #[.slice Az4 Nz4 Cz4]), (.tuple #[.agg #[.slice Az5 Nz5 Cz5], .int .i64 100]), (.agg #[.slice Az5 Nz5 Cz5]), (.int .i64 100), (.tuple #[.int .u64 2, .int .i64 0]), (.agg #[.slice Az6 Nz6 Cz6]), (.agg #[.slice Az7 Nz7 Cz7]), (.tuple #[.int .u64 2, .int .i64 0]), (.int .u64 2), (.int .i64 0), (.tuple #[.agg #[.slice Az9 Nz9 Cz9], .int .i64 0]), (.agg #[.slice Az8 Nz8 Cz8]), (.tuple #[.agg #[.slice Az9 Nz9 Cz9], .int .i64 0]), (.agg #[.slice Az9 Nz9 Cz9]), (.int .i64 0), (.slice (some ⟨g15v, 0, none⟩) 1 1), (.agg #[.slice (some ⟨g15v, 0, none⟩) 1 1]), (.tuple #[.int .u64 5, .int .i64 0]), (.agg #[.slice (some ⟨g15v, 0, none⟩) 1 1]), (.agg #[.slice (some ⟨g15v, 0, none⟩) 1 1]), (.tuple #[.int .u64 5, .int .i64 0]), (.int .u64 5), (.int .i64 0), (.tuple #[.agg #[.slice Az11 Nz11 Cz11], .int .i64 102]), (.agg #[.slice (some ⟨g15v, 0, none⟩) 1 1]), (.tuple #[.agg #[.slice Az11 Nz11 Cz11], .int .i64 102]), (.agg #[.slice Az11 Nz11 Cz11]), (.int .i64 102), (.tuple #[.slice Az12 Nz12 Cz12, .int .i64 0]), (.tuple #[.slice Az12 Nz12 Cz12, .int .i64 0]), (.slice Az12 Nz12 Cz12), (.int .i64 0), (.tuple #[.agg #[.slice Az13 Nz13 Cz13], .int .i64 103]), (.slice Az12 Nz12 Cz12), (.agg #[.slice Az12 Nz12 Cz12]), (.tuple #[.agg #[.slice Az13 Nz13 Cz13], .int .i64 103]), (.agg #[.slice Az13 Nz13 Cz13]), (.int .i64 103), (.int .i64 0), (.int .i64 0), (.int .i64 0), (.int .i64 0), (.int .i64 0), (.int .i64 0), (.int .i64 0), (.int .i64 0), (.int .i64 0), (.bool false), (.bool false), (.int .i64 100), (.bool false), (.bool false), (.bool false), (.int .i64 102), (.bool false), (.bool false), (.bool false), (.int .i64 103), (.bool false), (.bool false), (.bool false), (.int .u64 2), (.bool false), (.bool false), (.bool false), (.int .u64 5), (.bool false), (.bool false), (.agg #[.slice Az1 Nz1 Cz1]), (.string ⟨#[53]⟩), (.bool true), (.bool true), (.agg #[.slice Az3 Nz3 Cz3]), (.string ⟨#[55, 46, 53]⟩), (.bool true), (.bool true), (.bool true), (.agg #[.slice Az9 Nz9 Cz9]), (.string ⟨#[49, 46, 50]⟩), (.bool true), (.bool true), (.bool true), undef, undef, undef, undef, undef, undef, undef, undef, undef, undef, undef, undef, undef, undef, undef, undef, undef, undef], []⟩) (by kernel_rfl) ?_
  refine wg_call (some 113) 13 #[.int .u64 3] (by kernel_rfl) rfl (by kernel_rfl) (dOf (x := 3) (by decide) (by decide)) ?_
  rintro e1 v26w ⟨Az14, Nz14, Cz14, rfl, Oz14, Kz14, B⟩
  refine ⟨_, rfl, ?_⟩
  replace Oz1 := Oz1.keep B
  replace X1 := X1.keep B
  replace Oz2 := Oz2.keep B
  replace Oz3 := Oz3.keep B
  replace X3 := X3.keep B
  replace Oz4 := Oz4.keep B
  replace Oz5 := Oz5.keep B
  replace X5 := X5.keep B
  replace Oz6 := Oz6.keep B
  replace Oz7 := Oz7.keep B
  replace Oz8 := Oz8.keep B
  replace Oz9 := Oz9.keep B
  replace X9 := X9.keep B
  replace L15 := L15.keep B
  replace N10b := N10b.keep B
  replace X11 := X11.keep B
  replace Oz11 := Oz11.keep B
  replace X14 := X14.keep B
  replace Oz12 := Oz12.keep B
  replace Oz13 := Oz13.keep B
  replace X18 := X18.keep B
  replace BB := joinB BB B
  clear B
  replace Oz14 := Oz14.eqv (show _ = (3000000000000000000000000000000000000 : Int) from by decide +kernel)
  refine wg_call (some 114) 13 #[.int .u64 1] (by kernel_rfl) rfl (by kernel_rfl) (dOf (x := 1) (by decide) (by decide)) ?_
  rintro e1 v27w ⟨Az15, Nz15, Cz15, rfl, Oz15, Kz15, B⟩
  refine ⟨_, rfl, ?_⟩
  replace Oz1 := Oz1.keep B
  replace X1 := X1.keep B
  replace Oz2 := Oz2.keep B
  replace Oz3 := Oz3.keep B
  replace X3 := X3.keep B
  replace Oz4 := Oz4.keep B
  replace Oz5 := Oz5.keep B
  replace X5 := X5.keep B
  replace Oz6 := Oz6.keep B
  replace Oz7 := Oz7.keep B
  replace Oz8 := Oz8.keep B
  replace Oz9 := Oz9.keep B
  replace X9 := X9.keep B
  replace L15 := L15.keep B
  replace N10b := N10b.keep B
  replace X11 := X11.keep B
  replace Oz11 := Oz11.keep B
  replace X14 := X14.keep B
  replace Oz12 := Oz12.keep B
  replace Oz13 := Oz13.keep B
  replace X18 := X18.keep B
  replace Oz14 := Oz14.keep B
  replace BB := joinB BB B
  clear B
  replace Oz15 := Oz15.eqv (show _ = (1000000000000000000000000000000000000 : Int) from by decide +kernel)
  refine wg_call (some 115) 7 #[.int .u64 1, .agg #[.slice Az14 Nz14 Cz14], .agg #[.slice Az15 Nz15 Cz15]] (by kernel_rfl) rfl (by kernel_rfl) (sWorth (T := 1) ⟨by decide, by decide⟩ Oz14.a (by omega) Oz15.a (by omega)) ?_
  rintro e1 v28w ⟨Az16, Nz16, Cz16, rfl, Oz16, Kz16, B⟩
  refine ⟨_, rfl, ?_⟩
  replace Oz1 := Oz1.keep B
  replace X1 := X1.keep B
  replace Oz2 := Oz2.keep B
  replace Oz3 := Oz3.keep B
  replace X3 := X3.keep B
  replace Oz4 := Oz4.keep B
  replace Oz5 := Oz5.keep B
  replace X5 := X5.keep B
  replace Oz6 := Oz6.keep B
  replace Oz7 := Oz7.keep B
  replace Oz8 := Oz8.keep B
  replace Oz9 := Oz9.keep B
  replace X9 := X9.keep B
  replace L15 := L15.keep B
  replace N10b := N10b.keep B
  replace X11 := X11.keep B
  replace Oz11 := Oz11.keep B
  replace X14 := X14.keep B
  replace Oz12 := Oz12.keep B
  replace Oz13 := Oz13.keep B
  replace X18 := X18.keep B
  replace Oz14 := Oz14.keep B
  replace Oz15 := Oz15.keep B
  replace BB := joinB BB B
  clear B
  replace Oz16 := Oz16.eqv (show _ = (333333333333333333333333333333333333 : Int) from by decide +kernel)
  refine wg_call (some 116) 17 #[.agg #[.slice Az16 Nz16 Cz16]] (by kernel_rfl) rfl (by kernel_rfl) (textL (x := 333333333333333333333333333333333333) Oz16.a (by omega) (by decide +kernel) [48, 46, 51, 51, 51, 51, 51, 51, 51, 51, 51, 51, 51, 51, 51, 51, 51, 51, 51, 51, 51, 51, 51, 51, 51, 51, 51, 51, 51, 51, 51, 51, 51, 51, 51, 51, 51, 51] [48] (by decide +kernel) (by decide +kernel) (by decide) (by decide +kernel) (by kernel_rfl)) ?_
  rintro e1 v29w ⟨rfl, B⟩
  refine ⟨_, rfl, ?_⟩
  replace Oz1 := Oz1.keep B
  replace X1 := X1.keep B
  replace Oz2 := Oz2.keep B
  replace Oz3 := Oz3.keep B
  replace X3 := X3.keep B
  replace Oz4 := Oz4.keep B
  replace Oz5 := Oz5.keep B
  replace X5 := X5.keep B
  replace Oz6 := Oz6.keep B
  replace Oz7 := Oz7.keep B
  replace Oz8 := Oz8.keep B
  replace Oz9 := Oz9.keep B
  replace X9 := X9.keep B
  replace L15 := L15.keep B
  replace N10b := N10b.keep B
  replace X11 := X11.keep B
  replace Oz11 := Oz11.keep B
  replace X14 := X14.keep B
  replace Oz12 := Oz12.keep B
  replace Oz13 := Oz13.keep B
  replace X18 := X18.keep B
  replace Oz14 := Oz14.keep B
  replace Oz15 := Oz15.keep B
  replace Oz16 := Oz16.keep B
  replace BB := joinB BB B
  clear B
  refine wg_take (some 117) (.bool true) (by kernel_rfl) rfl (str_sameC (x := 116) (s := ⟨#[48, 46, 51, 51, 51, 51, 51, 51, 51, 51, 51, 51, 51, 51, 51, 51, 51, 51, 51, 51, 51, 51, 51, 51, 51, 51, 51, 51, 51, 51, 51, 51, 51, 51, 51, 51, 51, 51]⟩) (by kernel_rfl) (by kernel_rfl)) ?_
  refine wl_take (some 118) (.bool true) rfl rfl (by kernel_rfl) ?_
  refine wl_take (some 119) (.bool true) rfl rfl (by kernel_rfl) ?_
  refine wl_frame (a' := ⟨#[(.bool false), (.pointer (some ⟨g2v, 0, none⟩)), (.int .i64 0), (.pointer (some ⟨g5v, 0, none⟩)), (.int .i64 0), (.pointer (some ⟨g8v, 0, none⟩)), (.int .i64 100), (.int .u64 2), (.int .i64 0), (.pointer (some ⟨g14v, 0, none⟩)), (.int .i64 0), (.pointer (some ⟨g16v, 0, none⟩)), (.int .u64 5), (.int .i64 0), (.pointer (some ⟨g19v, 0, none⟩)), (.int .i64 102), (.slice Az12 Nz12 Cz12), (.int .i64 0), (.pointer (some ⟨g22v, 0, none⟩)), (.int .i64 103), (.tuple #[.agg #[.slice Az1 Nz1 Cz1], .int .i64 0]), (.agg #[.slice none 0 0]), (.tuple #[.agg #[.slice Az1 Nz1 Cz1], .int .i64 0]), (.agg #[.slice Az1 Nz1 Cz1]), (.int .i64 0), (.tuple #[.agg #[.slice Az3 Nz3 Cz3], .int .i64 0]), (.agg #[.slice Az2 Nz2 Cz2]), (.tuple #[.agg #[.slice Az3 Nz3 Cz3], .int .i64 0]), (.agg #[.slice Az3 Nz3 Cz3]), (.int .i64 0), (.tuple #[.agg #[.slice Az5 Nz5 Cz5], .int .i64 100]), (.agg #[.slice Az4 Nz4 Cz4]), (.tuple #[.agg #[.slice Az5 Nz5 Cz5], .int .i64 100]), (.agg #[.slice Az5 Nz5 Cz5]), (.int .i64 100), (.tuple #[.int .u64 2, .int .i64 0]), (.agg #[.slice Az6 Nz6 Cz6]), (.agg #[.slice Az7 Nz7 Cz7]), (.tuple #[.int .u64 2, .int .i64 0]), (.int .u64 2), (.int .i64 0), (.tuple #[.agg #[.slice Az9 Nz9 Cz9], .int .i64 0]), (.agg #[.slice Az8 Nz8 Cz8]), (.tuple #[.agg #[.slice Az9 Nz9 Cz9], .int .i64 0]), (.agg #[.slice Az9 Nz9 Cz9]), (.int .i64 0), (.slice (some ⟨g15v, 0, none⟩) 1 1), (.agg #[.slice (some ⟨g15v, 0, none⟩) 1 1]), (.tuple #[.int .u64 5, .int .i64 0]), (.agg #[.slice (some ⟨g15v, 0, none⟩) 1 1]), (.agg #[.slice (some ⟨g15v, 0, none⟩) 1 1]), (.tuple #[.int .u64 5, .int .i64 0]), (.int .u64 5), (.int .i64 0), (.tuple #[.agg #[.slice Az11 Nz11 Cz11], .int .i64 102]), (.agg #[.slice (some ⟨g15v, 0, none⟩) 1 1]), (.tuple #[.agg #[.slice Az11 Nz11 Cz11], .int .i64 102]), (.agg #[.slice Az11 Nz11 Cz11]), (.int .i64 102), (.tuple #[.slice Az12 Nz12 Cz12, .int .i64 0]), (.tuple #[.slice Az12 Nz12 Cz12, .int .i64 0]), (.slice Az12 Nz12 Cz12), (.int .i64 0), (.tuple #[.agg #[.slice Az13 Nz13 Cz13], .int .i64 103]), (.slice Az12 Nz12 Cz12), (.agg #[.slice Az12 Nz12 Cz12]), (.tuple #[.agg #[.slice Az13 Nz13 Cz13], .int .i64 103]), (.agg #[.slice Az13 Nz13 Cz13]), (.int .i64 103), (.int .i64 0), (.int .i64 0), (.int .i64 0), (.int .i64 0), (.int .i64 0), (.int .i64 0), (.int .i64 0), (.int .i64 0), (.int .i64 0), (.bool false), (.bool false), (.int .i64 100), (.bool false), (.bool false), (.bool false), (.int .i64 102), (.bool false), (.bool false), (.bool false), (.int .i64 103), (.bool false), (.bool false), (.bool false), (.int .u64 2), (.bool false), (.bool false), (.bool false), (.int .u64 5), (.bool false), (.bool false), (.agg #[.slice Az1 Nz1 Cz1]), (.string ⟨#[53]⟩), (.bool true), (.bool true), (.agg #[.slice Az3 Nz3 Cz3]), (.string ⟨#[55, 46, 53]⟩), (.bool true), (.bool true), (.bool true), (.agg #[.slice Az9 Nz9 Cz9]), (.string ⟨#[49, 46, 50]⟩), (.bool true), (.bool true), (.bool true), (.agg #[.slice Az14 Nz14 Cz14]), (.agg #[.slice Az15 Nz15 Cz15]), (.agg #[.slice Az16 Nz16 Cz16]), (.string ⟨#[48, 46, 51, 51, 51, 51, 51, 51, 51, 51, 51, 51, 51, 51, 51, 51, 51, 51, 51, 51, 51, 51, 51, 51, 51, 51, 51, 51, 51, 51, 51, 51, 51, 51, 51, 51, 51, 51]⟩), (.bool true), (.bool true), (.bool true), undef, undef, undef, undef, undef, undef, undef, undef, undef, undef, undef], []⟩) (by kernel_rfl) ?_
  refine wg_call (some 120) 18 #[.int .u64 10, .int .u64 1] (by kernel_rfl) rfl (by kernel_rfl) (sCutL (n := 10) (p := 1) (v := 0) ⟨by decide, by decide⟩ ⟨by decide, by decide⟩ (by decide +kernel)) ?_
  rintro e1 v30w ⟨rfl, B⟩
  refine ⟨_, rfl, ?_⟩
  replace Oz1 := Oz1.keep B
  replace X1 := X1.keep B
  replace Oz2 := Oz2.keep B
  replace Oz3 := Oz3.keep B
  replace X3 := X3.keep B
  replace Oz4 := Oz4.keep B
  replace Oz5 := Oz5.keep B
  replace X5 := X5.keep B
  replace Oz6 := Oz6.keep B
  replace Oz7 := Oz7.keep B
  replace Oz8 := Oz8.keep B
  replace Oz9 := Oz9.keep B
  replace X9 := X9.keep B
  replace L15 := L15.keep B
  replace N10b := N10b.keep B
  replace X11 := X11.keep B
  replace Oz11 := Oz11.keep B
  replace X14 := X14.keep B
  replace Oz12 := Oz12.keep B
  replace Oz13 := Oz13.keep B
  replace X18 := X18.keep B
  replace Oz14 := Oz14.keep B
  replace Oz15 := Oz15.keep B
  replace Oz16 := Oz16.keep B
  replace BB := joinB BB B
  clear B
  refine wg_take (some 121) (.bool true) (by kernel_rfl) rfl (by kernel_rfl) ?_
  refine wl_take (some 122) (.bool true) rfl rfl (by kernel_rfl) ?_
  refine wl_take (some 123) (.bool true) rfl rfl (by kernel_rfl) ?_
  refine wg_call (some 124) 18 #[.int .u64 10000, .int .u64 20000] (by kernel_rfl) rfl (by kernel_rfl) (sCutL (n := 10000) (p := 20000) (v := 10000) ⟨by decide, by decide⟩ ⟨by decide, by decide⟩ (by decide +kernel)) ?_
  rintro e1 v31w ⟨rfl, B⟩
  refine ⟨_, rfl, ?_⟩
  replace Oz1 := Oz1.keep B
  replace X1 := X1.keep B
  replace Oz2 := Oz2.keep B
  replace Oz3 := Oz3.keep B
  replace X3 := X3.keep B
  replace Oz4 := Oz4.keep B
  replace Oz5 := Oz5.keep B
  replace X5 := X5.keep B
  replace Oz6 := Oz6.keep B
  replace Oz7 := Oz7.keep B
  replace Oz8 := Oz8.keep B
  replace Oz9 := Oz9.keep B
  replace X9 := X9.keep B
  replace L15 := L15.keep B
  replace N10b := N10b.keep B
  replace X11 := X11.keep B
  replace Oz11 := Oz11.keep B
  replace X14 := X14.keep B
  replace Oz12 := Oz12.keep B
  replace Oz13 := Oz13.keep B
  replace X18 := X18.keep B
  replace Oz14 := Oz14.keep B
  replace Oz15 := Oz15.keep B
  replace Oz16 := Oz16.keep B
  replace BB := joinB BB B
  clear B
  refine wg_take (some 125) (.bool true) (by kernel_rfl) rfl (by kernel_rfl) ?_
  refine wl_take (some 126) (.bool true) rfl rfl (by kernel_rfl) ?_
  refine wl_frame (a' := ⟨#[(.bool false), (.pointer (some ⟨g2v, 0, none⟩)), (.int .i64 0), (.pointer (some ⟨g5v, 0, none⟩)), (.int .i64 0), (.pointer (some ⟨g8v, 0, none⟩)), (.int .i64 100), (.int .u64 2), (.int .i64 0), (.pointer (some ⟨g14v, 0, none⟩)), (.int .i64 0), (.pointer (some ⟨g16v, 0, none⟩)), (.int .u64 5), (.int .i64 0), (.pointer (some ⟨g19v, 0, none⟩)), (.int .i64 102), (.slice Az12 Nz12 Cz12), (.int .i64 0), (.pointer (some ⟨g22v, 0, none⟩)), (.int .i64 103), (.tuple #[.agg #[.slice Az1 Nz1 Cz1], .int .i64 0]), (.agg #[.slice none 0 0]), (.tuple #[.agg #[.slice Az1 Nz1 Cz1], .int .i64 0]), (.agg #[.slice Az1 Nz1 Cz1]), (.int .i64 0), (.tuple #[.agg #[.slice Az3 Nz3 Cz3], .int .i64 0]), (.agg #[.slice Az2 Nz2 Cz2]), (.tuple #[.agg #[.slice Az3 Nz3 Cz3], .int .i64 0]), (.agg #[.slice Az3 Nz3 Cz3]), (.int .i64 0), (.tuple #[.agg #[.slice Az5 Nz5 Cz5], .int .i64 100]), (.agg #[.slice Az4 Nz4 Cz4]), (.tuple #[.agg #[.slice Az5 Nz5 Cz5], .int .i64 100]), (.agg #[.slice Az5 Nz5 Cz5]), (.int .i64 100), (.tuple #[.int .u64 2, .int .i64 0]), (.agg #[.slice Az6 Nz6 Cz6]), (.agg #[.slice Az7 Nz7 Cz7]), (.tuple #[.int .u64 2, .int .i64 0]), (.int .u64 2), (.int .i64 0), (.tuple #[.agg #[.slice Az9 Nz9 Cz9], .int .i64 0]), (.agg #[.slice Az8 Nz8 Cz8]), (.tuple #[.agg #[.slice Az9 Nz9 Cz9], .int .i64 0]), (.agg #[.slice Az9 Nz9 Cz9]), (.int .i64 0), (.slice (some ⟨g15v, 0, none⟩) 1 1), (.agg #[.slice (some ⟨g15v, 0, none⟩) 1 1]), (.tuple #[.int .u64 5, .int .i64 0]), (.agg #[.slice (some ⟨g15v, 0, none⟩) 1 1]), (.agg #[.slice (some ⟨g15v, 0, none⟩) 1 1]), (.tuple #[.int .u64 5, .int .i64 0]), (.int .u64 5), (.int .i64 0), (.tuple #[.agg #[.slice Az11 Nz11 Cz11], .int .i64 102]), (.agg #[.slice (some ⟨g15v, 0, none⟩) 1 1]), (.tuple #[.agg #[.slice Az11 Nz11 Cz11], .int .i64 102]), (.agg #[.slice Az11 Nz11 Cz11]), (.int .i64 102), (.tuple #[.slice Az12 Nz12 Cz12, .int .i64 0]), (.tuple #[.slice Az12 Nz12 Cz12, .int .i64 0]), (.slice Az12 Nz12 Cz12), (.int .i64 0), (.tuple #[.agg #[.slice Az13 Nz13 Cz13], .int .i64 103]), (.slice Az12 Nz12 Cz12), (.agg #[.slice Az12 Nz12 Cz12]), (.tuple #[.agg #[.slice Az13 Nz13 Cz13], .int .i64 103]), (.agg #[.slice Az13 Nz13 Cz13]), (.int .i64 103), (.int .i64 0), (.int .i64 0), (.int .i64 0), (.int .i64 0), (.int .i64 0), (.int .i64 0), (.int .i64 0), (.int .i64 0), (.int .i64 0), (.bool false), (.bool false), (.int .i64 100), (.bool false), (.bool false), (.bool false), (.int .i64 102), (.bool false), (.bool false), (.bool false), (.int .i64 103), (.bool false), (.bool false), (.bool false), (.int .u64 2), (.bool false), (.bool false), (.bool false), (.int .u64 5), (.bool false), (.bool false), (.agg #[.slice Az1 Nz1 Cz1]), (.string ⟨#[53]⟩), (.bool true), (.bool true), (.agg #[.slice Az3 Nz3 Cz3]), (.string ⟨#[55, 46, 53]⟩), (.bool true), (.bool true), (.bool true), (.agg #[.slice Az9 Nz9 Cz9]), (.string ⟨#[49, 46, 50]⟩), (.bool true), (.bool true), (.bool true), (.agg #[.slice Az14 Nz14 Cz14]), (.agg #[.slice Az15 Nz15 Cz15]), (.agg #[.slice Az16 Nz16 Cz16]), (.string ⟨#[48, 46, 51, 51, 51, 51, 51, 51, 51, 51, 51, 51, 51, 51, 51, 51, 51, 51, 51, 51, 51, 51, 51, 51, 51, 51, 51, 51, 51, 51, 51, 51, 51, 51, 51, 51, 51, 51]⟩), (.bool true), (.bool true), (.bool true), (.int .u64 0), (.bool true), (.bool true), (.bool true), (.int .u64 10000), (.bool true), (.bool true), undef, undef, undef, undef], []⟩) (by kernel_rfl) ?_
  refine wl_take (some 127) (.bool true) rfl rfl (by kernel_rfl) ?_
  refine wg_call (some 128) 18 #[.int .u64 100, .int .u64 500] (by kernel_rfl) rfl (by kernel_rfl) (sCutL (n := 100) (p := 500) (v := 5) ⟨by decide, by decide⟩ ⟨by decide, by decide⟩ (by decide +kernel)) ?_
  rintro e1 v32w ⟨rfl, B⟩
  refine ⟨_, rfl, ?_⟩
  replace Oz1 := Oz1.keep B
  replace X1 := X1.keep B
  replace Oz2 := Oz2.keep B
  replace Oz3 := Oz3.keep B
  replace X3 := X3.keep B
  replace Oz4 := Oz4.keep B
  replace Oz5 := Oz5.keep B
  replace X5 := X5.keep B
  replace Oz6 := Oz6.keep B
  replace Oz7 := Oz7.keep B
  replace Oz8 := Oz8.keep B
  replace Oz9 := Oz9.keep B
  replace X9 := X9.keep B
  replace L15 := L15.keep B
  replace N10b := N10b.keep B
  replace X11 := X11.keep B
  replace Oz11 := Oz11.keep B
  replace X14 := X14.keep B
  replace Oz12 := Oz12.keep B
  replace Oz13 := Oz13.keep B
  replace X18 := X18.keep B
  replace Oz14 := Oz14.keep B
  replace Oz15 := Oz15.keep B
  replace Oz16 := Oz16.keep B
  replace BB := joinB BB B
  clear B
  refine wg_take (some 129) (.bool true) (by kernel_rfl) rfl (by kernel_rfl) ?_
  refine wl_take (some 130) (.bool true) rfl rfl (by kernel_rfl) ?_
  refine wl_take (some 0) (.bool true) rfl rfl (by kernel_rfl) ?_
  refine wl_nil ?_
  refine wp_then ?_
  refine wp_frame (a' := ⟨#[(.bool true), (.pointer (some ⟨g2v, 0, none⟩)), (.int .i64 0), (.pointer (some ⟨g5v, 0, none⟩)), (.int .i64 0), (.pointer (some ⟨g8v, 0, none⟩)), (.int .i64 100), (.int .u64 2), (.int .i64 0), (.pointer (some ⟨g14v, 0, none⟩)), (.int .i64 0), (.pointer (some ⟨g16v, 0, none⟩)), (.int .u64 5), (.int .i64 0), (.pointer (some ⟨g19v, 0, none⟩)), (.int .i64 102), (.slice Az12 Nz12 Cz12), (.int .i64 0), (.pointer (some ⟨g22v, 0, none⟩)), (.int .i64 103), (.tuple #[.agg #[.slice Az1 Nz1 Cz1], .int .i64 0]), (.agg #[.slice none 0 0]), (.tuple #[.agg #[.slice Az1 Nz1 Cz1], .int .i64 0]), (.agg #[.slice Az1 Nz1 Cz1]), (.int .i64 0), (.tuple #[.agg #[.slice Az3 Nz3 Cz3], .int .i64 0]), (.agg #[.slice Az2 Nz2 Cz2]), (.tuple #[.agg #[.slice Az3 Nz3 Cz3], .int .i64 0]), (.agg #[.slice Az3 Nz3 Cz3]), (.int .i64 0), (.tuple #[.agg #[.slice Az5 Nz5 Cz5], .int .i64 100]), (.agg #[.slice Az4 Nz4 Cz4]), (.tuple #[.agg #[.slice Az5 Nz5 Cz5], .int .i64 100]), (.agg #[.slice Az5 Nz5 Cz5]), (.int .i64 100), (.tuple #[.int .u64 2, .int .i64 0]), (.agg #[.slice Az6 Nz6 Cz6]), (.agg #[.slice Az7 Nz7 Cz7]), (.tuple #[.int .u64 2, .int .i64 0]), (.int .u64 2), (.int .i64 0), (.tuple #[.agg #[.slice Az9 Nz9 Cz9], .int .i64 0]), (.agg #[.slice Az8 Nz8 Cz8]), (.tuple #[.agg #[.slice Az9 Nz9 Cz9], .int .i64 0]), (.agg #[.slice Az9 Nz9 Cz9]), (.int .i64 0), (.slice (some ⟨g15v, 0, none⟩) 1 1), (.agg #[.slice (some ⟨g15v, 0, none⟩) 1 1]), (.tuple #[.int .u64 5, .int .i64 0]), (.agg #[.slice (some ⟨g15v, 0, none⟩) 1 1]), (.agg #[.slice (some ⟨g15v, 0, none⟩) 1 1]), (.tuple #[.int .u64 5, .int .i64 0]), (.int .u64 5), (.int .i64 0), (.tuple #[.agg #[.slice Az11 Nz11 Cz11], .int .i64 102]), (.agg #[.slice (some ⟨g15v, 0, none⟩) 1 1]), (.tuple #[.agg #[.slice Az11 Nz11 Cz11], .int .i64 102]), (.agg #[.slice Az11 Nz11 Cz11]), (.int .i64 102), (.tuple #[.slice Az12 Nz12 Cz12, .int .i64 0]), (.tuple #[.slice Az12 Nz12 Cz12, .int .i64 0]), (.slice Az12 Nz12 Cz12), (.int .i64 0), (.tuple #[.agg #[.slice Az13 Nz13 Cz13], .int .i64 103]), (.slice Az12 Nz12 Cz12), (.agg #[.slice Az12 Nz12 Cz12]), (.tuple #[.agg #[.slice Az13 Nz13 Cz13], .int .i64 103]), (.agg #[.slice Az13 Nz13 Cz13]), (.int .i64 103), (.int .i64 0), (.int .i64 0), (.int .i64 0), (.int .i64 0), (.int .i64 0), (.int .i64 0), (.int .i64 0), (.int .i64 0), (.int .i64 0), (.bool false), (.bool false), (.int .i64 100), (.bool false), (.bool false), (.bool false), (.int .i64 102), (.bool false), (.bool false), (.bool false), (.int .i64 103), (.bool false), (.bool false), (.bool false), (.int .u64 2), (.bool false), (.bool false), (.bool false), (.int .u64 5), (.bool false), (.bool false), (.agg #[.slice Az1 Nz1 Cz1]), (.string ⟨#[53]⟩), (.bool true), (.bool true), (.agg #[.slice Az3 Nz3 Cz3]), (.string ⟨#[55, 46, 53]⟩), (.bool true), (.bool true), (.bool true), (.agg #[.slice Az9 Nz9 Cz9]), (.string ⟨#[49, 46, 50]⟩), (.bool true), (.bool true), (.bool true), (.agg #[.slice Az14 Nz14 Cz14]), (.agg #[.slice Az15 Nz15 Cz15]), (.agg #[.slice Az16 Nz16 Cz16]), (.string ⟨#[48, 46, 51, 51, 51, 51, 51, 51, 51, 51, 51, 51, 51, 51, 51, 51, 51, 51, 51, 51, 51, 51, 51, 51, 51, 51, 51, 51, 51, 51, 51, 51, 51, 51, 51, 51, 51, 51]⟩), (.bool true), (.bool true), (.bool true), (.int .u64 0), (.bool true), (.bool true), (.bool true), (.int .u64 10000), (.bool true), (.bool true), (.bool true), (.int .u64 5), (.bool true), (.bool true)], []⟩) (by kernel_rfl) ?_
  refine wp_ret ?_
  repeat (first | refine ret_then ?_ | refine ret_block ?_)
  refine bodyPost_ret (results_tmp rfl _ _ _) rfl ?_
  exact ⟨by kernel_rfl, BB⟩
end Sh
end Go.Proofs.YtgflacmnfegjlaaDoor

namespace Go.Proofs.YtgflacmnfegjlaaDoor
namespace Sh
open Go.RowKit Lim
theorem isE_cases {T S t : Int} (h : isE T S t = 0) : t ≠ 0 ∧ (S = 0 ∧ isV T S t = t * U36 ∨ S ≠ 0 ∧ T ≠ 0 ∧ isV T S t = S * t / T) := by
  unfold isE at h
  unfold isV
  split at h
  · exact absurd h (by decide)
  · rename_i ht
    refine ⟨ht, ?_⟩
    rw [if_neg ht]
    split at h
    · rename_i hs
      exact .inl ⟨hs, if_pos hs⟩
    · rename_i hs
      rw [if_neg hs]
      split at h
      · exact absurd h (by decide)
      · rename_i hz
        rw [if_neg hz]
        split at h
        · exact absurd h (by decide)
        · split at h
          · exact absurd h (by decide)
          · rename_i hb
            rw [if_neg hb]
            exact .inr ⟨hs, hz, rfl⟩
theorem re_facts {T S x : Int} (hT : 0 ≤ T) (hx : 0 ≤ x) : (S < x → reE S x = 102) ∧ (x ≤ S → reE S x = 0) ∧ (x = S → reV T S x = T) ∧ (0 ≤ reV T S x ∧ reV T S x ≤ T) ∧ (x < S → (0 < T → reV T S x < T)) ∧ (x < S → T * (S - x) ≤ (T - reV T S x) * S) := by
  refine ⟨fun h => by rw [reE, if_pos h], fun h => by rw [reE, if_neg (by omega)], fun h => by rw [reV, if_neg (by omega), if_pos h], reV_rng hT hx, fun h h0 => ?_, fun h => ?_⟩
  · rw [reV, if_neg (by omega), if_neg (by omega)]
    exact (re_le hT hx h).2.2 h0
  · rw [reV, if_neg (by omega), if_neg (by omega)]
    exact rate_re hx h
theorem is_rate {T S t : Int} (hT : 0 ≤ T) (hS : 0 ≤ S) (h0 : S ≠ 0) : isE T S t = 0 → T * (S + isV T S t) ≤ (T + t) * S := fun h => rate_is hT (by omega) h
theorem back_need {T S t : Int} (hT : 0 ≤ T) (hS : 0 ≤ S) : neE T t = 0 → neV T S t ≤ S → reE S (neV T S t) = 0 ∧ t ≤ reV T S (neV T S t) := by
  intro h hle
  have h1 : ¬ T < t := fun h1 => by rw [neE, if_pos h1] at h; exact absurd h (by decide)
  have h2 : ¬ T = 0 := fun h2 => by rw [neE, if_neg h1, if_pos h2] at h; exact absurd h (by decide)
  have e : neV T S t = rnd true (S * t) T := by rw [neV, if_neg h1, if_neg h2]
  refine ⟨by rw [reE, if_neg (by omega)], ?_⟩
  unfold reV
  rw [if_neg (by omega)]
  split
  · omega
  · rename_i hne
    have hS0 : 0 < S := by
      by_cases h9 : S = 0
      · exfalso
        rw [e, h9, Int.zero_mul] at hne
        exact hne (by unfold rnd; simp)
      · omega
    exact need_enough hS0 (by omega) e
theorem isV_nonneg {T S t : Int} (hT : 0 ≤ T) (hS : 0 ≤ S) (ht : 0 ≤ t) (h : isE T S t = 0) : 0 ≤ isV T S t := by
  rcases (isE_cases h).2 with ⟨_, e⟩ | ⟨_, _, e⟩
  · rw [e]; exact Int.mul_nonneg ht (by decide)
  · rw [e]; exact Int.ediv_nonneg (Int.mul_nonneg hS ht) hT
theorem back_issue {T S t : Int} (hT : 0 ≤ T) (hS : 0 ≤ S) (ht : 0 ≤ t) : isE T S t = 0 → ¬ (S = 0 ∧ 0 < T) → reE (S + isV T S t) (isV T S t) = 0 ∧ reV (T + t) (S + isV T S t) (isV T S t) ≤ t := by
  intro h hn
  have hz := isV_nonneg hT hS ht h
  refine ⟨by rw [reE, if_neg (by omega)], ?_⟩
  unfold reV
  rw [if_neg (by omega)]
  split
  · omega
  · rename_i hne
    rcases (isE_cases h).2 with ⟨h1, _⟩ | ⟨h1, h2, e⟩
    · exfalso; omega
    · exact back_most (by omega) (by omega) hz e
theorem two_steps {T S t u : Int} (hT : 0 < T) (hS : 0 ≤ S) (hS0 : S ≠ 0) (ht : 0 ≤ t) (hu : 0 ≤ u) : isE T S t = 0 → isE (T + t) (S + isV T S t) u = 0 → isE T S (t + u) = 0 → isV T S t + isV (T + t) (S + isV T S t) u ≤ isV T S (t + u) := by
  intro h1 h2 h3
  have hz := isV_nonneg (Int.le_of_lt hT) hS ht h1
  rcases (isE_cases h1).2 with ⟨a, _⟩ | ⟨_, _, e1⟩
  · exact absurd a hS0
  rcases (isE_cases h2).2 with ⟨a, _⟩ | ⟨_, _, e2⟩
  · omega
  rcases (isE_cases h3).2 with ⟨a, _⟩ | ⟨_, _, e3⟩
  · exact absurd a hS0
  rw [e2, e3, e1]
  exact two_le hT ht hu
theorem rate_two {V S a c : Int} (hV : 0 ≤ V) : a ≤ c → V * (S + a) ≤ V * (S + c) := fun h => Int.mul_le_mul_of_nonneg_left (by omega) hV
theorem leave_two {T S x y : Int} (hx : 0 ≤ x) (hy : 0 ≤ y) : x ≤ S → S - x ≠ 0 → reE (S - x) y = 0 → reE S (x + y) = 0 ∧ reV T S x + reV (T - reV T S x) (S - x) y ≤ reV T S (x + y) ∧ (y = S - x → reV T S x + reV (T - reV T S x) (S - x) y = reV T S (x + y)) := by
  intro h1 h2 h3
  have hyl : y ≤ S - x := by
    by_cases h9 : S - x < y
    · rw [reE, if_pos h9] at h3; exact absurd h3 (by decide)
    · omega
  have ex : reV T S x = x * T / S := by rw [reV, if_neg (by omega), if_neg (by omega)]
  refine ⟨by rw [reE, if_neg (by omega)], ?_⟩
  by_cases he : y = S - x
  · have e1 : reV (T - reV T S x) (S - x) y = T - reV T S x := by rw [reV, if_neg (by omega), if_pos he]
    have e2 : reV T S (x + y) = T := by rw [reV, if_neg (by omega), if_pos (by omega)]
    rw [e1, e2]
    exact ⟨by omega, fun _ => by omega⟩
  · have e1 : reV (T - reV T S x) (S - x) y = y * (T - x * T / S) / (S - x) := by rw [reV, if_neg (by omega), if_neg he, ex]
    have e2 : reV T S (x + y) = (x + y) * T / S := by rw [reV, if_neg (by omega), if_neg (by omega)]
    rw [e1, e2, ex]
    exact ⟨leave_le hx hy (by omega), fun h => absurd h he⟩
end Sh
end Go.Proofs.YtgflacmnfegjlaaDoor
