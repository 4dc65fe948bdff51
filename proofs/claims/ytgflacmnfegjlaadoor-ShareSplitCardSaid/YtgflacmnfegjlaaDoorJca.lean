/- Several texts, joined: ShP, ShA, Small. -/
import Derived.Test.YtgflacmnfegjlaaDoorJab
import Derived.Test.YtgflacmnfegjlaaDoorJba
import Derived.Laws.EntriesVeiled
import Derived.Test.YtgflacmnfegjlaaDoorJaa
import Derived.OpenShut
namespace Go.Proofs.YtgflacmnfegjlaaDoor
namespace Sh
open Go.RowKit Lim
def isV (T S t : Int) : Int := if t = 0 then 0 else if S = 0 then t * U36 else if T = 0 then 0 else if S + S * t / T > 10 ^ 90 then 0 else S * t / T
def isE (T S t : Int) : Int := if t = 0 then 101 else if S = 0 then 0 else if T = 0 then 100 else if S * t / T = 0 then 101 else if S + S * t / T > 10 ^ 90 then 103 else 0
def reV (T S x : Int) : Int := if S < x then 0 else if x = S then T else x * T / S
def reE (S x : Int) : Int := if S < x then 102 else 0
def woV (T S x : Int) : Int := if S = 0 then 0 else x * (T * U36) / S
def neV (T S t : Int) : Int := if T < t then 0 else if T = 0 then 0 else rnd true (S * t) T
def neE (T t : Int) : Int := if T < t then 102 else if T = 0 then 100 else 0
theorem div_scale {a b u : Int} (hu : 0 < u) : a * u / (b * u) = a / b := Int.mul_ediv_mul_of_pos_left a b hu
theorem div_back {a b u : Int} (hu : 0 < u) (hb : 0 ≤ b) : a * u / b / u = a / b := by
  rw [Int.ediv_ediv_of_nonneg hb, Int.mul_ediv_mul_of_pos_left a b hu]
theorem fl_le {a b : Int} (hb : 0 < b) : a / b * b ≤ a := Int.ediv_mul_le a (by omega)
theorem le_fl {a b c : Int} (hb : 0 < b) : c ≤ a / b ↔ c * b ≤ a := Int.le_ediv_iff_mul_le hb
theorem fl_lt {a b c : Int} (hb : 0 < b) : a / b < c ↔ a < c * b := Int.ediv_lt_iff_lt_mul hb
theorem u36p : (0 : Int) < U36 := by decide
theorem up_ge {a b : Int} (hb : 0 < b) : a ≤ rnd true a b * b := by
  unfold rnd
  have h := Int.emod_add_mul_ediv a b
  have h1 := Int.emod_lt_of_pos a hb
  split
  · rw [Int.add_mul, Int.one_mul, Int.mul_comm]
    omega
  · rename_i hz
    have h0 : a % b = 0 := by
      by_cases h9 : a % b = 0
      · exact h9
      · exact absurd ⟨rfl, h9⟩ hz
    rw [Int.mul_comm]
    omega
theorem rnd_scale {a b u : Int} (hu : 0 < u) : rnd true (a * u) (b * u) = rnd true a b := by
  unfold rnd
  have h1 : a * u % (b * u) = a % b * u := Int.mul_emod_mul_of_pos a b hu |> fun h => by rw [Int.mul_comm a u, Int.mul_comm b u, Int.mul_emod_mul_of_pos _ _ hu, Int.mul_comm]
  have h2 : a * u / (b * u) = a / b := div_scale hu
  rw [h1, h2]
  by_cases h0 : a % b = 0
  · rw [if_neg (by rw [h0]; simp), if_neg (by simp [h0])]
  · rw [if_pos ⟨rfl, fun e => by rcases Int.mul_eq_zero.1 e with e | e <;> omega⟩, if_pos ⟨rfl, h0⟩]
theorem mulU_ne {T : Int} (h : T ≠ 0) : T * U36 ≠ 0 := fun e => by
  have := u36p
  rcases Int.mul_eq_zero.1 e with e | e <;> omega
theorem is_q (x t T : Int) : rnd false (x * (t * U36)) (T * U36) = x * t / T := by
  rw [rnd_down, ← Int.mul_assoc]
  exact div_scale u36p
theorem lt_of {a b : Int} (h : ¬ b < a) (h' : ¬ a = b) : a < b := by omega
theorem isV_q {T S t : Int} (_ht : ¬ t = 0) (hs : ¬ S = 0) (hz : ¬ T = 0) (hq : S * t / T = 0) : isV T S t = 0 := by
  rw [isV, if_neg _ht, if_neg hs, if_neg hz, hq]
  split <;> rfl
/-- redeemed: never more than all -/
theorem re_le {T S x : Int} (hT : 0 ≤ T) (hx : 0 ≤ x) (h : x < S) : x * T / S ≤ T ∧ 0 ≤ x * T / S ∧ (0 < T → x * T / S < T) := by
  have hS : 0 < S := by omega
  have h1 : x * T ≤ S * T := Int.mul_le_mul_of_nonneg_right (by omega) hT
  refine ⟨?_, Int.ediv_nonneg (Int.mul_nonneg hx hT) (by omega), fun h0 => ?_⟩
  · have h2 : x * T / S ≤ S * T / S := Int.ediv_le_ediv hS h1
    rwa [Int.mul_ediv_cancel_left T (by omega)] at h2
  · rw [fl_lt hS, Int.mul_comm T S]
    exact Int.mul_lt_mul_of_pos_right h h0
theorem reV_rng {T S x : Int} (hT : 0 ≤ T) (hx : 0 ≤ x) : 0 ≤ reV T S x ∧ reV T S x ≤ T := by
  unfold reV
  split
  · exact ⟨Int.le_refl _, hT⟩
  · split
    · exact ⟨hT, Int.le_refl _⟩
    · have := re_le (S := S) hT hx (by omega)
      exact ⟨this.2.1, this.1⟩
theorem wo_re {T S x : Int} (hx : 0 ≤ x) (hl : ¬ S < x) (he : ¬ x = S) : woV T S x / U36 = reV T S x := by
  rw [woV, reV, if_neg hl, if_neg he, if_neg (by omega : ¬ S = 0), ← Int.mul_assoc]
  exact div_back u36p (by omega)
/-- joining: tokens by shares do not fall -/
theorem rate_is {T S t : Int} (hT : 0 ≤ T) (hS : 0 < S) (h : isE T S t = 0) : T * (S + isV T S t) ≤ (T + t) * S := by
  unfold isE at h
  unfold isV
  split at h
  · exact absurd h (by decide)
  · rename_i ht
    rw [if_neg ht, if_neg (by omega : ¬ S = 0)]
    rw [if_neg (by omega : ¬ S = 0)] at h
    split at h
    · exact absurd h (by decide)
    · rename_i h0
      rw [if_neg h0]
      split at h
      · exact absurd h (by decide)
      · split at h
        · exact absurd h (by decide)
        · rename_i h2
          rw [if_neg h2, Int.mul_add, Int.add_mul, Int.mul_comm T (S * t / T), Int.mul_comm t S]
          have := fl_le (a := S * t) (b := T) (by omega)
          omega
theorem rate_re {T S x : Int} (hx : 0 ≤ x) (h : x < S) : T * (S - x) ≤ (T - x * T / S) * S := by
  have h1 := fl_le (a := x * T) (b := S) (by omega)
  rw [Int.mul_sub, Int.sub_mul, Int.mul_comm T x]
  omega
/-- what Need takes is enough -/
theorem need_enough {T S t x : Int} (hS : 0 < S) (hT : 0 < T) (hx : x = rnd true (S * t) T) : t ≤ x * T / S := by
  rw [le_fl hS, hx, Int.mul_comm t S]
  exact up_ge hT
/-- there and right back -/
theorem back_most {T S t z : Int} (hT : 0 < T) (hS : 0 < S) (hz0 : 0 ≤ z) (hz : z = S * t / T) : z * (T + t) / (S + z) ≤ t := by
  have h1 := fl_le (a := S * t) (b := T) hT
  rw [← hz] at h1
  have h2 : z * (T + t) < (t + 1) * (S + z) := by
    rw [Int.mul_add, Int.add_mul, Int.mul_add t S z, Int.mul_comm t S, Int.mul_comm t z]
    omega
  have := (fl_lt (a := z * (T + t)) (b := S + z) (c := t + 1) (by omega)).2 h2
  omega
/-- joined in two steps -/
theorem two_le {T S t u : Int} (hT : 0 < T) (ht : 0 ≤ t) (hu : 0 ≤ u) : S * t / T + (S + S * t / T) * u / (T + t) ≤ S * (t + u) / T := by
  have ha := fl_le (a := S * t) (b := T) hT
  generalize S * t / T = a at *
  have hb := fl_le (a := (S + a) * u) (b := T + t) (by omega)
  generalize (S + a) * u / (T + t) = b at *
  rw [le_fl hT]
  -- (a + b) T ≤ S (t + u): times (T + t)
  have hTt : 0 < T + t := by omega
  have h1 : b * (T + t) * T ≤ (S + a) * u * T := Int.mul_le_mul_of_nonneg_right hb (by omega)
  have h2 : (S + a) * T ≤ S * (T + t) := by rw [Int.add_mul, Int.mul_add]; omega
  have h3 : (S + a) * T * u ≤ S * (T + t) * u := Int.mul_le_mul_of_nonneg_right h2 hu
  have e1 : (S + a) * u * T = (S + a) * T * u := Int.mul_right_comm _ _ _
  have e2 : b * (T + t) * T = b * T * (T + t) := Int.mul_right_comm _ _ _
  have e3 : S * (T + t) * u = S * u * (T + t) := Int.mul_right_comm _ _ _
  have h4 : b * T * (T + t) ≤ S * u * (T + t) := by omega
  have h5 : b * T ≤ S * u := Int.le_of_mul_le_mul_right h4 hTt
  rw [Int.add_mul, Int.mul_add]
  omega
/-- left in two steps -/
theorem leave_le {T S x y : Int} (hx : 0 ≤ x) (hy : 0 ≤ y) (h : x + y < S) : x * T / S + y * (T - x * T / S) / (S - x) ≤ (x + y) * T / S := by
  have hS : 0 < S := by omega
  have ha := fl_le (a := x * T) (b := S) hS
  generalize x * T / S = a at *
  have hb := fl_le (a := y * (T - a)) (b := S - x) (by omega)
  generalize y * (T - a) / (S - x) = b at *
  rw [le_fl hS]
  -- (a + b) S (S - x) ≤ (x + y) T (S - x)
  have hL : 0 < S - x := by omega
  refine Int.le_of_mul_le_mul_right (a := S - x) ?_ hL
  have h1 : b * (S - x) * S ≤ y * (T - a) * S := Int.mul_le_mul_of_nonneg_right hb (by omega)
  -- a S (S - x) + b S (S - x) ≤ a S (S - x) + y (T - a) S
  have e1 : (a + b) * S * (S - x) = a * S * (S - x) + b * (S - x) * S := by
    rw [Int.add_mul, Int.add_mul, Int.mul_right_comm b S]
  have e2 : (x + y) * T * (S - x) = x * T * (S - x) + y * T * (S - x) := by
    rw [Int.add_mul, Int.add_mul]
  -- (x T - a S) ≥ 0 and (S - x - y) ≥ 0
  have h2 : 0 ≤ (x * T - a * S) * (S - x - y) := Int.mul_nonneg (by omega) (by omega)
  rw [e1, e2]
  have e3 : (x * T - a * S) * (S - x - y) = (x * T * (S - x) + y * T * (S - x)) - (a * S * (S - x) + y * (T - a) * S) := by
    grind
  omega
/-- parts sum to at most all -/
theorem worth_sum {A K : Int} (hA : 0 < A) : ∀ (l : List Int), (l.map (fun p => p * K / A)).sum * A ≤ l.sum * K := by
  intro l
  induction l with
  | nil => simp
  | cons p l ih =>
    simp only [List.map_cons, List.sum_cons, Int.add_mul]
    have := fl_le (a := p * K) (b := A) hA
    omega
theorem cut_le {n p q : Int} (hn : 0 ≤ n) (hpq : p ≤ q) : n * min p 10000 / 10000 ≤ n * min q 10000 / 10000 := by
  refine Int.ediv_le_ediv (by decide) (Int.mul_le_mul_of_nonneg_left ?_ hn)
  omega
theorem cut_n {n q : Int} (hn : 0 ≤ n) : n * min q 10000 / 10000 ≤ n := by
  have h : n * min q 10000 ≤ n * 10000 := Int.mul_le_mul_of_nonneg_left (by omega) hn
  have h2 := Int.ediv_le_ediv (c := 10000) (by decide) h
  rwa [Int.mul_ediv_cancel n (by decide)] at h2
end Sh
end Go.Proofs.YtgflacmnfegjlaaDoor

namespace Go.Proofs.YtgflacmnfegjlaaDoor
namespace Sh
open Go.RowKit Go.Lib Pg Lim
theorem run_store_fn {P : Program} {w : World} {a : Addr} {m : Mode} (f : Fn) (x y : Array Value) : (store a (.func f x y) m).run P w = stored P w a (.func f x y) m := run_store P w a _ m rfl
attribute [local go_sem] Oper.semAt_some run_store_fn
theorem zeroD {w : World} {ao : Option Addr} {n c : Nat} {x : Int} (h : NatA w ao n c x) (hn : n ≤ 1099511627776) (r : Bool) (hr : decide (x = 0) = r) :
    Calls Tryd.prog 20 #[.agg #[.slice ao n c]] w fun e w' => e = .returned (.bool r) ∧ Below w.heap.size w w' := hr ▸ dZero h hn
theorem cmpD {w : World} {ao ao' : Option Addr} {n c n' c' : Nat} {x y : Int} (h : NatA w ao n c x) (h' : NatA w ao' n' c' y) (hn : n ≤ 1099511627776) (hn' : n' ≤ 1099511627776) (r : Int) (hr : sgn x y = r) :
    Calls Tryd.prog 10 #[.agg #[.slice ao n c], .agg #[.slice ao' n' c']] w fun e w' => e = .returned (.int .i64 r) ∧ Below w.heap.size w w' := hr ▸ dCmp h h' hn hn'
/-- the function that reckons -/
def rf (up : Bool) : Value := .func (.func (if up then 38 else 37)) #[] #[]
set_option maxRecDepth 100000 in
theorem round_any {w : World} (up : Bool) :
    Calls Tryd.prog 21 #[.bool up] w fun e w' => ∃ g, e = .returned (.func (.func 39) #[] #[.pointer (some ⟨g, 0, none⟩)]) ∧ Blk w' g [rf up] 68 ∧ Below w.heap.size w w' := by
  cases up
  · go_enter Tryd.func21, Tryd.ntmps21
    go_wp2
    go_ret
    exact ⟨_, rfl, blk_new w [rf false] _, below_alloc w _⟩
  · go_enter Tryd.func21, Tryd.ntmps21
    go_wp2
    go_ret
    exact ⟨_, rfl, blk_new w [rf true] _, below_alloc w _⟩
theorem boxx26 {vs : List Value} (w : World) : (Instr.box 29 (.agg vs.toArray)).run Tryd.prog w = .ok (.pointer (some ⟨w.heap.size, 0, none⟩)) (w.alloc (.cells vs.toArray 29)) := by
  go_simp
theorem allocx26 (w : World) : (Instr.alloc 29 true (.tuple #[])).run Tryd.prog w = .ok (.pointer (some ⟨w.heap.size, 0, none⟩)) (w.alloc (.cells [.slice none 0 0].toArray 29)) := by go_simp
set_option maxRecDepth 100000 in
theorem ldx75 {w : World} {g o : Nat} {v0 : Value} (c0 : w.cell? ⟨g, o, none⟩ = some v0) : (loadVar 68 ⟨g, o, none⟩).run Tryd.prog w = .ok (v0) w := by go_simp
set_option maxRecDepth 100000 in
theorem ldx26 {w : World} {g o : Nat} {v0 : Value} (c0 : w.cell? ⟨g, o, none⟩ = some v0) : (loadVar 29 ⟨g, o, none⟩).run Tryd.prog w = .ok (.agg #[v0]) w := by go_simp
theorem storex26 {g i : Nat} {a b : Option Addr} {n c m d : Nat} (w : World) (h : w.cell? ⟨g, i, none⟩ = some (.slice b m d)) (hf : w.frozen? ⟨g, i, none⟩ = false) : (Instr.storeAt 29 (.pointer (some ⟨g, i, none⟩)) (.agg #[.slice a n c])).run Tryd.prog w = .ok () (w.setCell ⟨g, i, none⟩ (.slice a n c)) := by go_simp
set_option maxHeartbeats 2000000 in
set_option maxRecDepth 100000 in
theorem clos_false {w : World} {g : Nat} {t : TypeId} {a0 a1 a2 : Option Addr} {n0 c0 n1 c1 n2 c2 : Nat} {x0 x1 x2 : Int} (X : Blk w g [.func (.func 37) #[] #[]] t) (h0 : NatA w a0 n0 c0 x0) (k0 : n0 ≤ 1000000) (h1 : NatA w a1 n1 c1 x1) (k1 : n1 ≤ 1000000) (h2 : NatA w a2 n2 c2 x2) (k2 : n2 ≤ 1000000) (hz : x2 ≠ 0) :
    Calls Tryd.prog 39 #[.agg #[.slice a0 n0 c0], .agg #[.slice a1 n1 c1], .agg #[.slice a2 n2 c2], .pointer (some ⟨g, 0, none⟩)] w fun e w' => ∃ a k d, e = .returned (.agg #[.slice a k d]) ∧ NatO w' a k d (rnd false (x0 * x1) x2) ∧ k ≤ n0 + n1 + 2 ∧ Below w.heap.size w w' := by
  have BB := Below.refl w.heap.size w
  go_enter Tryd.func39, Tryd.ntmps39
  refine wp_seq ?_
  refine wl_start ?_
  have lX := X.lt
  have bs0 := BB.size
  refine wl_box 4 0 29 [.slice a0 n0 c0] rfl rfl rfl (by kernel_rfl) boxx26 ?_
  intro v1w g1v X4 hg1v B
  replace X := X.keep B
  replace h0 := h0.keep B
  replace h1 := h1.keep B
  replace h2 := h2.keep B
  replace BB := joinB BB B
  clear B
  have lX := X.lt
  have lX4 := X4.lt
  have bs1 := BB.size
  refine wl_box 5 1 29 [.slice a1 n1 c1] rfl rfl rfl (by kernel_rfl) boxx26 ?_
  intro v2w g2v X5 hg2v B
  replace X := X.keep B
  replace h0 := h0.keep B
  replace h1 := h1.keep B
  replace h2 := h2.keep B
  replace X4 := X4.keep B
  replace BB := joinB BB B
  clear B
  have lX := X.lt
  have lX4 := X4.lt
  have lX5 := X5.lt
  have bs2 := BB.size
  refine wl_box 6 2 29 [.slice a2 n2 c2] rfl rfl rfl (by kernel_rfl) boxx26 ?_
  intro v3w g3v X6 hg3v B
  replace X := X.keep B
  replace h0 := h0.keep B
  replace h1 := h1.keep B
  replace h2 := h2.keep B
  replace X4 := X4.keep B
  replace X5 := X5.keep B
  replace BB := joinB BB B
  clear B
  have lX := X.lt
  have lX4 := X4.lt
  have lX5 := X5.lt
  have lX6 := X6.lt
  have bs3 := BB.size
  refine wl_alloc 7 29 [.slice none 0 0] rfl rfl rfl allocx26 ?_
  intro v4w g4v X7 hg4v B
  replace X := X.keep B
  replace h0 := h0.keep B
  replace h1 := h1.keep B
  replace h2 := h2.keep B
  replace X4 := X4.keep B
  replace X5 := X5.keep B
  replace X6 := X6.keep B
  replace BB := joinB BB B
  clear B
  refine wl_nil ?_
  refine wp_then ?_
  refine wp_frame (a' := ⟨#[(.agg #[.slice a0 n0 c0]), (.agg #[.slice a1 n1 c1]), (.agg #[.slice a2 n2 c2]), (.pointer (some ⟨g, 0, none⟩)), (.pointer (some ⟨g1v, 0, none⟩)), (.pointer (some ⟨g2v, 0, none⟩)), (.pointer (some ⟨g3v, 0, none⟩)), (.pointer (some ⟨g4v, 0, none⟩)), undef, undef, undef, undef, undef, undef, undef, undef, undef, undef, undef], []⟩) (by kernel_rfl) ?_
  refine wp_seq ?_
  refine wl_start ?_
  refine wl_take (some 11) (.func (.func 37) #[] #[]) rfl rfl (run_lp 3 (by kernel_rfl) (by kernel_rfl) (ldx75 (X.cell (i := 0) rfl))) ?_
  refine wl_take (some 12) (.agg #[.slice a0 n0 c0]) rfl rfl (run_lp 4 (by kernel_rfl) (by kernel_rfl) (ldx26 (X4.cell (i := 0) rfl))) ?_
  refine wl_take (some 13) (.agg #[.slice a1 n1 c1]) rfl rfl (run_lp 5 (by kernel_rfl) (by kernel_rfl) (ldx26 (X5.cell (i := 0) rfl))) ?_
  refine wl_take (some 14) (.agg #[.slice a2 n2 c2]) rfl rfl (run_lp 6 (by kernel_rfl) (by kernel_rfl) (ldx26 (X6.cell (i := 0) rfl))) ?_
  refine wl_call (some 15) 37 #[.agg #[.slice a0 n0 c0], .agg #[.slice a1 n1 c1], .agg #[.slice a2 n2 c2]] rfl rfl (by kernel_rfl) (dMulDiv h0 (by omega) h1 (by omega) h2 (by omega) hz) ?_
  rintro e1 v5w ⟨Ar, Nr, Cr, rfl, Or, Kr, B⟩
  refine ⟨_, rfl, ?_⟩
  replace X := X.keep B
  replace h0 := h0.keep B
  replace h1 := h1.keep B
  replace h2 := h2.keep B
  replace X4 := X4.keep B
  replace X5 := X5.keep B
  replace X6 := X6.keep B
  replace X7 := X7.keep B
  replace BB := joinB BB B
  clear B
  refine wl_take (some 10) (.tuple #[.agg #[.slice Ar Nr Cr], .int .i64 0]) rfl rfl (by kernel_rfl) ?_
  refine wl_take (some 16) (.agg #[.slice Ar Nr Cr]) rfl rfl (by kernel_rfl) ?_
  refine wl_take (some 17) (.int .i64 0) rfl rfl (by kernel_rfl) ?_
  have lX := X.lt
  have lX4 := X4.lt
  have lX5 := X5.lt
  have lX6 := X6.lt
  have lX7 := X7.lt
  have bs5 := BB.size
  refine wl_new 8 16 29 [.slice none 0 0] [.slice Ar Nr Cr] rfl rfl rfl rfl rfl rfl allocx26 (fun _ => by kernel_rfl) (fun _ => by kernel_rfl) (by kernel_rfl) rfl (by kernel_rfl) ?_
  intro v6w g6v X8 hg6v B
  replace X := X.keep B
  replace h0 := h0.keep B
  replace h1 := h1.keep B
  replace h2 := h2.keep B
  replace X4 := X4.keep B
  replace X5 := X5.keep B
  replace X6 := X6.keep B
  replace X7 := X7.keep B
  replace Or := Or.keep B
  replace BB := joinB BB B
  clear B
  refine wl_take (some 9) (.int .i64 0) rfl rfl (by kernel_rfl) ?_
  refine wl_nil ?_
  refine wp_then ?_
  refine wp_frame (a' := ⟨#[(.agg #[.slice a0 n0 c0]), (.agg #[.slice a1 n1 c1]), (.agg #[.slice a2 n2 c2]), (.pointer (some ⟨g, 0, none⟩)), (.pointer (some ⟨g1v, 0, none⟩)), (.pointer (some ⟨g2v, 0, none⟩)), (.pointer (some ⟨g3v, 0, none⟩)), (.pointer (some ⟨g4v, 0, none⟩)), (.pointer (some ⟨g6v, 0, none⟩)), (.int .i64 0), (.tuple #[.agg #[.slice Ar Nr Cr], .int .i64 0]), (.func (.func 37) #[] #[]), (.agg #[.slice a0 n0 c0]), (.agg #[.slice a1 n1 c1]), (.agg #[.slice a2 n2 c2]), (.tuple #[.agg #[.slice Ar Nr Cr], .int .i64 0]), (.agg #[.slice Ar Nr Cr]), (.int .i64 0), undef], []⟩) (by kernel_rfl) ?_
  refine wp_seq ?_
  refine wl_start ?_
  refine wl_take (some 18) (.agg #[.slice Ar Nr Cr]) rfl rfl (run_lp 8 (by kernel_rfl) (by kernel_rfl) (ldx26 (X8.cell (i := 0) rfl))) ?_
  refine wl_set' 7 18 29 (i := 0) (.slice none 0 0) (.slice Ar Nr Cr) X7 rfl rfl rfl rfl (by kernel_rfl) (by kernel_rfl) storex26 ?_
  intro v7w hv7w
  replace BB := BB.setCell (p := ⟨g4v, 0, none⟩) (show w.heap.size ≤ g4v by omega) (.slice Ar Nr Cr)
  replace X := X.off (g' := g4v) (by omega) (i := 0) (.slice Ar Nr Cr)
  replace h0 := h0.put (show Slot _ _ _ _ from ⟨X7.blk⟩) not_int (.slice Ar Nr Cr)
  replace h1 := h1.put (show Slot _ _ _ _ from ⟨X7.blk⟩) not_int (.slice Ar Nr Cr)
  replace h2 := h2.put (show Slot _ _ _ _ from ⟨X7.blk⟩) not_int (.slice Ar Nr Cr)
  replace X4 := X4.off (g' := g4v) (by omega) (i := 0) (.slice Ar Nr Cr)
  replace X5 := X5.off (g' := g4v) (by omega) (i := 0) (.slice Ar Nr Cr)
  replace X6 := X6.off (g' := g4v) (by omega) (i := 0) (.slice Ar Nr Cr)
  replace Or := Or.put (show Slot _ _ _ _ from ⟨X7.blk⟩) not_int (.slice Ar Nr Cr)
  replace X8 := X8.off (g' := g4v) (by omega) (i := 0) (.slice Ar Nr Cr)
  replace X7 := X7.setCell (i := 0) (.slice Ar Nr Cr)
  rw [hv7w] at BB X h0 h1 h2 X4 X5 X6 X7 Or X8
  clear hv7w
  refine wl_nil ?_
  refine wp_then ?_
  refine wp_frame (a' := ⟨#[(.agg #[.slice a0 n0 c0]), (.agg #[.slice a1 n1 c1]), (.agg #[.slice a2 n2 c2]), (.pointer (some ⟨g, 0, none⟩)), (.pointer (some ⟨g1v, 0, none⟩)), (.pointer (some ⟨g2v, 0, none⟩)), (.pointer (some ⟨g3v, 0, none⟩)), (.pointer (some ⟨g4v, 0, none⟩)), (.pointer (some ⟨g6v, 0, none⟩)), (.int .i64 0), (.tuple #[.agg #[.slice Ar Nr Cr], .int .i64 0]), (.func (.func 37) #[] #[]), (.agg #[.slice a0 n0 c0]), (.agg #[.slice a1 n1 c1]), (.agg #[.slice a2 n2 c2]), (.tuple #[.agg #[.slice Ar Nr Cr], .int .i64 0]), (.agg #[.slice Ar Nr Cr]), (.int .i64 0), (.agg #[.slice Ar Nr Cr])], []⟩) (by kernel_rfl) ?_
  refine wp_ret ?_
  repeat (first | refine ret_then ?_ | refine ret_block ?_)
  refine bodyPost_ret (ret_dec rfl rfl (show Slot _ _ _ _ from ⟨X7.blk⟩)) rfl ?_
  exact ⟨Ar, Nr, Cr, rfl, (rnd_down _ _).symm ▸ Or, by omega, BB⟩
set_option maxHeartbeats 2000000 in
set_option maxRecDepth 100000 in
theorem clos_true {w : World} {g : Nat} {t : TypeId} {a0 a1 a2 : Option Addr} {n0 c0 n1 c1 n2 c2 : Nat} {x0 x1 x2 : Int} (X : Blk w g [.func (.func 38) #[] #[]] t) (h0 : NatA w a0 n0 c0 x0) (k0 : n0 ≤ 1000000) (h1 : NatA w a1 n1 c1 x1) (k1 : n1 ≤ 1000000) (h2 : NatA w a2 n2 c2 x2) (k2 : n2 ≤ 1000000) (hz : x2 ≠ 0) :
    Calls Tryd.prog 39 #[.agg #[.slice a0 n0 c0], .agg #[.slice a1 n1 c1], .agg #[.slice a2 n2 c2], .pointer (some ⟨g, 0, none⟩)] w fun e w' => ∃ a k d, e = .returned (.agg #[.slice a k d]) ∧ NatO w' a k d (rnd true (x0 * x1) x2) ∧ k ≤ n0 + n1 + 2 ∧ Below w.heap.size w w' := by
  have BB := Below.refl w.heap.size w
  go_enter Tryd.func39, Tryd.ntmps39
  refine wp_seq ?_
  refine wl_start ?_
  have lX := X.lt
  have bs0 := BB.size
  refine wl_box 4 0 29 [.slice a0 n0 c0] rfl rfl rfl (by kernel_rfl) boxx26 ?_
  intro v1w g1v X4 hg1v B
  replace X := X.keep B
  replace h0 := h0.keep B
  replace h1 := h1.keep B
  replace h2 := h2.keep B
  replace BB := joinB BB B
  clear B
  have lX := X.lt
  have lX4 := X4.lt
  have bs1 := BB.size
  refine wl_box 5 1 29 [.slice a1 n1 c1] rfl rfl rfl (by kernel_rfl) boxx26 ?_
  intro v2w g2v X5 hg2v B
  replace X := X.keep B
  replace h0 := h0.keep B
  replace h1 := h1.keep B
  replace h2 := h2.keep B
  replace X4 := X4.keep B
  replace BB := joinB BB B
  clear B
  have lX := X.lt
  have lX4 := X4.lt
  have lX5 := X5.lt
  have bs2 := BB.size
  refine wl_box 6 2 29 [.slice a2 n2 c2] rfl rfl rfl (by kernel_rfl) boxx26 ?_
  intro v3w g3v X6 hg3v B
  replace X := X.keep B
  replace h0 := h0.keep B
  replace h1 := h1.keep B
  replace h2 := h2.keep B
  replace X4 := X4.keep B
  replace X5 := X5.keep B
  replace BB := joinB BB B
  clear B
  have lX := X.lt
  have lX4 := X4.lt
  have lX5 := X5.lt
  have lX6 := X6.lt
  have bs3 := BB.size
  refine wl_alloc 7 29 [.slice none 0 0] rfl rfl rfl allocx26 ?_
  intro v4w g4v X7 hg4v B
  replace X := X.keep B
  replace h0 := h0.keep B
  replace h1 := h1.keep B
  replace h2 := h2.keep B
  replace X4 := X4.keep B
  replace X5 := X5.keep B
  replace X6 := X6.keep B
  replace BB := joinB BB B
  clear B
  refine wl_nil ?_
  refine wp_then ?_
  refine wp_frame (a' := ⟨#[(.agg #[.slice a0 n0 c0]), (.agg #[.slice a1 n1 c1]), (.agg #[.slice a2 n2 c2]), (.pointer (some ⟨g, 0, none⟩)), (.pointer (some ⟨g1v, 0, none⟩)), (.pointer (some ⟨g2v, 0, none⟩)), (.pointer (some ⟨g3v, 0, none⟩)), (.pointer (some ⟨g4v, 0, none⟩)), undef, undef, undef, undef, undef, undef, undef, undef, undef, undef, undef], []⟩) (by kernel_rfl) ?_
  refine wp_seq ?_
  refine wl_start ?_
  refine wl_take (some 11) (.func (.func 38) #[] #[]) rfl rfl (run_lp 3 (by kernel_rfl) (by kernel_rfl) (ldx75 (X.cell (i := 0) rfl))) ?_
  refine wl_take (some 12) (.agg #[.slice a0 n0 c0]) rfl rfl (run_lp 4 (by kernel_rfl) (by kernel_rfl) (ldx26 (X4.cell (i := 0) rfl))) ?_
  refine wl_take (some 13) (.agg #[.slice a1 n1 c1]) rfl rfl (run_lp 5 (by kernel_rfl) (by kernel_rfl) (ldx26 (X5.cell (i := 0) rfl))) ?_
  refine wl_take (some 14) (.agg #[.slice a2 n2 c2]) rfl rfl (run_lp 6 (by kernel_rfl) (by kernel_rfl) (ldx26 (X6.cell (i := 0) rfl))) ?_
  refine wl_call (some 15) 38 #[.agg #[.slice a0 n0 c0], .agg #[.slice a1 n1 c1], .agg #[.slice a2 n2 c2]] rfl rfl (by kernel_rfl) (dMulDivUp h0 (by omega) h1 (by omega) h2 (by omega) hz) ?_
  rintro e1 v5w ⟨Ar, Nr, Cr, rfl, Or, Kr, B⟩
  refine ⟨_, rfl, ?_⟩
  replace X := X.keep B
  replace h0 := h0.keep B
  replace h1 := h1.keep B
  replace h2 := h2.keep B
  replace X4 := X4.keep B
  replace X5 := X5.keep B
  replace X6 := X6.keep B
  replace X7 := X7.keep B
  replace BB := joinB BB B
  clear B
  refine wl_take (some 10) (.tuple #[.agg #[.slice Ar Nr Cr], .int .i64 0]) rfl rfl (by kernel_rfl) ?_
  refine wl_take (some 16) (.agg #[.slice Ar Nr Cr]) rfl rfl (by kernel_rfl) ?_
  refine wl_take (some 17) (.int .i64 0) rfl rfl (by kernel_rfl) ?_
  have lX := X.lt
  have lX4 := X4.lt
  have lX5 := X5.lt
  have lX6 := X6.lt
  have lX7 := X7.lt
  have bs5 := BB.size
  refine wl_new 8 16 29 [.slice none 0 0] [.slice Ar Nr Cr] rfl rfl rfl rfl rfl rfl allocx26 (fun _ => by kernel_rfl) (fun _ => by kernel_rfl) (by kernel_rfl) rfl (by kernel_rfl) ?_
  intro v6w g6v X8 hg6v B
  replace X := X.keep B
  replace h0 := h0.keep B
  replace h1 := h1.keep B
  replace h2 := h2.keep B
  replace X4 := X4.keep B
  replace X5 := X5.keep B
  replace X6 := X6.keep B
  replace X7 := X7.keep B
  replace Or := Or.keep B
  replace BB := joinB BB B
  clear B
  refine wl_take (some 9) (.int .i64 0) rfl rfl (by kernel_rfl) ?_
  refine wl_nil ?_
  refine wp_then ?_
  refine wp_frame (a' := ⟨#[(.agg #[.slice a0 n0 c0]), (.agg #[.slice a1 n1 c1]), (.agg #[.slice a2 n2 c2]), (.pointer (some ⟨g, 0, none⟩)), (.pointer (some ⟨g1v, 0, none⟩)), (.pointer (some ⟨g2v, 0, none⟩)), (.pointer (some ⟨g3v, 0, none⟩)), (.pointer (some ⟨g4v, 0, none⟩)), (.pointer (some ⟨g6v, 0, none⟩)), (.int .i64 0), (.tuple #[.agg #[.slice Ar Nr Cr], .int .i64 0]), (.func (.func 38) #[] #[]), (.agg #[.slice a0 n0 c0]), (.agg #[.slice a1 n1 c1]), (.agg #[.slice a2 n2 c2]), (.tuple #[.agg #[.slice Ar Nr Cr], .int .i64 0]), (.agg #[.slice Ar Nr Cr]), (.int .i64 0), undef], []⟩) (by kernel_rfl) ?_
  refine wp_seq ?_
  refine wl_start ?_
  refine wl_take (some 18) (.agg #[.slice Ar Nr Cr]) rfl rfl (run_lp 8 (by kernel_rfl) (by kernel_rfl) (ldx26 (X8.cell (i := 0) rfl))) ?_
  refine wl_set' 7 18 29 (i := 0) (.slice none 0 0) (.slice Ar Nr Cr) X7 rfl rfl rfl rfl (by kernel_rfl) (by kernel_rfl) storex26 ?_
  intro v7w hv7w
  replace BB := BB.setCell (p := ⟨g4v, 0, none⟩) (show w.heap.size ≤ g4v by omega) (.slice Ar Nr Cr)
  replace X := X.off (g' := g4v) (by omega) (i := 0) (.slice Ar Nr Cr)
  replace h0 := h0.put (show Slot _ _ _ _ from ⟨X7.blk⟩) not_int (.slice Ar Nr Cr)
  replace h1 := h1.put (show Slot _ _ _ _ from ⟨X7.blk⟩) not_int (.slice Ar Nr Cr)
  replace h2 := h2.put (show Slot _ _ _ _ from ⟨X7.blk⟩) not_int (.slice Ar Nr Cr)
  replace X4 := X4.off (g' := g4v) (by omega) (i := 0) (.slice Ar Nr Cr)
  replace X5 := X5.off (g' := g4v) (by omega) (i := 0) (.slice Ar Nr Cr)
  replace X6 := X6.off (g' := g4v) (by omega) (i := 0) (.slice Ar Nr Cr)
  replace Or := Or.put (show Slot _ _ _ _ from ⟨X7.blk⟩) not_int (.slice Ar Nr Cr)
  replace X8 := X8.off (g' := g4v) (by omega) (i := 0) (.slice Ar Nr Cr)
  replace X7 := X7.setCell (i := 0) (.slice Ar Nr Cr)
  rw [hv7w] at BB X h0 h1 h2 X4 X5 X6 X7 Or X8
  clear hv7w
  refine wl_nil ?_
  refine wp_then ?_
  refine wp_frame (a' := ⟨#[(.agg #[.slice a0 n0 c0]), (.agg #[.slice a1 n1 c1]), (.agg #[.slice a2 n2 c2]), (.pointer (some ⟨g, 0, none⟩)), (.pointer (some ⟨g1v, 0, none⟩)), (.pointer (some ⟨g2v, 0, none⟩)), (.pointer (some ⟨g3v, 0, none⟩)), (.pointer (some ⟨g4v, 0, none⟩)), (.pointer (some ⟨g6v, 0, none⟩)), (.int .i64 0), (.tuple #[.agg #[.slice Ar Nr Cr], .int .i64 0]), (.func (.func 38) #[] #[]), (.agg #[.slice a0 n0 c0]), (.agg #[.slice a1 n1 c1]), (.agg #[.slice a2 n2 c2]), (.tuple #[.agg #[.slice Ar Nr Cr], .int .i64 0]), (.agg #[.slice Ar Nr Cr]), (.int .i64 0), (.agg #[.slice Ar Nr Cr])], []⟩) (by kernel_rfl) ?_
  refine wp_ret ?_
  repeat (first | refine ret_then ?_ | refine ret_block ?_)
  refine bodyPost_ret (ret_dec rfl rfl (show Slot _ _ _ _ from ⟨X7.blk⟩)) rfl ?_
  exact ⟨Ar, Nr, Cr, rfl, Or, by omega, BB⟩
theorem clos_any {w : World} {up : Bool} {g : Nat} {t : TypeId} {a0 a1 a2 : Option Addr} {n0 c0 n1 c1 n2 c2 : Nat} {x0 x1 x2 : Int} (X : Blk w g [rf up] t) (h0 : NatA w a0 n0 c0 x0) (k0 : n0 ≤ 1000000) (h1 : NatA w a1 n1 c1 x1) (k1 : n1 ≤ 1000000) (h2 : NatA w a2 n2 c2 x2) (k2 : n2 ≤ 1000000) (hz : x2 ≠ 0) :
    Calls Tryd.prog 39 #[.agg #[.slice a0 n0 c0], .agg #[.slice a1 n1 c1], .agg #[.slice a2 n2 c2], .pointer (some ⟨g, 0, none⟩)] w fun e w' => ∃ a k d, e = .returned (.agg #[.slice a k d]) ∧ NatO w' a k d (rnd up (x0 * x1) x2) ∧ k ≤ n0 + n1 + 2 ∧ Below w.heap.size w w' := by
  cases up
  · exact clos_false X h0 k0 h1 k1 h2 k2 hz
  · exact clos_true X h0 k0 h1 k1 h2 k2 hz
set_option maxHeartbeats 2000000 in
set_option maxRecDepth 100000 in
theorem most_any {w : World} : Calls Tryd.prog 28 #[] w fun e w' => ∃ a k d, e = .returned (.agg #[.slice a k d]) ∧ NatO w' a k d (10 ^ 90) ∧ k ≤ 94 ∧ Below w.heap.size w w' := by
  have BB := Below.refl w.heap.size w
  go_enter Tryd.func28, Tryd.ntmps28
  refine wp_seq ?_
  refine wl_start ?_
  have bs0 := BB.size
  refine wl_alloc 0 29 [.slice none 0 0] rfl rfl rfl allocx26 ?_
  intro v1w g1v X0 hg1v B
  replace BB := joinB BB B
  clear B
  refine wl_nil ?_
  refine wp_then ?_
  refine wp_frame (a' := ⟨#[(.pointer (some ⟨g1v, 0, none⟩)), undef, undef, undef, undef, undef, undef, undef, undef], []⟩) (by kernel_rfl) ?_
  refine wp_seq ?_
  refine wl_start ?_
  refine wl_call (some 4) 16 #[.int .i64 54] rfl rfl (by kernel_rfl) (nPow 54 (by decide)) ?_
  rintro e1 v2w ⟨Ap, Np, Cp, rfl, Op_, Kp, B⟩
  refine ⟨_, rfl, ?_⟩
  replace X0 := X0.keep B
  replace BB := joinB BB B
  clear B
  refine wl_take (some 3) (.tuple #[.slice Ap Np Cp, .int .i64 0]) rfl rfl (by kernel_rfl) ?_
  refine wl_take (some 5) (.slice Ap Np Cp) rfl rfl (by kernel_rfl) ?_
  refine wl_take (some 6) (.int .i64 0) rfl rfl (by kernel_rfl) ?_
  refine wl_take (some 1) (.slice Ap Np Cp) rfl rfl (by kernel_rfl) ?_
  refine wl_take (some 2) (.int .i64 0) rfl rfl (by kernel_rfl) ?_
  refine wl_nil ?_
  refine wp_then ?_
  refine wp_frame (a' := ⟨#[(.pointer (some ⟨g1v, 0, none⟩)), (.slice Ap Np Cp), (.int .i64 0), (.tuple #[.slice Ap Np Cp, .int .i64 0]), (.tuple #[.slice Ap Np Cp, .int .i64 0]), (.slice Ap Np Cp), (.int .i64 0), undef, undef], []⟩) (by kernel_rfl) ?_
  refine wp_seq ?_
  refine wl_start ?_
  refine wl_take (some 7) (.slice Ap Np Cp) rfl rfl (by kernel_rfl) ?_
  refine wl_call (some 8) 27 #[.slice Ap Np Cp] rfl rfl (by kernel_rfl) (dOfNat Op_.a (by omega)) ?_
  rintro e1 v3w ⟨Am, Nm, Cm, rfl, Om, Km, B⟩
  refine ⟨_, rfl, ?_⟩
  replace X0 := X0.keep B
  replace Op_ := Op_.keep B
  replace BB := joinB BB B
  clear B
  refine wl_set' 0 8 29 (i := 0) (.slice none 0 0) (.slice Am Nm Cm) X0 rfl rfl rfl rfl (by kernel_rfl) (by kernel_rfl) storex26 ?_
  intro v4w hv4w
  replace BB := BB.setCell (p := ⟨g1v, 0, none⟩) (show w.heap.size ≤ g1v by omega) (.slice Am Nm Cm)
  replace Op_ := Op_.put (show Slot _ _ _ _ from ⟨X0.blk⟩) not_int (.slice Am Nm Cm)
  replace Om := Om.put (show Slot _ _ _ _ from ⟨X0.blk⟩) not_int (.slice Am Nm Cm)
  replace X0 := X0.setCell (i := 0) (.slice Am Nm Cm)
  rw [hv4w] at BB X0 Op_ Om
  clear hv4w
  refine wl_nil ?_
  refine wp_then ?_
  refine wp_frame (a' := ⟨#[(.pointer (some ⟨g1v, 0, none⟩)), (.slice Ap Np Cp), (.int .i64 0), (.tuple #[.slice Ap Np Cp, .int .i64 0]), (.tuple #[.slice Ap Np Cp, .int .i64 0]), (.slice Ap Np Cp), (.int .i64 0), (.slice Ap Np Cp), (.agg #[.slice Am Nm Cm])], []⟩) (by kernel_rfl) ?_
  refine wp_ret ?_
  repeat (first | refine ret_then ?_ | refine ret_block ?_)
  refine bodyPost_ret (ret_dec rfl rfl (show Slot _ _ _ _ from ⟨X0.blk⟩)) rfl ?_
  exact ⟨Am, Nm, Cm, rfl, Om.eqv (by decide), by omega, BB⟩
set_option maxHeartbeats 2000000 in
set_option maxRecDepth 100000 in
theorem sWorth {w : World} {T : Int} {a0 a1 : Option Addr} {n0 c0 n1 c1 : Nat} {x0 x1 : Int} (hT : 0 ≤ T ∧ T < 18446744073709551616) (h0 : NatA w a0 n0 c0 x0) (k0 : n0 ≤ 100000) (h1 : NatA w a1 n1 c1 x1) (k1 : n1 ≤ 100000) :
    Calls Tryd.prog 7 #[.int .u64 T, .agg #[.slice a0 n0 c0], .agg #[.slice a1 n1 c1]] w fun e w' => ∃ a k d, e = .returned (.agg #[.slice a k d]) ∧ NatO w' a k d (woV T x0 x1) ∧ k ≤ n1 + 41 ∧ Below w.heap.size w w' := by
  have BB := Below.refl w.heap.size w
  go_enter Tryd.func7, Tryd.ntmps7
  refine wp_seq ?_
  refine wl_start ?_
  have bs0 := BB.size
  refine wl_box 4 1 29 [.slice a0 n0 c0] rfl rfl rfl (by kernel_rfl) boxx26 ?_
  intro v1w g1v X4 hg1v B
  replace h0 := h0.keep B
  replace h1 := h1.keep B
  replace BB := joinB BB B
  clear B
  have lX4 := X4.lt
  have bs1 := BB.size
  refine wl_box 5 2 29 [.slice a1 n1 c1] rfl rfl rfl (by kernel_rfl) boxx26 ?_
  intro v2w g2v X5 hg2v B
  replace h0 := h0.keep B
  replace h1 := h1.keep B
  replace X4 := X4.keep B
  replace BB := joinB BB B
  clear B
  have lX4 := X4.lt
  have lX5 := X5.lt
  have bs2 := BB.size
  refine wl_alloc 6 29 [.slice none 0 0] rfl rfl rfl allocx26 ?_
  intro v3w g3v X6 hg3v B
  replace h0 := h0.keep B
  replace h1 := h1.keep B
  replace X4 := X4.keep B
  replace X5 := X5.keep B
  replace BB := joinB BB B
  clear B
  refine wl_nil ?_
  refine wp_then ?_
  refine wp_frame (a' := ⟨#[(.int .u64 T), (.agg #[.slice a0 n0 c0]), (.agg #[.slice a1 n1 c1]), undef, (.pointer (some ⟨g1v, 0, none⟩)), (.pointer (some ⟨g2v, 0, none⟩)), (.pointer (some ⟨g3v, 0, none⟩)), undef, undef, undef, undef, undef, undef, undef, undef, undef, undef, undef], []⟩) (by kernel_rfl) ?_
  refine wp_seq ?_
  refine wp_seq ?_
  refine wl_start ?_
  refine wl_take (some 8) (.agg #[.slice a0 n0 c0]) rfl rfl (run_lp 4 (by kernel_rfl) (by kernel_rfl) (ldx26 (X4.cell (i := 0) rfl))) ?_
  by_cases hz : x0 = 0
  · have hzt := hz
    refine wl_call (some 9) 20 #[.agg #[.slice a0 n0 c0]] rfl rfl (by kernel_rfl) (zeroD h0 (by omega) true (decide_eq_true hz)) ?_
    rintro e1 v4w ⟨rfl, B⟩
    refine ⟨_, rfl, ?_⟩
    replace h0 := h0.keep B
    replace h1 := h1.keep B
    replace X4 := X4.keep B
    replace X5 := X5.keep B
    replace X6 := X6.keep B
    replace BB := joinB BB B
    clear B
    refine wl_nil ?_
    refine wp_then ?_
    refine wp_frame (a' := ⟨#[(.int .u64 T), (.agg #[.slice a0 n0 c0]), (.agg #[.slice a1 n1 c1]), undef, (.pointer (some ⟨g1v, 0, none⟩)), (.pointer (some ⟨g2v, 0, none⟩)), (.pointer (some ⟨g3v, 0, none⟩)), undef, (.agg #[.slice a0 n0 c0]), (.bool true), undef, undef, undef, undef, undef, undef, undef, undef], []⟩) (by kernel_rfl) ?_
    refine wp_cond_true (by kernel_rfl) ?_
    refine wp_seq ?_
    refine wl_start ?_
    refine wl_take (some 10) (.agg #[.slice none 0 0]) rfl rfl (by kernel_rfl) ?_
    refine wl_set' 6 10 29 (i := 0) (.slice none 0 0) (.slice none 0 0) X6 rfl rfl rfl rfl (by kernel_rfl) (by kernel_rfl) storex26 ?_
    intro v5w hv5w
    replace BB := BB.setCell (p := ⟨g3v, 0, none⟩) (show w.heap.size ≤ g3v by omega) (.slice none 0 0)
    replace h0 := h0.put (show Slot _ _ _ _ from ⟨X6.blk⟩) not_int (.slice none 0 0)
    replace h1 := h1.put (show Slot _ _ _ _ from ⟨X6.blk⟩) not_int (.slice none 0 0)
    replace X4 := X4.off (g' := g3v) (by omega) (i := 0) (.slice none 0 0)
    replace X5 := X5.off (g' := g3v) (by omega) (i := 0) (.slice none 0 0)
    replace X6 := X6.setCell (i := 0) (.slice none 0 0)
    rw [hv5w] at BB h0 h1 X4 X5 X6
    clear hv5w
    refine wl_nil ?_
    refine wp_then ?_
    refine wp_frame (a' := ⟨#[(.int .u64 T), (.agg #[.slice a0 n0 c0]), (.agg #[.slice a1 n1 c1]), undef, (.pointer (some ⟨g1v, 0, none⟩)), (.pointer (some ⟨g2v, 0, none⟩)), (.pointer (some ⟨g3v, 0, none⟩)), undef, (.agg #[.slice a0 n0 c0]), (.bool true), (.agg #[.slice none 0 0]), undef, undef, undef, undef, undef, undef, undef], []⟩) (by kernel_rfl) ?_
    refine wp_ret ?_
    repeat (first | refine ret_then ?_ | refine ret_block ?_)
    refine bodyPost_ret (ret_dec rfl rfl (show Slot _ _ _ _ from ⟨X6.blk⟩)) rfl ?_
    exact ⟨none, 0, 0, rfl, by rw [woV, if_pos hz]; exact natO_nil _, by omega, BB⟩
  · have hzt := hz
    refine wl_call (some 9) 20 #[.agg #[.slice a0 n0 c0]] rfl rfl (by kernel_rfl) (zeroD h0 (by omega) false (decide_eq_false hz)) ?_
    rintro e1 v6w ⟨rfl, B⟩
    refine ⟨_, rfl, ?_⟩
    replace h0 := h0.keep B
    replace h1 := h1.keep B
    replace X4 := X4.keep B
    replace X5 := X5.keep B
    replace X6 := X6.keep B
    replace BB := joinB BB B
    clear B
    refine wl_nil ?_
    refine wp_then ?_
    refine wp_frame (a' := ⟨#[(.int .u64 T), (.agg #[.slice a0 n0 c0]), (.agg #[.slice a1 n1 c1]), undef, (.pointer (some ⟨g1v, 0, none⟩)), (.pointer (some ⟨g2v, 0, none⟩)), (.pointer (some ⟨g3v, 0, none⟩)), undef, (.agg #[.slice a0 n0 c0]), (.bool false), undef, undef, undef, undef, undef, undef, undef, undef], []⟩) (by kernel_rfl) ?_
    refine wp_cond_false (by kernel_rfl) ?_
    refine wp_skip_then ?_
    refine wp_seq ?_
    refine wl_start ?_
    refine wl_call (some 11) 21 #[.bool false] rfl rfl (by kernel_rfl) (round_any false) ?_
    rintro e1 v7w ⟨gc, rfl, XC, B⟩
    refine ⟨_, rfl, ?_⟩
    replace h0 := h0.keep B
    replace h1 := h1.keep B
    replace X4 := X4.keep B
    replace X5 := X5.keep B
    replace X6 := X6.keep B
    replace BB := joinB BB B
    clear B
    refine wl_take (some 7) (.func (.func 39) #[] #[.pointer (some ⟨gc, 0, none⟩)]) rfl rfl (by kernel_rfl) ?_
    refine wl_nil ?_
    refine wp_then ?_
    refine wp_frame (a' := ⟨#[(.int .u64 T), (.agg #[.slice a0 n0 c0]), (.agg #[.slice a1 n1 c1]), undef, (.pointer (some ⟨g1v, 0, none⟩)), (.pointer (some ⟨g2v, 0, none⟩)), (.pointer (some ⟨g3v, 0, none⟩)), (.func (.func 39) #[] #[.pointer (some ⟨gc, 0, none⟩)]), (.agg #[.slice a0 n0 c0]), (.bool false), undef, (.func (.func 39) #[] #[.pointer (some ⟨gc, 0, none⟩)]), undef, undef, undef, undef, undef, undef], []⟩) (by kernel_rfl) ?_
    refine wp_seq ?_
    refine rz_start (fun w' => Below v7w.drew.heap.size v7w.drew w') (fun i => decide (6 ≤ i)) (by kernel_rfl) ?_
    replace h0 := h0.drew
    replace h1 := h1.drew
    replace X4 := X4.drew
    replace X5 := X5.drew
    replace X6 := X6.drew
    replace XC := XC.drew
    replace BB := BB.drew
    have hS := Below.refl v7w.drew.heap.size v7w.drew
    have UX4 := X4
    have UX5 := X5
    have UX6 := X6
    refine rz_take 0 (some 12) (.func (.func 39) #[] #[.pointer (some ⟨gc, 0, none⟩)]) (by kernel_rfl) (by kernel_rfl) (fun _ _ => by kernel_rfl) (fun _ _ _ h => h) hS ?_
    refine rz_load 1 (some 13) (.agg #[.slice a1 n1 c1]) 29 5 (g2v) 0 (by kernel_rfl) (by kernel_rfl) (by kernel_rfl) (by kernel_rfl) (fun _ hb => ldx26 ((UX5.keep hb).cell (i := 0) rfl)) (fun _ _ _ h => h) hS ?_
    refine rz_take 2 (some 14) (.int .u64 T) (by kernel_rfl) (by kernel_rfl) (fun _ _ => by kernel_rfl) (fun _ _ _ h => h) hS ?_
    refine rz_load 4 (some 16) (.agg #[.slice a0 n0 c0]) 29 4 (g1v) 0 (by kernel_rfl) (by kernel_rfl) (by kernel_rfl) (by kernel_rfl) (fun _ hb => ldx26 ((UX4.keep hb).cell (i := 0) rfl)) (fun _ _ _ h => h) hS ?_
    refine rz_call 3 (some 15) 13 #[.int .u64 T] (by kernel_rfl) (by kernel_rfl) (dOf hT.1 hT.2) ?_
    rintro e1 v8w ⟨At, Nt, Ct, rfl, Ot, Kt, B⟩
    refine ⟨_, rfl, .inr (joinB hS B), ?_⟩
    replace hS := joinB hS B
    replace h0 := h0.keep B
    replace h1 := h1.keep B
    replace X4 := X4.keep B
    replace X5 := X5.keep B
    replace X6 := X6.keep B
    replace XC := XC.keep B
    replace BB := joinB BB B
    clear B
    refine rz_call 5 (some 17) 39 #[.agg #[.slice a1 n1 c1], .agg #[.slice At Nt Ct], .agg #[.slice a0 n0 c0], .pointer (some ⟨gc, 0, none⟩)] (by kernel_rfl) (by kernel_rfl) (clos_any XC h1 (by omega) Ot.a (by omega) h0 (by omega) hz) ?_
    rintro e1 v9w ⟨Ar, Nr, Cr, rfl, Or, Kr, B⟩
    refine ⟨_, rfl, .inr (joinB hS B), ?_⟩
    replace hS := joinB hS B
    replace h0 := h0.keep B
    replace h1 := h1.keep B
    replace X4 := X4.keep B
    replace X5 := X5.keep B
    replace X6 := X6.keep B
    replace XC := XC.keep B
    replace Ot := Ot.keep B
    replace BB := joinB BB B
    clear B
    clear XC
    clear Ot
    refine rz_set 6 6 17 29 (i := 0) (.slice none 0 0) (.slice Ar Nr Cr) X6 rfl (by kernel_rfl) (by kernel_rfl) (by kernel_rfl) (by kernel_rfl) storex26 rfl ?_
    intro v10w hv10w
    replace BB := BB.setCell (p := ⟨g3v, 0, none⟩) (show w.heap.size ≤ g3v by omega) (.slice Ar Nr Cr)
    replace h0 := h0.put (show Slot _ _ _ _ from ⟨X6.blk⟩) not_int (.slice Ar Nr Cr)
    replace h1 := h1.put (show Slot _ _ _ _ from ⟨X6.blk⟩) not_int (.slice Ar Nr Cr)
    replace X4 := X4.off (g' := g3v) (by omega) (i := 0) (.slice Ar Nr Cr)
    replace X5 := X5.off (g' := g3v) (by omega) (i := 0) (.slice Ar Nr Cr)
    replace Or := Or.put (show Slot _ _ _ _ from ⟨X6.blk⟩) not_int (.slice Ar Nr Cr)
    replace X6 := X6.setCell (i := 0) (.slice Ar Nr Cr)
    rw [hv10w] at BB h0 h1 X4 X5 X6 Or
    clear hv10w
    refine rz_done (by kernel_rfl) ?_ _
    clear hS UX4 UX5 UX6
    refine wp_then ?_
    refine wp_frame (a' := ⟨#[(.int .u64 T), (.agg #[.slice a0 n0 c0]), (.agg #[.slice a1 n1 c1]), undef, (.pointer (some ⟨g1v, 0, none⟩)), (.pointer (some ⟨g2v, 0, none⟩)), (.pointer (some ⟨g3v, 0, none⟩)), (.func (.func 39) #[] #[.pointer (some ⟨gc, 0, none⟩)]), (.agg #[.slice a0 n0 c0]), (.bool false), undef, (.func (.func 39) #[] #[.pointer (some ⟨gc, 0, none⟩)]), (.func (.func 39) #[] #[.pointer (some ⟨gc, 0, none⟩)]), (.agg #[.slice a1 n1 c1]), (.int .u64 T), (.agg #[.slice At Nt Ct]), (.agg #[.slice a0 n0 c0]), (.agg #[.slice Ar Nr Cr])], []⟩) (by kernel_rfl) ?_
    refine wp_ret ?_
    repeat (first | refine ret_then ?_ | refine ret_block ?_)
    refine bodyPost_ret (ret_dec rfl rfl (show Slot _ _ _ _ from ⟨X6.blk⟩)) rfl ?_
    exact ⟨Ar, Nr, Cr, rfl, by rw [woV, if_neg hz, ← rnd_down]; exact Or, by omega, BB⟩
set_option maxHeartbeats 2000000 in
set_option maxRecDepth 100000 in
theorem sRedeem {w : World} {T : Int} {a0 a1 : Option Addr} {n0 c0 n1 c1 : Nat} {x0 x1 : Int} (hT : 0 ≤ T ∧ T < 18446744073709551616) (h0 : NatA w a0 n0 c0 x0) (k0 : n0 ≤ 100000) (h1 : NatA w a1 n1 c1 x1) (k1 : n1 ≤ 100000) :
    Calls Tryd.prog 8 #[.int .u64 T, .agg #[.slice a0 n0 c0], .agg #[.slice a1 n1 c1]] w fun e w' => e = .returned (.tuple #[.int .u64 (reV T x0 x1), .int .i64 (reE x0 x1)]) ∧ Below w.heap.size w w' := by
  have BB := Below.refl w.heap.size w
  go_enter Tryd.func8, Tryd.ntmps8
  refine wp_seq ?_
  refine wl_start ?_
  have bs0 := BB.size
  refine wl_box 4 1 29 [.slice a0 n0 c0] rfl rfl rfl (by kernel_rfl) boxx26 ?_
  intro v1w g1v X4 hg1v B
  replace h0 := h0.keep B
  replace h1 := h1.keep B
  replace BB := joinB BB B
  clear B
  have lX4 := X4.lt
  have bs1 := BB.size
  refine wl_box 5 2 29 [.slice a1 n1 c1] rfl rfl rfl (by kernel_rfl) boxx26 ?_
  intro v2w g2v X5 hg2v B
  replace h0 := h0.keep B
  replace h1 := h1.keep B
  replace X4 := X4.keep B
  replace BB := joinB BB B
  clear B
  refine wl_take (some 6) (.int .u64 0) rfl rfl (by kernel_rfl) ?_
  refine wl_take (some 7) (.int .i64 0) rfl rfl (by kernel_rfl) ?_
  refine wl_nil ?_
  refine wp_then ?_
  refine wp_frame (a' := ⟨#[(.int .u64 T), (.agg #[.slice a0 n0 c0]), (.agg #[.slice a1 n1 c1]), undef, (.pointer (some ⟨g1v, 0, none⟩)), (.pointer (some ⟨g2v, 0, none⟩)), (.int .u64 0), (.int .i64 0), undef, undef, undef, undef, undef, undef, undef, undef, undef, undef, undef, undef, undef, undef, undef, undef, undef, undef, undef, undef, undef, undef, undef, undef, undef, undef], []⟩) (by kernel_rfl) ?_
  refine wp_seq ?_
  refine wp_seq ?_
  refine wl_start ?_
  refine wl_take (some 12) (.agg #[.slice a1 n1 c1]) rfl rfl (run_lp 5 (by kernel_rfl) (by kernel_rfl) (ldx26 (X5.cell (i := 0) rfl))) ?_
  refine wl_take (some 13) (.agg #[.slice a0 n0 c0]) rfl rfl (run_lp 4 (by kernel_rfl) (by kernel_rfl) (ldx26 (X4.cell (i := 0) rfl))) ?_
  by_cases hl : x0 < x1
  · have hlt := hl
    refine wl_call (some 14) 10 #[.agg #[.slice a1 n1 c1], .agg #[.slice a0 n0 c0]] rfl rfl (by kernel_rfl) (cmpD h1 h0 (by omega) (by omega) 1 (sgn_gt hl)) ?_
    rintro e1 v3w ⟨rfl, B⟩
    refine ⟨_, rfl, ?_⟩
    replace h0 := h0.keep B
    replace h1 := h1.keep B
    replace X4 := X4.keep B
    replace X5 := X5.keep B
    replace BB := joinB BB B
    clear B
    refine wl_nil ?_
    refine wp_then ?_
    refine wp_frame (a' := ⟨#[(.int .u64 T), (.agg #[.slice a0 n0 c0]), (.agg #[.slice a1 n1 c1]), undef, (.pointer (some ⟨g1v, 0, none⟩)), (.pointer (some ⟨g2v, 0, none⟩)), (.int .u64 0), (.int .i64 0), undef, undef, undef, undef, (.agg #[.slice a1 n1 c1]), (.agg #[.slice a0 n0 c0]), (.int .i64 1), undef, undef, undef, undef, undef, undef, undef, undef, undef, undef, undef, undef, undef, undef, undef, undef, undef, undef, undef], []⟩) (by kernel_rfl) ?_
    refine wp_block ?_
    refine wp_seq ?_
    refine wl_start ?_
    refine wl_take (some 16) (.bool true) rfl rfl (by kernel_rfl) ?_
    refine wl_take (some 15) (.bool true) rfl rfl (by kernel_rfl) ?_
    refine wl_nil ?_
    refine wp_then ?_
    refine wp_frame (a' := ⟨#[(.int .u64 T), (.agg #[.slice a0 n0 c0]), (.agg #[.slice a1 n1 c1]), undef, (.pointer (some ⟨g1v, 0, none⟩)), (.pointer (some ⟨g2v, 0, none⟩)), (.int .u64 0), (.int .i64 0), undef, undef, undef, undef, (.agg #[.slice a1 n1 c1]), (.agg #[.slice a0 n0 c0]), (.int .i64 1), (.bool true), (.bool true), undef, undef, undef, undef, undef, undef, undef, undef, undef, undef, undef, undef, undef, undef, undef, undef, undef], []⟩) (by kernel_rfl) ?_
    refine wp_cond_true (by kernel_rfl) ?_
    refine wp_seq ?_
    refine wl_start ?_
    refine wl_take (some 6) (.int .u64 0) rfl rfl (by kernel_rfl) ?_
    refine wl_take (some 7) (.int .i64 102) rfl rfl (by kernel_rfl) ?_
    refine wl_nil ?_
    refine wp_then ?_
    refine wp_frame (a' := ⟨#[(.int .u64 T), (.agg #[.slice a0 n0 c0]), (.agg #[.slice a1 n1 c1]), undef, (.pointer (some ⟨g1v, 0, none⟩)), (.pointer (some ⟨g2v, 0, none⟩)), (.int .u64 0), (.int .i64 102), undef, undef, undef, undef, (.agg #[.slice a1 n1 c1]), (.agg #[.slice a0 n0 c0]), (.int .i64 1), (.bool true), (.bool true), undef, undef, undef, undef, undef, undef, undef, undef, undef, undef, undef, undef, undef, undef, undef, undef, undef], []⟩) (by kernel_rfl) ?_
    refine wp_ret ?_
    repeat (first | refine ret_then ?_ | refine ret_block ?_)
    refine bodyPost_ret (results_tmp2 rfl _ _ _) rfl ?_
    exact ⟨by rw [reV, reE, if_pos hl, if_pos hl]; kernel_rfl, BB⟩
  · have hlt := hl
    by_cases he : x1 = x0
    · have het := he
      refine wl_call (some 14) 10 #[.agg #[.slice a1 n1 c1], .agg #[.slice a0 n0 c0]] rfl rfl (by kernel_rfl) (cmpD h1 h0 (by omega) (by omega) 0 (sgn_eq he)) ?_
      rintro e1 v4w ⟨rfl, B⟩
      refine ⟨_, rfl, ?_⟩
      replace h0 := h0.keep B
      replace h1 := h1.keep B
      replace X4 := X4.keep B
      replace X5 := X5.keep B
      replace BB := joinB BB B
      clear B
      refine wl_nil ?_
      refine wp_then ?_
      refine wp_frame (a' := ⟨#[(.int .u64 T), (.agg #[.slice a0 n0 c0]), (.agg #[.slice a1 n1 c1]), undef, (.pointer (some ⟨g1v, 0, none⟩)), (.pointer (some ⟨g2v, 0, none⟩)), (.int .u64 0), (.int .i64 0), undef, undef, undef, undef, (.agg #[.slice a1 n1 c1]), (.agg #[.slice a0 n0 c0]), (.int .i64 0), undef, undef, undef, undef, undef, undef, undef, undef, undef, undef, undef, undef, undef, undef, undef, undef, undef, undef, undef], []⟩) (by kernel_rfl) ?_
      refine wp_block ?_
      refine wp_seq ?_
      refine wl_start ?_
      refine wl_take (some 16) (.bool false) rfl rfl (by kernel_rfl) ?_
      refine wl_take (some 15) (.bool false) rfl rfl (by kernel_rfl) ?_
      refine wl_nil ?_
      refine wp_then ?_
      refine wp_frame (a' := ⟨#[(.int .u64 T), (.agg #[.slice a0 n0 c0]), (.agg #[.slice a1 n1 c1]), undef, (.pointer (some ⟨g1v, 0, none⟩)), (.pointer (some ⟨g2v, 0, none⟩)), (.int .u64 0), (.int .i64 0), undef, undef, undef, undef, (.agg #[.slice a1 n1 c1]), (.agg #[.slice a0 n0 c0]), (.int .i64 0), (.bool false), (.bool false), undef, undef, undef, undef, undef, undef, undef, undef, undef, undef, undef, undef, undef, undef, undef, undef, undef], []⟩) (by kernel_rfl) ?_
      refine wp_cond_false (by kernel_rfl) ?_
      refine wp_seq ?_
      refine wl_start ?_
      refine wl_take (some 18) (.bool true) rfl rfl (by kernel_rfl) ?_
      refine wl_take (some 17) (.bool true) rfl rfl (by kernel_rfl) ?_
      refine wl_nil ?_
      refine wp_then ?_
      refine wp_frame (a' := ⟨#[(.int .u64 T), (.agg #[.slice a0 n0 c0]), (.agg #[.slice a1 n1 c1]), undef, (.pointer (some ⟨g1v, 0, none⟩)), (.pointer (some ⟨g2v, 0, none⟩)), (.int .u64 0), (.int .i64 0), undef, undef, undef, undef, (.agg #[.slice a1 n1 c1]), (.agg #[.slice a0 n0 c0]), (.int .i64 0), (.bool false), (.bool false), (.bool true), (.bool true), undef, undef, undef, undef, undef, undef, undef, undef, undef, undef, undef, undef, undef, undef, undef], []⟩) (by kernel_rfl) ?_
      refine wp_cond_true (by kernel_rfl) ?_
      refine wp_seq ?_
      refine wl_start ?_
      refine wl_take (some 19) (.int .u64 T) rfl rfl (by kernel_rfl) ?_
      refine wl_take (some 6) (.int .u64 T) rfl rfl (by kernel_rfl) ?_
      refine wl_take (some 7) (.int .i64 0) rfl rfl (by kernel_rfl) ?_
      refine wl_nil ?_
      refine wp_then ?_
      refine wp_frame (a' := ⟨#[(.int .u64 T), (.agg #[.slice a0 n0 c0]), (.agg #[.slice a1 n1 c1]), undef, (.pointer (some ⟨g1v, 0, none⟩)), (.pointer (some ⟨g2v, 0, none⟩)), (.int .u64 T), (.int .i64 0), undef, undef, undef, undef, (.agg #[.slice a1 n1 c1]), (.agg #[.slice a0 n0 c0]), (.int .i64 0), (.bool false), (.bool false), (.bool true), (.bool true), (.int .u64 T), undef, undef, undef, undef, undef, undef, undef, undef, undef, undef, undef, undef, undef, undef], []⟩) (by kernel_rfl) ?_
      refine wp_ret ?_
      repeat (first | refine ret_then ?_ | refine ret_block ?_)
      refine bodyPost_ret (results_tmp2 rfl _ _ _) rfl ?_
      exact ⟨by rw [reV, reE, if_neg hl, if_neg hl, if_pos he]; kernel_rfl, BB⟩
    · have het := he
      refine wl_call (some 14) 10 #[.agg #[.slice a1 n1 c1], .agg #[.slice a0 n0 c0]] rfl rfl (by kernel_rfl) (cmpD h1 h0 (by omega) (by omega) (-1) (sgn_lt (by omega))) ?_
      rintro e1 v5w ⟨rfl, B⟩
      refine ⟨_, rfl, ?_⟩
      replace h0 := h0.keep B
      replace h1 := h1.keep B
      replace X4 := X4.keep B
      replace X5 := X5.keep B
      replace BB := joinB BB B
      clear B
      refine wl_nil ?_
      refine wp_then ?_
      refine wp_frame (a' := ⟨#[(.int .u64 T), (.agg #[.slice a0 n0 c0]), (.agg #[.slice a1 n1 c1]), undef, (.pointer (some ⟨g1v, 0, none⟩)), (.pointer (some ⟨g2v, 0, none⟩)), (.int .u64 0), (.int .i64 0), undef, undef, undef, undef, (.agg #[.slice a1 n1 c1]), (.agg #[.slice a0 n0 c0]), (.int .i64 (-1)), undef, undef, undef, undef, undef, undef, undef, undef, undef, undef, undef, undef, undef, undef, undef, undef, undef, undef, undef], []⟩) (by kernel_rfl) ?_
      refine wp_block ?_
      refine wp_seq ?_
      refine wl_start ?_
      refine wl_take (some 16) (.bool false) rfl rfl (by kernel_rfl) ?_
      refine wl_take (some 15) (.bool false) rfl rfl (by kernel_rfl) ?_
      refine wl_nil ?_
      refine wp_then ?_
      refine wp_frame (a' := ⟨#[(.int .u64 T), (.agg #[.slice a0 n0 c0]), (.agg #[.slice a1 n1 c1]), undef, (.pointer (some ⟨g1v, 0, none⟩)), (.pointer (some ⟨g2v, 0, none⟩)), (.int .u64 0), (.int .i64 0), undef, undef, undef, undef, (.agg #[.slice a1 n1 c1]), (.agg #[.slice a0 n0 c0]), (.int .i64 (-1)), (.bool false), (.bool false), undef, undef, undef, undef, undef, undef, undef, undef, undef, undef, undef, undef, undef, undef, undef, undef, undef], []⟩) (by kernel_rfl) ?_
      refine wp_cond_false (by kernel_rfl) ?_
      refine wp_seq ?_
      refine wl_start ?_
      refine wl_take (some 18) (.bool false) rfl rfl (by kernel_rfl) ?_
      refine wl_take (some 17) (.bool false) rfl rfl (by kernel_rfl) ?_
      refine wl_nil ?_
      refine wp_then ?_
      refine wp_frame (a' := ⟨#[(.int .u64 T), (.agg #[.slice a0 n0 c0]), (.agg #[.slice a1 n1 c1]), undef, (.pointer (some ⟨g1v, 0, none⟩)), (.pointer (some ⟨g2v, 0, none⟩)), (.int .u64 0), (.int .i64 0), undef, undef, undef, undef, (.agg #[.slice a1 n1 c1]), (.agg #[.slice a0 n0 c0]), (.int .i64 (-1)), (.bool false), (.bool false), (.bool false), (.bool false), undef, undef, undef, undef, undef, undef, undef, undef, undef, undef, undef, undef, undef, undef, undef], []⟩) (by kernel_rfl) ?_
      refine wp_cond_false (by kernel_rfl) ?_
      refine wp_skip_thenB ?_
      refine wp_seq ?_
      refine wl_start ?_
      refine wl_take (some 21) (.int .u64 T) rfl rfl (by kernel_rfl) ?_
      refine wl_take (some 22) (.agg #[.slice a0 n0 c0]) rfl rfl (run_lp 4 (by kernel_rfl) (by kernel_rfl) (ldx26 (X4.cell (i := 0) rfl))) ?_
      refine wl_take (some 23) (.agg #[.slice a1 n1 c1]) rfl rfl (run_lp 5 (by kernel_rfl) (by kernel_rfl) (ldx26 (X5.cell (i := 0) rfl))) ?_
      refine wl_call (some 24) 7 #[.int .u64 T, .agg #[.slice a0 n0 c0], .agg #[.slice a1 n1 c1]] rfl rfl (by kernel_rfl) (sWorth hT h0 (by omega) h1 (by omega)) ?_
      rintro e1 v6w ⟨Ao, No, Co, rfl, Oo, Ko, B⟩
      refine ⟨_, rfl, ?_⟩
      replace h0 := h0.keep B
      replace h1 := h1.keep B
      replace X4 := X4.keep B
      replace X5 := X5.keep B
      replace BB := joinB BB B
      clear B
      refine wl_call (some 25) 9 #[.agg #[.slice Ao No Co]] rfl rfl (by kernel_rfl) (dTrunc Oo.a (by omega)) ?_
      rintro e1 v7w ⟨Aw, Nw, Cw, Ae, Ne, Ce, rfl, Ow, Oe, Kw, Ke, B⟩
      refine ⟨_, rfl, ?_⟩
      replace h0 := h0.keep B
      replace h1 := h1.keep B
      replace X4 := X4.keep B
      replace X5 := X5.keep B
      replace Oo := Oo.keep B
      replace BB := joinB BB B
      clear B
      replace Ow := Ow.eqv (wo_re h1.nonneg hl he)
      refine wl_take (some 20) (.tuple #[.slice Aw Nw Cw, .agg #[.slice Ae Ne Ce]]) rfl rfl (by kernel_rfl) ?_
      refine wl_take (some 26) (.slice Aw Nw Cw) rfl rfl (by kernel_rfl) ?_
      refine wl_take (some 27) (.agg #[.slice Ae Ne Ce]) rfl rfl (by kernel_rfl) ?_
      have lX4 := X4.lt
      have lX5 := X5.lt
      have bs7 := BB.size
      refine wl_alloc 9 29 [.slice none 0 0] rfl rfl rfl allocx26 ?_
      intro v8w g8v X9 hg8v B
      replace h0 := h0.keep B
      replace h1 := h1.keep B
      replace X4 := X4.keep B
      replace X5 := X5.keep B
      replace Oo := Oo.keep B
      replace Ow := Ow.keep B
      replace Oe := Oe.keep B
      replace BB := joinB BB B
      clear B
      refine wl_take (some 8) (.slice Aw Nw Cw) rfl rfl (by kernel_rfl) ?_
      refine wl_set' 9 27 29 (i := 0) (.slice none 0 0) (.slice Ae Ne Ce) X9 rfl rfl rfl rfl (by kernel_rfl) (by kernel_rfl) storex26 ?_
      intro v9w hv9w
      replace BB := BB.setCell (p := ⟨g8v, 0, none⟩) (show w.heap.size ≤ g8v by omega) (.slice Ae Ne Ce)
      replace h0 := h0.put (show Slot _ _ _ _ from ⟨X9.blk⟩) not_int (.slice Ae Ne Ce)
      replace h1 := h1.put (show Slot _ _ _ _ from ⟨X9.blk⟩) not_int (.slice Ae Ne Ce)
      replace X4 := X4.off (g' := g8v) (by omega) (i := 0) (.slice Ae Ne Ce)
      replace X5 := X5.off (g' := g8v) (by omega) (i := 0) (.slice Ae Ne Ce)
      replace Oo := Oo.put (show Slot _ _ _ _ from ⟨X9.blk⟩) not_int (.slice Ae Ne Ce)
      replace Ow := Ow.put (show Slot _ _ _ _ from ⟨X9.blk⟩) not_int (.slice Ae Ne Ce)
      replace Oe := Oe.put (show Slot _ _ _ _ from ⟨X9.blk⟩) not_int (.slice Ae Ne Ce)
      replace X9 := X9.setCell (i := 0) (.slice Ae Ne Ce)
      rw [hv9w] at BB h0 h1 X4 X5 Oo Ow Oe X9
      clear hv9w
      refine wl_nil ?_
      refine wp_then ?_
      refine wp_frame (a' := ⟨#[(.int .u64 T), (.agg #[.slice a0 n0 c0]), (.agg #[.slice a1 n1 c1]), undef, (.pointer (some ⟨g1v, 0, none⟩)), (.pointer (some ⟨g2v, 0, none⟩)), (.int .u64 0), (.int .i64 0), (.slice Aw Nw Cw), (.pointer (some ⟨g8v, 0, none⟩)), undef, undef, (.agg #[.slice a1 n1 c1]), (.agg #[.slice a0 n0 c0]), (.int .i64 (-1)), (.bool false), (.bool false), (.bool false), (.bool false), undef, (.tuple #[.slice Aw Nw Cw, .agg #[.slice Ae Ne Ce]]), (.int .u64 T), (.agg #[.slice a0 n0 c0]), (.agg #[.slice a1 n1 c1]), (.agg #[.slice Ao No Co]), (.tuple #[.slice Aw Nw Cw, .agg #[.slice Ae Ne Ce]]), (.slice Aw Nw Cw), (.agg #[.slice Ae Ne Ce]), undef, undef, undef, undef, undef, undef], []⟩) (by kernel_rfl) ?_
      refine wp_seq ?_
      refine wl_start ?_
      refine wl_take (some 29) (.slice Aw Nw Cw) rfl rfl (by kernel_rfl) ?_
      refine wl_call (some 30) 22 #[.slice Aw Nw Cw] rfl rfl (by kernel_rfl) (nSmall Ow (by omega) (by have := reV_rng (S := x0) hT.1 h1.nonneg; omega)) ?_
      rintro e1 v10w ⟨rfl, B⟩
      refine ⟨_, rfl, ?_⟩
      replace h0 := h0.keep B
      replace h1 := h1.keep B
      replace X4 := X4.keep B
      replace X5 := X5.keep B
      replace Oo := Oo.keep B
      replace Ow := Ow.keep B
      replace Oe := Oe.keep B
      replace X9 := X9.keep B
      replace BB := joinB BB B
      clear B
      refine wl_take (some 28) (.tuple #[.int .u64 (reV T x0 x1), .bool true]) rfl rfl (by kernel_rfl) ?_
      refine wl_take (some 31) (.int .u64 (reV T x0 x1)) rfl rfl (by kernel_rfl) ?_
      refine wl_take (some 32) (.bool true) rfl rfl (by kernel_rfl) ?_
      refine wl_take (some 10) (.int .u64 (reV T x0 x1)) rfl rfl (by kernel_rfl) ?_
      refine wl_take (some 11) (.bool true) rfl rfl (by kernel_rfl) ?_
      refine wl_nil ?_
      refine wp_then ?_
      refine wp_frame (a' := ⟨#[(.int .u64 T), (.agg #[.slice a0 n0 c0]), (.agg #[.slice a1 n1 c1]), undef, (.pointer (some ⟨g1v, 0, none⟩)), (.pointer (some ⟨g2v, 0, none⟩)), (.int .u64 0), (.int .i64 0), (.slice Aw Nw Cw), (.pointer (some ⟨g8v, 0, none⟩)), (.int .u64 (reV T x0 x1)), (.bool true), (.agg #[.slice a1 n1 c1]), (.agg #[.slice a0 n0 c0]), (.int .i64 (-1)), (.bool false), (.bool false), (.bool false), (.bool false), undef, (.tuple #[.slice Aw Nw Cw, .agg #[.slice Ae Ne Ce]]), (.int .u64 T), (.agg #[.slice a0 n0 c0]), (.agg #[.slice a1 n1 c1]), (.agg #[.slice Ao No Co]), (.tuple #[.slice Aw Nw Cw, .agg #[.slice Ae Ne Ce]]), (.slice Aw Nw Cw), (.agg #[.slice Ae Ne Ce]), (.tuple #[.int .u64 (reV T x0 x1), .bool true]), (.slice Aw Nw Cw), (.tuple #[.int .u64 (reV T x0 x1), .bool true]), (.int .u64 (reV T x0 x1)), (.bool true), undef], []⟩) (by kernel_rfl) ?_
      refine wp_seq ?_
      refine wl_start ?_
      refine wl_take (some 33) (.int .u64 (reV T x0 x1)) rfl rfl (by kernel_rfl) ?_
      refine wl_take (some 6) (.int .u64 (reV T x0 x1)) rfl rfl (by kernel_rfl) ?_
      refine wl_take (some 7) (.int .i64 0) rfl rfl (by kernel_rfl) ?_
      refine wl_nil ?_
      refine wp_then ?_
      refine wp_frame (a' := ⟨#[(.int .u64 T), (.agg #[.slice a0 n0 c0]), (.agg #[.slice a1 n1 c1]), undef, (.pointer (some ⟨g1v, 0, none⟩)), (.pointer (some ⟨g2v, 0, none⟩)), (.int .u64 (reV T x0 x1)), (.int .i64 0), (.slice Aw Nw Cw), (.pointer (some ⟨g8v, 0, none⟩)), (.int .u64 (reV T x0 x1)), (.bool true), (.agg #[.slice a1 n1 c1]), (.agg #[.slice a0 n0 c0]), (.int .i64 (-1)), (.bool false), (.bool false), (.bool false), (.bool false), undef, (.tuple #[.slice Aw Nw Cw, .agg #[.slice Ae Ne Ce]]), (.int .u64 T), (.agg #[.slice a0 n0 c0]), (.agg #[.slice a1 n1 c1]), (.agg #[.slice Ao No Co]), (.tuple #[.slice Aw Nw Cw, .agg #[.slice Ae Ne Ce]]), (.slice Aw Nw Cw), (.agg #[.slice Ae Ne Ce]), (.tuple #[.int .u64 (reV T x0 x1), .bool true]), (.slice Aw Nw Cw), (.tuple #[.int .u64 (reV T x0 x1), .bool true]), (.int .u64 (reV T x0 x1)), (.bool true), (.int .u64 (reV T x0 x1))], []⟩) (by kernel_rfl) ?_
      refine wp_ret ?_
      repeat (first | refine ret_then ?_ | refine ret_block ?_)
      refine bodyPost_ret (results_tmp2 rfl _ _ _) rfl ?_
      exact ⟨by rw [reE, if_neg hl]; kernel_rfl, BB⟩
set_option maxHeartbeats 2000000 in
set_option maxRecDepth 100000 in
theorem sNeed {w : World} {T t : Int} {a0 : Option Addr} {n0 c0 : Nat} {x0 : Int} (hT : 0 ≤ T ∧ T < 18446744073709551616) (h0 : NatA w a0 n0 c0 x0) (k0 : n0 ≤ 100000) (ht : 0 ≤ t ∧ t < 18446744073709551616) :
    Calls Tryd.prog 15 #[.int .u64 T, .agg #[.slice a0 n0 c0], .int .u64 t] w fun e w' => ∃ a k d, e = .returned (.tuple #[.agg #[.slice a k d], .int .i64 (neE T t)]) ∧ NatO w' a k d (neV T x0 t) ∧ k ≤ n0 + 41 ∧ Below w.heap.size w w' := by
  have BB := Below.refl w.heap.size w
  go_enter Tryd.func15, Tryd.ntmps15
  refine wp_seq ?_
  refine wl_start ?_
  have bs0 := BB.size
  refine wl_box 4 1 29 [.slice a0 n0 c0] rfl rfl rfl (by kernel_rfl) boxx26 ?_
  intro v1w g1v X4 hg1v B
  replace h0 := h0.keep B
  replace BB := joinB BB B
  clear B
  have lX4 := X4.lt
  have bs1 := BB.size
  refine wl_alloc 6 29 [.slice none 0 0] rfl rfl rfl allocx26 ?_
  intro v2w g2v X6 hg2v B
  replace h0 := h0.keep B
  replace X4 := X4.keep B
  replace BB := joinB BB B
  clear B
  refine wl_take (some 7) (.int .i64 0) rfl rfl (by kernel_rfl) ?_
  refine wl_nil ?_
  refine wp_then ?_
  refine wp_frame (a' := ⟨#[(.int .u64 T), (.agg #[.slice a0 n0 c0]), (.int .u64 t), undef, (.pointer (some ⟨g1v, 0, none⟩)), undef, (.pointer (some ⟨g2v, 0, none⟩)), (.int .i64 0), undef, undef, undef, undef, undef, undef, undef, undef, undef, undef, undef, undef, undef, undef, undef, undef], []⟩) (by kernel_rfl) ?_
  refine wp_seq ?_
  refine wp_seq ?_
  refine wl_start ?_
  refine wl_take (some 9) (.int .u64 t) rfl rfl (by kernel_rfl) ?_
  refine wl_take (some 10) (.int .u64 T) rfl rfl (by kernel_rfl) ?_
  by_cases hl : T < t
  · have hlt := hl
    refine wl_eq (some 11) (.bool (decide ((T : Int) < t))) (.bool true) (congrArg Value.bool (decide_eq_true hl)) rfl rfl (by kernel_rfl) ?_
    refine wl_nil ?_
    refine wp_then ?_
    refine wp_frame (a' := ⟨#[(.int .u64 T), (.agg #[.slice a0 n0 c0]), (.int .u64 t), undef, (.pointer (some ⟨g1v, 0, none⟩)), undef, (.pointer (some ⟨g2v, 0, none⟩)), (.int .i64 0), undef, (.int .u64 t), (.int .u64 T), (.bool true), undef, undef, undef, undef, undef, undef, undef, undef, undef, undef, undef, undef], []⟩) (by kernel_rfl) ?_
    refine wp_cond_true (by kernel_rfl) ?_
    refine wp_seq ?_
    refine wl_start ?_
    refine wl_take (some 12) (.agg #[.slice none 0 0]) rfl rfl (by kernel_rfl) ?_
    refine wl_set' 6 12 29 (i := 0) (.slice none 0 0) (.slice none 0 0) X6 rfl rfl rfl rfl (by kernel_rfl) (by kernel_rfl) storex26 ?_
    intro v3w hv3w
    replace BB := BB.setCell (p := ⟨g2v, 0, none⟩) (show w.heap.size ≤ g2v by omega) (.slice none 0 0)
    replace h0 := h0.put (show Slot _ _ _ _ from ⟨X6.blk⟩) not_int (.slice none 0 0)
    replace X4 := X4.off (g' := g2v) (by omega) (i := 0) (.slice none 0 0)
    replace X6 := X6.setCell (i := 0) (.slice none 0 0)
    rw [hv3w] at BB h0 X4 X6
    clear hv3w
    refine wl_take (some 7) (.int .i64 102) rfl rfl (by kernel_rfl) ?_
    refine wl_nil ?_
    refine wp_then ?_
    refine wp_frame (a' := ⟨#[(.int .u64 T), (.agg #[.slice a0 n0 c0]), (.int .u64 t), undef, (.pointer (some ⟨g1v, 0, none⟩)), undef, (.pointer (some ⟨g2v, 0, none⟩)), (.int .i64 102), undef, (.int .u64 t), (.int .u64 T), (.bool true), (.agg #[.slice none 0 0]), undef, undef, undef, undef, undef, undef, undef, undef, undef, undef, undef], []⟩) (by kernel_rfl) ?_
    refine wp_ret ?_
    repeat (first | refine ret_then ?_ | refine ret_block ?_)
    refine bodyPost_ret (ret_dec_tmp rfl rfl rfl (show Slot _ _ _ _ from ⟨X6.blk⟩)) rfl ?_
    exact ⟨none, 0, 0, by rw [neE, if_pos hl]; kernel_rfl, by rw [neV, if_pos hl]; exact natO_nil _, by omega, BB⟩
  · have hlt := hl
    refine wl_eq (some 11) (.bool (decide ((T : Int) < t))) (.bool false) (congrArg Value.bool (decide_eq_false hl)) rfl rfl (by kernel_rfl) ?_
    refine wl_nil ?_
    refine wp_then ?_
    refine wp_frame (a' := ⟨#[(.int .u64 T), (.agg #[.slice a0 n0 c0]), (.int .u64 t), undef, (.pointer (some ⟨g1v, 0, none⟩)), undef, (.pointer (some ⟨g2v, 0, none⟩)), (.int .i64 0), undef, (.int .u64 t), (.int .u64 T), (.bool false), undef, undef, undef, undef, undef, undef, undef, undef, undef, undef, undef, undef], []⟩) (by kernel_rfl) ?_
    refine wp_cond_false (by kernel_rfl) ?_
    refine wp_skip_then ?_
    refine wp_seq ?_
    refine wp_seq ?_
    refine wl_start ?_
    refine wl_take (some 13) (.int .u64 T) rfl rfl (by kernel_rfl) ?_
    by_cases hz : T = 0
    · have hzt := hz
      refine wl_eq (some 14) (.bool ((T : Int) == 0)) (.bool true) (congrArg Value.bool (beq_iff_eq.2 hz)) rfl rfl (by kernel_rfl) ?_
      refine wl_nil ?_
      refine wp_then ?_
      refine wp_frame (a' := ⟨#[(.int .u64 T), (.agg #[.slice a0 n0 c0]), (.int .u64 t), undef, (.pointer (some ⟨g1v, 0, none⟩)), undef, (.pointer (some ⟨g2v, 0, none⟩)), (.int .i64 0), undef, (.int .u64 t), (.int .u64 T), (.bool false), undef, (.int .u64 T), (.bool true), undef, undef, undef, undef, undef, undef, undef, undef, undef], []⟩) (by kernel_rfl) ?_
      refine wp_cond_true (by kernel_rfl) ?_
      refine wp_seq ?_
      refine wl_start ?_
      refine wl_take (some 15) (.agg #[.slice none 0 0]) rfl rfl (by kernel_rfl) ?_
      refine wl_set' 6 15 29 (i := 0) (.slice none 0 0) (.slice none 0 0) X6 rfl rfl rfl rfl (by kernel_rfl) (by kernel_rfl) storex26 ?_
      intro v4w hv4w
      replace BB := BB.setCell (p := ⟨g2v, 0, none⟩) (show w.heap.size ≤ g2v by omega) (.slice none 0 0)
      replace h0 := h0.put (show Slot _ _ _ _ from ⟨X6.blk⟩) not_int (.slice none 0 0)
      replace X4 := X4.off (g' := g2v) (by omega) (i := 0) (.slice none 0 0)
      replace X6 := X6.setCell (i := 0) (.slice none 0 0)
      rw [hv4w] at BB h0 X4 X6
      clear hv4w
      refine wl_take (some 7) (.int .i64 100) rfl rfl (by kernel_rfl) ?_
      refine wl_nil ?_
      refine wp_then ?_
      refine wp_frame (a' := ⟨#[(.int .u64 T), (.agg #[.slice a0 n0 c0]), (.int .u64 t), undef, (.pointer (some ⟨g1v, 0, none⟩)), undef, (.pointer (some ⟨g2v, 0, none⟩)), (.int .i64 100), undef, (.int .u64 t), (.int .u64 T), (.bool false), undef, (.int .u64 T), (.bool true), (.agg #[.slice none 0 0]), undef, undef, undef, undef, undef, undef, undef, undef], []⟩) (by kernel_rfl) ?_
      refine wp_ret ?_
      repeat (first | refine ret_then ?_ | refine ret_block ?_)
      refine bodyPost_ret (ret_dec_tmp rfl rfl rfl (show Slot _ _ _ _ from ⟨X6.blk⟩)) rfl ?_
      exact ⟨none, 0, 0, by rw [neE, if_neg hl, if_pos hz]; kernel_rfl, by rw [neV, if_neg hl, if_pos hz]; exact natO_nil _, by omega, BB⟩
    · have hzt := hz
      refine wl_eq (some 14) (.bool ((T : Int) == 0)) (.bool false) (congrArg Value.bool (beq_eq_false_iff_ne.2 hz)) rfl rfl (by kernel_rfl) ?_
      refine wl_nil ?_
      refine wp_then ?_
      refine wp_frame (a' := ⟨#[(.int .u64 T), (.agg #[.slice a0 n0 c0]), (.int .u64 t), undef, (.pointer (some ⟨g1v, 0, none⟩)), undef, (.pointer (some ⟨g2v, 0, none⟩)), (.int .i64 0), undef, (.int .u64 t), (.int .u64 T), (.bool false), undef, (.int .u64 T), (.bool false), undef, undef, undef, undef, undef, undef, undef, undef, undef], []⟩) (by kernel_rfl) ?_
      refine wp_cond_false (by kernel_rfl) ?_
      refine wp_skip_then ?_
      refine wp_seq ?_
      refine wl_start ?_
      refine wl_call (some 16) 21 #[.bool true] rfl rfl (by kernel_rfl) (round_any true) ?_
      rintro e1 v5w ⟨gc, rfl, XC, B⟩
      refine ⟨_, rfl, ?_⟩
      replace h0 := h0.keep B
      replace X4 := X4.keep B
      replace X6 := X6.keep B
      replace BB := joinB BB B
      clear B
      refine wl_take (some 8) (.func (.func 39) #[] #[.pointer (some ⟨gc, 0, none⟩)]) rfl rfl (by kernel_rfl) ?_
      refine wl_nil ?_
      refine wp_then ?_
      refine wp_frame (a' := ⟨#[(.int .u64 T), (.agg #[.slice a0 n0 c0]), (.int .u64 t), undef, (.pointer (some ⟨g1v, 0, none⟩)), undef, (.pointer (some ⟨g2v, 0, none⟩)), (.int .i64 0), (.func (.func 39) #[] #[.pointer (some ⟨gc, 0, none⟩)]), (.int .u64 t), (.int .u64 T), (.bool false), undef, (.int .u64 T), (.bool false), undef, (.func (.func 39) #[] #[.pointer (some ⟨gc, 0, none⟩)]), undef, undef, undef, undef, undef, undef, undef], []⟩) (by kernel_rfl) ?_
      refine wp_seq ?_
      refine rz_start (fun w' => Below v5w.drew.heap.size v5w.drew w') (fun i => decide (7 ≤ i)) (by kernel_rfl) ?_
      replace h0 := h0.drew
      replace X4 := X4.drew
      replace X6 := X6.drew
      replace XC := XC.drew
      replace BB := BB.drew
      have hS := Below.refl v5w.drew.heap.size v5w.drew
      have UX4 := X4
      have UX6 := X6
      refine rz_take 0 (some 17) (.func (.func 39) #[] #[.pointer (some ⟨gc, 0, none⟩)]) (by kernel_rfl) (by kernel_rfl) (fun _ _ => by kernel_rfl) (fun _ _ _ h => h) hS ?_
      refine rz_load 1 (some 18) (.agg #[.slice a0 n0 c0]) 29 4 (g1v) 0 (by kernel_rfl) (by kernel_rfl) (by kernel_rfl) (by kernel_rfl) (fun _ hb => ldx26 ((UX4.keep hb).cell (i := 0) rfl)) (fun _ _ _ h => h) hS ?_
      refine rz_take 2 (some 19) (.int .u64 t) (by kernel_rfl) (by kernel_rfl) (fun _ _ => by kernel_rfl) (fun _ _ _ h => h) hS ?_
      refine rz_take 4 (some 21) (.int .u64 T) (by kernel_rfl) (by kernel_rfl) (fun _ _ => by kernel_rfl) (fun _ _ _ h => h) hS ?_
      refine rz_call 3 (some 20) 13 #[.int .u64 t] (by kernel_rfl) (by kernel_rfl) (dOf ht.1 ht.2) ?_
      rintro e1 v6w ⟨At, Nt, Ct, rfl, Ot, Kt, B⟩
      refine ⟨_, rfl, .inr (joinB hS B), ?_⟩
      replace hS := joinB hS B
      replace h0 := h0.keep B
      replace X4 := X4.keep B
      replace X6 := X6.keep B
      replace XC := XC.keep B
      replace BB := joinB BB B
      clear B
      refine rz_call 5 (some 22) 13 #[.int .u64 T] (by kernel_rfl) (by kernel_rfl) (dOf hT.1 hT.2) ?_
      rintro e1 v7w ⟨Au, Nu, Cu, rfl, Ou, Ku, B⟩
      refine ⟨_, rfl, .inr (joinB hS B), ?_⟩
      replace hS := joinB hS B
      replace h0 := h0.keep B
      replace X4 := X4.keep B
      replace X6 := X6.keep B
      replace XC := XC.keep B
      replace Ot := Ot.keep B
      replace BB := joinB BB B
      clear B
      refine rz_call 6 (some 23) 39 #[.agg #[.slice a0 n0 c0], .agg #[.slice At Nt Ct], .agg #[.slice Au Nu Cu], .pointer (some ⟨gc, 0, none⟩)] (by kernel_rfl) (by kernel_rfl) (clos_any XC h0 (by omega) Ot.a (by omega) Ou.a (by omega) (mulU_ne hz)) ?_
      rintro e1 v8w ⟨Ar, Nr, Cr, rfl, Or, Kr, B⟩
      refine ⟨_, rfl, .inr (joinB hS B), ?_⟩
      replace hS := joinB hS B
      replace h0 := h0.keep B
      replace X4 := X4.keep B
      replace X6 := X6.keep B
      replace XC := XC.keep B
      replace Ot := Ot.keep B
      replace Ou := Ou.keep B
      replace BB := joinB BB B
      clear B
      clear XC
      clear Ot
      clear Ou
      refine rz_set 7 6 23 29 (i := 0) (.slice none 0 0) (.slice Ar Nr Cr) X6 rfl (by kernel_rfl) (by kernel_rfl) (by kernel_rfl) (by kernel_rfl) storex26 rfl ?_
      intro v9w hv9w
      replace BB := BB.setCell (p := ⟨g2v, 0, none⟩) (show w.heap.size ≤ g2v by omega) (.slice Ar Nr Cr)
      replace h0 := h0.put (show Slot _ _ _ _ from ⟨X6.blk⟩) not_int (.slice Ar Nr Cr)
      replace X4 := X4.off (g' := g2v) (by omega) (i := 0) (.slice Ar Nr Cr)
      replace Or := Or.put (show Slot _ _ _ _ from ⟨X6.blk⟩) not_int (.slice Ar Nr Cr)
      replace X6 := X6.setCell (i := 0) (.slice Ar Nr Cr)
      rw [hv9w] at BB h0 X4 X6 Or
      clear hv9w
      refine rz_val 8 (some 7) (.int .i64 0) v9w (by kernel_rfl) (by kernel_rfl) (.inl rfl) ?_
      refine rz_done (by kernel_rfl) ?_ _
      clear hS UX4 UX6
      refine wp_then ?_
      refine wp_frame (a' := ⟨#[(.int .u64 T), (.agg #[.slice a0 n0 c0]), (.int .u64 t), undef, (.pointer (some ⟨g1v, 0, none⟩)), undef, (.pointer (some ⟨g2v, 0, none⟩)), (.int .i64 0), (.func (.func 39) #[] #[.pointer (some ⟨gc, 0, none⟩)]), (.int .u64 t), (.int .u64 T), (.bool false), undef, (.int .u64 T), (.bool false), undef, (.func (.func 39) #[] #[.pointer (some ⟨gc, 0, none⟩)]), (.func (.func 39) #[] #[.pointer (some ⟨gc, 0, none⟩)]), (.agg #[.slice a0 n0 c0]), (.int .u64 t), (.agg #[.slice At Nt Ct]), (.int .u64 T), (.agg #[.slice Au Nu Cu]), (.agg #[.slice Ar Nr Cr])], []⟩) (by kernel_rfl) ?_
      refine wp_ret ?_
      repeat (first | refine ret_then ?_ | refine ret_block ?_)
      refine bodyPost_ret (ret_dec_tmp rfl rfl rfl (show Slot _ _ _ _ from ⟨X6.blk⟩)) rfl ?_
      exact ⟨Ar, Nr, Cr, by rw [neE, if_neg hl, if_neg hz]; kernel_rfl, by rw [neV, if_neg hl, if_neg hz, ← rnd_scale u36p, Int.mul_assoc]; exact Or, by omega, BB⟩
set_option maxHeartbeats 2000000 in
set_option maxRecDepth 100000 in
theorem sIssue {w : World} {T t : Int} {a0 : Option Addr} {n0 c0 : Nat} {x0 : Int} (hT : 0 ≤ T ∧ T < 18446744073709551616) (h0 : NatA w a0 n0 c0 x0) (k0 : n0 ≤ 100000) (ht : 0 ≤ t ∧ t < 18446744073709551616) :
    Calls Tryd.prog 14 #[.int .u64 T, .agg #[.slice a0 n0 c0], .int .u64 t] w fun e w' => ∃ a k d, e = .returned (.tuple #[.agg #[.slice a k d], .int .i64 (isE T x0 t)]) ∧ NatO w' a k d (isV T x0 t) ∧ k ≤ n0 + 41 ∧ Below w.heap.size w w' := by
  have BB := Below.refl w.heap.size w
  go_enter Tryd.func14, Tryd.ntmps14
  refine wp_seq ?_
  refine wl_start ?_
  have bs0 := BB.size
  refine wl_box 4 1 29 [.slice a0 n0 c0] rfl rfl rfl (by kernel_rfl) boxx26 ?_
  intro v1w g1v X4 hg1v B
  replace h0 := h0.keep B
  replace BB := joinB BB B
  clear B
  have lX4 := X4.lt
  have bs1 := BB.size
  refine wl_alloc 6 29 [.slice none 0 0] rfl rfl rfl allocx26 ?_
  intro v2w g2v X6 hg2v B
  replace h0 := h0.keep B
  replace X4 := X4.keep B
  replace BB := joinB BB B
  clear B
  refine wl_take (some 7) (.int .i64 0) rfl rfl (by kernel_rfl) ?_
  refine wl_nil ?_
  refine wp_then ?_
  refine wp_frame (a' := ⟨#[(.int .u64 T), (.agg #[.slice a0 n0 c0]), (.int .u64 t), undef, (.pointer (some ⟨g1v, 0, none⟩)), undef, (.pointer (some ⟨g2v, 0, none⟩)), (.int .i64 0), undef, undef, undef, undef, undef, undef, undef, undef, undef, undef, undef, undef, undef, undef, undef, undef, undef, undef, undef, undef, undef, undef, undef, undef, undef, undef, undef, undef, undef, undef, undef, undef, undef, undef], []⟩) (by kernel_rfl) ?_
  refine wp_seq ?_
  refine wp_block ?_
  refine wp_seq ?_
  refine wl_start ?_
  refine wl_take (some 11) (.int .u64 t) rfl rfl (by kernel_rfl) ?_
  by_cases ht0 : t = 0
  · have ht0t := ht0
    refine wl_eq (some 12) (.bool ((t : Int) == 0)) (.bool true) (congrArg Value.bool (beq_iff_eq.2 ht0)) rfl rfl (by kernel_rfl) ?_
    refine wl_take (some 10) (.bool true) rfl rfl (by kernel_rfl) ?_
    refine wl_nil ?_
    refine wp_then ?_
    refine wp_frame (a' := ⟨#[(.int .u64 T), (.agg #[.slice a0 n0 c0]), (.int .u64 t), undef, (.pointer (some ⟨g1v, 0, none⟩)), undef, (.pointer (some ⟨g2v, 0, none⟩)), (.int .i64 0), undef, undef, (.bool true), (.int .u64 t), (.bool true), undef, undef, undef, undef, undef, undef, undef, undef, undef, undef, undef, undef, undef, undef, undef, undef, undef, undef, undef, undef, undef, undef, undef, undef, undef, undef, undef, undef, undef], []⟩) (by kernel_rfl) ?_
    refine wp_cond_true (by kernel_rfl) ?_
    refine wp_seq ?_
    refine wl_start ?_
    refine wl_take (some 13) (.agg #[.slice none 0 0]) rfl rfl (by kernel_rfl) ?_
    refine wl_set' 6 13 29 (i := 0) (.slice none 0 0) (.slice none 0 0) X6 rfl rfl rfl rfl (by kernel_rfl) (by kernel_rfl) storex26 ?_
    intro v3w hv3w
    replace BB := BB.setCell (p := ⟨g2v, 0, none⟩) (show w.heap.size ≤ g2v by omega) (.slice none 0 0)
    replace h0 := h0.put (show Slot _ _ _ _ from ⟨X6.blk⟩) not_int (.slice none 0 0)
    replace X4 := X4.off (g' := g2v) (by omega) (i := 0) (.slice none 0 0)
    replace X6 := X6.setCell (i := 0) (.slice none 0 0)
    rw [hv3w] at BB h0 X4 X6
    clear hv3w
    refine wl_take (some 7) (.int .i64 101) rfl rfl (by kernel_rfl) ?_
    refine wl_nil ?_
    refine wp_then ?_
    refine wp_frame (a' := ⟨#[(.int .u64 T), (.agg #[.slice a0 n0 c0]), (.int .u64 t), undef, (.pointer (some ⟨g1v, 0, none⟩)), undef, (.pointer (some ⟨g2v, 0, none⟩)), (.int .i64 101), undef, undef, (.bool true), (.int .u64 t), (.bool true), (.agg #[.slice none 0 0]), undef, undef, undef, undef, undef, undef, undef, undef, undef, undef, undef, undef, undef, undef, undef, undef, undef, undef, undef, undef, undef, undef, undef, undef, undef, undef, undef, undef], []⟩) (by kernel_rfl) ?_
    refine wp_ret ?_
    repeat (first | refine ret_then ?_ | refine ret_block ?_)
    refine bodyPost_ret (ret_dec_tmp rfl rfl rfl (show Slot _ _ _ _ from ⟨X6.blk⟩)) rfl ?_
    exact ⟨none, 0, 0, by rw [isE, if_pos ht0]; kernel_rfl, by rw [isV, if_pos ht0]; exact natO_nil _, by omega, BB⟩
  · have ht0t := ht0
    refine wl_eq (some 12) (.bool ((t : Int) == 0)) (.bool false) (congrArg Value.bool (beq_eq_false_iff_ne.2 ht0)) rfl rfl (by kernel_rfl) ?_
    refine wl_take (some 10) (.bool false) rfl rfl (by kernel_rfl) ?_
    refine wl_nil ?_
    refine wp_then ?_
    refine wp_frame (a' := ⟨#[(.int .u64 T), (.agg #[.slice a0 n0 c0]), (.int .u64 t), undef, (.pointer (some ⟨g1v, 0, none⟩)), undef, (.pointer (some ⟨g2v, 0, none⟩)), (.int .i64 0), undef, undef, (.bool false), (.int .u64 t), (.bool false), undef, undef, undef, undef, undef, undef, undef, undef, undef, undef, undef, undef, undef, undef, undef, undef, undef, undef, undef, undef, undef, undef, undef, undef, undef, undef, undef, undef, undef], []⟩) (by kernel_rfl) ?_
    refine wp_cond_false (by kernel_rfl) ?_
    refine wp_seq ?_
    refine wl_start ?_
    refine wl_take (some 15) (.agg #[.slice a0 n0 c0]) rfl rfl (run_lp 4 (by kernel_rfl) (by kernel_rfl) (ldx26 (X4.cell (i := 0) rfl))) ?_
    by_cases hs0 : x0 = 0
    · have hs0t := hs0
      refine wl_call (some 16) 20 #[.agg #[.slice a0 n0 c0]] rfl rfl (by kernel_rfl) (zeroD h0 (by omega) true (decide_eq_true hs0)) ?_
      rintro e1 v4w ⟨rfl, B⟩
      refine ⟨_, rfl, ?_⟩
      replace h0 := h0.keep B
      replace X4 := X4.keep B
      replace X6 := X6.keep B
      replace BB := joinB BB B
      clear B
      refine wl_take (some 14) (.bool true) rfl rfl (by kernel_rfl) ?_
      refine wl_nil ?_
      refine wp_then ?_
      refine wp_frame (a' := ⟨#[(.int .u64 T), (.agg #[.slice a0 n0 c0]), (.int .u64 t), undef, (.pointer (some ⟨g1v, 0, none⟩)), undef, (.pointer (some ⟨g2v, 0, none⟩)), (.int .i64 0), undef, undef, (.bool false), (.int .u64 t), (.bool false), undef, (.bool true), (.agg #[.slice a0 n0 c0]), (.bool true), undef, undef, undef, undef, undef, undef, undef, undef, undef, undef, undef, undef, undef, undef, undef, undef, undef, undef, undef, undef, undef, undef, undef, undef, undef], []⟩) (by kernel_rfl) ?_
      refine wp_cond_true (by kernel_rfl) ?_
      refine wp_seq ?_
      refine wl_start ?_
      refine wl_take (some 17) (.int .u64 t) rfl rfl (by kernel_rfl) ?_
      refine wl_call (some 18) 13 #[.int .u64 t] rfl rfl (by kernel_rfl) (dOf ht.1 ht.2) ?_
      rintro e1 v5w ⟨Af, Nf, Cf, rfl, Of, Kf, B⟩
      refine ⟨_, rfl, ?_⟩
      replace h0 := h0.keep B
      replace X4 := X4.keep B
      replace X6 := X6.keep B
      replace BB := joinB BB B
      clear B
      refine wl_set' 6 18 29 (i := 0) (.slice none 0 0) (.slice Af Nf Cf) X6 rfl rfl rfl rfl (by kernel_rfl) (by kernel_rfl) storex26 ?_
      intro v6w hv6w
      replace BB := BB.setCell (p := ⟨g2v, 0, none⟩) (show w.heap.size ≤ g2v by omega) (.slice Af Nf Cf)
      replace h0 := h0.put (show Slot _ _ _ _ from ⟨X6.blk⟩) not_int (.slice Af Nf Cf)
      replace X4 := X4.off (g' := g2v) (by omega) (i := 0) (.slice Af Nf Cf)
      replace Of := Of.put (show Slot _ _ _ _ from ⟨X6.blk⟩) not_int (.slice Af Nf Cf)
      replace X6 := X6.setCell (i := 0) (.slice Af Nf Cf)
      rw [hv6w] at BB h0 X4 X6 Of
      clear hv6w
      refine wl_take (some 7) (.int .i64 0) rfl rfl (by kernel_rfl) ?_
      refine wl_nil ?_
      refine wp_then ?_
      refine wp_frame (a' := ⟨#[(.int .u64 T), (.agg #[.slice a0 n0 c0]), (.int .u64 t), undef, (.pointer (some ⟨g1v, 0, none⟩)), undef, (.pointer (some ⟨g2v, 0, none⟩)), (.int .i64 0), undef, undef, (.bool false), (.int .u64 t), (.bool false), undef, (.bool true), (.agg #[.slice a0 n0 c0]), (.bool true), (.int .u64 t), (.agg #[.slice Af Nf Cf]), undef, undef, undef, undef, undef, undef, undef, undef, undef, undef, undef, undef, undef, undef, undef, undef, undef, undef, undef, undef, undef, undef, undef], []⟩) (by kernel_rfl) ?_
      refine wp_ret ?_
      repeat (first | refine ret_then ?_ | refine ret_block ?_)
      refine bodyPost_ret (ret_dec_tmp rfl rfl rfl (show Slot _ _ _ _ from ⟨X6.blk⟩)) rfl ?_
      exact ⟨Af, Nf, Cf, by rw [isE, if_neg ht0, if_pos hs0]; kernel_rfl, by rw [isV, if_neg ht0, if_pos hs0]; exact Of, by omega, BB⟩
    · have hs0t := hs0
      refine wl_call (some 16) 20 #[.agg #[.slice a0 n0 c0]] rfl rfl (by kernel_rfl) (zeroD h0 (by omega) false (decide_eq_false hs0)) ?_
      rintro e1 v7w ⟨rfl, B⟩
      refine ⟨_, rfl, ?_⟩
      replace h0 := h0.keep B
      replace X4 := X4.keep B
      replace X6 := X6.keep B
      replace BB := joinB BB B
      clear B
      refine wl_take (some 14) (.bool false) rfl rfl (by kernel_rfl) ?_
      refine wl_nil ?_
      refine wp_then ?_
      refine wp_frame (a' := ⟨#[(.int .u64 T), (.agg #[.slice a0 n0 c0]), (.int .u64 t), undef, (.pointer (some ⟨g1v, 0, none⟩)), undef, (.pointer (some ⟨g2v, 0, none⟩)), (.int .i64 0), undef, undef, (.bool false), (.int .u64 t), (.bool false), undef, (.bool false), (.agg #[.slice a0 n0 c0]), (.bool false), undef, undef, undef, undef, undef, undef, undef, undef, undef, undef, undef, undef, undef, undef, undef, undef, undef, undef, undef, undef, undef, undef, undef, undef, undef], []⟩) (by kernel_rfl) ?_
      refine wp_cond_false (by kernel_rfl) ?_
      refine wp_seq ?_
      refine wl_start ?_
      refine wl_take (some 20) (.int .u64 T) rfl rfl (by kernel_rfl) ?_
      by_cases hz : T = 0
      · have hzt := hz
        refine wl_eq (some 21) (.bool ((T : Int) == 0)) (.bool true) (congrArg Value.bool (beq_iff_eq.2 hz)) rfl rfl (by kernel_rfl) ?_
        refine wl_take (some 19) (.bool true) rfl rfl (by kernel_rfl) ?_
        refine wl_nil ?_
        refine wp_then ?_
        refine wp_frame (a' := ⟨#[(.int .u64 T), (.agg #[.slice a0 n0 c0]), (.int .u64 t), undef, (.pointer (some ⟨g1v, 0, none⟩)), undef, (.pointer (some ⟨g2v, 0, none⟩)), (.int .i64 0), undef, undef, (.bool false), (.int .u64 t), (.bool false), undef, (.bool false), (.agg #[.slice a0 n0 c0]), (.bool false), undef, undef, (.bool true), (.int .u64 T), (.bool true), undef, undef, undef, undef, undef, undef, undef, undef, undef, undef, undef, undef, undef, undef, undef, undef, undef, undef, undef, undef], []⟩) (by kernel_rfl) ?_
        refine wp_cond_true (by kernel_rfl) ?_
        refine wp_seq ?_
        refine wl_start ?_
        refine wl_take (some 22) (.agg #[.slice none 0 0]) rfl rfl (by kernel_rfl) ?_
        refine wl_set' 6 22 29 (i := 0) (.slice none 0 0) (.slice none 0 0) X6 rfl rfl rfl rfl (by kernel_rfl) (by kernel_rfl) storex26 ?_
        intro v8w hv8w
        replace BB := BB.setCell (p := ⟨g2v, 0, none⟩) (show w.heap.size ≤ g2v by omega) (.slice none 0 0)
        replace h0 := h0.put (show Slot _ _ _ _ from ⟨X6.blk⟩) not_int (.slice none 0 0)
        replace X4 := X4.off (g' := g2v) (by omega) (i := 0) (.slice none 0 0)
        replace X6 := X6.setCell (i := 0) (.slice none 0 0)
        rw [hv8w] at BB h0 X4 X6
        clear hv8w
        refine wl_take (some 7) (.int .i64 100) rfl rfl (by kernel_rfl) ?_
        refine wl_nil ?_
        refine wp_then ?_
        refine wp_frame (a' := ⟨#[(.int .u64 T), (.agg #[.slice a0 n0 c0]), (.int .u64 t), undef, (.pointer (some ⟨g1v, 0, none⟩)), undef, (.pointer (some ⟨g2v, 0, none⟩)), (.int .i64 100), undef, undef, (.bool false), (.int .u64 t), (.bool false), undef, (.bool false), (.agg #[.slice a0 n0 c0]), (.bool false), undef, undef, (.bool true), (.int .u64 T), (.bool true), (.agg #[.slice none 0 0]), undef, undef, undef, undef, undef, undef, undef, undef, undef, undef, undef, undef, undef, undef, undef, undef, undef, undef, undef], []⟩) (by kernel_rfl) ?_
        refine wp_ret ?_
        repeat (first | refine ret_then ?_ | refine ret_block ?_)
        refine bodyPost_ret (ret_dec_tmp rfl rfl rfl (show Slot _ _ _ _ from ⟨X6.blk⟩)) rfl ?_
        exact ⟨none, 0, 0, by rw [isE, if_neg ht0, if_neg hs0, if_pos hz]; kernel_rfl, by rw [isV, if_neg ht0, if_neg hs0, if_pos hz]; exact natO_nil _, by omega, BB⟩
      · have hzt := hz
        refine wl_eq (some 21) (.bool ((T : Int) == 0)) (.bool false) (congrArg Value.bool (beq_eq_false_iff_ne.2 hz)) rfl rfl (by kernel_rfl) ?_
        refine wl_take (some 19) (.bool false) rfl rfl (by kernel_rfl) ?_
        refine wl_nil ?_
        refine wp_then ?_
        refine wp_frame (a' := ⟨#[(.int .u64 T), (.agg #[.slice a0 n0 c0]), (.int .u64 t), undef, (.pointer (some ⟨g1v, 0, none⟩)), undef, (.pointer (some ⟨g2v, 0, none⟩)), (.int .i64 0), undef, undef, (.bool false), (.int .u64 t), (.bool false), undef, (.bool false), (.agg #[.slice a0 n0 c0]), (.bool false), undef, undef, (.bool false), (.int .u64 T), (.bool false), undef, undef, undef, undef, undef, undef, undef, undef, undef, undef, undef, undef, undef, undef, undef, undef, undef, undef, undef, undef], []⟩) (by kernel_rfl) ?_
        refine wp_cond_false (by kernel_rfl) ?_
        refine wp_skip_thenB ?_
        refine wp_seq ?_
        refine wl_start ?_
        refine wl_call (some 23) 21 #[.bool false] rfl rfl (by kernel_rfl) (round_any false) ?_
        rintro e1 v9w ⟨gc, rfl, XC, B⟩
        refine ⟨_, rfl, ?_⟩
        replace h0 := h0.keep B
        replace X4 := X4.keep B
        replace X6 := X6.keep B
        replace BB := joinB BB B
        clear B
        refine wl_take (some 8) (.func (.func 39) #[] #[.pointer (some ⟨gc, 0, none⟩)]) rfl rfl (by kernel_rfl) ?_
        refine wl_nil ?_
        refine wp_then ?_
        refine wp_frame (a' := ⟨#[(.int .u64 T), (.agg #[.slice a0 n0 c0]), (.int .u64 t), undef, (.pointer (some ⟨g1v, 0, none⟩)), undef, (.pointer (some ⟨g2v, 0, none⟩)), (.int .i64 0), (.func (.func 39) #[] #[.pointer (some ⟨gc, 0, none⟩)]), undef, (.bool false), (.int .u64 t), (.bool false), undef, (.bool false), (.agg #[.slice a0 n0 c0]), (.bool false), undef, undef, (.bool false), (.int .u64 T), (.bool false), undef, (.func (.func 39) #[] #[.pointer (some ⟨gc, 0, none⟩)]), undef, undef, undef, undef, undef, undef, undef, undef, undef, undef, undef, undef, undef, undef, undef, undef, undef, undef], []⟩) (by kernel_rfl) ?_
        refine wp_seq ?_
        refine rg_start (S := fun w' => Below v9w.drew.heap.size v9w.drew w') (by kernel_rfl) (Below.refl _ _) ?_
        replace h0 := h0.drew
        replace X4 := X4.drew
        replace X6 := X6.drew
        replace XC := XC.drew
        replace BB := BB.drew
        have hS := Below.refl v9w.drew.heap.size v9w.drew
        have UX4 := X4
        have UX6 := X6
        refine rg_take 0 (some 24) (.func (.func 39) #[] #[.pointer (some ⟨gc, 0, none⟩)]) (by kernel_rfl) (fun _ _ => by kernel_rfl) (fun _ _ _ h => h) hS ?_
        refine rg_load 1 (some 25) (.agg #[.slice a0 n0 c0]) 29 4 (g1v) 0 (by kernel_rfl) (by kernel_rfl) (by kernel_rfl) (fun _ hb => ldx26 ((UX4.keep hb).cell (i := 0) rfl)) (fun _ _ _ h => h) hS ?_
        refine rg_take 2 (some 26) (.int .u64 t) (by kernel_rfl) (fun _ _ => by kernel_rfl) (fun _ _ _ h => h) hS ?_
        refine rg_take 4 (some 28) (.int .u64 T) (by kernel_rfl) (fun _ _ => by kernel_rfl) (fun _ _ _ h => h) hS ?_
        refine rg_ready [3, 7] (by kernel_rfl) (by simp) ?_
        refine ar_call 3 (some 27) 13 #[.int .u64 t] (by kernel_rfl) (by kernel_rfl) (dOf ht.1 ht.2) ?_ ?_
        · rintro e1 v10w ⟨At, Nt, Ct, rfl, Ot, Kt, B⟩
          refine ⟨_, rfl, joinB hS B, ?_⟩
          replace hS := joinB hS B
          replace h0 := h0.keep B
          replace X4 := X4.keep B
          replace X6 := X6.keep B
          replace XC := XC.keep B
          replace BB := joinB BB B
          clear B
          refine rg_ready [5, 7] (by kernel_rfl) (by simp) ?_
          refine ar_call 5 (some 29) 13 #[.int .u64 T] (by kernel_rfl) (by kernel_rfl) (dOf hT.1 hT.2) ?_ ?_
          · rintro e1 v11w ⟨Au, Nu, Cu, rfl, Ou, Ku, B⟩
            refine ⟨_, rfl, joinB hS B, ?_⟩
            replace hS := joinB hS B
            replace h0 := h0.keep B
            replace X4 := X4.keep B
            replace X6 := X6.keep B
            replace XC := XC.keep B
            replace Ot := Ot.keep B
            replace BB := joinB BB B
            clear B
            refine rg_ready [6, 7] (by kernel_rfl) (by simp) ?_
            refine ar_call 6 (some 30) 39 #[.agg #[.slice a0 n0 c0], .agg #[.slice At Nt Ct], .agg #[.slice Au Nu Cu], .pointer (some ⟨gc, 0, none⟩)] (by kernel_rfl) (by kernel_rfl) (clos_any XC h0 (by omega) Ot.a (by omega) Ou.a (by omega) (mulU_ne hz)) ?_ ?_
            · rintro e1 v12w ⟨Ar, Nr, Cr, rfl, Or, Kr, B⟩
              refine ⟨_, rfl, joinB hS B, ?_⟩
              replace hS := joinB hS B
              replace h0 := h0.keep B
              replace X4 := X4.keep B
              replace X6 := X6.keep B
              replace XC := XC.keep B
              replace Ot := Ot.keep B
              replace Ou := Ou.keep B
              replace BB := joinB BB B
              clear B
              replace Or := Or.eqv (is_q x0 t T)
              clear XC
              clear Ot
              clear Ou
              have lX4 := X4.lt
              have lX6 := X6.lt
              have bs13 := BB.size
              have hs13 := hS.size
              refine rg_ready [7] (by kernel_rfl) (by simp) ?_
              refine ar_new 7 9 29 [.slice none 0 0] (by kernel_rfl) (by kernel_rfl) allocx26 ?_ ar_nil
              intro v13w g13v X9 hg13v B
              refine ⟨joinB hS B, ?_⟩
              replace hS := joinB hS B
              replace h0 := h0.keep B
              replace X4 := X4.keep B
              replace X6 := X6.keep B
              replace Or := Or.keep B
              replace BB := joinB BB B
              clear B
              refine rg_set 8 9 30 29 (i := 0) (.slice none 0 0) (.slice Ar Nr Cr) X9 rfl (by kernel_rfl) (by kernel_rfl) (by kernel_rfl) (by kernel_rfl) (by kernel_rfl) storex26 (hS.setCell (p := ⟨g13v, 0, none⟩) (by have := hS.size; show _ ≤ g13v; omega) (.slice Ar Nr Cr)) ?_
              intro v14w hv14w
              replace BB := BB.setCell (p := ⟨g13v, 0, none⟩) (show w.heap.size ≤ g13v by omega) (.slice Ar Nr Cr)
              replace hS := hS.setCell (p := ⟨g13v, 0, none⟩) (by have := hS.size; show _ ≤ g13v; omega) (.slice Ar Nr Cr)
              replace h0 := h0.put (show Slot _ _ _ _ from ⟨X9.blk⟩) not_int (.slice Ar Nr Cr)
              replace X4 := X4.off (g' := g13v) (by omega) (i := 0) (.slice Ar Nr Cr)
              replace X6 := X6.off (g' := g13v) (by omega) (i := 0) (.slice Ar Nr Cr)
              replace Or := Or.put (show Slot _ _ _ _ from ⟨X9.blk⟩) not_int (.slice Ar Nr Cr)
              replace X9 := X9.setCell (i := 0) (.slice Ar Nr Cr)
              rw [hv14w] at BB h0 X4 X6 Or X9 hS
              clear hv14w
              refine rg_done (by kernel_rfl) ?_
              clear hS UX4 UX6
              refine wp_then ?_
              refine wp_frame (a' := ⟨#[(.int .u64 T), (.agg #[.slice a0 n0 c0]), (.int .u64 t), undef, (.pointer (some ⟨g1v, 0, none⟩)), undef, (.pointer (some ⟨g2v, 0, none⟩)), (.int .i64 0), (.func (.func 39) #[] #[.pointer (some ⟨gc, 0, none⟩)]), (.pointer (some ⟨g13v, 0, none⟩)), (.bool false), (.int .u64 t), (.bool false), undef, (.bool false), (.agg #[.slice a0 n0 c0]), (.bool false), undef, undef, (.bool false), (.int .u64 T), (.bool false), undef, (.func (.func 39) #[] #[.pointer (some ⟨gc, 0, none⟩)]), (.func (.func 39) #[] #[.pointer (some ⟨gc, 0, none⟩)]), (.agg #[.slice a0 n0 c0]), (.int .u64 t), (.agg #[.slice At Nt Ct]), (.int .u64 T), (.agg #[.slice Au Nu Cu]), (.agg #[.slice Ar Nr Cr]), undef, undef, undef, undef, undef, undef, undef, undef, undef, undef, undef], []⟩) (by kernel_rfl) ?_
              refine wp_seq ?_
              refine wp_seq ?_
              refine wl_start ?_
              refine wl_take (some 31) (.agg #[.slice Ar Nr Cr]) rfl rfl (run_lp 9 (by kernel_rfl) (by kernel_rfl) (ldx26 (X9.cell (i := 0) rfl))) ?_
              by_cases hq : x0 * t / T = 0
              · have hqt := hq
                refine wl_call (some 32) 20 #[.agg #[.slice Ar Nr Cr]] rfl rfl (by kernel_rfl) (zeroD Or.a (by omega) true (decide_eq_true hq)) ?_
                rintro e1 v15w ⟨rfl, B⟩
                refine ⟨_, rfl, ?_⟩
                replace h0 := h0.keep B
                replace X4 := X4.keep B
                replace X6 := X6.keep B
                replace Or := Or.keep B
                replace X9 := X9.keep B
                replace BB := joinB BB B
                clear B
                refine wl_nil ?_
                refine wp_then ?_
                refine wp_frame (a' := ⟨#[(.int .u64 T), (.agg #[.slice a0 n0 c0]), (.int .u64 t), undef, (.pointer (some ⟨g1v, 0, none⟩)), undef, (.pointer (some ⟨g2v, 0, none⟩)), (.int .i64 0), (.func (.func 39) #[] #[.pointer (some ⟨gc, 0, none⟩)]), (.pointer (some ⟨g13v, 0, none⟩)), (.bool false), (.int .u64 t), (.bool false), undef, (.bool false), (.agg #[.slice a0 n0 c0]), (.bool false), undef, undef, (.bool false), (.int .u64 T), (.bool false), undef, (.func (.func 39) #[] #[.pointer (some ⟨gc, 0, none⟩)]), (.func (.func 39) #[] #[.pointer (some ⟨gc, 0, none⟩)]), (.agg #[.slice a0 n0 c0]), (.int .u64 t), (.agg #[.slice At Nt Ct]), (.int .u64 T), (.agg #[.slice Au Nu Cu]), (.agg #[.slice Ar Nr Cr]), (.agg #[.slice Ar Nr Cr]), (.bool true), undef, undef, undef, undef, undef, undef, undef, undef, undef], []⟩) (by kernel_rfl) ?_
                refine wp_cond_true (by kernel_rfl) ?_
                refine wp_seq ?_
                refine wl_start ?_
                refine wl_take (some 33) (.agg #[.slice none 0 0]) rfl rfl (by kernel_rfl) ?_
                refine wl_set' 6 33 29 (i := 0) (.slice none 0 0) (.slice none 0 0) X6 rfl rfl rfl rfl (by kernel_rfl) (by kernel_rfl) storex26 ?_
                intro v16w hv16w
                replace BB := BB.setCell (p := ⟨g2v, 0, none⟩) (show w.heap.size ≤ g2v by omega) (.slice none 0 0)
                replace h0 := h0.put (show Slot _ _ _ _ from ⟨X6.blk⟩) not_int (.slice none 0 0)
                replace X4 := X4.off (g' := g2v) (by omega) (i := 0) (.slice none 0 0)
                replace Or := Or.put (show Slot _ _ _ _ from ⟨X6.blk⟩) not_int (.slice none 0 0)
                replace X9 := X9.off (g' := g2v) (by omega) (i := 0) (.slice none 0 0)
                replace X6 := X6.setCell (i := 0) (.slice none 0 0)
                rw [hv16w] at BB h0 X4 X6 Or X9
                clear hv16w
                refine wl_take (some 7) (.int .i64 101) rfl rfl (by kernel_rfl) ?_
                refine wl_nil ?_
                refine wp_then ?_
                refine wp_frame (a' := ⟨#[(.int .u64 T), (.agg #[.slice a0 n0 c0]), (.int .u64 t), undef, (.pointer (some ⟨g1v, 0, none⟩)), undef, (.pointer (some ⟨g2v, 0, none⟩)), (.int .i64 101), (.func (.func 39) #[] #[.pointer (some ⟨gc, 0, none⟩)]), (.pointer (some ⟨g13v, 0, none⟩)), (.bool false), (.int .u64 t), (.bool false), undef, (.bool false), (.agg #[.slice a0 n0 c0]), (.bool false), undef, undef, (.bool false), (.int .u64 T), (.bool false), undef, (.func (.func 39) #[] #[.pointer (some ⟨gc, 0, none⟩)]), (.func (.func 39) #[] #[.pointer (some ⟨gc, 0, none⟩)]), (.agg #[.slice a0 n0 c0]), (.int .u64 t), (.agg #[.slice At Nt Ct]), (.int .u64 T), (.agg #[.slice Au Nu Cu]), (.agg #[.slice Ar Nr Cr]), (.agg #[.slice Ar Nr Cr]), (.bool true), (.agg #[.slice none 0 0]), undef, undef, undef, undef, undef, undef, undef, undef], []⟩) (by kernel_rfl) ?_
                refine wp_ret ?_
                repeat (first | refine ret_then ?_ | refine ret_block ?_)
                refine bodyPost_ret (ret_dec_tmp rfl rfl rfl (show Slot _ _ _ _ from ⟨X6.blk⟩)) rfl ?_
                exact ⟨none, 0, 0, by rw [isE, if_neg ht0, if_neg hs0, if_neg hz, if_pos hq]; kernel_rfl, by rw [isV_q ht0 hs0 hz hq]; exact natO_nil _, by omega, BB⟩
              · have hqt := hq
                refine wl_call (some 32) 20 #[.agg #[.slice Ar Nr Cr]] rfl rfl (by kernel_rfl) (zeroD Or.a (by omega) false (decide_eq_false hq)) ?_
                rintro e1 v17w ⟨rfl, B⟩
                refine ⟨_, rfl, ?_⟩
                replace h0 := h0.keep B
                replace X4 := X4.keep B
                replace X6 := X6.keep B
                replace Or := Or.keep B
                replace X9 := X9.keep B
                replace BB := joinB BB B
                clear B
                refine wl_nil ?_
                refine wp_then ?_
                refine wp_frame (a' := ⟨#[(.int .u64 T), (.agg #[.slice a0 n0 c0]), (.int .u64 t), undef, (.pointer (some ⟨g1v, 0, none⟩)), undef, (.pointer (some ⟨g2v, 0, none⟩)), (.int .i64 0), (.func (.func 39) #[] #[.pointer (some ⟨gc, 0, none⟩)]), (.pointer (some ⟨g13v, 0, none⟩)), (.bool false), (.int .u64 t), (.bool false), undef, (.bool false), (.agg #[.slice a0 n0 c0]), (.bool false), undef, undef, (.bool false), (.int .u64 T), (.bool false), undef, (.func (.func 39) #[] #[.pointer (some ⟨gc, 0, none⟩)]), (.func (.func 39) #[] #[.pointer (some ⟨gc, 0, none⟩)]), (.agg #[.slice a0 n0 c0]), (.int .u64 t), (.agg #[.slice At Nt Ct]), (.int .u64 T), (.agg #[.slice Au Nu Cu]), (.agg #[.slice Ar Nr Cr]), (.agg #[.slice Ar Nr Cr]), (.bool false), undef, undef, undef, undef, undef, undef, undef, undef, undef], []⟩) (by kernel_rfl) ?_
                refine wp_cond_false (by kernel_rfl) ?_
                refine wp_skip_then ?_
                refine wp_seq ?_
                refine wp_seq ?_
                refine wl_start ?_
                refine wl_take (some 34) (.agg #[.slice a0 n0 c0]) rfl rfl (run_lp 4 (by kernel_rfl) (by kernel_rfl) (ldx26 (X4.cell (i := 0) rfl))) ?_
                refine wl_take (some 35) (.agg #[.slice Ar Nr Cr]) rfl rfl (run_lp 9 (by kernel_rfl) (by kernel_rfl) (ldx26 (X9.cell (i := 0) rfl))) ?_
                refine wl_call (some 36) 6 #[.agg #[.slice a0 n0 c0], .agg #[.slice Ar Nr Cr]] rfl rfl (by kernel_rfl) (dAdd h0 Or.a (by omega) (by omega)) ?_
                rintro e1 v18w ⟨As, Ns, Cs, rfl, Os, Ks, B⟩
                refine ⟨_, rfl, ?_⟩
                replace h0 := h0.keep B
                replace X4 := X4.keep B
                replace X6 := X6.keep B
                replace Or := Or.keep B
                replace X9 := X9.keep B
                replace BB := joinB BB B
                clear B
                refine wl_call (some 37) 28 #[] rfl rfl (by kernel_rfl) (most_any) ?_
                rintro e1 v19w ⟨Am, Nm, Cm, rfl, Om, Km, B⟩
                refine ⟨_, rfl, ?_⟩
                replace h0 := h0.keep B
                replace X4 := X4.keep B
                replace X6 := X6.keep B
                replace Or := Or.keep B
                replace X9 := X9.keep B
                replace Os := Os.keep B
                replace BB := joinB BB B
                clear B
                by_cases hb : 10 ^ 90 < x0 + x0 * t / T
                · have hbt := hb
                  refine wl_call (some 38) 10 #[.agg #[.slice As Ns Cs], .agg #[.slice Am Nm Cm]] rfl rfl (by kernel_rfl) (cmpD Os.a Om.a (by omega) (by omega) 1 (sgn_gt hb)) ?_
                  rintro e1 v20w ⟨rfl, B⟩
                  refine ⟨_, rfl, ?_⟩
                  replace h0 := h0.keep B
                  replace X4 := X4.keep B
                  replace X6 := X6.keep B
                  replace Or := Or.keep B
                  replace X9 := X9.keep B
                  replace Os := Os.keep B
                  replace Om := Om.keep B
                  replace BB := joinB BB B
                  clear B
                  refine wl_take (some 39) (.bool true) rfl rfl (by kernel_rfl) ?_
                  refine wl_nil ?_
                  refine wp_then ?_
                  refine wp_frame (a' := ⟨#[(.int .u64 T), (.agg #[.slice a0 n0 c0]), (.int .u64 t), undef, (.pointer (some ⟨g1v, 0, none⟩)), undef, (.pointer (some ⟨g2v, 0, none⟩)), (.int .i64 0), (.func (.func 39) #[] #[.pointer (some ⟨gc, 0, none⟩)]), (.pointer (some ⟨g13v, 0, none⟩)), (.bool false), (.int .u64 t), (.bool false), undef, (.bool false), (.agg #[.slice a0 n0 c0]), (.bool false), undef, undef, (.bool false), (.int .u64 T), (.bool false), undef, (.func (.func 39) #[] #[.pointer (some ⟨gc, 0, none⟩)]), (.func (.func 39) #[] #[.pointer (some ⟨gc, 0, none⟩)]), (.agg #[.slice a0 n0 c0]), (.int .u64 t), (.agg #[.slice At Nt Ct]), (.int .u64 T), (.agg #[.slice Au Nu Cu]), (.agg #[.slice Ar Nr Cr]), (.agg #[.slice Ar Nr Cr]), (.bool false), undef, (.agg #[.slice a0 n0 c0]), (.agg #[.slice Ar Nr Cr]), (.agg #[.slice As Ns Cs]), (.agg #[.slice Am Nm Cm]), (.int .i64 1), (.bool true), undef, undef], []⟩) (by kernel_rfl) ?_
                  refine wp_cond_true (by kernel_rfl) ?_
                  refine wp_seq ?_
                  refine wl_start ?_
                  refine wl_take (some 40) (.agg #[.slice none 0 0]) rfl rfl (by kernel_rfl) ?_
                  refine wl_set' 6 40 29 (i := 0) (.slice none 0 0) (.slice none 0 0) X6 rfl rfl rfl rfl (by kernel_rfl) (by kernel_rfl) storex26 ?_
                  intro v21w hv21w
                  replace BB := BB.setCell (p := ⟨g2v, 0, none⟩) (show w.heap.size ≤ g2v by omega) (.slice none 0 0)
                  replace h0 := h0.put (show Slot _ _ _ _ from ⟨X6.blk⟩) not_int (.slice none 0 0)
                  replace X4 := X4.off (g' := g2v) (by omega) (i := 0) (.slice none 0 0)
                  replace Or := Or.put (show Slot _ _ _ _ from ⟨X6.blk⟩) not_int (.slice none 0 0)
                  replace X9 := X9.off (g' := g2v) (by omega) (i := 0) (.slice none 0 0)
                  replace Os := Os.put (show Slot _ _ _ _ from ⟨X6.blk⟩) not_int (.slice none 0 0)
                  replace Om := Om.put (show Slot _ _ _ _ from ⟨X6.blk⟩) not_int (.slice none 0 0)
                  replace X6 := X6.setCell (i := 0) (.slice none 0 0)
                  rw [hv21w] at BB h0 X4 X6 Or X9 Os Om
                  clear hv21w
                  refine wl_take (some 7) (.int .i64 103) rfl rfl (by kernel_rfl) ?_
                  refine wl_nil ?_
                  refine wp_then ?_
                  refine wp_frame (a' := ⟨#[(.int .u64 T), (.agg #[.slice a0 n0 c0]), (.int .u64 t), undef, (.pointer (some ⟨g1v, 0, none⟩)), undef, (.pointer (some ⟨g2v, 0, none⟩)), (.int .i64 103), (.func (.func 39) #[] #[.pointer (some ⟨gc, 0, none⟩)]), (.pointer (some ⟨g13v, 0, none⟩)), (.bool false), (.int .u64 t), (.bool false), undef, (.bool false), (.agg #[.slice a0 n0 c0]), (.bool false), undef, undef, (.bool false), (.int .u64 T), (.bool false), undef, (.func (.func 39) #[] #[.pointer (some ⟨gc, 0, none⟩)]), (.func (.func 39) #[] #[.pointer (some ⟨gc, 0, none⟩)]), (.agg #[.slice a0 n0 c0]), (.int .u64 t), (.agg #[.slice At Nt Ct]), (.int .u64 T), (.agg #[.slice Au Nu Cu]), (.agg #[.slice Ar Nr Cr]), (.agg #[.slice Ar Nr Cr]), (.bool false), undef, (.agg #[.slice a0 n0 c0]), (.agg #[.slice Ar Nr Cr]), (.agg #[.slice As Ns Cs]), (.agg #[.slice Am Nm Cm]), (.int .i64 1), (.bool true), (.agg #[.slice none 0 0]), undef], []⟩) (by kernel_rfl) ?_
                  refine wp_ret ?_
                  repeat (first | refine ret_then ?_ | refine ret_block ?_)
                  refine bodyPost_ret (ret_dec_tmp rfl rfl rfl (show Slot _ _ _ _ from ⟨X6.blk⟩)) rfl ?_
                  exact ⟨none, 0, 0, by rw [isE, if_neg ht0, if_neg hs0, if_neg hz, if_neg hq, if_pos hb]; kernel_rfl, by rw [isV, if_neg ht0, if_neg hs0, if_neg hz, if_pos hb]; exact natO_nil _, by omega, BB⟩
                · have hbt := hb
                  by_cases he : x0 + x0 * t / T = 10 ^ 90
                  · have het := he
                    refine wl_call (some 38) 10 #[.agg #[.slice As Ns Cs], .agg #[.slice Am Nm Cm]] rfl rfl (by kernel_rfl) (cmpD Os.a Om.a (by omega) (by omega) 0 (sgn_eq he)) ?_
                    rintro e1 v22w ⟨rfl, B⟩
                    refine ⟨_, rfl, ?_⟩
                    replace h0 := h0.keep B
                    replace X4 := X4.keep B
                    replace X6 := X6.keep B
                    replace Or := Or.keep B
                    replace X9 := X9.keep B
                    replace Os := Os.keep B
                    replace Om := Om.keep B
                    replace BB := joinB BB B
                    clear B
                    refine wl_take (some 39) (.bool false) rfl rfl (by kernel_rfl) ?_
                    refine wl_nil ?_
                    refine wp_then ?_
                    refine wp_frame (a' := ⟨#[(.int .u64 T), (.agg #[.slice a0 n0 c0]), (.int .u64 t), undef, (.pointer (some ⟨g1v, 0, none⟩)), undef, (.pointer (some ⟨g2v, 0, none⟩)), (.int .i64 0), (.func (.func 39) #[] #[.pointer (some ⟨gc, 0, none⟩)]), (.pointer (some ⟨g13v, 0, none⟩)), (.bool false), (.int .u64 t), (.bool false), undef, (.bool false), (.agg #[.slice a0 n0 c0]), (.bool false), undef, undef, (.bool false), (.int .u64 T), (.bool false), undef, (.func (.func 39) #[] #[.pointer (some ⟨gc, 0, none⟩)]), (.func (.func 39) #[] #[.pointer (some ⟨gc, 0, none⟩)]), (.agg #[.slice a0 n0 c0]), (.int .u64 t), (.agg #[.slice At Nt Ct]), (.int .u64 T), (.agg #[.slice Au Nu Cu]), (.agg #[.slice Ar Nr Cr]), (.agg #[.slice Ar Nr Cr]), (.bool false), undef, (.agg #[.slice a0 n0 c0]), (.agg #[.slice Ar Nr Cr]), (.agg #[.slice As Ns Cs]), (.agg #[.slice Am Nm Cm]), (.int .i64 0), (.bool false), undef, undef], []⟩) (by kernel_rfl) ?_
                    refine wp_cond_false (by kernel_rfl) ?_
                    refine wp_skip_then ?_
                    refine wp_seq ?_
                    refine wl_start ?_
                    refine wl_take (some 41) (.agg #[.slice Ar Nr Cr]) rfl rfl (run_lp 9 (by kernel_rfl) (by kernel_rfl) (ldx26 (X9.cell (i := 0) rfl))) ?_
                    refine wl_set' 6 41 29 (i := 0) (.slice none 0 0) (.slice Ar Nr Cr) X6 rfl rfl rfl rfl (by kernel_rfl) (by kernel_rfl) storex26 ?_
                    intro v23w hv23w
                    replace BB := BB.setCell (p := ⟨g2v, 0, none⟩) (show w.heap.size ≤ g2v by omega) (.slice Ar Nr Cr)
                    replace h0 := h0.put (show Slot _ _ _ _ from ⟨X6.blk⟩) not_int (.slice Ar Nr Cr)
                    replace X4 := X4.off (g' := g2v) (by omega) (i := 0) (.slice Ar Nr Cr)
                    replace Or := Or.put (show Slot _ _ _ _ from ⟨X6.blk⟩) not_int (.slice Ar Nr Cr)
                    replace X9 := X9.off (g' := g2v) (by omega) (i := 0) (.slice Ar Nr Cr)
                    replace Os := Os.put (show Slot _ _ _ _ from ⟨X6.blk⟩) not_int (.slice Ar Nr Cr)
                    replace Om := Om.put (show Slot _ _ _ _ from ⟨X6.blk⟩) not_int (.slice Ar Nr Cr)
                    replace X6 := X6.setCell (i := 0) (.slice Ar Nr Cr)
                    rw [hv23w] at BB h0 X4 X6 Or X9 Os Om
                    clear hv23w
                    refine wl_take (some 7) (.int .i64 0) rfl rfl (by kernel_rfl) ?_
                    refine wl_nil ?_
                    refine wp_then ?_
                    refine wp_frame (a' := ⟨#[(.int .u64 T), (.agg #[.slice a0 n0 c0]), (.int .u64 t), undef, (.pointer (some ⟨g1v, 0, none⟩)), undef, (.pointer (some ⟨g2v, 0, none⟩)), (.int .i64 0), (.func (.func 39) #[] #[.pointer (some ⟨gc, 0, none⟩)]), (.pointer (some ⟨g13v, 0, none⟩)), (.bool false), (.int .u64 t), (.bool false), undef, (.bool false), (.agg #[.slice a0 n0 c0]), (.bool false), undef, undef, (.bool false), (.int .u64 T), (.bool false), undef, (.func (.func 39) #[] #[.pointer (some ⟨gc, 0, none⟩)]), (.func (.func 39) #[] #[.pointer (some ⟨gc, 0, none⟩)]), (.agg #[.slice a0 n0 c0]), (.int .u64 t), (.agg #[.slice At Nt Ct]), (.int .u64 T), (.agg #[.slice Au Nu Cu]), (.agg #[.slice Ar Nr Cr]), (.agg #[.slice Ar Nr Cr]), (.bool false), undef, (.agg #[.slice a0 n0 c0]), (.agg #[.slice Ar Nr Cr]), (.agg #[.slice As Ns Cs]), (.agg #[.slice Am Nm Cm]), (.int .i64 0), (.bool false), undef, (.agg #[.slice Ar Nr Cr])], []⟩) (by kernel_rfl) ?_
                    refine wp_ret ?_
                    repeat (first | refine ret_then ?_ | refine ret_block ?_)
                    refine bodyPost_ret (ret_dec_tmp rfl rfl rfl (show Slot _ _ _ _ from ⟨X6.blk⟩)) rfl ?_
                    exact ⟨Ar, Nr, Cr, by rw [isE, if_neg ht0, if_neg hs0, if_neg hz, if_neg hq, if_neg hb]; kernel_rfl, by rw [isV, if_neg ht0, if_neg hs0, if_neg hz, if_neg hb]; exact Or, by omega, BB⟩
                  · have het := he
                    refine wl_call (some 38) 10 #[.agg #[.slice As Ns Cs], .agg #[.slice Am Nm Cm]] rfl rfl (by kernel_rfl) (cmpD Os.a Om.a (by omega) (by omega) (-1) (sgn_lt (lt_of hb he))) ?_
                    rintro e1 v24w ⟨rfl, B⟩
                    refine ⟨_, rfl, ?_⟩
                    replace h0 := h0.keep B
                    replace X4 := X4.keep B
                    replace X6 := X6.keep B
                    replace Or := Or.keep B
                    replace X9 := X9.keep B
                    replace Os := Os.keep B
                    replace Om := Om.keep B
                    replace BB := joinB BB B
                    clear B
                    refine wl_take (some 39) (.bool false) rfl rfl (by kernel_rfl) ?_
                    refine wl_nil ?_
                    refine wp_then ?_
                    refine wp_frame (a' := ⟨#[(.int .u64 T), (.agg #[.slice a0 n0 c0]), (.int .u64 t), undef, (.pointer (some ⟨g1v, 0, none⟩)), undef, (.pointer (some ⟨g2v, 0, none⟩)), (.int .i64 0), (.func (.func 39) #[] #[.pointer (some ⟨gc, 0, none⟩)]), (.pointer (some ⟨g13v, 0, none⟩)), (.bool false), (.int .u64 t), (.bool false), undef, (.bool false), (.agg #[.slice a0 n0 c0]), (.bool false), undef, undef, (.bool false), (.int .u64 T), (.bool false), undef, (.func (.func 39) #[] #[.pointer (some ⟨gc, 0, none⟩)]), (.func (.func 39) #[] #[.pointer (some ⟨gc, 0, none⟩)]), (.agg #[.slice a0 n0 c0]), (.int .u64 t), (.agg #[.slice At Nt Ct]), (.int .u64 T), (.agg #[.slice Au Nu Cu]), (.agg #[.slice Ar Nr Cr]), (.agg #[.slice Ar Nr Cr]), (.bool false), undef, (.agg #[.slice a0 n0 c0]), (.agg #[.slice Ar Nr Cr]), (.agg #[.slice As Ns Cs]), (.agg #[.slice Am Nm Cm]), (.int .i64 (-1)), (.bool false), undef, undef], []⟩) (by kernel_rfl) ?_
                    refine wp_cond_false (by kernel_rfl) ?_
                    refine wp_skip_then ?_
                    refine wp_seq ?_
                    refine wl_start ?_
                    refine wl_take (some 41) (.agg #[.slice Ar Nr Cr]) rfl rfl (run_lp 9 (by kernel_rfl) (by kernel_rfl) (ldx26 (X9.cell (i := 0) rfl))) ?_
                    refine wl_set' 6 41 29 (i := 0) (.slice none 0 0) (.slice Ar Nr Cr) X6 rfl rfl rfl rfl (by kernel_rfl) (by kernel_rfl) storex26 ?_
                    intro v25w hv25w
                    replace BB := BB.setCell (p := ⟨g2v, 0, none⟩) (show w.heap.size ≤ g2v by omega) (.slice Ar Nr Cr)
                    replace h0 := h0.put (show Slot _ _ _ _ from ⟨X6.blk⟩) not_int (.slice Ar Nr Cr)
                    replace X4 := X4.off (g' := g2v) (by omega) (i := 0) (.slice Ar Nr Cr)
                    replace Or := Or.put (show Slot _ _ _ _ from ⟨X6.blk⟩) not_int (.slice Ar Nr Cr)
                    replace X9 := X9.off (g' := g2v) (by omega) (i := 0) (.slice Ar Nr Cr)
                    replace Os := Os.put (show Slot _ _ _ _ from ⟨X6.blk⟩) not_int (.slice Ar Nr Cr)
                    replace Om := Om.put (show Slot _ _ _ _ from ⟨X6.blk⟩) not_int (.slice Ar Nr Cr)
                    replace X6 := X6.setCell (i := 0) (.slice Ar Nr Cr)
                    rw [hv25w] at BB h0 X4 X6 Or X9 Os Om
                    clear hv25w
                    refine wl_take (some 7) (.int .i64 0) rfl rfl (by kernel_rfl) ?_
                    refine wl_nil ?_
                    refine wp_then ?_
                    refine wp_frame (a' := ⟨#[(.int .u64 T), (.agg #[.slice a0 n0 c0]), (.int .u64 t), undef, (.pointer (some ⟨g1v, 0, none⟩)), undef, (.pointer (some ⟨g2v, 0, none⟩)), (.int .i64 0), (.func (.func 39) #[] #[.pointer (some ⟨gc, 0, none⟩)]), (.pointer (some ⟨g13v, 0, none⟩)), (.bool false), (.int .u64 t), (.bool false), undef, (.bool false), (.agg #[.slice a0 n0 c0]), (.bool false), undef, undef, (.bool false), (.int .u64 T), (.bool false), undef, (.func (.func 39) #[] #[.pointer (some ⟨gc, 0, none⟩)]), (.func (.func 39) #[] #[.pointer (some ⟨gc, 0, none⟩)]), (.agg #[.slice a0 n0 c0]), (.int .u64 t), (.agg #[.slice At Nt Ct]), (.int .u64 T), (.agg #[.slice Au Nu Cu]), (.agg #[.slice Ar Nr Cr]), (.agg #[.slice Ar Nr Cr]), (.bool false), undef, (.agg #[.slice a0 n0 c0]), (.agg #[.slice Ar Nr Cr]), (.agg #[.slice As Ns Cs]), (.agg #[.slice Am Nm Cm]), (.int .i64 (-1)), (.bool false), undef, (.agg #[.slice Ar Nr Cr])], []⟩) (by kernel_rfl) ?_
                    refine wp_ret ?_
                    repeat (first | refine ret_then ?_ | refine ret_block ?_)
                    refine bodyPost_ret (ret_dec_tmp rfl rfl rfl (show Slot _ _ _ _ from ⟨X6.blk⟩)) rfl ?_
                    exact ⟨Ar, Nr, Cr, by rw [isE, if_neg ht0, if_neg hs0, if_neg hz, if_neg hq, if_neg hb]; kernel_rfl, by rw [isV, if_neg ht0, if_neg hs0, if_neg hz, if_neg hb]; exact Or, by omega, BB⟩
            have lX4 := X4.lt
            have lX6 := X6.lt
            have bs26 := BB.size
            have hs26 := hS.size
            refine ar_new 7 9 29 [.slice none 0 0] (by kernel_rfl) (by kernel_rfl) allocx26 ?_ ?_
            · intro v26w g26v X9 hg26v B
              refine ⟨joinB hS B, ?_⟩
              replace hS := joinB hS B
              replace h0 := h0.keep B
              replace X4 := X4.keep B
              replace X6 := X6.keep B
              replace XC := XC.keep B
              replace Ot := Ot.keep B
              replace Ou := Ou.keep B
              replace BB := joinB BB B
              clear B
              refine rg_call 6 (some 30) 39 #[.agg #[.slice a0 n0 c0], .agg #[.slice At Nt Ct], .agg #[.slice Au Nu Cu], .pointer (some ⟨gc, 0, none⟩)] (by kernel_rfl) (by kernel_rfl) (clos_any XC h0 (by omega) Ot.a (by omega) Ou.a (by omega) (mulU_ne hz)) ?_
              rintro e1 v27w ⟨Ar, Nr, Cr, rfl, Or, Kr, B⟩
              refine ⟨_, rfl, joinB hS B, ?_⟩
              replace hS := joinB hS B
              replace h0 := h0.keep B
              replace X4 := X4.keep B
              replace X6 := X6.keep B
              replace XC := XC.keep B
              replace Ot := Ot.keep B
              replace Ou := Ou.keep B
              replace X9 := X9.keep B
              replace BB := joinB BB B
              clear B
              replace Or := Or.eqv (is_q x0 t T)
              clear XC
              clear Ot
              clear Ou
              refine rg_set 8 9 30 29 (i := 0) (.slice none 0 0) (.slice Ar Nr Cr) X9 rfl (by kernel_rfl) (by kernel_rfl) (by kernel_rfl) (by kernel_rfl) (by kernel_rfl) storex26 (hS.setCell (p := ⟨g26v, 0, none⟩) (by have := hS.size; show _ ≤ g26v; omega) (.slice Ar Nr Cr)) ?_
              intro v28w hv28w
              replace BB := BB.setCell (p := ⟨g26v, 0, none⟩) (show w.heap.size ≤ g26v by omega) (.slice Ar Nr Cr)
              replace hS := hS.setCell (p := ⟨g26v, 0, none⟩) (by have := hS.size; show _ ≤ g26v; omega) (.slice Ar Nr Cr)
              replace h0 := h0.put (show Slot _ _ _ _ from ⟨X9.blk⟩) not_int (.slice Ar Nr Cr)
              replace X4 := X4.off (g' := g26v) (by omega) (i := 0) (.slice Ar Nr Cr)
              replace X6 := X6.off (g' := g26v) (by omega) (i := 0) (.slice Ar Nr Cr)
              replace Or := Or.put (show Slot _ _ _ _ from ⟨X9.blk⟩) not_int (.slice Ar Nr Cr)
              replace X9 := X9.setCell (i := 0) (.slice Ar Nr Cr)
              rw [hv28w] at BB h0 X4 X6 X9 Or hS
              clear hv28w
              refine rg_done (by kernel_rfl) ?_
              clear hS UX4 UX6
              refine wp_then ?_
              refine wp_frame (a' := ⟨#[(.int .u64 T), (.agg #[.slice a0 n0 c0]), (.int .u64 t), undef, (.pointer (some ⟨g1v, 0, none⟩)), undef, (.pointer (some ⟨g2v, 0, none⟩)), (.int .i64 0), (.func (.func 39) #[] #[.pointer (some ⟨gc, 0, none⟩)]), (.pointer (some ⟨g26v, 0, none⟩)), (.bool false), (.int .u64 t), (.bool false), undef, (.bool false), (.agg #[.slice a0 n0 c0]), (.bool false), undef, undef, (.bool false), (.int .u64 T), (.bool false), undef, (.func (.func 39) #[] #[.pointer (some ⟨gc, 0, none⟩)]), (.func (.func 39) #[] #[.pointer (some ⟨gc, 0, none⟩)]), (.agg #[.slice a0 n0 c0]), (.int .u64 t), (.agg #[.slice At Nt Ct]), (.int .u64 T), (.agg #[.slice Au Nu Cu]), (.agg #[.slice Ar Nr Cr]), undef, undef, undef, undef, undef, undef, undef, undef, undef, undef, undef], []⟩) (by kernel_rfl) ?_
              refine wp_seq ?_
              refine wp_seq ?_
              refine wl_start ?_
              refine wl_take (some 31) (.agg #[.slice Ar Nr Cr]) rfl rfl (run_lp 9 (by kernel_rfl) (by kernel_rfl) (ldx26 (X9.cell (i := 0) rfl))) ?_
              by_cases hq : x0 * t / T = 0
              · have hqt := hq
                refine wl_call (some 32) 20 #[.agg #[.slice Ar Nr Cr]] rfl rfl (by kernel_rfl) (zeroD Or.a (by omega) true (decide_eq_true hq)) ?_
                rintro e1 v29w ⟨rfl, B⟩
                refine ⟨_, rfl, ?_⟩
                replace h0 := h0.keep B
                replace X4 := X4.keep B
                replace X6 := X6.keep B
                replace X9 := X9.keep B
                replace Or := Or.keep B
                replace BB := joinB BB B
                clear B
                refine wl_nil ?_
                refine wp_then ?_
                refine wp_frame (a' := ⟨#[(.int .u64 T), (.agg #[.slice a0 n0 c0]), (.int .u64 t), undef, (.pointer (some ⟨g1v, 0, none⟩)), undef, (.pointer (some ⟨g2v, 0, none⟩)), (.int .i64 0), (.func (.func 39) #[] #[.pointer (some ⟨gc, 0, none⟩)]), (.pointer (some ⟨g26v, 0, none⟩)), (.bool false), (.int .u64 t), (.bool false), undef, (.bool false), (.agg #[.slice a0 n0 c0]), (.bool false), undef, undef, (.bool false), (.int .u64 T), (.bool false), undef, (.func (.func 39) #[] #[.pointer (some ⟨gc, 0, none⟩)]), (.func (.func 39) #[] #[.pointer (some ⟨gc, 0, none⟩)]), (.agg #[.slice a0 n0 c0]), (.int .u64 t), (.agg #[.slice At Nt Ct]), (.int .u64 T), (.agg #[.slice Au Nu Cu]), (.agg #[.slice Ar Nr Cr]), (.agg #[.slice Ar Nr Cr]), (.bool true), undef, undef, undef, undef, undef, undef, undef, undef, undef], []⟩) (by kernel_rfl) ?_
                refine wp_cond_true (by kernel_rfl) ?_
                refine wp_seq ?_
                refine wl_start ?_
                refine wl_take (some 33) (.agg #[.slice none 0 0]) rfl rfl (by kernel_rfl) ?_
                refine wl_set' 6 33 29 (i := 0) (.slice none 0 0) (.slice none 0 0) X6 rfl rfl rfl rfl (by kernel_rfl) (by kernel_rfl) storex26 ?_
                intro v30w hv30w
                replace BB := BB.setCell (p := ⟨g2v, 0, none⟩) (show w.heap.size ≤ g2v by omega) (.slice none 0 0)
                replace h0 := h0.put (show Slot _ _ _ _ from ⟨X6.blk⟩) not_int (.slice none 0 0)
                replace X4 := X4.off (g' := g2v) (by omega) (i := 0) (.slice none 0 0)
                replace X9 := X9.off (g' := g2v) (by omega) (i := 0) (.slice none 0 0)
                replace Or := Or.put (show Slot _ _ _ _ from ⟨X6.blk⟩) not_int (.slice none 0 0)
                replace X6 := X6.setCell (i := 0) (.slice none 0 0)
                rw [hv30w] at BB h0 X4 X6 X9 Or
                clear hv30w
                refine wl_take (some 7) (.int .i64 101) rfl rfl (by kernel_rfl) ?_
                refine wl_nil ?_
                refine wp_then ?_
                refine wp_frame (a' := ⟨#[(.int .u64 T), (.agg #[.slice a0 n0 c0]), (.int .u64 t), undef, (.pointer (some ⟨g1v, 0, none⟩)), undef, (.pointer (some ⟨g2v, 0, none⟩)), (.int .i64 101), (.func (.func 39) #[] #[.pointer (some ⟨gc, 0, none⟩)]), (.pointer (some ⟨g26v, 0, none⟩)), (.bool false), (.int .u64 t), (.bool false), undef, (.bool false), (.agg #[.slice a0 n0 c0]), (.bool false), undef, undef, (.bool false), (.int .u64 T), (.bool false), undef, (.func (.func 39) #[] #[.pointer (some ⟨gc, 0, none⟩)]), (.func (.func 39) #[] #[.pointer (some ⟨gc, 0, none⟩)]), (.agg #[.slice a0 n0 c0]), (.int .u64 t), (.agg #[.slice At Nt Ct]), (.int .u64 T), (.agg #[.slice Au Nu Cu]), (.agg #[.slice Ar Nr Cr]), (.agg #[.slice Ar Nr Cr]), (.bool true), (.agg #[.slice none 0 0]), undef, undef, undef, undef, undef, undef, undef, undef], []⟩) (by kernel_rfl) ?_
                refine wp_ret ?_
                repeat (first | refine ret_then ?_ | refine ret_block ?_)
                refine bodyPost_ret (ret_dec_tmp rfl rfl rfl (show Slot _ _ _ _ from ⟨X6.blk⟩)) rfl ?_
                exact ⟨none, 0, 0, by rw [isE, if_neg ht0, if_neg hs0, if_neg hz, if_pos hq]; kernel_rfl, by rw [isV_q ht0 hs0 hz hq]; exact natO_nil _, by omega, BB⟩
              · have hqt := hq
                refine wl_call (some 32) 20 #[.agg #[.slice Ar Nr Cr]] rfl rfl (by kernel_rfl) (zeroD Or.a (by omega) false (decide_eq_false hq)) ?_
                rintro e1 v31w ⟨rfl, B⟩
                refine ⟨_, rfl, ?_⟩
                replace h0 := h0.keep B
                replace X4 := X4.keep B
                replace X6 := X6.keep B
                replace X9 := X9.keep B
                replace Or := Or.keep B
                replace BB := joinB BB B
                clear B
                refine wl_nil ?_
                refine wp_then ?_
                refine wp_frame (a' := ⟨#[(.int .u64 T), (.agg #[.slice a0 n0 c0]), (.int .u64 t), undef, (.pointer (some ⟨g1v, 0, none⟩)), undef, (.pointer (some ⟨g2v, 0, none⟩)), (.int .i64 0), (.func (.func 39) #[] #[.pointer (some ⟨gc, 0, none⟩)]), (.pointer (some ⟨g26v, 0, none⟩)), (.bool false), (.int .u64 t), (.bool false), undef, (.bool false), (.agg #[.slice a0 n0 c0]), (.bool false), undef, undef, (.bool false), (.int .u64 T), (.bool false), undef, (.func (.func 39) #[] #[.pointer (some ⟨gc, 0, none⟩)]), (.func (.func 39) #[] #[.pointer (some ⟨gc, 0, none⟩)]), (.agg #[.slice a0 n0 c0]), (.int .u64 t), (.agg #[.slice At Nt Ct]), (.int .u64 T), (.agg #[.slice Au Nu Cu]), (.agg #[.slice Ar Nr Cr]), (.agg #[.slice Ar Nr Cr]), (.bool false), undef, undef, undef, undef, undef, undef, undef, undef, undef], []⟩) (by kernel_rfl) ?_
                refine wp_cond_false (by kernel_rfl) ?_
                refine wp_skip_then ?_
                refine wp_seq ?_
                refine wp_seq ?_
                refine wl_start ?_
                refine wl_take (some 34) (.agg #[.slice a0 n0 c0]) rfl rfl (run_lp 4 (by kernel_rfl) (by kernel_rfl) (ldx26 (X4.cell (i := 0) rfl))) ?_
                refine wl_take (some 35) (.agg #[.slice Ar Nr Cr]) rfl rfl (run_lp 9 (by kernel_rfl) (by kernel_rfl) (ldx26 (X9.cell (i := 0) rfl))) ?_
                refine wl_call (some 36) 6 #[.agg #[.slice a0 n0 c0], .agg #[.slice Ar Nr Cr]] rfl rfl (by kernel_rfl) (dAdd h0 Or.a (by omega) (by omega)) ?_
                rintro e1 v32w ⟨As, Ns, Cs, rfl, Os, Ks, B⟩
                refine ⟨_, rfl, ?_⟩
                replace h0 := h0.keep B
                replace X4 := X4.keep B
                replace X6 := X6.keep B
                replace X9 := X9.keep B
                replace Or := Or.keep B
                replace BB := joinB BB B
                clear B
                refine wl_call (some 37) 28 #[] rfl rfl (by kernel_rfl) (most_any) ?_
                rintro e1 v33w ⟨Am, Nm, Cm, rfl, Om, Km, B⟩
                refine ⟨_, rfl, ?_⟩
                replace h0 := h0.keep B
                replace X4 := X4.keep B
                replace X6 := X6.keep B
                replace X9 := X9.keep B
                replace Or := Or.keep B
                replace Os := Os.keep B
                replace BB := joinB BB B
                clear B
                by_cases hb : 10 ^ 90 < x0 + x0 * t / T
                · have hbt := hb
                  refine wl_call (some 38) 10 #[.agg #[.slice As Ns Cs], .agg #[.slice Am Nm Cm]] rfl rfl (by kernel_rfl) (cmpD Os.a Om.a (by omega) (by omega) 1 (sgn_gt hb)) ?_
                  rintro e1 v34w ⟨rfl, B⟩
                  refine ⟨_, rfl, ?_⟩
                  replace h0 := h0.keep B
                  replace X4 := X4.keep B
                  replace X6 := X6.keep B
                  replace X9 := X9.keep B
                  replace Or := Or.keep B
                  replace Os := Os.keep B
                  replace Om := Om.keep B
                  replace BB := joinB BB B
                  clear B
                  refine wl_take (some 39) (.bool true) rfl rfl (by kernel_rfl) ?_
                  refine wl_nil ?_
                  refine wp_then ?_
                  refine wp_frame (a' := ⟨#[(.int .u64 T), (.agg #[.slice a0 n0 c0]), (.int .u64 t), undef, (.pointer (some ⟨g1v, 0, none⟩)), undef, (.pointer (some ⟨g2v, 0, none⟩)), (.int .i64 0), (.func (.func 39) #[] #[.pointer (some ⟨gc, 0, none⟩)]), (.pointer (some ⟨g26v, 0, none⟩)), (.bool false), (.int .u64 t), (.bool false), undef, (.bool false), (.agg #[.slice a0 n0 c0]), (.bool false), undef, undef, (.bool false), (.int .u64 T), (.bool false), undef, (.func (.func 39) #[] #[.pointer (some ⟨gc, 0, none⟩)]), (.func (.func 39) #[] #[.pointer (some ⟨gc, 0, none⟩)]), (.agg #[.slice a0 n0 c0]), (.int .u64 t), (.agg #[.slice At Nt Ct]), (.int .u64 T), (.agg #[.slice Au Nu Cu]), (.agg #[.slice Ar Nr Cr]), (.agg #[.slice Ar Nr Cr]), (.bool false), undef, (.agg #[.slice a0 n0 c0]), (.agg #[.slice Ar Nr Cr]), (.agg #[.slice As Ns Cs]), (.agg #[.slice Am Nm Cm]), (.int .i64 1), (.bool true), undef, undef], []⟩) (by kernel_rfl) ?_
                  refine wp_cond_true (by kernel_rfl) ?_
                  refine wp_seq ?_
                  refine wl_start ?_
                  refine wl_take (some 40) (.agg #[.slice none 0 0]) rfl rfl (by kernel_rfl) ?_
                  refine wl_set' 6 40 29 (i := 0) (.slice none 0 0) (.slice none 0 0) X6 rfl rfl rfl rfl (by kernel_rfl) (by kernel_rfl) storex26 ?_
                  intro v35w hv35w
                  replace BB := BB.setCell (p := ⟨g2v, 0, none⟩) (show w.heap.size ≤ g2v by omega) (.slice none 0 0)
                  replace h0 := h0.put (show Slot _ _ _ _ from ⟨X6.blk⟩) not_int (.slice none 0 0)
                  replace X4 := X4.off (g' := g2v) (by omega) (i := 0) (.slice none 0 0)
                  replace X9 := X9.off (g' := g2v) (by omega) (i := 0) (.slice none 0 0)
                  replace Or := Or.put (show Slot _ _ _ _ from ⟨X6.blk⟩) not_int (.slice none 0 0)
                  replace Os := Os.put (show Slot _ _ _ _ from ⟨X6.blk⟩) not_int (.slice none 0 0)
                  replace Om := Om.put (show Slot _ _ _ _ from ⟨X6.blk⟩) not_int (.slice none 0 0)
                  replace X6 := X6.setCell (i := 0) (.slice none 0 0)
                  rw [hv35w] at BB h0 X4 X6 X9 Or Os Om
                  clear hv35w
                  refine wl_take (some 7) (.int .i64 103) rfl rfl (by kernel_rfl) ?_
                  refine wl_nil ?_
                  refine wp_then ?_
                  refine wp_frame (a' := ⟨#[(.int .u64 T), (.agg #[.slice a0 n0 c0]), (.int .u64 t), undef, (.pointer (some ⟨g1v, 0, none⟩)), undef, (.pointer (some ⟨g2v, 0, none⟩)), (.int .i64 103), (.func (.func 39) #[] #[.pointer (some ⟨gc, 0, none⟩)]), (.pointer (some ⟨g26v, 0, none⟩)), (.bool false), (.int .u64 t), (.bool false), undef, (.bool false), (.agg #[.slice a0 n0 c0]), (.bool false), undef, undef, (.bool false), (.int .u64 T), (.bool false), undef, (.func (.func 39) #[] #[.pointer (some ⟨gc, 0, none⟩)]), (.func (.func 39) #[] #[.pointer (some ⟨gc, 0, none⟩)]), (.agg #[.slice a0 n0 c0]), (.int .u64 t), (.agg #[.slice At Nt Ct]), (.int .u64 T), (.agg #[.slice Au Nu Cu]), (.agg #[.slice Ar Nr Cr]), (.agg #[.slice Ar Nr Cr]), (.bool false), undef, (.agg #[.slice a0 n0 c0]), (.agg #[.slice Ar Nr Cr]), (.agg #[.slice As Ns Cs]), (.agg #[.slice Am Nm Cm]), (.int .i64 1), (.bool true), (.agg #[.slice none 0 0]), undef], []⟩) (by kernel_rfl) ?_
                  refine wp_ret ?_
                  repeat (first | refine ret_then ?_ | refine ret_block ?_)
                  refine bodyPost_ret (ret_dec_tmp rfl rfl rfl (show Slot _ _ _ _ from ⟨X6.blk⟩)) rfl ?_
                  exact ⟨none, 0, 0, by rw [isE, if_neg ht0, if_neg hs0, if_neg hz, if_neg hq, if_pos hb]; kernel_rfl, by rw [isV, if_neg ht0, if_neg hs0, if_neg hz, if_pos hb]; exact natO_nil _, by omega, BB⟩
                · have hbt := hb
                  by_cases he : x0 + x0 * t / T = 10 ^ 90
                  · have het := he
                    refine wl_call (some 38) 10 #[.agg #[.slice As Ns Cs], .agg #[.slice Am Nm Cm]] rfl rfl (by kernel_rfl) (cmpD Os.a Om.a (by omega) (by omega) 0 (sgn_eq he)) ?_
                    rintro e1 v36w ⟨rfl, B⟩
                    refine ⟨_, rfl, ?_⟩
                    replace h0 := h0.keep B
                    replace X4 := X4.keep B
                    replace X6 := X6.keep B
                    replace X9 := X9.keep B
                    replace Or := Or.keep B
                    replace Os := Os.keep B
                    replace Om := Om.keep B
                    replace BB := joinB BB B
                    clear B
                    refine wl_take (some 39) (.bool false) rfl rfl (by kernel_rfl) ?_
                    refine wl_nil ?_
                    refine wp_then ?_
                    refine wp_frame (a' := ⟨#[(.int .u64 T), (.agg #[.slice a0 n0 c0]), (.int .u64 t), undef, (.pointer (some ⟨g1v, 0, none⟩)), undef, (.pointer (some ⟨g2v, 0, none⟩)), (.int .i64 0), (.func (.func 39) #[] #[.pointer (some ⟨gc, 0, none⟩)]), (.pointer (some ⟨g26v, 0, none⟩)), (.bool false), (.int .u64 t), (.bool false), undef, (.bool false), (.agg #[.slice a0 n0 c0]), (.bool false), undef, undef, (.bool false), (.int .u64 T), (.bool false), undef, (.func (.func 39) #[] #[.pointer (some ⟨gc, 0, none⟩)]), (.func (.func 39) #[] #[.pointer (some ⟨gc, 0, none⟩)]), (.agg #[.slice a0 n0 c0]), (.int .u64 t), (.agg #[.slice At Nt Ct]), (.int .u64 T), (.agg #[.slice Au Nu Cu]), (.agg #[.slice Ar Nr Cr]), (.agg #[.slice Ar Nr Cr]), (.bool false), undef, (.agg #[.slice a0 n0 c0]), (.agg #[.slice Ar Nr Cr]), (.agg #[.slice As Ns Cs]), (.agg #[.slice Am Nm Cm]), (.int .i64 0), (.bool false), undef, undef], []⟩) (by kernel_rfl) ?_
                    refine wp_cond_false (by kernel_rfl) ?_
                    refine wp_skip_then ?_
                    refine wp_seq ?_
                    refine wl_start ?_
                    refine wl_take (some 41) (.agg #[.slice Ar Nr Cr]) rfl rfl (run_lp 9 (by kernel_rfl) (by kernel_rfl) (ldx26 (X9.cell (i := 0) rfl))) ?_
                    refine wl_set' 6 41 29 (i := 0) (.slice none 0 0) (.slice Ar Nr Cr) X6 rfl rfl rfl rfl (by kernel_rfl) (by kernel_rfl) storex26 ?_
                    intro v37w hv37w
                    replace BB := BB.setCell (p := ⟨g2v, 0, none⟩) (show w.heap.size ≤ g2v by omega) (.slice Ar Nr Cr)
                    replace h0 := h0.put (show Slot _ _ _ _ from ⟨X6.blk⟩) not_int (.slice Ar Nr Cr)
                    replace X4 := X4.off (g' := g2v) (by omega) (i := 0) (.slice Ar Nr Cr)
                    replace X9 := X9.off (g' := g2v) (by omega) (i := 0) (.slice Ar Nr Cr)
                    replace Or := Or.put (show Slot _ _ _ _ from ⟨X6.blk⟩) not_int (.slice Ar Nr Cr)
                    replace Os := Os.put (show Slot _ _ _ _ from ⟨X6.blk⟩) not_int (.slice Ar Nr Cr)
                    replace Om := Om.put (show Slot _ _ _ _ from ⟨X6.blk⟩) not_int (.slice Ar Nr Cr)
                    replace X6 := X6.setCell (i := 0) (.slice Ar Nr Cr)
                    rw [hv37w] at BB h0 X4 X6 X9 Or Os Om
                    clear hv37w
                    refine wl_take (some 7) (.int .i64 0) rfl rfl (by kernel_rfl) ?_
                    refine wl_nil ?_
                    refine wp_then ?_
                    refine wp_frame (a' := ⟨#[(.int .u64 T), (.agg #[.slice a0 n0 c0]), (.int .u64 t), undef, (.pointer (some ⟨g1v, 0, none⟩)), undef, (.pointer (some ⟨g2v, 0, none⟩)), (.int .i64 0), (.func (.func 39) #[] #[.pointer (some ⟨gc, 0, none⟩)]), (.pointer (some ⟨g26v, 0, none⟩)), (.bool false), (.int .u64 t), (.bool false), undef, (.bool false), (.agg #[.slice a0 n0 c0]), (.bool false), undef, undef, (.bool false), (.int .u64 T), (.bool false), undef, (.func (.func 39) #[] #[.pointer (some ⟨gc, 0, none⟩)]), (.func (.func 39) #[] #[.pointer (some ⟨gc, 0, none⟩)]), (.agg #[.slice a0 n0 c0]), (.int .u64 t), (.agg #[.slice At Nt Ct]), (.int .u64 T), (.agg #[.slice Au Nu Cu]), (.agg #[.slice Ar Nr Cr]), (.agg #[.slice Ar Nr Cr]), (.bool false), undef, (.agg #[.slice a0 n0 c0]), (.agg #[.slice Ar Nr Cr]), (.agg #[.slice As Ns Cs]), (.agg #[.slice Am Nm Cm]), (.int .i64 0), (.bool false), undef, (.agg #[.slice Ar Nr Cr])], []⟩) (by kernel_rfl) ?_
                    refine wp_ret ?_
                    repeat (first | refine ret_then ?_ | refine ret_block ?_)
                    refine bodyPost_ret (ret_dec_tmp rfl rfl rfl (show Slot _ _ _ _ from ⟨X6.blk⟩)) rfl ?_
                    exact ⟨Ar, Nr, Cr, by rw [isE, if_neg ht0, if_neg hs0, if_neg hz, if_neg hq, if_neg hb]; kernel_rfl, by rw [isV, if_neg ht0, if_neg hs0, if_neg hz, if_neg hb]; exact Or, by omega, BB⟩
                  · have het := he
                    refine wl_call (some 38) 10 #[.agg #[.slice As Ns Cs], .agg #[.slice Am Nm Cm]] rfl rfl (by kernel_rfl) (cmpD Os.a Om.a (by omega) (by omega) (-1) (sgn_lt (lt_of hb he))) ?_
                    rintro e1 v38w ⟨rfl, B⟩
                    refine ⟨_, rfl, ?_⟩
                    replace h0 := h0.keep B
                    replace X4 := X4.keep B
                    replace X6 := X6.keep B
                    replace X9 := X9.keep B
                    replace Or := Or.keep B
                    replace Os := Os.keep B
                    replace Om := Om.keep B
                    replace BB := joinB BB B
                    clear B
                    refine wl_take (some 39) (.bool false) rfl rfl (by kernel_rfl) ?_
                    refine wl_nil ?_
                    refine wp_then ?_
                    refine wp_frame (a' := ⟨#[(.int .u64 T), (.agg #[.slice a0 n0 c0]), (.int .u64 t), undef, (.pointer (some ⟨g1v, 0, none⟩)), undef, (.pointer (some ⟨g2v, 0, none⟩)), (.int .i64 0), (.func (.func 39) #[] #[.pointer (some ⟨gc, 0, none⟩)]), (.pointer (some ⟨g26v, 0, none⟩)), (.bool false), (.int .u64 t), (.bool false), undef, (.bool false), (.agg #[.slice a0 n0 c0]), (.bool false), undef, undef, (.bool false), (.int .u64 T), (.bool false), undef, (.func (.func 39) #[] #[.pointer (some ⟨gc, 0, none⟩)]), (.func (.func 39) #[] #[.pointer (some ⟨gc, 0, none⟩)]), (.agg #[.slice a0 n0 c0]), (.int .u64 t), (.agg #[.slice At Nt Ct]), (.int .u64 T), (.agg #[.slice Au Nu Cu]), (.agg #[.slice Ar Nr Cr]), (.agg #[.slice Ar Nr Cr]), (.bool false), undef, (.agg #[.slice a0 n0 c0]), (.agg #[.slice Ar Nr Cr]), (.agg #[.slice As Ns Cs]), (.agg #[.slice Am Nm Cm]), (.int .i64 (-1)), (.bool false), undef, undef], []⟩) (by kernel_rfl) ?_
                    refine wp_cond_false (by kernel_rfl) ?_
                    refine wp_skip_then ?_
                    refine wp_seq ?_
                    refine wl_start ?_
                    refine wl_take (some 41) (.agg #[.slice Ar Nr Cr]) rfl rfl (run_lp 9 (by kernel_rfl) (by kernel_rfl) (ldx26 (X9.cell (i := 0) rfl))) ?_
                    refine wl_set' 6 41 29 (i := 0) (.slice none 0 0) (.slice Ar Nr Cr) X6 rfl rfl rfl rfl (by kernel_rfl) (by kernel_rfl) storex26 ?_
                    intro v39w hv39w
                    replace BB := BB.setCell (p := ⟨g2v, 0, none⟩) (show w.heap.size ≤ g2v by omega) (.slice Ar Nr Cr)
                    replace h0 := h0.put (show Slot _ _ _ _ from ⟨X6.blk⟩) not_int (.slice Ar Nr Cr)
                    replace X4 := X4.off (g' := g2v) (by omega) (i := 0) (.slice Ar Nr Cr)
                    replace X9 := X9.off (g' := g2v) (by omega) (i := 0) (.slice Ar Nr Cr)
                    replace Or := Or.put (show Slot _ _ _ _ from ⟨X6.blk⟩) not_int (.slice Ar Nr Cr)
                    replace Os := Os.put (show Slot _ _ _ _ from ⟨X6.blk⟩) not_int (.slice Ar Nr Cr)
                    replace Om := Om.put (show Slot _ _ _ _ from ⟨X6.blk⟩) not_int (.slice Ar Nr Cr)
                    replace X6 := X6.setCell (i := 0) (.slice Ar Nr Cr)
                    rw [hv39w] at BB h0 X4 X6 X9 Or Os Om
                    clear hv39w
                    refine wl_take (some 7) (.int .i64 0) rfl rfl (by kernel_rfl) ?_
                    refine wl_nil ?_
                    refine wp_then ?_
                    refine wp_frame (a' := ⟨#[(.int .u64 T), (.agg #[.slice a0 n0 c0]), (.int .u64 t), undef, (.pointer (some ⟨g1v, 0, none⟩)), undef, (.pointer (some ⟨g2v, 0, none⟩)), (.int .i64 0), (.func (.func 39) #[] #[.pointer (some ⟨gc, 0, none⟩)]), (.pointer (some ⟨g26v, 0, none⟩)), (.bool false), (.int .u64 t), (.bool false), undef, (.bool false), (.agg #[.slice a0 n0 c0]), (.bool false), undef, undef, (.bool false), (.int .u64 T), (.bool false), undef, (.func (.func 39) #[] #[.pointer (some ⟨gc, 0, none⟩)]), (.func (.func 39) #[] #[.pointer (some ⟨gc, 0, none⟩)]), (.agg #[.slice a0 n0 c0]), (.int .u64 t), (.agg #[.slice At Nt Ct]), (.int .u64 T), (.agg #[.slice Au Nu Cu]), (.agg #[.slice Ar Nr Cr]), (.agg #[.slice Ar Nr Cr]), (.bool false), undef, (.agg #[.slice a0 n0 c0]), (.agg #[.slice Ar Nr Cr]), (.agg #[.slice As Ns Cs]), (.agg #[.slice Am Nm Cm]), (.int .i64 (-1)), (.bool false), undef, (.agg #[.slice Ar Nr Cr])], []⟩) (by kernel_rfl) ?_
                    refine wp_ret ?_
                    repeat (first | refine ret_then ?_ | refine ret_block ?_)
                    refine bodyPost_ret (ret_dec_tmp rfl rfl rfl (show Slot _ _ _ _ from ⟨X6.blk⟩)) rfl ?_
                    exact ⟨Ar, Nr, Cr, by rw [isE, if_neg ht0, if_neg hs0, if_neg hz, if_neg hq, if_neg hb]; kernel_rfl, by rw [isV, if_neg ht0, if_neg hs0, if_neg hz, if_neg hb]; exact Or, by omega, BB⟩
            exact ar_nil
          have lX4 := X4.lt
          have lX6 := X6.lt
          have bs40 := BB.size
          have hs40 := hS.size
          refine ar_new 7 9 29 [.slice none 0 0] (by kernel_rfl) (by kernel_rfl) allocx26 ?_ ?_
          · intro v40w g40v X9 hg40v B
            refine ⟨joinB hS B, ?_⟩
            replace hS := joinB hS B
            replace h0 := h0.keep B
            replace X4 := X4.keep B
            replace X6 := X6.keep B
            replace XC := XC.keep B
            replace Ot := Ot.keep B
            replace BB := joinB BB B
            clear B
            refine rg_call 5 (some 29) 13 #[.int .u64 T] (by kernel_rfl) (by kernel_rfl) (dOf hT.1 hT.2) ?_
            rintro e1 v41w ⟨Au, Nu, Cu, rfl, Ou, Ku, B⟩
            refine ⟨_, rfl, joinB hS B, ?_⟩
            replace hS := joinB hS B
            replace h0 := h0.keep B
            replace X4 := X4.keep B
            replace X6 := X6.keep B
            replace XC := XC.keep B
            replace Ot := Ot.keep B
            replace X9 := X9.keep B
            replace BB := joinB BB B
            clear B
            refine rg_call 6 (some 30) 39 #[.agg #[.slice a0 n0 c0], .agg #[.slice At Nt Ct], .agg #[.slice Au Nu Cu], .pointer (some ⟨gc, 0, none⟩)] (by kernel_rfl) (by kernel_rfl) (clos_any XC h0 (by omega) Ot.a (by omega) Ou.a (by omega) (mulU_ne hz)) ?_
            rintro e1 v42w ⟨Ar, Nr, Cr, rfl, Or, Kr, B⟩
            refine ⟨_, rfl, joinB hS B, ?_⟩
            replace hS := joinB hS B
            replace h0 := h0.keep B
            replace X4 := X4.keep B
            replace X6 := X6.keep B
            replace XC := XC.keep B
            replace Ot := Ot.keep B
            replace X9 := X9.keep B
            replace Ou := Ou.keep B
            replace BB := joinB BB B
            clear B
            replace Or := Or.eqv (is_q x0 t T)
            clear XC
            clear Ot
            clear Ou
            refine rg_set 8 9 30 29 (i := 0) (.slice none 0 0) (.slice Ar Nr Cr) X9 rfl (by kernel_rfl) (by kernel_rfl) (by kernel_rfl) (by kernel_rfl) (by kernel_rfl) storex26 (hS.setCell (p := ⟨g40v, 0, none⟩) (by have := hS.size; show _ ≤ g40v; omega) (.slice Ar Nr Cr)) ?_
            intro v43w hv43w
            replace BB := BB.setCell (p := ⟨g40v, 0, none⟩) (show w.heap.size ≤ g40v by omega) (.slice Ar Nr Cr)
            replace hS := hS.setCell (p := ⟨g40v, 0, none⟩) (by have := hS.size; show _ ≤ g40v; omega) (.slice Ar Nr Cr)
            replace h0 := h0.put (show Slot _ _ _ _ from ⟨X9.blk⟩) not_int (.slice Ar Nr Cr)
            replace X4 := X4.off (g' := g40v) (by omega) (i := 0) (.slice Ar Nr Cr)
            replace X6 := X6.off (g' := g40v) (by omega) (i := 0) (.slice Ar Nr Cr)
            replace Or := Or.put (show Slot _ _ _ _ from ⟨X9.blk⟩) not_int (.slice Ar Nr Cr)
            replace X9 := X9.setCell (i := 0) (.slice Ar Nr Cr)
            rw [hv43w] at BB h0 X4 X6 X9 Or hS
            clear hv43w
            refine rg_done (by kernel_rfl) ?_
            clear hS UX4 UX6
            refine wp_then ?_
            refine wp_frame (a' := ⟨#[(.int .u64 T), (.agg #[.slice a0 n0 c0]), (.int .u64 t), undef, (.pointer (some ⟨g1v, 0, none⟩)), undef, (.pointer (some ⟨g2v, 0, none⟩)), (.int .i64 0), (.func (.func 39) #[] #[.pointer (some ⟨gc, 0, none⟩)]), (.pointer (some ⟨g40v, 0, none⟩)), (.bool false), (.int .u64 t), (.bool false), undef, (.bool false), (.agg #[.slice a0 n0 c0]), (.bool false), undef, undef, (.bool false), (.int .u64 T), (.bool false), undef, (.func (.func 39) #[] #[.pointer (some ⟨gc, 0, none⟩)]), (.func (.func 39) #[] #[.pointer (some ⟨gc, 0, none⟩)]), (.agg #[.slice a0 n0 c0]), (.int .u64 t), (.agg #[.slice At Nt Ct]), (.int .u64 T), (.agg #[.slice Au Nu Cu]), (.agg #[.slice Ar Nr Cr]), undef, undef, undef, undef, undef, undef, undef, undef, undef, undef, undef], []⟩) (by kernel_rfl) ?_
            refine wp_seq ?_
            refine wp_seq ?_
            refine wl_start ?_
            refine wl_take (some 31) (.agg #[.slice Ar Nr Cr]) rfl rfl (run_lp 9 (by kernel_rfl) (by kernel_rfl) (ldx26 (X9.cell (i := 0) rfl))) ?_
            by_cases hq : x0 * t / T = 0
            · have hqt := hq
              refine wl_call (some 32) 20 #[.agg #[.slice Ar Nr Cr]] rfl rfl (by kernel_rfl) (zeroD Or.a (by omega) true (decide_eq_true hq)) ?_
              rintro e1 v44w ⟨rfl, B⟩
              refine ⟨_, rfl, ?_⟩
              replace h0 := h0.keep B
              replace X4 := X4.keep B
              replace X6 := X6.keep B
              replace X9 := X9.keep B
              replace Or := Or.keep B
              replace BB := joinB BB B
              clear B
              refine wl_nil ?_
              refine wp_then ?_
              refine wp_frame (a' := ⟨#[(.int .u64 T), (.agg #[.slice a0 n0 c0]), (.int .u64 t), undef, (.pointer (some ⟨g1v, 0, none⟩)), undef, (.pointer (some ⟨g2v, 0, none⟩)), (.int .i64 0), (.func (.func 39) #[] #[.pointer (some ⟨gc, 0, none⟩)]), (.pointer (some ⟨g40v, 0, none⟩)), (.bool false), (.int .u64 t), (.bool false), undef, (.bool false), (.agg #[.slice a0 n0 c0]), (.bool false), undef, undef, (.bool false), (.int .u64 T), (.bool false), undef, (.func (.func 39) #[] #[.pointer (some ⟨gc, 0, none⟩)]), (.func (.func 39) #[] #[.pointer (some ⟨gc, 0, none⟩)]), (.agg #[.slice a0 n0 c0]), (.int .u64 t), (.agg #[.slice At Nt Ct]), (.int .u64 T), (.agg #[.slice Au Nu Cu]), (.agg #[.slice Ar Nr Cr]), (.agg #[.slice Ar Nr Cr]), (.bool true), undef, undef, undef, undef, undef, undef, undef, undef, undef], []⟩) (by kernel_rfl) ?_
              refine wp_cond_true (by kernel_rfl) ?_
              refine wp_seq ?_
              refine wl_start ?_
              refine wl_take (some 33) (.agg #[.slice none 0 0]) rfl rfl (by kernel_rfl) ?_
              refine wl_set' 6 33 29 (i := 0) (.slice none 0 0) (.slice none 0 0) X6 rfl rfl rfl rfl (by kernel_rfl) (by kernel_rfl) storex26 ?_
              intro v45w hv45w
              replace BB := BB.setCell (p := ⟨g2v, 0, none⟩) (show w.heap.size ≤ g2v by omega) (.slice none 0 0)
              replace h0 := h0.put (show Slot _ _ _ _ from ⟨X6.blk⟩) not_int (.slice none 0 0)
              replace X4 := X4.off (g' := g2v) (by omega) (i := 0) (.slice none 0 0)
              replace X9 := X9.off (g' := g2v) (by omega) (i := 0) (.slice none 0 0)
              replace Or := Or.put (show Slot _ _ _ _ from ⟨X6.blk⟩) not_int (.slice none 0 0)
              replace X6 := X6.setCell (i := 0) (.slice none 0 0)
              rw [hv45w] at BB h0 X4 X6 X9 Or
              clear hv45w
              refine wl_take (some 7) (.int .i64 101) rfl rfl (by kernel_rfl) ?_
              refine wl_nil ?_
              refine wp_then ?_
              refine wp_frame (a' := ⟨#[(.int .u64 T), (.agg #[.slice a0 n0 c0]), (.int .u64 t), undef, (.pointer (some ⟨g1v, 0, none⟩)), undef, (.pointer (some ⟨g2v, 0, none⟩)), (.int .i64 101), (.func (.func 39) #[] #[.pointer (some ⟨gc, 0, none⟩)]), (.pointer (some ⟨g40v, 0, none⟩)), (.bool false), (.int .u64 t), (.bool false), undef, (.bool false), (.agg #[.slice a0 n0 c0]), (.bool false), undef, undef, (.bool false), (.int .u64 T), (.bool false), undef, (.func (.func 39) #[] #[.pointer (some ⟨gc, 0, none⟩)]), (.func (.func 39) #[] #[.pointer (some ⟨gc, 0, none⟩)]), (.agg #[.slice a0 n0 c0]), (.int .u64 t), (.agg #[.slice At Nt Ct]), (.int .u64 T), (.agg #[.slice Au Nu Cu]), (.agg #[.slice Ar Nr Cr]), (.agg #[.slice Ar Nr Cr]), (.bool true), (.agg #[.slice none 0 0]), undef, undef, undef, undef, undef, undef, undef, undef], []⟩) (by kernel_rfl) ?_
              refine wp_ret ?_
              repeat (first | refine ret_then ?_ | refine ret_block ?_)
              refine bodyPost_ret (ret_dec_tmp rfl rfl rfl (show Slot _ _ _ _ from ⟨X6.blk⟩)) rfl ?_
              exact ⟨none, 0, 0, by rw [isE, if_neg ht0, if_neg hs0, if_neg hz, if_pos hq]; kernel_rfl, by rw [isV_q ht0 hs0 hz hq]; exact natO_nil _, by omega, BB⟩
            · have hqt := hq
              refine wl_call (some 32) 20 #[.agg #[.slice Ar Nr Cr]] rfl rfl (by kernel_rfl) (zeroD Or.a (by omega) false (decide_eq_false hq)) ?_
              rintro e1 v46w ⟨rfl, B⟩
              refine ⟨_, rfl, ?_⟩
              replace h0 := h0.keep B
              replace X4 := X4.keep B
              replace X6 := X6.keep B
              replace X9 := X9.keep B
              replace Or := Or.keep B
              replace BB := joinB BB B
              clear B
              refine wl_nil ?_
              refine wp_then ?_
              refine wp_frame (a' := ⟨#[(.int .u64 T), (.agg #[.slice a0 n0 c0]), (.int .u64 t), undef, (.pointer (some ⟨g1v, 0, none⟩)), undef, (.pointer (some ⟨g2v, 0, none⟩)), (.int .i64 0), (.func (.func 39) #[] #[.pointer (some ⟨gc, 0, none⟩)]), (.pointer (some ⟨g40v, 0, none⟩)), (.bool false), (.int .u64 t), (.bool false), undef, (.bool false), (.agg #[.slice a0 n0 c0]), (.bool false), undef, undef, (.bool false), (.int .u64 T), (.bool false), undef, (.func (.func 39) #[] #[.pointer (some ⟨gc, 0, none⟩)]), (.func (.func 39) #[] #[.pointer (some ⟨gc, 0, none⟩)]), (.agg #[.slice a0 n0 c0]), (.int .u64 t), (.agg #[.slice At Nt Ct]), (.int .u64 T), (.agg #[.slice Au Nu Cu]), (.agg #[.slice Ar Nr Cr]), (.agg #[.slice Ar Nr Cr]), (.bool false), undef, undef, undef, undef, undef, undef, undef, undef, undef], []⟩) (by kernel_rfl) ?_
              refine wp_cond_false (by kernel_rfl) ?_
              refine wp_skip_then ?_
              refine wp_seq ?_
              refine wp_seq ?_
              refine wl_start ?_
              refine wl_take (some 34) (.agg #[.slice a0 n0 c0]) rfl rfl (run_lp 4 (by kernel_rfl) (by kernel_rfl) (ldx26 (X4.cell (i := 0) rfl))) ?_
              refine wl_take (some 35) (.agg #[.slice Ar Nr Cr]) rfl rfl (run_lp 9 (by kernel_rfl) (by kernel_rfl) (ldx26 (X9.cell (i := 0) rfl))) ?_
              refine wl_call (some 36) 6 #[.agg #[.slice a0 n0 c0], .agg #[.slice Ar Nr Cr]] rfl rfl (by kernel_rfl) (dAdd h0 Or.a (by omega) (by omega)) ?_
              rintro e1 v47w ⟨As, Ns, Cs, rfl, Os, Ks, B⟩
              refine ⟨_, rfl, ?_⟩
              replace h0 := h0.keep B
              replace X4 := X4.keep B
              replace X6 := X6.keep B
              replace X9 := X9.keep B
              replace Or := Or.keep B
              replace BB := joinB BB B
              clear B
              refine wl_call (some 37) 28 #[] rfl rfl (by kernel_rfl) (most_any) ?_
              rintro e1 v48w ⟨Am, Nm, Cm, rfl, Om, Km, B⟩
              refine ⟨_, rfl, ?_⟩
              replace h0 := h0.keep B
              replace X4 := X4.keep B
              replace X6 := X6.keep B
              replace X9 := X9.keep B
              replace Or := Or.keep B
              replace Os := Os.keep B
              replace BB := joinB BB B
              clear B
              by_cases hb : 10 ^ 90 < x0 + x0 * t / T
              · have hbt := hb
                refine wl_call (some 38) 10 #[.agg #[.slice As Ns Cs], .agg #[.slice Am Nm Cm]] rfl rfl (by kernel_rfl) (cmpD Os.a Om.a (by omega) (by omega) 1 (sgn_gt hb)) ?_
                rintro e1 v49w ⟨rfl, B⟩
                refine ⟨_, rfl, ?_⟩
                replace h0 := h0.keep B
                replace X4 := X4.keep B
                replace X6 := X6.keep B
                replace X9 := X9.keep B
                replace Or := Or.keep B
                replace Os := Os.keep B
                replace Om := Om.keep B
                replace BB := joinB BB B
                clear B
                refine wl_take (some 39) (.bool true) rfl rfl (by kernel_rfl) ?_
                refine wl_nil ?_
                refine wp_then ?_
                refine wp_frame (a' := ⟨#[(.int .u64 T), (.agg #[.slice a0 n0 c0]), (.int .u64 t), undef, (.pointer (some ⟨g1v, 0, none⟩)), undef, (.pointer (some ⟨g2v, 0, none⟩)), (.int .i64 0), (.func (.func 39) #[] #[.pointer (some ⟨gc, 0, none⟩)]), (.pointer (some ⟨g40v, 0, none⟩)), (.bool false), (.int .u64 t), (.bool false), undef, (.bool false), (.agg #[.slice a0 n0 c0]), (.bool false), undef, undef, (.bool false), (.int .u64 T), (.bool false), undef, (.func (.func 39) #[] #[.pointer (some ⟨gc, 0, none⟩)]), (.func (.func 39) #[] #[.pointer (some ⟨gc, 0, none⟩)]), (.agg #[.slice a0 n0 c0]), (.int .u64 t), (.agg #[.slice At Nt Ct]), (.int .u64 T), (.agg #[.slice Au Nu Cu]), (.agg #[.slice Ar Nr Cr]), (.agg #[.slice Ar Nr Cr]), (.bool false), undef, (.agg #[.slice a0 n0 c0]), (.agg #[.slice Ar Nr Cr]), (.agg #[.slice As Ns Cs]), (.agg #[.slice Am Nm Cm]), (.int .i64 1), (.bool true), undef, undef], []⟩) (by kernel_rfl) ?_
                refine wp_cond_true (by kernel_rfl) ?_
                refine wp_seq ?_
                refine wl_start ?_
                refine wl_take (some 40) (.agg #[.slice none 0 0]) rfl rfl (by kernel_rfl) ?_
                refine wl_set' 6 40 29 (i := 0) (.slice none 0 0) (.slice none 0 0) X6 rfl rfl rfl rfl (by kernel_rfl) (by kernel_rfl) storex26 ?_
                intro v50w hv50w
                replace BB := BB.setCell (p := ⟨g2v, 0, none⟩) (show w.heap.size ≤ g2v by omega) (.slice none 0 0)
                replace h0 := h0.put (show Slot _ _ _ _ from ⟨X6.blk⟩) not_int (.slice none 0 0)
                replace X4 := X4.off (g' := g2v) (by omega) (i := 0) (.slice none 0 0)
                replace X9 := X9.off (g' := g2v) (by omega) (i := 0) (.slice none 0 0)
                replace Or := Or.put (show Slot _ _ _ _ from ⟨X6.blk⟩) not_int (.slice none 0 0)
                replace Os := Os.put (show Slot _ _ _ _ from ⟨X6.blk⟩) not_int (.slice none 0 0)
                replace Om := Om.put (show Slot _ _ _ _ from ⟨X6.blk⟩) not_int (.slice none 0 0)
                replace X6 := X6.setCell (i := 0) (.slice none 0 0)
                rw [hv50w] at BB h0 X4 X6 X9 Or Os Om
                clear hv50w
                refine wl_take (some 7) (.int .i64 103) rfl rfl (by kernel_rfl) ?_
                refine wl_nil ?_
                refine wp_then ?_
                refine wp_frame (a' := ⟨#[(.int .u64 T), (.agg #[.slice a0 n0 c0]), (.int .u64 t), undef, (.pointer (some ⟨g1v, 0, none⟩)), undef, (.pointer (some ⟨g2v, 0, none⟩)), (.int .i64 103), (.func (.func 39) #[] #[.pointer (some ⟨gc, 0, none⟩)]), (.pointer (some ⟨g40v, 0, none⟩)), (.bool false), (.int .u64 t), (.bool false), undef, (.bool false), (.agg #[.slice a0 n0 c0]), (.bool false), undef, undef, (.bool false), (.int .u64 T), (.bool false), undef, (.func (.func 39) #[] #[.pointer (some ⟨gc, 0, none⟩)]), (.func (.func 39) #[] #[.pointer (some ⟨gc, 0, none⟩)]), (.agg #[.slice a0 n0 c0]), (.int .u64 t), (.agg #[.slice At Nt Ct]), (.int .u64 T), (.agg #[.slice Au Nu Cu]), (.agg #[.slice Ar Nr Cr]), (.agg #[.slice Ar Nr Cr]), (.bool false), undef, (.agg #[.slice a0 n0 c0]), (.agg #[.slice Ar Nr Cr]), (.agg #[.slice As Ns Cs]), (.agg #[.slice Am Nm Cm]), (.int .i64 1), (.bool true), (.agg #[.slice none 0 0]), undef], []⟩) (by kernel_rfl) ?_
                refine wp_ret ?_
                repeat (first | refine ret_then ?_ | refine ret_block ?_)
                refine bodyPost_ret (ret_dec_tmp rfl rfl rfl (show Slot _ _ _ _ from ⟨X6.blk⟩)) rfl ?_
                exact ⟨none, 0, 0, by rw [isE, if_neg ht0, if_neg hs0, if_neg hz, if_neg hq, if_pos hb]; kernel_rfl, by rw [isV, if_neg ht0, if_neg hs0, if_neg hz, if_pos hb]; exact natO_nil _, by omega, BB⟩
              · have hbt := hb
                by_cases he : x0 + x0 * t / T = 10 ^ 90
                · have het := he
                  refine wl_call (some 38) 10 #[.agg #[.slice As Ns Cs], .agg #[.slice Am Nm Cm]] rfl rfl (by kernel_rfl) (cmpD Os.a Om.a (by omega) (by omega) 0 (sgn_eq he)) ?_
                  rintro e1 v51w ⟨rfl, B⟩
                  refine ⟨_, rfl, ?_⟩
                  replace h0 := h0.keep B
                  replace X4 := X4.keep B
                  replace X6 := X6.keep B
                  replace X9 := X9.keep B
                  replace Or := Or.keep B
                  replace Os := Os.keep B
                  replace Om := Om.keep B
                  replace BB := joinB BB B
                  clear B
                  refine wl_take (some 39) (.bool false) rfl rfl (by kernel_rfl) ?_
                  refine wl_nil ?_
                  refine wp_then ?_
                  refine wp_frame (a' := ⟨#[(.int .u64 T), (.agg #[.slice a0 n0 c0]), (.int .u64 t), undef, (.pointer (some ⟨g1v, 0, none⟩)), undef, (.pointer (some ⟨g2v, 0, none⟩)), (.int .i64 0), (.func (.func 39) #[] #[.pointer (some ⟨gc, 0, none⟩)]), (.pointer (some ⟨g40v, 0, none⟩)), (.bool false), (.int .u64 t), (.bool false), undef, (.bool false), (.agg #[.slice a0 n0 c0]), (.bool false), undef, undef, (.bool false), (.int .u64 T), (.bool false), undef, (.func (.func 39) #[] #[.pointer (some ⟨gc, 0, none⟩)]), (.func (.func 39) #[] #[.pointer (some ⟨gc, 0, none⟩)]), (.agg #[.slice a0 n0 c0]), (.int .u64 t), (.agg #[.slice At Nt Ct]), (.int .u64 T), (.agg #[.slice Au Nu Cu]), (.agg #[.slice Ar Nr Cr]), (.agg #[.slice Ar Nr Cr]), (.bool false), undef, (.agg #[.slice a0 n0 c0]), (.agg #[.slice Ar Nr Cr]), (.agg #[.slice As Ns Cs]), (.agg #[.slice Am Nm Cm]), (.int .i64 0), (.bool false), undef, undef], []⟩) (by kernel_rfl) ?_
                  refine wp_cond_false (by kernel_rfl) ?_
                  refine wp_skip_then ?_
                  refine wp_seq ?_
                  refine wl_start ?_
                  refine wl_take (some 41) (.agg #[.slice Ar Nr Cr]) rfl rfl (run_lp 9 (by kernel_rfl) (by kernel_rfl) (ldx26 (X9.cell (i := 0) rfl))) ?_
                  refine wl_set' 6 41 29 (i := 0) (.slice none 0 0) (.slice Ar Nr Cr) X6 rfl rfl rfl rfl (by kernel_rfl) (by kernel_rfl) storex26 ?_
                  intro v52w hv52w
                  replace BB := BB.setCell (p := ⟨g2v, 0, none⟩) (show w.heap.size ≤ g2v by omega) (.slice Ar Nr Cr)
                  replace h0 := h0.put (show Slot _ _ _ _ from ⟨X6.blk⟩) not_int (.slice Ar Nr Cr)
                  replace X4 := X4.off (g' := g2v) (by omega) (i := 0) (.slice Ar Nr Cr)
                  replace X9 := X9.off (g' := g2v) (by omega) (i := 0) (.slice Ar Nr Cr)
                  replace Or := Or.put (show Slot _ _ _ _ from ⟨X6.blk⟩) not_int (.slice Ar Nr Cr)
                  replace Os := Os.put (show Slot _ _ _ _ from ⟨X6.blk⟩) not_int (.slice Ar Nr Cr)
                  replace Om := Om.put (show Slot _ _ _ _ from ⟨X6.blk⟩) not_int (.slice Ar Nr Cr)
                  replace X6 := X6.setCell (i := 0) (.slice Ar Nr Cr)
                  rw [hv52w] at BB h0 X4 X6 X9 Or Os Om
                  clear hv52w
                  refine wl_take (some 7) (.int .i64 0) rfl rfl (by kernel_rfl) ?_
                  refine wl_nil ?_
                  refine wp_then ?_
                  refine wp_frame (a' := ⟨#[(.int .u64 T), (.agg #[.slice a0 n0 c0]), (.int .u64 t), undef, (.pointer (some ⟨g1v, 0, none⟩)), undef, (.pointer (some ⟨g2v, 0, none⟩)), (.int .i64 0), (.func (.func 39) #[] #[.pointer (some ⟨gc, 0, none⟩)]), (.pointer (some ⟨g40v, 0, none⟩)), (.bool false), (.int .u64 t), (.bool false), undef, (.bool false), (.agg #[.slice a0 n0 c0]), (.bool false), undef, undef, (.bool false), (.int .u64 T), (.bool false), undef, (.func (.func 39) #[] #[.pointer (some ⟨gc, 0, none⟩)]), (.func (.func 39) #[] #[.pointer (some ⟨gc, 0, none⟩)]), (.agg #[.slice a0 n0 c0]), (.int .u64 t), (.agg #[.slice At Nt Ct]), (.int .u64 T), (.agg #[.slice Au Nu Cu]), (.agg #[.slice Ar Nr Cr]), (.agg #[.slice Ar Nr Cr]), (.bool false), undef, (.agg #[.slice a0 n0 c0]), (.agg #[.slice Ar Nr Cr]), (.agg #[.slice As Ns Cs]), (.agg #[.slice Am Nm Cm]), (.int .i64 0), (.bool false), undef, (.agg #[.slice Ar Nr Cr])], []⟩) (by kernel_rfl) ?_
                  refine wp_ret ?_
                  repeat (first | refine ret_then ?_ | refine ret_block ?_)
                  refine bodyPost_ret (ret_dec_tmp rfl rfl rfl (show Slot _ _ _ _ from ⟨X6.blk⟩)) rfl ?_
                  exact ⟨Ar, Nr, Cr, by rw [isE, if_neg ht0, if_neg hs0, if_neg hz, if_neg hq, if_neg hb]; kernel_rfl, by rw [isV, if_neg ht0, if_neg hs0, if_neg hz, if_neg hb]; exact Or, by omega, BB⟩
                · have het := he
                  refine wl_call (some 38) 10 #[.agg #[.slice As Ns Cs], .agg #[.slice Am Nm Cm]] rfl rfl (by kernel_rfl) (cmpD Os.a Om.a (by omega) (by omega) (-1) (sgn_lt (lt_of hb he))) ?_
                  rintro e1 v53w ⟨rfl, B⟩
                  refine ⟨_, rfl, ?_⟩
                  replace h0 := h0.keep B
                  replace X4 := X4.keep B
                  replace X6 := X6.keep B
                  replace X9 := X9.keep B
                  replace Or := Or.keep B
                  replace Os := Os.keep B
                  replace Om := Om.keep B
                  replace BB := joinB BB B
                  clear B
                  refine wl_take (some 39) (.bool false) rfl rfl (by kernel_rfl) ?_
                  refine wl_nil ?_
                  refine wp_then ?_
                  refine wp_frame (a' := ⟨#[(.int .u64 T), (.agg #[.slice a0 n0 c0]), (.int .u64 t), undef, (.pointer (some ⟨g1v, 0, none⟩)), undef, (.pointer (some ⟨g2v, 0, none⟩)), (.int .i64 0), (.func (.func 39) #[] #[.pointer (some ⟨gc, 0, none⟩)]), (.pointer (some ⟨g40v, 0, none⟩)), (.bool false), (.int .u64 t), (.bool false), undef, (.bool false), (.agg #[.slice a0 n0 c0]), (.bool false), undef, undef, (.bool false), (.int .u64 T), (.bool false), undef, (.func (.func 39) #[] #[.pointer (some ⟨gc, 0, none⟩)]), (.func (.func 39) #[] #[.pointer (some ⟨gc, 0, none⟩)]), (.agg #[.slice a0 n0 c0]), (.int .u64 t), (.agg #[.slice At Nt Ct]), (.int .u64 T), (.agg #[.slice Au Nu Cu]), (.agg #[.slice Ar Nr Cr]), (.agg #[.slice Ar Nr Cr]), (.bool false), undef, (.agg #[.slice a0 n0 c0]), (.agg #[.slice Ar Nr Cr]), (.agg #[.slice As Ns Cs]), (.agg #[.slice Am Nm Cm]), (.int .i64 (-1)), (.bool false), undef, undef], []⟩) (by kernel_rfl) ?_
                  refine wp_cond_false (by kernel_rfl) ?_
                  refine wp_skip_then ?_
                  refine wp_seq ?_
                  refine wl_start ?_
                  refine wl_take (some 41) (.agg #[.slice Ar Nr Cr]) rfl rfl (run_lp 9 (by kernel_rfl) (by kernel_rfl) (ldx26 (X9.cell (i := 0) rfl))) ?_
                  refine wl_set' 6 41 29 (i := 0) (.slice none 0 0) (.slice Ar Nr Cr) X6 rfl rfl rfl rfl (by kernel_rfl) (by kernel_rfl) storex26 ?_
                  intro v54w hv54w
                  replace BB := BB.setCell (p := ⟨g2v, 0, none⟩) (show w.heap.size ≤ g2v by omega) (.slice Ar Nr Cr)
                  replace h0 := h0.put (show Slot _ _ _ _ from ⟨X6.blk⟩) not_int (.slice Ar Nr Cr)
                  replace X4 := X4.off (g' := g2v) (by omega) (i := 0) (.slice Ar Nr Cr)
                  replace X9 := X9.off (g' := g2v) (by omega) (i := 0) (.slice Ar Nr Cr)
                  replace Or := Or.put (show Slot _ _ _ _ from ⟨X6.blk⟩) not_int (.slice Ar Nr Cr)
                  replace Os := Os.put (show Slot _ _ _ _ from ⟨X6.blk⟩) not_int (.slice Ar Nr Cr)
                  replace Om := Om.put (show Slot _ _ _ _ from ⟨X6.blk⟩) not_int (.slice Ar Nr Cr)
                  replace X6 := X6.setCell (i := 0) (.slice Ar Nr Cr)
                  rw [hv54w] at BB h0 X4 X6 X9 Or Os Om
                  clear hv54w
                  refine wl_take (some 7) (.int .i64 0) rfl rfl (by kernel_rfl) ?_
                  refine wl_nil ?_
                  refine wp_then ?_
                  refine wp_frame (a' := ⟨#[(.int .u64 T), (.agg #[.slice a0 n0 c0]), (.int .u64 t), undef, (.pointer (some ⟨g1v, 0, none⟩)), undef, (.pointer (some ⟨g2v, 0, none⟩)), (.int .i64 0), (.func (.func 39) #[] #[.pointer (some ⟨gc, 0, none⟩)]), (.pointer (some ⟨g40v, 0, none⟩)), (.bool false), (.int .u64 t), (.bool false), undef, (.bool false), (.agg #[.slice a0 n0 c0]), (.bool false), undef, undef, (.bool false), (.int .u64 T), (.bool false), undef, (.func (.func 39) #[] #[.pointer (some ⟨gc, 0, none⟩)]), (.func (.func 39) #[] #[.pointer (some ⟨gc, 0, none⟩)]), (.agg #[.slice a0 n0 c0]), (.int .u64 t), (.agg #[.slice At Nt Ct]), (.int .u64 T), (.agg #[.slice Au Nu Cu]), (.agg #[.slice Ar Nr Cr]), (.agg #[.slice Ar Nr Cr]), (.bool false), undef, (.agg #[.slice a0 n0 c0]), (.agg #[.slice Ar Nr Cr]), (.agg #[.slice As Ns Cs]), (.agg #[.slice Am Nm Cm]), (.int .i64 (-1)), (.bool false), undef, (.agg #[.slice Ar Nr Cr])], []⟩) (by kernel_rfl) ?_
                  refine wp_ret ?_
                  repeat (first | refine ret_then ?_ | refine ret_block ?_)
                  refine bodyPost_ret (ret_dec_tmp rfl rfl rfl (show Slot _ _ _ _ from ⟨X6.blk⟩)) rfl ?_
                  exact ⟨Ar, Nr, Cr, by rw [isE, if_neg ht0, if_neg hs0, if_neg hz, if_neg hq, if_neg hb]; kernel_rfl, by rw [isV, if_neg ht0, if_neg hs0, if_neg hz, if_neg hb]; exact Or, by omega, BB⟩
          exact ar_nil
        have lX4 := X4.lt
        have lX6 := X6.lt
        have bs55 := BB.size
        have hs55 := hS.size
        refine ar_new 7 9 29 [.slice none 0 0] (by kernel_rfl) (by kernel_rfl) allocx26 ?_ ?_
        · intro v55w g55v X9 hg55v B
          refine ⟨joinB hS B, ?_⟩
          replace hS := joinB hS B
          replace h0 := h0.keep B
          replace X4 := X4.keep B
          replace X6 := X6.keep B
          replace XC := XC.keep B
          replace BB := joinB BB B
          clear B
          refine rg_call 3 (some 27) 13 #[.int .u64 t] (by kernel_rfl) (by kernel_rfl) (dOf ht.1 ht.2) ?_
          rintro e1 v56w ⟨At, Nt, Ct, rfl, Ot, Kt, B⟩
          refine ⟨_, rfl, joinB hS B, ?_⟩
          replace hS := joinB hS B
          replace h0 := h0.keep B
          replace X4 := X4.keep B
          replace X6 := X6.keep B
          replace XC := XC.keep B
          replace X9 := X9.keep B
          replace BB := joinB BB B
          clear B
          refine rg_call 5 (some 29) 13 #[.int .u64 T] (by kernel_rfl) (by kernel_rfl) (dOf hT.1 hT.2) ?_
          rintro e1 v57w ⟨Au, Nu, Cu, rfl, Ou, Ku, B⟩
          refine ⟨_, rfl, joinB hS B, ?_⟩
          replace hS := joinB hS B
          replace h0 := h0.keep B
          replace X4 := X4.keep B
          replace X6 := X6.keep B
          replace XC := XC.keep B
          replace X9 := X9.keep B
          replace Ot := Ot.keep B
          replace BB := joinB BB B
          clear B
          refine rg_call 6 (some 30) 39 #[.agg #[.slice a0 n0 c0], .agg #[.slice At Nt Ct], .agg #[.slice Au Nu Cu], .pointer (some ⟨gc, 0, none⟩)] (by kernel_rfl) (by kernel_rfl) (clos_any XC h0 (by omega) Ot.a (by omega) Ou.a (by omega) (mulU_ne hz)) ?_
          rintro e1 v58w ⟨Ar, Nr, Cr, rfl, Or, Kr, B⟩
          refine ⟨_, rfl, joinB hS B, ?_⟩
          replace hS := joinB hS B
          replace h0 := h0.keep B
          replace X4 := X4.keep B
          replace X6 := X6.keep B
          replace XC := XC.keep B
          replace X9 := X9.keep B
          replace Ot := Ot.keep B
          replace Ou := Ou.keep B
          replace BB := joinB BB B
          clear B
          replace Or := Or.eqv (is_q x0 t T)
          clear XC
          clear Ot
          clear Ou
          refine rg_set 8 9 30 29 (i := 0) (.slice none 0 0) (.slice Ar Nr Cr) X9 rfl (by kernel_rfl) (by kernel_rfl) (by kernel_rfl) (by kernel_rfl) (by kernel_rfl) storex26 (hS.setCell (p := ⟨g55v, 0, none⟩) (by have := hS.size; show _ ≤ g55v; omega) (.slice Ar Nr Cr)) ?_
          intro v59w hv59w
          replace BB := BB.setCell (p := ⟨g55v, 0, none⟩) (show w.heap.size ≤ g55v by omega) (.slice Ar Nr Cr)
          replace hS := hS.setCell (p := ⟨g55v, 0, none⟩) (by have := hS.size; show _ ≤ g55v; omega) (.slice Ar Nr Cr)
          replace h0 := h0.put (show Slot _ _ _ _ from ⟨X9.blk⟩) not_int (.slice Ar Nr Cr)
          replace X4 := X4.off (g' := g55v) (by omega) (i := 0) (.slice Ar Nr Cr)
          replace X6 := X6.off (g' := g55v) (by omega) (i := 0) (.slice Ar Nr Cr)
          replace Or := Or.put (show Slot _ _ _ _ from ⟨X9.blk⟩) not_int (.slice Ar Nr Cr)
          replace X9 := X9.setCell (i := 0) (.slice Ar Nr Cr)
          rw [hv59w] at BB h0 X4 X6 X9 Or hS
          clear hv59w
          refine rg_done (by kernel_rfl) ?_
          clear hS UX4 UX6
          refine wp_then ?_
          refine wp_frame (a' := ⟨#[(.int .u64 T), (.agg #[.slice a0 n0 c0]), (.int .u64 t), undef, (.pointer (some ⟨g1v, 0, none⟩)), undef, (.pointer (some ⟨g2v, 0, none⟩)), (.int .i64 0), (.func (.func 39) #[] #[.pointer (some ⟨gc, 0, none⟩)]), (.pointer (some ⟨g55v, 0, none⟩)), (.bool false), (.int .u64 t), (.bool false), undef, (.bool false), (.agg #[.slice a0 n0 c0]), (.bool false), undef, undef, (.bool false), (.int .u64 T), (.bool false), undef, (.func (.func 39) #[] #[.pointer (some ⟨gc, 0, none⟩)]), (.func (.func 39) #[] #[.pointer (some ⟨gc, 0, none⟩)]), (.agg #[.slice a0 n0 c0]), (.int .u64 t), (.agg #[.slice At Nt Ct]), (.int .u64 T), (.agg #[.slice Au Nu Cu]), (.agg #[.slice Ar Nr Cr]), undef, undef, undef, undef, undef, undef, undef, undef, undef, undef, undef], []⟩) (by kernel_rfl) ?_
          refine wp_seq ?_
          refine wp_seq ?_
          refine wl_start ?_
          refine wl_take (some 31) (.agg #[.slice Ar Nr Cr]) rfl rfl (run_lp 9 (by kernel_rfl) (by kernel_rfl) (ldx26 (X9.cell (i := 0) rfl))) ?_
          by_cases hq : x0 * t / T = 0
          · have hqt := hq
            refine wl_call (some 32) 20 #[.agg #[.slice Ar Nr Cr]] rfl rfl (by kernel_rfl) (zeroD Or.a (by omega) true (decide_eq_true hq)) ?_
            rintro e1 v60w ⟨rfl, B⟩
            refine ⟨_, rfl, ?_⟩
            replace h0 := h0.keep B
            replace X4 := X4.keep B
            replace X6 := X6.keep B
            replace X9 := X9.keep B
            replace Or := Or.keep B
            replace BB := joinB BB B
            clear B
            refine wl_nil ?_
            refine wp_then ?_
            refine wp_frame (a' := ⟨#[(.int .u64 T), (.agg #[.slice a0 n0 c0]), (.int .u64 t), undef, (.pointer (some ⟨g1v, 0, none⟩)), undef, (.pointer (some ⟨g2v, 0, none⟩)), (.int .i64 0), (.func (.func 39) #[] #[.pointer (some ⟨gc, 0, none⟩)]), (.pointer (some ⟨g55v, 0, none⟩)), (.bool false), (.int .u64 t), (.bool false), undef, (.bool false), (.agg #[.slice a0 n0 c0]), (.bool false), undef, undef, (.bool false), (.int .u64 T), (.bool false), undef, (.func (.func 39) #[] #[.pointer (some ⟨gc, 0, none⟩)]), (.func (.func 39) #[] #[.pointer (some ⟨gc, 0, none⟩)]), (.agg #[.slice a0 n0 c0]), (.int .u64 t), (.agg #[.slice At Nt Ct]), (.int .u64 T), (.agg #[.slice Au Nu Cu]), (.agg #[.slice Ar Nr Cr]), (.agg #[.slice Ar Nr Cr]), (.bool true), undef, undef, undef, undef, undef, undef, undef, undef, undef], []⟩) (by kernel_rfl) ?_
            refine wp_cond_true (by kernel_rfl) ?_
            refine wp_seq ?_
            refine wl_start ?_
            refine wl_take (some 33) (.agg #[.slice none 0 0]) rfl rfl (by kernel_rfl) ?_
            refine wl_set' 6 33 29 (i := 0) (.slice none 0 0) (.slice none 0 0) X6 rfl rfl rfl rfl (by kernel_rfl) (by kernel_rfl) storex26 ?_
            intro v61w hv61w
            replace BB := BB.setCell (p := ⟨g2v, 0, none⟩) (show w.heap.size ≤ g2v by omega) (.slice none 0 0)
            replace h0 := h0.put (show Slot _ _ _ _ from ⟨X6.blk⟩) not_int (.slice none 0 0)
            replace X4 := X4.off (g' := g2v) (by omega) (i := 0) (.slice none 0 0)
            replace X9 := X9.off (g' := g2v) (by omega) (i := 0) (.slice none 0 0)
            replace Or := Or.put (show Slot _ _ _ _ from ⟨X6.blk⟩) not_int (.slice none 0 0)
            replace X6 := X6.setCell (i := 0) (.slice none 0 0)
            rw [hv61w] at BB h0 X4 X6 X9 Or
            clear hv61w
            refine wl_take (some 7) (.int .i64 101) rfl rfl (by kernel_rfl) ?_
            refine wl_nil ?_
            refine wp_then ?_
            refine wp_frame (a' := ⟨#[(.int .u64 T), (.agg #[.slice a0 n0 c0]), (.int .u64 t), undef, (.pointer (some ⟨g1v, 0, none⟩)), undef, (.pointer (some ⟨g2v, 0, none⟩)), (.int .i64 101), (.func (.func 39) #[] #[.pointer (some ⟨gc, 0, none⟩)]), (.pointer (some ⟨g55v, 0, none⟩)), (.bool false), (.int .u64 t), (.bool false), undef, (.bool false), (.agg #[.slice a0 n0 c0]), (.bool false), undef, undef, (.bool false), (.int .u64 T), (.bool false), undef, (.func (.func 39) #[] #[.pointer (some ⟨gc, 0, none⟩)]), (.func (.func 39) #[] #[.pointer (some ⟨gc, 0, none⟩)]), (.agg #[.slice a0 n0 c0]), (.int .u64 t), (.agg #[.slice At Nt Ct]), (.int .u64 T), (.agg #[.slice Au Nu Cu]), (.agg #[.slice Ar Nr Cr]), (.agg #[.slice Ar Nr Cr]), (.bool true), (.agg #[.slice none 0 0]), undef, undef, undef, undef, undef, undef, undef, undef], []⟩) (by kernel_rfl) ?_
            refine wp_ret ?_
            repeat (first | refine ret_then ?_ | refine ret_block ?_)
            refine bodyPost_ret (ret_dec_tmp rfl rfl rfl (show Slot _ _ _ _ from ⟨X6.blk⟩)) rfl ?_
            exact ⟨none, 0, 0, by rw [isE, if_neg ht0, if_neg hs0, if_neg hz, if_pos hq]; kernel_rfl, by rw [isV_q ht0 hs0 hz hq]; exact natO_nil _, by omega, BB⟩
          · have hqt := hq
            refine wl_call (some 32) 20 #[.agg #[.slice Ar Nr Cr]] rfl rfl (by kernel_rfl) (zeroD Or.a (by omega) false (decide_eq_false hq)) ?_
            rintro e1 v62w ⟨rfl, B⟩
            refine ⟨_, rfl, ?_⟩
            replace h0 := h0.keep B
            replace X4 := X4.keep B
            replace X6 := X6.keep B
            replace X9 := X9.keep B
            replace Or := Or.keep B
            replace BB := joinB BB B
            clear B
            refine wl_nil ?_
            refine wp_then ?_
            refine wp_frame (a' := ⟨#[(.int .u64 T), (.agg #[.slice a0 n0 c0]), (.int .u64 t), undef, (.pointer (some ⟨g1v, 0, none⟩)), undef, (.pointer (some ⟨g2v, 0, none⟩)), (.int .i64 0), (.func (.func 39) #[] #[.pointer (some ⟨gc, 0, none⟩)]), (.pointer (some ⟨g55v, 0, none⟩)), (.bool false), (.int .u64 t), (.bool false), undef, (.bool false), (.agg #[.slice a0 n0 c0]), (.bool false), undef, undef, (.bool false), (.int .u64 T), (.bool false), undef, (.func (.func 39) #[] #[.pointer (some ⟨gc, 0, none⟩)]), (.func (.func 39) #[] #[.pointer (some ⟨gc, 0, none⟩)]), (.agg #[.slice a0 n0 c0]), (.int .u64 t), (.agg #[.slice At Nt Ct]), (.int .u64 T), (.agg #[.slice Au Nu Cu]), (.agg #[.slice Ar Nr Cr]), (.agg #[.slice Ar Nr Cr]), (.bool false), undef, undef, undef, undef, undef, undef, undef, undef, undef], []⟩) (by kernel_rfl) ?_
            refine wp_cond_false (by kernel_rfl) ?_
            refine wp_skip_then ?_
            refine wp_seq ?_
            refine wp_seq ?_
            refine wl_start ?_
            refine wl_take (some 34) (.agg #[.slice a0 n0 c0]) rfl rfl (run_lp 4 (by kernel_rfl) (by kernel_rfl) (ldx26 (X4.cell (i := 0) rfl))) ?_
            refine wl_take (some 35) (.agg #[.slice Ar Nr Cr]) rfl rfl (run_lp 9 (by kernel_rfl) (by kernel_rfl) (ldx26 (X9.cell (i := 0) rfl))) ?_
            refine wl_call (some 36) 6 #[.agg #[.slice a0 n0 c0], .agg #[.slice Ar Nr Cr]] rfl rfl (by kernel_rfl) (dAdd h0 Or.a (by omega) (by omega)) ?_
            rintro e1 v63w ⟨As, Ns, Cs, rfl, Os, Ks, B⟩
            refine ⟨_, rfl, ?_⟩
            replace h0 := h0.keep B
            replace X4 := X4.keep B
            replace X6 := X6.keep B
            replace X9 := X9.keep B
            replace Or := Or.keep B
            replace BB := joinB BB B
            clear B
            refine wl_call (some 37) 28 #[] rfl rfl (by kernel_rfl) (most_any) ?_
            rintro e1 v64w ⟨Am, Nm, Cm, rfl, Om, Km, B⟩
            refine ⟨_, rfl, ?_⟩
            replace h0 := h0.keep B
            replace X4 := X4.keep B
            replace X6 := X6.keep B
            replace X9 := X9.keep B
            replace Or := Or.keep B
            replace Os := Os.keep B
            replace BB := joinB BB B
            clear B
            by_cases hb : 10 ^ 90 < x0 + x0 * t / T
            · have hbt := hb
              refine wl_call (some 38) 10 #[.agg #[.slice As Ns Cs], .agg #[.slice Am Nm Cm]] rfl rfl (by kernel_rfl) (cmpD Os.a Om.a (by omega) (by omega) 1 (sgn_gt hb)) ?_
              rintro e1 v65w ⟨rfl, B⟩
              refine ⟨_, rfl, ?_⟩
              replace h0 := h0.keep B
              replace X4 := X4.keep B
              replace X6 := X6.keep B
              replace X9 := X9.keep B
              replace Or := Or.keep B
              replace Os := Os.keep B
              replace Om := Om.keep B
              replace BB := joinB BB B
              clear B
              refine wl_take (some 39) (.bool true) rfl rfl (by kernel_rfl) ?_
              refine wl_nil ?_
              refine wp_then ?_
              refine wp_frame (a' := ⟨#[(.int .u64 T), (.agg #[.slice a0 n0 c0]), (.int .u64 t), undef, (.pointer (some ⟨g1v, 0, none⟩)), undef, (.pointer (some ⟨g2v, 0, none⟩)), (.int .i64 0), (.func (.func 39) #[] #[.pointer (some ⟨gc, 0, none⟩)]), (.pointer (some ⟨g55v, 0, none⟩)), (.bool false), (.int .u64 t), (.bool false), undef, (.bool false), (.agg #[.slice a0 n0 c0]), (.bool false), undef, undef, (.bool false), (.int .u64 T), (.bool false), undef, (.func (.func 39) #[] #[.pointer (some ⟨gc, 0, none⟩)]), (.func (.func 39) #[] #[.pointer (some ⟨gc, 0, none⟩)]), (.agg #[.slice a0 n0 c0]), (.int .u64 t), (.agg #[.slice At Nt Ct]), (.int .u64 T), (.agg #[.slice Au Nu Cu]), (.agg #[.slice Ar Nr Cr]), (.agg #[.slice Ar Nr Cr]), (.bool false), undef, (.agg #[.slice a0 n0 c0]), (.agg #[.slice Ar Nr Cr]), (.agg #[.slice As Ns Cs]), (.agg #[.slice Am Nm Cm]), (.int .i64 1), (.bool true), undef, undef], []⟩) (by kernel_rfl) ?_
              refine wp_cond_true (by kernel_rfl) ?_
              refine wp_seq ?_
              refine wl_start ?_
              refine wl_take (some 40) (.agg #[.slice none 0 0]) rfl rfl (by kernel_rfl) ?_
              refine wl_set' 6 40 29 (i := 0) (.slice none 0 0) (.slice none 0 0) X6 rfl rfl rfl rfl (by kernel_rfl) (by kernel_rfl) storex26 ?_
              intro v66w hv66w
              replace BB := BB.setCell (p := ⟨g2v, 0, none⟩) (show w.heap.size ≤ g2v by omega) (.slice none 0 0)
              replace h0 := h0.put (show Slot _ _ _ _ from ⟨X6.blk⟩) not_int (.slice none 0 0)
              replace X4 := X4.off (g' := g2v) (by omega) (i := 0) (.slice none 0 0)
              replace X9 := X9.off (g' := g2v) (by omega) (i := 0) (.slice none 0 0)
              replace Or := Or.put (show Slot _ _ _ _ from ⟨X6.blk⟩) not_int (.slice none 0 0)
              replace Os := Os.put (show Slot _ _ _ _ from ⟨X6.blk⟩) not_int (.slice none 0 0)
              replace Om := Om.put (show Slot _ _ _ _ from ⟨X6.blk⟩) not_int (.slice none 0 0)
              replace X6 := X6.setCell (i := 0) (.slice none 0 0)
              rw [hv66w] at BB h0 X4 X6 X9 Or Os Om
              clear hv66w
              refine wl_take (some 7) (.int .i64 103) rfl rfl (by kernel_rfl) ?_
              refine wl_nil ?_
              refine wp_then ?_
              refine wp_frame (a' := ⟨#[(.int .u64 T), (.agg #[.slice a0 n0 c0]), (.int .u64 t), undef, (.pointer (some ⟨g1v, 0, none⟩)), undef, (.pointer (some ⟨g2v, 0, none⟩)), (.int .i64 103), (.func (.func 39) #[] #[.pointer (some ⟨gc, 0, none⟩)]), (.pointer (some ⟨g55v, 0, none⟩)), (.bool false), (.int .u64 t), (.bool false), undef, (.bool false), (.agg #[.slice a0 n0 c0]), (.bool false), undef, undef, (.bool false), (.int .u64 T), (.bool false), undef, (.func (.func 39) #[] #[.pointer (some ⟨gc, 0, none⟩)]), (.func (.func 39) #[] #[.pointer (some ⟨gc, 0, none⟩)]), (.agg #[.slice a0 n0 c0]), (.int .u64 t), (.agg #[.slice At Nt Ct]), (.int .u64 T), (.agg #[.slice Au Nu Cu]), (.agg #[.slice Ar Nr Cr]), (.agg #[.slice Ar Nr Cr]), (.bool false), undef, (.agg #[.slice a0 n0 c0]), (.agg #[.slice Ar Nr Cr]), (.agg #[.slice As Ns Cs]), (.agg #[.slice Am Nm Cm]), (.int .i64 1), (.bool true), (.agg #[.slice none 0 0]), undef], []⟩) (by kernel_rfl) ?_
              refine wp_ret ?_
              repeat (first | refine ret_then ?_ | refine ret_block ?_)
              refine bodyPost_ret (ret_dec_tmp rfl rfl rfl (show Slot _ _ _ _ from ⟨X6.blk⟩)) rfl ?_
              exact ⟨none, 0, 0, by rw [isE, if_neg ht0, if_neg hs0, if_neg hz, if_neg hq, if_pos hb]; kernel_rfl, by rw [isV, if_neg ht0, if_neg hs0, if_neg hz, if_pos hb]; exact natO_nil _, by omega, BB⟩
            · have hbt := hb
              by_cases he : x0 + x0 * t / T = 10 ^ 90
              · have het := he
                refine wl_call (some 38) 10 #[.agg #[.slice As Ns Cs], .agg #[.slice Am Nm Cm]] rfl rfl (by kernel_rfl) (cmpD Os.a Om.a (by omega) (by omega) 0 (sgn_eq he)) ?_
                rintro e1 v67w ⟨rfl, B⟩
                refine ⟨_, rfl, ?_⟩
                replace h0 := h0.keep B
                replace X4 := X4.keep B
                replace X6 := X6.keep B
                replace X9 := X9.keep B
                replace Or := Or.keep B
                replace Os := Os.keep B
                replace Om := Om.keep B
                replace BB := joinB BB B
                clear B
                refine wl_take (some 39) (.bool false) rfl rfl (by kernel_rfl) ?_
                refine wl_nil ?_
                refine wp_then ?_
                refine wp_frame (a' := ⟨#[(.int .u64 T), (.agg #[.slice a0 n0 c0]), (.int .u64 t), undef, (.pointer (some ⟨g1v, 0, none⟩)), undef, (.pointer (some ⟨g2v, 0, none⟩)), (.int .i64 0), (.func (.func 39) #[] #[.pointer (some ⟨gc, 0, none⟩)]), (.pointer (some ⟨g55v, 0, none⟩)), (.bool false), (.int .u64 t), (.bool false), undef, (.bool false), (.agg #[.slice a0 n0 c0]), (.bool false), undef, undef, (.bool false), (.int .u64 T), (.bool false), undef, (.func (.func 39) #[] #[.pointer (some ⟨gc, 0, none⟩)]), (.func (.func 39) #[] #[.pointer (some ⟨gc, 0, none⟩)]), (.agg #[.slice a0 n0 c0]), (.int .u64 t), (.agg #[.slice At Nt Ct]), (.int .u64 T), (.agg #[.slice Au Nu Cu]), (.agg #[.slice Ar Nr Cr]), (.agg #[.slice Ar Nr Cr]), (.bool false), undef, (.agg #[.slice a0 n0 c0]), (.agg #[.slice Ar Nr Cr]), (.agg #[.slice As Ns Cs]), (.agg #[.slice Am Nm Cm]), (.int .i64 0), (.bool false), undef, undef], []⟩) (by kernel_rfl) ?_
                refine wp_cond_false (by kernel_rfl) ?_
                refine wp_skip_then ?_
                refine wp_seq ?_
                refine wl_start ?_
                refine wl_take (some 41) (.agg #[.slice Ar Nr Cr]) rfl rfl (run_lp 9 (by kernel_rfl) (by kernel_rfl) (ldx26 (X9.cell (i := 0) rfl))) ?_
                refine wl_set' 6 41 29 (i := 0) (.slice none 0 0) (.slice Ar Nr Cr) X6 rfl rfl rfl rfl (by kernel_rfl) (by kernel_rfl) storex26 ?_
                intro v68w hv68w
                replace BB := BB.setCell (p := ⟨g2v, 0, none⟩) (show w.heap.size ≤ g2v by omega) (.slice Ar Nr Cr)
                replace h0 := h0.put (show Slot _ _ _ _ from ⟨X6.blk⟩) not_int (.slice Ar Nr Cr)
                replace X4 := X4.off (g' := g2v) (by omega) (i := 0) (.slice Ar Nr Cr)
                replace X9 := X9.off (g' := g2v) (by omega) (i := 0) (.slice Ar Nr Cr)
                replace Or := Or.put (show Slot _ _ _ _ from ⟨X6.blk⟩) not_int (.slice Ar Nr Cr)
                replace Os := Os.put (show Slot _ _ _ _ from ⟨X6.blk⟩) not_int (.slice Ar Nr Cr)
                replace Om := Om.put (show Slot _ _ _ _ from ⟨X6.blk⟩) not_int (.slice Ar Nr Cr)
                replace X6 := X6.setCell (i := 0) (.slice Ar Nr Cr)
                rw [hv68w] at BB h0 X4 X6 X9 Or Os Om
                clear hv68w
                refine wl_take (some 7) (.int .i64 0) rfl rfl (by kernel_rfl) ?_
                refine wl_nil ?_
                refine wp_then ?_
                refine wp_frame (a' := ⟨#[(.int .u64 T), (.agg #[.slice a0 n0 c0]), (.int .u64 t), undef, (.pointer (some ⟨g1v, 0, none⟩)), undef, (.pointer (some ⟨g2v, 0, none⟩)), (.int .i64 0), (.func (.func 39) #[] #[.pointer (some ⟨gc, 0, none⟩)]), (.pointer (some ⟨g55v, 0, none⟩)), (.bool false), (.int .u64 t), (.bool false), undef, (.bool false), (.agg #[.slice a0 n0 c0]), (.bool false), undef, undef, (.bool false), (.int .u64 T), (.bool false), undef, (.func (.func 39) #[] #[.pointer (some ⟨gc, 0, none⟩)]), (.func (.func 39) #[] #[.pointer (some ⟨gc, 0, none⟩)]), (.agg #[.slice a0 n0 c0]), (.int .u64 t), (.agg #[.slice At Nt Ct]), (.int .u64 T), (.agg #[.slice Au Nu Cu]), (.agg #[.slice Ar Nr Cr]), (.agg #[.slice Ar Nr Cr]), (.bool false), undef, (.agg #[.slice a0 n0 c0]), (.agg #[.slice Ar Nr Cr]), (.agg #[.slice As Ns Cs]), (.agg #[.slice Am Nm Cm]), (.int .i64 0), (.bool false), undef, (.agg #[.slice Ar Nr Cr])], []⟩) (by kernel_rfl) ?_
                refine wp_ret ?_
                repeat (first | refine ret_then ?_ | refine ret_block ?_)
                refine bodyPost_ret (ret_dec_tmp rfl rfl rfl (show Slot _ _ _ _ from ⟨X6.blk⟩)) rfl ?_
                exact ⟨Ar, Nr, Cr, by rw [isE, if_neg ht0, if_neg hs0, if_neg hz, if_neg hq, if_neg hb]; kernel_rfl, by rw [isV, if_neg ht0, if_neg hs0, if_neg hz, if_neg hb]; exact Or, by omega, BB⟩
              · have het := he
                refine wl_call (some 38) 10 #[.agg #[.slice As Ns Cs], .agg #[.slice Am Nm Cm]] rfl rfl (by kernel_rfl) (cmpD Os.a Om.a (by omega) (by omega) (-1) (sgn_lt (lt_of hb he))) ?_
                rintro e1 v69w ⟨rfl, B⟩
                refine ⟨_, rfl, ?_⟩
                replace h0 := h0.keep B
                replace X4 := X4.keep B
                replace X6 := X6.keep B
                replace X9 := X9.keep B
                replace Or := Or.keep B
                replace Os := Os.keep B
                replace Om := Om.keep B
                replace BB := joinB BB B
                clear B
                refine wl_take (some 39) (.bool false) rfl rfl (by kernel_rfl) ?_
                refine wl_nil ?_
                refine wp_then ?_
                refine wp_frame (a' := ⟨#[(.int .u64 T), (.agg #[.slice a0 n0 c0]), (.int .u64 t), undef, (.pointer (some ⟨g1v, 0, none⟩)), undef, (.pointer (some ⟨g2v, 0, none⟩)), (.int .i64 0), (.func (.func 39) #[] #[.pointer (some ⟨gc, 0, none⟩)]), (.pointer (some ⟨g55v, 0, none⟩)), (.bool false), (.int .u64 t), (.bool false), undef, (.bool false), (.agg #[.slice a0 n0 c0]), (.bool false), undef, undef, (.bool false), (.int .u64 T), (.bool false), undef, (.func (.func 39) #[] #[.pointer (some ⟨gc, 0, none⟩)]), (.func (.func 39) #[] #[.pointer (some ⟨gc, 0, none⟩)]), (.agg #[.slice a0 n0 c0]), (.int .u64 t), (.agg #[.slice At Nt Ct]), (.int .u64 T), (.agg #[.slice Au Nu Cu]), (.agg #[.slice Ar Nr Cr]), (.agg #[.slice Ar Nr Cr]), (.bool false), undef, (.agg #[.slice a0 n0 c0]), (.agg #[.slice Ar Nr Cr]), (.agg #[.slice As Ns Cs]), (.agg #[.slice Am Nm Cm]), (.int .i64 (-1)), (.bool false), undef, undef], []⟩) (by kernel_rfl) ?_
                refine wp_cond_false (by kernel_rfl) ?_
                refine wp_skip_then ?_
                refine wp_seq ?_
                refine wl_start ?_
                refine wl_take (some 41) (.agg #[.slice Ar Nr Cr]) rfl rfl (run_lp 9 (by kernel_rfl) (by kernel_rfl) (ldx26 (X9.cell (i := 0) rfl))) ?_
                refine wl_set' 6 41 29 (i := 0) (.slice none 0 0) (.slice Ar Nr Cr) X6 rfl rfl rfl rfl (by kernel_rfl) (by kernel_rfl) storex26 ?_
                intro v70w hv70w
                replace BB := BB.setCell (p := ⟨g2v, 0, none⟩) (show w.heap.size ≤ g2v by omega) (.slice Ar Nr Cr)
                replace h0 := h0.put (show Slot _ _ _ _ from ⟨X6.blk⟩) not_int (.slice Ar Nr Cr)
                replace X4 := X4.off (g' := g2v) (by omega) (i := 0) (.slice Ar Nr Cr)
                replace X9 := X9.off (g' := g2v) (by omega) (i := 0) (.slice Ar Nr Cr)
                replace Or := Or.put (show Slot _ _ _ _ from ⟨X6.blk⟩) not_int (.slice Ar Nr Cr)
                replace Os := Os.put (show Slot _ _ _ _ from ⟨X6.blk⟩) not_int (.slice Ar Nr Cr)
                replace Om := Om.put (show Slot _ _ _ _ from ⟨X6.blk⟩) not_int (.slice Ar Nr Cr)
                replace X6 := X6.setCell (i := 0) (.slice Ar Nr Cr)
                rw [hv70w] at BB h0 X4 X6 X9 Or Os Om
                clear hv70w
                refine wl_take (some 7) (.int .i64 0) rfl rfl (by kernel_rfl) ?_
                refine wl_nil ?_
                refine wp_then ?_
                refine wp_frame (a' := ⟨#[(.int .u64 T), (.agg #[.slice a0 n0 c0]), (.int .u64 t), undef, (.pointer (some ⟨g1v, 0, none⟩)), undef, (.pointer (some ⟨g2v, 0, none⟩)), (.int .i64 0), (.func (.func 39) #[] #[.pointer (some ⟨gc, 0, none⟩)]), (.pointer (some ⟨g55v, 0, none⟩)), (.bool false), (.int .u64 t), (.bool false), undef, (.bool false), (.agg #[.slice a0 n0 c0]), (.bool false), undef, undef, (.bool false), (.int .u64 T), (.bool false), undef, (.func (.func 39) #[] #[.pointer (some ⟨gc, 0, none⟩)]), (.func (.func 39) #[] #[.pointer (some ⟨gc, 0, none⟩)]), (.agg #[.slice a0 n0 c0]), (.int .u64 t), (.agg #[.slice At Nt Ct]), (.int .u64 T), (.agg #[.slice Au Nu Cu]), (.agg #[.slice Ar Nr Cr]), (.agg #[.slice Ar Nr Cr]), (.bool false), undef, (.agg #[.slice a0 n0 c0]), (.agg #[.slice Ar Nr Cr]), (.agg #[.slice As Ns Cs]), (.agg #[.slice Am Nm Cm]), (.int .i64 (-1)), (.bool false), undef, (.agg #[.slice Ar Nr Cr])], []⟩) (by kernel_rfl) ?_
                refine wp_ret ?_
                repeat (first | refine ret_then ?_ | refine ret_block ?_)
                refine bodyPost_ret (ret_dec_tmp rfl rfl rfl (show Slot _ _ _ _ from ⟨X6.blk⟩)) rfl ?_
                exact ⟨Ar, Nr, Cr, by rw [isE, if_neg ht0, if_neg hs0, if_neg hz, if_neg hq, if_neg hb]; kernel_rfl, by rw [isV, if_neg ht0, if_neg hs0, if_neg hz, if_neg hb]; exact Or, by omega, BB⟩
        exact ar_nil
theorem run_min {a : Act} {w : World} {o : Oper} {x : Nat} {p : Int} {T : Array TypeId} (ho : o.op = .call { callee := .builtin .min, args := #[.tmp x, .const (.int .u64 10000)], argTypes := T }) (hx : a.eval (.tmp x) = .int .u64 p) : (execOp a.eval o).run Tryd.prog w = .ok (.value (.int .u64 (min p 10000))) w := by
  have hx' : a.tmps[x]?.getD undef = .int .u64 p := by simpa [Act.eval] using hx
  simp only [execOp, ho]
  go_simp
set_option maxHeartbeats 2000000 in
set_option maxRecDepth 100000 in
theorem sCut {w : World} {n p : Int} (hn : 0 ≤ n ∧ n < 18446744073709551616) (hp : 0 ≤ p ∧ p < 18446744073709551616) :
    Calls Tryd.prog 18 #[.int .u64 n, .int .u64 p] w fun e w' => e = .returned (.int .u64 (n * min p 10000 / 10000)) ∧ Below w.heap.size w w' := by
  have BB := Below.refl w.heap.size w
  go_enter Tryd.func18, Tryd.ntmps18
  refine wp_seq ?_
  refine wl_start ?_
  refine wl_take (some 4) (.int .u64 0) rfl rfl (by kernel_rfl) ?_
  refine wl_nil ?_
  refine wp_then ?_
  refine wp_frame (a' := ⟨#[(.int .u64 n), (.int .u64 p), undef, undef, (.int .u64 0), undef, undef, undef, undef, undef, undef, undef, undef, undef, undef, undef, undef, undef, undef, undef, undef, undef, undef, undef, undef, undef, undef], []⟩) (by kernel_rfl) ?_
  refine wp_seq ?_
  refine wl_start ?_
  refine wl_take (some 11) (.int .u64 n) rfl rfl (by kernel_rfl) ?_
  refine wl_call (some 12) 12 #[.int .u64 n] rfl rfl (by kernel_rfl) (nOf hn.1 hn.2) ?_
  rintro e1 v1w ⟨Aa, Na, Ca, rfl, Oa, Ka, B⟩
  refine ⟨_, rfl, ?_⟩
  replace BB := joinB BB B
  clear B
  refine wl_take (some 13) (.int .u64 p) rfl rfl (by kernel_rfl) ?_
  refine wl_take (some 14) (.int .u64 (min p 10000)) rfl rfl (run_min (x := 13) (T := #[22, 22]) (by kernel_rfl) (by kernel_rfl)) ?_
  refine wl_call (some 15) 12 #[.int .u64 (min p 10000)] rfl rfl (by kernel_rfl) (nOf (x := min p 10000) (by omega) (by omega)) ?_
  rintro e1 v2w ⟨Ab, Nb, Cb, rfl, Ob, Kb, B⟩
  refine ⟨_, rfl, ?_⟩
  replace Oa := Oa.keep B
  replace BB := joinB BB B
  clear B
  refine wl_call (some 16) 12 #[.int .u64 10000] rfl rfl (by kernel_rfl) (nOf (x := 10000) (by decide) (by decide)) ?_
  rintro e1 v3w ⟨Ac, Nc, Cc, rfl, Oc, Kc, B⟩
  refine ⟨_, rfl, ?_⟩
  replace Oa := Oa.keep B
  replace Ob := Ob.keep B
  replace BB := joinB BB B
  clear B
  refine wl_call (some 17) 34 #[.slice Aa Na Ca, .slice Ab Nb Cb, .slice Ac Nc Cc] rfl rfl (by kernel_rfl) (nMulDiv Oa.a Ob.a Oc.a (by omega) (by omega) (by omega) (by decide)) ?_
  rintro e1 v4w ⟨Aq, Nq, Cq, Ar, Nr, Cr, rfl, Oq, Or, Kq, Kr, B⟩
  refine ⟨_, rfl, ?_⟩
  replace Oa := Oa.keep B
  replace Ob := Ob.keep B
  replace Oc := Oc.keep B
  replace BB := joinB BB B
  clear B
  refine wl_take (some 10) (.tuple #[.slice Aq Nq Cq, .slice Ar Nr Cr, .int .i64 0]) rfl rfl (by kernel_rfl) ?_
  refine wl_take (some 18) (.slice Aq Nq Cq) rfl rfl (by kernel_rfl) ?_
  refine wl_take (some 19) (.slice Ar Nr Cr) rfl rfl (by kernel_rfl) ?_
  refine wl_take (some 20) (.int .i64 0) rfl rfl (by kernel_rfl) ?_
  refine wl_take (some 5) (.slice Aq Nq Cq) rfl rfl (by kernel_rfl) ?_
  refine wl_take (some 6) (.slice Ar Nr Cr) rfl rfl (by kernel_rfl) ?_
  refine wl_take (some 7) (.int .i64 0) rfl rfl (by kernel_rfl) ?_
  refine wl_nil ?_
  refine wp_then ?_
  refine wp_frame (a' := ⟨#[(.int .u64 n), (.int .u64 p), undef, undef, (.int .u64 0), (.slice Aq Nq Cq), (.slice Ar Nr Cr), (.int .i64 0), undef, undef, (.tuple #[.slice Aq Nq Cq, .slice Ar Nr Cr, .int .i64 0]), (.int .u64 n), (.slice Aa Na Ca), (.int .u64 p), (.int .u64 (min p 10000)), (.slice Ab Nb Cb), (.slice Ac Nc Cc), (.tuple #[.slice Aq Nq Cq, .slice Ar Nr Cr, .int .i64 0]), (.slice Aq Nq Cq), (.slice Ar Nr Cr), (.int .i64 0), undef, undef, undef, undef, undef, undef], []⟩) (by kernel_rfl) ?_
  refine wp_seq ?_
  refine wl_start ?_
  refine wl_take (some 22) (.slice Aq Nq Cq) rfl rfl (by kernel_rfl) ?_
  refine wl_call (some 23) 22 #[.slice Aq Nq Cq] rfl rfl (by kernel_rfl) (nSmall Oq (by omega) (by have := cut_n (q := p) hn.1; omega)) ?_
  rintro e1 v5w ⟨rfl, B⟩
  refine ⟨_, rfl, ?_⟩
  replace Oa := Oa.keep B
  replace Ob := Ob.keep B
  replace Oc := Oc.keep B
  replace Oq := Oq.keep B
  replace Or := Or.keep B
  replace BB := joinB BB B
  clear B
  refine wl_take (some 21) (.tuple #[.int .u64 (n * min p 10000 / 10000), .bool true]) rfl rfl (by kernel_rfl) ?_
  refine wl_take (some 24) (.int .u64 (n * min p 10000 / 10000)) rfl rfl (by kernel_rfl) ?_
  refine wl_take (some 25) (.bool true) rfl rfl (by kernel_rfl) ?_
  refine wl_take (some 8) (.int .u64 (n * min p 10000 / 10000)) rfl rfl (by kernel_rfl) ?_
  refine wl_take (some 9) (.bool true) rfl rfl (by kernel_rfl) ?_
  refine wl_nil ?_
  refine wp_then ?_
  refine wp_frame (a' := ⟨#[(.int .u64 n), (.int .u64 p), undef, undef, (.int .u64 0), (.slice Aq Nq Cq), (.slice Ar Nr Cr), (.int .i64 0), (.int .u64 (n * min p 10000 / 10000)), (.bool true), (.tuple #[.slice Aq Nq Cq, .slice Ar Nr Cr, .int .i64 0]), (.int .u64 n), (.slice Aa Na Ca), (.int .u64 p), (.int .u64 (min p 10000)), (.slice Ab Nb Cb), (.slice Ac Nc Cc), (.tuple #[.slice Aq Nq Cq, .slice Ar Nr Cr, .int .i64 0]), (.slice Aq Nq Cq), (.slice Ar Nr Cr), (.int .i64 0), (.tuple #[.int .u64 (n * min p 10000 / 10000), .bool true]), (.slice Aq Nq Cq), (.tuple #[.int .u64 (n * min p 10000 / 10000), .bool true]), (.int .u64 (n * min p 10000 / 10000)), (.bool true), undef], []⟩) (by kernel_rfl) ?_
  refine wp_seq ?_
  refine wl_start ?_
  refine wl_take (some 26) (.int .u64 (n * min p 10000 / 10000)) rfl rfl (by kernel_rfl) ?_
  refine wl_take (some 4) (.int .u64 (n * min p 10000 / 10000)) rfl rfl (by kernel_rfl) ?_
  refine wl_nil ?_
  refine wp_then ?_
  refine wp_frame (a' := ⟨#[(.int .u64 n), (.int .u64 p), undef, undef, (.int .u64 (n * min p 10000 / 10000)), (.slice Aq Nq Cq), (.slice Ar Nr Cr), (.int .i64 0), (.int .u64 (n * min p 10000 / 10000)), (.bool true), (.tuple #[.slice Aq Nq Cq, .slice Ar Nr Cr, .int .i64 0]), (.int .u64 n), (.slice Aa Na Ca), (.int .u64 p), (.int .u64 (min p 10000)), (.slice Ab Nb Cb), (.slice Ac Nc Cc), (.tuple #[.slice Aq Nq Cq, .slice Ar Nr Cr, .int .i64 0]), (.slice Aq Nq Cq), (.slice Ar Nr Cr), (.int .i64 0), (.tuple #[.int .u64 (n * min p 10000 / 10000), .bool true]), (.slice Aq Nq Cq), (.tuple #[.int .u64 (n * min p 10000 / 10000), .bool true]), (.int .u64 (n * min p 10000 / 10000)), (.bool true), (.int .u64 (n * min p 10000 / 10000))], []⟩) (by kernel_rfl) ?_
  refine wp_ret ?_
  repeat (first | refine ret_then ?_ | refine ret_block ?_)
  refine bodyPost_ret (results_tmp rfl _ _ _) rfl ?_
  exact ⟨by kernel_rfl, BB⟩
end Sh
end Go.Proofs.YtgflacmnfegjlaaDoor

namespace Go.Proofs.YtgflacmnfegjlaaDoor
open Go.RowKit Lim

/-- the list's values are slices of these lengths -/
def smallB (vs : List (Option Addr × Nat × Nat)) : Bool := vs.all fun v => decide (v.2.1 ≤ 60)
def theNth (vs : List (Option Addr × Nat × Nat)) (i : Nat) : Option Addr × Nat × Nat := vs.getD i (none, 0, 0)

theorem cell_new (w : World) (cs : Array Value) (t : TypeId) (i : Nat) : (w.alloc (.cells cs t)).cell? ⟨w.heap.size, i, none⟩ = cs[i]? := by
  have h : (w.alloc (.cells cs t)).heap[w.heap.size]? = some (.cells cs t (0, 0)) := by
    show (w.heap.push _)[w.heap.size]? = _
    rw [Array.getElem?_push_size]
  simp only [World.cell?, h]
  simp
/-- what the row says of a slice of limbs that came in -/
def IsRow (w : World) (a : Option Addr) (len cap : Nat) (zs : List Int) : Prop :=
  (a = none ∧ len = 0 ∧ cap = 0 ∧ zs = []) ∨
  ∃ x, a = some x ∧ len ≤ cap ∧ cap ≤ maxLen ∧ zs.length = cap ∧ (∀ i, i < zs.length → w.cell? (x.add i) = some (.int .u64 (zs.getD i 0))) ∧ ∀ n ∈ zs, (Lit.int .u64 n).wf = true
theorem IsRow.open {w : World} {a : Option Addr} {len cap : Nat} {zs : List Int} (h : IsRow w a len cap zs) : ∃ b o l, l.length = len ∧ len ≤ cap ∧ len ≤ 9223372036854775807 ∧ Words l ∧ At w a b o l := by
  rcases h with ⟨rfl, rfl, rfl, rfl⟩ | ⟨x, rfl, h1, h2, h3, h4, h5⟩
  · exact ⟨0, 0, [], rfl, Nat.le_refl _, by decide, Words.nil, .inl rfl, fun i hi => by simp at hi⟩
  · have hw : Words (zs.take len) := fun y hy => by
      have := h5 y (List.mem_of_mem_take hy)
      have := bounds_u64 this
      omega
    have hl : (zs.take len).length = len := by simp; omega
    have hmx : len ≤ 9223372036854775807 := by unfold maxLen at h2; omega
    by_cases h0 : len = 0
    · refine ⟨0, 0, zs.take len, hl, h1, hmx, hw, .inl (List.eq_nil_of_length_eq_zero (by omega)), fun i hi => by omega⟩
    · have hx := h4 0 (by omega)
      have hsp : x.spot = none := by
        rw [show x.add 0 = x from rfl] at hx
        simp only [World.cell?] at hx
        cases hh : w.heap[x.block]? with
        | none => rw [hh] at hx; simp at hx
        | some ob =>
          rw [hh] at hx
          cases ob with
          | cells c e f =>
            simp at hx
            cases hs : x.spot with
            | none => rfl
            | some s => rw [hs] at hx; simp at hx
          | _ => simp at hx
      obtain ⟨b, o, sp⟩ := x
      simp at hsp
      subst hsp
      refine ⟨b, o, zs.take len, hl, h1, hmx, hw, .inr rfl, fun i hi => ?_⟩
      have h6 := h4 i (by omega)
      rw [nth_take (by omega)]
      have e : (⟨b, o, none⟩ : Addr).add i = ⟨b, o + i, none⟩ := by
        by_cases hi0 : i = 0
        · subst hi0; rfl
        · simp [Addr.add, hi0]
      rw [e] at h6
      exact h6
end Go.Proofs.YtgflacmnfegjlaaDoor
