/- keys.Make by its two endings; lists held against one another. -/
import Derived.Test.YtfljmcfipnmkgaaKyX
namespace Go.Proofs.Ytfljmcfipnmkgaa
namespace Ky
open Go.RowKit Go.Lib Pg
attribute [local go_sem] Oper.semAt_some
abbrev U64 (a : Int) : Prop := 0 ≤ a ∧ a < 18446744073709551616
theorem make_ok {w : World} {k a b : Int} (h : U64 a) (hE : mkE k a b = false) : Calls Try.prog 18 #[.agg #[.int .i64 k, .int .u64 a, .int .u64 b]] w fun e w' => ∃ ao n c, e = .returned (.tuple #[.slice ao n c, .int .i64 0]) ∧ By w' (.slice ao n c) (mk k a b) ∧ Below w.heap.size w w' := by
  refine (make_any (w := w) (b := b) h.1 h.2).mono ?_
  rw [hE]
  rintro e w' ⟨v, rfl, O, b⟩
  obtain ⟨ao, c, rfl⟩ := OB.sh O
  exact ⟨ao, _, c, rfl, O.by, b⟩
theorem make_no {w : World} {k a b : Int} (h : U64 a) (hE : mkE k a b = true) : Calls Try.prog 18 #[.agg #[.int .i64 k, .int .u64 a, .int .u64 b]] w fun e w' => ∃ ao c, e = .returned (.tuple #[.slice ao 0 c, .int .i64 70]) ∧ Below w.heap.size w w' := by
  refine (make_any (w := w) (b := b) h.1 h.2).mono ?_
  rw [hE]
  rintro e w' ⟨v, rfl, O, b⟩
  obtain ⟨ao, c, rfl⟩ := OB.sh O
  exact ⟨ao, c, rfl, b⟩
theorem bytes_is {w : World} {u v : Value} {a b : List Int} {r : Bool} (ha : By w u a) (hb : By w v b) (hla : a.length ≤ 1000) (hlb : b.length ≤ 1000) (hr : decide (a = b) = r) : Calls Try.prog 9 #[u, v] w fun e w' => e = .returned (.bool r) ∧ Below w.heap.size w w' := by
  rw [← hr]; exact bytes_any ha hb (by omega) (by omega)
theorem less_is {w : World} {u v : Value} {a b : List Int} {r : Bool} (ha : By w u a) (hb : By w v b) (hla : a.length ≤ 1000) (hr : decide (Lt a b) = r) : Calls Try.prog 20 #[u, v] w fun e w' => e = .returned (.bool r) ∧ Below w.heap.size w w' := by
  rw [← hr]; exact less_by ha hb (by omega)
theorem begins_is {w : World} {ka pa : Option Addr} {n c m d : Nat} {k p : List Int} {r : Bool} (hk : By w (.slice ka n c) k) (hp : By w (.slice pa m d) p) (hl : p.length ≤ 1000) (hr : decide (p <+: k) = r) : Calls Try.prog 19 #[.slice ka n c, .slice pa m d] w fun e w' => e = .returned (.bool r) ∧ Below w.heap.size w w' := by
  rw [← hr]; exact begins_any hk hp (by have := (By.lens hp).1; omega)
theorem read_ok {w : World} {ao : Option Addr} {n c m : Nat} (hm : m < 17) {a b : Int} (ha : U64 a) (hb : U64 b) (hE : mkE (1 + (m : Int)) a b = false) (h : By w (.slice ao n c) (mk (1 + (m : Int)) a b)) :
    Calls Try.prog 13 #[.slice ao n c] w fun e w' => e = .returned (.tuple #[.agg #[.int .i64 (1 + (m : Int)), .int .u64 a, .int .u64 b], .int .i64 0]) ∧ Below w.heap.size w w' := by
  have e1 : (1 + (m : Int)) = ((1 + m : Nat) : Int) := by omega
  rw [e1] at hE h ⊢
  exact read_mk (by omega) (by omega) ha hb hE h (by have := (By.lens h).1; have := mk_len ((1 + m : Nat) : Int) a b; omega)

theorem read_ok10 {w : World} {ao : Option Addr} {n c : Nat} {a b : Int} (ha : U64 a) (hb : U64 b) (hE : mkE 10 a b = false) (h : By w (.slice ao n c) (mk 10 a b)) :
    Calls Try.prog 13 #[.slice ao n c] w fun e w' => e = .returned (.tuple #[.agg #[.int .i64 10, .int .u64 a, .int .u64 b], .int .i64 0]) ∧ Below w.heap.size w w' := read_ok (m := 9) (by decide) ha hb hE h
end Ky
end Go.Proofs.Ytfljmcfipnmkgaa
