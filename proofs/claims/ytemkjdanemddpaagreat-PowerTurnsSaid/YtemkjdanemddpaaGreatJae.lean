/- Several texts, joined: Num, Trim, Bits, Mem, Own, Cmp, Len, SoL. -/
import Derived.Test.YtemkjdanemddpaaGreatChecked
import Derived.WalkKit
import Derived.WalkSpells
import Derived.WalkLawsBesides
import Derived.Laws.Externs
import Derived.Laws.MathBits
import Derived.Laws.CopyOwn
import Derived.Deep.QuietTactic
import Derived.BigQuiet
import Derived.Test.YtemkjdanemddpaaGreatJad
import Derived.Laws.Bits64b
import Derived.Laws.Closers25b
/- Lists of 64-bit limbs as numbers: their values, normal lists, and that a normal list is told by its value. -/
namespace Go.Proofs.YtemkjdanemddpaaGreat
namespace Lim

def nth (l : List Int) (i : Nat) : Int := l.getD i 0

def val : List Int → Int
  | [] => 0
  | x :: l => x + 18446744073709551616 * val l

theorem nth_zero (x : Int) (l : List Int) : nth (x :: l) 0 = x := by simp [nth]
theorem nth_succ (x : Int) (l : List Int) (i : Nat) : nth (x :: l) (i + 1) = nth l i := by simp [nth]
theorem nth_take {l : List Int} {k i : Nat} (h : i < k) : nth (l.take k) i = nth l i := by
  simp [nth, h]
end Lim
end Go.Proofs.YtemkjdanemddpaaGreat

namespace Go.Proofs.YtemkjdanemddpaaGreat
open Go.RowKit Lim

end Go.Proofs.YtemkjdanemddpaaGreat

namespace Go.Proofs.YtemkjdanemddpaaGreat
open Go.RowKit Lim

end Go.Proofs.YtemkjdanemddpaaGreat

namespace Go.Proofs.YtemkjdanemddpaaGreat
open Go.RowKit Lim

theorem cell_lt {w : World} {b o : Nat} {v : Value} (h : w.cell? ⟨b, o, none⟩ = some v) : b < w.heap.size := by
  simp only [World.cell?] at h
  by_cases hb : b < w.heap.size
  · exact hb
  · rw [Array.getElem?_eq_none (by omega)] at h; simp at h
end Go.Proofs.YtemkjdanemddpaaGreat

namespace Go.Proofs.YtemkjdanemddpaaGreat
open Go.RowKit Lim

end Go.Proofs.YtemkjdanemddpaaGreat

namespace Go.Proofs.YtemkjdanemddpaaGreat
open Go.RowKit Lim

theorem ret1 {k : IntKind} {a b : Int} (h : a = b) : Ending.returned (.int k a) = .returned (.int k b) := by rw [h]

end Go.Proofs.YtemkjdanemddpaaGreat

namespace Go.Proofs.YtemkjdanemddpaaGreat
open Go.RowKit Lim

theorem w64 (z : Int) (h0 : 0 ≤ z) (h1 : z ≤ 1000) : wrap64 z = z := by
  unfold wrap64; omega
theorem len_arm (k : Int) (i : Nat) (h0 : 0 ≤ k) (hk : k ≤ 56) (h : i < 256) : wrap64 (k + wrap64 (bitLen i : Int)) = k + bitLen i := by
  have := bitLen_le8 i h
  rw [w64 (bitLen i) (by omega) (by omega), w64 _ (by omega) (by omega)]
theorem len_up (x : Int) (b i : Nat) (h : x.toNat / 2 ^ b = i) (hi : i ≠ 0) : ((bitLen x.toNat : Nat) : Int) = b + bitLen i := by
  rw [bitLen_shift x.toNat b (by rw [h]; exact hi), h]; omega

set_option maxHeartbeats 2000000 in
set_option maxRecDepth 100000 in
theorem len64 (x : Int) (w : World) (h0 : 0 ≤ x) (h1 : x < 18446744073709551616) :
    Calls Tryz.prog 108 #[.int .u64 x] w fun e w' => e = .returned (.int .i64 (bitLen x.toNat)) ∧ w' = w := by
  by_cases c0 : 4294967296 ≤ x
  · by_cases c1 : 65536 ≤ x / 4294967296
    · by_cases c2 : 256 ≤ x / 4294967296 / 65536
      · go_enter Tryz.func108, Tryz.ntmps108
        go_wp2
        go_ret
        refine ⟨ret1 ?_, rfl⟩
        rw [len8tab_get, len_arm 56 (x / 4294967296 / 65536 / 256).toNat (by decide) (by decide) (by omega), len_up x 56 (x / 4294967296 / 65536 / 256).toNat (by rw [show (2 : Nat) ^ 56 = 72057594037927936 from rfl]; omega) (by omega)]
        rfl
      · go_enter Tryz.func108, Tryz.ntmps108
        go_wp2
        go_ret
        refine ⟨ret1 ?_, rfl⟩
        rw [len8tab_get, len_arm 48 (x / 4294967296 / 65536).toNat (by decide) (by decide) (by omega), len_up x 48 (x / 4294967296 / 65536).toNat (by rw [show (2 : Nat) ^ 48 = 281474976710656 from rfl]; omega) (by omega)]
        rfl
    · by_cases c2 : 256 ≤ x / 4294967296
      · go_enter Tryz.func108, Tryz.ntmps108
        go_wp2
        go_ret
        refine ⟨ret1 ?_, rfl⟩
        rw [len8tab_get, len_arm 40 (x / 4294967296 / 256).toNat (by decide) (by decide) (by omega), len_up x 40 (x / 4294967296 / 256).toNat (by rw [show (2 : Nat) ^ 40 = 1099511627776 from rfl]; omega) (by omega)]
        rfl
      · go_enter Tryz.func108, Tryz.ntmps108
        go_wp2
        go_ret
        refine ⟨ret1 ?_, rfl⟩
        rw [len8tab_get, len_arm 32 (x / 4294967296).toNat (by decide) (by decide) (by omega), len_up x 32 (x / 4294967296).toNat (by rw [show (2 : Nat) ^ 32 = 4294967296 from rfl]; omega) (by omega)]
        rfl
  · by_cases c1 : 65536 ≤ x
    · by_cases c2 : 256 ≤ x / 65536
      · go_enter Tryz.func108, Tryz.ntmps108
        go_wp2
        go_ret
        refine ⟨ret1 ?_, rfl⟩
        rw [len8tab_get, len_arm 24 (x / 65536 / 256).toNat (by decide) (by decide) (by omega), len_up x 24 (x / 65536 / 256).toNat (by rw [show (2 : Nat) ^ 24 = 16777216 from rfl]; omega) (by omega)]
        rfl
      · go_enter Tryz.func108, Tryz.ntmps108
        go_wp2
        go_ret
        refine ⟨ret1 ?_, rfl⟩
        rw [len8tab_get, len_arm 16 (x / 65536).toNat (by decide) (by decide) (by omega), len_up x 16 (x / 65536).toNat (by rw [show (2 : Nat) ^ 16 = 65536 from rfl]; omega) (by omega)]
        rfl
    · by_cases c2 : 256 ≤ x
      · go_enter Tryz.func108, Tryz.ntmps108
        go_wp2
        go_ret
        refine ⟨ret1 ?_, rfl⟩
        rw [len8tab_get, len_arm 8 (x / 256).toNat (by decide) (by decide) (by omega), len_up x 8 (x / 256).toNat (by rw [show (2 : Nat) ^ 8 = 256 from rfl]; omega) (by omega)]
        rfl
      · go_enter Tryz.func108, Tryz.ntmps108
        go_wp2
        go_ret
        refine ⟨ret1 ?_, rfl⟩
        rw [len8tab_get]
        have := bitLen_le8 x.toNat (by omega)
        rw [w64 (bitLen x.toNat : Int) (by omega) (by omega), w64 _ (by omega) (by omega)]

end Go.Proofs.YtemkjdanemddpaaGreat

namespace Go.Proofs.YtemkjdanemddpaaGreat
namespace So
open Go.RowKit Go.Lib Pg Gl
set_option maxRecDepth 100000
set_option linter.unusedVariables false
set_option linter.unusedSimpArgs false
set_option maxHeartbeats 4000000
theorem len_any {w : World} {x : Int} (h0 : 0 ≤ x) (h1 : x < 18446744073709551616) : Calls Tryz.prog 83 #[.int .u64 x] w fun e w' => e = .returned (.int .i64 ((bitLen x.toNat : Nat) : Int)) ∧ Below w.heap.size w w' := by
  have BB := Below.refl w.heap.size w
  refine gc_enter (n := 8) Tryz.func83 rfl (by kernel_rfl) (by kernel_rfl) ?_
  refine gc_seq ?_
  refine gc_reg ?_
  refine t 2 (.int .i64 0) ?_
  refine gl_nil ?_
  refine ge_then ?_
  refine gc_seq ?_
  refine gc_no ?_
  refine gc_skip ?_
  refine ge_then ?_
  refine gc_seq ?_
  refine gc_reg ?_
  refine t 6 (.int .u64 x) ?_
  refine tc 7 108 #[.int .u64 x] (len64 x _ h0 h1) ?_
  rintro _ v1 ⟨rfl, hw⟩
  refine ⟨_, rfl, ?_⟩
  subst hw
  refine t 2 (.int .i64 ((bitLen x.toNat : Nat) : Int)) ?_
  refine gl_nil ?_
  refine ge_then ?_
  refine gc_ret ?_
  refine ge_ret (.int .i64 ((bitLen x.toNat : Nat) : Int)) (rs1 2 (by kernel_rfl) (by kernel_rfl)) ?_
  exact ⟨rfl, BB⟩
theorem pow_two {L : Nat} (h : 1 ≤ L) : 2 ^ bitLen L ≤ 2 * L ∧ 1 ≤ 2 ^ bitLen L := by
  unfold bitLen
  rw [if_neg (by omega), Nat.pow_succ]
  have h1 := Nat.log2_self_le (n := L) (by omega)
  have h4 : 1 ≤ 2 ^ L.log2 := Nat.one_le_two_pow
  omega
attribute [local go_sem] Oper.semAt_some
theorem small_k {k : Nat} (hk : 2 ^ k ≤ 4000000000) : k < 32 := by
  rcases Nat.lt_or_ge k 32 with c | c
  · exact c
  · have := Nat.pow_le_pow_right (show 1 ≤ 2 by decide) c
    omega
theorem run_shl1 {ρ : Operand → Value} {w : World} {o : Oper} (k : Nat) (hk : 2 ^ k ≤ 4000000000) (ho : ∃ x y, o.op = .binOp .shl 133 x y 3 ∧ ρ x = .int .u64 1 ∧ ρ y = .int .i64 ((k : Nat) : Int) := by exact ⟨_, _, rfl, by kernel_rfl, by kernel_rfl⟩) : (execOp ρ o).run Tryz.prog w = .ok (.value (.int .u64 ((2 ^ k : Nat) : Int))) w := by
  obtain ⟨x, y, h, hx, hy⟩ := ho
  have h32 := small_k hk
  simp only [execOp, h, hx, hy]
  go_simp
  have e : ((2 : Int) ^ k) = ((2 ^ k : Nat) : Int) := by push_cast; rfl
  obtain ⟨m, hm⟩ : ∃ m, 2 ^ k = m := ⟨_, rfl⟩
  rw [hm] at e hk
  rw [e, IntKind.wrap_u64]
  omega
theorem run_shr7 {ρ : Operand → Value} {w : World} {o : Oper} (p : Int) (ho : ∃ x y, o.op = .binOp .shr 181 x y 133 ∧ ρ x = .int .u64 p ∧ ρ y = .int .u64 7 := by exact ⟨_, _, rfl, by kernel_rfl, by kernel_rfl⟩) : (execOp ρ o).run Tryz.prog w = .ok (.value (.int .u64 (p / 128))) w := by
  obtain ⟨x, y, h, hx, hy⟩ := ho
  simp only [execOp, h, hx, hy]
  go_simp
theorem run_and1 {ρ : Operand → Value} {w : World} {o : Oper} (p : Int) (k : Nat) (hk : 2 ^ k ≤ 4000000000) (hp : 0 ≤ p ∧ p < 18446744073709551616) (ho : ∃ x y, o.op = .binOp .and 133 x y 133 ∧ ρ x = .int .u64 p ∧ ρ y = .int .u64 (((2 ^ k : Nat) : Int) - 1) := by exact ⟨_, _, rfl, by kernel_rfl, by kernel_rfl⟩) : (execOp ρ o).run Tryz.prog w = .ok (.value (.int .u64 ((p.toNat % 2 ^ k : Nat) : Int))) w := by
  obtain ⟨x, y, h, hx, hy⟩ := ho
  have h1 : 1 ≤ 2 ^ k := Nat.one_le_two_pow
  have e : ((2 ^ k : Nat) : Int) - 1 = ((2 ^ k - 1 : Nat) : Int) := by omega
  obtain ⟨P, rfl⟩ : ∃ P : Nat, p = P := ⟨p.toNat, by omega⟩
  rw [e] at hy
  obtain ⟨m, hm⟩ : ∃ m, 2 ^ k - 1 = m := ⟨_, rfl⟩
  rw [hm] at hy
  have hb := bits_and_u64_nat P m (by omega) (by omega)
  have hx2 : P &&& m = P % 2 ^ k := by rw [← hm]; exact Nat.and_two_pow_sub_one_eq_mod P k
  rw [hx2] at hb
  simp only [execOp, h, hx, hy]
  go_simp
theorem bx_rng (p q : Int) : 0 ≤ bits BinOp.xor IntKind.u64 p q ∧ bits BinOp.xor IntKind.u64 p q < 18446744073709551616 := by
  have h := bits_within BinOp.xor IntKind.u64 p q
  have h1 : IntKind.u64.min = 0 := rfl
  have h2 : IntKind.u64.max = 18446744073709551615 := rfl
  omega
theorem cvA {ρ : Operand → Value} {w : World} {o : Oper} (k : Int) (hk : 0 ≤ k ∧ k < 9223372036854775808) (ho : ∃ u, o.op = .convert 3 181 u ∧ ρ u = .int .i64 k := by exact ⟨_, rfl, by kernel_rfl⟩) : (execOp ρ o).run Tryz.prog w = .ok (.value (.int .u64 k)) w := by
  obtain ⟨u, h, h1⟩ := ho
  simp only [execOp, h, h1]
  go_simp
  rw [IntKind.wrap_u64]
  omega
theorem cvB {ρ : Operand → Value} {w : World} {o : Oper} (k : Int) (hk : 0 ≤ k ∧ k < 9223372036854775808) (ho : ∃ u, o.op = .convert 3 133 u ∧ ρ u = .int .i64 k := by exact ⟨_, rfl, by kernel_rfl⟩) : (execOp ρ o).run Tryz.prog w = .ok (.value (.int .u64 k)) w := by
  obtain ⟨u, h, h1⟩ := ho
  simp only [execOp, h, h1]
  go_simp
  rw [IntKind.wrap_u64]
  omega
theorem cvC {ρ : Operand → Value} {w : World} {o : Oper} (k : Int) (hk : 0 ≤ k ∧ k < 9223372036854775808) (ho : ∃ u, o.op = .convert 133 3 u ∧ ρ u = .int .u64 k := by exact ⟨_, rfl, by kernel_rfl⟩) : (execOp ρ o).run Tryz.prog w = .ok (.value (.int .i64 k)) w := by
  obtain ⟨u, h, h1⟩ := ho
  simp only [execOp, h, h1]
  go_simp
  rw [IntKind.wrap_i64]
  omega
theorem pow_any {w : World} {L : Nat} (h1 : 1 ≤ L) (h2 : L ≤ 1000000000) : Calls Tryz.prog 123 #[.int .i64 (L : Int)] w fun e w' => e = .returned (.int .u64 ((2 ^ bitLen L : Nat) : Int)) ∧ Below w.heap.size w w' := by
  have BB := Below.refl w.heap.size w
  refine gc_enter (n := 7) Tryz.func123 rfl (by kernel_rfl) (by kernel_rfl) ?_
  refine gc_seq ?_
  refine gc_reg ?_
  refine t 2 (.int .u64 0) ?_
  refine gl_nil ?_
  refine ge_then ?_
  refine gc_seq ?_
  refine gc_reg ?_
  refine t 3 (.int .i64 (L : Int)) ?_
  refine tr 4 (.int .u64 (L : Int)) (cvB (L : Int) ⟨by omega, by omega⟩) ?_
  refine tc 5 83 #[.int .u64 (L : Int)] (len_any (x := (L : Int)) (by omega) (by omega)) ?_
  rintro _ v1 ⟨rfl, B⟩
  refine ⟨_, rfl, ?_⟩
  replace BB := joinB BB B
  clear B
  refine tr 6 (.int .u64 ((2 ^ bitLen L : Nat) : Int)) (run_shl1 (bitLen L) (by have := (pow_two h1).1; omega)) ?_
  refine t 2 (.int .u64 ((2 ^ bitLen L : Nat) : Int)) ?_
  refine gl_nil ?_
  refine ge_then ?_
  refine gc_ret ?_
  refine ge_ret (.int .u64 ((2 ^ bitLen L : Nat) : Int)) (rs1 2 (by kernel_rfl) (by kernel_rfl)) ?_
  exact ⟨rfl, BB⟩
theorem next_any {w : World} {g : Nat} {x : Int} (X : Blk w g [.int .u64 x] 181) : Calls Tryz.prog 124 #[pg g] w fun e w' => ∃ y, e = .returned (.int .u64 y) ∧ (0 ≤ y ∧ y < 18446744073709551616) ∧ Blk w' g [.int .u64 y] 181 ∧ Chg (· = g) w w' := by
  have CC : Chg (· = g) w w := Chg.of (Below.refl _ _)
  refine gc_enter (n := 33) Tryz.func124 rfl (by kernel_rfl) (by kernel_rfl) ?_
  refine gc_seq ?_
  refine gc_reg ?_
  refine t 2 (.int .u64 0) ?_
  refine gl_nil ?_
  refine ge_then ?_
  refine gc_seq ?_
  replace CC := CC.drew
  replace X := X.drew
  refine gc_draw (fun w' => Blk w' g [.int .u64 x] 181) (fun i => decide (9 ≤ i)) X ?_
  refine zp 0 3 (pg g) ?_
  refine zp 1 4 (pg g) ?_
  refine zl 2 5 (.int .u64 x) (fun _ h => h) 0 ?_
  refine zp 3 6 (pg g) ?_
  refine zp 4 7 (pg g) ?_
  refine zl 5 8 (.int .u64 x) (fun _ h => h) 0 ?_
  refine zp 6 9 (.int .u64 (IntKind.u64.wrap (x * 8192))) ?_
  refine zp 7 10 (.int .u64 (bits BinOp.xor IntKind.u64 x (IntKind.u64.wrap (x * 8192)))) ?_
  refine zp 8 11 (pg g) ?_
  refine gz_late ?_
  refine ys 9 X 0 (.int .u64 (bits BinOp.xor IntKind.u64 x (IntKind.u64.wrap (x * 8192)))) [.int .u64 (bits BinOp.xor IntKind.u64 x (IntKind.u64.wrap (x * 8192)))] [.int .u64 (bits BinOp.xor IntKind.u64 x (IntKind.u64.wrap (x * 8192)))] ?_
  intro v1 Y C
  replace CC := CC.trans C (fun _ _ h => h)
  clear C X
  have X := Y
  clear Y
  refine gy_done ?_
  refine ge_then ?_
  refine gc_seq ?_
  replace CC := CC.drew
  replace X := X.drew
  refine gc_draw (fun w' => Blk w' g [.int .u64 (bits BinOp.xor IntKind.u64 x (IntKind.u64.wrap (x * 8192)))] 181) (fun i => decide (9 ≤ i)) X ?_
  refine zp 0 12 (pg g) ?_
  refine zp 1 13 (pg g) ?_
  refine zl 2 14 (.int .u64 (bits BinOp.xor IntKind.u64 x (IntKind.u64.wrap (x * 8192)))) (fun _ h => h) 0 ?_
  refine zp 3 15 (pg g) ?_
  refine zp 4 16 (pg g) ?_
  refine zl 5 17 (.int .u64 (bits BinOp.xor IntKind.u64 x (IntKind.u64.wrap (x * 8192)))) (fun _ h => h) 0 ?_
  refine zp 6 18 (.int .u64 ((bits BinOp.xor IntKind.u64 x (IntKind.u64.wrap (x * 8192))) / 128)) ?_ (hrun := fun _ => run_shr7 (bits BinOp.xor IntKind.u64 x (IntKind.u64.wrap (x * 8192))))
  refine zp 7 19 (.int .u64 (bits BinOp.xor IntKind.u64 (bits BinOp.xor IntKind.u64 x (IntKind.u64.wrap (x * 8192))) ((bits BinOp.xor IntKind.u64 x (IntKind.u64.wrap (x * 8192))) / 128))) ?_
  refine zp 8 20 (pg g) ?_
  refine gz_late ?_
  refine ys 9 X 0 (.int .u64 (bits BinOp.xor IntKind.u64 (bits BinOp.xor IntKind.u64 x (IntKind.u64.wrap (x * 8192))) ((bits BinOp.xor IntKind.u64 x (IntKind.u64.wrap (x * 8192))) / 128))) [.int .u64 (bits BinOp.xor IntKind.u64 (bits BinOp.xor IntKind.u64 x (IntKind.u64.wrap (x * 8192))) ((bits BinOp.xor IntKind.u64 x (IntKind.u64.wrap (x * 8192))) / 128))] [.int .u64 (bits BinOp.xor IntKind.u64 (bits BinOp.xor IntKind.u64 x (IntKind.u64.wrap (x * 8192))) ((bits BinOp.xor IntKind.u64 x (IntKind.u64.wrap (x * 8192))) / 128))] ?_
  intro v2 Y C
  replace CC := CC.trans C (fun _ _ h => h)
  clear C X
  have X := Y
  clear Y
  refine gy_done ?_
  refine ge_then ?_
  refine gc_fr [(0, pg g), (2, .int .u64 0)] (by kernel_rfl) ?_
  refine gc_seq ?_
  replace CC := CC.drew
  replace X := X.drew
  refine gc_draw (fun w' => Blk w' g [.int .u64 (bits BinOp.xor IntKind.u64 (bits BinOp.xor IntKind.u64 x (IntKind.u64.wrap (x * 8192))) ((bits BinOp.xor IntKind.u64 x (IntKind.u64.wrap (x * 8192))) / 128))] 181) (fun i => decide (9 ≤ i)) X ?_
  refine zp 0 21 (pg g) ?_
  refine zp 1 22 (pg g) ?_
  refine zl 2 23 (.int .u64 (bits BinOp.xor IntKind.u64 (bits BinOp.xor IntKind.u64 x (IntKind.u64.wrap (x * 8192))) ((bits BinOp.xor IntKind.u64 x (IntKind.u64.wrap (x * 8192))) / 128))) (fun _ h => h) 0 ?_
  refine zp 3 24 (pg g) ?_
  refine zp 4 25 (pg g) ?_
  refine zl 5 26 (.int .u64 (bits BinOp.xor IntKind.u64 (bits BinOp.xor IntKind.u64 x (IntKind.u64.wrap (x * 8192))) ((bits BinOp.xor IntKind.u64 x (IntKind.u64.wrap (x * 8192))) / 128))) (fun _ h => h) 0 ?_
  refine zp 6 27 (.int .u64 (IntKind.u64.wrap ((bits BinOp.xor IntKind.u64 (bits BinOp.xor IntKind.u64 x (IntKind.u64.wrap (x * 8192))) ((bits BinOp.xor IntKind.u64 x (IntKind.u64.wrap (x * 8192))) / 128)) * 131072))) ?_
  refine zp 7 28 (.int .u64 (bits BinOp.xor IntKind.u64 (bits BinOp.xor IntKind.u64 (bits BinOp.xor IntKind.u64 x (IntKind.u64.wrap (x * 8192))) ((bits BinOp.xor IntKind.u64 x (IntKind.u64.wrap (x * 8192))) / 128)) (IntKind.u64.wrap ((bits BinOp.xor IntKind.u64 (bits BinOp.xor IntKind.u64 x (IntKind.u64.wrap (x * 8192))) ((bits BinOp.xor IntKind.u64 x (IntKind.u64.wrap (x * 8192))) / 128)) * 131072)))) ?_
  refine zp 8 29 (pg g) ?_
  refine gz_late ?_
  refine ys 9 X 0 (.int .u64 (bits BinOp.xor IntKind.u64 (bits BinOp.xor IntKind.u64 (bits BinOp.xor IntKind.u64 x (IntKind.u64.wrap (x * 8192))) ((bits BinOp.xor IntKind.u64 x (IntKind.u64.wrap (x * 8192))) / 128)) (IntKind.u64.wrap ((bits BinOp.xor IntKind.u64 (bits BinOp.xor IntKind.u64 x (IntKind.u64.wrap (x * 8192))) ((bits BinOp.xor IntKind.u64 x (IntKind.u64.wrap (x * 8192))) / 128)) * 131072)))) [.int .u64 (bits BinOp.xor IntKind.u64 (bits BinOp.xor IntKind.u64 (bits BinOp.xor IntKind.u64 x (IntKind.u64.wrap (x * 8192))) ((bits BinOp.xor IntKind.u64 x (IntKind.u64.wrap (x * 8192))) / 128)) (IntKind.u64.wrap ((bits BinOp.xor IntKind.u64 (bits BinOp.xor IntKind.u64 x (IntKind.u64.wrap (x * 8192))) ((bits BinOp.xor IntKind.u64 x (IntKind.u64.wrap (x * 8192))) / 128)) * 131072)))] [.int .u64 (bits BinOp.xor IntKind.u64 (bits BinOp.xor IntKind.u64 (bits BinOp.xor IntKind.u64 x (IntKind.u64.wrap (x * 8192))) ((bits BinOp.xor IntKind.u64 x (IntKind.u64.wrap (x * 8192))) / 128)) (IntKind.u64.wrap ((bits BinOp.xor IntKind.u64 (bits BinOp.xor IntKind.u64 x (IntKind.u64.wrap (x * 8192))) ((bits BinOp.xor IntKind.u64 x (IntKind.u64.wrap (x * 8192))) / 128)) * 131072)))] ?_
  intro v3 Y C
  replace CC := CC.trans C (fun _ _ h => h)
  clear C X
  have X := Y
  clear Y
  refine gy_done ?_
  refine ge_then ?_
  refine gc_seq ?_
  refine gc_reg ?_
  refine t 30 (pg g) ?_
  refine t 31 (pg g) ?_
  refine tl 32 (.int .u64 (bits BinOp.xor IntKind.u64 (bits BinOp.xor IntKind.u64 (bits BinOp.xor IntKind.u64 x (IntKind.u64.wrap (x * 8192))) ((bits BinOp.xor IntKind.u64 x (IntKind.u64.wrap (x * 8192))) / 128)) (IntKind.u64.wrap ((bits BinOp.xor IntKind.u64 (bits BinOp.xor IntKind.u64 x (IntKind.u64.wrap (x * 8192))) ((bits BinOp.xor IntKind.u64 x (IntKind.u64.wrap (x * 8192))) / 128)) * 131072)))) X 0 ?_
  refine t 2 (.int .u64 (bits BinOp.xor IntKind.u64 (bits BinOp.xor IntKind.u64 (bits BinOp.xor IntKind.u64 x (IntKind.u64.wrap (x * 8192))) ((bits BinOp.xor IntKind.u64 x (IntKind.u64.wrap (x * 8192))) / 128)) (IntKind.u64.wrap ((bits BinOp.xor IntKind.u64 (bits BinOp.xor IntKind.u64 x (IntKind.u64.wrap (x * 8192))) ((bits BinOp.xor IntKind.u64 x (IntKind.u64.wrap (x * 8192))) / 128)) * 131072)))) ?_
  refine gl_nil ?_
  refine ge_then ?_
  refine gc_fr [(2, .int .u64 (bits BinOp.xor IntKind.u64 (bits BinOp.xor IntKind.u64 (bits BinOp.xor IntKind.u64 x (IntKind.u64.wrap (x * 8192))) ((bits BinOp.xor IntKind.u64 x (IntKind.u64.wrap (x * 8192))) / 128)) (IntKind.u64.wrap ((bits BinOp.xor IntKind.u64 (bits BinOp.xor IntKind.u64 x (IntKind.u64.wrap (x * 8192))) ((bits BinOp.xor IntKind.u64 x (IntKind.u64.wrap (x * 8192))) / 128)) * 131072))))] (by kernel_rfl) ?_
  refine gc_ret ?_
  refine ge_ret (.int .u64 (bits BinOp.xor IntKind.u64 (bits BinOp.xor IntKind.u64 (bits BinOp.xor IntKind.u64 x (IntKind.u64.wrap (x * 8192))) ((bits BinOp.xor IntKind.u64 x (IntKind.u64.wrap (x * 8192))) / 128)) (IntKind.u64.wrap ((bits BinOp.xor IntKind.u64 (bits BinOp.xor IntKind.u64 x (IntKind.u64.wrap (x * 8192))) ((bits BinOp.xor IntKind.u64 x (IntKind.u64.wrap (x * 8192))) / 128)) * 131072)))) (rs1 2 (by kernel_rfl) (by kernel_rfl)) ?_
  exact ⟨_, rfl, bx_rng _ _, X, CC⟩
theorem Sr.off {w w1 w2 : World} {g gr N : Nat} {f : Nat → Int} (r : Sr w g N w1 f) (c : Chg (· = gr) w1 w2) (hne : ¬ g = gr) (hr : w.heap.size ≤ gr) : Sr w g N w2 f := ⟨r.blk.chg c hne, r.chg.trans c (fun k hk e => by have e' : k = gr := e; omega)⟩
theorem break_any {w : World} {g N n c a b : Nat} {f : Nat → Int} (X : Blk w g (cs N f) 31) (hn : n ≤ N) (hN : n ≤ 1000000000) (hab : a < b) (hb : b ≤ n) : Calls Tryz.prog 100 #[.slice (some ⟨g, 0, none⟩) n c, .int .i64 (a : Int), .int .i64 (b : Int)] w (PmE w g N a b f) := by
  have R := sr_of X
  refine gc_enter (n := 65) Tryz.func100 rfl (by kernel_rfl) (by kernel_rfl) ?_
  refine gc_seq ?_
  refine gc_reg ?_
  refine t 11 (.int .i64 (b : Int)) ?_
  refine t 12 (.int .i64 (a : Int)) ?_
  refine tq 13 (.int .i64 (IntKind.i64.wrap ((b : Int) - (a : Int)))) (.int .i64 ((b - a : Nat) : Int)) ((wi (by omega)).trans (congrArg (Value.int .i64) (by omega))) ?_
  refine t 6 (.int .i64 ((b - a : Nat) : Int)) ?_
  refine gl_nil ?_
  refine ge_then ?_
  refine gc_seq ?_
  refine gc_reg ?_
  refine t 14 (.int .i64 ((b - a : Nat) : Int)) ?_
  by_cases c1 : (8 : Int) ≤ ((b - a : Nat) : Int)
  · refine tq 15 (.bool (decide ((8 : Int) ≤ ((b - a : Nat) : Int)))) (.bool true) (congrArg Value.bool (decide_eq_true c1)) ?_
    refine gl_nil ?_
    refine ge_then ?_
    refine gc_yes ?_
    refine gc_seq ?_
    refine gc_reg ?_
    refine t 16 (.int .i64 ((b - a : Nat) : Int)) ?_
    refine tr 17 (.int .u64 ((b - a : Nat) : Int)) (cvA ((b - a : Nat) : Int) ⟨by omega, by omega⟩) ?_
    have lX := R.blk.lt
    have szR := R.chg.size
    refine ta 7 [.int .u64 0] 181 (pg) ?_
    intro v2 gr Y hgr B
    replace R := R.keep B
    have hne : ¬ g = gr := by omega
    have hr : w.heap.size ≤ gr := by omega
    clear B
    refine ts Y 0 (.int .u64 ((b - a : Nat) : Int)) [.int .u64 ((b - a : Nat) : Int)] [.int .u64 ((b - a : Nat) : Int)] ?_
    intro v3 Y2 C
    replace R := R.off C hne hr
    clear Y C
    have Y := Y2
    clear Y2
    refine gl_nil ?_
    refine ge_then ?_
    refine gc_fr [(0, .slice (some ⟨g, 0, none⟩) n c), (1, .int .i64 (a : Int)), (6, .int .i64 ((b - a : Nat) : Int)), (7, pg gr)] (by kernel_rfl) ?_
    refine gc_seq ?_
    refine gc_reg ?_
    refine t 18 (.int .i64 ((b - a : Nat) : Int)) ?_
    refine tc 19 123 #[.int .i64 ((b - a : Nat) : Int)] (pow_any (L := b - a) (by omega) (by omega)) ?_
    rintro _ v4 ⟨rfl, B⟩
    refine ⟨_, rfl, ?_⟩
    replace R := R.keep B
    replace Y := Y.keep B
    clear B
    obtain ⟨hp1, hp2⟩ := pow_two (show 1 ≤ b - a by omega)
    refine t 8 (.int .u64 ((2 ^ bitLen (b - a) : Nat) : Int)) ?_
    refine gl_nil ?_
    refine ge_then ?_
    refine gc_seq ?_
    refine gc_reg ?_
    refine t 20 (.int .i64 (a : Int)) ?_
    refine t 21 (.int .i64 ((b - a : Nat) : Int)) ?_
    refine tr 22 (.int .i64 (((b - a) / 4 : Nat) : Int)) (congr_v (congrArg (Value.int .i64) (show ((b - a : Nat) : Int) / 4 = (((b - a) / 4 : Nat) : Int) by omega)) (run_quoi ((b - a : Nat) : Int) 4 ⟨by omega, by omega⟩ ⟨by decide, by decide⟩)) ?_
    refine tq 23 (.int .i64 (IntKind.i64.wrap ((((b - a) / 4 : Nat) : Int) * 2))) (.int .i64 ((((b - a) / 4) * 2 : Nat) : Int)) ((wi (by omega)).trans (congrArg (Value.int .i64) (by omega))) ?_
    refine tq 24 (.int .i64 (IntKind.i64.wrap ((a : Int) + ((((b - a) / 4) * 2 : Nat) : Int)))) (.int .i64 ((a + (((b - a) / 4) * 2) : Nat) : Int)) ((wi (by omega)).trans (congrArg (Value.int .i64) (by omega))) ?_
    refine tq 25 (.int .i64 (IntKind.i64.wrap (((a + (((b - a) / 4) * 2) : Nat) : Int) - 1))) (.int .i64 (((a + (((b - a) / 4) * 2)) - 1 : Nat) : Int)) ((wi (by omega)).trans (congrArg (Value.int .i64) (by omega))) ?_
    refine t 9 (.int .i64 (((a + (((b - a) / 4) * 2)) - 1 : Nat) : Int)) ?_
    refine gl_nil ?_
    refine ge_then ?_
    refine gc_block ?_
    refine gc_loop (fun x => a + (b - a) / 4 * 2 + 2 - x.1) (fun (x : Nat × Int × (Nat → Int)) => [(0, .slice (some ⟨g, 0, none⟩) n c), (1, .int .i64 (a : Int)), (6, .int .i64 ((b - a : Nat) : Int)), (7, pg gr), (8, .int .u64 ((2 ^ bitLen (b - a) : Nat) : Int)), (9, .int .i64 (x.1 : Int))]) (fun x w' => Sr w g N w' x.2.2 ∧ Blk w' gr [.int .u64 x.2.1] 181 ∧ (a + (b - a) / 4 * 2 - 1 ≤ x.1 ∧ x.1 ≤ a + (b - a) / 4 * 2 + 2) ∧ Pm a b f x.2.2) (((a + (((b - a) / 4) * 2)) - 1, ((b - a : Nat) : Int), f) : Nat × Int × (Nat → Int)) ⟨R, Y, ⟨by show a + (b - a) / 4 * 2 - 1 ≤ a + (b - a) / 4 * 2 - 1; omega, by show a + (b - a) / 4 * 2 - 1 ≤ a + (b - a) / 4 * 2 + 2; omega⟩, Pm.refl⟩ (by kernel_rfl) ?_
    clear R Y
    rintro ⟨i, xr, f1⟩ v5 ⟨R, Y, hi, q1⟩
    dsimp only at R Y hi q1
    refine gc_seq ?_
    refine gc_seq ?_
    refine gc_reg ?_
    refine t 26 (.int .i64 (i : Int)) ?_
    refine t 27 (.int .i64 (a : Int)) ?_
    refine t 28 (.int .i64 ((b - a : Nat) : Int)) ?_
    refine tr 29 (.int .i64 (((b - a) / 4 : Nat) : Int)) (congr_v (congrArg (Value.int .i64) (show ((b - a : Nat) : Int) / 4 = (((b - a) / 4 : Nat) : Int) by omega)) (run_quoi ((b - a : Nat) : Int) 4 ⟨by omega, by omega⟩ ⟨by decide, by decide⟩)) ?_
    refine tq 30 (.int .i64 (IntKind.i64.wrap ((((b - a) / 4 : Nat) : Int) * 2))) (.int .i64 ((((b - a) / 4) * 2 : Nat) : Int)) ((wi (by omega)).trans (congrArg (Value.int .i64) (by omega))) ?_
    refine tq 31 (.int .i64 (IntKind.i64.wrap ((a : Int) + ((((b - a) / 4) * 2 : Nat) : Int)))) (.int .i64 ((a + (((b - a) / 4) * 2) : Nat) : Int)) ((wi (by omega)).trans (congrArg (Value.int .i64) (by omega))) ?_
    refine tq 32 (.int .i64 (IntKind.i64.wrap (((a + (((b - a) / 4) * 2) : Nat) : Int) + 1))) (.int .i64 (((a + (((b - a) / 4) * 2)) + 1 : Nat) : Int)) ((wi (by omega)).trans (congrArg (Value.int .i64) (by omega))) ?_
    by_cases c6 : (i : Int) ≤ (((a + (((b - a) / 4) * 2)) + 1 : Nat) : Int)
    · refine tq 33 (.bool (decide ((i : Int) ≤ (((a + (((b - a) / 4) * 2)) + 1 : Nat) : Int)))) (.bool true) (congrArg Value.bool (decide_eq_true c6)) ?_
      refine gl_nil ?_
      refine ge_then ?_
      refine gc_yes ?_
      refine gc_skip ?_
      refine ge_then ?_
      refine gc_seq ?_
      refine gc_block ?_
      refine gc_seq ?_
      refine gc_reg ?_
      refine tc 36 124 #[pg gr] (next_any Y) ?_
      rintro _ v7 ⟨y, rfl, hy, Y2, C⟩
      refine ⟨_, rfl, ?_⟩
      replace R := R.off C hne hr
      clear Y C
      have Y := Y2
      clear Y2
      obtain ⟨yz, hyz⟩ : ∃ yz, y.toNat = yz := ⟨_, rfl⟩
      have hmod : yz % 2 ^ bitLen (b - a) < 2 ^ bitLen (b - a) := Nat.mod_lt _ (by omega)
      refine t 37 (.int .u64 ((2 ^ bitLen (b - a) : Nat) : Int)) ?_
      refine tq 38 (.int .u64 (IntKind.u64.wrap (((2 ^ bitLen (b - a) : Nat) : Int) - 1))) (.int .u64 (((2 ^ bitLen (b - a) : Nat) : Int) - 1)) (wu (by omega)) ?_
      refine tr 39 (.int .u64 ((yz % 2 ^ bitLen (b - a) : Nat) : Int)) (congr_v (by rw [hyz]) (run_and1 y (bitLen (b - a)) (by omega) hy)) ?_
      refine tr 40 (.int .i64 ((yz % 2 ^ bitLen (b - a) : Nat) : Int)) (congr_v (by rfl) (cvC (((yz % 2 ^ bitLen (b - a) : Nat) : Int)) ⟨by omega, by omega⟩)) ?_
      refine t 10 (.int .i64 ((yz % 2 ^ bitLen (b - a) : Nat) : Int)) ?_
      refine gl_nil ?_
      refine ge_then ?_
      refine gc_fr [(0, .slice (some ⟨g, 0, none⟩) n c), (1, .int .i64 (a : Int)), (6, .int .i64 ((b - a : Nat) : Int)), (7, pg gr), (8, .int .u64 ((2 ^ bitLen (b - a) : Nat) : Int)), (9, .int .i64 (i : Int)), (10, .int .i64 ((yz % 2 ^ bitLen (b - a) : Nat) : Int)), (26, .int .i64 (i : Int)), (27, .int .i64 (a : Int)), (28, .int .i64 ((b - a : Nat) : Int)), (29, .int .i64 (((b - a) / 4 : Nat) : Int)), (30, .int .i64 ((((b - a) / 4) * 2 : Nat) : Int)), (31, .int .i64 ((a + (((b - a) / 4) * 2) : Nat) : Int)), (32, .int .i64 (((a + (((b - a) / 4) * 2)) + 1 : Nat) : Int)), (33, .bool true), (36, .int .u64 y), (37, .int .u64 ((2 ^ bitLen (b - a) : Nat) : Int)), (38, .int .u64 (((2 ^ bitLen (b - a) : Nat) : Int) - 1)), (39, .int .u64 ((yz % 2 ^ bitLen (b - a) : Nat) : Int)), (40, .int .i64 ((yz % 2 ^ bitLen (b - a) : Nat) : Int))] (by kernel_rfl) ?_
      refine gc_join (fun (x : Nat) => [(0, .slice (some ⟨g, 0, none⟩) n c), (1, .int .i64 (a : Int)), (6, .int .i64 ((b - a : Nat) : Int)), (7, pg gr), (8, .int .u64 ((2 ^ bitLen (b - a) : Nat) : Int)), (9, .int .i64 (i : Int)), (10, .int .i64 (x : Int))]) (fun x w' => Sr w g N w' f1 ∧ Blk w' gr [.int .u64 y] 181 ∧ x < b - a) ?_ ?_
      · refine gc_seq ?_
        refine gc_reg ?_
        refine t 41 (.int .i64 ((yz % 2 ^ bitLen (b - a) : Nat) : Int)) ?_
        refine t 42 (.int .i64 ((b - a : Nat) : Int)) ?_
        by_cases c8 : ((b - a : Nat) : Int) ≤ ((yz % 2 ^ bitLen (b - a) : Nat) : Int)
        · refine tq 43 (.bool (decide (((b - a : Nat) : Int) ≤ ((yz % 2 ^ bitLen (b - a) : Nat) : Int)))) (.bool true) (congrArg Value.bool (decide_eq_true c8)) ?_
          refine gl_nil ?_
          refine ge_then ?_
          refine gc_yes ?_
          refine gc_reg ?_
          refine t 44 (.int .i64 ((yz % 2 ^ bitLen (b - a) : Nat) : Int)) ?_
          refine t 45 (.int .i64 ((b - a : Nat) : Int)) ?_
          refine tq 46 (.int .i64 (IntKind.i64.wrap (((yz % 2 ^ bitLen (b - a) : Nat) : Int) - ((b - a : Nat) : Int)))) (.int .i64 (((yz % 2 ^ bitLen (b - a)) - (b - a) : Nat) : Int)) ((wi (by omega)).trans (congrArg (Value.int .i64) (by omega))) ?_
          refine t 10 (.int .i64 (((yz % 2 ^ bitLen (b - a)) - (b - a) : Nat) : Int)) ?_
          refine gl_nil ?_
          exact ge_join ((yz % 2 ^ bitLen (b - a)) - (b - a) : Nat) ⟨R, Y, by omega⟩ (by kernel_rfl)
        · refine tq 43 (.bool (decide (((b - a : Nat) : Int) ≤ ((yz % 2 ^ bitLen (b - a) : Nat) : Int)))) (.bool false) (congrArg Value.bool (decide_eq_false c8)) ?_
          refine gl_nil ?_
          refine ge_then ?_
          refine gc_no ?_
          refine gc_skip ?_
          exact ge_join (yz % 2 ^ bitLen (b - a) : Nat) ⟨R, Y, by omega⟩ (by kernel_rfl)
      clear R Y
      rintro k v9 ⟨R, Y, hk⟩
      replace Y := Y.drew
      replace R := R.drew
      refine gc_draw (fun w' => Blk w' g (cs N f1) 31) (fun i => decide (17 ≤ i)) R.blk ?_
      refine zp 0 47 (.slice (some ⟨g, 0, none⟩) n c) ?_
      refine zp 1 48 (.int .i64 (i : Int)) ?_
      refine zp 2 49 (.slice (some ⟨g, 0, none⟩) n c) ?_
      refine zp 3 50 (.int .i64 (a : Int)) ?_
      refine zp 4 51 (.int .i64 (k : Int)) ?_
      refine zp 5 52 (.int .i64 ((a + k : Nat) : Int)) ?_ (hrun := fun _ => congr_v (v := .int .i64 (IntKind.i64.wrap ((a : Int) + (k : Int)))) ((wi (by omega)).trans (congrArg (Value.int .i64) (by omega))) (by kernel_rfl))
      refine zp 6 53 (.slice (some ⟨g, 0, none⟩) n c) ?_
      refine zp 7 54 (.int .i64 (a : Int)) ?_
      refine zp 8 55 (.int .i64 (k : Int)) ?_
      refine zp 9 56 (.int .i64 ((a + k : Nat) : Int)) ?_ (hrun := fun _ => congr_v (v := .int .i64 (IntKind.i64.wrap ((a : Int) + (k : Int)))) ((wi (by omega)).trans (congrArg (Value.int .i64) (by omega))) (by kernel_rfl))
      refine zp 10 57 (pq g (a + k)) ?_ (hrun := fun _ => congr_v (by simp) (run_ixs 1 g 0 n c (a + k) (by omega)))
      refine zl 11 58 (.int .u64 (f1 (a + k))) (fun _ h => h) (a + k) (hv := cs_at (by omega)) ?_
      refine zp 12 59 (.slice (some ⟨g, 0, none⟩) n c) ?_
      refine zp 13 60 (.int .i64 (i : Int)) ?_
      refine zp 14 61 (pq g i) ?_ (hrun := fun _ => congr_v (by simp) (run_ixs 1 g 0 n c i (by omega)))
      refine zl 15 62 (.int .u64 (f1 i)) (fun _ h => h) i (hv := cs_at (by omega)) ?_
      refine zp 16 63 (pq g i) ?_ (hrun := fun _ => congr_v (by simp) (run_ixs 1 g 0 n c i (by omega)))
      refine gz_late ?_
      refine ys 17 R.blk i (.int .u64 (f1 (a + k))) [.int .u64 (f1 (a + k))] (cs N (pu f1 i (f1 (a + k)))) ?_ (hb := cs_fit (by omega)) (he := cs_put (by omega))
      intro v10 Y2 C
      replace R := R.put C Y2
      replace Y := Y.chg C (show ¬ gr = g from fun e => hne e.symm)
      clear Y2 C
      refine yt 18 64 (pq g (a + k)) ?_ (hrun := congr_v (by simp) (run_ixs 1 g 0 n c (a + k) (by omega)))
      refine ys 19 R.blk (a + k) (.int .u64 (f1 i)) [.int .u64 (f1 i)] (cs N (sw f1 i (a + k))) ?_ (hb := cs_fit (by omega)) (he := cs_sw (by omega))
      intro v11 Y2 C
      replace R := R.put C Y2
      replace Y := Y.chg C (show ¬ gr = g from fun e => hne e.symm)
      clear Y2 C
      refine gy_done ?_
      refine ge_bn ?_
      refine ge_then ?_
      refine gc_fr [(0, .slice (some ⟨g, 0, none⟩) n c), (1, .int .i64 (a : Int)), (6, .int .i64 ((b - a : Nat) : Int)), (7, pg gr), (8, .int .u64 ((2 ^ bitLen (b - a) : Nat) : Int)), (9, .int .i64 (i : Int)), (10, .int .i64 (k : Int)), (47, .slice (some ⟨g, 0, none⟩) n c), (48, .int .i64 (i : Int)), (49, .slice (some ⟨g, 0, none⟩) n c), (50, .int .i64 (a : Int)), (51, .int .i64 (k : Int)), (52, .int .i64 ((a + k : Nat) : Int)), (53, .slice (some ⟨g, 0, none⟩) n c), (54, .int .i64 (a : Int)), (55, .int .i64 (k : Int)), (56, .int .i64 ((a + k : Nat) : Int)), (57, pq g (a + k)), (58, .int .u64 (f1 (a + k))), (59, .slice (some ⟨g, 0, none⟩) n c), (60, .int .i64 (i : Int)), (61, pq g i), (62, .int .u64 (f1 i)), (63, pq g i), (64, pq g (a + k))] (by kernel_rfl) ?_
      obtain ⟨f2, hf2⟩ : ∃ f2, f2 = sw f1 i (a + k) := ⟨_, rfl⟩
      rw [← hf2] at R
      have q2 : Pm a b f f2 := by rw [hf2]; exact q1.trans (Pm.sw ⟨by omega, by omega⟩ ⟨by omega, by omega⟩)
      refine gc_reg ?_
      refine t 34 (.int .i64 (i : Int)) ?_
      refine tq 35 (.int .i64 (IntKind.i64.wrap ((i : Int) + 1))) (.int .i64 ((i + 1 : Nat) : Int)) ((wi (by omega)).trans (congrArg (Value.int .i64) (by omega))) ?_
      refine t 9 (.int .i64 ((i + 1 : Nat) : Int)) ?_
      refine gl_nil ?_
      exact ge_round (i + 1, y, f2) (by show a + (b - a) / 4 * 2 + 2 - (i + 1) < a + (b - a) / 4 * 2 + 2 - i; omega) ⟨R, Y, ⟨by show _ ≤ i + 1; omega, by show i + 1 ≤ _; omega⟩, q2⟩ (by kernel_rfl)
    · refine tq 33 (.bool (decide ((i : Int) ≤ (((a + (((b - a) / 4) * 2)) + 1 : Nat) : Int)))) (.bool false) (congrArg Value.bool (decide_eq_false c6)) ?_
      refine gl_nil ?_
      refine ge_then ?_
      refine gc_no ?_
      refine gc_exit ?_
      refine ge_tx ?_
      refine ge_tx ?_
      refine ge_bx ?_
      refine ge_end (.tuple #[]) (rs0 (by kernel_rfl)) ?_
      exact ⟨_, rfl, R, q1⟩
  · refine tq 15 (.bool (decide ((8 : Int) ≤ ((b - a : Nat) : Int)))) (.bool false) (congrArg Value.bool (decide_eq_false c1)) ?_
    refine gl_nil ?_
    refine ge_then ?_
    refine gc_no ?_
    refine gc_skip ?_
    refine ge_end (.tuple #[]) (rs0 (by kernel_rfl)) ?_
    exact ⟨_, rfl, R, Pm.refl⟩
end So
end Go.Proofs.YtemkjdanemddpaaGreat
