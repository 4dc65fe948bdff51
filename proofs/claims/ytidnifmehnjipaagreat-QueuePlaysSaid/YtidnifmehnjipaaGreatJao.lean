/- Several texts, joined: PwA. -/
import Derived.Test.YtidnifmehnjipaaGreatJam
import Derived.Test.YtidnifmehnjipaaGreatJan
namespace Go.Proofs.YtidnifmehnjipaaGreat
namespace Pw
open Go.RowKit Go.Lib Pg Lim Gl Kv Bk
attribute [local go_sem] Oper.semAt_some
set_option maxRecDepth 100000
set_option linter.unusedVariables false
set_option maxHeartbeats 2000000
theorem mk_key {w : World} {k a b : Int} (ha : 0 ≤ a ∧ a < 18446744073709551616) (hE : Ky.mkE k a b = false) : Calls Tryz.prog 32 #[.agg #[.int .i64 k, .int .u64 a, .int .u64 b]] w fun e w' => ∃ v, e = .returned (.tuple #[v, .int .i64 0]) ∧ ByU w' v (Ky.mk k a b) ∧ Below w.heap.size w w' := by
  refine (Ks.mk_g ha hE).mono ?_
  rintro e w' ⟨v, rfl, O, B⟩
  exact ⟨v, rfl, ByU.of O, B⟩
theorem byu_nil (w : World) : ByU w (.slice none 0 0) [] := ⟨⟨none, 0, rfl, Nat.le_refl _, by decide, fun _ => rfl, fun x h => by simp at h, .inl rfl⟩, fun b o n c e => by cases e⟩
theorem mk_pos {k a b : Int} (_hE : Ky.mkE k a b = false) : 0 < (Ky.mk k a b).length := by
  rw [Ky.mk_eq (k := k) (n := (Ky.frm k).1) (m0 := (Ky.frm k).2.1) (m1 := (Ky.frm k).2.2) rfl]
  simp
theorem set_mk {k a b : Int} (hE : Ky.mkE k a b = false) : setE (Ky.mk k a b) [] = 0 := by
  have h1 := mk_pos hE
  have h2 := Ky.mk_len k a b
  unfold setE
  rw [if_neg (by omega), if_neg (by simp)]
theorem mset {B : Nat} {w : World} {K : Nat → Prop} {g : Nat} {E : Ents} {W : List Ents} {n N : Nat} {kv : Value} {k a b : Int} (h : Sx B w K g E W n N) (hk : ByU w kv (Ky.mk k a b)) (hE : Ky.mkE k a b = false) (hn : n ≤ 4000000000000000000) (hN : N + 2 ≤ 100000000) :
    Calls Tryz.prog 33 #[pg g, kv, .slice none 0 0] w (SxE B w K g (put E (Ky.mk k a b) []) W (n + 1) (N + 2) (.int .i64 0)) := by
  have u := xset h hk (byu_nil w) hn hN
  rw [set_mk hE, if_pos rfl] at u
  exact u
theorem mkE10 (tk v : Int) : Ky.mkE 10 tk v = false := by
  unfold Ky.mkE
  rw [show (Ky.frm 10).1 = 17 from rfl]
  simp
theorem mkE11 (v : Int) : Ky.mkE 11 v 0 = false := by
  unfold Ky.mkE
  rw [show (Ky.frm 11).1 = 9 from rfl]
  simp
end Pw
end Go.Proofs.YtidnifmehnjipaaGreat
