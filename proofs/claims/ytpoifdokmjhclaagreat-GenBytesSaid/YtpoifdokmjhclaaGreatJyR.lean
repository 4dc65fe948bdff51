/- Several texts, joined: SdB, SdT. -/
import Derived.Test.YtpoifdokmjhclaaGreatJyB
import Derived.Test.YtpoifdokmjhclaaGreatJyQ
import Derived.Test.YtpoifdokmjhclaaGreatJyO
import Derived.Test.YtpoifdokmjhclaaGreatJya
import Derived.Test.YtpoifdokmjhclaaGreatJyd
namespace Go.Proofs.YtpoifdokmjhclaaGreat
namespace Sd
open Go.RowKit Go.Lib Pg Lim Gl Kv Bk Pw
attribute [local go_sem] Oper.semAt_some
set_option maxRecDepth 100000
set_option linter.unusedSimpArgs false
set_option linter.unusedVariables false
set_option maxHeartbeats 2000000
theorem mkS {w : World} {k a b : Int} (ha : 0 ≤ a ∧ a < 18446744073709551616) (hE : Ky.mkE k a b = false) : Calls Tryz.prog 72 #[.agg #[.int .i64 k, .int .u64 a, .int .u64 b]] w fun e w' => ∃ v, e = .returned (.tuple #[v, .int .i64 0]) ∧ ByU w' v (Ky.mk k a b) ∧ Below w.heap.size w w' := by
  have u := Ky.make_any (w := w) (k := k) (a := a) (b := b) ha.1 ha.2
  rw [hE] at u
  refine u.mono ?_
  rintro e w' ⟨v, rfl, O, B⟩
  exact ⟨v, rfl, ByU.of O, B⟩
section
variable {B : Nat} {w : World} {K : Nat → Prop} {g : Nat} {E : Ents} {W : List Ents} {n N : Nat} {kv : Value} {k l : List Int}
theorem xhas (h : Sx B w K g E W n N) (hk : ByU w kv k) (hn : n ≤ 4000000000000000000) (hN : N ≤ 100000000) : Calls Tryz.prog 94 #[pg g, kv] w (SxE B w K g E W (n + 1) N (.bool (Kv.look E k).isSome)) := by
  refine (shas h.sa (h.bk hk) hn hN).mono ?_
  rintro e w' ⟨rfl, S, C⟩
  exact ⟨rfl, K, ⟨S, Nat.le_trans h.lo C.size, h.kb⟩, fun _ h => .inl h, C⟩
theorem xgetY (h : Sx B w K g E W n N) (hk : ByU w kv k) (hl : Kv.look E k = some l) (hn : n ≤ 4000000000000000000) (hN : N ≤ 100000000) : Calls Tryz.prog 39 #[pg g, kv] w fun e w' => ∃ v, e = .returned (.tuple #[v, .bool true]) ∧ ByU w' v l ∧ Sx B w' K g E W (n + 1) N ∧ Chg K w w' := by
  refine (xget h hk hn hN).mono ?_
  rintro e w' ⟨v, rfl, U, S, C⟩
  rw [hl] at U ⊢
  exact ⟨v, rfl, U, S, C⟩
theorem xgetN (h : Sx B w K g E W n N) (hk : ByU w kv k) (hl : Kv.look E k = none) (hn : n ≤ 4000000000000000000) (hN : N ≤ 100000000) : Calls Tryz.prog 39 #[pg g, kv] w fun e w' => ∃ v, e = .returned (.tuple #[v, .bool false]) ∧ ByU w' v [] ∧ Sx B w' K g E W (n + 1) N ∧ Chg K w w' := by
  refine (xget h hk hn hN).mono ?_
  rintro e w' ⟨v, rfl, U, S, C⟩
  rw [hl] at U ⊢
  exact ⟨v, rfl, U, S, C⟩
end
theorem Dfs.op {b : Nat} {Ds : List Nat} {w w' : World} {K D : Nat → Prop} {g n N : Nat} {E : Ents} {W : List Ents} (h : Dfs b Ds w) (S : SA w K D g E W n N) (hc : Chg K w w') : Dfs b Ds w' := h.chg hc (fun x hx => .inr ((S.kind x hx).imp fun _ h => h.imp fun _ h => h.1))
/-- what a function leaves that only asks the store -/
structure RlE (B : Nat) (w : World) (K : Nat → Prop) (g : Nat) (E : Ents) (n N c : Nat) (r : Value) (e : Ending) (w' : World) : Prop where
  ret : e = .returned r
  ex : ∃ K' n', Sx B w' K' g E [] n' N ∧ n' ≤ n + c ∧ (∀ b, K' b → K b ∨ w.heap.size ≤ b) ∧ Chg K w w'
theorem At.rle {B : Nat} {w V V' : World} {K K' : Nat → Prop} {g : Nat} {E : Ents} {n n' N c : Nat} {r : Value} (A : Bk.At B w K V K' g E [] n' N) (R : Rec w.heap.size V V') (hc : n' ≤ n + c) : RlE B w K g E n N c r (.returned r) V' := ⟨rfl, K', n', sx_rcd A.sx R, hc, A.km, chg_rcd A.cc R (Nat.le_refl _)⟩
/-- the bytes of the least params, and of the least chain -/
def PV : List Int := Rc.thr (Rc.pnx (fun o => ([1, 1, 1, 0, 0, 0, 0, 0, 0, 16] : List Int).getD o 0)) [(0, 0), (0, 1), (0, 2), (0, 3), (0, 4), (0, 5), (0, 6), (0, 7), (0, 8), (0, 9)] []
def CV : List Int := Rc.thr (Rc.pnx (fun o => ([1, 1] : List Int).getD o 0)) [(0, 0), (0, 1)] []
theorem parPV {w : World} {v : Value} (h : ByU w v PV) : Calls Tryz.prog 145 #[v] w fun e w' => e = .returned (.tuple #[.agg #[.int .u64 1, .int .u64 1, .int .u64 1, .int .u64 0, .int .u64 0, .int .u64 0, .int .u64 0, .int .u64 0, .int .u64 0, .int .u64 16], .int .i64 0]) ∧ Below w.heap.size w w' := by
  obtain ⟨b, ao, c, rfl, h2⟩ := bya h.byt
  have u := Rc.oParams h2 (by decide +kernel)
  rw [show Rc.outX (Rc.stParams PV) 0 = 1 by decide +kernel, show Rc.outX (Rc.stParams PV) 1 = 1 by decide +kernel, show Rc.outX (Rc.stParams PV) 2 = 1 by decide +kernel, show Rc.outX (Rc.stParams PV) 3 = 0 by decide +kernel, show Rc.outX (Rc.stParams PV) 4 = 0 by decide +kernel, show Rc.outX (Rc.stParams PV) 5 = 0 by decide +kernel, show Rc.outX (Rc.stParams PV) 6 = 0 by decide +kernel, show Rc.outX (Rc.stParams PV) 7 = 0 by decide +kernel, show Rc.outX (Rc.stParams PV) 8 = 0 by decide +kernel, show Rc.outX (Rc.stParams PV) 9 = 16 by decide +kernel, show Rc.outR (Rc.stParams PV) = 0 by decide +kernel] at u
  exact u
theorem chgB {F : Nat → Prop} {w w1 w2 : World} (h : Chg F w w1) (b : Below w1.heap.size w1 w2) : Chg F w w2 := h.trans (Chg.of (F := fun _ => False) b) (fun _ _ h => h.elim)
theorem nk_new {B : Nat} {w : World} {K : Nat → Prop} {g : Nat} {E : Ents} {W : List Ents} {n N x : Nat} (h : Sx B w K g E W n N) (hx : w.heap.size ≤ x) : ¬ K x := fun hk => by have := h.sa.lt hk; omega
theorem of5 (w : World) : Calls Tryz.prog 194 #[.int .i64 5] w fun e w' => ∃ v, e = .returned (.tuple #[v, .int .i64 0]) ∧ OB w' (w.heap.size ≤ ·) v [118] ∧ Below w.heap.size w w' := Ky.of_any (k := 5)
theorem of6 (w : World) : Calls Tryz.prog 194 #[.int .i64 6] w fun e w' => ∃ v, e = .returned (.tuple #[v, .int .i64 0]) ∧ OB w' (w.heap.size ≤ ·) v [118] ∧ Below w.heap.size w w' := Ky.of_any (k := 6)
theorem of7 (w : World) : Calls Tryz.prog 194 #[.int .i64 7] w fun e w' => ∃ v, e = .returned (.tuple #[v, .int .i64 0]) ∧ OB w' (w.heap.size ≤ ·) v [118] ∧ Below w.heap.size w w' := Ky.of_any (k := 7)
theorem of8 (w : World) : Calls Tryz.prog 194 #[.int .i64 8] w fun e w' => ∃ v, e = .returned (.tuple #[v, .int .i64 0]) ∧ OB w' (w.heap.size ≤ ·) v [118] ∧ Below w.heap.size w w' := Ky.of_any (k := 8)
theorem of10 (w : World) : Calls Tryz.prog 194 #[.int .i64 10] w fun e w' => ∃ v, e = .returned (.tuple #[v, .int .i64 0]) ∧ OB w' (w.heap.size ≤ ·) v [105] ∧ Below w.heap.size w w' := Ky.of_any (k := 10)
theorem of12 (w : World) : Calls Tryz.prog 194 #[.int .i64 12] w fun e w' => ∃ v, e = .returned (.tuple #[v, .int .i64 0]) ∧ OB w' (w.heap.size ≤ ·) v [117] ∧ Below w.heap.size w w' := Ky.of_any (k := 12)
theorem of13 (w : World) : Calls Tryz.prog 194 #[.int .i64 13] w fun e w' => ∃ v, e = .returned (.tuple #[v, .int .i64 0]) ∧ OB w' (w.heap.size ≤ ·) v [114] ∧ Below w.heap.size w w' := Ky.of_any (k := 13)
theorem of14 (w : World) : Calls Tryz.prog 194 #[.int .i64 14] w fun e w' => ∃ v, e = .returned (.tuple #[v, .int .i64 0]) ∧ OB w' (w.heap.size ≤ ·) v [113] ∧ Below w.heap.size w w' := Ky.of_any (k := 14)
theorem of15 (w : World) : Calls Tryz.prog 194 #[.int .i64 15] w fun e w' => ∃ v, e = .returned (.tuple #[v, .int .i64 0]) ∧ OB w' (w.heap.size ≤ ·) v [101] ∧ Below w.heap.size w w' := Ky.of_any (k := 15)
theorem of16 (w : World) : Calls Tryz.prog 194 #[.int .i64 16] w fun e w' => ∃ v, e = .returned (.tuple #[v, .int .i64 0]) ∧ OB w' (w.heap.size ≤ ·) v [110] ∧ Below w.heap.size w w' := Ky.of_any (k := 16)
theorem of17 (w : World) : Calls Tryz.prog 194 #[.int .i64 17] w fun e w' => ∃ v, e = .returned (.tuple #[v, .int .i64 0]) ∧ OB w' (w.heap.size ≤ ·) v [107] ∧ Below w.heap.size w w' := Ky.of_any (k := 17)
/-- params, a chain, accounts: nothing else -/
structure Bare (E : Ents) : Prop where
  par : Kv.look E (Ky.mk 1 0 0) = some PV
  chn : Kv.look E (Ky.mk 2 0 0) = some CV
  pool : Kv.look E (Ky.mk 3 0 0) = none
  no : ∀ m ∈ ([118, 105, 98, 117, 114, 113, 101, 110, 107] : List Int), E.filter (fun x => decide ([m] <+: x.1)) = []
end Sd
end Go.Proofs.YtpoifdokmjhclaaGreat

namespace Go.Proofs.YtpoifdokmjhclaaGreat
namespace Sd
open Go.RowKit Go.Lib Pg Lim Gl Kv Bk Pw
attribute [local go_sem] Oper.semAt_some
set_option maxRecDepth 100000
set_option linter.unusedSimpArgs false
set_option linter.unusedVariables false
set_option maxHeartbeats 2000000
theorem len64_0 {w : World} : Calls Tryz.prog 302 #[.int .u64 0] w fun e w' => e = .returned (.int .i64 0) ∧ w' = w := len64 0 w (by decide) (by decide)
theorem len_0 {w : World} : Calls Tryz.prog 242 #[.int .u64 0] w fun e w' => e = .returned (.int .i64 0) ∧ w' = w := by
  refine gc_enter (n := 8) Tryz.func242 rfl (by kernel_rfl) (by kernel_rfl) ?_
  refine gc_seq ?_
  refine gc_reg ?_
  refine t 2 (.int .i64 0) ?_
  refine gl_nil ?_
  refine ge_then ?_
  refine gc_seq ?_
  refine gc_no ?_
  refine gc_skip ?_
  refine ge_then ?_
  refine gc_seq ?_
  refine gc_reg ?_
  refine t 6 (.int .u64 0) ?_
  refine tc 7 302 #[.int .u64 0] (len64_0) ?_
  rintro _ v1 ⟨rfl, hw⟩
  refine ⟨_, rfl, ?_⟩
  subst hw
  refine t 2 (.int .i64 0) ?_
  refine gl_nil ?_
  refine ge_then ?_
  refine gc_ret ?_
  refine ge_ret (.int .i64 0) (rs1 2 (by kernel_rfl) (by kernel_rfl)) ?_
  exact ⟨rfl, rfl⟩
theorem ins_0 {w : World} {ao : Option Addr} {c : Nat} : Calls Tryz.prog 292 #[.slice ao 0 c, .int .i64 0, .int .i64 0] w fun e w' => e = .returned (.tuple #[]) ∧ w' = w := by
  refine gc_enter (n := 49) Tryz.func292 rfl (by kernel_rfl) (by kernel_rfl) ?_
  refine gc_seq ?_
  refine gc_reg ?_
  refine t 8 (.int .i64 0) ?_
  refine t 9 (.int .i64 1) ?_
  refine t 6 (.int .i64 1) ?_
  refine gl_nil ?_
  refine ge_then ?_
  refine gc_block ?_
  refine gc_loop (fun _ => 0) (fun (_ : Unit) => [(2, .int .i64 0), (6, .int .i64 1)]) (fun _ w' => w' = w) () rfl (by kernel_rfl) ?_
  rintro _ v1 rfl
  refine gc_seq ?_
  refine gc_seq ?_
  refine gc_reg ?_
  refine t 10 (.int .i64 1) ?_
  refine t 11 (.int .i64 0) ?_
  refine t 12 (.bool false) ?_
  refine gl_nil ?_
  refine ge_then ?_
  refine gc_no ?_
  refine gc_exit ?_
  refine ge_tx ?_
  refine ge_tx ?_
  refine ge_bx ?_
  refine ge_end (.tuple #[]) (rs0 (by kernel_rfl)) ?_
  exact ⟨rfl, rfl⟩
theorem pdq_0 {w : World} {ao : Option Addr} {c : Nat} : Calls Tryz.prog 241 #[.slice ao 0 c, .int .i64 0, .int .i64 0, .int .i64 0] w fun e w' => e = .returned (.tuple #[]) ∧ w' = w := by
  refine gc_enter (n := 134) Tryz.func241 rfl (by kernel_rfl) (by kernel_rfl) ?_
  refine gc_seq ?_
  refine gc_reg ?_
  refine t 8 (.bool true) ?_
  refine gl_nil ?_
  refine ge_then ?_
  refine gc_seq ?_
  refine gc_reg ?_
  refine t 9 (.bool true) ?_
  refine gl_nil ?_
  refine ge_then ?_
  refine gc_block ?_
  refine gc_loop (fun _ => 0) (fun (_ : Unit) => [(0, .slice ao 0 c), (1, .int .i64 0), (2, .int .i64 0)]) (fun _ w' => w' = w) () rfl (by kernel_rfl) ?_
  rintro _ v1 rfl
  refine gc_block ?_
  refine gc_seq ?_
  refine gc_reg ?_
  refine t 19 (.int .i64 0) ?_
  refine t 20 (.int .i64 0) ?_
  refine t 21 (.int .i64 0) ?_
  refine t 10 (.int .i64 0) ?_
  refine gl_nil ?_
  refine ge_then ?_
  refine gc_seq ?_
  refine gc_seq ?_
  refine gc_reg ?_
  refine t 22 (.int .i64 0) ?_
  refine t 23 (.bool true) ?_
  refine gl_nil ?_
  refine ge_then ?_
  refine gc_yes ?_
  refine gc_seq ?_
  refine gc_reg ?_
  refine t 24 (.slice ao 0 c) ?_
  refine t 25 (.int .i64 0) ?_
  refine t 26 (.int .i64 0) ?_
  refine tc 27 292 #[.slice ao 0 c, .int .i64 0, .int .i64 0] (ins_0) ?_
  rintro _ v2 ⟨rfl, hw⟩
  refine ⟨_, rfl, ?_⟩
  subst hw
  refine gl_nil ?_
  refine ge_then ?_
  refine gc_ret ?_
  refine ge_tr ?_
  refine ge_br ?_
  refine ge_tr ?_
  refine ge_br ?_
  refine ge_ret (.tuple #[]) (rs0 (by kernel_rfl)) ?_
  exact ⟨rfl, rfl⟩
theorem sort_0 {w : World} {ao : Option Addr} {c : Nat} : Calls Tryz.prog 192 #[.slice ao 0 c] w fun e w' => e = .returned (.tuple #[]) ∧ w' = w := by
  refine gc_enter (n := 11) Tryz.func192 rfl (by kernel_rfl) (by kernel_rfl) ?_
  refine gc_seq ?_
  refine gc_reg ?_
  refine t 3 (.slice ao 0 c) ?_
  refine t 4 (.int .i64 0) ?_
  refine t 2 (.int .i64 0) ?_
  refine gl_nil ?_
  refine ge_then ?_
  refine gc_reg ?_
  refine t 5 (.slice ao 0 c) ?_
  refine t 6 (.int .i64 0) ?_
  refine t 7 (.int .i64 0) ?_
  refine t 8 (.int .u64 0) ?_
  refine tc 9 242 #[.int .u64 0] (len_0) ?_
  rintro _ v1 ⟨rfl, hw⟩
  refine ⟨_, rfl, ?_⟩
  subst hw
  refine tc 10 241 #[.slice ao 0 c, .int .i64 0, .int .i64 0, .int .i64 0] (pdq_0) ?_
  rintro _ v2 ⟨rfl, hw⟩
  refine ⟨_, rfl, ?_⟩
  subst hw
  refine gl_nil ?_
  refine ge_end (.tuple #[]) (rs0 (by kernel_rfl)) ?_
  exact ⟨rfl, rfl⟩
/-- what lies at a place that is no variable -/
structure MapS (w : World) (g : Nat) (o : Obj) : Prop where
  ob : w.heap[g]? = some o
section
variable {w w' : World} {g : Nat} {o : Obj}
theorem MapS.lt (h : MapS w g o) : g < w.heap.size := lt_of_block h.ob
theorem MapS.keep (h : MapS w g o) (b : Below w.heap.size w w') : MapS w' g o := ⟨(b.block g h.lt).trans h.ob⟩
theorem MapS.drew (h : MapS w g o) : MapS w.drew g o := ⟨h.ob⟩
theorem MapS.cel {F : Nat → Prop} (h : MapS w g o) (ho : ∀ cs t m, o ≠ .cells cs t m) (C : Chg F w w') (hF : ∀ b, F b → ∃ cs t, Blk w b cs t) : MapS w' g o := ⟨(C.same g h.lt (fun hf => by
  obtain ⟨cs, t, k⟩ := hF g hf
  have := k.blk.symm.trans h.ob
  cases this
  exact ho _ _ _ rfl)).trans h.ob⟩
theorem MapS.cell {x : Nat} {cs : List Value} {t : TypeId} {es : Array MapEntry} {k : Nat} (h : MapS w g (.map es k)) (X : Blk w x cs t) (C : Chg (· = x) w w') : MapS w' g (.map es k) := h.cel (fun _ _ _ h => by cases h) C (fun b e => ⟨cs, t, (show b = x from e) ▸ X⟩)
theorem MapS.op {K D : Nat → Prop} {y n N : Nat} {E : Ents} {W : List Ents} {es : Array MapEntry} {k : Nat} (h : MapS w g (.map es k)) (S : SA w K D y E W n N) (C : Chg K w w') : MapS w' g (.map es k) := h.cel (fun _ _ _ h => by cases h) C (fun b hb => (S.kind b hb).imp fun _ h => h.imp fun _ h => h.1)
end
theorem only_0 {w : World} {bm : Nat} {d : Int} (M : MapS w bm (.map #[] 0)) : Calls Tryz.prog 146 #[.map (some bm), .int .i64 d] w fun e w' => e = .returned (.slice none 0 0) ∧ Below w.heap.size w w' := by
  have BB := Below.refl w.heap.size w
  refine gc_enter (n := 25) Tryz.func146 rfl (by kernel_rfl) (by kernel_rfl) ?_
  refine gc_seq ?_
  refine gc_reg ?_
  refine t 4 (.slice none 0 0) ?_
  refine gl_nil ?_
  refine ge_then ?_
  refine gc_seq ?_
  refine gc_reg ?_
  refine t 5 (.slice none 0 0) ?_
  refine gl_nil ?_
  refine ge_then ?_
  refine gc_seq ?_
  refine gc_seq ?_
  refine gc_reg ?_
  refine t 8 (.map (some bm)) ?_
  refine trg 9 M.ob ?_
  intro v1 r hI hr B
  have I : MapS _ r _ := ⟨hI⟩
  clear hI
  replace BB := joinB BB B
  replace M := M.keep B
  clear B
  refine gl_nil ?_
  refine ge_then ?_
  refine gc_block ?_
  refine gc_loop (fun _ => 0) (fun (_ : Unit) => [(1, .int .i64 d), (5, .slice none 0 0), (9, pg r)]) (fun _ w' => w' = v1) () rfl (by kernel_rfl) ?_
  rintro _ v2 rfl
  refine gc_seq ?_
  refine gc_reg ?_
  refine tnx 10 I.ob M.ob (fun x h => by simp at h) (Nat.le_refl _) ?_ (fun e he => absurd (mem_left he).1 (by simp))
  intro h0
  refine t 11 (.bool false) ?_
  refine gl_nil ?_
  refine ge_then ?_
  refine gc_seq ?_
  refine gc_no ?_
  refine gc_exit ?_
  refine ge_tx ?_
  refine ge_tx ?_
  refine ge_bx ?_
  refine ge_then ?_
  refine gc_seq ?_
  refine gc_reg ?_
  refine t 22 (.slice none 0 0) ?_
  refine tc 23 192 #[.slice none 0 0] (sort_0) ?_
  rintro _ v3 ⟨rfl, hw⟩
  refine ⟨_, rfl, ?_⟩
  subst hw
  refine gl_nil ?_
  refine ge_then ?_
  refine gc_seq ?_
  refine gc_reg ?_
  refine t 24 (.slice none 0 0) ?_
  refine t 4 (.slice none 0 0) ?_
  refine gl_nil ?_
  refine ge_then ?_
  refine gc_ret ?_
  refine ge_ret (.slice none 0 0) (rs1 4 (by kernel_rfl) (by kernel_rfl)) ?_
  exact ⟨rfl, BB⟩
theorem turns_0 {w : World} {a a' : Option Addr} {c c' : Nat} : Calls Tryz.prog 98 #[.slice a 0 c, .slice a' 0 c'] w fun e w' => e = .returned (.tuple #[.slice none 0 0, .slice none 0 0]) ∧ Below w.heap.size w w' := by
  have BB := Below.refl w.heap.size w
  refine gc_enter (n := 38) Tryz.func98 rfl (by kernel_rfl) (by kernel_rfl) ?_
  refine gc_seq ?_
  refine gc_reg ?_
  refine t 4 (.slice none 0 0) ?_
  refine t 5 (.slice none 0 0) ?_
  refine gl_nil ?_
  refine ge_then ?_
  refine gc_seq ?_
  refine gc_reg ?_
  refine tmk 11 ?_
  intro v1 bm hM hbm B
  replace BB := joinB BB B
  clear B
  have M : MapS v1 bm (.map #[] 0) := ⟨hM⟩
  clear hM
  refine t 6 (.map (some bm)) ?_
  refine gl_nil ?_
  refine ge_then ?_
  refine gc_seq ?_
  refine gc_seq ?_
  refine gc_reg ?_
  refine t 12 (.slice a 0 c) ?_
  refine t 13 (.int .i64 0) ?_
  refine t 14 (.int .i64 0) ?_
  refine gl_nil ?_
  refine ge_then ?_
  refine gc_block ?_
  refine gc_loop (fun _ => 0) (fun (_ : Unit) => [(1, .slice a' 0 c'), (6, .map (some bm)), (13, .int .i64 0), (14, .int .i64 0)]) (fun _ w' => w' = v1) () rfl (by kernel_rfl) ?_
  rintro _ v2 rfl
  refine gc_seq ?_
  refine gc_reg ?_
  refine t 15 (.bool false) ?_
  refine gl_nil ?_
  refine ge_then ?_
  refine gc_seq ?_
  refine gc_no ?_
  refine gc_exit ?_
  refine ge_tx ?_
  refine ge_tx ?_
  refine ge_bx ?_
  refine ge_then ?_
  refine gc_seq ?_
  refine gc_seq ?_
  refine gc_reg ?_
  refine t 23 (.slice a' 0 c') ?_
  refine t 24 (.int .i64 0) ?_
  refine t 25 (.int .i64 0) ?_
  refine gl_nil ?_
  refine ge_then ?_
  refine gc_block ?_
  refine gc_loop (fun _ => 0) (fun (_ : Unit) => [(6, .map (some bm)), (24, .int .i64 0), (25, .int .i64 0)]) (fun _ w' => w' = v2) () rfl (by kernel_rfl) ?_
  rintro _ v3 rfl
  refine gc_seq ?_
  refine gc_reg ?_
  refine t 26 (.bool false) ?_
  refine gl_nil ?_
  refine ge_then ?_
  refine gc_seq ?_
  refine gc_no ?_
  refine gc_exit ?_
  refine ge_tx ?_
  refine ge_tx ?_
  refine ge_bx ?_
  refine ge_then ?_
  refine gc_seq ?_
  refine gc_reg ?_
  refine t 34 (.map (some bm)) ?_
  refine tc 35 146 #[.map (some bm), .int .i64 1] (only_0 M) ?_
  rintro _ v4 ⟨rfl, B⟩
  refine ⟨_, rfl, ?_⟩
  replace BB := joinB BB B
  replace M := M.keep B
  clear B
  refine t 36 (.map (some bm)) ?_
  refine tc 37 146 #[.map (some bm), .int .i64 2] (only_0 M) ?_
  rintro _ v5 ⟨rfl, B⟩
  refine ⟨_, rfl, ?_⟩
  replace BB := joinB BB B
  replace M := M.keep B
  clear B
  refine t 4 (.slice none 0 0) ?_
  refine t 5 (.slice none 0 0) ?_
  refine gl_nil ?_
  refine ge_then ?_
  refine gc_ret ?_
  refine ge_ret (.tuple #[.slice none 0 0, .slice none 0 0]) (rs2 4 5 (by kernel_rfl) (by kernel_rfl) (by kernel_rfl)) ?_
  exact ⟨rfl, BB⟩
end Sd
end Go.Proofs.YtpoifdokmjhclaaGreat
