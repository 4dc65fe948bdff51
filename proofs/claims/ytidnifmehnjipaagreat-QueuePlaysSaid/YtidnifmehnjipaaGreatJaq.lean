/- Several texts, joined: QuE, QuF, QuG, BkC, BkD, PwR, PwB, PwC. -/
import Derived.Test.YtidnifmehnjipaaGreatJap
import Derived.Test.YtidnifmehnjipaaGreatJao
namespace Go.Proofs.YtidnifmehnjipaaGreat
namespace Qu
open Go.RowKit Go.Lib Pg Lim Gl Kv Bk Pw
attribute [local go_sem] Oper.semAt_some
set_option maxRecDepth 100000
set_option linter.unusedVariables false
set_option linter.unusedSimpArgs false
set_option maxHeartbeats 2000000
def mv (x0 x1 x2 x3 x4 x5 x6 : Int) : List Int := Rc.thr (Rc.pnx (fun o => ([x0, x1, x2, x3, x4, x5, x6] : List Int).getD o 0)) [(0, 0), (0, 1), (0, 2), (0, 3), (0, 4), (0, 5), (2, 6)] []
theorem mv_len (x0 x1 x2 x3 x4 x5 x6 : Int) : (mv x0 x1 x2 x3 x4 x5 x6).length ≤ 2100 := by have := Rc.pnx_len (fun o => ([x0, x1, x2, x3, x4, x5, x6] : List Int).getD o 0) [(0, 0), (0, 1), (0, 2), (0, 3), (0, 4), (0, 5), (2, 6)] []; simpa [mv] using this
theorem mv_oct (x0 x1 x2 x3 x4 x5 x6 : Int) : Oct (mv x0 x1 x2 x3 x4 x5 x6) := Rc.thr_oct _ _ _ (fun _ h => by simp at h)
theorem put_move {w : World} {x0 x1 x2 x3 x4 x5 x6 : Int} {a6 : Option Addr} {n6 c6 : Nat} (h6 : NatA w a6 n6 c6 x6) (m6 : n6 ≤ 1000000) : Calls Tryz.prog 101 #[.agg #[.int .u64 x0, .int .u64 x1, .int .u64 x2, .int .u64 x3, .int .u64 x4, .int .u64 x5, .slice a6 n6 c6]] w fun e w' => ∃ v, e = .returned v ∧ ByU w' v (mv x0 x1 x2 x3 x4 x5 x6) ∧ Below w.heap.size w w' := by
  refine (Rc.PutMove_any h6 m6).mono ?_
  rintro e w' ⟨b, n, rfl, hn, X, hb, B⟩
  exact ⟨_, rfl, byu_box X (mv_oct _ _ _ _ _ _ _) hn (Nat.le_trans (mv_len _ _ _ _ _ _ _) (by decide)), B⟩
def mX (l : List Int) (i : Nat) : Int := Rc.outX (Rc.stMove l) i
def mA (l : List Int) (v : Value) : Array Value := #[.int .u64 (mX l 0), .int .u64 (mX l 1), .int .u64 (mX l 2), .int .u64 (mX l 3), .int .u64 (mX l 4), .int .u64 (mX l 5), v]
def mL (l : List Int) (v : Value) : List Value := [.int .u64 (mX l 0), .int .u64 (mX l 1), .int .u64 (mX l 2), .int .u64 (mX l 3), .int .u64 (mX l 4), .int .u64 (mX l 5), v]
theorem move_rd {w : World} {v : Value} {l : List Int} (h : ByU w v l) (hl : l.length ≤ 1000000000) : Calls Tryz.prog 102 #[v] w fun e w' => ∃ a6 n6 c6, e = .returned (.tuple #[.agg (mA l (.slice a6 n6 c6)), .int .i64 (Rc.outR (Rc.stMove l))]) ∧ (Rc.NatW w' w.heap.size a6 n6 c6 (mX l 6) ∧ n6 ≤ 510) ∧ Below w.heap.size w w' := by
  obtain ⟨b, ao, c, rfl, h2⟩ := bya h.byt
  exact Rc.oMove h2 hl
theorem layM {B : Nat} {w : World} {K : Nat → Prop} {g : Nat} {E : Ents} {W : List Ents} {n N : Nat} {id : Int} {x0 x1 x2 x3 x4 x5 x6 : Int} {a6 : Option Addr} {n6 c6 z6 : Nat} (h : Sx B w K g E W n N) (hid : 0 ≤ id ∧ id < 18446744073709551616) (Q6 : Nk w K z6 a6 n6 c6 x6) (m6 : n6 ≤ 1000000) (hn : n + 30 ≤ 4000000000000000000) (hN : N + 30 ≤ 100000000) : Calls Tryz.prog 100 #[pg g, .agg #[.int .i64 13, .func (.func 101) #[] #[], .func (.func 102) #[] #[], .func (.func 103) #[] #[]], .int .u64 id, .agg #[.int .u64 x0, .int .u64 x1, .int .u64 x2, .int .u64 x3, .int .u64 x4, .int .u64 x5, .slice a6 n6 c6]] w (SxE B w K g (put E (Ky.mk 13 id 0) (mv x0 x1 x2 x3 x4 x5 x6)) W (n + 1) (N + 2) (.tuple #[])) := by
  have A := h.at
  refine gc_enter (n := 18) Tryz.func100 rfl (by kernel_rfl) (by kernel_rfl) ?_
  have l0 := Q6.lt
  refine gc_seq ?_
  refine gc_reg ?_
  refine ta 5 [.int .i64 13, .func (.func 101) #[] #[], .func (.func 102) #[] #[], .func (.func 103) #[] #[]] 114 (pg) ?_
  intro v1 g2 Xg2 hg2 B
  have zg2 := Nat.le_trans A.size hg2
  have nXg2 := A.new hg2
  replace Q6 := Q6.keep B
  replace A := A.keep B
  clear B
  refine ta 7 [.int .u64 x0, .int .u64 x1, .int .u64 x2, .int .u64 x3, .int .u64 x4, .int .u64 x5, .slice a6 n6 c6] 48 (pg) ?_
  intro v3 g4 Xg4 hg4 B
  have zg4 := Nat.le_trans A.size hg4
  have nXg4 := A.new hg4
  replace Q6 := Q6.keep B
  replace A := A.keep B
  replace Xg2 := Xg2.keep B
  clear B
  refine gl_nil ?_
  refine ge_then ?_
  replace Q6 := Q6.drew
  replace A := A.drew
  replace Xg2 := Xg2.drew
  replace Xg4 := Xg4.drew
  refine gc_draw (fun w' => Blk w' g2 [.int .i64 13, .func (.func 101) #[] #[], .func (.func 102) #[] #[], .func (.func 103) #[] #[]] 114 ∧ Blk w' g4 [.int .u64 x0, .int .u64 x1, .int .u64 x2, .int .u64 x3, .int .u64 x4, .int .u64 x5, .slice a6 n6 c6] 48) (fun _ => false) ⟨Xg2, Xg4⟩ ?_
  refine z 0 8 (pg g) ?_
  refine z 1 9 (pg g2) ?_
  refine zl 2 10 (.int .i64 13) (fun _ h => h.1) 0 ?_
  refine z 3 11 (.int .u64 id) ?_
  refine z 5 13 (pq g2 1) ?_
  refine zl 6 14 (.func (.func 101) #[] #[]) (fun _ h => h.1) 1 ?_
  refine zlr 7 15 [.int .u64 x0, .int .u64 x1, .int .u64 x2, .int .u64 x3, .int .u64 x4, .int .u64 x5, .slice a6 n6 c6] (fun _ h => h.2) 0 ?_
  refine zc 4 12 64 #[.int .i64 13, .int .u64 id, .int .u64 0] (qkey hid (mkE13 id)) ?_
  rintro _ v7 ⟨kv6, rfl, U5, B⟩
  replace Q6 := Q6.keep B
  replace A := A.keep B
  replace Xg2 := Xg2.keep B
  replace Xg4 := Xg4.keep B
  clear B
  refine ⟨_, rfl, ⟨Xg2, Xg4⟩, ?_⟩
  refine zc 8 16 101 #[.agg #[.int .u64 x0, .int .u64 x1, .int .u64 x2, .int .u64 x3, .int .u64 x4, .int .u64 x5, .slice a6 n6 c6]] (put_move Q6.nat m6) ?_
  rintro _ v10 ⟨pv9, rfl, U8, B⟩
  replace Q6 := Q6.keep B
  replace A := A.keep B
  replace Xg2 := Xg2.keep B
  replace Xg4 := Xg4.keep B
  replace U5 := byu_keep U5 B
  clear B
  refine ⟨_, rfl, ⟨Xg2, Xg4⟩, ?_⟩
  refine zc 9 17 33 #[pg g, kv6, pv9] (qset A.sx U5 (mkE13 id) U8 (Nat.le_trans (mv_len _ _ _ _ _ _ _) (by decide)) (by omega) (by omega)) ?_
  rintro _ v12 ⟨rfl, K11, S, hK, hC⟩
  replace Q6 := Q6.op hK hC
  have mXg2 := not_op Xg2 nXg2 hK
  replace Xg2 := Xg2.chg hC nXg2
  replace nXg2 := mXg2
  clear mXg2
  have mXg4 := not_op Xg4 nXg4 hK
  replace Xg4 := Xg4.chg hC nXg4
  replace nXg4 := mXg4
  clear mXg4
  replace U5 := A.byu U5 hC
  replace U8 := A.byu U8 hC
  replace A := A.op S hK hC
  clear S hK hC
  clear U5
  clear U8
  refine ⟨_, rfl, ⟨Xg2, Xg4⟩, ?_⟩
  refine gz_done ?_
  refine ge_end (.tuple #[]) (rs0 (by kernel_rfl)) ?_
  exact ⟨rfl, _, A.sx, A.km, A.cc⟩
structure FndM (B : Nat) (w : World) (K : Nat → Prop) (g : Nat) (E : Ents) (W : List Ents) (n N : Nat) (L : List Int) (b : Bool) (e : Ending) (w' : World) : Prop where
  ex : ∃ a6 n6 c6, e = .returned (.tuple #[.agg (mA L (.slice a6 n6 c6)), .bool b]) ∧ ∃ z6 K', Sx B w' K' g E W n N ∧ (∀ b, K' b → K b ∨ w.heap.size ≤ b) ∧ Chg K w w' ∧ Nq w' K' z6 a6 n6 c6 (mX L 6) ∧ n6 ≤ 510 ∧ (n6 = 0 ∨ w.heap.size ≤ z6)
theorem findM {B : Nat} {w : World} {K : Nat → Prop} {g : Nat} {E : Ents} {W : List Ents} {n N : Nat} {id : Int} (h : Sx B w K g E W n N) (hid : 0 ≤ id ∧ id < 18446744073709551616) (hn : n + 30 ≤ 4000000000000000000) (hN : N + 30 ≤ 100000000) : Calls Tryz.prog 67 #[pg g, .agg #[.int .i64 13, .func (.func 101) #[] #[], .func (.func 102) #[] #[], .func (.func 103) #[] #[]], .int .u64 id] w (FndM B w K g E W (n + 1) N (got E (Ky.mk 13 id 0)) (Kv.look E (Ky.mk 13 id 0)).isSome) := by
  have A := h.at
  refine gc_enter (n := 30) Tryz.func67 rfl (by kernel_rfl) (by kernel_rfl) ?_
  refine gc_seq ?_
  refine gc_reg ?_
  refine ta 4 [.int .i64 13, .func (.func 101) #[] #[], .func (.func 102) #[] #[], .func (.func 103) #[] #[]] 114 (pg) ?_
  intro v1 g2 Xg2 hg2 B
  have zg2 := Nat.le_trans A.size hg2
  have nXg2 := A.new hg2
  replace A := A.keep B
  clear B
  have lXg2 := Xg2.lt
  refine ta 6 [.int .u64 0, .int .u64 0, .int .u64 0, .int .u64 0, .int .u64 0, .int .u64 0, .slice none 0 0] 48 (pg) ?_
  intro v3 g4 Xg4 hg4 B
  have zg4 := Nat.le_trans A.size hg4
  have nXg4 := A.new hg4
  replace A := A.keep B
  replace Xg2 := Xg2.keep B
  clear B
  refine t 7 (.bool false) ?_
  refine gl_nil ?_
  refine ge_then ?_
  refine gc_seq ?_
  refine gc_reg ?_
  refine t 13 (pg g) ?_
  refine t 14 (pg g2) ?_
  refine tl 15 (.int .i64 13) Xg2 0 ?_
  refine t 16 (.int .u64 id) ?_
  refine tc 17 64 #[.int .i64 13, .int .u64 id, .int .u64 0] (qkey hid (mkE13 id)) ?_
  rintro _ v7 ⟨kv6, rfl, U5, B⟩
  refine ⟨_, rfl, ?_⟩
  replace A := A.keep B
  replace Xg2 := Xg2.keep B
  replace Xg4 := Xg4.keep B
  clear B
  refine tc 18 63 #[pg g, kv6] (xget A.sx U5 (by omega) (by omega)) ?_
  rintro _ v10 ⟨gv8, rfl, U9, S, hC⟩
  refine ⟨_, rfl, ?_⟩
  replace Xg2 := Xg2.chg hC nXg2
  replace Xg4 := Xg4.chg hC nXg4
  replace U5 := A.byu U5 hC
  replace A := A.op S (fun _ h => .inl h) hC
  clear S hC
  refine t 12 (.tuple #[gv8, .bool (Kv.look E (Ky.mk 13 id 0)).isSome]) ?_
  refine t 19 (gv8) ?_
  refine t 20 (.bool (Kv.look E (Ky.mk 13 id 0)).isSome) ?_
  refine t 8 (gv8) ?_
  refine t 9 (.bool (Kv.look E (Ky.mk 13 id 0)).isSome) ?_
  refine gl_nil ?_
  refine ge_then ?_
  refine gc_fr [(4, pg g2), (6, pg g4), (7, .bool false), (8, gv8), (9, .bool (Kv.look E (Ky.mk 13 id 0)).isSome)] (by kernel_rfl) ?_
  refine gc_seq ?_
  refine gc_reg ?_
  refine t 22 (pq g2 2) ?_
  refine tl 23 (.func (.func 102) #[] #[]) Xg2 2 ?_
  refine t 24 (gv8) ?_
  refine tc 25 102 #[gv8] (move_rd U9 (Sx.getlen A.sx _)) ?_
  rintro _ v12 ⟨ar11, nr11, cr11, rfl, ⟨NW, mr11⟩, B⟩
  refine ⟨_, rfl, ?_⟩
  have kXg2r11 := Xg2.lt
  have kXg4r11 := Xg4.lt
  have sr11 := A.size
  obtain ⟨zr11, hzr11, Qr11⟩ := natW_nq NW (fun b hb => A.lt hb)
  clear NW
  replace A := A.keep B
  replace Xg2 := Xg2.keep B
  replace Xg4 := Xg4.keep B
  replace U5 := byu_keep U5 B
  replace U9 := byu_keep U9 B
  clear B
  clear U9
  refine t 21 (.tuple #[.agg (mA (got E (Ky.mk 13 id 0)) (.slice ar11 nr11 cr11)), .int .i64 (Rc.outR (Rc.stMove (got E (Ky.mk 13 id 0))))]) ?_
  refine t 26 (.agg (mA (got E (Ky.mk 13 id 0)) (.slice ar11 nr11 cr11))) ?_
  refine t 27 (.int .i64 (Rc.outR (Rc.stMove (got E (Ky.mk 13 id 0))))) ?_
  have lXg2 := Xg2.lt
  have lXg4 := Xg4.lt
  have lQr11 := Qr11.lt
  refine ta 10 [.int .u64 0, .int .u64 0, .int .u64 0, .int .u64 0, .int .u64 0, .int .u64 0, .slice none 0 0] 48 (pg) ?_
  intro v13 g14 Xg14 hg14 B
  have zg14 := Nat.le_trans A.size hg14
  have nXg14 := A.new hg14
  replace A := A.keep B
  replace Xg2 := Xg2.keep B
  replace Xg4 := Xg4.keep B
  replace U5 := byu_keep U5 B
  replace Qr11 := Qr11.keep B
  clear B
  refine ts Xg14 0 (.agg (mA (got E (Ky.mk 13 id 0)) (.slice ar11 nr11 cr11))) (mL (got E (Ky.mk 13 id 0)) (.slice ar11 nr11 cr11)) (mL (got E (Ky.mk 13 id 0)) (.slice ar11 nr11 cr11)) ?_
  intro v15 Y C
  replace A := Bk.At.cell A Xg14 C zg14 nXg14 (by decide)
  replace Xg2 := Xg2.chg C (show g2 ≠ g14 by omega)
  replace Xg4 := Xg4.chg C (show g4 ≠ g14 by omega)
  replace U5 := byu_cell U5 Xg14 C (by decide)
  replace Qr11 := Qr11.cell C (show nr11 = 0 ∨ zr11 ≠ g14 by omega)
  clear C Xg14
  have Xg14 := Y
  clear Y
  refine t 11 (.int .i64 (Rc.outR (Rc.stMove (got E (Ky.mk 13 id 0))))) ?_
  refine gl_nil ?_
  refine ge_then ?_
  refine gc_seq ?_
  refine gc_reg ?_
  refine tlr 28 (mL (got E (Ky.mk 13 id 0)) (.slice ar11 nr11 cr11)) Xg14 0 ?_
  refine t 29 (.bool (Kv.look E (Ky.mk 13 id 0)).isSome) ?_
  refine ts Xg4 0 (.agg (mA (got E (Ky.mk 13 id 0)) (.slice ar11 nr11 cr11))) (mL (got E (Ky.mk 13 id 0)) (.slice ar11 nr11 cr11)) (mL (got E (Ky.mk 13 id 0)) (.slice ar11 nr11 cr11)) ?_
  intro v16 Y C
  replace A := Bk.At.cell A Xg4 C zg4 nXg4 (by decide)
  replace Xg2 := Xg2.chg C (show g2 ≠ g4 by omega)
  replace U5 := byu_cell U5 Xg4 C (by decide)
  replace Qr11 := Qr11.cell C (show nr11 = 0 ∨ zr11 ≠ g4 by omega)
  replace Xg14 := Xg14.chg C (show g14 ≠ g4 by omega)
  clear C Xg4
  have Xg4 := Y
  clear Y
  refine t 7 (.bool (Kv.look E (Ky.mk 13 id 0)).isSome) ?_
  refine gl_nil ?_
  refine ge_then ?_
  refine gc_fr [(6, pg g4), (7, .bool (Kv.look E (Ky.mk 13 id 0)).isSome)] (by kernel_rfl) ?_
  refine gc_ret ?_
  refine ge_ret (.tuple #[.agg (mA (got E (Ky.mk 13 id 0)) (.slice ar11 nr11 cr11)), .bool (Kv.look E (Ky.mk 13 id 0)).isSome]) (rsct 6 7 (T := 48) (by kernel_rfl) (by kernel_rfl) (by kernel_rfl) (lr Xg4 0)) ?_
  exact ⟨_, _, _, rfl, _, _, A.sx, A.km, A.cc, Qr11, mr11, by omega⟩
end Qu
end Go.Proofs.YtidnifmehnjipaaGreat

namespace Go.Proofs.YtidnifmehnjipaaGreat
namespace Qu
open Go.RowKit Go.Lib Pg Lim Gl Kv Bk Pw
attribute [local go_sem] Oper.semAt_some
set_option maxRecDepth 100000
set_option linter.unusedVariables false
set_option linter.unusedSimpArgs false
set_option maxHeartbeats 2000000
theorem mX_rng {l : List Int} (ho : Oct l) (i : Nat) (hi : i < 6 := by decide) : 0 ≤ mX l i ∧ mX l i < 18446744073709551616 := by
  have h := rr0 (o := 5) (rr0 (o := 4) (rr0 (o := 3) (rr0 (o := 2) (rr0 (o := 1) (rr0 (o := 0) (s := (0, l, fun _ => 0)) ⟨ho, fun _ _ => ⟨Int.le_refl _, (by decide : (0 : Int) < 18446744073709551616)⟩⟩)))))
  have e : Rc.stMove l = Rc.rnx 2 6 (Rc.rnx 0 5 (Rc.rnx 0 4 (Rc.rnx 0 3 (Rc.rnx 0 2 (Rc.rnx 0 1 (Rc.rnx 0 0 (0, l, fun _ => 0))))))) := rfl
  unfold mX Rc.outX
  rw [e]
  generalize Rc.rnx 0 5 (Rc.rnx 0 4 (Rc.rnx 0 3 (Rc.rnx 0 2 (Rc.rnx 0 1 (Rc.rnx 0 0 (0, l, fun _ => 0)))))) = s at h
  have e2 : (Rc.rnx 2 6 s).2.2 i = s.2.2 i := if_neg (by omega)
  split
  · rw [e2]; exact h.2 i hi
  · exact ⟨Int.le_refl _, (by decide : (0 : Int) < 18446744073709551616)⟩
def dropM (E : Ents) (id : Int) : Ents := if (Kv.look E (Ky.mk 13 id 0)).isSome = true then endQ E 13 id (mX (got E (Ky.mk 13 id 0)) 0) (mX (got E (Ky.mk 13 id 0)) 1) (mX (got E (Ky.mk 13 id 0)) 4) else E
def fewM (E : Ents) (id y : Int) : Ents := if (Kv.look E (Ky.mk 13 id 0)).isSome = true then put E (Ky.mk 13 id 0) (mv (mX (got E (Ky.mk 13 id 0)) 0) (mX (got E (Ky.mk 13 id 0)) 1) (mX (got E (Ky.mk 13 id 0)) 2) (mX (got E (Ky.mk 13 id 0)) 3) (mX (got E (Ky.mk 13 id 0)) 4) (mX (got E (Ky.mk 13 id 0)) 5) y) else E
theorem findMb {B : Nat} {w : World} {K : Nat → Prop} {g : Nat} {E : Ents} {W : List Ents} {n N : Nat} {id : Int} {b : Bool} (h : Sx B w K g E W n N) (hid : 0 ≤ id ∧ id < 18446744073709551616) (hn : n + 30 ≤ 4000000000000000000) (hN : N + 30 ≤ 100000000) (hb : (Kv.look E (Ky.mk 13 id 0)).isSome = b) : Calls Tryz.prog 67 #[pg g, .agg #[.int .i64 13, .func (.func 101) #[] #[], .func (.func 102) #[] #[], .func (.func 103) #[] #[]], .int .u64 id] w (FndM B w K g E W (n + 1) N (got E (Ky.mk 13 id 0)) b) := by
  subst hb
  exact findM h hid hn hN
theorem beginM {B : Nat} {w : World} {K : Nat → Prop} {g : Nat} {E : Ents} {W : List Ents} {n N : Nat} {x0 x1 x2 x3 x4 x5 x6 : Int} {a6 : Option Addr} {n6 c6 z6 : Nat} (h : Sx B w K g E W n N) (hx0 : 0 ≤ x0 ∧ x0 < 18446744073709551616) (hx1 : 0 ≤ x1 ∧ x1 < 18446744073709551616) (hx4 : 0 ≤ x4 ∧ x4 < 18446744073709551616) (Q6 : Nk w K z6 a6 n6 c6 x6) (m6 : n6 ≤ 1000000) (hn : n + 40 ≤ 4000000000000000000) (hN : N + 40 ≤ 100000000) : Calls Tryz.prog 44 #[pg g, .agg #[.int .i64 13, .func (.func 101) #[] #[], .func (.func 102) #[] #[], .func (.func 103) #[] #[]], .agg #[.int .u64 x0, .int .u64 x1, .int .u64 x2, .int .u64 x3, .int .u64 x4, .int .u64 x5, .slice a6 n6 c6]] w (SxE B w K g (beginE E 13 (mv x0 x1 x2 x3 x4 x5 x6) x0 x1 x4) W (n + 7) (N + 10) (.int .u64 (nxtB (chn E)))) := by
  have hid : 0 ≤ nxtB (chn E) ∧ nxtB (chn E) < 18446744073709551616 := nxt_rng (h.oct _)
  have A := h.at
  refine gc_enter (n := 47) Tryz.func44 rfl (by kernel_rfl) (by kernel_rfl) ?_
  have l0 := Q6.lt
  refine gc_seq ?_
  refine gc_reg ?_
  have lQ6 := Q6.lt
  refine ta 4 [.int .i64 13, .func (.func 101) #[] #[], .func (.func 102) #[] #[], .func (.func 103) #[] #[]] 114 (pg) ?_
  intro v1 g2 Xg2 hg2 B
  have zg2 := Nat.le_trans A.size hg2
  have nXg2 := A.new hg2
  replace Q6 := Q6.keep B
  replace A := A.keep B
  clear B
  have lQ6 := Q6.lt
  have lXg2 := Xg2.lt
  refine ta 5 [.int .u64 x0, .int .u64 x1, .int .u64 x2, .int .u64 x3, .int .u64 x4, .int .u64 x5, .slice a6 n6 c6] 48 (pg) ?_
  intro v3 g4 Xg4 hg4 B
  have zg4 := Nat.le_trans A.size hg4
  have nXg4 := A.new hg4
  replace Q6 := Q6.keep B
  replace A := A.keep B
  replace Xg2 := Xg2.keep B
  clear B
  refine t 6 (.int .u64 0) ?_
  refine gl_nil ?_
  refine ge_then ?_
  refine gc_seq ?_
  refine gc_reg ?_
  refine t 11 (pg g) ?_
  refine tc 12 90 #[pg g] (number_any A.sx (by omega) (by omega)) ?_
  rintro _ v6 ⟨rfl, K5, S, hK, hC⟩
  refine ⟨_, rfl, ?_⟩
  replace Q6 := Q6.op hK hC
  have mXg2 := not_op Xg2 nXg2 hK
  replace Xg2 := Xg2.chg hC nXg2
  replace nXg2 := mXg2
  clear mXg2
  have mXg4 := not_op Xg4 nXg4 hK
  replace Xg4 := Xg4.chg hC nXg4
  replace nXg4 := mXg4
  clear mXg4
  replace A := A.op S hK hC
  clear S hK hC
  refine t 7 (.int .u64 (nxtB (chn E))) ?_
  refine gl_nil ?_
  refine ge_then ?_
  refine gc_seq ?_
  refine gc_reg ?_
  refine t 13 (pg g) ?_
  refine tlr 14 [.int .i64 13, .func (.func 101) #[] #[], .func (.func 102) #[] #[], .func (.func 103) #[] #[]] Xg2 0 ?_
  refine t 15 (.int .u64 (nxtB (chn E))) ?_
  refine tlr 16 [.int .u64 x0, .int .u64 x1, .int .u64 x2, .int .u64 x3, .int .u64 x4, .int .u64 x5, .slice a6 n6 c6] Xg4 0 ?_
  refine tc 17 100 #[pg g, .agg #[.int .i64 13, .func (.func 101) #[] #[], .func (.func 102) #[] #[], .func (.func 103) #[] #[]], .int .u64 (nxtB (chn E)), .agg #[.int .u64 x0, .int .u64 x1, .int .u64 x2, .int .u64 x3, .int .u64 x4, .int .u64 x5, .slice a6 n6 c6]] (layM A.sx hid Q6 m6 (by omega) (by omega)) ?_
  rintro _ v8 ⟨rfl, K7, S, hK, hC⟩
  refine ⟨_, rfl, ?_⟩
  replace Q6 := Q6.op hK hC
  have mXg2 := not_op Xg2 nXg2 hK
  replace Xg2 := Xg2.chg hC nXg2
  replace nXg2 := mXg2
  clear mXg2
  have mXg4 := not_op Xg4 nXg4 hK
  replace Xg4 := Xg4.chg hC nXg4
  replace nXg4 := mXg4
  clear mXg4
  replace A := A.op S hK hC
  clear S hK hC
  refine gl_nil ?_
  refine ge_then ?_
  refine gc_fr [(0, pg g), (4, pg g2), (5, pg g4), (6, .int .u64 0), (7, .int .u64 (nxtB (chn E)))] (by kernel_rfl) ?_
  refine gc_seq ?_
  refine gc_reg ?_
  refine t 18 (pq g2 3) ?_
  refine tl 19 (.func (.func 103) #[] #[]) Xg2 3 ?_
  refine tlr 20 [.int .u64 x0, .int .u64 x1, .int .u64 x2, .int .u64 x3, .int .u64 x4, .int .u64 x5, .slice a6 n6 c6] Xg4 0 ?_
  refine tc 21 103 #[.agg #[.int .u64 x0, .int .u64 x1, .int .u64 x2, .int .u64 x3, .int .u64 x4, .int .u64 x5, .slice a6 n6 c6]] (trailM) ?_
  rintro _ v9 ⟨rfl, B⟩
  refine ⟨_, rfl, ?_⟩
  replace Q6 := Q6.keep B
  replace A := A.keep B
  replace Xg2 := Xg2.keep B
  replace Xg4 := Xg4.keep B
  clear B
  have lQ6 := Q6.lt
  have lXg2 := Xg2.lt
  have lXg4 := Xg4.lt
  refine ta 8 [.int .u64 0, .int .u64 0, .int .u64 0] 167 (pg) ?_
  intro v10 g11 Xg11 hg11 B
  have zg11 := Nat.le_trans A.size hg11
  have nXg11 := A.new hg11
  replace Q6 := Q6.keep B
  replace A := A.keep B
  replace Xg2 := Xg2.keep B
  replace Xg4 := Xg4.keep B
  clear B
  refine ts Xg11 0 (.agg #[.int .u64 x0, .int .u64 x1, .int .u64 x4]) [.int .u64 x0, .int .u64 x1, .int .u64 x4] [.int .u64 x0, .int .u64 x1, .int .u64 x4] ?_
  intro v12 Y C
  replace Q6 := Q6.cell C (show n6 = 0 ∨ z6 ≠ g11 by omega)
  replace A := Bk.At.cell A Xg11 C zg11 nXg11 (by decide)
  replace Xg2 := Xg2.chg C (show g2 ≠ g11 by omega)
  replace Xg4 := Xg4.chg C (show g4 ≠ g11 by omega)
  clear C Xg11
  have Xg11 := Y
  clear Y
  refine gl_nil ?_
  refine ge_then ?_
  refine gc_seq ?_
  refine gc_seq ?_
  refine gc_reg ?_
  refine tlr 22 [.int .u64 x0, .int .u64 x1, .int .u64 x4] Xg11 0 ?_
  refine t 23 (.int .u64 (nxtB (chn E))) ?_
  refine tc 24 92 #[.agg #[.int .u64 x0, .int .u64 x1, .int .u64 x4], .int .u64 (nxtB (chn E))] (marks_any hx1 hx4) ?_
  rintro _ v16 ⟨as15, ms15, cs15, ps15, qs15, rs15, rfl, U13, U14, B⟩
  refine ⟨_, rfl, ?_⟩
  replace Q6 := Q6.keep B
  replace A := A.keep B
  replace Xg2 := Xg2.keep B
  replace Xg4 := Xg4.keep B
  replace Xg11 := Xg11.keep B
  clear B
  refine t 25 (.int .i64 0) ?_
  refine gl_nil ?_
  refine ge_then ?_
  refine gc_block ?_
  refine gc_rds 2 ?_
  refine gc_seq ?_
  refine gc_reg ?_
  refine t 26 (.bool true) ?_
  refine gl_nil ?_
  refine ge_then ?_
  refine gc_seq ?_
  refine gc_yes ?_
  refine gc_skip ?_
  refine ge_then ?_
  refine gc_seq ?_
  refine gc_block ?_
  refine gc_seq ?_
  refine gc_reg ?_
  refine tr 27 (.slice as15 ms15 cs15) (run_ix (.agg #[.slice as15 ms15 cs15, .slice ps15 qs15 rs15]) (.int .i64 0) (.slice as15 ms15 cs15) ix_0) ?_
  refine t 10 (.slice as15 ms15 cs15) ?_
  refine gl_nil ?_
  refine ge_then ?_
  refine gc_fr [(0, pg g), (4, pg g2), (6, .int .u64 0), (7, .int .u64 (nxtB (chn E))), (8, pg g11), (10, .slice as15 ms15 cs15), (24, .agg #[.slice as15 ms15 cs15, .slice ps15 qs15 rs15]), (25, .int .i64 0), (26, .bool true), (27, .slice as15 ms15 cs15)] (by kernel_rfl) ?_
  refine gc_reg ?_
  refine t 28 (pg g) ?_
  refine t 29 (.slice as15 ms15 cs15) ?_
  refine t 30 (pg g2) ?_
  refine tl 31 (.int .i64 13) Xg2 0 ?_
  refine tr 32 (.int .u64 13) (run_cv 13 ⟨by decide, by decide⟩) ?_
  refine tc 33 93 #[.int .u64 13] (put_number) ?_
  rintro _ v19 ⟨pv18, rfl, U17, B⟩
  refine ⟨_, rfl, ?_⟩
  replace Q6 := Q6.keep B
  replace A := A.keep B
  replace Xg2 := Xg2.keep B
  replace Xg4 := Xg4.keep B
  replace Xg11 := Xg11.keep B
  replace U13 := byu_keep U13 B
  replace U14 := byu_keep U14 B
  clear B
  refine tc 34 33 #[pg g, .slice as15 ms15 cs15, pv18] (qset A.sx U13 (mkE14 x4 (nxtB (chn E))) U17 (Nat.le_trans (nv_len _) (by decide)) (by omega) (by omega)) ?_
  rintro _ v21 ⟨rfl, K20, S, hK, hC⟩
  refine ⟨_, rfl, ?_⟩
  replace Q6 := Q6.op hK hC
  have mXg2 := not_op Xg2 nXg2 hK
  replace Xg2 := Xg2.chg hC nXg2
  replace nXg2 := mXg2
  clear mXg2
  have mXg4 := not_op Xg4 nXg4 hK
  replace Xg4 := Xg4.chg hC nXg4
  replace nXg4 := mXg4
  clear mXg4
  have mXg11 := not_op Xg11 nXg11 hK
  replace Xg11 := Xg11.chg hC nXg11
  replace nXg11 := mXg11
  clear mXg11
  replace U13 := A.byu U13 hC
  replace U14 := A.byu U14 hC
  replace U17 := A.byu U17 hC
  replace A := A.op S hK hC
  clear S hK hC
  clear U13
  clear U17
  refine gl_nil ?_
  refine ge_bn ?_
  refine ge_then ?_
  refine gc_reg ?_
  refine t 35 (.int .i64 1) ?_
  refine t 25 (.int .i64 1) ?_
  refine gl_nil ?_
  refine ge_rd ?_
  refine gc_fr [(0, pg g), (4, pg g2), (6, .int .u64 0), (7, .int .u64 (nxtB (chn E))), (8, pg g11), (10, .slice as15 ms15 cs15), (24, .agg #[.slice as15 ms15 cs15, .slice ps15 qs15 rs15]), (25, .int .i64 1), (26, .bool true), (27, .slice as15 ms15 cs15), (28, pg g), (29, .slice as15 ms15 cs15), (30, pg g2), (31, .int .i64 13), (32, .int .u64 13), (33, pv18), (35, .int .i64 1)] (by kernel_rfl) ?_
  refine gc_seq ?_
  refine gc_reg ?_
  refine t 26 (.bool true) ?_
  refine gl_nil ?_
  refine ge_then ?_
  refine gc_seq ?_
  refine gc_yes ?_
  refine gc_skip ?_
  refine ge_then ?_
  refine gc_seq ?_
  refine gc_block ?_
  refine gc_seq ?_
  refine gc_reg ?_
  refine tr 27 (.slice ps15 qs15 rs15) (run_ix (.agg #[.slice as15 ms15 cs15, .slice ps15 qs15 rs15]) (.int .i64 1) (.slice ps15 qs15 rs15) ix_1) ?_
  refine t 10 (.slice ps15 qs15 rs15) ?_
  refine gl_nil ?_
  refine ge_then ?_
  refine gc_reg ?_
  refine t 28 (pg g) ?_
  refine t 29 (.slice ps15 qs15 rs15) ?_
  refine t 30 (pg g2) ?_
  refine tl 31 (.int .i64 13) Xg2 0 ?_
  refine tr 32 (.int .u64 13) (run_cv 13 ⟨by decide, by decide⟩) ?_
  refine tc 33 93 #[.int .u64 13] (put_number) ?_
  rintro _ v24 ⟨pv23, rfl, U22, B⟩
  refine ⟨_, rfl, ?_⟩
  replace Q6 := Q6.keep B
  replace A := A.keep B
  replace Xg2 := Xg2.keep B
  replace Xg4 := Xg4.keep B
  replace Xg11 := Xg11.keep B
  replace U14 := byu_keep U14 B
  clear B
  refine tc 34 33 #[pg g, .slice ps15 qs15 rs15, pv23] (qset A.sx U14 (mkE15 x1 (nxtB (chn E))) U22 (Nat.le_trans (nv_len _) (by decide)) (by omega) (by omega)) ?_
  rintro _ v26 ⟨rfl, K25, S, hK, hC⟩
  refine ⟨_, rfl, ?_⟩
  replace Q6 := Q6.op hK hC
  have mXg2 := not_op Xg2 nXg2 hK
  replace Xg2 := Xg2.chg hC nXg2
  replace nXg2 := mXg2
  clear mXg2
  have mXg4 := not_op Xg4 nXg4 hK
  replace Xg4 := Xg4.chg hC nXg4
  replace nXg4 := mXg4
  clear mXg4
  have mXg11 := not_op Xg11 nXg11 hK
  replace Xg11 := Xg11.chg hC nXg11
  replace nXg11 := mXg11
  clear mXg11
  replace U14 := A.byu U14 hC
  replace U22 := A.byu U22 hC
  replace A := A.op S hK hC
  clear S hK hC
  clear U14
  clear U22
  refine gl_nil ?_
  refine ge_bn ?_
  refine ge_then ?_
  refine gc_reg ?_
  refine t 35 (.int .i64 2) ?_
  refine t 25 (.int .i64 2) ?_
  refine gl_nil ?_
  refine ge_rd ?_
  refine gc_fr [(0, pg g), (4, pg g2), (6, .int .u64 0), (7, .int .u64 (nxtB (chn E))), (8, pg g11), (10, .slice ps15 qs15 rs15), (24, .agg #[.slice as15 ms15 cs15, .slice ps15 qs15 rs15]), (25, .int .i64 2), (26, .bool true), (27, .slice ps15 qs15 rs15), (28, pg g), (29, .slice ps15 qs15 rs15), (30, pg g2), (31, .int .i64 13), (32, .int .u64 13), (33, pv23), (35, .int .i64 2)] (by kernel_rfl) ?_
  refine gc_seq ?_
  refine gc_reg ?_
  refine t 26 (.bool false) ?_
  refine gl_nil ?_
  refine ge_then ?_
  refine gc_seq ?_
  refine gc_no ?_
  refine gc_exit ?_
  refine ge_tx ?_
  refine ge_tx ?_
  refine ge_bx ?_
  refine ge_then ?_
  refine gc_seq ?_
  replace Q6 := Q6.drew
  replace A := A.drew
  replace Xg2 := Xg2.drew
  replace Xg4 := Xg4.drew
  replace Xg11 := Xg11.drew
  refine gc_draw (fun w' => Blk w' g11 [.int .u64 x0, .int .u64 x1, .int .u64 x4] 167) (fun _ => false) Xg11 ?_
  refine zlr 0 36 [.int .u64 x0, .int .u64 x1, .int .u64 x4] (fun _ h => h) 0 ?_
  refine z 1 37 (pg g) ?_
  refine z 2 38 (pg g) ?_
  refine z 3 39 (pg g11) ?_
  refine zl 4 40 (.int .u64 x0) (fun _ h => h) 0 ?_
  refine z 5 41 (pq g11 1) ?_
  refine zl 6 42 (.int .u64 x1) (fun _ h => h) 1 ?_
  refine zc 7 43 24 #[pg g, .int .u64 x0, .int .u64 x1] (count_get A.sx hx0 (by omega) (by omega)) ?_
  rintro _ v28 ⟨rfl, K27, S, hK, hC⟩
  replace Q6 := Q6.op hK hC
  have mXg2 := not_op Xg2 nXg2 hK
  replace Xg2 := Xg2.chg hC nXg2
  replace nXg2 := mXg2
  clear mXg2
  have mXg4 := not_op Xg4 nXg4 hK
  replace Xg4 := Xg4.chg hC nXg4
  replace nXg4 := mXg4
  clear mXg4
  have mXg11 := not_op Xg11 nXg11 hK
  replace Xg11 := Xg11.chg hC nXg11
  replace nXg11 := mXg11
  clear mXg11
  replace A := A.op S hK hC
  clear S hK hC
  refine ⟨_, rfl, Xg11, ?_⟩
  refine zq 8 44 (.int .u64 (IntKind.u64.wrap (cntQ (put (put (put (nextE E) (Ky.mk 13 (nxtB (chn E)) 0) (mv x0 x1 x2 x3 x4 x5 x6)) (Ky.mk 14 x4 (nxtB (chn E))) (nv 13)) (Ky.mk 15 x1 (nxtB (chn E))) (nv 13)) x0 x1 + 1))) (.int .u64 ((cntQ (put (put (put (nextE E) (Ky.mk 13 (nxtB (chn E)) 0) (mv x0 x1 x2 x3 x4 x5 x6)) (Ky.mk 14 x4 (nxtB (chn E))) (nv 13)) (Ky.mk 15 x1 (nxtB (chn E))) (nv 13)) x0 x1 + 1) % 18446744073709551616)) (congrArg (Value.int .u64) (IntKind.wrap_u64 _)) ?_
  refine zc 9 45 94 #[.agg #[.int .u64 x0, .int .u64 x1, .int .u64 x4], pg g, .int .u64 ((cntQ (put (put (put (nextE E) (Ky.mk 13 (nxtB (chn E)) 0) (mv x0 x1 x2 x3 x4 x5 x6)) (Ky.mk 14 x4 (nxtB (chn E))) (nv 13)) (Ky.mk 15 x1 (nxtB (chn E))) (nv 13)) x0 x1 + 1) % 18446744073709551616)] (count_set A.sx hx0 (by omega) (by omega)) ?_
  rintro _ v30 ⟨rfl, K29, S, hK, hC⟩
  replace Q6 := Q6.op hK hC
  have mXg2 := not_op Xg2 nXg2 hK
  replace Xg2 := Xg2.chg hC nXg2
  replace nXg2 := mXg2
  clear mXg2
  have mXg4 := not_op Xg4 nXg4 hK
  replace Xg4 := Xg4.chg hC nXg4
  replace nXg4 := mXg4
  clear mXg4
  have mXg11 := not_op Xg11 nXg11 hK
  replace Xg11 := Xg11.chg hC nXg11
  replace nXg11 := mXg11
  clear mXg11
  replace A := A.op S hK hC
  clear S hK hC
  refine ⟨_, rfl, Xg11, ?_⟩
  refine gz_done ?_
  refine ge_then ?_
  refine gc_seq ?_
  refine gc_reg ?_
  refine t 46 (.int .u64 (nxtB (chn E))) ?_
  refine t 6 (.int .u64 (nxtB (chn E))) ?_
  refine gl_nil ?_
  refine ge_then ?_
  refine gc_fr [(6, .int .u64 (nxtB (chn E)))] (by kernel_rfl) ?_
  refine gc_ret ?_
  refine ge_ret (.int .u64 (nxtB (chn E))) (rs1 6 (by kernel_rfl) (by kernel_rfl)) ?_
  exact ⟨rfl, _, A.sx, A.km, A.cc⟩
theorem endM {B : Nat} {w : World} {K : Nat → Prop} {g : Nat} {E : Ents} {W : List Ents} {n N : Nat} {id : Int} (h : Sx B w K g E W n N) (hid : 0 ≤ id ∧ id < 18446744073709551616) (hn : n + 40 ≤ 4000000000000000000) (hN : N + 40 ≤ 100000000) : Calls Tryz.prog 54 #[pg g, .agg #[.int .i64 13, .func (.func 101) #[] #[], .func (.func 102) #[] #[], .func (.func 103) #[] #[]], .int .u64 id] w (SxF B w K g (dropM E id) W n N (.bool (Kv.look E (Ky.mk 13 id 0)).isSome)) := by
  have A := h.at
  refine gc_enter (n := 51) Tryz.func54 rfl (by kernel_rfl) (by kernel_rfl) ?_
  refine gc_seq ?_
  refine gc_reg ?_
  refine ta 4 [.int .i64 13, .func (.func 101) #[] #[], .func (.func 102) #[] #[], .func (.func 103) #[] #[]] 114 (pg) ?_
  intro v1 g2 Xg2 hg2 B
  have zg2 := Nat.le_trans A.size hg2
  have nXg2 := A.new hg2
  replace A := A.keep B
  clear B
  refine t 6 (.bool false) ?_
  refine gl_nil ?_
  refine ge_then ?_
  refine gc_seq ?_
  refine gc_reg ?_
  refine t 13 (pg g) ?_
  refine tlr 14 [.int .i64 13, .func (.func 101) #[] #[], .func (.func 102) #[] #[], .func (.func 103) #[] #[]] Xg2 0 ?_
  refine t 15 (.int .u64 id) ?_
  by_cases c3 : (Kv.look E (Ky.mk 13 id 0)).isSome = true
  · refine tc 16 67 #[pg g, .agg #[.int .i64 13, .func (.func 101) #[] #[], .func (.func 102) #[] #[], .func (.func 103) #[] #[]], .int .u64 id] (findMb A.sx hid (by omega) (by omega) c3) ?_
    rintro _ v6 ⟨ar5, nr5, cr5, rfl, zr5, K4, S, hK, hC, Qr5, mr5, hzr5⟩
    refine ⟨_, rfl, ?_⟩
    have kXg2r5 := Xg2.lt
    have sr5 := A.size
    have mXg2 := not_op Xg2 nXg2 hK
    replace Xg2 := Xg2.chg hC nXg2
    replace nXg2 := mXg2
    clear mXg2
    replace A := A.op S hK hC
    clear S hK hC
    refine t 12 (.tuple #[.agg (mA (got E (Ky.mk 13 id 0)) (.slice ar5 nr5 cr5)), .bool true]) ?_
    refine t 17 (.agg (mA (got E (Ky.mk 13 id 0)) (.slice ar5 nr5 cr5))) ?_
    refine t 18 (.bool true) ?_
    have lXg2 := Xg2.lt
    have lQr5 := Qr5.lt
    refine ta 7 [.int .u64 0, .int .u64 0, .int .u64 0, .int .u64 0, .int .u64 0, .int .u64 0, .slice none 0 0] 48 (pg) ?_
    intro v7 g8 Xg8 hg8 B
    have zg8 := Nat.le_trans A.size hg8
    have nXg8 := A.new hg8
    replace A := A.keep B
    replace Xg2 := Xg2.keep B
    replace Qr5 := Qr5.keep B
    clear B
    refine ts Xg8 0 (.agg (mA (got E (Ky.mk 13 id 0)) (.slice ar5 nr5 cr5))) (mL (got E (Ky.mk 13 id 0)) (.slice ar5 nr5 cr5)) (mL (got E (Ky.mk 13 id 0)) (.slice ar5 nr5 cr5)) ?_
    intro v9 Y C
    replace A := Bk.At.cell A Xg8 C zg8 nXg8 (by decide)
    replace Xg2 := Xg2.chg C (show g2 ≠ g8 by omega)
    replace Qr5 := Qr5.cell C (show nr5 = 0 ∨ zr5 ≠ g8 by omega)
    clear C Xg8
    have Xg8 := Y
    clear Y
    refine t 8 (.bool true) ?_
    refine gl_nil ?_
    refine ge_then ?_
    refine gc_fr [(0, pg g), (2, .int .u64 id), (4, pg g2), (6, .bool false), (7, pg g8), (8, .bool true)] (by kernel_rfl) ?_
    refine gc_seq ?_
    refine gc_seq ?_
    refine gc_reg ?_
    refine t 19 (.bool true) ?_
    refine t 20 (.bool false) ?_
    refine gl_nil ?_
    refine ge_then ?_
    refine gc_no ?_
    refine gc_skip ?_
    refine ge_then ?_
    refine gc_seq ?_
    refine gc_reg ?_
    refine t 21 (pg g) ?_
    refine t 22 (pg g2) ?_
    refine tl 23 (.int .i64 13) Xg2 0 ?_
    refine t 24 (.int .u64 id) ?_
    refine tc 25 64 #[.int .i64 13, .int .u64 id, .int .u64 0] (qkey hid (mkE13 id)) ?_
    rintro _ v12 ⟨kv11, rfl, U10, B⟩
    refine ⟨_, rfl, ?_⟩
    replace A := A.keep B
    replace Xg2 := Xg2.keep B
    replace Qr5 := Qr5.keep B
    replace Xg8 := Xg8.keep B
    clear B
    refine tc 26 107 #[pg g, kv11] (xdel A.sx U10 (Nat.le_trans (Ky.mk_len _ _ _) (by decide)) (by omega) (by omega)) ?_
    rintro _ v14 ⟨rfl, K13, S, hK, hC⟩
    refine ⟨_, rfl, ?_⟩
    replace Qr5 := Qr5.op hK hC
    have mXg2 := not_op Xg2 nXg2 hK
    replace Xg2 := Xg2.chg hC nXg2
    replace nXg2 := mXg2
    clear mXg2
    have mXg8 := not_op Xg8 nXg8 hK
    replace Xg8 := Xg8.chg hC nXg8
    replace nXg8 := mXg8
    clear mXg8
    replace U10 := A.byu U10 hC
    replace A := A.op S hK hC
    clear S hK hC
    clear U10
    refine gl_nil ?_
    refine ge_then ?_
    refine gc_seq ?_
    refine gc_reg ?_
    refine t 27 (pq g2 3) ?_
    refine tl 28 (.func (.func 103) #[] #[]) Xg2 3 ?_
    refine tlr 29 (mL (got E (Ky.mk 13 id 0)) (.slice ar5 nr5 cr5)) Xg8 0 ?_
    refine tc 30 103 #[.agg (mA (got E (Ky.mk 13 id 0)) (.slice ar5 nr5 cr5))] (trailM) ?_
    rintro _ v15 ⟨rfl, B⟩
    refine ⟨_, rfl, ?_⟩
    replace A := A.keep B
    replace Xg2 := Xg2.keep B
    replace Qr5 := Qr5.keep B
    replace Xg8 := Xg8.keep B
    clear B
    have lXg2 := Xg2.lt
    have lQr5 := Qr5.lt
    have lXg8 := Xg8.lt
    refine ta 9 [.int .u64 0, .int .u64 0, .int .u64 0] 167 (pg) ?_
    intro v16 g17 Xg17 hg17 B
    have zg17 := Nat.le_trans A.size hg17
    have nXg17 := A.new hg17
    replace A := A.keep B
    replace Xg2 := Xg2.keep B
    replace Qr5 := Qr5.keep B
    replace Xg8 := Xg8.keep B
    clear B
    refine ts Xg17 0 (.agg #[.int .u64 (mX (got E (Ky.mk 13 id 0)) 0), .int .u64 (mX (got E (Ky.mk 13 id 0)) 1), .int .u64 (mX (got E (Ky.mk 13 id 0)) 4)]) [.int .u64 (mX (got E (Ky.mk 13 id 0)) 0), .int .u64 (mX (got E (Ky.mk 13 id 0)) 1), .int .u64 (mX (got E (Ky.mk 13 id 0)) 4)] [.int .u64 (mX (got E (Ky.mk 13 id 0)) 0), .int .u64 (mX (got E (Ky.mk 13 id 0)) 1), .int .u64 (mX (got E (Ky.mk 13 id 0)) 4)] ?_
    intro v18 Y C
    replace A := Bk.At.cell A Xg17 C zg17 nXg17 (by decide)
    replace Xg2 := Xg2.chg C (show g2 ≠ g17 by omega)
    replace Qr5 := Qr5.cell C (show nr5 = 0 ∨ zr5 ≠ g17 by omega)
    replace Xg8 := Xg8.chg C (show g8 ≠ g17 by omega)
    clear C Xg17
    have Xg17 := Y
    clear Y
    refine gl_nil ?_
    refine ge_then ?_
    refine gc_fr [(0, pg g), (2, .int .u64 id), (6, .bool false), (9, pg g17)] (by kernel_rfl) ?_
    refine gc_seq ?_
    refine gc_seq ?_
    refine gc_reg ?_
    refine tlr 31 [.int .u64 (mX (got E (Ky.mk 13 id 0)) 0), .int .u64 (mX (got E (Ky.mk 13 id 0)) 1), .int .u64 (mX (got E (Ky.mk 13 id 0)) 4)] Xg17 0 ?_
    refine t 32 (.int .u64 id) ?_
    refine tc 33 92 #[.agg #[.int .u64 (mX (got E (Ky.mk 13 id 0)) 0), .int .u64 (mX (got E (Ky.mk 13 id 0)) 1), .int .u64 (mX (got E (Ky.mk 13 id 0)) 4)], .int .u64 id] (marks_any (mX_rng (h.oct _) 1) (mX_rng (h.oct _) 4)) ?_
    rintro _ v22 ⟨as21, ms21, cs21, ps21, qs21, rs21, rfl, U19, U20, B⟩
    refine ⟨_, rfl, ?_⟩
    replace A := A.keep B
    replace Xg2 := Xg2.keep B
    replace Qr5 := Qr5.keep B
    replace Xg8 := Xg8.keep B
    replace Xg17 := Xg17.keep B
    clear B
    refine t 34 (.int .i64 0) ?_
    refine gl_nil ?_
    refine ge_then ?_
    refine gc_block ?_
    refine gc_rds 2 ?_
    refine gc_seq ?_
    refine gc_reg ?_
    refine t 35 (.bool true) ?_
    refine gl_nil ?_
    refine ge_then ?_
    refine gc_seq ?_
    refine gc_yes ?_
    refine gc_skip ?_
    refine ge_then ?_
    refine gc_seq ?_
    refine gc_block ?_
    refine gc_seq ?_
    refine gc_reg ?_
    refine tr 36 (.slice as21 ms21 cs21) (run_ix (.agg #[.slice as21 ms21 cs21, .slice ps21 qs21 rs21]) (.int .i64 0) (.slice as21 ms21 cs21) ix_0) ?_
    refine t 11 (.slice as21 ms21 cs21) ?_
    refine gl_nil ?_
    refine ge_then ?_
    refine gc_reg ?_
    refine t 37 (pg g) ?_
    refine t 38 (.slice as21 ms21 cs21) ?_
    refine tc 39 107 #[pg g, .slice as21 ms21 cs21] (xdel A.sx U19 (Nat.le_trans (Ky.mk_len _ _ _) (by decide)) (by omega) (by omega)) ?_
    rintro _ v24 ⟨rfl, K23, S, hK, hC⟩
    refine ⟨_, rfl, ?_⟩
    replace Qr5 := Qr5.op hK hC
    have mXg2 := not_op Xg2 nXg2 hK
    replace Xg2 := Xg2.chg hC nXg2
    replace nXg2 := mXg2
    clear mXg2
    have mXg8 := not_op Xg8 nXg8 hK
    replace Xg8 := Xg8.chg hC nXg8
    replace nXg8 := mXg8
    clear mXg8
    have mXg17 := not_op Xg17 nXg17 hK
    replace Xg17 := Xg17.chg hC nXg17
    replace nXg17 := mXg17
    clear mXg17
    replace U19 := A.byu U19 hC
    replace U20 := A.byu U20 hC
    replace A := A.op S hK hC
    clear S hK hC
    clear U19
    refine gl_nil ?_
    refine ge_bn ?_
    refine ge_then ?_
    refine gc_reg ?_
    refine t 40 (.int .i64 1) ?_
    refine t 34 (.int .i64 1) ?_
    refine gl_nil ?_
    refine ge_rd ?_
    refine gc_fr [(0, pg g), (6, .bool false), (9, pg g17), (11, .slice as21 ms21 cs21), (33, .agg #[.slice as21 ms21 cs21, .slice ps21 qs21 rs21]), (34, .int .i64 1), (35, .bool true), (36, .slice as21 ms21 cs21), (37, pg g), (38, .slice as21 ms21 cs21), (40, .int .i64 1)] (by kernel_rfl) ?_
    refine gc_seq ?_
    refine gc_reg ?_
    refine t 35 (.bool true) ?_
    refine gl_nil ?_
    refine ge_then ?_
    refine gc_seq ?_
    refine gc_yes ?_
    refine gc_skip ?_
    refine ge_then ?_
    refine gc_seq ?_
    refine gc_block ?_
    refine gc_seq ?_
    refine gc_reg ?_
    refine tr 36 (.slice ps21 qs21 rs21) (run_ix (.agg #[.slice as21 ms21 cs21, .slice ps21 qs21 rs21]) (.int .i64 1) (.slice ps21 qs21 rs21) ix_1) ?_
    refine t 11 (.slice ps21 qs21 rs21) ?_
    refine gl_nil ?_
    refine ge_then ?_
    refine gc_reg ?_
    refine t 37 (pg g) ?_
    refine t 38 (.slice ps21 qs21 rs21) ?_
    refine tc 39 107 #[pg g, .slice ps21 qs21 rs21] (xdel A.sx U20 (Nat.le_trans (Ky.mk_len _ _ _) (by decide)) (by omega) (by omega)) ?_
    rintro _ v26 ⟨rfl, K25, S, hK, hC⟩
    refine ⟨_, rfl, ?_⟩
    replace Qr5 := Qr5.op hK hC
    have mXg2 := not_op Xg2 nXg2 hK
    replace Xg2 := Xg2.chg hC nXg2
    replace nXg2 := mXg2
    clear mXg2
    have mXg8 := not_op Xg8 nXg8 hK
    replace Xg8 := Xg8.chg hC nXg8
    replace nXg8 := mXg8
    clear mXg8
    have mXg17 := not_op Xg17 nXg17 hK
    replace Xg17 := Xg17.chg hC nXg17
    replace nXg17 := mXg17
    clear mXg17
    replace U20 := A.byu U20 hC
    replace A := A.op S hK hC
    clear S hK hC
    clear U20
    refine gl_nil ?_
    refine ge_bn ?_
    refine ge_then ?_
    refine gc_reg ?_
    refine t 40 (.int .i64 2) ?_
    refine t 34 (.int .i64 2) ?_
    refine gl_nil ?_
    refine ge_rd ?_
    refine gc_fr [(0, pg g), (6, .bool false), (9, pg g17), (11, .slice ps21 qs21 rs21), (33, .agg #[.slice as21 ms21 cs21, .slice ps21 qs21 rs21]), (34, .int .i64 2), (35, .bool true), (36, .slice ps21 qs21 rs21), (37, pg g), (38, .slice ps21 qs21 rs21), (40, .int .i64 2)] (by kernel_rfl) ?_
    refine gc_seq ?_
    refine gc_reg ?_
    refine t 35 (.bool false) ?_
    refine gl_nil ?_
    refine ge_then ?_
    refine gc_seq ?_
    refine gc_no ?_
    refine gc_exit ?_
    refine ge_tx ?_
    refine ge_tx ?_
    refine ge_bx ?_
    refine ge_then ?_
    refine gc_seq ?_
    replace A := A.drew
    replace Xg2 := Xg2.drew
    replace Qr5 := Qr5.drew
    replace Xg8 := Xg8.drew
    replace Xg17 := Xg17.drew
    refine gc_draw (fun w' => Blk w' g17 [.int .u64 (mX (got E (Ky.mk 13 id 0)) 0), .int .u64 (mX (got E (Ky.mk 13 id 0)) 1), .int .u64 (mX (got E (Ky.mk 13 id 0)) 4)] 167) (fun _ => false) Xg17 ?_
    refine zlr 0 41 [.int .u64 (mX (got E (Ky.mk 13 id 0)) 0), .int .u64 (mX (got E (Ky.mk 13 id 0)) 1), .int .u64 (mX (got E (Ky.mk 13 id 0)) 4)] (fun _ h => h) 0 ?_
    refine z 1 42 (pg g) ?_
    refine z 2 43 (pg g) ?_
    refine z 3 44 (pg g17) ?_
    refine zl 4 45 (.int .u64 (mX (got E (Ky.mk 13 id 0)) 0)) (fun _ h => h) 0 ?_
    refine z 5 46 (pq g17 1) ?_
    refine zl 6 47 (.int .u64 (mX (got E (Ky.mk 13 id 0)) 1)) (fun _ h => h) 1 ?_
    refine zc 7 48 24 #[pg g, .int .u64 (mX (got E (Ky.mk 13 id 0)) 0), .int .u64 (mX (got E (Ky.mk 13 id 0)) 1)] (count_get A.sx (mX_rng (h.oct _) 0) (by omega) (by omega)) ?_
    rintro _ v28 ⟨rfl, K27, S, hK, hC⟩
    replace Qr5 := Qr5.op hK hC
    have mXg2 := not_op Xg2 nXg2 hK
    replace Xg2 := Xg2.chg hC nXg2
    replace nXg2 := mXg2
    clear mXg2
    have mXg8 := not_op Xg8 nXg8 hK
    replace Xg8 := Xg8.chg hC nXg8
    replace nXg8 := mXg8
    clear mXg8
    have mXg17 := not_op Xg17 nXg17 hK
    replace Xg17 := Xg17.chg hC nXg17
    replace nXg17 := mXg17
    clear mXg17
    replace A := A.op S hK hC
    clear S hK hC
    refine ⟨_, rfl, Xg17, ?_⟩
    refine zq 8 49 (.int .u64 (IntKind.u64.wrap (cntQ (rem (rem (rem E (Ky.mk 13 id 0)) (Ky.mk 14 (mX (got E (Ky.mk 13 id 0)) 4) id)) (Ky.mk 15 (mX (got E (Ky.mk 13 id 0)) 1) id)) (mX (got E (Ky.mk 13 id 0)) 0) (mX (got E (Ky.mk 13 id 0)) 1) - 1))) (.int .u64 ((cntQ (rem (rem (rem E (Ky.mk 13 id 0)) (Ky.mk 14 (mX (got E (Ky.mk 13 id 0)) 4) id)) (Ky.mk 15 (mX (got E (Ky.mk 13 id 0)) 1) id)) (mX (got E (Ky.mk 13 id 0)) 0) (mX (got E (Ky.mk 13 id 0)) 1) - 1) % 18446744073709551616)) (congrArg (Value.int .u64) (IntKind.wrap_u64 _)) ?_
    refine zc 9 50 94 #[.agg #[.int .u64 (mX (got E (Ky.mk 13 id 0)) 0), .int .u64 (mX (got E (Ky.mk 13 id 0)) 1), .int .u64 (mX (got E (Ky.mk 13 id 0)) 4)], pg g, .int .u64 ((cntQ (rem (rem (rem E (Ky.mk 13 id 0)) (Ky.mk 14 (mX (got E (Ky.mk 13 id 0)) 4) id)) (Ky.mk 15 (mX (got E (Ky.mk 13 id 0)) 1) id)) (mX (got E (Ky.mk 13 id 0)) 0) (mX (got E (Ky.mk 13 id 0)) 1) - 1) % 18446744073709551616)] (count_set A.sx (mX_rng (h.oct _) 0) (by omega) (by omega)) ?_
    rintro _ v30 ⟨rfl, K29, S, hK, hC⟩
    replace Qr5 := Qr5.op hK hC
    have mXg2 := not_op Xg2 nXg2 hK
    replace Xg2 := Xg2.chg hC nXg2
    replace nXg2 := mXg2
    clear mXg2
    have mXg8 := not_op Xg8 nXg8 hK
    replace Xg8 := Xg8.chg hC nXg8
    replace nXg8 := mXg8
    clear mXg8
    have mXg17 := not_op Xg17 nXg17 hK
    replace Xg17 := Xg17.chg hC nXg17
    replace nXg17 := mXg17
    clear mXg17
    replace A := A.op S hK hC
    clear S hK hC
    refine ⟨_, rfl, Xg17, ?_⟩
    refine gz_done ?_
    refine ge_then ?_
    refine gc_seq ?_
    refine gc_reg ?_
    refine t 6 (.bool true) ?_
    refine gl_nil ?_
    refine ge_then ?_
    refine gc_fr [(6, .bool true)] (by kernel_rfl) ?_
    refine gc_ret ?_
    refine ge_ret (.bool true) (rs1 6 (by kernel_rfl) (by kernel_rfl)) ?_
    rw [show dropM E id = _ from if_pos c3, show (Kv.look E (Ky.mk 13 id 0)).isSome = true from c3]
    exact ⟨rfl, _, _, _, A.sx, by omega, by omega, A.km, A.cc⟩
  · refine tc 16 67 #[pg g, .agg #[.int .i64 13, .func (.func 101) #[] #[], .func (.func 102) #[] #[], .func (.func 103) #[] #[]], .int .u64 id] (findMb A.sx hid (by omega) (by omega) (Bool.eq_false_iff.2 c3)) ?_
    rintro _ v33 ⟨ar32, nr32, cr32, rfl, zr32, K31, S, hK, hC, Qr32, mr32, hzr32⟩
    refine ⟨_, rfl, ?_⟩
    have kXg2r32 := Xg2.lt
    have sr32 := A.size
    have mXg2 := not_op Xg2 nXg2 hK
    replace Xg2 := Xg2.chg hC nXg2
    replace nXg2 := mXg2
    clear mXg2
    replace A := A.op S hK hC
    clear S hK hC
    refine t 12 (.tuple #[.agg (mA (got E (Ky.mk 13 id 0)) (.slice ar32 nr32 cr32)), .bool false]) ?_
    refine t 17 (.agg (mA (got E (Ky.mk 13 id 0)) (.slice ar32 nr32 cr32))) ?_
    refine t 18 (.bool false) ?_
    have lXg2 := Xg2.lt
    have lQr32 := Qr32.lt
    refine ta 7 [.int .u64 0, .int .u64 0, .int .u64 0, .int .u64 0, .int .u64 0, .int .u64 0, .slice none 0 0] 48 (pg) ?_
    intro v34 g35 Xg35 hg35 B
    have zg35 := Nat.le_trans A.size hg35
    have nXg35 := A.new hg35
    replace A := A.keep B
    replace Xg2 := Xg2.keep B
    replace Qr32 := Qr32.keep B
    clear B
    refine ts Xg35 0 (.agg (mA (got E (Ky.mk 13 id 0)) (.slice ar32 nr32 cr32))) (mL (got E (Ky.mk 13 id 0)) (.slice ar32 nr32 cr32)) (mL (got E (Ky.mk 13 id 0)) (.slice ar32 nr32 cr32)) ?_
    intro v36 Y C
    replace A := Bk.At.cell A Xg35 C zg35 nXg35 (by decide)
    replace Xg2 := Xg2.chg C (show g2 ≠ g35 by omega)
    replace Qr32 := Qr32.cell C (show nr32 = 0 ∨ zr32 ≠ g35 by omega)
    clear C Xg35
    have Xg35 := Y
    clear Y
    refine t 8 (.bool false) ?_
    refine gl_nil ?_
    refine ge_then ?_
    refine gc_fr [(0, pg g), (2, .int .u64 id), (4, pg g2), (6, .bool false), (7, pg g35), (8, .bool false)] (by kernel_rfl) ?_
    refine gc_seq ?_
    refine gc_seq ?_
    refine gc_reg ?_
    refine t 19 (.bool false) ?_
    refine t 20 (.bool true) ?_
    refine gl_nil ?_
    refine ge_then ?_
    refine gc_yes ?_
    refine gc_seq ?_
    refine gc_reg ?_
    refine t 6 (.bool false) ?_
    refine gl_nil ?_
    refine ge_then ?_
    refine gc_ret ?_
    refine ge_tr ?_
    refine ge_ret (.bool false) (rs1 6 (by kernel_rfl) (by kernel_rfl)) ?_
    rw [show dropM E id = _ from if_neg c3, show (Kv.look E (Ky.mk 13 id 0)).isSome = false from Bool.eq_false_iff.2 c3]
    exact ⟨rfl, _, _, _, A.sx, by omega, by omega, A.km, A.cc⟩
theorem fewer1 {w : World} {r q : Nat} {x0 x1 x2 x3 x4 x5 : Int} {a6 a7 : Option Addr} {n6 c6 n7 c7 : Nat} (hne : q ≠ r) (X : Blk w r [.int .u64 x0, .int .u64 x1, .int .u64 x2, .int .u64 x3, .int .u64 x4, .int .u64 x5, .slice a6 n6 c6] 48) (Xq : Blk w q [.slice a7 n7 c7] 46) : Calls Tryz.prog 51 #[pg r, pg q] w fun e w' => e = .returned (.tuple #[]) ∧ Blk w' r [.int .u64 x0, .int .u64 x1, .int .u64 x2, .int .u64 x3, .int .u64 x4, .int .u64 x5, .slice a7 n7 c7] 48 ∧ Chg (· = r) w w' := by
  have CC : Chg (· = r) w w := Chg.refl _ _
  refine gc_enter (n := 7) Tryz.func51 rfl (by kernel_rfl) (by kernel_rfl) ?_
  refine gc_reg ?_
  refine t 3 (pg r) ?_
  refine tlr 4 [.slice a7 n7 c7] Xq 0 ?_
  refine t 5 (pg r) ?_
  refine t 6 (pq r 6) ?_
  refine ts X 6 (.agg #[.slice a7 n7 c7]) [.slice a7 n7 c7] [.int .u64 x0, .int .u64 x1, .int .u64 x2, .int .u64 x3, .int .u64 x4, .int .u64 x5, .slice a7 n7 c7] ?_
  intro v1 Y C
  replace Xq := Xq.chg C hne
  replace CC := CC.trans C (fun _ _ h => h)
  clear C X
  have X := Y
  clear Y
  refine gl_nil ?_
  refine ge_end (.tuple #[]) (rs0 (by kernel_rfl)) ?_
  exact ⟨rfl, X, CC⟩
theorem changeM {B : Nat} {w : World} {K : Nat → Prop} {g : Nat} {E : Ents} {W : List Ents} {n N : Nat} {id y : Int} {q : Nat} {a7 : Option Addr} {n7 c7 z7 : Nat} (h : Sx B w K g E W n N) (hid : 0 ≤ id ∧ id < 18446744073709551616) (Xq : Blk w q [.slice a7 n7 c7] 46) (nXq : ¬ K q) (Q7 : Nk w K z7 a7 n7 c7 y) (m7 : n7 ≤ 1000000) (hn : n + 40 ≤ 4000000000000000000) (hN : N + 40 ≤ 100000000) : Calls Tryz.prog 50 #[pg g, .agg #[.int .i64 13, .func (.func 101) #[] #[], .func (.func 102) #[] #[], .func (.func 103) #[] #[]], .int .u64 id, .func (.func 51) #[] #[pg q]] w (SxF B w K g (fewM E id y) W n N (.bool (Kv.look E (Ky.mk 13 id 0)).isSome)) := by
  have lXq := Xq.lt
  have l0 := Q7.lt
  have A := h.at
  refine gc_enter (n := 27) Tryz.func50 rfl (by kernel_rfl) (by kernel_rfl) ?_
  refine gc_seq ?_
  refine gc_reg ?_
  have lXq := Xq.lt
  have lQ7 := Q7.lt
  refine ta 5 [.int .i64 13, .func (.func 101) #[] #[], .func (.func 102) #[] #[], .func (.func 103) #[] #[]] 114 (pg) ?_
  intro v1 g2 Xg2 hg2 B
  have zg2 := Nat.le_trans A.size hg2
  have nXg2 := A.new hg2
  replace Xq := Xq.keep B
  replace Q7 := Q7.keep B
  replace A := A.keep B
  clear B
  refine t 8 (.bool false) ?_
  refine gl_nil ?_
  refine ge_then ?_
  refine gc_seq ?_
  refine gc_reg ?_
  refine t 12 (pg g) ?_
  refine tlr 13 [.int .i64 13, .func (.func 101) #[] #[], .func (.func 102) #[] #[], .func (.func 103) #[] #[]] Xg2 0 ?_
  refine t 14 (.int .u64 id) ?_
  by_cases c3 : (Kv.look E (Ky.mk 13 id 0)).isSome = true
  · refine tc 15 67 #[pg g, .agg #[.int .i64 13, .func (.func 101) #[] #[], .func (.func 102) #[] #[], .func (.func 103) #[] #[]], .int .u64 id] (findMb A.sx hid (by omega) (by omega) c3) ?_
    rintro _ v6 ⟨ar5, nr5, cr5, rfl, zr5, K4, S, hK, hC, Qr5, mr5, hzr5⟩
    refine ⟨_, rfl, ?_⟩
    have kXqr5 := Xq.lt
    have kXg2r5 := Xg2.lt
    have sr5 := A.size
    replace Q7 := Q7.op hK hC
    have mXq := not_op Xq nXq hK
    replace Xq := Xq.chg hC nXq
    replace nXq := mXq
    clear mXq
    have mXg2 := not_op Xg2 nXg2 hK
    replace Xg2 := Xg2.chg hC nXg2
    replace nXg2 := mXg2
    clear mXg2
    replace A := A.op S hK hC
    clear S hK hC
    refine t 11 (.tuple #[.agg (mA (got E (Ky.mk 13 id 0)) (.slice ar5 nr5 cr5)), .bool true]) ?_
    refine t 16 (.agg (mA (got E (Ky.mk 13 id 0)) (.slice ar5 nr5 cr5))) ?_
    refine t 17 (.bool true) ?_
    have lXq := Xq.lt
    have lQ7 := Q7.lt
    have lXg2 := Xg2.lt
    have lQr5 := Qr5.lt
    refine ta 9 [.int .u64 0, .int .u64 0, .int .u64 0, .int .u64 0, .int .u64 0, .int .u64 0, .slice none 0 0] 48 (pg) ?_
    intro v7 g8 Xg8 hg8 B
    have zg8 := Nat.le_trans A.size hg8
    have nXg8 := A.new hg8
    replace Xq := Xq.keep B
    replace Q7 := Q7.keep B
    replace A := A.keep B
    replace Xg2 := Xg2.keep B
    replace Qr5 := Qr5.keep B
    clear B
    refine ts Xg8 0 (.agg (mA (got E (Ky.mk 13 id 0)) (.slice ar5 nr5 cr5))) (mL (got E (Ky.mk 13 id 0)) (.slice ar5 nr5 cr5)) (mL (got E (Ky.mk 13 id 0)) (.slice ar5 nr5 cr5)) ?_
    intro v9 Y C
    replace Xq := Xq.chg C (show q ≠ g8 by omega)
    replace Q7 := Q7.cell C (show n7 = 0 ∨ z7 ≠ g8 by omega)
    replace A := Bk.At.cell A Xg8 C zg8 nXg8 (by decide)
    replace Xg2 := Xg2.chg C (show g2 ≠ g8 by omega)
    replace Qr5 := Qr5.cell C (show nr5 = 0 ∨ zr5 ≠ g8 by omega)
    clear C Xg8
    have Xg8 := Y
    clear Y
    refine t 10 (.bool true) ?_
    refine gl_nil ?_
    refine ge_then ?_
    refine gc_fr [(0, pg g), (2, .int .u64 id), (3, .func (.func 51) #[] #[pg q]), (5, pg g2), (8, .bool false), (9, pg g8), (10, .bool true)] (by kernel_rfl) ?_
    refine gc_seq ?_
    refine gc_seq ?_
    refine gc_reg ?_
    refine t 18 (.bool true) ?_
    refine gl_nil ?_
    refine ge_then ?_
    refine gc_yes ?_
    refine gc_seq ?_
    refine gc_reg ?_
    refine t 19 (.func (.func 51) #[] #[pg q]) ?_
    refine tc 20 51 #[pg g8, pg q] (fewer1 (show q ≠ g8 by omega) Xg8 Xq) ?_
    rintro _ v10 ⟨rfl, Z, C⟩
    refine ⟨_, rfl, ?_⟩
    replace Xq := Xq.chg C (show q ≠ g8 by omega)
    replace Q7 := Q7.cell C (show n7 = 0 ∨ z7 ≠ g8 by omega)
    replace A := Bk.At.cell A Xg8 C zg8 nXg8 (by decide)
    replace Xg2 := Xg2.chg C (show g2 ≠ g8 by omega)
    replace Qr5 := Qr5.cell C (show nr5 = 0 ∨ zr5 ≠ g8 by omega)
    clear C
    clear Xg8
    have Xg8 := Z
    clear Z
    refine gl_nil ?_
    refine ge_then ?_
    refine gc_reg ?_
    refine t 21 (pg g) ?_
    refine tlr 22 [.int .i64 13, .func (.func 101) #[] #[], .func (.func 102) #[] #[], .func (.func 103) #[] #[]] Xg2 0 ?_
    refine t 23 (.int .u64 id) ?_
    refine tlr 24 (mL (got E (Ky.mk 13 id 0)) (.slice a7 n7 c7)) Xg8 0 ?_
    refine tc 25 100 #[pg g, .agg #[.int .i64 13, .func (.func 101) #[] #[], .func (.func 102) #[] #[], .func (.func 103) #[] #[]], .int .u64 id, .agg (mA (got E (Ky.mk 13 id 0)) (.slice a7 n7 c7))] (layM A.sx hid Q7 m7 (by omega) (by omega)) ?_
    rintro _ v12 ⟨rfl, K11, S, hK, hC⟩
    refine ⟨_, rfl, ?_⟩
    replace Q7 := Q7.op hK hC
    replace Qr5 := Qr5.op hK hC
    have mXq := not_op Xq nXq hK
    replace Xq := Xq.chg hC nXq
    replace nXq := mXq
    clear mXq
    have mXg2 := not_op Xg2 nXg2 hK
    replace Xg2 := Xg2.chg hC nXg2
    replace nXg2 := mXg2
    clear mXg2
    have mXg8 := not_op Xg8 nXg8 hK
    replace Xg8 := Xg8.chg hC nXg8
    replace nXg8 := mXg8
    clear mXg8
    replace A := A.op S hK hC
    clear S hK hC
    refine gl_nil ?_
    refine ge_then ?_
    refine gc_seq ?_
    refine gc_reg ?_
    refine t 26 (.bool true) ?_
    refine t 8 (.bool true) ?_
    refine gl_nil ?_
    refine ge_then ?_
    refine gc_ret ?_
    refine ge_ret (.bool true) (rs1 8 (by kernel_rfl) (by kernel_rfl)) ?_
    rw [show fewM E id y = _ from if_pos c3, show (Kv.look E (Ky.mk 13 id 0)).isSome = true from c3]
    exact ⟨rfl, _, _, _, A.sx, by omega, by omega, A.km, A.cc⟩
  · refine tc 15 67 #[pg g, .agg #[.int .i64 13, .func (.func 101) #[] #[], .func (.func 102) #[] #[], .func (.func 103) #[] #[]], .int .u64 id] (findMb A.sx hid (by omega) (by omega) (Bool.eq_false_iff.2 c3)) ?_
    rintro _ v15 ⟨ar14, nr14, cr14, rfl, zr14, K13, S, hK, hC, Qr14, mr14, hzr14⟩
    refine ⟨_, rfl, ?_⟩
    have kXqr14 := Xq.lt
    have kXg2r14 := Xg2.lt
    have sr14 := A.size
    replace Q7 := Q7.op hK hC
    have mXq := not_op Xq nXq hK
    replace Xq := Xq.chg hC nXq
    replace nXq := mXq
    clear mXq
    have mXg2 := not_op Xg2 nXg2 hK
    replace Xg2 := Xg2.chg hC nXg2
    replace nXg2 := mXg2
    clear mXg2
    replace A := A.op S hK hC
    clear S hK hC
    refine t 11 (.tuple #[.agg (mA (got E (Ky.mk 13 id 0)) (.slice ar14 nr14 cr14)), .bool false]) ?_
    refine t 16 (.agg (mA (got E (Ky.mk 13 id 0)) (.slice ar14 nr14 cr14))) ?_
    refine t 17 (.bool false) ?_
    have lXq := Xq.lt
    have lQ7 := Q7.lt
    have lXg2 := Xg2.lt
    have lQr14 := Qr14.lt
    refine ta 9 [.int .u64 0, .int .u64 0, .int .u64 0, .int .u64 0, .int .u64 0, .int .u64 0, .slice none 0 0] 48 (pg) ?_
    intro v16 g17 Xg17 hg17 B
    have zg17 := Nat.le_trans A.size hg17
    have nXg17 := A.new hg17
    replace Xq := Xq.keep B
    replace Q7 := Q7.keep B
    replace A := A.keep B
    replace Xg2 := Xg2.keep B
    replace Qr14 := Qr14.keep B
    clear B
    refine ts Xg17 0 (.agg (mA (got E (Ky.mk 13 id 0)) (.slice ar14 nr14 cr14))) (mL (got E (Ky.mk 13 id 0)) (.slice ar14 nr14 cr14)) (mL (got E (Ky.mk 13 id 0)) (.slice ar14 nr14 cr14)) ?_
    intro v18 Y C
    replace Xq := Xq.chg C (show q ≠ g17 by omega)
    replace Q7 := Q7.cell C (show n7 = 0 ∨ z7 ≠ g17 by omega)
    replace A := Bk.At.cell A Xg17 C zg17 nXg17 (by decide)
    replace Xg2 := Xg2.chg C (show g2 ≠ g17 by omega)
    replace Qr14 := Qr14.cell C (show nr14 = 0 ∨ zr14 ≠ g17 by omega)
    clear C Xg17
    have Xg17 := Y
    clear Y
    refine t 10 (.bool false) ?_
    refine gl_nil ?_
    refine ge_then ?_
    refine gc_fr [(0, pg g), (2, .int .u64 id), (3, .func (.func 51) #[] #[pg q]), (5, pg g2), (8, .bool false), (9, pg g17), (10, .bool false)] (by kernel_rfl) ?_
    refine gc_seq ?_
    refine gc_seq ?_
    refine gc_reg ?_
    refine t 18 (.bool false) ?_
    refine gl_nil ?_
    refine ge_then ?_
    refine gc_no ?_
    refine gc_skip ?_
    refine ge_then ?_
    refine gc_seq ?_
    refine gc_reg ?_
    refine t 26 (.bool false) ?_
    refine t 8 (.bool false) ?_
    refine gl_nil ?_
    refine ge_then ?_
    refine gc_ret ?_
    refine ge_ret (.bool false) (rs1 8 (by kernel_rfl) (by kernel_rfl)) ?_
    rw [show fewM E id y = _ from if_neg c3, show (Kv.look E (Ky.mk 13 id 0)).isSome = false from Bool.eq_false_iff.2 c3]
    exact ⟨rfl, _, _, _, A.sx, by omega, by omega, A.km, A.cc⟩
end Qu
end Go.Proofs.YtidnifmehnjipaaGreat

namespace Go.Proofs.YtidnifmehnjipaaGreat
namespace Qu
open Go.RowKit Go.Lib Pg Lim Gl Kv Bk Pw
attribute [local go_sem] Oper.semAt_some
set_option maxRecDepth 100000
set_option linter.unusedVariables false
set_option linter.unusedSimpArgs false
set_option maxHeartbeats 2000000
theorem move_any {B : Nat} {w : World} {K : Nat → Prop} {g : Nat} {E : Ents} {W : List Ents} {n N : Nat} {x0 x1 x2 x3 x4 x5 x6 : Int} {a6 : Option Addr} {n6 c6 z6 : Nat} (h : Sx B w K g E W n N) (hx0 : 0 ≤ x0 ∧ x0 < 18446744073709551616) (hx1 : 0 ≤ x1 ∧ x1 < 18446744073709551616) (hx4 : 0 ≤ x4 ∧ x4 < 18446744073709551616) (Q6 : Nk w K z6 a6 n6 c6 x6) (m6 : n6 ≤ 1000000) (hn : n + 50 ≤ 4000000000000000000) (hN : N + 50 ≤ 100000000) : Calls Tryz.prog 13 #[pg g, .agg #[.int .u64 x0, .int .u64 x1, .int .u64 x2, .int .u64 x3, .int .u64 x4, .int .u64 x5, .slice a6 n6 c6]] w (SxE B w K g (beginE E 13 (mv x0 x1 x2 x3 x4 x5 x6) x0 x1 x4) W (n + 7) (N + 10) (.int .u64 (nxtB (chn E)))) := by
  have A := h.at
  refine gc_enter (n := 9) Tryz.func13 rfl (by kernel_rfl) (by kernel_rfl) ?_
  have l0 := Q6.lt
  refine gc_seq ?_
  refine gc_reg ?_
  refine ta 3 [.int .u64 x0, .int .u64 x1, .int .u64 x2, .int .u64 x3, .int .u64 x4, .int .u64 x5, .slice a6 n6 c6] 48 (pg) ?_
  intro v1 g2 Xg2 hg2 B
  have zg2 := Nat.le_trans A.size hg2
  have nXg2 := A.new hg2
  replace Q6 := Q6.keep B
  replace A := A.keep B
  clear B
  refine t 4 (.int .u64 0) ?_
  refine gl_nil ?_
  refine ge_then ?_
  refine gc_seq ?_
  replace Q6 := Q6.drew
  replace A := A.drew
  replace Xg2 := Xg2.drew
  refine gc_draw (fun w' => Blk w' g2 [.int .u64 x0, .int .u64 x1, .int .u64 x2, .int .u64 x3, .int .u64 x4, .int .u64 x5, .slice a6 n6 c6] 48) (fun _ => false) Xg2 ?_
  refine z 0 5 (pg g) ?_
  refine zlr 2 7 [.int .u64 x0, .int .u64 x1, .int .u64 x2, .int .u64 x3, .int .u64 x4, .int .u64 x5, .slice a6 n6 c6] (fun _ h => h) 0 ?_
  refine zc 1 6 45 #[] (moves_any) ?_
  rintro _ v3 ⟨rfl, B⟩
  replace Q6 := Q6.keep B
  replace A := A.keep B
  replace Xg2 := Xg2.keep B
  clear B
  refine ⟨_, rfl, Xg2, ?_⟩
  refine zc 3 8 44 #[pg g, .agg #[.int .i64 13, .func (.func 101) #[] #[], .func (.func 102) #[] #[], .func (.func 103) #[] #[]], .agg #[.int .u64 x0, .int .u64 x1, .int .u64 x2, .int .u64 x3, .int .u64 x4, .int .u64 x5, .slice a6 n6 c6]] (beginM A.sx hx0 hx1 hx4 Q6 m6 (by omega) (by omega)) ?_
  rintro _ v5 ⟨rfl, K4, S, hK, hC⟩
  replace Q6 := Q6.op hK hC
  have mXg2 := not_op Xg2 nXg2 hK
  replace Xg2 := Xg2.chg hC nXg2
  replace nXg2 := mXg2
  clear mXg2
  replace A := A.op S hK hC
  clear S hK hC
  refine ⟨_, rfl, Xg2, ?_⟩
  refine z 4 4 (.int .u64 (nxtB (chn E))) ?_
  refine gz_done ?_
  refine ge_then ?_
  refine gc_ret ?_
  refine ge_ret (.int .u64 (nxtB (chn E))) (rs1 4 (by kernel_rfl) (by kernel_rfl)) ?_
  exact ⟨rfl, _, A.sx, A.km, A.cc⟩
theorem moving_any {B : Nat} {w : World} {K : Nat → Prop} {g : Nat} {E : Ents} {W : List Ents} {n N : Nat} {id : Int} (h : Sx B w K g E W n N) (hid : 0 ≤ id ∧ id < 18446744073709551616) (hn : n + 50 ≤ 4000000000000000000) (hN : N + 50 ≤ 100000000) : Calls Tryz.prog 26 #[pg g, .int .u64 id] w (FndM B w K g E W (n + 1) N (got E (Ky.mk 13 id 0)) (Kv.look E (Ky.mk 13 id 0)).isSome) := by
  have A := h.at
  refine gc_enter (n := 12) Tryz.func26 rfl (by kernel_rfl) (by kernel_rfl) ?_
  refine gc_seq ?_
  refine gc_reg ?_
  refine ta 4 [.int .u64 0, .int .u64 0, .int .u64 0, .int .u64 0, .int .u64 0, .int .u64 0, .slice none 0 0] 48 (pg) ?_
  intro v1 g2 Xg2 hg2 B
  have zg2 := Nat.le_trans A.size hg2
  have nXg2 := A.new hg2
  replace A := A.keep B
  clear B
  refine t 5 (.bool false) ?_
  refine gl_nil ?_
  refine ge_then ?_
  refine gc_seq ?_
  refine gc_reg ?_
  refine t 6 (pg g) ?_
  refine tc 7 45 #[] (moves_any) ?_
  rintro _ v3 ⟨rfl, B⟩
  refine ⟨_, rfl, ?_⟩
  replace A := A.keep B
  replace Xg2 := Xg2.keep B
  clear B
  refine t 8 (.int .u64 id) ?_
  refine tc 9 67 #[pg g, .agg #[.int .i64 13, .func (.func 101) #[] #[], .func (.func 102) #[] #[], .func (.func 103) #[] #[]], .int .u64 id] (findM A.sx hid (by omega) (by omega)) ?_
  rintro _ v6 ⟨ar5, nr5, cr5, rfl, zr5, K4, S, hK, hC, Qr5, mr5, hzr5⟩
  refine ⟨_, rfl, ?_⟩
  have kXg2r5 := Xg2.lt
  have sr5 := A.size
  have mXg2 := not_op Xg2 nXg2 hK
  replace Xg2 := Xg2.chg hC nXg2
  replace nXg2 := mXg2
  clear mXg2
  replace A := A.op S hK hC
  clear S hK hC
  refine t 10 (.agg (mA (got E (Ky.mk 13 id 0)) (.slice ar5 nr5 cr5))) ?_
  refine t 11 (.bool (Kv.look E (Ky.mk 13 id 0)).isSome) ?_
  refine ts Xg2 0 (.agg (mA (got E (Ky.mk 13 id 0)) (.slice ar5 nr5 cr5))) (mL (got E (Ky.mk 13 id 0)) (.slice ar5 nr5 cr5)) (mL (got E (Ky.mk 13 id 0)) (.slice ar5 nr5 cr5)) ?_
  intro v7 Y C
  replace A := Bk.At.cell A Xg2 C zg2 nXg2 (by decide)
  replace Qr5 := Qr5.cell C (show nr5 = 0 ∨ zr5 ≠ g2 by omega)
  clear C Xg2
  have Xg2 := Y
  clear Y
  refine t 5 (.bool (Kv.look E (Ky.mk 13 id 0)).isSome) ?_
  refine gl_nil ?_
  refine ge_then ?_
  refine gc_ret ?_
  refine ge_ret (.tuple #[.agg (mA (got E (Ky.mk 13 id 0)) (.slice ar5 nr5 cr5)), .bool (Kv.look E (Ky.mk 13 id 0)).isSome]) (rsct 4 5 (T := 48) (by kernel_rfl) (by kernel_rfl) (by kernel_rfl) (lr Xg2 0)) ?_
  exact ⟨_, _, _, rfl, _, _, A.sx, A.km, A.cc, Qr5, mr5, by omega⟩
theorem fewer_any {B : Nat} {w : World} {K : Nat → Prop} {g : Nat} {E : Ents} {W : List Ents} {n N : Nat} {id y : Int} {a7 : Option Addr} {n7 c7 z7 : Nat} (h : Sx B w K g E W n N) (hid : 0 ≤ id ∧ id < 18446744073709551616) (Q7 : Nk w K z7 a7 n7 c7 y) (m7 : n7 ≤ 1000000) (hn : n + 50 ≤ 4000000000000000000) (hN : N + 50 ≤ 100000000) : Calls Tryz.prog 17 #[pg g, .int .u64 id, .agg #[.slice a7 n7 c7]] w (SxF B w K g (fewM E id y) W n N (.bool (Kv.look E (Ky.mk 13 id 0)).isSome)) := by
  have l0 := Q7.lt
  have A := h.at
  refine gc_enter (n := 12) Tryz.func17 rfl (by kernel_rfl) (by kernel_rfl) ?_
  refine gc_seq ?_
  refine gc_reg ?_
  refine ta 5 [.slice a7 n7 c7] 46 (pg) ?_
  intro v1 g2 Xg2 hg2 B
  have zg2 := Nat.le_trans A.size hg2
  have nXg2 := A.new hg2
  replace Q7 := Q7.keep B
  replace A := A.keep B
  clear B
  refine t 6 (.bool false) ?_
  refine gl_nil ?_
  refine ge_then ?_
  refine gc_seq ?_
  refine gc_reg ?_
  refine t 7 (pg g) ?_
  refine tc 8 45 #[] (moves_any) ?_
  rintro _ v3 ⟨rfl, B⟩
  refine ⟨_, rfl, ?_⟩
  replace Q7 := Q7.keep B
  replace A := A.keep B
  replace Xg2 := Xg2.keep B
  clear B
  refine t 9 (.int .u64 id) ?_
  refine t 10 (.func (.func 51) #[] #[pg g2]) ?_
  refine tc 11 50 #[pg g, .agg #[.int .i64 13, .func (.func 101) #[] #[], .func (.func 102) #[] #[], .func (.func 103) #[] #[]], .int .u64 id, .func (.func 51) #[] #[pg g2]] (changeM A.sx hid Xg2 nXg2 Q7 m7 (by omega) (by omega)) ?_
  rintro _ v6 ⟨rfl, K4, n5, mn5, S, bn5, dn5, hK, hC⟩
  refine ⟨_, rfl, ?_⟩
  replace Q7 := Q7.op hK hC
  have mXg2 := not_op Xg2 nXg2 hK
  replace Xg2 := Xg2.chg hC nXg2
  replace nXg2 := mXg2
  clear mXg2
  replace A := A.op S hK hC
  clear S hK hC
  refine t 6 (.bool (Kv.look E (Ky.mk 13 id 0)).isSome) ?_
  refine gl_nil ?_
  refine ge_then ?_
  refine gc_ret ?_
  refine ge_ret (.bool (Kv.look E (Ky.mk 13 id 0)).isSome) (rs1 6 (by kernel_rfl) (by kernel_rfl)) ?_
  exact ⟨rfl, _, _, _, A.sx, by omega, by omega, A.km, A.cc⟩
def dropE (E : Ents) (id k : Int) : Ents := if k = 12 then dropU E id else if k = 13 then dropM E id else E
def dropB (E : Ents) (id k : Int) : Bool := if k = 12 then (Kv.look E (Ky.mk 12 id 0)).isSome else if k = 13 then (Kv.look E (Ky.mk 13 id 0)).isSome else false
theorem drop_any {B : Nat} {w : World} {K : Nat → Prop} {g : Nat} {E : Ents} {W : List Ents} {n N : Nat} {id k : Int} (h : Sx B w K g E W n N) (hid : 0 ≤ id ∧ id < 18446744073709551616) (hn : n + 50 ≤ 4000000000000000000) (hN : N + 50 ≤ 100000000) : Calls Tryz.prog 19 #[pg g, .agg #[.int .u64 id, .int .i64 k]] w (SxF B w K g (dropE E id k) W n N (.bool (dropB E id k))) := by
  have A := h.at
  refine gc_enter (n := 21) Tryz.func19 rfl (by kernel_rfl) (by kernel_rfl) ?_
  refine gc_seq ?_
  refine gc_reg ?_
  refine ta 3 [.int .u64 id, .int .i64 k] 61 (pg) ?_
  intro v1 g2 Xg2 hg2 B
  have zg2 := Nat.le_trans A.size hg2
  have nXg2 := A.new hg2
  replace A := A.keep B
  clear B
  refine t 4 (.bool false) ?_
  refine gl_nil ?_
  refine ge_then ?_
  refine gc_seq ?_
  refine gc_seq ?_
  refine gc_reg ?_
  refine t 5 (pq g2 1) ?_
  refine tl 6 (.int .i64 k) Xg2 1 ?_
  refine gl_nil ?_
  refine ge_then ?_
  refine gc_block ?_
  refine gc_seq ?_
  refine gc_reg ?_
  by_cases c3 : (k : Int) = 12
  · refine tq 8 (.bool ((k : Int) == 12)) (.bool true) (congrArg Value.bool (beq_iff_eq.2 c3)) ?_
    refine t 7 (.bool true) ?_
    refine gl_nil ?_
    refine ge_then ?_
    refine gc_yes ?_
    refine gc_seq ?_
    replace A := A.drew
    replace Xg2 := Xg2.drew
    refine gc_draw (fun w' => Blk w' g2 [.int .u64 id, .int .i64 k] 61) (fun _ => false) Xg2 ?_
    refine z 0 9 (pg g) ?_
    refine z 2 11 (pg g2) ?_
    refine zl 3 12 (.int .u64 id) (fun _ h => h) 0 ?_
    refine zc 1 10 40 #[] (unbondings_any) ?_
    rintro _ v4 ⟨rfl, B⟩
    replace A := A.keep B
    replace Xg2 := Xg2.keep B
    clear B
    refine ⟨_, rfl, Xg2, ?_⟩
    refine zc 4 13 53 #[pg g, .agg #[.int .i64 12, .func (.func 95) #[] #[], .func (.func 96) #[] #[], .func (.func 97) #[] #[]], .int .u64 id] (endU A.sx hid (by omega) (by omega)) ?_
    rintro _ v7 ⟨rfl, K5, n6, mn6, S, bn6, dn6, hK, hC⟩
    have mXg2 := not_op Xg2 nXg2 hK
    replace Xg2 := Xg2.chg hC nXg2
    replace nXg2 := mXg2
    clear mXg2
    replace A := A.op S hK hC
    clear S hK hC
    refine ⟨_, rfl, Xg2, ?_⟩
    refine z 5 4 (.bool (Kv.look E (Ky.mk 12 id 0)).isSome) ?_
    refine gz_done ?_
    refine ge_then ?_
    refine gc_fr [(4, .bool (Kv.look E (Ky.mk 12 id 0)).isSome)] (by kernel_rfl) ?_
    refine gc_ret ?_
    refine ge_br ?_
    refine ge_tr ?_
    refine ge_ret (.bool (Kv.look E (Ky.mk 12 id 0)).isSome) (rs1 4 (by kernel_rfl) (by kernel_rfl)) ?_
    have e1 : dropE E id k = dropU E id := by unfold dropE; rw [if_pos c3]
    have e2 : dropB E id k = (Kv.look E (Ky.mk 12 id 0)).isSome := by unfold dropB; rw [if_pos c3]
    rw [e1, e2]
    exact ⟨rfl, _, _, _, A.sx, by omega, by omega, A.km, A.cc⟩
  · refine tq 8 (.bool ((k : Int) == 12)) (.bool false) (congrArg Value.bool (beq_eq_false_iff_ne.2 c3)) ?_
    refine t 7 (.bool false) ?_
    refine gl_nil ?_
    refine ge_then ?_
    refine gc_no ?_
    refine gc_seq ?_
    refine gc_reg ?_
    by_cases c8 : (k : Int) = 13
    · refine tq 15 (.bool ((k : Int) == 13)) (.bool true) (congrArg Value.bool (beq_iff_eq.2 c8)) ?_
      refine t 14 (.bool true) ?_
      refine gl_nil ?_
      refine ge_then ?_
      refine gc_yes ?_
      refine gc_seq ?_
      replace A := A.drew
      replace Xg2 := Xg2.drew
      refine gc_draw (fun w' => Blk w' g2 [.int .u64 id, .int .i64 k] 61) (fun _ => false) Xg2 ?_
      refine z 0 16 (pg g) ?_
      refine z 2 18 (pg g2) ?_
      refine zl 3 19 (.int .u64 id) (fun _ h => h) 0 ?_
      refine zc 1 17 45 #[] (moves_any) ?_
      rintro _ v9 ⟨rfl, B⟩
      replace A := A.keep B
      replace Xg2 := Xg2.keep B
      clear B
      refine ⟨_, rfl, Xg2, ?_⟩
      refine zc 4 20 54 #[pg g, .agg #[.int .i64 13, .func (.func 101) #[] #[], .func (.func 102) #[] #[], .func (.func 103) #[] #[]], .int .u64 id] (endM A.sx hid (by omega) (by omega)) ?_
      rintro _ v12 ⟨rfl, K10, n11, mn11, S, bn11, dn11, hK, hC⟩
      have mXg2 := not_op Xg2 nXg2 hK
      replace Xg2 := Xg2.chg hC nXg2
      replace nXg2 := mXg2
      clear mXg2
      replace A := A.op S hK hC
      clear S hK hC
      refine ⟨_, rfl, Xg2, ?_⟩
      refine z 5 4 (.bool (Kv.look E (Ky.mk 13 id 0)).isSome) ?_
      refine gz_done ?_
      refine ge_then ?_
      refine gc_fr [(4, .bool (Kv.look E (Ky.mk 13 id 0)).isSome)] (by kernel_rfl) ?_
      refine gc_ret ?_
      refine ge_br ?_
      refine ge_tr ?_
      refine ge_ret (.bool (Kv.look E (Ky.mk 13 id 0)).isSome) (rs1 4 (by kernel_rfl) (by kernel_rfl)) ?_
      have e1 : dropE E id k = dropM E id := by unfold dropE; rw [if_neg c3, if_pos c8]
      have e2 : dropB E id k = (Kv.look E (Ky.mk 13 id 0)).isSome := by unfold dropB; rw [if_neg c3, if_pos c8]
      rw [e1, e2]
      exact ⟨rfl, _, _, _, A.sx, by omega, by omega, A.km, A.cc⟩
    · refine tq 15 (.bool ((k : Int) == 13)) (.bool false) (congrArg Value.bool (beq_eq_false_iff_ne.2 c8)) ?_
      refine t 14 (.bool false) ?_
      refine gl_nil ?_
      refine ge_then ?_
      refine gc_no ?_
      refine gc_skip ?_
      refine ge_bn ?_
      refine ge_then ?_
      refine gc_seq ?_
      refine gc_reg ?_
      refine t 4 (.bool false) ?_
      refine gl_nil ?_
      refine ge_then ?_
      refine gc_ret ?_
      refine ge_ret (.bool false) (rs1 4 (by kernel_rfl) (by kernel_rfl)) ?_
      have e1 : dropE E id k = E := by unfold dropE; rw [if_neg c3, if_neg c8]
      have e2 : dropB E id k = false := by unfold dropB; rw [if_neg c3, if_neg c8]
      rw [e1, e2]
      exact ⟨rfl, _, _, _, A.sx, by omega, by omega, A.km, A.cc⟩
end Qu
end Go.Proofs.YtidnifmehnjipaaGreat

namespace Go.Proofs.YtidnifmehnjipaaGreat
namespace Kv
open Go.RowKit Go.Lib Pg
attribute [local go_sem] Oper.semAt_some
structure IterG (Tp : TypeId → Prop) (X : Nat → Prop) (n0 : Nat) (w : World) (g : Nat) (EL : List En) (v : Value) : Prop where
  ex : ∃ bs1 bs2 bw W1, v = .func (.func 173) #[] #[.pointer (some ⟨bs1, 0, none⟩), .pointer (some ⟨bs2, 0, none⟩)] ∧ Itr Tp 158 #[.pointer (some ⟨bw, 0, none⟩)] EL.length (ArC EL) (fun V => Chg X W1 V) ∧ RdC X W1 g bs1 bs2 bw w ∧ n0 ≤ bs1 ∧ n0 ≤ bs2
  small : ∀ e ∈ EL, e.kl.length ≤ 1000000000 ∧ e.vl.length ≤ 1000000000
theorem xwmG {w : World} {K D F V : Nat → Prop} {g m : Nat} {Q : List (List KV)} {jv : Value} {T : List Jr} {oj : Option Nat} {n N : Nat} (h : SX w K D F V g m Q jv T oj n N) (hN : N ≤ 100000000) {X : Nat → Prop} (hx : ∀ b, X b → b = g ∨ ¬ K b) (hU : ∀ b, X b → ∀ cs, ¬ Blk w b cs 5) (hl : ∀ b, X b → b < w.heap.size) : ∃ L, Wm w X F D m L ∧ ∀ f t, (wlk (ens L) f t).map En.kl2 = Q.flatten.filter (abtw f t) :=
  h.wm hN (fun b hb hF => (hx b hb).elim (fun e => by subst e; exact h.own.ntop hF) (fun n => n (h.own.map b hF))) hU hl
theorem iterG_of {Tp : TypeId → Prop} {X : Nat → Prop} {n0 : Nat} {w w1 w2 : World} {F D : Nat → Prop} {g m bw : Nat} {jv : Value} {n : Int} {L : List Pg} {f t : List Int} (hg : Blk w g [.pointer (some ⟨m, 0, none⟩), jv, .int .i64 n] 85) (Km : Wm w X F D m L) (B1 : Below w.heap.size w w1) (IT : Itr Tp 158 #[.pointer (some ⟨bw, 0, none⟩)] (wlk (ens L) f t).length (ArC (wlk (ens L) f t)) (fun V => Chg X w1 V))
    (b1 : Blk w2 w1.heap.size [.pointer (some ⟨g, 0, none⟩)] 27) (b2 : Blk w2 (w1.heap.size + 1) [.func (.func 158) #[] #[.pointer (some ⟨bw, 0, none⟩)]] 133) (B2 : Below w1.heap.size w1 w2) (h0 : n0 ≤ w.heap.size) :
    IterG Tp X n0 w2 g (wlk (ens L) f t) (.func (.func 173) #[] #[.pointer (some ⟨w1.heap.size, 0, none⟩), .pointer (some ⟨w1.heap.size + 1, 0, none⟩)]) :=
  ⟨⟨_, _, bw, w1, rfl, IT, ⟨Chg.of B2, b1, b2, ⟨_, (hg.keep B1).keep B2⟩⟩, Nat.le_trans h0 B1.size, by have := B1.size; omega⟩, fun e he => by
    obtain ⟨es, h1, h2⟩ := wlk_mem he
    exact Km.small es h1 e h2⟩
set_option maxHeartbeats 4000000 in
set_option maxRecDepth 100000 in
theorem sprefixG {Tp : TypeId → Prop} {X : Nat → Prop} {w : World} {K D : Nat → Prop} {g n N : Nat} {E : Ents} {W : List Ents} {pv : Value} {p : List Int} (h : SA w K D g E W n N) (hN : N ≤ 100000000) (hp : By w pv p) (hpl : p.length ≤ 1000000) (hX1 : ∀ b, X b → b = g ∨ ¬ K b) (hXU : ∀ b, X b → ∀ cs, ¬ Blk w b cs 5) (hXl : ∀ b, X b → b < w.heap.size) (hT : ¬ Tp 131) (hTe : ¬ Tp 211) :
    Calls Tryz.prog 75 #[.pointer (some ⟨g, 0, none⟩), pv] w fun e w' => ∃ v EL, e = .returned v ∧ IterG Tp X w.heap.size w' g EL v ∧ EL.map En.kl2 = E.filter (fun x => decide (p <+: x.1)) ∧ Below w.heap.size w w' := by
  have hOct := h.oct
  have HXX := hid3 (show (∀ b, X b → b = g ∨ ¬ K b) ∧ (∀ b, X b → ∀ cs, ¬ Blk w b cs 5) ∧ (∀ b, X b → b < w.heap.size) from ⟨hX1, hXU, hXl⟩)
  have HTT := hid3 (show ¬ Tp 131 ∧ ¬ Tp 211 from ⟨hT, hTe⟩)
  clear hX1 hXU hXl hT hTe
  obtain ⟨F, V, m, Q, jv, T, oj, hX, rfl, hB⟩ := h.open
  obtain ⟨pa, pc, rfl, -⟩ := id hp.ex
  have hbel := next_any hp.drew (by omega)
  have hS := hX.blk.drew
  have HX := hid3 hX
  have HP := hid3 hp
  have HO := hid3 hOct
  have hpl2 := hid3 hpl
  have bD : Below w.heap.size w w.drew := ⟨rfl, rfl, rfl, Nat.le_refl _, fun _ _ => rfl⟩
  clear hX hp h hB hOct hpl
  obtain ⟨pn, hpn⟩ : ∃ pn, Hid (p.length = pn) := ⟨_, rfl⟩
  rw [hpn.out] at HP hbel ⊢
  go_enter Tryz.func75, Tryz.ntmps75
  go_wp2_with fail
  refine rg_start (S := fun w' => Blk w' g [.pointer (some ⟨m, 0, none⟩), jv, .int .i64 n] 85) (by kernel_rfl) hS ?_
  refine rg_take 0 (some 5) (.pointer (some ⟨g, 0, none⟩)) (by kernel_rfl) (fun _ _ => by kernel_rfl) (fun _ _ _ h => h) hS ?_
  refine rg_take 1 (some 6) (.pointer (some ⟨g, 0, none⟩)) (by kernel_rfl) (fun _ _ => by kernel_rfl) (fun _ _ _ h => h) hS ?_
  refine rg_take 2 (some 7) (.pointer (some ⟨g, 0, none⟩)) (by kernel_rfl) (fun _ _ => by kernel_rfl) (fun _ _ _ h => h) hS ?_
  refine rg_take 3 (some 8) (.pointer (some ⟨g, 0, none⟩)) (by kernel_rfl) (fun _ _ => by kernel_rfl) (fun _ _ _ h => h) hS ?_
  refine rg_load 4 (some 9) (.pointer (some ⟨m, 0, none⟩)) 76 8 g 0 (by kernel_rfl) (by kernel_rfl) (by kernel_rfl) (fun w' h => ld_mp (h.cell (i := 0) rfl)) (fun _ _ _ h => h) hS ?_
  refine rg_take 5 (some 10) (.slice pa pn pc) (by kernel_rfl) (fun _ _ => by kernel_rfl) (fun _ _ _ h => h) hS ?_
  refine rg_take 6 (some 11) (.slice pa pn pc) (by kernel_rfl) (fun _ _ => by kernel_rfl) (fun _ _ _ h => h) hS ?_
  refine rg_call 7 (some 12) 124 #[.slice pa pn pc] (by kernel_rfl) (by kernel_rfl) hbel ?_
  rintro e' w1 ⟨nv, rfl, O1, B1⟩
  refine ⟨_, rfl, hS.keep B1, ?_⟩
  have B1' := joinB bD B1
  replace hS := hS.keep B1
  have X1 := HX.out.keep B1'
  obtain ⟨L, Km, hw⟩ := xwmG X1 hN HXX.out.1 (fun b hb cs k => HXX.out.2.1 b hb cs ⟨by rw [← B1'.block b (HXX.out.2.2 b hb)]; exact k.blk⟩) (fun b hb => Nat.lt_of_lt_of_le (HXX.out.2.2 b hb) B1'.size)
  have hnl : (nxt p).length ≤ p.length := by
    rcases last255 p with h1 | ⟨A, x, B, rfl, hx, hB⟩
    · rw [nxt_all h1]; simp
    · rw [nxt_eq hx hB]; simp
  have tW := walk_any (Tp := Tp) Km (HP.out.keep B1') O1.by (by have := hpl2.out; omega) (by have := hpl2.out; omega) HTT.out.1 HTT.out.2
  refine rg_call 8 (some 13) 62 #[.pointer (some ⟨m, 0, none⟩), .slice pa pn pc, nv] (by kernel_rfl) (by kernel_rfl) tW ?_
  rintro e' w2 ⟨bw, rfl, B2, IT⟩
  refine ⟨_, rfl, hS.keep B2, ?_⟩
  replace hS := hS.keep B2
  refine rg_call 9 (some 14) 122 #[.pointer (some ⟨g, 0, none⟩), .func (.func 158) #[] #[.pointer (some ⟨bw, 0, none⟩)]] (by kernel_rfl) (by kernel_rfl) counted_mk ?_
  rintro e' w3 ⟨rfl, k1, k2, B3⟩
  refine ⟨_, rfl, hS.keep B3, ?_⟩
  replace hS := hS.keep B3
  refine rg_take 10 (some 4) (.func (.func 173) #[] #[.pointer (some ⟨w2.heap.size, 0, none⟩), .pointer (some ⟨w2.heap.size + 1, 0, none⟩)]) (by kernel_rfl) (fun _ _ => by kernel_rfl) (fun _ _ _ h => h) hS ?_
  refine rg_done (by kernel_rfl) ?_
  simp only [Act.put, List.setIfInBounds_toArray, List.set_cons_zero, List.set_cons_succ]
  have FI := hid3 (iterG_of X1.blk Km B2 IT k1 k2 B3 B1'.size)
  have HW := hid3 (hw p (nxt p))
  have BB := hid3 (joinB (joinB B1' B2) B3)
  clear hS X1 Km hw tW IT k1 k2 B3 B2 B1 B1' O1 bD
  go_wp2
  go_ret
  refine ⟨_, _, rfl, FI.out, ?_, BB.out⟩
  rw [HW.out]
  exact List.filter_congr (fun x hx => abtw_pre (HO.out x hx))
/-- one more operation -/
theorem SA.tick {w : World} {K D : Nat → Prop} {g n N : Nat} {E : Ents} {W : List Ents} (h : SA w K D g E W n N) : SA (tick g w n) K D g E W (n + 1) N := by
  obtain ⟨F, V, m, Q, jv, T, oj, hX, hE, hB⟩ := h.open
  exact (hX.top (chg_tick g n w) (hX.blk.setCell (i := 2) _)).shut hE hB
theorem SA.cnt {w : World} {K D : Nat → Prop} {g n N : Nat} {E : Ents} {W : List Ents} (h : SA w K D g E W n N) : w.cell? ⟨g, 2, none⟩ = some (.int .i64 n) ∧ w.frozen? ⟨g, 2, none⟩ = false := by
  obtain ⟨F, V, m, Q, jv, T, oj, hX, hE, hB⟩ := h.open
  exact ⟨hX.blk.cell (i := 2) rfl, hX.blk.free 2⟩
theorem SA.kv {w : World} {K D : Nat → Prop} {g n N : Nat} {E : Ents} {W : List Ents} (h : SA w K D g E W n N) : ∃ cs, Blk w g cs 85 := by
  obtain ⟨F, V, m, Q, jv, T, oj, hX, hE, hB⟩ := h.open
  exact ⟨_, hX.blk⟩
/-- as ItrC; what lies from W0 on is no bytes -/
def ItrD (W0 : World) (Tp : TypeId → Prop) (g x0 : Nat) (gf : Nat) (lb : Array Value) (N : Nat) (Ar : Nat → Array Value → Nat → World → Prop) (Rd : World → Prop) : Prop :=
  ∀ (l : Nat) (J0 : World → Prop) (J Jt Jx : Nat → World → Prop) (W : World), (∀ b, W0.heap.size ≤ b → ∀ cs, ¬ Blk W b cs 5) → W0.heap.size ≤ W.heap.size → St W.heap.size J0 → (∀ i, St W.heap.size (J i)) → (∀ i, St W.heap.size (Jt i)) → (∀ i, St W.heap.size (Jx i)) → g < W.heap.size →
    (∀ V, J0 V → V.cell? ⟨g, 2, none⟩ = some (.int .i64 x0) ∧ V.frozen? ⟨g, 2, none⟩ = false ∧ Rd V ∧ J 0 (tick g V x0)) →
    (∀ i V, J i V → V.cell? ⟨g, 2, none⟩ = some (.int .i64 ((x0 + 1 + i : Nat) : Int)) ∧ V.frozen? ⟨g, 2, none⟩ = false ∧ Rd V ∧ (i < N → Jt i (tick g V (x0 + 1 + i)))) →
    (∀ i args V V', i < N → Jt i V → W.heap.size ≤ V.heap.size → Below V.heap.size V V' → Ar i args V.heap.size V' → YieldAt Fence.wide 0 Tryz.prog l args V' fun e V'' => KeepsT Tp W.heap.size V' V'' ∧ ((e = .returned (.bool true) ∧ J (i + 1) V'') ∨ (e = .returned (.bool false) ∧ Jx (i + 1) V''))) →
    J0 W →
    Calls Tryz.prog gf (#[.func (.yield l) #[] #[]] ++ lb) W fun e W' => (∃ v, e = .returned v) ∧ W.heap.size ≤ W'.heap.size ∧ (J N W' ∨ ∃ i, i < N ∧ Jx (i + 1) W')
theorem rf_outerD {Tp : TypeId → Prop} {gf N n g0 x0 : Nat} {lb : Array Value} {Ar : Nat → Array Value → Nat → World → Prop} {Rd : World → Prop} {w : World} (IT : ItrD w Tp g0 x0 gf lb N Ar Rd) {g : Operand} {ps : Array Tmp} {assign body : Code} {Q : Exit → Act → World → Prop} {a : Act}
    (hg : a.eval g = .func (.func gf) #[] lb) (eg : ∀ args w, (callFunc gf args).run Tryz.prog w = .ok (.enter gf args) w) (hArS : ∀ i args n V W, Ar i args n V → Cel V W → Ar i args n W) (hAn : ∀ i args n V, Ar i args n V → args.size = ps.size)
    (I0 : World → Prop) (I It : Nat → World → Prop) (Ix : Code → Nat → World → Prop) (hI0 : St w.heap.size I0) (hI : ∀ i, St w.heap.size (I i)) (hIt : ∀ i, St w.heap.size (It i)) (hIx : ∀ c i, St w.heap.size (Ix c i)) (hgw : g0 < w.heap.size)
    (hx0 : ∀ V, I0 V → V.cell? ⟨g0, 2, none⟩ = some (.int .i64 x0) ∧ V.frozen? ⟨g0, 2, none⟩ = false ∧ Rd V ∧ I 0 (tick g0 V x0))
    (hx : ∀ i V, I i V → V.cell? ⟨g0, 2, none⟩ = some (.int .i64 ((x0 + 1 + i : Nat) : Int)) ∧ V.frozen? ⟨g0, 2, none⟩ = false ∧ Rd V ∧ (i < N → It i (tick g0 V (x0 + 1 + i)))) (h0 : I0 w)
    (hround : RoundC Tp w N n ps assign body a.tmps Ar It I Ix)
    (hdone : ∀ D W, w.heap.size ≤ D → W.heap[D]? = some (.deferred (some [])) → I N W → Q .normal { a with defers := { target := .collected D, args := #[] } :: a.defers } W)
    (hstop : ∀ D c i W, w.heap.size ≤ D → W.heap[D]? = some (.deferred (some [])) → i < N → Ix c (i + 1) W → c.wpIn Fence.wide n Tryz.prog Q { a with defers := { target := .collected D, args := #[] } :: a.defers } W) :
    (Code.rangeFunc g ps assign body).wpIn Fence.wide n Tryz.prog Q a w := by
  refine wpIn_rangeFunc ?_
  intro fn _
  obtain ⟨W1, hW1⟩ : ∃ W1, (w.alloc (.deferred (some []))).alloc (.loop (recd fn a.tmps ps assign body w.heap.size .ready none)) = W1 := ⟨_, rfl⟩
  have hB1 : Below w.heap.size w W1 := by rw [← hW1]; exact joinB (below_alloc w _) (below_alloc _ _)
  have hs1 : W1.heap.size = w.heap.size + 1 + 1 := by rw [← hW1]; simp
  have hL1 : W1.heap[w.heap.size + 1]? = some (.loop (recd fn a.tmps ps assign body w.heap.size .ready none)) := by
    rw [← hW1]; have := World.alloc_heap_new (w.alloc (.deferred (some []))) (.loop (recd fn a.tmps ps assign body w.heap.size .ready none)); rwa [World.size_alloc] at this
  have hK1 : W1.heap[w.heap.size]? = some (.deferred (some [])) := by
    rw [← hW1]; exact (Below.heap_alloc _ _ _ (by simp)).trans (World.alloc_heap_new w _)
  have t1 : ∀ V x, (tick g0 V x).heap[w.heap.size + 1]? = V.heap[w.heap.size + 1]? := fun V x => tick_other (by omega)
  have t2 : ∀ V x, (tick g0 V x).heap[w.heap.size]? = V.heap[w.heap.size]? := fun V x => tick_other (by omega)
  have hNB : ∀ b, w.heap.size ≤ b → ∀ cs, ¬ Blk W1 b cs 5 := fun b hb cs k => by
    have hlt := k.lt
    have hk := k.blk
    rcases Nat.lt_or_ge w.heap.size b with h1 | h1
    · obtain rfl : b = w.heap.size + 1 := by omega
      rw [hL1] at hk
      cases hk
    · obtain rfl : b = w.heap.size := by omega
      rw [hK1] at hk
      cases hk
  refine ⟨w.heap.size + 1, [{ target := .collected w.heap.size, args := #[] }], W1, { target := .fn (.func gf) lb, args := #[.func (.yield (w.heap.size + 1)) #[] #[]] }, W1, gf,
    #[.func (.yield (w.heap.size + 1)) #[] #[]] ++ lb, W1, ?_, ?_, ?_, ?_, fun h => (by cases h), ?_⟩
  · rw [← hW1]; exact run_enterLoop_outer _ _ _ _ _
  · simp only [resolve, hg]
    simp [go_sem]
  · intro f' _; trivial
  · simp [invoke, go_sem, eg]
  · refine callsIn_wide.2 ?_
    refine (IT (w.heap.size + 1)
      (fun W => I0 W ∧ W.heap[w.heap.size + 1]? = some (.loop (recd fn a.tmps ps assign body w.heap.size .ready none)) ∧ W.heap[w.heap.size]? = some (.deferred (some [])))
      (fun i W => I i W ∧ W.heap[w.heap.size + 1]? = some (.loop (recd fn a.tmps ps assign body w.heap.size .ready none)) ∧ W.heap[w.heap.size]? = some (.deferred (some [])))
      (fun i W => It i W ∧ W.heap[w.heap.size + 1]? = some (.loop (recd fn a.tmps ps assign body w.heap.size .ready none)) ∧ W.heap[w.heap.size]? = some (.deferred (some [])))
      (fun i W => ∃ c, Ix c i W ∧ W.heap[w.heap.size + 1]? = some (.loop (recd fn a.tmps ps assign body w.heap.size .done (some c))) ∧ W.heap[w.heap.size]? = some (.deferred (some [])))
      W1 hNB (by omega) (fun X Y hx hr => ⟨hI0 X Y hx.1 (hr.mono (by omega)), hr.same _ _ hx.2.1 (.inl (by omega)), hr.same _ _ hx.2.2 (.inl (by omega))⟩)
      (fun i X Y hx hr => ⟨hI i X Y hx.1 (hr.mono (by omega)), hr.same _ _ hx.2.1 (.inl (by omega)), hr.same _ _ hx.2.2 (.inl (by omega))⟩)
      (fun i X Y hx hr => ⟨hIt i X Y hx.1 (hr.mono (by omega)), hr.same _ _ hx.2.1 (.inl (by omega)), hr.same _ _ hx.2.2 (.inl (by omega))⟩)
      (fun i X Y hx hr => by obtain ⟨c, h1, h2, h3⟩ := hx; exact ⟨c, hIx c i X Y h1 (hr.mono (by omega)), hr.same _ _ h2 (.inl (by omega)), hr.same _ _ h3 (.inl (by omega))⟩)
      (by omega)
      (fun V hv => by obtain ⟨q1, q2, q3, q4⟩ := hx0 V hv.1; exact ⟨q1, q2, q3, q4, (t1 V x0).trans hv.2.1, (t2 V x0).trans hv.2.2⟩)
      (fun i V hv => by obtain ⟨q1, q2, q3, q4⟩ := hx i V hv.1; exact ⟨q1, q2, q3, fun hi => ⟨q4 hi, (t1 V _).trans hv.2.1, (t2 V _).trans hv.2.2⟩⟩)
      ?_ ⟨hI0 _ _ h0 (Rec.of hB1), hL1, hK1⟩).mono ?_
    · rintro i args V V' hiN ⟨hi, hl, hk⟩ hsz hb ha
      have hr := hround _ i args V V' (by omega) (lt_of_block hl) ⟨_, hl⟩ hiN hi hb ha
      refine (yield_core (Tp := Tp) (B := w.heap.size) (i := 2 * i + 1) (I := zip2 I It) (Ix := fun c k => Ix c (k / 2)) (Ar := fun k => Ar (k / 2)) (fun j => hArS (j / 2)) (fun j => by unfold zip2; split; exact hI _; exact hIt _) (fun c j => hIx c _) (by omega) hl (by rw [zip2_odd]; exact hi) hb (by rw [show (2 * i + 1) / 2 = i by omega]; exact ha) (hAn _ _ _ _ ha) (wpIn_mono hr ?_)).mono ?_
      · intro e a1 W1 h
        cases e <;> first
          | (refine ⟨h.1, fun V2 W2 q1 q2 q3 q4 q5 q6 q7 => ?_⟩
             rw [zip2_odd] at q1
             rw [show (2 * i + 1) / 2 = i by omega] at q3
             exact wpIn_mono (h.2 V2 W2 q1 q2 q3 q4 q5 q6 q7) (fun e a W h => bpost_zip h))
          | exact h.elim
      · rintro e V'' ⟨hkp, h⟩
        have hk2 := hkp.same _ _ (Nat.le_refl _) (by omega) ((hb.block _ (lt_of_block hk)).trans hk) safe_def
        refine ⟨hkp.from (by omega) (by omega), h.imp (fun h => ⟨h.1, by have := h.2.1; rw [zip2_even] at this; exact this, h.2.2, hk2⟩) (fun h => ?_)⟩
        obtain ⟨h1, c, h2, h3⟩ := h
        rw [show (2 * i + 1 + 1) / 2 = i + 1 by omega] at h2
        exact ⟨h1, c, h2, h3, hk2⟩
    · rintro e W2 ⟨⟨v, rfl⟩, hsz, ⟨hi, hl, hk⟩ | ⟨i, hiN, c, hi, hl, hk⟩⟩
      · exact ⟨none, _, run_endLoop (P := Tryz.prog) hl (by simp [recd]), hdone _ _ (Nat.le_refl _) ((World.putObj_heap_other (by omega)).trans hk) (hI _ _ _ hi (Rec.put hl rfl (by omega) _))⟩
      · exact ⟨some c, _, run_endLoop (P := Tryz.prog) hl (by simp [recd]), hstop _ c i _ (Nat.le_refl _) ((World.putObj_heap_other (by omega)).trans hk) hiN (hIx c _ _ _ hi (Rec.put hl rfl (by omega) _))⟩
end Kv
end Go.Proofs.YtidnifmehnjipaaGreat

namespace Go.Proofs.YtidnifmehnjipaaGreat
namespace Bk
open Go.RowKit Go.Lib Pg Kv
attribute [local go_sem] Oper.semAt_some
def TpN (_ : TypeId) : Prop := False
/-- the coins of all accounts -/
def accs (E : Ents) : List Int := (E.filter (fun x => decide ([97] <+: x.1))).map (fun x => coinB x.2)
def ArS (cs : List Int) (i : Nat) (args : Array Value) (_ : Nat) (_ : World) : Prop := ∃ c, cs[i]? = some c ∧ args = #[.int .u64 c]
def RdS (W0 : World) (X K D : Nat → Prop) (g : Nat) (E : Ents) (Wn : List Ents) (N : Nat) (V : World) : Prop := Chg X W0 V ∧ (∀ b, X b → ∀ cs, ¬ Blk V b cs 5) ∧ ∃ x, SA V K D g E Wn x N
/-- what was laid between two worlds stays -/
def Ext (a : Nat) (w2 V : World) : Prop := (∀ b, a ≤ b → b < w2.heap.size → V.heap[b]? = w2.heap[b]?) ∧ w2.heap.size ≤ V.heap.size
theorem Ext.rcd {a : Nat} {w2 V V' : World} (h : Ext a w2 V) (hr : Rec w2.heap.size V V') : Ext a w2 V' :=
  ⟨fun b h1 h2 => by
    have e := h.1 b h1 h2
    have h3 : w2.heap[b]? = some w2.heap[b] := Array.getElem?_eq_getElem h2
    rw [h3] at e ⊢
    exact hr.same b _ e (.inl h2), Nat.le_trans h.2 hr.size⟩
theorem Ext.keep {a : Nat} {w2 V V' : World} (h : Ext a w2 V) (hb : Below V.heap.size V V') : Ext a w2 V' :=
  ⟨fun b h1 h2 => (hb.block b (Nat.lt_of_lt_of_le h2 h.2)).trans (h.1 b h1 h2), Nat.le_trans h.2 hb.size⟩
theorem Ext.tick {a g x : Nat} {w2 V : World} (h : Ext a w2 V) (hg : g < a) : Ext a w2 (tick g V x) :=
  ⟨fun b h1 h2 => (tick_other (by omega)).trans (h.1 b h1 h2), by rw [tick_size]; exact h.2⟩
theorem Ext.keepsT {a : Nat} {w2 V V' : World} (h : Ext a w2 V) (hk : KeepsT TpN a V V') : Ext a w2 V' :=
  ⟨fun b h1 h2 => by
    have e := h.1 b h1 h2
    have h3 : w2.heap[b]? = some w2.heap[b] := Array.getElem?_eq_getElem h2
    rw [h3] at e ⊢
    exact hk.same b _ h1 e (fun _ _ _ _ h => h), Nat.le_trans h.2 hk.size⟩
theorem Ext.blk {a b : Nat} {w2 V : World} {cs : List Value} {t : TypeId} (h : Ext a w2 V) (k : Blk w2 b cs t) (hb : a ≤ b) : Blk V b cs t := k.same (h.1 b hb k.lt)
theorem of4 {w : World} : Calls Tryz.prog 69 #[.int .i64 4] w fun e w' => ∃ v, e = .returned (.tuple #[v, .int .i64 0]) ∧ OB w' (w.heap.size ≤ ·) v [97] ∧ Below w.heap.size w w' := Ky.of_any (k := 4)
theorem ld_ps {w : World} {g : Nat} {v : Value} (h : Blk w g [v] 27) : (loadVar 27 ⟨g, 0, none⟩).run Tryz.prog w = .ok v w := by
  have := h.cell (i := 0) rfl
  go_simp
end Bk
end Go.Proofs.YtidnifmehnjipaaGreat

namespace Go.Proofs.YtidnifmehnjipaaGreat
namespace Kv
open Go.RowKit Go.Lib Pg Bk
attribute [local go_sem] Oper.semAt_some
/-- the variables that lie in R from a on lie there still -/
structure ExtC (a : Nat) (R V : World) : Prop where
  same : ∀ b cs t m, a ≤ b → R.heap[b]? = some (.cells cs t m) → V.heap[b]? = some (.cells cs t m)
  size : R.heap.size ≤ V.heap.size
theorem ExtC.of {a : Nat} {R V : World} (h : Ext a R V) : ExtC a R V := ⟨fun b _ _ _ h1 h2 => (h.1 b h1 (lt_of_block h2)).trans h2, h.2⟩
theorem ExtC.rcd {a B : Nat} {R V V' : World} (h : ExtC a R V) (hr : Rec B V V') : ExtC a R V' := ⟨fun b cs t m h1 h2 => hr.same b _ (h.same b cs t m h1 h2) (.inr rfl), Nat.le_trans h.size hr.size⟩
theorem ExtC.keep {a : Nat} {R V V' : World} (h : ExtC a R V) (hb : Below V.heap.size V V') : ExtC a R V' := ⟨fun b cs t m h1 h2 => (hb.block b (lt_of_block (h.same b cs t m h1 h2))).trans (h.same b cs t m h1 h2), Nat.le_trans h.size hb.size⟩
theorem ExtC.chg {a : Nat} {F : Nat → Prop} {R V V' : World} (h : ExtC a R V) (hc : Chg F V V') (hF : ∀ b, F b → b < a ∨ R.heap.size ≤ b) : ExtC a R V' := ⟨fun b cs t m h1 h2 => (hc.same b (lt_of_block (h.same b cs t m h1 h2)) (fun hf => by have := hF b hf; have := lt_of_block h2; omega)).trans (h.same b cs t m h1 h2), Nat.le_trans h.size hc.size⟩
theorem ExtC.tick {a g x : Nat} {R V : World} (h : ExtC a R V) (hg : g < a) : ExtC a R (tick g V x) := h.chg (chg_tick g x V) (fun b e => .inl (by have e' : b = g := e; omega))
theorem Ext.mix {Tp : TypeId → Prop} {a : Nat} {R V V' : World} (h : Ext a R V) (hk : KeepsT Tp a V V') (hc : ExtC a R V') : Ext a R V' :=
  ⟨fun b h1 h2 => by
    have e := h.1 b h1 h2
    have h3 : R.heap[b]? = some R.heap[b] := Array.getElem?_eq_getElem h2
    cases ho : R.heap[b] with
    | cells cs t m => rw [ho] at h3; rw [hc.same b cs t m h1 h3, h3]
    | _ => rw [ho] at h3; rw [h3] at e ⊢; exact hk.same b _ h1 e (fun _ _ _ h => by cases h), hc.size⟩
def ItrE (W0 : World) (Tp : TypeId → Prop) (g x0 : Nat) (gf : Nat) (lb : Array Value) (N : Nat) (Ar : Nat → Array Value → Nat → World → Prop) (Rd : World → Prop) : Prop :=
  ∀ (l : Nat) (J0 : World → Prop) (J Jt Jx : World → Nat → World → Prop) (W : World), (∀ b, W0.heap.size ≤ b → ∀ cs, ¬ Blk W b cs 5) → W0.heap.size ≤ W.heap.size → St W.heap.size J0 → (∀ R i, St W.heap.size (J R i)) → (∀ R i, St W.heap.size (Jt R i)) → (∀ R i, St W.heap.size (Jx R i)) → g < W.heap.size →
    (∀ V, J0 V → V.cell? ⟨g, 2, none⟩ = some (.int .i64 x0) ∧ V.frozen? ⟨g, 2, none⟩ = false ∧ Rd V ∧ ∀ R, W.heap.size ≤ R.heap.size → ExtC W.heap.size R V → J R 0 (tick g V x0)) →
    (∀ R i V, J R i V → V.cell? ⟨g, 2, none⟩ = some (.int .i64 ((x0 + 1 + i : Nat) : Int)) ∧ V.frozen? ⟨g, 2, none⟩ = false ∧ Rd V ∧ ExtC W.heap.size R V ∧ (i < N → Jt R i (tick g V (x0 + 1 + i)))) →
    (∀ R i args V V', W.heap.size ≤ R.heap.size → i < N → Jt R i V → W.heap.size ≤ V.heap.size → Below V.heap.size V V' → Ar i args V.heap.size V' → YieldAt Fence.wide 0 Tryz.prog l args V' fun e V'' => KeepsT Tp W.heap.size V' V'' ∧ ((e = .returned (.bool true) ∧ J R (i + 1) V'') ∨ (e = .returned (.bool false) ∧ Jx R (i + 1) V''))) →
    J0 W →
    Calls Tryz.prog gf (#[.func (.yield l) #[] #[]] ++ lb) W fun e W' => (∃ v, e = .returned v) ∧ W.heap.size ≤ W'.heap.size ∧ ∃ R : World, W.heap.size ≤ R.heap.size ∧ (J R N W' ∨ ∃ i, i < N ∧ Jx R (i + 1) W')
theorem rf_outerE {Tp : TypeId → Prop} {gf N n g0 x0 : Nat} {lb : Array Value} {Ar : Nat → Array Value → Nat → World → Prop} {Rd : World → Prop} {w : World} (IT : ItrE w Tp g0 x0 gf lb N Ar Rd) {g : Operand} {ps : Array Tmp} {assign body : Code} {Q : Exit → Act → World → Prop} {a : Act}
    (hg : a.eval g = .func (.func gf) #[] lb) (eg : ∀ args w, (callFunc gf args).run Tryz.prog w = .ok (.enter gf args) w) (hArS : ∀ i args n V W, Ar i args n V → Cel V W → Ar i args n W) (hAn : ∀ i args n V, Ar i args n V → args.size = ps.size)
    (I0 : World → Prop) (I It : World → Nat → World → Prop) (Ix : World → Code → Nat → World → Prop) (hI0 : St w.heap.size I0) (hI : ∀ R i, St w.heap.size (I R i)) (hIt : ∀ R i, St w.heap.size (It R i)) (hIx : ∀ R c i, St w.heap.size (Ix R c i)) (hgw : g0 < w.heap.size)
    (hx0 : ∀ V, I0 V → V.cell? ⟨g0, 2, none⟩ = some (.int .i64 x0) ∧ V.frozen? ⟨g0, 2, none⟩ = false ∧ Rd V ∧ ∀ R, w.heap.size + 2 ≤ R.heap.size → ExtC (w.heap.size + 2) R V → I R 0 (tick g0 V x0))
    (hx : ∀ R i V, I R i V → V.cell? ⟨g0, 2, none⟩ = some (.int .i64 ((x0 + 1 + i : Nat) : Int)) ∧ V.frozen? ⟨g0, 2, none⟩ = false ∧ Rd V ∧ ExtC (w.heap.size + 2) R V ∧ (i < N → It R i (tick g0 V (x0 + 1 + i)))) (h0 : I0 w)
    (hround : ∀ R, w.heap.size + 2 ≤ R.heap.size → RoundC Tp w N n ps assign body a.tmps Ar (It R) (I R) (Ix R))
    (hdone : ∀ R D W, w.heap.size + 2 ≤ R.heap.size → w.heap.size ≤ D → W.heap[D]? = some (.deferred (some [])) → I R N W → Q .normal { a with defers := { target := .collected D, args := #[] } :: a.defers } W)
    (hstop : ∀ R D c i W, w.heap.size + 2 ≤ R.heap.size → w.heap.size ≤ D → W.heap[D]? = some (.deferred (some [])) → i < N → Ix R c (i + 1) W → c.wpIn Fence.wide n Tryz.prog Q { a with defers := { target := .collected D, args := #[] } :: a.defers } W) :
    (Code.rangeFunc g ps assign body).wpIn Fence.wide n Tryz.prog Q a w := by
  refine wpIn_rangeFunc ?_
  intro fn _
  obtain ⟨W1, hW1⟩ : ∃ W1, (w.alloc (.deferred (some []))).alloc (.loop (recd fn a.tmps ps assign body w.heap.size .ready none)) = W1 := ⟨_, rfl⟩
  have hB1 : Below w.heap.size w W1 := by rw [← hW1]; exact joinB (below_alloc w _) (below_alloc _ _)
  have hs1 : W1.heap.size = w.heap.size + 1 + 1 := by rw [← hW1]; simp
  have hL1 : W1.heap[w.heap.size + 1]? = some (.loop (recd fn a.tmps ps assign body w.heap.size .ready none)) := by
    rw [← hW1]; have := World.alloc_heap_new (w.alloc (.deferred (some []))) (.loop (recd fn a.tmps ps assign body w.heap.size .ready none)); rwa [World.size_alloc] at this
  have hK1 : W1.heap[w.heap.size]? = some (.deferred (some [])) := by
    rw [← hW1]; exact (Below.heap_alloc _ _ _ (by simp)).trans (World.alloc_heap_new w _)
  have t1 : ∀ V x, (tick g0 V x).heap[w.heap.size + 1]? = V.heap[w.heap.size + 1]? := fun V x => tick_other (by omega)
  have t2 : ∀ V x, (tick g0 V x).heap[w.heap.size]? = V.heap[w.heap.size]? := fun V x => tick_other (by omega)
  have hNB : ∀ b, w.heap.size ≤ b → ∀ cs, ¬ Blk W1 b cs 5 := fun b hb cs k => by
    have hlt := k.lt
    have hk := k.blk
    rcases Nat.lt_or_ge w.heap.size b with h1 | h1
    · obtain rfl : b = w.heap.size + 1 := by omega
      rw [hL1] at hk
      cases hk
    · obtain rfl : b = w.heap.size := by omega
      rw [hK1] at hk
      cases hk
  refine ⟨w.heap.size + 1, [{ target := .collected w.heap.size, args := #[] }], W1, { target := .fn (.func gf) lb, args := #[.func (.yield (w.heap.size + 1)) #[] #[]] }, W1, gf,
    #[.func (.yield (w.heap.size + 1)) #[] #[]] ++ lb, W1, ?_, ?_, ?_, ?_, fun h => (by cases h), ?_⟩
  · rw [← hW1]; exact run_enterLoop_outer _ _ _ _ _
  · simp only [resolve, hg]
    simp [go_sem]
  · intro f' _; trivial
  · simp [invoke, go_sem, eg]
  · refine callsIn_wide.2 ?_
    refine (IT (w.heap.size + 1)
      (fun W => I0 W ∧ W.heap[w.heap.size + 1]? = some (.loop (recd fn a.tmps ps assign body w.heap.size .ready none)) ∧ W.heap[w.heap.size]? = some (.deferred (some [])))
      (fun R i W => I R i W ∧ W.heap[w.heap.size + 1]? = some (.loop (recd fn a.tmps ps assign body w.heap.size .ready none)) ∧ W.heap[w.heap.size]? = some (.deferred (some [])))
      (fun R i W => It R i W ∧ W.heap[w.heap.size + 1]? = some (.loop (recd fn a.tmps ps assign body w.heap.size .ready none)) ∧ W.heap[w.heap.size]? = some (.deferred (some [])))
      (fun R i W => ∃ c, Ix R c i W ∧ W.heap[w.heap.size + 1]? = some (.loop (recd fn a.tmps ps assign body w.heap.size .done (some c))) ∧ W.heap[w.heap.size]? = some (.deferred (some [])))
      W1 hNB (by omega) (fun X Y hx hr => ⟨hI0 X Y hx.1 (hr.mono (by omega)), hr.same _ _ hx.2.1 (.inl (by omega)), hr.same _ _ hx.2.2 (.inl (by omega))⟩)
      (fun R i X Y hx hr => ⟨hI R i X Y hx.1 (hr.mono (by omega)), hr.same _ _ hx.2.1 (.inl (by omega)), hr.same _ _ hx.2.2 (.inl (by omega))⟩)
      (fun R i X Y hx hr => ⟨hIt R i X Y hx.1 (hr.mono (by omega)), hr.same _ _ hx.2.1 (.inl (by omega)), hr.same _ _ hx.2.2 (.inl (by omega))⟩)
      (fun R i X Y hx hr => by obtain ⟨c, h1, h2, h3⟩ := hx; exact ⟨c, hIx R c i X Y h1 (hr.mono (by omega)), hr.same _ _ h2 (.inl (by omega)), hr.same _ _ h3 (.inl (by omega))⟩)
      (by omega)
      (fun V hv => by obtain ⟨q1, q2, q3, q4⟩ := hx0 V hv.1; exact ⟨q1, q2, q3, fun R hR hE => ⟨q4 R (by omega) (hs1 ▸ hE), (t1 V x0).trans hv.2.1, (t2 V x0).trans hv.2.2⟩⟩)
      (fun R i V hv => by obtain ⟨q1, q2, q3, q5, q4⟩ := hx R i V hv.1; exact ⟨q1, q2, q3, hs1 ▸ q5, fun hi => ⟨q4 hi, (t1 V _).trans hv.2.1, (t2 V _).trans hv.2.2⟩⟩)
      ?_ ⟨hI0 _ _ h0 (Rec.of hB1), hL1, hK1⟩).mono ?_
    · rintro R i args V V' hRs hiN ⟨hi, hl, hk⟩ hsz hb ha
      have hr := hround R (by omega) _ i args V V' (by omega) (lt_of_block hl) ⟨_, hl⟩ hiN hi hb ha
      refine (yield_core (Tp := Tp) (B := w.heap.size) (i := 2 * i + 1) (I := zip2 (I R) (It R)) (Ix := fun c k => Ix R c (k / 2)) (Ar := fun k => Ar (k / 2)) (fun j => hArS (j / 2)) (fun j => by unfold zip2; split; exact hI R _; exact hIt R _) (fun c j => hIx R c _) (by omega) hl (by rw [zip2_odd]; exact hi) hb (by rw [show (2 * i + 1) / 2 = i by omega]; exact ha) (hAn _ _ _ _ ha) (wpIn_mono hr ?_)).mono ?_
      · intro e a1 W1 h
        cases e <;> first
          | (refine ⟨h.1, fun V2 W2 q1 q2 q3 q4 q5 q6 q7 => ?_⟩
             rw [zip2_odd] at q1
             rw [show (2 * i + 1) / 2 = i by omega] at q3
             exact wpIn_mono (h.2 V2 W2 q1 q2 q3 q4 q5 q6 q7) (fun e a W h => bpost_zip h))
          | exact h.elim
      · rintro e V'' ⟨hkp, h⟩
        have hk2 := hkp.same _ _ (Nat.le_refl _) (by omega) ((hb.block _ (lt_of_block hk)).trans hk) safe_def
        refine ⟨hkp.from (by omega) (by omega), h.imp (fun h => ⟨h.1, by have := h.2.1; rw [zip2_even] at this; exact this, h.2.2, hk2⟩) (fun h => ?_)⟩
        obtain ⟨h1, c, h2, h3⟩ := h
        rw [show (2 * i + 1 + 1) / 2 = i + 1 by omega] at h2
        exact ⟨h1, c, h2, h3, hk2⟩
    · rintro e W2 ⟨⟨v, rfl⟩, hsz, R, hRs, ⟨hi, hl, hk⟩ | ⟨i, hiN, c, hi, hl, hk⟩⟩
      · exact ⟨none, _, run_endLoop (P := Tryz.prog) hl (by simp [recd]), hdone R _ _ (by omega) (Nat.le_refl _) ((World.putObj_heap_other (by omega)).trans hk) (hI R _ _ _ hi (Rec.put hl rfl (by omega) _))⟩
      · exact ⟨some c, _, run_endLoop (P := Tryz.prog) hl (by simp [recd]), hstop R _ c i _ (by omega) (Nat.le_refl _) ((World.putObj_heap_other (by omega)).trans hk) hiN (hIx R c _ _ _ hi (Rec.put hl rfl (by omega) _))⟩
end Kv
end Go.Proofs.YtidnifmehnjipaaGreat

namespace Go.Proofs.YtidnifmehnjipaaGreat
namespace Pw
open Go.RowKit Go.Lib Pg Kv Bk
attribute [local go_sem] Oper.semAt_some
def TpU (t : TypeId) : Prop := t = 22
/-- what keys of a kind hold, in their order -/
def pks (r : Nat) (m0 : Int) (E : Ents) : List (Int × Int) := (E.filter (fun x => decide ([m0] <+: x.1))).map (fun x => (Ky.rdA r x.1, Ky.rdB x.1))
def ArP (r : Nat) (ps : List (Int × Int)) (i : Nat) (args : Array Value) (_ : Nat) (_ : World) : Prop := ∃ c, ps[i]? = some c ∧ args = #[.agg #[.int .i64 (r : Int), .int .u64 c.1, .int .u64 c.2]]
theorem of10 (w : World) : Calls Tryz.prog 69 #[.int .i64 (10 : Nat)] w fun e w' => ∃ v, e = .returned (.tuple #[v, .int .i64 0]) ∧ OB w' (w.heap.size ≤ ·) v [105] ∧ Below w.heap.size w w' := Ky.of_any (k := 10)
theorem of11 (w : World) : Calls Tryz.prog 69 #[.int .i64 (11 : Nat)] w fun e w' => ∃ v, e = .returned (.tuple #[v, .int .i64 0]) ∧ OB w' (w.heap.size ≤ ·) v [98] ∧ Below w.heap.size w w' := Ky.of_any (k := 11)
end Pw
end Go.Proofs.YtidnifmehnjipaaGreat

namespace Go.Proofs.YtidnifmehnjipaaGreat
namespace Pw
open Go.RowKit Go.Lib Pg Kv Bk
attribute [local go_sem] Oper.semAt_some
theorem KU : Kd Tryz.prog 43 22 1 8 (.int .u64 0) := ⟨by kernel_rfl, by kernel_rfl, rfl, by simp [Value.cells, Value.oneCell'], by decide⟩
/-- numbers in a list of their own, in a block from B on -/
structure UA (w : World) (B : Nat) (v : Value) (l : List Int) : Prop where
  ex : (v = .slice none 0 0 ∧ l = []) ∨ ∃ b c, v = .slice (some ⟨b, 0, none⟩) l.length c ∧ B ≤ b ∧ Rw w 22 1 b l.length c (l.map (Value.int .u64))
section
variable {w w' : World} {B B' : Nat} {v : Value} {l : List Int}
theorem UA.shape (h : UA w B v l) : ∃ ao c, v = .slice ao l.length c := by
  rcases h.ex with ⟨rfl, rfl⟩ | ⟨b, c, rfl, _⟩
  · exact ⟨none, 0, rfl⟩
  · exact ⟨_, c, rfl⟩
theorem UA.nil (w : World) (B : Nat) : UA w B (.slice none 0 0) [] := ⟨.inl ⟨rfl, rfl⟩⟩
theorem UA.keep (h : UA w B v l) (hb : Below w.heap.size w w') : UA w' B v l := ⟨h.ex.imp id (fun ⟨b, c, e, hl, hR⟩ => ⟨b, c, e, hl, hR.keep hb⟩)⟩
theorem UA.chg {F : Nat → Prop} (h : UA w B v l) (hc : Chg F w w') (hF : ∀ b, F b → b < B) : UA w' B v l := ⟨h.ex.imp id (fun ⟨b, c, e, hl, hR⟩ => ⟨b, c, e, hl, hR.chg hc (fun hf => by have := hF b hf; omega)⟩)⟩
theorem UA.low (h : UA w B v l) (hB : B' ≤ B) : UA w B' v l := ⟨h.ex.imp id (fun ⟨b, c, e, hl, hR⟩ => ⟨b, c, e, Nat.le_trans hB hl, hR⟩)⟩
theorem UA.rcd {C : Nat} (h : UA w B v l) (hr : Rec C w w') : UA w' B v l := ⟨h.ex.imp id (fun ⟨b, c, e, hl, hR⟩ => ⟨b, c, e, hl, Kv.Rw.rcd hR hr⟩)⟩
theorem app_u {x : Int} {a : Addr} (ty : TypeId) (h : UA w B v l) (hB : B ≤ w.heap.size) (hl : l.length ≤ 2000000000) (c0 : w.cell? (a.add 0) = some (.int .u64 x)) :
    ∃ v' w', (Builtin.append_ #[43, 43] ty #[v, .slice (some a) 1 1]).run Tryz.prog w = .ok v' w' ∧ UA w' B v' (l ++ [x]) ∧ Chg (fun b => B ≤ b ∧ ∃ cs, Blk w b cs 22) w w' := by
  have hnews : ∀ j u, [Value.int .u64 x][j]? = some u → w.cell? (a.add j) = some u := fun j u hj => by
    match j with
    | 0 => simp at hj; rw [← hj]; exact c0
    | k + 1 => simp at hj
  rcases h.ex with ⟨rfl, rfl⟩ | ⟨b, c, rfl, hb, hR⟩
  · obtain ⟨c', w', hr, hR, hw⟩ := app_nil (w := w) KU ty a 1 1 [.int .u64 x] rfl hnews (by omega) (by omega) (by omega)
    exact ⟨_, w', hr, ⟨.inr ⟨_, c', rfl, hB, hR⟩⟩, Chg.of hw⟩
  · obtain ⟨b', c', w', hr, hb', hR', hC⟩ := app_row KU ty hR a 1 1 [.int .u64 x] rfl hnews (fun u hu => by simp at hu; subst hu; rfl) (by omega) (by omega)
    refine ⟨_, w', hr, ⟨.inr ⟨b', c', by simp, by rcases hb' with rfl | rfl <;> omega, ?_⟩⟩, hC.mono (fun y _ e => ?_)⟩
    · simpa using hR'
    · have e' : y = b := e
      subst e'
      exact ⟨hb, hR.kind⟩
end
theorem wli_ap16 {F : Fence} {n : Nat} {ops : Array Oper} {Q : Exit → Act → World → Prop} {rest : List Oper} {pos : String} {after : Array Edge} {a : Act} {w w' : World} {u v r : Value} (hF : ∀ f, F.fn f) (hu : a.eval (.tmp 12) = u) (hv : a.eval (.tmp 15) = v) (hr : (Builtin.append_ #[43, 43] 43 #[u, v]).run Tryz.prog w = .ok r w') (h : wpListIn F n Tryz.prog ops Q rest (a.put (some 16) r) w') :
    wpListIn F n Tryz.prog ops Q ({ dst := some 16, op := .call { callee := .builtin .append, args := #[.tmp 12, .tmp 15], argTypes := #[43, 43] }, type := 43, pos := pos, after := after, guard := none } :: rest) a w :=
  Ky.wli_val rfl hF (Oper.semAt_eq _ _ _ (fun c h => by cases h)) (Ky.run_app (x := 12) (y := 15) rfl rfl hu hv hr) h
theorem wli_ap12 {F : Fence} {n : Nat} {ops : Array Oper} {Q : Exit → Act → World → Prop} {rest : List Oper} {pos : String} {after : Array Edge} {a : Act} {w w' : World} {u v r : Value} (hF : ∀ f, F.fn f) (hu : a.eval (.tmp 8) = u) (hv : a.eval (.tmp 11) = v) (hr : (Builtin.append_ #[43, 43] 43 #[u, v]).run Tryz.prog w = .ok r w') (h : wpListIn F n Tryz.prog ops Q rest (a.put (some 12) r) w') :
    wpListIn F n Tryz.prog ops Q ({ dst := some 12, op := .call { callee := .builtin .append, args := #[.tmp 8, .tmp 11], argTypes := #[43, 43] }, type := 43, pos := pos, after := after, guard := none } :: rest) a w :=
  Ky.wli_val rfl hF (Oper.semAt_eq _ _ _ (fun c h => by cases h)) (Ky.run_app (x := 8) (y := 11) rfl rfl hu hv hr) h
theorem sa_rcd {w w' : World} {K D : Nat → Prop} {g n N B : Nat} {E : Ents} {W : List Ents} (h : SA w K D g E W n N) (hr : Rec B w w') : SA w' K D g E W n N :=
  h.same (fun b hK => by obtain ⟨cs, t, k, _⟩ := h.kind b hK; exact (hr.same b _ k.blk (.inr rfl)).trans k.blk.symm) (fun b _ _ hk => by obtain ⟨cs, k⟩ := hk; exact (hr.same b _ k.blk (.inr rfl)).trans k.blk.symm)
/-- while the numbers are gathered -/
structure TopI (Wb : World) (a t : Nat) (R : World) (K D : Nat → Prop) (g : Nat) (E : Ents) (Wn : List Ents) (N x : Nat) (l : List Int) (V : World) : Prop where
  chg : Chg (fun b => b = g ∨ b = t) Wb V
  sa : SA V K D g E Wn x N
  out : ∃ v, Blk V t [v] 43 ∧ UA V R.heap.size v l
  ext : ExtC a R V
structure TopO (Wb : World) (t : Nat) (K D : Nat → Prop) (g : Nat) (E : Ents) (Wn : List Ents) (N x : Nat) (V : World) : Prop where
  chg : Chg (fun b => b = g ∨ b = t) Wb V
  sa : SA V K D g E Wn x N
  out : Blk V t [.slice none 0 0] 43
section
variable {Wb V V' R : World} {a t g x N : Nat} {K D : Nat → Prop} {E : Ents} {Wn : List Ents} {l : List Int}
theorem top_ne {v : Value} (h : SA V K D g E Wn x N) (h1 : Blk V t [v] 43) : t ≠ g := fun e => by
  obtain ⟨cs, k⟩ := h.kv
  subst e
  exact absurd (h1.eq k).2 (by decide)
theorem TopI.rcd (h : TopI Wb a t R K D g E Wn N x l V) (hr : Rec Wb.heap.size V V') : TopI Wb a t R K D g E Wn N x l V' := by
  obtain ⟨v, h1, h2⟩ := h.out
  exact ⟨chg_rcd h.chg hr (Nat.le_refl _), sa_rcd h.sa hr, ⟨v, rec_cel h1 hr, h2.rcd hr⟩, h.ext.rcd hr⟩
theorem TopO.rcd (h : TopO Wb t K D g E Wn N x V) (hr : Rec Wb.heap.size V V') : TopO Wb t K D g E Wn N x V' := ⟨chg_rcd h.chg hr (Nat.le_refl _), sa_rcd h.sa hr, rec_cel h.out hr⟩
theorem TopI.tick (h : TopI Wb a t R K D g E Wn N x l V) (hg : g < a) (hR : a ≤ R.heap.size) : TopI Wb a t R K D g E Wn N (x + 1) l (tick g V x) := by
  obtain ⟨v, h1, h2⟩ := h.out
  have hc := chg_tick g x V
  exact ⟨h.chg.trans hc (fun b _ e => .inl e), h.sa.tick, ⟨v, h1.chg hc (top_ne h.sa h1), h2.chg hc (fun b e => by have e' : b = g := e; omega)⟩, h.ext.tick hg⟩
theorem TopO.tick (h : TopO Wb t K D g E Wn N x V) (hg : g < a) (hE : ExtC a R V) : TopI Wb a t R K D g E Wn N (x + 1) [] (tick g V x) := by
  have hc := chg_tick g x V
  exact ⟨h.chg.trans hc (fun b _ e => .inl e), h.sa.tick, ⟨_, h.out.chg hc (top_ne h.sa h.out), UA.nil _ _⟩, hE.tick hg⟩
theorem top_rd {v : Value} (hc : Chg (fun b => b = g ∨ b = t) Wb V) (hs : SA V K D g E Wn x N) (h1 : Blk V t [v] 43) : RdS Wb (fun b => b = g ∨ b = t) K D g E Wn N V := by
  refine ⟨hc, fun b hb cs k => ?_, _, hs⟩
  rcases hb with rfl | rfl
  · obtain ⟨cs', k'⟩ := hs.kv
    exact absurd (k.eq k').2 (by decide)
  · exact absurd (k.eq h1).2 (by decide)
end
structure NumE (B : Nat) (w : World) (K : Nat → Prop) (g : Nat) (E : Ents) (W : List Ents) (n N : Nat) (l : List Int) (e : Ending) (w' : World) : Prop where
  ex : ∃ v, e = .returned v ∧ UA w' w.heap.size v l ∧ Sx B w' K g E W n N ∧ Chg (· = g) w w'
end Pw
end Go.Proofs.YtidnifmehnjipaaGreat
