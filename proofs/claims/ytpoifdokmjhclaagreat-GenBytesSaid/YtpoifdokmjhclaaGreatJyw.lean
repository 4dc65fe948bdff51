/- Several texts, joined: PwA, PwB. -/
import Derived.Test.YtpoifdokmjhclaaGreatJym
import Derived.Test.YtpoifdokmjhclaaGreatJys
import Derived.Test.YtpoifdokmjhclaaGreatJyv
namespace Go.Proofs.YtpoifdokmjhclaaGreat
namespace Pw
open Go.RowKit Go.Lib Pg Lim Gl Kv Bk
attribute [local go_sem] Oper.semAt_some
set_option maxRecDepth 100000
set_option linter.unusedVariables false
set_option maxHeartbeats 2000000
theorem mk_key {w : World} {k a b : Int} (ha : 0 ≤ a ∧ a < 18446744073709551616) (hE : Ky.mkE k a b = false) : Calls Tryz.prog 72 #[.agg #[.int .i64 k, .int .u64 a, .int .u64 b]] w fun e w' => ∃ v, e = .returned (.tuple #[v, .int .i64 0]) ∧ ByU w' v (Ky.mk k a b) ∧ Below w.heap.size w w' := by
  refine (Ks.mk_g ha hE).mono ?_
  rintro e w' ⟨v, rfl, O, B⟩
  exact ⟨v, rfl, ByU.of O, B⟩
theorem byu_nil (w : World) : ByU w (.slice none 0 0) [] := ⟨⟨none, 0, rfl, Nat.le_refl _, by decide, fun _ => rfl, fun x h => by simp at h, .inl rfl⟩, fun b o n c e => by cases e⟩
theorem mk_pos {k a b : Int} (_hE : Ky.mkE k a b = false) : 0 < (Ky.mk k a b).length := by
  rw [Ky.mk_eq (k := k) (n := (Ky.frm k).1) (m0 := (Ky.frm k).2.1) (m1 := (Ky.frm k).2.2) rfl]
  simp
theorem set_mk {k a b : Int} (hE : Ky.mkE k a b = false) : setE (Ky.mk k a b) [] = 0 := by
  have h1 := mk_pos hE
  have h2 := Ky.mk_len k a b
  unfold setE
  rw [if_neg (by omega), if_neg (by simp)]
theorem mset {B : Nat} {w : World} {K : Nat → Prop} {g : Nat} {E : Ents} {W : List Ents} {n N : Nat} {kv : Value} {k a b : Int} (h : Sx B w K g E W n N) (hk : ByU w kv (Ky.mk k a b)) (hE : Ky.mkE k a b = false) (hn : n ≤ 4000000000000000000) (hN : N + 2 ≤ 100000000) :
    Calls Tryz.prog 86 #[pg g, kv, .slice none 0 0] w (SxE B w K g (put E (Ky.mk k a b) []) W (n + 1) (N + 2) (.int .i64 0)) := by
  have u := xset h hk (byu_nil w) hn hN
  rw [set_mk hE, if_pos rfl] at u
  exact u
theorem mark_on {B : Nat} {w : World} {K : Nat → Prop} {g : Nat} {E : Ents} {W : List Ents} {n N : Nat} {k a b : Int} (h : Sx B w K g E W n N) (ha : 0 ≤ a ∧ a < 18446744073709551616) (hE : Ky.mkE k a b = false) (hn : n + 5 ≤ 4000000000000000000) (hN : N + 5 ≤ 100000000) : Calls Tryz.prog 197 #[pg g, .agg #[.int .i64 k, .int .u64 a, .int .u64 b], .bool true] w (SxE B w K g (put E (Ky.mk k a b) []) W (n + 1) (N + 2) (.tuple #[])) := by
  have A := h.at
  refine gc_enter (n := 21) Tryz.func197 rfl (by kernel_rfl) (by kernel_rfl) ?_
  refine gc_seq ?_
  refine gc_reg ?_
  refine ta 4 [.int .i64 k, .int .u64 a, .int .u64 b] 103 (pg) ?_
  intro v1 g2 Xg2 hg2 B
  have zg2 := Nat.le_trans A.size hg2
  have nXg2 := A.new hg2
  replace A := A.keep B
  clear B
  refine gl_nil ?_
  refine ge_then ?_
  refine gc_seq ?_
  refine gc_reg ?_
  refine tlr 9 [.int .i64 k, .int .u64 a, .int .u64 b] Xg2 0 ?_
  refine tc 10 72 #[.agg #[.int .i64 k, .int .u64 a, .int .u64 b]] (mk_key ha hE) ?_
  rintro _ v5 ⟨kv4, rfl, U3, B⟩
  refine ⟨_, rfl, ?_⟩
  replace A := A.keep B
  replace Xg2 := Xg2.keep B
  clear B
  refine t 8 (.tuple #[kv4, .int .i64 0]) ?_
  refine t 11 (kv4) ?_
  refine t 12 (.int .i64 0) ?_
  refine t 6 (kv4) ?_
  refine t 7 (.int .i64 0) ?_
  refine gl_nil ?_
  refine ge_then ?_
  refine gc_seq ?_
  refine gc_seq ?_
  refine gc_reg ?_
  refine t 13 (.bool true) ?_
  refine t 14 (.bool false) ?_
  refine gl_nil ?_
  refine ge_then ?_
  refine gc_fr [(0, pg g), (6, kv4), (14, .bool false)] (by kernel_rfl) ?_
  refine gc_no ?_
  refine gc_skip ?_
  refine ge_then ?_
  refine gc_reg ?_
  refine t 18 (pg g) ?_
  refine t 19 (kv4) ?_
  refine tc 20 86 #[pg g, kv4, .slice none 0 0] (mset A.sx U3 hE (by omega) (by omega)) ?_
  rintro _ v7 ⟨rfl, K6, S, hK, hC⟩
  refine ⟨_, rfl, ?_⟩
  have mXg2 := not_op Xg2 nXg2 hK
  replace Xg2 := Xg2.chg hC nXg2
  replace nXg2 := mXg2
  clear mXg2
  replace U3 := A.byu U3 hC
  replace A := A.op S hK hC
  clear S hK hC
  clear U3
  refine gl_nil ?_
  refine ge_end (.tuple #[]) (rs0 (by kernel_rfl)) ?_
  exact ⟨rfl, _, A.sx, A.km, A.cc⟩
theorem place_any {w : World} {v tk : Int} : Calls Tryz.prog 289 #[.int .u64 v, .int .u64 tk] w fun e w' => e = .returned (.agg #[.int .i64 10, .int .u64 tk, .int .u64 v]) ∧ Below w.heap.size w w' := by
  have BB := Below.refl w.heap.size w
  refine gc_enter (n := 8) Tryz.func289 rfl (by kernel_rfl) (by kernel_rfl) ?_
  refine gc_seq ?_
  refine gc_reg ?_
  refine ta 4 [.int .i64 0, .int .u64 0, .int .u64 0] 103 (pg) ?_
  intro v1 g2 Xg2 hg2 B
  replace BB := joinB BB B
  clear B
  refine gl_nil ?_
  refine ge_then ?_
  refine gc_seq ?_
  refine gc_reg ?_
  refine t 5 (.int .u64 tk) ?_
  refine t 6 (.int .u64 v) ?_
  refine t 7 (.agg #[.int .i64 10, .int .u64 tk, .int .u64 v]) ?_
  refine ts Xg2 0 (.agg #[.int .i64 10, .int .u64 tk, .int .u64 v]) [.int .i64 10, .int .u64 tk, .int .u64 v] [.int .i64 10, .int .u64 tk, .int .u64 v] ?_
  intro v3 Y C
  replace BB := belowC BB C (by omega)
  clear C Xg2
  have Xg2 := Y
  clear Y
  refine gl_nil ?_
  refine ge_then ?_
  refine gc_ret ?_
  refine ge_ret (.agg #[.int .i64 10, .int .u64 tk, .int .u64 v]) (rsc 4 (T := 103) (by kernel_rfl) (by kernel_rfl) (lr Xg2 0)) ?_
  exact ⟨rfl, BB⟩
theorem mkE10 (tk v : Int) : Ky.mkE 10 tk v = false := by
  unfold Ky.mkE
  rw [show (Ky.frm 10).1 = 17 from rfl]
  simp
theorem mkE11 (v : Int) : Ky.mkE 11 v 0 = false := by
  unfold Ky.mkE
  rw [show (Ky.frm 11).1 = 9 from rfl]
  simp
theorem put_any {B : Nat} {w : World} {K : Nat → Prop} {g : Nat} {E : Ents} {W : List Ents} {n N : Nat} {v tk : Int} (h : Sx B w K g E W n N) (htk : 0 ≤ tk ∧ tk < 18446744073709551616) (hn : n + 5 ≤ 4000000000000000000) (hN : N + 5 ≤ 100000000) : Calls Tryz.prog 235 #[pg g, .int .u64 v, .int .u64 tk] w (SxE B w K g (put E (Ky.mk 10 tk v) []) W (n + 1) (N + 2) (.tuple #[])) := by
  have A := h.at
  refine gc_enter (n := 11) Tryz.func235 rfl (by kernel_rfl) (by kernel_rfl) ?_
  refine gc_reg ?_
  refine t 6 (pg g) ?_
  refine t 7 (.int .u64 v) ?_
  refine t 8 (.int .u64 tk) ?_
  refine tc 9 289 #[.int .u64 v, .int .u64 tk] (place_any) ?_
  rintro _ v1 ⟨rfl, B⟩
  refine ⟨_, rfl, ?_⟩
  replace A := A.keep B
  clear B
  refine tc 10 197 #[pg g, .agg #[.int .i64 10, .int .u64 tk, .int .u64 v], .bool true] (mark_on A.sx htk (mkE10 tk v) (by omega) (by omega)) ?_
  rintro _ v3 ⟨rfl, K2, S, hK, hC⟩
  refine ⟨_, rfl, ?_⟩
  replace A := A.op S hK hC
  clear S hK hC
  refine gl_nil ?_
  refine ge_end (.tuple #[]) (rs0 (by kernel_rfl)) ?_
  exact ⟨rfl, _, A.sx, A.km, A.cc⟩
theorem bond_on {B : Nat} {w : World} {K : Nat → Prop} {g : Nat} {E : Ents} {W : List Ents} {n N : Nat} {v : Int} (h : Sx B w K g E W n N) (hv : 0 ≤ v ∧ v < 18446744073709551616) (hn : n + 5 ≤ 4000000000000000000) (hN : N + 5 ≤ 100000000) : Calls Tryz.prog 148 #[pg g, .int .u64 v, .bool true] w (SxE B w K g (put E (Ky.mk 11 v 0) []) W (n + 1) (N + 2) (.tuple #[])) := by
  have A := h.at
  refine gc_enter (n := 11) Tryz.func148 rfl (by kernel_rfl) (by kernel_rfl) ?_
  refine gc_reg ?_
  refine t 6 (pg g) ?_
  refine t 7 (.int .u64 v) ?_
  refine t 8 (.agg #[.int .i64 11, .int .u64 v, .int .u64 0]) ?_
  refine t 9 (.bool true) ?_
  refine tc 10 197 #[pg g, .agg #[.int .i64 11, .int .u64 v, .int .u64 0], .bool true] (mark_on A.sx hv (mkE11 v) (by omega) (by omega)) ?_
  rintro _ v2 ⟨rfl, K1, S, hK, hC⟩
  refine ⟨_, rfl, ?_⟩
  replace A := A.op S hK hC
  clear S hK hC
  refine gl_nil ?_
  refine ge_end (.tuple #[]) (rs0 (by kernel_rfl)) ?_
  exact ⟨rfl, _, A.sx, A.km, A.cc⟩
end Pw
end Go.Proofs.YtpoifdokmjhclaaGreat

namespace Go.Proofs.YtpoifdokmjhclaaGreat
namespace Pw
open Go.RowKit Go.Lib Pg Kv Bk
attribute [local go_sem] Oper.semAt_some
def TpU (t : TypeId) : Prop := t = 22
/-- what keys of a kind hold, in their order -/
def pks (r : Nat) (m0 : Int) (E : Ents) : List (Int × Int) := (E.filter (fun x => decide ([m0] <+: x.1))).map (fun x => (Ky.rdA r x.1, Ky.rdB x.1))
def ArP (r : Nat) (ps : List (Int × Int)) (i : Nat) (args : Array Value) (_ : Nat) (_ : World) : Prop := ∃ c, ps[i]? = some c ∧ args = #[.agg #[.int .i64 (r : Int), .int .u64 c.1, .int .u64 c.2]]
theorem of10 (w : World) : Calls Tryz.prog 194 #[.int .i64 (10 : Nat)] w fun e w' => ∃ v, e = .returned (.tuple #[v, .int .i64 0]) ∧ OB w' (w.heap.size ≤ ·) v [105] ∧ Below w.heap.size w w' := Ky.of_any (k := 10)
theorem of11 (w : World) : Calls Tryz.prog 194 #[.int .i64 (11 : Nat)] w fun e w' => ∃ v, e = .returned (.tuple #[v, .int .i64 0]) ∧ OB w' (w.heap.size ≤ ·) v [98] ∧ Below w.heap.size w w' := Ky.of_any (k := 11)
theorem marked_mk {w : World} {p : Option Addr} {r : Nat} : Calls Tryz.prog 147 #[.pointer p, .int .i64 r] w fun e w' => ∃ bs bk, e = .returned (.func (.func 193) #[] #[.pointer (some ⟨bk, 0, none⟩), .pointer (some ⟨bs, 0, none⟩)]) ∧ w.heap.size ≤ bs ∧ w.heap.size ≤ bk ∧ Blk w' bs [.pointer p] 46 ∧ Blk w' bk [.int .i64 r] 3 ∧ Below w.heap.size w w' := by
  have b1 := below_alloc w (.cells #[.pointer p] 46)
  have c1 := blk_new w [.pointer p] 46
  have b2 := below_alloc (w.alloc (.cells #[.pointer p] 46)) (.cells #[.int .i64 r] 3)
  have c2 := blk_new (w.alloc (.cells #[.pointer p] 46)) [.int .i64 r] 3
  go_enter Tryz.func147, Tryz.ntmps147
  go_wp2
  go_ret
  exact ⟨_, _, rfl, Nat.le_refl _, by simp, c1.keep b2, by simpa using c2, joinB b1 b2⟩
set_option maxHeartbeats 8000000 in
set_option maxRecDepth 100000 in
theorem marked_itr {W0 : World} {K D X : Nat → Prop} {g bk bs x0 N r : Nat} {m0 : Int} {E : Ents} {Wn : List Ents} (hS : SA W0 K D g E Wn x0 N) (hbs : Blk W0 bs [.pointer (some ⟨g, 0, none⟩)] 46) (hXb : ¬ X bs) (hbk : Blk W0 bk [.int .i64 r] 3) (hXk : ¬ X bk) (hr : r < 18) (hr0 : 0 < r) (hOf : ∀ w, Calls Tryz.prog 194 #[.int .i64 r] w fun e w' => ∃ v, e = .returned (.tuple #[v, .int .i64 0]) ∧ OB w' (w.heap.size ≤ ·) v [m0] ∧ Below w.heap.size w w') (hRk : ∀ x ∈ E, [m0] <+: x.1 → Ky.frm r = Ky.fIn x.1) (hX1 : ∀ b, X b → b = g ∨ ¬ K b) (hXl : ∀ b, X b → b < W0.heap.size) (hN : N ≤ 100000000) (hx : x0 + N ≤ 2000000000000000000) :
    ItrE W0 TpU g x0 193 #[.pointer (some ⟨bk, 0, none⟩), .pointer (some ⟨bs, 0, none⟩)] (pks r m0 E).length (ArP r (pks r m0 E)) (RdS W0 X K D g E Wn N) := by
  intro l J0 J Jt Jx W hNB hW0 hS0 hSJ hSt hSx hgW hJ0 hJ hY h0
  obtain ⟨_, _, ⟨c0, u0, xx, s0⟩, _⟩ := hJ0 _ h0
  have B1 := below_alloc W (.cells #[.func (.yield l) #[] #[]] 288)
  have Y1 := blk_new W [.func (.yield l) #[] #[]] 288
  have s1 : (W.alloc (.cells #[.func (.yield l) #[] #[]] 288)).heap.size = W.heap.size + 1 := by simp
  obtain ⟨Wa, hWa⟩ : ∃ Wa, Hid (W.alloc (.cells #[.func (.yield l) #[] #[]] 288) = Wa) := ⟨_, rfl⟩
  rw [hWa.out] at B1 Y1 s1
  have bsW := hbs.chg c0 hXb
  have cK : (W.alloc (.cells #[.func (.yield l) #[] #[]] 288)).cell? ⟨bk, 0, none⟩ = some (.int .i64 r) := by rw [hWa.out]; exact ((hbk.chg c0 hXk).keep B1).cell (i := 0) rfl
  have hK0 : ∀ b, K b → b < W0.heap.size := fun b hb => hS.lt hb
  have HX' : Hid (∀ b, (X b ∨ (W0.heap.size ≤ b ∧ b < W.heap.size)) → b = g ∨ ¬ K b) := hid3 (fun b hb => hb.elim (hX1 b) (fun h => .inr (fun hk => by have := hK0 b hk; omega)))
  have HXl : Hid (∀ b, (X b ∨ (W0.heap.size ≤ b ∧ b < W.heap.size)) → b < W.heap.size) := hid3 (fun b hb => hb.elim (fun h => Nat.lt_of_lt_of_le (hXl b h) hW0) (fun h => h.2))
  have HXU : Hid (∀ b, (X b ∨ (W0.heap.size ≤ b ∧ b < W.heap.size)) → ∀ cs, ¬ Blk W b cs 5) := hid3 (fun b hb => hb.elim (u0 b) (fun h => hNB b h.1))
  have HY := hid3 hY
  have HJ := hid3 hJ
  have HJ0 := hid3 hJ0
  have H0 := hid3 h0
  have HS := hid3 s0
  have HC0 := hid3 c0
  have HB1 := hid3 B1
  have HY1 := hid3 Y1
  have HBS := hid3 bsW
  clear hJ0 hJ hY h0 s0 c0 B1 Y1 bsW hNB u0
  refine (callsIn_wide (n := 0)).1 ?_
  refine callsIn_of_wp_marks Tryz.func193 rfl trivial ?_ rfl
  simp only [Tryz.ntmps193, List.size_toArray, List.length_cons, List.length_nil, Nat.reduceAdd, Nat.reduceSub, Array.replicate_succ, Array.replicate_zero, List.push_toArray, List.append_toArray, List.nil_append, List.cons_append]
  gi_wp2_with first
    | (refine ⟨trivial, rfl, ?_⟩; gi_at_call 194; rw [hWa.out]; refine (callsIn_wide.2 (hOf _)).mono ?_; rintro e' w1 ⟨v1, rfl, O1, B2⟩; have cB := (HBS.out.keep (joinB HB1.out B2)).cell (i := 0) rfl; have tP := sprefixG (Tp := TpU) (X := fun b => X b ∨ (W0.heap.size ≤ b ∧ b < W.heap.size)) (HS.out.keep (joinB HB1.out B2)) hN O1.by (by simp) HX'.out (fun b hb cs k => HXU.out b hb cs ⟨by rw [← (joinB HB1.out B2).block b (HXl.out b hb)]; exact k.blk⟩) (fun b hb => Nat.lt_of_lt_of_le (HXl.out b hb) (joinB HB1.out B2).size) (by unfold TpU; decide) (by unfold TpU; decide); obtain ⟨pa, pc, rfl⟩ := O1.shape)
    | (refine ⟨trivial, rfl, ?_⟩; gi_at_call 195; refine (callsIn_wide.2 tP).mono ?_; rintro e' w2 ⟨v2, EL, rfl, IG, hEL, B3⟩; obtain ⟨bs1, bs2, bw, W1, rfl, IT, hRd, hb1, hb2⟩ := IG.ex; have hsm := IG.small; clear tP IG)
  have BW := joinB (joinB HB1.out B2) B3
  have hw1 : W.heap.size + 1 ≤ w1.heap.size := by have := B2.size; omega
  have hw2 : W.heap.size + 1 ≤ w2.heap.size := Nat.le_trans hw1 B3.size
  have YB := (HY1.out.keep B2).keep B3
  have hlen : (pks r m0 E).length = EL.length := by simp [pks, ← hEL]
  have hle : EL.length ≤ N := by
    have h1 := HS.out.size
    have h2 : (EL.map En.kl2).length ≤ E.length := by rw [hEL]; exact List.length_filter_le _ _
    rw [List.length_map] at h2
    omega
  have ITC := counted_itr (g := g) (bs1 := bs1) (bs2 := bs2) (x0 := x0) IT (by unfold TpU; decide) (by omega)
  have J2 := hS0 _ _ H0.out (Rec.of BW)
  have E2 : Ext W.heap.size w2 w2 := ⟨fun _ _ _ => rfl, Nat.le_refl _⟩
  have RDC : Hid (∀ V, RdS W0 X K D g E Wn N V → Ext W.heap.size w2 V → RdC (fun b => X b ∨ (W0.heap.size ≤ b ∧ b < W.heap.size)) W1 g bs1 bs2 bw V) := hid3 (fun V hR hE => by
    obtain ⟨c1, _, x, s1⟩ := hR
    obtain ⟨r1, r2, r3, _⟩ := hRd
    refine ⟨⟨?_, ?_, ?_, Nat.le_trans r1.size hE.2, fun b hb hn => ?_⟩, hE.blk r2 (by omega), hE.blk r3 (by omega), s1.kv⟩
    · rw [c1.os, ← HC0.out.os, ← BW.os, r1.os]
    · rw [c1.tape, ← HC0.out.tape, ← BW.tape, r1.tape]
    · rw [c1.output, ← HC0.out.output, ← BW.output, r1.output]
    · rw [← r1.same b hb hn]
      rw [not_or] at hn
      rcases Nat.lt_or_ge b W0.heap.size with h1 | h1
      · rw [c1.same b h1 hn.1, BW.block b (by omega), HC0.out.same b h1 hn.1]
      · exact hE.1 b (by omega) (Nat.lt_of_lt_of_le hb r1.size))
  have HEL := hid3 hEL
  have HSM := hid3 hsm
  have HYB := hid3 YB
  clear hEL hsm YB B2 B3 hRd O1 cB IT BW HB1 HY1
  refine rf_outerC ITC (by rfl) (enters_of Tryz.func303 (by kernel_rfl) rfl) (fun i args n V V' h hc => h.cel hc) (fun i args n V h => by obtain ⟨e, kv, vv, s, _, rfl, _⟩ := h; rfl)
    (fun V => J0 V ∧ Ext W.heap.size w2 V)
    (fun i V => J w2 i V ∧ Ext W.heap.size w2 V)
    (fun i V => Jt w2 i V ∧ Ext W.heap.size w2 V)
    (fun c i V => c = .ret ∧ Jx w2 i V ∧ w2.heap.size ≤ V.heap.size)
    (fun A B hx hr => ⟨hS0 A B hx.1 (hr.mono (by omega)), hx.2.rcd hr⟩)
    (fun i A B hx hr => ⟨hSJ w2 i A B hx.1 (hr.mono (by omega)), hx.2.rcd hr⟩)
    (fun i A B hx hr => ⟨hSt w2 i A B hx.1 (hr.mono (by omega)), hx.2.rcd hr⟩)
    (fun c i A B hx hr => ⟨hx.1, hSx w2 i A B hx.2.1 (hr.mono (by omega)), Nat.le_trans hx.2.2 hr.size⟩)
    (by omega)
    (fun V hv => by obtain ⟨q1, q2, q3, q4⟩ := HJ0.out V hv.1; exact ⟨q1, q2, RDC.out V q3 hv.2, q4 w2 (by omega) (ExtC.of hv.2), hv.2.tick hgW⟩)
    (fun i V hv => by obtain ⟨q1, q2, q3, q5, q4⟩ := HJ.out w2 i V hv.1; exact ⟨q1, q2, RDC.out V q3 hv.2, fun hi => ⟨q4 (by omega), hv.2.tick hgW⟩⟩)
    ⟨J2, E2⟩ ?_ ?_ ?_
  · rintro l2 i args V Wv hl hlV hrec hiN ⟨hJi, hExt⟩ hb ⟨e0, kv, vv, s0, he0, rfl, hk0, hv0, _⟩
    obtain ⟨ak0, nk, hk1⟩ := hk0.shape
    obtain ⟨av, nv, hv1⟩ := hv0.shape
    subst hk1 hv1
    simp
    gi_wp2
    refine ⟨Below.refl _ _, ?_⟩
    intro V2 W2 hJ2 hExt2 hb2 hAr2 hoth hsz3 hV2 rl hrec2
    obtain ⟨e1, kv1, vv1, t1, he1, harr, hk2, hv2, ht1⟩ := hAr2
    obtain rfl : e1 = e0 := by rw [he0] at he1; cases he1; rfl
    simp at harr
    obtain ⟨rfl, rfl⟩ := harr
    have hmE : e1.kl2 ∈ E.filter (fun x => decide ([m0] <+: x.1)) := by rw [← HEL.out]; exact List.mem_map.2 ⟨e1, List.mem_of_getElem? he0, rfl⟩
    have hfr := hRk _ (List.mem_filter.1 hmE).1 (of_decide_eq_true (List.mem_filter.1 hmE).2)
    have tA := Ky.read_yes hk2.by (HSM.out e1 (List.mem_of_getElem? he0)).1 hr hr0 hfr
    have hci : (pks r m0 E)[i]? = some (Ky.rdA r e1.kl, Ky.rdB e1.kl) := by simp [pks, ← HEL.out, he0, En.kl2]
    have yB := hExt2.blk HYB.out (Nat.le_refl _)
    have HE2 := hid3 hExt2
    have HYY := hid3 (HY.out w2 i #[.agg #[.int .i64 (r : Int), .int .u64 (Ky.rdA r e1.kl), .int .u64 (Ky.rdB e1.kl)]] V2)
    have HJT := hid3 hJ2
    have HB2 := hid3 hb2
    have hs2 : w2.heap.size ≤ V2.heap.size := hExt2.2
    have hs3 : V2.heap.size ≤ W2.heap.size := hb2.size
    have HYV := hid3 (yB.keep hb2)
    have HCI := hid3 hci
    clear hmE hfr hJi hExt hb hk0 hv0 hk2 hv2 hoth hExt2 hJ2 hb2 yB he1 he0 ht1 hci
    obtain ⟨cc, hcc⟩ : ∃ cc, Hid (Ky.rdA r e1.kl = cc) := ⟨_, rfl⟩
    obtain ⟨ss, hss⟩ : ∃ ss, Hid (Ky.rdB e1.kl = ss) := ⟨_, rfl⟩
    simp only [hcc.out, hss.out] at tA HYY HCI
    gi_wp2_with (refine ⟨trivial, rfl, ?_⟩; gi_at_call 196; refine (CallsIn.inRound l2 (callsIn_wide.2 tA)).mono ?_; rintro e' w3 ⟨rfl, B3⟩; clear tA; have B4 := below_alloc w3 (.cells #[.int .i64 (r : Int), .int .u64 cc, .int .u64 ss] 103); have yC := (HYV.out.keep (joinB B3 B4)).cell (i := 0) rfl; have hYY := HYY.out _ (by omega) (by omega) HJT.out (by omega) (joinB HB2.out (joinB B3 B4)) ⟨_, HCI.out, rfl⟩; obtain ⟨fn, tmps, assign, body, hy, hR⟩ := hYY; have hR2 : RoundIn (Fence.wide.inRound l2) 0 Tryz.prog l fn tmps assign body (w3.alloc (.cells #[.int .i64 (r : Int), .int .u64 cc, .int .u64 ss] 103)) _ := ⟨hR.1, fun c cs _ => hR.2 c cs (fun _ h => by cases h)⟩; have HR := hid3 hR2; have HK := hid3 (joinB B3 B4); clear hR hR2 B3 B4)
    refine ⟨rfl, HR.out.mono ?_⟩
    rintro e' w5 ⟨hk5, h5⟩
    have hkk : KeepsT TpU W.heap.size W2 w5 := (KeepsT.of HK.out).trans hk5
    have hk2 : KeepsT TpU w2.heap.size W2 w5 := hkk.mono (by omega)
    rcases h5 with ⟨rfl, hJ5⟩ | ⟨rfl, hJ5⟩
    · gi_wp2
      exact ⟨hk2, hJ5, Ext.mix (HE2.out.keep HB2.out) hkk (HJ.out w2 (i + 1) w5 hJ5).2.2.2.1⟩
    · gi_wp2
      exact ⟨hk2, rfl, hJ5, Nat.le_trans (HE2.out.keep HB2.out).2 hkk.size⟩
  · rintro D' W' hD hK ⟨hJn, hE⟩
    gi_wp2
    refine ⟨by simp, .inl ⟨_, _, rfl, run_takeDeferred hK, ?_⟩⟩
    have := hE.2
    exact ⟨_, results_none rfl _ _ _, ⟨_, rfl⟩, by simp; omega, w2, by omega, .inl (by rw [hlen]; exact hSJ w2 _ _ _ hJn (Rec.put hK rfl (by omega) _))⟩
  · rintro D' c i W' hD hK hiN ⟨rfl, hJx', hsz⟩
    gi_wp2
    refine ⟨by simp, .inl ⟨_, _, rfl, run_takeDeferred hK, ?_⟩⟩
    exact ⟨_, results_none rfl _ _ _, ⟨_, rfl⟩, by simp; omega, w2, by omega, .inr ⟨i, by omega, hSx w2 (i + 1) _ _ hJx' (Rec.put hK rfl (by omega) _)⟩⟩
end Pw
end Go.Proofs.YtpoifdokmjhclaaGreat
