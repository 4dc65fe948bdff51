/- Several texts, joined: DiI. -/
import Derived.Test.YtgdohcdlkonhiaaGreatDoorJaD
import Derived.Test.YtgdohcdlkonhiaaGreatDoorJag
namespace Go.Proofs.YtgdohcdlkonhiaaGreatDoor
namespace Fo
open Go.RowKit Go.Lib Pg Lim Gl Kv Bk Pw Sd Di
attribute [local go_sem] Oper.semAt_some
set_option maxRecDepth 100000
set_option linter.unusedVariables false
set_option linter.unusedSimpArgs false
set_option maxHeartbeats 4000000
set_option maxHeartbeats 4000000 in
theorem swalkC {Tp : TypeId → Prop} {X : Nat → Prop} {w : World} {K D : Nat → Prop} {g n N : Nat} {E : Ents} {W : List Ents} {fv tv : Value} {f t : List Int} (h : SA w K D g E W n N) (hN : N ≤ 100000000) (hf : By w fv f) (ht : By w tv t) (hfl : f.length ≤ 1000000000) (htl : t.length ≤ 1000000000) (hX1 : ∀ b, X b → b = g ∨ ¬ K b) (hXU : ∀ b, X b → ∀ cs, ¬ Blk w b cs 5) (hXl : ∀ b, X b → b < w.heap.size) (hT : ¬ Tp 101) (hTe : ¬ Tp 160) :
    Calls Tryz.prog 266 #[.pointer (some ⟨g, 0, none⟩), fv, tv] w fun e w' => ∃ v EL, e = .returned v ∧ IterG Tp X w.heap.size w' g EL v ∧ EL.map En.kl2 = E.filter (abtw f t) ∧ Below w.heap.size w w' := by
  obtain ⟨F, V, m, Q, jv, T, oj, hX, rfl, hB⟩ := h.open
  obtain ⟨L, Km, hw⟩ := xwmG hX hN hX1 hXU hXl
  have tW := walk_any (Tp := Tp) Km hf ht hfl htl hT hTe
  have c0 := hX.blk.cell (i := 0) rfl
  obtain ⟨fa, fc, rfl, -⟩ := id hf.ex
  obtain ⟨ta, tc, rfl, -⟩ := id ht.ex
  generalize hfn : f.length = fn at *
  generalize htn : t.length = tn at *
  have HX := hid3 hX
  have HK := hid3 Km
  have HW := hid3 hw
  clear hX Km hw h hB hf ht hfn htn hX1 hXU hXl hT hTe
  go_enter Tryz.func266, Tryz.ntmps266
  go_wp2_with first
    | (go_at_call 306; go_must (refine tW.mono ?_); rintro e w1 ⟨bw, rfl, B1, IT⟩; clear tW)
    | (go_at_call 305; go_must (refine counted_mk.mono ?_); rintro e w2 ⟨rfl, k1, k2, B2⟩)
  go_ret
  exact ⟨_, _, rfl, iterG_of HX.out.blk HK.out B1 IT k1 k2 B2 (Nat.le_refl _), HW.out f t, joinB B1 B2⟩
theorem mt_walk {B : Nat} {K : Nat → Prop} {g : Nat} {E : Ents} {Wn : List Ents} {x N : Nat} {w : World} {fv tv : Value} {f t : List Int} (h : Sx B w K g E Wn x N) (hN : N ≤ 100000000) (hx : x ≤ 1000000000000000000) (hf : By w fv f) (ht : By w tv t) (hfl : f.length ≤ 1000000000) (htl : t.length ≤ 1000000000) (h0 : E.filter (abtw f t) = []) :
    Calls Tryz.prog 266 #[pg g, fv, tv] w fun e w' => ∃ gf lb, e = .returned (.func (.func gf) #[] lb) ∧ Mt B K g E Wn x N 1 w' (.func (.func gf) #[] lb) ∧ Below w.heap.size w w' := by
  refine (swalkC (Tp := fun _ => False) (X := (· = g)) h.sa hN hf ht hfl htl (fun b e => .inl e) (fun b e cs k => ?_) (fun b e => ?_) (fun h => h) (fun h => h)).mono ?_
  · have e' : b = g := e
    subst e'
    obtain ⟨cs', k'⟩ := h.sa.kv
    exact absurd (k.eq k').2 (by decide)
  · have e' : b = g := e
    subst e'
    exact h.sa.lt h.sa.top
  rintro e w' ⟨v, EL, rfl, IG, hEL, Bw⟩
  have hE : EL = [] := by rw [h0] at hEL; simpa using hEL
  subst hE
  obtain ⟨bs1, bs2, bw, W1, rfl, IT, hRd, hb1, hb2⟩ := IG.ex
  refine ⟨_, _, rfl, ⟨_, _, rfl, enters_of Tryz.func322 (by kernel_rfl) rfl, fun V l hb => ?_⟩, Bw⟩
  have S1 : Sx B V K g E Wn x N := (h.keep Bw).keep hb
  have gl : g < V.heap.size := S1.sa.lt S1.sa.top
  have n1 : bs1 ≠ g := fun e => by obtain ⟨cs', k'⟩ := (h.keep Bw).sa.kv; subst e; exact absurd (hRd.2.1.eq k').2 (by decide)
  have n2 : bs2 ≠ g := fun e => by obtain ⟨cs', k'⟩ := (h.keep Bw).sa.kv; subst e; exact absurd (hRd.2.2.1.eq k').2 (by decide)
  have rdV : ∀ U, Chg (· = g) V U → Sx B U K g E Wn x N ∨ Sx B U K g E Wn (x + 1) N → RdC (· = g) W1 g bs1 bs2 bw U := fun U c s => by
    have c2 := (Chg.of (F := (· = g)) hb).trans c (fun _ _ h => h)
    exact ⟨hRd.1.trans c2 (fun _ _ h => h), hRd.2.1.chg c2 n1, hRd.2.2.1.chg c2 n2, s.elim (fun s => s.sa.kv) (fun s => s.sa.kv)⟩
  have ITC := counted_itr (g := g) (bs1 := bs1) (bs2 := bs2) (x0 := x) IT (fun h => h) (by simp; omega)
  refine (ITC l (fun U => Rec V.heap.size V U) (fun i U => i = 0 ∧ ∃ U0, Rec V.heap.size V U0 ∧ Rec V.heap.size (tick g U0 x) U) (fun _ _ => True) (fun _ _ => True) V
    (fun A C h r => h.trans r) (fun i A C h r => ⟨h.1, h.2.imp fun _ q => ⟨q.1, q.2.trans r⟩⟩) (fun _ _ _ _ _ => trivial) (fun _ _ _ _ _ => trivial) gl ?_ ?_ (fun i _ _ _ hi => absurd hi (by simp)) ⟨rfl, rfl, rfl, Nat.le_refl _, fun _ _ h _ => h⟩).mono ?_
  · intro U r
    have s := sx_rcd S1 r
    have q := s.sa.cnt
    exact ⟨q.1, q.2, rdV U (chg_rcd (Chg.refl _ _) r (Nat.le_refl _)) (.inl s), rfl, U, r, ⟨rfl, rfl, rfl, Nat.le_refl _, fun _ _ h _ => h⟩⟩
  · rintro i U ⟨rfl, U0, r0, r1⟩
    have s := sx_rcd (sx_tick (sx_rcd S1 r0)) r1
    have q := s.sa.cnt
    have c := chg_rcd ((chg_rcd (Chg.refl (· = g) V) r0 (Nat.le_refl _)).trans (chg_tick g x U0) (fun _ _ h => h)) r1 (Nat.le_refl _)
    exact ⟨q.1, q.2, rdV U c (.inr s), fun hi => absurd hi (by simp)⟩
  · rintro e W' ⟨he, _, ⟨_, U0, r0, r1⟩ | ⟨i, hi, _⟩⟩
    · exact ⟨he, sx_rcd (sx_tick (sx_rcd S1 r0)) r1, chg_rcd ((chg_rcd (Chg.refl (· = g) V) r0 (Nat.le_refl _)).trans (chg_tick g x U0) (fun _ _ h => h)) r1 (Nat.le_refl _)⟩
    · exact absurd hi (by simp)
theorem next_u {w : World} {v : Value} {l : List Int} (h : ByU w v l) (hl : l.length ≤ 1000000000) : Calls Tryz.prog 265 #[v] w fun e w' => ∃ u, e = .returned u ∧ ByU w' u (Ky.nxt l) ∧ Below w.heap.size w w' := by
  obtain ⟨b, ao, c, rfl, _⟩ := bya h.byt
  refine (Ky.next_any h.byt hl).mono ?_
  rintro e w' ⟨u, rfl, O, B⟩
  exact ⟨u, rfl, ByU.of O, B⟩
theorem cuts_run {B : Nat} {w : World} {K : Nat → Prop} {g n N l b1 b2 b3 b4 : Nat} (h : Sx B w K g e18 [] n N) (X1 : Blk w b1 [.int .u64 16] 22) (X2 : Blk w b2 [.int .u64 0] 22) (X3 : Blk w b3 [.int .u64 1] 22) (X4 : Blk w b4 [pg g] 40) (hn : n ≤ 1000000) (hN : N ≤ 1000000) : Calls Tryz.prog 264 #[.func (.yield l) #[] #[], pg b1, pg b2, pg b3, pg b4] w fun e w' => (∃ u, e = .returned u) ∧ Sx B w' K g e18 [] (n + 1) N ∧ Chg (· = g) w w' := by
  have BB := Below.refl w.heap.size w
  refine gc_enterM (n := 44) Tryz.func264 rfl (by kernel_rfl) (by kernel_rfl) ?_
  refine gc_seq ?_
  refine gc_reg ?_
  refine ta 5 [.func (.yield l) #[] #[]] 333 (pg) ?_
  intro v1 g2 Xg2 hg2 B
  replace X1 := X1.keep B
  replace X2 := X2.keep B
  replace X3 := X3.keep B
  replace X4 := X4.keep B
  replace BB := joinB BB B
  clear B
  refine gl_nil ?_
  refine ge_then ?_
  refine gc_join (fun (s : Value × Value) => [(4, pg b4), (6, s.1), (7, s.2)]) (fun s w' => Below w.heap.size w w' ∧ Blk w' b1 [.int .u64 16] 22 ∧ Blk w' b2 [.int .u64 0] 22 ∧ Blk w' b3 [.int .u64 1] 22 ∧ Blk w' b4 [pg g] 40 ∧ Blk w' g2 [.func (.yield l) #[] #[]] 333 ∧ ByU w' s.1 (Ky.nxt (Ky.mk 8 16 0)) ∧ ByU w' s.2 (Ky.nxt (Ky.mk 8 16 1))) ?_ ?_
  · replace X1 := X1.drew
    replace X2 := X2.drew
    replace X3 := X3.drew
    replace X4 := X4.drew
    replace BB := BB.drew
    replace Xg2 := Xg2.drew
    refine gc_draw (fun w' => Blk w' b1 [.int .u64 16] 22 ∧ Blk w' b2 [.int .u64 0] 22 ∧ Blk w' b3 [.int .u64 1] 22) (fun _ => false) ⟨X1, X2, X3⟩ ?_
    refine zl 0 14 (.int .u64 16) (fun _ h => h.1) 0 ?_
    refine zl 1 15 (.int .u64 0) (fun _ h => h.2.1) 0 ?_
    refine zl 4 18 (.int .u64 16) (fun _ h => h.1) 0 ?_
    refine zl 5 19 (.int .u64 1) (fun _ h => h.2.2) 0 ?_
    refine zc 2 16 172 #[.int .i64 8, .int .u64 16, .int .u64 0] (fkey ⟨by decide, by decide⟩ (by decide)) ?_
    rintro _ v5 ⟨kv4, rfl, U3, B⟩
    replace X1 := X1.keep B
    replace X2 := X2.keep B
    replace X3 := X3.keep B
    replace X4 := X4.keep B
    replace BB := joinB BB B
    replace Xg2 := Xg2.keep B
    clear B
    refine ⟨_, rfl, ⟨X1, X2, X3⟩, ?_⟩
    refine zc 3 17 265 #[kv4] (next_u U3 (Nat.le_trans (Ky.mk_len _ _ _) (by decide))) ?_
    rintro _ v8 ⟨nv7, rfl, U6, B⟩
    replace X1 := X1.keep B
    replace X2 := X2.keep B
    replace X3 := X3.keep B
    replace X4 := X4.keep B
    replace BB := joinB BB B
    replace Xg2 := Xg2.keep B
    replace U3 := byu_keep U3 B
    clear B
    refine ⟨_, rfl, ⟨X1, X2, X3⟩, ?_⟩
    refine zc 6 20 172 #[.int .i64 8, .int .u64 16, .int .u64 1] (fkey ⟨by decide, by decide⟩ (by decide)) ?_
    rintro _ v11 ⟨kv10, rfl, U9, B⟩
    replace X1 := X1.keep B
    replace X2 := X2.keep B
    replace X3 := X3.keep B
    replace X4 := X4.keep B
    replace BB := joinB BB B
    replace Xg2 := Xg2.keep B
    replace U3 := byu_keep U3 B
    replace U6 := byu_keep U6 B
    clear B
    refine ⟨_, rfl, ⟨X1, X2, X3⟩, ?_⟩
    refine zc 7 21 265 #[kv10] (next_u U9 (Nat.le_trans (Ky.mk_len _ _ _) (by decide))) ?_
    rintro _ v14 ⟨nv13, rfl, U12, B⟩
    replace X1 := X1.keep B
    replace X2 := X2.keep B
    replace X3 := X3.keep B
    replace X4 := X4.keep B
    replace BB := joinB BB B
    replace Xg2 := Xg2.keep B
    replace U3 := byu_keep U3 B
    replace U6 := byu_keep U6 B
    replace U9 := byu_keep U9 B
    clear B
    refine ⟨_, rfl, ⟨X1, X2, X3⟩, ?_⟩
    refine z 8 6 (nv7) ?_
    refine z 9 7 (nv13) ?_
    refine gz_done ?_
    exact ge_join (nv7, nv13) ⟨BB, X1, X2, X3, X4, Xg2, U6, U12⟩ (by kernel_rfl)
  clear X1
  clear X2
  clear X3
  clear X4
  clear BB
  clear Xg2
  rintro ⟨n6, n7⟩ v15 ⟨BB, X1, X2, X3, X4, Xg2, U6, U7⟩
  dsimp only at *
  refine gc_seq ?_
  refine gc_reg ?_
  refine tl 22 (pg g) X4 0 ?_
  refine t 23 (n6) ?_
  refine t 24 (n7) ?_
  refine tc 25 266 #[pg g, n6, n7] (mt_walk (h.keep BB) (by omega) (by omega) U6.byt U7.byt (by decide +kernel) (by decide +kernel) (by decide +kernel)) ?_
  rintro _ v16 ⟨gf, lb, rfl, M, B⟩
  refine ⟨_, rfl, ?_⟩
  skip
  replace X1 := X1.keep B
  replace X2 := X2.keep B
  replace X3 := X3.keep B
  replace X4 := X4.keep B
  replace BB := joinB BB B
  replace Xg2 := Xg2.keep B
  replace U6 := byu_keep U6 B
  replace U7 := byu_keep U7 B
  clear B
  refine gl_nil ?_
  refine ge_then ?_
  refine gc_block ?_
  have hs := BB.size
  refine gc_mt M ((h.keep BB).sa.lt (h.keep BB).sa.top) ?_
  intro D v9 hD kD S C
  refine ge_bn ?_
  refine ge_endD (b := w.heap.size) [D] ⟨fun d hd => by
    have e : d = D := by simpa using hd
    subst e
    exact ⟨by omega, kD⟩, by simp⟩ (by kernel_rfl) ?_
  intro Vz Rz
  exact ⟨⟨_, rfl⟩, sx_rcd S Rz, chg_rcd ((Chg.of (F := (· = g)) BB).trans C (fun _ _ h => h)) Rz (Nat.le_refl _)⟩
theorem cuts_l {B : Nat} {w : World} {K : Nat → Prop} {g n N : Nat} (h : Sx B w K g e18 [] n N) (hn : n ≤ 1000000) (hN : N ≤ 1000000) : Calls Tryz.prog 217 #[pg g, .int .u64 16, .int .u64 0, .int .u64 1] w fun e w' => ∃ gf lb, e = .returned (.func (.func gf) #[] lb) ∧ Mt B K g e18 [] n N 1 w' (.func (.func gf) #[] lb) ∧ Below w.heap.size w w' := by
  have BB := Below.refl w.heap.size w
  refine gc_enter (n := 10) Tryz.func217 rfl (by kernel_rfl) (by kernel_rfl) ?_
  refine gc_seq ?_
  refine gc_reg ?_
  refine ta 4 [pg g] 40 (pg) ?_
  intro v1 g2 Xg2 hg2 B
  replace BB := joinB BB B
  clear B
  refine ta 5 [.int .u64 16] 22 (pg) ?_
  intro v3 g4 Xg4 hg4 B
  replace BB := joinB BB B
  replace Xg2 := Xg2.keep B
  clear B
  refine ta 6 [.int .u64 0] 22 (pg) ?_
  intro v5 g6 Xg6 hg6 B
  replace BB := joinB BB B
  replace Xg2 := Xg2.keep B
  replace Xg4 := Xg4.keep B
  clear B
  refine ta 7 [.int .u64 1] 22 (pg) ?_
  intro v7 g8 Xg8 hg8 B
  replace BB := joinB BB B
  replace Xg2 := Xg2.keep B
  replace Xg4 := Xg4.keep B
  replace Xg6 := Xg6.keep B
  clear B
  refine t 8 (.nilFunc) ?_
  refine gl_nil ?_
  refine ge_then ?_
  refine gc_seq ?_
  refine gc_reg ?_
  refine t 9 (.func (.func 264) #[] #[pg g4, pg g6, pg g8, pg g2]) ?_
  refine t 8 (.func (.func 264) #[] #[pg g4, pg g6, pg g8, pg g2]) ?_
  refine gl_nil ?_
  refine ge_then ?_
  refine gc_ret ?_
  refine ge_ret (.func (.func 264) #[] #[pg g4, pg g6, pg g8, pg g2]) (rs1 8 (by kernel_rfl) (by kernel_rfl)) ?_
  exact ⟨_, _, rfl, ⟨_, _, rfl, enters_of Tryz.func264 (by kernel_rfl) rfl, fun V l hb => cuts_run ((h.keep BB).keep hb) (Xg4.keep hb) (Xg6.keep hb) (Xg8.keep hb) (Xg2.keep hb) hn hN⟩, BB⟩
theorem Ut.q14 {w0 w : World} {B g0 n N : Nat} {K0 K : Nat → Prop} {W : List Ents} {E : Ents} {bs : List Bx} {q1 q2 q3 q4 : Nx} {qs : List Nx} (h : Ut w0 K0 B g0 W w K E n N bs (q1 :: q2 :: q3 :: q4 :: qs)) : Ut w0 K0 B g0 W w K E n N bs (q1 :: q4 :: qs) := by
  have s : ∀ r ∈ q1 :: q4 :: qs, r ∈ q1 :: q2 :: q3 :: q4 :: qs := fun r hr => by
    simp only [List.mem_cons] at hr ⊢
    rcases hr with h | h | h
    · exact .inl h
    · exact .inr (.inr (.inr (.inl h)))
    · exact .inr (.inr (.inr (.inr h)))
  exact ⟨h.ta, h.b, fun r hr => h.q r (s r hr), fun p hp r hr => h.e p hp r (s r hr), h.d⟩
theorem earn_l {w0 w : World} {K0 K : Nat → Prop} {B g n N br bk bf bs bi : Nat} {rest : List Bx} {qs : List Nx} {a0 : Option Addr} {n0 c0 z0 : Nat} {a1 : Option Addr} {n1 c1 z1 : Nat} (U0 : Ut w0 K0 B g [] w K e18 n N ((br, [.slice none 0 0], 26) :: (bk, [.slice a0 n0 c0], 26) :: (bf, [.slice a1 n1 c1], 26) :: (bs, [pg g], 40) :: (bi, [.int .u64 16], 22) :: rest) ((z0, a0, n0, c0, 1000000000000000000000000000000000000) :: (z1, a1, n1, c1, 0) :: qs)) (m0 : n0 ≤ 2000) (m1 : n1 ≤ 2000) (hn : n ≤ 1000000) (hN : N ≤ 1000000) : Calls Tryz.prog 216 #[.int .u64 1, pg bs, pg bi, pg br, pg bk, pg bf] w fun e w' => ∃ b0 k0 d0 y0 b1 k1 d1 y1 K' n' N', e = .returned (.tuple #[]) ∧ n' ≤ n + 5 ∧ N' ≤ N + 5 ∧ Ut w0 K0 B g [] w' K' e18 n' N' ((br, [.slice b0 k0 d0], 26) :: (bk, [.slice a0 n0 c0], 26) :: (bf, [.slice b1 k1 d1], 26) :: (bs, [pg g], 40) :: (bi, [.int .u64 16], 22) :: rest) ((y0, b0, k0, d0, 32666666666666666666666666666666666666) :: (y1, b1, k1, d1, 32666666666666666666666666666666666666) :: (z0, a0, n0, c0, 1000000000000000000000000000000000000) :: (z1, a1, n1, c1, 0) :: qs) ∧ Rs 0 w w' ∧ k0 ≤ 6000 ∧ (k0 = 0 ∨ w0.heap.size ≤ y0) ∧ k1 ≤ 510 ∧ (k1 = 0 ∨ w0.heap.size ≤ y1) := by
  have U := uy_of (C := 0) U0
  refine gc_enter (n := 20) Tryz.func216 rfl (by kernel_rfl) (by kernel_rfl) ?_
  refine gc_seq ?_
  refine gc_reg ?_
  refine tl 8 (pg g) (U.bk 3 rfl) 0 ?_
  refine tl 9 (.int .u64 16) (U.bk 4 rfl) 0 ?_
  refine t 10 (.int .u64 1) ?_
  refine tc 11 213 #[pg g, .int .u64 16, .int .u64 1] (ratio_any U.ta.sx ⟨by decide, by decide⟩ (by omega) (by omega)) ?_
  rintro _ v3 ⟨ar1, nr1, cr1, rfl, zr1, K2, S, hK, hC, Q, mr1, h⟩
  refine ⟨_, rfl, ?_⟩
  have fr1 := ne3 h U.ta.size
  have L := U.lt
  replace U := (U.op S hK hC).add L Q h
  clear L S hK hC Q h
  replace U := U.val 0 rfl (show _ = (32666666666666666666666666666666666666 : Int) by decide +kernel)
  refine ta 7 [.slice none 0 0] 26 (pg) ?_
  intro v4 g5 Xg5 hg5 B
  replace U := U.new Xg5 hg5 B
  clear Xg5 hg5 B
  refine ts (U.bk 0 rfl) 0 (.agg #[.slice ar1 nr1 cr1]) [.slice ar1 nr1 cr1] [.slice ar1 nr1 cr1] ?_
  intro v6 Y C
  replace U := U.put 0 rfl C Y (by decide)
  clear Y C
  refine gl_nil ?_
  refine ge_then ?_
  refine gc_seq ?_
  replace U := U.drew
  refine gc_draw (fun w' => Blk w' br [.slice none 0 0] 26 ∧ Blk w' bk [.slice a0 n0 c0] 26 ∧ Blk w' g5 [.slice ar1 nr1 cr1] 26 ∧ Blk w' bf [.slice a1 n1 c1] 26) (fun i => decide (7 ≤ i)) ⟨(U.bk 1 rfl), (U.bk 2 rfl), (U.bk 0 rfl), (U.bk 3 rfl)⟩ ?_
  refine zlr 0 12 [.slice none 0 0] (fun _ h => h.1) 0 ?_
  refine zlr 1 13 [.slice a0 n0 c0] (fun _ h => h.2.1) 0 ?_
  refine zlr 2 14 [.slice ar1 nr1 cr1] (fun _ h => h.2.2.1) 0 ?_
  refine zlr 3 15 [.slice a1 n1 c1] (fun _ h => h.2.2.2) 0 ?_
  refine zc 4 16 215 #[.agg #[.slice ar1 nr1 cr1], .agg #[.slice a1 n1 c1]] (less_any (U.nq 0 rfl).nat (by omega) (U.nq 2 rfl).nat (by omega)) ?_
  rintro _ v8 ⟨aq7, nq7, cq7, zq7, rfl, M, h, mq7, B⟩
  have fq7 := ne3 h U.ta.size
  replace U := U.num M h B
  clear M h B
  replace U := U.val 0 rfl (show _ = (32666666666666666666666666666666666666 : Int) by decide +kernel)
  refine ⟨_, rfl, ⟨(U.bk 1 rfl), (U.bk 2 rfl), (U.bk 0 rfl), (U.bk 3 rfl)⟩, ?_⟩
  refine zc 5 17 86 #[.agg #[.slice a0 n0 c0], .agg #[.slice aq7 nq7 cq7]] (eMul (U.nq 2 rfl).nat (by omega) (U.nq 0 rfl).nat (by omega)) ?_
  rintro _ v10 ⟨aq9, nq9, cq9, zq9, rfl, M, h, mq9, B⟩
  have fq9 := ne3 h U.ta.size
  replace U := U.num M h B
  clear M h B
  replace U := U.val 0 rfl (show _ = (32666666666666666666666666666666666666 : Int) by decide +kernel)
  refine ⟨_, rfl, ⟨(U.bk 1 rfl), (U.bk 2 rfl), (U.bk 0 rfl), (U.bk 3 rfl)⟩, ?_⟩
  refine zc 6 18 8 #[.agg #[.slice none 0 0], .agg #[.slice aq9 nq9 cq9]] (eAdd (nf_nil _ 0).nat (by omega) (U.nq 0 rfl).nat (by omega)) ?_
  rintro _ v12 ⟨aq11, nq11, cq11, zq11, rfl, M, h, mq11, B⟩
  have fq11 := ne3 h U.ta.size
  replace U := U.num M h B
  clear M h B
  replace U := U.val 0 rfl (show _ = (32666666666666666666666666666666666666 : Int) by decide +kernel)
  refine ⟨_, rfl, ⟨(U.bk 1 rfl), (U.bk 2 rfl), (U.bk 0 rfl), (U.bk 3 rfl)⟩, ?_⟩
  refine gz_late ?_
  refine ys 7 (U.bk 1 rfl) 0 (.agg #[.slice aq11 nq11 cq11]) [.slice aq11 nq11 cq11] [.slice aq11 nq11 cq11] ?_
  intro v13 Y C
  replace U := U.put 1 rfl C Y (by decide)
  clear Y C
  refine gy_done ?_
  refine ge_then ?_
  refine gc_fr [(5, pg bf), (7, pg g5)] (by kernel_rfl) ?_
  refine gc_reg ?_
  refine tlr 19 [.slice ar1 nr1 cr1] (U.bk 0 rfl) 0 ?_
  refine ts (U.bk 3 rfl) 0 (.agg #[.slice ar1 nr1 cr1]) [.slice ar1 nr1 cr1] [.slice ar1 nr1 cr1] ?_
  intro v14 Y C
  replace U := U.put 3 rfl C Y (by decide)
  clear Y C
  refine gl_nil ?_
  refine ge_end (.tuple #[]) (rs0 (by kernel_rfl)) ?_
  exact ⟨_, _, _, _, _, _, _, _, _, _, _, rfl, by omega, by omega, U.u.tail.q14, U.k, by omega, fq11, by omega, fr1⟩
theorem rctM {n : Nat} {l : Gl.Fr} {fn : Func} {w : World} {b : Nat} {ds : List Deferred} (j k : Nat) {g : Nat} {u v : Value} {T t : TypeId} {cs : List Value} (X : Blk w g cs t) (hl : ∀ W, Blk W g cs t → (loadVar T ⟨g, 0, none⟩).run Tryz.prog W = .ok v W) (h : fn.results = #[.cell j T, .tmp k]) (hv : lk l j = some (pg g)) (hu : lk l k = some u) (W : World) (a : Act) (q : Rec b w W) (r : Rd n ds l a) : (results fn a.tmps).run Tryz.prog W = .ok (.tuple #[v, u]) W := by
  have h1 := r.gD hv
  have h2 := r.gD hu
  simp at h1 h2
  simp [results, h, h1, h2, pg, asAddr, hl W (rec_cel X q)]
structure JfClaim1 where
  b0 : Nat
  b1 : Nat
  a0 : Option Addr
  k0 : Nat
  c0 : Nat
  z0 : Nat
  K : Nat → Prop
  n : Nat
  N : Nat
theorem claim_l {B : Nat} {w : World} {K : Nat → Prop} {g : Nat} {n N : Nat} {a0 a2 a3 a4 a5 : Option Addr} {n0 c0 n2 c2 n3 c3 n4 c4 n5 c5 z5 : Nat} (h : Sx B w K g e18 [] n N) (Q5 : Nq w K z5 a5 n5 c5 1000000000000000000000000000000000000) (m5 : n5 ≤ 2000) (hn : n ≤ 100000) (hN : N ≤ 100000) : Calls Tryz.prog 146 #[pg g, .int .u64 16, .agg #[.int .u64 0, .int .u64 1, .slice a0 n0 c0, .bool false, .int .u64 0, .bool false, .int .u64 2, .slice none 0 0, .slice a2 n2 c2, .slice a3 n3 c3], .agg #[.slice a4 n4 c4, .int .u64 0, .slice a5 n5 c5]] w fun e w' => ∃ b0 k0 d0 y0 K' n' N', e = .returned (.tuple #[.agg #[.slice b0 k0 d0], .int .i64 0]) ∧ Sx B w' K' g e18 [] n' N' ∧ n' ≤ n + 300 ∧ N' ≤ N + 300 ∧ (∀ b, K' b → K b ∨ w.heap.size ≤ b) ∧ Chg K w w' ∧ Nq w' K' y0 b0 k0 d0 32666666666666666666666666666666666666 ∧ k0 ≤ 6000 ∧ (k0 = 0 ∨ w.heap.size ≤ y0) := by
  have U := ut_of h
  refine gc_enterM (n := 50) Tryz.func146 rfl (by kernel_rfl) (by kernel_rfl) ?_
  have l5 := Q5.lt
  replace U := U.addR Q5 l5
  refine gc_seq ?_
  refine gc_reg ?_
  refine ta 4 [pg g] 40 (pg) ?_
  intro v1 g2 Xg2 hg2 B
  replace U := U.new Xg2 hg2 B
  clear Xg2 hg2 B
  refine ta 5 [.int .u64 16] 22 (pg) ?_
  intro v3 g4 Xg4 hg4 B
  replace U := U.new Xg4 hg4 B
  clear Xg4 hg4 B
  refine ta 6 [.int .u64 0, .int .u64 1, .slice a0 n0 c0, .bool false, .int .u64 0, .bool false, .int .u64 2, .slice none 0 0, .slice a2 n2 c2, .slice a3 n3 c3] 28 (pg) ?_
  intro v5 g6 Xg6 hg6 B
  replace U := U.new Xg6 hg6 B
  clear Xg6 hg6 B
  refine ta 7 [.slice a4 n4 c4, .int .u64 0, .slice a5 n5 c5] 55 (pg) ?_
  intro v7 g8 Xg8 hg8 B
  replace U := U.new Xg8 hg8 B
  clear Xg8 hg8 B
  refine ta 8 [.slice none 0 0] 26 (pg) ?_
  intro v9 g10 Xg10 hg10 B
  replace U := U.new Xg10 hg10 B
  clear Xg10 hg10 B
  refine t 9 (.int .i64 0) ?_
  refine gl_nil ?_
  refine ge_then ?_
  refine gc_join (fun (s : JfClaim1) => [(4, pg g2), (5, pg g4), (7, pg g8), (8, pg g10), (9, .int .i64 0), (10, pg s.b1), (11, pg s.b0), (12, .int .u64 1)]) (fun s w' => Ut w K B g [] w' s.K e18 s.n s.N [(s.b0, [.slice s.a0 s.k0 s.c0], 26), (s.b1, [.slice a5 n5 c5], 26), (g10, [.slice none 0 0], 26), (g8, [.slice a4 n4 c4, .int .u64 0, .slice a5 n5 c5], 55), (g6, [.int .u64 0, .int .u64 1, .slice a0 n0 c0, .bool false, .int .u64 0, .bool false, .int .u64 2, .slice none 0 0, .slice a2 n2 c2, .slice a3 n3 c3], 28), (g4, [.int .u64 16], 22), (g2, [pg g], 40)] [(s.z0, s.a0, s.k0, s.c0, 0), (z5, a5, n5, c5, 1000000000000000000000000000000000000)] ∧ (s.n ≤ n + 200 ∧ s.N ≤ N + 200) ∧ (s.k0 ≤ 2000 ∧ (s.k0 = 0 ∨ w.heap.size ≤ s.z0))) ?_ ?_
  · replace U := U.drew
    refine gc_draw (fun w' => Blk w' g8 [.slice a4 n4 c4, .int .u64 0, .slice a5 n5 c5] 55 ∧ Blk w' g2 [pg g] 40 ∧ Blk w' g4 [.int .u64 16] 22 ∧ Blk w' g6 [.int .u64 0, .int .u64 1, .slice a0 n0 c0, .bool false, .int .u64 0, .bool false, .int .u64 2, .slice none 0 0, .slice a2 n2 c2, .slice a3 n3 c3] 28) (fun _ => false) ⟨(U.bk 1 rfl), (U.bk 4 rfl), (U.bk 3 rfl), (U.bk 2 rfl)⟩ ?_
    refine z 0 18 (pq g8 2) ?_
    refine zlr 1 19 [.slice a5 n5 c5] (fun _ h => h.1) 2 ?_
    refine zl 2 20 (pg g) (fun _ h => h.2.1) 0 ?_
    refine zl 3 21 (.int .u64 16) (fun _ h => h.2.2.1) 0 ?_
    refine z 4 22 (pq g8 1) ?_
    refine zl 5 23 (.int .u64 0) (fun _ h => h.1) 1 ?_
    refine z 7 25 (pq g6 6) ?_
    refine zl 8 26 (.int .u64 2) (fun _ h => h.2.2.2) 6 ?_
    refine z 9 27 (.int .u64 1) ?_
    refine gz_ready [6, 10, 11] ?_
    refine ga_call 6 (some 24) 213 #[pg g, .int .u64 16, .int .u64 0] (ratio_any U.ta.sx ⟨by decide, by decide⟩ (by omega) (by omega)) ?_ ?_
    · rintro _ v13 ⟨ar11, nr11, cr11, rfl, zr11, K12, S, hK, hC, Q, mr11, h⟩
      have fr11 := ne3 h U.ta.size
      have L := U.lt
      replace U := (U.op S hK hC).add L Q h
      clear L S hK hC Q h
      replace U := U.val 0 rfl (show _ = (0 : Int) by decide +kernel)
      refine ⟨_, rfl, ⟨(U.bk 1 rfl), (U.bk 4 rfl), (U.bk 3 rfl), (U.bk 2 rfl)⟩, ?_⟩
      refine gz_ready [10, 11] ?_
      refine zaa 10 10 [.slice none 0 0] 26 (pg) ?_ ?_
      · intro v14 g15 Xg15 hg15 B
        replace U := U.new Xg15 hg15 B
        clear Xg15 hg15 B
        refine ⟨⟨(U.bk 2 rfl), (U.bk 5 rfl), (U.bk 4 rfl), (U.bk 3 rfl)⟩, ?_⟩
        refine za 11 11 [.slice none 0 0] 26 (pg) ?_
        intro v16 g17 Xg17 hg17 B
        replace U := U.new Xg17 hg17 B
        clear Xg17 hg17 B
        refine ⟨⟨(U.bk 3 rfl), (U.bk 6 rfl), (U.bk 5 rfl), (U.bk 4 rfl)⟩, ?_⟩
        refine zs 12 (U.bk 1 rfl) 0 (.agg #[.slice a5 n5 c5]) [.slice a5 n5 c5] [.slice a5 n5 c5] ?_
        intro v18 Y C
        replace U := U.put 1 rfl C Y (by decide)
        clear Y C
        refine ⟨⟨(U.bk 3 rfl), (U.bk 6 rfl), (U.bk 5 rfl), (U.bk 4 rfl)⟩, ?_⟩
        refine zs 13 (U.bk 0 rfl) 0 (.agg #[.slice ar11 nr11 cr11]) [.slice ar11 nr11 cr11] [.slice ar11 nr11 cr11] ?_
        intro v19 Y C
        replace U := U.put 0 rfl C Y (by decide)
        clear Y C
        refine ⟨⟨(U.bk 3 rfl), (U.bk 6 rfl), (U.bk 5 rfl), (U.bk 4 rfl)⟩, ?_⟩
        refine z 14 12 (.int .u64 1) ?_
        refine gz_done ?_
        exact ge_join (⟨g17, g15, ar11, nr11, cr11, zr11, _, _, _⟩ : JfClaim1) ⟨U.sel [0, 1, 2, 3, 4, 5, 6] [0, 1], ⟨by (try dsimp only); omega, by (try dsimp only); omega⟩, ⟨by (try dsimp only); omega, fr11⟩⟩ (by kernel_rfl)
      refine zaa 11 11 [.slice none 0 0] 26 (pg) ?_ ?_
      · intro v20 g21 Xg21 hg21 B
        replace U := U.new Xg21 hg21 B
        clear Xg21 hg21 B
        refine ⟨⟨(U.bk 2 rfl), (U.bk 5 rfl), (U.bk 4 rfl), (U.bk 3 rfl)⟩, ?_⟩
        refine za 10 10 [.slice none 0 0] 26 (pg) ?_
        intro v22 g23 Xg23 hg23 B
        replace U := U.new Xg23 hg23 B
        clear Xg23 hg23 B
        refine ⟨⟨(U.bk 3 rfl), (U.bk 6 rfl), (U.bk 5 rfl), (U.bk 4 rfl)⟩, ?_⟩
        refine zs 12 (U.bk 0 rfl) 0 (.agg #[.slice a5 n5 c5]) [.slice a5 n5 c5] [.slice a5 n5 c5] ?_
        intro v24 Y C
        replace U := U.put 0 rfl C Y (by decide)
        clear Y C
        refine ⟨⟨(U.bk 3 rfl), (U.bk 6 rfl), (U.bk 5 rfl), (U.bk 4 rfl)⟩, ?_⟩
        refine zs 13 (U.bk 1 rfl) 0 (.agg #[.slice ar11 nr11 cr11]) [.slice ar11 nr11 cr11] [.slice ar11 nr11 cr11] ?_
        intro v25 Y C
        replace U := U.put 1 rfl C Y (by decide)
        clear Y C
        refine ⟨⟨(U.bk 3 rfl), (U.bk 6 rfl), (U.bk 5 rfl), (U.bk 4 rfl)⟩, ?_⟩
        refine z 14 12 (.int .u64 1) ?_
        refine gz_done ?_
        exact ge_join (⟨g21, g23, ar11, nr11, cr11, zr11, _, _, _⟩ : JfClaim1) ⟨U.sel [1, 0, 2, 3, 4, 5, 6] [0, 1], ⟨by (try dsimp only); omega, by (try dsimp only); omega⟩, ⟨by (try dsimp only); omega, fr11⟩⟩ (by kernel_rfl)
      exact ga_nil
    refine zaa 10 10 [.slice none 0 0] 26 (pg) ?_ ?_
    · intro v26 g27 Xg27 hg27 B
      replace U := U.new Xg27 hg27 B
      clear Xg27 hg27 B
      refine ⟨⟨(U.bk 2 rfl), (U.bk 5 rfl), (U.bk 4 rfl), (U.bk 3 rfl)⟩, ?_⟩
      refine gz_ready [6, 11] ?_
      refine ga_call 6 (some 24) 213 #[pg g, .int .u64 16, .int .u64 0] (ratio_any U.ta.sx ⟨by decide, by decide⟩ (by omega) (by omega)) ?_ ?_
      · rintro _ v30 ⟨ar28, nr28, cr28, rfl, zr28, K29, S, hK, hC, Q, mr28, h⟩
        have fr28 := ne3 h U.ta.size
        have L := U.lt
        replace U := (U.op S hK hC).add L Q h
        clear L S hK hC Q h
        replace U := U.val 0 rfl (show _ = (0 : Int) by decide +kernel)
        refine ⟨_, rfl, ⟨(U.bk 2 rfl), (U.bk 5 rfl), (U.bk 4 rfl), (U.bk 3 rfl)⟩, ?_⟩
        refine za 11 11 [.slice none 0 0] 26 (pg) ?_
        intro v31 g32 Xg32 hg32 B
        replace U := U.new Xg32 hg32 B
        clear Xg32 hg32 B
        refine ⟨⟨(U.bk 3 rfl), (U.bk 6 rfl), (U.bk 5 rfl), (U.bk 4 rfl)⟩, ?_⟩
        refine zs 12 (U.bk 1 rfl) 0 (.agg #[.slice a5 n5 c5]) [.slice a5 n5 c5] [.slice a5 n5 c5] ?_
        intro v33 Y C
        replace U := U.put 1 rfl C Y (by decide)
        clear Y C
        refine ⟨⟨(U.bk 3 rfl), (U.bk 6 rfl), (U.bk 5 rfl), (U.bk 4 rfl)⟩, ?_⟩
        refine zs 13 (U.bk 0 rfl) 0 (.agg #[.slice ar28 nr28 cr28]) [.slice ar28 nr28 cr28] [.slice ar28 nr28 cr28] ?_
        intro v34 Y C
        replace U := U.put 0 rfl C Y (by decide)
        clear Y C
        refine ⟨⟨(U.bk 3 rfl), (U.bk 6 rfl), (U.bk 5 rfl), (U.bk 4 rfl)⟩, ?_⟩
        refine z 14 12 (.int .u64 1) ?_
        refine gz_done ?_
        exact ge_join (⟨g32, g27, ar28, nr28, cr28, zr28, _, _, _⟩ : JfClaim1) ⟨U.sel [0, 1, 2, 3, 4, 5, 6] [0, 1], ⟨by (try dsimp only); omega, by (try dsimp only); omega⟩, ⟨by (try dsimp only); omega, fr28⟩⟩ (by kernel_rfl)
      refine zaa 11 11 [.slice none 0 0] 26 (pg) ?_ ?_
      · intro v35 g36 Xg36 hg36 B
        replace U := U.new Xg36 hg36 B
        clear Xg36 hg36 B
        refine ⟨⟨(U.bk 3 rfl), (U.bk 6 rfl), (U.bk 5 rfl), (U.bk 4 rfl)⟩, ?_⟩
        refine zc 6 24 213 #[pg g, .int .u64 16, .int .u64 0] (ratio_any U.ta.sx ⟨by decide, by decide⟩ (by omega) (by omega)) ?_
        rintro _ v39 ⟨ar37, nr37, cr37, rfl, zr37, K38, S, hK, hC, Q, mr37, h⟩
        have fr37 := ne3 h U.ta.size
        have L := U.lt
        replace U := (U.op S hK hC).add L Q h
        clear L S hK hC Q h
        replace U := U.val 0 rfl (show _ = (0 : Int) by decide +kernel)
        refine ⟨_, rfl, ⟨(U.bk 3 rfl), (U.bk 6 rfl), (U.bk 5 rfl), (U.bk 4 rfl)⟩, ?_⟩
        refine zs 12 (U.bk 1 rfl) 0 (.agg #[.slice a5 n5 c5]) [.slice a5 n5 c5] [.slice a5 n5 c5] ?_
        intro v40 Y C
        replace U := U.put 1 rfl C Y (by decide)
        clear Y C
        refine ⟨⟨(U.bk 3 rfl), (U.bk 6 rfl), (U.bk 5 rfl), (U.bk 4 rfl)⟩, ?_⟩
        refine zs 13 (U.bk 0 rfl) 0 (.agg #[.slice ar37 nr37 cr37]) [.slice ar37 nr37 cr37] [.slice ar37 nr37 cr37] ?_
        intro v41 Y C
        replace U := U.put 0 rfl C Y (by decide)
        clear Y C
        refine ⟨⟨(U.bk 3 rfl), (U.bk 6 rfl), (U.bk 5 rfl), (U.bk 4 rfl)⟩, ?_⟩
        refine z 14 12 (.int .u64 1) ?_
        refine gz_done ?_
        exact ge_join (⟨g36, g27, ar37, nr37, cr37, zr37, _, _, _⟩ : JfClaim1) ⟨U.sel [0, 1, 2, 3, 4, 5, 6] [0, 1], ⟨by (try dsimp only); omega, by (try dsimp only); omega⟩, ⟨by (try dsimp only); omega, fr37⟩⟩ (by kernel_rfl)
      exact ga_nil
    refine zaa 11 11 [.slice none 0 0] 26 (pg) ?_ ?_
    · intro v42 g43 Xg43 hg43 B
      replace U := U.new Xg43 hg43 B
      clear Xg43 hg43 B
      refine ⟨⟨(U.bk 2 rfl), (U.bk 5 rfl), (U.bk 4 rfl), (U.bk 3 rfl)⟩, ?_⟩
      refine gz_ready [6, 10] ?_
      refine ga_call 6 (some 24) 213 #[pg g, .int .u64 16, .int .u64 0] (ratio_any U.ta.sx ⟨by decide, by decide⟩ (by omega) (by omega)) ?_ ?_
      · rintro _ v46 ⟨ar44, nr44, cr44, rfl, zr44, K45, S, hK, hC, Q, mr44, h⟩
        have fr44 := ne3 h U.ta.size
        have L := U.lt
        replace U := (U.op S hK hC).add L Q h
        clear L S hK hC Q h
        replace U := U.val 0 rfl (show _ = (0 : Int) by decide +kernel)
        refine ⟨_, rfl, ⟨(U.bk 2 rfl), (U.bk 5 rfl), (U.bk 4 rfl), (U.bk 3 rfl)⟩, ?_⟩
        refine za 10 10 [.slice none 0 0] 26 (pg) ?_
        intro v47 g48 Xg48 hg48 B
        replace U := U.new Xg48 hg48 B
        clear Xg48 hg48 B
        refine ⟨⟨(U.bk 3 rfl), (U.bk 6 rfl), (U.bk 5 rfl), (U.bk 4 rfl)⟩, ?_⟩
        refine zs 12 (U.bk 0 rfl) 0 (.agg #[.slice a5 n5 c5]) [.slice a5 n5 c5] [.slice a5 n5 c5] ?_
        intro v49 Y C
        replace U := U.put 0 rfl C Y (by decide)
        clear Y C
        refine ⟨⟨(U.bk 3 rfl), (U.bk 6 rfl), (U.bk 5 rfl), (U.bk 4 rfl)⟩, ?_⟩
        refine zs 13 (U.bk 1 rfl) 0 (.agg #[.slice ar44 nr44 cr44]) [.slice ar44 nr44 cr44] [.slice ar44 nr44 cr44] ?_
        intro v50 Y C
        replace U := U.put 1 rfl C Y (by decide)
        clear Y C
        refine ⟨⟨(U.bk 3 rfl), (U.bk 6 rfl), (U.bk 5 rfl), (U.bk 4 rfl)⟩, ?_⟩
        refine z 14 12 (.int .u64 1) ?_
        refine gz_done ?_
        exact ge_join (⟨g43, g48, ar44, nr44, cr44, zr44, _, _, _⟩ : JfClaim1) ⟨U.sel [1, 0, 2, 3, 4, 5, 6] [0, 1], ⟨by (try dsimp only); omega, by (try dsimp only); omega⟩, ⟨by (try dsimp only); omega, fr44⟩⟩ (by kernel_rfl)
      refine zaa 10 10 [.slice none 0 0] 26 (pg) ?_ ?_
      · intro v51 g52 Xg52 hg52 B
        replace U := U.new Xg52 hg52 B
        clear Xg52 hg52 B
        refine ⟨⟨(U.bk 3 rfl), (U.bk 6 rfl), (U.bk 5 rfl), (U.bk 4 rfl)⟩, ?_⟩
        refine zc 6 24 213 #[pg g, .int .u64 16, .int .u64 0] (ratio_any U.ta.sx ⟨by decide, by decide⟩ (by omega) (by omega)) ?_
        rintro _ v55 ⟨ar53, nr53, cr53, rfl, zr53, K54, S, hK, hC, Q, mr53, h⟩
        have fr53 := ne3 h U.ta.size
        have L := U.lt
        replace U := (U.op S hK hC).add L Q h
        clear L S hK hC Q h
        replace U := U.val 0 rfl (show _ = (0 : Int) by decide +kernel)
        refine ⟨_, rfl, ⟨(U.bk 3 rfl), (U.bk 6 rfl), (U.bk 5 rfl), (U.bk 4 rfl)⟩, ?_⟩
        refine zs 12 (U.bk 0 rfl) 0 (.agg #[.slice a5 n5 c5]) [.slice a5 n5 c5] [.slice a5 n5 c5] ?_
        intro v56 Y C
        replace U := U.put 0 rfl C Y (by decide)
        clear Y C
        refine ⟨⟨(U.bk 3 rfl), (U.bk 6 rfl), (U.bk 5 rfl), (U.bk 4 rfl)⟩, ?_⟩
        refine zs 13 (U.bk 1 rfl) 0 (.agg #[.slice ar53 nr53 cr53]) [.slice ar53 nr53 cr53] [.slice ar53 nr53 cr53] ?_
        intro v57 Y C
        replace U := U.put 1 rfl C Y (by decide)
        clear Y C
        refine ⟨⟨(U.bk 3 rfl), (U.bk 6 rfl), (U.bk 5 rfl), (U.bk 4 rfl)⟩, ?_⟩
        refine z 14 12 (.int .u64 1) ?_
        refine gz_done ?_
        exact ge_join (⟨g43, g52, ar53, nr53, cr53, zr53, _, _, _⟩ : JfClaim1) ⟨U.sel [1, 0, 2, 3, 4, 5, 6] [0, 1], ⟨by (try dsimp only); omega, by (try dsimp only); omega⟩, ⟨by (try dsimp only); omega, fr53⟩⟩ (by kernel_rfl)
      exact ga_nil
    exact ga_nil
  clear U
  rintro ⟨j59_b0, j59_b1, j59_a0, j59_k0, j59_c0, j59_z0, j59_K, j59_n, j59_N⟩ v58 ⟨U, ⟨j59_hn, j59_hN⟩, ⟨mj59_0, fj59_0⟩⟩
  dsimp only at *
  refine gc_seq ?_
  refine gc_reg ?_
  refine ta 13 [.slice none 0 0] 26 (pg) ?_
  intro v60 g61 Xg61 hg61 B
  replace U := U.new Xg61 hg61 B
  clear Xg61 hg61 B
  refine gl_nil ?_
  refine ge_then ?_
  refine gc_seq ?_
  refine gc_reg ?_
  refine t 28 (.func (.func 216) #[] #[pg g2, pg g4, pg g61, pg j59_b1, pg j59_b0]) ?_
  refine ta 14 [.nilFunc] 171 (pg) ?_
  intro v62 g63 Xg63 hg63 B
  replace U := U.new Xg63 hg63 B
  clear Xg63 hg63 B
  refine ts (U.bk 0 rfl) 0 (.func (.func 216) #[] #[pg g2, pg g4, pg g61, pg j59_b1, pg j59_b0]) [.func (.func 216) #[] #[pg g2, pg g4, pg g61, pg j59_b1, pg j59_b0]] [.func (.func 216) #[] #[pg g2, pg g4, pg g61, pg j59_b1, pg j59_b0]] ?_
  intro v64 Y C
  replace U := U.put 0 rfl C Y (by decide)
  clear Y C
  refine gl_nil ?_
  refine ge_then ?_
  refine gc_seq ?_
  refine gc_reg ?_
  refine ta 15 [.int .i64 0] 3 (pg) ?_
  intro v65 g66 Xg66 hg66 B
  replace U := U.new Xg66 hg66 B
  clear Xg66 hg66 B
  refine ts (U.bk 0 rfl) 0 (.int .i64 0) [.int .i64 0] [.int .i64 0] ?_
  intro v67 Y C
  replace U := U.put 0 rfl C Y (by decide)
  clear Y C
  refine gl_nil ?_
  refine ge_then ?_
  refine gc_seq ?_
  refine gc_seq ?_
  refine gc_reg ?_
  refine tl 29 (pg g) (U.bk 9 rfl) 0 ?_
  refine tl 30 (.int .u64 16) (U.bk 8 rfl) 0 ?_
  refine t 31 (pq g8 1) ?_
  refine tl 32 (.int .u64 0) (U.bk 6 rfl) 1 ?_
  refine t 33 (.int .u64 1) ?_
  refine tc 34 217 #[pg g, .int .u64 16, .int .u64 0, .int .u64 1] (cuts_l U.ta.sx (by omega) (by omega)) ?_
  rintro _ v68 ⟨gf, lb, rfl, M, B⟩
  refine ⟨_, rfl, ?_⟩
  replace U := U.keep B
  clear B
  refine gl_nil ?_
  refine ge_then ?_
  refine gc_block ?_
  have hw0 := U.ta.size
  refine gc_mt M (U.ta.sx.sa.lt U.ta.sx.sa.top) ?_
  intro D v69 hD kD S C
  clear M
  replace U := uy_of (C := v68.heap.size) (U.op S (fun _ h => .inl h) (C.mono (fun b _ (e : b = g) => e ▸ U.ta.sx.sa.top)))
  clear S C
  refine ge_bn ?_
  refine ge_then ?_
  refine gc_seq ?_
  refine gc_reg ?_
  refine tl 45 (.func (.func 216) #[] #[pg g2, pg g4, pg g61, pg j59_b1, pg j59_b0]) (U.bk 1 rfl) 0 ?_
  refine t 46 (.int .u64 1) ?_
  refine tc 47 216 #[.int .u64 1, pg g2, pg g4, pg g61, pg j59_b1, pg j59_b0] (earn_l (U.u.sel [2, 4, 3, 9, 8, 0, 1, 5, 6, 7] [1, 0]) (by omega) (by omega) (by omega) (by omega)) ?_
  rintro _ v75 ⟨aq70, nq70, cq70, zq70, aq71, nq71, cq71, zq71, K72, n73, N74, rfl, qn73, qN74, UU, kk, mq70, fq70, mq71, fq71⟩
  refine ⟨_, rfl, ?_⟩
  have U2 := Uy.mk UU (U.k.trans (kk.mono (Nat.zero_le _)))
  clear U UU kk
  have U := U2
  clear U2
  refine gl_nil ?_
  refine ge_then ?_
  refine gc_fr [(8, pg g10), (9, .int .i64 0), (13, pg g61), (15, pg g66)] (by kernel_rfl) ?_
  refine gc_seq ?_
  replace U := U.drew
  refine gc_draw (fun w' => Blk w' g61 [.slice aq70 nq70 cq70] 26 ∧ Blk w' g66 [.int .i64 0] 3) (fun _ => false) ⟨(U.bk 0 rfl), (U.bk 5 rfl)⟩ ?_
  refine zlr 0 48 [.slice aq70 nq70 cq70] (fun _ h => h.1) 0 ?_
  refine zl 1 49 (.int .i64 0) (fun _ h => h.2) 0 ?_
  refine zs 2 (U.bk 7 rfl) 0 (.agg #[.slice aq70 nq70 cq70]) [.slice aq70 nq70 cq70] [.slice aq70 nq70 cq70] ?_
  intro v76 Y C
  replace U := U.put 7 rfl C Y (by decide)
  clear Y C
  refine ⟨⟨(U.bk 0 rfl), (U.bk 5 rfl)⟩, ?_⟩
  refine z 3 9 (.int .i64 0) ?_
  refine gz_done ?_
  refine ge_then ?_
  refine gc_ret ?_
  have DF := dfs1 U.k kD hD (show w.heap.size ≤ D by omega)
  refine ge_retD (b := w.heap.size) (v := .tuple #[.agg #[.slice aq70 nq70 cq70], .int .i64 0]) [D] DF (rctM 8 9 (T := 26) (U.bk 7 rfl) (fun _ h => lr (vs := [.slice aq70 nq70 cq70]) h 0) (by kernel_rfl) (by kernel_rfl) (by kernel_rfl)) ?_
  intro Vz Rz
  have hwz := U.ta.size
  replace U := U.u.rcd Rz (Nat.le_refl _)
  exact ⟨_, _, _, _, _, _, _, rfl, U.ta.sx, by omega, by omega, U.ta.km, U.ta.cc, (U.nq 0 rfl), by omega, fq70⟩
theorem settle_l {B : Nat} {w : World} {K : Nat → Prop} {g : Nat} {n N : Nat} {a0 : Option Addr} {n0 c0 z0 : Nat} {a1 : Option Addr} {n1 c1 z1 : Nat} {a2 : Option Addr} {n2 c2 z2 : Nat} {a3 : Option Addr} {n3 c3 z3 : Nat} (h : Sx B w K g e16 [] n N) (Q0 : Nk w K z0 a0 n0 c0 1000000000000000000000000000000000000) (m0 : n0 ≤ 2000) (Q1 : Nk w K z1 a1 n1 c1 32666666666666666666666666666666666666) (m1 : n1 ≤ 2000) (Q2 : Nk w K z2 a2 n2 c2 32666666666666666666666666666666666666) (m2 : n2 ≤ 2000) (Q3 : Nk w K z3 a3 n3 c3 0) (m3 : n3 ≤ 2000) (hn : n ≤ 90000) (hN : N ≤ 90000) : Calls Tryz.prog 80 #[pg g, .int .u64 16, .agg #[.int .u64 0, .int .u64 1, .slice a0 n0 c0, .bool false, .int .u64 0, .bool false, .int .u64 1, .slice a1 n1 c1, .slice a2 n2 c2, .slice a3 n3 c3], .int .u64 20] w (fun e w' => ∃ b0 k0 d0 y0 b1 k1 d1 y1 b2 k2 d2 y2 b3 k3 d3 y3 K' n' N', e = .returned (.tuple #[.agg #[.int .u64 0, .int .u64 1, .slice b0 k0 d0, .bool false, .int .u64 0, .bool false, .int .u64 2, .slice none 0 0, .slice b1 k1 d1, .slice b2 k2 d2], .agg #[.int .u64 16, .int .u64 20, .int .u64 32, .slice b3 k3 d3, .slice none 0 0, .slice none 0 0, .int .u64 0]]) ∧ Sx B w' K' g e21 [] n' N' ∧ n' ≤ n + 700 ∧ N' ≤ N + 700 ∧ (∀ b, K' b → K b ∨ w.heap.size ≤ b) ∧ Chg K w w' ∧ Nq w' K' y0 b0 k0 d0 1000000000000000000000000000000000000 ∧ k0 ≤ 20000 ∧ (k0 = 0 ∨ w.heap.size ≤ y0) ∧ Nq w' K' y1 b1 k1 d1 0 ∧ k1 ≤ 20000 ∧ (k1 = 0 ∨ w.heap.size ≤ y1) ∧ Nq w' K' y2 b2 k2 d2 0 ∧ k2 ≤ 20000 ∧ (k2 = 0 ∨ w.heap.size ≤ y2) ∧ Nq w' K' y3 b3 k3 d3 666666666666666666666666666666666666 ∧ k3 ≤ 20000 ∧ (k3 = 0 ∨ w.heap.size ≤ y3)) := by
  have U := ut_of h
  refine gc_enter (n := 80) Tryz.func80 rfl (by kernel_rfl) (by kernel_rfl) ?_
  refine gc_seq ?_
  refine gc_reg ?_
  refine ta 6 [.int .u64 0, .int .u64 1, .slice a0 n0 c0, .bool false, .int .u64 0, .bool false, .int .u64 1, .slice a1 n1 c1, .slice a2 n2 c2, .slice a3 n3 c3] 28 (pg) ?_
  intro v1 g2 Xg2 hg2 B
  replace U := U.new Xg2 hg2 B
  clear Xg2 hg2 B
  refine ta 8 [.int .u64 0, .int .u64 0, .slice none 0 0, .bool false, .int .u64 0, .bool false, .int .u64 0, .slice none 0 0, .slice none 0 0, .slice none 0 0] 28 (pg) ?_
  intro v3 g4 Xg4 hg4 B
  replace U := U.new Xg4 hg4 B
  clear Xg4 hg4 B
  refine ta 9 [.int .u64 0, .int .u64 0, .int .u64 0, .slice none 0 0, .slice none 0 0, .slice none 0 0, .int .u64 0] 63 (pg) ?_
  intro v5 g6 Xg6 hg6 B
  replace U := U.new Xg6 hg6 B
  clear Xg6 hg6 B
  refine gl_nil ?_
  refine ge_then ?_
  refine gc_seq ?_
  refine gc_reg ?_
  refine t 16 (.int .u64 16) ?_
  refine t 17 (.int .u64 20) ?_
  refine t 18 (.agg #[.int .u64 16, .int .u64 20, .int .u64 0, .slice none 0 0, .slice none 0 0, .slice none 0 0, .int .u64 0]) ?_
  refine ta 10 [.int .u64 0, .int .u64 0, .int .u64 0, .slice none 0 0, .slice none 0 0, .slice none 0 0, .int .u64 0] 63 (pg) ?_
  intro v7 g8 Xg8 hg8 B
  replace U := U.new Xg8 hg8 B
  clear Xg8 hg8 B
  refine ts (U.bk 0 rfl) 0 (.agg #[.int .u64 16, .int .u64 20, .int .u64 0, .slice none 0 0, .slice none 0 0, .slice none 0 0, .int .u64 0]) [.int .u64 16, .int .u64 20, .int .u64 0, .slice none 0 0, .slice none 0 0, .slice none 0 0, .int .u64 0] [.int .u64 16, .int .u64 20, .int .u64 0, .slice none 0 0, .slice none 0 0, .slice none 0 0, .int .u64 0] ?_
  intro v9 Y C
  replace U := U.put 0 rfl C Y (by decide)
  clear Y C
  refine gl_nil ?_
  refine ge_then ?_
  refine gc_seq ?_
  refine gc_reg ?_
  refine t 20 (pg g) ?_
  refine t 21 (.int .u64 16) ?_
  refine t 22 (.int .u64 20) ?_
  refine tc 23 79 #[pg g, .int .u64 16, .int .u64 20] (gDel (th := true) (er := 0) (x0 := 1000000000000000000000000000000000000) (dp := 0) (x1 := 1000000000000000000000000000000000000) U.ta.sx ⟨by decide, by decide⟩ (by decide +kernel) rfl (by omega) (by omega)) ?_
  rintro _ v15 ⟨aq10, nq10, cq10, zq10, aq11, nq11, cq11, zq11, K12, n13, N14, rfl, S, qn13, qN14, hK, hC, Q0, mq10, h0, Q1, mq11, h1⟩
  refine ⟨_, rfl, ?_⟩
  have fq10 := ne3 h0 U.ta.size
  have fq11 := ne3 h1 U.ta.size
  have L := U.lt
  replace U := ((U.op S hK hC).add L Q0 h0).add L Q1 h1
  clear L S hK hC Q0 h0 Q1 h1
  refine t 19 (.tuple #[.agg #[.slice aq10 nq10 cq10, .int .u64 0, .slice aq11 nq11 cq11], .bool true]) ?_
  refine t 24 (.agg #[.slice aq10 nq10 cq10, .int .u64 0, .slice aq11 nq11 cq11]) ?_
  refine t 25 (.bool true) ?_
  refine ta 11 [.slice none 0 0, .int .u64 0, .slice none 0 0] 55 (pg) ?_
  intro v16 g17 Xg17 hg17 B
  replace U := U.new Xg17 hg17 B
  clear Xg17 hg17 B
  refine ts (U.bk 0 rfl) 0 (.agg #[.slice aq10 nq10 cq10, .int .u64 0, .slice aq11 nq11 cq11]) [.slice aq10 nq10 cq10, .int .u64 0, .slice aq11 nq11 cq11] [.slice aq10 nq10 cq10, .int .u64 0, .slice aq11 nq11 cq11] ?_
  intro v18 Y C
  replace U := U.put 0 rfl C Y (by decide)
  clear Y C
  refine t 12 (.bool true) ?_
  refine gl_nil ?_
  refine ge_then ?_
  refine gc_fr [(0, pg g), (1, .int .u64 16), (3, .int .u64 20), (6, pg g2), (8, pg g4), (9, pg g6), (10, pg g8), (11, pg g17), (12, .bool true)] (by kernel_rfl) ?_
  refine gc_seq ?_
  refine gc_seq ?_
  refine gc_reg ?_
  refine t 26 (.bool true) ?_
  refine t 27 (.bool false) ?_
  refine gl_nil ?_
  refine ge_then ?_
  refine gc_no ?_
  refine gc_skip ?_
  refine ge_then ?_
  refine gc_seq ?_
  refine gc_reg ?_
  refine t 32 (pg g) ?_
  refine t 33 (.int .u64 16) ?_
  refine tlr 34 [.int .u64 0, .int .u64 1, .slice a0 n0 c0, .bool false, .int .u64 0, .bool false, .int .u64 1, .slice a1 n1 c1, .slice a2 n2 c2, .slice a3 n3 c3] (U.bk 4 rfl) 0 ?_
  refine tc 35 145 #[pg g, .int .u64 16, .agg #[.int .u64 0, .int .u64 1, .slice a0 n0 c0, .bool false, .int .u64 0, .bool false, .int .u64 1, .slice a1 n1 c1, .slice a2 n2 c2, .slice a3 n3 c3]] (ClE.cast (E' := e17) (pq := 2) (close_any U.ta.sx ⟨by decide, by decide⟩ ⟨by decide, by decide⟩ (Q0.op U.ta.km U.ta.cc) (by omega) (Q1.op U.ta.km U.ta.cc) (by omega) (Q2.op U.ta.km U.ta.cc) (by omega) (Q3.op U.ta.km U.ta.cc) (by omega) (by omega) (by omega)) (by decide) rfl) ?_
  rintro _ v26 ⟨aq19, nq19, cq19, zq19, aq20, nq20, cq20, zq20, aq21, nq21, cq21, zq21, aq22, nq22, cq22, zq22, K23, n24, N25, rfl, S, qn24, qN25, hK, hC, Q0, mq19, h0, Q1, mq20, h1, Q2, mq21, h2, Q3, mq22, h3⟩
  refine ⟨_, rfl, ?_⟩
  have fq19 := ne3 h0 U.ta.size
  have fq20 := ne3 h1 U.ta.size
  have fq21 := ne3 h2 U.ta.size
  have fq22 := ne3 h3 U.ta.size
  have L := U.lt
  replace U := ((((U.op S hK hC).add L Q0 h0).add L Q1 h1).add L Q2 h2).add L Q3 h3
  clear L S hK hC Q0 h0 Q1 h1 Q2 h2 Q3 h3
  replace U := U.val 3 rfl (show _ = (1000000000000000000000000000000000000 : Int) by decide +kernel)
  replace U := U.val 2 rfl (show _ = (0 : Int) by decide +kernel)
  replace U := U.val 1 rfl (show _ = (32666666666666666666666666666666666666 : Int) by decide +kernel)
  replace U := U.val 0 rfl (show _ = (0 : Int) by decide +kernel)
  refine t 31 (.tuple #[.agg #[.int .u64 0, .int .u64 1, .slice aq19 nq19 cq19, .bool false, .int .u64 0, .bool false, .int .u64 2, .slice none 0 0, .slice aq21 nq21 cq21, .slice aq22 nq22 cq22], .agg #[.slice aq20 nq20 cq20]]) ?_
  refine t 36 (.agg #[.int .u64 0, .int .u64 1, .slice aq19 nq19 cq19, .bool false, .int .u64 0, .bool false, .int .u64 2, .slice none 0 0, .slice aq21 nq21 cq21, .slice aq22 nq22 cq22]) ?_
  refine t 37 (.agg #[.slice aq20 nq20 cq20]) ?_
  refine ta 13 [.slice none 0 0] 26 (pg) ?_
  intro v27 g28 Xg28 hg28 B
  replace U := U.new Xg28 hg28 B
  clear Xg28 hg28 B
  refine ts (U.bk 5 rfl) 0 (.agg #[.int .u64 0, .int .u64 1, .slice aq19 nq19 cq19, .bool false, .int .u64 0, .bool false, .int .u64 2, .slice none 0 0, .slice aq21 nq21 cq21, .slice aq22 nq22 cq22]) [.int .u64 0, .int .u64 1, .slice aq19 nq19 cq19, .bool false, .int .u64 0, .bool false, .int .u64 2, .slice none 0 0, .slice aq21 nq21 cq21, .slice aq22 nq22 cq22] [.int .u64 0, .int .u64 1, .slice aq19 nq19 cq19, .bool false, .int .u64 0, .bool false, .int .u64 2, .slice none 0 0, .slice aq21 nq21 cq21, .slice aq22 nq22 cq22] ?_
  intro v29 Y C
  replace U := U.put 5 rfl C Y (by decide)
  clear Y C
  refine ts (U.bk 0 rfl) 0 (.agg #[.slice aq20 nq20 cq20]) [.slice aq20 nq20 cq20] [.slice aq20 nq20 cq20] ?_
  intro v30 Y C
  replace U := U.put 0 rfl C Y (by decide)
  clear Y C
  refine gl_nil ?_
  refine ge_then ?_
  refine gc_seq ?_
  refine gc_reg ?_
  refine t 38 (pg g) ?_
  refine tlr 39 [.slice aq20 nq20 cq20] (U.bk 0 rfl) 0 ?_
  refine tc 40 69 #[pg g, .agg #[.slice aq20 nq20 cq20]] (SxF.castE (pour_any (p := 2000000000000000000000000000000000001) (er := 0) U.ta.sx (U.nq 2 rfl).nk (by omega) (by decide +kernel) (by omega) (by omega)) (show plE e17 (2000000000000000000000000000000000001 + 0) = e18 from rfl)) ?_
  rintro _ v35 ⟨rfl, K31, n32, N33, S, qn32, qN33, hK, hC⟩
  refine ⟨_, rfl, ?_⟩
  replace U := U.op S hK hC
  clear S hK hC
  refine gl_nil ?_
  refine ge_then ?_
  refine gc_fr [(0, pg g), (1, .int .u64 16), (3, .int .u64 20), (6, pg g2), (8, pg g4), (9, pg g6), (10, pg g8), (11, pg g17)] (by kernel_rfl) ?_
  refine gc_seq ?_
  refine gc_reg ?_
  refine t 42 (pg g) ?_
  refine t 43 (.int .u64 16) ?_
  refine tlr 44 [.int .u64 0, .int .u64 1, .slice aq19 nq19 cq19, .bool false, .int .u64 0, .bool false, .int .u64 2, .slice none 0 0, .slice aq21 nq21 cq21, .slice aq22 nq22 cq22] (U.bk 5 rfl) 0 ?_
  refine tlr 45 [.slice aq10 nq10 cq10, .int .u64 0, .slice aq11 nq11 cq11] (U.bk 1 rfl) 0 ?_
  refine tc 46 146 #[pg g, .int .u64 16, .agg #[.int .u64 0, .int .u64 1, .slice aq19 nq19 cq19, .bool false, .int .u64 0, .bool false, .int .u64 2, .slice none 0 0, .slice aq21 nq21 cq21, .slice aq22 nq22 cq22], .agg #[.slice aq10 nq10 cq10, .int .u64 0, .slice aq11 nq11 cq11]] (claim_l U.ta.sx (U.nq 4 rfl) (by omega) (by omega) (by omega)) ?_
  rintro _ v40 ⟨aq36, nq36, cq36, zq36, K37, n38, N39, rfl, S, qn38, qN39, hK, hC, Q0, mq36, h0⟩
  refine ⟨_, rfl, ?_⟩
  have fq36 := ne3 h0 U.ta.size
  have L := U.lt
  replace U := (U.op S hK hC).add L Q0 h0
  clear L S hK hC Q0 h0
  refine t 41 (.tuple #[.agg #[.slice aq36 nq36 cq36], .int .i64 0]) ?_
  refine t 47 (.agg #[.slice aq36 nq36 cq36]) ?_
  refine t 48 (.int .i64 0) ?_
  refine ta 14 [.slice none 0 0] 26 (pg) ?_
  intro v41 g42 Xg42 hg42 B
  replace U := U.new Xg42 hg42 B
  clear Xg42 hg42 B
  refine ts (U.bk 0 rfl) 0 (.agg #[.slice aq36 nq36 cq36]) [.slice aq36 nq36 cq36] [.slice aq36 nq36 cq36] ?_
  intro v43 Y C
  replace U := U.put 0 rfl C Y (by decide)
  clear Y C
  refine t 15 (.int .i64 0) ?_
  refine gl_nil ?_
  refine ge_then ?_
  refine gc_seq ?_
  refine gc_reg ?_
  refine t 49 (pg g) ?_
  refine t 50 (.int .u64 16) ?_
  refine tlr 51 [.slice aq10 nq10 cq10, .int .u64 0, .slice aq11 nq11 cq11] (U.bk 2 rfl) 0 ?_
  refine tc 52 147 #[pg g, .int .u64 16, .agg #[.slice aq10 nq10 cq10, .int .u64 0, .slice aq11 nq11 cq11]] (SxF.castE (free_any U.ta.sx ⟨by decide, by decide⟩ (U.nq 6 rfl).nk (by omega) (U.nq 5 rfl).nk (by omega) (by omega) (by omega)) (show _ = e19 from rfl)) ?_
  rintro _ v48 ⟨rfl, K44, n45, N46, S, qn45, qN46, hK, hC⟩
  refine ⟨_, rfl, ?_⟩
  replace U := U.op S hK hC
  clear S hK hC
  refine gl_nil ?_
  refine ge_then ?_
  refine gc_fr [(0, pg g), (3, .int .u64 20), (6, pg g2), (8, pg g4), (9, pg g6), (10, pg g8), (14, pg g42)] (by kernel_rfl) ?_
  refine gc_seq ?_
  replace U := U.drew
  refine gc_draw (fun w' => Blk w' g42 [.slice aq36 nq36 cq36] 26 ∧ Blk w' g2 [.int .u64 0, .int .u64 1, .slice aq19 nq19 cq19, .bool false, .int .u64 0, .bool false, .int .u64 2, .slice none 0 0, .slice aq21 nq21 cq21, .slice aq22 nq22 cq22] 28) (fun _ => false) ⟨(U.bk 0 rfl), (U.bk 6 rfl)⟩ ?_
  refine z 0 54 (pg g) ?_
  refine z 1 55 (.int .u64 20) ?_
  refine zlr 2 56 [.slice aq36 nq36 cq36] (fun _ h => h.1) 0 ?_
  refine z 3 57 (pq g2 8) ?_
  refine zlr 4 58 [.slice aq21 nq21 cq21] (fun _ h => h.2) 8 ?_
  refine z 5 59 (pq g2 9) ?_
  refine zlr 6 60 [.slice aq22 nq22 cq22] (fun _ h => h.2) 9 ?_
  refine zc 7 61 35 #[.agg #[.slice aq21 nq21 cq21], .agg #[.slice aq22 nq22 cq22]] (dLess (U.nq 2 rfl).nat (by omega) (U.nq 1 rfl).nat (by omega)) ?_
  rintro _ v50 ⟨aq49, nq49, cq49, zq49, rfl, M, h, mq49, B⟩
  have fq49 := ne3 h U.ta.size
  replace U := U.num M h B
  clear M h B
  replace U := U.val 0 rfl (show _ = (32666666666666666666666666666666666666 : Int) by decide +kernel)
  refine ⟨_, rfl, ⟨(U.bk 0 rfl), (U.bk 6 rfl)⟩, ?_⟩
  refine zc 8 62 149 #[.agg #[.slice aq36 nq36 cq36], .agg #[.slice aq49 nq49 cq49]] (dLeast (U.nq 1 rfl).nat (by omega) (U.nq 0 rfl).nat (by omega) (by decide)) ?_
  rintro _ v51 ⟨rfl, B⟩
  replace U := U.keep B
  clear B
  refine ⟨_, rfl, ⟨(U.bk 0 rfl), (U.bk 6 rfl)⟩, ?_⟩
  refine zc 9 63 148 #[pg g, .int .u64 20, .agg #[.slice aq36 nq36 cq36]] (pay_l U.ta.sx (U.nq 1 rfl).nk (by omega) (by omega) (by omega)) ?_
  rintro _ v56 ⟨aq52, nq52, cq52, zq52, K53, n54, N55, rfl, S, qn54, qN55, hK, hC, Q0, mq52, h0⟩
  have fq52 := ne3 h0 U.ta.size
  have L := U.lt
  replace U := (U.op S hK hC).add L Q0 h0
  clear L S hK hC Q0 h0
  refine ⟨_, rfl, ⟨(U.bk 0 rfl), (U.bk 6 rfl)⟩, ?_⟩
  refine z 10 53 (.tuple #[.int .u64 32, .agg #[.slice aq52 nq52 cq52]]) ?_
  refine z 11 64 (.int .u64 32) ?_
  refine z 12 65 (.agg #[.slice aq52 nq52 cq52]) ?_
  refine z 13 66 (pq g8 2) ?_
  refine zs 14 (U.bk 3 rfl) 2 (.int .u64 32) [.int .u64 32] [.int .u64 16, .int .u64 20, .int .u64 32, .slice none 0 0, .slice none 0 0, .slice none 0 0, .int .u64 0] ?_
  intro v57 Y C
  replace U := U.put 3 rfl C Y (by decide)
  clear Y C
  refine ⟨⟨(U.bk 0 rfl), (U.bk 6 rfl)⟩, ?_⟩
  refine z 15 67 (pq g8 3) ?_
  refine zs 16 (U.bk 3 rfl) 3 (.agg #[.slice aq52 nq52 cq52]) [.slice aq52 nq52 cq52] [.int .u64 16, .int .u64 20, .int .u64 32, .slice aq52 nq52 cq52, .slice none 0 0, .slice none 0 0, .int .u64 0] ?_
  intro v58 Y C
  replace U := U.put 3 rfl C Y (by decide)
  clear Y C
  refine ⟨⟨(U.bk 0 rfl), (U.bk 6 rfl)⟩, ?_⟩
  refine gz_done ?_
  refine ge_then ?_
  refine gc_fr [(6, pg g2), (8, pg g4), (9, pg g6), (10, pg g8)] (by kernel_rfl) ?_
  refine gc_seq ?_
  replace U := U.drew
  refine gc_draw (fun w' => Blk w' g2 [.int .u64 0, .int .u64 1, .slice aq19 nq19 cq19, .bool false, .int .u64 0, .bool false, .int .u64 2, .slice none 0 0, .slice aq21 nq21 cq21, .slice aq22 nq22 cq22] 28 ∧ Blk w' g8 [.int .u64 16, .int .u64 20, .int .u64 32, .slice aq52 nq52 cq52, .slice none 0 0, .slice none 0 0, .int .u64 0] 63) (fun i => decide (10 ≤ i)) ⟨(U.bk 6 rfl), (U.bk 3 rfl)⟩ ?_
  refine zp 0 68 (pq g2 8) ?_
  refine zlr 1 69 [.slice aq21 nq21 cq21] (fun _ h => h.1) 8 ?_
  refine zp 2 70 (pq g8 2) ?_
  refine zl 3 71 (.int .u64 32) (fun _ h => h.2) 2 ?_
  refine zp 5 73 (pq g8 3) ?_
  refine zlr 6 74 [.slice aq52 nq52 cq52] (fun _ h => h.2) 3 ?_
  refine zc 4 72 19 #[.int .u64 32] (eOf (y := 32) ⟨by decide, by decide⟩) ?_
  rintro _ v60 ⟨aq59, nq59, cq59, zq59, rfl, M, h, mq59, B⟩
  have fq59 := ne3 h U.ta.size
  replace U := U.num M h B
  clear M h B
  replace U := U.val 0 rfl (show _ = (32000000000000000000000000000000000000 : Int) by decide +kernel)
  refine ⟨_, rfl, ⟨(U.bk 6 rfl), (U.bk 3 rfl)⟩, ?_⟩
  refine zc 7 75 8 #[.agg #[.slice aq59 nq59 cq59], .agg #[.slice aq52 nq52 cq52]] (eAdd (U.nq 0 rfl).nat (by omega) (U.nq 1 rfl).nat (by omega)) ?_
  rintro _ v62 ⟨aq61, nq61, cq61, zq61, rfl, M, h, mq61, B⟩
  have fq61 := ne3 h U.ta.size
  replace U := U.num M h B
  clear M h B
  replace U := U.val 0 rfl (show _ = (32666666666666666666666666666666666666 : Int) by decide +kernel)
  refine ⟨_, rfl, ⟨(U.bk 6 rfl), (U.bk 3 rfl)⟩, ?_⟩
  refine zc 8 76 35 #[.agg #[.slice aq21 nq21 cq21], .agg #[.slice aq61 nq61 cq61]] (dLess (U.nq 6 rfl).nat (by omega) (U.nq 0 rfl).nat (by omega)) ?_
  rintro _ v64 ⟨aq63, nq63, cq63, zq63, rfl, M, h, mq63, B⟩
  have fq63 := ne3 h U.ta.size
  replace U := U.num M h B
  clear M h B
  replace U := U.val 0 rfl (show _ = (0 : Int) by decide +kernel)
  refine ⟨_, rfl, ⟨(U.bk 6 rfl), (U.bk 3 rfl)⟩, ?_⟩
  refine zp 9 77 (pq g2 8) ?_
  refine gz_late ?_
  refine ys 10 (U.bk 6 rfl) 8 (.agg #[.slice aq63 nq63 cq63]) [.slice aq63 nq63 cq63] [.int .u64 0, .int .u64 1, .slice aq19 nq19 cq19, .bool false, .int .u64 0, .bool false, .int .u64 2, .slice none 0 0, .slice aq63 nq63 cq63, .slice aq22 nq22 cq22] ?_
  intro v65 Y C
  replace U := U.put 6 rfl C Y (by decide)
  clear Y C
  refine gy_done ?_
  refine ge_then ?_
  refine gc_seq ?_
  replace U := U.drew
  refine gc_draw (fun w' => Blk w' g2 [.int .u64 0, .int .u64 1, .slice aq19 nq19 cq19, .bool false, .int .u64 0, .bool false, .int .u64 2, .slice none 0 0, .slice aq63 nq63 cq63, .slice aq22 nq22 cq22] 28 ∧ Blk w' g8 [.int .u64 16, .int .u64 20, .int .u64 32, .slice aq52 nq52 cq52, .slice none 0 0, .slice none 0 0, .int .u64 0] 63) (fun _ => false) ⟨(U.bk 6 rfl), (U.bk 3 rfl)⟩ ?_
  refine zlr 0 78 [.int .u64 0, .int .u64 1, .slice aq19 nq19 cq19, .bool false, .int .u64 0, .bool false, .int .u64 2, .slice none 0 0, .slice aq63 nq63 cq63, .slice aq22 nq22 cq22] (fun _ h => h.1) 0 ?_
  refine zlr 1 79 [.int .u64 16, .int .u64 20, .int .u64 32, .slice aq52 nq52 cq52, .slice none 0 0, .slice none 0 0, .int .u64 0] (fun _ h => h.2) 0 ?_
  refine zs 2 (U.bk 5 rfl) 0 (.agg #[.int .u64 0, .int .u64 1, .slice aq19 nq19 cq19, .bool false, .int .u64 0, .bool false, .int .u64 2, .slice none 0 0, .slice aq63 nq63 cq63, .slice aq22 nq22 cq22]) [.int .u64 0, .int .u64 1, .slice aq19 nq19 cq19, .bool false, .int .u64 0, .bool false, .int .u64 2, .slice none 0 0, .slice aq63 nq63 cq63, .slice aq22 nq22 cq22] [.int .u64 0, .int .u64 1, .slice aq19 nq19 cq19, .bool false, .int .u64 0, .bool false, .int .u64 2, .slice none 0 0, .slice aq63 nq63 cq63, .slice aq22 nq22 cq22] ?_
  intro v66 Y C
  replace U := U.put 5 rfl C Y (by decide)
  clear Y C
  refine ⟨⟨(U.bk 6 rfl), (U.bk 3 rfl)⟩, ?_⟩
  refine zs 3 (U.bk 4 rfl) 0 (.agg #[.int .u64 16, .int .u64 20, .int .u64 32, .slice aq52 nq52 cq52, .slice none 0 0, .slice none 0 0, .int .u64 0]) [.int .u64 16, .int .u64 20, .int .u64 32, .slice aq52 nq52 cq52, .slice none 0 0, .slice none 0 0, .int .u64 0] [.int .u64 16, .int .u64 20, .int .u64 32, .slice aq52 nq52 cq52, .slice none 0 0, .slice none 0 0, .int .u64 0] ?_
  intro v67 Y C
  replace U := U.put 4 rfl C Y (by decide)
  clear Y C
  refine ⟨⟨(U.bk 6 rfl), (U.bk 3 rfl)⟩, ?_⟩
  refine gz_done ?_
  refine ge_then ?_
  refine gc_fr [(8, pg g4), (9, pg g6)] (by kernel_rfl) ?_
  refine gc_ret ?_
  refine ge_ret (.tuple #[.agg #[.int .u64 0, .int .u64 1, .slice aq19 nq19 cq19, .bool false, .int .u64 0, .bool false, .int .u64 2, .slice none 0 0, .slice aq63 nq63 cq63, .slice aq22 nq22 cq22], .agg #[.int .u64 16, .int .u64 20, .int .u64 32, .slice aq52 nq52 cq52, .slice none 0 0, .slice none 0 0, .int .u64 0]]) (rscc 8 9 (T := 28) (T2 := 63) (by kernel_rfl) (by kernel_rfl) (by kernel_rfl) (lr (U.bk 5 rfl) 0) (lr (U.bk 4 rfl) 0)) ?_
  exact ⟨_, _, _, _, _, _, _, _, _, _, _, _, _, _, _, _, _, _, _, rfl, U.ta.sx, by omega, by omega, U.ta.km, U.ta.cc, (U.nq 9 rfl), by omega, fq19, (U.nq 0 rfl), by omega, fq63, (U.nq 6 rfl), by omega, fq22, (U.nq 3 rfl), by omega, fq52⟩
theorem with_yes {B : Nat} {w : World} {K : Nat → Prop} {g : Nat} {n N : Nat}  (h : Sx B w K g e16 [] n N)  (hn : n ≤ 80000) (hN : N ≤ 80000) : Calls Tryz.prog 28 #[pg g, .int .u64 16, .int .u64 20] w (fun e w' => ∃ b0 k0 d0 y0 b1 k1 d1 y1 b2 k2 d2 y2 K' n' N', e = .returned (.tuple #[.agg #[.int .u64 16, .int .u64 20, .int .u64 32, .slice b0 k0 d0, .slice b1 k1 d1, .slice b2 k2 d2, .int .u64 1], .int .i64 0]) ∧ Sx B w' K' g e24 [] n' N' ∧ n' ≤ n + 1000 ∧ N' ≤ N + 1000 ∧ (∀ b, K' b → K b ∨ w.heap.size ≤ b) ∧ Chg K w w' ∧ Nq w' K' y0 b0 k0 d0 666666666666666666666666666666666666 ∧ k0 ≤ 20000 ∧ (k0 = 0 ∨ w.heap.size ≤ y0) ∧ Nq w' K' y1 b1 k1 d1 1000000000000000000000000000000000000 ∧ k1 ≤ 20000 ∧ (k1 = 0 ∨ w.heap.size ≤ y1) ∧ Nq w' K' y2 b2 k2 d2 1000000000000000000000000000000000000 ∧ k2 ≤ 20000 ∧ (k2 = 0 ∨ w.heap.size ≤ y2)) := by
  have U := ut_of h
  refine gc_enter (n := 65) Tryz.func28 rfl (by kernel_rfl) (by kernel_rfl) ?_
  refine gc_seq ?_
  refine gc_reg ?_
  refine ta 6 [.int .u64 0, .int .u64 0, .int .u64 0, .slice none 0 0, .slice none 0 0, .slice none 0 0, .int .u64 0] 63 (pg) ?_
  intro v1 g2 Xg2 hg2 B
  replace U := U.new Xg2 hg2 B
  clear Xg2 hg2 B
  refine t 7 (.int .i64 0) ?_
  refine gl_nil ?_
  refine ge_then ?_
  refine gc_seq ?_
  refine gc_reg ?_
  refine t 14 (pg g) ?_
  refine t 15 (.int .u64 16) ?_
  refine tc 16 27 #[pg g, .int .u64 16] (gVal (th := true) (er := 0) (rt := 0) (tk := 1) (un := 0) (pe := 1) (jl := false) (bo := false) (x0 := 1000000000000000000000000000000000000) (x1 := 32666666666666666666666666666666666666) (x2 := 32666666666666666666666666666666666666) (x3 := 0) U.ta.sx ⟨by decide, by decide⟩ (by decide +kernel) rfl (by omega) (by omega)) ?_
  rintro _ v10 ⟨aq3, nq3, cq3, zq3, aq4, nq4, cq4, zq4, aq5, nq5, cq5, zq5, aq6, nq6, cq6, zq6, K7, n8, N9, rfl, S, qn8, qN9, hK, hC, Q0, mq3, h0, Q1, mq4, h1, Q2, mq5, h2, Q3, mq6, h3⟩
  refine ⟨_, rfl, ?_⟩
  have fq3 := ne3 h0 U.ta.size
  have fq4 := ne3 h1 U.ta.size
  have fq5 := ne3 h2 U.ta.size
  have fq6 := ne3 h3 U.ta.size
  have L := U.lt
  replace U := ((((U.op S hK hC).add L Q0 h0).add L Q1 h1).add L Q2 h2).add L Q3 h3
  clear L S hK hC Q0 h0 Q1 h1 Q2 h2 Q3 h3
  refine t 13 (.tuple #[.agg #[.int .u64 0, .int .u64 1, .slice aq3 nq3 cq3, .bool false, .int .u64 0, .bool false, .int .u64 1, .slice aq4 nq4 cq4, .slice aq5 nq5 cq5, .slice aq6 nq6 cq6], .bool true]) ?_
  refine t 17 (.agg #[.int .u64 0, .int .u64 1, .slice aq3 nq3 cq3, .bool false, .int .u64 0, .bool false, .int .u64 1, .slice aq4 nq4 cq4, .slice aq5 nq5 cq5, .slice aq6 nq6 cq6]) ?_
  refine t 18 (.bool true) ?_
  refine ta 8 [.int .u64 0, .int .u64 0, .slice none 0 0, .bool false, .int .u64 0, .bool false, .int .u64 0, .slice none 0 0, .slice none 0 0, .slice none 0 0] 28 (pg) ?_
  intro v11 g12 Xg12 hg12 B
  replace U := U.new Xg12 hg12 B
  clear Xg12 hg12 B
  refine ts (U.bk 0 rfl) 0 (.agg #[.int .u64 0, .int .u64 1, .slice aq3 nq3 cq3, .bool false, .int .u64 0, .bool false, .int .u64 1, .slice aq4 nq4 cq4, .slice aq5 nq5 cq5, .slice aq6 nq6 cq6]) [.int .u64 0, .int .u64 1, .slice aq3 nq3 cq3, .bool false, .int .u64 0, .bool false, .int .u64 1, .slice aq4 nq4 cq4, .slice aq5 nq5 cq5, .slice aq6 nq6 cq6] [.int .u64 0, .int .u64 1, .slice aq3 nq3 cq3, .bool false, .int .u64 0, .bool false, .int .u64 1, .slice aq4 nq4 cq4, .slice aq5 nq5 cq5, .slice aq6 nq6 cq6] ?_
  intro v13 Y C
  replace U := U.put 0 rfl C Y (by decide)
  clear Y C
  refine t 9 (.bool true) ?_
  refine gl_nil ?_
  refine ge_then ?_
  refine gc_fr [(0, pg g), (1, .int .u64 16), (2, .int .u64 20), (6, pg g2), (7, .int .i64 0), (8, pg g12), (9, .bool true)] (by kernel_rfl) ?_
  refine gc_seq ?_
  refine gc_reg ?_
  refine t 20 (pg g) ?_
  refine t 21 (.int .u64 16) ?_
  refine t 22 (.int .u64 20) ?_
  refine tc 23 79 #[pg g, .int .u64 16, .int .u64 20] (gDel (th := true) (er := 0) (x0 := 1000000000000000000000000000000000000) (dp := 0) (x1 := 1000000000000000000000000000000000000) U.ta.sx ⟨by decide, by decide⟩ (by decide +kernel) rfl (by omega) (by omega)) ?_
  rintro _ v19 ⟨aq14, nq14, cq14, zq14, aq15, nq15, cq15, zq15, K16, n17, N18, rfl, S, qn17, qN18, hK, hC, Q0, mq14, h0, Q1, mq15, h1⟩
  refine ⟨_, rfl, ?_⟩
  have fq14 := ne3 h0 U.ta.size
  have fq15 := ne3 h1 U.ta.size
  have L := U.lt
  replace U := ((U.op S hK hC).add L Q0 h0).add L Q1 h1
  clear L S hK hC Q0 h0 Q1 h1
  refine t 19 (.tuple #[.agg #[.slice aq14 nq14 cq14, .int .u64 0, .slice aq15 nq15 cq15], .bool true]) ?_
  refine t 24 (.agg #[.slice aq14 nq14 cq14, .int .u64 0, .slice aq15 nq15 cq15]) ?_
  refine t 25 (.bool true) ?_
  refine ta 10 [.slice none 0 0, .int .u64 0, .slice none 0 0] 55 (pg) ?_
  intro v20 g21 Xg21 hg21 B
  replace U := U.new Xg21 hg21 B
  clear Xg21 hg21 B
  refine ts (U.bk 0 rfl) 0 (.agg #[.slice aq14 nq14 cq14, .int .u64 0, .slice aq15 nq15 cq15]) [.slice aq14 nq14 cq14, .int .u64 0, .slice aq15 nq15 cq15] [.slice aq14 nq14 cq14, .int .u64 0, .slice aq15 nq15 cq15] ?_
  intro v22 Y C
  replace U := U.put 0 rfl C Y (by decide)
  clear Y C
  refine t 11 (.bool true) ?_
  refine gl_nil ?_
  refine ge_then ?_
  refine gc_seq ?_
  refine gc_seq ?_
  refine gc_reg ?_
  refine t 26 (.bool true) ?_
  refine t 27 (.bool false) ?_
  refine t 28 (.bool false) ?_
  refine t 29 (.bool true) ?_
  refine t 30 (.bool false) ?_
  refine t 31 (.bool false) ?_
  refine gl_nil ?_
  refine ge_then ?_
  refine gc_fr [(0, pg g), (1, .int .u64 16), (2, .int .u64 20), (6, pg g2), (7, .int .i64 0), (8, pg g12), (10, pg g21), (31, .bool false)] (by kernel_rfl) ?_
  refine gc_no ?_
  refine gc_skip ?_
  refine ge_then ?_
  refine gc_seq ?_
  refine gc_reg ?_
  refine t 34 (pg g) ?_
  refine t 35 (.int .u64 16) ?_
  refine tlr 36 [.int .u64 0, .int .u64 1, .slice aq3 nq3 cq3, .bool false, .int .u64 0, .bool false, .int .u64 1, .slice aq4 nq4 cq4, .slice aq5 nq5 cq5, .slice aq6 nq6 cq6] (U.bk 1 rfl) 0 ?_
  refine t 37 (.int .u64 20) ?_
  refine tc 38 80 #[pg g, .int .u64 16, .agg #[.int .u64 0, .int .u64 1, .slice aq3 nq3 cq3, .bool false, .int .u64 0, .bool false, .int .u64 1, .slice aq4 nq4 cq4, .slice aq5 nq5 cq5, .slice aq6 nq6 cq6], .int .u64 20] (settle_l U.ta.sx (U.nq 5 rfl).nk (by omega) (U.nq 4 rfl).nk (by omega) (U.nq 3 rfl).nk (by omega) (U.nq 2 rfl).nk (by omega) (by omega) (by omega)) ?_
  rintro _ v30 ⟨aq23, nq23, cq23, zq23, aq24, nq24, cq24, zq24, aq25, nq25, cq25, zq25, aq26, nq26, cq26, zq26, K27, n28, N29, rfl, S, qn28, qN29, hK, hC, Q0, mq23, h0, Q1, mq24, h1, Q2, mq25, h2, Q3, mq26, h3⟩
  refine ⟨_, rfl, ?_⟩
  have fq23 := ne3 h0 U.ta.size
  have fq24 := ne3 h1 U.ta.size
  have fq25 := ne3 h2 U.ta.size
  have fq26 := ne3 h3 U.ta.size
  have L := U.lt
  replace U := ((((U.op S hK hC).add L Q0 h0).add L Q1 h1).add L Q2 h2).add L Q3 h3
  clear L S hK hC Q0 h0 Q1 h1 Q2 h2 Q3 h3
  refine t 33 (.tuple #[.agg #[.int .u64 0, .int .u64 1, .slice aq23 nq23 cq23, .bool false, .int .u64 0, .bool false, .int .u64 2, .slice none 0 0, .slice aq24 nq24 cq24, .slice aq25 nq25 cq25], .agg #[.int .u64 16, .int .u64 20, .int .u64 32, .slice aq26 nq26 cq26, .slice none 0 0, .slice none 0 0, .int .u64 0]]) ?_
  refine t 39 (.agg #[.int .u64 0, .int .u64 1, .slice aq23 nq23 cq23, .bool false, .int .u64 0, .bool false, .int .u64 2, .slice none 0 0, .slice aq24 nq24 cq24, .slice aq25 nq25 cq25]) ?_
  refine t 40 (.agg #[.int .u64 16, .int .u64 20, .int .u64 32, .slice aq26 nq26 cq26, .slice none 0 0, .slice none 0 0, .int .u64 0]) ?_
  refine ta 12 [.int .u64 0, .int .u64 0, .int .u64 0, .slice none 0 0, .slice none 0 0, .slice none 0 0, .int .u64 0] 63 (pg) ?_
  intro v31 g32 Xg32 hg32 B
  replace U := U.new Xg32 hg32 B
  clear Xg32 hg32 B
  refine ts (U.bk 2 rfl) 0 (.agg #[.int .u64 0, .int .u64 1, .slice aq23 nq23 cq23, .bool false, .int .u64 0, .bool false, .int .u64 2, .slice none 0 0, .slice aq24 nq24 cq24, .slice aq25 nq25 cq25]) [.int .u64 0, .int .u64 1, .slice aq23 nq23 cq23, .bool false, .int .u64 0, .bool false, .int .u64 2, .slice none 0 0, .slice aq24 nq24 cq24, .slice aq25 nq25 cq25] [.int .u64 0, .int .u64 1, .slice aq23 nq23 cq23, .bool false, .int .u64 0, .bool false, .int .u64 2, .slice none 0 0, .slice aq24 nq24 cq24, .slice aq25 nq25 cq25] ?_
  intro v33 Y C
  replace U := U.put 2 rfl C Y (by decide)
  clear Y C
  refine ts (U.bk 0 rfl) 0 (.agg #[.int .u64 16, .int .u64 20, .int .u64 32, .slice aq26 nq26 cq26, .slice none 0 0, .slice none 0 0, .int .u64 0]) [.int .u64 16, .int .u64 20, .int .u64 32, .slice aq26 nq26 cq26, .slice none 0 0, .slice none 0 0, .int .u64 0] [.int .u64 16, .int .u64 20, .int .u64 32, .slice aq26 nq26 cq26, .slice none 0 0, .slice none 0 0, .int .u64 0] ?_
  intro v34 Y C
  replace U := U.put 0 rfl C Y (by decide)
  clear Y C
  refine gl_nil ?_
  refine ge_then ?_
  refine gc_seq ?_
  refine gc_reg ?_
  refine t 41 (pg g) ?_
  refine t 42 (.int .u64 16) ?_
  refine tlr 43 [.int .u64 0, .int .u64 1, .slice aq23 nq23 cq23, .bool false, .int .u64 0, .bool false, .int .u64 2, .slice none 0 0, .slice aq24 nq24 cq24, .slice aq25 nq25 cq25] (U.bk 2 rfl) 0 ?_
  refine tlr 44 [.slice aq14 nq14 cq14, .int .u64 0, .slice aq15 nq15 cq15] (U.bk 1 rfl) 0 ?_
  refine tc 45 20 #[pg g, .int .u64 16, .agg #[.int .u64 0, .int .u64 1, .slice aq23 nq23 cq23, .bool false, .int .u64 0, .bool false, .int .u64 2, .slice none 0 0, .slice aq24 nq24 cq24, .slice aq25 nq25 cq25], .agg #[.slice aq14 nq14 cq14, .int .u64 0, .slice aq15 nq15 cq15]] (HoE.cast (E' := e22) (p := 1) (xs := 1000000000000000000000000000000000000) (hold_any U.ta.sx ⟨by decide, by decide⟩ ⟨by decide, by decide⟩ (U.nq 3 rfl).nk (by omega) (nq_nil _ _).nk (by omega) (U.nq 2 rfl).nk (by omega) (U.nq 1 rfl).nk (by omega) (U.nq 5 rfl).nk (by omega) (U.nq 4 rfl).nk (by omega) (by omega) (by omega)) (by decide) rfl (by decide +kernel)) ?_
  rintro _ v40 ⟨aq35, nq35, cq35, zq35, aq36, nq36, cq36, zq36, K37, n38, N39, rfl, S, qn38, qN39, hK, hC, Q0, mq35, h0, Q1, mq36, h1⟩
  refine ⟨_, rfl, ?_⟩
  have fq35 := ne3 h0 U.ta.size
  have fq36 := ne3 h1 U.ta.size
  have L := U.lt
  replace U := ((U.op S hK hC).add L Q0 h0).add L Q1 h1
  clear L S hK hC Q0 h0 Q1 h1
  refine ts (U.bk 1 rfl) 0 (.agg #[.slice aq35 nq35 cq35, .int .u64 1, .slice aq36 nq36 cq36]) [.slice aq35 nq35 cq35, .int .u64 1, .slice aq36 nq36 cq36] [.slice aq35 nq35 cq35, .int .u64 1, .slice aq36 nq36 cq36] ?_
  intro v41 Y C
  replace U := U.put 1 rfl C Y (by decide)
  clear Y C
  refine gl_nil ?_
  refine ge_then ?_
  refine gc_fr [(0, pg g), (1, .int .u64 16), (2, .int .u64 20), (6, pg g2), (7, .int .i64 0), (8, pg g12), (10, pg g21), (12, pg g32)] (by kernel_rfl) ?_
  refine gc_seq ?_
  refine gc_reg ?_
  refine t 46 (pg g) ?_
  refine t 47 (.int .u64 16) ?_
  refine tlr 48 [.int .u64 0, .int .u64 1, .slice aq23 nq23 cq23, .bool false, .int .u64 0, .bool false, .int .u64 2, .slice none 0 0, .slice aq24 nq24 cq24, .slice aq25 nq25 cq25] (U.bk 2 rfl) 0 ?_
  refine tc 49 21 #[pg g, .int .u64 16, .agg #[.int .u64 0, .int .u64 1, .slice aq23 nq23 cq23, .bool false, .int .u64 0, .bool false, .int .u64 2, .slice none 0 0, .slice aq24 nq24 cq24, .slice aq25 nq25 cq25]] (SxE.castE (sVal U.ta.sx ⟨by decide, by decide⟩ (U.nq 5 rfl).nk (by omega) (nq_nil _ _).nk (by omega) (U.nq 4 rfl).nk (by omega) (U.nq 3 rfl).nk (by omega) (by omega) (by omega)) (show _ = e23 from rfl)) ?_
  rintro _ v43 ⟨rfl, K42, S, hK, hC⟩
  refine ⟨_, rfl, ?_⟩
  replace U := U.op S hK hC
  clear S hK hC
  refine gl_nil ?_
  refine ge_then ?_
  refine gc_seq ?_
  refine gc_reg ?_
  refine t 50 (pg g) ?_
  refine t 51 (.int .u64 16) ?_
  refine t 52 (.int .u64 20) ?_
  refine tlr 53 [.slice aq35 nq35 cq35, .int .u64 1, .slice aq36 nq36 cq36] (U.bk 1 rfl) 0 ?_
  refine tc 54 22 #[pg g, .int .u64 16, .int .u64 20, .agg #[.slice aq35 nq35 cq35, .int .u64 1, .slice aq36 nq36 cq36]] (SxE.castE (sDel U.ta.sx ⟨by decide, by decide⟩ (U.nq 1 rfl).nk (by omega) (U.nq 0 rfl).nk (by omega) (by omega) (by omega)) (show _ = e24 from rfl)) ?_
  rintro _ v45 ⟨rfl, K44, S, hK, hC⟩
  refine ⟨_, rfl, ?_⟩
  replace U := U.op S hK hC
  clear S hK hC
  refine gl_nil ?_
  refine ge_then ?_
  refine gc_seq ?_
  replace U := U.drew
  refine gc_draw (fun w' => Blk w' g21 [.slice aq35 nq35 cq35, .int .u64 1, .slice aq36 nq36 cq36] 55 ∧ Blk w' g12 [.int .u64 0, .int .u64 1, .slice aq23 nq23 cq23, .bool false, .int .u64 0, .bool false, .int .u64 2, .slice none 0 0, .slice aq24 nq24 cq24, .slice aq25 nq25 cq25] 28) (fun _ => false) ⟨(U.bk 1 rfl), (U.bk 2 rfl)⟩ ?_
  refine z 0 55 (pg g21) ?_
  refine zlr 1 56 [.slice aq35 nq35 cq35] (fun _ h => h.1) 0 ?_
  refine z 2 57 (pq g12 1) ?_
  refine zl 3 58 (.int .u64 1) (fun _ h => h.2) 1 ?_
  refine z 4 59 (pq g12 2) ?_
  refine zlr 5 60 [.slice aq23 nq23 cq23] (fun _ h => h.2) 2 ?_
  refine z 6 61 (pq g32 4) ?_
  refine zs 7 (U.bk 0 rfl) 4 (.agg #[.slice aq35 nq35 cq35]) [.slice aq35 nq35 cq35] [.int .u64 16, .int .u64 20, .int .u64 32, .slice aq26 nq26 cq26, .slice aq35 nq35 cq35, .slice none 0 0, .int .u64 0] ?_
  intro v46 Y C
  replace U := U.put 0 rfl C Y (by decide)
  clear Y C
  refine ⟨⟨(U.bk 1 rfl), (U.bk 2 rfl)⟩, ?_⟩
  refine z 8 62 (pq g32 6) ?_
  refine zs 9 (U.bk 0 rfl) 6 (.int .u64 1) [.int .u64 1] [.int .u64 16, .int .u64 20, .int .u64 32, .slice aq26 nq26 cq26, .slice aq35 nq35 cq35, .slice none 0 0, .int .u64 1] ?_
  intro v47 Y C
  replace U := U.put 0 rfl C Y (by decide)
  clear Y C
  refine ⟨⟨(U.bk 1 rfl), (U.bk 2 rfl)⟩, ?_⟩
  refine z 10 63 (pq g32 5) ?_
  refine zs 11 (U.bk 0 rfl) 5 (.agg #[.slice aq23 nq23 cq23]) [.slice aq23 nq23 cq23] [.int .u64 16, .int .u64 20, .int .u64 32, .slice aq26 nq26 cq26, .slice aq35 nq35 cq35, .slice aq23 nq23 cq23, .int .u64 1] ?_
  intro v48 Y C
  replace U := U.put 0 rfl C Y (by decide)
  clear Y C
  refine ⟨⟨(U.bk 1 rfl), (U.bk 2 rfl)⟩, ?_⟩
  refine gz_done ?_
  refine ge_then ?_
  refine gc_fr [(6, pg g2), (7, .int .i64 0), (12, pg g32)] (by kernel_rfl) ?_
  refine gc_seq ?_
  refine gc_reg ?_
  refine tlr 64 [.int .u64 16, .int .u64 20, .int .u64 32, .slice aq26 nq26 cq26, .slice aq35 nq35 cq35, .slice aq23 nq23 cq23, .int .u64 1] (U.bk 0 rfl) 0 ?_
  refine ts (U.bk 3 rfl) 0 (.agg #[.int .u64 16, .int .u64 20, .int .u64 32, .slice aq26 nq26 cq26, .slice aq35 nq35 cq35, .slice aq23 nq23 cq23, .int .u64 1]) [.int .u64 16, .int .u64 20, .int .u64 32, .slice aq26 nq26 cq26, .slice aq35 nq35 cq35, .slice aq23 nq23 cq23, .int .u64 1] [.int .u64 16, .int .u64 20, .int .u64 32, .slice aq26 nq26 cq26, .slice aq35 nq35 cq35, .slice aq23 nq23 cq23, .int .u64 1] ?_
  intro v49 Y C
  replace U := U.put 3 rfl C Y (by decide)
  clear Y C
  refine t 7 (.int .i64 0) ?_
  refine gl_nil ?_
  refine ge_then ?_
  refine gc_ret ?_
  refine ge_ret (.tuple #[.agg #[.int .u64 16, .int .u64 20, .int .u64 32, .slice aq26 nq26 cq26, .slice aq35 nq35 cq35, .slice aq23 nq23 cq23, .int .u64 1], .int .i64 0]) (rsct 6 7 (T := 63) (by kernel_rfl) (by kernel_rfl) (by kernel_rfl) (lr (U.bk 3 rfl) 0)) ?_
  exact ⟨_, _, _, _, _, _, _, _, _, _, _, _, _, _, _, rfl, U.ta.sx, by omega, by omega, U.ta.km, U.ta.cc, (U.nq 2 rfl), by omega, fq26, (U.nq 1 rfl), by omega, fq35, (U.nq 5 rfl), by omega, fq23⟩
end Fo
end Go.Proofs.YtgdohcdlkonhiaaGreatDoor
