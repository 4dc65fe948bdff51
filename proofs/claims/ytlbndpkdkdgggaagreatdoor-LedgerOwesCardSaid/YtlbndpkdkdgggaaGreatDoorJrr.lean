/- Several texts, joined: LgI2, LgI3, LgV, LgK, LgW, LgX, LgY. -/
import Derived.Test.YtlbndpkdkdgggaaGreatDoorJrq
import Derived.Test.YtlbndpkdkdgggaaGreatDoorJrp
import Derived.Test.YtlbndpkdkdgggaaGreatDoorJre
namespace Go.Proofs.YtlbndpkdkdgggaaGreatDoor
namespace Lg
open Go.RowKit Go.Lib Lim Pg Gl
set_option linter.unusedVariables false
theorem rsc3 {P : Program} {n : Nat} {w : World} {l : Fr} {fn : Func} (j k m : Nat) {T : TypeId} {g : Nat} {u v x : Value} (h : fn.results = #[.cell j T, .tmp k, .tmp m]) (hu : lk l j = some (.pointer (some ⟨g, 0, none⟩))) (hv : lk l k = some v) (hx : lk l m = some x) (hl : (loadVar T ⟨g, 0, none⟩).run P w = .ok u w) (a : Act) (r : Rd n [] l a) : (results fn a.tmps).run P w = .ok (.tuple #[u, v, x]) w := by
  have h1 := r.gD hu
  have h2 := r.gD hv
  have h3 := r.gD hx
  simp at h1 h2 h3
  simp [results, h, h1, h2, h3, asAddr, hl]
theorem LK_n {g bm : Nat} {L L' : List Ms} (h : L'.map Ms.n = L.map Ms.n) : LK g bm L' = LK g bm L := by
  have key : ∀ {A B : List Ms}, A.map Ms.n = B.map Ms.n → ∀ q, (∃ m ∈ A, q = m.g) → ∃ m ∈ B, q = m.g := fun {A B} e q => by
    rintro ⟨m, hm, rfl⟩
    have : m.n ∈ B.map Ms.n := e ▸ List.mem_map.2 ⟨m, hm, rfl⟩
    obtain ⟨y, hy, e2⟩ := List.mem_map.1 this
    exact ⟨y, hy, (congrArg Mn.g e2).symm⟩
  funext q
  exact propext ⟨fun k => k.imp id (Or.imp id (key h q)), fun k => k.imp id (Or.imp id (key h.symm q))⟩
theorem tick_o {S T : St} {v : Int} {N : Nat} (hL : Fs S N) (h : T = sOn S v fun s => (s.1, s.2.1, s.2.2.1 + 1, s.2.2.2)) {x : (Int × Int) × Stk} (hx : x ∈ T) : Ft x.2.2.1 N := by
  subst h
  obtain ⟨e, he, e2⟩ := List.mem_map.1 hx
  have h3 : e.2.2.1 = x.2.2.1 := by
    subst e2
    split <;> rfl
  rw [← h3]
  exact (hL e he).2.1
theorem _root_.Go.Proofs.YtlbndpkdkdgggaaGreatDoor.NatA.lp0 {w W : World} {g : Nat} {cs : List Value} {t : TypeId} {a : Option Addr} {n c : Nat} {x : Int} (N : NatA w a n c x) (X : Blk w g cs t) (C : Chg (· = g) w W) (hn : cs.all nu = true := by rfl) : NatA W a n c x := NatA.cg N X C hn
set_option maxHeartbeats 4000000 in
set_option maxRecDepth 100000 in
theorem sumStakes {w : World} {g : Nat} {K : Nat → Prop} {S : St} {L : Nat} {v : Int} (hv : 0 ≤ v ∧ v < 18446744073709551616) (M : Lm w g K S) (hL : Fs S L) (hl : L ≤ 640000) (hn : S.length ≤ 100) : Calls Tryz.prog 68 #[pg g, .int .u64 v, .func (.func 69) #[] #[]] w fun e w' => ∃ a n c b m d_, e = .returned (.agg #[.slice a n c, .slice b m d_]) ∧ RQ w' a n c b m d_ (sStakes S v) ∧ Below w.heap.size w w' := by
  rcases M with ⟨bm, clock, Ls, X, M, rfl, hU, rfl⟩ | ⟨X, rfl, rfl⟩
  · have hbm := lt_of_block M.ob
    have hml : ∀ m ∈ Ls, m.g < w.heap.size := fun m hm => (M.blk m hm).lt
    have hgl := X.lt
    have X0 := X
    have M0 := M
    have hF0 : ∀ m ∈ Ls, Ft m.r (64 * 10000) := fun m hm => ft_up (fs_f hL m hm).1 (by omega)
    have BB := Below.refl w.heap.size w
    refine gc_enter (n := 14) Tryz.func68 rfl (by kernel_rfl) (by kernel_rfl) ?_
    clear BB
    have BB := Chg.refl (fun _ => False) w
    have LP := Lp.refl w
    refine gc_seq ?_
    refine gc_reg ?_
    have lX := X.lt
    refine ta 5 [.func (.func 69) #[] #[]] 96 (pg) ?_
    intro v1 g2 Xg2 hg2 B
    have hbg2 := Nat.le_trans BB.size hg2
    replace X := X.keep B
    replace BB := BB.trans (Chg.of (F := fun _ => False) B) (fun _ _ k => k.elim)
    replace LP := LP.trans (Lp.of B)
    replace M := M.keep B
    clear B
    have lX := X.lt
    have lXg2 := Xg2.lt
    refine ta 6 [.slice none 0 0, .slice none 0 0] 40 (pg) ?_
    intro v3 g4 Xg4 hg4 B
    have hbg4 := Nat.le_trans BB.size hg4
    replace X := X.keep B
    replace BB := BB.trans (Chg.of (F := fun _ => False) B) (fun _ _ k => k.elim)
    replace LP := LP.trans (Lp.of B)
    replace M := M.keep B
    replace Xg2 := Xg2.keep B
    clear B
    refine gl_nil ?_
    refine ge_then ?_
    refine gc_seq ?_
    refine gc_reg ?_
    have lX := X.lt
    have lXg2 := Xg2.lt
    have lXg4 := Xg4.lt
    refine ta 7 [.slice none 0 0] 61 (pg) ?_
    intro v5 g6 Xg6 hg6 B
    have hbg6 := Nat.le_trans BB.size hg6
    replace X := X.keep B
    replace BB := BB.trans (Chg.of (F := fun _ => False) B) (fun _ _ k => k.elim)
    replace LP := LP.trans (Lp.of B)
    replace M := M.keep B
    replace Xg2 := Xg2.keep B
    replace Xg4 := Xg4.keep B
    clear B
    refine gl_nil ?_
    refine ge_then ?_
    refine gc_seq ?_
    refine gc_reg ?_
    refine t 8 (pg g) ?_
    refine t 9 (.int .u64 v) ?_
    refine t 10 (.func (.func 104) #[] #[pg g6, pg g2]) ?_
    refine tc 11 50 #[pg g, .int .u64 v, .func (.func 104) #[] #[pg g6, pg g2]] (eStakes X M Xg6 Xg2 (show g6 ≠ g2 by omega) hF0 (by rw [List.length_map] at hn; omega) (show g ≠ g6 by omega)) ?_
    rintro _ v7 ⟨ao_, n_, c_, l_, rfl, Y2, PT, hZ, hT, hn_, C⟩
    refine ⟨_, rfl, ?_⟩
    replace BB := BB.trans C (fun b hb k => absurd hb (Nat.not_lt.2 ((show b = g6 from k) ▸ hbg6)))
    replace LP := LP.trans (Lp.cg Xg6 C (by rfl))
    clear X M Xg6
    have Xg6 := Y2
    clear Y2
    replace Xg4 := Xg4.chg C (show g4 ≠ g6 by omega)
    clear C
    refine gl_nil ?_
    refine ge_then ?_
    refine gc_seq ?_
    refine gc_reg ?_
    refine tl 12 (.slice ao_ n_ c_) Xg6 0 ?_
    obtain ⟨lR_, hlr, hRl0, hRl⟩ := PT.ratl hZ
    refine tc 13 58 #[.slice ao_ n_ c_] (pSum hlr (by rw [List.length_map] at hn; omega) (B := 10000) (by decide) hRl) ?_
    rintro _ v9 ⟨aq8, kq8, dq8, bq8, lq8, eq8, rfl, Qq8, B⟩
    refine ⟨_, rfl, ?_⟩
    replace BB := BB.trans (Chg.of (F := fun _ => False) B) (fun _ _ k => k.elim)
    replace LP := LP.trans (Lp.of B)
    replace Xg4 := Xg4.keep B
    replace Xg6 := Xg6.keep B
    clear B
    refine ts Xg4 0 (.agg #[.slice aq8 kq8 dq8, .slice bq8 lq8 eq8]) [.slice aq8 kq8 dq8, .slice bq8 lq8 eq8] [.slice aq8 kq8 dq8, .slice bq8 lq8 eq8] ?_
    intro v10 Y' C
    have P := Lp.z0 Xg4 C (by rfl)
    replace BB := BB.trans C (fun b hb k => absurd hb (Nat.not_lt.2 ((show b = g4 from k) ▸ hbg4)))
    replace LP := LP.trans P
    replace Xg6 := Xg6.chg C (show g6 ≠ g4 by omega)
    replace Qq8 := Qq8.lp P
    clear C P Xg4
    have Xg4 := Y'
    clear Y'
    refine gl_nil ?_
    refine ge_then ?_
    refine gc_fr [(6, pg g4)] (by kernel_rfl) ?_
    refine gc_ret ?_
    refine ge_ret (.agg #[.slice aq8 kq8 dq8, .slice bq8 lq8 eq8]) (rsc 6 (T := 40) (by kernel_rfl) (by kernel_rfl) (lr Xg4 0)) ?_
    exact ⟨aq8, kq8, dq8, bq8, lq8, eq8, rfl, Qq8.is (hRl0.trans hT), BB.nothing⟩
  · have hgl := X.lt
    have X0 := X
    have BB := Below.refl w.heap.size w
    refine gc_enter (n := 14) Tryz.func68 rfl (by kernel_rfl) (by kernel_rfl) ?_
    clear BB
    have BB := Chg.refl (fun _ => False) w
    have LP := Lp.refl w
    refine gc_seq ?_
    refine gc_reg ?_
    have lX := X.lt
    refine ta 5 [.func (.func 69) #[] #[]] 96 (pg) ?_
    intro v1 g2 Xg2 hg2 B
    have hbg2 := Nat.le_trans BB.size hg2
    replace X := X.keep B
    replace BB := BB.trans (Chg.of (F := fun _ => False) B) (fun _ _ k => k.elim)
    replace LP := LP.trans (Lp.of B)
    clear B
    have lX := X.lt
    have lXg2 := Xg2.lt
    refine ta 6 [.slice none 0 0, .slice none 0 0] 40 (pg) ?_
    intro v3 g4 Xg4 hg4 B
    have hbg4 := Nat.le_trans BB.size hg4
    replace X := X.keep B
    replace BB := BB.trans (Chg.of (F := fun _ => False) B) (fun _ _ k => k.elim)
    replace LP := LP.trans (Lp.of B)
    replace Xg2 := Xg2.keep B
    clear B
    refine gl_nil ?_
    refine ge_then ?_
    refine gc_seq ?_
    refine gc_reg ?_
    have lX := X.lt
    have lXg2 := Xg2.lt
    have lXg4 := Xg4.lt
    refine ta 7 [.slice none 0 0] 61 (pg) ?_
    intro v5 g6 Xg6 hg6 B
    have hbg6 := Nat.le_trans BB.size hg6
    replace X := X.keep B
    replace BB := BB.trans (Chg.of (F := fun _ => False) B) (fun _ _ k => k.elim)
    replace LP := LP.trans (Lp.of B)
    replace Xg2 := Xg2.keep B
    replace Xg4 := Xg4.keep B
    clear B
    refine gl_nil ?_
    refine ge_then ?_
    refine gc_seq ?_
    refine gc_reg ?_
    refine t 8 (pg g) ?_
    refine t 9 (.int .u64 v) ?_
    refine t 10 (.func (.func 104) #[] #[pg g6, pg g2]) ?_
    refine tc 11 50 #[pg g, .int .u64 v, .func (.func 104) #[] #[pg g6, pg g2]] (all_nil X) ?_
    rintro _ v7 ⟨rfl, B⟩
    refine ⟨_, rfl, ?_⟩
    replace X := X.keep B
    replace BB := BB.trans (Chg.of (F := fun _ => False) B) (fun _ _ k => k.elim)
    replace LP := LP.trans (Lp.of B)
    replace Xg2 := Xg2.keep B
    replace Xg4 := Xg4.keep B
    replace Xg6 := Xg6.keep B
    clear B
    refine gl_nil ?_
    refine ge_then ?_
    refine gc_seq ?_
    refine gc_reg ?_
    refine tl 12 (.slice none 0 0) Xg6 0 ?_
    refine tc 13 58 #[.slice none 0 0] (pSum0) ?_
    rintro _ v9 ⟨aq8, kq8, dq8, bq8, lq8, eq8, rfl, Qq8, B⟩
    refine ⟨_, rfl, ?_⟩
    replace X := X.keep B
    replace BB := BB.trans (Chg.of (F := fun _ => False) B) (fun _ _ k => k.elim)
    replace LP := LP.trans (Lp.of B)
    replace Xg2 := Xg2.keep B
    replace Xg4 := Xg4.keep B
    replace Xg6 := Xg6.keep B
    clear B
    refine ts Xg4 0 (.agg #[.slice aq8 kq8 dq8, .slice bq8 lq8 eq8]) [.slice aq8 kq8 dq8, .slice bq8 lq8 eq8] [.slice aq8 kq8 dq8, .slice bq8 lq8 eq8] ?_
    intro v10 Y' C
    have P := Lp.z0 Xg4 C (by rfl)
    replace X := X.chg C (show g ≠ g4 by omega)
    replace BB := BB.trans C (fun b hb k => absurd hb (Nat.not_lt.2 ((show b = g4 from k) ▸ hbg4)))
    replace LP := LP.trans P
    replace Xg2 := Xg2.chg C (show g2 ≠ g4 by omega)
    replace Xg6 := Xg6.chg C (show g6 ≠ g4 by omega)
    replace Qq8 := Qq8.lp P
    clear C P Xg4
    have Xg4 := Y'
    clear Y'
    refine gl_nil ?_
    refine ge_then ?_
    refine gc_fr [(6, pg g4)] (by kernel_rfl) ?_
    refine gc_ret ?_
    refine ge_ret (.agg #[.slice aq8 kq8 dq8, .slice bq8 lq8 eq8]) (rsc 6 (T := 40) (by kernel_rfl) (by kernel_rfl) (lr Xg4 0)) ?_
    exact ⟨aq8, kq8, dq8, bq8, lq8, eq8, rfl, Qq8.is (by rfl), BB.nothing⟩
set_option maxHeartbeats 4000000 in
set_option maxRecDepth 100000 in
theorem lStakes {w : World} {g : Nat} {K : Nat → Prop} {S : St} {L : Nat} {v : Int} (hv : 0 ≤ v ∧ v < 18446744073709551616) (M : Lm w g K S) (hL : Fs S L) (hl : L ≤ 640000) (hn : S.length ≤ 100) : Calls Tryz.prog 27 #[pg g, .int .u64 v] w fun e w' => ∃ a n c b m d_, e = .returned (.agg #[.slice a n c, .slice b m d_]) ∧ RQ w' a n c b m d_ (sStakes S v) ∧ Below w.heap.size w w' := by
  have BB := Below.refl w.heap.size w
  refine gc_enter (n := 8) Tryz.func27 rfl (by kernel_rfl) (by kernel_rfl) ?_
  refine gc_seq ?_
  refine gc_reg ?_
  refine ta 4 [.slice none 0 0, .slice none 0 0] 40 (pg) ?_
  intro v1 g2 Xg2 hg2 B
  replace BB := joinB BB B
  clear B
  refine gl_nil ?_
  refine ge_then ?_
  refine gc_seq ?_
  refine gc_reg ?_
  refine t 5 (pg g) ?_
  refine t 6 (.int .u64 v) ?_
  refine tc 7 68 #[pg g, .int .u64 v, .func (.func 69) #[] #[]] (sumStakes hv (M.keep BB) hL hl hn) ?_
  rintro _ v4 ⟨aq3, kq3, dq3, bq3, lq3, eq3, rfl, Qq3, B⟩
  refine ⟨_, rfl, ?_⟩
  replace BB := joinB BB B
  replace Xg2 := Xg2.keep B
  clear B
  refine ts Xg2 0 (.agg #[.slice aq3 kq3 dq3, .slice bq3 lq3 eq3]) [.slice aq3 kq3 dq3, .slice bq3 lq3 eq3] [.slice aq3 kq3 dq3, .slice bq3 lq3 eq3] ?_
  intro v5 Y C
  replace BB := belowC BB C (by omega)
  replace Qq3 := Qq3.cg Xg2 C (by rfl)
  clear C Xg2
  have Xg2 := Y
  clear Y
  refine gl_nil ?_
  refine ge_then ?_
  refine gc_ret ?_
  refine ge_ret (.agg #[.slice aq3 kq3 dq3, .slice bq3 lq3 eq3]) (rsc 4 (T := 40) (by kernel_rfl) (by kernel_rfl) (lr Xg2 0)) ?_
  exact ⟨aq3, kq3, dq3, bq3, lq3, eq3, rfl, Qq3, BB⟩
set_option maxHeartbeats 4000000 in
set_option maxRecDepth 100000 in
theorem sumOwes {w : World} {g : Nat} {K : Nat → Prop} {S : St} {L : Nat} {v : Int} (hv : 0 ≤ v ∧ v < 18446744073709551616) (M : Lm w g K S) (hL : Fs S L) (hl : L ≤ 640000) (hn : S.length ≤ 100) : Calls Tryz.prog 68 #[pg g, .int .u64 v, .func (.func 70) #[] #[]] w fun e w' => ∃ a n c b m d_, e = .returned (.agg #[.slice a n c, .slice b m d_]) ∧ RQ w' a n c b m d_ (sOwes S v) ∧ Below w.heap.size w w' := by
  rcases M with ⟨bm, clock, Ls, X, M, rfl, hU, rfl⟩ | ⟨X, rfl, rfl⟩
  · have hbm := lt_of_block M.ob
    have hml : ∀ m ∈ Ls, m.g < w.heap.size := fun m hm => (M.blk m hm).lt
    have hgl := X.lt
    have X0 := X
    have M0 := M
    have hF0 : ∀ m ∈ Ls, Ft m.o (64 * 10000) := fun m hm => ft_up (fs_f hL m hm).2 (by omega)
    have BB := Below.refl w.heap.size w
    refine gc_enter (n := 14) Tryz.func68 rfl (by kernel_rfl) (by kernel_rfl) ?_
    clear BB
    have BB := Chg.refl (fun _ => False) w
    have LP := Lp.refl w
    refine gc_seq ?_
    refine gc_reg ?_
    have lX := X.lt
    refine ta 5 [.func (.func 70) #[] #[]] 96 (pg) ?_
    intro v1 g2 Xg2 hg2 B
    have hbg2 := Nat.le_trans BB.size hg2
    replace X := X.keep B
    replace BB := BB.trans (Chg.of (F := fun _ => False) B) (fun _ _ k => k.elim)
    replace LP := LP.trans (Lp.of B)
    replace M := M.keep B
    clear B
    have lX := X.lt
    have lXg2 := Xg2.lt
    refine ta 6 [.slice none 0 0, .slice none 0 0] 40 (pg) ?_
    intro v3 g4 Xg4 hg4 B
    have hbg4 := Nat.le_trans BB.size hg4
    replace X := X.keep B
    replace BB := BB.trans (Chg.of (F := fun _ => False) B) (fun _ _ k => k.elim)
    replace LP := LP.trans (Lp.of B)
    replace M := M.keep B
    replace Xg2 := Xg2.keep B
    clear B
    refine gl_nil ?_
    refine ge_then ?_
    refine gc_seq ?_
    refine gc_reg ?_
    have lX := X.lt
    have lXg2 := Xg2.lt
    have lXg4 := Xg4.lt
    refine ta 7 [.slice none 0 0] 61 (pg) ?_
    intro v5 g6 Xg6 hg6 B
    have hbg6 := Nat.le_trans BB.size hg6
    replace X := X.keep B
    replace BB := BB.trans (Chg.of (F := fun _ => False) B) (fun _ _ k => k.elim)
    replace LP := LP.trans (Lp.of B)
    replace M := M.keep B
    replace Xg2 := Xg2.keep B
    replace Xg4 := Xg4.keep B
    clear B
    refine gl_nil ?_
    refine ge_then ?_
    refine gc_seq ?_
    refine gc_reg ?_
    refine t 8 (pg g) ?_
    refine t 9 (.int .u64 v) ?_
    refine t 10 (.func (.func 104) #[] #[pg g6, pg g2]) ?_
    refine tc 11 50 #[pg g, .int .u64 v, .func (.func 104) #[] #[pg g6, pg g2]] (eOwes X M Xg6 Xg2 (show g6 ≠ g2 by omega) hF0 (by rw [List.length_map] at hn; omega) (show g ≠ g6 by omega)) ?_
    rintro _ v7 ⟨ao_, n_, c_, l_, rfl, Y2, PT, hZ, hT, hn_, C⟩
    refine ⟨_, rfl, ?_⟩
    replace BB := BB.trans C (fun b hb k => absurd hb (Nat.not_lt.2 ((show b = g6 from k) ▸ hbg6)))
    replace LP := LP.trans (Lp.cg Xg6 C (by rfl))
    clear X M Xg6
    have Xg6 := Y2
    clear Y2
    replace Xg4 := Xg4.chg C (show g4 ≠ g6 by omega)
    clear C
    refine gl_nil ?_
    refine ge_then ?_
    refine gc_seq ?_
    refine gc_reg ?_
    refine tl 12 (.slice ao_ n_ c_) Xg6 0 ?_
    obtain ⟨lR_, hlr, hRl0, hRl⟩ := PT.ratl hZ
    refine tc 13 58 #[.slice ao_ n_ c_] (pSum hlr (by rw [List.length_map] at hn; omega) (B := 10000) (by decide) hRl) ?_
    rintro _ v9 ⟨aq8, kq8, dq8, bq8, lq8, eq8, rfl, Qq8, B⟩
    refine ⟨_, rfl, ?_⟩
    replace BB := BB.trans (Chg.of (F := fun _ => False) B) (fun _ _ k => k.elim)
    replace LP := LP.trans (Lp.of B)
    replace Xg4 := Xg4.keep B
    replace Xg6 := Xg6.keep B
    clear B
    refine ts Xg4 0 (.agg #[.slice aq8 kq8 dq8, .slice bq8 lq8 eq8]) [.slice aq8 kq8 dq8, .slice bq8 lq8 eq8] [.slice aq8 kq8 dq8, .slice bq8 lq8 eq8] ?_
    intro v10 Y' C
    have P := Lp.z0 Xg4 C (by rfl)
    replace BB := BB.trans C (fun b hb k => absurd hb (Nat.not_lt.2 ((show b = g4 from k) ▸ hbg4)))
    replace LP := LP.trans P
    replace Xg6 := Xg6.chg C (show g6 ≠ g4 by omega)
    replace Qq8 := Qq8.lp P
    clear C P Xg4
    have Xg4 := Y'
    clear Y'
    refine gl_nil ?_
    refine ge_then ?_
    refine gc_fr [(6, pg g4)] (by kernel_rfl) ?_
    refine gc_ret ?_
    refine ge_ret (.agg #[.slice aq8 kq8 dq8, .slice bq8 lq8 eq8]) (rsc 6 (T := 40) (by kernel_rfl) (by kernel_rfl) (lr Xg4 0)) ?_
    exact ⟨aq8, kq8, dq8, bq8, lq8, eq8, rfl, Qq8.is (hRl0.trans hT), BB.nothing⟩
  · have hgl := X.lt
    have X0 := X
    have BB := Below.refl w.heap.size w
    refine gc_enter (n := 14) Tryz.func68 rfl (by kernel_rfl) (by kernel_rfl) ?_
    clear BB
    have BB := Chg.refl (fun _ => False) w
    have LP := Lp.refl w
    refine gc_seq ?_
    refine gc_reg ?_
    have lX := X.lt
    refine ta 5 [.func (.func 70) #[] #[]] 96 (pg) ?_
    intro v1 g2 Xg2 hg2 B
    have hbg2 := Nat.le_trans BB.size hg2
    replace X := X.keep B
    replace BB := BB.trans (Chg.of (F := fun _ => False) B) (fun _ _ k => k.elim)
    replace LP := LP.trans (Lp.of B)
    clear B
    have lX := X.lt
    have lXg2 := Xg2.lt
    refine ta 6 [.slice none 0 0, .slice none 0 0] 40 (pg) ?_
    intro v3 g4 Xg4 hg4 B
    have hbg4 := Nat.le_trans BB.size hg4
    replace X := X.keep B
    replace BB := BB.trans (Chg.of (F := fun _ => False) B) (fun _ _ k => k.elim)
    replace LP := LP.trans (Lp.of B)
    replace Xg2 := Xg2.keep B
    clear B
    refine gl_nil ?_
    refine ge_then ?_
    refine gc_seq ?_
    refine gc_reg ?_
    have lX := X.lt
    have lXg2 := Xg2.lt
    have lXg4 := Xg4.lt
    refine ta 7 [.slice none 0 0] 61 (pg) ?_
    intro v5 g6 Xg6 hg6 B
    have hbg6 := Nat.le_trans BB.size hg6
    replace X := X.keep B
    replace BB := BB.trans (Chg.of (F := fun _ => False) B) (fun _ _ k => k.elim)
    replace LP := LP.trans (Lp.of B)
    replace Xg2 := Xg2.keep B
    replace Xg4 := Xg4.keep B
    clear B
    refine gl_nil ?_
    refine ge_then ?_
    refine gc_seq ?_
    refine gc_reg ?_
    refine t 8 (pg g) ?_
    refine t 9 (.int .u64 v) ?_
    refine t 10 (.func (.func 104) #[] #[pg g6, pg g2]) ?_
    refine tc 11 50 #[pg g, .int .u64 v, .func (.func 104) #[] #[pg g6, pg g2]] (all_nil X) ?_
    rintro _ v7 ⟨rfl, B⟩
    refine ⟨_, rfl, ?_⟩
    replace X := X.keep B
    replace BB := BB.trans (Chg.of (F := fun _ => False) B) (fun _ _ k => k.elim)
    replace LP := LP.trans (Lp.of B)
    replace Xg2 := Xg2.keep B
    replace Xg4 := Xg4.keep B
    replace Xg6 := Xg6.keep B
    clear B
    refine gl_nil ?_
    refine ge_then ?_
    refine gc_seq ?_
    refine gc_reg ?_
    refine tl 12 (.slice none 0 0) Xg6 0 ?_
    refine tc 13 58 #[.slice none 0 0] (pSum0) ?_
    rintro _ v9 ⟨aq8, kq8, dq8, bq8, lq8, eq8, rfl, Qq8, B⟩
    refine ⟨_, rfl, ?_⟩
    replace X := X.keep B
    replace BB := BB.trans (Chg.of (F := fun _ => False) B) (fun _ _ k => k.elim)
    replace LP := LP.trans (Lp.of B)
    replace Xg2 := Xg2.keep B
    replace Xg4 := Xg4.keep B
    replace Xg6 := Xg6.keep B
    clear B
    refine ts Xg4 0 (.agg #[.slice aq8 kq8 dq8, .slice bq8 lq8 eq8]) [.slice aq8 kq8 dq8, .slice bq8 lq8 eq8] [.slice aq8 kq8 dq8, .slice bq8 lq8 eq8] ?_
    intro v10 Y' C
    have P := Lp.z0 Xg4 C (by rfl)
    replace X := X.chg C (show g ≠ g4 by omega)
    replace BB := BB.trans C (fun b hb k => absurd hb (Nat.not_lt.2 ((show b = g4 from k) ▸ hbg4)))
    replace LP := LP.trans P
    replace Xg2 := Xg2.chg C (show g2 ≠ g4 by omega)
    replace Xg6 := Xg6.chg C (show g6 ≠ g4 by omega)
    replace Qq8 := Qq8.lp P
    clear C P Xg4
    have Xg4 := Y'
    clear Y'
    refine gl_nil ?_
    refine ge_then ?_
    refine gc_fr [(6, pg g4)] (by kernel_rfl) ?_
    refine gc_ret ?_
    refine ge_ret (.agg #[.slice aq8 kq8 dq8, .slice bq8 lq8 eq8]) (rsc 6 (T := 40) (by kernel_rfl) (by kernel_rfl) (lr Xg4 0)) ?_
    exact ⟨aq8, kq8, dq8, bq8, lq8, eq8, rfl, Qq8.is (by rfl), BB.nothing⟩
set_option maxHeartbeats 4000000 in
set_option maxRecDepth 100000 in
theorem lOwes {w : World} {g : Nat} {K : Nat → Prop} {S : St} {L : Nat} {v : Int} (hv : 0 ≤ v ∧ v < 18446744073709551616) (M : Lm w g K S) (hL : Fs S L) (hl : L ≤ 640000) (hn : S.length ≤ 100) : Calls Tryz.prog 29 #[pg g, .int .u64 v] w fun e w' => ∃ a n c b m d_, e = .returned (.agg #[.slice a n c, .slice b m d_]) ∧ RQ w' a n c b m d_ (sOwes S v) ∧ Below w.heap.size w w' := by
  have BB := Below.refl w.heap.size w
  refine gc_enter (n := 8) Tryz.func29 rfl (by kernel_rfl) (by kernel_rfl) ?_
  refine gc_seq ?_
  refine gc_reg ?_
  refine ta 4 [.slice none 0 0, .slice none 0 0] 40 (pg) ?_
  intro v1 g2 Xg2 hg2 B
  replace BB := joinB BB B
  clear B
  refine gl_nil ?_
  refine ge_then ?_
  refine gc_seq ?_
  refine gc_reg ?_
  refine t 5 (pg g) ?_
  refine t 6 (.int .u64 v) ?_
  refine tc 7 68 #[pg g, .int .u64 v, .func (.func 70) #[] #[]] (sumOwes hv (M.keep BB) hL hl hn) ?_
  rintro _ v4 ⟨aq3, kq3, dq3, bq3, lq3, eq3, rfl, Qq3, B⟩
  refine ⟨_, rfl, ?_⟩
  replace BB := joinB BB B
  replace Xg2 := Xg2.keep B
  clear B
  refine ts Xg2 0 (.agg #[.slice aq3 kq3 dq3, .slice bq3 lq3 eq3]) [.slice aq3 kq3 dq3, .slice bq3 lq3 eq3] [.slice aq3 kq3 dq3, .slice bq3 lq3 eq3] ?_
  intro v5 Y C
  replace BB := belowC BB C (by omega)
  replace Qq3 := Qq3.cg Xg2 C (by rfl)
  clear C Xg2
  have Xg2 := Y
  clear Y
  refine gl_nil ?_
  refine ge_then ?_
  refine gc_ret ?_
  refine ge_ret (.agg #[.slice aq3 kq3 dq3, .slice bq3 lq3 eq3]) (rsc 4 (T := 40) (by kernel_rfl) (by kernel_rfl) (lr Xg2 0)) ?_
  exact ⟨aq3, kq3, dq3, bq3, lq3, eq3, rfl, Qq3, BB⟩
set_option maxHeartbeats 4000000 in
set_option maxRecDepth 100000 in
theorem lGive {w : World} {g : Nat} {K : Nat → Prop} {S : St} {L : Nat} {v t_ : Int} (hv : 0 ≤ v ∧ v < 18446744073709551616) {ax : Option Addr} {nx cx : Nat} {x : Int} (Nx : NatA w ax nx cx x) (lx : nx ≤ 100) (ht : 0 ≤ t_ ∧ t_ < 18446744073709551616) (M : Lm w g K S) (hL : Fs S L) (hl : L ≤ 640000) (hn : S.length ≤ 100) : Calls Tryz.prog 12 #[pg g, .int .u64 v, .agg #[.slice ax nx cx], .int .u64 t_] w fun e w' => ∃ K', e = .returned (.tuple #[]) ∧ Lm w' g K' (sGive S v x t_) ∧ (∀ b, K' b → K b ∨ w.heap.size ≤ b) ∧ Chg K w w' ∧ Lp w w' := by
  rcases M with ⟨bm, clock, Ls, X, M, rfl, hU, rfl⟩ | ⟨X, rfl, rfl⟩
  · have hbm := lt_of_block M.ob
    have hml : ∀ m ∈ Ls, m.g < w.heap.size := fun m hm => (M.blk m hm).lt
    have hgl := X.lt
    have X0 := X
    have M0 := M
    have hG := fs_g M hL hl
    have hx0 := Nx.nonneg
    have hx1 := nat_lt Nx lx
    have x0 : 0 ≤ (x : Rat) / ((U36 : Int) : Rat) := fr_nn hx0 (by decide)
    have fx : Ft ((x : Rat) / ((U36 : Int) : Rat)) 6500 := ft_of (by decide) hx0 rfl (Int.lt_of_lt_of_le hx1 (by decide +kernel)) (by decide +kernel)
    have e1 := qv_nn (n := 1) (d := t_) (by decide) ht.1
    have e2 : Ft (qv 1 t_) 64 := qv_ft (by decide) (by decide) ⟨ht.1, by omega⟩
    have e0 : 0 ≤ ((x : Rat) / ((U36 : Int) : Rat)) * qv 1 t_ := Rat.mul_nonneg x0 e1
    have fe : Ft (((x : Rat) / ((U36 : Int) : Rat)) * qv 1 t_) 6600 := ft_up (ft_mul fx e2 x0 e1) (by decide)
    have BB := Below.refl w.heap.size w
    refine gc_enter (n := 17) Tryz.func12 rfl (by kernel_rfl) (by kernel_rfl) ?_
    clear BB
    have BB := Chg.refl (LK g bm Ls) w
    have LP := Lp.refl w
    refine gc_seq ?_
    refine gc_reg ?_
    have lX := X.lt
    refine ta 6 [.slice ax nx cx] 35 (pg) ?_
    intro v1 g2 Xg2 hg2 B
    have hbg2 := Nat.le_trans BB.size hg2
    replace X := X.keep B
    replace BB := BB.trans (Chg.of (F := fun _ => False) B) (fun _ _ k => k.elim)
    replace LP := LP.trans (Lp.of B)
    replace M := M.keep B
    clear B
    refine gl_nil ?_
    refine ge_then ?_
    refine gc_seq ?_
    refine gc_reg ?_
    refine tlr 9 [.slice ax nx cx] Xg2 0 ?_
    refine tc 10 36 #[.agg #[.slice ax nx cx]] (pOfDec (B := 2000000) (natK Nx X0 M0 BB) (by omega) (by omega) (by omega)) ?_
    rintro _ v4 ⟨aq3, kq3, dq3, bq3, lq3, eq3, rfl, Qq3, B⟩
    refine ⟨_, rfl, ?_⟩
    replace X := X.keep B
    replace BB := BB.trans (Chg.of (F := fun _ => False) B) (fun _ _ k => k.elim)
    replace LP := LP.trans (Lp.of B)
    replace M := M.keep B
    replace Xg2 := Xg2.keep B
    clear B
    refine t 11 (.int .u64 t_) ?_
    refine tc 12 49 #[.agg #[.slice aq3 kq3 dq3, .slice bq3 lq3 eq3], .int .u64 t_] (per_any Qq3 (ft_up fx (by decide)) ht) ?_
    rintro _ v6 ⟨aq5, kq5, dq5, bq5, lq5, eq5, rfl, Qq5, B⟩
    refine ⟨_, rfl, ?_⟩
    replace X := X.keep B
    replace BB := BB.trans (Chg.of (F := fun _ => False) B) (fun _ _ k => k.elim)
    replace LP := LP.trans (Lp.of B)
    replace M := M.keep B
    replace Xg2 := Xg2.keep B
    replace Qq3 := Qq3.keep B
    clear B
    have lX := X.lt
    have lXg2 := Xg2.lt
    refine ta 8 [.slice none 0 0, .slice none 0 0] 40 (pg) ?_
    intro v7 g8 Xg8 hg8 B
    have hbg8 := Nat.le_trans BB.size hg8
    replace X := X.keep B
    replace BB := BB.trans (Chg.of (F := fun _ => False) B) (fun _ _ k => k.elim)
    replace LP := LP.trans (Lp.of B)
    replace M := M.keep B
    replace Xg2 := Xg2.keep B
    replace Qq3 := Qq3.keep B
    replace Qq5 := Qq5.keep B
    clear B
    refine ts Xg8 0 (.agg #[.slice aq5 kq5 dq5, .slice bq5 lq5 eq5]) [.slice aq5 kq5 dq5, .slice bq5 lq5 eq5] [.slice aq5 kq5 dq5, .slice bq5 lq5 eq5] ?_
    intro v9 Y' C
    have P := Lp.z0 Xg8 C (by rfl)
    replace X := X.chg C (show g ≠ g8 by omega)
    replace BB := BB.trans C (fun b hb k => absurd hb (Nat.not_lt.2 ((show b = g8 from k) ▸ hbg8)))
    replace LP := LP.trans P
    replace M := M.off C P (fun e => absurd hbm (Nat.not_lt.2 ((show bm = g8 from e) ▸ hbg8))) (fun m hm e => absurd (hml m hm) (Nat.not_lt.2 ((show m.g = g8 from e) ▸ hbg8)))
    replace Xg2 := Xg2.chg C (show g2 ≠ g8 by omega)
    replace Qq3 := Qq3.lp P
    replace Qq5 := Qq5.lp P
    clear C P Xg8
    have Xg8 := Y'
    clear Y'
    refine gl_nil ?_
    refine ge_then ?_
    refine gc_reg ?_
    refine t 13 (pg g) ?_
    refine t 14 (.int .u64 v) ?_
    refine t 15 (.func (.func 51) #[] #[pg g8]) ?_
    refine tc 16 50 #[pg g, .int .u64 v, .func (.func 51) #[] #[pg g8]] (eGive X M Xg8 Qq5 fe e0 rfl hG) ?_
    rintro _ v10 ⟨L2, rfl, X2, M2, hS2, hN2, C, P⟩
    refine ⟨_, rfl, ?_⟩
    replace BB := BB.trans C (fun b _ k => .inr (.inr k))
    replace LP := LP.trans P
    clear X M
    have X := X2
    have M := M2
    clear X2 M2
    replace Xg2 := Xg2.chg C (fun k => by obtain ⟨m, hm, e⟩ := k; have := hml m hm; omega)
    replace Qq3 := Qq3.lp P
    replace Qq5 := Qq5.lp P
    replace Xg8 := Xg8.chg C (fun k => by obtain ⟨m, hm, e⟩ := k; have := hml m hm; omega)
    clear C P
    refine gl_nil ?_
    refine ge_end (.tuple #[]) (rs0 (by kernel_rfl)) ?_
    refine ⟨LK g bm Ls, rfl, .inl ⟨bm, clock, L2, X, M, ?_, un_on hU, (LK_n hN2).symm⟩, fun b h => .inl h, BB, LP⟩
    rw [hS2]
    unfold sGive
    congr 1
    funext s
    exact congrArg (fun y => (s.1, y, s.2.2)) (by grind)
  · have hgl := X.lt
    have X0 := X
    have hx0 := Nx.nonneg
    have hx1 := nat_lt Nx lx
    have x0 : 0 ≤ (x : Rat) / ((U36 : Int) : Rat) := fr_nn hx0 (by decide)
    have fx : Ft ((x : Rat) / ((U36 : Int) : Rat)) 6500 := ft_of (by decide) hx0 rfl (Int.lt_of_lt_of_le hx1 (by decide +kernel)) (by decide +kernel)
    have e1 := qv_nn (n := 1) (d := t_) (by decide) ht.1
    have e2 : Ft (qv 1 t_) 64 := qv_ft (by decide) (by decide) ⟨ht.1, by omega⟩
    have e0 : 0 ≤ ((x : Rat) / ((U36 : Int) : Rat)) * qv 1 t_ := Rat.mul_nonneg x0 e1
    have fe : Ft (((x : Rat) / ((U36 : Int) : Rat)) * qv 1 t_) 6600 := ft_up (ft_mul fx e2 x0 e1) (by decide)
    have BB := Below.refl w.heap.size w
    refine gc_enter (n := 17) Tryz.func12 rfl (by kernel_rfl) (by kernel_rfl) ?_
    clear BB
    have BB := Chg.refl (fun b => b = g) w
    have LP := Lp.refl w
    refine gc_seq ?_
    refine gc_reg ?_
    have lX := X.lt
    refine ta 6 [.slice ax nx cx] 35 (pg) ?_
    intro v1 g2 Xg2 hg2 B
    have hbg2 := Nat.le_trans BB.size hg2
    replace X := X.keep B
    replace BB := BB.trans (Chg.of (F := fun _ => False) B) (fun _ _ k => k.elim)
    replace LP := LP.trans (Lp.of B)
    clear B
    refine gl_nil ?_
    refine ge_then ?_
    refine gc_seq ?_
    refine gc_reg ?_
    refine tlr 9 [.slice ax nx cx] Xg2 0 ?_
    refine tc 10 36 #[.agg #[.slice ax nx cx]] (pOfDec (B := 2000000) (Nx.lp0 X0 BB) (by omega) (by omega) (by omega)) ?_
    rintro _ v4 ⟨aq3, kq3, dq3, bq3, lq3, eq3, rfl, Qq3, B⟩
    refine ⟨_, rfl, ?_⟩
    replace X := X.keep B
    replace BB := BB.trans (Chg.of (F := fun _ => False) B) (fun _ _ k => k.elim)
    replace LP := LP.trans (Lp.of B)
    replace Xg2 := Xg2.keep B
    clear B
    refine t 11 (.int .u64 t_) ?_
    refine tc 12 49 #[.agg #[.slice aq3 kq3 dq3, .slice bq3 lq3 eq3], .int .u64 t_] (per_any Qq3 (ft_up fx (by decide)) ht) ?_
    rintro _ v6 ⟨aq5, kq5, dq5, bq5, lq5, eq5, rfl, Qq5, B⟩
    refine ⟨_, rfl, ?_⟩
    replace X := X.keep B
    replace BB := BB.trans (Chg.of (F := fun _ => False) B) (fun _ _ k => k.elim)
    replace LP := LP.trans (Lp.of B)
    replace Xg2 := Xg2.keep B
    replace Qq3 := Qq3.keep B
    clear B
    have lX := X.lt
    have lXg2 := Xg2.lt
    refine ta 8 [.slice none 0 0, .slice none 0 0] 40 (pg) ?_
    intro v7 g8 Xg8 hg8 B
    have hbg8 := Nat.le_trans BB.size hg8
    replace X := X.keep B
    replace BB := BB.trans (Chg.of (F := fun _ => False) B) (fun _ _ k => k.elim)
    replace LP := LP.trans (Lp.of B)
    replace Xg2 := Xg2.keep B
    replace Qq3 := Qq3.keep B
    replace Qq5 := Qq5.keep B
    clear B
    refine ts Xg8 0 (.agg #[.slice aq5 kq5 dq5, .slice bq5 lq5 eq5]) [.slice aq5 kq5 dq5, .slice bq5 lq5 eq5] [.slice aq5 kq5 dq5, .slice bq5 lq5 eq5] ?_
    intro v9 Y' C
    have P := Lp.z0 Xg8 C (by rfl)
    replace X := X.chg C (show g ≠ g8 by omega)
    replace BB := BB.trans C (fun b hb k => absurd hb (Nat.not_lt.2 ((show b = g8 from k) ▸ hbg8)))
    replace LP := LP.trans P
    replace Xg2 := Xg2.chg C (show g2 ≠ g8 by omega)
    replace Qq3 := Qq3.lp P
    replace Qq5 := Qq5.lp P
    clear C P Xg8
    have Xg8 := Y'
    clear Y'
    refine gl_nil ?_
    refine ge_then ?_
    refine gc_reg ?_
    refine t 13 (pg g) ?_
    refine t 14 (.int .u64 v) ?_
    refine t 15 (.func (.func 51) #[] #[pg g8]) ?_
    refine tc 16 50 #[pg g, .int .u64 v, .func (.func 51) #[] #[pg g8]] (all_nil X) ?_
    rintro _ v10 ⟨rfl, B⟩
    refine ⟨_, rfl, ?_⟩
    replace X := X.keep B
    replace BB := BB.trans (Chg.of (F := fun _ => False) B) (fun _ _ k => k.elim)
    replace LP := LP.trans (Lp.of B)
    replace Xg2 := Xg2.keep B
    replace Qq3 := Qq3.keep B
    replace Qq5 := Qq5.keep B
    replace Xg8 := Xg8.keep B
    clear B
    refine gl_nil ?_
    refine ge_end (.tuple #[]) (rs0 (by kernel_rfl)) ?_
    exact ⟨(· = g), rfl, .inr ⟨X, rfl, rfl⟩, fun b h => .inl h, BB, LP⟩
set_option maxHeartbeats 4000000 in
set_option maxRecDepth 100000 in
theorem lCut {w : World} {g : Nat} {K : Nat → Prop} {S : St} {L : Nat} {v y z_ : Int} (hv : 0 ≤ v ∧ v < 18446744073709551616) (hy : 0 ≤ y ∧ y < 18446744073709551616) (hz : 0 ≤ z_ ∧ z_ < 18446744073709551616) (M : Lm w g K S) (hL : Fs S L) (hl : L ≤ 640000) (hn : S.length ≤ 100) : Calls Tryz.prog 21 #[pg g, .int .u64 v, .int .u64 y, .int .u64 z_] w fun e w' => ∃ K', e = .returned (.tuple #[]) ∧ Lm w' g K' (sCut S v y z_) ∧ (∀ b, K' b → K b ∨ w.heap.size ≤ b) ∧ Chg K w w' ∧ Lp w w' := by
  rcases M with ⟨bm, clock, Ls, X, M, rfl, hU, rfl⟩ | ⟨X, rfl, rfl⟩
  · have hbm := lt_of_block M.ob
    have hml : ∀ m ∈ Ls, m.g < w.heap.size := fun m hm => (M.blk m hm).lt
    have hgl := X.lt
    have X0 := X
    have M0 := M
    have hG := fs_g M hL hl
    have z0 : 0 ≤ ((z_ : Int) : Rat) := by rw [show ((z_ : Int) : Rat) = (z_ : Rat) / ((1 : Int) : Rat) by rw [show ((1 : Int) : Rat) = 1 by decide +kernel]; grind]; exact fr_nn hz.1 (by decide)
    have e1 := qv_nn (n := 1) (d := y) (by decide) hy.1
    have e2 : Ft (qv 1 y) 64 := qv_ft (by decide) (by decide) ⟨hy.1, by omega⟩
    have e0 : 0 ≤ ((z_ : Int) : Rat) * qv 1 y := Rat.mul_nonneg z0 e1
    have fe : Ft (((z_ : Int) : Rat) * qv 1 y) 6600 := ft_up (ft_mul (ft_n hz) e2 z0 e1) (by decide)
    have BB := Below.refl w.heap.size w
    refine gc_enter (n := 18) Tryz.func21 rfl (by kernel_rfl) (by kernel_rfl) ?_
    clear BB
    have BB := Chg.refl (LK g bm Ls) w
    have LP := Lp.refl w
    refine gc_seq ?_
    refine gc_reg ?_
    refine t 9 (.int .u64 z_) ?_
    refine tc 10 38 #[.int .u64 z_] (nOf (x := z_) (hz).1 (hz).2) ?_
    rintro _ v2 ⟨an1, kn1, dn1, rfl, Nn1, ln1, B⟩
    refine ⟨_, rfl, ?_⟩
    replace X := X.keep B
    replace BB := BB.trans (Chg.of (F := fun _ => False) B) (fun _ _ k => k.elim)
    replace LP := LP.trans (Lp.of B)
    replace M := M.keep B
    clear B
    refine tc 11 37 #[.slice an1 kn1 dn1] (pOfNat (B := 40) Nn1.a (by omega) (by omega) (by omega)) ?_
    rintro _ v4 ⟨aq3, kq3, dq3, bq3, lq3, eq3, rfl, Qq3, B⟩
    refine ⟨_, rfl, ?_⟩
    replace X := X.keep B
    replace BB := BB.trans (Chg.of (F := fun _ => False) B) (fun _ _ k => k.elim)
    replace LP := LP.trans (Lp.of B)
    replace M := M.keep B
    replace Nn1 := Nn1.keep B
    clear B
    refine t 12 (.int .u64 y) ?_
    refine tc 13 49 #[.agg #[.slice aq3 kq3 dq3, .slice bq3 lq3 eq3], .int .u64 y] (per_any Qq3 (ft_up (ft_n hz) (by decide)) hy) ?_
    rintro _ v6 ⟨aq5, kq5, dq5, bq5, lq5, eq5, rfl, Qq5, B⟩
    refine ⟨_, rfl, ?_⟩
    replace X := X.keep B
    replace BB := BB.trans (Chg.of (F := fun _ => False) B) (fun _ _ k => k.elim)
    replace LP := LP.trans (Lp.of B)
    replace M := M.keep B
    replace Nn1 := Nn1.keep B
    replace Qq3 := Qq3.keep B
    clear B
    have lX := X.lt
    refine ta 8 [.slice none 0 0, .slice none 0 0] 40 (pg) ?_
    intro v7 g8 Xg8 hg8 B
    have hbg8 := Nat.le_trans BB.size hg8
    replace X := X.keep B
    replace BB := BB.trans (Chg.of (F := fun _ => False) B) (fun _ _ k => k.elim)
    replace LP := LP.trans (Lp.of B)
    replace M := M.keep B
    replace Nn1 := Nn1.keep B
    replace Qq3 := Qq3.keep B
    replace Qq5 := Qq5.keep B
    clear B
    refine ts Xg8 0 (.agg #[.slice aq5 kq5 dq5, .slice bq5 lq5 eq5]) [.slice aq5 kq5 dq5, .slice bq5 lq5 eq5] [.slice aq5 kq5 dq5, .slice bq5 lq5 eq5] ?_
    intro v9 Y' C
    have P := Lp.z0 Xg8 C (by rfl)
    replace X := X.chg C (show g ≠ g8 by omega)
    replace BB := BB.trans C (fun b hb k => absurd hb (Nat.not_lt.2 ((show b = g8 from k) ▸ hbg8)))
    replace LP := LP.trans P
    replace M := M.off C P (fun e => absurd hbm (Nat.not_lt.2 ((show bm = g8 from e) ▸ hbg8))) (fun m hm e => absurd (hml m hm) (Nat.not_lt.2 ((show m.g = g8 from e) ▸ hbg8)))
    replace Nn1 := NatO.lp Nn1 P
    replace Qq3 := Qq3.lp P
    replace Qq5 := Qq5.lp P
    clear C P Xg8
    have Xg8 := Y'
    clear Y'
    refine gl_nil ?_
    refine ge_then ?_
    refine gc_reg ?_
    refine t 14 (pg g) ?_
    refine t 15 (.int .u64 v) ?_
    refine t 16 (.func (.func 67) #[] #[pg g8]) ?_
    refine tc 17 50 #[pg g, .int .u64 v, .func (.func 67) #[] #[pg g8]] (eCut X M Xg8 Qq5 fe e0 rfl hG) ?_
    rintro _ v10 ⟨L2, rfl, X2, M2, hS2, hN2, C, P⟩
    refine ⟨_, rfl, ?_⟩
    replace BB := BB.trans C (fun b _ k => .inr (.inr k))
    replace LP := LP.trans P
    clear X M
    have X := X2
    have M := M2
    clear X2 M2
    replace Qq3 := Qq3.lp P
    replace Qq5 := Qq5.lp P
    replace Xg8 := Xg8.chg C (fun k => by obtain ⟨m, hm, e⟩ := k; have := hml m hm; omega)
    clear C P
    refine gl_nil ?_
    refine ge_end (.tuple #[]) (rs0 (by kernel_rfl)) ?_
    refine ⟨LK g bm Ls, rfl, .inl ⟨bm, clock, L2, X, M, ?_, un_on hU, (LK_n hN2).symm⟩, fun b h => .inl h, BB, LP⟩
    rw [hS2]
    unfold sCut
    rw [← qv_one]
  · have hgl := X.lt
    have X0 := X
    have z0 : 0 ≤ ((z_ : Int) : Rat) := by rw [show ((z_ : Int) : Rat) = (z_ : Rat) / ((1 : Int) : Rat) by rw [show ((1 : Int) : Rat) = 1 by decide +kernel]; grind]; exact fr_nn hz.1 (by decide)
    have e1 := qv_nn (n := 1) (d := y) (by decide) hy.1
    have e2 : Ft (qv 1 y) 64 := qv_ft (by decide) (by decide) ⟨hy.1, by omega⟩
    have e0 : 0 ≤ ((z_ : Int) : Rat) * qv 1 y := Rat.mul_nonneg z0 e1
    have fe : Ft (((z_ : Int) : Rat) * qv 1 y) 6600 := ft_up (ft_mul (ft_n hz) e2 z0 e1) (by decide)
    have BB := Below.refl w.heap.size w
    refine gc_enter (n := 18) Tryz.func21 rfl (by kernel_rfl) (by kernel_rfl) ?_
    clear BB
    have BB := Chg.refl (fun b => b = g) w
    have LP := Lp.refl w
    refine gc_seq ?_
    refine gc_reg ?_
    refine t 9 (.int .u64 z_) ?_
    refine tc 10 38 #[.int .u64 z_] (nOf (x := z_) (hz).1 (hz).2) ?_
    rintro _ v2 ⟨an1, kn1, dn1, rfl, Nn1, ln1, B⟩
    refine ⟨_, rfl, ?_⟩
    replace X := X.keep B
    replace BB := BB.trans (Chg.of (F := fun _ => False) B) (fun _ _ k => k.elim)
    replace LP := LP.trans (Lp.of B)
    clear B
    refine tc 11 37 #[.slice an1 kn1 dn1] (pOfNat (B := 40) Nn1.a (by omega) (by omega) (by omega)) ?_
    rintro _ v4 ⟨aq3, kq3, dq3, bq3, lq3, eq3, rfl, Qq3, B⟩
    refine ⟨_, rfl, ?_⟩
    replace X := X.keep B
    replace BB := BB.trans (Chg.of (F := fun _ => False) B) (fun _ _ k => k.elim)
    replace LP := LP.trans (Lp.of B)
    replace Nn1 := Nn1.keep B
    clear B
    refine t 12 (.int .u64 y) ?_
    refine tc 13 49 #[.agg #[.slice aq3 kq3 dq3, .slice bq3 lq3 eq3], .int .u64 y] (per_any Qq3 (ft_up (ft_n hz) (by decide)) hy) ?_
    rintro _ v6 ⟨aq5, kq5, dq5, bq5, lq5, eq5, rfl, Qq5, B⟩
    refine ⟨_, rfl, ?_⟩
    replace X := X.keep B
    replace BB := BB.trans (Chg.of (F := fun _ => False) B) (fun _ _ k => k.elim)
    replace LP := LP.trans (Lp.of B)
    replace Nn1 := Nn1.keep B
    replace Qq3 := Qq3.keep B
    clear B
    have lX := X.lt
    refine ta 8 [.slice none 0 0, .slice none 0 0] 40 (pg) ?_
    intro v7 g8 Xg8 hg8 B
    have hbg8 := Nat.le_trans BB.size hg8
    replace X := X.keep B
    replace BB := BB.trans (Chg.of (F := fun _ => False) B) (fun _ _ k => k.elim)
    replace LP := LP.trans (Lp.of B)
    replace Nn1 := Nn1.keep B
    replace Qq3 := Qq3.keep B
    replace Qq5 := Qq5.keep B
    clear B
    refine ts Xg8 0 (.agg #[.slice aq5 kq5 dq5, .slice bq5 lq5 eq5]) [.slice aq5 kq5 dq5, .slice bq5 lq5 eq5] [.slice aq5 kq5 dq5, .slice bq5 lq5 eq5] ?_
    intro v9 Y' C
    have P := Lp.z0 Xg8 C (by rfl)
    replace X := X.chg C (show g ≠ g8 by omega)
    replace BB := BB.trans C (fun b hb k => absurd hb (Nat.not_lt.2 ((show b = g8 from k) ▸ hbg8)))
    replace LP := LP.trans P
    replace Nn1 := NatO.lp Nn1 P
    replace Qq3 := Qq3.lp P
    replace Qq5 := Qq5.lp P
    clear C P Xg8
    have Xg8 := Y'
    clear Y'
    refine gl_nil ?_
    refine ge_then ?_
    refine gc_reg ?_
    refine t 14 (pg g) ?_
    refine t 15 (.int .u64 v) ?_
    refine t 16 (.func (.func 67) #[] #[pg g8]) ?_
    refine tc 17 50 #[pg g, .int .u64 v, .func (.func 67) #[] #[pg g8]] (all_nil X) ?_
    rintro _ v10 ⟨rfl, B⟩
    refine ⟨_, rfl, ?_⟩
    replace X := X.keep B
    replace BB := BB.trans (Chg.of (F := fun _ => False) B) (fun _ _ k => k.elim)
    replace LP := LP.trans (Lp.of B)
    replace Nn1 := Nn1.keep B
    replace Qq3 := Qq3.keep B
    replace Qq5 := Qq5.keep B
    replace Xg8 := Xg8.keep B
    clear B
    refine gl_nil ?_
    refine ge_end (.tuple #[]) (rs0 (by kernel_rfl)) ?_
    exact ⟨(· = g), rfl, .inr ⟨X, rfl, rfl⟩, fun b h => .inl h, BB, LP⟩
set_option maxHeartbeats 4000000 in
set_option maxRecDepth 100000 in
theorem lStake {w : World} {g : Nat} {K : Nat → Prop} {S : St} {L : Nat} {v d : Int} (hv : 0 ≤ v ∧ v < 18446744073709551616) (hd : 0 ≤ d ∧ d < 18446744073709551616) (M : Lm w g K S) (hL : Fs S L) (hl : L ≤ 640000) (hn : S.length ≤ 100) : Calls Tryz.prog 23 #[pg g, .int .u64 v, .int .u64 d] w fun e w' => ∃ a n c b m d_, e = .returned (.agg #[.slice a n c, .slice b m d_]) ∧ RQ w' a n c b m d_ (sWorth S v d) ∧ Below w.heap.size w w' := by
  rcases M with ⟨bm, clock, Ls, X, M, rfl, hU, rfl⟩ | ⟨X, rfl, rfl⟩
  · have hbm := lt_of_block M.ob
    have hml : ∀ m ∈ Ls, m.g < w.heap.size := fun m hm => (M.blk m hm).lt
    have hgl := X.lt
    have X0 := X
    have M0 := M
    have hG := fs_g M hL hl
    rcases fndL Ls v d with hno | ⟨A, m, B, rfl, hy, hA⟩
    · have BB := Below.refl w.heap.size w
      refine gc_enter (n := 25) Tryz.func23 rfl (by kernel_rfl) (by kernel_rfl) ?_
      clear BB
      have BB := Chg.refl (fun _ => False) w
      have LP := Lp.refl w
      refine gc_seq ?_
      refine gc_reg ?_
      have lX := X.lt
      refine ta 6 [.slice none 0 0, .slice none 0 0] 40 (pg) ?_
      intro v1 g2 Xg2 hg2 B
      have hbg2 := Nat.le_trans BB.size hg2
      replace X := X.keep B
      replace BB := BB.trans (Chg.of (F := fun _ => False) B) (fun _ _ k => k.elim)
      replace LP := LP.trans (Lp.of B)
      replace M := M.keep B
      clear B
      refine gl_nil ?_
      refine ge_then ?_
      refine gc_seq ?_
      refine gc_reg ?_
      refine t 8 (pg g) ?_
      refine t 9 (pg g) ?_
      refine t 10 (pg g) ?_
      refine tl 11 (.map (some bm)) X 0 ?_
      refine t 12 (.int .u64 v) ?_
      refine t 13 (.int .u64 d) ?_
      refine t 14 (.agg #[.int .u64 v, .int .u64 d]) ?_
      refine tr 15 (.pointer none) (run_lkN M.ob (fm_N hno)) ?_
      refine t 7 (.pointer none) ?_
      refine gl_nil ?_
      refine ge_then ?_
      refine gc_fr [(6, pg g2), (7, .pointer none)] (by kernel_rfl) ?_
      refine gc_seq ?_
      refine gc_seq ?_
      refine gc_reg ?_
      refine t 16 (.pointer none) ?_
      refine t 17 (.bool true) ?_
      refine gl_nil ?_
      refine ge_then ?_
      refine gc_yes ?_
      refine gc_seq ?_
      refine gc_reg ?_
      refine tc 18 58 #[.slice none 0 0] (pSum0) ?_
      rintro _ v4 ⟨aq3, kq3, dq3, bq3, lq3, eq3, rfl, Qq3, B⟩
      refine ⟨_, rfl, ?_⟩
      replace X := X.keep B
      replace BB := BB.trans (Chg.of (F := fun _ => False) B) (fun _ _ k => k.elim)
      replace LP := LP.trans (Lp.of B)
      replace M := M.keep B
      replace Xg2 := Xg2.keep B
      clear B
      refine ts Xg2 0 (.agg #[.slice aq3 kq3 dq3, .slice bq3 lq3 eq3]) [.slice aq3 kq3 dq3, .slice bq3 lq3 eq3] [.slice aq3 kq3 dq3, .slice bq3 lq3 eq3] ?_
      intro v5 Y' C
      have P := Lp.z0 Xg2 C (by rfl)
      replace X := X.chg C (show g ≠ g2 by omega)
      replace BB := BB.trans C (fun b hb k => absurd hb (Nat.not_lt.2 ((show b = g2 from k) ▸ hbg2)))
      replace LP := LP.trans P
      replace M := M.off C P (fun e => absurd hbm (Nat.not_lt.2 ((show bm = g2 from e) ▸ hbg2))) (fun m hm e => absurd (hml m hm) (Nat.not_lt.2 ((show m.g = g2 from e) ▸ hbg2)))
      replace Qq3 := Qq3.lp P
      clear C P Xg2
      have Xg2 := Y'
      clear Y'
      refine gl_nil ?_
      refine ge_then ?_
      refine gc_ret ?_
      refine ge_tr ?_
      refine ge_ret (.agg #[.slice aq3 kq3 dq3, .slice bq3 lq3 eq3]) (rsc 6 (T := 40) (by kernel_rfl) (by kernel_rfl) (lr Xg2 0)) ?_
      exact ⟨aq3, kq3, dq3, bq3, lq3, eq3, rfl, Qq3.is (by unfold sWorth; rw [get_N hno]), BB.nothing⟩
    · obtain ⟨mv, md, mg, mb, ⟨wa, wn, wc, wb, wm, wd⟩, ⟨oa, on, oc, ob, om, od⟩, mr, mo, mp, mk⟩ := m
      have hmem : (⟨mv, md, mg, mb, (wa, wn, wc, wb, wm, wd), (oa, on, oc, ob, om, od), mr, mo, mp, mk⟩ : Ms) ∈ A ++ (⟨mv, md, mg, mb, (wa, wn, wc, wb, wm, wd), (oa, on, oc, ob, om, od), mr, mo, mp, mk⟩ : Ms) :: B := by simp
      have BB := Below.refl w.heap.size w
      refine gc_enter (n := 25) Tryz.func23 rfl (by kernel_rfl) (by kernel_rfl) ?_
      clear BB
      have BB := Chg.refl (fun _ => False) w
      have LP := Lp.refl w
      have XM : Blk _ mg [.slice wa wn wc, .slice wb wm wd, .slice oa on oc, .slice ob om od, .int .i64 mp, .int .i64 mk] 79 := M.blk _ hmem
      have QW : RZ _ wa wn wc wb wm wd mr := (M.q _ hmem).1
      have QO : RZ _ oa on oc ob om od mo := (M.q _ hmem).2
      refine gc_seq ?_
      refine gc_reg ?_
      have lX := X.lt
      have lXM := XM.lt
      refine ta 6 [.slice none 0 0, .slice none 0 0] 40 (pg) ?_
      intro v1 g2 Xg2 hg2 B
      have hbg2 := Nat.le_trans BB.size hg2
      replace X := X.keep B
      replace BB := BB.trans (Chg.of (F := fun _ => False) B) (fun _ _ k => k.elim)
      replace LP := LP.trans (Lp.of B)
      replace M := M.keep B
      replace XM := XM.keep B
      replace QW := QW.keep B
      replace QO := QO.keep B
      clear B
      refine gl_nil ?_
      refine ge_then ?_
      refine gc_seq ?_
      refine gc_reg ?_
      refine t 8 (pg g) ?_
      refine t 9 (pg g) ?_
      refine t 10 (pg g) ?_
      refine tl 11 (.map (some bm)) X 0 ?_
      refine t 12 (.int .u64 v) ?_
      refine t 13 (.int .u64 d) ?_
      refine t 14 (.agg #[.int .u64 v, .int .u64 d]) ?_
      refine tr 15 (pg mg) (run_lkY mg M.ob (fm_Y hy hA)) ?_
      refine t 7 (pg mg) ?_
      refine gl_nil ?_
      refine ge_then ?_
      refine gc_fr [(6, pg g2), (7, pg mg)] (by kernel_rfl) ?_
      refine gc_seq ?_
      refine gc_seq ?_
      refine gc_reg ?_
      refine t 16 (pg mg) ?_
      refine t 17 (.bool false) ?_
      refine gl_nil ?_
      refine ge_then ?_
      refine gc_no ?_
      refine gc_skip ?_
      refine ge_then ?_
      refine gc_seq ?_
      refine gc_reg ?_
      refine t 19 (pg mg) ?_
      refine t 20 (pg mg) ?_
      refine t 21 (pg mg) ?_
      refine tlr 22 [.slice wa wn wc, .slice wb wm wd] XM 0 ?_
      have lX := X.lt
      have lXM := XM.lt
      have lXg2 := Xg2.lt
      refine ta 23 [.slice wa wn wc, .slice wb wm wd] 40 (sg 1) ?_
      intro v3 g4 Xg4 hg4 B
      have hbg4 := Nat.le_trans BB.size hg4
      replace X := X.keep B
      replace BB := BB.trans (Chg.of (F := fun _ => False) B) (fun _ _ k => k.elim)
      replace LP := LP.trans (Lp.of B)
      replace M := M.keep B
      replace XM := XM.keep B
      replace QW := QW.keep B
      replace QO := QO.keep B
      replace Xg2 := Xg2.keep B
      clear B
      refine tc 24 58 #[sg 1 g4] (pSum1 (B := 10000) (v := (wa, wn, wc, wb, wm, wd)) Xg4 QW (hG _ hmem).1.2 (by decide)) ?_
      rintro _ v6 ⟨aq5, kq5, dq5, bq5, lq5, eq5, rfl, Qq5, B⟩
      refine ⟨_, rfl, ?_⟩
      replace X := X.keep B
      replace BB := BB.trans (Chg.of (F := fun _ => False) B) (fun _ _ k => k.elim)
      replace LP := LP.trans (Lp.of B)
      replace M := M.keep B
      replace XM := XM.keep B
      replace QW := QW.keep B
      replace QO := QO.keep B
      replace Xg2 := Xg2.keep B
      replace Xg4 := Xg4.keep B
      clear B
      refine ts Xg2 0 (.agg #[.slice aq5 kq5 dq5, .slice bq5 lq5 eq5]) [.slice aq5 kq5 dq5, .slice bq5 lq5 eq5] [.slice aq5 kq5 dq5, .slice bq5 lq5 eq5] ?_
      intro v7 Y' C
      have P := Lp.z0 Xg2 C (by rfl)
      replace X := X.chg C (show g ≠ g2 by omega)
      replace BB := BB.trans C (fun b hb k => absurd hb (Nat.not_lt.2 ((show b = g2 from k) ▸ hbg2)))
      replace LP := LP.trans P
      replace M := M.off C P (fun e => absurd hbm (Nat.not_lt.2 ((show bm = g2 from e) ▸ hbg2))) (fun m hm e => absurd (hml m hm) (Nat.not_lt.2 ((show m.g = g2 from e) ▸ hbg2)))
      replace XM := XM.chg C (show mg ≠ g2 by omega)
      replace QW := QW.lp P
      replace QO := QO.lp P
      replace Xg4 := Xg4.chg C (show g4 ≠ g2 by omega)
      replace Qq5 := Qq5.lp P
      clear C P Xg2
      have Xg2 := Y'
      clear Y'
      refine gl_nil ?_
      refine ge_then ?_
      refine gc_ret ?_
      refine ge_ret (.agg #[.slice aq5 kq5 dq5, .slice bq5 lq5 eq5]) (rsc 6 (T := 40) (by kernel_rfl) (by kernel_rfl) (lr Xg2 0)) ?_
      exact ⟨aq5, kq5, dq5, bq5, lq5, eq5, rfl, Qq5.is (by unfold sWorth; rw [get_Y hy hA]), BB.nothing⟩
  · have hgl := X.lt
    have X0 := X
    have BB := Below.refl w.heap.size w
    refine gc_enter (n := 25) Tryz.func23 rfl (by kernel_rfl) (by kernel_rfl) ?_
    clear BB
    have BB := Chg.refl (fun _ => False) w
    have LP := Lp.refl w
    refine gc_seq ?_
    refine gc_reg ?_
    have lX := X.lt
    refine ta 6 [.slice none 0 0, .slice none 0 0] 40 (pg) ?_
    intro v1 g2 Xg2 hg2 B
    have hbg2 := Nat.le_trans BB.size hg2
    replace X := X.keep B
    replace BB := BB.trans (Chg.of (F := fun _ => False) B) (fun _ _ k => k.elim)
    replace LP := LP.trans (Lp.of B)
    clear B
    refine gl_nil ?_
    refine ge_then ?_
    refine gc_seq ?_
    refine gc_reg ?_
    refine t 8 (pg g) ?_
    refine t 9 (pg g) ?_
    refine t 10 (pg g) ?_
    refine tl 11 (.map none) X 0 ?_
    refine t 12 (.int .u64 v) ?_
    refine t 13 (.int .u64 d) ?_
    refine t 14 (.agg #[.int .u64 v, .int .u64 d]) ?_
    refine tr 15 (.pointer none) (run_lk0 (v := v) (d := d)) ?_
    refine t 7 (.pointer none) ?_
    refine gl_nil ?_
    refine ge_then ?_
    refine gc_fr [(6, pg g2), (7, .pointer none)] (by kernel_rfl) ?_
    refine gc_seq ?_
    refine gc_seq ?_
    refine gc_reg ?_
    refine t 16 (.pointer none) ?_
    refine t 17 (.bool true) ?_
    refine gl_nil ?_
    refine ge_then ?_
    refine gc_yes ?_
    refine gc_seq ?_
    refine gc_reg ?_
    refine tc 18 58 #[.slice none 0 0] (pSum0) ?_
    rintro _ v4 ⟨aq3, kq3, dq3, bq3, lq3, eq3, rfl, Qq3, B⟩
    refine ⟨_, rfl, ?_⟩
    replace X := X.keep B
    replace BB := BB.trans (Chg.of (F := fun _ => False) B) (fun _ _ k => k.elim)
    replace LP := LP.trans (Lp.of B)
    replace Xg2 := Xg2.keep B
    clear B
    refine ts Xg2 0 (.agg #[.slice aq3 kq3 dq3, .slice bq3 lq3 eq3]) [.slice aq3 kq3 dq3, .slice bq3 lq3 eq3] [.slice aq3 kq3 dq3, .slice bq3 lq3 eq3] ?_
    intro v5 Y' C
    have P := Lp.z0 Xg2 C (by rfl)
    replace X := X.chg C (show g ≠ g2 by omega)
    replace BB := BB.trans C (fun b hb k => absurd hb (Nat.not_lt.2 ((show b = g2 from k) ▸ hbg2)))
    replace LP := LP.trans P
    replace Qq3 := Qq3.lp P
    clear C P Xg2
    have Xg2 := Y'
    clear Y'
    refine gl_nil ?_
    refine ge_then ?_
    refine gc_ret ?_
    refine ge_tr ?_
    refine ge_ret (.agg #[.slice aq3 kq3 dq3, .slice bq3 lq3 eq3]) (rsc 6 (T := 40) (by kernel_rfl) (by kernel_rfl) (lr Xg2 0)) ?_
    exact ⟨aq3, kq3, dq3, bq3, lq3, eq3, rfl, Qq3.is (by rfl), BB.nothing⟩
set_option maxHeartbeats 4000000 in
set_option maxRecDepth 100000 in
theorem lOwed {w : World} {g : Nat} {K : Nat → Prop} {S : St} {L : Nat} {v d : Int} (hv : 0 ≤ v ∧ v < 18446744073709551616) (hd : 0 ≤ d ∧ d < 18446744073709551616) (M : Lm w g K S) (hL : Fs S L) (hl : L ≤ 640000) (hn : S.length ≤ 100) : Calls Tryz.prog 25 #[pg g, .int .u64 v, .int .u64 d] w fun e w' => ∃ a n c b m d_, e = .returned (.agg #[.slice a n c, .slice b m d_]) ∧ RQ w' a n c b m d_ (sOwed S v d) ∧ Below w.heap.size w w' := by
  rcases M with ⟨bm, clock, Ls, X, M, rfl, hU, rfl⟩ | ⟨X, rfl, rfl⟩
  · have hbm := lt_of_block M.ob
    have hml : ∀ m ∈ Ls, m.g < w.heap.size := fun m hm => (M.blk m hm).lt
    have hgl := X.lt
    have X0 := X
    have M0 := M
    have hG := fs_g M hL hl
    rcases fndL Ls v d with hno | ⟨A, m, B, rfl, hy, hA⟩
    · have BB := Below.refl w.heap.size w
      refine gc_enter (n := 25) Tryz.func25 rfl (by kernel_rfl) (by kernel_rfl) ?_
      clear BB
      have BB := Chg.refl (fun _ => False) w
      have LP := Lp.refl w
      refine gc_seq ?_
      refine gc_reg ?_
      have lX := X.lt
      refine ta 6 [.slice none 0 0, .slice none 0 0] 40 (pg) ?_
      intro v1 g2 Xg2 hg2 B
      have hbg2 := Nat.le_trans BB.size hg2
      replace X := X.keep B
      replace BB := BB.trans (Chg.of (F := fun _ => False) B) (fun _ _ k => k.elim)
      replace LP := LP.trans (Lp.of B)
      replace M := M.keep B
      clear B
      refine gl_nil ?_
      refine ge_then ?_
      refine gc_seq ?_
      refine gc_reg ?_
      refine t 8 (pg g) ?_
      refine t 9 (pg g) ?_
      refine t 10 (pg g) ?_
      refine tl 11 (.map (some bm)) X 0 ?_
      refine t 12 (.int .u64 v) ?_
      refine t 13 (.int .u64 d) ?_
      refine t 14 (.agg #[.int .u64 v, .int .u64 d]) ?_
      refine tr 15 (.pointer none) (run_lkN M.ob (fm_N hno)) ?_
      refine t 7 (.pointer none) ?_
      refine gl_nil ?_
      refine ge_then ?_
      refine gc_fr [(6, pg g2), (7, .pointer none)] (by kernel_rfl) ?_
      refine gc_seq ?_
      refine gc_seq ?_
      refine gc_reg ?_
      refine t 16 (.pointer none) ?_
      refine t 17 (.bool true) ?_
      refine gl_nil ?_
      refine ge_then ?_
      refine gc_yes ?_
      refine gc_seq ?_
      refine gc_reg ?_
      refine tc 18 58 #[.slice none 0 0] (pSum0) ?_
      rintro _ v4 ⟨aq3, kq3, dq3, bq3, lq3, eq3, rfl, Qq3, B⟩
      refine ⟨_, rfl, ?_⟩
      replace X := X.keep B
      replace BB := BB.trans (Chg.of (F := fun _ => False) B) (fun _ _ k => k.elim)
      replace LP := LP.trans (Lp.of B)
      replace M := M.keep B
      replace Xg2 := Xg2.keep B
      clear B
      refine ts Xg2 0 (.agg #[.slice aq3 kq3 dq3, .slice bq3 lq3 eq3]) [.slice aq3 kq3 dq3, .slice bq3 lq3 eq3] [.slice aq3 kq3 dq3, .slice bq3 lq3 eq3] ?_
      intro v5 Y' C
      have P := Lp.z0 Xg2 C (by rfl)
      replace X := X.chg C (show g ≠ g2 by omega)
      replace BB := BB.trans C (fun b hb k => absurd hb (Nat.not_lt.2 ((show b = g2 from k) ▸ hbg2)))
      replace LP := LP.trans P
      replace M := M.off C P (fun e => absurd hbm (Nat.not_lt.2 ((show bm = g2 from e) ▸ hbg2))) (fun m hm e => absurd (hml m hm) (Nat.not_lt.2 ((show m.g = g2 from e) ▸ hbg2)))
      replace Qq3 := Qq3.lp P
      clear C P Xg2
      have Xg2 := Y'
      clear Y'
      refine gl_nil ?_
      refine ge_then ?_
      refine gc_ret ?_
      refine ge_tr ?_
      refine ge_ret (.agg #[.slice aq3 kq3 dq3, .slice bq3 lq3 eq3]) (rsc 6 (T := 40) (by kernel_rfl) (by kernel_rfl) (lr Xg2 0)) ?_
      exact ⟨aq3, kq3, dq3, bq3, lq3, eq3, rfl, Qq3.is (by unfold sOwed; rw [get_N hno]), BB.nothing⟩
    · obtain ⟨mv, md, mg, mb, ⟨wa, wn, wc, wb, wm, wd⟩, ⟨oa, on, oc, ob, om, od⟩, mr, mo, mp, mk⟩ := m
      have hmem : (⟨mv, md, mg, mb, (wa, wn, wc, wb, wm, wd), (oa, on, oc, ob, om, od), mr, mo, mp, mk⟩ : Ms) ∈ A ++ (⟨mv, md, mg, mb, (wa, wn, wc, wb, wm, wd), (oa, on, oc, ob, om, od), mr, mo, mp, mk⟩ : Ms) :: B := by simp
      have BB := Below.refl w.heap.size w
      refine gc_enter (n := 25) Tryz.func25 rfl (by kernel_rfl) (by kernel_rfl) ?_
      clear BB
      have BB := Chg.refl (fun _ => False) w
      have LP := Lp.refl w
      have XM : Blk _ mg [.slice wa wn wc, .slice wb wm wd, .slice oa on oc, .slice ob om od, .int .i64 mp, .int .i64 mk] 79 := M.blk _ hmem
      have QW : RZ _ wa wn wc wb wm wd mr := (M.q _ hmem).1
      have QO : RZ _ oa on oc ob om od mo := (M.q _ hmem).2
      refine gc_seq ?_
      refine gc_reg ?_
      have lX := X.lt
      have lXM := XM.lt
      refine ta 6 [.slice none 0 0, .slice none 0 0] 40 (pg) ?_
      intro v1 g2 Xg2 hg2 B
      have hbg2 := Nat.le_trans BB.size hg2
      replace X := X.keep B
      replace BB := BB.trans (Chg.of (F := fun _ => False) B) (fun _ _ k => k.elim)
      replace LP := LP.trans (Lp.of B)
      replace M := M.keep B
      replace XM := XM.keep B
      replace QW := QW.keep B
      replace QO := QO.keep B
      clear B
      refine gl_nil ?_
      refine ge_then ?_
      refine gc_seq ?_
      refine gc_reg ?_
      refine t 8 (pg g) ?_
      refine t 9 (pg g) ?_
      refine t 10 (pg g) ?_
      refine tl 11 (.map (some bm)) X 0 ?_
      refine t 12 (.int .u64 v) ?_
      refine t 13 (.int .u64 d) ?_
      refine t 14 (.agg #[.int .u64 v, .int .u64 d]) ?_
      refine tr 15 (pg mg) (run_lkY mg M.ob (fm_Y hy hA)) ?_
      refine t 7 (pg mg) ?_
      refine gl_nil ?_
      refine ge_then ?_
      refine gc_fr [(6, pg g2), (7, pg mg)] (by kernel_rfl) ?_
      refine gc_seq ?_
      refine gc_seq ?_
      refine gc_reg ?_
      refine t 16 (pg mg) ?_
      refine t 17 (.bool false) ?_
      refine gl_nil ?_
      refine ge_then ?_
      refine gc_no ?_
      refine gc_skip ?_
      refine ge_then ?_
      refine gc_seq ?_
      refine gc_reg ?_
      refine t 19 (pg mg) ?_
      refine t 20 (pg mg) ?_
      refine t 21 (pq mg 2) ?_
      refine tlr 22 [.slice oa on oc, .slice ob om od] XM 2 ?_
      have lX := X.lt
      have lXM := XM.lt
      have lXg2 := Xg2.lt
      refine ta 23 [.slice oa on oc, .slice ob om od] 40 (sg 1) ?_
      intro v3 g4 Xg4 hg4 B
      have hbg4 := Nat.le_trans BB.size hg4
      replace X := X.keep B
      replace BB := BB.trans (Chg.of (F := fun _ => False) B) (fun _ _ k => k.elim)
      replace LP := LP.trans (Lp.of B)
      replace M := M.keep B
      replace XM := XM.keep B
      replace QW := QW.keep B
      replace QO := QO.keep B
      replace Xg2 := Xg2.keep B
      clear B
      refine tc 24 58 #[sg 1 g4] (pSum1 (B := 10000) (v := (oa, on, oc, ob, om, od)) Xg4 QO (hG _ hmem).2.1 (by decide)) ?_
      rintro _ v6 ⟨aq5, kq5, dq5, bq5, lq5, eq5, rfl, Qq5, B⟩
      refine ⟨_, rfl, ?_⟩
      replace X := X.keep B
      replace BB := BB.trans (Chg.of (F := fun _ => False) B) (fun _ _ k => k.elim)
      replace LP := LP.trans (Lp.of B)
      replace M := M.keep B
      replace XM := XM.keep B
      replace QW := QW.keep B
      replace QO := QO.keep B
      replace Xg2 := Xg2.keep B
      replace Xg4 := Xg4.keep B
      clear B
      refine ts Xg2 0 (.agg #[.slice aq5 kq5 dq5, .slice bq5 lq5 eq5]) [.slice aq5 kq5 dq5, .slice bq5 lq5 eq5] [.slice aq5 kq5 dq5, .slice bq5 lq5 eq5] ?_
      intro v7 Y' C
      have P := Lp.z0 Xg2 C (by rfl)
      replace X := X.chg C (show g ≠ g2 by omega)
      replace BB := BB.trans C (fun b hb k => absurd hb (Nat.not_lt.2 ((show b = g2 from k) ▸ hbg2)))
      replace LP := LP.trans P
      replace M := M.off C P (fun e => absurd hbm (Nat.not_lt.2 ((show bm = g2 from e) ▸ hbg2))) (fun m hm e => absurd (hml m hm) (Nat.not_lt.2 ((show m.g = g2 from e) ▸ hbg2)))
      replace XM := XM.chg C (show mg ≠ g2 by omega)
      replace QW := QW.lp P
      replace QO := QO.lp P
      replace Xg4 := Xg4.chg C (show g4 ≠ g2 by omega)
      replace Qq5 := Qq5.lp P
      clear C P Xg2
      have Xg2 := Y'
      clear Y'
      refine gl_nil ?_
      refine ge_then ?_
      refine gc_ret ?_
      refine ge_ret (.agg #[.slice aq5 kq5 dq5, .slice bq5 lq5 eq5]) (rsc 6 (T := 40) (by kernel_rfl) (by kernel_rfl) (lr Xg2 0)) ?_
      exact ⟨aq5, kq5, dq5, bq5, lq5, eq5, rfl, Qq5.is (by unfold sOwed; rw [get_Y hy hA]), BB.nothing⟩
  · have hgl := X.lt
    have X0 := X
    have BB := Below.refl w.heap.size w
    refine gc_enter (n := 25) Tryz.func25 rfl (by kernel_rfl) (by kernel_rfl) ?_
    clear BB
    have BB := Chg.refl (fun _ => False) w
    have LP := Lp.refl w
    refine gc_seq ?_
    refine gc_reg ?_
    have lX := X.lt
    refine ta 6 [.slice none 0 0, .slice none 0 0] 40 (pg) ?_
    intro v1 g2 Xg2 hg2 B
    have hbg2 := Nat.le_trans BB.size hg2
    replace X := X.keep B
    replace BB := BB.trans (Chg.of (F := fun _ => False) B) (fun _ _ k => k.elim)
    replace LP := LP.trans (Lp.of B)
    clear B
    refine gl_nil ?_
    refine ge_then ?_
    refine gc_seq ?_
    refine gc_reg ?_
    refine t 8 (pg g) ?_
    refine t 9 (pg g) ?_
    refine t 10 (pg g) ?_
    refine tl 11 (.map none) X 0 ?_
    refine t 12 (.int .u64 v) ?_
    refine t 13 (.int .u64 d) ?_
    refine t 14 (.agg #[.int .u64 v, .int .u64 d]) ?_
    refine tr 15 (.pointer none) (run_lk0 (v := v) (d := d)) ?_
    refine t 7 (.pointer none) ?_
    refine gl_nil ?_
    refine ge_then ?_
    refine gc_fr [(6, pg g2), (7, .pointer none)] (by kernel_rfl) ?_
    refine gc_seq ?_
    refine gc_seq ?_
    refine gc_reg ?_
    refine t 16 (.pointer none) ?_
    refine t 17 (.bool true) ?_
    refine gl_nil ?_
    refine ge_then ?_
    refine gc_yes ?_
    refine gc_seq ?_
    refine gc_reg ?_
    refine tc 18 58 #[.slice none 0 0] (pSum0) ?_
    rintro _ v4 ⟨aq3, kq3, dq3, bq3, lq3, eq3, rfl, Qq3, B⟩
    refine ⟨_, rfl, ?_⟩
    replace X := X.keep B
    replace BB := BB.trans (Chg.of (F := fun _ => False) B) (fun _ _ k => k.elim)
    replace LP := LP.trans (Lp.of B)
    replace Xg2 := Xg2.keep B
    clear B
    refine ts Xg2 0 (.agg #[.slice aq3 kq3 dq3, .slice bq3 lq3 eq3]) [.slice aq3 kq3 dq3, .slice bq3 lq3 eq3] [.slice aq3 kq3 dq3, .slice bq3 lq3 eq3] ?_
    intro v5 Y' C
    have P := Lp.z0 Xg2 C (by rfl)
    replace X := X.chg C (show g ≠ g2 by omega)
    replace BB := BB.trans C (fun b hb k => absurd hb (Nat.not_lt.2 ((show b = g2 from k) ▸ hbg2)))
    replace LP := LP.trans P
    replace Qq3 := Qq3.lp P
    clear C P Xg2
    have Xg2 := Y'
    clear Y'
    refine gl_nil ?_
    refine ge_then ?_
    refine gc_ret ?_
    refine ge_tr ?_
    refine ge_ret (.agg #[.slice aq3 kq3 dq3, .slice bq3 lq3 eq3]) (rsc 6 (T := 40) (by kernel_rfl) (by kernel_rfl) (lr Xg2 0)) ?_
    exact ⟨aq3, kq3, dq3, bq3, lq3, eq3, rfl, Qq3.is (by rfl), BB.nothing⟩
set_option maxHeartbeats 4000000 in
set_option maxRecDepth 100000 in
theorem lDrop {w : World} {g : Nat} {K : Nat → Prop} {S : St} {L : Nat} {v d : Int} (hv : 0 ≤ v ∧ v < 18446744073709551616) (hd : 0 ≤ d ∧ d < 18446744073709551616) (M : Lm w g K S) (hL : Fs S L) (hl : L ≤ 640000) (hn : S.length ≤ 100) : Calls Tryz.prog 19 #[pg g, .int .u64 v, .int .u64 d] w fun e w' => ∃ K', e = .returned (.tuple #[]) ∧ Lm w' g K' (sDrop S v d) ∧ (∀ b, K' b → K b ∨ w.heap.size ≤ b) ∧ Chg K w w' ∧ Lp w w' := by
  rcases M with ⟨bm, clock, Ls, X, M, rfl, hU, rfl⟩ | ⟨X, rfl, rfl⟩
  · have hbm := lt_of_block M.ob
    have hml : ∀ m ∈ Ls, m.g < w.heap.size := fun m hm => (M.blk m hm).lt
    have hgl := X.lt
    have X0 := X
    have M0 := M
    rcases fndL Ls v d with hno | ⟨A, m, B, rfl, hy, hA⟩
    · have BB := Below.refl w.heap.size w
      refine gc_enter (n := 13) Tryz.func19 rfl (by kernel_rfl) (by kernel_rfl) ?_
      clear BB
      have BB := Chg.refl (LK g bm Ls) w
      have LP := Lp.refl w
      refine gc_reg ?_
      refine t 6 (pg g) ?_
      refine t 7 (pg g) ?_
      refine t 8 (pg g) ?_
      refine tl 9 (.map (some bm)) X 0 ?_
      refine t 10 (.int .u64 v) ?_
      refine t 11 (.int .u64 d) ?_
      refine t 12 (.agg #[.int .u64 v, .int .u64 d]) ?_
      refine tdel (v := v) (d := d) (L' := (Ls).map Ms.n) M.ob (by rw [fm_N hno]) ?_
      intro v1 hob C
      have P := M.lpm C
      replace X := X.chg C (M.ne X (by decide)).1.symm
      replace BB := BB.trans C (fun b _ k => .inr (.inl k))
      replace LP := LP.trans P
      replace M := M.re C hob
      refine gl_nil ?_
      refine ge_end (.tuple #[]) (rs0 (by kernel_rfl)) ?_
      exact ⟨LK g bm Ls, rfl, .inl ⟨bm, clock, Ls, X, M, drop_non hno, un_drop hU, rfl⟩, fun b h => .inl h, BB, LP⟩
    · obtain ⟨mv, md, mg, mb, ⟨wa, wn, wc, wb, wm, wd⟩, ⟨oa, on, oc, ob, om, od⟩, mr, mo, mp, mk⟩ := m
      have hmem : (⟨mv, md, mg, mb, (wa, wn, wc, wb, wm, wd), (oa, on, oc, ob, om, od), mr, mo, mp, mk⟩ : Ms) ∈ A ++ (⟨mv, md, mg, mb, (wa, wn, wc, wb, wm, wd), (oa, on, oc, ob, om, od), mr, mo, mp, mk⟩ : Ms) :: B := by simp
      have BB := Below.refl w.heap.size w
      refine gc_enter (n := 13) Tryz.func19 rfl (by kernel_rfl) (by kernel_rfl) ?_
      clear BB
      have BB := Chg.refl (LK g bm (A ++ (⟨mv, md, mg, mb, (wa, wn, wc, wb, wm, wd), (oa, on, oc, ob, om, od), mr, mo, mp, mk⟩ : Ms) :: B)) w
      have LP := Lp.refl w
      refine gc_reg ?_
      refine t 6 (pg g) ?_
      refine t 7 (pg g) ?_
      refine t 8 (pg g) ?_
      refine tl 9 (.map (some bm)) X 0 ?_
      refine t 10 (.int .u64 v) ?_
      refine t 11 (.int .u64 d) ?_
      refine t 12 (.agg #[.int .u64 v, .int .u64 d]) ?_
      refine tdel (v := v) (d := d) (L' := (A ++ B).map Ms.n) M.ob (by rw [fm_Y hy hA]; exact era_mid) ?_
      intro v1 hob C
      have P := M.lpm C
      replace X := X.chg C (M.ne X (by decide)).1.symm
      replace BB := BB.trans C (fun b _ k => .inr (.inl k))
      replace LP := LP.trans P
      replace M := M.del C hob
      refine gl_nil ?_
      refine ge_end (.tuple #[]) (rs0 (by kernel_rfl)) ?_
      exact ⟨LK g bm (A ++ B), rfl, .inl ⟨bm, clock, A ++ B, X, M, (drop_eq hU hy).symm, un_drop hU, rfl⟩, fun b h => .inl (h.imp id (Or.imp id fun ⟨x, hx, e⟩ => ⟨x, by rcases List.mem_append.1 hx with k | k; exact List.mem_append.2 (.inl k); exact List.mem_append.2 (.inr (List.mem_cons_of_mem _ k)), e⟩)), BB, LP⟩
  · have hgl := X.lt
    have X0 := X
    have BB := Below.refl w.heap.size w
    refine gc_enter (n := 13) Tryz.func19 rfl (by kernel_rfl) (by kernel_rfl) ?_
    clear BB
    have BB := Chg.refl (fun b => b = g) w
    have LP := Lp.refl w
    refine gc_reg ?_
    refine t 6 (pg g) ?_
    refine t 7 (pg g) ?_
    refine t 8 (pg g) ?_
    refine tl 9 (.map none) X 0 ?_
    refine t 10 (.int .u64 v) ?_
    refine t 11 (.int .u64 d) ?_
    refine t 12 (.agg #[.int .u64 v, .int .u64 d]) ?_
    refine tdel0 (v := v) (d := d) ?_
    refine gl_nil ?_
    refine ge_end (.tuple #[]) (rs0 (by kernel_rfl)) ?_
    exact ⟨(· = g), rfl, .inr ⟨X, rfl, rfl⟩, fun b h => .inl h, BB, LP⟩
set_option maxHeartbeats 4000000 in
set_option maxRecDepth 100000 in
theorem lSettle {w : World} {g : Nat} {K : Nat → Prop} {S : St} {L : Nat} {v d : Int} (hv : 0 ≤ v ∧ v < 18446744073709551616) (hd : 0 ≤ d ∧ d < 18446744073709551616) (M : Lm w g K S) (hL : Fs S L) (hl : L ≤ 640000) (hn : S.length ≤ 100) : Calls Tryz.prog 14 #[pg g, .int .u64 v, .int .u64 d] w fun e w' => ∃ a n c b m d_ K', e = .returned (.tuple #[.agg #[.slice a n c, .slice b m d_], .int .i64 (sTold (sTick S v) v d).2.1, .int .i64 (sTold (sTick S v) v d).2.2]) ∧ RQ w' a n c b m d_ (sTold (sTick S v) v d).1 ∧ Lm w' g K' (sClear (sTick S v) v d) ∧ (∀ b, K' b → K b ∨ w.heap.size ≤ b) ∧ Chg K w w' ∧ Lp w w' := by
  rcases M with ⟨bm, clock, Ls, X, M, rfl, hU, rfl⟩ | ⟨X, rfl, rfl⟩
  · have hbm := lt_of_block M.ob
    have hml : ∀ m ∈ Ls, m.g < w.heap.size := fun m hm => (M.blk m hm).lt
    have hgl := X.lt
    have X0 := X
    have M0 := M
    have hG := fs_g M hL hl
    have BB := Below.refl w.heap.size w
    refine gc_enter (n := 41) Tryz.func14 rfl (by kernel_rfl) (by kernel_rfl) ?_
    clear BB
    have BB := Chg.refl (LK g bm Ls) w
    have LP := Lp.refl w
    refine gc_seq ?_
    refine gc_reg ?_
    have lX := X.lt
    refine ta 6 [.slice none 0 0, .slice none 0 0] 40 (pg) ?_
    intro v1 g2 Xg2 hg2 B
    have hbg2 := Nat.le_trans BB.size hg2
    replace X := X.keep B
    replace BB := BB.trans (Chg.of (F := fun _ => False) B) (fun _ _ k => k.elim)
    replace LP := LP.trans (Lp.of B)
    replace M := M.keep B
    clear B
    refine t 7 (.int .i64 0) ?_
    refine t 8 (.int .i64 0) ?_
    refine gl_nil ?_
    refine ge_then ?_
    refine gc_seq ?_
    refine gc_reg ?_
    refine t 11 (pg g) ?_
    refine t 12 (.int .u64 v) ?_
    refine tc 13 50 #[pg g, .int .u64 v, .func (.func 57) #[] #[]] (eTick X M rfl hG) ?_
    rintro _ v3 ⟨L2, rfl, X2, M2, hS2, hN2, C, P⟩
    refine ⟨_, rfl, ?_⟩
    replace BB := BB.trans C (fun b _ k => .inr (.inr k))
    replace LP := LP.trans P
    clear X M
    have X := X2
    have M := M2
    clear X2 M2
    replace Xg2 := Xg2.chg C (fun k => by obtain ⟨m, hm, e⟩ := k; have := hml m hm; omega)
    clear C P
    refine gl_nil ?_
    refine ge_then ?_
    refine gc_seq ?_
    refine gc_reg ?_
    refine t 14 (pg g) ?_
    refine t 15 (pg g) ?_
    refine t 16 (pg g) ?_
    refine tl 17 (.map (some bm)) X 0 ?_
    refine t 18 (.int .u64 v) ?_
    refine t 19 (.int .u64 d) ?_
    refine t 20 (.agg #[.int .u64 v, .int .u64 d]) ?_
    replace hml : ∀ m ∈ L2, m.g < w.heap.size := n_gs (P := fun g => g < w.heap.size) hN2 hml
    rcases fndL L2 v d with hno | ⟨A, m, B, rfl, hy, hA⟩
    · refine tr 21 (.pointer none) (run_lkN M.ob (fm_N hno)) ?_
      refine t 9 (.pointer none) ?_
      refine gl_nil ?_
      refine ge_then ?_
      refine gc_fr [(6, pg g2), (7, .int .i64 0), (8, .int .i64 0), (9, .pointer none)] (by kernel_rfl) ?_
      refine gc_seq ?_
      refine gc_seq ?_
      refine gc_reg ?_
      refine t 22 (.pointer none) ?_
      refine t 23 (.bool true) ?_
      refine gl_nil ?_
      refine ge_then ?_
      refine gc_yes ?_
      refine gc_seq ?_
      refine gc_reg ?_
      refine tc 24 58 #[.slice none 0 0] (pSum0) ?_
      rintro _ v5 ⟨aq4, kq4, dq4, bq4, lq4, eq4, rfl, Qq4, B⟩
      refine ⟨_, rfl, ?_⟩
      replace X := X.keep B
      replace BB := BB.trans (Chg.of (F := fun _ => False) B) (fun _ _ k => k.elim)
      replace LP := LP.trans (Lp.of B)
      replace M := M.keep B
      replace Xg2 := Xg2.keep B
      clear B
      refine ts Xg2 0 (.agg #[.slice aq4 kq4 dq4, .slice bq4 lq4 eq4]) [.slice aq4 kq4 dq4, .slice bq4 lq4 eq4] [.slice aq4 kq4 dq4, .slice bq4 lq4 eq4] ?_
      intro v6 Y' C
      have P := Lp.z0 Xg2 C (by rfl)
      replace X := X.chg C (show g ≠ g2 by omega)
      replace BB := BB.trans C (fun b hb k => absurd hb (Nat.not_lt.2 ((show b = g2 from k) ▸ hbg2)))
      replace LP := LP.trans P
      replace M := M.off C P (fun e => absurd hbm (Nat.not_lt.2 ((show bm = g2 from e) ▸ hbg2))) (fun m hm e => absurd (hml m hm) (Nat.not_lt.2 ((show m.g = g2 from e) ▸ hbg2)))
      replace Qq4 := Qq4.lp P
      clear C P Xg2
      have Xg2 := Y'
      clear Y'
      refine t 7 (.int .i64 0) ?_
      refine t 8 (.int .i64 0) ?_
      refine gl_nil ?_
      refine ge_then ?_
      refine gc_ret ?_
      refine ge_tr ?_
      refine ge_ret (.tuple #[.agg #[.slice aq4 kq4 dq4, .slice bq4 lq4 eq4], .int .i64 0, .int .i64 0]) (rsc3 6 7 8 (T := 40) (by kernel_rfl) (by kernel_rfl) (by kernel_rfl) (by kernel_rfl) (lr Xg2 0)) ?_
      have hT : sTold (sTick (Ls.map Ms.s) v) v d = (0, 0, 0) := by unfold sTold sTick; rw [← hS2, get_N hno]
      refine ⟨aq4, kq4, dq4, bq4, lq4, eq4, LK g bm Ls, by rw [hT], by rw [hT]; exact Qq4, .inl ⟨bm, clock, L2, X, M, ?_, un_at (un_on hU), (LK_n hN2).symm⟩, fun b h => .inl h, BB, LP⟩
      unfold sClear sTick
      rw [← hS2]
      exact (at_non hno).symm
    · obtain ⟨mv, md, mg, mb, ⟨wa, wn, wc, wb, wm, wd⟩, ⟨oa, on, oc, ob, om, od⟩, mr, mo, mp, mk⟩ := m
      have hmem : (⟨mv, md, mg, mb, (wa, wn, wc, wb, wm, wd), (oa, on, oc, ob, om, od), mr, mo, mp, mk⟩ : Ms) ∈ A ++ (⟨mv, md, mg, mb, (wa, wn, wc, wb, wm, wd), (oa, on, oc, ob, om, od), mr, mo, mp, mk⟩ : Ms) :: B := by simp
      have hKm : LK g bm Ls mg := by rw [← LK_n hN2]; exact .inr (.inr ⟨_, hmem, rfl⟩)
      have hXm : g ≠ mg := ((M.ne X (by decide)).2 _ hmem).symm
      have hmg := hml _ hmem
      dsimp only at hmg
      have hfo : Ft mo (64 * 10000) := ft_up (tick_o hL hS2 (List.mem_map.2 ⟨_, hmem, rfl⟩)) (by omega)
      have XM : Blk _ mg [.slice wa wn wc, .slice wb wm wd, .slice oa on oc, .slice ob om od, .int .i64 mp, .int .i64 mk] 79 := M.blk _ hmem
      have QW : RZ _ wa wn wc wb wm wd mr := (M.q _ hmem).1
      have QO : RZ _ oa on oc ob om od mo := (M.q _ hmem).2
      refine tr 21 (pg mg) (run_lkY mg M.ob (fm_Y hy hA)) ?_
      refine t 9 (pg mg) ?_
      refine gl_nil ?_
      refine ge_then ?_
      refine gc_fr [(6, pg g2), (7, .int .i64 0), (8, .int .i64 0), (9, pg mg)] (by kernel_rfl) ?_
      refine gc_seq ?_
      refine gc_seq ?_
      refine gc_reg ?_
      refine t 22 (pg mg) ?_
      refine t 23 (.bool false) ?_
      refine gl_nil ?_
      refine ge_then ?_
      refine gc_no ?_
      refine gc_skip ?_
      refine ge_then ?_
      refine gc_seq ?_
      refine gc_reg ?_
      refine t 25 (pg mg) ?_
      refine t 26 (pg mg) ?_
      refine tlr 27 [.slice wa wn wc, .slice wb wm wd, .slice oa on oc, .slice ob om od, .int .i64 mp, .int .i64 mk] XM 0 ?_
      have lX := X.lt
      have lXg2 := Xg2.lt
      have lXM := XM.lt
      refine ta 10 [.slice none 0 0, .slice none 0 0, .slice none 0 0, .slice none 0 0, .int .i64 0, .int .i64 0] 79 (pg) ?_
      intro v7 g8 Xg8 hg8 B
      have hbg8 := Nat.le_trans BB.size hg8
      replace X := X.keep B
      replace BB := BB.trans (Chg.of (F := fun _ => False) B) (fun _ _ k => k.elim)
      replace LP := LP.trans (Lp.of B)
      replace M := M.keep B
      replace Xg2 := Xg2.keep B
      replace XM := XM.keep B
      replace QW := QW.keep B
      replace QO := QO.keep B
      clear B
      refine ts Xg8 0 (.agg #[.slice wa wn wc, .slice wb wm wd, .slice oa on oc, .slice ob om od, .int .i64 mp, .int .i64 mk]) [.slice wa wn wc, .slice wb wm wd, .slice oa on oc, .slice ob om od, .int .i64 mp, .int .i64 mk] [.slice wa wn wc, .slice wb wm wd, .slice oa on oc, .slice ob om od, .int .i64 mp, .int .i64 mk] ?_
      intro v9 Y' C
      have P := Lp.z0 Xg8 C (by rfl)
      replace X := X.chg C (show g ≠ g8 by omega)
      replace BB := BB.trans C (fun b hb k => absurd hb (Nat.not_lt.2 ((show b = g8 from k) ▸ hbg8)))
      replace LP := LP.trans P
      replace M := M.off C P (fun e => absurd hbm (Nat.not_lt.2 ((show bm = g8 from e) ▸ hbg8))) (fun m hm e => absurd (hml m hm) (Nat.not_lt.2 ((show m.g = g8 from e) ▸ hbg8)))
      replace Xg2 := Xg2.chg C (show g2 ≠ g8 by omega)
      replace XM := XM.chg C (show mg ≠ g8 by omega)
      replace QW := QW.lp P
      replace QO := QO.lp P
      clear C P Xg8
      have Xg8 := Y'
      clear Y'
      refine gl_nil ?_
      refine ge_then ?_
      refine gc_seq ?_
      refine gc_reg ?_
      refine t 28 (pg mg) ?_
      refine t 29 (pg g8) ?_
      refine tlr 30 [.slice wa wn wc, .slice wb wm wd] Xg8 0 ?_
      refine t 31 (.agg #[.slice wa wn wc, .slice wb wm wd, .slice none 0 0, .slice none 0 0, .int .i64 0, .int .i64 0]) ?_
      refine t 32 (pg mg) ?_
      refine ts XM 0 (.agg #[.slice wa wn wc, .slice wb wm wd, .slice none 0 0, .slice none 0 0, .int .i64 0, .int .i64 0]) [.slice wa wn wc, .slice wb wm wd, .slice none 0 0, .slice none 0 0, .int .i64 0, .int .i64 0] [.slice wa wn wc, .slice wb wm wd, .slice none 0 0, .slice none 0 0, .int .i64 0, .int .i64 0] ?_
      intro v10 Y' C
      have P := Lp.cg XM C (by rfl)
      replace M := MapL.st (m := (⟨mv, md, mg, mb, (wa, wn, wc, wb, wm, wd), (oa, on, oc, ob, om, od), mr, mo, mp, mk⟩ : Ms)) (A := A) (B := B) M (⟨mv, md, mg, mb, (wa, wn, wc, wb, wm, wd), (none, 0, 0, none, 0, 0), mr, 0, 0, 0⟩ : Ms) rfl Y' C P ((M.q (⟨mv, md, mg, mb, (wa, wn, wc, wb, wm, wd), (oa, on, oc, ob, om, od), mr, mo, mp, mk⟩ : Ms) (by simp)).1.lp P) (rz_nil)
      replace hml : ∀ m ∈ A ++ (⟨mv, md, mg, mb, (wa, wn, wc, wb, wm, wd), (none, 0, 0, none, 0, 0), mr, 0, 0, 0⟩ : Ms) :: B, m.g < w.heap.size := n_gs (P := fun g => g < w.heap.size) (by simp) hml
      replace X := X.chg C hXm
      replace BB := BB.trans C (fun b _ k => (show b = mg from k) ▸ hKm)
      replace LP := LP.trans P
      replace Xg2 := Xg2.chg C (show g2 ≠ mg by omega)
      replace QW := QW.lp P
      replace QO := QO.lp P
      replace Xg8 := Xg8.chg C (show g8 ≠ mg by omega)
      clear C P XM
      have XM := Y'
      clear Y'
      refine gl_nil ?_
      refine ge_then ?_
      refine gc_seq ?_
      replace X := X.drew
      replace BB := BB.trans (Chg.of (F := fun _ => False) (Below.refl _ _).drew) (fun _ _ k => k.elim)
      replace LP := LP.trans (Lp.of (Below.refl _ _).drew)
      replace M := M.keep (Below.refl _ _).drew
      replace Xg2 := Xg2.drew
      replace XM := XM.drew
      replace QW := QW.drew
      replace QO := QO.drew
      replace Xg8 := Xg8.drew
      refine gc_draw (fun w' => Blk w' g8 [.slice wa wn wc, .slice wb wm wd, .slice oa on oc, .slice ob om od, .int .i64 mp, .int .i64 mk] 79) (fun _ => false) Xg8 ?_
      refine z 0 33 (pq g8 2) ?_
      refine zlr 1 34 [.slice oa on oc, .slice ob om od] (fun _ h => h) 2 ?_
      refine z 4 37 (pq g8 4) ?_
      refine zl 5 38 (.int .i64 mp) (fun _ h => h) 4 ?_
      refine z 6 39 (pq g8 5) ?_
      refine zl 7 40 (.int .i64 mk) (fun _ h => h) 5 ?_
      have lX := X.lt
      have lXg2 := Xg2.lt
      have lXM := XM.lt
      have lXg8 := Xg8.lt
      refine za 2 35 [.slice oa on oc, .slice ob om od] 40 (sg 1) ?_
      intro v11 g12 Xg12 hg12 B
      have hbg12 := Nat.le_trans BB.size hg12
      replace X := X.keep B
      replace BB := BB.trans (Chg.of (F := fun _ => False) B) (fun _ _ k => k.elim)
      replace LP := LP.trans (Lp.of B)
      replace M := M.keep B
      replace Xg2 := Xg2.keep B
      replace XM := XM.keep B
      replace QW := QW.keep B
      replace QO := QO.keep B
      replace Xg8 := Xg8.keep B
      clear B
      refine ⟨Xg8, ?_⟩
      refine zc 3 36 58 #[sg 1 g12] (pSum1 (B := 10000) (v := (oa, on, oc, ob, om, od)) Xg12 QO hfo (by decide)) ?_
      rintro _ v14 ⟨aq13, kq13, dq13, bq13, lq13, eq13, rfl, Qq13, B⟩
      replace X := X.keep B
      replace BB := BB.trans (Chg.of (F := fun _ => False) B) (fun _ _ k => k.elim)
      replace LP := LP.trans (Lp.of B)
      replace M := M.keep B
      replace Xg2 := Xg2.keep B
      replace XM := XM.keep B
      replace QW := QW.keep B
      replace QO := QO.keep B
      replace Xg8 := Xg8.keep B
      replace Xg12 := Xg12.keep B
      clear B
      refine ⟨_, rfl, Xg8, ?_⟩
      refine zs 8 Xg2 0 (.agg #[.slice aq13 kq13 dq13, .slice bq13 lq13 eq13]) [.slice aq13 kq13 dq13, .slice bq13 lq13 eq13] [.slice aq13 kq13 dq13, .slice bq13 lq13 eq13] ?_
      intro v15 Y' C
      have P := Lp.z0 Xg2 C (by rfl)
      replace X := X.chg C (show g ≠ g2 by omega)
      replace BB := BB.trans C (fun b hb k => absurd hb (Nat.not_lt.2 ((show b = g2 from k) ▸ hbg2)))
      replace LP := LP.trans P
      replace M := M.off C P (fun e => absurd hbm (Nat.not_lt.2 ((show bm = g2 from e) ▸ hbg2))) (fun m hm e => absurd (hml m hm) (Nat.not_lt.2 ((show m.g = g2 from e) ▸ hbg2)))
      replace XM := XM.chg C (show mg ≠ g2 by omega)
      replace QW := QW.lp P
      replace QO := QO.lp P
      replace Xg8 := Xg8.chg C (show g8 ≠ g2 by omega)
      replace Xg12 := Xg12.chg C (show g12 ≠ g2 by omega)
      replace Qq13 := Qq13.lp P
      clear C P Xg2
      have Xg2 := Y'
      clear Y'
      refine ⟨Xg8, ?_⟩
      refine z 9 7 (.int .i64 mp) ?_
      refine z 10 8 (.int .i64 mk) ?_
      refine gz_done ?_
      refine ge_then ?_
      refine gc_fr [(6, pg g2), (7, .int .i64 mp), (8, .int .i64 mk)] (by kernel_rfl) ?_
      refine gc_ret ?_
      refine ge_ret (.tuple #[.agg #[.slice aq13 kq13 dq13, .slice bq13 lq13 eq13], .int .i64 mp, .int .i64 mk]) (rsc3 6 7 8 (T := 40) (by kernel_rfl) (by kernel_rfl) (by kernel_rfl) (by kernel_rfl) (lr Xg2 0)) ?_
      have hT : sTold (sTick (Ls.map Ms.s) v) v d = (mo, mp, mk) := by unfold sTold sTick; rw [← hS2, get_Y hy hA]
      refine ⟨aq13, kq13, dq13, bq13, lq13, eq13, LK g bm Ls, by rw [hT], by rw [hT]; exact Qq13, .inl ⟨bm, clock, A ++ (⟨mv, md, mg, mb, (wa, wn, wc, wb, wm, wd), (none, 0, 0, none, 0, 0), mr, 0, 0, 0⟩ : Ms) :: B, X, M, ?_, un_at (un_on hU), ?_⟩, fun b h => .inl h, BB, LP⟩
      · unfold sClear sTick
        rw [← hS2]
        exact (at_eq (m2 := (⟨mv, md, mg, mb, (wa, wn, wc, wb, wm, wd), (none, 0, 0, none, 0, 0), mr, 0, 0, 0⟩ : Ms)) (f := fun s => (s.1, 0, 0, 0)) (by rw [hS2]; exact un_on hU) hy ⟨rfl, rfl⟩ rfl).symm
      · rw [← LK_n hN2]; exact LK_n (by simp)
  · have hgl := X.lt
    have X0 := X
    have BB := Below.refl w.heap.size w
    refine gc_enter (n := 41) Tryz.func14 rfl (by kernel_rfl) (by kernel_rfl) ?_
    clear BB
    have BB := Chg.refl (fun b => b = g) w
    have LP := Lp.refl w
    refine gc_seq ?_
    refine gc_reg ?_
    have lX := X.lt
    refine ta 6 [.slice none 0 0, .slice none 0 0] 40 (pg) ?_
    intro v1 g2 Xg2 hg2 B
    have hbg2 := Nat.le_trans BB.size hg2
    replace X := X.keep B
    replace BB := BB.trans (Chg.of (F := fun _ => False) B) (fun _ _ k => k.elim)
    replace LP := LP.trans (Lp.of B)
    clear B
    refine t 7 (.int .i64 0) ?_
    refine t 8 (.int .i64 0) ?_
    refine gl_nil ?_
    refine ge_then ?_
    refine gc_seq ?_
    refine gc_reg ?_
    refine t 11 (pg g) ?_
    refine t 12 (.int .u64 v) ?_
    refine tc 13 50 #[pg g, .int .u64 v, .func (.func 57) #[] #[]] (all_nil X) ?_
    rintro _ v3 ⟨rfl, B⟩
    refine ⟨_, rfl, ?_⟩
    replace X := X.keep B
    replace BB := BB.trans (Chg.of (F := fun _ => False) B) (fun _ _ k => k.elim)
    replace LP := LP.trans (Lp.of B)
    replace Xg2 := Xg2.keep B
    clear B
    refine gl_nil ?_
    refine ge_then ?_
    refine gc_seq ?_
    refine gc_reg ?_
    refine t 14 (pg g) ?_
    refine t 15 (pg g) ?_
    refine t 16 (pg g) ?_
    refine tl 17 (.map none) X 0 ?_
    refine t 18 (.int .u64 v) ?_
    refine t 19 (.int .u64 d) ?_
    refine t 20 (.agg #[.int .u64 v, .int .u64 d]) ?_
    refine tr 21 (.pointer none) (run_lk0 (v := v) (d := d)) ?_
    refine t 9 (.pointer none) ?_
    refine gl_nil ?_
    refine ge_then ?_
    refine gc_fr [(6, pg g2), (7, .int .i64 0), (8, .int .i64 0), (9, .pointer none)] (by kernel_rfl) ?_
    refine gc_seq ?_
    refine gc_seq ?_
    refine gc_reg ?_
    refine t 22 (.pointer none) ?_
    refine t 23 (.bool true) ?_
    refine gl_nil ?_
    refine ge_then ?_
    refine gc_yes ?_
    refine gc_seq ?_
    refine gc_reg ?_
    refine tc 24 58 #[.slice none 0 0] (pSum0) ?_
    rintro _ v5 ⟨aq4, kq4, dq4, bq4, lq4, eq4, rfl, Qq4, B⟩
    refine ⟨_, rfl, ?_⟩
    replace X := X.keep B
    replace BB := BB.trans (Chg.of (F := fun _ => False) B) (fun _ _ k => k.elim)
    replace LP := LP.trans (Lp.of B)
    replace Xg2 := Xg2.keep B
    clear B
    refine ts Xg2 0 (.agg #[.slice aq4 kq4 dq4, .slice bq4 lq4 eq4]) [.slice aq4 kq4 dq4, .slice bq4 lq4 eq4] [.slice aq4 kq4 dq4, .slice bq4 lq4 eq4] ?_
    intro v6 Y' C
    have P := Lp.z0 Xg2 C (by rfl)
    replace X := X.chg C (show g ≠ g2 by omega)
    replace BB := BB.trans C (fun b hb k => absurd hb (Nat.not_lt.2 ((show b = g2 from k) ▸ hbg2)))
    replace LP := LP.trans P
    replace Qq4 := Qq4.lp P
    clear C P Xg2
    have Xg2 := Y'
    clear Y'
    refine t 7 (.int .i64 0) ?_
    refine t 8 (.int .i64 0) ?_
    refine gl_nil ?_
    refine ge_then ?_
    refine gc_ret ?_
    refine ge_tr ?_
    refine ge_ret (.tuple #[.agg #[.slice aq4 kq4 dq4, .slice bq4 lq4 eq4], .int .i64 0, .int .i64 0]) (rsc3 6 7 8 (T := 40) (by kernel_rfl) (by kernel_rfl) (by kernel_rfl) (by kernel_rfl) (lr Xg2 0)) ?_
    exact ⟨aq4, kq4, dq4, bq4, lq4, eq4, (· = g), rfl, Qq4, .inr ⟨X, rfl, rfl⟩, fun b h => .inl h, BB, LP⟩
set_option maxHeartbeats 4000000 in
set_option maxRecDepth 100000 in
theorem lNew {w : World} : Calls Tryz.prog 11 #[] w fun e w' => ∃ g K, e = .returned (pg g) ∧ Lm w' g K [] ∧ (∀ b, K b → w.heap.size ≤ b) ∧ Below w.heap.size w w' := by
  have BB := Below.refl w.heap.size w
  refine gc_enter (n := 3) Tryz.func11 rfl (by kernel_rfl) (by kernel_rfl) ?_
  refine gc_seq ?_
  refine gc_reg ?_
  refine t 0 (.pointer none) ?_
  refine gl_nil ?_
  refine ge_then ?_
  refine gc_seq ?_
  refine gc_reg ?_
  refine t 1 (.agg #[.map none]) ?_
  refine ta 2 [.map none] 74 (pg) ?_
  intro v1 g2 Xg2 hg2 B
  have hbg2 := Nat.le_trans BB.size hg2
  replace BB := joinB BB B
  clear B
  refine t 0 (pg g2) ?_
  refine gl_nil ?_
  refine ge_then ?_
  refine gc_ret ?_
  refine ge_ret (pg g2) (rs1 0 (by kernel_rfl) (by kernel_rfl)) ?_
  exact ⟨g2, (· = g2), rfl, .inr ⟨Xg2, rfl, rfl⟩, fun b h => (show b = g2 from h) ▸ hbg2, BB⟩
end Lg
end Go.Proofs.YtlbndpkdkdgggaaGreatDoor

namespace Go.Proofs.YtlbndpkdkdgggaaGreatDoor
namespace Lg
open Go.RowKit Go.Lib Lim Pg Gl
set_option linter.unusedVariables false
set_option maxHeartbeats 4000000 in
set_option maxRecDepth 100000 in
theorem begin_m {w : World} {g bm clock : Nat} {Ls : List Ms} {v d : Int} (hv : 0 ≤ v ∧ v < 18446744073709551616) (hd : 0 ≤ d ∧ d < 18446744073709551616) (X : Blk w g [.map (some bm)] 74) (M : MapL w bm clock Ls) (hno : ∀ m ∈ Ls, ¬ (m.v = v ∧ m.d = d)) : Calls Tryz.prog 62 #[pg g, .int .u64 v, .int .u64 d] w fun e w' => ∃ mg, e = .returned (pg mg) ∧ w.heap.size ≤ mg ∧ Blk w' g [.map (some bm)] 74 ∧ MapL w' bm (clock + 1) (Ls ++ [(⟨v, d, mg, clock, (none, 0, 0, none, 0, 0), (none, 0, 0, none, 0, 0), 0, 0, 0, 0⟩ : Ms)]) ∧ Chg (· = bm) w w' ∧ Lp w w' := by
  have hbm := lt_of_block M.ob
  have hml : ∀ m ∈ Ls, m.g < w.heap.size := fun m hm => (M.blk m hm).lt
  have hgl := X.lt
  have X0 := X
  have M0 := M
  have BB := Below.refl w.heap.size w
  refine gc_enter (n := 28) Tryz.func62 rfl (by kernel_rfl) (by kernel_rfl) ?_
  clear BB
  have BB := Chg.refl (fun b => b = bm) w
  have LP := Lp.refl w
  refine gc_seq ?_
  refine gc_reg ?_
  refine t 6 (.pointer none) ?_
  refine gl_nil ?_
  refine ge_then ?_
  refine gc_seq ?_
  refine gc_seq ?_
  refine gc_reg ?_
  refine t 8 (pg g) ?_
  refine t 9 (pg g) ?_
  refine t 10 (pg g) ?_
  refine tl 11 (.map (some bm)) X 0 ?_
  refine t 12 (.bool false) ?_
  refine gl_nil ?_
  refine ge_then ?_
  refine gc_no ?_
  refine gc_skip ?_
  refine ge_then ?_
  refine gc_seq ?_
  refine gc_reg ?_
  refine t 17 (.agg #[.slice none 0 0, .slice none 0 0, .slice none 0 0, .slice none 0 0, .int .i64 0, .int .i64 0]) ?_
  have lX := X.lt
  refine ta 18 [.slice none 0 0, .slice none 0 0, .slice none 0 0, .slice none 0 0, .int .i64 0, .int .i64 0] 79 (pg) ?_
  intro v1 g2 Xg2 hg2 B
  have hbg2 := Nat.le_trans BB.size hg2
  replace X := X.keep B
  replace BB := BB.trans (Chg.of (F := fun _ => False) B) (fun _ _ k => k.elim)
  replace LP := LP.trans (Lp.of B)
  replace M := M.keep B
  clear B
  refine t 7 (pg g2) ?_
  refine gl_nil ?_
  refine ge_then ?_
  refine gc_fr [(0, pg g), (1, .int .u64 v), (2, .int .u64 d), (6, .pointer none), (7, pg g2)] (by kernel_rfl) ?_
  refine gc_seq ?_
  refine gc_reg ?_
  refine t 19 (pg g) ?_
  refine t 20 (pg g) ?_
  refine t 21 (pg g) ?_
  refine tl 22 (.map (some bm)) X 0 ?_
  refine t 23 (.int .u64 v) ?_
  refine t 24 (.int .u64 d) ?_
  refine t 25 (.agg #[.int .u64 v, .int .u64 d]) ?_
  refine t 26 (pg g2) ?_
  refine tv _ (run_mup (v := v) (d := d) g2 M.ob (fm_N hno)) ?_
  have C := wset_chg (w := v1) bm (.map (mes (Ls.map Ms.n ++ [⟨v, d, g2, clock⟩])) (clock + 1))
  have O2 : ObW (wset v1 bm (.map (mes (Ls.map Ms.n ++ [⟨v, d, g2, clock⟩])) (clock + 1))) bm (.map (mes (Ls.map Ms.n ++ [⟨v, d, g2, clock⟩])) (clock + 1)) := ⟨wset_at M.ob⟩
  have P := M.lpm C
  have hXb := (M.ne X (by decide)).1.symm
  have R := M.rest.off C P M.bne
  clear M
  generalize wset v1 bm (.map (mes (Ls.map Ms.n ++ [⟨v, d, g2, clock⟩])) (clock + 1)) = v3 at *
  replace X := X.chg C hXb
  replace BB := BB.trans C (fun _ _ k => k)
  replace LP := LP.trans P
  replace Xg2 := Xg2.chg C (show g2 ≠ bm by omega)
  clear C P
  refine gl_nil ?_
  refine ge_then ?_
  refine gc_seq ?_
  refine gc_reg ?_
  refine t 27 (pg g2) ?_
  refine t 6 (pg g2) ?_
  refine gl_nil ?_
  refine ge_then ?_
  refine gc_ret ?_
  refine ge_ret (pg g2) (rs1 6 (by kernel_rfl) (by kernel_rfl)) ?_
  have M2 := R.snoc (m := (⟨v, d, g2, clock, (none, 0, 0, none, 0, 0), (none, 0, 0, none, 0, 0), 0, 0, 0, 0⟩ : Ms)) O2 rfl Xg2 rz_nil rz_nil (fun m hm k => absurd (hml m hm) (Nat.not_lt.2 ((show m.g = g2 from k) ▸ hbg2))) ⟨hv, hd⟩
  exact ⟨g2, rfl, hbg2, X, M2, BB, LP⟩
set_option maxHeartbeats 4000000 in
set_option maxRecDepth 100000 in
theorem begin_0 {w : World} {g : Nat} {v d : Int} (hv : 0 ≤ v ∧ v < 18446744073709551616) (hd : 0 ≤ d ∧ d < 18446744073709551616) (X : Blk w g [.map none] 74) : Calls Tryz.prog 62 #[pg g, .int .u64 v, .int .u64 d] w fun e w' => ∃ bm mg, e = .returned (pg mg) ∧ w.heap.size ≤ bm ∧ w.heap.size ≤ mg ∧ Blk w' g [.map (some bm)] 74 ∧ MapL w' bm 1 [(⟨v, d, mg, 0, (none, 0, 0, none, 0, 0), (none, 0, 0, none, 0, 0), 0, 0, 0, 0⟩ : Ms)] ∧ Chg (· = g) w w' ∧ Lp w w' := by
  have hgl := X.lt
  have X0 := X
  have BB := Below.refl w.heap.size w
  refine gc_enter (n := 28) Tryz.func62 rfl (by kernel_rfl) (by kernel_rfl) ?_
  clear BB
  have BB := Chg.refl (fun b => b = g) w
  have LP := Lp.refl w
  refine gc_seq ?_
  refine gc_reg ?_
  refine t 6 (.pointer none) ?_
  refine gl_nil ?_
  refine ge_then ?_
  refine gc_seq ?_
  refine gc_seq ?_
  refine gc_reg ?_
  refine t 8 (pg g) ?_
  refine t 9 (pg g) ?_
  refine t 10 (pg g) ?_
  refine tl 11 (.map none) X 0 ?_
  refine t 12 (.bool true) ?_
  refine gl_nil ?_
  refine ge_then ?_
  refine gc_yes ?_
  refine gc_reg ?_
  refine t 13 (pg g) ?_
  refine tmk 14 ?_
  intro v1 bm hM hbm B
  have hwb := Nat.le_trans BB.size hbm
  have O : ObW v1 bm (.map #[] 0) := ⟨hM⟩
  clear hM
  replace X := X.keep B
  replace BB := BB.trans (Chg.of (F := fun _ => False) B) (fun _ _ k => k.elim)
  replace LP := LP.trans (Lp.of B)
  clear B
  refine t 15 (pg g) ?_
  refine t 16 (pg g) ?_
  refine ts X 0 (.map (some bm)) [.map (some bm)] [.map (some bm)] ?_
  intro v2 Y' C
  have P := Lp.cg X C (by rfl)
  replace BB := BB.trans C (fun _ _ h => h)
  replace LP := LP.trans P
  replace O := O.off C (show bm ≠ g by omega)
  clear C P X
  have X := Y'
  clear Y'
  refine gl_nil ?_
  refine ge_then ?_
  refine gc_fr [(0, pg g), (1, .int .u64 v), (2, .int .u64 d), (6, .pointer none)] (by kernel_rfl) ?_
  refine gc_seq ?_
  refine gc_reg ?_
  refine t 17 (.agg #[.slice none 0 0, .slice none 0 0, .slice none 0 0, .slice none 0 0, .int .i64 0, .int .i64 0]) ?_
  have lX := X.lt
  have lO := O.lt
  refine ta 18 [.slice none 0 0, .slice none 0 0, .slice none 0 0, .slice none 0 0, .int .i64 0, .int .i64 0] 79 (pg) ?_
  intro v3 g4 Xg4 hg4 B
  have hbg4 := Nat.le_trans BB.size hg4
  replace X := X.keep B
  replace BB := BB.trans (Chg.of (F := fun _ => False) B) (fun _ _ k => k.elim)
  replace LP := LP.trans (Lp.of B)
  replace O := O.keep B
  clear B
  refine t 7 (pg g4) ?_
  refine gl_nil ?_
  refine ge_then ?_
  refine gc_seq ?_
  refine gc_reg ?_
  refine t 19 (pg g) ?_
  refine t 20 (pg g) ?_
  refine t 21 (pg g) ?_
  refine tl 22 (.map (some bm)) X 0 ?_
  refine t 23 (.int .u64 v) ?_
  refine t 24 (.int .u64 d) ?_
  refine t 25 (.agg #[.int .u64 v, .int .u64 d]) ?_
  refine t 26 (pg g4) ?_
  refine tv _ (run_mup (v := v) (d := d) g4 (L := []) O.ob rfl) ?_
  have C := wset_chg (w := v3) bm (.map (mes (([] : List Mn) ++ [⟨v, d, g4, 0⟩])) (0 + 1))
  have O2 : ObW (wset v3 bm (.map (mes (([] : List Mn) ++ [⟨v, d, g4, 0⟩])) (0 + 1))) bm (.map (mes (([] : List Mn) ++ [⟨v, d, g4, 0⟩])) (0 + 1)) := ⟨wset_at O.ob⟩
  have P := Lp.ob O (fun _ _ _ h => by cases h) C
  have R : MapR (wset v3 bm (.map (mes (([] : List Mn) ++ [⟨v, d, g4, 0⟩])) (0 + 1))) 0 [] := ⟨List.nodup_nil, fun _ h => absurd h (by simp), fun _ h => absurd h (by simp), fun _ h => absurd h (by simp), List.Pairwise.nil, fun _ h => absurd h (by simp)⟩
  clear O
  generalize wset v3 bm (.map (mes (([] : List Mn) ++ [⟨v, d, g4, 0⟩])) (0 + 1)) = v5 at *
  replace X := X.chg C (show g ≠ bm by omega)
  replace BB := BB.trans C (fun b hb k => absurd hb (Nat.not_lt.2 ((show b = bm from k) ▸ hwb)))
  replace LP := LP.trans P
  replace Xg4 := Xg4.chg C (show g4 ≠ bm by omega)
  clear C P
  refine gl_nil ?_
  refine ge_then ?_
  refine gc_seq ?_
  refine gc_reg ?_
  refine t 27 (pg g4) ?_
  refine t 6 (pg g4) ?_
  refine gl_nil ?_
  refine ge_then ?_
  refine gc_fr [(6, pg g4)] (by kernel_rfl) ?_
  refine gc_ret ?_
  refine ge_ret (pg g4) (rs1 6 (by kernel_rfl) (by kernel_rfl)) ?_
  have M2 := R.snoc (m := (⟨v, d, g4, 0, (none, 0, 0, none, 0, 0), (none, 0, 0, none, 0, 0), 0, 0, 0, 0⟩ : Ms)) O2 rfl Xg4 rz_nil rz_nil (fun _ h => absurd h (by simp)) ⟨hv, hd⟩
  exact ⟨bm, g4, rfl, hwb, hbg4, X, M2, BB, LP⟩
set_option maxHeartbeats 4000000 in
set_option maxRecDepth 100000 in
theorem lHold {w : World} {g : Nat} {K : Nat → Prop} {S : St} {L : Nat} {v d t_ : Int} (hv : 0 ≤ v ∧ v < 18446744073709551616) (hd : 0 ≤ d ∧ d < 18446744073709551616) {ax : Option Addr} {nx cx : Nat} {x : Int} (Nx : NatA w ax nx cx x) (lx : nx ≤ 100) {ay : Option Addr} {ny cy : Nat} {y : Int} (Ny : NatA w ay ny cy y) (ly : ny ≤ 100) (ht : 0 ≤ t_ ∧ t_ < 18446744073709551616) (M : Lm w g K S) (hL : Fs S L) (hl : L ≤ 640000) (hn : S.length ≤ 100) : Calls Tryz.prog 17 #[pg g, .int .u64 v, .int .u64 d, .agg #[.slice ax nx cx], .agg #[.slice ay ny cy], .int .u64 t_] w fun e w' => ∃ K', e = .returned (.tuple #[]) ∧ Lm w' g K' (sHold S v d x y t_) ∧ (∀ b, K' b → K b ∨ w.heap.size ≤ b) ∧ Chg K w w' ∧ Lp w w' := by
  rcases M with ⟨bm, clock, Ls, X, M, rfl, hU, rfl⟩ | ⟨X, rfl, rfl⟩
  · have hbm := lt_of_block M.ob
    have hml : ∀ m ∈ Ls, m.g < w.heap.size := fun m hm => (M.blk m hm).lt
    have hgl := X.lt
    have X0 := X
    have M0 := M
    rcases fndL Ls v d with hno | ⟨A, m, B, rfl, hy, hA⟩
    · have BB := Below.refl w.heap.size w
      refine gc_enter (n := 34) Tryz.func17 rfl (by kernel_rfl) (by kernel_rfl) ?_
      clear BB
      have BB := Chg.refl (LK g bm Ls) w
      have LP := Lp.refl w
      refine gc_seq ?_
      refine gc_reg ?_
      have lX := X.lt
      refine ta 9 [.slice ax nx cx] 35 (pg) ?_
      intro v1 g2 Xg2 hg2 B
      have hbg2 := Nat.le_trans BB.size hg2
      replace X := X.keep B
      replace BB := BB.trans (Chg.of (F := fun _ => False) B) (fun _ _ k => k.elim)
      replace LP := LP.trans (Lp.of B)
      replace M := M.keep B
      clear B
      have lX := X.lt
      have lXg2 := Xg2.lt
      refine ta 10 [.slice ay ny cy] 35 (pg) ?_
      intro v3 g4 Xg4 hg4 B
      have hbg4 := Nat.le_trans BB.size hg4
      replace X := X.keep B
      replace BB := BB.trans (Chg.of (F := fun _ => False) B) (fun _ _ k => k.elim)
      replace LP := LP.trans (Lp.of B)
      replace M := M.keep B
      replace Xg2 := Xg2.keep B
      clear B
      refine gl_nil ?_
      refine ge_then ?_
      refine gc_seq ?_
      refine gc_reg ?_
      refine t 13 (pg g) ?_
      refine t 14 (pg g) ?_
      refine t 15 (pg g) ?_
      refine tl 16 (.map (some bm)) X 0 ?_
      refine t 17 (.int .u64 v) ?_
      refine t 18 (.int .u64 d) ?_
      refine t 19 (.agg #[.int .u64 v, .int .u64 d]) ?_
      refine tr 20 (.pointer none) (run_lkN M.ob (fm_N hno)) ?_
      refine t 12 (.pointer none) ?_
      refine gl_nil ?_
      refine ge_then ?_
      refine gc_fr [(0, pg g), (1, .int .u64 v), (2, .int .u64 d), (5, .int .u64 t_), (9, pg g2), (10, pg g4), (12, .pointer none)] (by kernel_rfl) ?_
      refine gc_seq ?_
      refine gc_seq ?_
      refine gc_reg ?_
      refine t 21 (.pointer none) ?_
      refine t 22 (.bool true) ?_
      refine gl_nil ?_
      refine ge_then ?_
      refine gc_yes ?_
      refine gc_reg ?_
      refine t 23 (pg g) ?_
      refine t 24 (.int .u64 v) ?_
      refine t 25 (.int .u64 d) ?_
      have hsz := BB.size
      have lX := X.lt
      have lXg2 := Xg2.lt
      have lXg4 := Xg4.lt
      refine tc 26 62 #[pg g, .int .u64 v, .int .u64 d] (begin_m hv hd X M hno) ?_
      rintro _ v5 ⟨mg, rfl, hmg, X2, M2, C, P⟩
      refine ⟨_, rfl, ?_⟩
      replace BB := BB.trans C (fun b _ k => .inr (.inl k))
      replace LP := LP.trans P
      clear X M
      have X := X2
      have M := M2
      clear X2 M2
      replace Xg2 := Xg2.chg C (show g2 ≠ bm by omega)
      replace Xg4 := Xg4.chg C (show g4 ≠ bm by omega)
      clear C P
      have XM : Blk _ mg [.slice none 0 0, .slice none 0 0, .slice none 0 0, .slice none 0 0, .int .i64 0, .int .i64 0] 79 := M.blk (⟨v, d, mg, clock, (none, 0, 0, none, 0, 0), (none, 0, 0, none, 0, 0), 0, 0, 0, 0⟩ : Ms) (by simp)
      have hXm : g ≠ mg := by omega
      have hbmg := Nat.le_trans hsz hmg
      refine t 12 (pg mg) ?_
      refine gl_nil ?_
      refine ge_then ?_
      refine gc_reg ?_
      refine t 27 (pg mg) ?_
      refine tlr 28 [.slice ax nx cx] Xg2 0 ?_
      refine tlr 29 [.slice ay ny cy] Xg4 0 ?_
      refine t 30 (.int .u64 t_) ?_
      refine tc 31 63 #[.agg #[.slice ax nx cx], .agg #[.slice ay ny cy], .int .u64 t_] (worth_any (natK Nx X0 M0 BB) lx (natK Ny X0 M0 BB) ly ht) ?_
      rintro _ v7 ⟨aq6, kq6, dq6, bq6, lq6, eq6, rfl, Qq6, B⟩
      refine ⟨_, rfl, ?_⟩
      replace BB := BB.trans (Chg.of (F := fun _ => False) B) (fun _ _ k => k.elim)
      replace LP := LP.trans (Lp.of B)
      replace Xg2 := Xg2.keep B
      replace Xg4 := Xg4.keep B
      replace M := M.keep B
      replace X := X.keep B
      replace XM := XM.keep B
      clear B
      refine t 32 (pg mg) ?_
      refine t 33 (pg mg) ?_
      refine ts XM 0 (.agg #[.slice aq6 kq6 dq6, .slice bq6 lq6 eq6]) [.slice aq6 kq6 dq6, .slice bq6 lq6 eq6] [.slice aq6 kq6 dq6, .slice bq6 lq6 eq6, .slice none 0 0, .slice none 0 0, .int .i64 0, .int .i64 0] ?_
      intro v8 Y' C
      have P := Lp.cg XM C (by rfl)
      replace M := MapL.st (m := (⟨v, d, mg, clock, (none, 0, 0, none, 0, 0), (none, 0, 0, none, 0, 0), 0, 0, 0, 0⟩ : Ms)) (A := Ls) (B := []) M (⟨v, d, mg, clock, (aq6, kq6, dq6, bq6, lq6, eq6), (none, 0, 0, none, 0, 0), qv (x * t_) y, 0, 0, 0⟩ : Ms) rfl Y' C P (Qq6.lp P) ((M.q (⟨v, d, mg, clock, (none, 0, 0, none, 0, 0), (none, 0, 0, none, 0, 0), 0, 0, 0, 0⟩ : Ms) (by simp)).2.lp P)
      replace BB := BB.trans C (fun b hb k => absurd hb (Nat.not_lt.2 ((show b = mg from k) ▸ hbmg)))
      replace LP := LP.trans P
      replace Xg2 := Xg2.chg C (show g2 ≠ mg by omega)
      replace Xg4 := Xg4.chg C (show g4 ≠ mg by omega)
      replace X := X.chg C hXm
      replace Qq6 := Qq6.lp P
      clear C P XM
      have XM := Y'
      clear Y'
      refine gl_nil ?_
      refine ge_end (.tuple #[]) (rs0 (by kernel_rfl)) ?_
      refine ⟨LK g bm (Ls ++ [(⟨v, d, mg, clock, (aq6, kq6, dq6, bq6, lq6, eq6), (none, 0, 0, none, 0, 0), qv (x * t_) y, 0, 0, 0⟩ : Ms)]), rfl, .inl ⟨bm, clock + 1, Ls ++ [(⟨v, d, mg, clock, (aq6, kq6, dq6, bq6, lq6, eq6), (none, 0, 0, none, 0, 0), qv (x * t_) y, 0, 0, 0⟩ : Ms)], X, M, ?_, un_hold hU, rfl⟩, fun b h => ?_, BB, LP⟩
      · unfold sHold
        rw [get_N hno, if_neg (by simp)]
        simp
      · rcases h with h | h | ⟨m, hm, h⟩
        · exact .inl (.inl h)
        · exact .inl (.inr (.inl h))
        · rcases List.mem_append.1 hm with k | k
          · exact .inl (.inr (.inr ⟨m, k, h⟩))
          · rw [List.mem_singleton] at k
            subst k
            exact .inr (h ▸ hbmg)
    · obtain ⟨mv, md, mg, mb, ⟨wa, wn, wc, wb, wm, wd⟩, ⟨oa, on, oc, ob, om, od⟩, mr, mo, mp, mk⟩ := m
      have hmem : (⟨mv, md, mg, mb, (wa, wn, wc, wb, wm, wd), (oa, on, oc, ob, om, od), mr, mo, mp, mk⟩ : Ms) ∈ A ++ (⟨mv, md, mg, mb, (wa, wn, wc, wb, wm, wd), (oa, on, oc, ob, om, od), mr, mo, mp, mk⟩ : Ms) :: B := by simp
      have hKm : LK g bm (A ++ (⟨mv, md, mg, mb, (wa, wn, wc, wb, wm, wd), (oa, on, oc, ob, om, od), mr, mo, mp, mk⟩ : Ms) :: B) mg := .inr (.inr ⟨_, hmem, rfl⟩)
      have hXm : g ≠ mg := ((M.ne X (by decide)).2 _ hmem).symm
      have hmg := hml _ hmem
      dsimp only at hmg
      have BB := Below.refl w.heap.size w
      refine gc_enter (n := 34) Tryz.func17 rfl (by kernel_rfl) (by kernel_rfl) ?_
      clear BB
      have BB := Chg.refl (LK g bm (A ++ (⟨mv, md, mg, mb, (wa, wn, wc, wb, wm, wd), (oa, on, oc, ob, om, od), mr, mo, mp, mk⟩ : Ms) :: B)) w
      have LP := Lp.refl w
      have XM : Blk _ mg [.slice wa wn wc, .slice wb wm wd, .slice oa on oc, .slice ob om od, .int .i64 mp, .int .i64 mk] 79 := M.blk _ hmem
      have QW : RZ _ wa wn wc wb wm wd mr := (M.q _ hmem).1
      have QO : RZ _ oa on oc ob om od mo := (M.q _ hmem).2
      refine gc_seq ?_
      refine gc_reg ?_
      have lX := X.lt
      have lXM := XM.lt
      refine ta 9 [.slice ax nx cx] 35 (pg) ?_
      intro v1 g2 Xg2 hg2 B
      have hbg2 := Nat.le_trans BB.size hg2
      replace X := X.keep B
      replace BB := BB.trans (Chg.of (F := fun _ => False) B) (fun _ _ k => k.elim)
      replace LP := LP.trans (Lp.of B)
      replace M := M.keep B
      replace XM := XM.keep B
      replace QW := QW.keep B
      replace QO := QO.keep B
      clear B
      have lX := X.lt
      have lXM := XM.lt
      have lXg2 := Xg2.lt
      refine ta 10 [.slice ay ny cy] 35 (pg) ?_
      intro v3 g4 Xg4 hg4 B
      have hbg4 := Nat.le_trans BB.size hg4
      replace X := X.keep B
      replace BB := BB.trans (Chg.of (F := fun _ => False) B) (fun _ _ k => k.elim)
      replace LP := LP.trans (Lp.of B)
      replace M := M.keep B
      replace XM := XM.keep B
      replace QW := QW.keep B
      replace QO := QO.keep B
      replace Xg2 := Xg2.keep B
      clear B
      refine gl_nil ?_
      refine ge_then ?_
      refine gc_seq ?_
      refine gc_reg ?_
      refine t 13 (pg g) ?_
      refine t 14 (pg g) ?_
      refine t 15 (pg g) ?_
      refine tl 16 (.map (some bm)) X 0 ?_
      refine t 17 (.int .u64 v) ?_
      refine t 18 (.int .u64 d) ?_
      refine t 19 (.agg #[.int .u64 v, .int .u64 d]) ?_
      refine tr 20 (pg mg) (run_lkY mg M.ob (fm_Y hy hA)) ?_
      refine t 12 (pg mg) ?_
      refine gl_nil ?_
      refine ge_then ?_
      refine gc_fr [(0, pg g), (1, .int .u64 v), (2, .int .u64 d), (5, .int .u64 t_), (9, pg g2), (10, pg g4), (12, pg mg)] (by kernel_rfl) ?_
      refine gc_seq ?_
      refine gc_seq ?_
      refine gc_reg ?_
      refine t 21 (pg mg) ?_
      refine t 22 (.bool false) ?_
      refine gl_nil ?_
      refine ge_then ?_
      refine gc_no ?_
      refine gc_skip ?_
      refine ge_then ?_
      refine gc_reg ?_
      refine t 27 (pg mg) ?_
      refine tlr 28 [.slice ax nx cx] Xg2 0 ?_
      refine tlr 29 [.slice ay ny cy] Xg4 0 ?_
      refine t 30 (.int .u64 t_) ?_
      refine tc 31 63 #[.agg #[.slice ax nx cx], .agg #[.slice ay ny cy], .int .u64 t_] (worth_any (natK Nx X0 M0 BB) lx (natK Ny X0 M0 BB) ly ht) ?_
      rintro _ v6 ⟨aq5, kq5, dq5, bq5, lq5, eq5, rfl, Qq5, B⟩
      refine ⟨_, rfl, ?_⟩
      replace X := X.keep B
      replace BB := BB.trans (Chg.of (F := fun _ => False) B) (fun _ _ k => k.elim)
      replace LP := LP.trans (Lp.of B)
      replace M := M.keep B
      replace XM := XM.keep B
      replace QW := QW.keep B
      replace QO := QO.keep B
      replace Xg2 := Xg2.keep B
      replace Xg4 := Xg4.keep B
      clear B
      refine t 32 (pg mg) ?_
      refine t 33 (pg mg) ?_
      refine ts XM 0 (.agg #[.slice aq5 kq5 dq5, .slice bq5 lq5 eq5]) [.slice aq5 kq5 dq5, .slice bq5 lq5 eq5] [.slice aq5 kq5 dq5, .slice bq5 lq5 eq5, .slice oa on oc, .slice ob om od, .int .i64 mp, .int .i64 mk] ?_
      intro v7 Y' C
      have P := Lp.cg XM C (by rfl)
      replace M := MapL.st (m := (⟨mv, md, mg, mb, (wa, wn, wc, wb, wm, wd), (oa, on, oc, ob, om, od), mr, mo, mp, mk⟩ : Ms)) (A := A) (B := B) M (⟨mv, md, mg, mb, (aq5, kq5, dq5, bq5, lq5, eq5), (oa, on, oc, ob, om, od), qv (x * t_) y, mo, mp, mk⟩ : Ms) rfl Y' C P (Qq5.lp P) ((M.q (⟨mv, md, mg, mb, (wa, wn, wc, wb, wm, wd), (oa, on, oc, ob, om, od), mr, mo, mp, mk⟩ : Ms) (by simp)).2.lp P)
      replace hml : ∀ m ∈ A ++ (⟨mv, md, mg, mb, (aq5, kq5, dq5, bq5, lq5, eq5), (oa, on, oc, ob, om, od), qv (x * t_) y, mo, mp, mk⟩ : Ms) :: B, m.g < w.heap.size := n_gs (P := fun g => g < w.heap.size) (by simp) hml
      replace X := X.chg C hXm
      replace BB := BB.trans C (fun b _ k => (show b = mg from k) ▸ hKm)
      replace LP := LP.trans P
      replace QW := QW.lp P
      replace QO := QO.lp P
      replace Xg2 := Xg2.chg C (show g2 ≠ mg by omega)
      replace Xg4 := Xg4.chg C (show g4 ≠ mg by omega)
      replace Qq5 := Qq5.lp P
      clear C P XM
      have XM := Y'
      clear Y'
      refine gl_nil ?_
      refine ge_end (.tuple #[]) (rs0 (by kernel_rfl)) ?_
      refine ⟨LK g bm (A ++ (⟨mv, md, mg, mb, (aq5, kq5, dq5, bq5, lq5, eq5), (oa, on, oc, ob, om, od), qv (x * t_) y, mo, mp, mk⟩ : Ms) :: B), rfl, .inl ⟨bm, clock, A ++ (⟨mv, md, mg, mb, (aq5, kq5, dq5, bq5, lq5, eq5), (oa, on, oc, ob, om, od), qv (x * t_) y, mo, mp, mk⟩ : Ms) :: B, X, M, ?_, un_hold hU, rfl⟩, fun b h => .inl ?_, BB, LP⟩
      · unfold sHold
        rw [get_Y hy hA, if_pos (by rfl)]
        exact (at_eq (m2 := (⟨mv, md, mg, mb, (aq5, kq5, dq5, bq5, lq5, eq5), (oa, on, oc, ob, om, od), qv (x * t_) y, mo, mp, mk⟩ : Ms)) (f := fun e => (qv (x * t_) y, e.2)) hU hy ⟨rfl, rfl⟩ rfl).symm
      · rw [LK_n (L := A ++ (⟨mv, md, mg, mb, (wa, wn, wc, wb, wm, wd), (oa, on, oc, ob, om, od), mr, mo, mp, mk⟩ : Ms) :: B) (by simp)] at h; exact h
  · have hgl := X.lt
    have X0 := X
    have BB := Below.refl w.heap.size w
    refine gc_enter (n := 34) Tryz.func17 rfl (by kernel_rfl) (by kernel_rfl) ?_
    clear BB
    have BB := Chg.refl (fun b => b = g) w
    have LP := Lp.refl w
    refine gc_seq ?_
    refine gc_reg ?_
    have lX := X.lt
    refine ta 9 [.slice ax nx cx] 35 (pg) ?_
    intro v1 g2 Xg2 hg2 B
    have hbg2 := Nat.le_trans BB.size hg2
    replace X := X.keep B
    replace BB := BB.trans (Chg.of (F := fun _ => False) B) (fun _ _ k => k.elim)
    replace LP := LP.trans (Lp.of B)
    clear B
    have lX := X.lt
    have lXg2 := Xg2.lt
    refine ta 10 [.slice ay ny cy] 35 (pg) ?_
    intro v3 g4 Xg4 hg4 B
    have hbg4 := Nat.le_trans BB.size hg4
    replace X := X.keep B
    replace BB := BB.trans (Chg.of (F := fun _ => False) B) (fun _ _ k => k.elim)
    replace LP := LP.trans (Lp.of B)
    replace Xg2 := Xg2.keep B
    clear B
    refine gl_nil ?_
    refine ge_then ?_
    refine gc_seq ?_
    refine gc_reg ?_
    refine t 13 (pg g) ?_
    refine t 14 (pg g) ?_
    refine t 15 (pg g) ?_
    refine tl 16 (.map none) X 0 ?_
    refine t 17 (.int .u64 v) ?_
    refine t 18 (.int .u64 d) ?_
    refine t 19 (.agg #[.int .u64 v, .int .u64 d]) ?_
    refine tr 20 (.pointer none) (run_lk0 (v := v) (d := d)) ?_
    refine t 12 (.pointer none) ?_
    refine gl_nil ?_
    refine ge_then ?_
    refine gc_fr [(0, pg g), (1, .int .u64 v), (2, .int .u64 d), (5, .int .u64 t_), (9, pg g2), (10, pg g4), (12, .pointer none)] (by kernel_rfl) ?_
    refine gc_seq ?_
    refine gc_seq ?_
    refine gc_reg ?_
    refine t 21 (.pointer none) ?_
    refine t 22 (.bool true) ?_
    refine gl_nil ?_
    refine ge_then ?_
    refine gc_yes ?_
    refine gc_reg ?_
    refine t 23 (pg g) ?_
    refine t 24 (.int .u64 v) ?_
    refine t 25 (.int .u64 d) ?_
    have hsz := BB.size
    have lX := X.lt
    have lXg2 := Xg2.lt
    have lXg4 := Xg4.lt
    refine tc 26 62 #[pg g, .int .u64 v, .int .u64 d] (begin_0 hv hd X) ?_
    rintro _ v5 ⟨bm, mg, rfl, hbm, hmg, X2, M2, C, P⟩
    refine ⟨_, rfl, ?_⟩
    replace BB := BB.trans C (fun _ _ k => k)
    replace LP := LP.trans P
    clear X
    have X := X2
    have M := M2
    clear X2 M2
    replace Xg2 := Xg2.chg C (show g2 ≠ g by omega)
    replace Xg4 := Xg4.chg C (show g4 ≠ g by omega)
    clear C P
    have XM : Blk _ mg [.slice none 0 0, .slice none 0 0, .slice none 0 0, .slice none 0 0, .int .i64 0, .int .i64 0] 79 := M.blk (⟨v, d, mg, 0, (none, 0, 0, none, 0, 0), (none, 0, 0, none, 0, 0), 0, 0, 0, 0⟩ : Ms) (by simp)
    have hXm : g ≠ mg := by omega
    replace hbm := Nat.le_trans hsz hbm
    have hbmg := Nat.le_trans hsz hmg
    refine t 12 (pg mg) ?_
    refine gl_nil ?_
    refine ge_then ?_
    refine gc_reg ?_
    refine t 27 (pg mg) ?_
    refine tlr 28 [.slice ax nx cx] Xg2 0 ?_
    refine tlr 29 [.slice ay ny cy] Xg4 0 ?_
    refine t 30 (.int .u64 t_) ?_
    refine tc 31 63 #[.agg #[.slice ax nx cx], .agg #[.slice ay ny cy], .int .u64 t_] (worth_any (Nx.lp0 X0 BB) lx (Ny.lp0 X0 BB) ly ht) ?_
    rintro _ v7 ⟨aq6, kq6, dq6, bq6, lq6, eq6, rfl, Qq6, B⟩
    refine ⟨_, rfl, ?_⟩
    replace BB := BB.trans (Chg.of (F := fun _ => False) B) (fun _ _ k => k.elim)
    replace LP := LP.trans (Lp.of B)
    replace Xg2 := Xg2.keep B
    replace Xg4 := Xg4.keep B
    replace M := M.keep B
    replace X := X.keep B
    replace XM := XM.keep B
    clear B
    refine t 32 (pg mg) ?_
    refine t 33 (pg mg) ?_
    refine ts XM 0 (.agg #[.slice aq6 kq6 dq6, .slice bq6 lq6 eq6]) [.slice aq6 kq6 dq6, .slice bq6 lq6 eq6] [.slice aq6 kq6 dq6, .slice bq6 lq6 eq6, .slice none 0 0, .slice none 0 0, .int .i64 0, .int .i64 0] ?_
    intro v8 Y' C
    have P := Lp.cg XM C (by rfl)
    replace M := MapL.st (m := (⟨v, d, mg, 0, (none, 0, 0, none, 0, 0), (none, 0, 0, none, 0, 0), 0, 0, 0, 0⟩ : Ms)) (A := []) (B := []) M (⟨v, d, mg, 0, (aq6, kq6, dq6, bq6, lq6, eq6), (none, 0, 0, none, 0, 0), qv (x * t_) y, 0, 0, 0⟩ : Ms) rfl Y' C P (Qq6.lp P) ((M.q (⟨v, d, mg, 0, (none, 0, 0, none, 0, 0), (none, 0, 0, none, 0, 0), 0, 0, 0, 0⟩ : Ms) (by simp)).2.lp P)
    replace BB := BB.trans C (fun b hb k => absurd hb (Nat.not_lt.2 ((show b = mg from k) ▸ hbmg)))
    replace LP := LP.trans P
    replace Xg2 := Xg2.chg C (show g2 ≠ mg by omega)
    replace Xg4 := Xg4.chg C (show g4 ≠ mg by omega)
    replace X := X.chg C hXm
    replace Qq6 := Qq6.lp P
    clear C P XM
    have XM := Y'
    clear Y'
    refine gl_nil ?_
    refine ge_end (.tuple #[]) (rs0 (by kernel_rfl)) ?_
    refine ⟨LK g bm ([] ++ [(⟨v, d, mg, 0, (aq6, kq6, dq6, bq6, lq6, eq6), (none, 0, 0, none, 0, 0), qv (x * t_) y, 0, 0, 0⟩ : Ms)]), rfl, .inl ⟨bm, 0 + 1, [] ++ [(⟨v, d, mg, 0, (aq6, kq6, dq6, bq6, lq6, eq6), (none, 0, 0, none, 0, 0), qv (x * t_) y, 0, 0, 0⟩ : Ms)], X, M, ?_, un_hold List.Pairwise.nil, rfl⟩, fun b h => ?_, BB, LP⟩
    · rfl
    · rcases h with h | h | ⟨m, hm, h⟩
      · exact .inl h
      · exact .inr (h ▸ hbm)
      · rcases List.mem_append.1 hm with k | k
        · exact absurd k (by simp)
        · rw [List.mem_singleton] at k
          subst k
          exact .inr (h ▸ hbmg)
end Lg
end Go.Proofs.YtlbndpkdkdgggaaGreatDoor

namespace Go.Proofs.YtlbndpkdkdgggaaGreatDoor
namespace Lg
open Go.RowKit Go.Lib Lim Pg Gl
structure DecsA (w : World) (ao : Option Addr) (n b o : Nat) (aa : Nat → Option Addr) (ns cc : Nat → Nat) (xs : Nat → Int) : Prop where
  ptr : 0 < n → ao = some ⟨b, o, none⟩
  cell : ∀ i, i < n → w.cell? ⟨b, o + i, none⟩ = some (.slice (aa i) (ns i) (cc i))
  nat : ∀ i, i < n → NatA w (aa i) (ns i) (cc i) (xs i)
  few : n ≤ 9223372036854775807 ∧ ∀ i, i < n → ns i ≤ 9223372036854775807
theorem cellB {w W : World} {b o : Nat} {v : Value} (B : Below w.heap.size w W) (h : w.cell? ⟨b, o, none⟩ = some v) : W.cell? ⟨b, o, none⟩ = some v := by
  rw [World.cell?_of_block (w := w) (B.block b (cell_lt h))]; exact h
theorem run_ixa {P : Program} {ρ : Operand → Value} {o : Oper} {w : World} {ao : Option Addr} (sz b off n c k : Nat) (hk : k < n) (hao : 0 < n → ao = some ⟨b, off, none⟩) (ho : ∃ T x y, o.op = .indexAddr T x y ∧ slT P T sz = true ∧ ρ x = .slice ao n c ∧ ρ y = .int .i64 (k : Int) := by exact ⟨_, _, _, rfl, by kernel_rfl, by kernel_rfl, by kernel_rfl⟩) : (execOp ρ o).run P w = .ok (.value (.pointer (some ⟨b, off + k * sz, none⟩))) w := by
  rw [hao (by omega)] at ho
  exact run_ixs sz b off n c k hk ho
theorem ld_dec {w : World} {g o : Nat} {v : Value} (c : w.cell? ⟨g, o, none⟩ = some v) : (loadVar 35 ⟨g, o, none⟩).run Tryz.prog w = .ok (.agg #[v]) w := by go_simp
theorem ld_nat {w : World} {g o : Nat} {v : Value} (c : w.cell? ⟨g, o, none⟩ = some v) : (loadVar 33 ⟨g, o, none⟩).run Tryz.prog w = .ok v w := by go_simp
theorem run_ldd {ρ : Operand → Value} {o : Oper} {w : World} {b off : Nat} {v : Value} (hc : w.cell? ⟨b, off, none⟩ = some v) (ho : ∃ p, o.op = .load 35 p ∧ ρ p = .pointer (some ⟨b, off, none⟩) := by exact ⟨_, rfl, by kernel_rfl⟩) : (execOp ρ o).run Tryz.prog w = .ok (.value (.agg #[v])) w := by
  obtain ⟨p, h, hp⟩ := ho
  have := ld_dec hc
  simp only [execOp, h, hp]
  simp [Instr.loadAt, Instr.sureAddr, Result.andThen, this]
theorem run_ldn {ρ : Operand → Value} {o : Oper} {w : World} {b off : Nat} {v : Value} (hc : w.cell? ⟨b, off, none⟩ = some v) (ho : ∃ p, o.op = .load 33 p ∧ ρ p = .pointer (some ⟨b, off, none⟩) := by exact ⟨_, rfl, by kernel_rfl⟩) : (execOp ρ o).run Tryz.prog w = .ok (.value v) w := by
  obtain ⟨p, h, hp⟩ := ho
  have := ld_nat hc
  simp only [execOp, h, hp]
  simp [Instr.loadAt, Instr.sureAddr, Result.andThen, this]
/-- decimals in memory, as an argument lays them -/
structure DecsIn (w : World) (a : Option Addr) (len cap : Nat) : Prop where
  few : len ≤ cap ∧ cap ≤ maxLen
  row : ∀ i, i < len → ∃ b o a0 n0 c0 z0, a = some ⟨b, o, none⟩ ∧ w.cell? ⟨b, o + i, none⟩ = some (.slice a0 n0 c0) ∧ IsRow w a0 n0 c0 z0
theorem DecsIn.open {w : World} {a : Option Addr} {len cap : Nat} (h : DecsIn w a len cap) : ∃ b o aa ns cc xs, DecsA w a len b o aa ns cc xs := by
  have hb : ∃ b o, 0 < len → a = some ⟨b, o, none⟩ := by
    rcases Nat.eq_zero_or_pos len with h0 | h0
    · exact ⟨0, 0, fun h => by omega⟩
    · obtain ⟨b, o, _, _, _, _, e, _⟩ := h.row 0 h0
      exact ⟨b, o, fun _ => e⟩
  obtain ⟨b, o, hp⟩ := hb
  have hr : ∀ i, ∃ p : Option Addr × Nat × Nat × Int, i < len → w.cell? ⟨b, o + i, none⟩ = some (.slice p.1 p.2.1 p.2.2.1) ∧ NatA w p.1 p.2.1 p.2.2.1 p.2.2.2 ∧ p.2.1 ≤ 9223372036854775807 := fun i => by
    by_cases hi : i < len
    · obtain ⟨b', o', a0, n0, c0, z0, e, h1, h2⟩ := h.row i hi
      have e' := hp (by omega)
      rw [e] at e'
      cases e'
      obtain ⟨g1, o1, l1, hl1, hc1, hm1, W1, h3⟩ := h2.open
      exact ⟨(a0, n0, c0, val l1), fun _ => ⟨h1, ⟨g1, o1, l1, hl1, hc1, W1, h3, rfl⟩, hm1⟩⟩
    · exact ⟨(none, 0, 0, 0), fun h => absurd h hi⟩
  obtain ⟨f, hf⟩ := Classical.skolem.1 hr
  have hm := h.few
  unfold maxLen at hm
  exact ⟨b, o, fun i => (f i).1, fun i => (f i).2.1, fun i => (f i).2.2.1, fun i => (f i).2.2.2, hp, fun i hi => (hf i hi).1, fun i hi => (hf i hi).2.1, by omega, fun i hi => (hf i hi).2.2⟩
theorem DecsA.keep {w w' : World} {ao : Option Addr} {n b o : Nat} {aa : Nat → Option Addr} {ns cc : Nat → Nat} {xs : Nat → Int} (h : DecsA w ao n b o aa ns cc xs) (B : Below w.heap.size w w') : DecsA w' ao n b o aa ns cc xs :=
  ⟨h.ptr, fun i hi => cellB B (h.cell i hi), fun i hi => (h.nat i hi).keep B, h.few⟩
theorem belowK {w W W' : World} {K : Nat → Prop} (b : Below w.heap.size w W) (C : Chg K W W') (h : ∀ b, K b → w.heap.size ≤ b) : Below w.heap.size w W' :=
  ⟨C.os.trans b.os, C.tape.trans b.tape, C.output.trans b.output, Nat.le_trans b.size C.size, fun i hi => (C.same i (Nat.lt_of_lt_of_le hi b.size) (fun k => absurd (h i k) (Nat.not_le.2 hi))).trans (b.block i hi)⟩
/-- what held makes -/
abbrev HF (xs : Nat → Int) (y t : Int) : Nat → Stk := fun i => (qv (xs i * t) y, 0, 0, 0)
theorem hf_ft {xs : Nat → Int} {y t : Int} {n : Nat} (hx : ∀ i, i < n → 0 ≤ xs i ∧ xs i < 2 ^ (64 * 4)) (hy : 0 ≤ y ∧ y < 2 ^ (64 * 4)) (ht : 0 ≤ t ∧ t < 18446744073709551616) : ∀ i, i < n → Ft (HF xs y t i).1 640 ∧ Ft (HF xs y t i).2.1 640 ∧ 0 ≤ (HF xs y t i).2.2.1 ∧ (HF xs y t i).2.2.1 < 1000000 ∧ 0 ≤ (HF xs y t i).2.2.2 ∧ (HF xs y t i).2.2.2 < 1000000 := by
  intro i hi
  have h := hx i hi
  have e := pw_lt h.1 h.2 (show t < 2 ^ 64 by omega)
  have e0 : (2 : Int) ^ (64 * 4) < 2 ^ 320 := by decide +kernel
  have hy2 : y < 2 ^ 320 := by omega
  exact ⟨ft_up (qv_ft (L := 320) (by decide) ⟨Int.mul_nonneg h.1 ht.1, e⟩ ⟨hy.1, hy2⟩) (by decide), ft_up (show Ft 0 1 by decide +kernel) (by decide), (show (0 : Int) ≤ 0 by decide), (show (0 : Int) < 1000000 by decide), (show (0 : Int) ≤ 0 by decide), (show (0 : Int) < 1000000 by decide)⟩
set_option maxHeartbeats 4000000 in
set_option maxRecDepth 100000 in
theorem held_any {w : World} {ao : Option Addr} {n c pb po : Nat} {aa : Nat → Option Addr} {ns cc : Nat → Nat} {xs : Nat → Int} {aq : Option Addr} {nq cq : Nat} {y tk : Int} (DA : DecsA w ao n pb po aa ns cc xs) (hn : n ≤ 12) (h4 : ∀ i, i < n → ns i ≤ 4) (Ny : NatA w aq nq cq y) (hq : nq ≤ 4) (ht : 0 ≤ tk ∧ tk < 18446744073709551616) :
    Calls Tryz.prog 34 #[.slice ao n c, .agg #[.slice aq nq cq], .int .u64 tk] w fun e w' => ∃ g K, e = .returned (pg g) ∧ Lm w' g K (GS n (HF xs y tk) (1, 0, 0, 0)) ∧ (∀ b, K b → w.heap.size ≤ b) ∧ Below w.heap.size w w' := by
  have hfF := hf_ft (n := n) (fun i hi => ⟨(DA.nat i hi).nonneg, nat_lt (DA.nat i hi) (h4 i hi)⟩) ⟨Ny.nonneg, nat_lt Ny hq⟩ ht
  have BB := Below.refl w.heap.size w
  refine gc_enter (n := 31) Tryz.func34 rfl (by kernel_rfl) (by kernel_rfl) ?_
  refine gc_seq ?_
  refine gc_reg ?_
  refine ta 4 [.slice aq nq cq] 35 (pg) ?_
  intro v1 g2 Xg2 hg2 B
  have hbg2 := Nat.le_trans BB.size hg2
  replace BB := joinB BB B
  clear B
  refine t 6 (.pointer none) ?_
  refine gl_nil ?_
  refine ge_then ?_
  refine gc_seq ?_
  refine gc_reg ?_
  have hsz := BB.size
  have ltg2 := Xg2.lt
  refine tc 9 11 #[] (lNew) ?_
  rintro _ v4 ⟨gL3, KL3, rfl, ML3, hlo_KL3, B⟩
  refine ⟨_, rfl, ?_⟩
  replace BB := joinB BB B
  replace Xg2 := Xg2.keep B
  clear B
  have hkg2_KL3 : ¬ KL3 g2 := fun h => absurd (hlo_KL3 _ h) (Nat.not_le.2 ltg2)
  replace hlo_KL3 : ∀ b, KL3 b → w.heap.size ≤ b := fun b h => Nat.le_trans hsz (hlo_KL3 b h)
  clear hsz ltg2
  refine t 7 (pg gL3) ?_
  refine gl_nil ?_
  refine ge_then ?_
  refine gc_seq ?_
  refine gc_seq ?_
  refine gc_reg ?_
  refine t 8 (.int .i64 0) ?_
  refine gl_nil ?_
  refine ge_then ?_
  refine gc_block ?_
  refine gc_loop (fun i => n - i) (fun (i : Nat) => [(0, .slice ao n c), (2, .int .u64 tk), (4, pg g2), (7, pg gL3), (8, .int .i64 (i : Int))]) (fun i w' => i ≤ n ∧ ∃ K, Lm w' gL3 K (gS (HF xs y tk) i) ∧ (∀ b, K b → w.heap.size ≤ b) ∧ ¬ K g2 ∧ Blk w' g2 [.slice aq nq cq] 35 ∧ w.heap.size ≤ g2 ∧ Below w.heap.size w w') 0 ⟨Nat.zero_le _, KL3, ML3, hlo_KL3, hkg2_KL3, Xg2, hbg2, BB⟩ (by kernel_rfl) ?_
  clear BB ML3 Xg2 hlo_KL3 hkg2_KL3 hbg2
  rintro i v5 ⟨hi, Ki, Mi, hlo_Ki, hkg2_Ki, Xg2, hbg2, BB⟩
  refine gc_seq ?_
  refine gc_seq ?_
  refine gc_reg ?_
  refine t 10 (.int .i64 (i : Int)) ?_
  refine t 11 (.slice ao n c) ?_
  refine t 12 (.int .i64 ((n : Nat) : Int)) ?_
  by_cases ci : (i : Int) < ((n : Nat) : Int)
  · have hk_i : i < n := by omega
    refine tq 13 (.bool (decide ((i : Int) < ((n : Nat) : Int)))) (.bool true) (congrArg Value.bool (decide_eq_true ci)) ?_
    refine gl_nil ?_
    refine ge_then ?_
    refine gc_yes ?_
    refine gc_skip ?_
    refine ge_then ?_
    refine gc_seq ?_
    refine gc_block ?_
    replace Ny := Ny
    replace BB := BB.drew
    replace Xg2 := Xg2.drew
    replace Mi := Mi.drew
    refine gc_draw (fun w' => Blk w' g2 [.slice aq nq cq] 35 ∧ Below w.heap.size w w') (fun _ => false) ⟨Xg2, BB⟩ ?_
    refine z 0 16 (pg gL3) ?_
    refine z 1 17 (.int .i64 (i : Int)) ?_
    refine zr 2 18 (.int .u64 (i : Int)) (fun _ _ => run_iu (⟨by omega, by omega⟩)) ?_
    refine z 3 19 (.slice ao n c) ?_
    refine z 4 20 (.int .i64 (i : Int)) ?_
    refine zr 5 21 (pq pb (po + i)) (fun _ _ => congr_v (by rw [Nat.mul_one]) (run_ixa 1 pb po n c i hk_i DA.ptr)) ?_
    refine zr 6 22 (.agg #[.slice (aa i) (ns i) (cc i)]) (fun _ h => run_ldd (cellB h.2 (DA.cell i hk_i))) ?_
    refine zlr 7 23 [.slice aq nq cq] (fun _ h => h.1) 0 ?_
    refine z 8 24 (.int .u64 tk) ?_
    refine zc 9 25 17 #[pg gL3, .int .u64 16, .int .u64 (i : Int), .agg #[.slice (aa i) (ns i) (cc i)], .agg #[.slice aq nq cq], .int .u64 tk] (lHold ⟨by decide, by decide⟩ ⟨by omega, by omega⟩ ((DA.nat i hk_i).keep BB) (by have := h4 i hk_i; omega) (Ny.keep BB) (by omega) ht Mi (L := 640) (gS_fs fun j hj => hfF j (by omega)) (by decide) (by rw [gS_len]; omega)) ?_
    rintro _ v8 ⟨K6, rfl, M7, hK, C, P⟩
    have hlo_K6 : ∀ b, K6 b → w.heap.size ≤ b := fun b h => (hK b h).elim (hlo_Ki b) (fun h => Nat.le_trans BB.size h)
    have hkg2_K6 : ¬ K6 g2 := fun h => (hK _ h).elim hkg2_Ki (fun h => absurd Xg2.lt (Nat.not_lt.2 h))
    replace BB := belowK BB C hlo_Ki
    replace Xg2 := Xg2.chg C hkg2_Ki
    clear hlo_Ki hkg2_Ki Mi hK C P
    replace M7 := (show Lm _ _ _ (gS (HF xs y tk) (i + 1)) from (show sHold (gS (HF xs y tk) i) 16 (i : Int) (xs i) y tk = (gS (HF xs y tk) (i + 1)) from hold_gs rfl) ▸ M7)
    refine ⟨_, rfl, ⟨Xg2, BB⟩, ?_⟩
    refine gz_done ?_
    refine ge_bn ?_
    refine ge_then ?_
    refine gc_fr [(0, .slice ao n c), (2, .int .u64 tk), (4, pg g2), (7, pg gL3), (8, .int .i64 (i : Int)), (10, .int .i64 (i : Int)), (11, .slice ao n c), (12, .int .i64 ((n : Nat) : Int)), (13, .bool true), (16, pg gL3), (17, .int .i64 (i : Int)), (18, .int .u64 (i : Int)), (19, .slice ao n c), (20, .int .i64 (i : Int)), (21, pq pb (po + i)), (22, .agg #[.slice (aa i) (ns i) (cc i)]), (23, .agg #[.slice aq nq cq]), (24, .int .u64 tk)] (by kernel_rfl) ?_
    refine gc_reg ?_
    refine t 14 (.int .i64 (i : Int)) ?_
    refine tq 15 (.int .i64 (IntKind.i64.wrap ((i : Int) + 1))) (.int .i64 ((i : Int) + 1)) (wi (by omega)) ?_
    refine t 8 (.int .i64 ((i : Int) + 1)) ?_
    refine gl_nil ?_
    exact ge_round (i + 1) (by omega) ⟨by omega, K6, M7, hlo_K6, hkg2_K6, Xg2, hbg2, BB⟩ (by kernel_rfl)
  · rw [show i = n by omega] at Mi
    refine tq 13 (.bool (decide ((i : Int) < ((n : Nat) : Int)))) (.bool false) (congrArg Value.bool (decide_eq_false ci)) ?_
    refine gl_nil ?_
    refine ge_then ?_
    refine gc_no ?_
    refine gc_exit ?_
    refine ge_tx ?_
    refine ge_tx ?_
    refine ge_bx ?_
    refine ge_then ?_
    refine gc_seq ?_
    refine gc_reg ?_
    refine t 26 (pg gL3) ?_
    refine tc 27 46 #[.int .u64 1] (dOf (x := 1) (by decide) (by decide)) ?_
    rintro _ v10 ⟨an9, kn9, dn9, rfl, Nn9, ln9, B⟩
    refine ⟨_, rfl, ?_⟩
    replace BB := joinB BB B
    replace Xg2 := Xg2.keep B
    replace Mi := Mi.keep B
    clear B
    refine tc 28 46 #[.int .u64 1] (dOf (x := 1) (by decide) (by decide)) ?_
    rintro _ v12 ⟨an11, kn11, dn11, rfl, Nn11, ln11, B⟩
    refine ⟨_, rfl, ?_⟩
    replace BB := joinB BB B
    replace Xg2 := Xg2.keep B
    replace Mi := Mi.keep B
    replace Nn9 := Nn9.keep B
    clear B
    refine tc 29 17 #[pg gL3, .int .u64 17, .int .u64 0, .agg #[.slice an9 kn9 dn9], .agg #[.slice an11 kn11 dn11], .int .u64 1] (lHold ⟨by decide, by decide⟩ ⟨by decide, by decide⟩ Nn9.a (by omega) Nn11.a (by omega) ⟨by decide, by decide⟩ Mi (L := 640) (gS_fs hfF) (by decide) (by rw [gS_len]; omega)) ?_
    rintro _ v15 ⟨K13, rfl, M14, hK, C, P⟩
    refine ⟨_, rfl, ?_⟩
    have hlo_K13 : ∀ b, K13 b → w.heap.size ≤ b := fun b h => (hK b h).elim (hlo_Ki b) (fun h => Nat.le_trans BB.size h)
    have hkg2_K13 : ¬ K13 g2 := fun h => (hK _ h).elim hkg2_Ki (fun h => absurd Xg2.lt (Nat.not_lt.2 h))
    replace BB := belowK BB C hlo_Ki
    replace Xg2 := Xg2.chg C hkg2_Ki
    replace Nn9 := NatO.lp Nn9 P
    replace Nn11 := NatO.lp Nn11 P
    clear hlo_Ki hkg2_Ki Mi hK C P
    replace M14 := (show Lm _ _ _ (GS n (HF xs y tk) (1, 0, 0, 0)) from (show sHold (gS (HF xs y tk) n) 17 0 (1 * U36) (1 * U36) 1 = (GS n (HF xs y tk) (1, 0, 0, 0)) from hold_gs17.trans (by rw [show qv (1 * U36 * 1) (1 * U36) = 1 by decide +kernel])) ▸ M14)
    refine gl_nil ?_
    refine ge_then ?_
    refine gc_seq ?_
    refine gc_reg ?_
    refine t 30 (pg gL3) ?_
    refine t 6 (pg gL3) ?_
    refine gl_nil ?_
    refine ge_then ?_
    refine gc_ret ?_
    refine ge_ret (pg gL3) (rs1 6 (by kernel_rfl) (by kernel_rfl)) ?_
    exact ⟨gL3, K13, rfl, M14, hlo_K13, BB⟩
end Lg
end Go.Proofs.YtlbndpkdkdgggaaGreatDoor

namespace Go.Proofs.YtlbndpkdkdgggaaGreatDoor
namespace Lg
open Go.RowKit Go.Lib Lim Pg Gl
def T1 : St := [((16, 17), ((10/3 : Rat), 0, 0, 0))]
def T2 : St := [((16, 17), ((10/3 : Rat), 1, 0, 0))]
def T3 : St := [((16, 17), ((5/3 : Rat), 1, 1, 1))]
def T4 : St := [((16, 17), ((5/3 : Rat), (4/3 : Rat), 1, 1))]
def T5 : St := [((16, 17), ((5/3 : Rat), 0, 0, 0))]
def T6 : St := [((16, 17), ((5/3 : Rat), 0, 1, 0))]
def T7 : St := []
theorem run_nil {ρ : Operand → Value} {w : World} {o : Oper} {g : Nat} (ho : ∃ x y, o.op = .binOp .eql 25 x y 25 ∧ ρ x = pg g ∧ ρ y = .pointer none := by exact ⟨_, _, rfl, by kernel_rfl, by kernel_rfl⟩) : (execOp ρ o).run Tryz.prog w = .ok (.value (.bool false)) w := by
  obtain ⟨x, y, h, h1, h2⟩ := ho
  simp only [execOp, h, h1, h2]
  go_simp
theorem rdl {fn : FuncId} {vs : Array Value} {w : World} {r s : Rat} (h : Calls Tryz.prog fn vs w fun e w' => ∃ a n c b m d_, e = .returned (.agg #[.slice a n c, .slice b m d_]) ∧ RQ w' a n c b m d_ r ∧ Below w.heap.size w w') (e : r = s) : Calls Tryz.prog fn vs w fun e w' => ∃ a n c b m d_, e = .returned (.agg #[.slice a n c, .slice b m d_]) ∧ RQ w' a n c b m d_ s ∧ Below w.heap.size w w' := e ▸ h
theorem setl {fn : FuncId} {vs : Array Value} {w : World} {K : Nat → Prop} {S : St} {r s : Rat} {p q p' q' : Int} {g : Nat} (h : Calls Tryz.prog fn vs w fun e w' => ∃ a n c b m d_ K', e = .returned (.tuple #[.agg #[.slice a n c, .slice b m d_], .int .i64 p, .int .i64 q]) ∧ RQ w' a n c b m d_ r ∧ Lm w' g K' S ∧ (∀ b, K' b → K b ∨ w.heap.size ≤ b) ∧ Chg K w w' ∧ Lp w w') (e : r = s) (hp : p = p') (hq : q = q') : Calls Tryz.prog fn vs w fun e w' => ∃ a n c b m d_ K', e = .returned (.tuple #[.agg #[.slice a n c, .slice b m d_], .int .i64 p', .int .i64 q']) ∧ RQ w' a n c b m d_ s ∧ Lm w' g K' S ∧ (∀ b, K' b → K b ∨ w.heap.size ≤ b) ∧ Chg K w w' ∧ Lp w w' := by subst e hp hq; exact h
theorem fitl {fn : FuncId} {vs : Array Value} {w : World} {b t : Bool} (h : Calls Tryz.prog fn vs w fun e w' => e = .returned (.bool b) ∧ Below w.heap.size w w') (e : b = t) : Calls Tryz.prog fn vs w fun e w' => e = .returned (.bool t) ∧ Below w.heap.size w w' := e ▸ h
set_option maxRecDepth 100000 in
theorem parse33 {w : World} : Calls Tryz.prog 48 #[.string { data := #[48, 46, 51, 51] }] w fun e w' => ∃ a k d, e = .returned (.tuple #[.agg #[.slice a k d], .int .i64 0]) ∧ NatO w' a k d 330000000000000000000000000000000000 ∧ k ≤ 60 ∧ Below w.heap.size w w' := by
  refine (dParse_ok ⟨#[48, 46, 51, 51]⟩ 1 w (by decide) (by decide) (by decide) (by decide) (by decide) (by decide) (by decide)).mono ?_
  rintro e w1 ⟨a, k, d, rfl, O, hk, hB⟩
  have O := O.eqv (y := 330000000000000000000000000000000000) (by decide)
  exact ⟨a, k, d, rfl, O, len_o O (by decide +kernel), hB⟩
set_option maxHeartbeats 4000000 in
set_option maxRecDepth 100000 in
theorem known24 {w : World} : Calls Tryz.prog 9 #[] w fun e w' => e = .returned (.bool true) ∧ Below w.heap.size w w' := by
  have BB := Below.refl w.heap.size w
  refine gc_enter (n := 122) Tryz.func9 rfl (by kernel_rfl) (by kernel_rfl) ?_
  refine gc_seq ?_
  refine gc_reg ?_
  refine t 0 (.bool false) ?_
  refine gl_nil ?_
  refine ge_then ?_
  refine gc_seq ?_
  refine gc_reg ?_
  have hsz := BB.size
  refine tc 12 11 #[] (lNew) ?_
  rintro _ v2 ⟨gL1, KL1, rfl, ML1, hlo_KL1, B⟩
  refine ⟨_, rfl, ?_⟩
  replace BB := joinB BB B
  clear B
  replace hlo_KL1 : ∀ b, KL1 b → w.heap.size ≤ b := fun b h => Nat.le_trans hsz (hlo_KL1 b h)
  clear hsz
  refine t 1 (pg gL1) ?_
  refine gl_nil ?_
  refine ge_then ?_
  refine gc_seq ?_
  refine gc_seq ?_
  refine gc_reg ?_
  refine t 13 (pg gL1) ?_
  refine tr 14 (.bool false) (run_nil (g := gL1)) ?_
  refine gl_nil ?_
  refine ge_then ?_
  refine gc_no ?_
  refine gc_skip ?_
  refine ge_then ?_
  refine gc_seq ?_
  refine gc_reg ?_
  refine t 15 (pg gL1) ?_
  refine tc 16 46 #[.int .u64 1] (dOf (x := 1) (by decide) (by decide)) ?_
  rintro _ v4 ⟨an3, kn3, dn3, rfl, Nn3, ln3, B⟩
  refine ⟨_, rfl, ?_⟩
  replace BB := joinB BB B
  replace ML1 := ML1.keep B
  clear B
  refine tc 17 46 #[.int .u64 3] (dOf (x := 3) (by decide) (by decide)) ?_
  rintro _ v6 ⟨an5, kn5, dn5, rfl, Nn5, ln5, B⟩
  refine ⟨_, rfl, ?_⟩
  replace BB := joinB BB B
  replace ML1 := ML1.keep B
  replace Nn3 := Nn3.keep B
  clear B
  refine tc 18 17 #[pg gL1, .int .u64 16, .int .u64 17, .agg #[.slice an3 kn3 dn3], .agg #[.slice an5 kn5 dn5], .int .u64 10] (lHold ⟨by decide, by decide⟩ ⟨by decide, by decide⟩ Nn3.a (by omega) Nn5.a (by omega) ⟨by decide, by decide⟩ ML1 (L := 640) (by decide +kernel) (by decide) (by decide)) ?_
  rintro _ v9 ⟨K7, rfl, M8, hK, C, P⟩
  refine ⟨_, rfl, ?_⟩
  have hlo_K7 : ∀ b, K7 b → w.heap.size ≤ b := fun b h => (hK b h).elim (hlo_KL1 b) (fun h => Nat.le_trans BB.size h)
  replace BB := belowK BB C hlo_KL1
  replace Nn3 := NatO.lp Nn3 P
  replace Nn5 := NatO.lp Nn5 P
  clear hlo_KL1 ML1 hK C P
  replace M8 := (show Lm _ _ _ T1 from (show sHold [] 16 17 (1 * U36) (3 * U36) 10 = T1 by decide +kernel) ▸ M8)
  refine gl_nil ?_
  refine ge_then ?_
  refine gc_seq ?_
  refine gc_reg ?_
  refine t 19 (pg gL1) ?_
  refine tc 20 23 #[pg gL1, .int .u64 16, .int .u64 17] (rdl (lStake ⟨by decide, by decide⟩ ⟨by decide, by decide⟩ M8 (L := 640) (by decide +kernel) (by decide) (by decide)) (show sWorth T1 16 17 = (10/3 : Rat) by decide +kernel)) ?_
  rintro _ v11 ⟨aq10, kq10, dq10, bq10, lq10, eq10, rfl, Qq10, B⟩
  refine ⟨_, rfl, ?_⟩
  replace BB := joinB BB B
  replace Nn3 := Nn3.keep B
  replace Nn5 := Nn5.keep B
  replace M8 := M8.keep B
  clear B
  refine ta 2 [.slice none 0 0, .slice none 0 0] 40 (pg) ?_
  intro v12 g13 Xg13 hg13 B
  have hkg13_K7 : ¬ K7 g13 := fun h => absurd (M8.lt h) (Nat.not_lt.2 hg13)
  have hbg13 := Nat.le_trans BB.size hg13
  replace BB := joinB BB B
  replace Nn3 := Nn3.keep B
  replace Nn5 := Nn5.keep B
  replace M8 := M8.keep B
  replace Qq10 := Qq10.keep B
  clear B
  refine ts Xg13 0 (.agg #[.slice aq10 kq10 dq10, .slice bq10 lq10 eq10]) [.slice aq10 kq10 dq10, .slice bq10 lq10 eq10] [.slice aq10 kq10 dq10, .slice bq10 lq10 eq10] ?_
  intro v14 Y C
  replace BB := belowC BB C (by omega)
  replace Nn3 := NatO.cg Nn3 Xg13 C (by rfl)
  replace Nn5 := NatO.cg Nn5 Xg13 C (by rfl)
  replace M8 := M8.off C (Lp.cg Xg13 C (by rfl)) (fun b h e => hkg13_K7 (e ▸ h))
  replace Qq10 := Qq10.cg Xg13 C (by rfl)
  clear C Xg13
  have Xg13 := Y
  clear Y
  refine gl_nil ?_
  refine ge_then ?_
  refine gc_fr [(0, .bool false), (1, pg gL1), (2, pg g13)] (by kernel_rfl) ?_
  refine gc_seq ?_
  refine gc_reg ?_
  refine t 21 (pg gL1) ?_
  refine tc 22 46 #[.int .u64 3] (dOf (x := 3) (by decide) (by decide)) ?_
  rintro _ v16 ⟨an15, kn15, dn15, rfl, Nn15, ln15, B⟩
  refine ⟨_, rfl, ?_⟩
  replace BB := joinB BB B
  replace Nn3 := Nn3.keep B
  replace Nn5 := Nn5.keep B
  replace M8 := M8.keep B
  replace Qq10 := Qq10.keep B
  replace Xg13 := Xg13.keep B
  clear B
  refine tc 23 12 #[pg gL1, .int .u64 16, .agg #[.slice an15 kn15 dn15], .int .u64 10] (lGive ⟨by decide, by decide⟩ Nn15.a (by omega) ⟨by decide, by decide⟩ M8 (L := 640) (by decide +kernel) (by decide) (by decide)) ?_
  rintro _ v19 ⟨K17, rfl, M18, hK, C, P⟩
  refine ⟨_, rfl, ?_⟩
  have hlo_K17 : ∀ b, K17 b → w.heap.size ≤ b := fun b h => (hK b h).elim (hlo_K7 b) (fun h => Nat.le_trans BB.size h)
  have hkg13_K17 : ¬ K17 g13 := fun h => (hK _ h).elim hkg13_K7 (fun h => absurd Xg13.lt (Nat.not_lt.2 h))
  replace BB := belowK BB C hlo_K7
  replace Nn3 := NatO.lp Nn3 P
  replace Nn5 := NatO.lp Nn5 P
  replace Qq10 := Qq10.lp P
  replace Xg13 := Xg13.chg C hkg13_K7
  replace Nn15 := NatO.lp Nn15 P
  clear hlo_K7 hkg13_K7 M8 hK C P
  replace M18 := (show Lm _ _ _ T2 from (show sGive T1 16 (3 * U36) 10 = T2 by decide +kernel) ▸ M18)
  refine gl_nil ?_
  refine ge_then ?_
  refine gc_seq ?_
  refine gc_reg ?_
  refine t 24 (pg gL1) ?_
  refine tc 25 25 #[pg gL1, .int .u64 16, .int .u64 17] (rdl (lOwed ⟨by decide, by decide⟩ ⟨by decide, by decide⟩ M18 (L := 640) (by decide +kernel) (by decide) (by decide)) (show sOwed T2 16 17 = 1 by decide +kernel)) ?_
  rintro _ v21 ⟨aq20, kq20, dq20, bq20, lq20, eq20, rfl, Qq20, B⟩
  refine ⟨_, rfl, ?_⟩
  replace BB := joinB BB B
  replace Nn3 := Nn3.keep B
  replace Nn5 := Nn5.keep B
  replace Qq10 := Qq10.keep B
  replace Xg13 := Xg13.keep B
  replace Nn15 := Nn15.keep B
  replace M18 := M18.keep B
  clear B
  have lXg13 := Xg13.lt
  refine ta 3 [.slice none 0 0, .slice none 0 0] 40 (pg) ?_
  intro v22 g23 Xg23 hg23 B
  have hkg23_K17 : ¬ K17 g23 := fun h => absurd (M18.lt h) (Nat.not_lt.2 hg23)
  have hbg23 := Nat.le_trans BB.size hg23
  replace BB := joinB BB B
  replace Nn3 := Nn3.keep B
  replace Nn5 := Nn5.keep B
  replace Qq10 := Qq10.keep B
  replace Xg13 := Xg13.keep B
  replace Nn15 := Nn15.keep B
  replace M18 := M18.keep B
  replace Qq20 := Qq20.keep B
  clear B
  refine ts Xg23 0 (.agg #[.slice aq20 kq20 dq20, .slice bq20 lq20 eq20]) [.slice aq20 kq20 dq20, .slice bq20 lq20 eq20] [.slice aq20 kq20 dq20, .slice bq20 lq20 eq20] ?_
  intro v24 Y C
  replace BB := belowC BB C (by omega)
  replace Nn3 := NatO.cg Nn3 Xg23 C (by rfl)
  replace Nn5 := NatO.cg Nn5 Xg23 C (by rfl)
  replace Qq10 := Qq10.cg Xg23 C (by rfl)
  replace Xg13 := Xg13.chg C (show g13 ≠ g23 by omega)
  replace Nn15 := NatO.cg Nn15 Xg23 C (by rfl)
  replace M18 := M18.off C (Lp.cg Xg23 C (by rfl)) (fun b h e => hkg23_K17 (e ▸ h))
  replace Qq20 := Qq20.cg Xg23 C (by rfl)
  clear C Xg23
  have Xg23 := Y
  clear Y
  refine gl_nil ?_
  refine ge_then ?_
  refine gc_seq ?_
  refine gc_reg ?_
  refine t 26 (pg gL1) ?_
  refine tc 27 21 #[pg gL1, .int .u64 16, .int .u64 10, .int .u64 5] (lCut ⟨by decide, by decide⟩ ⟨by decide, by decide⟩ ⟨by decide, by decide⟩ M18 (L := 640) (by decide +kernel) (by decide) (by decide)) ?_
  rintro _ v27 ⟨K25, rfl, M26, hK, C, P⟩
  refine ⟨_, rfl, ?_⟩
  have hlo_K25 : ∀ b, K25 b → w.heap.size ≤ b := fun b h => (hK b h).elim (hlo_K17 b) (fun h => Nat.le_trans BB.size h)
  have hkg13_K25 : ¬ K25 g13 := fun h => (hK _ h).elim hkg13_K17 (fun h => absurd Xg13.lt (Nat.not_lt.2 h))
  have hkg23_K25 : ¬ K25 g23 := fun h => (hK _ h).elim hkg23_K17 (fun h => absurd Xg23.lt (Nat.not_lt.2 h))
  replace BB := belowK BB C hlo_K17
  replace Nn3 := NatO.lp Nn3 P
  replace Nn5 := NatO.lp Nn5 P
  replace Qq10 := Qq10.lp P
  replace Xg13 := Xg13.chg C hkg13_K17
  replace Nn15 := NatO.lp Nn15 P
  replace Qq20 := Qq20.lp P
  replace Xg23 := Xg23.chg C hkg23_K17
  clear hlo_K17 hkg13_K17 hkg23_K17 M18 hK C P
  replace M26 := (show Lm _ _ _ T3 from (show sCut T2 16 10 5 = T3 by decide +kernel) ▸ M26)
  refine gl_nil ?_
  refine ge_then ?_
  refine gc_seq ?_
  refine gc_reg ?_
  refine t 28 (pg gL1) ?_
  refine tc 29 46 #[.int .u64 1] (dOf (x := 1) (by decide) (by decide)) ?_
  rintro _ v29 ⟨an28, kn28, dn28, rfl, Nn28, ln28, B⟩
  refine ⟨_, rfl, ?_⟩
  replace BB := joinB BB B
  replace Nn3 := Nn3.keep B
  replace Nn5 := Nn5.keep B
  replace Qq10 := Qq10.keep B
  replace Xg13 := Xg13.keep B
  replace Nn15 := Nn15.keep B
  replace Qq20 := Qq20.keep B
  replace Xg23 := Xg23.keep B
  replace M26 := M26.keep B
  clear B
  refine tc 30 12 #[pg gL1, .int .u64 16, .agg #[.slice an28 kn28 dn28], .int .u64 5] (lGive ⟨by decide, by decide⟩ Nn28.a (by omega) ⟨by decide, by decide⟩ M26 (L := 640) (by decide +kernel) (by decide) (by decide)) ?_
  rintro _ v32 ⟨K30, rfl, M31, hK, C, P⟩
  refine ⟨_, rfl, ?_⟩
  have hlo_K30 : ∀ b, K30 b → w.heap.size ≤ b := fun b h => (hK b h).elim (hlo_K25 b) (fun h => Nat.le_trans BB.size h)
  have hkg13_K30 : ¬ K30 g13 := fun h => (hK _ h).elim hkg13_K25 (fun h => absurd Xg13.lt (Nat.not_lt.2 h))
  have hkg23_K30 : ¬ K30 g23 := fun h => (hK _ h).elim hkg23_K25 (fun h => absurd Xg23.lt (Nat.not_lt.2 h))
  replace BB := belowK BB C hlo_K25
  replace Nn3 := NatO.lp Nn3 P
  replace Nn5 := NatO.lp Nn5 P
  replace Qq10 := Qq10.lp P
  replace Xg13 := Xg13.chg C hkg13_K25
  replace Nn15 := NatO.lp Nn15 P
  replace Qq20 := Qq20.lp P
  replace Xg23 := Xg23.chg C hkg23_K25
  replace Nn28 := NatO.lp Nn28 P
  clear hlo_K25 hkg13_K25 hkg23_K25 M26 hK C P
  replace M31 := (show Lm _ _ _ T4 from (show sGive T3 16 (1 * U36) 5 = T4 by decide +kernel) ▸ M31)
  refine gl_nil ?_
  refine ge_then ?_
  refine gc_seq ?_
  refine gc_reg ?_
  refine t 32 (pg gL1) ?_
  refine tc 33 14 #[pg gL1, .int .u64 16, .int .u64 17] (setl (lSettle ⟨by decide, by decide⟩ ⟨by decide, by decide⟩ M31 (L := 640) (by decide +kernel) (by decide) (by decide)) (s := (4/3 : Rat)) (p' := 2) (q' := 1) (by decide +kernel) (by decide +kernel) (by decide +kernel)) ?_
  rintro _ v36 ⟨aq35, kq35, dq35, bq35, lq35, eq35, K33, rfl, Qq35, M34, hK, C, P⟩
  refine ⟨_, rfl, ?_⟩
  have hlo_K33 : ∀ b, K33 b → w.heap.size ≤ b := fun b h => (hK b h).elim (hlo_K30 b) (fun h => Nat.le_trans BB.size h)
  have hkg13_K33 : ¬ K33 g13 := fun h => (hK _ h).elim hkg13_K30 (fun h => absurd Xg13.lt (Nat.not_lt.2 h))
  have hkg23_K33 : ¬ K33 g23 := fun h => (hK _ h).elim hkg23_K30 (fun h => absurd Xg23.lt (Nat.not_lt.2 h))
  replace BB := belowK BB C hlo_K30
  replace Nn3 := NatO.lp Nn3 P
  replace Nn5 := NatO.lp Nn5 P
  replace Qq10 := Qq10.lp P
  replace Xg13 := Xg13.chg C hkg13_K30
  replace Nn15 := NatO.lp Nn15 P
  replace Qq20 := Qq20.lp P
  replace Xg23 := Xg23.chg C hkg23_K30
  replace Nn28 := NatO.lp Nn28 P
  clear hlo_K30 hkg13_K30 hkg23_K30 M31 hK C P
  replace M34 := (show Lm _ _ _ T5 from (show sClear (sTick T4 16) 16 17 = T5 by decide +kernel) ▸ M34)
  refine t 31 (.tuple #[.agg #[.slice aq35 kq35 dq35, .slice bq35 lq35 eq35], .int .i64 2, .int .i64 1]) ?_
  refine t 34 (.agg #[.slice aq35 kq35 dq35, .slice bq35 lq35 eq35]) ?_
  refine t 35 (.int .i64 2) ?_
  refine t 36 (.int .i64 1) ?_
  have lXg13 := Xg13.lt
  have lXg23 := Xg23.lt
  refine ta 4 [.slice none 0 0, .slice none 0 0] 40 (pg) ?_
  intro v37 g38 Xg38 hg38 B
  have hkg38_K33 : ¬ K33 g38 := fun h => absurd (M34.lt h) (Nat.not_lt.2 hg38)
  have hbg38 := Nat.le_trans BB.size hg38
  replace BB := joinB BB B
  replace Nn3 := Nn3.keep B
  replace Nn5 := Nn5.keep B
  replace Qq10 := Qq10.keep B
  replace Xg13 := Xg13.keep B
  replace Nn15 := Nn15.keep B
  replace Qq20 := Qq20.keep B
  replace Xg23 := Xg23.keep B
  replace Nn28 := Nn28.keep B
  replace M34 := M34.keep B
  replace Qq35 := Qq35.keep B
  clear B
  refine ts Xg38 0 (.agg #[.slice aq35 kq35 dq35, .slice bq35 lq35 eq35]) [.slice aq35 kq35 dq35, .slice bq35 lq35 eq35] [.slice aq35 kq35 dq35, .slice bq35 lq35 eq35] ?_
  intro v39 Y C
  replace BB := belowC BB C (by omega)
  replace Nn3 := NatO.cg Nn3 Xg38 C (by rfl)
  replace Nn5 := NatO.cg Nn5 Xg38 C (by rfl)
  replace Qq10 := Qq10.cg Xg38 C (by rfl)
  replace Xg13 := Xg13.chg C (show g13 ≠ g38 by omega)
  replace Nn15 := NatO.cg Nn15 Xg38 C (by rfl)
  replace Qq20 := Qq20.cg Xg38 C (by rfl)
  replace Xg23 := Xg23.chg C (show g23 ≠ g38 by omega)
  replace Nn28 := NatO.cg Nn28 Xg38 C (by rfl)
  replace M34 := M34.off C (Lp.cg Xg38 C (by rfl)) (fun b h e => hkg38_K33 (e ▸ h))
  replace Qq35 := Qq35.cg Xg38 C (by rfl)
  clear C Xg38
  have Xg38 := Y
  clear Y
  refine t 5 (.int .i64 2) ?_
  refine t 6 (.int .i64 1) ?_
  refine gl_nil ?_
  refine ge_then ?_
  refine gc_fr [(0, .bool false), (1, pg gL1), (2, pg g13), (3, pg g23), (4, pg g38), (5, .int .i64 2), (6, .int .i64 1)] (by kernel_rfl) ?_
  refine gc_seq ?_
  refine gc_reg ?_
  refine t 38 (pg gL1) ?_
  refine tc 39 14 #[pg gL1, .int .u64 16, .int .u64 18] (setl (lSettle ⟨by decide, by decide⟩ ⟨by decide, by decide⟩ M34 (L := 640) (by decide +kernel) (by decide) (by decide)) (s := (0 : Rat)) (p' := 0) (q' := 0) (by decide +kernel) (by decide +kernel) (by decide +kernel)) ?_
  rintro _ v43 ⟨aq42, kq42, dq42, bq42, lq42, eq42, K40, rfl, Qq42, M41, hK, C, P⟩
  refine ⟨_, rfl, ?_⟩
  have hlo_K40 : ∀ b, K40 b → w.heap.size ≤ b := fun b h => (hK b h).elim (hlo_K33 b) (fun h => Nat.le_trans BB.size h)
  have hkg13_K40 : ¬ K40 g13 := fun h => (hK _ h).elim hkg13_K33 (fun h => absurd Xg13.lt (Nat.not_lt.2 h))
  have hkg23_K40 : ¬ K40 g23 := fun h => (hK _ h).elim hkg23_K33 (fun h => absurd Xg23.lt (Nat.not_lt.2 h))
  have hkg38_K40 : ¬ K40 g38 := fun h => (hK _ h).elim hkg38_K33 (fun h => absurd Xg38.lt (Nat.not_lt.2 h))
  replace BB := belowK BB C hlo_K33
  replace Nn3 := NatO.lp Nn3 P
  replace Nn5 := NatO.lp Nn5 P
  replace Qq10 := Qq10.lp P
  replace Xg13 := Xg13.chg C hkg13_K33
  replace Nn15 := NatO.lp Nn15 P
  replace Qq20 := Qq20.lp P
  replace Xg23 := Xg23.chg C hkg23_K33
  replace Nn28 := NatO.lp Nn28 P
  replace Qq35 := Qq35.lp P
  replace Xg38 := Xg38.chg C hkg38_K33
  clear hlo_K33 hkg13_K33 hkg23_K33 hkg38_K33 M34 hK C P
  replace M41 := (show Lm _ _ _ T6 from (show sClear (sTick T5 16) 16 18 = T6 by decide +kernel) ▸ M41)
  refine t 37 (.tuple #[.agg #[.slice aq42 kq42 dq42, .slice bq42 lq42 eq42], .int .i64 0, .int .i64 0]) ?_
  refine t 40 (.agg #[.slice aq42 kq42 dq42, .slice bq42 lq42 eq42]) ?_
  refine t 41 (.int .i64 0) ?_
  refine t 42 (.int .i64 0) ?_
  have lXg13 := Xg13.lt
  have lXg23 := Xg23.lt
  have lXg38 := Xg38.lt
  refine ta 7 [.slice none 0 0, .slice none 0 0] 40 (pg) ?_
  intro v44 g45 Xg45 hg45 B
  have hkg45_K40 : ¬ K40 g45 := fun h => absurd (M41.lt h) (Nat.not_lt.2 hg45)
  have hbg45 := Nat.le_trans BB.size hg45
  replace BB := joinB BB B
  replace Nn3 := Nn3.keep B
  replace Nn5 := Nn5.keep B
  replace Qq10 := Qq10.keep B
  replace Xg13 := Xg13.keep B
  replace Nn15 := Nn15.keep B
  replace Qq20 := Qq20.keep B
  replace Xg23 := Xg23.keep B
  replace Nn28 := Nn28.keep B
  replace Qq35 := Qq35.keep B
  replace Xg38 := Xg38.keep B
  replace M41 := M41.keep B
  replace Qq42 := Qq42.keep B
  clear B
  refine ts Xg45 0 (.agg #[.slice aq42 kq42 dq42, .slice bq42 lq42 eq42]) [.slice aq42 kq42 dq42, .slice bq42 lq42 eq42] [.slice aq42 kq42 dq42, .slice bq42 lq42 eq42] ?_
  intro v46 Y C
  replace BB := belowC BB C (by omega)
  replace Nn3 := NatO.cg Nn3 Xg45 C (by rfl)
  replace Nn5 := NatO.cg Nn5 Xg45 C (by rfl)
  replace Qq10 := Qq10.cg Xg45 C (by rfl)
  replace Xg13 := Xg13.chg C (show g13 ≠ g45 by omega)
  replace Nn15 := NatO.cg Nn15 Xg45 C (by rfl)
  replace Qq20 := Qq20.cg Xg45 C (by rfl)
  replace Xg23 := Xg23.chg C (show g23 ≠ g45 by omega)
  replace Nn28 := NatO.cg Nn28 Xg45 C (by rfl)
  replace Qq35 := Qq35.cg Xg45 C (by rfl)
  replace Xg38 := Xg38.chg C (show g38 ≠ g45 by omega)
  replace M41 := M41.off C (Lp.cg Xg45 C (by rfl)) (fun b h e => hkg45_K40 (e ▸ h))
  replace Qq42 := Qq42.cg Xg45 C (by rfl)
  clear C Xg45
  have Xg45 := Y
  clear Y
  refine t 8 (.int .i64 0) ?_
  refine t 9 (.int .i64 0) ?_
  refine gl_nil ?_
  refine ge_then ?_
  refine gc_seq ?_
  refine gc_reg ?_
  refine tc 44 48 #[.string { data := #[48, 46, 51, 51] }] (parse33) ?_
  rintro _ v48 ⟨an47, kn47, dn47, rfl, Nn47, ln47, B⟩
  refine ⟨_, rfl, ?_⟩
  replace BB := joinB BB B
  replace Nn3 := Nn3.keep B
  replace Nn5 := Nn5.keep B
  replace Qq10 := Qq10.keep B
  replace Xg13 := Xg13.keep B
  replace Nn15 := Nn15.keep B
  replace Qq20 := Qq20.keep B
  replace Xg23 := Xg23.keep B
  replace Nn28 := Nn28.keep B
  replace Qq35 := Qq35.keep B
  replace Xg38 := Xg38.keep B
  replace M41 := M41.keep B
  replace Qq42 := Qq42.keep B
  replace Xg45 := Xg45.keep B
  clear B
  refine t 43 (.tuple #[.agg #[.slice an47 kn47 dn47], .int .i64 0]) ?_
  refine t 45 (.agg #[.slice an47 kn47 dn47]) ?_
  refine t 46 (.int .i64 0) ?_
  have lXg13 := Xg13.lt
  have lXg23 := Xg23.lt
  have lXg38 := Xg38.lt
  have lXg45 := Xg45.lt
  refine ta 10 [.slice none 0 0] 35 (pg) ?_
  intro v49 g50 Xg50 hg50 B
  have hkg50_K40 : ¬ K40 g50 := fun h => absurd (M41.lt h) (Nat.not_lt.2 hg50)
  have hbg50 := Nat.le_trans BB.size hg50
  replace BB := joinB BB B
  replace Nn3 := Nn3.keep B
  replace Nn5 := Nn5.keep B
  replace Qq10 := Qq10.keep B
  replace Xg13 := Xg13.keep B
  replace Nn15 := Nn15.keep B
  replace Qq20 := Qq20.keep B
  replace Xg23 := Xg23.keep B
  replace Nn28 := Nn28.keep B
  replace Qq35 := Qq35.keep B
  replace Xg38 := Xg38.keep B
  replace M41 := M41.keep B
  replace Qq42 := Qq42.keep B
  replace Xg45 := Xg45.keep B
  replace Nn47 := Nn47.keep B
  clear B
  refine ts Xg50 0 (.agg #[.slice an47 kn47 dn47]) [.slice an47 kn47 dn47] [.slice an47 kn47 dn47] ?_
  intro v51 Y C
  replace BB := belowC BB C (by omega)
  replace Nn3 := NatO.cg Nn3 Xg50 C (by rfl)
  replace Nn5 := NatO.cg Nn5 Xg50 C (by rfl)
  replace Qq10 := Qq10.cg Xg50 C (by rfl)
  replace Xg13 := Xg13.chg C (show g13 ≠ g50 by omega)
  replace Nn15 := NatO.cg Nn15 Xg50 C (by rfl)
  replace Qq20 := Qq20.cg Xg50 C (by rfl)
  replace Xg23 := Xg23.chg C (show g23 ≠ g50 by omega)
  replace Nn28 := NatO.cg Nn28 Xg50 C (by rfl)
  replace Qq35 := Qq35.cg Xg50 C (by rfl)
  replace Xg38 := Xg38.chg C (show g38 ≠ g50 by omega)
  replace M41 := M41.off C (Lp.cg Xg50 C (by rfl)) (fun b h e => hkg50_K40 (e ▸ h))
  replace Qq42 := Qq42.cg Xg50 C (by rfl)
  replace Xg45 := Xg45.chg C (show g45 ≠ g50 by omega)
  replace Nn47 := NatO.cg Nn47 Xg50 C (by rfl)
  clear C Xg50
  have Xg50 := Y
  clear Y
  refine t 11 (.int .i64 0) ?_
  refine gl_nil ?_
  refine ge_then ?_
  refine gc_fr [(0, .bool false), (1, pg gL1), (2, pg g13), (3, pg g23), (4, pg g38), (5, .int .i64 2), (6, .int .i64 1), (7, pg g45), (8, .int .i64 0), (9, .int .i64 0), (10, pg g50)] (by kernel_rfl) ?_
  refine gc_seq ?_
  refine gc_seq ?_
  replace BB := BB.drew
  replace Nn3 := Nn3.keep (Below.refl _ _).drew
  replace Nn5 := Nn5.keep (Below.refl _ _).drew
  replace Qq10 := Qq10.drew
  replace Xg13 := Xg13.drew
  replace Nn15 := Nn15.keep (Below.refl _ _).drew
  replace Qq20 := Qq20.drew
  replace Xg23 := Xg23.drew
  replace Nn28 := Nn28.keep (Below.refl _ _).drew
  replace Qq35 := Qq35.drew
  replace Xg38 := Xg38.drew
  replace M41 := M41.drew
  replace Qq42 := Qq42.drew
  replace Xg45 := Xg45.drew
  replace Nn47 := Nn47.keep (Below.refl _ _).drew
  replace Xg50 := Xg50.drew
  refine gc_draw (fun w' => Blk w' g13 [.slice aq10 kq10 dq10, .slice bq10 lq10 eq10] 40 ∧ Blk w' g23 [.slice aq20 kq20 dq20, .slice bq20 lq20 eq20] 40 ∧ Blk w' g38 [.slice aq35 kq35 dq35, .slice bq35 lq35 eq35] 40 ∧ Blk w' g45 [.slice aq42 kq42 dq42, .slice bq42 lq42 eq42] 40) (fun _ => false) ⟨Xg13, Xg23, Xg38, Xg45⟩ ?_
  refine zlr 0 47 [.slice aq10 kq10 dq10, .slice bq10 lq10 eq10] (fun _ h => h.1) 0 ?_
  refine zc 1 48 42 #[.int .u64 10, .int .u64 3] (frac_any (n := 10) (d := 3) ⟨by decide, by decide⟩ ⟨by decide, by decide⟩ (by decide)) ?_
  rintro _ v53 ⟨aq52, kq52, dq52, bq52, lq52, eq52, rfl, Qq52, B⟩
  replace BB := joinB BB B
  replace Nn3 := Nn3.keep B
  replace Nn5 := Nn5.keep B
  replace Qq10 := Qq10.keep B
  replace Xg13 := Xg13.keep B
  replace Nn15 := Nn15.keep B
  replace Qq20 := Qq20.keep B
  replace Xg23 := Xg23.keep B
  replace Nn28 := Nn28.keep B
  replace Qq35 := Qq35.keep B
  replace Xg38 := Xg38.keep B
  replace M41 := M41.keep B
  replace Qq42 := Qq42.keep B
  replace Xg45 := Xg45.keep B
  replace Nn47 := Nn47.keep B
  replace Xg50 := Xg50.keep B
  clear B
  refine ⟨_, rfl, ⟨Xg13, Xg23, Xg38, Xg45⟩, ?_⟩
  refine zc 2 49 16 #[.agg #[.slice aq10 kq10 dq10, .slice bq10 lq10 eq10], .agg #[.slice aq52 kq52 dq52, .slice bq52 lq52 eq52]] (pSameL (B := 10) Qq10 Qq52 (by decide +kernel) (by decide +kernel) (by decide) (t := true) (by decide +kernel)) ?_
  rintro _ v54 ⟨rfl, B⟩
  replace BB := joinB BB B
  replace Nn3 := Nn3.keep B
  replace Nn5 := Nn5.keep B
  replace Qq10 := Qq10.keep B
  replace Xg13 := Xg13.keep B
  replace Nn15 := Nn15.keep B
  replace Qq20 := Qq20.keep B
  replace Xg23 := Xg23.keep B
  replace Nn28 := Nn28.keep B
  replace Qq35 := Qq35.keep B
  replace Xg38 := Xg38.keep B
  replace M41 := M41.keep B
  replace Qq42 := Qq42.keep B
  replace Xg45 := Xg45.keep B
  replace Nn47 := Nn47.keep B
  replace Xg50 := Xg50.keep B
  replace Qq52 := Qq52.keep B
  clear B
  refine ⟨_, rfl, ⟨Xg13, Xg23, Xg38, Xg45⟩, ?_⟩
  refine z 3 50 (.bool false) ?_
  refine z 4 51 (.bool false) ?_
  refine zlr 5 52 [.slice aq20 kq20 dq20, .slice bq20 lq20 eq20] (fun _ h => h.2.1) 0 ?_
  refine zc 6 53 42 #[.int .u64 1, .int .u64 1] (frac_any (n := 1) (d := 1) ⟨by decide, by decide⟩ ⟨by decide, by decide⟩ (by decide)) ?_
  rintro _ v56 ⟨aq55, kq55, dq55, bq55, lq55, eq55, rfl, Qq55, B⟩
  replace BB := joinB BB B
  replace Nn3 := Nn3.keep B
  replace Nn5 := Nn5.keep B
  replace Qq10 := Qq10.keep B
  replace Xg13 := Xg13.keep B
  replace Nn15 := Nn15.keep B
  replace Qq20 := Qq20.keep B
  replace Xg23 := Xg23.keep B
  replace Nn28 := Nn28.keep B
  replace Qq35 := Qq35.keep B
  replace Xg38 := Xg38.keep B
  replace M41 := M41.keep B
  replace Qq42 := Qq42.keep B
  replace Xg45 := Xg45.keep B
  replace Nn47 := Nn47.keep B
  replace Xg50 := Xg50.keep B
  replace Qq52 := Qq52.keep B
  clear B
  refine ⟨_, rfl, ⟨Xg13, Xg23, Xg38, Xg45⟩, ?_⟩
  refine zc 7 54 16 #[.agg #[.slice aq20 kq20 dq20, .slice bq20 lq20 eq20], .agg #[.slice aq55 kq55 dq55, .slice bq55 lq55 eq55]] (pSameL (B := 10) Qq20 Qq55 (by decide +kernel) (by decide +kernel) (by decide) (t := true) (by decide +kernel)) ?_
  rintro _ v57 ⟨rfl, B⟩
  replace BB := joinB BB B
  replace Nn3 := Nn3.keep B
  replace Nn5 := Nn5.keep B
  replace Qq10 := Qq10.keep B
  replace Xg13 := Xg13.keep B
  replace Nn15 := Nn15.keep B
  replace Qq20 := Qq20.keep B
  replace Xg23 := Xg23.keep B
  replace Nn28 := Nn28.keep B
  replace Qq35 := Qq35.keep B
  replace Xg38 := Xg38.keep B
  replace M41 := M41.keep B
  replace Qq42 := Qq42.keep B
  replace Xg45 := Xg45.keep B
  replace Nn47 := Nn47.keep B
  replace Xg50 := Xg50.keep B
  replace Qq52 := Qq52.keep B
  replace Qq55 := Qq55.keep B
  clear B
  refine ⟨_, rfl, ⟨Xg13, Xg23, Xg38, Xg45⟩, ?_⟩
  refine z 8 55 (.bool false) ?_
  refine z 9 56 (.bool false) ?_
  refine z 10 57 (.bool false) ?_
  refine z 11 58 (pg gL1) ?_
  refine zc 12 59 27 #[pg gL1, .int .u64 16] (rdl (lStakes ⟨by decide, by decide⟩ M41 (L := 640) (by decide +kernel) (by decide) (by decide)) (show sStakes T6 16 = (5/3 : Rat) by decide +kernel)) ?_
  rintro _ v59 ⟨aq58, kq58, dq58, bq58, lq58, eq58, rfl, Qq58, B⟩
  replace BB := joinB BB B
  replace Nn3 := Nn3.keep B
  replace Nn5 := Nn5.keep B
  replace Qq10 := Qq10.keep B
  replace Xg13 := Xg13.keep B
  replace Nn15 := Nn15.keep B
  replace Qq20 := Qq20.keep B
  replace Xg23 := Xg23.keep B
  replace Nn28 := Nn28.keep B
  replace Qq35 := Qq35.keep B
  replace Xg38 := Xg38.keep B
  replace M41 := M41.keep B
  replace Qq42 := Qq42.keep B
  replace Xg45 := Xg45.keep B
  replace Nn47 := Nn47.keep B
  replace Xg50 := Xg50.keep B
  replace Qq52 := Qq52.keep B
  replace Qq55 := Qq55.keep B
  clear B
  refine ⟨_, rfl, ⟨Xg13, Xg23, Xg38, Xg45⟩, ?_⟩
  refine zc 13 60 42 #[.int .u64 5, .int .u64 3] (frac_any (n := 5) (d := 3) ⟨by decide, by decide⟩ ⟨by decide, by decide⟩ (by decide)) ?_
  rintro _ v61 ⟨aq60, kq60, dq60, bq60, lq60, eq60, rfl, Qq60, B⟩
  replace BB := joinB BB B
  replace Nn3 := Nn3.keep B
  replace Nn5 := Nn5.keep B
  replace Qq10 := Qq10.keep B
  replace Xg13 := Xg13.keep B
  replace Nn15 := Nn15.keep B
  replace Qq20 := Qq20.keep B
  replace Xg23 := Xg23.keep B
  replace Nn28 := Nn28.keep B
  replace Qq35 := Qq35.keep B
  replace Xg38 := Xg38.keep B
  replace M41 := M41.keep B
  replace Qq42 := Qq42.keep B
  replace Xg45 := Xg45.keep B
  replace Nn47 := Nn47.keep B
  replace Xg50 := Xg50.keep B
  replace Qq52 := Qq52.keep B
  replace Qq55 := Qq55.keep B
  replace Qq58 := Qq58.keep B
  clear B
  refine ⟨_, rfl, ⟨Xg13, Xg23, Xg38, Xg45⟩, ?_⟩
  refine zc 14 61 16 #[.agg #[.slice aq58 kq58 dq58, .slice bq58 lq58 eq58], .agg #[.slice aq60 kq60 dq60, .slice bq60 lq60 eq60]] (pSameL (B := 10) Qq58 Qq60 (by decide +kernel) (by decide +kernel) (by decide) (t := true) (by decide +kernel)) ?_
  rintro _ v62 ⟨rfl, B⟩
  replace BB := joinB BB B
  replace Nn3 := Nn3.keep B
  replace Nn5 := Nn5.keep B
  replace Qq10 := Qq10.keep B
  replace Xg13 := Xg13.keep B
  replace Nn15 := Nn15.keep B
  replace Qq20 := Qq20.keep B
  replace Xg23 := Xg23.keep B
  replace Nn28 := Nn28.keep B
  replace Qq35 := Qq35.keep B
  replace Xg38 := Xg38.keep B
  replace M41 := M41.keep B
  replace Qq42 := Qq42.keep B
  replace Xg45 := Xg45.keep B
  replace Nn47 := Nn47.keep B
  replace Xg50 := Xg50.keep B
  replace Qq52 := Qq52.keep B
  replace Qq55 := Qq55.keep B
  replace Qq58 := Qq58.keep B
  replace Qq60 := Qq60.keep B
  clear B
  refine ⟨_, rfl, ⟨Xg13, Xg23, Xg38, Xg45⟩, ?_⟩
  refine z 15 62 (.bool false) ?_
  refine z 16 63 (.bool false) ?_
  refine z 17 64 (.bool false) ?_
  refine zlr 18 65 [.slice aq35 kq35 dq35, .slice bq35 lq35 eq35] (fun _ h => h.2.2.1) 0 ?_
  refine zc 19 66 42 #[.int .u64 4, .int .u64 3] (frac_any (n := 4) (d := 3) ⟨by decide, by decide⟩ ⟨by decide, by decide⟩ (by decide)) ?_
  rintro _ v64 ⟨aq63, kq63, dq63, bq63, lq63, eq63, rfl, Qq63, B⟩
  replace BB := joinB BB B
  replace Nn3 := Nn3.keep B
  replace Nn5 := Nn5.keep B
  replace Qq10 := Qq10.keep B
  replace Xg13 := Xg13.keep B
  replace Nn15 := Nn15.keep B
  replace Qq20 := Qq20.keep B
  replace Xg23 := Xg23.keep B
  replace Nn28 := Nn28.keep B
  replace Qq35 := Qq35.keep B
  replace Xg38 := Xg38.keep B
  replace M41 := M41.keep B
  replace Qq42 := Qq42.keep B
  replace Xg45 := Xg45.keep B
  replace Nn47 := Nn47.keep B
  replace Xg50 := Xg50.keep B
  replace Qq52 := Qq52.keep B
  replace Qq55 := Qq55.keep B
  replace Qq58 := Qq58.keep B
  replace Qq60 := Qq60.keep B
  clear B
  refine ⟨_, rfl, ⟨Xg13, Xg23, Xg38, Xg45⟩, ?_⟩
  refine zc 20 67 16 #[.agg #[.slice aq35 kq35 dq35, .slice bq35 lq35 eq35], .agg #[.slice aq63 kq63 dq63, .slice bq63 lq63 eq63]] (pSameL (B := 10) Qq35 Qq63 (by decide +kernel) (by decide +kernel) (by decide) (t := true) (by decide +kernel)) ?_
  rintro _ v65 ⟨rfl, B⟩
  replace BB := joinB BB B
  replace Nn3 := Nn3.keep B
  replace Nn5 := Nn5.keep B
  replace Qq10 := Qq10.keep B
  replace Xg13 := Xg13.keep B
  replace Nn15 := Nn15.keep B
  replace Qq20 := Qq20.keep B
  replace Xg23 := Xg23.keep B
  replace Nn28 := Nn28.keep B
  replace Qq35 := Qq35.keep B
  replace Xg38 := Xg38.keep B
  replace M41 := M41.keep B
  replace Qq42 := Qq42.keep B
  replace Xg45 := Xg45.keep B
  replace Nn47 := Nn47.keep B
  replace Xg50 := Xg50.keep B
  replace Qq52 := Qq52.keep B
  replace Qq55 := Qq55.keep B
  replace Qq58 := Qq58.keep B
  replace Qq60 := Qq60.keep B
  replace Qq63 := Qq63.keep B
  clear B
  refine ⟨_, rfl, ⟨Xg13, Xg23, Xg38, Xg45⟩, ?_⟩
  refine z 21 68 (.bool false) ?_
  refine z 22 69 (.bool false) ?_
  refine z 23 70 (.bool false) ?_
  refine z 24 71 (.int .i64 2) ?_
  refine z 25 72 (.bool false) ?_
  refine z 26 73 (.bool false) ?_
  refine z 27 74 (.bool false) ?_
  refine z 28 75 (.int .i64 1) ?_
  refine z 29 76 (.bool false) ?_
  refine z 30 77 (.bool false) ?_
  refine z 31 78 (.bool false) ?_
  refine zlr 32 79 [.slice aq42 kq42 dq42, .slice bq42 lq42 eq42] (fun _ h => h.2.2.2) 0 ?_
  refine zc 33 80 42 #[.int .u64 0, .int .u64 1] (frac_any (n := 0) (d := 1) ⟨by decide, by decide⟩ ⟨by decide, by decide⟩ (by decide)) ?_
  rintro _ v67 ⟨aq66, kq66, dq66, bq66, lq66, eq66, rfl, Qq66, B⟩
  replace BB := joinB BB B
  replace Nn3 := Nn3.keep B
  replace Nn5 := Nn5.keep B
  replace Qq10 := Qq10.keep B
  replace Xg13 := Xg13.keep B
  replace Nn15 := Nn15.keep B
  replace Qq20 := Qq20.keep B
  replace Xg23 := Xg23.keep B
  replace Nn28 := Nn28.keep B
  replace Qq35 := Qq35.keep B
  replace Xg38 := Xg38.keep B
  replace M41 := M41.keep B
  replace Qq42 := Qq42.keep B
  replace Xg45 := Xg45.keep B
  replace Nn47 := Nn47.keep B
  replace Xg50 := Xg50.keep B
  replace Qq52 := Qq52.keep B
  replace Qq55 := Qq55.keep B
  replace Qq58 := Qq58.keep B
  replace Qq60 := Qq60.keep B
  replace Qq63 := Qq63.keep B
  clear B
  refine ⟨_, rfl, ⟨Xg13, Xg23, Xg38, Xg45⟩, ?_⟩
  refine zc 34 81 16 #[.agg #[.slice aq42 kq42 dq42, .slice bq42 lq42 eq42], .agg #[.slice aq66 kq66 dq66, .slice bq66 lq66 eq66]] (pSameL (B := 10) Qq42 Qq66 (by decide +kernel) (by decide +kernel) (by decide) (t := true) (by decide +kernel)) ?_
  rintro _ v68 ⟨rfl, B⟩
  replace BB := joinB BB B
  replace Nn3 := Nn3.keep B
  replace Nn5 := Nn5.keep B
  replace Qq10 := Qq10.keep B
  replace Xg13 := Xg13.keep B
  replace Nn15 := Nn15.keep B
  replace Qq20 := Qq20.keep B
  replace Xg23 := Xg23.keep B
  replace Nn28 := Nn28.keep B
  replace Qq35 := Qq35.keep B
  replace Xg38 := Xg38.keep B
  replace M41 := M41.keep B
  replace Qq42 := Qq42.keep B
  replace Xg45 := Xg45.keep B
  replace Nn47 := Nn47.keep B
  replace Xg50 := Xg50.keep B
  replace Qq52 := Qq52.keep B
  replace Qq55 := Qq55.keep B
  replace Qq58 := Qq58.keep B
  replace Qq60 := Qq60.keep B
  replace Qq63 := Qq63.keep B
  replace Qq66 := Qq66.keep B
  clear B
  refine ⟨_, rfl, ⟨Xg13, Xg23, Xg38, Xg45⟩, ?_⟩
  refine z 35 82 (.bool false) ?_
  refine z 36 83 (.bool false) ?_
  refine z 37 84 (.bool false) ?_
  refine z 38 85 (.int .i64 0) ?_
  refine z 39 86 (.bool false) ?_
  refine z 40 87 (.bool false) ?_
  refine z 41 88 (.bool false) ?_
  refine z 42 89 (.int .i64 0) ?_
  refine z 43 90 (.bool false) ?_
  refine z 44 91 (.bool false) ?_
  refine z 45 92 (.bool false) ?_
  refine z 46 93 (pg gL1) ?_
  refine zc 47 94 29 #[pg gL1, .int .u64 16] (rdl (lOwes ⟨by decide, by decide⟩ M41 (L := 640) (by decide +kernel) (by decide) (by decide)) (show sOwes T6 16 = 0 by decide +kernel)) ?_
  rintro _ v70 ⟨aq69, kq69, dq69, bq69, lq69, eq69, rfl, Qq69, B⟩
  replace BB := joinB BB B
  replace Nn3 := Nn3.keep B
  replace Nn5 := Nn5.keep B
  replace Qq10 := Qq10.keep B
  replace Xg13 := Xg13.keep B
  replace Nn15 := Nn15.keep B
  replace Qq20 := Qq20.keep B
  replace Xg23 := Xg23.keep B
  replace Nn28 := Nn28.keep B
  replace Qq35 := Qq35.keep B
  replace Xg38 := Xg38.keep B
  replace M41 := M41.keep B
  replace Qq42 := Qq42.keep B
  replace Xg45 := Xg45.keep B
  replace Nn47 := Nn47.keep B
  replace Xg50 := Xg50.keep B
  replace Qq52 := Qq52.keep B
  replace Qq55 := Qq55.keep B
  replace Qq58 := Qq58.keep B
  replace Qq60 := Qq60.keep B
  replace Qq63 := Qq63.keep B
  replace Qq66 := Qq66.keep B
  clear B
  refine ⟨_, rfl, ⟨Xg13, Xg23, Xg38, Xg45⟩, ?_⟩
  refine zc 48 95 42 #[.int .u64 0, .int .u64 1] (frac_any (n := 0) (d := 1) ⟨by decide, by decide⟩ ⟨by decide, by decide⟩ (by decide)) ?_
  rintro _ v72 ⟨aq71, kq71, dq71, bq71, lq71, eq71, rfl, Qq71, B⟩
  replace BB := joinB BB B
  replace Nn3 := Nn3.keep B
  replace Nn5 := Nn5.keep B
  replace Qq10 := Qq10.keep B
  replace Xg13 := Xg13.keep B
  replace Nn15 := Nn15.keep B
  replace Qq20 := Qq20.keep B
  replace Xg23 := Xg23.keep B
  replace Nn28 := Nn28.keep B
  replace Qq35 := Qq35.keep B
  replace Xg38 := Xg38.keep B
  replace M41 := M41.keep B
  replace Qq42 := Qq42.keep B
  replace Xg45 := Xg45.keep B
  replace Nn47 := Nn47.keep B
  replace Xg50 := Xg50.keep B
  replace Qq52 := Qq52.keep B
  replace Qq55 := Qq55.keep B
  replace Qq58 := Qq58.keep B
  replace Qq60 := Qq60.keep B
  replace Qq63 := Qq63.keep B
  replace Qq66 := Qq66.keep B
  replace Qq69 := Qq69.keep B
  clear B
  refine ⟨_, rfl, ⟨Xg13, Xg23, Xg38, Xg45⟩, ?_⟩
  refine zc 49 96 16 #[.agg #[.slice aq69 kq69 dq69, .slice bq69 lq69 eq69], .agg #[.slice aq71 kq71 dq71, .slice bq71 lq71 eq71]] (pSameL (B := 10) Qq69 Qq71 (by decide +kernel) (by decide +kernel) (by decide) (t := true) (by decide +kernel)) ?_
  rintro _ v73 ⟨rfl, B⟩
  replace BB := joinB BB B
  replace Nn3 := Nn3.keep B
  replace Nn5 := Nn5.keep B
  replace Qq10 := Qq10.keep B
  replace Xg13 := Xg13.keep B
  replace Nn15 := Nn15.keep B
  replace Qq20 := Qq20.keep B
  replace Xg23 := Xg23.keep B
  replace Nn28 := Nn28.keep B
  replace Qq35 := Qq35.keep B
  replace Xg38 := Xg38.keep B
  replace M41 := M41.keep B
  replace Qq42 := Qq42.keep B
  replace Xg45 := Xg45.keep B
  replace Nn47 := Nn47.keep B
  replace Xg50 := Xg50.keep B
  replace Qq52 := Qq52.keep B
  replace Qq55 := Qq55.keep B
  replace Qq58 := Qq58.keep B
  replace Qq60 := Qq60.keep B
  replace Qq63 := Qq63.keep B
  replace Qq66 := Qq66.keep B
  replace Qq69 := Qq69.keep B
  replace Qq71 := Qq71.keep B
  clear B
  refine ⟨_, rfl, ⟨Xg13, Xg23, Xg38, Xg45⟩, ?_⟩
  refine z 50 97 (.bool false) ?_
  refine z 51 98 (.bool false) ?_
  refine gz_done ?_
  refine ge_then ?_
  refine gc_fr [(0, .bool false), (1, pg gL1), (4, pg g38), (10, pg g50), (98, .bool false)] (by kernel_rfl) ?_
  refine gc_no ?_
  refine gc_skip ?_
  refine ge_then ?_
  refine gc_seq ?_
  refine gc_reg ?_
  refine t 99 (pg gL1) ?_
  refine tc 100 19 #[pg gL1, .int .u64 16, .int .u64 17] (lDrop ⟨by decide, by decide⟩ ⟨by decide, by decide⟩ M41 (L := 640) (by decide +kernel) (by decide) (by decide)) ?_
  rintro _ v76 ⟨K74, rfl, M75, hK, C, P⟩
  refine ⟨_, rfl, ?_⟩
  have hlo_K74 : ∀ b, K74 b → w.heap.size ≤ b := fun b h => (hK b h).elim (hlo_K40 b) (fun h => Nat.le_trans BB.size h)
  have hkg13_K74 : ¬ K74 g13 := fun h => (hK _ h).elim hkg13_K40 (fun h => absurd Xg13.lt (Nat.not_lt.2 h))
  have hkg23_K74 : ¬ K74 g23 := fun h => (hK _ h).elim hkg23_K40 (fun h => absurd Xg23.lt (Nat.not_lt.2 h))
  have hkg38_K74 : ¬ K74 g38 := fun h => (hK _ h).elim hkg38_K40 (fun h => absurd Xg38.lt (Nat.not_lt.2 h))
  have hkg45_K74 : ¬ K74 g45 := fun h => (hK _ h).elim hkg45_K40 (fun h => absurd Xg45.lt (Nat.not_lt.2 h))
  have hkg50_K74 : ¬ K74 g50 := fun h => (hK _ h).elim hkg50_K40 (fun h => absurd Xg50.lt (Nat.not_lt.2 h))
  replace BB := belowK BB C hlo_K40
  replace Nn3 := NatO.lp Nn3 P
  replace Nn5 := NatO.lp Nn5 P
  replace Qq10 := Qq10.lp P
  replace Xg13 := Xg13.chg C hkg13_K40
  replace Nn15 := NatO.lp Nn15 P
  replace Qq20 := Qq20.lp P
  replace Xg23 := Xg23.chg C hkg23_K40
  replace Nn28 := NatO.lp Nn28 P
  replace Qq35 := Qq35.lp P
  replace Xg38 := Xg38.chg C hkg38_K40
  replace Qq42 := Qq42.lp P
  replace Xg45 := Xg45.chg C hkg45_K40
  replace Nn47 := NatO.lp Nn47 P
  replace Xg50 := Xg50.chg C hkg50_K40
  replace Qq52 := Qq52.lp P
  replace Qq55 := Qq55.lp P
  replace Qq58 := Qq58.lp P
  replace Qq60 := Qq60.lp P
  replace Qq63 := Qq63.lp P
  replace Qq66 := Qq66.lp P
  replace Qq69 := Qq69.lp P
  replace Qq71 := Qq71.lp P
  clear hlo_K40 hkg13_K40 hkg23_K40 hkg38_K40 hkg45_K40 hkg50_K40 M41 hK C P
  replace M75 := (show Lm _ _ _ T7 from (show sDrop T6 16 17 = T7 by decide +kernel) ▸ M75)
  refine gl_nil ?_
  refine ge_then ?_
  refine gc_seq ?_
  refine gc_reg ?_
  refine t 101 (pg gL1) ?_
  refine tc 102 23 #[pg gL1, .int .u64 16, .int .u64 17] (rdl (lStake ⟨by decide, by decide⟩ ⟨by decide, by decide⟩ M75 (L := 640) (by decide +kernel) (by decide) (by decide)) (show sWorth T7 16 17 = 0 by decide +kernel)) ?_
  rintro _ v78 ⟨aq77, kq77, dq77, bq77, lq77, eq77, rfl, Qq77, B⟩
  refine ⟨_, rfl, ?_⟩
  replace BB := joinB BB B
  replace Nn3 := Nn3.keep B
  replace Nn5 := Nn5.keep B
  replace Qq10 := Qq10.keep B
  replace Xg13 := Xg13.keep B
  replace Nn15 := Nn15.keep B
  replace Qq20 := Qq20.keep B
  replace Xg23 := Xg23.keep B
  replace Nn28 := Nn28.keep B
  replace Qq35 := Qq35.keep B
  replace Xg38 := Xg38.keep B
  replace Qq42 := Qq42.keep B
  replace Xg45 := Xg45.keep B
  replace Nn47 := Nn47.keep B
  replace Xg50 := Xg50.keep B
  replace Qq52 := Qq52.keep B
  replace Qq55 := Qq55.keep B
  replace Qq58 := Qq58.keep B
  replace Qq60 := Qq60.keep B
  replace Qq63 := Qq63.keep B
  replace Qq66 := Qq66.keep B
  replace Qq69 := Qq69.keep B
  replace Qq71 := Qq71.keep B
  replace M75 := M75.keep B
  clear B
  refine tc 103 42 #[.int .u64 0, .int .u64 1] (frac_any (n := 0) (d := 1) ⟨by decide, by decide⟩ ⟨by decide, by decide⟩ (by decide)) ?_
  rintro _ v80 ⟨aq79, kq79, dq79, bq79, lq79, eq79, rfl, Qq79, B⟩
  refine ⟨_, rfl, ?_⟩
  replace BB := joinB BB B
  replace Nn3 := Nn3.keep B
  replace Nn5 := Nn5.keep B
  replace Qq10 := Qq10.keep B
  replace Xg13 := Xg13.keep B
  replace Nn15 := Nn15.keep B
  replace Qq20 := Qq20.keep B
  replace Xg23 := Xg23.keep B
  replace Nn28 := Nn28.keep B
  replace Qq35 := Qq35.keep B
  replace Xg38 := Xg38.keep B
  replace Qq42 := Qq42.keep B
  replace Xg45 := Xg45.keep B
  replace Nn47 := Nn47.keep B
  replace Xg50 := Xg50.keep B
  replace Qq52 := Qq52.keep B
  replace Qq55 := Qq55.keep B
  replace Qq58 := Qq58.keep B
  replace Qq60 := Qq60.keep B
  replace Qq63 := Qq63.keep B
  replace Qq66 := Qq66.keep B
  replace Qq69 := Qq69.keep B
  replace Qq71 := Qq71.keep B
  replace M75 := M75.keep B
  replace Qq77 := Qq77.keep B
  clear B
  refine tc 104 16 #[.agg #[.slice aq77 kq77 dq77, .slice bq77 lq77 eq77], .agg #[.slice aq79 kq79 dq79, .slice bq79 lq79 eq79]] (pSameL (B := 10) Qq77 Qq79 (by decide +kernel) (by decide +kernel) (by decide) (t := true) (by decide +kernel)) ?_
  rintro _ v81 ⟨rfl, B⟩
  refine ⟨_, rfl, ?_⟩
  replace BB := joinB BB B
  replace Nn3 := Nn3.keep B
  replace Nn5 := Nn5.keep B
  replace Qq10 := Qq10.keep B
  replace Xg13 := Xg13.keep B
  replace Nn15 := Nn15.keep B
  replace Qq20 := Qq20.keep B
  replace Xg23 := Xg23.keep B
  replace Nn28 := Nn28.keep B
  replace Qq35 := Qq35.keep B
  replace Xg38 := Xg38.keep B
  replace Qq42 := Qq42.keep B
  replace Xg45 := Xg45.keep B
  replace Nn47 := Nn47.keep B
  replace Xg50 := Xg50.keep B
  replace Qq52 := Qq52.keep B
  replace Qq55 := Qq55.keep B
  replace Qq58 := Qq58.keep B
  replace Qq60 := Qq60.keep B
  replace Qq63 := Qq63.keep B
  replace Qq66 := Qq66.keep B
  replace Qq69 := Qq69.keep B
  replace Qq71 := Qq71.keep B
  replace M75 := M75.keep B
  replace Qq77 := Qq77.keep B
  replace Qq79 := Qq79.keep B
  clear B
  refine t 105 (.bool true) ?_
  refine tlr 106 [.slice aq35 kq35 dq35, .slice bq35 lq35 eq35] Xg38 0 ?_
  refine tlr 107 [.slice an47 kn47 dn47] Xg50 0 ?_
  refine tc 108 31 #[.agg #[.slice aq35 kq35 dq35, .slice bq35 lq35 eq35], .int .u64 1, .agg #[.slice an47 kn47 dn47], .int .i64 0, .int .i64 0] (fitl (pFits (Qq35.v (by decide +kernel)) ⟨by decide, by decide⟩ Nn47.a (by omega) (by decide) (by decide)) (t := false) (by decide +kernel)) ?_
  rintro _ v82 ⟨rfl, B⟩
  refine ⟨_, rfl, ?_⟩
  replace BB := joinB BB B
  replace Nn3 := Nn3.keep B
  replace Nn5 := Nn5.keep B
  replace Qq10 := Qq10.keep B
  replace Xg13 := Xg13.keep B
  replace Nn15 := Nn15.keep B
  replace Qq20 := Qq20.keep B
  replace Xg23 := Xg23.keep B
  replace Nn28 := Nn28.keep B
  replace Qq35 := Qq35.keep B
  replace Xg38 := Xg38.keep B
  replace Qq42 := Qq42.keep B
  replace Xg45 := Xg45.keep B
  replace Nn47 := Nn47.keep B
  replace Xg50 := Xg50.keep B
  replace Qq52 := Qq52.keep B
  replace Qq55 := Qq55.keep B
  replace Qq58 := Qq58.keep B
  replace Qq60 := Qq60.keep B
  replace Qq63 := Qq63.keep B
  replace Qq66 := Qq66.keep B
  replace Qq69 := Qq69.keep B
  replace Qq71 := Qq71.keep B
  replace M75 := M75.keep B
  replace Qq77 := Qq77.keep B
  replace Qq79 := Qq79.keep B
  clear B
  refine t 109 (.bool true) ?_
  refine t 110 (.bool true) ?_
  refine t 111 (.bool true) ?_
  refine tlr 112 [.slice aq35 kq35 dq35, .slice bq35 lq35 eq35] Xg38 0 ?_
  refine tlr 113 [.slice an47 kn47 dn47] Xg50 0 ?_
  refine tc 114 31 #[.agg #[.slice aq35 kq35 dq35, .slice bq35 lq35 eq35], .int .u64 1, .agg #[.slice an47 kn47 dn47], .int .i64 100000000000000000, .int .i64 0] (fitl (pFits (Qq35.v (by decide +kernel)) ⟨by decide, by decide⟩ Nn47.a (by omega) (by decide) (by decide)) (t := true) (by decide +kernel)) ?_
  rintro _ v83 ⟨rfl, B⟩
  refine ⟨_, rfl, ?_⟩
  replace BB := joinB BB B
  replace Nn3 := Nn3.keep B
  replace Nn5 := Nn5.keep B
  replace Qq10 := Qq10.keep B
  replace Xg13 := Xg13.keep B
  replace Nn15 := Nn15.keep B
  replace Qq20 := Qq20.keep B
  replace Xg23 := Xg23.keep B
  replace Nn28 := Nn28.keep B
  replace Qq35 := Qq35.keep B
  replace Xg38 := Xg38.keep B
  replace Qq42 := Qq42.keep B
  replace Xg45 := Xg45.keep B
  replace Nn47 := Nn47.keep B
  replace Xg50 := Xg50.keep B
  replace Qq52 := Qq52.keep B
  replace Qq55 := Qq55.keep B
  replace Qq58 := Qq58.keep B
  replace Qq60 := Qq60.keep B
  replace Qq63 := Qq63.keep B
  replace Qq66 := Qq66.keep B
  replace Qq69 := Qq69.keep B
  replace Qq71 := Qq71.keep B
  replace M75 := M75.keep B
  replace Qq77 := Qq77.keep B
  replace Qq79 := Qq79.keep B
  clear B
  refine t 115 (.bool true) ?_
  refine t 116 (.bool true) ?_
  refine tc 117 42 #[.int .u64 1, .int .u64 2] (frac_any (n := 1) (d := 2) ⟨by decide, by decide⟩ ⟨by decide, by decide⟩ (by decide)) ?_
  rintro _ v85 ⟨aq84, kq84, dq84, bq84, lq84, eq84, rfl, Qq84, B⟩
  refine ⟨_, rfl, ?_⟩
  replace BB := joinB BB B
  replace Nn3 := Nn3.keep B
  replace Nn5 := Nn5.keep B
  replace Qq10 := Qq10.keep B
  replace Xg13 := Xg13.keep B
  replace Nn15 := Nn15.keep B
  replace Qq20 := Qq20.keep B
  replace Xg23 := Xg23.keep B
  replace Nn28 := Nn28.keep B
  replace Qq35 := Qq35.keep B
  replace Xg38 := Xg38.keep B
  replace Qq42 := Qq42.keep B
  replace Xg45 := Xg45.keep B
  replace Nn47 := Nn47.keep B
  replace Xg50 := Xg50.keep B
  replace Qq52 := Qq52.keep B
  replace Qq55 := Qq55.keep B
  replace Qq58 := Qq58.keep B
  replace Qq60 := Qq60.keep B
  replace Qq63 := Qq63.keep B
  replace Qq66 := Qq66.keep B
  replace Qq69 := Qq69.keep B
  replace Qq71 := Qq71.keep B
  replace M75 := M75.keep B
  replace Qq77 := Qq77.keep B
  replace Qq79 := Qq79.keep B
  clear B
  refine t 118 (.agg #[.slice none 0 0]) ?_
  refine tc 119 31 #[.agg #[.slice aq84 kq84 dq84, .slice bq84 lq84 eq84], .int .u64 1, .agg #[.slice none 0 0], .int .i64 9, .int .i64 9] (fitl (pFits (Qq84.v (by decide +kernel)) ⟨by decide, by decide⟩ (natO_nil _).a (by omega) (by decide) (by decide)) (t := false) (by decide +kernel)) ?_
  rintro _ v86 ⟨rfl, B⟩
  refine ⟨_, rfl, ?_⟩
  replace BB := joinB BB B
  replace Nn3 := Nn3.keep B
  replace Nn5 := Nn5.keep B
  replace Qq10 := Qq10.keep B
  replace Xg13 := Xg13.keep B
  replace Nn15 := Nn15.keep B
  replace Qq20 := Qq20.keep B
  replace Xg23 := Xg23.keep B
  replace Nn28 := Nn28.keep B
  replace Qq35 := Qq35.keep B
  replace Xg38 := Xg38.keep B
  replace Qq42 := Qq42.keep B
  replace Xg45 := Xg45.keep B
  replace Nn47 := Nn47.keep B
  replace Xg50 := Xg50.keep B
  replace Qq52 := Qq52.keep B
  replace Qq55 := Qq55.keep B
  replace Qq58 := Qq58.keep B
  replace Qq60 := Qq60.keep B
  replace Qq63 := Qq63.keep B
  replace Qq66 := Qq66.keep B
  replace Qq69 := Qq69.keep B
  replace Qq71 := Qq71.keep B
  replace M75 := M75.keep B
  replace Qq77 := Qq77.keep B
  replace Qq79 := Qq79.keep B
  replace Qq84 := Qq84.keep B
  clear B
  refine t 120 (.bool true) ?_
  refine t 121 (.bool true) ?_
  refine t 0 (.bool true) ?_
  refine gl_nil ?_
  refine ge_then ?_
  refine gc_fr [(0, .bool true)] (by kernel_rfl) ?_
  refine gc_ret ?_
  refine ge_ret (.bool true) (rs1 0 (by kernel_rfl) (by kernel_rfl)) ?_
  exact ⟨rfl, BB⟩
end Lg
end Go.Proofs.YtlbndpkdkdgggaaGreatDoor

namespace Go.Proofs.YtlbndpkdkdgggaaGreatDoor
namespace Lg
open Go.RowKit Go.Lib Lim Pg Gl
abbrev FA (o w : Nat → Rat) (p k : Int) : Nat → Stk := fun i => (w i, o i, p, k)
abbrev G1 (n : Nat) (o w : Nat → Rat) (p k : Int) : St := GS n (FA o w p k) (1, 0, 0, 0)
def wF (xs : Nat → Int) (y t : Int) : Nat → Rat := fun i => qv (xs i * t) y
def gF (o w : Nat → Rat) (r t : Int) : Nat → Rat := fun i => o i + (r : Rat) / ((U36 : Int) : Rat) * w i * qv 1 t
def cF (w : Nat → Rat) (b a : Int) : Nat → Rat := fun i => w i * qv a b
def zF : Nat → Rat := fun _ => 0
/-- each of n is none below 0, and its parts are below 2 ^ L -/
def Bd (n : Nat) (f : Nat → Rat) (L : Nat) : Prop := ∀ i, i < n → 0 ≤ f i ∧ Ft (f i) L
theorem Bd.up {n L M : Nat} {f : Nat → Rat} (h : Bd n f L) (k : L ≤ M) : Bd n f M := fun i hi => ⟨(h i hi).1, ft_up (h i hi).2 k⟩
theorem give_eq {n : Nat} {o w : Nat → Rat} {p k r t : Int} : sGive (G1 n o w p k) 16 r t = G1 n (gF o w r t) w p k := on16
theorem cut_eq {n : Nat} {o w : Nat → Rat} {p k b a : Int} : sCut (G1 n o w p k) 16 b a = G1 n o (cF w b a) (p + 1) (k + 1) := on16
theorem fa_fs {n L : Nat} {o w : Nat → Rat} {p k : Int} (ho : Bd n o L) (hw : Bd n w L) (h0 : 0 ≤ p ∧ p < 1000000) (h1 : 0 ≤ k ∧ k < 1000000) (hL : 1 ≤ L) : Fs (G1 n o w p k) L := by
  have e : (0 : Int) < 1000000 := by decide
  exact GS_fs (fun i hi => ⟨(hw i hi).2, (ho i hi).2, h0.1, h0.2, h1.1, h1.2⟩) ⟨ft_up (show Ft 1 1 by decide +kernel) hL, ft_up (show Ft 0 1 by decide +kernel) hL, Int.le_refl _, e, Int.le_refl _, e⟩
theorem z_bd {n : Nat} : Bd n zF 640 := fun _ _ => ⟨Rat.le_refl, ft_up (show Ft 0 1 by decide +kernel) (by decide)⟩
theorem w_bd {n : Nat} {xs : Nat → Int} {y t : Int} (hx : ∀ i, i < n → 0 ≤ xs i ∧ xs i < 2 ^ (64 * 4)) (hy : 0 ≤ y ∧ y < 2 ^ (64 * 4)) (ht : 0 ≤ t ∧ t < 18446744073709551616) : Bd n (wF xs y t) 640 := fun i hi =>
  ⟨qv_nn (Int.mul_nonneg (hx i hi).1 ht.1) hy.1, (hf_ft hx hy ht i hi).1⟩
theorem q_ft {a b : Int} (ha : 0 ≤ a ∧ a < 18446744073709551616) (hb : 0 ≤ b ∧ b < 18446744073709551616) : 0 ≤ qv a b ∧ Ft (qv a b) 64 := ⟨qv_nn ha.1 hb.1, qv_ft (by decide) ha hb⟩
theorem d_ft {r : Int} (hr : 0 ≤ r ∧ r < 2 ^ (64 * 9)) : 0 ≤ (r : Rat) / ((U36 : Int) : Rat) ∧ Ft ((r : Rat) / ((U36 : Int) : Rat)) 640 := by
  have e : (2 : Int) ^ (64 * 9) < 2 ^ 640 := by decide +kernel
  exact ⟨fr_nn hr.1 (by decide), ft_of (by decide) hr.1 rfl (by omega) (by decide +kernel)⟩
theorem g_bd {n L M : Nat} {o w : Nat → Rat} {r t : Int} (ho : Bd n o L) (hw : Bd n w M) (hr : 0 ≤ r ∧ r < 2 ^ (64 * 9)) (ht : 0 ≤ t ∧ t < 18446744073709551616) : Bd n (gF o w r t) (L + (640 + M + 64) + 1) := fun i hi => by
  have a := d_ft hr
  have b := q_ft (a := 1) (by decide) ht
  have c := hw i hi
  have e0 := Rat.mul_nonneg a.1 c.1
  have e1 := Rat.mul_nonneg e0 b.1
  have f0 := ft_mul a.2 c.2 a.1 c.1
  have f1 := ft_mul f0 b.2 e0 b.1
  exact ⟨Rat.add_nonneg (ho i hi).1 e1, ft_add (ho i hi).2 f1 (ho i hi).1 e1⟩
theorem c_bd {n L : Nat} {w : Nat → Rat} {a b : Int} (hw : Bd n w L) (ha : 0 ≤ a ∧ a < 18446744073709551616) (hb : 0 ≤ b ∧ b < 18446744073709551616) : Bd n (cF w b a) (L + 64) := fun i hi => by
  have e := q_ft ha hb
  exact ⟨Rat.mul_nonneg (hw i hi).1 e.1, ft_mul (hw i hi).2 e.2 (hw i hi).1 e.1⟩
theorem cc_eq {n : Nat} {w : Nat → Rat} {b m a : Int} (h : m ≠ 0) {i : Nat} (_hi : i < n) : cF (cF w b m) m a i = cF w b a i := by
  unfold cF qv
  rw [if_neg h]
  by_cases e : b = 0
  · rw [if_pos e, if_pos e]; grind
  · rw [if_neg e, if_neg e]
    have h1 : (m : Rat) ≠ 0 := fun k => h (Rat.intCast_eq_zero_iff.1 k)
    have h2 : (b : Rat) ≠ 0 := fun k => e (Rat.intCast_eq_zero_iff.1 k)
    grind
theorem gg_eq {o w : Nat → Rat} {r s t : Int} {i : Nat} : gF (gF o w r t) w s t i = gF o w (r + s) t i := by
  unfold gF
  have h : ((U36 : Int) : Rat) ≠ 0 := cne (by decide)
  rw [Rat.intCast_add]
  grind
theorem owed16 {n i : Nat} {F : Nat → Stk} {z : Stk} (hi : i < n) : sOwed (GS n F z) 16 i = (F i).2.1 := by unfold sOwed; rw [GS_get hi]
theorem worth16 {n i : Nat} {F : Nat → Stk} {z : Stk} (hi : i < n) : sWorth (GS n F z) 16 i = (F i).1 := by unfold sWorth; rw [GS_get hi]
theorem told17 {n : Nat} {F : Nat → Stk} {z : Stk} : sTold (sTick (GS n F z) 17) 17 0 = (z.2.1, z.2.2.1 + 1, z.2.2.2) := by unfold sTold sTick; rw [on17, GS_get17]
theorem clear17 {n : Nat} {F : Nat → Stk} {z : Stk} : sClear (sTick (GS n F z) 17) 17 0 = GS n F (z.1, 0, 0, 0) := by unfold sClear sTick; rw [on17, at17]
theorem told16 {n i : Nat} {F : Nat → Stk} {z : Stk} (hi : i < n) : sTold (sTick (GS n F z) 16) 16 i = ((F i).2.1, (F i).2.2.1 + 1, (F i).2.2.2) := by unfold sTold sTick; rw [on16, GS_get hi]
theorem clear16 {n k : Nat} {F : Nat → Stk} {z : Stk} : sClear (sTick (GS n F z) 16) 16 k = GS n (fun i => if i = k then ((F i).1, 0, 0, 0) else ((F i).1, (F i).2.1, (F i).2.2.1 + 1, (F i).2.2.2)) z := by unfold sClear sTick; rw [on16, at16]
theorem zeroD {w : World} {ao : Option Addr} {n c : Nat} {x : Int} (h : NatA w ao n c x) (hn : n ≤ 1099511627776) (r : Bool) (hr : decide (x = 0) = r) :
    Calls Tryz.prog 33 #[.agg #[.slice ao n c]] w fun e w' => e = .returned (.bool r) ∧ Below w.heap.size w w' := by
  have t := dZero h hn
  rw [hr] at t
  exact t
theorem pZeroL {w : World} {B : Nat} {a0 b0 : Option Addr} {n0 c0 m0 d0 : Nat} {r0 : Rat} {t : Bool} (h0 : VQ w a0 n0 c0 b0 m0 d0 r0 B) (hb : B ≤ 10000000) (ht : decide (r0 = 0) = t) :
    Calls Tryz.prog 40 #[.agg #[.slice a0 n0 c0, .slice b0 m0 d0]] w fun e w' => e = .returned (.bool t) ∧ Below w.heap.size w w' := by
  have := pZero h0 hb
  rw [ht] at this
  exact this
end Lg
end Go.Proofs.YtlbndpkdkdgggaaGreatDoor

namespace Go.Proofs.YtlbndpkdkdgggaaGreatDoor
namespace Lg
open Go.RowKit Go.Lib Lim Pg Gl
def oR (w : Nat → Rat) (gs : Nat → Int) (t : Int) : Nat → (Nat → Rat)
  | 0 => zF
  | j + 1 => gF (oR w gs t j) w (gs j) t
theorem oR_bd {n m : Nat} {w : Nat → Rat} {gs : Nat → Int} {t : Int} (hw : Bd n w 640) (hg : ∀ j, j < m → 0 ≤ gs j ∧ gs j < 2 ^ (64 * 4)) (ht : 0 ≤ t ∧ t < 18446744073709551616) (j : Nat) (hj : j ≤ m) : Bd n (oR w gs t j) (640 + j * 1345) := by
  induction j with
  | zero => exact z_bd
  | succ j ih =>
    have e : (2 : Int) ^ (64 * 4) < 2 ^ (64 * 9) := by decide +kernel
    have h := hg j (by omega)
    exact (g_bd (ih (by omega)) hw (r := gs j) (by omega) ht).up (by rw [Nat.succ_mul]; omega)
abbrev sF (o w : Nat → Rat) (m : Nat) (p : Int) : Nat → Stk := fun i => if i = m then (w i, 0, 0, 0) else (w i, o i, p, 0)
theorem settle1 {n m : Nat} {o w : Nat → Rat} : sClear (sTick (G1 n o w 0 0) 16) 16 m = GS n (sF o w m 1) (1, 0, 0, 0) := clear16
theorem settle2 {n m : Nat} {o w : Nat → Rat} : sClear (sTick (GS n (sF o w m 1) (1, 0, 0, 0)) 16) 16 m = GS n (sF o w m 2) (1, 0, 0, 0) := by
  rw [clear16]
  refine congrArg (fun F => GS n F (1, 0, 0, 0)) (funext fun i => ?_)
  by_cases e : i = m
  · simp [sF, e]
  · simp [sF, e]
theorem told1 {n m : Nat} {o w : Nat → Rat} (h : m < n) : sTold (sTick (G1 n o w 0 0) 16) 16 m = (o m, 1, 0) := (told16 h).trans rfl
theorem told2 {n m : Nat} {o w : Nat → Rat} (h : m < n) : sTold (sTick (GS n (sF o w m 1) (1, 0, 0, 0)) 16) 16 m = (0, 1, 0) := by rw [told16 h]; simp [sF]
theorem sF_fs {n m L : Nat} {o w : Nat → Rat} {p : Int} (ho : Bd n o L) (hw : Bd n w L) (hp : 0 ≤ p ∧ p < 1000000) (hL : 1 ≤ L) : Fs (GS n (sF o w m p) (1, 0, 0, 0)) L := by
  have e : (0 : Int) < 1000000 := by decide
  have z : Ft 0 L := ft_up (show Ft 0 1 by decide +kernel) hL
  refine GS_fs (fun i hi => ?_) ⟨ft_up (show Ft 1 1 by decide +kernel) hL, z, Int.le_refl _, e, Int.le_refl _, e⟩
  by_cases h : i = m
  · simp only [sF, if_pos h]; exact ⟨(hw i hi).2, z, Int.le_refl _, e, Int.le_refl _, e⟩
  · simp only [sF, if_neg h]; exact ⟨(hw i hi).2, (ho i hi).2, hp.1, hp.2, Int.le_refl _, e⟩
theorem rs_but {f : Nat → Rat} {n m : Nat} (h : m < n) : rs (fun i => if i = m then 0 else f i) n = rs f n - f m := by
  induction n with
  | zero => omega
  | succ n ih =>
    simp only [rs]
    rcases Nat.lt_or_ge m n with h1 | h1
    · rw [ih h1, if_neg (by omega)]; grind
    · obtain rfl : m = n := by omega
      rw [if_pos rfl, rs_eq (g := f) (fun i hi => if_neg (by omega))]; grind
theorem rs_ge {f : Nat → Rat} {n m : Nat} (hf : ∀ i, i < n → 0 ≤ f i) (h : m < n) : f m ≤ rs f n := by
  induction n with
  | zero => omega
  | succ n ih =>
    simp only [rs]
    have h2 := hf n (by omega)
    have h3 := rs_nn fun i hi => hf i (show i < n + 1 by omega) |> fun k => (k : 0 ≤ f i)
    rcases Nat.lt_or_ge m n with h1 | h1
    · have := ih (fun i hi => hf i (by omega)) h1; grind
    · obtain rfl : m = n := by omega
      have := rs_nn (f := f) (n := m) (fun i hi => hf i (by omega))
      grind
theorem sF_owes {n m : Nat} {o w : Nat → Rat} {p : Int} {z : Stk} (h : m < n) : sOwes (GS n (sF o w m p) z) 16 = rs o n - o m := by
  rw [owes16, ← rs_but h]
  exact rs_eq fun i _ => by by_cases e : i = m <;> simp [sF, e]
theorem sF_stakes {n m : Nat} {o w : Nat → Rat} {p : Int} {z : Stk} : sStakes (GS n (sF o w m p) z) 16 = rs w n := by
  rw [stakes16]
  exact rs_eq fun i _ => by by_cases e : i = m <;> simp [sF, e]
set_option maxHeartbeats 1000000 in
set_option maxRecDepth 100000 in
theorem place (k : Int) (n : Nat) (hn : 0 < n) (hn2 : n ≤ 2147483648) (w : World) :
    Calls Tryz.prog 43 #[.int .i64 k, .int .i64 n] w fun e w' => ∃ m : Nat, e = .returned (.int .i64 m) ∧ m < n ∧ Below w.heap.size w w' := by
  have h0 : ¬ ((n : Int) = 0) := by omega
  have h1 : ¬ ((n : Int) = -1) := by omega
  have b1 := Int.lt_tmod_of_pos k (show (0 : Int) < n by omega)
  have b2 := Int.tmod_lt_of_pos k (show (0 : Int) < n by omega)
  obtain ⟨r, hr⟩ : ∃ r, Int.tmod k n = r := ⟨_, rfl⟩
  rw [hr] at b1 b2
  have b3 : -2147483648 ≤ r ∧ r ≤ 2147483648 := by omega
  by_cases hneg : r < 0
  · go_enter Tryz.func43, Tryz.ntmps43
    go_wp2
    go_ret
    exact ⟨(r + n).toNat, by rw [Int.toNat_of_nonneg (by omega)]; rfl, by omega, Below.refl _ _⟩
  · go_enter Tryz.func43, Tryz.ntmps43
    go_wp2
    go_ret
    exact ⟨r.toNat, by rw [Int.toNat_of_nonneg (by omega)]; rfl, by omega, Below.refl _ _⟩
end Lg
end Go.Proofs.YtlbndpkdkdgggaaGreatDoor

namespace Go.Proofs.YtlbndpkdkdgggaaGreatDoor
namespace Lg
open Go.RowKit Go.Lib Lim Pg Gl
def wl (R : Nat → RV) : Nat → List Value
  | 0 => []
  | n + 1 => wl R n ++ [sA (R n), sB (R n)]
theorem wl_len (R : Nat → RV) (n : Nat) : (wl R n).length = n * 2 := by
  induction n with
  | zero => rfl
  | succ n ih => simp only [wl, List.length_append, ih, List.length_cons, List.length_nil]; omega
theorem wl_get (R : Nat → RV) {n i : Nat} (h : i < n) : (wl R n)[i * 2]? = some (sA (R i)) ∧ (wl R n)[i * 2 + 1]? = some (sB (R i)) := by
  induction n with
  | zero => omega
  | succ n ih =>
    have e := wl_len R n
    simp only [wl]
    rcases Nat.lt_or_ge i n with h1 | h1
    · rw [List.getElem?_append_left (by omega), List.getElem?_append_left (by omega)]; exact ih h1
    · obtain rfl : i = n := by omega
      rw [List.getElem?_append_right (by omega), List.getElem?_append_right (by omega), e, Nat.sub_self, show i * 2 + 1 - i * 2 = 1 by omega]
      exact ⟨rfl, rfl⟩
theorem wl_ext {R : Nat → RV} {n : Nat} {l : List Value} (hl : l.length = n * 2) (h : ∀ i, i < n → l[i * 2]? = some (sA (R i)) ∧ l[i * 2 + 1]? = some (sB (R i))) : l = wl R n := by
  refine List.ext_getElem? fun j => ?_
  rcases Nat.lt_or_ge j (n * 2) with h1 | h1
  · have h2 := h (j / 2) (by omega)
    have h3 := wl_get R (n := n) (i := j / 2) (by omega)
    rcases Nat.mod_two_eq_zero_or_one j with e | e
    · rw [show j = j / 2 * 2 by omega, h2.1, h3.1]
    · rw [show j = j / 2 * 2 + 1 by omega, h2.2, h3.2]
  · rw [List.getElem?_eq_none (by omega), List.getElem?_eq_none (by rw [wl_len]; omega)]
theorem wl_at (R : Nat → RV) {n i : Nat} (h : i < n) : ((wl R n).drop (i * 2)).take 2 = [sA (R i), sB (R i)] := by
  have e := wl_get R h
  refine List.ext_getElem? fun j => ?_
  match j with
  | 0 => simpa [List.getElem?_take, List.getElem?_drop] using e.1
  | 1 => simpa [List.getElem?_take, List.getElem?_drop] using e.2
  | j + 2 =>
    simp [List.getElem?_take]
    intro h; omega
def upR (R : Nat → RV) (i : Nat) (v : RV) : Nat → RV := fun j => if j = i then v else R j
theorem wl_set (R : Nat → RV) {n i : Nat} (h : i < n) (v : RV) : spl (wl R n) (i * 2) [sA v, sB v] = wl (upR R i v) n := by
  have hl := wl_len R n
  refine wl_ext (by simp only [spl, List.length_append, List.length_take, List.length_drop, List.length_cons, List.length_nil, hl]; omega) fun j hj => ?_
  have e := wl_get R hj
  have ht : ((wl R n).take (i * 2)).length = i * 2 := by rw [List.length_take, hl]; omega
  unfold spl upR
  rcases Nat.lt_trichotomy j i with k | k | k
  · rw [if_neg (by omega)]
    constructor
    · rw [List.append_assoc, List.getElem?_append_left (by omega), List.getElem?_take, if_pos (by omega)]; exact e.1
    · rw [List.append_assoc, List.getElem?_append_left (by omega), List.getElem?_take, if_pos (by omega)]; exact e.2
  · subst k
    rw [if_pos rfl]
    constructor
    · rw [List.append_assoc, List.getElem?_append_right (by omega), ht, Nat.sub_self]; rfl
    · rw [List.append_assoc, List.getElem?_append_right (by omega), ht, show j * 2 + 1 - j * 2 = 1 by omega]; rfl
  · rw [if_neg (by omega)]
    have h3 : (List.take (i * 2) (wl R n) ++ [sA v, sB v]).length = i * 2 + 2 := by rw [List.length_append, ht]; rfl
    constructor
    · rw [List.getElem?_append_right (by omega), h3, List.getElem?_drop, ← e.1]; congr 1; simp only [List.length_cons, List.length_nil]; omega
    · rw [List.getElem?_append_right (by omega), h3, List.getElem?_drop, ← e.2]; congr 1; simp only [List.length_cons, List.length_nil]; omega
theorem wl_nu (R : Nat → RV) (n : Nat) : (wl R n).all nu = true := by
  induction n with
  | zero => rfl
  | succ n ih => simp only [wl, List.all_append, ih, List.all_cons, List.all_nil, nu]; rfl
theorem wl_room (R : Nat → RV) {n i : Nat} (h : i < n) : Nat.ble (i * 2 + [sA (R i), sB (R i)].length) (wl R n).length = true := by
  rw [Nat.ble_eq, wl_len]; simp only [List.length_cons, List.length_nil]; omega
abbrev R0 : Nat → RV := fun _ => (none, 0, 0, none, 0, 0)
theorem made_wl (n : Nat) : madeCells #[Value.slice none 0 0, .slice none 0 0] (n * 2) = (wl R0 n).toArray := by
  rw [← wl_ext (R := R0) (n := n) (l := (madeCells #[Value.slice none 0 0, .slice none 0 0] (n * 2)).toList) (by simp [size_madeCells]) fun i hi => ?_]
  have hs : (madeCells #[Value.slice none 0 0, .slice none 0 0] (n * 2)).size = n * 2 := size_madeCells ..
  constructor
  · rw [Array.getElem?_toList, Array.getElem?_eq_getElem (by omega)]
    simp [madeCells]
  · rw [Array.getElem?_toList, Array.getElem?_eq_getElem (by omega)]
    simp [madeCells, show (i * 2 + 1) % 2 = 1 by omega]
/-- a list of n fractions is made -/
theorem ta_mkr {n : Nat} {ds : List Deferred} {ops : Array Oper} {rest : List Oper} {o : Oper} {l : Fr} {w : World} {Q : Exit → Act → World → Prop} (d m : Nat) (hm : m ≤ 1000000) (h : ∀ w1 g, Blk w1 g (wl R0 m) 40 → w.heap.size ≤ g → Below w.heap.size w w1 → GL Tryz.prog n ds ops Q rest ((d, .slice (some ⟨g, 0, none⟩) m m) :: l) w1) (ho : ∃ x, o.op = .makeSlice 61 x x ∧ evL l x = .int .i64 (m : Int) := by exact ⟨_, rfl, by kernel_rfl⟩) (hg : gd ops l o = some true := by kernel_rfl) (hc : chk n l o (some d) = true := by kernel_rfl) : GL Tryz.prog n ds ops Q (o :: rest) l w := by
  obtain ⟨x, h1, h2⟩ := ho
  have ht : Tryz.prog.underlying 61 = some (.slice 40) := by kernel_rfl
  have hi : (Tryz.prog.info? 40).map (fun i => (i.zero, i.size, decide (i.bytes ≤ 1000))) = some (some (.agg #[.slice none 0 0, .slice none 0 0]), 2, true) := by kernel_rfl
  cases hq : Tryz.prog.info? 40 with
  | none => rw [hq] at hi; cases hi
  | some i =>
    rw [hq] at hi
    simp only [Option.map_some, Option.some.injEq, Prod.mk.injEq, decide_eq_true_eq] at hi
    obtain ⟨i1, i2, i3⟩ := hi
    have hrun := run_make (P := Tryz.prog) w 61 40 i _ ht hq i1 .i64 .i64 (m : Int) (m : Int) (by omega) (by omega) (by have := Int.mul_le_mul (a := (i.bytes : Int)) (b := (m : Int)) (c := 1000) (d := 1000000) (by omega) (by omega) (by omega) (by omega); omega) (by omega)
    refine gl_val (some d) (.slice (some ⟨w.heap.size, 0, none⟩) m m) hg hc ?_ (h (w.alloc (.cells (wl R0 m).toArray 40)) _ (blk_new w _ _) (Nat.le_refl _) (below_alloc w _))
    simp only [execOp, h1, h2]
    rw [i2, show (Value.agg #[.slice none 0 0, .slice none 0 0]).cells = #[.slice none 0 0, .slice none 0 0] from rfl, Int.toNat_natCast, made_wl] at hrun
    simp [hrun, Result.andThen]
end Lg
end Go.Proofs.YtlbndpkdkdgggaaGreatDoor
