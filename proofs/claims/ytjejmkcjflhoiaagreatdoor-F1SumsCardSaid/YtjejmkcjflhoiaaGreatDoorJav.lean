/- Several texts, joined: FoJ, FoE, FoG, FoK, FoZ, FoL. -/
import Derived.Test.YtjejmkcjflhoiaaGreatDoorJat
import Derived.Test.YtjejmkcjflhoiaaGreatDoorJau
import Derived.Test.YtjejmkcjflhoiaaGreatDoorJaq
namespace Go.Proofs.YtjejmkcjflhoiaaGreatDoor
namespace Kv
open Go.RowKit Go.Lib Pg
attribute [local go_sem] Oper.semAt_some
def ItrDX (W0 : World) (Tp : TypeId → Prop) (g x0 : Nat) (xs : Nat → Nat) (gf : Nat) (lb : Array Value) (N : Nat) (Ar : Nat → Array Value → Nat → World → Prop) (Rd : World → Prop) : Prop :=
  ∀ (l : Nat) (J0 : World → Prop) (J Jt Jx : Nat → World → Prop) (W : World), (∀ b, W0.heap.size ≤ b → ∀ cs, ¬ Blk W b cs 5) → W0.heap.size ≤ W.heap.size → St W.heap.size J0 → (∀ i, St W.heap.size (J i)) → (∀ i, St W.heap.size (Jt i)) → (∀ i, St W.heap.size (Jx i)) → g < W.heap.size →
    (∀ V, J0 V → V.cell? ⟨g, 2, none⟩ = some (.int .i64 x0) ∧ V.frozen? ⟨g, 2, none⟩ = false ∧ Rd V ∧ J 0 (tick g V x0)) →
    (∀ i V, J i V → V.cell? ⟨g, 2, none⟩ = some (.int .i64 ((xs i : Nat) : Int)) ∧ V.frozen? ⟨g, 2, none⟩ = false ∧ Rd V ∧ (i < N → Jt i (tick g V (xs i)))) →
    (∀ i args V V', i < N → Jt i V → W.heap.size ≤ V.heap.size → Below V.heap.size V V' → Ar i args V.heap.size V' → YieldAt Fence.wide 0 Tryz.prog l args V' fun e V'' => KeepsT Tp W.heap.size V' V'' ∧ ((e = .returned (.bool true) ∧ J (i + 1) V'') ∨ (e = .returned (.bool false) ∧ Jx (i + 1) V''))) →
    J0 W →
    Calls Tryz.prog gf (#[.func (.yield l) #[] #[]] ++ lb) W fun e W' => (∃ v, e = .returned v) ∧ W.heap.size ≤ W'.heap.size ∧ (J N W' ∨ ∃ i, i < N ∧ Jx (i + 1) W')
theorem rf_outerDX {Tp : TypeId → Prop} {gf N n g0 x0 : Nat} {xs : Nat → Nat} {lb : Array Value} {Ar : Nat → Array Value → Nat → World → Prop} {Rd : World → Prop} {w : World} (IT : ItrDX w Tp g0 x0 xs gf lb N Ar Rd) {g : Operand} {ps : Array Tmp} {assign body : Code} {Q : Exit → Act → World → Prop} {a : Act}
    (hg : a.eval g = .func (.func gf) #[] lb) (eg : ∀ args w, (callFunc gf args).run Tryz.prog w = .ok (.enter gf args) w) (hArS : ∀ i args n V W, Ar i args n V → Cel V W → Ar i args n W) (hAn : ∀ i args n V, Ar i args n V → args.size = ps.size)
    (I0 : World → Prop) (I It : Nat → World → Prop) (Ix : Code → Nat → World → Prop) (hI0 : St w.heap.size I0) (hI : ∀ i, St w.heap.size (I i)) (hIt : ∀ i, St w.heap.size (It i)) (hIx : ∀ c i, St w.heap.size (Ix c i)) (hgw : g0 < w.heap.size)
    (hx0 : ∀ V, I0 V → V.cell? ⟨g0, 2, none⟩ = some (.int .i64 x0) ∧ V.frozen? ⟨g0, 2, none⟩ = false ∧ Rd V ∧ I 0 (tick g0 V x0))
    (hx : ∀ i V, I i V → V.cell? ⟨g0, 2, none⟩ = some (.int .i64 ((xs i : Nat) : Int)) ∧ V.frozen? ⟨g0, 2, none⟩ = false ∧ Rd V ∧ (i < N → It i (tick g0 V (xs i)))) (h0 : I0 w)
    (hround : RoundC Tp w N n ps assign body a.tmps Ar It I Ix)
    (hdone : ∀ D W, w.heap.size ≤ D → W.heap[D]? = some (.deferred (some [])) → I N W → Q .normal { a with defers := { target := .collected D, args := #[] } :: a.defers } W)
    (hstop : ∀ D c i W, w.heap.size ≤ D → W.heap[D]? = some (.deferred (some [])) → i < N → Ix c (i + 1) W → c.wpIn Fence.wide n Tryz.prog Q { a with defers := { target := .collected D, args := #[] } :: a.defers } W) :
    (Code.rangeFunc g ps assign body).wpIn Fence.wide n Tryz.prog Q a w := by
  refine wpIn_rangeFunc ?_
  intro fn _
  obtain ⟨W1, hW1⟩ : ∃ W1, (w.alloc (.deferred (some []))).alloc (.loop (recd fn a.tmps ps assign body w.heap.size .ready none)) = W1 := ⟨_, rfl⟩
  have hB1 : Below w.heap.size w W1 := by rw [← hW1]; exact joinB (below_alloc w _) (below_alloc _ _)
  have hs1 : W1.heap.size = w.heap.size + 1 + 1 := by rw [← hW1]; simp
  have hL1 : W1.heap[w.heap.size + 1]? = some (.loop (recd fn a.tmps ps assign body w.heap.size .ready none)) := by
    rw [← hW1]; have := World.alloc_heap_new (w.alloc (.deferred (some []))) (.loop (recd fn a.tmps ps assign body w.heap.size .ready none)); rwa [World.size_alloc] at this
  have hK1 : W1.heap[w.heap.size]? = some (.deferred (some [])) := by
    rw [← hW1]; exact (Below.heap_alloc _ _ _ (by simp)).trans (World.alloc_heap_new w _)
  have t1 : ∀ V x, (tick g0 V x).heap[w.heap.size + 1]? = V.heap[w.heap.size + 1]? := fun V x => tick_other (by omega)
  have t2 : ∀ V x, (tick g0 V x).heap[w.heap.size]? = V.heap[w.heap.size]? := fun V x => tick_other (by omega)
  have hNB : ∀ b, w.heap.size ≤ b → ∀ cs, ¬ Blk W1 b cs 5 := fun b hb cs k => by
    have hlt := k.lt
    have hk := k.blk
    rcases Nat.lt_or_ge w.heap.size b with h1 | h1
    · obtain rfl : b = w.heap.size + 1 := by omega
      rw [hL1] at hk
      cases hk
    · obtain rfl : b = w.heap.size := by omega
      rw [hK1] at hk
      cases hk
  refine ⟨w.heap.size + 1, [{ target := .collected w.heap.size, args := #[] }], W1, { target := .fn (.func gf) lb, args := #[.func (.yield (w.heap.size + 1)) #[] #[]] }, W1, gf,
    #[.func (.yield (w.heap.size + 1)) #[] #[]] ++ lb, W1, ?_, ?_, ?_, ?_, fun h => (by cases h), ?_⟩
  · rw [← hW1]; exact run_enterLoop_outer _ _ _ _ _
  · simp only [resolve, hg]
    simp [go_sem]
  · intro f' _; trivial
  · simp [invoke, go_sem, eg]
  · refine callsIn_wide.2 ?_
    refine (IT (w.heap.size + 1)
      (fun W => I0 W ∧ W.heap[w.heap.size + 1]? = some (.loop (recd fn a.tmps ps assign body w.heap.size .ready none)) ∧ W.heap[w.heap.size]? = some (.deferred (some [])))
      (fun i W => I i W ∧ W.heap[w.heap.size + 1]? = some (.loop (recd fn a.tmps ps assign body w.heap.size .ready none)) ∧ W.heap[w.heap.size]? = some (.deferred (some [])))
      (fun i W => It i W ∧ W.heap[w.heap.size + 1]? = some (.loop (recd fn a.tmps ps assign body w.heap.size .ready none)) ∧ W.heap[w.heap.size]? = some (.deferred (some [])))
      (fun i W => ∃ c, Ix c i W ∧ W.heap[w.heap.size + 1]? = some (.loop (recd fn a.tmps ps assign body w.heap.size .done (some c))) ∧ W.heap[w.heap.size]? = some (.deferred (some [])))
      W1 hNB (by omega) (fun X Y hx hr => ⟨hI0 X Y hx.1 (hr.mono (by omega)), hr.same _ _ hx.2.1 (.inl (by omega)), hr.same _ _ hx.2.2 (.inl (by omega))⟩)
      (fun i X Y hx hr => ⟨hI i X Y hx.1 (hr.mono (by omega)), hr.same _ _ hx.2.1 (.inl (by omega)), hr.same _ _ hx.2.2 (.inl (by omega))⟩)
      (fun i X Y hx hr => ⟨hIt i X Y hx.1 (hr.mono (by omega)), hr.same _ _ hx.2.1 (.inl (by omega)), hr.same _ _ hx.2.2 (.inl (by omega))⟩)
      (fun i X Y hx hr => by obtain ⟨c, h1, h2, h3⟩ := hx; exact ⟨c, hIx c i X Y h1 (hr.mono (by omega)), hr.same _ _ h2 (.inl (by omega)), hr.same _ _ h3 (.inl (by omega))⟩)
      (by omega)
      (fun V hv => by obtain ⟨q1, q2, q3, q4⟩ := hx0 V hv.1; exact ⟨q1, q2, q3, q4, (t1 V x0).trans hv.2.1, (t2 V x0).trans hv.2.2⟩)
      (fun i V hv => by obtain ⟨q1, q2, q3, q4⟩ := hx i V hv.1; exact ⟨q1, q2, q3, fun hi => ⟨q4 hi, (t1 V _).trans hv.2.1, (t2 V _).trans hv.2.2⟩⟩)
      ?_ ⟨hI0 _ _ h0 (Rec.of hB1), hL1, hK1⟩).mono ?_
    · rintro i args V V' hiN ⟨hi, hl, hk⟩ hsz hb ha
      have hr := hround _ i args V V' (by omega) (lt_of_block hl) ⟨_, hl⟩ hiN hi hb ha
      refine (yield_core (Tp := Tp) (B := w.heap.size) (i := 2 * i + 1) (I := zip2 I It) (Ix := fun c k => Ix c (k / 2)) (Ar := fun k => Ar (k / 2)) (fun j => hArS (j / 2)) (fun j => by unfold zip2; split; exact hI _; exact hIt _) (fun c j => hIx c _) (by omega) hl (by rw [zip2_odd]; exact hi) hb (by rw [show (2 * i + 1) / 2 = i by omega]; exact ha) (hAn _ _ _ _ ha) (wpIn_mono hr ?_)).mono ?_
      · intro e a1 W1 h
        cases e <;> first
          | (refine ⟨h.1, fun V2 W2 q1 q2 q3 q4 q5 q6 q7 => ?_⟩
             rw [zip2_odd] at q1
             rw [show (2 * i + 1) / 2 = i by omega] at q3
             exact wpIn_mono (h.2 V2 W2 q1 q2 q3 q4 q5 q6 q7) (fun e a W h => bpost_zip h))
          | exact h.elim
      · rintro e V'' ⟨hkp, h⟩
        have hk2 := hkp.same _ _ (Nat.le_refl _) (by omega) ((hb.block _ (lt_of_block hk)).trans hk) safe_def
        refine ⟨hkp.from (by omega) (by omega), h.imp (fun h => ⟨h.1, by have := h.2.1; rw [zip2_even] at this; exact this, h.2.2, hk2⟩) (fun h => ?_)⟩
        obtain ⟨h1, c, h2, h3⟩ := h
        rw [show (2 * i + 1 + 1) / 2 = i + 1 by omega] at h2
        exact ⟨h1, c, h2, h3, hk2⟩
    · rintro e W2 ⟨⟨v, rfl⟩, hsz, ⟨hi, hl, hk⟩ | ⟨i, hiN, c, hi, hl, hk⟩⟩
      · exact ⟨none, _, run_endLoop (P := Tryz.prog) hl (by simp [recd]), hdone _ _ (Nat.le_refl _) ((World.putObj_heap_other (by omega)).trans hk) (hI _ _ _ hi (Rec.put hl rfl (by omega) _))⟩
      · exact ⟨some c, _, run_endLoop (P := Tryz.prog) hl (by simp [recd]), hstop _ c i _ (Nat.le_refl _) ((World.putObj_heap_other (by omega)).trans hk) hiN (hIx c _ _ _ hi (Rec.put hl rfl (by omega) _))⟩
set_option maxHeartbeats 4000000 in
set_option maxRecDepth 100000 in
theorem swalkH {Tp : TypeId → Prop} {X : Nat → Prop} {w : World} {K D : Nat → Prop} {g n N : Nat} {E : Ents} {W : List Ents} {fv tv : Value} {f t : List Int} (h : SA w K D g E W n N) (hN : N ≤ 100000000) (hf : By w fv f) (ht : By w tv t) (hfl : f.length ≤ 1000000000) (htl : t.length ≤ 1000000000) (hX1 : ∀ b, X b → b = g ∨ ¬ K b) (hXU : ∀ b, X b → ∀ cs, ¬ Blk w b cs 5) (hXl : ∀ b, X b → b < w.heap.size) (hT : ¬ Tp 172) (hTe : ¬ Tp 185) :
    Calls Tryz.prog 75 #[.pointer (some ⟨g, 0, none⟩), fv, tv] w fun e w' => ∃ v EL, e = .returned v ∧ IterG Tp X w.heap.size w' g EL v ∧ EL.map En.kl2 = E.filter (abtw f t) ∧ Below w.heap.size w w' := by
  obtain ⟨F, V, m, Q, jv, T, oj, hX, rfl, hB⟩ := h.open
  obtain ⟨L, Km, hw⟩ := xwmG hX hN hX1 hXU hXl
  have tW := walk_any (Tp := Tp) Km hf ht hfl htl hT hTe
  have c0 := hX.blk.cell (i := 0) rfl
  obtain ⟨fa, fc, rfl, -⟩ := id hf.ex
  obtain ⟨ta, tc, rfl, -⟩ := id ht.ex
  generalize hfn : f.length = fn at *
  generalize htn : t.length = tn at *
  have HX := hid3 hX
  have HK := hid3 Km
  have HW := hid3 hw
  clear hX Km hw h hB hf ht hfn htn hX1 hXU hXl hT hTe
  go_enter Tryz.func75, Tryz.ntmps75
  go_wp2_with first
    | (go_at_call 33; go_must (refine tW.mono ?_); rintro e w1 ⟨bw, rfl, B1, IT⟩; clear tW)
    | (go_at_call 109; go_must (refine counted_mk.mono ?_); rintro e w2 ⟨rfl, k1, k2, B2⟩)
  go_ret
  exact ⟨_, _, rfl, iterG_of HX.out.blk HK.out B1 IT k1 k2 B2 (Nat.le_refl _), HW.out f t, joinB B1 B2⟩
end Kv
namespace Fo
open Go.RowKit Go.Lib Pg Lim Gl Kv Bk Pw
attribute [local go_sem] Oper.semAt_some
set_option maxRecDepth 100000
set_option linter.unusedVariables false
set_option linter.unusedSimpArgs false
set_option maxHeartbeats 8000000
def ArK (cs : List (Int × Int × Int)) (i : Nat) (args : Array Value) (_ : Nat) (_ : World) : Prop := ∃ c, cs[i]? = some c ∧ args = #[.int .u64 c.1, .agg #[.int .u64 c.2.1, .int .u64 c.2.2]]
/-- the cuts above a period, up to another one -/
def cutsE (E : Ents) (id fr la : Int) : Ents := E.filter (abtw (Ky.nxt (Ky.mk 8 id fr)) (Ky.nxt (Ky.mk 8 id la)))
def cutsL (E : Ents) (id fr la : Int) : List (Int × Int × Int) := (cutsE E id fr la).map (fun x => (Ky.rdB x.1, cX x.2 0, cX x.2 1))
theorem ld_u64 {w : World} {g : Nat} {v : Value} (h : Blk w g [v] 22) : (loadVar 22 ⟨g, 0, none⟩).run Tryz.prog w = .ok v w := by
  have := h.cell (i := 0) rfl
  go_simp
theorem rg_weak {c : Code} {a : Act} {w : World} {Q : Exit → Act → World → Prop} (h : c.wp Tryz.prog (Exit.then (fun a' w' => Q .normal a' w') (fun _ _ _ => False)) a w) : c.wp Tryz.prog Q a w :=
  Code.wp_mono (fun e a' w' h => by
    cases e <;> first
      | exact h
      | exact h.elim) h
theorem rg_end {a : Act} {w : World} {Q : Exit → Act → World → Prop} (h : Q .normal a w) : Exit.then (fun a' w' => Q .normal a' w') (fun _ _ _ => False) .normal a w := h
theorem nextK {w : World} {v : Value} {l : List Int} (h : ByU w v l) (hl : l.length ≤ 1000000000) : Calls Tryz.prog 74 #[v] w fun e w' => ∃ u, e = .returned u ∧ By w' u (Ky.nxt l) ∧ Below w.heap.size w w' := by
  obtain ⟨b, ao, c, rfl, h2⟩ := bya h.byt
  refine (Ky.next_any h.byt hl).mono ?_
  rintro e w' ⟨v, rfl, O, B⟩
  exact ⟨v, rfl, O.by, B⟩
theorem nxt_le (l : List Int) : (Ky.nxt l).length ≤ l.length := by
  unfold Ky.nxt
  split
  · simp
  · rename_i c cs e
    have h1 : (l.reverse.dropWhile (· == 255)).length ≤ l.length := Nat.le_trans (List.IsSuffix.length_le (List.dropWhile_suffix _)) (by rw [List.length_reverse]; exact Nat.le_refl _)
    rw [e] at h1
    simp at h1 ⊢
    omega
theorem cuts_itr {W0 : World} {K D X : Nat → Prop} {g bs bi bm bl x0 N : Nat} {xs : Nat → Nat} {E : Ents} {Wn : List Ents} {id fr la : Int} (hS : SA W0 K D g E Wn x0 N) (hbs : Blk W0 bs [.pointer (some ⟨g, 0, none⟩)] 37) (hbi : Blk W0 bi [.int .u64 id] 22) (hbm : Blk W0 bm [.int .u64 fr] 22) (hbl : Blk W0 bl [.int .u64 la] 22) (hXs : ¬ X bs) (hXi : ¬ X bi) (hXm : ¬ X bm) (hXb : ¬ X bl) (hX1 : ∀ b, X b → b = g ∨ ¬ K b) (hXl : ∀ b, X b → b < W0.heap.size) (hid : 0 ≤ id ∧ id < 18446744073709551616) (hN : N ≤ 100000000) (hx : x0 ≤ 2000000000000000000) (hxs : ∀ i, i < N → xs i ≤ 3000000000000000000) (hRk : ∀ x ∈ cutsE E id fr la, Ky.frm (8 : Nat) = Ky.fIn x.1) :
    ItrDX W0 TpN g x0 xs 73 #[.pointer (some ⟨bi, 0, none⟩), .pointer (some ⟨bm, 0, none⟩), .pointer (some ⟨bl, 0, none⟩), .pointer (some ⟨bs, 0, none⟩)] (cutsL E id fr la).length (ArK (cutsL E id fr la)) (RdS W0 X K D g E Wn N) := by
  intro l J0 J Jt Jx W hNB hW0 hS0 hSJ hSt hSx hgW hJ0 hJ hY h0
  obtain ⟨_, _, ⟨c0, u0, xx, s0⟩, _⟩ := hJ0 _ h0
  have B1 := below_alloc W (.cells #[.func (.yield l) #[] #[]] 137)
  have Y1 := blk_new W [.func (.yield l) #[] #[]] 137
  have s1 : (W.alloc (.cells #[.func (.yield l) #[] #[]] 137)).heap.size = W.heap.size + 1 := by simp
  obtain ⟨Wa, hWa⟩ : ∃ Wa, Hid (W.alloc (.cells #[.func (.yield l) #[] #[]] 137) = Wa) := ⟨_, rfl⟩
  rw [hWa.out] at B1 Y1 s1
  have bsW := hbs.chg c0 hXs
  have hK0 : ∀ b, K b → b < W0.heap.size := fun b hb => hS.lt hb
  have HX' : Hid (∀ b, (X b ∨ (W0.heap.size ≤ b ∧ b < W.heap.size)) → b = g ∨ ¬ K b) := hid3 (fun b hb => hb.elim (hX1 b) (fun h => .inr (fun hk => by have := hK0 b hk; omega)))
  have HXl : Hid (∀ b, (X b ∨ (W0.heap.size ≤ b ∧ b < W.heap.size)) → b < W.heap.size) := hid3 (fun b hb => hb.elim (fun h => Nat.lt_of_lt_of_le (hXl b h) hW0) (fun h => h.2))
  have HXU : Hid (∀ b, (X b ∨ (W0.heap.size ≤ b ∧ b < W.heap.size)) → ∀ cs, ¬ Blk W b cs 5) := hid3 (fun b hb => hb.elim (u0 b) (fun h => hNB b h.1))
  have S0 : (fun w' => Blk w' bi [.int .u64 id] 22 ∧ Blk w' bm [.int .u64 fr] 22 ∧ Blk w' bl [.int .u64 la] 22) Wa.drew := ⟨((hbi.chg c0 hXi).keep B1).drew, ((hbm.chg c0 hXm).keep B1).drew, ((hbl.chg c0 hXb).keep B1).drew⟩
  have HY := hid3 hY
  have HJ := hid3 hJ
  have HJ0 := hid3 hJ0
  have H0 := hid3 h0
  have HS := hid3 s0
  have HC0 := hid3 c0
  have HB1 := hid3 B1
  have HY1 := hid3 Y1
  have HBS := hid3 bsW
  have HS0 := hid3 S0
  clear hJ0 hJ hY h0 s0 c0 B1 Y1 bsW hNB u0 S0 hbs hbi hbm hbl
  refine (callsIn_wide (n := 0)).1 ?_
  refine callsIn_of_wp_marks Tryz.func73 rfl trivial ?_ rfl
  simp only [Tryz.ntmps73, List.size_toArray, List.length_cons, List.length_nil, Nat.reduceAdd, Nat.reduceSub, Array.replicate_succ, Array.replicate_zero, List.push_toArray, List.append_toArray, List.nil_append, List.cons_append]
  gi_wp2_with fail
  rw [hWa.out]
  refine wpIn_wide.2 ?_
  refine rg_weak ?_
  refine rg_start (S := fun w' => Blk w' bi [.int .u64 id] 22 ∧ Blk w' bm [.int .u64 fr] 22 ∧ Blk w' bl [.int .u64 la] 22) (by kernel_rfl) HS0.out ?_
  refine rg_load 0 (some 14) (.int .u64 id) 22 1 bi 0 (by kernel_rfl) (by kernel_rfl) (by kernel_rfl) (fun w' h => ld_u64 h.1) (fun _ _ _ h => h) HS0.out ?_
  refine rg_load 1 (some 15) (.int .u64 fr) 22 2 bm 0 (by kernel_rfl) (by kernel_rfl) (by kernel_rfl) (fun w' h => ld_u64 h.2.1) (fun _ _ _ h => h) HS0.out ?_
  refine rg_load 4 (some 18) (.int .u64 id) 22 1 bi 0 (by kernel_rfl) (by kernel_rfl) (by kernel_rfl) (fun w' h => ld_u64 h.1) (fun _ _ _ h => h) HS0.out ?_
  refine rg_load 5 (some 19) (.int .u64 la) 22 3 bl 0 (by kernel_rfl) (by kernel_rfl) (by kernel_rfl) (fun w' h => ld_u64 h.2.2) (fun _ _ _ h => h) HS0.out ?_
  refine rg_call 2 (some 16) 56 #[.int .i64 8, .int .u64 id, .int .u64 fr] (by kernel_rfl) (by kernel_rfl) (fkey hid (by decide)) ?_
  rintro _ w1 ⟨k1, rfl, U1, C1⟩
  have T1 := (⟨HS0.out.1.keep C1, HS0.out.2.1.keep C1, HS0.out.2.2.keep C1⟩ : Blk w1 bi [.int .u64 id] 22 ∧ Blk w1 bm [.int .u64 fr] 22 ∧ Blk w1 bl [.int .u64 la] 22)
  refine ⟨_, rfl, T1, ?_⟩
  refine rg_call 3 (some 17) 74 #[k1] (by kernel_rfl) (by kernel_rfl) (nextK U1 (Nat.le_trans (Ky.mk_len _ _ _) (by decide))) ?_
  rintro _ w2 ⟨f1, rfl, F1, C2⟩
  have T2 := (⟨T1.1.keep C2, T1.2.1.keep C2, T1.2.2.keep C2⟩ : Blk w2 bi [.int .u64 id] 22 ∧ Blk w2 bm [.int .u64 fr] 22 ∧ Blk w2 bl [.int .u64 la] 22)
  refine ⟨_, rfl, T2, ?_⟩
  refine rg_call 6 (some 20) 56 #[.int .i64 8, .int .u64 id, .int .u64 la] (by kernel_rfl) (by kernel_rfl) (fkey hid (by decide)) ?_
  rintro _ w3 ⟨k2, rfl, U2, C3⟩
  have T3 := (⟨T2.1.keep C3, T2.2.1.keep C3, T2.2.2.keep C3⟩ : Blk w3 bi [.int .u64 id] 22 ∧ Blk w3 bm [.int .u64 fr] 22 ∧ Blk w3 bl [.int .u64 la] 22)
  refine ⟨_, rfl, T3, ?_⟩
  refine rg_call 7 (some 21) 74 #[k2] (by kernel_rfl) (by kernel_rfl) (nextK U2 (Nat.le_trans (Ky.mk_len _ _ _) (by decide))) ?_
  rintro _ w4 ⟨f2, rfl, F2, C4⟩
  have T4 := (⟨T3.1.keep C4, T3.2.1.keep C4, T3.2.2.keep C4⟩ : Blk w4 bi [.int .u64 id] 22 ∧ Blk w4 bm [.int .u64 fr] 22 ∧ Blk w4 bl [.int .u64 la] 22)
  refine ⟨_, rfl, T4, ?_⟩
  refine rg_take 8 (some 6) f1 (by kernel_rfl) (fun _ _ => by kernel_rfl) (fun _ _ _ h => h) T4 ?_
  refine rg_take 9 (some 7) f2 (by kernel_rfl) (fun _ _ => by kernel_rfl) (fun _ _ _ h => h) T4 ?_
  refine rg_done (by kernel_rfl) (rg_end ?_)
  simp only [Act.put, List.setIfInBounds_toArray, List.set_cons_zero, List.set_cons_succ]
  have B2 := joinB (joinB (joinB (joinB (joinB HB1.out (belowD Wa)) C1) C2) C3) C4
  have F1' := (F1.keep C3).keep C4
  obtain ⟨fa, fc, hf1⟩ : ∃ ao c, f1 = .slice ao (Ky.nxt (Ky.mk 8 id fr)).length c := by obtain ⟨ao, c, e, _⟩ := F1.ex; exact ⟨ao, c, e⟩
  obtain ⟨ta, tc, hf2⟩ : ∃ ao c, f2 = .slice ao (Ky.nxt (Ky.mk 8 id la)).length c := by obtain ⟨ao, c, e, _⟩ := F2.ex; exact ⟨ao, c, e⟩
  have cB := (HBS.out.keep B2).cell (i := 0) rfl
  have tP := swalkH (Tp := TpN) (X := fun b => X b ∨ (W0.heap.size ≤ b ∧ b < W.heap.size)) (HS.out.keep B2) hN F1' F2 (Nat.le_trans (nxt_le _) (Nat.le_trans (Ky.mk_len _ _ _) (by decide))) (Nat.le_trans (nxt_le _) (Nat.le_trans (Ky.mk_len _ _ _) (by decide))) HX'.out (fun b hb cs k => HXU.out b hb cs ⟨by rw [← B2.block b (HXl.out b hb)]; exact k.blk⟩) (fun b hb => Nat.lt_of_lt_of_le (HXl.out b hb) B2.size) (fun h => h) (fun h => h)
  have HB2 := hid3 B2
  have HC4 := hid3 (joinB (joinB (joinB (joinB (belowD Wa) C1) C2) C3) C4)
  clear T1 T2 T3 T4 U1 U2 F1 F2 F1' C1 C2 C3 C4 B2
  obtain ⟨fn, hfn⟩ : ∃ n, Hid ((Ky.nxt (Ky.mk 8 id fr)).length = n) := ⟨_, rfl⟩
  obtain ⟨tn, htn⟩ : ∃ n, Hid ((Ky.nxt (Ky.mk 8 id la)).length = n) := ⟨_, rfl⟩
  rw [hfn.out] at hf1
  rw [htn.out] at hf2
  subst hf1 hf2
  gi_wp2_with (refine ⟨trivial, rfl, ?_⟩; gi_at_call 75; refine (callsIn_wide.2 tP).mono ?_; rintro e' w5 ⟨v5, EL, rfl, IG, hEL, B3⟩)
  obtain ⟨bs1, bs2, bw, W1, rfl, IT, hRd, hb1, hb2⟩ := IG.ex
  have hsm := IG.small
  clear tP IG
  have BW := joinB HB2.out B3
  have hw1 : W.heap.size + 1 ≤ w4.heap.size := by have := HC4.out.size; omega
  have hw2 : W.heap.size + 1 ≤ w5.heap.size := Nat.le_trans hw1 B3.size
  have YB := (HY1.out.keep HC4.out).keep B3
  have hlen : (cutsL E id fr la).length = EL.length := by simp [cutsL, cutsE, ← hEL]
  have hle : EL.length ≤ N := by
    have h1 := HS.out.size
    have h2 : (EL.map En.kl2).length ≤ E.length := by rw [hEL]; exact List.length_filter_le _ _
    rw [List.length_map] at h2
    omega
  have ITC := countedX (g := g) (bs1 := bs1) (bs2 := bs2) (x0 := x0) (xs := xs) IT (fun h => h) (by omega) (fun i hi => hxs i (by omega))
  have HRK : Hid (∀ e ∈ EL, Ky.frm 8 = Ky.fIn e.kl) := hid3 (fun e he => hRk e.kl2 (by show _ ∈ E.filter _; rw [← hEL]; exact List.mem_map_of_mem he))
  have HCL : Hid (∀ (i : Nat) (e : En), EL[i]? = some e → (cutsL E id fr la)[i]? = some (Ky.rdB e.kl, cX e.vl 0, cX e.vl 1)) := hid3 (fun i e he => by
    have h1 : cutsL E id fr la = (EL.map En.kl2).map (fun x => (Ky.rdB x.1, cX x.2 0, cX x.2 1)) := by rw [hEL]; rfl
    rw [h1, List.getElem?_map, List.getElem?_map, he]
    rfl)
  have J2 := hS0 _ _ H0.out (Rec.of BW)
  have E2 : Ext W.heap.size w5 w5 := ⟨fun _ _ _ => rfl, Nat.le_refl _⟩
  have RDC : Hid (∀ V, RdS W0 X K D g E Wn N V → Ext W.heap.size w5 V → RdC (fun b => X b ∨ (W0.heap.size ≤ b ∧ b < W.heap.size)) W1 g bs1 bs2 bw V) := hid3 (fun V hR hE => by
    obtain ⟨c1, _, x, s1⟩ := hR
    obtain ⟨r1, r2, r3, _⟩ := hRd
    refine ⟨⟨?_, ?_, ?_, Nat.le_trans r1.size hE.2, fun b hb hn => ?_⟩, hE.blk r2 (by omega), hE.blk r3 (by omega), s1.kv⟩
    · rw [c1.os, ← HC0.out.os, ← BW.os, r1.os]
    · rw [c1.tape, ← HC0.out.tape, ← BW.tape, r1.tape]
    · rw [c1.output, ← HC0.out.output, ← BW.output, r1.output]
    · rw [← r1.same b hb hn]
      rw [not_or] at hn
      rcases Nat.lt_or_ge b W0.heap.size with h1 | h1
      · rw [c1.same b h1 hn.1, BW.block b (by omega), HC0.out.same b h1 hn.1]
      · exact hE.1 b (by omega) (Nat.lt_of_lt_of_le hb r1.size))
  have HEL := hid3 hEL
  have HSM := hid3 hsm
  have HYB := hid3 YB
  clear hEL hsm YB B3 hRd cB IT BW HB1 HY1 HB2 HC4
  refine rf_outerX ITC (by rfl) (enters_of Tryz.func164 (by kernel_rfl) rfl) (fun i args n V V' h hc => h.cel hc) (fun i args n V h => by obtain ⟨e, kv, vv, s, _, rfl, _⟩ := h; rfl)
    (fun V => J0 V ∧ Ext W.heap.size w5 V)
    (fun i V => J i V ∧ Ext W.heap.size w5 V)
    (fun i V => Jt i V ∧ Ext W.heap.size w5 V)
    (fun c i V => c = .ret ∧ Jx i V ∧ w5.heap.size ≤ V.heap.size)
    (fun A B hx hr => ⟨hS0 A B hx.1 (hr.mono (by omega)), hx.2.rcd hr⟩)
    (fun i A B hx hr => ⟨hSJ i A B hx.1 (hr.mono (by omega)), hx.2.rcd hr⟩)
    (fun i A B hx hr => ⟨hSt i A B hx.1 (hr.mono (by omega)), hx.2.rcd hr⟩)
    (fun c i A B hx hr => ⟨hx.1, hSx i A B hx.2.1 (hr.mono (by omega)), Nat.le_trans hx.2.2 hr.size⟩)
    (by omega)
    (fun V hv => by obtain ⟨q1, q2, q3, q4⟩ := HJ0.out V hv.1; exact ⟨q1, q2, RDC.out V q3 hv.2, q4, hv.2.tick hgW⟩)
    (fun i V hv => by obtain ⟨q1, q2, q3, q4⟩ := HJ.out i V hv.1; exact ⟨q1, q2, RDC.out V q3 hv.2, fun hi => ⟨q4 (by omega), hv.2.tick hgW⟩⟩)
    ⟨J2, E2⟩ ?_ ?_ ?_
  · rintro l2 i args V Wv hl hlV hrec hiN ⟨hJi, hExt⟩ hb ⟨e0, kv, vv, s0, he0, rfl, hk0, hv0, _⟩
    obtain ⟨ak0, nk, hk1⟩ := hk0.shape
    obtain ⟨av, nv, hv1⟩ := hv0.shape
    subst hk1 hv1
    simp
    gi_wp2
    refine ⟨Below.refl _ _, ?_⟩
    intro V2 W2 hJ2 hExt2 hb2 hAr2 hoth hsz3 hV2 rl hrec2
    obtain ⟨e1, kv1, vv1, t1, he1, harr, hk2, hv2, ht1⟩ := hAr2
    obtain rfl : e1 = e0 := by rw [he0] at he1; cases he1; rfl
    simp at harr
    obtain ⟨rfl, rfl⟩ := harr
    have hmE := List.mem_of_getElem? he0
    have tA := Ky.read_yes hk2.by (HSM.out e1 hmE).1 (r := 8) (by decide) (by decide) (HRK.out e1 hmE)
    have hN2 := hid3 (fun w3 (B3 : Below W2.heap.size W2 w3) => cut_rd (ByU.of (hv2.keep B3)) (HSM.out e1 hmE).2)
    have yB := hExt2.blk HYB.out (Nat.le_refl _)
    have HE2 := hid3 hExt2
    have HJT := hid3 hJ2
    have HB2 := hid3 hb2
    have hs2 : w5.heap.size ≤ V2.heap.size := hExt2.2
    have hs3 : V2.heap.size ≤ W2.heap.size := hb2.size
    have HYV := hid3 (yB.keep hb2)
    have HAr : Hid ((cutsL E id fr la)[i]? = some (Ky.rdB e1.kl, cX e1.vl 0, cX e1.vl 1)) := hid3 (HCL.out i e1 he0)
    clear hJi hExt hb hk0 hv0 hk2 hv2 hoth hExt2 hJ2 hb2 yB he1 he0 ht1 hmE
    obtain ⟨cc, hcc⟩ : ∃ cc, Hid (Ky.rdA 8 e1.kl = cc) := ⟨_, rfl⟩
    obtain ⟨ss, hss⟩ : ∃ ss, Hid (Ky.rdB e1.kl = ss) := ⟨_, rfl⟩
    obtain ⟨na, hna⟩ : ∃ nn, Hid (cX e1.vl 0 = nn) := ⟨_, rfl⟩
    obtain ⟨nb, hnb⟩ : ∃ nn, Hid (cX e1.vl 1 = nn) := ⟨_, rfl⟩
    obtain ⟨oo, hoo⟩ : ∃ oo, Hid (Rc.outR (Rc.stCut e1.vl) = oo) := ⟨_, rfl⟩
    simp only [hcc.out, hss.out] at tA
    simp only [hss.out, hna.out, hnb.out] at HAr
    have HY2 := hid3 (HY.out i #[.int .u64 ss, .agg #[.int .u64 na, .int .u64 nb]] V2)
    gi_wp2_with first
      | (refine ⟨trivial, rfl, ?_⟩; gi_at_call 76; refine (CallsIn.inRound l2 (callsIn_wide.2 tA)).mono ?_; rintro e' w6 ⟨rfl, B3⟩; clear tA; have B4 := below_alloc w6 (.cells #[.int .i64 (8 : Int), .int .u64 cc, .int .u64 ss] 139); have k4 := blk_new w6 [.int .i64 (8 : Int), .int .u64 cc, .int .u64 ss] 139; have tN := hN2.out _ (joinB B3 B4); rw [hna.out, hnb.out, hoo.out] at tN)
      | (refine ⟨trivial, rfl, ?_⟩; gi_at_call 77; refine (CallsIn.inRound l2 (callsIn_wide.2 tN)).mono ?_; rintro e' w8 ⟨rfl, B5⟩; clear tN; have B7 := below_alloc w8 (.cells #[.int .u64 na, .int .u64 nb] 97); have B6 := joinB (joinB (joinB B3 B4) B5) B7; have kC := ((k4.keep B5).keep B7).cell (i := 2) rfl; have yC := (HYV.out.keep B6).cell (i := 0) rfl; have hYY := HY2.out _ (by omega) HJT.out (by omega) (joinB HB2.out B6) ⟨_, HAr.out, rfl⟩; obtain ⟨fn, tmps, assign, body, hy, hR⟩ := hYY; have hR2 : RoundIn (Fence.wide.inRound l2) 0 Tryz.prog l fn tmps assign body (w8.alloc (.cells #[.int .u64 na, .int .u64 nb] 97)) _ := ⟨hR.1, fun c cs _ => hR.2 c cs (fun _ h => by cases h)⟩; have HR := hid3 hR2; have HK := hid3 B6; clear hR hR2 B3 B4 B5 B6 B7 k4)
    refine ⟨rfl, HR.out.mono ?_⟩
    rintro e' w9 ⟨hk5, h5⟩
    have hkk : KeepsT TpN W.heap.size W2 w9 := (KeepsT.of HK.out).trans hk5
    have hE5 := (HE2.out.keep HB2.out).keepsT hkk
    have hk2 : KeepsT TpN w5.heap.size W2 w9 := hkk.mono (by omega)
    rcases h5 with ⟨rfl, hJ5⟩ | ⟨rfl, hJ5⟩
    · gi_wp2
      exact ⟨hk2, hJ5, hE5⟩
    · gi_wp2
      exact ⟨hk2, rfl, hJ5, hE5.2⟩
  · rintro D' W' hD hK ⟨hJn, hE⟩
    gi_wp2
    refine ⟨by simp, .inl ⟨_, _, rfl, run_takeDeferred hK, ?_⟩⟩
    have := hE.2
    exact ⟨_, results_none rfl _ _ _, ⟨_, rfl⟩, by simp; omega, .inl (by rw [hlen]; exact hSJ _ _ _ hJn (Rec.put hK rfl (by omega) _))⟩
  · rintro D' c i W' hD hK hiN ⟨rfl, hJx', hsz⟩
    gi_wp2
    refine ⟨by simp, .inl ⟨_, _, rfl, run_takeDeferred hK, ?_⟩⟩
    exact ⟨_, results_none rfl _ _ _, ⟨_, rfl⟩, by simp; omega, .inr ⟨i, by omega, hSx (i + 1) _ _ hJx' (Rec.put hK rfl (by omega) _)⟩⟩
end Fo
end Go.Proofs.YtjejmkcjflhoiaaGreatDoor

namespace Go.Proofs.YtjejmkcjflhoiaaGreatDoor
namespace Fo
open Go.RowKit Go.Lib Pg Lim Gl Kv Bk Pw
attribute [local go_sem] Oper.semAt_some
set_option maxRecDepth 100000
set_option linter.unusedVariables false
set_option linter.unusedSimpArgs false
set_option maxHeartbeats 8000000
theorem und_k {w : World} {k a : Int} (ha : 0 ≤ a ∧ a < 18446744073709551616) (hk : 16 < (Ky.frm k).1) : Calls Tryz.prog 111 #[.int .i64 k, .int .u64 a] w fun e w' => ∃ v, e = .returned (.tuple #[v, .int .i64 0]) ∧ By w' v (Ky.mkb (Ky.frm k) (Ky.tn k a)) ∧ Below w.heap.size w w' := by
  have u := Ky.under_any (w := w) (k := k) ha.1 ha.2
  rw [if_pos hk, if_pos hk] at u
  refine u.mono ?_
  rintro e w' ⟨v, rfl, O, B⟩
  exact ⟨v, rfl, O.by, B⟩
theorem funder {w : World} {k a : Int} (ha : 0 ≤ a ∧ a < 18446744073709551616) (hk : 16 < (Ky.frm k).1) : Calls Tryz.prog 65 #[.int .i64 k, .int .u64 a] w fun e w' => ∃ v, e = .returned v ∧ By w' v (Ky.mkb (Ky.frm k) (Ky.tn k a)) ∧ Below w.heap.size w w' := by
  have BB := Below.refl w.heap.size w
  refine gc_enter (n := 14) Tryz.func65 rfl (by kernel_rfl) (by kernel_rfl) ?_
  refine gc_seq ?_
  refine gc_reg ?_
  refine t 4 (.slice none 0 0) ?_
  refine gl_nil ?_
  refine ge_then ?_
  refine gc_seq ?_
  refine gc_reg ?_
  refine t 8 (.int .i64 k) ?_
  refine t 9 (.int .u64 a) ?_
  refine tc 10 111 #[.int .i64 k, .int .u64 a] (und_k ha hk) ?_
  rintro _ v1 ⟨v, rfl, U1, B⟩
  refine ⟨_, rfl, ?_⟩
  replace BB := joinB BB B
  clear B
  refine t 7 (.tuple #[v, .int .i64 0]) ?_
  refine t 11 (v) ?_
  refine t 12 (.int .i64 0) ?_
  refine t 5 (v) ?_
  refine t 6 (.int .i64 0) ?_
  refine gl_nil ?_
  refine ge_then ?_
  refine gc_seq ?_
  refine gc_reg ?_
  refine t 13 (v) ?_
  refine t 4 (v) ?_
  refine gl_nil ?_
  refine ge_then ?_
  refine gc_fr [(4, v)] (by kernel_rfl) ?_
  refine gc_ret ?_
  refine ge_ret (v) (rs1 4 (by kernel_rfl) (by kernel_rfl)) ?_
  exact ⟨_, rfl, U1, BB⟩
/-- how many keys of a kind a validator has -/
def numK (E : Ents) (k a : Int) : Nat := (E.filter (fun x => decide (Ky.mkb (Ky.frm k) (Ky.tn k a) <+: x.1))).length
structure CntI (Wb : World) (t : Nat) (K D : Nat → Prop) (g : Nat) (E : Ents) (Wn : List Ents) (N x i : Nat) (V : World) : Prop where
  chg : Chg (fun b => b = g ∨ b = t) Wb V
  sa : SA V K D g E Wn x N
  out : Blk V t [.int .i64 (i : Int)] 3
section
variable {Wb V V' : World} {t g x i N : Nat} {K D : Nat → Prop} {E : Ents} {Wn : List Ents}
theorem saRcd {B : Nat} (h : SA V K D g E Wn x N) (hr : Rec B V V') : SA V' K D g E Wn x N :=
  h.same (fun b hK => by obtain ⟨cs, t, k, _⟩ := h.kind b hK; exact (hr.same b _ k.blk (.inr rfl)).trans k.blk.symm) (fun b _ _ hk => by obtain ⟨cs, k⟩ := hk; exact (hr.same b _ k.blk (.inr rfl)).trans k.blk.symm)
theorem CntI.rcd (h : CntI Wb t K D g E Wn N x i V) (hr : Rec Wb.heap.size V V') : CntI Wb t K D g E Wn N x i V' := ⟨chg_rcd h.chg hr (Nat.le_refl _), saRcd h.sa hr, rec_cel h.out hr⟩
theorem CntI.ne (h : CntI Wb t K D g E Wn N x i V) : t ≠ g := fun e => by
  obtain ⟨cs, k⟩ := h.sa.kv
  subst e
  exact absurd (h.out.eq k).2 (by decide)
theorem CntI.tick (h : CntI Wb t K D g E Wn N x i V) : CntI Wb t K D g E Wn N (x + 1) i (tick g V x) :=
  ⟨h.chg.trans (chg_tick g x V) (fun b _ e => .inl e), h.sa.tick, h.out.chg (chg_tick g x V) h.ne⟩
end
theorem number_sa {w : World} {K D : Nat → Prop} {g x0 N : Nat} {E : Ents} {Wn : List Ents} {k a : Int} (hS : SA w K D g E Wn x0 N) (ha : 0 ≤ a ∧ a < 18446744073709551616) (hk : 16 < (Ky.frm k).1) (hN : N ≤ 100000000) (hx : x0 + N ≤ 2000000000000000000) :
    Calls Tryz.prog 31 #[pg g, .int .i64 k, .int .u64 a] w fun e w' => ∃ j, e = .returned (.int .i64 ((j : Nat) : Int)) ∧ j = numK E k a ∧ SA w' K D g E Wn (x0 + 1 + j) N ∧ Chg (· = g) w w' := by
  have hglt : g < w.heap.size := hS.lt hS.top
  have A1 := below_alloc w (.cells #[.int .i64 0] 3)
  have T1 := blk_new w [.int .i64 0] 3
  obtain ⟨Wa, hWa⟩ : ∃ Wa, Hid (w.alloc (.cells #[.int .i64 0] 3) = Wa) := ⟨_, rfl⟩
  have zA : Wa.heap.size = w.heap.size + 1 := by rw [← hWa.out]; simp
  rw [hWa.out] at A1 T1
  have SB := hS.keep A1
  have HS := hid3 hS
  have HB := hid3 A1
  have HT := hid3 T1
  have HSB := hid3 SB
  clear hS A1 T1 SB
  refine (callsIn_wide (n := 0)).1 ?_
  refine callsIn_of_wp_marks Tryz.func31 rfl trivial ?_ rfl
  simp only [Tryz.ntmps31, List.size_toArray, List.length_cons, List.length_nil, Nat.reduceAdd, Nat.reduceSub, Array.replicate_succ, Array.replicate_zero, List.push_toArray, List.append_toArray, List.nil_append, List.cons_append]
  gi_wp2_with (refine ⟨trivial, rfl, ?_⟩; gi_at_call 65; rw [hWa.out]; refine (callsIn_wide.2 (funder ha hk)).mono ?_; rintro e' w1 ⟨u, rfl, U1, B1⟩)
  have S1 := HSB.out.keep B1
  have T1 := HT.out.keep B1
  have zB1 := B1.size
  have hKt : ∀ b, K b → b < w.heap.size := fun b hb => HS.out.lt hb
  have hgt : w.heap.size ≠ g := by omega
  have up := sprefixG (Tp := fun _ => False) (X := fun b => b = g ∨ b = w.heap.size) S1 hN U1 (Nat.le_trans (Ky.mkb_len _ _) (by decide)) (fun b hb => hb.elim .inl (fun e => .inr (fun hk => by have := hKt b hk; omega))) (fun b hb cs q => by
    rcases hb with rfl | rfl
    · obtain ⟨cs', k'⟩ := S1.kv
      exact absurd (q.eq k').2 (by decide)
    · exact absurd (q.eq T1).2 (by decide)) (fun b hb => by rcases hb with h | h <;> omega) (fun h => h) (fun h => h)
  have HS1 := hid3 S1
  have HT1 := hid3 T1
  have HB1 := hid3 B1
  have HU := hid3 up
  clear up S1 T1 B1 U1
  gi_wp2_with (refine ⟨trivial, rfl, ?_⟩; gi_at_call 64; refine (callsIn_wide.2 HU.out).mono ?_; rintro e' Wb ⟨pv, EL, rfl, IG, hEL, B2⟩)
  obtain ⟨bs1, bs2, bw, W1, rfl, IT, hRd, hb1, hb2⟩ := IG.ex
  have hlE : EL.length = numK E k a := by have := congrArg List.length hEL; rw [List.length_map] at this; exact this
  have hlN : EL.length ≤ N := by rw [hlE]; exact Nat.le_trans (List.length_filter_le _ _) HS.out.size
  have SB := HS1.out.keep B2
  have TB := HT1.out.keep B2
  have zB2 := B2.size
  have n1 : bs1 ≠ g := fun e => by obtain ⟨cs', k'⟩ := SB.kv; subst e; exact absurd (hRd.2.1.eq k').2 (by decide)
  have n2 : bs2 ≠ g := fun e => by obtain ⟨cs', k'⟩ := SB.kv; subst e; exact absurd (hRd.2.2.1.eq k').2 (by decide)
  have RD : ∀ V x i, CntI Wb w.heap.size K D g E Wn N x i V → V.cell? ⟨g, 2, none⟩ = some (.int .i64 (x : Int)) ∧ V.frozen? ⟨g, 2, none⟩ = false ∧ RdC (fun b => b = g ∨ b = w.heap.size) W1 g bs1 bs2 bw V := fun V x i h => by
    have q := h.sa.cnt
    exact ⟨q.1, q.2, hRd.1.trans h.chg (fun _ _ e => e), hRd.2.1.chg h.chg (fun e => e.elim n1 (fun e => by omega)), hRd.2.2.1.chg h.chg (fun e => e.elim n2 (fun e => by omega)), h.sa.kv⟩
  have I0 : CntI Wb w.heap.size K D g E Wn N x0 0 Wb := ⟨Chg.refl _ _, SB, TB⟩
  have HI := hid3 I0
  have HB2 := hid3 B2
  have HIT := hid3 (countedX (g := g) (bs1 := bs1) (bs2 := bs2) (x0 := x0) (xs := fun i => x0 + 1 + i) IT (fun h => h) (by omega) (fun i hi => by show x0 + 1 + i ≤ _; omega))
  clear I0 SB TB B2 IT IG hRd
  gi_wp2
  refine rf_outerX HIT.out (by rfl) (enters_of Tryz.func164 (by kernel_rfl) rfl) (fun i args n V V' h hc => h.cel hc) (fun i args n V h => by obtain ⟨e, kv, vv, s, _, rfl, _⟩ := h; rfl)
    (fun V => CntI Wb w.heap.size K D g E Wn N x0 0 V)
    (fun i V => CntI Wb w.heap.size K D g E Wn N (x0 + 1 + i) i V)
    (fun i V => CntI Wb w.heap.size K D g E Wn N (x0 + 1 + i + 1) i V)
    (fun c i V => False)
    (fun A B hx hr => hx.rcd hr) (fun i A B hx hr => hx.rcd hr) (fun i A B hx hr => hx.rcd hr) (fun c i A B hx hr => hx) (by omega)
    (fun V hv => by obtain ⟨q1, q2, q3⟩ := RD V _ _ hv; exact ⟨q1, q2, q3, hv.tick⟩)
    (fun i V hv => by obtain ⟨q1, q2, q3⟩ := RD V _ _ hv; exact ⟨q1, q2, q3, fun _ => hv.tick⟩)
    HI.out ?_ ?_ ?_
  · rintro l2 i args V Wv hl hlV hrec hiN hT hb ⟨e0, kv, vv, s0, he0, rfl, hk0, hv0, _⟩
    simp
    gi_wp2
    refine ⟨Below.refl _ _, ?_⟩
    intro V2 W2 hT2 hb2 hAr2 hoth hsz3 hV2 r hrec2
    have T2 := hT2.out.keep hb2
    have c0 := T2.cell (i := 0) rfl
    have f0 := T2.free 0
    have HT2 := hid3 hT2
    have hws := hT2.chg.size
    have z2 := hb2.size
    have HC : Chg (· = w.heap.size) W2 (W2.setCell ⟨w.heap.size, 0, none⟩ (.int .i64 ((i : Int) + 1))) := (Chg.refl (fun x => x = w.heap.size) W2).cell (.inl (by rfl)) _
    have S6 := T2.setCell (i := 0) (.int .i64 ((i : Int) + 1))
    have HB3 := hid3 hb2
    have hcc := hid3 HC
    have hs6 := hid3 S6
    clear hT hb hoth hT2 hAr2 hb2 HC S6 T2 hk0 hv0
    gi_wp2
    have hs := hcc.out
    refine ⟨⟨hs.size, fun k o hk h0 _ => (hs.same k (lt_of_block h0) (by omega)).trans h0⟩, ?_, ?_, ?_⟩
    · exact (HT2.out.chg.trans (Chg.of (F := fun _ => False) HB3.out) (fun _ _ h => h.elim)).trans hs (fun b _ h => .inr h)
    · rw [show x0 + 1 + (i + 1) = x0 + 1 + i + 1 by omega]
      exact (HT2.out.sa.keep HB3.out).chg hs (fun b e hk => by have e' : b = w.heap.size := e; have := hKt b hk; omega) (fun b e cs kk => by
        have e' : b = w.heap.size := e
        subst e'
        exact absurd (kk.eq (HT2.out.out.keep HB3.out)).2 (by decide))
    · have q := hs6.out
      rw [show ((i + 1 : Nat) : Int) = (i : Int) + 1 by omega]
      exact q
  · rintro D' W' hD hK hT
    have h1c := hT.out.cell (i := 0) rfl
    have R3 := Rec.put hK rfl hD (.deferred none)
    have hT3 := hT.rcd R3
    have HT3 := hid3 hT3
    have HD := hid3 hD
    clear hT3 hT
    gi_wp2
    refine ⟨by simp, .inl ⟨_, _, rfl, run_takeDeferred hK, ?_⟩⟩
    refine ⟨_, results_tmp rfl _ _ _, numK E k a, rfl, rfl, by have q := HT3.out.sa; rw [hlE] at q; exact q, ?_⟩
    have q1 := joinB (joinB HB.out HB1.out) HB2.out
    exact (Chg.of (F := (· = g)) q1).trans HT3.out.chg (fun b hl e => e.elim id (fun e => by omega))
  · rintro D' c i W' hD hK hi h
    exact h.elim
theorem number_x {B : Nat} {w : World} {K : Nat → Prop} {g : Nat} {E : Ents} {W : List Ents} {n N : Nat} {k a : Int} (h : Sx B w K g E W n N) (ha : 0 ≤ a ∧ a < 18446744073709551616) (hk : 16 < (Ky.frm k).1) (hN : N ≤ 100000000) (hn : n + N ≤ 2000000000000000000) : Calls Tryz.prog 31 #[pg g, .int .i64 k, .int .u64 a] w fun e w' => e = .returned (.int .i64 ((numK E k a : Nat) : Int)) ∧ Sx B w' K g E W (n + 1 + numK E k a) N ∧ numK E k a ≤ N ∧ Chg (· = g) w w' := by
  refine (number_sa h.sa ha hk hN hn).mono ?_
  rintro e w' ⟨j, rfl, rfl, S, C⟩
  exact ⟨rfl, ⟨S, Nat.le_trans h.lo C.size, h.kb⟩, Nat.le_trans (List.length_filter_le _ _) h.sa.size, C⟩
end Fo
end Go.Proofs.YtjejmkcjflhoiaaGreatDoor

namespace Go.Proofs.YtjejmkcjflhoiaaGreatDoor
namespace Fo
open Go.RowKit Go.Lib Pg Lim Gl Kv Bk Pw
attribute [local go_sem] Oper.semAt_some
set_option maxRecDepth 100000
set_option linter.unusedVariables false
set_option linter.unusedSimpArgs false
set_option maxHeartbeats 8000000
theorem KK : Kd Tryz.prog 126 87 1 24 (.slice none 0 0) := ⟨by kernel_rfl, by kernel_rfl, rfl, by simp [Value.cells, Value.oneCell'], by decide⟩
/-- keys in a list of their own, in a block from B on -/
structure KA (w : World) (B : Nat) (v : Value) (ks : List (Value × List Int)) : Prop where
  ex : (v = .slice none 0 0 ∧ ks = []) ∨ ∃ b c, v = .slice (some ⟨b, 0, none⟩) ks.length c ∧ B ≤ b ∧ Rw w 87 1 b ks.length c (ks.map (·.1))
  obs : ∀ p ∈ ks, OB w (B ≤ ·) p.1 p.2
section
variable {w w' : World} {B g x : Nat} {v : Value} {ks : List (Value × List Int)}
theorem KA.shape (h : KA w B v ks) : ∃ ao c, v = .slice ao ks.length c := by
  rcases h.ex with ⟨rfl, rfl⟩ | ⟨b, c, rfl, _⟩
  · exact ⟨none, 0, rfl⟩
  · exact ⟨_, c, rfl⟩
theorem KA.nil (w : World) (B : Nat) : KA w B (.slice none 0 0) [] := ⟨.inl ⟨rfl, rfl⟩, fun _ h => by cases h⟩
theorem KA.keep (h : KA w B v ks) (hb : Below w.heap.size w w') : KA w' B v ks := ⟨h.ex.imp id (fun ⟨b, c, e, hl, hR⟩ => ⟨b, c, e, hl, hR.keep hb⟩), fun p hp => (h.obs p hp).keep hb⟩
theorem KA.rcd {C : Nat} (h : KA w B v ks) (hr : Rec C w w') : KA w' B v ks := ⟨h.ex.imp id (fun ⟨b, c, e, hl, hR⟩ => ⟨b, c, e, hl, Kv.Rw.rcd hR hr⟩), fun p hp => Kv.OB.rcd (h.obs p hp) hr⟩
/-- what changes no bytes and no list of bytes -/
theorem KA.chg {F : Nat → Prop} (h : KA w B v ks) (hc : Chg F w w') (hF : ∀ b, F b → b < B ∧ ∀ cs, ¬ Blk w b cs 5) : KA w' B v ks :=
  ⟨h.ex.imp id (fun ⟨b, c, e, hl, hR⟩ => ⟨b, c, e, hl, hR.chg hc (fun hf => by have := (hF b hf).1; omega)⟩), fun p hp => (h.obs p hp).chg hc (fun b hb cs => (hF b hb).2 cs)⟩
theorem app_k {p : Value × List Int} {a : Addr} (h : KA w B v ks) (hB : B ≤ w.heap.size) (hl : ks.length ≤ 2000000000) (ho : OB w (B ≤ ·) p.1 p.2) (c0 : w.cell? (a.add 0) = some p.1) :
    ∃ v' w', (Builtin.append_ #[126, 126] 126 #[v, .slice (some a) 1 1]).run Tryz.prog w = .ok v' w' ∧ KA w' B v' (ks ++ [p]) ∧ Chg (fun b => B ≤ b ∧ ∃ cs, Blk w b cs 87) w w' := by
  have hnews : ∀ j u, [p.1][j]? = some u → w.cell? (a.add j) = some u := fun j u hj => by
    match j with
    | 0 => simp at hj; rw [← hj]; exact c0
    | k + 1 => simp at hj
  have hnb : ∀ b, (B ≤ b ∧ ∃ cs, Blk w b cs 87) → ∀ cs, ¬ Blk w b cs 5 := fun b hb cs k => by
    obtain ⟨_, cs', k'⟩ := hb
    exact absurd (k.eq k').2 (by decide)
  rcases h.ex with ⟨rfl, rfl⟩ | ⟨b, c, rfl, hb, hR⟩
  · obtain ⟨c', w', hr, hR, hw⟩ := app_nil (w := w) KK 126 a 1 1 [p.1] rfl hnews (by omega) (by omega) (by omega)
    refine ⟨_, w', hr, ⟨.inr ⟨_, c', rfl, hB, by simpa using hR⟩, fun q hq => ?_⟩, Chg.of hw⟩
    simp at hq
    subst hq
    exact ho.keep hw
  · obtain ⟨b', c', w', hr, hb', hR', hC⟩ := app_row KK 126 hR a 1 1 [p.1] rfl hnews (fun u hu => by simp at hu; subst hu; obtain ⟨o1, o2, e⟩ := ho.shape; rw [e]; rfl) (by omega) (by omega)
    have hC' : Chg (fun b => B ≤ b ∧ ∃ cs, Blk w b cs 87) w w' := hC.mono (fun y _ e => by have e' : y = b := e; subst e'; exact ⟨hb, hR.kind⟩)
    refine ⟨_, w', hr, ⟨.inr ⟨b', c', by simp, by rcases hb' with rfl | rfl <;> omega, by simpa using hR'⟩, fun q hq => ?_⟩, hC'⟩
    rcases List.mem_append.1 hq with h1 | h1
    · exact (h.obs q h1).chg hC' hnb
    · simp at h1
      subst h1
      exact ho.chg hC' hnb
end
def TpK (t : TypeId) : Prop := t = 87
theorem wli_ap20 {F : Fence} {n : Nat} {ops : Array Oper} {Q : Exit → Act → World → Prop} {rest : List Oper} {pos : String} {after : Array Edge} {a : Act} {w w' : World} {u v r : Value} (hF : ∀ f, F.fn f) (hu : a.eval (.tmp 17) = u) (hv : a.eval (.tmp 19) = v) (hr : (Builtin.append_ #[126, 126] 126 #[u, v]).run Tryz.prog w = .ok r w') (h : wpListIn F n Tryz.prog ops Q rest (a.put (some 20) r) w') :
    wpListIn F n Tryz.prog ops Q ({ dst := some 20, op := .call { callee := .builtin .append, args := #[.tmp 17, .tmp 19], argTypes := #[126, 126] }, type := 126, pos := pos, after := after, guard := none } :: rest) a w :=
  Ky.wli_val rfl hF (Oper.semAt_eq _ _ _ (fun c h => by cases h)) (Ky.run_app (x := 17) (y := 19) rfl rfl hu hv hr) h
structure RmI (Wb : World) (t : Nat) (K D : Nat → Prop) (g : Nat) (E : Ents) (Wn : List Ents) (N x : Nat) (L : List (List Int)) (V : World) : Prop where
  chg : Chg (fun b => b = g ∨ b = t) Wb V
  sa : SA V K D g E Wn x N
  out : ∃ v ks, Blk V t [v] 126 ∧ KA V Wb.heap.size v ks ∧ ks.map (·.2) = L
section
variable {Wb V V' : World} {t g x N : Nat} {K D : Nat → Prop} {E : Ents} {Wn : List Ents} {L : List (List Int)}
theorem RmI.rcd (h : RmI Wb t K D g E Wn N x L V) (hr : Rec Wb.heap.size V V') : RmI Wb t K D g E Wn N x L V' := by
  obtain ⟨v, ks, h1, h2, h3⟩ := h.out
  exact ⟨chg_rcd h.chg hr (Nat.le_refl _), saRcd h.sa hr, v, ks, rec_cel h1 hr, h2.rcd hr, h3⟩
theorem RmI.tick (h : RmI Wb t K D g E Wn N x L V) (hg : g < Wb.heap.size) : RmI Wb t K D g E Wn N (x + 1) L (tick g V x) := by
  obtain ⟨v, ks, h1, h2, h3⟩ := h.out
  have hc := chg_tick g x V
  have hne : t ≠ g := fun e => by
    obtain ⟨cs, k⟩ := h.sa.kv
    subst e
    exact absurd (h1.eq k).2 (by decide)
  refine ⟨h.chg.trans hc (fun b _ e => .inl e), h.sa.tick, v, ks, h1.chg hc hne, h2.chg hc (fun b e => ?_), h3⟩
  have e' : b = g := e
  subst e'
  refine ⟨hg, fun cs q => ?_⟩
  obtain ⟨cs', k'⟩ := h.sa.kv
  exact absurd (q.eq k').2 (by decide)
end
/-- all keys of a kind of a validator -/
def keysK (E : Ents) (k a : Int) : List (List Int) := (E.filter (fun x => decide (Ky.mkb (Ky.frm k) (Ky.tn k a) <+: x.1))).map (·.1)
def delK (E : Ents) (k a : Int) : Ents := (keysK E k a).foldl Kv.rem E
theorem ge_endM {n : Nat} {l : Fr} {P : Program} {fn : Func} {R : Ending → World → Prop} {D : Nat} {w : World} (hr : fn.results = #[]) (hK : w.heap[D]? = some (.deferred (some []))) (hR : R (.returned (.tuple #[])) (w.putObj D (.deferred none))) : GE n [{ target := .collected D, args := #[] }] (bodyPostM Fence.wide 0 P fn R) .normal l w := ⟨fun a r => by
  obtain ⟨tmps, dfs⟩ := a
  have e : dfs = [{ target := .collected D, args := #[] }] := r.dfs
  subst e
  refine ⟨by simp, .inl ⟨_, _, rfl, run_takeDeferred hK, ?_⟩⟩
  exact ⟨_, by simp [results, hr], hR⟩⟩
theorem run_ldB {ρ : Operand → Value} {o : Oper} {w : World} {b off : Nat} {v : Value} (hc : w.cell? ⟨b, off, none⟩ = some v) (ho : ∃ p, o.op = .load 87 p ∧ ρ p = .pointer (some ⟨b, off, none⟩) := by exact ⟨_, rfl, by kernel_rfl⟩) : (execOp ρ o).run Tryz.prog w = .ok (.value v) w := by
  obtain ⟨p, h, hp⟩ := ho
  have := Kv.ld_sl hc
  simp only [execOp, h, hp]
  simp [Instr.loadAt, Instr.sureAddr, Result.andThen, this]
theorem run_ixb {P : Program} {ρ : Operand → Value} {o : Oper} {w : World} {ao : Option Addr} (sz b off n c k : Nat) (hk : k < n) (hao : 0 < n → ao = some ⟨b, off, none⟩) (ho : ∃ T x y, o.op = .indexAddr T x y ∧ slT P T sz = true ∧ ρ x = .slice ao n c ∧ ρ y = .int .i64 (k : Int) := by exact ⟨_, _, _, rfl, by kernel_rfl, by kernel_rfl, by kernel_rfl⟩) : (execOp ρ o).run P w = .ok (.value (.pointer (some ⟨b, off + k * sz, none⟩))) w := by
  rw [hao (by omega)] at ho
  exact run_ixs sz b off n c k hk ho
theorem remove_x {B : Nat} {w : World} {K : Nat → Prop} {g x0 N : Nat} {E : Ents} {Wn : List Ents} {k a : Int} (h : Sx B w K g E Wn x0 N) (ha : 0 ≤ a ∧ a < 18446744073709551616) (hk : 16 < (Ky.frm k).1) (hN : N ≤ 30000000) (hx : x0 + N ≤ 2000000000000000000) :
    Calls Tryz.prog 32 #[pg g, .int .i64 k, .int .u64 a] w fun e w' => ∃ K' n' N', e = .returned (.tuple #[]) ∧ Sx B w' K' g (delK E k a) Wn n' N' ∧ n' ≤ x0 + 1 + 2 * N ∧ N' ≤ 3 * N ∧ (∀ b, K' b → K b ∨ w.heap.size ≤ b) ∧ Chg K w w' := by
  obtain ⟨D, hD0⟩ : ∃ D : Nat → Prop, D = (B ≤ ·) := ⟨_, rfl⟩
  have hS : SA w K D g E Wn x0 N := by rw [hD0]; exact h.sa
  have hlo := h.lo
  have hkb := h.kb
  clear h
  have hglt : g < w.heap.size := hS.lt hS.top
  have A1 := below_alloc w (.cells #[.slice none 0 0] 126)
  have T1 := blk_new w [.slice none 0 0] 126
  obtain ⟨Wa, hWa⟩ : ∃ Wa, Hid (w.alloc (.cells #[.slice none 0 0] 126) = Wa) := ⟨_, rfl⟩
  have zA : Wa.heap.size = w.heap.size + 1 := by rw [← hWa.out]; simp
  rw [hWa.out] at A1 T1
  have SB := hS.keep A1
  have HS := hid3 hS
  have HB := hid3 A1
  have HT := hid3 T1
  have HSB := hid3 SB
  clear hS A1 T1 SB
  refine (callsIn_wide (n := 0)).1 ?_
  refine callsIn_of_wp_marks Tryz.func32 rfl trivial ?_ rfl
  simp only [Tryz.ntmps32, List.size_toArray, List.length_cons, List.length_nil, Nat.reduceAdd, Nat.reduceSub, Array.replicate_succ, Array.replicate_zero, List.push_toArray, List.append_toArray, List.nil_append, List.cons_append]
  gi_wp2_with (refine ⟨trivial, rfl, ?_⟩; gi_at_call 65; rw [hWa.out]; refine (callsIn_wide.2 (funder ha hk)).mono ?_; rintro e' w1 ⟨u, rfl, U1, B1⟩)
  have S1 := HSB.out.keep B1
  have T1 := HT.out.keep B1
  have zB1 := B1.size
  have hKt : ∀ b, K b → b < w.heap.size := fun b hb => HS.out.lt hb
  have up := sprefixG (Tp := TpK) (X := fun b => b = g ∨ b = w.heap.size) S1 (by omega) U1 (Nat.le_trans (Ky.mkb_len _ _) (by decide)) (fun b hb => hb.elim .inl (fun e => .inr (fun hk => by have := hKt b hk; omega))) (fun b hb cs q => by
    rcases hb with rfl | rfl
    · obtain ⟨cs', k'⟩ := S1.kv
      exact absurd (q.eq k').2 (by decide)
    · exact absurd (q.eq T1).2 (by decide)) (fun b hb => by rcases hb with h | h <;> omega) (by unfold TpK; decide) (by unfold TpK; decide)
  have HS1 := hid3 S1
  have HT1 := hid3 T1
  have HB1 := hid3 B1
  have HU := hid3 up
  clear up S1 T1 B1 U1
  gi_wp2_with (refine ⟨trivial, rfl, ?_⟩; gi_at_call 64; refine (callsIn_wide.2 HU.out).mono ?_; rintro e' Wb ⟨pv, EL, rfl, IG, hEL, B2⟩)
  obtain ⟨bs1, bs2, bw, W1, rfl, IT, hRd, hb1, hb2⟩ := IG.ex
  have hlE : Hid (EL.length = numK E k a) := by have := congrArg List.length hEL; rw [List.length_map] at this; exact this
  have hlN : EL.length ≤ N := by rw [hlE.out]; exact Nat.le_trans (List.length_filter_le _ _) HS.out.size
  have SB := HS1.out.keep B2
  have TB := HT1.out.keep B2
  have zB2 := B2.size
  have n1 : bs1 ≠ g := fun e => by obtain ⟨cs', k'⟩ := SB.kv; subst e; exact absurd (hRd.2.1.eq k').2 (by decide)
  have n2 : bs2 ≠ g := fun e => by obtain ⟨cs', k'⟩ := SB.kv; subst e; exact absurd (hRd.2.2.1.eq k').2 (by decide)
  have RD : ∀ V x L, RmI Wb w.heap.size K D g E Wn N x L V → V.cell? ⟨g, 2, none⟩ = some (.int .i64 (x : Int)) ∧ V.frozen? ⟨g, 2, none⟩ = false ∧ RdC (fun b => b = g ∨ b = w.heap.size) W1 g bs1 bs2 bw V := fun V x i h => by
    have q := h.sa.cnt
    exact ⟨q.1, q.2, hRd.1.trans h.chg (fun _ _ e => e), hRd.2.1.chg h.chg (fun e => e.elim n1 (fun e => by omega)), hRd.2.2.1.chg h.chg (fun e => e.elim n2 (fun e => by omega)), h.sa.kv⟩
  have hgB : g < Wb.heap.size := by omega
  have HI := hid3 (show RmI Wb w.heap.size K D g E Wn N x0 ((EL.map En.kl).take 0) Wb from ⟨Chg.refl _ _, SB, _, [], TB, KA.nil _ _, rfl⟩)
  have HB2 := hid3 B2
  have HIT := hid3 (countedX (g := g) (bs1 := bs1) (bs2 := bs2) (x0 := x0) (xs := fun i => x0 + 1 + i) IT (by unfold TpK; decide) (by omega) (fun i hi => by show x0 + 1 + i ≤ _; omega))
  have hsm := hid3 IG.small
  have hELH := hid3 hEL
  clear SB TB B2 IT IG hRd hEL
  gi_wp2
  refine rf_outerX HIT.out (by rfl) (enters_of Tryz.func164 (by kernel_rfl) rfl) (fun i args n V V' h hc => h.cel hc) (fun i args n V h => by obtain ⟨e, kv, vv, s, _, rfl, _⟩ := h; rfl)
    (fun V => RmI Wb w.heap.size K D g E Wn N x0 ((EL.map En.kl).take 0) V)
    (fun i V => RmI Wb w.heap.size K D g E Wn N (x0 + 1 + i) ((EL.map En.kl).take i) V)
    (fun i V => RmI Wb w.heap.size K D g E Wn N (x0 + 1 + i + 1) ((EL.map En.kl).take i) V)
    (fun c i V => False)
    (fun A B hx hr => hx.rcd hr) (fun i A B hx hr => hx.rcd hr) (fun i A B hx hr => hx.rcd hr) (fun c i A B hx hr => hx) (by omega)
    (fun V hv => by obtain ⟨q1, q2, q3⟩ := RD V _ _ hv; exact ⟨q1, q2, q3, hv.tick hgB⟩)
    (fun i V hv => by obtain ⟨q1, q2, q3⟩ := RD V _ _ hv; exact ⟨q1, q2, q3, fun _ => hv.tick hgB⟩)
    HI.out ?_ ?_ ?_
  · rintro l2 i args V Wv hl hlV hrec hiN hT hb ⟨e0, kv, vv, s0, he0, rfl, hk0, hv0, _⟩
    simp
    gi_wp2
    refine ⟨Below.refl _ _, ?_⟩
    intro V2 W2 hT2 hb2 hAr2 hoth hsz3 hV2 r hrec2
    obtain ⟨e1, kv1, vv1, t1, he1, harr, hk2, hv2, ht1⟩ := hAr2
    obtain rfl : e1 = e0 := by rw [he0] at he1; cases he1; rfl
    simp at harr
    obtain ⟨rfl, rfl⟩ := harr
    obtain ⟨ak, ck, hk1⟩ := hk2.shape
    subst hk1
    obtain ⟨v, ks, o1, o2, o3⟩ := hT2.out
    have hli : ks.length = i := by
      have := congrArg List.length o3
      rw [List.length_map, List.length_take, List.length_map] at this
      omega
    obtain ⟨ao, cc, rfl⟩ := o2.shape
    rw [hli] at o1 o2
    have z2 := hb2.size
    have zT := hT2.chg.size
    have P0 := o1.keep hb2
    have Q0 := o2.keep hb2
    have hBa := below_alloc W2 (.cells #[.slice ak e1.kl.length ck] 87)
    have N4 := blk_new W2 [.slice ak e1.kl.length ck] 87
    obtain ⟨W4, hW4⟩ : ∃ W4, Hid (W2.alloc (.cells #[.slice ak e1.kl.length ck] 87) = W4) := ⟨_, rfl⟩
    rw [hW4.out] at hBa N4
    have z4 := hBa.size
    obtain ⟨v5, w5, hr5, U5, C5⟩ := app_k (p := (.slice ak e1.kl.length ck, e1.kl)) (a := ⟨W2.heap.size, 0, none⟩) (Q0.keep hBa) (by omega) (by rw [hli]; omega) ((hk2.mono (fun b _ h => by have := h.1; omega)).keep hBa) (N4.cell (i := 0) rfl)
    have hl5 : (ks ++ [((.slice ak e1.kl.length ck : Value), e1.kl)]).length = i + 1 := by rw [List.length_append, hli]; rfl
    obtain ⟨a5, c5, rfl⟩ := U5.shape
    rw [hl5] at U5 hr5
    have S5 := (P0.keep hBa).chg C5 (fun h => by obtain ⟨_, cs, k⟩ := h; exact absurd (k.eq (P0.keep hBa)).2 (by decide))
    obtain ⟨q1, hq1⟩ : ∃ q1, Hid (i + 1 = q1) := ⟨_, rfl⟩
    rw [hq1.out] at U5 hr5
    have hC6 : Chg (· = w.heap.size) w5 (w5.setCell ⟨w.heap.size, 0, none⟩ (.slice a5 q1 c5)) := (Chg.refl (fun x => x = w.heap.size) w5).cell (.inl (by rfl)) _
    have S6 := S5.setCell (i := 0) (.slice a5 q1 c5)
    have hK5 : KeepsT TpK Wb.heap.size W4 w5 := ⟨C5.size, fun k o _ h0 hs => (C5.same k (lt_of_block h0) (fun h => by
      obtain ⟨_, cs, kb⟩ := h
      rw [kb.blk] at h0
      cases h0
      exact hs _ _ _ rfl rfl)).trans h0⟩
    have hKe : KeepsT TpK Wb.heap.size W2 (w5.setCell ⟨w.heap.size, 0, none⟩ (.slice a5 q1 c5)) := ((KeepsT.of hBa).trans hK5).trans ⟨hC6.size, fun k o hk h0 _ => (hC6.same k (lt_of_block h0) (fun e => by have e' : k = w.heap.size := e; omega)).trans h0⟩
    have hTI : RmI Wb w.heap.size K D g E Wn N (x0 + 1 + (i + 1)) ((EL.map En.kl).take (i + 1)) (w5.setCell ⟨w.heap.size, 0, none⟩ (.slice a5 q1 c5)) := by
      refine ⟨?_, ?_, ⟨_, ks ++ [(.slice ak e1.kl.length ck, e1.kl)], S6, ?_, ?_⟩⟩
      · exact ((hT2.chg.trans (Chg.of (F := fun _ => False) (joinB hb2 hBa)) (fun _ _ h => h.elim)).trans C5 (fun b h1 h2 => by have := h2.1; omega)).trans hC6 (fun b _ h => .inr h)
      · have q := ((hT2.sa.keep (joinB hb2 hBa)).chg C5 (fun b h1 hk => by have := hKt b hk; have := h1.1; omega) (fun b h1 cs kk => by obtain ⟨_, cs', k'⟩ := h1; exact absurd (kk.eq k').2 (by decide))).chg hC6 (fun b e hk => by have e' : b = w.heap.size := e; have := hKt b hk; omega) (fun b e cs kk => by
          have e' : b = w.heap.size := e
          subst e'
          exact absurd (kk.eq S5).2 (by decide))
        rw [show x0 + 1 + (i + 1) = x0 + 1 + i + 1 by omega]
        exact q
      · refine U5.chg hC6 (fun b e => ?_)
        have e' : b = w.heap.size := e
        subst e'
        exact ⟨by omega, fun cs kk => absurd (kk.eq S5).2 (by decide)⟩
      · rw [List.map_append, o3, List.take_add_one, List.getElem?_map, he0]
        rfl
    have p0c := P0.cell (i := 0) rfl
    have s5c := S5.cell (i := 0) rfl
    have s5f := S5.free 0
    have HKE := hid3 hKe
    have HTI := hid3 hTI
    clear hT hoth hb hT2 hb2 P0 Q0 N4 hBa U5 C5 S5 hC6 S6 hK5 hKe hTI o1 o2 o3 hli hl5 z2 zT z4 hsz3 hV2 hk2 hv2 hk0 hv0 he1
    rw [← hW4.out] at hr5
    clear hW4
    gi_wp2_with (first | (have gate := hr5; clear gate; (with_reducible refine wli_ap20 ?_ ?_ ?_ hr5 ?_); (exact fun _ => trivial); rfl; rfl; clear hr5))
    exact ⟨HKE.out, HTI.out⟩
  · rintro D' W' hD hK hT
    rename_i Q' Kc hc
    obtain ⟨v, ks, o1, o2, o3⟩ := hT.out
    rw [List.take_of_length_le (by rw [List.length_map]; exact Nat.le_refl _)] at o3
    obtain ⟨ao, cc, rfl⟩ := o2.shape
    obtain ⟨ln, hln⟩ : ∃ ln, ks.length = ln := ⟨_, rfl⟩
    have hlen : ln = EL.length := by rw [← hln, ← List.length_map (f := (·.2)), o3, List.length_map]
    rw [hln] at o1 o2
    have zW' := hT.chg.size
    have hT' := hT.sa
    rw [hD0] at hT'
    have hKeys : EL.map En.kl = keysK E k a := by
      unfold keysK
      rw [← hELH.out, List.map_map]
      rfl
    have zz := joinB (joinB HB.out HB1.out) HB2.out
    have hC0 : Chg K w W' := (Chg.of (F := K) zz).trans hT.chg (fun b hl e => e.elim (fun e => e ▸ HS.out.top) (fun e => by omega))
    have Sx0 : Sx B W' K g E Wn (x0 + 1 + ln) N := ⟨by rw [hlen]; exact hT', Nat.le_trans hlo hC0.size, hkb⟩
    obtain ⟨pb, hao, hkl⟩ : ∃ pb, (0 < ln → ao = some ⟨pb, 0, none⟩) ∧ ∀ i p, ks[i]? = some p → ∀ V K' E' n' N', Bk.At B W' K V K' g E' Wn n' N' → V.cell? ⟨pb, 0 + i * 1, none⟩ = some p.1 ∧ ByU V p.1 p.2 := by
      rcases o2.ex with ⟨e1, e2⟩ | ⟨b, c, e1, hb, hR⟩
      · exact ⟨0, fun h => by rw [e2] at hln; simp at hln; omega, fun i p hp => by rw [e2] at hp; cases hp⟩
      · refine ⟨b, fun _ => by cases e1; rfl, fun i p hp V K' E' n' N' hA => ⟨?_, ?_⟩⟩
        · have hc := hR.cell (i := i) (by rw [List.getElem?_map, hp]; rfl)
          rw [show 0 + i * 1 = i by omega, World.cell?_of_block (w := W') (hA.cc.same b hR.lt (fun hk => by have := hKt b hk; omega))]
          exact hc
        · exact (ByU.of (o2.obs p (List.mem_of_getElem? hp))).chg hA.cc Sx0.sa.kind
    have hDlt : D' < W'.heap.size := lt_of_block hK
    have hDK : ¬ K D' := fun hb => by have := hKt _ hb; omega
    have hsm2 : ∀ (i : Nat) (p : Value × List Int), ks[i]? = some p → p.2.length ≤ 1000000000 := fun i p hp => by
      have : p.2 ∈ EL.map En.kl := by rw [← o3]; exact List.mem_map.2 ⟨p, List.mem_of_getElem? hp, rfl⟩
      obtain ⟨e, he, e2⟩ := List.mem_map.1 this
      rw [← e2]
      exact (hsm.out e he).1
    have hfin : ∀ V K' n' N', Bk.At B W' K V K' g ((keysK E k a).foldl Kv.rem E) Wn n' N' → V.heap[D']? = some (.deferred (some [])) ∧ Sx B (V.putObj D' (.deferred none)) K' g (delK E k a) Wn n' N' ∧ (∀ b, K' b → K b ∨ w.heap.size ≤ b) ∧ Chg K w (V.putObj D' (.deferred none)) := fun V K' n' N' hA => by
      have hv : V.heap[D']? = some (.deferred (some [])) := (hA.cc.same D' hDlt hDK).trans hK
      have R3 := Rec.put (B := w.heap.size) hv rfl (by omega) (.deferred none)
      refine ⟨hv, ⟨saRcd hA.sx.sa R3, Nat.le_trans hA.sx.lo R3.size, hA.sx.kb⟩, fun b hb => (hA.km b hb).imp_right (Nat.le_trans hC0.size), ?_⟩
      exact chg_rcd (hC0.trans hA.cc (fun b _ h => h)) R3 (Nat.le_refl _)
    have A := Sx0.at
    have hn1 : ln ≤ N := by omega
    refine hc _ _ (wpIn_wide.2 (GC.out (n := 31) (ds := [{ target := .collected D', args := #[] }]) (l := [(0, pg g), (6, pg w.heap.size)]) ?_ _ ⟨rfl, rfl, fun q u hq => ?_⟩))
    · have Xt := o1
      refine gc_seq ?_
      refine gc_reg ?_
      refine tl 21 (.slice ao ln cc) Xt 0 ?_
      refine t 22 (.int .i64 ((ln : Nat) : Int)) ?_
      refine t 23 (.int .i64 0) ?_
      refine gl_nil ?_
      refine ge_then ?_
      refine gc_block ?_
      clear Xt
      refine gc_loop (fun i => ln - i) (fun (i : Nat) => [(0, pg g), (21, .slice ao ln cc), (22, .int .i64 ((ln : Nat) : Int)), (23, .int .i64 (i : Int))]) (fun i V => i ≤ ln ∧ ∃ K2 n2 N2, Bk.At B W' K V K2 g (((keysK E k a).take i).foldl Kv.rem E) Wn n2 N2 ∧ n2 ≤ x0 + 1 + ln + i ∧ N2 ≤ N + 2 * i) (0 : Nat) ⟨Nat.zero_le _, _, _, _, A, by omega, by omega⟩ (by kernel_rfl) ?_
      clear A
      rintro i v1 ⟨hi, K2, n2, N2, A, hn2, hN2⟩
      refine gc_seq ?_
      refine gc_reg ?_
      by_cases ci : (i : Int) < ((ln : Nat) : Int)
      · have hk_i : i < ln := by omega
        obtain ⟨pk, hpk⟩ : ∃ p, ks[i]? = some p := ⟨ks[i], List.getElem?_eq_getElem (by omega)⟩
        refine tq 24 (.bool (decide ((i : Int) < ((ln : Nat) : Int)))) (.bool true) (congrArg Value.bool (decide_eq_true ci)) ?_
        refine gl_nil ?_
        refine ge_then ?_
        refine gc_seq ?_
        refine gc_yes ?_
        refine gc_skip ?_
        refine ge_then ?_
        refine gc_seq ?_
        refine gc_block ?_
        refine gc_seq ?_
        refine gc_reg ?_
        refine tr 25 (pq pb (0 + i * 1)) (run_ixb 1 pb 0 ln cc i hk_i hao) ?_
        refine tr 26 (pk.1) (run_ldB (hkl i pk hpk _ _ _ _ _ A).1) ?_
        refine t 9 (pk.1) ?_
        refine gl_nil ?_
        refine ge_then ?_
        refine gc_reg ?_
        refine t 27 (pg g) ?_
        refine t 28 (pk.1) ?_
        refine tc 29 66 #[pg g, pk.1] (xdel A.sx (hkl i pk hpk _ _ _ _ _ A).2 (hsm2 i pk hpk) (by omega) (by omega)) ?_
        rintro _ v3 ⟨rfl, K2, S, hK, hC⟩
        refine ⟨_, rfl, ?_⟩
        replace A := A.op S hK hC
        clear S hK hC
        refine gl_nil ?_
        refine ge_bn ?_
        refine ge_then ?_
        refine gc_reg ?_
        refine tq 30 (.int .i64 (IntKind.i64.wrap ((i : Int) + 1))) (.int .i64 ((i : Int) + 1)) (wi (by omega)) ?_
        refine t 23 (.int .i64 ((i : Int) + 1)) ?_
        refine gl_nil ?_
        have hstep : ((keysK E k a).take (i + 1)).foldl Kv.rem E = Kv.rem (((keysK E k a).take i).foldl Kv.rem E) pk.2 := by
          rw [List.take_add_one, ← hKeys, ← o3, List.getElem?_map, hpk, List.foldl_append]
          rfl
        rw [← hstep] at A
        exact ge_round (i + 1) (by show ln - (i + 1) < ln - i; omega) ⟨hk_i, _, _, _, A, by omega, by omega⟩ (by kernel_rfl)
      · refine tq 24 (.bool (decide ((i : Int) < ((ln : Nat) : Int)))) (.bool false) (congrArg Value.bool (decide_eq_false ci)) ?_
        refine gl_nil ?_
        refine ge_then ?_
        refine gc_seq ?_
        refine gc_no ?_
        refine gc_exit ?_
        refine ge_tx ?_
        refine ge_tx ?_
        refine ge_bx ?_
        have hil : ln ≤ i := by omega
        rw [List.take_of_length_le (by rw [← hKeys, List.length_map, ← hlen]; exact hil)] at A
        obtain ⟨f1, f2, f3, f4⟩ := hfin _ _ _ _ A
        exact ge_endM (by kernel_rfl) f1 ⟨_, _, _, rfl, f2, by omega, by omega, f3, f4⟩
    · have hm := lk_mem hq
      simp at hm
      rcases hm with ⟨rfl, rfl⟩ | ⟨rfl, rfl⟩ <;> rfl
  · rintro D' c i W' hD hK hi h
    exact h.elim
theorem count_x {B : Nat} {w : World} {K : Nat → Prop} {g : Nat} {E : Ents} {W : List Ents} {n N : Nat} {id : Int} (h : Sx B w K g E W n N) (hid : 0 ≤ id ∧ id < 18446744073709551616) (hN : N ≤ 30000000) (hn : n + 3 * N + 10 ≤ 2000000000000000000) : Calls Tryz.prog 9 #[pg g, .int .u64 id] w fun e w' => ∃ K' n', e = .returned (.tuple #[.int .i64 ((numK E 7 id : Nat) : Int), .int .i64 ((numK E 8 id : Nat) : Int)]) ∧ Sx B w' K' g E W n' N ∧ n' ≤ n + 2 + 2 * N ∧ (∀ b, K' b → K b ∨ w.heap.size ≤ b) ∧ Chg K w w' := by
  have A := h.at
  refine gc_enter (n := 12) Tryz.func9 rfl (by kernel_rfl) (by kernel_rfl) ?_
  refine gc_seq ?_
  refine gc_reg ?_
  refine t 4 (.int .i64 0) ?_
  refine t 5 (.int .i64 0) ?_
  refine gl_nil ?_
  refine ge_then ?_
  refine gc_seq ?_
  refine gc_reg ?_
  refine t 6 (pg g) ?_
  refine t 7 (.int .u64 id) ?_
  refine tc 8 31 #[pg g, .int .i64 7, .int .u64 id] (number_x A.sx hid (by decide) (by omega) (by omega)) ?_
  rintro _ v2 ⟨rfl, S, q1, C⟩
  refine ⟨_, rfl, ?_⟩
  have hC := C.mono (fun b _ (e : b = g) => e ▸ A.sx.sa.top)
  replace A := A.op S (fun _ h => .inl h) hC
  clear S hC C
  refine t 9 (pg g) ?_
  refine t 10 (.int .u64 id) ?_
  refine tc 11 31 #[pg g, .int .i64 8, .int .u64 id] (number_x A.sx hid (by decide) (by omega) (by omega)) ?_
  rintro _ v4 ⟨rfl, S, q3, C⟩
  refine ⟨_, rfl, ?_⟩
  have hC := C.mono (fun b _ (e : b = g) => e ▸ A.sx.sa.top)
  replace A := A.op S (fun _ h => .inl h) hC
  clear S hC C
  refine t 4 (.int .i64 ((numK E 7 id : Nat) : Int)) ?_
  refine t 5 (.int .i64 ((numK E 8 id : Nat) : Int)) ?_
  refine gl_nil ?_
  refine ge_then ?_
  refine gc_fr [(4, .int .i64 ((numK E 7 id : Nat) : Int)), (5, .int .i64 ((numK E 8 id : Nat) : Int))] (by kernel_rfl) ?_
  refine gc_ret ?_
  refine ge_ret (.tuple #[.int .i64 ((numK E 7 id : Nat) : Int), .int .i64 ((numK E 8 id : Nat) : Int)]) (rs2 4 5 (by kernel_rfl) (by kernel_rfl) (by kernel_rfl)) ?_
  exact ⟨_, _, rfl, A.sx, by omega, A.km, A.cc⟩
theorem gone_x {B : Nat} {w : World} {K : Nat → Prop} {g : Nat} {E : Ents} {W : List Ents} {n N : Nat} {id : Int} (h : Sx B w K g E W n N) (hid : 0 ≤ id ∧ id < 18446744073709551616) (hN : N ≤ 10000000) (hn : n + 30 * N + 10 ≤ 2000000000000000000) : Calls Tryz.prog 11 #[pg g, .int .u64 id] w fun e w' => ∃ K' n' N', e = .returned (.tuple #[]) ∧ Sx B w' K' g (delK (delK E 7 id) 8 id) W n' N' ∧ n' ≤ n + 20 * N + 10 ∧ N' ≤ 9 * N ∧ (∀ b, K' b → K b ∨ w.heap.size ≤ b) ∧ Chg K w w' := by
  have A := h.at
  refine gc_enter (n := 10) Tryz.func11 rfl (by kernel_rfl) (by kernel_rfl) ?_
  refine gc_seq ?_
  refine gc_reg ?_
  refine t 4 (pg g) ?_
  refine t 5 (.int .u64 id) ?_
  refine tc 6 32 #[pg g, .int .i64 7, .int .u64 id] (remove_x A.sx hid (by decide) (by omega) (by omega)) ?_
  rintro _ v5 ⟨K1, n2, N3, rfl, S, qn2, qN3, hK, hC⟩
  refine ⟨_, rfl, ?_⟩
  replace A := A.op S hK hC
  clear S hK hC
  refine gl_nil ?_
  refine ge_then ?_
  refine gc_reg ?_
  refine t 7 (pg g) ?_
  refine t 8 (.int .u64 id) ?_
  refine tc 9 32 #[pg g, .int .i64 8, .int .u64 id] (remove_x A.sx hid (by decide) (by omega) (by omega)) ?_
  rintro _ v10 ⟨K6, n7, N8, rfl, S, qn7, qN8, hK, hC⟩
  refine ⟨_, rfl, ?_⟩
  replace A := A.op S hK hC
  clear S hK hC
  refine gl_nil ?_
  refine ge_end (.tuple #[]) (rs0 (by kernel_rfl)) ?_
  exact ⟨_, _, _, rfl, A.sx, by omega, by omega, A.km, A.cc⟩
end Fo
end Go.Proofs.YtjejmkcjflhoiaaGreatDoor

namespace Go.Proofs.YtjejmkcjflhoiaaGreatDoor
namespace Fo
open Go.RowKit Go.Lib Pg Lim Gl Kv Bk Pw
attribute [local go_sem] Oper.semAt_some
set_option maxRecDepth 100000
set_option linter.unusedVariables false
set_option linter.unusedSimpArgs false
set_option maxHeartbeats 8000000
theorem cuts_mk {w : World} {p : Option Addr} {id fr la : Int} : Calls Tryz.prog 39 #[.pointer p, .int .u64 id, .int .u64 fr, .int .u64 la] w fun e w' => e = .returned (.func (.func 73) #[] #[.pointer (some ⟨w.heap.size + 1, 0, none⟩), .pointer (some ⟨w.heap.size + 1 + 1, 0, none⟩), .pointer (some ⟨w.heap.size + 1 + 1 + 1, 0, none⟩), .pointer (some ⟨w.heap.size, 0, none⟩)]) ∧ Blk w' w.heap.size [.pointer p] 37 ∧ Blk w' (w.heap.size + 1) [.int .u64 id] 22 ∧ Blk w' (w.heap.size + 1 + 1) [.int .u64 fr] 22 ∧ Blk w' (w.heap.size + 1 + 1 + 1) [.int .u64 la] 22 ∧ Below w.heap.size w w' := by
  obtain ⟨w1, h1⟩ : ∃ w1, w1 = w.alloc (.cells #[.pointer p] 37) := ⟨_, rfl⟩
  obtain ⟨w2, h2⟩ : ∃ w2, w2 = w1.alloc (.cells #[.int .u64 id] 22) := ⟨_, rfl⟩
  obtain ⟨w3, h3⟩ : ∃ w3, w3 = w2.alloc (.cells #[.int .u64 fr] 22) := ⟨_, rfl⟩
  obtain ⟨w4, h4⟩ : ∃ w4, w4 = w3.alloc (.cells #[.int .u64 la] 22) := ⟨_, rfl⟩
  have b1 := below_alloc w (.cells #[.pointer p] 37)
  have c1 := blk_new w [.pointer p] 37
  have s1 : (w.alloc (.cells #[.pointer p] 37)).heap.size = w.heap.size + 1 := by simp
  rw [← h1] at b1 s1
  have b2 := below_alloc w1 (.cells #[.int .u64 id] 22)
  have c2 := blk_new w1 [.int .u64 id] 22
  have s2 : (w1.alloc (.cells #[.int .u64 id] 22)).heap.size = w1.heap.size + 1 := by simp
  rw [← h2] at b2 s2
  have b3 := below_alloc w2 (.cells #[.int .u64 fr] 22)
  have c3 := blk_new w2 [.int .u64 fr] 22
  have s3 : (w2.alloc (.cells #[.int .u64 fr] 22)).heap.size = w2.heap.size + 1 := by simp
  rw [← h3] at b3 s3
  have b4 := below_alloc w3 (.cells #[.int .u64 la] 22)
  have c4 := blk_new w3 [.int .u64 la] 22
  rw [← h4] at b4
  have d1 : Blk w4 w.heap.size [.pointer p] 37 := by
    have q : Blk w1 w.heap.size [.pointer p] 37 := by rw [h1]; exact c1
    exact ((q.keep b2).keep b3).keep b4
  have d2 : Blk w4 (w.heap.size + 1) [.int .u64 id] 22 := by
    have q : Blk w2 w1.heap.size [.int .u64 id] 22 := by rw [h2]; exact c2
    rw [s1] at q
    exact (q.keep b3).keep b4
  have d3 : Blk w4 (w.heap.size + 1 + 1) [.int .u64 fr] 22 := by
    have q : Blk w3 w2.heap.size [.int .u64 fr] 22 := by rw [h3]; exact c3
    rw [s2, s1] at q
    exact q.keep b4
  have d4 : Blk w4 (w.heap.size + 1 + 1 + 1) [.int .u64 la] 22 := by
    have q : Blk w4 w3.heap.size [.int .u64 la] 22 := by rw [h4]; exact c4
    rw [s3, s2, s1] at q
    exact q
  have bb := joinB (joinB (joinB b1 b2) b3) b4
  have HH := hid3 (And.intro d1 (And.intro d2 (And.intro d3 (And.intro d4 bb))))
  rw [h4, h3, h2, h1] at HH
  clear d1 d2 d3 d4 bb b1 b2 b3 b4 c1 c2 c3 c4 s1 s2 s3 h1 h2 h3 h4
  go_enter Tryz.func39, Tryz.ntmps39
  go_wp2
  go_ret
  refine ⟨by simp, ?_⟩
  simpa using HH.out
/-- a limb of a number lies in its block -/
theorem Nq.at {w : World} {K : Nat → Prop} {z n c : Nat} {ao : Option Addr} {x : Int} (h : Nq w K z ao n c x) (hn : n ≠ 0) : ∃ o y, w.cell? ⟨z, o, none⟩ = some (.int .u64 y) := by
  obtain ⟨w2, hw2⟩ : ∃ w2 : World, w2 = { w with heap := w.heap.mapIdx (fun i o => if i = z then o else .deferred none) } := ⟨_, rfl⟩
  have hz : w2.heap[z]? = w.heap[z]? := by
    rw [hw2]
    simp only [Array.getElem?_mapIdx, if_true]
    cases w.heap[z]? <;> rfl
  obtain ⟨b, o, l, h1, h2, h3, h4⟩ := (h.to w2 (fun _ => hz)).ex
  have h5 := h4.cell 0 (by omega)
  by_cases hb : b = z
  · subst hb
    rw [World.cell?_of_block (w := w) (a := ⟨b, o + 0, none⟩) hz] at h5
    exact ⟨_, _, h5⟩
  · exfalso
    have h6 : w2.heap[b]? = none ∨ w2.heap[b]? = some (.deferred none) := by
      rw [hw2]
      simp only [Array.getElem?_mapIdx, if_neg hb]
      cases w.heap[b]? with
      | none => exact .inl rfl
      | some o => exact .inr rfl
    unfold World.cell? at h5
    rcases h6 with h6 | h6 <;> simp [h6] at h5
theorem nq_ne {w : World} {K : Nat → Prop} {z n c b : Nat} {ao : Option Addr} {x : Int} {v : Value} {t : TypeId} (h : Nq w K z ao n c x) (hb : Blk w b [v] t) (hv : ∀ y, v ≠ .int .u64 y) : n = 0 ∨ z ≠ b := by
  by_cases hn : n = 0
  · exact .inl hn
  · refine .inr fun e => ?_
    subst e
    obtain ⟨o, y, h1⟩ := h.at hn
    unfold World.cell? at h1
    rw [hb.blk] at h1
    match o with
    | 0 => simp at h1; exact hv y h1
    | o + 1 => simp at h1
theorem Nq.rcd {C : Nat} {w w' : World} {K : Nat → Prop} {z n c : Nat} {ao : Option Addr} {x : Int} (h : Nq w K z ao n c x) (hr : Rec C w w') : Nq w' K z ao n c x := by
  have hs : n ≠ 0 → w'.heap[z]? = w.heap[z]? := fun hn => by
    obtain ⟨o, y, h1⟩ := h.at hn
    unfold World.cell? at h1
    split at h1
    · rename_i cs t f e
      have e' : w.heap[z]? = some (.cells cs t f) := e
      rw [e']
      exact hr.same z _ e' (.inr rfl)
    · cases h1
  exact ⟨h.lt.imp_right fun h => Nat.lt_of_lt_of_le h hr.size, h.out, fun w2 h2 => h.to w2 fun hn => (h2 hn).trans (hs hn)⟩
theorem cX_rng {l : List Int} (ho : Oct l) : (0 ≤ cX l 0 ∧ cX l 0 < 18446744073709551616) ∧ (0 ≤ cX l 1 ∧ cX l 1 < 18446744073709551616) := by
  have h1 : Octets (rdL (pFix 8 l) 0 l) := by
    unfold rdL
    split
    · split
      · exact ho
      · exact fun x hx => ho x (List.mem_of_mem_drop hx)
    · exact ho
  have e : Rc.stCut l = Rc.rnx 0 1 (Rc.rnx 0 0 (0, l, fun _ => 0)) := rfl
  unfold cX Rc.outX
  rw [e]
  split
  · exact ⟨rd8_rng (err := 0) ho, rd8_rng h1⟩
  · exact ⟨⟨Int.le_refl _, by decide⟩, Int.le_refl _, by decide⟩
/-- a claim's reward, stake and ratio behind a cut -/
def clStep (E : Ents) (id : Int) (s : Int × Int × Int) (c : Int × Int × Int) : Int × Int × Int := (s.1 + s.2.1 * subV (hX (got E (Ky.mk 7 id c.1)) 0) s.2.2 / U36, s.2.1 * (c.2.2 * U36) / (c.2.1 * U36), hX (got E (Ky.mk 7 id c.1)) 0)
structure ClI (B : Nat) (Wb : World) (br bk bf bc : Nat) (K : Nat → Prop) (g : Nat) (E : Ents) (Wn : List Ents) (N x i M : Nat) (st : Int × Int × Int) (V : World) : Prop where
  chg : Chg (fun b => b = g ∨ b = br ∨ b = bk ∨ b = bf ∨ b = bc) Wb V
  sx : Sx B V K g E Wn x N
  cnt : Blk V bc [.int .i64 (i : Int)] 3
  rew : ∃ a n c z, Blk V br [.slice a n c] 32 ∧ Nq V K z a n c st.1 ∧ n ≤ 2000000 * i
  stk : ∃ a n c z, Blk V bk [.slice a n c] 32 ∧ Nq V K z a n c st.2.1 ∧ n ≤ M + 80 * i
  frm : ∃ a n c z, Blk V bf [.slice a n c] 32 ∧ Nq V K z a n c st.2.2 ∧ n ≤ 510
section
variable {B : Nat} {Wb V V' : World} {br bk bf bc g N x i M : Nat} {K : Nat → Prop} {E : Ents} {Wn : List Ents} {st : Int × Int × Int}
theorem ClI.rcd (h : ClI B Wb br bk bf bc K g E Wn N x i M st V) (hr : Rec Wb.heap.size V V') : ClI B Wb br bk bf bc K g E Wn N x i M st V' := by
  obtain ⟨a1, n1, c1, z1, p1, p2, p3⟩ := h.rew
  obtain ⟨a2, n2, c2, z2, q1, q2, q3⟩ := h.stk
  obtain ⟨a3, n3, c3, z3, r1, r2, r3⟩ := h.frm
  exact ⟨chg_rcd h.chg hr (Nat.le_refl _), ⟨saRcd h.sx.sa hr, Nat.le_trans h.sx.lo hr.size, h.sx.kb⟩, rec_cel h.cnt hr, ⟨a1, n1, c1, z1, rec_cel p1 hr, p2.rcd hr, p3⟩, ⟨a2, n2, c2, z2, rec_cel q1 hr, q2.rcd hr, q3⟩, a3, n3, c3, z3, rec_cel r1 hr, r2.rcd hr, r3⟩
theorem ClI.tick (h : ClI B Wb br bk bf bc K g E Wn N x i M st V) : ClI B Wb br bk bf bc K g E Wn N (x + 1) i M st (tick g V x) := by
  obtain ⟨a1, n1, c1, z1, p1, p2, p3⟩ := h.rew
  obtain ⟨a2, n2, c2, z2, q1, q2, q3⟩ := h.stk
  obtain ⟨a3, n3, c3, z3, r1, r2, r3⟩ := h.frm
  have hc := chg_tick g x V
  have hne : ∀ {b : Nat} {cs : List Value} {t : TypeId}, Blk V b cs t → t ≠ 85 → b ≠ g := fun k ht e => by
    obtain ⟨cs', k'⟩ := h.sx.sa.kv
    subst e
    exact ht (k.eq k').2
  have hz : ∀ {a : Option Addr} {n c z : Nat} {y : Int}, Nq V K z a n c y → n = 0 ∨ z ≠ g := fun q => q.out.imp_right (fun k e => k (e ▸ h.sx.sa.top))
  exact ⟨h.chg.trans hc (fun b _ e => .inl e), ⟨h.sx.sa.tick, Nat.le_trans h.sx.lo hc.size, h.sx.kb⟩, h.cnt.chg hc (hne h.cnt (by decide)), ⟨a1, n1, c1, z1, p1.chg hc (hne p1 (by decide)), p2.cell hc (hz p2), p3⟩, ⟨a2, n2, c2, z2, q1.chg hc (hne q1 (by decide)), q2.cell hc (hz q2), q3⟩, a3, n3, c3, z3, r1.chg hc (hne r1 (by decide)), r2.cell hc (hz r2), r3⟩
theorem ClI.rd (h : ClI B Wb br bk bf bc K g E Wn N x i M st V) : RdS Wb (fun b => b = g ∨ b = br ∨ b = bk ∨ b = bf ∨ b = bc) K (B ≤ ·) g E Wn N V := by
  obtain ⟨a1, n1, c1, z1, p1, p2, p3⟩ := h.rew
  obtain ⟨a2, n2, c2, z2, q1, q2, q3⟩ := h.stk
  obtain ⟨a3, n3, c3, z3, r1, r2, r3⟩ := h.frm
  refine ⟨h.chg, fun b hb cs k => ?_, _, h.sx.sa⟩
  rcases hb with rfl | rfl | rfl | rfl | rfl
  · obtain ⟨cs', k'⟩ := h.sx.sa.kv
    exact absurd (k.eq k').2 (by decide)
  · exact absurd (k.eq p1).2 (by decide)
  · exact absurd (k.eq q1).2 (by decide)
  · exact absurd (k.eq r1).2 (by decide)
  · exact absurd (k.eq h.cnt).2 (by decide)
theorem ClI.go {a1 a2 a4 : Option Addr} {k1 d1 y1 k2 d2 y2 k4 d4 z4 : Nat} {V1 F2 V4 : Int} {W2 w3 w4 : World} (I2 : ClI B Wb br bk bf bc K g E Wn N x i M st W2) (hX : ∀ b, (b = g ∨ b = br ∨ b = bk ∨ b = bf ∨ b = bc) → b < Wb.heap.size) (drk : br ≠ bk) (dkf : bk ≠ bf) (nk : ¬ K bk) (nc : ¬ K bc)
    (S3 : Sx B w3 K g E Wn (x + 1) N) (C3 : Chg (fun b => b = g ∨ b = br ∨ b = bf) W2 w3) (R3 : Blk w3 br [.slice a1 k1 d1] 32) (N1 : Nq w3 K y1 a1 k1 d1 V1) (m1 : k1 ≤ 2000000 * (i + 1)) (F3 : Blk w3 bf [.slice a2 k2 d2] 32) (N2 : Nq w3 K y2 a2 k2 d2 F2) (m2 : k2 ≤ 510)
    (M4 : Nf w4 z4 a4 k4 d4 V4) (h4 : k4 = 0 ∨ w3.heap.size ≤ z4) (m4 : k4 ≤ M + 80 * (i + 1)) (B4 : Below w3.heap.size w3 w4) :
    ((w4.cell? ⟨bk, 0, none⟩).isSome = true ∧ w4.frozen? ⟨bk, 0, none⟩ = false ∧ (w4.setCell ⟨bk, 0, none⟩ (.slice a4 k4 d4)).cell? ⟨bc, 0, none⟩ = some (.int .i64 (i : Int)) ∧ (w4.setCell ⟨bk, 0, none⟩ (.slice a4 k4 d4)).frozen? ⟨bc, 0, none⟩ = false) ∧
    ClI B Wb br bk bf bc K g E Wn N (x + 1) (i + 1) M (V1, V4, F2) ((w4.setCell ⟨bk, 0, none⟩ (.slice a4 k4 d4)).setCell ⟨bc, 0, none⟩ (.int .i64 ((i : Int) + 1))) ∧ KeepsT TpN Wb.heap.size W2 ((w4.setCell ⟨bk, 0, none⟩ (.slice a4 k4 d4)).setCell ⟨bc, 0, none⟩ (.int .i64 ((i : Int) + 1))) := by
  obtain ⟨aS, nS, cS, zS, q1, q2, q3⟩ := I2.stk
  have hkg : bk ≠ g := fun e => by obtain ⟨cs', k'⟩ := I2.sx.sa.kv; subst e; exact absurd (q1.eq k').2 (by decide)
  have hcg : bc ≠ g := fun e => by obtain ⟨cs', k'⟩ := I2.sx.sa.kv; subst e; exact absurd (I2.cnt.eq k').2 (by decide)
  obtain ⟨aR, nR, cR, zR, r1, _, _⟩ := I2.rew
  obtain ⟨aF, nF, cF, zF, f1, _, _⟩ := I2.frm
  have hcr : bc ≠ br := fun e => by subst e; exact absurd (I2.cnt.eq r1).2 (by decide)
  have hcf : bc ≠ bf := fun e => by subst e; exact absurd (I2.cnt.eq f1).2 (by decide)
  have hck : bc ≠ bk := fun e => by subst e; exact absurd (I2.cnt.eq q1).2 (by decide)
  have cnt4 := (I2.cnt.chg C3 (fun h => h.elim hcg (fun h => h.elim hcr hcf))).keep B4
  have bk4 := (q1.chg C3 (fun h => h.elim hkg (fun h => h.elim drk.symm dkf))).keep B4
  have Ck : Chg (· = bk) w4 (w4.setCell ⟨bk, 0, none⟩ (.slice a4 k4 d4)) := (Chg.refl (fun x => x = bk) w4).cell (.inl (by rfl)) _
  have bk5 := bk4.setCell (i := 0) (.slice a4 k4 d4)
  have cnt5 := cnt4.chg Ck hck
  have x1 := bk4.cell (i := 0) rfl
  have x2 := bk4.free 0
  have x3 := cnt5.cell (i := 0) rfl
  have x4 := cnt5.free 0
  have P4 := nq_of S3 M4 h4
  have P1 := N1.keep B4
  have P2 := N2.keep B4
  have P4' := P4.cell Ck (nq_ne P4 bk4 (fun y h => by cases h))
  have P1' := P1.cell Ck (nq_ne P1 bk4 (fun y h => by cases h))
  have P2' := P2.cell Ck (nq_ne P2 bk4 (fun y h => by cases h))
  have R5 := (R3.keep B4).chg Ck drk
  have F5 := (F3.keep B4).chg Ck dkf.symm
  have S5 := (S3.sa.keep B4).chg Ck (fun b e hb => nk ((show b = bk from e) ▸ hb)) (fun b e cs kk => by have e' : b = bk := e; subst e'; exact absurd (kk.eq bk4).2 (by decide))
  have G5 := (((I2.chg.trans C3 (fun b _ h => h.elim .inl (fun h => h.elim (fun h => .inr (.inl h)) (fun h => .inr (.inr (.inr (.inl h))))))).trans (Chg.of (F := fun _ => False) B4) (fun _ _ h => h.elim))).trans Ck (fun b _ h => .inr (.inr (.inl h)))
  have H5 := ((C3.trans (Chg.of (F := fun b => b = g ∨ b = br ∨ b = bf) B4) (fun _ _ h => h)).mono (fun b _ h => (h.elim .inl (fun h => h.elim (fun h => .inr (.inl h)) (fun h => .inr (.inr (.inr (.inl h))))) : b = g ∨ b = br ∨ b = bk ∨ b = bf ∨ b = bc))).trans Ck (fun b _ h => .inr (.inr (.inl h)))
  have l5 := Nat.le_trans (Nat.le_trans S3.lo B4.size) Ck.size
  obtain ⟨w5, hw5⟩ : ∃ w5, w4.setCell ⟨bk, 0, none⟩ (.slice a4 k4 d4) = w5 := ⟨_, rfl⟩
  rw [hw5] at bk5 cnt5 x3 x4 P4' P1' P2' R5 F5 S5 G5 H5 l5 ⊢
  have Cc : Chg (· = bc) w5 (w5.setCell ⟨bc, 0, none⟩ (.int .i64 ((i : Int) + 1))) := (Chg.refl (fun x => x = bc) w5).cell (.inl (by rfl)) _
  have cnt6 := cnt5.setCell (i := 0) (.int .i64 ((i : Int) + 1))
  have hv : ∀ y, (.int .i64 (i : Int) : Value) ≠ .int .u64 y := fun y h => by cases h
  refine ⟨⟨by rw [x1]; rfl, x2, x3, x4⟩, ⟨G5.trans Cc (fun b _ h => .inr (.inr (.inr (.inr h)))), ⟨S5.chg Cc (fun b e hb => nc ((show b = bc from e) ▸ hb)) (fun b e cs kk => by have e' : b = bc := e; subst e'; exact absurd (kk.eq cnt5).2 (by decide)), Nat.le_trans l5 Cc.size, S3.kb⟩, ?_, ⟨a1, k1, d1, y1, R5.chg Cc hcr.symm, P1'.cell Cc (nq_ne P1' cnt5 hv), m1⟩, ⟨a4, k4, d4, z4, bk5.chg Cc hck.symm, P4'.cell Cc (nq_ne P4' cnt5 hv), m4⟩, a2, k2, d2, y2, F5.chg Cc hcf.symm, P2'.cell Cc (nq_ne P2' cnt5 hv), m2⟩, ?_⟩
  · rw [show ((i + 1 : Nat) : Int) = (i : Int) + 1 by omega]
    exact cnt6
  · have Hc := H5.trans Cc (fun b _ h => .inr (.inr (.inr (.inr h))))
    exact ⟨Hc.size, fun k o hk h0 _ => (Hc.same k (lt_of_block h0) (fun h => by have := hX k h; omega)).trans h0⟩
end
theorem cutsL_rng {w : World} {K D : Nat → Prop} {g n N : Nat} {E : Ents} {W : List Ents} (h : SA w K D g E W n N) {id fr la : Int} {i : Nat} {c : Int × Int × Int} (hc : (cutsL E id fr la)[i]? = some c) : (0 ≤ c.2.1 ∧ c.2.1 < 18446744073709551616) ∧ (0 ≤ c.2.2 ∧ c.2.2 < 18446744073709551616) := by
  obtain ⟨x, hx, rfl⟩ := List.mem_map.1 (List.mem_of_getElem? hc)
  exact cX_rng (SA.octv h x (List.mem_filter.1 hx).1)
def clSt (E : Ents) (id fr la x : Int) (i : Nat) : Int × Int × Int := ((cutsL E id fr la).take i).foldl (clStep E id) (0, x, hX (got E (Ky.mk 7 id fr)) 0)
theorem clSt_succ {E : Ents} {id fr la x : Int} {i : Nat} {c : Int × Int × Int} (hc : (cutsL E id fr la)[i]? = some c) : clSt E id fr la x (i + 1) = clStep E id (clSt E id fr la x i) c := by
  unfold clSt
  rw [List.take_add_one, hc, List.foldl_append]
  rfl
end Fo
end Go.Proofs.YtjejmkcjflhoiaaGreatDoor

namespace Go.Proofs.YtjejmkcjflhoiaaGreatDoor
namespace Fo
open Go.RowKit Go.Lib Pg Lim Gl Kv Bk Pw
set_option maxRecDepth 100000
set_option linter.unusedVariables false
set_option maxHeartbeats 1000000
/-- from w0 on, within a function: the store, blocks of one's own, numbers beside them -/
structure Ur (X : Nat → Prop) (w0 : World) (B g0 : Nat) (W : List Ents) (w : World) (K : Nat → Prop) (E : Ents) (n N : Nat) (bs : List Bx) (qs : List Nx) : Prop where
  rg : Rg X B w0 w K g0 E W n N
  b : ∀ p ∈ bs, Blk w p.1 p.2.1 p.2.2 ∧ ¬ K p.1 ∧ (w0.heap.size ≤ p.1 ∨ X p.1)
  q : ∀ r ∈ qs, Nq w K r.1 r.2.1 r.2.2.1 r.2.2.2.1 r.2.2.2.2
  e : ∀ p ∈ bs, ∀ r ∈ qs, r.2.2.1 = 0 ∨ r.1 ≠ p.1
  d : bs.Pairwise (fun a b => a.1 ≠ b.1)
section
variable {w0 w w' : World} {B g0 n N n' N' g i : Nat} {X K : Nat → Prop} {W : List Ents} {E E' : Ents} {bs : List Bx} {qs : List Nx} {cs cs' : List Value} {t : TypeId}
theorem Ur.lt (h : Ur X w0 B g0 W w K E n N bs qs) : ∀ p ∈ bs, p.1 < w.heap.size := fun p hp => (h.b p hp).1.lt
theorem ur_of (h : Rg X B w0 w K g0 E W n N) : Ur X w0 B g0 W w K E n N [] [] := ⟨h, fun _ h => (List.not_mem_nil h).elim, fun _ h => (List.not_mem_nil h).elim, fun _ h => (List.not_mem_nil h).elim, List.Pairwise.nil⟩
theorem Ur.keep (h : Ur X w0 B g0 W w K E n N bs qs) (b : Below w.heap.size w w') : Ur X w0 B g0 W w' K E n N bs qs := ⟨h.rg.keep b, fun p hp => ⟨(h.b p hp).1.keep b, (h.b p hp).2⟩, fun r hr => (h.q r hr).keep b, h.e, h.d⟩
theorem Ur.drew (h : Ur X w0 B g0 W w K E n N bs qs) : Ur X w0 B g0 W w.drew K E n N bs qs := h.keep (Below.refl _ _).drew
theorem Ur.ask (h : Ur X w0 B g0 W w K E n N bs qs) (S : Sx B w' K g0 E W n' N') (C : Chg (· = g0) w w') : Ur X w0 B g0 W w' K E n' N' bs qs := ⟨h.rg.op S C, fun p hp => ⟨(h.b p hp).1.chg C (fun e => (h.b p hp).2.1 (e ▸ h.rg.top)), (h.b p hp).2⟩, fun r hr => (h.q r hr).op (fun _ h => .inl h) (C.mono (fun b _ (e : b = g0) => e ▸ h.rg.top)), h.e, h.d⟩
theorem Ur.add {z k d : Nat} {a : Option Addr} {x : Int} {s : Nat} (h : Ur X w0 B g0 W w K E n N bs qs) (L : ∀ p ∈ bs, p.1 < s) (Q : Nq w K z a k d x) (hz : k = 0 ∨ s ≤ z) : Ur X w0 B g0 W w K E n N bs ((z, a, k, d, x) :: qs) := ⟨h.rg, h.b, List.forall_mem_cons.2 ⟨Q, h.q⟩, fun p hp => List.forall_mem_cons.2 ⟨hz.imp_right (fun q e => by have := L p hp; have e' : z = p.1 := e; omega), h.e p hp⟩, h.d⟩
theorem Ur.new (h : Ur X w0 B g0 W w K E n N bs qs) (Z : Blk w' g cs t) (hg : w.heap.size ≤ g) (b : Below w.heap.size w w') : Ur X w0 B g0 W w' K E n N ((g, cs, t) :: bs) qs := by
  have u := h.keep b
  refine ⟨u.rg, List.forall_mem_cons.2 ⟨⟨Z, fun q => by have := h.rg.sx.sa.lt q; omega, .inl (Nat.le_trans h.rg.size hg)⟩, u.b⟩, u.q, List.forall_mem_cons.2 ⟨fun r hr => ne1 (h.q r hr).lt hg, u.e⟩, List.pairwise_cons.2 ⟨fun p hp e => by have := h.lt p hp; have e' : g = p.1 := e; omega, u.d⟩⟩
theorem Ur.bk (h : Ur X w0 B g0 W w K E n N bs qs) (i : Nat) (hi : bs[i]? = some (g, cs, t)) : Blk w g cs t := (h.b _ (List.mem_of_getElem? hi)).1
theorem Ur.nq {z k d : Nat} {a : Option Addr} {x : Int} (h : Ur X w0 B g0 W w K E n N bs qs) (i : Nat) (hi : qs[i]? = some (z, a, k, d, x)) : Nq w K z a k d x := h.q _ (List.mem_of_getElem? hi)
theorem Ur.put (h : Ur X w0 B g0 W w K E n N bs qs) (i : Nat) (hi : bs[i]? = some (g, cs, t)) (C : Chg (· = g) w w') (Y : Blk w' g cs' t) (ht : t ≠ 5) : Ur X w0 B g0 W w' K E n N (bs.set i (g, cs', t)) qs := by
  have hm := List.mem_of_getElem? hi
  obtain ⟨Z, nk, y⟩ := h.b _ hm
  obtain ⟨r1, r2⟩ := set_ne (q := (g, cs', t)) h.d hi rfl
  refine ⟨Rg.cell h.rg Z C y nk ht, fun p hp => ?_, fun r hr => (h.q r hr).cell C (h.e _ hm r hr), fun p hp => ?_, r1⟩
  · by_cases e : p = (g, cs', t)
    · subst e
      exact ⟨Y, nk, y⟩
    · rcases mem_setB hp with q | q
      · exact absurd q e
      · exact ⟨(h.b p q).1.chg C (r2 p hp e), (h.b p q).2⟩
  · rcases mem_setB hp with q | q
    · rw [q]
      show ∀ r ∈ qs, r.2.2.1 = 0 ∨ r.1 ≠ g
      exact h.e _ hm
    · exact h.e p q
theorem Ur.nk (h : Ur X w0 B g0 W w K E n N bs qs) (i : Nat) (hi : bs[i]? = some (g, cs, t)) : ¬ K g := (h.b _ (List.mem_of_getElem? hi)).2.1
theorem Ur.zz (h : Ur X w0 B g0 W w K E n N bs qs) (i : Nat) (hi : bs[i]? = some (g, cs, t)) : w0.heap.size ≤ g ∨ X g := (h.b _ (List.mem_of_getElem? hi)).2.2
theorem Ur.dd {g' : Nat} {t' : TypeId} (h : Ur X w0 B g0 W w K E n N bs qs) (i j : Nat) (hi : bs[i]? = some (g, cs, t)) (hj : bs[j]? = some (g', cs', t')) (hij : i < j) : g ≠ g' := by
  obtain ⟨li, ei⟩ := List.getElem?_eq_some_iff.1 hi
  obtain ⟨lj, ej⟩ := List.getElem?_eq_some_iff.1 hj
  have := List.pairwise_iff_getElem.1 h.d i j li lj hij
  rw [ei, ej] at this
  exact this
end
end Fo
end Go.Proofs.YtjejmkcjflhoiaaGreatDoor

namespace Go.Proofs.YtjejmkcjflhoiaaGreatDoor
namespace Fo
open Go.RowKit Go.Lib Pg Lim Gl Kv Bk Pw
attribute [local go_sem] Oper.semAt_some
set_option maxRecDepth 100000
set_option linter.unusedVariables false
set_option linter.unusedSimpArgs false
set_option maxHeartbeats 8000000
structure F1s where
  bk : Nat
  bf : Nat
  aF : Option Addr
  nF : Nat
  cF : Nat
  zF : Nat
structure F1 (B : Nat) (w V : World) (K : Nat → Prop) (g : Nat) (E : Ents) (W : List Ents) (n N : Nat) (a5 : Option Addr) (n5 c5 z5 : Nat) (x5 F : Int) (r0 : Nat) (s : F1s) : Prop where
  A : Rg (· = g) B w V K g E W (n + 1) N
  xk : Blk V s.bk [.slice a5 n5 c5] 32
  xf : Blk V s.bf [.slice s.aF s.nF s.cF] 32
  nk : ¬ K s.bk
  nf : ¬ K s.bf
  ne : s.bk ≠ s.bf
  q5 : Nq V K z5 a5 n5 c5 x5
  qf : Nq V K s.zF s.aF s.nF s.cF F
  mf : s.nF ≤ 510
  rk : s.bk ≠ r0
  rf : s.bf ≠ r0
  zk : w.heap.size ≤ s.bk ∨ s.bk = g
  zf : w.heap.size ≤ s.bf ∨ s.bf = g
def okM (Q : Exit → Act → World → Prop) : Exit → Act → World → Prop
  | .normal, a, w => Q .normal a w
  | .ret, a, w => Q .ret a w
  | _, _, _ => False
theorem weakM {c : Code} {a : Act} {w : World} {Q : Exit → Act → World → Prop} (h : c.wp Tryz.prog (okM Q) a w) : c.wp Tryz.prog Q a w :=
  Code.wp_mono (fun e a' w' h => by
    cases e <;> first
      | exact h
      | exact h.elim) h
structure PfE (B : Nat) (w : World) (K : Nat → Prop) (g : Nat) (E : Ents) (W : List Ents) (D r y : Nat) (a : Option Addr) (k d x : Nat) (V : Int) (u : Unit) (N : Nat) (V' : World) : Prop where
  s : Sx B V' K g E W x N
  c : Chg (· = g) w V'
  df : V'.heap[D]? = some (.deferred (some []))
  q : Nq V' K y a k d V
section
variable {B : Nat} {w V' V2 : World} {K : Nat → Prop} {g : Nat} {E : Ents} {W : List Ents} {D r y : Nat} {a : Option Addr} {k d x : Nat} {V : Int} {N : Nat}
theorem PfE.drew (h : PfE B w K g E W D r y a k d x V () N V') : PfE B w K g E W D r y a k d x V () N V'.drew := ⟨h.s.keep (Below.refl _ _).drew, h.c.trans (Chg.of (F := fun _ => False) (Below.refl _ _).drew) (fun _ _ h => h.elim), h.df, h.q.drew⟩
theorem PfE.cell {b : Option Addr} {n c : Nat} (h : PfE B w K g E W D r y a k d x V () N V') (hX : Blk V' r [.slice b n c] 32) (C : Chg (· = r) V' V2) (nk : ¬ K r) (hz : w.heap.size ≤ r ∨ r = g) : PfE B w K g E W D r y a k d x V () N V2 := by
  refine ⟨⟨h.s.sa.chg C (fun b e hb => nk ((show b = r from e) ▸ hb)) (fun b e cs kk => by have e' : b = r := e; subst e'; exact absurd (kk.eq hX).2 (by decide)), Nat.le_trans h.s.lo C.size, h.s.kb⟩, h.c.trans C (fun b hb e => by have e' : b = r := e; rcases hz with z1 | z1 <;> first | omega | exact e'.trans z1), ?_, h.q.cell C (nq_ne h.q hX (fun y h => by cases h))⟩
  refine (C.same D (lt_of_block h.df) (fun e => ?_)).trans h.df
  have e' : D = r := e
  have := h.df
  rw [e', hX.blk] at this
  cases this
theorem PfE.fin (h : PfE B w K g E W D r y a k d x V () N V') (hD : w.heap.size ≤ D) : Sx B (V'.putObj D (.deferred none)) K g E W x N ∧ Chg (· = g) w (V'.putObj D (.deferred none)) ∧ Nq (V'.putObj D (.deferred none)) K y a k d V := by
  have R := Rec.put (B := w.heap.size) h.df rfl hD (.deferred none)
  exact ⟨⟨saRcd h.s.sa R, Nat.le_trans h.s.lo R.size, h.s.kb⟩, chg_rcd h.c R (Nat.le_refl _), h.q.rcd R⟩
theorem ge_retM {n : Nat} {l : Fr} {fn : Func} {R : Ending → World → Prop} {w : World} {v : Value} (hK : w.heap[D]? = some (.deferred (some []))) (hr : ∀ a, Rd n [{ target := .collected D, args := #[] }] l a → (results fn a.tmps).run Tryz.prog (w.putObj D (.deferred none)) = .ok v (w.putObj D (.deferred none))) (hR : R (.returned v) (w.putObj D (.deferred none))) : GE n [{ target := .collected D, args := #[] }] (okM (bodyPostM Fence.wide 0 Tryz.prog fn R)) .ret l w := ⟨fun a r => by
  have hr' := hr a r
  obtain ⟨tmps, dfs⟩ := a
  have e : dfs = [{ target := .collected D, args := #[] }] := r.dfs
  subst e
  show bodyPostM Fence.wide 0 Tryz.prog fn R .ret _ _
  refine ⟨by simp, .inl ⟨_, _, rfl, run_takeDeferred hK, ?_⟩⟩
  exact ⟨_, hr', hR⟩⟩
theorem rsctM {n : Nat} {ds : List Deferred} {l : Fr} {P : Program} {w : World} {fn : Func} (j k : Nat) {T : TypeId} {g : Nat} {u v : Value} (h : fn.results = #[.cell j T, .tmp k]) (hu : lk l j = some (.pointer (some ⟨g, 0, none⟩))) (hv : lk l k = some v) (hl : (loadVar T ⟨g, 0, none⟩).run P w = .ok u w) (a : Act) (r : Rd n ds l a) : (results fn a.tmps).run P w = .ok (.tuple #[u, v]) w := by
  have h1 := r.gD hu
  have h2 := r.gD hv
  simp at h1 h2
  simp [results, h, h1, h2, asAddr, hl]
end
/-- what Claim leaves: the store is only asked -/
structure ClmE (B : Nat) (w : World) (K : Nat → Prop) (g : Nat) (E : Ents) (W : List Ents) (n N c : Nat) (V : Int) (e : Ending) (w' : World) : Prop where
  ex : ∃ a k d z, e = .returned (.tuple #[.agg #[.slice a k d], .int .i64 (c : Int)]) ∧ Sx B w' K g E W (n + 3 + 2 * c) N ∧ Chg (· = g) w w' ∧ Nq w' K z a k d V ∧ k ≤ 3000000000 ∧ (k = 0 ∨ w.heap.size ≤ z)
def clV (E : Ents) (id fr la x : Int) : Int := (clSt E id fr la x (cutsL E id fr la).length).1 + (clSt E id fr la x (cutsL E id fr la).length).2.1 * subV (hX (got E (Ky.mk 7 id la)) 0) (clSt E id fr la x (cutsL E id fr la).length).2.2 / U36
theorem rd_en {n : Nat} {vs : List Value} {a : Act} (ha : a = ⟨vs.toArray ++ Array.replicate (n - vs.length) undef, []⟩) (hs : Nat.ble vs.length n = true) : Rd n [] (en 0 vs) a := by
  subst ha
  have hs := Nat.le_of_ble_eq_true hs
  refine ⟨?_, rfl, fun k v hk => ?_⟩
  · simp
    omega
  · obtain ⟨_, h2⟩ := lk_en vs 0 k v hk
    rw [Nat.sub_zero] at h2
    have hlt := (List.getElem?_eq_some_iff.1 h2).1
    simp only
    rw [Array.getElem?_append_left (by simpa using hlt)]
    simpa using h2
theorem fr_open {n : Nat} {l : Fr} {a : Act} (r : Rd n [] l a) : ∃ x : Nat → Value, a = ⟨((List.range n).map fun k => (lk l k).getD (x k)).toArray, []⟩ := by
  refine ⟨fun k => a.tmps.getD k undef, ?_⟩
  obtain ⟨tm, df⟩ := a
  obtain ⟨h1, h2, h3⟩ := r
  simp only at h1 h2 h3
  subst h2
  congr 1
  apply Array.ext
  · simp [h1]
  · intro i hi _
    simp only [List.getElem_toArray, List.getElem_map, List.getElem_range]
    cases e : lk l i with
    | none => simp [hi]
    | some v =>
      have := h3 i v e
      rw [Array.getElem?_eq_getElem hi] at this
      simpa using this
theorem claim_any {B : Nat} {w : World} {K : Nat → Prop} {g : Nat} {E : Ents} {W : List Ents} {n N : Nat} {rt tk un pe id dp : Int} {jl bo : Bool} {a0 : Option Addr} {n0 c0 z0 : Nat} {x0 : Int} {a1 : Option Addr} {n1 c1 z1 : Nat} {x1 : Int} {a2 : Option Addr} {n2 c2 z2 : Nat} {x2 : Int} {a3 : Option Addr} {n3 c3 z3 : Nat} {x3 : Int} {a4 : Option Addr} {n4 c4 z4 : Nat} {x4 : Int} {a5 : Option Addr} {n5 c5 z5 : Nat} {x5 : Int} (h : Sx B w K g E W n N) (hid : 0 ≤ id ∧ id < 18446744073709551616) (Q5 : Nq w K z5 a5 n5 c5 x5) (m5 : n5 ≤ 1000000) (hRk : ∀ x ∈ cutsE E id dp ((pe - 1) % 18446744073709551616), Ky.frm (8 : Nat) = Ky.fIn x.1) (hn2 : n ≤ 1000000000000000000) (hcl : (cutsL E id dp ((pe - 1) % 18446744073709551616)).length ≤ 1000) (hn : n + 3000 ≤ 4000000000000000000) (hN : N + 3000 ≤ 100000000) : Calls Tryz.prog 14 #[pg g, .int .u64 id, .agg #[.int .u64 rt, .int .u64 tk, .slice a0 n0 c0, .bool jl, .int .u64 un, .bool bo, .int .u64 pe, .slice a1 n1 c1, .slice a2 n2 c2, .slice a3 n3 c3], .agg #[.slice a4 n4 c4, .int .u64 dp, .slice a5 n5 c5]] w (ClmE B w K g E W n N (cutsL E id dp ((pe - 1) % 18446744073709551616)).length (clV E id dp ((pe - 1) % 18446744073709551616) x5)) := by
  have A := rg_of (X := (· = g)) h rfl
  have U := (ur_of A).add (s := 0) (fun _ h => (List.not_mem_nil h).elim) Q5 (.inr (Nat.zero_le _))
  clear A
  refine (callsIn_wide (n := 0)).1 ?_
  refine callsIn_of_wp_marks Tryz.func14 rfl trivial ?_ rfl
  refine wpIn_wide.2 (weakM (GC.out (n := 50) (ds := []) (l := en 0 [pg g, .int .u64 id, .agg #[.int .u64 rt, .int .u64 tk, .slice a0 n0 c0, .bool jl, .int .u64 un, .bool bo, .int .u64 pe, .slice a1 n1 c1, .slice a2 n2 c2, .slice a3 n3 c3], .agg #[.slice a4 n4 c4, .int .u64 dp, .slice a5 n5 c5]]) ?_ _ (rd_en (by rfl) (by kernel_rfl))))
  refine gc_seq ?_
  refine gc_reg ?_
  refine ta 4 [pg g] 37 (pg) ?_
  intro v1 g2 Xg2 hg2 B
  replace U := U.new Xg2 hg2 B
  clear Xg2 hg2 B
  refine ta 5 [.int .u64 id] 22 (pg) ?_
  intro v3 g4 Xg4 hg4 B
  replace U := U.new Xg4 hg4 B
  clear Xg4 hg4 B
  refine ta 6 [.int .u64 rt, .int .u64 tk, .slice a0 n0 c0, .bool jl, .int .u64 un, .bool bo, .int .u64 pe, .slice a1 n1 c1, .slice a2 n2 c2, .slice a3 n3 c3] 39 (pg) ?_
  intro v5 g6 Xg6 hg6 B
  replace U := U.new Xg6 hg6 B
  clear Xg6 hg6 B
  refine ta 7 [.slice a4 n4 c4, .int .u64 dp, .slice a5 n5 c5] 53 (pg) ?_
  intro v7 g8 Xg8 hg8 B
  replace U := U.new Xg8 hg8 B
  clear Xg8 hg8 B
  refine ta 8 [.slice none 0 0] 32 (pg) ?_
  intro v9 g10 Xg10 hg10 B
  replace U := U.new Xg10 hg10 B
  clear Xg10 hg10 B
  refine t 9 (.int .i64 0) ?_
  refine gl_nil ?_
  refine ge_then ?_
  
  refine gc_join (fun (s : F1s) => [(4, pg g2), (5, pg g4), (7, pg g8), (8, pg g10), (9, .int .i64 0), (10, pg s.bk), (11, pg s.bf), (12, .int .u64 ((pe - 1) % 18446744073709551616))]) (fun s V => F1 B w V K g E W n N a5 n5 c5 z5 x5 (hX (got E (Ky.mk 7 id dp)) 0) g10 s ∧ (Blk V g2 [pg g] 37 ∧ ¬ K g2 ∧ (w.heap.size ≤ g2 ∨ (fun b => b = g) g2)) ∧ (Blk V g4 [.int .u64 id] 22 ∧ ¬ K g4 ∧ (w.heap.size ≤ g4 ∨ (fun b => b = g) g4)) ∧ (Blk V g6 [.int .u64 rt, .int .u64 tk, .slice a0 n0 c0, .bool jl, .int .u64 un, .bool bo, .int .u64 pe, .slice a1 n1 c1, .slice a2 n2 c2, .slice a3 n3 c3] 39 ∧ ¬ K g6 ∧ (w.heap.size ≤ g6 ∨ (fun b => b = g) g6)) ∧ (Blk V g8 [.slice a4 n4 c4, .int .u64 dp, .slice a5 n5 c5] 53 ∧ ¬ K g8 ∧ (w.heap.size ≤ g8 ∨ (fun b => b = g) g8)) ∧ (Blk V g10 [.slice none 0 0] 32 ∧ ¬ K g10 ∧ (w.heap.size ≤ g10 ∨ (fun b => b = g) g10))) ?_ ?_
  · replace U := U.drew
    refine gc_draw (fun w' => Blk w' g8 [.slice a4 n4 c4, .int .u64 dp, .slice a5 n5 c5] 53 ∧ Blk w' g2 [pg g] 37 ∧ Blk w' g4 [.int .u64 id] 22 ∧ Blk w' g6 [.int .u64 rt, .int .u64 tk, .slice a0 n0 c0, .bool jl, .int .u64 un, .bool bo, .int .u64 pe, .slice a1 n1 c1, .slice a2 n2 c2, .slice a3 n3 c3] 39) (fun _ => false) ⟨(U.bk 1 rfl), (U.bk 4 rfl), (U.bk 3 rfl), (U.bk 2 rfl)⟩ ?_
    refine z 0 18 (pq g8 2) ?_
    refine zlr 1 19 [.slice a5 n5 c5] (fun _ h => h.1) 2 ?_
    refine zl 2 20 (pg g) (fun _ h => h.2.1) 0 ?_
    refine zl 3 21 (.int .u64 id) (fun _ h => h.2.2.1) 0 ?_
    refine z 4 22 (pq g8 1) ?_
    refine zl 5 23 (.int .u64 dp) (fun _ h => h.1) 1 ?_
    refine z 7 25 (pq g6 6) ?_
    refine zl 8 26 (.int .u64 pe) (fun _ h => h.2.2.2) 6 ?_
    refine zq 9 27 (.int .u64 (IntKind.u64.wrap (pe - 1))) (.int .u64 ((pe - 1) % 18446744073709551616)) (congrArg (Value.int .u64) (IntKind.wrap_u64 _)) ?_
    refine gz_ready [6, 10, 11] ?_
    refine ga_call 6 (some 24) 35 #[pg g, .int .u64 id, .int .u64 dp] (ratioG U.rg.sx hid (by omega) (by omega)) ?_ ?_
    · rintro _ v12 ⟨ar11, nr11, cr11, rfl, zr11, S, C, Q, mr11, h⟩
      have L := U.lt
      replace U := (U.ask S C).add L Q h
      clear L S C Q h
      refine ⟨_, rfl, ⟨(U.bk 1 rfl), (U.bk 4 rfl), (U.bk 3 rfl), (U.bk 2 rfl)⟩, ?_⟩
      refine gz_ready [10, 11] ?_
      refine zaa 10 10 [.slice none 0 0] 32 (pg) ?_ ?_
      · intro v13 g14 Xg14 hg14 B
        replace U := U.new Xg14 hg14 B
        clear Xg14 hg14 B
        refine ⟨⟨(U.bk 2 rfl), (U.bk 5 rfl), (U.bk 4 rfl), (U.bk 3 rfl)⟩, ?_⟩
        refine za 11 11 [.slice none 0 0] 32 (pg) ?_
        intro v15 g16 Xg16 hg16 B
        replace U := U.new Xg16 hg16 B
        clear Xg16 hg16 B
        refine ⟨⟨(U.bk 3 rfl), (U.bk 6 rfl), (U.bk 5 rfl), (U.bk 4 rfl)⟩, ?_⟩
        refine zs 12 (U.bk 1 rfl) 0 (.agg #[.slice a5 n5 c5]) [.slice a5 n5 c5] [.slice a5 n5 c5] ?_
        intro v17 Y C
        replace U := U.put 1 rfl C Y (by decide)
        clear Y C
        refine ⟨⟨(U.bk 3 rfl), (U.bk 6 rfl), (U.bk 5 rfl), (U.bk 4 rfl)⟩, ?_⟩
        refine zs 13 (U.bk 0 rfl) 0 (.agg #[.slice ar11 nr11 cr11]) [.slice ar11 nr11 cr11] [.slice ar11 nr11 cr11] ?_
        intro v18 Y C
        replace U := U.put 0 rfl C Y (by decide)
        clear Y C
        refine ⟨⟨(U.bk 3 rfl), (U.bk 6 rfl), (U.bk 5 rfl), (U.bk 4 rfl)⟩, ?_⟩
        refine z 14 12 (.int .u64 ((pe - 1) % 18446744073709551616)) ?_
        refine gz_done ?_
        exact ge_join (⟨g14, g16, ar11, nr11, cr11, zr11⟩ : F1s) ⟨⟨U.rg, U.bk 1 rfl, U.bk 0 rfl, U.nk 1 rfl, U.nk 0 rfl, (U.dd 0 1 rfl rfl (by decide)).symm, U.nq 1 rfl, U.nq 0 rfl, by omega, U.dd 1 2 rfl rfl (by decide), U.dd 0 2 rfl rfl (by decide), U.zz 1 rfl, U.zz 0 rfl⟩, ⟨U.bk 6 rfl, U.nk 6 rfl, U.zz 6 rfl⟩, ⟨U.bk 5 rfl, U.nk 5 rfl, U.zz 5 rfl⟩, ⟨U.bk 4 rfl, U.nk 4 rfl, U.zz 4 rfl⟩, ⟨U.bk 3 rfl, U.nk 3 rfl, U.zz 3 rfl⟩, ⟨U.bk 2 rfl, U.nk 2 rfl, U.zz 2 rfl⟩⟩ (by kernel_rfl)
      refine zaa 11 11 [.slice none 0 0] 32 (pg) ?_ ?_
      · intro v19 g20 Xg20 hg20 B
        replace U := U.new Xg20 hg20 B
        clear Xg20 hg20 B
        refine ⟨⟨(U.bk 2 rfl), (U.bk 5 rfl), (U.bk 4 rfl), (U.bk 3 rfl)⟩, ?_⟩
        refine za 10 10 [.slice none 0 0] 32 (pg) ?_
        intro v21 g22 Xg22 hg22 B
        replace U := U.new Xg22 hg22 B
        clear Xg22 hg22 B
        refine ⟨⟨(U.bk 3 rfl), (U.bk 6 rfl), (U.bk 5 rfl), (U.bk 4 rfl)⟩, ?_⟩
        refine zs 12 (U.bk 0 rfl) 0 (.agg #[.slice a5 n5 c5]) [.slice a5 n5 c5] [.slice a5 n5 c5] ?_
        intro v23 Y C
        replace U := U.put 0 rfl C Y (by decide)
        clear Y C
        refine ⟨⟨(U.bk 3 rfl), (U.bk 6 rfl), (U.bk 5 rfl), (U.bk 4 rfl)⟩, ?_⟩
        refine zs 13 (U.bk 1 rfl) 0 (.agg #[.slice ar11 nr11 cr11]) [.slice ar11 nr11 cr11] [.slice ar11 nr11 cr11] ?_
        intro v24 Y C
        replace U := U.put 1 rfl C Y (by decide)
        clear Y C
        refine ⟨⟨(U.bk 3 rfl), (U.bk 6 rfl), (U.bk 5 rfl), (U.bk 4 rfl)⟩, ?_⟩
        refine z 14 12 (.int .u64 ((pe - 1) % 18446744073709551616)) ?_
        refine gz_done ?_
        exact ge_join (⟨g22, g20, ar11, nr11, cr11, zr11⟩ : F1s) ⟨⟨U.rg, U.bk 0 rfl, U.bk 1 rfl, U.nk 0 rfl, U.nk 1 rfl, U.dd 0 1 rfl rfl (by decide), U.nq 1 rfl, U.nq 0 rfl, by omega, U.dd 0 2 rfl rfl (by decide), U.dd 1 2 rfl rfl (by decide), U.zz 0 rfl, U.zz 1 rfl⟩, ⟨U.bk 6 rfl, U.nk 6 rfl, U.zz 6 rfl⟩, ⟨U.bk 5 rfl, U.nk 5 rfl, U.zz 5 rfl⟩, ⟨U.bk 4 rfl, U.nk 4 rfl, U.zz 4 rfl⟩, ⟨U.bk 3 rfl, U.nk 3 rfl, U.zz 3 rfl⟩, ⟨U.bk 2 rfl, U.nk 2 rfl, U.zz 2 rfl⟩⟩ (by kernel_rfl)
      exact ga_nil
    refine zaa 10 10 [.slice none 0 0] 32 (pg) ?_ ?_
    · intro v25 g26 Xg26 hg26 B
      replace U := U.new Xg26 hg26 B
      clear Xg26 hg26 B
      refine ⟨⟨(U.bk 2 rfl), (U.bk 5 rfl), (U.bk 4 rfl), (U.bk 3 rfl)⟩, ?_⟩
      refine gz_ready [6, 11] ?_
      refine ga_call 6 (some 24) 35 #[pg g, .int .u64 id, .int .u64 dp] (ratioG U.rg.sx hid (by omega) (by omega)) ?_ ?_
      · rintro _ v28 ⟨ar27, nr27, cr27, rfl, zr27, S, C, Q, mr27, h⟩
        have L := U.lt
        replace U := (U.ask S C).add L Q h
        clear L S C Q h
        refine ⟨_, rfl, ⟨(U.bk 2 rfl), (U.bk 5 rfl), (U.bk 4 rfl), (U.bk 3 rfl)⟩, ?_⟩
        refine za 11 11 [.slice none 0 0] 32 (pg) ?_
        intro v29 g30 Xg30 hg30 B
        replace U := U.new Xg30 hg30 B
        clear Xg30 hg30 B
        refine ⟨⟨(U.bk 3 rfl), (U.bk 6 rfl), (U.bk 5 rfl), (U.bk 4 rfl)⟩, ?_⟩
        refine zs 12 (U.bk 1 rfl) 0 (.agg #[.slice a5 n5 c5]) [.slice a5 n5 c5] [.slice a5 n5 c5] ?_
        intro v31 Y C
        replace U := U.put 1 rfl C Y (by decide)
        clear Y C
        refine ⟨⟨(U.bk 3 rfl), (U.bk 6 rfl), (U.bk 5 rfl), (U.bk 4 rfl)⟩, ?_⟩
        refine zs 13 (U.bk 0 rfl) 0 (.agg #[.slice ar27 nr27 cr27]) [.slice ar27 nr27 cr27] [.slice ar27 nr27 cr27] ?_
        intro v32 Y C
        replace U := U.put 0 rfl C Y (by decide)
        clear Y C
        refine ⟨⟨(U.bk 3 rfl), (U.bk 6 rfl), (U.bk 5 rfl), (U.bk 4 rfl)⟩, ?_⟩
        refine z 14 12 (.int .u64 ((pe - 1) % 18446744073709551616)) ?_
        refine gz_done ?_
        exact ge_join (⟨g26, g30, ar27, nr27, cr27, zr27⟩ : F1s) ⟨⟨U.rg, U.bk 1 rfl, U.bk 0 rfl, U.nk 1 rfl, U.nk 0 rfl, (U.dd 0 1 rfl rfl (by decide)).symm, U.nq 1 rfl, U.nq 0 rfl, by omega, U.dd 1 2 rfl rfl (by decide), U.dd 0 2 rfl rfl (by decide), U.zz 1 rfl, U.zz 0 rfl⟩, ⟨U.bk 6 rfl, U.nk 6 rfl, U.zz 6 rfl⟩, ⟨U.bk 5 rfl, U.nk 5 rfl, U.zz 5 rfl⟩, ⟨U.bk 4 rfl, U.nk 4 rfl, U.zz 4 rfl⟩, ⟨U.bk 3 rfl, U.nk 3 rfl, U.zz 3 rfl⟩, ⟨U.bk 2 rfl, U.nk 2 rfl, U.zz 2 rfl⟩⟩ (by kernel_rfl)
      refine zaa 11 11 [.slice none 0 0] 32 (pg) ?_ ?_
      · intro v33 g34 Xg34 hg34 B
        replace U := U.new Xg34 hg34 B
        clear Xg34 hg34 B
        refine ⟨⟨(U.bk 3 rfl), (U.bk 6 rfl), (U.bk 5 rfl), (U.bk 4 rfl)⟩, ?_⟩
        refine zc 6 24 35 #[pg g, .int .u64 id, .int .u64 dp] (ratioG U.rg.sx hid (by omega) (by omega)) ?_
        rintro _ v36 ⟨ar35, nr35, cr35, rfl, zr35, S, C, Q, mr35, h⟩
        have L := U.lt
        replace U := (U.ask S C).add L Q h
        clear L S C Q h
        refine ⟨_, rfl, ⟨(U.bk 3 rfl), (U.bk 6 rfl), (U.bk 5 rfl), (U.bk 4 rfl)⟩, ?_⟩
        refine zs 12 (U.bk 1 rfl) 0 (.agg #[.slice a5 n5 c5]) [.slice a5 n5 c5] [.slice a5 n5 c5] ?_
        intro v37 Y C
        replace U := U.put 1 rfl C Y (by decide)
        clear Y C
        refine ⟨⟨(U.bk 3 rfl), (U.bk 6 rfl), (U.bk 5 rfl), (U.bk 4 rfl)⟩, ?_⟩
        refine zs 13 (U.bk 0 rfl) 0 (.agg #[.slice ar35 nr35 cr35]) [.slice ar35 nr35 cr35] [.slice ar35 nr35 cr35] ?_
        intro v38 Y C
        replace U := U.put 0 rfl C Y (by decide)
        clear Y C
        refine ⟨⟨(U.bk 3 rfl), (U.bk 6 rfl), (U.bk 5 rfl), (U.bk 4 rfl)⟩, ?_⟩
        refine z 14 12 (.int .u64 ((pe - 1) % 18446744073709551616)) ?_
        refine gz_done ?_
        exact ge_join (⟨g26, g34, ar35, nr35, cr35, zr35⟩ : F1s) ⟨⟨U.rg, U.bk 1 rfl, U.bk 0 rfl, U.nk 1 rfl, U.nk 0 rfl, (U.dd 0 1 rfl rfl (by decide)).symm, U.nq 1 rfl, U.nq 0 rfl, by omega, U.dd 1 2 rfl rfl (by decide), U.dd 0 2 rfl rfl (by decide), U.zz 1 rfl, U.zz 0 rfl⟩, ⟨U.bk 6 rfl, U.nk 6 rfl, U.zz 6 rfl⟩, ⟨U.bk 5 rfl, U.nk 5 rfl, U.zz 5 rfl⟩, ⟨U.bk 4 rfl, U.nk 4 rfl, U.zz 4 rfl⟩, ⟨U.bk 3 rfl, U.nk 3 rfl, U.zz 3 rfl⟩, ⟨U.bk 2 rfl, U.nk 2 rfl, U.zz 2 rfl⟩⟩ (by kernel_rfl)
      exact ga_nil
    refine zaa 11 11 [.slice none 0 0] 32 (pg) ?_ ?_
    · intro v39 g40 Xg40 hg40 B
      replace U := U.new Xg40 hg40 B
      clear Xg40 hg40 B
      refine ⟨⟨(U.bk 2 rfl), (U.bk 5 rfl), (U.bk 4 rfl), (U.bk 3 rfl)⟩, ?_⟩
      refine gz_ready [6, 10] ?_
      refine ga_call 6 (some 24) 35 #[pg g, .int .u64 id, .int .u64 dp] (ratioG U.rg.sx hid (by omega) (by omega)) ?_ ?_
      · rintro _ v42 ⟨ar41, nr41, cr41, rfl, zr41, S, C, Q, mr41, h⟩
        have L := U.lt
        replace U := (U.ask S C).add L Q h
        clear L S C Q h
        refine ⟨_, rfl, ⟨(U.bk 2 rfl), (U.bk 5 rfl), (U.bk 4 rfl), (U.bk 3 rfl)⟩, ?_⟩
        refine za 10 10 [.slice none 0 0] 32 (pg) ?_
        intro v43 g44 Xg44 hg44 B
        replace U := U.new Xg44 hg44 B
        clear Xg44 hg44 B
        refine ⟨⟨(U.bk 3 rfl), (U.bk 6 rfl), (U.bk 5 rfl), (U.bk 4 rfl)⟩, ?_⟩
        refine zs 12 (U.bk 0 rfl) 0 (.agg #[.slice a5 n5 c5]) [.slice a5 n5 c5] [.slice a5 n5 c5] ?_
        intro v45 Y C
        replace U := U.put 0 rfl C Y (by decide)
        clear Y C
        refine ⟨⟨(U.bk 3 rfl), (U.bk 6 rfl), (U.bk 5 rfl), (U.bk 4 rfl)⟩, ?_⟩
        refine zs 13 (U.bk 1 rfl) 0 (.agg #[.slice ar41 nr41 cr41]) [.slice ar41 nr41 cr41] [.slice ar41 nr41 cr41] ?_
        intro v46 Y C
        replace U := U.put 1 rfl C Y (by decide)
        clear Y C
        refine ⟨⟨(U.bk 3 rfl), (U.bk 6 rfl), (U.bk 5 rfl), (U.bk 4 rfl)⟩, ?_⟩
        refine z 14 12 (.int .u64 ((pe - 1) % 18446744073709551616)) ?_
        refine gz_done ?_
        exact ge_join (⟨g44, g40, ar41, nr41, cr41, zr41⟩ : F1s) ⟨⟨U.rg, U.bk 0 rfl, U.bk 1 rfl, U.nk 0 rfl, U.nk 1 rfl, U.dd 0 1 rfl rfl (by decide), U.nq 1 rfl, U.nq 0 rfl, by omega, U.dd 0 2 rfl rfl (by decide), U.dd 1 2 rfl rfl (by decide), U.zz 0 rfl, U.zz 1 rfl⟩, ⟨U.bk 6 rfl, U.nk 6 rfl, U.zz 6 rfl⟩, ⟨U.bk 5 rfl, U.nk 5 rfl, U.zz 5 rfl⟩, ⟨U.bk 4 rfl, U.nk 4 rfl, U.zz 4 rfl⟩, ⟨U.bk 3 rfl, U.nk 3 rfl, U.zz 3 rfl⟩, ⟨U.bk 2 rfl, U.nk 2 rfl, U.zz 2 rfl⟩⟩ (by kernel_rfl)
      refine zaa 10 10 [.slice none 0 0] 32 (pg) ?_ ?_
      · intro v47 g48 Xg48 hg48 B
        replace U := U.new Xg48 hg48 B
        clear Xg48 hg48 B
        refine ⟨⟨(U.bk 3 rfl), (U.bk 6 rfl), (U.bk 5 rfl), (U.bk 4 rfl)⟩, ?_⟩
        refine zc 6 24 35 #[pg g, .int .u64 id, .int .u64 dp] (ratioG U.rg.sx hid (by omega) (by omega)) ?_
        rintro _ v50 ⟨ar49, nr49, cr49, rfl, zr49, S, C, Q, mr49, h⟩
        have L := U.lt
        replace U := (U.ask S C).add L Q h
        clear L S C Q h
        refine ⟨_, rfl, ⟨(U.bk 3 rfl), (U.bk 6 rfl), (U.bk 5 rfl), (U.bk 4 rfl)⟩, ?_⟩
        refine zs 12 (U.bk 0 rfl) 0 (.agg #[.slice a5 n5 c5]) [.slice a5 n5 c5] [.slice a5 n5 c5] ?_
        intro v51 Y C
        replace U := U.put 0 rfl C Y (by decide)
        clear Y C
        refine ⟨⟨(U.bk 3 rfl), (U.bk 6 rfl), (U.bk 5 rfl), (U.bk 4 rfl)⟩, ?_⟩
        refine zs 13 (U.bk 1 rfl) 0 (.agg #[.slice ar49 nr49 cr49]) [.slice ar49 nr49 cr49] [.slice ar49 nr49 cr49] ?_
        intro v52 Y C
        replace U := U.put 1 rfl C Y (by decide)
        clear Y C
        refine ⟨⟨(U.bk 3 rfl), (U.bk 6 rfl), (U.bk 5 rfl), (U.bk 4 rfl)⟩, ?_⟩
        refine z 14 12 (.int .u64 ((pe - 1) % 18446744073709551616)) ?_
        refine gz_done ?_
        exact ge_join (⟨g48, g40, ar49, nr49, cr49, zr49⟩ : F1s) ⟨⟨U.rg, U.bk 0 rfl, U.bk 1 rfl, U.nk 0 rfl, U.nk 1 rfl, U.dd 0 1 rfl rfl (by decide), U.nq 1 rfl, U.nq 0 rfl, by omega, U.dd 0 2 rfl rfl (by decide), U.dd 1 2 rfl rfl (by decide), U.zz 0 rfl, U.zz 1 rfl⟩, ⟨U.bk 6 rfl, U.nk 6 rfl, U.zz 6 rfl⟩, ⟨U.bk 5 rfl, U.nk 5 rfl, U.zz 5 rfl⟩, ⟨U.bk 4 rfl, U.nk 4 rfl, U.zz 4 rfl⟩, ⟨U.bk 3 rfl, U.nk 3 rfl, U.zz 3 rfl⟩, ⟨U.bk 2 rfl, U.nk 2 rfl, U.zz 2 rfl⟩⟩ (by kernel_rfl)
      exact ga_nil
    exact ga_nil
  clear U Q5
  rintro ⟨bk, bf, aF, nF, cF, zF⟩ v53 ⟨⟨A, Xbk, Xbf, nXbk, nXbf, dbk_bf, Q5, QF, mF, dRk, dRf, zbk, zbf⟩, ⟨Xg2, nXg2, zg2⟩, ⟨Xg4, nXg4, zg4⟩, ⟨Xg6, nXg6, zg6⟩, ⟨Xg8, nXg8, zg8⟩, ⟨Xg10, nXg10, zg10⟩⟩
  simp only at A Xbk Xbf nXbk nXbf dbk_bf Q5 QF mF dRk dRf zbk zbf
  refine gc_seq ?_
  refine gc_reg ?_
  have lXg2 := Xg2.lt
  have lXg4 := Xg4.lt
  have lXg6 := Xg6.lt
  have lXg8 := Xg8.lt
  have lXg10 := Xg10.lt
  have lXbk := Xbk.lt
  have lXbf := Xbf.lt
  refine ta 13 [.slice none 0 0] 32 (pg) ?_
  intro v54 g55 Xg55 hg55 B
  have zg55 := Or.inl (b := (fun b => b = g) g55) (Nat.le_trans A.size hg55)
  have nXg55 := A.new hg55
  have eQ5g55 := ne1 Q5.lt hg55
  have eQFg55 := ne1 QF.lt hg55
  have dg55_g2 := ne4 Xg2.lt hg55
  have dg55_g4 := ne4 Xg4.lt hg55
  have dg55_g6 := ne4 Xg6.lt hg55
  have dg55_g8 := ne4 Xg8.lt hg55
  have dg55_g10 := ne4 Xg10.lt hg55
  have dg55_bk := ne4 Xbk.lt hg55
  have dg55_bf := ne4 Xbf.lt hg55
  replace A := A.keep B
  replace Q5 := Q5.keep B
  replace QF := QF.keep B
  replace Xg2 := Xg2.keep B
  replace Xg4 := Xg4.keep B
  replace Xg6 := Xg6.keep B
  replace Xg8 := Xg8.keep B
  replace Xg10 := Xg10.keep B
  replace Xbk := Xbk.keep B
  replace Xbf := Xbf.keep B
  clear B
  refine gl_nil ?_
  refine ge_then ?_
  refine gc_seq ?_
  refine gc_reg ?_
  refine t 28 (.func (.func 36) #[] #[pg g2, pg g4, pg g55, pg bk, pg bf]) ?_
  have lXg2 := Xg2.lt
  have lXg4 := Xg4.lt
  have lXg6 := Xg6.lt
  have lXg8 := Xg8.lt
  have lXg10 := Xg10.lt
  have lXbk := Xbk.lt
  have lXbf := Xbf.lt
  have lXg55 := Xg55.lt
  refine ta 14 [.nilFunc] 92 (pg) ?_
  intro v56 g57 Xg57 hg57 B
  have zg57 := Or.inl (b := (fun b => b = g) g57) (Nat.le_trans A.size hg57)
  have nXg57 := A.new hg57
  have eQ5g57 := ne1 Q5.lt hg57
  have eQFg57 := ne1 QF.lt hg57
  have dg57_g2 := ne4 Xg2.lt hg57
  have dg57_g4 := ne4 Xg4.lt hg57
  have dg57_g6 := ne4 Xg6.lt hg57
  have dg57_g8 := ne4 Xg8.lt hg57
  have dg57_g10 := ne4 Xg10.lt hg57
  have dg57_bk := ne4 Xbk.lt hg57
  have dg57_bf := ne4 Xbf.lt hg57
  have dg57_g55 := ne4 Xg55.lt hg57
  replace A := A.keep B
  replace Q5 := Q5.keep B
  replace QF := QF.keep B
  replace Xg2 := Xg2.keep B
  replace Xg4 := Xg4.keep B
  replace Xg6 := Xg6.keep B
  replace Xg8 := Xg8.keep B
  replace Xg10 := Xg10.keep B
  replace Xbk := Xbk.keep B
  replace Xbf := Xbf.keep B
  replace Xg55 := Xg55.keep B
  clear B
  refine ts Xg57 0 (.func (.func 36) #[] #[pg g2, pg g4, pg g55, pg bk, pg bf]) [.func (.func 36) #[] #[pg g2, pg g4, pg g55, pg bk, pg bf]] [.func (.func 36) #[] #[pg g2, pg g4, pg g55, pg bk, pg bf]] ?_
  intro v58 Y C
  replace A := Rg.cell A Xg57 C zg57 nXg57 (by decide)
  replace Q5 := Q5.cell C eQ5g57
  replace QF := QF.cell C eQFg57
  replace Xg2 := Xg2.chg C dg57_g2.symm
  replace Xg4 := Xg4.chg C dg57_g4.symm
  replace Xg6 := Xg6.chg C dg57_g6.symm
  replace Xg8 := Xg8.chg C dg57_g8.symm
  replace Xg10 := Xg10.chg C dg57_g10.symm
  replace Xbk := Xbk.chg C dg57_bk.symm
  replace Xbf := Xbf.chg C dg57_bf.symm
  replace Xg55 := Xg55.chg C dg57_g55.symm
  clear C Xg57
  have Xg57 := Y
  clear Y
  refine gl_nil ?_
  refine ge_then ?_
  refine gc_seq ?_
  refine gc_reg ?_
  have lXg2 := Xg2.lt
  have lXg4 := Xg4.lt
  have lXg6 := Xg6.lt
  have lXg8 := Xg8.lt
  have lXg10 := Xg10.lt
  have lXbk := Xbk.lt
  have lXbf := Xbf.lt
  have lXg55 := Xg55.lt
  have lXg57 := Xg57.lt
  refine ta 15 [.int .i64 0] 3 (pg) ?_
  intro v59 g60 Xg60 hg60 B
  have zg60 := Or.inl (b := (fun b => b = g) g60) (Nat.le_trans A.size hg60)
  have nXg60 := A.new hg60
  have eQ5g60 := ne1 Q5.lt hg60
  have eQFg60 := ne1 QF.lt hg60
  have dg60_g2 := ne4 Xg2.lt hg60
  have dg60_g4 := ne4 Xg4.lt hg60
  have dg60_g6 := ne4 Xg6.lt hg60
  have dg60_g8 := ne4 Xg8.lt hg60
  have dg60_g10 := ne4 Xg10.lt hg60
  have dg60_bk := ne4 Xbk.lt hg60
  have dg60_bf := ne4 Xbf.lt hg60
  have dg60_g55 := ne4 Xg55.lt hg60
  have dg60_g57 := ne4 Xg57.lt hg60
  replace A := A.keep B
  replace Q5 := Q5.keep B
  replace QF := QF.keep B
  replace Xg2 := Xg2.keep B
  replace Xg4 := Xg4.keep B
  replace Xg6 := Xg6.keep B
  replace Xg8 := Xg8.keep B
  replace Xg10 := Xg10.keep B
  replace Xbk := Xbk.keep B
  replace Xbf := Xbf.keep B
  replace Xg55 := Xg55.keep B
  replace Xg57 := Xg57.keep B
  clear B
  refine ts Xg60 0 (.int .i64 0) [.int .i64 0] [.int .i64 0] ?_
  intro v61 Y C
  replace A := Rg.cell A Xg60 C zg60 nXg60 (by decide)
  replace Q5 := Q5.cell C eQ5g60
  replace QF := QF.cell C eQFg60
  replace Xg2 := Xg2.chg C dg60_g2.symm
  replace Xg4 := Xg4.chg C dg60_g4.symm
  replace Xg6 := Xg6.chg C dg60_g6.symm
  replace Xg8 := Xg8.chg C dg60_g8.symm
  replace Xg10 := Xg10.chg C dg60_g10.symm
  replace Xbk := Xbk.chg C dg60_bk.symm
  replace Xbf := Xbf.chg C dg60_bf.symm
  replace Xg55 := Xg55.chg C dg60_g55.symm
  replace Xg57 := Xg57.chg C dg60_g57.symm
  clear C Xg60
  have Xg60 := Y
  clear Y
  refine gl_nil ?_
  refine ge_then ?_
  refine gc_seq ?_
  refine gc_seq ?_
  refine gc_reg ?_
  refine tl 29 (pg g) Xg2 0 ?_
  refine tl 30 (.int .u64 id) Xg4 0 ?_
  refine t 31 (pq g8 1) ?_
  refine tl 32 (.int .u64 dp) Xg8 1 ?_
  refine t 33 (.int .u64 ((pe - 1) % 18446744073709551616)) ?_
  refine tc 34 39 #[pg g, .int .u64 id, .int .u64 dp, .int .u64 ((pe - 1) % 18446744073709551616)] (cuts_mk) ?_
  rintro _ v62 ⟨rfl, Yc1, Yc2, Yc3, Yc4, B⟩
  refine ⟨_, rfl, ?_⟩
  skip
  replace A := A.keep B
  replace Q5 := Q5.keep B
  replace QF := QF.keep B
  replace Xg2 := Xg2.keep B
  replace Xg4 := Xg4.keep B
  replace Xg6 := Xg6.keep B
  replace Xg8 := Xg8.keep B
  replace Xg10 := Xg10.keep B
  replace Xbk := Xbk.keep B
  replace Xbf := Xbf.keep B
  replace Xg55 := Xg55.keep B
  replace Xg57 := Xg57.keep B
  replace Xg60 := Xg60.keep B
  clear B
  refine gl_nil ?_
  refine ge_then ?_
  refine gc_block ?_
  refine gc_fr [(8, pg g10), (9, .int .i64 0), (10, pg bk), (12, .int .u64 ((pe - 1) % 18446744073709551616)), (13, pg g55), (14, pg g57), (15, pg g60), (34, .func (.func 73) #[] #[.pointer (some ⟨v61.heap.size + 1, 0, none⟩), .pointer (some ⟨v61.heap.size + 1 + 1, 0, none⟩), .pointer (some ⟨v61.heap.size + 1 + 1 + 1, 0, none⟩), .pointer (some ⟨v61.heap.size, 0, none⟩)])] (by kernel_rfl) ?_
  refine ⟨fun a r => ?_⟩
  obtain ⟨x, ha⟩ := fr_open r
  replace ha := ha.trans (show _ = (⟨#[x 0, x 1, x 2, x 3, x 4, x 5, x 6, x 7, pg g10, .int .i64 0, pg bk, x 11, .int .u64 ((pe - 1) % 18446744073709551616), pg g55, pg g57, pg g60, x 16, x 17, x 18, x 19, x 20, x 21, x 22, x 23, x 24, x 25, x 26, x 27, x 28, x 29, x 30, x 31, x 32, x 33, .func (.func 73) #[] #[.pointer (some ⟨v61.heap.size + 1, 0, none⟩), .pointer (some ⟨v61.heap.size + 1 + 1, 0, none⟩), .pointer (some ⟨v61.heap.size + 1 + 1 + 1, 0, none⟩), .pointer (some ⟨v61.heap.size, 0, none⟩)], x 35, x 36, x 37, x 38, x 39, x 40, x 41, x 42, x 43, x 44, x 45, x 46, x 47, x 48, x 49], []⟩ : Act) from rfl)
  subst ha
  clear r
  have nX' : ∀ {b : Nat} {cs : List Value} {T : TypeId}, Blk v62 b cs T → T ≠ 85 → T ≠ 32 → T ≠ 3 → ¬ (b = g ∨ b = g55 ∨ b = bk ∨ b = bf ∨ b = g60) := fun k h1 h2 h3 h => by
    obtain ⟨cs', k'⟩ := A.sx.sa.kv
    rcases h with e | e | e | e | e
    · rw [e] at k; exact h1 (k.eq k').2
    · rw [e] at k; exact h2 (k.eq Xg55).2
    · rw [e] at k; exact h2 (k.eq Xbk).2
    · rw [e] at k; exact h2 (k.eq Xbf).2
    · rw [e] at k; exact h3 (k.eq Xg60).2
  have hXl : ∀ b, (b = g ∨ b = g55 ∨ b = bk ∨ b = bf ∨ b = g60) → b < v62.heap.size := fun b h => by
    rcases h with e | e | e | e | e <;> rw [e]
    · exact A.sx.sa.lt A.sx.sa.top
    · exact Xg55.lt
    · exact Xbk.lt
    · exact Xbf.lt
    · exact Xg60.lt
  have hX1 : ∀ b, (b = g ∨ b = g55 ∨ b = bk ∨ b = bf ∨ b = g60) → b = g ∨ ¬ K b := fun b h => by
    rcases h with e | e | e | e | e
    · exact .inl e
    · exact .inr (e ▸ nXg55)
    · exact .inr (e ▸ nXbk)
    · exact .inr (e ▸ nXbf)
    · exact .inr (e ▸ nXg60)
  have hXk : Hid (bk ≠ g) := hid3 (fun e => by obtain ⟨cs', k'⟩ := A.sx.sa.kv; rw [← e] at k'; exact absurd (Xbk.eq k').2 (by decide))
  have sN := nX' Xg2 (by decide) (by decide) (by decide)
  have iN := nX' Xg4 (by decide) (by decide) (by decide)
  have IT := cuts_itr (X := fun b => b = g ∨ b = g55 ∨ b = bk ∨ b = bf ∨ b = g60) (xs := fun i => n + 1 + 1 + 2 * i) A.sx.sa Yc1 Yc2 Yc3 Yc4 (nX' Yc1 (by decide) (by decide) (by decide)) (nX' Yc2 (by decide) (by decide) (by decide)) (nX' Yc3 (by decide) (by decide) (by decide)) (nX' Yc4 (by decide) (by decide) (by decide)) hX1 hXl hid (by omega) (by omega) (fun i hi => by show n + 1 + 1 + 2 * i ≤ _; omega) hRk
  have I0 : ClI B v62 g55 bk bf g60 K g E W N (n + 1) 0 n5 (clSt E id dp ((pe - 1) % 18446744073709551616) x5 0) v62 := ⟨Chg.refl _ _, A.sx, Xg60, ⟨none, 0, 0, 0, Xg55, nq_nil _ _, Nat.zero_le _⟩, ⟨a5, n5, c5, z5, Xbk, Q5, by omega⟩, aF, nF, cF, zF, Xbf, QF, mF⟩
  refine (wpIn_wide (n := 0)).1 ?_
  refine rf_outerDX IT (by rfl) (enters_of Tryz.func73 (by kernel_rfl) rfl) (fun i args n V V' h hc => h) (fun i args n V h => by obtain ⟨c, _, rfl⟩ := h; rfl)
    (fun V => ClI B v62 g55 bk bf g60 K g E W N (n + 1) 0 n5 (clSt E id dp ((pe - 1) % 18446744073709551616) x5 0) V)
    (fun i V => ClI B v62 g55 bk bf g60 K g E W N (n + 1 + 1 + 2 * i) i n5 (clSt E id dp ((pe - 1) % 18446744073709551616) x5 i) V)
    (fun i V => ClI B v62 g55 bk bf g60 K g E W N (n + 1 + 1 + 2 * i + 1) i n5 (clSt E id dp ((pe - 1) % 18446744073709551616) x5 i) V)
    (fun c i V => False)
    (fun A B hx hr => hx.rcd hr) (fun i A B hx hr => hx.rcd hr) (fun i A B hx hr => hx.rcd hr) (fun c i A B hx hr => hx) (hXl g (.inl rfl))
    (fun V hv => by have q := hv.sx.sa.cnt; exact ⟨q.1, q.2, hv.rd, hv.tick⟩)
    (fun i V hv => by have q := hv.sx.sa.cnt; exact ⟨q.1, q.2, hv.rd, fun _ => hv.tick⟩)
    I0 ?_ ?_ ?_
  · rintro l2 i args V Wv hl hlV hrec hiN hT hb ⟨c, hc, rfl⟩
    simp
    gi_wp2
    refine ⟨below_alloc _ _, ?_⟩
    intro V2 W2 hT2 hb2 hAr2 hoth hsz3 hV2 rl hrec2
    have I2 := hT2.rcd (Rec.of hb2)
    have zb := hb.size
    have zV := hT.chg.size
    have cB : Blk W2 Wv.heap.size [.int .u64 c.2.1, .int .u64 c.2.2] 97 := ⟨by rw [hoth _ (by omega)]; exact (blk_new Wv [.int .u64 c.2.1, .int .u64 c.2.2] 97).blk⟩
    obtain ⟨aR, nR, cR, zR, p1, p2, p3⟩ := I2.rew
    obtain ⟨aS, nS, cS, zS, q1, q2, q3⟩ := I2.stk
    obtain ⟨aG, nG, cG, zG, r1, r2, r3⟩ := I2.frm
    have hi : i < 1000 := Nat.lt_of_lt_of_le hiN hcl
    have fb := Xg57.chg I2.chg (nX' Xg57 (by decide) (by decide) (by decide))
    have sb := Xg2.chg I2.chg sN
    have ib := Xg4.chg I2.chg iN
    have tE := earn_any (p := c.1) I2.sx hid p2 (by omega) q2 (by omega) r2 (by omega) sb ib p1 q1 r1 nXg2 nXg4 nXg55 nXbk nXbf dg55_bk dg55_bf dbk_bf (fun e => sN (.inr (.inl e))) (fun e => sN (.inr (.inr (.inr (.inl e))))) (fun e => iN (.inr (.inl e))) (fun e => iN (.inr (.inr (.inr (.inl e))))) (nq_ne p2 p1 (fun y h => by cases h)) (nq_ne p2 r1 (fun y h => by cases h)) (nq_ne q2 p1 (fun y h => by cases h)) (nq_ne q2 r1 (fun y h => by cases h)) (nq_ne r2 p1 (fun y h => by cases h)) (nq_ne r2 r1 (fun y h => by cases h)) (by omega) (by omega)
    have rg := cutsL_rng A.sx.sa hc
    have hst := clSt_succ (x := x5) hc
    have fc := fb.cell (i := 0) rfl
    have zS1 := (nq_ne q2 p1 (fun y h => by cases h))
    have zS2 := (nq_ne q2 r1 (fun y h => by cases h))
    have zS3 : nS = 0 ∨ zS ≠ g := q2.out.imp_right (fun k e => k (e ▸ A.sx.sa.top))
    have cW : ∀ b, (b = g ∨ b = g55 ∨ b = bf) → b ≠ Wv.heap.size := fun b h e => by
      have := hXl b (h.elim .inl (fun h => h.elim (fun h => .inr (.inl h)) (fun h => .inr (.inr (.inr (.inl h))))))
      omega
    have HI2 := hid3 I2
    have HcB := hid3 cB
    have Hq1 := hid3 q1
    have Hq2 := hid3 q2
    clear hT hb hT2 hb2 hAr2 hoth I2 cB p1 p2 q1 q2 r1 r2 r3 sb ib fb hrec IT I0 hX1 hc
    obtain ⟨cp, cb, ca⟩ := c
    simp only at tE rg hst HcB ⊢
    gi_wp2_with first
      | (refine ⟨trivial, rfl, ?_⟩; gi_at_call 36; refine (CallsIn.inRound l2 (callsIn_wide.2 tE)).mono ?_; rintro e' w3 ⟨b1, k1, d1, y1, b2, k2, d2, y2, rfl, S3, C3, R3, N1, m1, f1, F3, N2, m2, f2⟩; clear tE fc; have bk3 := Hq1.out.chg C3 (fun h => h.elim (fun e => (hXk.out e)) (fun h => h.elim (fun e => dg55_bk e.symm) dbk_bf)); have cb3 := HcB.out.chg C3 (fun h => cW _ h rfl); have tB := behind_any (w := w3) (Hq2.out.to w3 (fun hn => C3.same zS (Hq2.out.lt.resolve_left hn) (fun h => h.elim (zS3.resolve_left hn) (fun h => h.elim (zS1.resolve_left hn) (zS2.resolve_left hn))))).a (by omega) rg.1 rg.2; have kc := bk3.cell (i := 0) rfl; have c0 := cb3.cell (i := 0) rfl; have c1' := cb3.cell (i := 1) rfl)
      | (refine ⟨trivial, rfl, ?_⟩; gi_at_call 40; refine (CallsIn.inRound l2 (callsIn_wide.2 tB)).mono ?_; rintro e' w4 ⟨a4', k4, d4, z4', rfl, M4, h4, m4, B4⟩; clear tB kc c0 c1'; obtain ⟨⟨x1', x2', x3', x4'⟩, hI, hK⟩ := ClI.go HI2.out hXl dg55_bk dbk_bf nXbk nXg60 S3 C3 R3 N1 (by omega) F3 N2 m2 M4 h4 (by omega) B4; have kc := (bk3.keep B4).cell (i := 0) rfl; have HI3 := hid3 hI; have HK3 := hid3 hK; clear hI hK bk3 cb3 S3 C3 R3 N1 F3 N2 M4 B4)
    refine ⟨HK3.out, ?_⟩
    show ClI B v62 g55 bk bf g60 K g E W N (n + 1 + 1 + 2 * (i + 1)) (i + 1) n5 (clSt E id dp ((pe - 1) % 18446744073709551616) x5 (i + 1)) _
    rw [hst, show n + 1 + 1 + 2 * (i + 1) = n + 1 + 1 + 2 * i + 1 + 1 by omega]
    exact HI3.out
  · rintro D' W' hD hK hT
    obtain ⟨aR, nR, cR, zR, p1, p2, p3⟩ := hT.rew
    obtain ⟨aS, nS, cS, zS, q1, q2, q3⟩ := hT.stk
    obtain ⟨aG, nG, cG, zG, r1, r2, r3⟩ := hT.frm
    have fb := Xg57.chg hT.chg (nX' Xg57 (by decide) (by decide) (by decide))
    have sb := Xg2.chg hT.chg sN
    have ib := Xg4.chg hT.chg iN
    have hrg : g10 ≠ g := fun e => nXg10 (e ▸ A.sx.sa.top)
    have hrc : g10 ≠ g60 := dg60_g10.symm
    have rb := Xg10.chg hT.chg (fun h => h.elim hrg (fun h => h.elim dg55_g10.symm (fun h => h.elim dRk.symm (fun h => h.elim dRf.symm hrc))))
    have hcr : g60 ≠ g55 := dg60_g55
    have hcf : g60 ≠ bf := dg60_bf
    have hcg : g60 ≠ g := fun e => nXg60 (e ▸ A.sx.sa.top)
    have tE := earn_any (p := ((pe - 1) % 18446744073709551616)) hT.sx hid p2 (by omega) q2 (by omega) r2 (by omega) sb ib p1 q1 r1 nXg2 nXg4 nXg55 nXbk nXbf dg55_bk dg55_bf dbk_bf (fun e => sN (.inr (.inl e))) (fun e => sN (.inr (.inr (.inr (.inl e))))) (fun e => iN (.inr (.inl e))) (fun e => iN (.inr (.inr (.inr (.inl e))))) (nq_ne p2 p1 (fun y h => by cases h)) (nq_ne p2 r1 (fun y h => by cases h)) (nq_ne q2 p1 (fun y h => by cases h)) (nq_ne q2 r1 (fun y h => by cases h)) (nq_ne r2 p1 (fun y h => by cases h)) (nq_ne r2 r1 (fun y h => by cases h)) (by omega) (by omega)
    have CC := A.cg.trans hT.chg (fun b hb h => by
      rcases h with e | e | e | e | e
      · exact e
      · rcases zg55 with z1 | z1 <;> first | omega | exact e.trans z1
      · rcases zbk with z1 | z1 <;> first | omega | exact e.trans z1
      · rcases zbf with z1 | z1 <;> first | omega | exact e.trans z1
      · rcases zg60 with z1 | z1 <;> first | omega | exact e.trans z1)
    have cT := hT.cnt
    have hDl : D' < W'.heap.size := lt_of_block hK
    refine GE.out (n := 50) (ds := [{ target := .collected D', args := #[] }]) (l := [(8, pg g10), (9, .int .i64 0), (12, .int .u64 ((pe - 1) % 18446744073709551616)), (13, pg g55), (14, pg g57), (15, pg g60)]) ?_ _ ⟨rfl, rfl, fun q u hq => ?_⟩
    · refine ge_bn ?_
      refine ge_then ?_
      refine gc_seq ?_
      refine gc_reg ?_
      refine tl 45 (.func (.func 36) #[] #[pg g2, pg g4, pg g55, pg bk, pg bf]) fb 0 ?_
      refine t 46 (.int .u64 ((pe - 1) % 18446744073709551616)) ?_
      refine tc 47 36 #[.int .u64 ((pe - 1) % 18446744073709551616), pg g2, pg g4, pg g55, pg bk, pg bf] (tE) ?_
      rintro _ v63 ⟨b1, k1, d1, y1, b2, k2, d2, y2, rfl, S3, C3, R3, N1, m1, f1, F3, N2, m2, f2⟩
      refine ⟨_, rfl, ?_⟩
      have Xc3 := cT.chg C3 (fun h => h.elim hcg (fun h => h.elim hcr hcf))
      have Xr3 := rb.chg C3 (fun h => h.elim hrg (fun h => h.elim dg55_g10.symm dRf.symm))
      have hK3 := (C3.same D' hDl (fun h => by have := hXl D' (h.elim .inl (fun h => h.elim (fun h => .inr (.inl h)) (fun h => .inr (.inr (.inr (.inl h)))))); omega)).trans hK
      have CC3 := CC.trans C3 (fun b hb h => by
        rcases h with e | e | e
        · exact e
        · rcases zg55 with z1 | z1 <;> first | omega | exact e.trans z1
        · rcases zbf with z1 | z1 <;> first | omega | exact e.trans z1)
      have eN1g10 := nq_ne N1 Xr3 (fun y h => by cases h)
      have PF : PfE B w K g E W D' g10 y1 b1 k1 d1 (n + 1 + 1 + 2 * (cutsL E id dp ((pe - 1) % 18446744073709551616)).length + 1) (_) () N _ := ⟨S3, CC3, hK3, N1⟩
      have f1w : k1 = 0 ∨ w.heap.size ≤ y1 := ne3 f1 CC.size
      clear tE cT rb fb CC
      refine gl_nil ?_
      refine ge_then ?_
      refine gc_seq ?_
      replace R3 := R3.drew
      replace Xc3 := Xc3.drew
      replace Xr3 := Xr3.drew
      replace PF := PF.drew
      refine gc_draw (fun w' => Blk w' g55 [.slice b1 k1 d1] 32 ∧ Blk w' g60 [.int .i64 (((cutsL E id dp ((pe - 1) % 18446744073709551616)).length : Nat) : Int)] 3) (fun _ => false) ⟨R3, Xc3⟩ ?_
      refine zlr 0 48 [.slice b1 k1 d1] (fun _ h => h.1) 0 ?_
      refine zl 1 49 (.int .i64 (((cutsL E id dp ((pe - 1) % 18446744073709551616)).length : Nat) : Int)) (fun _ h => h.2) 0 ?_
      refine zs 2 Xr3 0 (.agg #[.slice b1 k1 d1]) [.slice b1 k1 d1] [.slice b1 k1 d1] ?_
      intro v64 Y C
      replace R3 := R3.chg C dg55_g10
      replace Xc3 := Xc3.chg C dg60_g10
      replace PF := PF.cell Xr3 C nXg10 zg10
      clear C Xr3
      have Xr3 := Y
      clear Y
      refine ⟨⟨R3, Xc3⟩, ?_⟩
      refine z 3 9 (.int .i64 (((cutsL E id dp ((pe - 1) % 18446744073709551616)).length : Nat) : Int)) ?_
      refine gz_done ?_
      refine ge_then ?_
      refine gc_ret ?_
      obtain ⟨u1, u2, u3⟩ := PF.fin (Nat.le_trans A.cg.size hD)
      have Xr4 := rec_cel Xr3 (Rec.put (B := w.heap.size) PF.df rfl (Nat.le_trans A.cg.size hD) (.deferred none))
      rw [show n + 1 + 1 + 2 * (cutsL E id dp ((pe - 1) % 18446744073709551616)).length + 1 = n + 3 + 2 * (cutsL E id dp ((pe - 1) % 18446744073709551616)).length by omega] at u1
      exact ge_retM PF.df (rsctM 8 9 (T := 32) (by kernel_rfl) (by kernel_rfl) (by kernel_rfl) (lr Xr4 0)) ⟨_, _, _, _, rfl, u1, u2, u3, by omega, f1w⟩
    · have hm := lk_mem hq
      simp at hm
      rcases hm with ⟨rfl, rfl⟩ | ⟨rfl, rfl⟩ | ⟨rfl, rfl⟩ | ⟨rfl, rfl⟩ | ⟨rfl, rfl⟩ | ⟨rfl, rfl⟩ <;> rfl
  · rintro D' c i W' hD hK hi h
    exact h.elim
end Fo
end Go.Proofs.YtjejmkcjflhoiaaGreatDoor
