/- Several texts, joined: FoI, FoH. -/
import Derived.Test.YtjejmkcjflhoiaaGreatDoorJas
import Derived.Test.YtjejmkcjflhoiaaGreatDoorJar
namespace Go.Proofs.YtjejmkcjflhoiaaGreatDoor
namespace Kv
open Go.RowKit Go.Lib Pg
attribute [local go_sem] Oper.semAt_some
def ItrX (Tp : TypeId → Prop) (g x0 : Nat) (xs : Nat → Nat) (gf : Nat) (lb : Array Value) (N : Nat) (Ar : Nat → Array Value → Nat → World → Prop) (Rd : World → Prop) : Prop :=
  ∀ (l : Nat) (J0 : World → Prop) (J Jt Jx : Nat → World → Prop) (W : World), St W.heap.size J0 → (∀ i, St W.heap.size (J i)) → (∀ i, St W.heap.size (Jt i)) → (∀ i, St W.heap.size (Jx i)) → g < W.heap.size →
    (∀ V, J0 V → V.cell? ⟨g, 2, none⟩ = some (.int .i64 x0) ∧ V.frozen? ⟨g, 2, none⟩ = false ∧ Rd V ∧ J 0 (tick g V x0)) →
    (∀ i V, J i V → V.cell? ⟨g, 2, none⟩ = some (.int .i64 ((xs i : Nat) : Int)) ∧ V.frozen? ⟨g, 2, none⟩ = false ∧ Rd V ∧ (i < N → Jt i (tick g V (xs i)))) →
    (∀ i args V V', i < N → Jt i V → W.heap.size ≤ V.heap.size → Below V.heap.size V V' → Ar i args V.heap.size V' → YieldAt Fence.wide 0 Tryz.prog l args V' fun e V'' => KeepsT Tp W.heap.size V' V'' ∧ ((e = .returned (.bool true) ∧ J (i + 1) V'') ∨ (e = .returned (.bool false) ∧ Jx (i + 1) V''))) →
    J0 W →
    Calls Tryz.prog gf (#[.func (.yield l) #[] #[]] ++ lb) W fun e W' => (∃ v, e = .returned v) ∧ W.heap.size ≤ W'.heap.size ∧ (J N W' ∨ ∃ i, i < N ∧ Jx (i + 1) W')
set_option maxHeartbeats 8000000 in
set_option maxRecDepth 100000 in
theorem countedX {Tp : TypeId → Prop} {X : Nat → Prop} {W1 : World} {g bs1 bs2 bw x0 : Nat} {xs : Nat → Nat} {E : List En} (IT : Itr Tp 114 #[.pointer (some ⟨bw, 0, none⟩)] E.length (ArC E) (fun V => Chg X W1 V)) (hT : ¬ Tp 172) (hx : x0 ≤ 3000000000000000000) (hxs : ∀ i, i < E.length → xs i ≤ 3000000000000000000) :
    ItrX Tp g x0 xs 164 #[.pointer (some ⟨bs1, 0, none⟩), .pointer (some ⟨bs2, 0, none⟩)] E.length (ArC E) (RdC X W1 g bs1 bs2 bw) := by
  intro l J0 J Jt Jx W hS0 hSJ hSt hSx hgW hJ0 hJ hY h0
  have B1 := below_alloc W (.cells #[.func (.yield l) #[] #[]] 172)
  have Y1 := blk_new W [.func (.yield l) #[] #[]] 172
  have J1 := hS0 _ _ h0 (Rec.of B1)
  obtain ⟨q1, q2, ⟨r1, r2, r3, r4⟩, q3⟩ := hJ0 _ J1
  have s1 : (W.alloc (.cells #[.func (.yield l) #[] #[]] 172)).heap.size = W.heap.size + 1 := by simp
  have cs := r2.cell (i := 0) rfl
  have uc := count_raw (g := g) q1 q2 (by omega) (by omega)
  have Yt := Y1.chg (chg_tick g x0 _) (by omega)
  have hst := (hJ 0 _ q3).2.2.1
  have cw := hst.2.2.1.cell (i := 0) rfl
  have HY := hid3 hY
  have HJ := hid3 hJ
  clear hJ0 hJ hY h0 J1 B1 Y1 r1 r2 r3 r4 q1 q2
  obtain ⟨Wa, hWa⟩ : ∃ Wa, Hid (W.alloc (.cells #[.func (.yield l) #[] #[]] 172) = Wa) := ⟨_, rfl⟩
  rw [hWa.out] at q3 s1 uc Yt hst cw
  refine (callsIn_wide (n := 0)).1 ?_
  refine callsIn_of_wp_marks Tryz.func164 rfl trivial ?_ rfl
  simp only [Tryz.ntmps164, List.size_toArray, List.length_cons, List.length_nil, Nat.reduceAdd, Nat.reduceSub, Array.replicate_succ, Array.replicate_zero, List.push_toArray, List.append_toArray, List.nil_append, List.cons_append]
  have tsz := tick_size g x0 Wa
  gi_wp2_with (refine ⟨trivial, rfl, ?_⟩; gi_at_call 95; rw [hWa.out]; refine (callsIn_wide.2 uc).mono ?_; rintro e' w0 ⟨rfl, hw0⟩; obtain rfl : w0 = tick g Wa x0 := hw0; clear uc cs)
  generalize tick g Wa x0 = Wt at *
  have sT : Wt.heap.size = W.heap.size + 1 := by omega
  refine rf_outer IT (by rfl) (enters_of Tryz.func114 (by kernel_rfl) rfl) (fun i args n V V' h hc => h.cel hc) (fun i args n V h => by obtain ⟨e, kv, vv, s, _, rfl, _⟩ := h; rfl)
    (fun i V => J i V ∧ W.heap.size + 1 ≤ V.heap.size ∧ Blk V W.heap.size [.func (.yield l) #[] #[]] 172)
    (fun c i V => c = .ret ∧ Jx i V ∧ W.heap.size + 1 ≤ V.heap.size)
    (fun i A B hx hr => ⟨hSJ i A B hx.1 (hr.mono (by omega)), Nat.le_trans hx.2.1 hr.size, rec_cel hx.2.2 hr⟩)
    (fun c i A B hx hr => ⟨hx.1, hSx i A B hx.2.1 (hr.mono (by omega)), Nat.le_trans hx.2.2 hr.size⟩)
    (fun i V hv => (HJ.out i V hv.1).2.2.1.1) ⟨q3, by omega, Yt⟩ ?_ ?_ ?_
  · rintro l2 i args V Wv hl hlV hrec hiN ⟨hJi, hsz, hY2⟩ hb ⟨e0, kv, vv, s0, he0, rfl, hk0, hv0, _⟩
    obtain ⟨ak, nk, hk1⟩ := hk0.shape
    obtain ⟨av, nv, hv1⟩ := hv0.shape
    subst hk1 hv1
    simp
    gi_wp2
    refine ⟨Below.refl _ _, ?_⟩
    intro V2 W2 hJ2 hsz2 hYb hb2 hAr2 hoth hsz3 hV2 r hrec2
    obtain ⟨p1, p2, ⟨k1, k2, k3, k4⟩, p3⟩ := HJ.out i V2 hJ2
    have glt : g < V2.heap.size := by obtain ⟨cs, k⟩ := k4; exact k.lt
    have c2 : W2.cell? ⟨g, 2, none⟩ = some (.int .i64 ((xs i : Nat) : Int)) := by rw [hb2.cell (p := ⟨g, 2, none⟩) glt]; exact p1
    have k4W : ∃ cs, Blk W2 g cs 85 := by obtain ⟨cs, k⟩ := k4; exact ⟨cs, k.keep hb2⟩
    have f2 : W2.frozen? ⟨g, 2, none⟩ = false := by obtain ⟨cs, k⟩ := k4W; exact k.free 2
    have cs2 := (k2.keep hb2).cell (i := 0) rfl
    have hxi := hxs i hiN
    have uc2 := count_raw (g := g) c2 f2 (by omega) (by omega)
    have hYW := (hYb.keep hb2).chg (chg_tick g (xs i) W2) (by omega)
    have yb := hYW.cell (i := 0) rfl
    have hA3 := arc_tick (x := xs i) hAr2 k4W
    rw [← tick_size g (xs i) V2] at hA3
    have hYY := HY.out i _ _ _ hiN (p3 hiN) (by rw [tick_size]; omega) (below_tick (x := xs i) hb2) hA3
    obtain ⟨fn, tmps, assign, body, hy, hR⟩ := hYY
    have hR2 : RoundIn (Fence.wide.inRound l2) 0 Tryz.prog l fn tmps assign body (tick g W2 (xs i)) _ := ⟨hR.1, fun c cs _ => hR.2 c cs (fun _ h => by cases h)⟩
    have hkt : KeepsT Tp Wt.heap.size W2 (tick g W2 (xs i)) := ⟨by rw [tick_size]; exact Nat.le_refl _, fun k o hk h0 _ => ((chg_tick g (xs i) W2).same k (lt_of_block h0) (by omega)).trans h0⟩
    have HK := hid3 hkt
    have HYW := hid3 hYW
    have HR := hid3 hR2
    replace hsz3 := hid3 hsz3
    replace hV2 := hid3 hV2
    have hWs : W.heap.size + 1 ≤ W2.heap.size := Nat.le_trans hsz2 hb2.size
    have tsz2 := hid3 (tick_size g (xs i) W2)
    clear hJi hk0 hv0 hb hoth hAr2 hA3 hR hR2 hkt hYW p1 p2 p3 k1 k2 k3 k4 k4W c2 f2 hYb hb2 hJ2 tsz
    gi_wp2_with (refine ⟨trivial, rfl, ?_⟩; gi_at_call 95; refine (CallsIn.inRound l2 (callsIn_wide.2 uc2)).mono ?_; rintro e' w3 ⟨rfl, hw3⟩; obtain rfl : w3 = tick g W2 (xs i) := hw3; clear uc2 cs2)
    refine ⟨rfl, HR.out.mono ?_⟩
    rintro e' w5 ⟨hk5, h5⟩
    have hY5 := hk5.blk HYW.out (Nat.le_refl _) hT
    have hkk : KeepsT Tp Wt.heap.size W2 w5 := HK.out.trans (hk5.mono (by omega))
    have hsz5 : W.heap.size + 1 ≤ w5.heap.size := Nat.le_trans hWs hkk.size
    rcases h5 with ⟨rfl, hJ5⟩ | ⟨rfl, hJ5⟩
    · gi_wp2
      exact ⟨hkk, hJ5, hsz5, hY5⟩
    · gi_wp2
      exact ⟨hkk, rfl, hJ5, hsz5⟩
  · rintro D' W' hD hK ⟨hJn, hsz, hYb⟩
    gi_wp2
    refine ⟨by simp, .inl ⟨_, _, rfl, run_takeDeferred hK, ?_⟩⟩
    exact ⟨_, results_none rfl _ _ _, ⟨_, rfl⟩, by simp; omega, .inl (hSJ _ _ _ hJn (Rec.put hK rfl (by omega) _))⟩
  · rintro D' c i W' hD hK hiN ⟨rfl, hJx', hsz⟩
    gi_wp2
    refine ⟨by simp, .inl ⟨_, _, rfl, run_takeDeferred hK, ?_⟩⟩
    exact ⟨_, results_none rfl _ _ _, ⟨_, rfl⟩, by simp; omega, .inr ⟨i, hiN, hSx (i + 1) _ _ hJx' (Rec.put hK rfl (by omega) _)⟩⟩
theorem rf_outerX {Tp : TypeId → Prop} {gf N n g0 x0 : Nat} {xs : Nat → Nat} {lb : Array Value} {Ar : Nat → Array Value → Nat → World → Prop} {Rd : World → Prop} (IT : ItrX Tp g0 x0 xs gf lb N Ar Rd) {g : Operand} {ps : Array Tmp} {assign body : Code} {Q : Exit → Act → World → Prop} {a : Act} {w : World}
    (hg : a.eval g = .func (.func gf) #[] lb) (eg : ∀ args w, (callFunc gf args).run Tryz.prog w = .ok (.enter gf args) w) (hArS : ∀ i args n V W, Ar i args n V → Cel V W → Ar i args n W) (hAn : ∀ i args n V, Ar i args n V → args.size = ps.size)
    (I0 : World → Prop) (I It : Nat → World → Prop) (Ix : Code → Nat → World → Prop) (hI0 : St w.heap.size I0) (hI : ∀ i, St w.heap.size (I i)) (hIt : ∀ i, St w.heap.size (It i)) (hIx : ∀ c i, St w.heap.size (Ix c i)) (hgw : g0 < w.heap.size)
    (hx0 : ∀ V, I0 V → V.cell? ⟨g0, 2, none⟩ = some (.int .i64 x0) ∧ V.frozen? ⟨g0, 2, none⟩ = false ∧ Rd V ∧ I 0 (tick g0 V x0))
    (hx : ∀ i V, I i V → V.cell? ⟨g0, 2, none⟩ = some (.int .i64 ((xs i : Nat) : Int)) ∧ V.frozen? ⟨g0, 2, none⟩ = false ∧ Rd V ∧ (i < N → It i (tick g0 V (xs i)))) (h0 : I0 w)
    (hround : RoundC Tp w N n ps assign body a.tmps Ar It I Ix)
    (hdone : ∀ D W, w.heap.size ≤ D → W.heap[D]? = some (.deferred (some [])) → I N W → Q .normal { a with defers := { target := .collected D, args := #[] } :: a.defers } W)
    (hstop : ∀ D c i W, w.heap.size ≤ D → W.heap[D]? = some (.deferred (some [])) → i < N → Ix c (i + 1) W → c.wpIn Fence.wide n Tryz.prog Q { a with defers := { target := .collected D, args := #[] } :: a.defers } W) :
    (Code.rangeFunc g ps assign body).wpIn Fence.wide n Tryz.prog Q a w := by
  refine wpIn_rangeFunc ?_
  intro fn _
  obtain ⟨W1, hW1⟩ : ∃ W1, (w.alloc (.deferred (some []))).alloc (.loop (recd fn a.tmps ps assign body w.heap.size .ready none)) = W1 := ⟨_, rfl⟩
  have hB1 : Below w.heap.size w W1 := by rw [← hW1]; exact joinB (below_alloc w _) (below_alloc _ _)
  have hs1 : W1.heap.size = w.heap.size + 1 + 1 := by rw [← hW1]; simp
  have hL1 : W1.heap[w.heap.size + 1]? = some (.loop (recd fn a.tmps ps assign body w.heap.size .ready none)) := by
    rw [← hW1]; have := World.alloc_heap_new (w.alloc (.deferred (some []))) (.loop (recd fn a.tmps ps assign body w.heap.size .ready none)); rwa [World.size_alloc] at this
  have hK1 : W1.heap[w.heap.size]? = some (.deferred (some [])) := by
    rw [← hW1]; exact (Below.heap_alloc _ _ _ (by simp)).trans (World.alloc_heap_new w _)
  have t1 : ∀ V x, (tick g0 V x).heap[w.heap.size + 1]? = V.heap[w.heap.size + 1]? := fun V x => tick_other (by omega)
  have t2 : ∀ V x, (tick g0 V x).heap[w.heap.size]? = V.heap[w.heap.size]? := fun V x => tick_other (by omega)
  refine ⟨w.heap.size + 1, [{ target := .collected w.heap.size, args := #[] }], W1, { target := .fn (.func gf) lb, args := #[.func (.yield (w.heap.size + 1)) #[] #[]] }, W1, gf,
    #[.func (.yield (w.heap.size + 1)) #[] #[]] ++ lb, W1, ?_, ?_, ?_, ?_, fun h => (by cases h), ?_⟩
  · rw [← hW1]; exact run_enterLoop_outer _ _ _ _ _
  · simp only [resolve, hg]
    simp [go_sem]
  · intro f' _; trivial
  · simp [invoke, go_sem, eg]
  · refine callsIn_wide.2 ?_
    refine (IT (w.heap.size + 1)
      (fun W => I0 W ∧ W.heap[w.heap.size + 1]? = some (.loop (recd fn a.tmps ps assign body w.heap.size .ready none)) ∧ W.heap[w.heap.size]? = some (.deferred (some [])))
      (fun i W => I i W ∧ W.heap[w.heap.size + 1]? = some (.loop (recd fn a.tmps ps assign body w.heap.size .ready none)) ∧ W.heap[w.heap.size]? = some (.deferred (some [])))
      (fun i W => It i W ∧ W.heap[w.heap.size + 1]? = some (.loop (recd fn a.tmps ps assign body w.heap.size .ready none)) ∧ W.heap[w.heap.size]? = some (.deferred (some [])))
      (fun i W => ∃ c, Ix c i W ∧ W.heap[w.heap.size + 1]? = some (.loop (recd fn a.tmps ps assign body w.heap.size .done (some c))) ∧ W.heap[w.heap.size]? = some (.deferred (some [])))
      W1 (fun X Y hx hr => ⟨hI0 X Y hx.1 (hr.mono (by omega)), hr.same _ _ hx.2.1 (.inl (by omega)), hr.same _ _ hx.2.2 (.inl (by omega))⟩)
      (fun i X Y hx hr => ⟨hI i X Y hx.1 (hr.mono (by omega)), hr.same _ _ hx.2.1 (.inl (by omega)), hr.same _ _ hx.2.2 (.inl (by omega))⟩)
      (fun i X Y hx hr => ⟨hIt i X Y hx.1 (hr.mono (by omega)), hr.same _ _ hx.2.1 (.inl (by omega)), hr.same _ _ hx.2.2 (.inl (by omega))⟩)
      (fun i X Y hx hr => by obtain ⟨c, h1, h2, h3⟩ := hx; exact ⟨c, hIx c i X Y h1 (hr.mono (by omega)), hr.same _ _ h2 (.inl (by omega)), hr.same _ _ h3 (.inl (by omega))⟩)
      (by omega)
      (fun V hv => by obtain ⟨q1, q2, q3, q4⟩ := hx0 V hv.1; exact ⟨q1, q2, q3, q4, (t1 V x0).trans hv.2.1, (t2 V x0).trans hv.2.2⟩)
      (fun i V hv => by obtain ⟨q1, q2, q3, q4⟩ := hx i V hv.1; exact ⟨q1, q2, q3, fun hi => ⟨q4 hi, (t1 V _).trans hv.2.1, (t2 V _).trans hv.2.2⟩⟩)
      ?_ ⟨hI0 _ _ h0 (Rec.of hB1), hL1, hK1⟩).mono ?_
    · rintro i args V V' hiN ⟨hi, hl, hk⟩ hsz hb ha
      have hr := hround _ i args V V' (by omega) (lt_of_block hl) ⟨_, hl⟩ hiN hi hb ha
      refine (yield_core (Tp := Tp) (B := w.heap.size) (i := 2 * i + 1) (I := zip2 I It) (Ix := fun c k => Ix c (k / 2)) (Ar := fun k => Ar (k / 2)) (fun j => hArS (j / 2)) (fun j => by unfold zip2; split; exact hI _; exact hIt _) (fun c j => hIx c _) (by omega) hl (by rw [zip2_odd]; exact hi) hb (by rw [show (2 * i + 1) / 2 = i by omega]; exact ha) (hAn _ _ _ _ ha) (wpIn_mono hr ?_)).mono ?_
      · intro e a1 W1 h
        cases e <;> first
          | (refine ⟨h.1, fun V2 W2 q1 q2 q3 q4 q5 q6 q7 => ?_⟩
             rw [zip2_odd] at q1
             rw [show (2 * i + 1) / 2 = i by omega] at q3
             exact wpIn_mono (h.2 V2 W2 q1 q2 q3 q4 q5 q6 q7) (fun e a W h => bpost_zip h))
          | exact h.elim
      · rintro e V'' ⟨hkp, h⟩
        have hk2 := hkp.same _ _ (Nat.le_refl _) (by omega) ((hb.block _ (lt_of_block hk)).trans hk) safe_def
        refine ⟨hkp.from (by omega) (by omega), h.imp (fun h => ⟨h.1, by have := h.2.1; rw [zip2_even] at this; exact this, h.2.2, hk2⟩) (fun h => ?_)⟩
        obtain ⟨h1, c, h2, h3⟩ := h
        rw [show (2 * i + 1 + 1) / 2 = i + 1 by omega] at h2
        exact ⟨h1, c, h2, h3, hk2⟩
    · rintro e W2 ⟨⟨v, rfl⟩, hsz, ⟨hi, hl, hk⟩ | ⟨i, hiN, c, hi, hl, hk⟩⟩
      · exact ⟨none, _, run_endLoop (P := Tryz.prog) hl (by simp [recd]), hdone _ _ (Nat.le_refl _) ((World.putObj_heap_other (by omega)).trans hk) (hI _ _ _ hi (Rec.put hl rfl (by omega) _))⟩
      · exact ⟨some c, _, run_endLoop (P := Tryz.prog) hl (by simp [recd]), hstop _ c i _ (Nat.le_refl _) ((World.putObj_heap_other (by omega)).trans hk) hiN (hIx c _ _ _ hi (Rec.put hl rfl (by omega) _))⟩
end Kv
end Go.Proofs.YtjejmkcjflhoiaaGreatDoor

namespace Go.Proofs.YtjejmkcjflhoiaaGreatDoor
namespace Kv
open Go.RowKit Go.Lib Pg
attribute [local go_sem] Oper.semAt_some
set_option maxHeartbeats 2000000 in
set_option maxRecDepth 100000 in
theorem sgetG {w : World} {K D : Nat → Prop} {g n N : Nat} {E : Ents} {W : List Ents} {kv : Value} {k : List Int} (h : SA w K D g E W n N) (hk : BK w K kv k) (hn : n ≤ 4000000000000000000) (hN : N ≤ 100000000) :
    Calls Tryz.prog 120 #[.pointer (some ⟨g, 0, none⟩), kv] w fun e w' => ∃ v, e = .returned (.tuple #[v, .bool (look E k).isSome]) ∧ OB w' (w.heap.size ≤ ·) v ((look E k).getD []) ∧ SA w' K D g E W (n + 1) N ∧ Chg (· = g) w w' := by
  obtain ⟨F, V, m, Q, jv, T, oj, hX, rfl, hB⟩ := h.open
  obtain ⟨ao, c, rfl⟩ := hk.shape
  have u := xcount hX hn
  have HX := hid3 hX
  have HB := hid3 hB
  have HK := hid3 hk
  clear hX hB hk h
  obtain ⟨kn, hkn⟩ : ∃ kn, Hid (k.length = kn) := ⟨_, rfl⟩
  rw [hkn.out] at HK ⊢
  have ug := fun w' (X : SX w' K D F V g m Q jv T oj (n + 1) N) (hk : By w' (.slice ao kn c) k) => xget_key X hk hN
  obtain ⟨r, hr⟩ : ∃ r, (look Q.flatten k).isSome = r := ⟨_, rfl⟩
  obtain ⟨L, hL⟩ : ∃ L, (look Q.flatten k).getD [] = L := ⟨_, rfl⟩
  rw [hr, hL] at ug ⊢
  clear hr hL
  go_enter Tryz.func120, Tryz.ntmps120
  go_wp2_with first
    | (go_at_call 95; go_must (refine u.mono ?_); rintro e w1 ⟨rfl, X1, C1⟩; have c0 := X1.blk.cell (i := 0) rfl)
    | (go_at_call 165; go_must (refine (ug _ X1 (HK.out _ (HX.out.kg C1))).mono ?_); rintro e w2 ⟨v, rfl, O, B⟩; obtain ⟨a1, c1, rfl⟩ : ∃ a1 c1, v = .slice a1 L.length c1 := (by obtain ⟨a1, c1, e, _⟩ := O.by.ex; exact ⟨a1, c1, e⟩); generalize L.length = ln at *)
  go_ret2
  exact ⟨_, rfl, O.mono (fun b _ h => by have := C1.size; have h' : w1.heap.size ≤ b := h; show w.heap.size ≤ b; omega), (X1.keep B).shut rfl HB.out, chgJoin C1 (Chg.of B)⟩
end Kv
namespace Fo
open Go.RowKit Go.Lib Pg Lim Gl Kv Bk Pw
attribute [local go_sem] Oper.semAt_some
set_option maxRecDepth 100000
set_option linter.unusedVariables false
set_option linter.unusedSimpArgs false
set_option maxHeartbeats 4000000
/-- a store that is only asked, from the world w0 on; X: what may be changed besides new blocks -/
structure Rg (X : Nat → Prop) (B : Nat) (w0 w : World) (K : Nat → Prop) (g : Nat) (E : Ents) (W : List Ents) (n N : Nat) : Prop where
  sx : Sx B w K g E W n N
  cg : Chg X w0 w
  xg : X g
section
variable {X : Nat → Prop} {B g n N n' N' x : Nat} {w0 w w' : World} {K : Nat → Prop} {E : Ents} {W : List Ents}
theorem Rg.keep (h : Rg X B w0 w K g E W n N) (b : Below w.heap.size w w') : Rg X B w0 w' K g E W n N := ⟨h.sx.keep b, h.cg.trans (Chg.of (F := fun _ => False) b) (fun _ _ h => h.elim), h.xg⟩
theorem Rg.drew (h : Rg X B w0 w K g E W n N) : Rg X B w0 w.drew K g E W n N := h.keep (Below.refl _ _).drew
theorem Rg.size (h : Rg X B w0 w K g E W n N) : w0.heap.size ≤ w.heap.size := h.cg.size
theorem Rg.lt (h : Rg X B w0 w K g E W n N) {b : Nat} (hb : K b) : b < w.heap.size := h.sx.sa.lt hb
theorem Rg.new (h : Rg X B w0 w K g E W n N) (hx : w.heap.size ≤ x) : ¬ K x := fun hk => by have := h.lt hk; omega
theorem Rg.cell {cs : List Value} {t : TypeId} (h : Rg X B w0 w K g E W n N) (hX : Blk w x cs t) (C : Chg (· = x) w w') (hx : w0.heap.size ≤ x ∨ X x) (hk : ¬ K x) (ht : t ≠ 5) : Rg X B w0 w' K g E W n N := by
  refine ⟨⟨h.sx.sa.chg C (fun b e hb => hk ((show b = x from e) ▸ hb)) (fun b e cs' k => ?_), Nat.le_trans h.sx.lo C.size, h.sx.kb⟩, h.cg.trans C (fun b hb e => by have e' : b = x := e; subst e'; exact hx.elim (fun h => by omega) id), h.xg⟩
  have e' : b = x := e
  subst e'
  exact ht (hX.eq k).2
theorem Rg.op (h : Rg X B w0 w K g E W n N) (S : Sx B w' K g E W n' N') (C : Chg (· = g) w w') : Rg X B w0 w' K g E W n' N' := ⟨S, h.cg.trans C (fun b _ e => (show b = g from e) ▸ h.xg), h.xg⟩
theorem Rg.top (h : Rg X B w0 w K g E W n N) : K g := h.sx.sa.top
theorem rg_of (h : Sx B w K g E W n N) (hX : X g) : Rg X B w w K g E W n N := ⟨h, Chg.refl _ _, hX⟩
end
theorem ne4 {b g s : Nat} (h : b < s) (hg : s ≤ g) : g ≠ b := by omega
theorem xgetG {B : Nat} {w : World} {K : Nat → Prop} {g : Nat} {E : Ents} {W : List Ents} {n N : Nat} {kv : Value} {k : List Int} (h : Sx B w K g E W n N) (hk : ByU w kv k) (hn : n ≤ 4000000000000000000) (hN : N ≤ 100000000) :
    Calls Tryz.prog 120 #[pg g, kv] w fun e w' => ∃ v, e = .returned (.tuple #[v, .bool (Kv.look E k).isSome]) ∧ ByU w' v ((Kv.look E k).getD []) ∧ Sx B w' K g E W (n + 1) N ∧ Chg (· = g) w w' := by
  refine (Kv.sgetG h.sa (h.bk hk) hn hN).mono ?_
  rintro e w' ⟨v, rfl, O, S, C⟩
  exact ⟨v, rfl, ByU.of O, ⟨S, Nat.le_trans h.lo C.size, h.kb⟩, C⟩
structure FndG (B : Nat) (w : World) (K : Nat → Prop) (g : Nat) (E : Ents) (W : List Ents) (n N : Nat) (V : Int) (mk : Value → Value) (e : Ending) (w' : World) : Prop where
  ex : ∃ a0 n0 c0, e = .returned (mk (.slice a0 n0 c0)) ∧ ∃ z0, Sx B w' K g E W n N ∧ Chg (· = g) w w' ∧ Nq w' K z0 a0 n0 c0 V ∧ n0 ≤ 510 ∧ (n0 = 0 ∨ w.heap.size ≤ z0)
theorem findG {B : Nat} {w : World} {K : Nat → Prop} {g : Nat} {E : Ents} {W : List Ents} {n N : Nat} {id p : Int} (h : Sx B w K g E W n N) (hid : 0 ≤ id ∧ id < 18446744073709551616) (hn : n + 10 ≤ 4000000000000000000) (hN : N + 10 ≤ 100000000) : Calls Tryz.prog 72 #[pg g, .int .u64 id, .int .u64 p] w (FndG B w K g E W (n + 1) N (hX (got E (Ky.mk 7 id p)) 0) (hmk (hX (got E (Ky.mk 7 id p)) 1) (Kv.look E (Ky.mk 7 id p)).isSome)) := by
  have A := rg_of (X := (· = g)) h rfl
  refine gc_enter (n := 27) Tryz.func72 rfl (by kernel_rfl) (by kernel_rfl) ?_
  refine gc_seq ?_
  refine gc_reg ?_
  refine ta 6 [.slice none 0 0, .int .u64 0] 109 (pg) ?_
  intro v1 g2 Xg2 hg2 B
  have zg2 := Or.inl (b := (fun b => b = g) g2) (Nat.le_trans A.size hg2)
  have nXg2 := A.new hg2
  replace A := A.keep B
  clear B
  refine t 7 (.bool false) ?_
  refine gl_nil ?_
  refine ge_then ?_
  refine gc_seq ?_
  refine gc_reg ?_
  refine t 13 (pg g) ?_
  refine t 14 (.int .u64 id) ?_
  refine t 15 (.int .u64 p) ?_
  refine tc 16 56 #[.int .i64 7, .int .u64 id, .int .u64 p] (fkey hid (by decide)) ?_
  rintro _ v5 ⟨kv4, rfl, U3, B⟩
  refine ⟨_, rfl, ?_⟩
  replace A := A.keep B
  replace Xg2 := Xg2.keep B
  clear B
  refine tc 17 120 #[pg g, kv4] (xgetG A.sx U3 (by omega) (by omega)) ?_
  rintro _ v8 ⟨gv6, rfl, U7, S, C⟩
  refine ⟨_, rfl, ?_⟩
  have hC := C.mono (fun b _ (e : b = g) => e ▸ A.top)
  replace Xg2 := Xg2.chg C (fun e => nXg2 (e ▸ A.top))
  replace U3 := U3.chg hC A.sx.sa.kind
  replace A := A.op S C
  clear S hC C
  refine t 12 (.tuple #[gv6, .bool (Kv.look E (Ky.mk 7 id p)).isSome]) ?_
  refine t 18 (gv6) ?_
  refine t 19 (.bool (Kv.look E (Ky.mk 7 id p)).isSome) ?_
  refine t 8 (gv6) ?_
  refine t 9 (.bool (Kv.look E (Ky.mk 7 id p)).isSome) ?_
  refine gl_nil ?_
  refine ge_then ?_
  refine gc_fr [(6, pg g2), (7, .bool false), (8, gv6), (9, .bool (Kv.look E (Ky.mk 7 id p)).isSome)] (by kernel_rfl) ?_
  refine gc_seq ?_
  refine gc_reg ?_
  refine t 21 (gv6) ?_
  refine tc 22 121 #[gv6] (hist_rd U7 (getlen A.sx _)) ?_
  rintro _ v10 ⟨ar9, nr9, cr9, rfl, ⟨NW, mr9⟩, B⟩
  refine ⟨_, rfl, ?_⟩
  obtain ⟨zr9, hr9, Qr9⟩ := natW_nq NW (fun b hb => A.lt hb)
  clear NW
  have eQr9g2 := ne2 hr9 Xg2.lt
  have fQr9 := ne3 hr9 A.size
  clear hr9
  replace A := A.keep B
  replace Xg2 := Xg2.keep B
  replace U3 := byu_keep U3 B
  replace U7 := byu_keep U7 B
  clear B
  clear U7
  refine t 20 (.tuple #[.agg #[.slice ar9 nr9 cr9, .int .u64 (hX (got E (Ky.mk 7 id p)) 1)], .int .i64 (Rc.outR (Rc.stHistory (got E (Ky.mk 7 id p))))]) ?_
  refine t 23 (.agg #[.slice ar9 nr9 cr9, .int .u64 (hX (got E (Ky.mk 7 id p)) 1)]) ?_
  refine t 24 (.int .i64 (Rc.outR (Rc.stHistory (got E (Ky.mk 7 id p))))) ?_
  have lXg2 := Xg2.lt
  refine ta 10 [.slice none 0 0, .int .u64 0] 109 (pg) ?_
  intro v11 g12 Xg12 hg12 B
  have zg12 := Or.inl (b := (fun b => b = g) g12) (Nat.le_trans A.size hg12)
  have nXg12 := A.new hg12
  have eQr9g12 := ne1 Qr9.lt hg12
  have dg12_g2 := ne4 Xg2.lt hg12
  replace A := A.keep B
  replace Xg2 := Xg2.keep B
  replace U3 := byu_keep U3 B
  replace Qr9 := Qr9.keep B
  clear B
  refine ts Xg12 0 (.agg #[.slice ar9 nr9 cr9, .int .u64 (hX (got E (Ky.mk 7 id p)) 1)]) [.slice ar9 nr9 cr9, .int .u64 (hX (got E (Ky.mk 7 id p)) 1)] [.slice ar9 nr9 cr9, .int .u64 (hX (got E (Ky.mk 7 id p)) 1)] ?_
  intro v13 Y C
  replace A := Rg.cell A Xg12 C zg12 nXg12 (by decide)
  replace Xg2 := Xg2.chg C dg12_g2.symm
  replace U3 := byu_cell U3 Xg12 C (by decide)
  replace Qr9 := Qr9.cell C eQr9g12
  clear C Xg12
  have Xg12 := Y
  clear Y
  refine t 11 (.int .i64 (Rc.outR (Rc.stHistory (got E (Ky.mk 7 id p))))) ?_
  refine gl_nil ?_
  refine ge_then ?_
  refine gc_seq ?_
  refine gc_reg ?_
  refine tlr 25 [.slice ar9 nr9 cr9, .int .u64 (hX (got E (Ky.mk 7 id p)) 1)] Xg12 0 ?_
  refine t 26 (.bool (Kv.look E (Ky.mk 7 id p)).isSome) ?_
  refine ts Xg2 0 (.agg #[.slice ar9 nr9 cr9, .int .u64 (hX (got E (Ky.mk 7 id p)) 1)]) [.slice ar9 nr9 cr9, .int .u64 (hX (got E (Ky.mk 7 id p)) 1)] [.slice ar9 nr9 cr9, .int .u64 (hX (got E (Ky.mk 7 id p)) 1)] ?_
  intro v14 Y C
  replace A := Rg.cell A Xg2 C zg2 nXg2 (by decide)
  replace U3 := byu_cell U3 Xg2 C (by decide)
  replace Qr9 := Qr9.cell C eQr9g2
  replace Xg12 := Xg12.chg C dg12_g2
  clear C Xg2
  have Xg2 := Y
  clear Y
  refine t 7 (.bool (Kv.look E (Ky.mk 7 id p)).isSome) ?_
  refine gl_nil ?_
  refine ge_then ?_
  refine gc_ret ?_
  refine ge_ret (.tuple #[.agg #[.slice ar9 nr9 cr9, .int .u64 (hX (got E (Ky.mk 7 id p)) 1)], .bool (Kv.look E (Ky.mk 7 id p)).isSome]) (rsct 6 7 (T := 109) (by kernel_rfl) (by kernel_rfl) (by kernel_rfl) (lr Xg2 0)) ?_
  exact ⟨_, _, _, rfl, _, A.sx, A.cg, Qr9, mr9, fQr9⟩
theorem ratioG {B : Nat} {w : World} {K : Nat → Prop} {g : Nat} {E : Ents} {W : List Ents} {n N : Nat} {id p : Int} (h : Sx B w K g E W n N) (hid : 0 ≤ id ∧ id < 18446744073709551616) (hn : n + 10 ≤ 4000000000000000000) (hN : N + 10 ≤ 100000000) : Calls Tryz.prog 35 #[pg g, .int .u64 id, .int .u64 p] w (FndG B w K g E W (n + 1) N (hX (got E (Ky.mk 7 id p)) 0) rmk) := by
  have A := rg_of (X := (· = g)) h rfl
  refine gc_enter (n := 18) Tryz.func35 rfl (by kernel_rfl) (by kernel_rfl) ?_
  refine gc_seq ?_
  refine gc_reg ?_
  refine ta 6 [.slice none 0 0] 32 (pg) ?_
  intro v1 g2 Xg2 hg2 B
  have zg2 := Or.inl (b := (fun b => b = g) g2) (Nat.le_trans A.size hg2)
  have nXg2 := A.new hg2
  replace A := A.keep B
  clear B
  refine gl_nil ?_
  refine ge_then ?_
  refine gc_seq ?_
  refine gc_reg ?_
  refine t 10 (pg g) ?_
  refine t 11 (.int .u64 id) ?_
  refine t 12 (.int .u64 p) ?_
  refine tc 13 72 #[pg g, .int .u64 id, .int .u64 p] (findG A.sx hid (by omega) (by omega)) ?_
  rintro _ v4 ⟨ar3, nr3, cr3, rfl, zr3, S, C, Qr3, mr3, hr3⟩
  refine ⟨_, rfl, ?_⟩
  have eQr3g2 := ne2 hr3 Xg2.lt
  have fQr3 := ne3 hr3 A.size
  clear hr3
  have hC := C.mono (fun b _ (e : b = g) => e ▸ A.top)
  replace Xg2 := Xg2.chg C (fun e => nXg2 (e ▸ A.top))
  replace A := A.op S C
  clear S hC C
  refine t 9 (.tuple #[.agg #[.slice ar3 nr3 cr3, .int .u64 (hX (got E (Ky.mk 7 id p)) 1)], .bool (Kv.look E (Ky.mk 7 id p)).isSome]) ?_
  refine t 14 (.agg #[.slice ar3 nr3 cr3, .int .u64 (hX (got E (Ky.mk 7 id p)) 1)]) ?_
  refine t 15 (.bool (Kv.look E (Ky.mk 7 id p)).isSome) ?_
  have lXg2 := Xg2.lt
  refine ta 7 [.slice none 0 0, .int .u64 0] 109 (pg) ?_
  intro v5 g6 Xg6 hg6 B
  have zg6 := Or.inl (b := (fun b => b = g) g6) (Nat.le_trans A.size hg6)
  have nXg6 := A.new hg6
  have eQr3g6 := ne1 Qr3.lt hg6
  have dg6_g2 := ne4 Xg2.lt hg6
  replace A := A.keep B
  replace Xg2 := Xg2.keep B
  replace Qr3 := Qr3.keep B
  clear B
  refine ts Xg6 0 (.agg #[.slice ar3 nr3 cr3, .int .u64 (hX (got E (Ky.mk 7 id p)) 1)]) [.slice ar3 nr3 cr3, .int .u64 (hX (got E (Ky.mk 7 id p)) 1)] [.slice ar3 nr3 cr3, .int .u64 (hX (got E (Ky.mk 7 id p)) 1)] ?_
  intro v7 Y C
  replace A := Rg.cell A Xg6 C zg6 nXg6 (by decide)
  replace Xg2 := Xg2.chg C dg6_g2.symm
  replace Qr3 := Qr3.cell C eQr3g6
  clear C Xg6
  have Xg6 := Y
  clear Y
  refine t 8 (.bool (Kv.look E (Ky.mk 7 id p)).isSome) ?_
  refine gl_nil ?_
  refine ge_then ?_
  refine gc_fr [(6, pg g2), (7, pg g6)] (by kernel_rfl) ?_
  refine gc_seq ?_
  refine gc_reg ?_
  refine t 16 (pg g6) ?_
  refine tlr 17 [.slice ar3 nr3 cr3] Xg6 0 ?_
  refine ts Xg2 0 (.agg #[.slice ar3 nr3 cr3]) [.slice ar3 nr3 cr3] [.slice ar3 nr3 cr3] ?_
  intro v8 Y C
  replace A := Rg.cell A Xg2 C zg2 nXg2 (by decide)
  replace Qr3 := Qr3.cell C eQr3g2
  replace Xg6 := Xg6.chg C dg6_g2
  clear C Xg2
  have Xg2 := Y
  clear Y
  refine gl_nil ?_
  refine ge_then ?_
  refine gc_ret ?_
  refine ge_ret (.agg #[.slice ar3 nr3 cr3]) (rsc 6 (T := 32) (by kernel_rfl) (by kernel_rfl) (lr Xg2 0)) ?_
  exact ⟨_, _, _, rfl, _, A.sx, A.cg, Qr3, mr3, fQr3⟩
structure EaE (B : Nat) (w : World) (K : Nat → Prop) (g br bf : Nat) (E : Ents) (W : List Ents) (n N : Nat) (V F : Int) (m : Nat) (e : Ending) (w' : World) : Prop where
  ex : ∃ a1 n1 c1 z1 a2 n2 c2 z2, e = .returned (.tuple #[]) ∧ Sx B w' K g E W n N ∧ Chg (fun b => b = g ∨ b = br ∨ b = bf) w w' ∧ Blk w' br [.slice a1 n1 c1] 32 ∧ Nq w' K z1 a1 n1 c1 V ∧ n1 ≤ m ∧ (n1 = 0 ∨ w.heap.size ≤ z1) ∧ Blk w' bf [.slice a2 n2 c2] 32 ∧ Nq w' K z2 a2 n2 c2 F ∧ n2 ≤ 510 ∧ (n2 = 0 ∨ w.heap.size ≤ z2)
theorem earn_any {B : Nat} {w : World} {K : Nat → Prop} {g : Nat} {E : Ents} {W : List Ents} {n N : Nat} {id p : Int} {bs bi br bk bf : Nat} {aR : Option Addr} {nR cR zR : Nat} {xR : Int} {aS : Option Addr} {nS cS zS : Nat} {xS : Int} {aF : Option Addr} {nF cF zF : Nat} {xF : Int} (h : Sx B w K g E W n N) (hid : 0 ≤ id ∧ id < 18446744073709551616) (QR : Nq w K zR aR nR cR xR) (mR : nR ≤ 10000000000) (QS : Nq w K zS aS nS cS xS) (mS : nS ≤ 10000000000) (QF : Nq w K zF aF nF cF xF) (mF : nF ≤ 10000000000) (Xs : Blk w bs [pg g] 37) (Xi : Blk w bi [.int .u64 id] 22) (Xr : Blk w br [.slice aR nR cR] 32) (Xk : Blk w bk [.slice aS nS cS] 32) (Xf : Blk w bf [.slice aF nF cF] 32) (nXs : ¬ K bs) (nXi : ¬ K bi) (nXr : ¬ K br) (nXk : ¬ K bk) (nXf : ¬ K bf) (dbr_bk : br ≠ bk) (dbr_bf : br ≠ bf) (dbk_bf : bk ≠ bf) (dbs_br : bs ≠ br) (dbs_bf : bs ≠ bf) (dbi_br : bi ≠ br) (dbi_bf : bi ≠ bf) (eQRbr : nR = 0 ∨ zR ≠ br) (eQRbf : nR = 0 ∨ zR ≠ bf) (eQSbr : nS = 0 ∨ zS ≠ br) (eQSbf : nS = 0 ∨ zS ≠ bf) (eQFbr : nF = 0 ∨ zF ≠ br) (eQFbf : nF = 0 ∨ zF ≠ bf) (hn : n + 10 ≤ 4000000000000000000) (hN : N + 10 ≤ 100000000) : Calls Tryz.prog 36 #[.int .u64 p, pg bs, pg bi, pg br, pg bk, pg bf] w (EaE B w K g br bf E W (n + 1) N (xR + xS * subV (hX (got E (Ky.mk 7 id p)) 0) xF / U36) (hX (got E (Ky.mk 7 id p)) 0) (nR + nS + 600)) := by
  have zbr := Or.inr (a := w.heap.size ≤ br) (show br = g ∨ br = br ∨ br = bf from .inr (.inl rfl))
  have zbf := Or.inr (a := w.heap.size ≤ bf) (show bf = g ∨ bf = br ∨ bf = bf from .inr (.inr rfl))
  have A := rg_of (X := fun b => b = g ∨ b = br ∨ b = bf) h (.inl rfl)
  refine gc_enter (n := 20) Tryz.func36 rfl (by kernel_rfl) (by kernel_rfl) ?_
  refine gc_seq ?_
  refine gc_reg ?_
  refine tl 8 (pg g) Xs 0 ?_
  refine tl 9 (.int .u64 id) Xi 0 ?_
  refine t 10 (.int .u64 p) ?_
  refine tc 11 35 #[pg g, .int .u64 id, .int .u64 p] (ratioG A.sx hid (by omega) (by omega)) ?_
  rintro _ v2 ⟨ar1, nr1, cr1, rfl, zr1, S, C, Qr1, mr1, hr1⟩
  refine ⟨_, rfl, ?_⟩
  have eQr1bs := ne2 hr1 Xs.lt
  have eQr1bi := ne2 hr1 Xi.lt
  have eQr1br := ne2 hr1 Xr.lt
  have eQr1bk := ne2 hr1 Xk.lt
  have eQr1bf := ne2 hr1 Xf.lt
  have fQr1 := ne3 hr1 A.size
  clear hr1
  have hC := C.mono (fun b _ (e : b = g) => e ▸ A.top)
  replace QR := QR.op (fun _ h => .inl h) hC
  replace QS := QS.op (fun _ h => .inl h) hC
  replace QF := QF.op (fun _ h => .inl h) hC
  replace Xs := Xs.chg C (fun e => nXs (e ▸ A.top))
  replace Xi := Xi.chg C (fun e => nXi (e ▸ A.top))
  replace Xr := Xr.chg C (fun e => nXr (e ▸ A.top))
  replace Xk := Xk.chg C (fun e => nXk (e ▸ A.top))
  replace Xf := Xf.chg C (fun e => nXf (e ▸ A.top))
  replace A := A.op S C
  clear S hC C
  have lXs := Xs.lt
  have lXi := Xi.lt
  have lXr := Xr.lt
  have lXk := Xk.lt
  have lXf := Xf.lt
  refine ta 7 [.slice none 0 0] 32 (pg) ?_
  intro v3 g4 Xg4 hg4 B
  have zg4 := Or.inl (b := (fun b => b = g ∨ b = br ∨ b = bf) g4) (Nat.le_trans A.size hg4)
  have nXg4 := A.new hg4
  have eQRg4 := ne1 QR.lt hg4
  have eQSg4 := ne1 QS.lt hg4
  have eQFg4 := ne1 QF.lt hg4
  have eQr1g4 := ne1 Qr1.lt hg4
  have dg4_bs := ne4 Xs.lt hg4
  have dg4_bi := ne4 Xi.lt hg4
  have dg4_br := ne4 Xr.lt hg4
  have dg4_bk := ne4 Xk.lt hg4
  have dg4_bf := ne4 Xf.lt hg4
  replace A := A.keep B
  replace QR := QR.keep B
  replace QS := QS.keep B
  replace QF := QF.keep B
  replace Xs := Xs.keep B
  replace Xi := Xi.keep B
  replace Xr := Xr.keep B
  replace Xk := Xk.keep B
  replace Xf := Xf.keep B
  replace Qr1 := Qr1.keep B
  clear B
  refine ts Xg4 0 (.agg #[.slice ar1 nr1 cr1]) [.slice ar1 nr1 cr1] [.slice ar1 nr1 cr1] ?_
  intro v5 Y C
  replace A := Rg.cell A Xg4 C zg4 nXg4 (by decide)
  replace QR := QR.cell C eQRg4
  replace QS := QS.cell C eQSg4
  replace QF := QF.cell C eQFg4
  replace Xs := Xs.chg C dg4_bs.symm
  replace Xi := Xi.chg C dg4_bi.symm
  replace Xr := Xr.chg C dg4_br.symm
  replace Xk := Xk.chg C dg4_bk.symm
  replace Xf := Xf.chg C dg4_bf.symm
  replace Qr1 := Qr1.cell C eQr1g4
  clear C Xg4
  have Xg4 := Y
  clear Y
  refine gl_nil ?_
  refine ge_then ?_
  refine gc_seq ?_
  replace A := A.drew
  replace QR := QR.drew
  replace QS := QS.drew
  replace QF := QF.drew
  replace Xs := Xs.drew
  replace Xi := Xi.drew
  replace Xr := Xr.drew
  replace Xk := Xk.drew
  replace Xf := Xf.drew
  replace Qr1 := Qr1.drew
  replace Xg4 := Xg4.drew
  refine gc_draw (fun w' => Blk w' br [.slice aR nR cR] 32 ∧ Blk w' bk [.slice aS nS cS] 32 ∧ Blk w' g4 [.slice ar1 nr1 cr1] 32 ∧ Blk w' bf [.slice aF nF cF] 32) (fun i => decide (7 ≤ i)) ⟨Xr, Xk, Xg4, Xf⟩ ?_
  refine zlr 0 12 [.slice aR nR cR] (fun _ h => h.1) 0 ?_
  refine zlr 1 13 [.slice aS nS cS] (fun _ h => h.2.1) 0 ?_
  refine zlr 2 14 [.slice ar1 nr1 cr1] (fun _ h => h.2.2.1) 0 ?_
  refine zlr 3 15 [.slice aF nF cF] (fun _ h => h.2.2.2) 0 ?_
  refine zc 4 16 38 #[.agg #[.slice ar1 nr1 cr1], .agg #[.slice aF nF cF]] (less_any Qr1.nat (by omega) QF.nat (by omega)) ?_
  rintro _ v7 ⟨aq6, nq6, cq6, zq6, rfl, Mq6, hq6, mq6, B⟩
  have eQq6bs := ne2 hq6 Xs.lt
  have eQq6bi := ne2 hq6 Xi.lt
  have eQq6br := ne2 hq6 Xr.lt
  have eQq6bk := ne2 hq6 Xk.lt
  have eQq6bf := ne2 hq6 Xf.lt
  have eQq6g4 := ne2 hq6 Xg4.lt
  have fQq6 := ne3 hq6 A.size
  have Qq6 := nq_of A.sx Mq6 hq6
  clear Mq6 hq6
  replace A := A.keep B
  replace QR := QR.keep B
  replace QS := QS.keep B
  replace QF := QF.keep B
  replace Xs := Xs.keep B
  replace Xi := Xi.keep B
  replace Xr := Xr.keep B
  replace Xk := Xk.keep B
  replace Xf := Xf.keep B
  replace Qr1 := Qr1.keep B
  replace Xg4 := Xg4.keep B
  clear B
  refine ⟨_, rfl, ⟨Xr, Xk, Xg4, Xf⟩, ?_⟩
  refine zc 5 17 37 #[.agg #[.slice aS nS cS], .agg #[.slice aq6 nq6 cq6]] (eMul QS.nat (by omega) Qq6.nat (by omega)) ?_
  rintro _ v9 ⟨aq8, nq8, cq8, zq8, rfl, Mq8, hq8, mq8, B⟩
  have eQq8bs := ne2 hq8 Xs.lt
  have eQq8bi := ne2 hq8 Xi.lt
  have eQq8br := ne2 hq8 Xr.lt
  have eQq8bk := ne2 hq8 Xk.lt
  have eQq8bf := ne2 hq8 Xf.lt
  have eQq8g4 := ne2 hq8 Xg4.lt
  have fQq8 := ne3 hq8 A.size
  have Qq8 := nq_of A.sx Mq8 hq8
  clear Mq8 hq8
  replace A := A.keep B
  replace QR := QR.keep B
  replace QS := QS.keep B
  replace QF := QF.keep B
  replace Xs := Xs.keep B
  replace Xi := Xi.keep B
  replace Xr := Xr.keep B
  replace Xk := Xk.keep B
  replace Xf := Xf.keep B
  replace Qr1 := Qr1.keep B
  replace Xg4 := Xg4.keep B
  replace Qq6 := Qq6.keep B
  clear B
  refine ⟨_, rfl, ⟨Xr, Xk, Xg4, Xf⟩, ?_⟩
  refine zc 6 18 13 #[.agg #[.slice aR nR cR], .agg #[.slice aq8 nq8 cq8]] (eAdd QR.nat (by omega) Qq8.nat (by omega)) ?_
  rintro _ v11 ⟨aq10, nq10, cq10, zq10, rfl, Mq10, hq10, mq10, B⟩
  have eQq10bs := ne2 hq10 Xs.lt
  have eQq10bi := ne2 hq10 Xi.lt
  have eQq10br := ne2 hq10 Xr.lt
  have eQq10bk := ne2 hq10 Xk.lt
  have eQq10bf := ne2 hq10 Xf.lt
  have eQq10g4 := ne2 hq10 Xg4.lt
  have fQq10 := ne3 hq10 A.size
  have Qq10 := nq_of A.sx Mq10 hq10
  clear Mq10 hq10
  replace A := A.keep B
  replace QR := QR.keep B
  replace QS := QS.keep B
  replace QF := QF.keep B
  replace Xs := Xs.keep B
  replace Xi := Xi.keep B
  replace Xr := Xr.keep B
  replace Xk := Xk.keep B
  replace Xf := Xf.keep B
  replace Qr1 := Qr1.keep B
  replace Xg4 := Xg4.keep B
  replace Qq6 := Qq6.keep B
  replace Qq8 := Qq8.keep B
  clear B
  refine ⟨_, rfl, ⟨Xr, Xk, Xg4, Xf⟩, ?_⟩
  refine gz_late ?_
  refine ys 7 Xr 0 (.agg #[.slice aq10 nq10 cq10]) [.slice aq10 nq10 cq10] [.slice aq10 nq10 cq10] ?_
  intro v12 Y C
  replace A := Rg.cell A Xr C zbr nXr (by decide)
  replace QR := QR.cell C eQRbr
  replace QS := QS.cell C eQSbr
  replace QF := QF.cell C eQFbr
  replace Xs := Xs.chg C dbs_br
  replace Xi := Xi.chg C dbi_br
  replace Xk := Xk.chg C dbr_bk.symm
  replace Xf := Xf.chg C dbr_bf.symm
  replace Qr1 := Qr1.cell C eQr1br
  replace Xg4 := Xg4.chg C dg4_br
  replace Qq6 := Qq6.cell C eQq6br
  replace Qq8 := Qq8.cell C eQq8br
  replace Qq10 := Qq10.cell C eQq10br
  clear C Xr
  have Xr := Y
  clear Y
  refine gy_done ?_
  refine ge_then ?_
  refine gc_fr [(5, pg bf), (7, pg g4)] (by kernel_rfl) ?_
  refine gc_reg ?_
  refine tlr 19 [.slice ar1 nr1 cr1] Xg4 0 ?_
  refine ts Xf 0 (.agg #[.slice ar1 nr1 cr1]) [.slice ar1 nr1 cr1] [.slice ar1 nr1 cr1] ?_
  intro v13 Y C
  replace A := Rg.cell A Xf C zbf nXf (by decide)
  replace QR := QR.cell C eQRbf
  replace QS := QS.cell C eQSbf
  replace QF := QF.cell C eQFbf
  replace Xs := Xs.chg C dbs_bf
  replace Xi := Xi.chg C dbi_bf
  replace Xr := Xr.chg C dbr_bf
  replace Xk := Xk.chg C dbk_bf
  replace Qr1 := Qr1.cell C eQr1bf
  replace Xg4 := Xg4.chg C dg4_bf
  replace Qq6 := Qq6.cell C eQq6bf
  replace Qq8 := Qq8.cell C eQq8bf
  replace Qq10 := Qq10.cell C eQq10bf
  clear C Xf
  have Xf := Y
  clear Y
  refine gl_nil ?_
  refine ge_end (.tuple #[]) (rs0 (by kernel_rfl)) ?_
  exact ⟨_, _, _, _, _, _, _, _, rfl, A.sx, A.cg, Xr, Qq10, by omega, fQq10, Xf, Qr1, by omega, fQr1⟩
end Fo
end Go.Proofs.YtjejmkcjflhoiaaGreatDoor
