/- Several texts, joined: FoI, FoH. -/
import Derived.Test.YthfepflplbahkaaGreatDoorJas
import Derived.Test.YthfepflplbahkaaGreatDoorJar
set_option maxRecDepth 100000
set_option maxHeartbeats 8000000
namespace Go.Proofs.YthfepflplbahkaaGreatDoor
section
namespace Kv
open Go.RowKit Go.Lib Pg
section
variable {X:Nat → Prop}{W1 w:World}{g:Operand}{x0:Nat}{xs:Nat → Nat}{E:List En}{lb:Array Value}{Ar:Nat → Array Value → Nat → World → Prop}{Rd:World → Prop}{ps:Array Tmp}
attribute [local go_sem] Oper.semAt_some
def ItrX(Tp:TypeId->Prop)(g x0:Nat)(xs:Nat->Nat)(gf:Nat)(lb:Array Value)(N:Nat)(Ar:Nat->Array Value->Nat->World->Prop)(Rd:World->Prop):Prop :=
 ∀ (l:Nat) (J0:World->Prop) (J Jt Jx:Nat->World->Prop) (W:World),St W.heap.size J0->(∀ i,St W.heap.size (J i))->(∀ i,St W.heap.size (Jt i))->(∀ i,St W.heap.size (Jx i))->g < W.heap.size ->
  (∀ V,J0 V->V.cell? ⟨g,2,none⟩=some (.int .i64 x0)/\V.frozen? ⟨g,2,none⟩=false/\Rd V/\J 0 (tick g V x0)) ->
  (∀ i V,J i V->V.cell? ⟨g,2,none⟩=some (.int .i64 ((xs i:Nat):Int))/\V.frozen? ⟨g,2,none⟩=false/\Rd V/\(i < N->Jt i (tick g V (xs i)))) ->
  (∀ i args V V',i < N->Jt i V->W.heap.size<=V.heap.size->Below V.heap.size V V'->Ar i args V.heap.size V'->YieldAt Fence.wide 0 Tryz.prog l args V' fun e V''=>bC Tp W.heap.size V' V''/\((e=.returned (.bool true)/\J (i + 1) V'')\/(e=.returned (.bool false)/\Jx (i + 1) V''))) ->
  J0 W ->
  Calls Tryz.prog gf (#[.func (.yield l) #[] #[]] ++ lb) W fun e W'=>(∃ v,e=.returned v)/\W.heap.size<=W'.heap.size/\(J N W'\/∃ i,i < N/\Jx (i + 1) W')
theorem pG{Tp : TypeId → Prop}{g bs1 bs2 bw:Nat}(IT : Itr Tp 123 #[.pointer (some ⟨bw, 0, none⟩)] E.length (ArC E) (fun V => Chg X W1 V))(hT : ¬ Tp 166)(hx : x0 ≤ 3000000000000000000)(hxs : ∀ i, i < E.length → xs i ≤ 3000000000000000000) :
    ItrX Tp g x0 xs 169 #[.pointer (some ⟨bs1, 0, none⟩), .pointer (some ⟨bs2, 0, none⟩)] E.length (ArC E) (RdC X W1 g bs1 bs2 bw) := by
  intro l J0 J Jt Jx W hS0 hSJ hSt hSx hgW hJ0 hJ hY h0;have B1 := ae W (.cells #[.func (.yield l) #[] #[]] 166);have Y1 := aC W [.func (.yield l) #[] #[]] 166;have J1 := hS0 _ _ h0 (Rec.of B1);obtain⟨q1, q2, ⟨r1, r2, r3, r4⟩, q3⟩:= hJ0 _ J1
  have s1 : (W.alloc (.cells #[.func (.yield l) #[] #[]] 166)).heap.size = W.heap.size + 1 := by simp
  have cs := r2.cell (i := 0) rfl;have uc := iF (g := g) q1 q2 (by omega) (by omega);have Yt := Y1.chg (dD g x0 _) (by omega);have hst := (hJ 0 _ q3).2.2.1;have cw := hst.2.2.1.cell (i := 0) rfl;have HY := aB hY;have HJ := aB hJ;clear hJ0 hJ hY h0 J1 B1 Y1 r1 r2 r3 r4 q1 q2;obtain⟨Wa, hWa⟩ : ∃ Wa, Hid (W.alloc (.cells #[.func (.yield l) #[] #[]] 166) = Wa) := ⟨_, rfl⟩;rw[hWa.out] at q3 s1 uc Yt hst cw;refine(callsIn_wide (n := 0)).1 ?_
  refine callsIn_of_wp_marks Tryz.func169 rfl trivial ?_ rfl;simp only[Tryz.ntmps169, List.size_toArray, List.length_cons, List.length_nil, Nat.reduceAdd, Nat.reduceSub, Array.replicate_succ, Array.replicate_zero, List.push_toArray, List.append_toArray, List.nil_append, List.cons_append];have tsz := dO g x0 Wa;gi_wp2_with (refine⟨trivial, rfl, ?_⟩; gi_at_call 95; rw[hWa.out]; refine(callsIn_wide.2 uc).mono ?_; rintro e' w0 ⟨rfl, hw0⟩; obtain rfl : w0 = tick g Wa x0 := hw0; clear uc cs);generalize tick g Wa x0 = Wt at *
  have sT : Wt.heap.size = W.heap.size + 1 := by omega
  refine ix IT (by rfl) (enters_of Tryz.func123 (by kernel_rfl) rfl) (fun i args n V V' h hc => h.cel hc) (fun i args n V h => by obtain⟨e, kv, vv, s, _, rfl, _⟩:= h; rfl)
    (fun i V => J i V ∧ W.heap.size + 1 ≤ V.heap.size ∧ Blk V W.heap.size [.func (.yield l) #[] #[]] 166)
    (fun c i V => c = .ret ∧ Jx i V ∧ W.heap.size + 1 ≤ V.heap.size)
    (fun i A B hx hr => ⟨hSJ i A B hx.1 (hr.mono (by omega)), Nat.le_trans hx.2.1 hr.size, eR hx.2.2 hr⟩)
    (fun c i A B hx hr => ⟨hx.1, hSx i A B hx.2.1 (hr.mono (by omega)), Nat.le_trans hx.2.2 hr.size⟩)
    (fun i V hv => (HJ.out i V hv.1).2.2.1.1) ⟨q3, by omega, Yt⟩ ?_ ?_ ?_
  · rintro l2 i args V Wv hl hlV hrec hiN ⟨hJi, hsz, hY2⟩ hb ⟨e0, kv, vv, s0, he0, rfl, hk0, hv0, _⟩
    obtain⟨ak, nk, hk1⟩:= hk0.shape;obtain⟨av, nv, hv1⟩:= hv0.shape;subst hk1 hv1;simp;gi_wp2;refine⟨Below.refl _ _, ?_⟩;intro V2 W2 hJ2 hsz2 hYb aa hAr2 hoth hsz3 hV2 r hrec2;obtain⟨p1, p2, ⟨k1, k2, k3, k4⟩, p3⟩:= HJ.out i V2 hJ2
    have glt : g < V2.heap.size := by obtain⟨cs, k⟩:= k4; exact k.lt
    have c2 : W2.cell? ⟨g, 2, none⟩ = some (.int .i64 ((xs i : Nat) : Int)) := by rw[aa.cell (p := ⟨g, 2, none⟩) glt]; exact p1
    have k4W : ∃ cs, Blk W2 g cs 94 := by obtain⟨cs, k⟩:= k4; exact⟨cs, k.keep aa⟩
    have f2 : W2.frozen? ⟨g, 2, none⟩ = false := by obtain⟨cs, k⟩:= k4W; exact k.free 2
    have cs2 := (k2.keep aa).cell (i := 0) rfl;have hxi := hxs i hiN;have uc2 := iF (g := g) c2 f2 (by omega) (by omega);have hYW := (hYb.keep aa).chg (dD g (xs i) W2) (by omega);have yb := hYW.cell (i := 0) rfl;have hA3 := uC (x := xs i) hAr2 k4W;rw[← dO g (xs i) V2] at hA3;have hYY := HY.out i _ _ _ hiN (p3 hiN) (by rw[dO]; omega) (pR (x := xs i) aa) hA3;obtain⟨fn, tmps, assign, body, hy, hR⟩:= hYY
    have hR2 : RoundIn (Fence.wide.inRound l2) 0 Tryz.prog l fn tmps assign body (tick g W2 (xs i)) _ := ⟨hR.1, fun c cs _ => hR.2 c cs (fun _ h => by cases h)⟩
    have hkt : bC Tp Wt.heap.size W2 (tick g W2 (xs i)) := ⟨by rw[dO]; exact Nat.le_refl _, fun k o hk h0 _ => ((dD g (xs i) W2).same k (lt_of_block h0) (by omega)).trans h0⟩;have HK := aB hkt;have HYW := aB hYW;have HR := aB hR2;replace hsz3 := aB hsz3;replace hV2 := aB hV2
    have hWs : W.heap.size + 1 ≤ W2.heap.size := Nat.le_trans hsz2 aa.size;have tsz2 := aB (dO g (xs i) W2);clear hJi hk0 hv0 hb hoth hAr2 hA3 hR hR2 hkt hYW p1 p2 p3 k1 k2 k3 k4 k4W c2 f2 hYb aa hJ2 tsz;gi_wp2_with (refine⟨trivial, rfl, ?_⟩; gi_at_call 95; refine(CallsIn.inRound l2 (callsIn_wide.2 uc2)).mono ?_; rintro e' w3 ⟨rfl, hw3⟩; obtain rfl : w3 = tick g W2 (xs i) := hw3; clear uc2 cs2);refine⟨rfl, HR.out.mono ?_⟩;rintro e' w5 ⟨hk5, h5⟩;have hY5 := hk5.blk HYW.out (Nat.le_refl _) hT
    have hkk : bC Tp Wt.heap.size W2 w5 := HK.out.trans (hk5.mono (by omega))
    have hsz5 : W.heap.size + 1 ≤ w5.heap.size := Nat.le_trans hWs hkk.size;rcases h5 with⟨rfl, hJ5⟩ | ⟨rfl, hJ5⟩
    · gi_wp2
      exact⟨hkk, hJ5, hsz5, hY5⟩
    · gi_wp2
      exact⟨hkk, rfl, hJ5, hsz5⟩
  · rintro D' W' hD hK ⟨hJn, hsz, hYb⟩
    gi_wp2;refine⟨by simp, .inl ⟨_, _, rfl, run_takeDeferred hK, ?_⟩⟩;exact⟨_, results_none rfl _ _ _, ⟨_, rfl⟩, by simp; omega, .inl (hSJ _ _ _ hJn (Rec.put hK rfl (by omega) _))⟩
  · rintro D' c i W' hD hK hiN ⟨rfl, hJx', hsz⟩
    gi_wp2;refine⟨by simp, .inl ⟨_, _, rfl, run_takeDeferred hK, ?_⟩⟩;exact⟨_, results_none rfl _ _ _, ⟨_, rfl⟩, by simp; omega, .inr ⟨i, hiN, hSx (i + 1) _ _ hJx' (Rec.put hK rfl (by omega) _)⟩⟩
theorem mJ{Tp : TypeId → Prop}{gf N n g0:Nat}(IT : ItrX Tp g0 x0 xs gf lb N Ar Rd){assign body:Code}{Q : Exit → Act → World → Prop}{a:Act}(hg : a.eval g = .func (.func gf) #[] lb)(eg : ∀ args w, (callFunc gf args).run Tryz.prog w = .ok (.enter gf args) w)(hArS : ∀ i args n V W, Ar i args n V → Cel V W → Ar i args n W)(hAn : ∀ i args n V, Ar i args n V → args.size = ps.size)(I0 : World → Prop)(I It : Nat → World → Prop)(Ix : Code → Nat → World → Prop)(hI0 : St w.heap.size I0)(hI : ∀ i, St w.heap.size (I i))(hIt : ∀ i, St w.heap.size (It i))(hIx : ∀ c i, St w.heap.size (Ix c i))(hgw : g0 < w.heap.size)(hx0 : ∀ V, I0 V → V.cell? ⟨g0, 2, none⟩ = some (.int .i64 x0) ∧ V.frozen? ⟨g0, 2, none⟩ = false ∧ Rd V ∧ I 0 (tick g0 V x0))(hx : ∀ i V, I i V → V.cell? ⟨g0, 2, none⟩ = some (.int .i64 ((xs i : Nat) : Int)) ∧ V.frozen? ⟨g0, 2, none⟩ = false ∧ Rd V ∧ (i < N → It i (tick g0 V (xs i))))(h0 : I0 w)(hround : sF Tp w N n ps assign body a.tmps Ar It I Ix)(hdone : ∀ D W, w.heap.size ≤ D → W.heap[D]? = some (.deferred (some [])) → I N W → Q .normal { a with defers := { target := .collected D, args := #[] } :: a.defers } W)(hstop : ∀ D c i W, w.heap.size ≤ D → W.heap[D]? = some (.deferred (some [])) → i < N → Ix c (i + 1) W → c.wpIn Fence.wide n Tryz.prog Q { a with defers := { target := .collected D, args := #[] } :: a.defers } W) :
    (Code.rangeFunc g ps assign body).wpIn Fence.wide n Tryz.prog Q a w := by
  refine wpIn_rangeFunc ?_
  intro fn _;obtain⟨W1, hW1⟩ : ∃ W1, (w.alloc (.deferred (some []))).alloc (.loop (cj fn a.tmps ps assign body w.heap.size .ready none)) = W1 := ⟨_, rfl⟩
  have hB1 : Below w.heap.size w W1 := by rw[← hW1]; exact ai (ae w _) (ae _ _)
  have hs1 : W1.heap.size = w.heap.size + 1 + 1 := by rw[← hW1]; simp
  have hL1 : W1.heap[w.heap.size + 1]? = some (.loop (cj fn a.tmps ps assign body w.heap.size .ready none)) := by
    rw[← hW1]; have := World.alloc_heap_new (w.alloc (.deferred (some []))) (.loop (cj fn a.tmps ps assign body w.heap.size .ready none)); rwa [World.size_alloc] at this
  have hK1 : W1.heap[w.heap.size]? = some (.deferred (some [])) := by
    rw[← hW1]; exact(Below.heap_alloc _ _ _ (by simp)).trans (World.alloc_heap_new w _)
  have t1 : ∀ V x, (tick g0 V x).heap[w.heap.size + 1]? = V.heap[w.heap.size + 1]? := fun V x => dR (by omega)
  have t2 : ∀ V x, (tick g0 V x).heap[w.heap.size]? = V.heap[w.heap.size]? := fun V x => dR (by omega)
  refine⟨w.heap.size + 1, [{ target := .collected w.heap.size, args := #[] }], W1, { target := .fn (.func gf) lb, args := #[.func (.yield (w.heap.size + 1)) #[] #[]] }, W1, gf,
    #[.func (.yield (w.heap.size + 1)) #[] #[]] ++ lb, W1, ?_, ?_, ?_, ?_, fun h => (by cases h), ?_⟩
  · rw[← hW1]; exact run_enterLoop_outer _ _ _ _ _
  · simp only[resolve, hg]
    simp[go_sem]
  · intro f' _; trivial
  · simp[invoke, go_sem, eg]
  · refine callsIn_wide.2 ?_
    refine(IT (w.heap.size + 1)
      (fun W => I0 W ∧ W.heap[w.heap.size + 1]? = some (.loop (cj fn a.tmps ps assign body w.heap.size .ready none)) ∧ W.heap[w.heap.size]? = some (.deferred (some [])))
      (fun i W => I i W ∧ W.heap[w.heap.size + 1]? = some (.loop (cj fn a.tmps ps assign body w.heap.size .ready none)) ∧ W.heap[w.heap.size]? = some (.deferred (some [])))
      (fun i W => It i W ∧ W.heap[w.heap.size + 1]? = some (.loop (cj fn a.tmps ps assign body w.heap.size .ready none)) ∧ W.heap[w.heap.size]? = some (.deferred (some [])))
      (fun i W => ∃ c, Ix c i W ∧ W.heap[w.heap.size + 1]? = some (.loop (cj fn a.tmps ps assign body w.heap.size .done (some c))) ∧ W.heap[w.heap.size]? = some (.deferred (some [])))
      W1 (fun X Y hx hr => ⟨hI0 X Y hx.1 (hr.mono (by omega)), hr.same _ _ hx.2.1 (.inl (by omega)), hr.same _ _ hx.2.2 (.inl (by omega))⟩)
      (fun i X Y hx hr => ⟨hI i X Y hx.1 (hr.mono (by omega)), hr.same _ _ hx.2.1 (.inl (by omega)), hr.same _ _ hx.2.2 (.inl (by omega))⟩)
      (fun i X Y hx hr => ⟨hIt i X Y hx.1 (hr.mono (by omega)), hr.same _ _ hx.2.1 (.inl (by omega)), hr.same _ _ hx.2.2 (.inl (by omega))⟩)
      (fun i X Y hx hr => by obtain⟨c, h1, h2, h3⟩:= hx; exact⟨c, hIx c i X Y h1 (hr.mono (by omega)), hr.same _ _ h2 (.inl (by omega)), hr.same _ _ h3 (.inl (by omega))⟩)
      (by omega)
      (fun V hv => by obtain⟨q1, q2, q3, q4⟩:= hx0 V hv.1; exact⟨q1, q2, q3, q4, (t1 V x0).trans hv.2.1, (t2 V x0).trans hv.2.2⟩)
      (fun i V hv => by obtain⟨q1, q2, q3, q4⟩:= hx i V hv.1; exact⟨q1, q2, q3, fun hi => ⟨q4 hi, (t1 V _).trans hv.2.1, (t2 V _).trans hv.2.2⟩⟩)
      ?_ ⟨hI0 _ _ h0 (Rec.of hB1), hL1, hK1⟩).mono ?_
    · rintro i args V V' hiN ⟨hi, hl, hk⟩ hsz hb ha
      have hr := hround _ i args V V' (by omega) (lt_of_block hl) ⟨_, hl⟩ hiN hi hb ha;refine(fB (Tp := Tp) (B := w.heap.size) (i := 2 * i + 1) (I := my I It) (Ix := fun c k => Ix c (k / 2)) (Ar := fun k => Ar (k / 2)) (fun j => hArS (j / 2)) (fun j => by unfold my; split; exact hI _; exact hIt _) (fun c j => hIx c _) (by omega) hl (by rw[ga]; exact hi) hb (by rw[show (2 * i + 1) / 2 = i by omega]; exact ha) (hAn _ _ _ _ ha) (wpIn_mono hr ?_)).mono ?_
      · intro e a1 W1 h
        cases e <;> first
          | (refine⟨h.1, fun V2 W2 q1 q2 q3 q4 q5 q6 q7 => ?_⟩
             rw[ga] at q1;rw[show (2 * i + 1) / 2 = i by omega] at q3
             exact wpIn_mono (h.2 V2 W2 q1 q2 q3 q4 q5 q6 q7) (fun e a W h => jS h))
          | exact h.elim
      · rintro e V'' ⟨hkp, h⟩
        have hk2 := hkp.same _ _ (Nat.le_refl _) (by omega) ((hb.block _ (lt_of_block hk)).trans hk) jE;refine⟨hkp.from (by omega) (by omega), h.imp (fun h => ⟨h.1, by have := h.2.1; rw[iH] at this; exact this, h.2.2, hk2⟩) (fun h => ?_)⟩;obtain⟨h1, c, h2, h3⟩:= h;rw[show (2 * i + 1 + 1) / 2 = i + 1 by omega] at h2;exact⟨h1, c, h2, h3, hk2⟩
    · rintro e W2 ⟨⟨v, rfl⟩, hsz, ⟨hi, hl, hk⟩ | ⟨i, hiN, c, hi, hl, hk⟩⟩
      · exact⟨none, _, run_endLoop (P := Tryz.prog) hl (by simp[cj]), hdone _ _ (Nat.le_refl _) ((World.putObj_heap_other (by omega)).trans hk) (hI _ _ _ hi (Rec.put hl rfl (by omega) _))⟩
      · exact⟨some c, _, run_endLoop (P := Tryz.prog) hl (by simp[cj]), hstop _ c i _ (Nat.le_refl _) ((World.putObj_heap_other (by omega)).trans hk) hiN (hIx c _ _ _ hi (Rec.put hl rfl (by omega) _))⟩
end
end Kv
end
section
namespace Kv
open Go.RowKit Go.Lib Pg
attribute [local go_sem] Oper.semAt_some
theorem sgetG {w:World} {K D:Nat->Prop} {g n N:Nat} {E:aE} {W:List aE} {kv:Value} {k:List Int} (h:SA w K D g E W n N) (hk:BK w K kv k) (hn:n<=4000000000000000000) (hN:N<=100000000) :
  Calls Tryz.prog 127 #[.pointer (some ⟨g,0,none⟩),kv] w fun e w'=>∃ v,e=.returned (.tuple #[v,.bool (look E k).isSome])/\OB w' (w.heap.size <= ·) v ((look E k).getD [])/\SA w' K D g E W (n + 1) N/\Chg (· = g) w w':=by
 obtain⟨F,V,m,Q,jv,T,oj,hX,rfl,hB⟩:=h.open;obtain⟨ao,c,rfl⟩:=hk.shape;have u:=iq hX hn;have HX:=aB hX;have HB:=aB hB;have HK:=aB hk;clear hX hB hk h;obtain⟨kn,hkn⟩:∃ kn,Hid (k.length=kn):=⟨_,rfl⟩
 rw[hkn.out] at HK ⊢;have ug:=fun w' (X:SX w' K D F V g m Q jv T oj (n + 1) N) (hk:By w' (.slice ao kn c) k)=>lh X hk hN
 obtain⟨r,hr⟩:∃ r,(look Q.flatten k).isSome=r:=⟨_,rfl⟩
 obtain⟨L,hL⟩:∃ L,(look Q.flatten k).getD []=L:=⟨_,rfl⟩
 rw[hr,hL] at ug ⊢;clear hr hL;go_enter Tryz.func127,Tryz.ntmps127;go_wp2_with first
  | (go_at_call 95; go_must (refine u.mono ?_); rintro e w1 ⟨rfl,X1,C1⟩; have c0:=X1.blk.cell (i:=0) rfl)
  | (go_at_call 170; go_must (refine(ug _ X1 (HK.out _ (HX.out.kg C1))).mono ?_); rintro e w2 ⟨v,rfl,O,B⟩; obtain⟨a1,c1,rfl⟩:∃ a1 c1,v=.slice a1 L.length c1:=(by obtain⟨a1,c1,e,_⟩:=O.by.ex; exact⟨a1,c1,e⟩); generalize L.length=ln at *)
 go_ret2;exact⟨_,rfl,O.mono (fun b _ h=>by have:=C1.size; have h':w1.heap.size<=b:=h; show w.heap.size<=b; omega),(X1.keep B).shut rfl HB.out,gv C1 (Chg.of B)⟩
end Kv
namespace Fo
open Go.RowKit Go.Lib Pg Lim Gl Kv Bk Pw
attribute [local go_sem] Oper.semAt_some
set_option linter.unusedVariables false
set_option linter.unusedSimpArgs false
structure Rg (X:Nat->Prop) (B:Nat) (w0 w:World) (K:Nat->Prop) (g:Nat) (E:aE) (W:List aE) (n N:Nat):Prop where
 sx:Sx B w K g E W n N
 cg:Chg X w0 w
 xg:X g
section
variable {X:Nat->Prop} {B g n N n' N' x:Nat} {w0 w w':World} {K:Nat->Prop} {E:aE} {W:List aE}
section
variable {cs:List Value}
theorem Rg.keep(h:Rg X B w0 w K g E W n N)(b:Below w.heap.size w w'):Rg X B w0 w' K g E W n N:=⟨h.sx.keep b,h.cg.trans (Chg.of (F:=fun _=>False) b) (fun _ _ h=>h.elim),h.xg⟩
theorem Rg.drew(h:Rg X B w0 w K g E W n N):Rg X B w0 w.drew K g E W n N:=h.keep (Below.refl _ _).drew
theorem Rg.size(h:Rg X B w0 w K g E W n N):w0.heap.size<=w.heap.size:=h.cg.size
theorem Rg.lt(h:Rg X B w0 w K g E W n N){b:Nat}(hb:K b):b < w.heap.size:=h.sx.sa.lt hb
theorem Rg.new(h:Rg X B w0 w K g E W n N)(hx:w.heap.size<=x):¬ K x:=fun hk=>by have:=h.lt hk; omega
theorem Rg.cell{t:TypeId}(h:Rg X B w0 w K g E W n N)(hX:Blk w x cs t)(C:Chg (· = x) w w')(hx:w0.heap.size<=x\/X x)(c:¬ K x)(f:t≠5):Rg X B w0 w' K g E W n N:=by
 refine⟨⟨h.sx.sa.chg C (fun b e hb=>c ((show b=x from e)▸hb)) (fun b e d k => ?_),Nat.le_trans h.sx.lo C.size,h.sx.kb⟩,h.cg.trans C (fun b hb e=>by have a:b=x:=e; subst a; exact hx.elim (fun h=>by omega) id),h.xg⟩
 have a:b=x:=e;subst a;exact f (hX.eq k).2
theorem Rg.op(h:Rg X B w0 w K g E W n N)(S:Sx B w' K g E W n' N')(C:Chg (· = g) w w'):Rg X B w0 w' K g E W n' N':=⟨S,h.cg.trans C (fun b _ e=>(show b=g from e)▸h.xg),h.xg⟩
theorem Rg.top(h:Rg X B w0 w K g E W n N):K g:=h.sx.sa.top
theorem rg_of(h:Sx B w K g E W n N)(hX:X g):Rg X B w w K g E W n N:=⟨h,Chg.refl _ _,hX⟩
end
end
section
variable {g B n N:Nat}{w:World}{K:Nat->Prop}{E:aE}{W:List aE}{kv:Value}{k:List Int}{id p:Int}{aR aS aF:Option Addr}
theorem ne4{b s:Nat}(h:b < s)(hg:s<=g):g≠b:=by omega
theorem xgetG(h:Sx B w K g E W n N)(a:ByU w kv k)(hn:n<=4000000000000000000)(b:N<=100000000) :
  Calls Tryz.prog 127 #[pg g,kv] w fun e w'=>∃ v,e=.returned (.tuple #[v,.bool (Kv.look E k).isSome])/\ByU w' v ((Kv.look E k).getD [])/\Sx B w' K g E W (n + 1) N/\Chg (· = g) w w':=by
 refine(Kv.sgetG h.sa (h.bk a) hn b).mono ?_
 rintro e w' ⟨v,rfl,O,S,C⟩;exact⟨v,rfl,ByU.of O,⟨S,Nat.le_trans h.lo C.size,h.kb⟩,C⟩
structure FndG(B:Nat)(w:World)(K:Nat->Prop)(g:Nat)(E:aE)(W:List aE)(n N:Nat)(V:Int)(mk:Value->Value)(e:Ending)(w':World):Prop where
 ex:∃ a0 n0 c0,e=.returned (mk (.slice a0 n0 c0))/\∃ z0,Sx B w' K g E W n N/\Chg (· = g) w w'/\Nq w' K z0 a0 n0 c0 V/\n0<=510/\(n0=0\/w.heap.size<=z0)
theorem findG(h:Sx B w K g E W n N)(hid:0<=id/\id < 18446744073709551616)(hn:n + 10<=4000000000000000000)(Q:N + 10<=100000000):Calls Tryz.prog 79 #[pg g,.int .u64 id,.int .u64 p] w (FndG B w K g E W (n + 1) N (hX (got E (Ky.mk 7 id p)) 0) (hmk (hX (got E (Ky.mk 7 id p)) 1) (Kv.look E (Ky.mk 7 id p)).isSome)):=by
 have A:=rg_of (X:=(· = g)) h rfl;refine aT (n:=27) Tryz.func79 rfl (by kernel_rfl) (by kernel_rfl) ?_
 refine ax (aA (ta 6 [.slice none 0 0,.int .u64 0] 116 (pg) ?_));intro v1 g2 a y B;have F:=Or.inl (b:=(fun b=>b=g) g2) (Nat.le_trans A.size y);have s:=A.new y;replace A:=A.keep B;clear B;refine t 7 (.bool false) ?_
 refine ay (ah (ax (aA (t 13 (pg g) ?_))));refine t 14 (.int .u64 id) ?_
 refine t 15 (.int .u64 p) ?_
 refine tc 16 65 #[.int .i64 7,.int .u64 id,.int .u64 p] (Ba hid (by decide)) ?_
 rintro _ v5 ⟨G,rfl,q,B⟩;refine⟨_,rfl,?_⟩;replace A:=A.keep B;replace a:=a.keep B;clear B;refine tc 17 127 #[pg g,G] (xgetG A.sx q (by omega) (by omega)) ?_
 rintro _ P ⟨m,rfl,D,S,C⟩;refine⟨_,rfl,?_⟩;have hC:=C.mono (fun b _ (e:b=g)=>e▸A.top);replace a:=a.chg C (fun e=>s (e▸A.top));replace q:=q.chg hC A.sx.sa.kind;replace A:=A.op S C;clear S hC C;refine t 12 (.tuple #[m,.bool (Kv.look E (Ky.mk 7 id p)).isSome]) ?_
 refine t 18 (m) ?_
 refine t 19 (.bool (Kv.look E (Ky.mk 7 id p)).isSome) ?_
 refine t 8 (m) ?_
 refine t 9 (.bool (Kv.look E (Ky.mk 7 id p)).isSome) ?_
 refine ay (ah (aZ [(6,pg g2),(7,.bool false),(8,m),(9,.bool (Kv.look E (Ky.mk 7 id p)).isSome)] (by kernel_rfl) ?_));refine ax (aA (t 21 (m) ?_));refine tc 22 128 #[m] (xT D (vZ A.sx _)) ?_
 rintro _ v10 ⟨i,f,d,rfl,⟨I,H⟩,B⟩;refine⟨_,rfl,?_⟩;obtain⟨M,u,k⟩:=yl I (fun b hb=>A.lt hb);clear I;have r:=ne2 u a.lt;have z:=ne3 u A.size;clear u;replace A:=A.keep B;replace a:=a.keep B;replace q:=fX q B;replace D:=fX D B;clear B;clear D;refine t 20 (.tuple #[.agg #[.slice i f d,.int .u64 (hX (got E (Ky.mk 7 id p)) 1)],.int .i64 (Rc.fA (Rc.dA (got E (Ky.mk 7 id p))))]) ?_
 refine t 23 (.agg #[.slice i f d,.int .u64 (hX (got E (Ky.mk 7 id p)) 1)]) ?_
 refine t 24 (.int .i64 (Rc.fA (Rc.dA (got E (Ky.mk 7 id p))))) ?_
 have J:=a.lt;refine ta 10 [.slice none 0 0,.int .u64 0] 116 (pg) ?_
 intro v11 g12 c l B;have x:=Or.inl (b:=(fun b=>b=g) g12) (Nat.le_trans A.size l);have v:=A.new l;have o:=ne1 k.lt l;have j:=ne4 a.lt l;replace A:=A.keep B;replace a:=a.keep B;replace q:=fX q B;replace k:=k.keep B;clear B;refine ts c 0 (.agg #[.slice i f d,.int .u64 (hX (got E (Ky.mk 7 id p)) 1)]) [.slice i f d,.int .u64 (hX (got E (Ky.mk 7 id p)) 1)] [.slice i f d,.int .u64 (hX (got E (Ky.mk 7 id p)) 1)] ?_
 intro O Y C;replace A:=Rg.cell A c C x v (by decide);replace a:=a.chg C j.symm;replace q:=lL q c C (by decide);replace k:=k.cell C o;clear C c;have c:=Y;clear Y;refine t 11 (.int .i64 (Rc.fA (Rc.dA (got E (Ky.mk 7 id p))))) ?_
 refine ay (ah (ax (aA (tlr 25 [.slice i f d,.int .u64 (hX (got E (Ky.mk 7 id p)) 1)] c 0 ?_))));refine t 26 (.bool (Kv.look E (Ky.mk 7 id p)).isSome) ?_
 refine ts a 0 (.agg #[.slice i f d,.int .u64 (hX (got E (Ky.mk 7 id p)) 1)]) [.slice i f d,.int .u64 (hX (got E (Ky.mk 7 id p)) 1)] [.slice i f d,.int .u64 (hX (got E (Ky.mk 7 id p)) 1)] ?_
 intro L Y C;replace A:=Rg.cell A a C F s (by decide);replace q:=lL q a C (by decide);replace k:=k.cell C r;replace c:=c.chg C j;clear C a;have a:=Y;clear Y;refine t 7 (.bool (Kv.look E (Ky.mk 7 id p)).isSome) ?_
 refine ay (ah (aW (aX (.tuple #[.agg #[.slice i f d,.int .u64 (hX (got E (Ky.mk 7 id p)) 1)],.bool (Kv.look E (Ky.mk 7 id p)).isSome]) (vq 6 7 (T:=116) (by kernel_rfl) (by kernel_rfl) (by kernel_rfl) (lr a 0)) ?_)));exact⟨_,_,_,rfl,_,A.sx,A.cg,k,H,z⟩
theorem mm(h:Sx B w K g E W n N)(hid:0<=id/\id < 18446744073709551616)(hn:n + 10<=4000000000000000000)(I:N + 10<=100000000):Calls Tryz.prog 49 #[pg g,.int .u64 id,.int .u64 p] w (FndG B w K g E W (n + 1) N (hX (got E (Ky.mk 7 id p)) 0) rmk):=by
 have A:=rg_of (X:=(· = g)) h rfl;refine aT (n:=18) Tryz.func49 rfl (by kernel_rfl) (by kernel_rfl) ?_
 refine ax (aA (ta 6 [.slice none 0 0] 32 (pg) ?_));intro v1 g2 a s B;have y:=Or.inl (b:=(fun b=>b=g) g2) (Nat.le_trans A.size s);have q:=A.new s;replace A:=A.keep B;clear B;refine ay (ah (ax (aA (t 10 (pg g) ?_))));refine t 11 (.int .u64 id) ?_
 refine t 12 (.int .u64 p) ?_
 refine tc 13 79 #[pg g,.int .u64 id,.int .u64 p] (findG A.sx hid (by omega) (by omega)) ?_
 rintro _ v4 ⟨d,f,c,rfl,F,S,C,i,z,r⟩;refine⟨_,rfl,?_⟩;have o:=ne2 r a.lt;have v:=ne3 r A.size;clear r;have hC:=C.mono (fun b _ (e:b=g)=>e▸A.top);replace a:=a.chg C (fun e=>q (e▸A.top));replace A:=A.op S C;clear S hC C;refine t 9 (.tuple #[.agg #[.slice d f c,.int .u64 (hX (got E (Ky.mk 7 id p)) 1)],.bool (Kv.look E (Ky.mk 7 id p)).isSome]) ?_
 refine t 14 (.agg #[.slice d f c,.int .u64 (hX (got E (Ky.mk 7 id p)) 1)]) ?_
 refine t 15 (.bool (Kv.look E (Ky.mk 7 id p)).isSome) ?_
 have D:=a.lt;refine ta 7 [.slice none 0 0,.int .u64 0] 116 (pg) ?_
 intro v5 g6 j l B;have x:=Or.inl (b:=(fun b=>b=g) g6) (Nat.le_trans A.size l);have u:=A.new l;have m:=ne1 i.lt l;have k:=ne4 a.lt l;replace A:=A.keep B;replace a:=a.keep B;replace i:=i.keep B;clear B;refine ts j 0 (.agg #[.slice d f c,.int .u64 (hX (got E (Ky.mk 7 id p)) 1)]) [.slice d f c,.int .u64 (hX (got E (Ky.mk 7 id p)) 1)] [.slice d f c,.int .u64 (hX (got E (Ky.mk 7 id p)) 1)] ?_
 intro G Y C;replace A:=Rg.cell A j C x u (by decide);replace a:=a.chg C k.symm;replace i:=i.cell C m;clear C j;have j:=Y;clear Y;refine t 8 (.bool (Kv.look E (Ky.mk 7 id p)).isSome) ?_
 refine ay (ah (aZ [(6,pg g2),(7,pg g6)] (by kernel_rfl) ?_));refine ax (aA (t 16 (pg g6) ?_));refine tlr 17 [.slice d f c] j 0 ?_
 refine ts a 0 (.agg #[.slice d f c]) [.slice d f c] [.slice d f c] ?_
 intro H Y C;replace A:=Rg.cell A a C y q (by decide);replace i:=i.cell C o;replace j:=j.chg C k;clear C a;have a:=Y;clear Y;refine ay (ah (aW (aX (.agg #[.slice d f c]) (rsc 6 (T:=32) (by kernel_rfl) (by kernel_rfl) (lr a 0)) ?_)));exact⟨_,_,_,rfl,_,A.sx,A.cg,i,z,v⟩
structure EaE(B:Nat)(w:World)(K:Nat->Prop)(g br bf:Nat)(E:aE)(W:List aE)(n N:Nat)(V F:Int)(m:Nat)(e:Ending)(w':World):Prop where
 ex:∃ a1 n1 c1 z1 a2 n2 c2 z2,e=.returned (.tuple #[])/\Sx B w' K g E W n N/\Chg (fun b=>b=g\/b=br\/b=bf) w w'/\Blk w' br [.slice a1 n1 c1] 32/\Nq w' K z1 a1 n1 c1 V/\n1<=m/\(n1=0\/w.heap.size<=z1)/\Blk w' bf [.slice a2 n2 c2] 32/\Nq w' K z2 a2 n2 c2 F/\n2<=510/\(n2=0\/w.heap.size<=z2)
theorem ub{bs bi y bk bf:Nat}{nR cR zR:Nat}{xR:Int}{nS cS zS:Nat}{xS:Int}{nF cF zF:Nat}{xF:Int}(h:Sx B w K g E W n N)(hid:0<=id/\id < 18446744073709551616)(z:Nq w K zR aR nR cR xR)(mR:nR<=10000000000)(v:Nq w K zS aS nS cS xS)(mS:nS<=10000000000)(x:Nq w K zF aF nF cF xF)(mF:nF<=10000000000)(o:Blk w bs [pg g] 37)(m:Blk w bi [.int .u64 id] 22)(j:Blk w y [.slice aR nR cR] 32)(l:Blk w bk [.slice aS nS cS] 32)(f:Blk w bf [.slice aF nF cF] 32)(nXs:¬ K bs)(nXi:¬ K bi)(nXr:¬ K y)(nXk:¬ K bk)(nXf:¬ K bf)(dbr_bk:y≠bk)(O:y≠bf)(ak:bk≠bf)(ae:bs≠y)(ab:bs≠bf)(dbi_br:bi≠y)(ag:bi≠bf)(eQRbr:nR=0\/zR≠y)(eQRbf:nR=0\/zR≠bf)(eQSbr:nS=0\/zS≠y)(eQSbf:nS=0\/zS≠bf)(eQFbr:nF=0\/zF≠y)(eQFbf:nF=0\/zF≠bf)(hn:n + 10<=4000000000000000000)(hN:N + 10<=100000000):Calls Tryz.prog 50 #[.int .u64 p,pg bs,pg bi,pg y,pg bk,pg bf] w (EaE B w K g y bf E W (n + 1) N (xR + xS * iw (hX (got E (Ky.mk 7 id p)) 0) xF / U36) (hX (got E (Ky.mk 7 id p)) 0) (nR + nS + 600)):=by
 have zbr:=Or.inr (a:=w.heap.size<=y) (show y=g\/y=y\/y=bf from .inr (.inl rfl));have zbf:=Or.inr (a:=w.heap.size<=bf) (show bf=g\/bf=y\/bf=bf from .inr (.inr rfl));have A:=rg_of (X:=fun b=>b=g\/b=y\/b=bf) h (.inl rfl);refine aT (n:=20) Tryz.func50 rfl (by kernel_rfl) (by kernel_rfl) ?_
 refine ax (aA (tl 8 (pg g) o 0 ?_));refine tl 9 (.int .u64 id) m 0 ?_
 refine t 10 (.int .u64 p) ?_
 refine tc 11 49 #[pg g,.int .u64 id,.int .u64 p] (mm A.sx hid (by omega) (by omega)) ?_
 rintro _ v2 ⟨s,u,r,rfl,zr1,S,C,d,mr1,J⟩;refine⟨_,rfl,?_⟩;have eQr1bs:=ne2 J o.lt;have eQr1bi:=ne2 J m.lt;have V:=ne2 J j.lt;have eQr1bk:=ne2 J l.lt;have eQr1bf:=ne2 J f.lt;have fQr1:=ne3 J A.size;clear J;have hC:=C.mono (fun b _ (e:b=g)=>e▸A.top);replace z:=z.op (fun _ h=>.inl h) hC;replace v:=v.op (fun _ h=>.inl h) hC;replace x:=x.op (fun _ h=>.inl h) hC;replace o:=o.chg C (fun e=>nXs (e▸A.top));replace m:=m.chg C (fun e=>nXi (e▸A.top));replace j:=j.chg C (fun e=>nXr (e▸A.top));replace l:=l.chg C (fun e=>nXk (e▸A.top));replace f:=f.chg C (fun e=>nXf (e▸A.top));replace A:=A.op S C;clear S hC C;have lXs:=o.lt;have lXi:=m.lt;have lXr:=j.lt;have lXk:=l.lt;have lXf:=f.lt;refine ta 7 [.slice none 0 0] 32 (pg) ?_
 intro v3 g4 c q B;have zg4:=Or.inl (b:=(fun b=>b=g\/b=y\/b=bf) g4) (Nat.le_trans A.size q);have nXg4:=A.new q;have eQRg4:=ne1 z.lt q;have eQSg4:=ne1 v.lt q;have eQFg4:=ne1 x.lt q;have af:=ne1 d.lt q;have ac:=ne4 o.lt q;have aj:=ne4 m.lt q;have L:=ne4 j.lt q;have aa:=ne4 l.lt q;have M:=ne4 f.lt q;replace A:=A.keep B;replace z:=z.keep B;replace v:=v.keep B;replace x:=x.keep B;replace o:=o.keep B;replace m:=m.keep B;replace j:=j.keep B;replace l:=l.keep B;replace f:=f.keep B;replace d:=d.keep B;clear B;refine ts c 0 (.agg #[.slice s u r]) [.slice s u r] [.slice s u r] ?_
 intro v5 Y C;replace A:=Rg.cell A c C zg4 nXg4 (by decide);replace z:=z.cell C eQRg4;replace v:=v.cell C eQSg4;replace x:=x.cell C eQFg4;replace o:=o.chg C ac.symm;replace m:=m.chg C aj.symm;replace j:=j.chg C L.symm;replace l:=l.chg C aa.symm;replace f:=f.chg C M.symm;replace d:=d.cell C af;clear C c;have c:=Y;clear Y;refine ay (ah (ax ?_));replace A:=A.drew;replace z:=z.drew;replace v:=v.drew;replace x:=x.drew;replace o:=o.drew;replace m:=m.drew;replace j:=j.drew;replace l:=l.drew;replace f:=f.drew;replace d:=d.drew;replace c:=c.drew;refine cZ (fun w'=>Blk w' y [.slice aR nR cR] 32/\Blk w' bk [.slice aS nS cS] 32/\Blk w' g4 [.slice s u r] 32/\Blk w' bf [.slice aF nF cF] 32) (fun i=>decide (7<=i)) ⟨j,l,c,f⟩ ?_
 refine zlr 0 12 [.slice aR nR cR] (fun _ h=>h.1) 0 ?_
 refine zlr 1 13 [.slice aS nS cS] (fun _ h=>h.2.1) 0 ?_
 refine zlr 2 14 [.slice s u r] (fun _ h=>h.2.2.1) 0 ?_
 refine zlr 3 15 [.slice aF nF cF] (fun _ h=>h.2.2.2) 0 ?_
 refine zc 4 16 52 #[.agg #[.slice s u r],.agg #[.slice aF nF cF]] (vH d.nat (by omega) x.nat (by omega)) ?_
 rintro _ v7 ⟨aq6,nq6,cq6,zq6,rfl,Mq6,D,mq6,B⟩;have eQq6bs:=ne2 D o.lt;have eQq6bi:=ne2 D m.lt;have ai:=ne2 D j.lt;have eQq6bk:=ne2 D l.lt;have ad:=ne2 D f.lt;have eQq6g4:=ne2 D c.lt;have fQq6:=ne3 D A.size;have G:=eG A.sx Mq6 D;clear Mq6 D;replace A:=A.keep B;replace z:=z.keep B;replace v:=v.keep B;replace x:=x.keep B;replace o:=o.keep B;replace m:=m.keep B;replace j:=j.keep B;replace l:=l.keep B;replace f:=f.keep B;replace d:=d.keep B;replace c:=c.keep B;clear B;refine⟨_,rfl,⟨j,l,c,f⟩,?_⟩;refine zc 5 17 51 #[.agg #[.slice aS nS cS],.agg #[.slice aq6 nq6 cq6]] (eMul v.nat (by omega) G.nat (by omega)) ?_
 rintro _ v9 ⟨aq8,nq8,cq8,zq8,rfl,Mq8,F,mq8,B⟩;have eQq8bs:=ne2 F o.lt;have eQq8bi:=ne2 F m.lt;have eQq8br:=ne2 F j.lt;have eQq8bk:=ne2 F l.lt;have Z:=ne2 F f.lt;have eQq8g4:=ne2 F c.lt;have fQq8:=ne3 F A.size;have I:=eG A.sx Mq8 F;clear Mq8 F;replace A:=A.keep B;replace z:=z.keep B;replace v:=v.keep B;replace x:=x.keep B;replace o:=o.keep B;replace m:=m.keep B;replace j:=j.keep B;replace l:=l.keep B;replace f:=f.keep B;replace d:=d.keep B;replace c:=c.keep B;replace G:=G.keep B;clear B;refine⟨_,rfl,⟨j,l,c,f⟩,?_⟩;refine zc 6 18 27 #[.agg #[.slice aR nR cR],.agg #[.slice aq8 nq8 cq8]] (eAdd z.nat (by omega) I.nat (by omega)) ?_
 rintro _ v11 ⟨U,T,Q,zq10,rfl,Mq10,k,mq10,B⟩;have eQq10bs:=ne2 k o.lt;have eQq10bi:=ne2 k m.lt;have R:=ne2 k j.lt;have eQq10bk:=ne2 k l.lt;have P:=ne2 k f.lt;have eQq10g4:=ne2 k c.lt;have fQq10:=ne3 k A.size;have H:=eG A.sx Mq10 k;clear Mq10 k;replace A:=A.keep B;replace z:=z.keep B;replace v:=v.keep B;replace x:=x.keep B;replace o:=o.keep B;replace m:=m.keep B;replace j:=j.keep B;replace l:=l.keep B;replace f:=f.keep B;replace d:=d.keep B;replace c:=c.keep B;replace G:=G.keep B;replace I:=I.keep B;clear B;refine⟨_,rfl,⟨j,l,c,f⟩,?_⟩;refine rD ?_
 refine ys 7 j 0 (.agg #[.slice U T Q]) [.slice U T Q] [.slice U T Q] ?_
 intro v12 Y C;replace A:=Rg.cell A j C zbr nXr (by decide);replace z:=z.cell C eQRbr;replace v:=v.cell C eQSbr;replace x:=x.cell C eQFbr;replace o:=o.chg C ae;replace m:=m.chg C dbi_br;replace l:=l.chg C dbr_bk.symm;replace f:=f.chg C O.symm;replace d:=d.cell C V;replace c:=c.chg C L;replace G:=G.cell C ai;replace I:=I.cell C eQq8br;replace H:=H.cell C R;clear C j;have j:=Y;clear Y;refine sU ?_
 refine ah (aZ [(5,pg bf),(7,pg g4)] (by kernel_rfl) ?_);refine aA (tlr 19 [.slice s u r] c 0 ?_);refine ts f 0 (.agg #[.slice s u r]) [.slice s u r] [.slice s u r] ?_
 intro v13 Y C;replace A:=Rg.cell A f C zbf nXf (by decide);replace z:=z.cell C eQRbf;replace v:=v.cell C eQSbf;replace x:=x.cell C eQFbf;replace o:=o.chg C ab;replace m:=m.chg C ag;replace j:=j.chg C O;replace l:=l.chg C ak;replace d:=d.cell C eQr1bf;replace c:=c.chg C M;replace G:=G.cell C ad;replace I:=I.cell C Z;replace H:=H.cell C P;clear C f;have f:=Y;clear Y;refine ay (kJ (.tuple #[]) (rs0 (by kernel_rfl)) ?_);exact⟨_,_,_,_,_,_,_,_,rfl,A.sx,A.cg,j,H,by omega,fQq10,f,d,by omega,fQr1⟩
end
end Fo
end
end Go.Proofs.YthfepflplbahkaaGreatDoor
