import Derived.Test.YthfepflplbahkaaGreatDoorJas
import Derived.Test.YthfepflplbahkaaGreatDoorJar
set_option maxRecDepth 100000
set_option maxHeartbeats 8000000
namespace Go.Proofs.YthfepflplbahkaaGreatDoor
section
namespace Kv
open Go.RowKit Go.Lib Pg
attribute [local go_sem] Oper.semAt_some
section
variable {X:Nat → Prop}{W1 w:World}{g:Operand}{x0:Nat}{xs:Nat → Nat}{E:List En}{lb:Array Value}{Ar:Nat → Array Value → Nat → World → Prop}{Rd:World → Prop}{ps:Array Tmp}
def ItrX(Tp:TypeId->Prop)(g x0:Nat)(xs:Nat->Nat)(gf:Nat)(lb:Array Value)(N:Nat)(Ar:Nat->Array Value->Nat->World->Prop)(Rd:World->Prop):Prop :=
 ∀ (l:Nat) (J0:World->Prop) (J Jt Jx:Nat->World->Prop) (W:World),St W.heap.size J0->(∀ i,St W.heap.size (J i))->(∀ i,St W.heap.size (Jt i))->(∀ i,St W.heap.size (Jx i))->g < W.heap.size ->
  (∀ V,J0 V->V.cell? ⟨g,2,none⟩=some (.int .i64 x0)/\V.frozen? ⟨g,2,none⟩=false/\Rd V/\J 0 (tick g V x0)) ->
  (∀ i V,J i V->V.cell? ⟨g,2,none⟩=some (.int .i64 ((xs i:Nat):Int))/\V.frozen? ⟨g,2,none⟩=false/\Rd V/\(i < N->Jt i (tick g V (xs i)))) ->
  (∀ i args V V',i < N->Jt i V->W.heap.size<=V.heap.size->Below V.heap.size V V'->Ar i args V.heap.size V'->YieldAt Fence.wide 0 Tryz.prog l args V' fun e V''=>bp Tp W.heap.size V' V''/\((e=.returned (.bool true)/\J (i + 1) V'')\/(e=.returned (.bool false)/\Jx (i + 1) V''))) ->
  J0 W ->
  Calls Tryz.prog gf (#[.func (.yield l) #[] #[]] ++ lb) W fun e W'=>(∃ v,e=.returned v)/\W.heap.size<=W'.heap.size/\(J N W'\/∃ i,i < N/\Jx (i + 1) W')
theorem mG{Tp : TypeId → Prop}{g bs1 bs2 bw:Nat}(IT : Itr Tp 123 #[.pointer (some ⟨bw, 0, none⟩)] E.length (ArC E) (fun V => Chg X W1 V))(hT : ¬ Tp 166)(hx : x0 ≤ 3000000000000000000)(hxs : ∀ i, i < E.length → xs i ≤ 3000000000000000000) :
    ItrX Tp g x0 xs 169 #[.pointer (some ⟨bs1, 0, none⟩), .pointer (some ⟨bs2, 0, none⟩)] E.length (ArC E) (RdC X W1 g bs1 bs2 bw) := by
  intro l J0 J Jt Jx W hS0 O hSt P hgW H hJ hY I;have B1 := ae W (.cells #[.func (.yield l) #[] #[]] 166);have Y1 := aC W [.func (.yield l) #[] #[]] 166;have J1 := hS0 _ _ I (Rec.of B1);obtain⟨q1, q2, ⟨r1, r2, r3, r4⟩, q3⟩:= H _ J1
  have s1 : (W.alloc (.cells #[.func (.yield l) #[] #[]] 166)).heap.size = W.heap.size + 1 := by simp
  have cs := r2.cell (i := 0) rfl;have uc := ke (g := g) q1 q2 (by omega) (by omega);have Yt := Y1.chg (dS g x0 _) (by omega);have Y := (hJ 0 _ q3).2.2.1;have cw := Y.2.2.1.cell (i := 0) rfl;have HY := aB hY;have HJ := aB hJ;clear H hJ hY I J1 B1 Y1 r1 r2 r3 r4 q1 q2;obtain⟨Q, G⟩ : ∃ Q, Hid (W.alloc (.cells #[.func (.yield l) #[] #[]] 166) = Q) := ⟨_, rfl⟩;rw[G.out] at q3 s1 uc Yt Y cw;refine(callsIn_wide (n := 0)).1 ?_
  refine callsIn_of_wp_marks Tryz.func169 rfl trivial ?_ rfl;simp only[Tryz.ntmps169, List.size_toArray, List.length_cons, List.length_nil, Nat.reduceAdd, Nat.reduceSub, Array.replicate_succ, Array.replicate_zero, List.push_toArray, List.append_toArray, List.nil_append, List.cons_append];have tsz := fm g x0 Q;gi_wp2_with (refine⟨trivial, rfl, ?_⟩; gi_at_call 95; rw[G.out]; refine(callsIn_wide.2 uc).mono ?_; rintro e' w0 ⟨rfl, hw0⟩; obtain rfl : w0 = tick g Q x0 := hw0; clear uc cs);generalize tick g Q x0 = Wt at *
  have sT : Wt.heap.size = W.heap.size + 1 := by omega
  refine gS IT (by rfl) (enters_of Tryz.func123 (by kernel_rfl) rfl) (fun i args n V V' h hc => h.cel hc) (fun i args n V h => by obtain⟨e, kv, vv, s, _, rfl, _⟩:= h; rfl)
    (fun i V => J i V ∧ W.heap.size + 1 ≤ V.heap.size ∧ Blk V W.heap.size [.func (.yield l) #[] #[]] 166)
    (fun c i V => c = .ret ∧ Jx i V ∧ W.heap.size + 1 ≤ V.heap.size)
    (fun i A B hx C => ⟨O i A B hx.1 (C.mono (by omega)), Nat.le_trans hx.2.1 C.size, eE hx.2.2 C⟩)
    (fun c i A B hx C => ⟨hx.1, P i A B hx.2.1 (C.mono (by omega)), Nat.le_trans hx.2.2 C.size⟩)
    (fun i V hv => (HJ.out i V hv.1).2.2.1.1) ⟨q3, by omega, Yt⟩ ?_ ?_ ?_
  · rintro l2 i args V Wv hl hlV hrec f ⟨hJi, N, hY2⟩ hb ⟨e0, kv, vv, s0, he0, rfl, D, R, _⟩
    obtain⟨ak, nk, hk1⟩:= D.shape;obtain⟨av, nv, hv1⟩:= R.shape;subst hk1 hv1;simp;gi_wp2;refine⟨Below.refl _ _, ?_⟩;intro V2 d F L u b j U m K r hrec2;obtain⟨p1, p2, ⟨k1, k2, k3, k4⟩, p3⟩:= HJ.out i V2 F
    have glt : g < V2.heap.size := by obtain⟨cs, k⟩:= k4; exact k.lt
    have c2 : d.cell? ⟨g, 2, none⟩ = some (.int .i64 ((xs i : Nat) : Int)) := by rw[b.cell (p := ⟨g, 2, none⟩) glt]; exact p1
    have t : ∃ cs, Blk d g cs 94 := by obtain⟨cs, k⟩:= k4; exact⟨cs, k.keep b⟩
    have f2 : d.frozen? ⟨g, 2, none⟩ = false := by obtain⟨cs, k⟩:= t; exact k.free 2
    have cs2 := (k2.keep b).cell (i := 0) rfl;have hxi := hxs i f;have M := ke (g := g) c2 f2 (by omega) (by omega);have y := (u.keep b).chg (dS g (xs i) d) (by omega);have yb := y.cell (i := 0) rfl;have z := xd (x := xs i) j t;rw[← fm g (xs i) V2] at z;have hYY := HY.out i _ _ _ f (p3 f) (by rw[fm]; omega) (tU (x := xs i) b) z;obtain⟨fn, tmps, assign, body, hy, hR⟩:= hYY
    have S : RoundIn (Fence.wide.inRound l2) 0 Tryz.prog l fn tmps assign body (tick g d (xs i)) _ := ⟨hR.1, fun c cs _ => hR.2 c cs (fun _ h => by cases h)⟩
    have aa : bp Tp Wt.heap.size d (tick g d (xs i)) := ⟨by rw[fm]; exact Nat.le_refl _, fun k o hk I _ => ((dS g (xs i) d).same k (lt_of_block I) (by omega)).trans I⟩;have HK := aB aa;have HYW := aB y;have HR := aB S;replace m := aB m;replace K := aB K
    have hWs : W.heap.size + 1 ≤ d.heap.size := Nat.le_trans L b.size;have tsz2 := aB (fm g (xs i) d);clear hJi D R hb U j z hR S aa y p1 p2 p3 k1 k2 k3 k4 t c2 f2 u b F tsz;gi_wp2_with (refine⟨trivial, rfl, ?_⟩; gi_at_call 95; refine(CallsIn.inRound l2 (callsIn_wide.2 M)).mono ?_; rintro e' w3 ⟨rfl, hw3⟩; obtain rfl : w3 = tick g d (xs i) := hw3; clear M cs2);refine⟨rfl, HR.out.mono ?_⟩;rintro e' w5 ⟨Z, h5⟩;have hY5 := Z.blk HYW.out (Nat.le_refl _) hT
    have v : bp Tp Wt.heap.size d w5 := HK.out.trans (Z.mono (by omega))
    have q : W.heap.size + 1 ≤ w5.heap.size := Nat.le_trans hWs v.size;rcases h5 with⟨rfl, hJ5⟩ | ⟨rfl, hJ5⟩
    · gi_wp2
      exact⟨v, hJ5, q, hY5⟩
    · gi_wp2
      exact⟨v, rfl, hJ5, q⟩
  · rintro D' W' hD hK ⟨hJn, N, u⟩
    gi_wp2;refine⟨by simp, .inl ⟨_, _, rfl, run_takeDeferred hK, ?_⟩⟩;exact⟨_, results_none rfl _ _ _, ⟨_, rfl⟩, by simp; omega, .inl (O _ _ _ hJn (Rec.put hK rfl (by omega) _))⟩
  · rintro D' c i W' hD hK f ⟨rfl, T, N⟩
    gi_wp2;refine⟨by simp, .inl ⟨_, _, rfl, run_takeDeferred hK, ?_⟩⟩;exact⟨_, results_none rfl _ _ _, ⟨_, rfl⟩, by simp; omega, .inr ⟨i, f, P (i + 1) _ _ T (Rec.put hK rfl (by omega) _)⟩⟩
theorem jS{Tp : TypeId → Prop}{t N n g0:Nat}(IT : ItrX Tp g0 x0 xs t lb N Ar Rd){assign body:Code}{Q : Exit → Act → World → Prop}{a:Act}(hg : a.eval g = .func (.func t) #[] lb)(eg : ∀ args w, (callFunc t args).run Tryz.prog w = .ok (.enter t args) w)(C : ∀ i args n V W, Ar i args n V → Cel V W → Ar i args n W)(T : ∀ i args n V, Ar i args n V → args.size = ps.size)(K : World → Prop)(I H : Nat → World → Prop)(Ix : Code → Nat → World → Prop)(y : St w.heap.size K)(M : ∀ i, St w.heap.size (I i))(A : ∀ i, St w.heap.size (H i))(r : ∀ c i, St w.heap.size (Ix c i))(hgw : g0 < w.heap.size)(aa : ∀ V, K V → V.cell? ⟨g0, 2, none⟩ = some (.int .i64 x0) ∧ V.frozen? ⟨g0, 2, none⟩ = false ∧ Rd V ∧ I 0 (tick g0 V x0))(hx : ∀ i V, I i V → V.cell? ⟨g0, 2, none⟩ = some (.int .i64 ((xs i : Nat) : Int)) ∧ V.frozen? ⟨g0, 2, none⟩ = false ∧ Rd V ∧ (i < N → H i (tick g0 V (xs i))))(h0 : K w)(l : zM Tp w N n ps assign body a.tmps Ar H I Ix)(o : ∀ D W, w.heap.size ≤ D → W.heap[D]? = some (.deferred (some [])) → I N W → Q .normal { a with defers := { target := .collected D, args := #[] } :: a.defers } W)(q : ∀ D c i W, w.heap.size ≤ D → W.heap[D]? = some (.deferred (some [])) → i < N → Ix c (i + 1) W → c.wpIn Fence.wide n Tryz.prog Q { a with defers := { target := .collected D, args := #[] } :: a.defers } W) :
    (Code.rangeFunc g ps assign body).wpIn Fence.wide n Tryz.prog Q a w := by
  refine wpIn_rangeFunc ?_
  intro fn _;obtain⟨d, f⟩ : ∃ d, (w.alloc (.deferred (some []))).alloc (.loop (de fn a.tmps ps assign body w.heap.size .ready none)) = d := ⟨_, rfl⟩
  have Z : Below w.heap.size w d := by rw[← f]; exact aj (ae w _) (ae _ _)
  have hs1 : d.heap.size = w.heap.size + 1 + 1 := by rw[← f]; simp
  have ab : d.heap[w.heap.size + 1]? = some (.loop (de fn a.tmps ps assign body w.heap.size .ready none)) := by
    rw[← f]; have := World.alloc_heap_new (w.alloc (.deferred (some []))) (.loop (de fn a.tmps ps assign body w.heap.size .ready none)); rwa [World.size_alloc] at this
  have L : d.heap[w.heap.size]? = some (.deferred (some [])) := by
    rw[← f]; exact(Below.heap_alloc _ _ _ (by simp)).trans (World.alloc_heap_new w _)
  have t1 : ∀ V x, (tick g0 V x).heap[w.heap.size + 1]? = V.heap[w.heap.size + 1]? := fun V x => fB (by omega)
  have t2 : ∀ V x, (tick g0 V x).heap[w.heap.size]? = V.heap[w.heap.size]? := fun V x => fB (by omega)
  refine⟨w.heap.size + 1, [{ target := .collected w.heap.size, args := #[] }], d, { target := .fn (.func t) lb, args := #[.func (.yield (w.heap.size + 1)) #[] #[]] }, d, t,
    #[.func (.yield (w.heap.size + 1)) #[] #[]] ++ lb, d, ?_, ?_, ?_, ?_, fun h => (by cases h), ?_⟩
  · rw[← f]; exact run_enterLoop_outer _ _ _ _ _
  · simp only[resolve, hg]
    simp[go_sem]
  · intro f' _; trivial
  · simp[invoke, go_sem, eg]
  · refine callsIn_wide.2 ?_
    refine(IT (w.heap.size + 1)
      (fun W => K W ∧ W.heap[w.heap.size + 1]? = some (.loop (de fn a.tmps ps assign body w.heap.size .ready none)) ∧ W.heap[w.heap.size]? = some (.deferred (some [])))
      (fun i W => I i W ∧ W.heap[w.heap.size + 1]? = some (.loop (de fn a.tmps ps assign body w.heap.size .ready none)) ∧ W.heap[w.heap.size]? = some (.deferred (some [])))
      (fun i W => H i W ∧ W.heap[w.heap.size + 1]? = some (.loop (de fn a.tmps ps assign body w.heap.size .ready none)) ∧ W.heap[w.heap.size]? = some (.deferred (some [])))
      (fun i W => ∃ c, Ix c i W ∧ W.heap[w.heap.size + 1]? = some (.loop (de fn a.tmps ps assign body w.heap.size .done (some c))) ∧ W.heap[w.heap.size]? = some (.deferred (some [])))
      d (fun X Y hx b => ⟨y X Y hx.1 (b.mono (by omega)), b.same _ _ hx.2.1 (.inl (by omega)), b.same _ _ hx.2.2 (.inl (by omega))⟩)
      (fun i X Y hx b => ⟨M i X Y hx.1 (b.mono (by omega)), b.same _ _ hx.2.1 (.inl (by omega)), b.same _ _ hx.2.2 (.inl (by omega))⟩)
      (fun i X Y hx b => ⟨A i X Y hx.1 (b.mono (by omega)), b.same _ _ hx.2.1 (.inl (by omega)), b.same _ _ hx.2.2 (.inl (by omega))⟩)
      (fun i X Y hx b => by obtain⟨c, U, J, S⟩:= hx; exact⟨c, r c i X Y U (b.mono (by omega)), b.same _ _ J (.inl (by omega)), b.same _ _ S (.inl (by omega))⟩)
      (by omega)
      (fun V hv => by obtain⟨q1, G, u, z⟩:= aa V hv.1; exact⟨q1, G, u, z, (t1 V x0).trans hv.2.1, (t2 V x0).trans hv.2.2⟩)
      (fun i V hv => by obtain⟨q1, G, u, z⟩:= hx i V hv.1; exact⟨q1, G, u, fun hi => ⟨z hi, (t1 V _).trans hv.2.1, (t2 V _).trans hv.2.2⟩⟩)
      ?_ ⟨y _ _ h0 (Rec.of Z), ab, L⟩).mono ?_
    · rintro i args V V' p ⟨hi, m, s⟩ O hb R
      have b := l _ i args V V' (by omega) (lt_of_block m) ⟨_, m⟩ p hi hb R;refine(iV (Tp := Tp) (B := w.heap.size) (i := 2 * i + 1) (I := p6 I H) (Ix := fun c k => Ix c (k / 2)) (Ar := fun k => Ar (k / 2)) (fun j => C (j / 2)) (fun j => by unfold p6; split; exact M _; exact A _) (fun c j => r c _) (by omega) m (by rw[ju]; exact hi) hb (by rw[show (2 * i + 1) / 2 = i by omega]; exact R) (T _ _ _ _ R) (wpIn_mono b ?_)).mono ?_
      · intro e a1 d h
        cases e <;> first
          | (refine⟨h.1, fun V2 W2 q1 G u z q5 q6 q7 => ?_⟩
             rw[ju] at q1;rw[show (2 * i + 1) / 2 = i by omega] at u
             exact wpIn_mono (h.2 V2 W2 q1 G u z q5 q6 q7) (fun e a W h => nU h))
          | exact h.elim
      · rintro e V'' ⟨F, h⟩
        have E := F.same _ _ (Nat.le_refl _) (by omega) ((hb.block _ (lt_of_block s)).trans s) lV;refine⟨F.from (by omega) (by omega), h.imp (fun h => ⟨h.1, by have := h.2.1; rw[j8] at this; exact this, h.2.2, E⟩) (fun h => ?_)⟩;obtain⟨U, c, J, S⟩:= h;rw[show (2 * i + 1 + 1) / 2 = i + 1 by omega] at J;exact⟨U, c, J, S, E⟩
    · rintro e W2 ⟨⟨v, rfl⟩, O, ⟨hi, m, s⟩ | ⟨i, p, c, hi, m, s⟩⟩
      · exact⟨none, _, run_endLoop (P := Tryz.prog) m (by simp[de]), o _ _ (Nat.le_refl _) ((World.putObj_heap_other (by omega)).trans s) (M _ _ _ hi (Rec.put m rfl (by omega) _))⟩
      · exact⟨some c, _, run_endLoop (P := Tryz.prog) m (by simp[de]), q _ c i _ (Nat.le_refl _) ((World.putObj_heap_other (by omega)).trans s) p (r c _ _ _ hi (Rec.put m rfl (by omega) _))⟩
end
end Kv
end
section
namespace Kv
open Go.RowKit Go.Lib Pg
attribute [local go_sem] Oper.semAt_some
theorem sgetG {w:World} {K D:Nat->Prop} {g n N:Nat} {E:aE} {W:List aE} {kv:Value} {k:List Int} (h:SA w K D g E W n N) (d:BK w K kv k) (hn:n<=4000000000000000000) (x:N<=100000000) :
  Calls Tryz.prog 127 #[.pointer (some ⟨g,0,none⟩),kv] w fun e w'=>∃ v,e=.returned (.tuple #[v,.bool (look E k).isSome])/\OB w' (w.heap.size <= ·) v ((look E k).getD [])/\SA w' K D g E W (n + 1) N/\Chg (· = g) w w':=by
 obtain⟨F,V,m,Q,C,T,z,hX,rfl,p⟩:=h.open;obtain⟨t,c,rfl⟩:=d.shape;have u:=fS hX hn;have G:=aB hX;have y:=aB p;have s:=aB d;clear hX p d h;obtain⟨kn,l⟩:∃ kn,Hid (k.length=kn):=⟨_,rfl⟩
 rw[l.out] at s ⊢;have o:=fun w' (X:SX w' K D F V g m Q C T z (n + 1) N) (d:By w' (.slice t kn c) k)=>jR X d x
 obtain⟨r,q⟩:∃ r,(look Q.flatten k).isSome=r:=⟨_,rfl⟩
 obtain⟨L,hL⟩:∃ L,(look Q.flatten k).getD []=L:=⟨_,rfl⟩
 rw[q,hL] at o ⊢;clear q hL;go_enter Tryz.func127,Tryz.ntmps127;go_wp2_with first
  | (go_at_call 95; go_must (refine u.mono ?_); rintro e A ⟨rfl,f,j⟩; have c0:=f.blk.cell (i:=0) rfl)
  | (go_at_call 170; go_must (refine(o _ f (s.out _ (G.out.kg j))).mono ?_); rintro e H ⟨v,rfl,O,B⟩; obtain⟨a1,c1,rfl⟩:∃ a1 c1,v=.slice a1 L.length c1:=(by obtain⟨a1,c1,e,_⟩:=O.by.ex; exact⟨a1,c1,e⟩); generalize L.length=J at *)
 go_ret2;exact⟨_,rfl,O.mono (fun b _ h=>by have:=j.size; have I:A.heap.size<=b:=h; show w.heap.size<=b; omega),(f.keep B).shut rfl y.out,ff j (Chg.of B)⟩
end Kv
namespace Fo
open Go.RowKit Go.Lib Pg Lim Gl Kv Bk Pw
attribute [local go_sem] Oper.semAt_some
set_option linter.unusedVariables false
set_option linter.unusedSimpArgs false
structure Rg (X:Nat->Prop) (B:Nat) (w0 w:World) (K:Nat->Prop) (g:Nat) (E:aE) (W:List aE) (n N:Nat):Prop where
 sx:Sx B w K g E W n N
 cg:Chg X w0 w
 xg:X g
section
variable {X:Nat->Prop} {B g n N n' N' x:Nat} {w0 w w':World} {K:Nat->Prop} {E:aE} {W:List aE}
section
variable {cs:List Value}
theorem Rg.keep(h:Rg X B w0 w K g E W n N)(b:Below w.heap.size w w'):Rg X B w0 w' K g E W n N:=⟨h.sx.keep b,h.cg.trans (Chg.of (F:=fun _=>False) b) (fun _ _ h=>h.elim),h.xg⟩
theorem Rg.drew(h:Rg X B w0 w K g E W n N):Rg X B w0 w.drew K g E W n N:=h.keep (Below.refl _ _).drew
theorem Rg.size(h:Rg X B w0 w K g E W n N):w0.heap.size<=w.heap.size:=h.cg.size
theorem Rg.lt(h:Rg X B w0 w K g E W n N){b:Nat}(hb:K b):b < w.heap.size:=h.sx.sa.lt hb
theorem Rg.new(h:Rg X B w0 w K g E W n N)(hx:w.heap.size<=x):¬ K x:=fun hk=>by have:=h.lt hk; omega
theorem Rg.cell{t:TypeId}(h:Rg X B w0 w K g E W n N)(hX:Blk w x cs t)(C:Chg (· = x) w w')(hx:w0.heap.size<=x\/X x)(f:¬ K x)(c:t≠5):Rg X B w0 w' K g E W n N:=by
 refine⟨⟨h.sx.sa.chg C (fun b e hb=>f ((show b=x from e)▸hb)) (fun b e d k => ?_),Nat.le_trans h.sx.lo C.size,h.sx.kb⟩,h.cg.trans C (fun b hb e=>by have a:b=x:=e; subst a; exact hx.elim (fun h=>by omega) id),h.xg⟩
 have a:b=x:=e;subst a;exact c (hX.eq k).2
theorem Rg.op(h:Rg X B w0 w K g E W n N)(S:Sx B w' K g E W n' N')(C:Chg (· = g) w w'):Rg X B w0 w' K g E W n' N':=⟨S,h.cg.trans C (fun b _ e=>(show b=g from e)▸h.xg),h.xg⟩
theorem Rg.top(h:Rg X B w0 w K g E W n N):K g:=h.sx.sa.top
theorem rg_of(h:Sx B w K g E W n N)(hX:X g):Rg X B w w K g E W n N:=⟨h,Chg.refl _ _,hX⟩
end
end
section
variable {g B n N:Nat}{w:World}{K:Nat->Prop}{E:aE}{W:List aE}{kv:Value}{k:List Int}{id p:Int}{aR aS aF:Option Addr}
theorem ne4{b s:Nat}(h:b < s)(hg:s<=g):g≠b:=by omega
theorem xgetG(h:Sx B w K g E W n N)(b:ByU w kv k)(hn:n<=4000000000000000000)(a:N<=100000000) :
  Calls Tryz.prog 127 #[pg g,kv] w fun e w'=>∃ v,e=.returned (.tuple #[v,.bool (Kv.look E k).isSome])/\ByU w' v ((Kv.look E k).getD [])/\Sx B w' K g E W (n + 1) N/\Chg (· = g) w w':=by
 refine(Kv.sgetG h.sa (h.bk b) hn a).mono ?_
 rintro e w' ⟨v,rfl,O,S,C⟩;exact⟨v,rfl,ByU.of O,⟨S,Nat.le_trans h.lo C.size,h.kb⟩,C⟩
structure FndG(B:Nat)(w:World)(K:Nat->Prop)(g:Nat)(E:aE)(W:List aE)(n N:Nat)(V:Int)(mk:Value->Value)(e:Ending)(w':World):Prop where
 ex:∃ a0 n0 c0,e=.returned (mk (.slice a0 n0 c0))/\∃ z0,Sx B w' K g E W n N/\Chg (· = g) w w'/\Nq w' K z0 a0 n0 c0 V/\n0<=510/\(n0=0\/w.heap.size<=z0)
theorem findG(h:Sx B w K g E W n N)(hid:0<=id/\id < 18446744073709551616)(hn:n + 10<=4000000000000000000)(Q:N + 10<=100000000):Calls Tryz.prog 79 #[pg g,.int .u64 id,.int .u64 p] w (FndG B w K g E W (n + 1) N (hX (got E (Ky.mk 7 id p)) 0) (hmk (hX (got E (Ky.mk 7 id p)) 1) (Kv.look E (Ky.mk 7 id p)).isSome)):=by
 have A:=rg_of (X:=(· = g)) h rfl;refine aO (n:=27) Tryz.func79 rfl (by kernel_rfl) (by kernel_rfl) ?_
 refine ax (aA (ta 6 [.slice none 0 0,.int .u64 0] 116 (pg) ?_));intro v1 g2 a z B;have F:=Or.inl (b:=(fun b=>b=g) g2) (Nat.le_trans A.size z);have s:=A.new z;replace A:=A.keep B;clear B;refine t 7 (.bool false) ?_
 refine ay (ah (ax (aA (t 13 (pg g) ?_))));refine t 14 (.int .u64 id) ?_
 refine t 15 (.int .u64 p) ?_
 refine tc 16 65 #[.int .i64 7,.int .u64 id,.int .u64 p] (vG hid (by decide)) ?_
 rintro _ v5 ⟨H,rfl,q,B⟩;refine⟨_,rfl,?_⟩;replace A:=A.keep B;replace a:=a.keep B;clear B;refine tc 17 127 #[pg g,H] (xgetG A.sx q (by omega) (by omega)) ?_
 rintro _ P ⟨m,rfl,D,S,C⟩;refine⟨_,rfl,?_⟩;have hC:=C.mono (fun b _ (e:b=g)=>e▸A.top);replace a:=a.chg C (fun e=>s (e▸A.top));replace q:=q.chg hC A.sx.sa.kind;replace A:=A.op S C;clear S hC C;refine t 12 (.tuple #[m,.bool (Kv.look E (Ky.mk 7 id p)).isSome]) ?_
 refine t 18 (m) ?_
 refine t 19 (.bool (Kv.look E (Ky.mk 7 id p)).isSome) ?_
 refine t 8 (m) ?_
 refine t 9 (.bool (Kv.look E (Ky.mk 7 id p)).isSome) ?_
 refine ay (ah (aY [(6,pg g2),(7,.bool false),(8,m),(9,.bool (Kv.look E (Ky.mk 7 id p)).isSome)] (by kernel_rfl) ?_));refine ax (aA (t 21 (m) ?_));refine tc 22 128 #[m] (ve D (AK A.sx _)) ?_
 rintro _ v10 ⟨d,f,i,rfl,⟨I,G⟩,B⟩;refine⟨_,rfl,?_⟩;obtain⟨O,u,k⟩:=uS I (fun b hb=>A.lt hb);clear I;have r:=ne2 u a.lt;have x:=ne3 u A.size;clear u;replace A:=A.keep B;replace a:=a.keep B;replace q:=eO q B;replace D:=eO D B;clear B;clear D;refine t 20 (.tuple #[.agg #[.slice d f i,.int .u64 (hX (got E (Ky.mk 7 id p)) 1)],.int .i64 (Rc.iE (Rc.cQ (got E (Ky.mk 7 id p))))]) ?_
 refine t 23 (.agg #[.slice d f i,.int .u64 (hX (got E (Ky.mk 7 id p)) 1)]) ?_
 refine t 24 (.int .i64 (Rc.iE (Rc.cQ (got E (Ky.mk 7 id p))))) ?_
 have J:=a.lt;refine ta 10 [.slice none 0 0,.int .u64 0] 116 (pg) ?_
 intro v11 g12 c l B;have y:=Or.inl (b:=(fun b=>b=g) g12) (Nat.le_trans A.size l);have v:=A.new l;have o:=ne1 k.lt l;have j:=ne4 a.lt l;replace A:=A.keep B;replace a:=a.keep B;replace q:=eO q B;replace k:=k.keep B;clear B;refine ts c 0 (.agg #[.slice d f i,.int .u64 (hX (got E (Ky.mk 7 id p)) 1)]) [.slice d f i,.int .u64 (hX (got E (Ky.mk 7 id p)) 1)] [.slice d f i,.int .u64 (hX (got E (Ky.mk 7 id p)) 1)] ?_
 intro L Y C;replace A:=Rg.cell A c C y v (by decide);replace a:=a.chg C j.symm;replace q:=jt q c C (by decide);replace k:=k.cell C o;clear C c;have c:=Y;clear Y;refine t 11 (.int .i64 (Rc.iE (Rc.cQ (got E (Ky.mk 7 id p))))) ?_
 refine ay (ah (ax (aA (tlr 25 [.slice d f i,.int .u64 (hX (got E (Ky.mk 7 id p)) 1)] c 0 ?_))));refine t 26 (.bool (Kv.look E (Ky.mk 7 id p)).isSome) ?_
 refine ts a 0 (.agg #[.slice d f i,.int .u64 (hX (got E (Ky.mk 7 id p)) 1)]) [.slice d f i,.int .u64 (hX (got E (Ky.mk 7 id p)) 1)] [.slice d f i,.int .u64 (hX (got E (Ky.mk 7 id p)) 1)] ?_
 intro M Y C;replace A:=Rg.cell A a C F s (by decide);replace q:=jt q a C (by decide);replace k:=k.cell C r;replace c:=c.chg C j;clear C a;have a:=Y;clear Y;refine t 7 (.bool (Kv.look E (Ky.mk 7 id p)).isSome) ?_
 refine ay (ah (aV (aX (.tuple #[.agg #[.slice d f i,.int .u64 (hX (got E (Ky.mk 7 id p)) 1)],.bool (Kv.look E (Ky.mk 7 id p)).isSome]) (rO 6 7 (T:=116) (by kernel_rfl) (by kernel_rfl) (by kernel_rfl) (lr a 0)) ?_)));exact⟨_,_,_,rfl,_,A.sx,A.cg,k,G,x⟩
theorem kB(h:Sx B w K g E W n N)(hid:0<=id/\id < 18446744073709551616)(hn:n + 10<=4000000000000000000)(H:N + 10<=100000000):Calls Tryz.prog 49 #[pg g,.int .u64 id,.int .u64 p] w (FndG B w K g E W (n + 1) N (hX (got E (Ky.mk 7 id p)) 0) rmk):=by
 have A:=rg_of (X:=(· = g)) h rfl;refine aO (n:=18) Tryz.func49 rfl (by kernel_rfl) (by kernel_rfl) ?_
 refine ax (aA (ta 6 [.slice none 0 0] 32 (pg) ?_));intro v1 g2 a v B;have x:=Or.inl (b:=(fun b=>b=g) g2) (Nat.le_trans A.size v);have q:=A.new v;replace A:=A.keep B;clear B;refine ay (ah (ax (aA (t 10 (pg g) ?_))));refine t 11 (.int .u64 id) ?_
 refine t 12 (.int .u64 p) ?_
 refine tc 13 79 #[pg g,.int .u64 id,.int .u64 p] (findG A.sx hid (by omega) (by omega)) ?_
 rintro _ v4 ⟨d,f,c,rfl,F,S,C,i,y,r⟩;refine⟨_,rfl,?_⟩;have m:=ne2 r a.lt;have s:=ne3 r A.size;clear r;have hC:=C.mono (fun b _ (e:b=g)=>e▸A.top);replace a:=a.chg C (fun e=>q (e▸A.top));replace A:=A.op S C;clear S hC C;refine t 9 (.tuple #[.agg #[.slice d f c,.int .u64 (hX (got E (Ky.mk 7 id p)) 1)],.bool (Kv.look E (Ky.mk 7 id p)).isSome]) ?_
 refine t 14 (.agg #[.slice d f c,.int .u64 (hX (got E (Ky.mk 7 id p)) 1)]) ?_
 refine t 15 (.bool (Kv.look E (Ky.mk 7 id p)).isSome) ?_
 have D:=a.lt;refine ta 7 [.slice none 0 0,.int .u64 0] 116 (pg) ?_
 intro v5 g6 j l B;have z:=Or.inl (b:=(fun b=>b=g) g6) (Nat.le_trans A.size l);have u:=A.new l;have o:=ne1 i.lt l;have k:=ne4 a.lt l;replace A:=A.keep B;replace a:=a.keep B;replace i:=i.keep B;clear B;refine ts j 0 (.agg #[.slice d f c,.int .u64 (hX (got E (Ky.mk 7 id p)) 1)]) [.slice d f c,.int .u64 (hX (got E (Ky.mk 7 id p)) 1)] [.slice d f c,.int .u64 (hX (got E (Ky.mk 7 id p)) 1)] ?_
 intro I Y C;replace A:=Rg.cell A j C z u (by decide);replace a:=a.chg C k.symm;replace i:=i.cell C o;clear C j;have j:=Y;clear Y;refine t 8 (.bool (Kv.look E (Ky.mk 7 id p)).isSome) ?_
 refine ay (ah (aY [(6,pg g2),(7,pg g6)] (by kernel_rfl) ?_));refine ax (aA (t 16 (pg g6) ?_));refine tlr 17 [.slice d f c] j 0 ?_
 refine ts a 0 (.agg #[.slice d f c]) [.slice d f c] [.slice d f c] ?_
 intro G Y C;replace A:=Rg.cell A a C x q (by decide);replace i:=i.cell C m;replace j:=j.chg C k;clear C a;have a:=Y;clear Y;refine ay (ah (aV (aX (.agg #[.slice d f c]) (rsc 6 (T:=32) (by kernel_rfl) (by kernel_rfl) (lr a 0)) ?_)));exact⟨_,_,_,rfl,_,A.sx,A.cg,i,y,s⟩
structure EaE(B:Nat)(w:World)(K:Nat->Prop)(g br bf:Nat)(E:aE)(W:List aE)(n N:Nat)(V F:Int)(m:Nat)(e:Ending)(w':World):Prop where
 ex:∃ a1 n1 c1 z1 a2 n2 c2 z2,e=.returned (.tuple #[])/\Sx B w' K g E W n N/\Chg (fun b=>b=g\/b=br\/b=bf) w w'/\Blk w' br [.slice a1 n1 c1] 32/\Nq w' K z1 a1 n1 c1 V/\n1<=m/\(n1=0\/w.heap.size<=z1)/\Blk w' bf [.slice a2 n2 c2] 32/\Nq w' K z2 a2 n2 c2 F/\n2<=510/\(n2=0\/w.heap.size<=z2)
theorem rA{bs bi z bk bf:Nat}{V cR zR:Nat}{xR:Int}{nS cS zS:Nat}{xS:Int}{nF cF zF:Nat}{xF:Int}(h:Sx B w K g E W n N)(hid:0<=id/\id < 18446744073709551616)(x:Nq w K zR aR V cR xR)(mR:V<=10000000000)(y:Nq w K zS aS nS cS xS)(mS:nS<=10000000000)(v:Nq w K zF aF nF cF xF)(mF:nF<=10000000000)(o:Blk w bs [pg g] 37)(m:Blk w bi [.int .u64 id] 22)(j:Blk w z [.slice aR V cR] 32)(l:Blk w bk [.slice aS nS cS] 32)(f:Blk w bf [.slice aF nF cF] 32)(nXs:¬ K bs)(nXi:¬ K bi)(nXr:¬ K z)(nXk:¬ K bk)(nXf:¬ K bf)(ab:z≠bk)(L:z≠bf)(dbk_bf:bk≠bf)(dbs_br:bs≠z)(Z:bs≠bf)(dbi_br:bi≠z)(dbi_bf:bi≠bf)(eQRbr:V=0\/zR≠z)(eQRbf:V=0\/zR≠bf)(eQSbr:nS=0\/zS≠z)(eQSbf:nS=0\/zS≠bf)(eQFbr:nF=0\/zF≠z)(eQFbf:nF=0\/zF≠bf)(hn:n + 10<=4000000000000000000)(hN:N + 10<=100000000):Calls Tryz.prog 50 #[.int .u64 p,pg bs,pg bi,pg z,pg bk,pg bf] w (EaE B w K g z bf E W (n + 1) N (xR + xS * jc (hX (got E (Ky.mk 7 id p)) 0) xF / U36) (hX (got E (Ky.mk 7 id p)) 0) (V + nS + 600)):=by
 have zbr:=Or.inr (a:=w.heap.size<=z) (show z=g\/z=z\/z=bf from .inr (.inl rfl));have zbf:=Or.inr (a:=w.heap.size<=bf) (show bf=g\/bf=z\/bf=bf from .inr (.inr rfl));have A:=rg_of (X:=fun b=>b=g\/b=z\/b=bf) h (.inl rfl);refine aO (n:=20) Tryz.func50 rfl (by kernel_rfl) (by kernel_rfl) ?_
 refine ax (aA (tl 8 (pg g) o 0 ?_));refine tl 9 (.int .u64 id) m 0 ?_
 refine t 10 (.int .u64 p) ?_
 refine tc 11 49 #[pg g,.int .u64 id,.int .u64 p] (kB A.sx hid (by omega) (by omega)) ?_
 rintro _ v2 ⟨s,u,r,rfl,zr1,S,C,d,mr1,J⟩;refine⟨_,rfl,?_⟩;have eQr1bs:=ne2 J o.lt;have eQr1bi:=ne2 J m.lt;have eQr1br:=ne2 J j.lt;have eQr1bk:=ne2 J l.lt;have aa:=ne2 J f.lt;have fQr1:=ne3 J A.size;clear J;have hC:=C.mono (fun b _ (e:b=g)=>e▸A.top);replace x:=x.op (fun _ h=>.inl h) hC;replace y:=y.op (fun _ h=>.inl h) hC;replace v:=v.op (fun _ h=>.inl h) hC;replace o:=o.chg C (fun e=>nXs (e▸A.top));replace m:=m.chg C (fun e=>nXi (e▸A.top));replace j:=j.chg C (fun e=>nXr (e▸A.top));replace l:=l.chg C (fun e=>nXk (e▸A.top));replace f:=f.chg C (fun e=>nXf (e▸A.top));replace A:=A.op S C;clear S hC C;have lXs:=o.lt;have lXi:=m.lt;have lXr:=j.lt;have lXk:=l.lt;have lXf:=f.lt;refine ta 7 [.slice none 0 0] 32 (pg) ?_
 intro v3 g4 c q B;have zg4:=Or.inl (b:=(fun b=>b=g\/b=z\/b=bf) g4) (Nat.le_trans A.size q);have nXg4:=A.new q;have eQRg4:=ne1 x.lt q;have eQSg4:=ne1 y.lt q;have eQFg4:=ne1 v.lt q;have eQr1g4:=ne1 d.lt q;have dg4_bs:=ne4 o.lt q;have dg4_bi:=ne4 m.lt q;have M:=ne4 j.lt q;have dg4_bk:=ne4 l.lt q;have O:=ne4 f.lt q;replace A:=A.keep B;replace x:=x.keep B;replace y:=y.keep B;replace v:=v.keep B;replace o:=o.keep B;replace m:=m.keep B;replace j:=j.keep B;replace l:=l.keep B;replace f:=f.keep B;replace d:=d.keep B;clear B;refine ts c 0 (.agg #[.slice s u r]) [.slice s u r] [.slice s u r] ?_
 intro v5 Y C;replace A:=Rg.cell A c C zg4 nXg4 (by decide);replace x:=x.cell C eQRg4;replace y:=y.cell C eQSg4;replace v:=v.cell C eQFg4;replace o:=o.chg C dg4_bs.symm;replace m:=m.chg C dg4_bi.symm;replace j:=j.chg C M.symm;replace l:=l.chg C dg4_bk.symm;replace f:=f.chg C O.symm;replace d:=d.cell C eQr1g4;clear C c;have c:=Y;clear Y;refine ay (ah (ax ?_));replace A:=A.drew;replace x:=x.drew;replace y:=y.drew;replace v:=v.drew;replace o:=o.drew;replace m:=m.drew;replace j:=j.drew;replace l:=l.drew;replace f:=f.drew;replace d:=d.drew;replace c:=c.drew;refine cy (fun w'=>Blk w' z [.slice aR V cR] 32/\Blk w' bk [.slice aS nS cS] 32/\Blk w' g4 [.slice s u r] 32/\Blk w' bf [.slice aF nF cF] 32) (fun i=>decide (7<=i)) ⟨j,l,c,f⟩ ?_
 refine zlr 0 12 [.slice aR V cR] (fun _ h=>h.1) 0 ?_
 refine zlr 1 13 [.slice aS nS cS] (fun _ h=>h.2.1) 0 ?_
 refine zlr 2 14 [.slice s u r] (fun _ h=>h.2.2.1) 0 ?_
 refine zlr 3 15 [.slice aF nF cF] (fun _ h=>h.2.2.2) 0 ?_
 refine zc 4 16 52 #[.agg #[.slice s u r],.agg #[.slice aF nF cF]] (qz d.nat (by omega) v.nat (by omega)) ?_
 rintro _ v7 ⟨aq6,nq6,cq6,zq6,rfl,Mq6,D,mq6,B⟩;have eQq6bs:=ne2 D o.lt;have eQq6bi:=ne2 D m.lt;have eQq6br:=ne2 D j.lt;have eQq6bk:=ne2 D l.lt;have eQq6bf:=ne2 D f.lt;have eQq6g4:=ne2 D c.lt;have fQq6:=ne3 D A.size;have F:=eu A.sx Mq6 D;clear Mq6 D;replace A:=A.keep B;replace x:=x.keep B;replace y:=y.keep B;replace v:=v.keep B;replace o:=o.keep B;replace m:=m.keep B;replace j:=j.keep B;replace l:=l.keep B;replace f:=f.keep B;replace d:=d.keep B;replace c:=c.keep B;clear B;refine⟨_,rfl,⟨j,l,c,f⟩,?_⟩;refine zc 5 17 51 #[.agg #[.slice aS nS cS],.agg #[.slice aq6 nq6 cq6]] (eMul y.nat (by omega) F.nat (by omega)) ?_
 rintro _ v9 ⟨aq8,nq8,cq8,zq8,rfl,Mq8,G,mq8,B⟩;have eQq8bs:=ne2 G o.lt;have eQq8bi:=ne2 G m.lt;have eQq8br:=ne2 G j.lt;have eQq8bk:=ne2 G l.lt;have eQq8bf:=ne2 G f.lt;have eQq8g4:=ne2 G c.lt;have fQq8:=ne3 G A.size;have I:=eu A.sx Mq8 G;clear Mq8 G;replace A:=A.keep B;replace x:=x.keep B;replace y:=y.keep B;replace v:=v.keep B;replace o:=o.keep B;replace m:=m.keep B;replace j:=j.keep B;replace l:=l.keep B;replace f:=f.keep B;replace d:=d.keep B;replace c:=c.keep B;replace F:=F.keep B;clear B;refine⟨_,rfl,⟨j,l,c,f⟩,?_⟩;refine zc 6 18 27 #[.agg #[.slice aR V cR],.agg #[.slice aq8 nq8 cq8]] (eAdd x.nat (by omega) I.nat (by omega)) ?_
 rintro _ v11 ⟨P,Q,R,zq10,rfl,Mq10,k,mq10,B⟩;have eQq10bs:=ne2 k o.lt;have eQq10bi:=ne2 k m.lt;have U:=ne2 k j.lt;have eQq10bk:=ne2 k l.lt;have T:=ne2 k f.lt;have eQq10g4:=ne2 k c.lt;have fQq10:=ne3 k A.size;have H:=eu A.sx Mq10 k;clear Mq10 k;replace A:=A.keep B;replace x:=x.keep B;replace y:=y.keep B;replace v:=v.keep B;replace o:=o.keep B;replace m:=m.keep B;replace j:=j.keep B;replace l:=l.keep B;replace f:=f.keep B;replace d:=d.keep B;replace c:=c.keep B;replace F:=F.keep B;replace I:=I.keep B;clear B;refine⟨_,rfl,⟨j,l,c,f⟩,?_⟩;refine oN ?_
 refine ys 7 j 0 (.agg #[.slice P Q R]) [.slice P Q R] [.slice P Q R] ?_
 intro v12 Y C;replace A:=Rg.cell A j C zbr nXr (by decide);replace x:=x.cell C eQRbr;replace y:=y.cell C eQSbr;replace v:=v.cell C eQFbr;replace o:=o.chg C dbs_br;replace m:=m.chg C dbi_br;replace l:=l.chg C ab.symm;replace f:=f.chg C L.symm;replace d:=d.cell C eQr1br;replace c:=c.chg C M;replace F:=F.cell C eQq6br;replace I:=I.cell C eQq8br;replace H:=H.cell C U;clear C j;have j:=Y;clear Y;refine oY ?_
 refine ah (aY [(5,pg bf),(7,pg g4)] (by kernel_rfl) ?_);refine aA (tlr 19 [.slice s u r] c 0 ?_);refine ts f 0 (.agg #[.slice s u r]) [.slice s u r] [.slice s u r] ?_
 intro v13 Y C;replace A:=Rg.cell A f C zbf nXf (by decide);replace x:=x.cell C eQRbf;replace y:=y.cell C eQSbf;replace v:=v.cell C eQFbf;replace o:=o.chg C Z;replace m:=m.chg C dbi_bf;replace j:=j.chg C L;replace l:=l.chg C dbk_bf;replace d:=d.cell C aa;replace c:=c.chg C O;replace F:=F.cell C eQq6bf;replace I:=I.cell C eQq8bf;replace H:=H.cell C T;clear C f;have f:=Y;clear Y;refine ay (je (.tuple #[]) (rs0 (by kernel_rfl)) ?_);exact⟨_,_,_,_,_,_,_,_,rfl,A.sx,A.cg,j,H,by omega,fQq10,f,d,by omega,fQr1⟩
end
end Fo
end
end Go.Proofs.YthfepflplbahkaaGreatDoor
