import Derived.Test.YtjejmkcjflhoiaaGreatDoorJas
import Derived.Test.YtjejmkcjflhoiaaGreatDoorJar
set_option maxRecDepth 100000
set_option maxHeartbeats 8000000
namespace Go.Proofs.YtjejmkcjflhoiaaGreatDoor
section
namespace Kv
open Go.RowKit Go.Lib Pg
attribute [local go_sem] Oper.semAt_some
section
variable {X:Nat→Prop}{W1 w:World}{g:Operand}{x0:Nat}{xs:Nat→Nat}{E:List En}{lb:Array Value}{Ar:Nat→Array Value→Nat→World→Prop}{Rd:World→Prop}{ps:Array Tmp}
def ItrX(Tp:TypeId->Prop)(g x0:Nat)(xs:Nat->Nat)(gf:Nat)(lb:Array Value)(N:Nat)(Ar:Nat->Array Value->Nat->World->Prop)(Rd:World->Prop):Prop :=
 ∀ (l:Nat) (J0:World->Prop) (J Jt Jx:Nat->World->Prop) (W:World),St W.heap.size J0->(∀ i,St W.heap.size (J i))->(∀ i,St W.heap.size (Jt i))->(∀ i,St W.heap.size (Jx i))->g < W.heap.size ->
  (∀ V,J0 V->V.cell? ⟨g,2,none⟩=some (.int .i64 x0)/\V.frozen? ⟨g,2,none⟩=false/\Rd V/\J 0 (tick g V x0)) ->
  (∀ i V,J i V->V.cell? ⟨g,2,none⟩=some (.int .i64 ((xs i:Nat):Int))/\V.frozen? ⟨g,2,none⟩=false/\Rd V/\(i < N->Jt i (tick g V (xs i)))) ->
  (∀ i args V V',i < N->Jt i V->W.heap.size<=V.heap.size->Below V.heap.size V V'->Ar i args V.heap.size V'->YieldAt Fence.wide 0 Tryz.prog l args V' fun e V''=>bL Tp W.heap.size V' V''/\((e=.returned (.bool true)/\J (i+1) V'')\/(e=.returned (.bool false)/\Jx (i+1) V''))) ->
  J0 W ->
  Calls Tryz.prog gf (#[.func (.yield l) #[] #[]] ++ lb) W fun e W'=>(∃ v,e=.returned v)/\W.heap.size<=W'.heap.size/\(J N W'\/∃ i,i < N/\Jx (i+1) W')
theorem oE{Tp:TypeId→Prop}{g bs1 bs2 bw:Nat}(IT:Itr Tp 114 #[.pointer (some ⟨bw,0,none⟩)] E.length (ArC E) (fun V=>Chg X W1 V))(hT:¬ Tp 172)(hx:x0≤3000000000000000000)(hxs:∀ i,i < E.length→xs i≤3000000000000000000) :
    ItrX Tp g x0 xs 164 #[.pointer (some ⟨bs1,0,none⟩),.pointer (some ⟨bs2,0,none⟩)] E.length (ArC E) (RdC X W1 g bs1 bs2 bw):=by
  intro l J0 J Jt Jx W hS0 F hSt T hgW G hJ hY h0;have B1:=ae W (.cells #[.func (.yield l) #[] #[]] 172);have Y1:=aE W [.func (.yield l) #[] #[]] 172;have J1:=hS0 _ _ h0 (Rec.of B1);obtain⟨q1,q2,⟨r1,r2,r3,r4⟩,q3⟩:= G _ J1
  have s1:(W.alloc (.cells #[.func (.yield l) #[] #[]] 172)).heap.size=W.heap.size+1:=by simp
  have cs:=r2.cell (i:=0) rfl;have uc:=kW (g:=g) q1 q2 (by omega) (by omega);have Yt:=Y1.chg (eu g x0 _) (by omega);have K:=(hJ 0 _ q3).2.2.1;have cw:=K.2.2.1.cell (i:=0) rfl;have HY:=aD hY;have HJ:=aD hJ;clear G hJ hY h0 J1 B1 Y1 r1 r2 r3 r4 q1 q2;obtain⟨Y,H⟩:∃ Y,Hid (W.alloc (.cells #[.func (.yield l) #[] #[]] 172)=Y):=⟨_,rfl⟩;rw[H.out] at q3 s1 uc Yt K cw;refine(callsIn_wide (n:=0)).1 ?_
  refine callsIn_of_wp_marks Tryz.func164 rfl trivial ?_ rfl;simp only[Tryz.ntmps164,List.size_toArray,List.length_cons,List.length_nil,Nat.reduceAdd,Nat.reduceSub,Array.replicate_succ,Array.replicate_zero,List.push_toArray,List.append_toArray,List.nil_append,List.cons_append];have tsz:=fJ g x0 Y;gi_wp2_with (refine⟨trivial,rfl,?_⟩;gi_at_call 95;rw[H.out];refine(callsIn_wide.2 uc).mono ?_;rintro e' w0 ⟨rfl,hw0⟩;obtain rfl:w0=tick g Y x0:=hw0;clear uc cs);generalize tick g Y x0=Wt at *
  have sT:Wt.heap.size=W.heap.size+1:=by omega
  refine iK IT (by rfl) (enters_of Tryz.func114 (by kernel_rfl) rfl) (fun i args n V V' h hc=>h.cel hc) (fun i args n V h=>by obtain⟨e,kv,vv,s,_,rfl,_⟩:= h;rfl)
    (fun i V=>J i V∧W.heap.size+1≤V.heap.size∧Blk V W.heap.size [.func (.yield l) #[] #[]] 172)
    (fun c i V=>c=.ret∧Jx i V∧W.heap.size+1≤V.heap.size)
    (fun i A B hx C=>⟨F i A B hx.1 (C.mono (by omega)),Nat.le_trans hx.2.1 C.size,e9 hx.2.2 C⟩)
    (fun c i A B hx C=>⟨hx.1,T i A B hx.2.1 (C.mono (by omega)),Nat.le_trans hx.2.2 C.size⟩)
    (fun i V hv=>(HJ.out i V hv.1).2.2.1.1) ⟨q3,by omega,Yt⟩ ?_ ?_ ?_
  · rintro l2 i args V Wv hl hlV hrec f ⟨hJi,D,hY2⟩ hb ⟨e0,kv,vv,s0,he0,rfl,M,aa,_⟩
    obtain⟨ak,nk,hk1⟩:= M.shape;obtain⟨av,nv,hv1⟩:= aa.shape;subst hk1 hv1;simp;gi_wp2;refine⟨Below.refl _ _,?_⟩;intro V2 d L P y b j I m U r hrec2;obtain⟨p1,p2,⟨k1,k2,k3,k4⟩,p3⟩:= HJ.out i V2 L
    have glt:g < V2.heap.size:=by obtain⟨cs,k⟩:= k4;exact k.lt
    have c2:d.cell? ⟨g,2,none⟩=some (.int .i64 ((xs i:Nat):Int)):=by rw[b.cell (p:=⟨g,2,none⟩) glt];exact p1
    have z:∃ cs,Blk d g cs 85:=by obtain⟨cs,k⟩:= k4;exact⟨cs,k.keep b⟩
    have f2:d.frozen? ⟨g,2,none⟩=false:=by obtain⟨cs,k⟩:= z;exact k.free 2
    have cs2:=(k2.keep b).cell (i:=0) rfl;have hxi:=hxs i f;have O:=kW (g:=g) c2 f2 (by omega) (by omega);have u:=(y.keep b).chg (eu g (xs i) d) (by omega);have yb:=u.cell (i:=0) rfl;have v:=zM (x:=xs i) j z;rw[← fJ g (xs i) V2] at v;have hYY:=HY.out i _ _ _ f (p3 f) (by rw[fJ];omega) (uX (x:=xs i) b) v;obtain⟨fn,tmps,assign,body,hy,hR⟩:= hYY
    have Q:RoundIn (Fence.wide.inRound l2) 0 Tryz.prog l fn tmps assign body (tick g d (xs i)) _:=⟨hR.1,fun c cs _=>hR.2 c cs (fun _ h=>by cases h)⟩
    have N:bL Tp Wt.heap.size d (tick g d (xs i)):=⟨by rw[fJ];exact Nat.le_refl _,fun k o hk h0 _=>((eu g (xs i) d).same k (lt_of_block h0) (by omega)).trans h0⟩;have HK:=aD N;have HYW:=aD u;have HR:=aD Q;replace m:=aD m;replace U:=aD U
    have hWs:W.heap.size+1≤d.heap.size:=Nat.le_trans P b.size;have tsz2:=aD (fJ g (xs i) d);clear hJi M aa hb I j v hR Q N u p1 p2 p3 k1 k2 k3 k4 z c2 f2 y b L tsz;gi_wp2_with (refine⟨trivial,rfl,?_⟩;gi_at_call 95;refine(CallsIn.inRound l2 (callsIn_wide.2 O)).mono ?_;rintro e' w3 ⟨rfl,hw3⟩;obtain rfl:w3=tick g d (xs i):=hw3;clear O cs2);refine⟨rfl,HR.out.mono ?_⟩;rintro e' w5 ⟨S,h5⟩;have hY5:=S.blk HYW.out (Nat.le_refl _) hT
    have t:bL Tp Wt.heap.size d w5:=HK.out.trans (S.mono (by omega))
    have q:W.heap.size+1≤w5.heap.size:=Nat.le_trans hWs t.size;rcases h5 with⟨rfl,hJ5⟩ | ⟨rfl,hJ5⟩
    · gi_wp2
      exact⟨t,hJ5,q,hY5⟩
    · gi_wp2
      exact⟨t,rfl,hJ5,q⟩
  · rintro D' W' hD Z ⟨hJn,D,y⟩
    gi_wp2;refine⟨by simp,.inl ⟨_,_,rfl,run_takeDeferred Z,?_⟩⟩;exact⟨_,results_none rfl _ _ _,⟨_,rfl⟩,by simp;omega,.inl (F _ _ _ hJn (Rec.put Z rfl (by omega) _))⟩
  · rintro D' c i W' hD Z f ⟨rfl,R,D⟩
    gi_wp2;refine⟨by simp,.inl ⟨_,_,rfl,run_takeDeferred Z,?_⟩⟩;exact⟨_,results_none rfl _ _ _,⟨_,rfl⟩,by simp;omega,.inr ⟨i,f,T (i+1) _ _ R (Rec.put Z rfl (by omega) _)⟩⟩
theorem kK{Tp:TypeId→Prop}{u N n g0:Nat}(IT:ItrX Tp g0 x0 xs u lb N Ar Rd){assign body:Code}{Q:Exit→Act→World→Prop}{a:Act}(hg:a.eval g=.func (.func u) #[] lb)(eg:∀ args w,(callFunc u args).run Tryz.prog w=.ok (.enter u args) w)(F:∀ i args n V W,Ar i args n V→Cel V W→Ar i args n W)(hAn:∀ i args n V,Ar i args n V→args.size=ps.size)(J:World→Prop)(I E:Nat→World→Prop)(Ix:Code→Nat→World→Prop)(C:St w.heap.size J)(hI:∀ i,St w.heap.size (I i))(y:∀ i,St w.heap.size (E i))(o:∀ c i,St w.heap.size (Ix c i))(hgw:g0 < w.heap.size)(R:∀ V,J V→V.cell? ⟨g0,2,none⟩=some (.int .i64 x0)∧V.frozen? ⟨g0,2,none⟩=false∧Rd V∧I 0 (tick g0 V x0))(hx:∀ i V,I i V→V.cell? ⟨g0,2,none⟩=some (.int .i64 ((xs i:Nat):Int))∧V.frozen? ⟨g0,2,none⟩=false∧Rd V∧(i < N→E i (tick g0 V (xs i))))(h0:J w)(l:Cj Tp w N n ps assign body a.tmps Ar E I Ix)(p:∀ D W,w.heap.size≤D→W.heap[D]?=some (.deferred (some []))→I N W→Q .normal { a with defers:={ target:=.collected D,args:=#[] } :: a.defers } W)(r:∀ D c i W,w.heap.size≤D→W.heap[D]?=some (.deferred (some []))→i < N→Ix c (i+1) W→c.wpIn Fence.wide n Tryz.prog Q { a with defers:={ target:=.collected D,args:=#[] } :: a.defers } W) :
    (Code.rangeFunc g ps assign body).wpIn Fence.wide n Tryz.prog Q a w:=by
  refine wpIn_rangeFunc ?_
  intro fn _;obtain⟨f,d⟩:∃ f,(w.alloc (.deferred (some []))).alloc (.loop (dv fn a.tmps ps assign body w.heap.size .ready none))=f:=⟨_,rfl⟩
  have L:Below w.heap.size w f:=by rw[← d];exact aB (ae w _) (ae _ _)
  have hs1:f.heap.size=w.heap.size+1+1:=by rw[← d];simp
  have T:f.heap[w.heap.size+1]?=some (.loop (dv fn a.tmps ps assign body w.heap.size .ready none)):=by
    rw[← d];have:=World.alloc_heap_new (w.alloc (.deferred (some []))) (.loop (dv fn a.tmps ps assign body w.heap.size .ready none));rwa [World.size_alloc] at this
  have S:f.heap[w.heap.size]?=some (.deferred (some [])):=by
    rw[← d];exact(Below.heap_alloc _ _ _ (by simp)).trans (World.alloc_heap_new w _)
  have t1:∀ V x,(tick g0 V x).heap[w.heap.size+1]?=V.heap[w.heap.size+1]?:=fun V x=>fT (by omega)
  have t2:∀ V x,(tick g0 V x).heap[w.heap.size]?=V.heap[w.heap.size]?:=fun V x=>fT (by omega)
  refine⟨w.heap.size + 1, [{ target := .collected w.heap.size, args := #[] }], f, { target := .fn (.func u) lb, args := #[.func (.yield (w.heap.size + 1)) #[] #[]] }, f, u,
    #[.func (.yield (w.heap.size+1)) #[] #[]] ++ lb,f,?_,?_,?_,?_,fun h=>(by cases h),?_⟩
  · rw[← d];exact run_enterLoop_outer _ _ _ _ _
  · simp only[resolve,hg]
    simp[go_sem]
  · intro f' _;trivial
  · simp[invoke,go_sem,eg]
  · refine callsIn_wide.2 ?_
    refine(IT (w.heap.size + 1)
      (fun W=>J W∧W.heap[w.heap.size+1]?=some (.loop (dv fn a.tmps ps assign body w.heap.size .ready none))∧W.heap[w.heap.size]?=some (.deferred (some [])))
      (fun i W=>I i W∧W.heap[w.heap.size+1]?=some (.loop (dv fn a.tmps ps assign body w.heap.size .ready none))∧W.heap[w.heap.size]?=some (.deferred (some [])))
      (fun i W=>E i W∧W.heap[w.heap.size+1]?=some (.loop (dv fn a.tmps ps assign body w.heap.size .ready none))∧W.heap[w.heap.size]?=some (.deferred (some [])))
      (fun i W=>∃ c,Ix c i W∧W.heap[w.heap.size+1]?=some (.loop (dv fn a.tmps ps assign body w.heap.size .done (some c)))∧W.heap[w.heap.size]?=some (.deferred (some [])))
      f (fun X Y hx b=>⟨C X Y hx.1 (b.mono (by omega)),b.same _ _ hx.2.1 (.inl (by omega)),b.same _ _ hx.2.2 (.inl (by omega))⟩)
      (fun i X Y hx b=>⟨hI i X Y hx.1 (b.mono (by omega)),b.same _ _ hx.2.1 (.inl (by omega)),b.same _ _ hx.2.2 (.inl (by omega))⟩)
      (fun i X Y hx b=>⟨y i X Y hx.1 (b.mono (by omega)),b.same _ _ hx.2.1 (.inl (by omega)),b.same _ _ hx.2.2 (.inl (by omega))⟩)
      (fun i X Y hx b=>by obtain⟨c,Z,K,O⟩:= hx;exact⟨c,o c i X Y Z (b.mono (by omega)),b.same _ _ K (.inl (by omega)),b.same _ _ O (.inl (by omega))⟩)
      (by omega)
      (fun V hv=>by obtain⟨q1,G,s,H⟩:= R V hv.1;exact⟨q1,G,s,H,(t1 V x0).trans hv.2.1,(t2 V x0).trans hv.2.2⟩)
      (fun i V hv=>by obtain⟨q1,G,s,H⟩:= hx i V hv.1;exact⟨q1,G,s,fun hi=>⟨H hi,(t1 V _).trans hv.2.1,(t2 V _).trans hv.2.2⟩⟩)
      ?_ ⟨C _ _ h0 (Rec.of L),T,S⟩).mono ?_
    · rintro i args V V' q ⟨hi,m,t⟩ M hb U
      have b:=l _ i args V V' (by omega) (lt_of_block m) ⟨_,m⟩ q hi hb U;refine(jB (Tp:=Tp) (B:=w.heap.size) (i:=2 * i+1) (I:=qc I E) (Ix:=fun c k=>Ix c (k / 2)) (Ar:=fun k=>Ar (k / 2)) (fun j=>F (j / 2)) (fun j=>by unfold qc;split;exact hI _;exact y _) (fun c j=>o c _) (by omega) m (by rw[jV];exact hi) hb (by rw[show (2 * i+1) / 2=i by omega];exact U) (hAn _ _ _ _ U) (wpIn_mono b ?_)).mono ?_
      · intro e a1 f h
        cases e <;> first
          | (refine⟨h.1, fun V2 W2 q1 G s H q5 q6 q7 => ?_⟩
             rw[jV] at q1;rw[show (2 * i+1) / 2=i by omega] at s
             exact wpIn_mono (h.2 V2 W2 q1 G s H q5 q6 q7) (fun e a W h=>ph h))
          | exact h.elim
      · rintro e V'' ⟨z,h⟩
        have A:=z.same _ _ (Nat.le_refl _) (by omega) ((hb.block _ (lt_of_block t)).trans t) mP;refine⟨z.from (by omega) (by omega),h.imp (fun h=>⟨h.1,by have:=h.2.1;rw[lI] at this;exact this,h.2.2,A⟩) (fun h=>?_)⟩;obtain⟨Z,c,K,O⟩:= h;rw[show (2 * i+1+1) / 2=i+1 by omega] at K;exact⟨Z,c,K,O,A⟩
    · rintro e W2 ⟨⟨v,rfl⟩,M,⟨hi,m,t⟩ | ⟨i,q,c,hi,m,t⟩⟩
      · exact⟨none,_,run_endLoop (P:=Tryz.prog) m (by simp[dv]),p _ _ (Nat.le_refl _) ((World.putObj_heap_other (by omega)).trans t) (hI _ _ _ hi (Rec.put m rfl (by omega) _))⟩
      · exact⟨some c,_,run_endLoop (P:=Tryz.prog) m (by simp[dv]),r _ c i _ (Nat.le_refl _) ((World.putObj_heap_other (by omega)).trans t) q (o c _ _ _ hi (Rec.put m rfl (by omega) _))⟩
end
end Kv
end
section
namespace Kv
open Go.RowKit Go.Lib Pg
attribute [local go_sem] Oper.semAt_some
theorem sgetG {w:World} {K D:Nat->Prop} {g n N:Nat} {E:aI} {W:List aI} {kv:Value} {k:List Int} (h:SA w K D g E W n N) (d:BK w K kv k) (hn:n<=4000000000000000000) (A:N<=100000000) :
  Calls Tryz.prog 120 #[.pointer (some ⟨g,0,none⟩),kv] w fun e w'=>∃ v,e=.returned (.tuple #[v,.bool (look E k).isSome])/\OB w' (w.heap.size <= ·) v ((look E k).getD [])/\SA w' K D g E W (n+1) N/\Chg (·=g) w w':=by
 obtain⟨F,V,m,Q,x,T,C,hX,rfl,s⟩:=h.open;obtain⟨t,c,rfl⟩:=d.shape;have u:=gw hX hn;have G:=aD hX;have z:=aD s;have q:=aD d;clear hX s d h;obtain⟨kn,f⟩:∃ kn,Hid (k.length=kn):=⟨_,rfl⟩
 rw[f.out] at q ⊢;have o:=fun w' (X:SX w' K D F V g m Q x T C (n+1) N) (d:By w' (.slice t kn c) k)=>jU X d A
 obtain⟨r,p⟩:∃ r,(look Q.flatten k).isSome=r:=⟨_,rfl⟩
 obtain⟨L,hL⟩:∃ L,(look Q.flatten k).getD []=L:=⟨_,rfl⟩
 rw[p,hL] at o ⊢;clear p hL;go_enter Tryz.func120,Tryz.ntmps120;go_wp2_with first
  | (go_at_call 95;go_must (refine u.mono ?_);rintro e y ⟨rfl,j,l⟩;have c0:=j.blk.cell (i:=0) rfl)
  | (go_at_call 165;go_must (refine(o _ j (q.out _ (G.out.kg l))).mono ?_);rintro e J ⟨v,rfl,O,B⟩;obtain⟨a1,c1,rfl⟩:∃ a1 c1,v=.slice a1 L.length c1:=(by obtain⟨a1,c1,e,_⟩:=O.by.ex;exact⟨a1,c1,e⟩);generalize L.length=I at *)
 go_ret2;exact⟨_,rfl,O.mono (fun b _ h=>by have:=l.size;have H:y.heap.size<=b:=h;show w.heap.size<=b;omega),(j.keep B).shut rfl z.out,fA l (Chg.of B)⟩
end Kv
namespace Fo
open Go.RowKit Go.Lib Pg Lim Gl Kv Bk Pw
attribute [local go_sem] Oper.semAt_some
set_option linter.unusedVariables false
set_option linter.unusedSimpArgs false
structure Rg (X:Nat->Prop) (B:Nat) (w0 w:World) (K:Nat->Prop) (g:Nat) (E:aI) (W:List aI) (n N:Nat):Prop where
 sx:Sx B w K g E W n N
 cg:Chg X w0 w
 xg:X g
section
variable {X:Nat->Prop} {B g n N n' N' x:Nat} {w0 w w':World} {K:Nat->Prop} {E:aI} {W:List aI}
section
variable {cs:List Value}
theorem Rg.keep(h:Rg X B w0 w K g E W n N)(b:Below w.heap.size w w'):Rg X B w0 w' K g E W n N:=⟨h.sx.keep b,h.cg.trans (Chg.of (F:=fun _=>False) b) (fun _ _ h=>h.elim),h.xg⟩
theorem Rg.drew(h:Rg X B w0 w K g E W n N):Rg X B w0 w.drew K g E W n N:=h.keep (Below.refl _ _).drew
theorem Rg.size(h:Rg X B w0 w K g E W n N):w0.heap.size<=w.heap.size:=h.cg.size
theorem Rg.lt(h:Rg X B w0 w K g E W n N){b:Nat}(hb:K b):b < w.heap.size:=h.sx.sa.lt hb
theorem Rg.new(h:Rg X B w0 w K g E W n N)(hx:w.heap.size<=x):¬ K x:=fun hk=>by have:=h.lt hk;omega
theorem Rg.cell{t:TypeId}(h:Rg X B w0 w K g E W n N)(hX:Blk w x cs t)(C:Chg (·=x) w w')(hx:w0.heap.size<=x\/X x)(f:¬ K x)(d:t≠5):Rg X B w0 w' K g E W n N:=by
 refine⟨⟨h.sx.sa.chg C (fun b e hb=>f ((show b=x from e)▸hb)) (fun b e c k=>?_),Nat.le_trans h.sx.lo C.size,h.sx.kb⟩,h.cg.trans C (fun b hb e=>by have a:b=x:=e;subst a;exact hx.elim (fun h=>by omega) id),h.xg⟩
 have a:b=x:=e;subst a;exact d (hX.eq k).2
theorem Rg.op(h:Rg X B w0 w K g E W n N)(S:Sx B w' K g E W n' N')(C:Chg (·=g) w w'):Rg X B w0 w' K g E W n' N':=⟨S,h.cg.trans C (fun b _ e=>(show b=g from e)▸h.xg),h.xg⟩
theorem Rg.top(h:Rg X B w0 w K g E W n N):K g:=h.sx.sa.top
theorem rg_of(h:Sx B w K g E W n N)(hX:X g):Rg X B w w K g E W n N:=⟨h,Chg.refl _ _,hX⟩
end
end
section
variable {g B n N:Nat}{w:World}{K:Nat->Prop}{E:aI}{W:List aI}{kv:Value}{k:List Int}{id p:Int}{aR aS aF:Option Addr}
theorem ne4{b s:Nat}(h:b < s)(hg:s<=g):g≠b:=by omega
theorem xgetG(h:Sx B w K g E W n N)(b:ByU w kv k)(hn:n<=4000000000000000000)(a:N<=100000000) :
  Calls Tryz.prog 120 #[pg g,kv] w fun e w'=>∃ v,e=.returned (.tuple #[v,.bool (Kv.look E k).isSome])/\ByU w' v ((Kv.look E k).getD [])/\Sx B w' K g E W (n+1) N/\Chg (·=g) w w':=by
 refine(Kv.sgetG h.sa (h.bk b) hn a).mono ?_
 rintro e w' ⟨v,rfl,O,S,C⟩;exact⟨v,rfl,ByU.of O,⟨S,Nat.le_trans h.lo C.size,h.kb⟩,C⟩
structure FndG(B:Nat)(w:World)(K:Nat->Prop)(g:Nat)(E:aI)(W:List aI)(n N:Nat)(V:Int)(mk:Value->Value)(e:Ending)(w':World):Prop where
 ex:∃ a0 n0 c0,e=.returned (mk (.slice a0 n0 c0))/\∃ z0,Sx B w' K g E W n N/\Chg (·=g) w w'/\Nq w' K z0 a0 n0 c0 V/\n0<=510/\(n0=0\/w.heap.size<=z0)
theorem findG(h:Sx B w K g E W n N)(hid:0<=id/\id < 18446744073709551616)(hn:n+10<=4000000000000000000)(Q:N+10<=100000000):Calls Tryz.prog 72 #[pg g,.int .u64 id,.int .u64 p] w (FndG B w K g E W (n+1) N (hX (got E (Ky.mk 7 id p)) 0) (hmk (hX (got E (Ky.mk 7 id p)) 1) (Kv.look E (Ky.mk 7 id p)).isSome)):=by
 have A:=rg_of (X:=(·=g)) h rfl;refine aO (n:=27) Tryz.func72 rfl (by kernel_rfl) (by kernel_rfl) ?_
 refine ay (aC (ta 6 [.slice none 0 0,.int .u64 0] 109 (pg) ?_));intro v1 g2 a z B;have G:=Or.inl (b:=(fun b=>b=g) g2) (Nat.le_trans A.size z);have s:=A.new z;replace A:=A.keep B;clear B;refine t 7 (.bool false) (aA (ah (ay (aC (t 13 (pg g) (t 14 (.int .u64 id) (t 15 (.int .u64 p) (tc 16 56 #[.int .i64 7,.int .u64 id,.int .u64 p] (xJ hid (by decide)) ?_))))))));rintro _ v5 ⟨F,rfl,o,B⟩;refine⟨_,rfl,?_⟩;replace A:=A.keep B;replace a:=a.keep B;clear B;refine tc 17 120 #[pg g,F] (xgetG A.sx o (by omega) (by omega)) ?_
 rintro _ P ⟨m,rfl,D,S,C⟩;refine⟨_,rfl,?_⟩;have hC:=C.mono (fun b _ (e:b=g)=>e▸A.top);replace a:=a.chg C (fun e=>s (e▸A.top));replace o:=o.chg hC A.sx.sa.kind;replace A:=A.op S C;clear S hC C;refine t 12 (.tuple #[m,.bool (Kv.look E (Ky.mk 7 id p)).isSome]) (t 18 (m) (t 19 (.bool (Kv.look E (Ky.mk 7 id p)).isSome) (t 8 (m) (t 9 (.bool (Kv.look E (Ky.mk 7 id p)).isSome) (aA (ah (aY [(6,pg g2),(7,.bool false),(8,m),(9,.bool (Kv.look E (Ky.mk 7 id p)).isSome)] (by kernel_rfl) (ay (aC (t 21 (m) (tc 22 121 #[m] (wQ D (BO A.sx _)) ?_)))))))))));rintro _ v10 ⟨i,d,f,rfl,⟨I,H⟩,B⟩;refine⟨_,rfl,?_⟩;obtain⟨O,v,k⟩:=vP I (fun b hb=>A.lt hb);clear I;have r:=ne2 v a.lt;have x:=ne3 v A.size;clear v;replace A:=A.keep B;replace a:=a.keep B;replace o:=fj o B;replace D:=fj D B;clear B;clear D;refine t 20 (.tuple #[.agg #[.slice i d f,.int .u64 (hX (got E (Ky.mk 7 id p)) 1)],.int .i64 (Rc.jm (Rc.dn (got E (Ky.mk 7 id p))))]) (t 23 (.agg #[.slice i d f,.int .u64 (hX (got E (Ky.mk 7 id p)) 1)]) (t 24 (.int .i64 (Rc.jm (Rc.dn (got E (Ky.mk 7 id p))))) ?_));have J:=a.lt;refine ta 10 [.slice none 0 0,.int .u64 0] 109 (pg) ?_
 intro v11 g12 c l B;have y:=Or.inl (b:=(fun b=>b=g) g12) (Nat.le_trans A.size l);have u:=A.new l;have q:=ne1 k.lt l;have j:=ne4 a.lt l;replace A:=A.keep B;replace a:=a.keep B;replace o:=fj o B;replace k:=k.keep B;clear B;refine ts c 0 (.agg #[.slice i d f,.int .u64 (hX (got E (Ky.mk 7 id p)) 1)]) [.slice i d f,.int .u64 (hX (got E (Ky.mk 7 id p)) 1)] [.slice i d f,.int .u64 (hX (got E (Ky.mk 7 id p)) 1)] ?_
 intro L Y C;replace A:=Rg.cell A c C y u (by decide);replace a:=a.chg C j.symm;replace o:=j0 o c C (by decide);replace k:=k.cell C q;clear C c;have c:=Y;clear Y;refine t 11 (.int .i64 (Rc.jm (Rc.dn (got E (Ky.mk 7 id p))))) (aA (ah (ay (aC (tlr 25 [.slice i d f,.int .u64 (hX (got E (Ky.mk 7 id p)) 1)] c 0 (t 26 (.bool (Kv.look E (Ky.mk 7 id p)).isSome) (ts a 0 (.agg #[.slice i d f,.int .u64 (hX (got E (Ky.mk 7 id p)) 1)]) [.slice i d f,.int .u64 (hX (got E (Ky.mk 7 id p)) 1)] [.slice i d f,.int .u64 (hX (got E (Ky.mk 7 id p)) 1)] ?_)))))));intro M Y C;replace A:=Rg.cell A a C G s (by decide);replace o:=j0 o a C (by decide);replace k:=k.cell C r;replace c:=c.chg C j;clear C a;have a:=Y;clear Y;refine t 7 (.bool (Kv.look E (Ky.mk 7 id p)).isSome) (aA (ah (aV (aW (.tuple #[.agg #[.slice i d f,.int .u64 (hX (got E (Ky.mk 7 id p)) 1)],.bool (Kv.look E (Ky.mk 7 id p)).isSome]) (sc 6 7 (T:=109) (by kernel_rfl) (by kernel_rfl) (by kernel_rfl) (lr a 0)) ?_))));exact⟨_,_,_,rfl,_,A.sx,A.cg,k,H,x⟩
theorem lE(h:Sx B w K g E W n N)(hid:0<=id/\id < 18446744073709551616)(hn:n+10<=4000000000000000000)(I:N+10<=100000000):Calls Tryz.prog 35 #[pg g,.int .u64 id,.int .u64 p] w (FndG B w K g E W (n+1) N (hX (got E (Ky.mk 7 id p)) 0) rmk):=by
 have A:=rg_of (X:=(·=g)) h rfl;refine aO (n:=18) Tryz.func35 rfl (by kernel_rfl) (by kernel_rfl) ?_
 refine ay (aC (ta 6 [.slice none 0 0] 32 (pg) ?_));intro v1 g2 a s B;have z:=Or.inl (b:=(fun b=>b=g) g2) (Nat.le_trans A.size s);have q:=A.new s;replace A:=A.keep B;clear B;refine aA (ah (ay (aC (t 10 (pg g) (t 11 (.int .u64 id) (t 12 (.int .u64 p) (tc 13 72 #[pg g,.int .u64 id,.int .u64 p] (findG A.sx hid (by omega) (by omega)) ?_)))))));rintro _ v4 ⟨c,d,f,rfl,F,S,C,i,x,r⟩;refine⟨_,rfl,?_⟩;have o:=ne2 r a.lt;have u:=ne3 r A.size;clear r;have hC:=C.mono (fun b _ (e:b=g)=>e▸A.top);replace a:=a.chg C (fun e=>q (e▸A.top));replace A:=A.op S C;clear S hC C;refine t 9 (.tuple #[.agg #[.slice c d f,.int .u64 (hX (got E (Ky.mk 7 id p)) 1)],.bool (Kv.look E (Ky.mk 7 id p)).isSome]) (t 14 (.agg #[.slice c d f,.int .u64 (hX (got E (Ky.mk 7 id p)) 1)]) (t 15 (.bool (Kv.look E (Ky.mk 7 id p)).isSome) ?_));have D:=a.lt;refine ta 7 [.slice none 0 0,.int .u64 0] 109 (pg) ?_
 intro v5 g6 j m B;have y:=Or.inl (b:=(fun b=>b=g) g6) (Nat.le_trans A.size m);have v:=A.new m;have l:=ne1 i.lt m;have k:=ne4 a.lt m;replace A:=A.keep B;replace a:=a.keep B;replace i:=i.keep B;clear B;refine ts j 0 (.agg #[.slice c d f,.int .u64 (hX (got E (Ky.mk 7 id p)) 1)]) [.slice c d f,.int .u64 (hX (got E (Ky.mk 7 id p)) 1)] [.slice c d f,.int .u64 (hX (got E (Ky.mk 7 id p)) 1)] ?_
 intro G Y C;replace A:=Rg.cell A j C y v (by decide);replace a:=a.chg C k.symm;replace i:=i.cell C l;clear C j;have j:=Y;clear Y;refine t 8 (.bool (Kv.look E (Ky.mk 7 id p)).isSome) (aA (ah (aY [(6,pg g2),(7,pg g6)] (by kernel_rfl) (ay (aC (t 16 (pg g6) (tlr 17 [.slice c d f] j 0 (ts a 0 (.agg #[.slice c d f]) [.slice c d f] [.slice c d f] ?_))))))));intro H Y C;replace A:=Rg.cell A a C z q (by decide);replace i:=i.cell C o;replace j:=j.chg C k;clear C a;have a:=Y;clear Y;refine aA (ah (aV (aW (.agg #[.slice c d f]) (rsc 6 (T:=32) (by kernel_rfl) (by kernel_rfl) (lr a 0)) ?_)));exact⟨_,_,_,rfl,_,A.sx,A.cg,i,x,u⟩
structure EaE(B:Nat)(w:World)(K:Nat->Prop)(g br bf:Nat)(E:aI)(W:List aI)(n N:Nat)(V F:Int)(m:Nat)(e:Ending)(w':World):Prop where
 ex:∃ a1 n1 c1 z1 a2 n2 c2 z2,e=.returned (.tuple #[])/\Sx B w' K g E W n N/\Chg (fun b=>b=g\/b=br\/b=bf) w w'/\Blk w' br [.slice a1 n1 c1] 32/\Nq w' K z1 a1 n1 c1 V/\n1<=m/\(n1=0\/w.heap.size<=z1)/\Blk w' bf [.slice a2 n2 c2] 32/\Nq w' K z2 a2 n2 c2 F/\n2<=510/\(n2=0\/w.heap.size<=z2)
theorem rG{bs bi x bk bf:Nat}{nR cR zR:Nat}{xR:Int}{nS cS zS:Nat}{xS:Int}{nF cF zF:Nat}{xF:Int}(h:Sx B w K g E W n N)(hid:0<=id/\id < 18446744073709551616)(z:Nq w K zR aR nR cR xR)(mR:nR<=10000000000)(v:Nq w K zS aS nS cS xS)(mS:nS<=10000000000)(y:Nq w K zF aF nF cF xF)(mF:nF<=10000000000)(m:Blk w bs [pg g] 37)(o:Blk w bi [.int .u64 id] 22)(f:Blk w x [.slice aR nR cR] 32)(l:Blk w bk [.slice aS nS cS] 32)(j:Blk w bf [.slice aF nF cF] 32)(nXs:¬ K bs)(nXi:¬ K bi)(nXr:¬ K x)(nXk:¬ K bk)(nXf:¬ K bf)(dbr_bk:x≠bk)(M:x≠bf)(ad:bk≠bf)(dbs_br:bs≠x)(dbs_bf:bs≠bf)(dbi_br:bi≠x)(dbi_bf:bi≠bf)(eQRbr:nR=0\/zR≠x)(eQRbf:nR=0\/zR≠bf)(eQSbr:nS=0\/zS≠x)(eQSbf:nS=0\/zS≠bf)(eQFbr:nF=0\/zF≠x)(eQFbf:nF=0\/zF≠bf)(hn:n+10<=4000000000000000000)(hN:N+10<=100000000):Calls Tryz.prog 36 #[.int .u64 p,pg bs,pg bi,pg x,pg bk,pg bf] w (EaE B w K g x bf E W (n+1) N (xR+xS * iC (hX (got E (Ky.mk 7 id p)) 0) xF / U36) (hX (got E (Ky.mk 7 id p)) 0) (nR+nS+600)):=by
 have zbr:=Or.inr (a:=w.heap.size<=x) (show x=g\/x=x\/x=bf from .inr (.inl rfl));have zbf:=Or.inr (a:=w.heap.size<=bf) (show bf=g\/bf=x\/bf=bf from .inr (.inr rfl));have A:=rg_of (X:=fun b=>b=g\/b=x\/b=bf) h (.inl rfl);refine aO (n:=20) Tryz.func36 rfl (by kernel_rfl) (by kernel_rfl) ?_
 refine ay (aC (tl 8 (pg g) m 0 (tl 9 (.int .u64 id) o 0 (t 10 (.int .u64 p) (tc 11 35 #[pg g,.int .u64 id,.int .u64 p] (lE A.sx hid (by omega) (by omega)) ?_)))));rintro _ v2 ⟨s,r,u,rfl,zr1,S,C,d,mr1,I⟩;refine⟨_,rfl,?_⟩;have eQr1bs:=ne2 I m.lt;have eQr1bi:=ne2 I o.lt;have aa:=ne2 I f.lt;have eQr1bk:=ne2 I l.lt;have eQr1bf:=ne2 I j.lt;have fQr1:=ne3 I A.size;clear I;have hC:=C.mono (fun b _ (e:b=g)=>e▸A.top);replace z:=z.op (fun _ h=>.inl h) hC;replace v:=v.op (fun _ h=>.inl h) hC;replace y:=y.op (fun _ h=>.inl h) hC;replace m:=m.chg C (fun e=>nXs (e▸A.top));replace o:=o.chg C (fun e=>nXi (e▸A.top));replace f:=f.chg C (fun e=>nXr (e▸A.top));replace l:=l.chg C (fun e=>nXk (e▸A.top));replace j:=j.chg C (fun e=>nXf (e▸A.top));replace A:=A.op S C;clear S hC C;have lXs:=m.lt;have lXi:=o.lt;have lXr:=f.lt;have lXk:=l.lt;have lXf:=j.lt;refine ta 7 [.slice none 0 0] 32 (pg) ?_
 intro v3 g4 c q B;have zg4:=Or.inl (b:=(fun b=>b=g\/b=x\/b=bf) g4) (Nat.le_trans A.size q);have nXg4:=A.new q;have eQRg4:=ne1 z.lt q;have eQSg4:=ne1 v.lt q;have eQFg4:=ne1 y.lt q;have eQr1g4:=ne1 d.lt q;have dg4_bs:=ne4 m.lt q;have V:=ne4 o.lt q;have O:=ne4 f.lt q;have Z:=ne4 l.lt q;have L:=ne4 j.lt q;replace A:=A.keep B;replace z:=z.keep B;replace v:=v.keep B;replace y:=y.keep B;replace m:=m.keep B;replace o:=o.keep B;replace f:=f.keep B;replace l:=l.keep B;replace j:=j.keep B;replace d:=d.keep B;clear B;refine ts c 0 (.agg #[.slice s r u]) [.slice s r u] [.slice s r u] ?_
 intro v5 Y C;replace A:=Rg.cell A c C zg4 nXg4 (by decide);replace z:=z.cell C eQRg4;replace v:=v.cell C eQSg4;replace y:=y.cell C eQFg4;replace m:=m.chg C dg4_bs.symm;replace o:=o.chg C V.symm;replace f:=f.chg C O.symm;replace l:=l.chg C Z.symm;replace j:=j.chg C L.symm;replace d:=d.cell C eQr1g4;clear C c;have c:=Y;clear Y;refine aA (ah (ay ?_));replace A:=A.drew;replace z:=z.drew;replace v:=v.drew;replace y:=y.drew;replace m:=m.drew;replace o:=o.drew;replace f:=f.drew;replace l:=l.drew;replace j:=j.drew;replace d:=d.drew;replace c:=c.drew;refine bE (fun w'=>Blk w' x [.slice aR nR cR] 32/\Blk w' bk [.slice aS nS cS] 32/\Blk w' g4 [.slice s r u] 32/\Blk w' bf [.slice aF nF cF] 32) (fun i=>decide (7<=i)) ⟨f,l,c,j⟩ ?_
 refine zlr 0 12 [.slice aR nR cR] (fun _ h=>h.1) 0 (zlr 1 13 [.slice aS nS cS] (fun _ h=>h.2.1) 0 (zlr 2 14 [.slice s r u] (fun _ h=>h.2.2.1) 0 (zlr 3 15 [.slice aF nF cF] (fun _ h=>h.2.2.2) 0 (zc 4 16 38 #[.agg #[.slice s r u],.agg #[.slice aF nF cF]] (tu d.nat (by omega) y.nat (by omega)) ?_))));rintro _ v7 ⟨aq6,nq6,cq6,zq6,rfl,Mq6,G,mq6,B⟩;have eQq6bs:=ne2 G m.lt;have eQq6bi:=ne2 G o.lt;have ab:=ne2 G f.lt;have eQq6bk:=ne2 G l.lt;have eQq6bf:=ne2 G j.lt;have eQq6g4:=ne2 G c.lt;have fQq6:=ne3 G A.size;have F:=eP A.sx Mq6 G;clear Mq6 G;replace A:=A.keep B;replace z:=z.keep B;replace v:=v.keep B;replace y:=y.keep B;replace m:=m.keep B;replace o:=o.keep B;replace f:=f.keep B;replace l:=l.keep B;replace j:=j.keep B;replace d:=d.keep B;replace c:=c.keep B;clear B;refine⟨_,rfl,⟨f,l,c,j⟩,?_⟩;refine zc 5 17 37 #[.agg #[.slice aS nS cS],.agg #[.slice aq6 nq6 cq6]] (eMul v.nat (by omega) F.nat (by omega)) ?_
 rintro _ v9 ⟨aq8,nq8,cq8,zq8,rfl,Mq8,D,mq8,B⟩;have eQq8bs:=ne2 D m.lt;have eQq8bi:=ne2 D o.lt;have ac:=ne2 D f.lt;have eQq8bk:=ne2 D l.lt;have ae:=ne2 D j.lt;have eQq8g4:=ne2 D c.lt;have fQq8:=ne3 D A.size;have J:=eP A.sx Mq8 D;clear Mq8 D;replace A:=A.keep B;replace z:=z.keep B;replace v:=v.keep B;replace y:=y.keep B;replace m:=m.keep B;replace o:=o.keep B;replace f:=f.keep B;replace l:=l.keep B;replace j:=j.keep B;replace d:=d.keep B;replace c:=c.keep B;replace F:=F.keep B;clear B;refine⟨_,rfl,⟨f,l,c,j⟩,?_⟩;refine zc 6 18 13 #[.agg #[.slice aR nR cR],.agg #[.slice aq8 nq8 cq8]] (lZ z.nat (by omega) J.nat (by omega)) ?_
 rintro _ v11 ⟨T,P,R,zq10,rfl,Mq10,k,mq10,B⟩;have eQq10bs:=ne2 k m.lt;have eQq10bi:=ne2 k o.lt;have Q:=ne2 k f.lt;have eQq10bk:=ne2 k l.lt;have U:=ne2 k j.lt;have eQq10g4:=ne2 k c.lt;have fQq10:=ne3 k A.size;have H:=eP A.sx Mq10 k;clear Mq10 k;replace A:=A.keep B;replace z:=z.keep B;replace v:=v.keep B;replace y:=y.keep B;replace m:=m.keep B;replace o:=o.keep B;replace f:=f.keep B;replace l:=l.keep B;replace j:=j.keep B;replace d:=d.keep B;replace c:=c.keep B;replace F:=F.keep B;replace J:=J.keep B;clear B;refine⟨_,rfl,⟨f,l,c,j⟩,?_⟩;refine eJ (ys 7 f 0 (.agg #[.slice T P R]) [.slice T P R] [.slice T P R] ?_);intro v12 Y C;replace A:=Rg.cell A f C zbr nXr (by decide);replace z:=z.cell C eQRbr;replace v:=v.cell C eQSbr;replace y:=y.cell C eQFbr;replace m:=m.chg C dbs_br;replace o:=o.chg C dbi_br;replace l:=l.chg C dbr_bk.symm;replace j:=j.chg C M.symm;replace d:=d.cell C aa;replace c:=c.chg C O;replace F:=F.cell C ab;replace J:=J.cell C ac;replace H:=H.cell C Q;clear C f;have f:=Y;clear Y;refine eH (ah (aY [(5,pg bf),(7,pg g4)] (by kernel_rfl) (aC (tlr 19 [.slice s r u] c 0 (ts j 0 (.agg #[.slice s r u]) [.slice s r u] [.slice s r u] ?_)))));intro v13 Y C;replace A:=Rg.cell A j C zbf nXf (by decide);replace z:=z.cell C eQRbf;replace v:=v.cell C eQSbf;replace y:=y.cell C eQFbf;replace m:=m.chg C dbs_bf;replace o:=o.chg C dbi_bf;replace f:=f.chg C M;replace l:=l.chg C ad;replace d:=d.cell C eQr1bf;replace c:=c.chg C L;replace F:=F.cell C eQq6bf;replace J:=J.cell C ae;replace H:=H.cell C U;clear C j;have j:=Y;clear Y;refine aA (eC (.tuple #[]) (rs0 (by kernel_rfl)) ?_);exact⟨_,_,_,_,_,_,_,_,rfl,A.sx,A.cg,f,H,by omega,fQq10,j,d,by omega,fQr1⟩
end
end Fo
end
end Go.Proofs.YtjejmkcjflhoiaaGreatDoor
