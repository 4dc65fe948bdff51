import Derived.Test.YtgdohcdlkonhiaaGreatDoorJad
set_option maxRecDepth 100000
set_option maxHeartbeats 8000000
namespace Go.Proofs.YtgdohcdlkonhiaaGreatDoor
section
namespace Kv
open Go.RowKit Go.Lib Pg
attribute [local go_sem] Oper.semAt_some
section
variable {E:aC}{k:List Int}{w:World}{K D F V:Nat->Prop}{g n N m:Nat}{W:List aC}{kv jv:Value}{Q:List (List KV)}{T:List Jr}{oj:Option Nat}
theorem xT(h:sG E)(hn:(look E k).isSome=false):rem E k=E:=by
 obtain⟨X,Y,c,⟨rfl,e⟩ | ⟨x,rfl,e⟩⟩:=h.cut k
 ·exact c.rem0
 ·rw[e] at hn;cases hn
theorem sget(h:SA w K D g E W n N)(hk:BK w K kv k)(hn:n<=4000000000000000000)(C:N<=100000000) :
  Calls Tryz.prog 82 #[.pointer (some ⟨g,0,none⟩),kv] w fun e w'=>∃ v,e=.returned (.tuple #[v,.bool (look E k).isSome])/\OB w' (w.heap.size <= ·) v ((look E k).getD [])/\SA w' K D g E W (n+1) N/\Chg K w w':=by
 obtain⟨F,V,m,Q,y,T,G,hX,rfl,s⟩:=h.open;obtain⟨x,c,rfl⟩:=hk.shape;have u:=jq hX hn;have t:=aQ hX;have A:=aQ s;have q:=aQ hk;clear hX s hk h;obtain⟨kn,d⟩:∃ kn,Hid (k.length=kn):=⟨_,rfl⟩
 rw[d.out] at q ⊢;have o:=fun w' (X:SX w' K D F V g m Q y T G (n+1) N) (hk:By w' (.slice x kn c) k)=>ry X hk C
 obtain⟨r,p⟩:∃ r,(look Q.flatten k).isSome=r:=⟨_,rfl⟩
 obtain⟨L,l⟩:∃ L,(look Q.flatten k).getD []=L:=⟨_,rfl⟩
 rw[p,l] at o ⊢;clear p l;go_enter Tryz.func82,Tryz.ntmps82;go_wp2_with first
  | (go_at_call 48;go_must (refine u.mono ?_);rintro e z ⟨rfl,f,j⟩;have c0:=f.blk.cell (i:=0) rfl)
  | (go_at_call 150;go_must (refine(o _ f (q.out _ (t.out.kg j))).mono ?_);rintro e J ⟨v,rfl,O,B⟩;obtain⟨a1,c1,rfl⟩:∃ a1 c1,v=.slice a1 L.length c1:=(by obtain⟨a1,c1,e,_⟩:=O.by.ex;exact⟨a1,c1,e⟩);generalize L.length=I at *)
 go_ret2;exact⟨_,rfl,O.mono (fun b _ h=>by have:=j.size;have H:z.heap.size<=b:=h;show w.heap.size<=b;omega),(f.keep B).shut rfl A.out,jQ (t.out.kg j) (Chg.of B)⟩
theorem C9(hX:SX w K D F V g m Q jv T oj n N)(p:qF (T.reverse.map Jr.U) W Q.flatten)(hk:BK w K kv k)(hn:n<=4000000000000000000)(r:N+2<=100000000)(hr:(look Q.flatten k).isSome=false) :
  Calls Tryz.prog 112 #[.pointer (some ⟨g,0,none⟩),kv] w (Ends w K D g (rem Q.flatten k) W (n+1) (N+2) (.bool false)):=by
 obtain⟨y,c,rfl⟩:=hk.shape;have u:=jq hX hn;have j:=aQ hX;have t:=aQ p;have o:=aQ hk
 have s:N<=99999998:=by omega
 replace r:N<=100000000:=by omega
 clear hX p hk;obtain⟨kn,f⟩:∃ kn,Hid (k.length=kn):=⟨_,rfl⟩
 rw[f.out] at o ⊢;go_enter Tryz.func112,Tryz.ntmps112;go_wp2_with first
  | (go_at_call 48;go_must (refine u.mono ?_);rintro e x ⟨rfl,d,l⟩;have i:=zJ d (o.out _ (j.out.kg l)) r;rw[hr] at i)
  | (go_at_call 170;go_must (refine i.mono ?_);rintro e z ⟨rfl,q⟩;clear i;replace d:=d.keep q;have v:=jQ (j.out.kg l) (Chg.of q))
 go_ret;have e:=xT j.out.map.ord.flat hr;exact⟨rfl,K,((d.shut e.symm (by rw[e];exact t.out)).more (by omega)).mono (fun _ _ h=>.inl h),fun b h=>.inl h,v⟩
theorem yu(hX:SX w K D F V g m Q jv [] oj n N)(t:qF ([].reverse.map Jr.U) W Q.flatten)(hk:BK w K kv k)(hn:n<=4000000000000000000)(v:N+2<=100000000)(hr:(look Q.flatten k).isSome=true) :
  Calls Tryz.prog 112 #[.pointer (some ⟨g,0,none⟩),kv] w (Ends w K D g (rem Q.flatten k) W (n+1) (N+2) (.bool true)):=by
 obtain⟨H,c,rfl⟩:=hk.shape;have u:=jq hX hn;have x:=aQ hX;have B:=aQ t;have l:=aQ hk
 have A:N<=99999998:=by omega
 replace v:N<=100000000:=by omega
 clear hX t hk;obtain⟨kn,f⟩:∃ kn,Hid (k.length=kn):=⟨_,rfl⟩
 rw[f.out] at l ⊢;go_enter Tryz.func112,Tryz.ntmps112;go_wp2_with first
  | (go_at_call 48;go_must (refine u.mono ?_);rintro e I ⟨rfl,d,s⟩;have j:=zJ d (l.out _ (x.out.kg s)) v;rw[hr] at j)
  | (go_at_call 170;go_must (refine j.mono ?_);rintro e L ⟨rfl,p⟩;clear j;replace d:=d.keep p;have o:=jQ (x.out.kg s) (Chg.of p))
  | (go_at_call 49;go_must (refine(mh d).mono ?_);rintro e y ⟨rfl,hy⟩;replace hy:=hy.symm;subst hy;have c0:=d.blk.cell (i:=0) rfl;have us:=mdel d.map (l.out _ o) (by omega);rw[mO d.map.ord,hr] at us)
  | (go_at_call 160;go_must (refine us.mono ?_);rintro e G ⟨rfl,J,z,hF,q⟩)
 go_ret;have C:=d.mapped (N':=N) (by have:=d.tot;have:=Dd (E:=Q.flatten) k;rw[oM d.map.ord];omega) z hF (fun _ h=>h) q;refine⟨rfl,_,((C.shut (E:=rem Q.flatten k) (W:=W) (oM d.map.ord k) (rE B.out)).more (by omega)).mono (fun b _ hb=>?_),fun b hb=>?_,?_⟩
 ·exact .inl hb
 ·rcases hb with⟨hb,_⟩ | hb
  ·exact .inl hb
  ·rcases hF b hb with r | r
   ·exact .inl (d.own.map b r)
   ·exact .inr (by have:=o.size;omega)
 ·exact jQ o (q.mono (fun b _ h=>d.own.map b h))
theorem sdel(h:SA w K D g E W n N)(hk:BK w K kv k)(a:k.length<=1000000000)(hn:n<=4000000000000000000)(c:N+2<=100000000) :
  Calls Tryz.prog 112 #[.pointer (some ⟨g,0,none⟩),kv] w (Ends w K D g (rem E k) W (n+1) (N+2) (.bool (look E k).isSome)):=by
 obtain⟨F,V,m,Q,d,T,f,hX,rfl,b⟩:=h.open
 cases hr:(look Q.flatten k).isSome with
 | false=>exact C9 hX b hk hn c hr
 | true =>
  rcases List.eq_nil_or_concat T with rfl | ⟨e,j,rfl⟩
  ·exact yu hX b hk hn c hr
  ·exact absurd hX.len (by have:=a;simp)
end
theorem oZ {fn:Func} {p:Tmp} {ty:TypeId} (h:fn.results=#[.cell p ty]) {tmps:Array Value} {w:World} {g:Nat} {v:Value} (hp:tmps.getD p undef=.pointer (some ⟨g,0,none⟩)) (b:(loadVar ty ⟨g,0,none⟩).run Tryz.prog w=.ok v w):(results fn tmps).run Tryz.prog w=.ok v w:=by
 have a:tmps[p]?.getD undef=.pointer (some ⟨g,0,none⟩):=by simpa using hp
 simp[results,h,a,asAddr,b]
section
variable {w w':World}{B:Nat}{xs:List Value}{K:Nat->Prop}
theorem Rw.rcd{E:TypeId}{k b n c:Nat}(h:Rw w E k b n c xs)(hr:Rec B w w'):Rw w' E k b n c xs:=by
 obtain⟨cs,hk⟩:=h.kind;exact h.same (by rw[(hr.blk hk).blk,hk.blk])
theorem eV{w1:World}(h:Chg K w w1)(hr:Rec B w1 w')(c:w.heap.size<=B):Chg K w w' :=
 ⟨hr.os.trans h.os,hr.tape.trans h.tape,hr.output.trans h.output,Nat.le_trans h.size hr.size,fun b hb hk=>by
  have e:=h.same b hb hk;rw[<- e]
  have a:b < w1.heap.size:=Nat.lt_of_lt_of_le hb h.size;rw[Array.getElem?_eq_getElem a]
  exact hr.same b _ (Array.getElem?_eq_getElem a) (.inl (by omega))⟩
end
section
variable {n:Nat}{ops:Array Oper}{rest:List Oper}{w:World}{v jv:Value}{Q:List (List KV)}{T:List Jr}{oj:Option Nat}{X:Nat->Prop}
theorem vQ{F:Fence}{Q:Exit->Act->World->Prop}{o:Oper}{a:Act}{w':World}(c:o.guard=none)(hF:∀ f,F.fn f)(b:o.semAt F.round a.eval=execOp a.eval o)(hrun:(execOp a.eval o).run Tryz.prog w=.ok (.value v) w')(h:wpListIn F n Tryz.prog ops Q rest (a.put o.dst v) w'):wpListIn F n Tryz.prog ops Q (o :: rest) a w :=
 wpListIn_plain c fun K d=>by
  unfold Oper.wpIn;rw[b,hrun,Oper.uponIn_value];exact⟨fun f _=>hF f,d _ _ h⟩
theorem SX.wm{K D F V:Nat->Prop}{g m:Nat}{N:Nat}(h:SX w K D F V g m Q jv T oj n N)(d:N<=100000000)(h1:∀ b,X b->¬ F b)(a:∀ b,X b->∀ cs,¬ Blk w b cs 5)(c:∀ b,X b->b < w.heap.size) :
  ∃ L,Wm w X F D m L/\∀ f t,(wlk (ens L) f t).map En.kl2=Q.flatten.filter (sY f t):=by
 obtain⟨L,rfl,A,O,S,k,r⟩:=h.map.ex;exact⟨L,⟨A,O,fun es he=>(S.one es he).2,S.few k d,r,h1,a,c⟩,fun f t=>yJ O f t⟩
end
section
variable {g x:Nat}{V W1:World}{E:List En}{args:Array Value}{X:Nat→Prop}
def tick(g:Nat)(V:World)(x:Nat):World:=V.setCell ⟨g,2,none⟩ (.int .i64 ((x:Int)+1))
def ItrC(Tp:TypeId->Prop)(g x0:Nat)(gf:Nat)(lb:Array Value)(N:Nat)(Ar:Nat->Array Value->Nat->World->Prop)(Rd:World->Prop):Prop :=
 ∀ (l:Nat) (J0:World->Prop) (J Jt Jx:Nat->World->Prop) (W:World),St W.heap.size J0->(∀ i,St W.heap.size (J i))->(∀ i,St W.heap.size (Jt i))->(∀ i,St W.heap.size (Jx i))->g < W.heap.size ->
  (∀ V,J0 V->V.cell? ⟨g,2,none⟩=some (.int .i64 x0)/\V.frozen? ⟨g,2,none⟩=false/\Rd V/\J 0 (tick g V x0)) ->
  (∀ i V,J i V->V.cell? ⟨g,2,none⟩=some (.int .i64 ((x0+1+i:Nat):Int))/\V.frozen? ⟨g,2,none⟩=false/\Rd V/\(i < N->Jt i (tick g V (x0+1+i)))) ->
  (∀ i args V V',i < N->Jt i V->W.heap.size<=V.heap.size->Below V.heap.size V V'->Ar i args V.heap.size V'->YieldAt Fence.wide 0 Tryz.prog l args V' fun e V''=>aX Tp W.heap.size V' V''/\((e=.returned (.bool true)/\J (i+1) V'')\/(e=.returned (.bool false)/\Jx (i+1) V''))) ->
  J0 W ->
  Calls Tryz.prog gf (#[.func (.yield l) #[] #[]] ++ lb) W fun e W'=>(∃ v,e=.returned v)/\W.heap.size<=W'.heap.size/\(J N W'\/∃ i,i < N/\Jx (i+1) W')
theorem uj{b:World}(hb:Below V.heap.size V b):Below (tick g V x).heap.size (tick g V x) (tick g b x):=by
 unfold tick;refine⟨hb.os,hb.tape,hb.output,by simpa[World.setCell] using hb.size,fun k hk=>?_⟩
 have a:k < V.heap.size:=by simpa[World.setCell] using hk
 by_cases e:k=g
 ·subst e;have c:=hb.block k a;simp only[World.setCell,Array.getElem?_modify,c]
 ·rw[Below.heap_setCell _ _ _ _ (by exact e),Below.heap_setCell _ _ _ _ (by exact e)];exact hb.block k a
theorem eL(g x:Nat)(V:World):(tick g V x).heap.size=V.heap.size:=by simp[tick,World.setCell]
theorem dC(g x:Nat)(V:World):Chg (·=g) V (tick g V x):=(Chg.refl (·=g) V).cell (.inl rfl) _
theorem yz{i n:Nat}(h:ArC E i args n V)(j:∃ cs,Blk V g cs 92):ArC E i args n (tick g V x):=by
 obtain⟨e,kv,vv,s,m,c,f,l,o⟩:=h
 have a:∀ b,b=g->∀ cs,¬ Blk V b cs 5:=fun b hb cs k=>by
  subst hb;obtain⟨d,p⟩:=j;exact absurd (k.eq p).2 (by decide)
 exact⟨e,kv,vv,s,m,c,f.chg (dC g x V) a,l.chg (dC g x V) a,o⟩
def RdC(X:Nat->Prop)(W1:World)(g bs1 bs2 bw:Nat)(V:World):Prop:=Chg X W1 V/\Blk V bs1 [.pointer (some ⟨g,0,none⟩)] 40/\Blk V bs2 [.func (.func 331) #[] #[.pointer (some ⟨bw,0,none⟩)]] 335/\∃ cs,Blk V g cs 92
theorem lC{Tp:TypeId→Prop}{bs1 bs2 bw x0:Nat}(IT:Itr Tp 331 #[.pointer (some ⟨bw,0,none⟩)] E.length (ArC E) (fun V=>Chg X W1 V))(hT:¬ Tp 101)(hx:x0+E.length≤3000000000000000000) :
    ItrC Tp g x0 322 #[.pointer (some ⟨bs1,0,none⟩),.pointer (some ⟨bs2,0,none⟩)] E.length (ArC E) (RdC X W1 g bs1 bs2 bw):=by
  intro l J0 J Jt Jx W hS0 F hSt T hgW G hJ hY Y;have B1:=ai W (.cells #[.func (.yield l) #[] #[]] 101);have Y1:=aJ W [.func (.yield l) #[] #[]] 101;have J1:=hS0 _ _ Y (Rec.of B1);obtain⟨q1,q2,⟨r1,r2,r3,r4⟩,q3⟩:= G _ J1
  have s1:(W.alloc (.cells #[.func (.yield l) #[] #[]] 101)).heap.size=W.heap.size+1:=by simp
  have cs:=r2.cell (i:=0) rfl;have uc:=kN (g:=g) q1 q2 (by omega) (by omega);have Yt:=Y1.chg (dC g x0 _) (by omega);have K:=(hJ 0 _ q3).2.2.1;have cw:=K.2.2.1.cell (i:=0) rfl;have HY:=aQ hY;have HJ:=aQ hJ;clear G hJ hY Y J1 B1 Y1 r1 r2 r3 r4 q1 q2;obtain⟨Z,H⟩:∃ Z,Hid (W.alloc (.cells #[.func (.yield l) #[] #[]] 101)=Z):=⟨_,rfl⟩;rw[H.out] at q3 s1 uc Yt K cw;refine(callsIn_wide (n:=0)).1 ?_
  refine callsIn_of_wp_marks Tryz.func322 rfl trivial ?_ rfl;simp only[Tryz.ntmps322,List.size_toArray,List.length_cons,List.length_nil,Nat.reduceAdd,Nat.reduceSub,Array.replicate_succ,Array.replicate_zero,List.push_toArray,List.append_toArray,List.nil_append,List.cons_append];have tsz:=eL g x0 Z;gi_wp2_with (refine⟨trivial,rfl,?_⟩;gi_at_call 48;rw[H.out];refine(callsIn_wide.2 uc).mono ?_;rintro e' w0 ⟨rfl,hw0⟩;obtain rfl:w0=tick g Z x0:=hw0;clear uc cs);generalize tick g Z x0=Wt at *
  have sT:Wt.heap.size=W.heap.size+1:=by omega
  refine kt IT (by rfl) (enters_of Tryz.func331 (by kernel_rfl) rfl) (fun i args n V V' h hc=>h.cel hc) (fun i args n V h=>by obtain⟨e,kv,vv,s,_,rfl,_⟩:= h;rfl)
    (fun i V=>J i V∧W.heap.size+1≤V.heap.size∧Blk V W.heap.size [.func (.yield l) #[] #[]] 101)
    (fun c i V=>c=.ret∧Jx i V∧W.heap.size+1≤V.heap.size)
    (fun i A B hx C=>⟨F i A B hx.1 (C.mono (by omega)),Nat.le_trans hx.2.1 C.size,iW hx.2.2 C⟩)
    (fun c i A B hx C=>⟨hx.1,T i A B hx.2.1 (C.mono (by omega)),Nat.le_trans hx.2.2 C.size⟩)
    (fun i V hv=>(HJ.out i V hv.1).2.2.1.1) ⟨q3,by omega,Yt⟩ ?_ ?_ ?_
  · rintro l2 i args V Wv hl hlV hrec f ⟨hJi,D,hY2⟩ hb ⟨e0,kv,vv,s0,he0,rfl,M,hv0,_⟩
    obtain⟨ak,nk,hk1⟩:= M.shape;obtain⟨av,nv,hv1⟩:= hv0.shape;subst hk1 hv1;simp;gi_wp2;refine⟨Below.refl _ _,?_⟩;intro V2 d L P y b j I m U r hrec2;obtain⟨p1,p2,⟨k1,k2,k3,k4⟩,p3⟩:= HJ.out i V2 L
    have glt:g < V2.heap.size:=by obtain⟨cs,k⟩:= k4;exact k.lt
    have c2:d.cell? ⟨g,2,none⟩=some (.int .i64 ((x0+1+i:Nat):Int)):=by rw[b.cell (p:=⟨g,2,none⟩) glt];exact p1
    have z:∃ cs,Blk d g cs 92:=by obtain⟨cs,k⟩:= k4;exact⟨cs,k.keep b⟩
    have f2:d.frozen? ⟨g,2,none⟩=false:=by obtain⟨cs,k⟩:= z;exact k.free 2
    have cs2:=(k2.keep b).cell (i:=0) rfl;have O:=kN (g:=g) c2 f2 (by omega) (by omega);have u:=(y.keep b).chg (dC g (x0+1+i) d) (by omega);have yb:=u.cell (i:=0) rfl;have v:=yz (x:=x0+1+i) j z;rw[← eL g (x0+1+i) V2] at v;have hYY:=HY.out i _ _ _ f (p3 f) (by rw[eL];omega) (uj (x:=x0+1+i) b) v;obtain⟨fn,tmps,assign,body,hy,hR⟩:= hYY
    have Q:RoundIn (Fence.wide.inRound l2) 0 Tryz.prog l fn tmps assign body (tick g d (x0+1+i)) _:=⟨hR.1,fun c cs _=>hR.2 c cs (fun _ h=>by cases h)⟩
    have N:aX Tp Wt.heap.size d (tick g d (x0+1+i)):=⟨by rw[eL];exact Nat.le_refl _,fun k o hk Y _=>((dC g (x0+1+i) d).same k (lt_of_block Y) (by omega)).trans Y⟩;have HK:=aQ N;have HYW:=aQ u;have HR:=aQ Q;replace m:=aQ m;replace U:=aQ U
    have hWs:W.heap.size+1≤d.heap.size:=Nat.le_trans P b.size;have tsz2:=aQ (eL g (x0+1+i) d);clear hJi M hv0 hb I j v hR Q N u p1 p2 p3 k1 k2 k3 k4 z c2 f2 y b L tsz;gi_wp2_with (refine⟨trivial,rfl,?_⟩;gi_at_call 48;refine(CallsIn.inRound l2 (callsIn_wide.2 O)).mono ?_;rintro e' w3 ⟨rfl,hw3⟩;obtain rfl:w3=tick g d (x0+1+i):=hw3;clear O cs2);refine⟨rfl,HR.out.mono ?_⟩;rintro e' w5 ⟨S,h5⟩;have hY5:=S.blk HYW.out (Nat.le_refl _) hT
    have t:aX Tp Wt.heap.size d w5:=HK.out.trans (S.mono (by omega))
    have q:W.heap.size+1≤w5.heap.size:=Nat.le_trans hWs t.size;rcases h5 with⟨rfl,hJ5⟩ | ⟨rfl,hJ5⟩
    · gi_wp2
      exact⟨t,hJ5,q,hY5⟩
    · gi_wp2
      exact⟨t,rfl,hJ5,q⟩
  · rintro D' W' hD hK ⟨hJn,D,y⟩
    gi_wp2;refine⟨by simp,.inl ⟨_,_,rfl,run_takeDeferred hK,?_⟩⟩;exact⟨_,results_none rfl _ _ _,⟨_,rfl⟩,by simp;omega,.inl (F _ _ _ hJn (Rec.put hK rfl (by omega) _))⟩
  · rintro D' c i W' hD hK f ⟨rfl,R,D⟩
    gi_wp2;refine⟨by simp,.inl ⟨_,_,rfl,run_takeDeferred hK,?_⟩⟩;exact⟨_,results_none rfl _ _ _,⟨_,rfl⟩,by simp;omega,.inr ⟨i,f,T (i+1) _ _ R (Rec.put hK rfl (by omega) _)⟩⟩
end
section
variable {I It:Nat->World->Prop}{Ix:Code->Nat->World->Prop}{W W' V w:World}{a:Act}{g:Operand}{lb:Array Value}{Ar:Nat→Array Value→Nat→World→Prop}{Rd:World→Prop}{ps:Array Tmp}
def pK(I It:Nat->World->Prop)(k:Nat):World->Prop:=if k % 2=0 then I (k / 2) else It (k / 2)
theorem jO(I It:Nat->World->Prop)(i:Nat):pK I It (2 * i+1)=It i:=by
 unfold pK;rw[if_neg (by omega),show (2 * i+1) / 2=i by omega]
theorem ly(I It:Nat->World->Prop)(i:Nat):pK I It (2 * i+1+1)=I (i+1):=by
 unfold pK;rw[if_pos (by omega),show (2 * i+1+1) / 2=i+1 by omega]
theorem oO{Tp:TypeId->Prop}{B:Nat}{i:Nat}{e:Exit}(h:j9 Tp B I Ix (i+1) W e a W'):j9 Tp B (pK I It) (fun c k=>Ix c (k / 2)) (2 * i+1+1) W e a W':=by
 have e2:(2 * i+1+1) / 2=i+1:=by omega
 cases e<;>simp only[j9] at h ⊢
 ·exact⟨h.1,by rw[ly];exact h.2⟩
 ·exact⟨h.1,by rw[e2];exact h.2⟩
 ·exact⟨h.1,by rw[e2];exact h.2⟩
 ·exact⟨h.1,by rw[e2];exact h.2⟩
def AM(Tp:TypeId->Prop)(w:World)(N n:Nat)(ps:Array Tmp)(assign body:Code)(tmps:Array Value)(Ar:Nat->Array Value->Nat->World->Prop)(It I:Nat->World->Prop)(Ix:Code->Nat->World->Prop):Prop :=
 ∀ (l i:Nat) (args:Array Value) (V W:World),w.heap.size<=l->l < V.heap.size->(∃ r,V.heap[l]?=some (.loop r))->i < N->It i V->Below V.heap.size V W->Ar i args V.heap.size W ->
  assign.wpIn (Fence.wide.inRound l) n Tryz.prog (Exit.then (fun a1 W1=>Below W.heap.size W W1/\∀ V2 W2,It i V2->Below V2.heap.size V2 W2->Ar i args V2.heap.size W2->(∀ b,b≠l->W2.heap[b]?=W1.heap[b]?)->W2.heap.size=W1.heap.size->V2.heap.size=V.heap.size->(∃ r,W2.heap[l]?=some (.loop r))->body.wpIn (Fence.wide.inRound l) n Tryz.prog (j9 Tp w.heap.size I Ix (i+1) W2) a1 W2) (fun _ _ _=>False)) { tmps:=(ps.zip args).foldl (fun t (p,v)=>t.setIfInBounds p v) tmps,defers:=[] } W
theorem fQ{g x k:Nat}(h:k≠g):(tick g V x).heap[k]?=V.heap[k]?:=Below.heap_setCell _ _ _ _ h
theorem wy{Tp:TypeId→Prop}{t N n g0 x0:Nat}(IT:ItrC Tp g0 x0 t lb N Ar Rd){assign body:Code}{Q:Exit→Act→World→Prop}(hg:a.eval g=.func (.func t) #[] lb)(eg:∀ args w,(callFunc t args).run Tryz.prog w=.ok (.enter t args) w)(C:∀ i args n V W,Ar i args n V→Cel V W→Ar i args n W)(Z:∀ i args n V,Ar i args n V→args.size=ps.size)(G:World→Prop)(I It:Nat→World→Prop)(Ix:Code→Nat→World→Prop)(A:St w.heap.size G)(U:∀ i,St w.heap.size (I i))(u:∀ i,St w.heap.size (It i))(o:∀ c i,St w.heap.size (Ix c i))(hgw:g0 < w.heap.size)(M:∀ V,G V→V.cell? ⟨g0,2,none⟩=some (.int .i64 x0)∧V.frozen? ⟨g0,2,none⟩=false∧Rd V∧I 0 (tick g0 V x0))(hx:∀ i V,I i V→V.cell? ⟨g0,2,none⟩=some (.int .i64 ((x0+1+i:Nat):Int))∧V.frozen? ⟨g0,2,none⟩=false∧Rd V∧(i < N→It i (tick g0 V (x0+1+i))))(h0:G w)(l:AM Tp w N n ps assign body a.tmps Ar It I Ix)(p:∀ D W,w.heap.size≤D→W.heap[D]?=some (.deferred (some []))→I N W→Q .normal { a with defers:={ target:=.collected D,args:=#[] } :: a.defers } W)(r:∀ D c i W,w.heap.size≤D→W.heap[D]?=some (.deferred (some []))→i < N→Ix c (i+1) W→c.wpIn Fence.wide n Tryz.prog Q { a with defers:={ target:=.collected D,args:=#[] } :: a.defers } W) :
    (Code.rangeFunc g ps assign body).wpIn Fence.wide n Tryz.prog Q a w:=by
  refine wpIn_rangeFunc ?_
  intro fn _;obtain⟨f,d⟩:∃ f,(w.alloc (.deferred (some []))).alloc (.loop (bU fn a.tmps ps assign body w.heap.size .ready none))=f:=⟨_,rfl⟩
  have J:Below w.heap.size w f:=by rw[← d];exact aj (ai w _) (ai _ _)
  have hs1:f.heap.size=w.heap.size+1+1:=by rw[← d];simp
  have R:f.heap[w.heap.size+1]?=some (.loop (bU fn a.tmps ps assign body w.heap.size .ready none)):=by
    rw[← d];have:=World.alloc_heap_new (w.alloc (.deferred (some []))) (.loop (bU fn a.tmps ps assign body w.heap.size .ready none));rwa [World.size_alloc] at this
  have O:f.heap[w.heap.size]?=some (.deferred (some [])):=by
    rw[← d];exact(Below.heap_alloc _ _ _ (by simp)).trans (World.alloc_heap_new w _)
  have t1:∀ V x,(tick g0 V x).heap[w.heap.size+1]?=V.heap[w.heap.size+1]?:=fun V x=>fQ (by omega)
  have t2:∀ V x,(tick g0 V x).heap[w.heap.size]?=V.heap[w.heap.size]?:=fun V x=>fQ (by omega)
  refine⟨w.heap.size + 1, [{ target := .collected w.heap.size, args := #[] }], f, { target := .fn (.func t) lb, args := #[.func (.yield (w.heap.size + 1)) #[] #[]] }, f, t,
    #[.func (.yield (w.heap.size+1)) #[] #[]] ++ lb,f,?_,?_,?_,?_,fun h=>(by cases h),?_⟩
  · rw[← d];exact run_enterLoop_outer _ _ _ _ _
  · simp only[resolve,hg]
    simp[go_sem]
  · intro f' _;trivial
  · simp[invoke,go_sem,eg]
  · refine callsIn_wide.2 ?_
    refine(IT (w.heap.size + 1)
      (fun W=>G W∧W.heap[w.heap.size+1]?=some (.loop (bU fn a.tmps ps assign body w.heap.size .ready none))∧W.heap[w.heap.size]?=some (.deferred (some [])))
      (fun i W=>I i W∧W.heap[w.heap.size+1]?=some (.loop (bU fn a.tmps ps assign body w.heap.size .ready none))∧W.heap[w.heap.size]?=some (.deferred (some [])))
      (fun i W=>It i W∧W.heap[w.heap.size+1]?=some (.loop (bU fn a.tmps ps assign body w.heap.size .ready none))∧W.heap[w.heap.size]?=some (.deferred (some [])))
      (fun i W=>∃ c,Ix c i W∧W.heap[w.heap.size+1]?=some (.loop (bU fn a.tmps ps assign body w.heap.size .done (some c)))∧W.heap[w.heap.size]?=some (.deferred (some [])))
      f (fun X Y hx b=>⟨A X Y hx.1 (b.mono (by omega)),b.same _ _ hx.2.1 (.inl (by omega)),b.same _ _ hx.2.2 (.inl (by omega))⟩)
      (fun i X Y hx b=>⟨U i X Y hx.1 (b.mono (by omega)),b.same _ _ hx.2.1 (.inl (by omega)),b.same _ _ hx.2.2 (.inl (by omega))⟩)
      (fun i X Y hx b=>⟨u i X Y hx.1 (b.mono (by omega)),b.same _ _ hx.2.1 (.inl (by omega)),b.same _ _ hx.2.2 (.inl (by omega))⟩)
      (fun i X Y hx b=>by obtain⟨c,T,H,L⟩:= hx;exact⟨c,o c i X Y T (b.mono (by omega)),b.same _ _ H (.inl (by omega)),b.same _ _ L (.inl (by omega))⟩)
      (by omega)
      (fun V hv=>by obtain⟨q1,E,s,F⟩:= M V hv.1;exact⟨q1,E,s,F,(t1 V x0).trans hv.2.1,(t2 V x0).trans hv.2.2⟩)
      (fun i V hv=>by obtain⟨q1,E,s,F⟩:= hx i V hv.1;exact⟨q1,E,s,fun hi=>⟨F hi,(t1 V _).trans hv.2.1,(t2 V _).trans hv.2.2⟩⟩)
      ?_ ⟨A _ _ h0 (Rec.of J),R,O⟩).mono ?_
    · rintro i args V V' q ⟨hi,m,hk⟩ K hb S
      have b:=l _ i args V V' (by omega) (lt_of_block m) ⟨_,m⟩ q hi hb S;refine(gO (Tp:=Tp) (B:=w.heap.size) (i:=2 * i+1) (I:=pK I It) (Ix:=fun c k=>Ix c (k / 2)) (Ar:=fun k=>Ar (k / 2)) (fun j=>C (j / 2)) (fun j=>by unfold pK;split;exact U _;exact u _) (fun c j=>o c _) (by omega) m (by rw[jO];exact hi) hb (by rw[show (2 * i+1) / 2=i by omega];exact S) (Z _ _ _ _ S) (wpIn_mono b ?_)).mono ?_
      · intro e a1 f h
        cases e <;> first
          | (refine⟨h.1, fun V2 W2 q1 E s F q5 q6 q7 => ?_⟩
             rw[jO] at q1;rw[show (2 * i+1) / 2=i by omega] at s
             exact wpIn_mono (h.2 V2 W2 q1 E s F q5 q6 q7) (fun e a W h=>oO h))
          | exact h.elim
      · rintro e V'' ⟨y,h⟩
        have z:=y.same _ _ (Nat.le_refl _) (by omega) ((hb.block _ (lt_of_block hk)).trans hk) gA;refine⟨y.from (by omega) (by omega),h.imp (fun h=>⟨h.1,by have:=h.2.1;rw[ly] at this;exact this,h.2.2,z⟩) (fun h=>?_)⟩;obtain⟨T,c,H,L⟩:= h;rw[show (2 * i+1+1) / 2=i+1 by omega] at H;exact⟨T,c,H,L,z⟩
    · rintro e W2 ⟨⟨v,rfl⟩,K,⟨hi,m,hk⟩ | ⟨i,q,c,hi,m,hk⟩⟩
      · exact⟨none,_,run_endLoop (P:=Tryz.prog) m (by simp[bU]),p _ _ (Nat.le_refl _) ((World.putObj_heap_other (by omega)).trans hk) (U _ _ _ hi (Rec.put m rfl (by omega) _))⟩
      · exact⟨some c,_,run_endLoop (P:=Tryz.prog) m (by simp[bU]),r _ c i _ (Nat.le_refl _) ((World.putObj_heap_other (by omega)).trans hk) q (o c _ _ _ hi (Rec.put m rfl (by omega) _))⟩
end
section
variable {w w' A A':World}{B n c g:Nat}{v u r:Value}{l a Q b:List Int}{x y:Int}{D:Nat->Prop}{ao:Option Addr}{Rd:World->Prop}{cs:List Value}{ops:Array Oper}{rest:List Oper}{pos:String}
theorem uD{p:Nat}(h:OB w (B <= ·) v l)(d:B<=w.heap.size)(s:l.length<=1000000000)(hx:0<=x/\x < 256)(hp:w.cell? ⟨p,0,none⟩=some (.int .u8 x)) :
  ∃ v' w',(Builtin.append_ #[42,42] 42 #[v,.slice (some ⟨p,0,none⟩) 1 1]).run Tryz.prog w=.ok v' w'/\OB w' (B <= ·) v' (l ++ [x])/\Below B w w':=by
 have o:Oct (l ++ [x]):=fun y hy=>by
  rcases List.mem_append.1 hy with hy | hy
  ·exact h.oct y hy
  ·simp at hy;subst hy;exact hx
 have a:∀ j u,[Value.int .u8 x][j]? = some u->w.cell? ((⟨p,0,none⟩:Addr).add j)=some u:=fun j u m=>by
  match j with
  | 0=>simp at m;subst m;exact hp
  | j+1=>simp at m
 rcases h.ex with⟨rfl,rfl⟩ | ⟨b,c,rfl,hl2,n⟩
 ·obtain⟨f,w',i,n,hw⟩:=iK (w:=w) KB 42 ⟨p,0,none⟩ 1 1 [.int .u8 x] rfl a (by decide) (by decide) (by decide);exact⟨_,w',i,⟨o,.inr ⟨_,f,rfl,d,n⟩⟩,hw.mono d⟩
 ·obtain⟨q,f,w',i,k,g,hw⟩:=eC (w:=w) KB 42 n ⟨p,0,none⟩ 1 1 [.int .u8 x] rfl a (by simp[Value.oneCell']) (by omega) (by omega);refine⟨_,w',i,⟨o,.inr ⟨q,f,by simp,?_,by rw[List.map_append,List.length_append]; exact g⟩⟩,hw.below (fun x e=>by have r:x=b:=e; omega) d⟩;rcases k with rfl | rfl
  ·exact hl2
  ·exact d
theorem dS(h:OB w (B <= ·) v l)(d:B<=w.heap.size)(s:l.length<=1000000000)(hx:0<=x/\x < 256) :
  ∃ v' w',(Builtin.append_ #[42,42] 42 #[v,.slice (some ⟨w.heap.size,0,none⟩) 1 1]).run Tryz.prog (w.alloc (.cells #[.int .u8 x] 5))=.ok v' w'/\OB w' (B <= ·) v' (l ++ [x])/\Below B w w':=by
 have hb:=ai w (.cells #[.int .u8 x] 5);have hk:=aJ w [.int .u8 x] 5
 have o:Oct (l ++ [x]):=fun y hy=>by
  rcases List.mem_append.1 hy with hy | hy
  ·exact h.oct y hy
  ·simp at hy;subst hy;exact hx
 have a:∀ j u,[Value.int .u8 x][j]? = some u->(w.alloc (.cells #[.int .u8 x] 5)).cell? ((⟨w.heap.size,0,none⟩:Addr).add j)=some u:=fun j u p=>by
  match j with
  | 0=>exact hk.cell (i:=0) p
  | j+1=>simp at p
 rcases h.ex with⟨rfl,rfl⟩ | ⟨b,c,rfl,hl2,n⟩
 ·obtain⟨f,w',k,n,hw⟩:=iK (w:=w.alloc (.cells #[.int .u8 x] 5)) KB 42 ⟨w.heap.size,0,none⟩ 1 1 [.int .u8 x] rfl a (by decide) (by decide) (by decide);exact⟨_,w',k,⟨o,.inr ⟨_,f,rfl,Nat.le_trans d hb.size,n⟩⟩,(hb.mono d).trans (hw.mono (Nat.le_trans d hb.size))⟩
 ·obtain⟨q,f,w',k,m,g,hw⟩:=eC (w:=w.alloc (.cells #[.int .u8 x] 5)) KB 42 (n.keep hb) ⟨w.heap.size,0,none⟩ 1 1 [.int .u8 x] rfl a (by simp[Value.oneCell']) (by omega) (by omega);refine⟨_,w',k,⟨o,.inr ⟨q,f,by simp,?_,by rw[List.map_append,List.length_append]; exact g⟩⟩,(hb.mono d).trans (hw.below (fun x e=>by have r:x=b:=e; omega) (Nat.le_trans d hb.size))⟩;rcases m with rfl | rfl
  ·exact hl2
  ·exact Nat.le_trans d hb.size
theorem OB.sh(h:OB w D v l):∃ ao c,v=.slice ao l.length c:=by
 rcases h.ex with⟨rfl,rfl⟩ | ⟨b,c,rfl,_⟩
 ·exact⟨none,0,rfl⟩
 ·exact⟨_,c,rfl⟩
theorem By.lens(h:By w (.slice ao n c) l):l.length=n/\n<=c/\c<=9223372036854775807:=by
 obtain⟨ao',c',e,h2,h3,_⟩:=h.ex
 cases e;exact⟨rfl,h2,h3⟩
theorem jW{a:Act}{o:Oper}{x y:Nat}{T ty:TypeId}(b:o.type=ty)(hr:(Builtin.append_ #[T,T] ty #[u,v]).run Tryz.prog w=.ok r w')(ho:o.op=.call { callee:=.builtin .append,args:=#[.tmp x,.tmp y],argTypes:=#[T,T] }:=by kernel_rfl)(hx:a.eval (.tmp x)=u:=by kernel_rfl)(hy:a.eval (.tmp y)=v:=by kernel_rfl) :
    (execOp a.eval o).run Tryz.prog w=.ok (.value r) w':=by
  subst b;unfold execOp;simp only[ho,resolve,invoke,builtin,Sem.run_bind,Sem.run_pure,Result.andThen_ok,List.map_toArray,List.map_cons,List.map_nil,hx,hy,hr]
theorem qC(w:World)(D:Nat->Prop):OB w D (.slice none 0 0) []:=⟨fun _ h=>by simp at h,.inl ⟨rfl,rfl⟩⟩
def ArBB(Q:List Int)(i:Nat)(args:Array Value)(_:Nat)(_:World):Prop:=∃ p j,j+1+i=Q.length/\Q[j]?=some p/\args=#[.int .i64 (j:Int),.int .u8 p]
theorem kL{Tp:TypeId->Prop}{bs:Nat}(hn:Q.length=n)(C:n<=1000000000)(hb:∀ V,Rd V->V.cell? ⟨bs,0,none⟩=some (.slice ao n c)/\∀ j p,Q[j]?=some p->∃ b o,ao=some ⟨b,o,none⟩/\V.cell? ⟨b,o+j,none⟩=some (.int .u8 p)) :
  Itr Tp 321 #[.pointer (some ⟨bs,0,none⟩)] n (ArBB Q) Rd:=by
 intro l J K W L F r E z;have A:=(hb W (r 0 W z)).1
 have hb:Hid _:=hb
 have hn:Hid _:=hn
 have P:IntKind.i64.wrap ((n:Int) - 1)=(n:Int) - 1:=by rw[IntKind.wrap_i64];omega
 refine(callsIn_wide (n:=0)).1 ?_
 refine callsIn_of_wp Tryz.func321 rfl trivial ?_ rfl;simp only[Tryz.ntmps321,List.size_toArray,List.length_cons,List.length_nil,Nat.reduceAdd,Nat.reduceSub,Array.replicate_succ,Array.replicate_zero,List.push_toArray,List.append_toArray,List.nil_append,List.cons_append];gi_wp2;gi_loopw [3] (fun y wr=>∃ i:Nat,i<=n/\y=.int .i64 ((n:Int) - 1 - (i:Int))/\W.heap.size<=wr.heap.size/\J i wr) (fun y _=>(intOf y+1).toNat)
 case atStart=>exact⟨0,Nat.zero_le _,by simp,Nat.le_refl _,z⟩
 case round =>
  clear A;obtain⟨i,hi,rfl,d,f⟩:=hrel;obtain⟨A,m⟩:=hb.out wr (r _ _ f);by_cases q:i < n
  ·obtain⟨j,v⟩:∃ j,j+1+i=n:=⟨n - 1 - i,by omega⟩
   obtain⟨p,B⟩:∃ p,Q[j]?=some p:=⟨Q[j]'(by have:=hn.out;omega),List.getElem?_eq_getElem _⟩
   obtain⟨b,o,rfl,I⟩:=m j p B
   have s:(n:Int) - 1 - (i:Int)=(j:Int):=by omega
   have H:Hid (j+1+i=n):=v;have x:=E i _ wr wr q f d (Below.refl _ _) ⟨p,j,by rw[hn.out];exact v,B,rfl⟩;obtain⟨fn,tmps,assign,body,hy,G⟩:=x;rw[s]
   have M:IntKind.i64.wrap ((j:Int) - 1)=(j:Int) - 1:=by rw[IntKind.wrap_i64];omega
   have z1:(j:Int) < n:=by omega
   clear m s v;gi_wp2;refine⟨rfl,G.mono ?_⟩;rintro N O ⟨u,⟨rfl,g⟩ | ⟨rfl,g⟩⟩
   ·gi_wp2;go_roundw
    case rel=>exact⟨i+1,by omega,by have:=H.out;congr 1;omega,Nat.le_trans d u.size,g⟩
    case measure=>simp[intOf]
   ·gi_wp2;refine bodyPost_ret (results_none rfl _ _ _) rfl ?_
    exact⟨⟨_,rfl⟩,Nat.le_trans d u.size,.inr ⟨i,q,g⟩⟩
  ·have t:i=n:=by omega
   have s:(n:Int) - 1 - (i:Int)=-1:=by omega
   rw[s]
   have D:Hid (J n wr):=by show J n wr;rw[<- t];exact f
   clear m s t f;gi_wp2;go_end0;exact⟨⟨_,rfl⟩,d,.inl D.out⟩
theorem mZ:Calls Tryz.prog 304 #[.slice ao n c] w fun e w'=>e=.returned (.func (.func 321) #[] #[.pointer (some ⟨w.heap.size,0,none⟩)])/\Blk w' w.heap.size [.slice ao n c] 42/\Below w.heap.size w w':=by
 go_enter Tryz.func304,Tryz.ntmps304;go_wp2;go_ret;exact⟨rfl,aJ w _ _,ai w _⟩
def nxt(l:List Int):List Int:=match l.reverse.dropWhile (· == 255) with
 | []=>[]
 | x :: t=>t.reverse ++ [x+1]
theorem Bj:∀ {l:List Int},(∀ x∈l,x=255)->l.dropWhile (· == 255)=[]
 | [],_=>rfl
 | x :: l,h=>by
  have hx:=h x List.mem_cons_self;subst hx;rw[List.dropWhile_cons_of_pos (by decide)];exact Bj (fun y hy=>h y (List.mem_cons_of_mem _ hy))
theorem yf(A B:List Int)(hx:x≠255)(h:∀ b∈B,b=255):(A ++ x :: B).reverse.dropWhile (· == 255)=x :: A.reverse:=by
 rw[List.reverse_append,List.reverse_cons,List.append_assoc,List.dropWhile_append_of_pos (fun a c=>by simp[h a (List.mem_reverse.1 c)]),List.singleton_append,List.dropWhile_cons_of_neg (by simp[hx])]
theorem iQ(h:∀ x∈l,x=255):nxt l=[]:=by
 have:l.reverse.dropWhile (· == 255)=[]:=by
  exact Bj (fun x hx=>h x (List.mem_reverse.1 hx))
 unfold nxt;rw[this]
theorem tJ{j:Nat}(f:l[j]?=some x)(hx:x≠255)(h:∀ i y,l[i]?=some y->j < i->y=255):nxt l=l.take j ++ [x+1]:=by
 have b:j < l.length:=(List.getElem?_eq_some_iff.1 f).1
 have e:l=l.take j ++ x :: l.drop (j+1):=by
  have d:=(List.take_append_drop j l).symm
  have g:l.drop j=x :: l.drop (j+1):=by
   rw[List.drop_eq_getElem_cons b];congr 1
   exact(List.getElem?_eq_some_iff.1 f).2
  rw[g] at d;exact d
 have k:l.reverse.dropWhile (· == 255)=x :: (l.take j).reverse:=by
  have c:=yf (l.take j) (l.drop (j + 1)) hx (fun a m=>by
   obtain⟨i,hi⟩:=List.getElem?_of_mem m;rw[List.getElem?_drop] at hi
   exact h (j+1+i) a hi (by omega))
  rw[<- e] at c;exact c
 unfold nxt;rw[k];simp
theorem dO{B0 b:Nat}{B:World}(h:Below B0 w A)(hr:Rec b A B)(c:B0<=b)(hw:B0<=A.heap.size):Below B0 w B :=
 ⟨hr.os.trans h.os,hr.tape.trans h.tape,hr.output.trans h.output,Nat.le_trans h.size hr.size,fun k hk=>by
  obtain⟨o,a⟩:∃ o,A.heap[k]?=some o:=⟨A.heap[k]'(by omega),Array.getElem?_eq_getElem _⟩
  rw[hr.same k o a (.inl (by omega)),<- a]
  exact h.block k hk⟩
theorem nE{ty:TypeId}(h:Blk A g cs ty)(hr:Rec B A A'):Blk A' g cs ty:=hr.blk h
theorem OB.rcd(h:OB A D v l)(hr:Rec B A A'):OB A' D v l:=by
 refine⟨h.oct,h.ex.imp id ?_⟩;rintro⟨b,c,e,hd,hR⟩;obtain⟨cs,k⟩:=hR.kind;exact⟨b,c,e,hd,hR.same ((hr.blk k).blk.trans k.blk.symm)⟩
theorem By.take(h:By w (.slice ao n c) l)(j:Nat)(t:j<=n):By w (.slice ao j c) (l.take j):=by
 obtain⟨s,hc,hm⟩:=By.lens h;obtain⟨p,r,e,q,k,f,g,o⟩:=h.ex
 cases e
 have hlen:(l.take j).length=j:=by rw[List.length_take];omega
 refine⟨ao,c,by rw[hlen],by rw[hlen];omega,k,f,fun x hx=>g x (List.mem_of_mem_take hx),?_⟩;rcases o with rfl | ⟨d,m,e,b,a⟩
 ·exact .inl (by simp)
 ·exact .inr ⟨d,m,e,b,fun i x hi=>a i x (by
   rw[List.getElem?_take] at hi;split at hi
   ·exact hi
   ·cases hi)⟩
theorem su{o:Nat}(c:w.cell? ⟨g,o,none⟩=some v):(loadVar 42 ⟨g,o,none⟩).run Tryz.prog w=.ok v w:=by go_simp
theorem qi{F:Fence}{Q:Exit->Act->World->Prop}{after:Array Edge}{a:Act}(hF:∀ f,F.fn f)(hu:a.eval (.tmp 14)=u)(hv:a.eval (.tmp 17)=v)(hr:(Builtin.append_ #[42,42] 42 #[u,v]).run Tryz.prog w=.ok r w')(h:wpListIn F n Tryz.prog ops Q rest (a.put (some 18) r) w') :
  wpListIn F n Tryz.prog ops Q ({ dst:=some 18,op:=.call { callee:=.builtin .append,args:=#[.tmp 14,.tmp 17],argTypes:=#[42,42] },type:=42,pos:=pos,after:=after,guard:=none } :: rest) a w :=
 vQ rfl hF (Oper.semAt_eq _ _ _ (fun c h=>by cases h)) (jW (x:=14) (y:=17) rfl hr (ho:=rfl) (hx:=hu) (hy:=hv)) h
theorem ni(h:By w (.slice ao n c) l)(T:n≤1000000000) :
    Calls Tryz.prog 317 #[.slice ao n c] w fun e w'=>∃ v,e=.returned v∧OB w' (w.heap.size≤·) v (nxt l)∧Below w.heap.size w w':=by
  obtain⟨hl,hnc,hcm⟩:= By.lens h;have c1:=aJ w [.slice ao n c] 42;have b1:=ai w (.cells #[.slice ao n c] 42)
  have s1:(w.alloc (.cells #[.slice ao n c] 42)).heap.size=w.heap.size+1:=by simp
  have c2:=aJ (w.alloc (.cells #[.slice ao n c] 42)) [.slice none 0 0] 42;have b2:=ai (w.alloc (.cells #[.slice ao n c] 42)) (.cells #[.slice none 0 0] 42)
  have s2:((w.alloc (.cells #[.slice ao n c] 42)).alloc (.cells #[.slice none 0 0] 42)).heap.size=w.heap.size+2:=by simp
  rw[s1] at c2
  have P:=c1.keep b2;have W:=aj b1 b2;obtain⟨Wa,I⟩:∃ Wa,Hid ((w.alloc (.cells #[.slice ao n c] 42)).alloc (.cells #[.slice none 0 0] 42)=Wa):=⟨_,rfl⟩;rw[I.out] at P c2 s2 W;have HB:=aQ h;clear h c1 b1 b2 s1;refine(callsIn_wide (n:=0)).1 ?_
  refine callsIn_of_wp_marks Tryz.func317 rfl trivial ?_ rfl;simp only[Tryz.ntmps317,List.size_toArray,List.length_cons,List.length_nil,Nat.reduceAdd,Nat.reduceSub,Array.replicate_succ,Array.replicate_zero,List.push_toArray,List.append_toArray,List.nil_append,List.cons_append];gi_wp2_with (refine⟨trivial,rfl,?_⟩;gi_at_call 304;rw[I.out];refine(callsIn_wide.2 mZ).mono ?_;rintro e' z ⟨rfl,N,t⟩);rw[s2] at N;have k1:=P.keep t;have k2:=c2.keep t;have q:=aj W t;have hs2:=t.size;have IT:=kL (Tp:=fun _=>False) (bs:=w.heap.size+2) (c:=c) (ao:=ao) (Q:=l) (n:=n) (Rd:=fun V=>Below z.heap.size z V) hl T (fun V hv=>⟨(N.keep hv).cell (i:=0) rfl,fun j p D=>By.at ((HB.out.keep q).keep hv) D⟩);refine kt IT (by rfl) (enters_of Tryz.func321 (by kernel_rfl) rfl) (fun i args n V V' h _=>h) (fun i args n V h=>by obtain⟨p,j,_,_,rfl⟩:= h;rfl)
    (fun i V=>Below z.heap.size z V∧∀ j x,l[j]?=some x→n≤j+i→x=255)
    (fun c i V=>c=.ret∧∃ v,Blk V (w.heap.size+1) [v] 42∧OB V (w.heap.size≤·) v (nxt l)∧Below w.heap.size w V)
    (fun i A B hx S=>⟨dO hx.1 S (Nat.le_refl _) hx.1.size,hx.2⟩)
    (fun c i A B hx S=>⟨hx.1,by obtain⟨v,h1,h2,H⟩:= hx.2;exact⟨v,S.blk h1,OB.rcd h2 S,dO H S q.size H.size⟩⟩)
    (fun i V hv=>hv.1) ⟨Below.refl _ _,fun j x D hn=>by have:=(List.getElem?_eq_some_iff.1 D).1;omega⟩ ?_ ?_ ?_
  · rintro l2 i args V Wv hl2 hlV hrec hiN ⟨hBV,m⟩ hb ⟨p,j,D,hp,rfl⟩
    simp;gi_wp2;refine⟨Below.refl _ _,?_⟩;intro V2 W2 u f hb2 K J hsz3 hV2 r hrec2;have d:=u.trans (hb2.mono u.size);have kb:=(k1.keep d).cell (i:=0) rfl;have kr:=k2.keep d
    have hpo:0≤p∧p < 256:=HB.out.oct p (List.mem_of_getElem? hp);clear m hb hBV J K;by_cases R:p=255
    · subst R
      gi_wp2;refine⟨aX.of (Below.refl _ _),d,fun j2 x hx hn=>?_⟩;by_cases e:j2=j
      · subst e;rw[hp] at hx;cases hx;rfl
      · exact f j2 x hx (by omega)
    · have hp6 : p < 255 := by omega
      have BY:=By.take ((HB.out.keep q).keep d) j (by omega)
      have G:(l.take j).length=j:=by rw[List.length_take];omega
      have hjn:(j:Int)≤c:=by omega
      have w9:IntKind.u8.wrap (p+1)=p+1:=by rw[IntKind.wrap_u8];omega
      have O:=aQ kr;have HW:=aQ d
      have HNX:Hid (nxt l=l.take j ++ [p+1]):=tJ hp R (fun i2 y hy hi=>f i2 y hy (by omega));clear kr d f
      gi_wp2_with (first
        | (have gate:=s;clear gate;refine qi (fun _=>trivial) rfl rfl s ?_;clear s)
        | (refine⟨trivial,rfl,?_⟩;gi_at_call 101;refine(CallsIn.inRound l2 (callsIn_wide.2 (cT BY (by omega)))).mono ?_;rintro e' w5 ⟨v5,rfl,O5,b5⟩;obtain⟨v6,F,s,O6,b6⟩:= dS (B:=W2.heap.size) (x:=p+1) O5 b5.size (by omega) (by omega);have C:=(O.out.keep b5).lG b6 (O.out.lt);have kc:=C.cell (i:=0) rfl;have kfr:=C.free 0;obtain⟨a5,c5,rfl⟩:= OB.sh O5;obtain⟨a6,c6,rfl⟩:= OB.sh O6;rw[G] at s ⊢))
      have hlt:w.heap.size+1 < z.heap.size:=k2.lt;have hsW:=HW.out.size;have M:=b5.trans b6
      have O7:OB F (W2.heap.size≤·) (.slice a6 (j+1) c6) (l.take j ++ [p+1]):=by
        have U:=O6;rw[show (l.take j ++ [p+1]).length=j+1 by rw[List.length_append,G];rfl] at U;exact U
      have O8:OB (F.setCell ⟨w.heap.size+1,0,none⟩ (.slice a6 (j+1) c6)) (W2.heap.size≤·) (.slice a6 (j+1) c6) (l.take j ++ [p+1]):=O7.same (fun b _ hb=>Below.heap_setCell F _ _ b (by show b≠w.heap.size+1;omega))
      have B6:Below w.heap.size w F:=(q.trans (HW.out.mono q.size)).trans (M.mono (Nat.le_trans q.size hsW));refine⟨(aX.of M).trans ⟨?_,fun k o hk h0 _=>(Below.heap_setCell F _ _ k (by show k≠w.heap.size+1;omega)).trans h0⟩,rfl,_,C.setCell (i:=0) _,?_,B6.setCell (show w.heap.size≤w.heap.size+1 by omega) _⟩
      · exact((Chg.refl (fun x=>x=w.heap.size+1) F).cell (g:=w.heap.size+1) (i:=0) (.inl rfl) _).size
      · rw[HNX.out]
        exact O8.mono (fun b _ hb=>by have:=q.size;omega)
  · rintro Z X hD Y ⟨d,m⟩
    have kr:=k2.keep d;have kc:=kr.cell (i:=0) rfl;have kf:=kr.free 0
    have hlt:w.heap.size+1 < z.heap.size:=k2.lt
    have L:(X.setCell ⟨w.heap.size+1,0,none⟩ (.slice none 0 0)).heap[Z]?=some (.deferred (some [])):=(Below.heap_setCell X _ _ Z (by show Z≠w.heap.size+1;omega)).trans Y;gi_wp2;refine⟨by simp,.inl ⟨_,_,rfl,run_takeDeferred L,?_⟩⟩;have E:=Rec.put (B:=z.heap.size) L rfl hD (.deferred none);have k3:=nE (kr.setCell (i:=0) (.slice none 0 0)) E;refine⟨_,oZ rfl rfl (su (k3.cell (i:=0) rfl)),_,rfl,?_,?_⟩
    · rw[iQ (fun x hx => by
        obtain⟨j,D⟩:= List.getElem?_of_mem hx
        exact m j x D (by omega))]
      exact qC _ _
    · have U:Below w.heap.size w (X.setCell ⟨w.heap.size+1,0,none⟩ (.slice none 0 0)):=(q.trans (d.mono q.size)).setCell (show w.heap.size≤w.heap.size+1 by omega) _
      exact dO U E q.size U.size
  · rintro Z c i X hD Y hiN ⟨rfl,v,h1,h2,H⟩
    gi_wp2;refine⟨by simp,.inl ⟨_,_,rfl,run_takeDeferred Y,?_⟩⟩;have E:=Rec.put (B:=z.heap.size) Y rfl hD (.deferred none);have k3:=nE h1 E;exact⟨_,oZ rfl rfl (su (k3.cell (i:=0) rfl)),_,rfl,OB.rcd h2 E,dO H E q.size H.size⟩
theorem eU:Lt (x :: a) (y :: b)<->x < y\/(x=y/\Lt a b):=by
 unfold Lt;rw[dh];by_cases c:x < y
 ·simp[c]
 ·by_cases d:y < x
  ·rw[if_neg c,if_pos d];constructor
   ·intro h;exact absurd h (by decide)
   ·rintro(h | ⟨h,_⟩)<;>omega
  ·rw[if_neg c,if_neg d];have:x=y:=by omega
   simp[this]
theorem iv:Lt [] (y :: b):=by simp[Lt,dh]
theorem not_lt_nil:¬ Lt a []:=by cases a<;>simp[Lt,dh]
theorem yV(s:List Int):Lt (s ++ a) (s ++ b)<->Lt a b:=by
 induction s with
 | nil=>exact Iff.rfl
 | cons x s ih=>rw[List.cons_append,List.cons_append,eU,ih];simp
theorem jK:∀ l:List Int,(∀ x∈l,x=255)\/∃ A x B,l=A ++ x :: B/\x≠255/\∀ b∈B,b=255
 | []=>.inl (fun _ h=>by simp at h)
 | y :: t=>by
  rcases jK t with h | ⟨A,x,B,rfl,hx,hB⟩
  ·by_cases hy:y=255
   ·exact .inl (fun x hx=>by
     rcases List.mem_cons.1 hx with rfl | hx
     ·exact hy
     ·exact h x hx)
   ·exact .inr ⟨[],y,t,rfl,hy,h⟩
  ·exact .inr ⟨y :: A,x,B,rfl,hx,hB⟩
theorem po{A B:List Int}(hx:x≠255)(hB:∀ b∈B,b=255):nxt (A ++ x :: B)=A ++ [x+1]:=by
 unfold nxt;rw[yf A B hx hB];simp
theorem CJ(h:nxt l=[]):∀ x∈l,x=255:=by
 rcases jK l with h1 | ⟨A,x,B,rfl,hx,hB⟩
 ·exact h1
 ·rw[po hx hB] at h;simp at h
theorem uF{c:List Int}(h:nxt l≠[])(hc:l <+: c):Lt c (nxt l):=by
 rcases jK l with a | ⟨A,x,B,rfl,hx,b⟩
 ·exact absurd (iQ a) h
 ·obtain⟨t,rfl⟩:=hc;rw[po hx b,List.append_assoc,yV,List.cons_append,eU];exact .inl (by omega)
theorem uo:∀ {B t:List Int},(∀ b∈B,b=255)->Oct t->Lt t B\/B <+: t
 | [],_,_,_=>.inr (List.nil_prefix)
 | b :: B,[],_,_=>.inl iv
 | b :: B,z :: t,hB,ht=>by
  have hb:=hB b List.mem_cons_self;have c:=ht z List.mem_cons_self;subst hb;by_cases h:z=255
  ·subst h;rcases uo (fun b hb=>hB b (List.mem_cons_of_mem _ hb)) (fun y hy=>ht y (List.mem_cons_of_mem _ hy)) with a | a
   ·exact .inl (eU.2 (.inr ⟨rfl,a⟩))
   ·exact .inr (List.cons_prefix_cons.2 ⟨rfl,a⟩)
  ·exact .inl (eU.2 (.inl (by omega)))
theorem oK:∀ {A B c:List Int} {x:Int},(∀ b∈B,b=255)->Oct c->Lt c (A ++ [x+1])->Lt c (A ++ x :: B)\/(A ++ x :: B) <+: c
 | [],B,[],x,_,_,_=>.inl iv
 | [],B,y :: t,x,hB,hc,h=>by
  rw[List.nil_append,eU] at h;rw[List.nil_append];rcases h with h | ⟨_,h⟩
  ·by_cases e:y=x
   ·subst e;rcases uo hB (fun z hz=>hc z (List.mem_cons_of_mem _ hz)) with h1 | h1
    ·exact .inl (eU.2 (.inr ⟨rfl,h1⟩))
    ·exact .inr (List.cons_prefix_cons.2 ⟨rfl,h1⟩)
   ·exact .inl (eU.2 (.inl (by omega)))
  ·exact absurd h not_lt_nil
 | a :: A,B,[],x,_,_,_=>.inl iv
 | a :: A,B,y :: t,x,hB,hc,h=>by
  rw[List.cons_append,eU] at h;rw[List.cons_append];rcases h with h | ⟨h1,h2⟩
  ·exact .inl (eU.2 (.inl h))
  ·subst h1;rcases oK hB (fun z hz=>hc z (List.mem_cons_of_mem _ hz)) h2 with h3 | h3
   ·exact .inl (eU.2 (.inr ⟨rfl,h3⟩))
   ·exact .inr (List.cons_prefix_cons.2 ⟨rfl,h3⟩)
theorem uN{c:List Int}(hc:Oct c)(h1:¬ l <+: c)(d:¬ Lt c l):¬ Lt c (nxt l):=by
 rcases jK l with e | ⟨A,x,B,rfl,hx,b⟩
 ·rw[iQ e];exact not_lt_nil
 ·rw[po hx b];intro h;rcases oK b hc h with a | a
  ·exact d a
  ·exact h1 a
end
section
variable {w:World}{pg:Option Addr}{lb:Array Value}{K D:Nat->Prop}{W:List aC}{p:List Int}
theorem np{k:Nat}:Calls Tryz.prog 305 #[.pointer pg,.func (.func k) #[] lb] w fun e w'=>e=.returned (.func (.func 322) #[] #[.pointer (some ⟨w.heap.size,0,none⟩),.pointer (some ⟨w.heap.size + 1,0,none⟩)])/\Blk w' w.heap.size [.pointer pg] 40/\Blk w' (w.heap.size + 1) [.func (.func k) #[] lb] 335/\Below w.heap.size w w':=by
 have b1:=ai w (.cells #[.pointer pg] 40);have c1:=aJ w [.pointer pg] 40;have b:=ai (w.alloc (.cells #[.pointer pg] 40)) (.cells #[.func (.func k) #[] lb] 335);have c2:=aJ (w.alloc (.cells #[.pointer pg] 40)) [.func (.func k) #[] lb] 335
 have s1:(w.alloc (.cells #[.pointer pg] 40)).heap.size=w.heap.size+1:=by simp
 rw[s1] at c2;go_enter Tryz.func305,Tryz.ntmps305;go_wp2;go_ret;exact⟨rfl,c1.keep b,c2,aj b1 b⟩
theorem SA.oct{g n N:Nat}{E:aC}(h:SA w K D g E W n N):∀ x∈E,Oct x.1:=by
 obtain⟨F,V,m,Q,d,T,i,hX,rfl,f⟩:=h.open;obtain⟨L,rfl,A,O,S,k,r⟩:=hX.map.ex;intro x hx;rw[dm] at hx;obtain⟨e,he,rfl⟩:=List.mem_map.1 hx;obtain⟨es,b,a⟩:=List.mem_flatten.1 he;obtain⟨p,c,rfl⟩:=List.mem_map.1 b;exact((A.b8 p c).1.fg e a).k.oct
theorem sH{k:List Int}(h:p <+: k):¬ Lt k p:=by
 obtain⟨t,rfl⟩:=h;intro h;have:Lt (p ++ t) (p ++ []):=by simpa using h
 rw[yV] at this;exact not_lt_nil this
theorem yx{x:KV}(hx:Oct x.1):sY p (nxt p) x=decide (p <+: x.1):=by
 unfold sY;by_cases h:p <+: x.1
 ·have a:=sH h;by_cases hn:nxt p=[]
  ·simp[h,a,hn]
  ·simp[h,a];exact .inr (uF hn h)
 ·by_cases a:Lt x.1 p
  ·simp[h,a]
  ·have hn:nxt p≠[]:=fun e=>by
    rcases uo (CJ e) hx with b | b
    ·exact a b
    ·exact h b
   simp[h,a,hn,uN hx h a]
end
end Kv
end
section
namespace Kv
open Go.RowKit Go.Lib Pg
section
variable {w:World}{K D:Nat->Prop}{v:Value}{l:List Int}{W:List aC}
structure ByU(w:World)(v:Value)(l:List Int):Prop where
 byt:By w v l
 u8:∀ b o n c,v=.slice (some ⟨b,o,none⟩) n c->∃ cs m,w.heap[b]?=some (.cells cs 5 m)
theorem ByU.chg{w':World}(h:ByU w v l)(hc:Chg K w w')(hk:∀ b,K b->∃ cs t,Blk w b cs t/\t≠5):ByU w' v l:=by
 have g:∀ b o n c,v=.slice (some ⟨b,o,none⟩) n c->w'.heap[b]? = w.heap[b]? := fun b o n c e=>by
  obtain⟨cs,m,hb⟩:=h.u8 b o n c e;refine hc.same b (lt_of_block hb) fun s=>?_
  obtain⟨A,t,j,p⟩:=hk b s;have:=j.blk.symm.trans hb;simp at this;exact p this.2.1
 refine⟨?_,fun b o n c e=>by rw[g b o n c e];exact h.u8 b o n c e⟩;obtain⟨q,c,f,k,y,r,u,z⟩:=h.byt.ex;refine⟨q,c,f,k,y,r,u,z.imp id ?_⟩;rintro⟨b,o,rfl,d,a⟩;exact⟨b,o,rfl,Nat.lt_of_lt_of_le d hc.size,fun i x hi=>by rw[World.cell?_of_block (w:=w) (g b o _ _ f)];exact a i x hi⟩
theorem ByU.of(h:OB w D v l):ByU w v l:=by
 refine⟨h.by,fun b o n c e=>?_⟩;rcases h.ex with⟨rfl,_⟩ | ⟨b',c',rfl,_,hR⟩
 ·cases e
 ·cases e;obtain⟨cs,k⟩:=hR.kind;exact⟨_,_,k.blk⟩
theorem SA.kind{g n N:Nat}{E:aC}(h:SA w K D g E W n N):∀ b,K b->∃ cs t,Blk w b cs t/\t≠5:=by
 obtain⟨F,V,m,Q,jv,T,oj,_,_,_,_,_,_,_,O⟩:=h.ex;exact O.kind
end
end Kv
end
end Go.Proofs.YtgdohcdlkonhiaaGreatDoor
