import Derived.Test.YtjejmkcjflhoiaaGreatDoorJah
set_option maxRecDepth 100000
set_option maxHeartbeats 8000000
namespace Go.Proofs.YtjejmkcjflhoiaaGreatDoor
section
namespace Kv
open Go.RowKit Go.Lib Pg
attribute [local go_sem] Oper.semAt_some
section
variable {E:aI}{k:List Int}{w:World}{K D F V:Nat->Prop}{g n N m:Nat}{W:List aI}{kv jv:Value}{Q:List (List KV)}{T T0:List Jr}{oj:Option Nat}
theorem yW(h:ff E)(hn:(look E k).isSome=false):rem E k=E:=by
 obtain⟨X,Y,c,⟨rfl,e⟩ | ⟨x,rfl,e⟩⟩:=h.cut k
 ·exact c.yX
 ·rw[e] at hn;cases hn
theorem sget(h:SA w K D g E W n N)(d:BK w K kv k)(hn:n<=4000000000000000000)(C:N<=100000000) :
  Calls Tryz.prog 120 #[.pointer (some ⟨g,0,none⟩),kv] w fun e w'=>∃ v,e=.returned (.tuple #[v,.bool (look E k).isSome])/\OB w' (w.heap.size <= ·) v ((look E k).getD [])/\SA w' K D g E W (n+1) N/\Chg K w w':=by
 obtain⟨F,V,m,Q,y,T,G,hX,rfl,s⟩:=h.open;obtain⟨x,c,rfl⟩:=d.shape;have u:=gw hX hn;have t:=aD hX;have A:=aD s;have q:=aD d;clear hX s d h;obtain⟨kn,f⟩:∃ kn,Hid (k.length=kn):=⟨_,rfl⟩
 rw[f.out] at q ⊢;have o:=fun w' (X:SX w' K D F V g m Q y T G (n+1) N) (d:By w' (.slice x kn c) k)=>jU X d C
 obtain⟨r,p⟩:∃ r,(look Q.flatten k).isSome=r:=⟨_,rfl⟩
 obtain⟨L,hL⟩:∃ L,(look Q.flatten k).getD []=L:=⟨_,rfl⟩
 rw[p,hL] at o ⊢;clear p hL;go_enter Tryz.func120,Tryz.ntmps120;go_wp2_with first
  | (go_at_call 95;go_must (refine u.mono ?_);rintro e z ⟨rfl,j,l⟩;have c0:=j.blk.cell (i:=0) rfl)
  | (go_at_call 165;go_must (refine(o _ j (q.out _ (t.out.kg l))).mono ?_);rintro e J ⟨v,rfl,O,B⟩;obtain⟨a1,c1,rfl⟩:∃ a1 c1,v=.slice a1 L.length c1:=(by obtain⟨a1,c1,e,_⟩:=O.by.ex;exact⟨a1,c1,e⟩);generalize L.length=I at *)
 go_ret2;exact⟨_,rfl,O.mono (fun b _ h=>by have:=l.size;have H:z.heap.size<=b:=h;show w.heap.size<=b;omega),(j.keep B).shut rfl A.out,fA (t.out.kg l) (Chg.of B)⟩
theorem Ek(hX:SX w K D F V g m Q jv T oj n N)(r:ly (T.reverse.map Jr.U) W Q.flatten)(i:BK w K kv k)(hn:n<=4000000000000000000)(t:N+2<=100000000)(o:(look Q.flatten k).isSome=false) :
  Calls Tryz.prog 66 #[.pointer (some ⟨g,0,none⟩),kv] w (Ends w K D g (rem Q.flatten k) W (n+1) (N+2) (.bool false)):=by
 obtain⟨A,c,rfl⟩:=i.shape;have u:=gw hX hn;have l:=aD hX;have x:=aD r;have q:=aD i
 have v:N<=99999998:=by omega
 replace t:N<=100000000:=by omega
 clear hX r i;obtain⟨kn,f⟩:∃ kn,Hid (k.length=kn):=⟨_,rfl⟩
 rw[f.out] at q ⊢;go_enter Tryz.func66,Tryz.ntmps66;go_wp2_with first
  | (go_at_call 95;go_must (refine u.mono ?_);rintro e z ⟨rfl,d,p⟩;have j:=uO d (q.out _ (l.out.kg p)) t;rw[o] at j)
  | (go_at_call 112;go_must (refine j.mono ?_);rintro e B ⟨rfl,s⟩;clear j;replace d:=d.keep s;have y:=fA (l.out.kg p) (Chg.of s))
 go_ret;have e:=yW l.out.map.ord.flat o;exact⟨rfl,K,((d.shut e.symm (by rw[e];exact x.out)).more (by omega)).mono (fun _ _ h=>.inl h),fun b h=>.inl h,y⟩
theorem zJ(hX:SX w K D F V g m Q jv [] oj n N)(v:ly ([].reverse.map Jr.U) W Q.flatten)(l:BK w K kv k)(hn:n<=4000000000000000000)(x:N+2<=100000000)(s:(look Q.flatten k).isSome=true) :
  Calls Tryz.prog 66 #[.pointer (some ⟨g,0,none⟩),kv] w (Ends w K D g (rem Q.flatten k) W (n+1) (N+2) (.bool true)):=by
 obtain⟨I,c,rfl⟩:=l.shape;have u:=gw hX hn;have z:=aD hX;have C:=aD v;have o:=aD l
 have B:N<=99999998:=by omega
 replace x:N<=100000000:=by omega
 clear hX v l;obtain⟨kn,f⟩:∃ kn,Hid (k.length=kn):=⟨_,rfl⟩
 rw[f.out] at o ⊢;go_enter Tryz.func66,Tryz.ntmps66;go_wp2_with first
  | (go_at_call 95;go_must (refine u.mono ?_);rintro e J ⟨rfl,d,t⟩;have j:=uO d (o.out _ (z.out.kg t)) x;rw[s] at j)
  | (go_at_call 112;go_must (refine j.mono ?_);rintro e M ⟨rfl,q⟩;clear j;replace d:=d.keep q;have p:=fA (z.out.kg t) (Chg.of q))
  | (go_at_call 96;go_must (refine(mD d).mono ?_);rintro e y ⟨rfl,hy⟩;replace hy:=hy.symm;subst hy;have c0:=d.blk.cell (i:=0) rfl;have us:=mdel d.map (o.out _ p) (by omega);rw[j1 d.map.ord,s] at us)
  | (go_at_call 113;go_must (refine us.mono ?_);rintro e H ⟨rfl,L,A,hF,hC⟩)
 go_ret;have G:=d.mapped (N':=N) (by have:=d.tot;have:=wR (E:=Q.flatten) k;rw[iY d.map.ord];omega) A hF (fun _ h=>h) hC;refine⟨rfl,_,((G.shut (E:=rem Q.flatten k) (W:=W) (iY d.map.ord k) (sd C.out)).more (by omega)).mono (fun b _ hb=>?_),fun b hb=>?_,?_⟩
 ·exact .inl hb
 ·rcases hb with⟨hb,_⟩ | hb
  ·exact .inl hb
  ·rcases hF b hb with r | r
   ·exact .inl (d.own.map b r)
   ·exact .inr (by have:=p.size;omega)
 ·exact fA p (hC.mono (fun b _ h=>d.own.map b h))
theorem Bd{j:Jr}(hX:SX w K D F V g m Q jv (T0 ++ [j]) oj n N)(H:ly ((T0 ++ [j]).reverse.map Jr.U) W Q.flatten)(v:BK w K kv k)(hn:n<=4000000000000000000)(y:N+2<=100000000)(f:k.length<=1000000000)(C:(look Q.flatten k).isSome=true) :
  Calls Tryz.prog 66 #[.pointer (some ⟨g,0,none⟩),kv] w (Ends w K D g (rem Q.flatten k) W (n+1) (N+2) (.bool true)):=by
 obtain⟨T,c,rfl⟩:=v.shape;have u:=gw hX hn;have z:=aD hX;have M:=aD H;have q:=aD v;replace f:=aD f
 have L:N<=99999998:=by omega
 replace y:N<=100000000:=by omega
 clear hX H v;obtain⟨kn,r⟩:∃ kn,Hid (k.length=kn):=⟨_,rfl⟩
 rw[r.out] at q ⊢;go_enter Tryz.func66,Tryz.ntmps66;go_wp2_with first
  | (go_at_call 95;go_must (refine u.mono ?_);rintro e Y ⟨rfl,p,G⟩;have t:=uO p (q.out _ (z.out.kg G)) y;rw[C] at t)
  | (go_at_call 112;go_must (refine t.mono ?_);rintro e w2 ⟨rfl,A⟩;clear t;replace p:=p.keep A;have o:=fA (z.out.kg G) (Chg.of A))
  | (go_at_call 96;go_must (refine(pI p (q.out _ o) (by have:=f.out;omega) y).mono ?_);rintro e Z ⟨rfl,S,X,R,x,d,l,J⟩;have s:=fA o J;have c0:=d.blk.cell (i:=0) rfl;have us:=mdel d.map (q.out _ s) (by omega);rw[j1 d.map.ord,C] at us)
  | (go_at_call 113;go_must (refine us.mono ?_);rintro e P ⟨rfl,F',I,hF,hC⟩)
 go_ret;have O:=d.mapped (N':=N+1) (by have:=d.tot;have:=wR (E:=Q.flatten) k;rw[iY d.map.ord];omega) I hF (fun _ h=>h) hC;refine⟨rfl,_,((O.shut (E:=rem Q.flatten k) (W:=W) (iY d.map.ord k) (oX M.out x (Ao z.out.map.ord.flat k))).more (by omega)).mono (fun b _ hb=>?_),fun b hb=>?_,?_⟩
 ·rcases hb with hb | hb
  ·exact .inl hb
  ·exact .inr (by have:=o.size;omega)
 ·rcases hb with⟨hb,_⟩ | hb
  ·exact(l b hb).imp id (fun h=>by have:=o.size;omega)
  ·rcases hF b hb with B | B
   ·exact(l b (d.own.map b B)).imp id (fun h=>by have:=o.size;omega)
   ·exact .inr (by have:=s.size;omega)
 ·exact s.trans hC (fun b hb h=>(l b (d.own.map b h)).elim id (fun h=>by have:=o.size;omega))
theorem sdel(h:SA w K D g E W n N)(c:BK w K kv k)(b:k.length<=1000000000)(hn:n<=4000000000000000000)(d:N+2<=100000000) :
  Calls Tryz.prog 66 #[.pointer (some ⟨g,0,none⟩),kv] w (Ends w K D g (rem E k) W (n+1) (N+2) (.bool (look E k).isSome)):=by
 obtain⟨F,V,m,Q,e,T,i,hX,rfl,a⟩:=h.open
 cases hr:(look Q.flatten k).isSome with
 | false=>exact Ek hX a c hn d hr
 | true =>
  rcases List.eq_nil_or_concat T with rfl | ⟨f,j,rfl⟩
  ·exact zJ hX a c hn d hr
  ·rw[List.concat_eq_append] at hX a;exact Bd hX a c hn d b hr
end
end Kv
end
section
namespace Kv
open Go.RowKit Go.Lib Pg
attribute [local go_sem] Oper.semAt_some
end Kv
end
section
namespace Kv
open Go.RowKit Go.Lib Pg
attribute [local go_sem] Oper.semAt_some
theorem pG {fn:Func} {p:Tmp} {ty:TypeId} (h:fn.results=#[.cell p ty]) {tmps:Array Value} {w:World} {g:Nat} {v:Value} (b:tmps.getD p undef=.pointer (some ⟨g,0,none⟩)) (c:(loadVar ty ⟨g,0,none⟩).run Tryz.prog w=.ok v w):(results fn tmps).run Tryz.prog w=.ok v w:=by
 have a:tmps[p]?.getD undef=.pointer (some ⟨g,0,none⟩):=by simpa using b
 simp[results,h,a,asAddr,c]
end Kv
end
section
namespace Kv
open Go.RowKit Go.Lib Pg
attribute [local go_sem] Oper.semAt_some
end Kv
end
section
namespace Kv
open Go.RowKit Go.Lib Pg
attribute [local go_sem] Oper.semAt_some
section
variable {w w':World}{B:Nat}{xs:List Value}{K:Nat->Prop}
theorem Rw.rcd{E:TypeId}{k b n c:Nat}(h:Rw w E k b n c xs)(hr:Rec B w w'):Rw w' E k b n c xs:=by
 obtain⟨cs,hk⟩:=h.kind;exact h.same (by rw[(hr.blk hk).blk,hk.blk])
theorem kh{w1:World}(h:Chg K w w1)(c:Rec B w1 w')(f:w.heap.size<=B):Chg K w w' :=
 ⟨c.os.trans h.os,c.tape.trans h.tape,c.output.trans h.output,Nat.le_trans h.size c.size,fun b hb d=>by
  have e:=h.same b hb d;rw[<- e]
  have a:b < w1.heap.size:=Nat.lt_of_lt_of_le hb h.size;rw[Array.getElem?_eq_getElem a]
  exact c.same b _ (Array.getElem?_eq_getElem a) (.inl (by omega))⟩
end
end Kv
end
section
namespace Kv
open Go.RowKit Go.Lib Pg
attribute [local go_sem] Oper.semAt_some
end Kv
end
section
namespace Kv
open Go.RowKit Go.Lib Pg
attribute [local go_sem] Oper.semAt_some
section
variable {n g N:Nat}{ops:Array Oper}{rest:List Oper}{a:Act}{w w':World}{v jv:Value}{pos:String}{K D:Nat→Prop}{Q:List (List KV)}{T:List Jr}{oj:Option Nat}{X:Nat->Prop}{W:List aI}
theorem q8{F:Fence}{Q:Exit->Act->World->Prop}{o:Oper}(b:o.guard=none)(hF:∀ f,F.fn f)(hs:o.semAt F.round a.eval=execOp a.eval o)(hrun:(execOp a.eval o).run Tryz.prog w=.ok (.value v) w')(h:wpListIn F n Tryz.prog ops Q rest (a.put o.dst v) w'):wpListIn F n Tryz.prog ops Q (o :: rest) a w :=
 wpListIn_plain b fun K c=>by
  unfold Oper.wpIn;rw[hs,hrun,Oper.uponIn_value];exact⟨fun f _=>hF f,c _ _ h⟩
theorem EM{F:Fence}{x y d:Nat}{Q:Exit->Act->World->Prop}{after:Array Edge}{u r:Value}(hF:∀ f,F.fn f)(hu:a.eval (.tmp x)=u)(hv:a.eval (.tmp y)=v)(b:(Builtin.append_ #[46,46] 46 #[u,v]).run Tryz.prog w=.ok r w')(h:wpListIn F n Tryz.prog ops Q rest (a.put (some d) r) w') :
  wpListIn F n Tryz.prog ops Q ({ dst:=some d,op:=.call { callee:=.builtin .append,args:=#[.tmp x,.tmp y],argTypes:=#[46,46] },type:=46,pos:=pos,after:=after,guard:=none } :: rest) a w :=
 q8 rfl hF (Oper.semAt_eq _ _ _ (fun c h=>by cases h)) (run_ap (x:=x) (y:=y) rfl rfl hu hv b) h
theorem SX.wm{K D F V:Nat->Prop}{m:Nat}(h:SX w K D F V g m Q jv T oj n N)(d:N<=100000000)(e:∀ b,X b->¬ F b)(a:∀ b,X b->∀ cs,¬ Blk w b cs 5)(c:∀ b,X b->b < w.heap.size) :
  ∃ L,Wm w X F D m L/\∀ f t,(wlk (ens L) f t).map En.kl2=Q.flatten.filter (mM f t):=by
 obtain⟨L,rfl,A,O,S,k,r⟩:=h.map.ex;exact⟨L,⟨A,O,fun es he=>(S.one es he).2,S.few k d,r,e,a,c⟩,fun f t=>zZ O f t⟩
theorem yP(x:KV):mM [] [] x=true:=by
 simp[mM,Lt]
 cases x.1<;>simp[dw]
def TpD(t:TypeId):Prop:=t=89
theorem sdump{E:aI}(h:SA w K D g E W n N)(hN:N≤100000000) :
    Calls Tryz.prog 12 #[.pointer (some ⟨g,0,none⟩)] w fun e w'=>∃ v es,e=.returned v∧PrA w' w.heap.size v es∧es.map En.kl2=E∧Below w.heap.size w w':=by
  have hsm:=h.small;have hsz:=h.size;obtain⟨F,V,m,Q,jv,T,oj,hX,rfl,hB⟩:= h.open;have b1:=ae w (.cells #[.slice none 0 0] 46);have c1:=aE w [.slice none 0 0] 46;have X1:=hX.keep b1
  obtain⟨L, K2, aq⟩:= X1.wm hN (X := (· = w.heap.size)) (fun b e hF => by have e' : b = w.heap.size := e; have := hX.map.lt hF; omega) (fun b e cs k => by
    have e':b=w.heap.size:=e;subst e'
    exact absurd (c1.eq k).2 (by decide)) (fun b e=>by have e':b=w.heap.size:=e;simp;omega)
  have q:(wlk (ens L) [] []).map En.kl2=Q.flatten:=by rw[aq,List.filter_eq_self.2 (fun x _=>yP x)]
  have tW:=oD (Tp:=TpD) K2 (By.nil _) (By.nil _) (by decide) (by decide) (by unfold TpD;decide) (by unfold TpD;decide);have g0:=X1.blk.cell (i:=0) rfl;obtain⟨M,hE⟩:∃ E,Hid (wlk (ens L) [] []=E):=⟨_,rfl⟩;rw[hE.out] at tW q;have hEQ:=aD q
  have hlen:M.length≤N:=by have:=congrArg List.length q;simp only[List.length_map] at this;omega
  have sz1:(w.alloc (.cells #[.slice none 0 0] 46)).heap.size=w.heap.size+1:=by simp
  have al:=aD b1;have ad:=aD c1;clear h hX X1 K2 aq q hB;obtain⟨Wa,J⟩:∃ Wa,Hid (w.alloc (.cells #[.slice none 0 0] 46)=Wa):=⟨_,rfl⟩;rw[J.out] at tW g0 sz1 al ad;have c1:=ad.out;refine(callsIn_wide (n:=0)).1 ?_
  refine callsIn_of_wp_marks Tryz.func12 rfl trivial ?_ rfl;simp only[Tryz.ntmps12,List.size_toArray,List.length_cons,List.length_nil,Nat.reduceAdd,Nat.reduceSub,Array.replicate_succ,Array.replicate_zero,List.push_toArray,List.append_toArray,List.nil_append,List.cons_append];rw[← J.out] at g0;gi_wp2_with (refine⟨trivial,rfl,?_⟩;gi_at_call 33;rw[J.out];refine(callsIn_wide.2 tW).mono ?_;rintro e' w1 ⟨bw,rfl,G,IT⟩);have cb:=c1.keep G;clear tW;have q1:=G.size;refine iK IT (by rfl) (enters_of Tryz.func114 (by kernel_rfl) rfl) (fun i args n V V' h hc=>h.cel hc) (fun i args n V h=>by obtain⟨e,kv,vv,s,_,rfl,_⟩:= h;rfl)
    (fun i V=>Db w1 V w.heap.size M i) (fun _ _ _=>False)
    (fun i A B hx hr=>hx.rcd hr) (fun _ _ _ _ hx _=>hx)
    (fun i V hv=>hv.chg) ⟨Chg.refl _ _,_,[],cb,⟨.inl ⟨rfl,rfl⟩,fun e he=>by cases he⟩,rfl⟩ ?_ ?_ ?_
  · rintro l2 i args V Wv hl hlV hrec hiN hG hb ⟨e0,kv,vv,s0,Y,rfl,ag,ar,_⟩
    obtain⟨U,nk,hk1⟩:= ag.shape;obtain⟨S,nv,hv1⟩:= ar.shape;subst hk1 hv1;simp;gi_wp2;refine⟨Below.refl _ _,?_⟩;intro V2 W2 t l ai af z an r hrec2;obtain⟨e1,kv1,vv1,t1,ab,u,ac,aj,ht1⟩:= ai;obtain rfl:e1=e0:=by rw[Y] at ab;cases ab;rfl
    simp at u;obtain⟨rfl,rfl⟩:= u;obtain⟨ov,es,g1,g2,g3⟩:= t.out
    have p:es.length=i:=by have:=congrArg List.length g3;simp at this;omega
    obtain⟨ao0,cc0,rfl⟩:= g2.shape;have S0:=g1.keep l;have P0:=g2.keep l;have z1:=t.chg.size;have z2:=l.size;have f:=ae W2 (.cells #[.slice U e1.kl.length nk,.slice S e1.vl.length nv] 89);have N4:=aE W2 [.slice U e1.kl.length nk,.slice S e1.vl.length nv] 89;have z5:=f.size
    have ap:EnA (W2.alloc (.cells #[.slice U e1.kl.length nk,.slice S e1.vl.length nv] 89)) (fun b=>w1.heap.size≤b) ⟨.slice U e1.kl.length nk,e1.kl,.slice S e1.vl.length nv,e1.vl⟩:= ⟨(ac.keep f).mono (fun b _ hb=>by omega),(aj.keep f).mono (fun b _ hb=>by omega)⟩;obtain⟨ov5,w5,P,P5,I⟩:= Bq (e:=⟨.slice U e1.kl.length nk,e1.kl,.slice S e1.vl.length nv,e1.vl⟩) (a:=⟨W2.heap.size,0,none⟩) 46 (P0.keep f) (by omega) ap (by omega) (N4.cell (i:=0) rfl) (N4.cell (i:=1) rfl);have S4:=S0.keep f;have S5:=I.blk S4 (by decide);have s0c:=S0.cell (i:=0) rfl;obtain⟨d,y⟩:∃ d,Hid (es ++ [(⟨.slice U e1.kl.length nk,e1.kl,.slice S e1.vl.length nv,e1.vl⟩:En)]=d):=⟨_,rfl⟩
    have Z:Hid (d.map En.kl2=(M.take (i+1)).map En.kl2):=by
      show _=_
      rw[← y.out,List.map_append,g3,List.take_add_one,Y,List.map_append];rfl
    simp only[y.out] at P5;obtain⟨H,O,rfl⟩:= P5.shape;have s5c:=S5.cell (i:=0) rfl;have s5f:=S5.free 0;have R:=aD P5;have ah:=aD S5;have aa:=aD I;have am:=aD f;have HG2:=aD t;have HB2:=aD l;have hsl:=S4.cell (i:=0) rfl;replace p:=aD p;replace z:=aD z;replace an:=aD an;clear hG ag ar hb af P5 S5 I f N4 ap P0 S0 g1 g2 g3 ac aj l t S4;gi_wp2_with (have gate:=P;clear gate;refine EM (fun _=>trivial) rfl rfl P ?_;clear P)
    have j:Chg (·=w.heap.size) w5 (w5.setCell ⟨w.heap.size,0,none⟩ (.slice H d.length O)):=(Chg.refl (fun x=>x=w.heap.size) w5).cell (.inl (by rfl)) _
    have C : ∀ b, b = w.heap.size → ∀ cs, ¬ Blk w5 b cs 5 := fun b hb cs k => by
      subst hb;have:=(k.eq ah.out).2;revert this;decide
    have P6:PrA (w5.setCell ⟨w.heap.size,0,none⟩ (.slice H d.length O)) w1.heap.size (.slice H d.length O) d:=⟨R.out.ex.imp id (fun⟨b,c,e,hl,hR⟩=>⟨b,c,e,hl,hR.chg j (by omega)⟩),fun e he=>⟨(R.out.dW e he).k.chg j C,(R.out.dW e he).v.chg j C⟩⟩;refine⟨((bL.of (Tp:=TpD) (B:=w1.heap.size) am.out).trans (aa.out.keeps (Tp:=TpD) rfl)).trans ⟨j.size,fun k o hk h0 _=>(j.same k (lt_of_block h0) (by omega)).trans h0⟩,⟨?_,_,d,ah.out.setCell (i:=0) _,P6,Z.out⟩⟩;exact(((HG2.out.chg.trans (Chg.of (F:=fun _=>False) (aB HB2.out am.out)) (fun _ _ h=>h.elim)).trans aa.out.chg (fun b h1 h2=>by omega))).trans j (fun b _ h=>h)
  · rintro D' W' hD hK hG
    obtain⟨ov,es,g1,g2,g3⟩:= hG.out;obtain⟨ao,cc,rfl⟩:= g2.shape;have g1c:=g1.cell (i:=0) rfl;gi_wp2;refine⟨by simp,.inl ⟨_,_,rfl,run_takeDeferred hK,?_⟩⟩;refine⟨_,results_tmp rfl _ _ _,_,es,rfl,(g2.cel (Rec.put hK rfl hD _).cel).low (by omega),?_,?_⟩
    · rw[g3,List.take_length];exact hEQ.out
    · exact uZ al.out G ((hG.rcd (Rec.put hK rfl hD _)).chg) (Nat.le_refl _)
  · rintro D' c i W' hD hK hi hF
    exact hF.elim
end
end Kv
end
section
namespace Kv
open Go.RowKit Go.Lib Pg
attribute [local go_sem] Oper.semAt_some
section
variable {g x:Nat}{V:World}{E:List En}{args:Array Value}
def tick(g:Nat)(V:World)(x:Nat):World:=V.setCell ⟨g,2,none⟩ (.int .i64 ((x:Int)+1))
theorem uX{V':World}(hb:Below V.heap.size V V'):Below (tick g V x).heap.size (tick g V x) (tick g V' x):=by
 unfold tick;refine⟨hb.os,hb.tape,hb.output,by simpa[World.setCell] using hb.size,fun k b=>?_⟩
 have a:k < V.heap.size:=by simpa[World.setCell] using b
 by_cases e:k=g
 ·subst e;have c:=hb.block k a;simp only[World.setCell,Array.getElem?_modify,c]
 ·rw[Below.heap_setCell _ _ _ _ (by exact e),Below.heap_setCell _ _ _ _ (by exact e)];exact hb.block k a
theorem fJ(g x:Nat)(V:World):(tick g V x).heap.size=V.heap.size:=by simp[tick,World.setCell]
theorem eu(g x:Nat)(V:World):Chg (·=g) V (tick g V x):=(Chg.refl (·=g) V).cell (.inl rfl) _
theorem zM{i n:Nat}(h:ArC E i args n V)(j:∃ cs,Blk V g cs 85):ArC E i args n (tick g V x):=by
 obtain⟨e,kv,vv,s,m,c,f,l,o⟩:=h
 have a:∀ b,b=g->∀ cs,¬ Blk V b cs 5:=fun b hb cs k=>by
  subst hb;obtain⟨d,p⟩:=j;exact absurd (k.eq p).2 (by decide)
 exact⟨e,kv,vv,s,m,c,f.chg (eu g x V) a,l.chg (eu g x V) a,o⟩
def RdC(X:Nat->Prop)(W1:World)(g bs1 bs2 bw:Nat)(V:World):Prop:=Chg X W1 V/\Blk V bs1 [.pointer (some ⟨g,0,none⟩)] 37/\Blk V bs2 [.func (.func 114) #[] #[.pointer (some ⟨bw,0,none⟩)]] 76/\∃ cs,Blk V g cs 85
end
end Kv
end
section
namespace Kv
open Go.RowKit Go.Lib Pg
attribute [local go_sem] Oper.semAt_some
section
variable {I It:Nat->World->Prop}{Ix:Code->Nat->World->Prop}{W W' V:World}
def qc(I It:Nat->World->Prop)(k:Nat):World->Prop:=if k % 2=0 then I (k / 2) else It (k / 2)
theorem jV(I It:Nat->World->Prop)(i:Nat):qc I It (2 * i+1)=It i:=by
 unfold qc;rw[if_neg (by omega),show (2 * i+1) / 2=i by omega]
theorem lI(I It:Nat->World->Prop)(i:Nat):qc I It (2 * i+1+1)=I (i+1):=by
 unfold qc;rw[if_pos (by omega),show (2 * i+1+1) / 2=i+1 by omega]
theorem ph{Tp:TypeId->Prop}{B:Nat}{i:Nat}{e:Exit}{a:Act}(h:pH Tp B I Ix (i+1) W e a W'):pH Tp B (qc I It) (fun c k=>Ix c (k / 2)) (2 * i+1+1) W e a W':=by
 have e2:(2 * i+1+1) / 2=i+1:=by omega
 cases e<;>simp only[pH] at h ⊢
 ·exact⟨h.1,by rw[lI];exact h.2⟩
 ·exact⟨h.1,by rw[e2];exact h.2⟩
 ·exact⟨h.1,by rw[e2];exact h.2⟩
 ·exact⟨h.1,by rw[e2];exact h.2⟩
def Cj(Tp:TypeId->Prop)(w:World)(N n:Nat)(ps:Array Tmp)(assign body:Code)(tmps:Array Value)(Ar:Nat->Array Value->Nat->World->Prop)(It I:Nat->World->Prop)(Ix:Code->Nat->World->Prop):Prop :=
 ∀ (l i:Nat) (args:Array Value) (V W:World),w.heap.size<=l->l < V.heap.size->(∃ r,V.heap[l]?=some (.loop r))->i < N->It i V->Below V.heap.size V W->Ar i args V.heap.size W ->
  assign.wpIn (Fence.wide.inRound l) n Tryz.prog (Exit.then (fun a1 W1=>Below W.heap.size W W1/\∀ V2 W2,It i V2->Below V2.heap.size V2 W2->Ar i args V2.heap.size W2->(∀ b,b≠l->W2.heap[b]?=W1.heap[b]?)->W2.heap.size=W1.heap.size->V2.heap.size=V.heap.size->(∃ r,W2.heap[l]?=some (.loop r))->body.wpIn (Fence.wide.inRound l) n Tryz.prog (pH Tp w.heap.size I Ix (i+1) W2) a1 W2) (fun _ _ _=>False)) { tmps:=(ps.zip args).foldl (fun t (p,v)=>t.setIfInBounds p v) tmps,defers:=[] } W
theorem fT{g x k:Nat}(h:k≠g):(tick g V x).heap[k]?=V.heap[k]?:=Below.heap_setCell _ _ _ _ h
end
end Kv
end
section
namespace Kv
open Go.RowKit Go.Lib Pg
attribute [local go_sem] Oper.semAt_some
section
variable {w w' A A':World}{B n c g:Nat}{v u r:Value}{l a Q b:List Int}{x y:Int}{D:Nat->Prop}{ao:Option Addr}{Rd:World->Prop}{cs:List Value}{ops:Array Oper}{rest:List Oper}{pos:String}
theorem vD{p:Nat}(h:OB w (B <= ·) v l)(d:B<=w.heap.size)(t:l.length<=1000000000)(hx:0<=x/\x < 256)(r:w.cell? ⟨p,0,none⟩=some (.int .u8 x)) :
  ∃ v' w',(Builtin.append_ #[87,87] 87 #[v,.slice (some ⟨p,0,none⟩) 1 1]).run Tryz.prog w=.ok v' w'/\OB w' (B <= ·) v' (l ++ [x])/\Below B w w':=by
 have o:Oct (l ++ [x]):=fun y hy=>by
  rcases List.mem_append.1 hy with hy | hy
  ·exact h.oct y hy
  ·simp at hy;subst hy;exact hx
 have a:∀ j u,[Value.int .u8 x][j]? = some u->w.cell? ((⟨p,0,none⟩:Addr).add j)=some u:=fun j u m=>by
  match j with
  | 0=>simp at m;subst m;exact r
  | j+1=>simp at m
 rcases h.ex with⟨rfl,rfl⟩ | ⟨b,c,rfl,hl2,n⟩
 ·obtain⟨f,w',i,n,hw⟩:=gW (w:=w) KB 87 ⟨p,0,none⟩ 1 1 [.int .u8 x] rfl a (by decide) (by decide) (by decide);exact⟨_,w',i,⟨o,.inr ⟨_,f,rfl,d,n⟩⟩,hw.mono d⟩
 ·obtain⟨q,f,w',i,k,g,hw⟩:=eB (w:=w) KB 87 n ⟨p,0,none⟩ 1 1 [.int .u8 x] rfl a (by simp[Value.oneCell']) (by omega) (by omega);refine⟨_,w',i,⟨o,.inr ⟨q,f,by simp,?_,by rw[List.map_append,List.length_append]; exact g⟩⟩,hw.below (fun x e=>by have s:x=b:=e; omega) d⟩;rcases k with rfl | rfl
  ·exact hl2
  ·exact d
theorem eh(h:OB w (B <= ·) v l)(d:B<=w.heap.size)(t:l.length<=1000000000)(hx:0<=x/\x < 256) :
  ∃ v' w',(Builtin.append_ #[87,87] 87 #[v,.slice (some ⟨w.heap.size,0,none⟩) 1 1]).run Tryz.prog (w.alloc (.cells #[.int .u8 x] 5))=.ok v' w'/\OB w' (B <= ·) v' (l ++ [x])/\Below B w w':=by
 have hb:=ae w (.cells #[.int .u8 x] 5);have r:=aE w [.int .u8 x] 5
 have o:Oct (l ++ [x]):=fun y hy=>by
  rcases List.mem_append.1 hy with hy | hy
  ·exact h.oct y hy
  ·simp at hy;subst hy;exact hx
 have a:∀ j u,[Value.int .u8 x][j]? = some u->(w.alloc (.cells #[.int .u8 x] 5)).cell? ((⟨w.heap.size,0,none⟩:Addr).add j)=some u:=fun j u p=>by
  match j with
  | 0=>exact r.cell (i:=0) p
  | j+1=>simp at p
 rcases h.ex with⟨rfl,rfl⟩ | ⟨b,c,rfl,hl2,n⟩
 ·obtain⟨f,w',k,n,hw⟩:=gW (w:=w.alloc (.cells #[.int .u8 x] 5)) KB 87 ⟨w.heap.size,0,none⟩ 1 1 [.int .u8 x] rfl a (by decide) (by decide) (by decide);exact⟨_,w',k,⟨o,.inr ⟨_,f,rfl,Nat.le_trans d hb.size,n⟩⟩,(hb.mono d).trans (hw.mono (Nat.le_trans d hb.size))⟩
 ·obtain⟨q,f,w',k,m,g,hw⟩:=eB (w:=w.alloc (.cells #[.int .u8 x] 5)) KB 87 (n.keep hb) ⟨w.heap.size,0,none⟩ 1 1 [.int .u8 x] rfl a (by simp[Value.oneCell']) (by omega) (by omega);refine⟨_,w',k,⟨o,.inr ⟨q,f,by simp,?_,by rw[List.map_append,List.length_append]; exact g⟩⟩,(hb.mono d).trans (hw.below (fun x e=>by have s:x=b:=e; omega) (Nat.le_trans d hb.size))⟩;rcases m with rfl | rfl
  ·exact hl2
  ·exact Nat.le_trans d hb.size
theorem OB.sh(h:OB w D v l):∃ ao c,v=.slice ao l.length c:=by
 rcases h.ex with⟨rfl,rfl⟩ | ⟨b,c,rfl,_⟩
 ·exact⟨none,0,rfl⟩
 ·exact⟨_,c,rfl⟩
theorem By.lens(h:By w (.slice ao n c) l):l.length=n/\n<=c/\c<=9223372036854775807:=by
 obtain⟨ao',c',e,h2,h3,_⟩:=h.ex
 cases e;exact⟨rfl,h2,h3⟩
theorem j9{a:Act}{o:Oper}{x y:Nat}{T ty:TypeId}(b:o.type=ty)(c:o.op=.call { callee:=.builtin .append,args:=#[.tmp x,.tmp y],argTypes:=#[T,T] })(hx:a.eval (.tmp x)=u)(hy:a.eval (.tmp y)=v)(d:(Builtin.append_ #[T,T] ty #[u,v]).run Tryz.prog w=.ok r w') :
  (execOp a.eval o).run Tryz.prog w=.ok (.value r) w':=by
 subst b;unfold execOp;simp only[c,resolve,invoke,builtin,Sem.run_bind,Sem.run_pure,Result.andThen_ok,List.map_toArray,List.map_cons,List.map_nil,hx,hy,d]
theorem qX(w:World)(D:Nat->Prop):OB w D (.slice none 0 0) []:=⟨fun _ h=>by simp at h,.inl ⟨rfl,rfl⟩⟩
def ArBB(Q:List Int)(i:Nat)(args:Array Value)(_:Nat)(_:World):Prop:=∃ p j,j+1+i=Q.length/\Q[j]?=some p/\args=#[.int .i64 (j:Int),.int .u8 p]
theorem kT{Tp:TypeId->Prop}{bs:Nat}(hn:Q.length=n)(B:n<=1000000000)(hb:∀ V,Rd V->V.cell? ⟨bs,0,none⟩=some (.slice ao n c)/\∀ j p,Q[j]?=some p->∃ b o,ao=some ⟨b,o,none⟩/\V.cell? ⟨b,o+j,none⟩=some (.int .u8 p)) :
  Itr Tp 171 #[.pointer (some ⟨bs,0,none⟩)] n (ArBB Q) Rd:=by
 intro l J I W K E r D h0;have z:=(hb W (r 0 W h0)).1
 have hb:Hid _:=hb
 have hn:Hid _:=hn
 have O:IntKind.i64.wrap ((n:Int) - 1)=(n:Int) - 1:=by rw[IntKind.wrap_i64];omega
 refine(callsIn_wide (n:=0)).1 ?_
 refine callsIn_of_wp Tryz.func171 rfl trivial ?_ rfl;simp only[Tryz.ntmps171,List.size_toArray,List.length_cons,List.length_nil,Nat.reduceAdd,Nat.reduceSub,Array.replicate_succ,Array.replicate_zero,List.push_toArray,List.append_toArray,List.nil_append,List.cons_append];gi_wp2;gi_loopw [3] (fun y wr=>∃ i:Nat,i<=n/\y=.int .i64 ((n:Int) - 1 - (i:Int))/\W.heap.size<=wr.heap.size/\J i wr) (fun y _=>(intOf y+1).toNat)
 case atStart=>exact⟨0,Nat.zero_le _,by simp,Nat.le_refl _,h0⟩
 case round =>
  clear z;obtain⟨i,hi,rfl,d,f⟩:=hrel;obtain⟨z,m⟩:=hb.out wr (r _ _ f);by_cases q:i < n
  ·obtain⟨j,v⟩:∃ j,j+1+i=n:=⟨n - 1 - i,by omega⟩
   obtain⟨p,A⟩:∃ p,Q[j]?=some p:=⟨Q[j]'(by have:=hn.out;omega),List.getElem?_eq_getElem _⟩
   obtain⟨b,o,rfl,H⟩:=m j p A
   have s:(n:Int) - 1 - (i:Int)=(j:Int):=by omega
   have G:Hid (j+1+i=n):=v;have x:=D i _ wr wr q f d (Below.refl _ _) ⟨p,j,by rw[hn.out];exact v,A,rfl⟩;obtain⟨fn,tmps,assign,body,hy,F⟩:=x;rw[s]
   have L:IntKind.i64.wrap ((j:Int) - 1)=(j:Int) - 1:=by rw[IntKind.wrap_i64];omega
   have z1:(j:Int) < n:=by omega
   clear m s v;gi_wp2;refine⟨rfl,F.mono ?_⟩;rintro M N ⟨u,⟨rfl,g⟩ | ⟨rfl,g⟩⟩
   ·gi_wp2;go_roundw
    case rel=>exact⟨i+1,by omega,by have:=G.out;congr 1;omega,Nat.le_trans d u.size,g⟩
    case measure=>simp[intOf]
   ·gi_wp2;refine bodyPost_ret (results_none rfl _ _ _) rfl ?_
    exact⟨⟨_,rfl⟩,Nat.le_trans d u.size,.inr ⟨i,q,g⟩⟩
  ·have t:i=n:=by omega
   have s:(n:Int) - 1 - (i:Int)=-1:=by omega
   rw[s]
   have C:Hid (J n wr):=by show J n wr;rw[<- t];exact f
   clear m s t f;gi_wp2;go_end0;exact⟨⟨_,rfl⟩,d,.inl C.out⟩
theorem nI:Calls Tryz.prog 122 #[.slice ao n c] w fun e w'=>e=.returned (.func (.func 171) #[] #[.pointer (some ⟨w.heap.size,0,none⟩)])/\Blk w' w.heap.size [.slice ao n c] 87/\Below w.heap.size w w':=by
 go_enter Tryz.func122,Tryz.ntmps122;go_wp2;go_ret;exact⟨rfl,aE w _ _,ae w _⟩
def nxt(l:List Int):List Int:=match l.reverse.dropWhile (· == 255) with
 | []=>[]
 | x :: t=>t.reverse ++ [x+1]
theorem CK:∀ {l:List Int},(∀ x∈l,x=255)->l.dropWhile (· == 255)=[]
 | [],_=>rfl
 | x :: l,h=>by
  have hx:=h x List.mem_cons_self;subst hx;rw[List.dropWhile_cons_of_pos (by decide)];exact CK (fun y hy=>h y (List.mem_cons_of_mem _ hy))
theorem zm(A B:List Int)(hx:x≠255)(h:∀ b∈B,b=255):(A ++ x :: B).reverse.dropWhile (· == 255)=x :: A.reverse:=by
 rw[List.reverse_append,List.reverse_cons,List.append_assoc,List.dropWhile_append_of_pos (fun a c=>by simp[h a (List.mem_reverse.1 c)]),List.singleton_append,List.dropWhile_cons_of_neg (by simp[hx])]
theorem gm(h:∀ x∈l,x=255):nxt l=[]:=by
 have:l.reverse.dropWhile (· == 255)=[]:=by
  exact CK (fun x hx=>h x (List.mem_reverse.1 hx))
 unfold nxt;rw[this]
theorem uA{j:Nat}(f:l[j]?=some x)(hx:x≠255)(h:∀ i y,l[i]?=some y->j < i->y=255):nxt l=l.take j ++ [x+1]:=by
 have b:j < l.length:=(List.getElem?_eq_some_iff.1 f).1
 have e:l=l.take j ++ x :: l.drop (j+1):=by
  have d:=(List.take_append_drop j l).symm
  have g:l.drop j=x :: l.drop (j+1):=by
   rw[List.drop_eq_getElem_cons b];congr 1
   exact(List.getElem?_eq_some_iff.1 f).2
  rw[g] at d;exact d
 have k:l.reverse.dropWhile (· == 255)=x :: (l.take j).reverse:=by
  have c:=zm (l.take j) (l.drop (j + 1)) hx (fun a m=>by
   obtain⟨i,hi⟩:=List.getElem?_of_mem m;rw[List.getElem?_drop] at hi
   exact h (j+1+i) a hi (by omega))
  rw[<- e] at c;exact c
 unfold nxt;rw[k];simp
theorem dX{b d:Nat}{B:World}(h:Below b w A)(a:Rec d A B)(f:b<=d)(hw:b<=A.heap.size):Below b w B :=
 ⟨a.os.trans h.os,a.tape.trans h.tape,a.output.trans h.output,Nat.le_trans h.size a.size,fun k e=>by
  obtain⟨o,c⟩:∃ o,A.heap[k]?=some o:=⟨A.heap[k]'(by omega),Array.getElem?_eq_getElem _⟩
  rw[a.same k o c (.inl (by omega)),<- c]
  exact h.block k e⟩
theorem nW{ty:TypeId}(h:Blk A g cs ty)(hr:Rec B A A'):Blk A' g cs ty:=hr.blk h
theorem OB.rcd(h:OB A D v l)(hr:Rec B A A'):OB A' D v l:=by
 refine⟨h.oct,h.ex.imp id ?_⟩;rintro⟨b,c,e,hd,hR⟩;obtain⟨cs,k⟩:=hR.kind;exact⟨b,c,e,hd,hR.same ((hr.blk k).blk.trans k.blk.symm)⟩
theorem By.take(h:By w (.slice ao n c) l)(j:Nat)(t:j<=n):By w (.slice ao j c) (l.take j):=by
 obtain⟨s,hc,hm⟩:=By.lens h;obtain⟨p,r,e,q,k,f,g,o⟩:=h.ex
 cases e
 have hlen:(l.take j).length=j:=by rw[List.length_take];omega
 refine⟨ao,c,by rw[hlen],by rw[hlen];omega,k,f,fun x hx=>g x (List.mem_of_mem_take hx),?_⟩;rcases o with rfl | ⟨d,m,e,b,a⟩
 ·exact .inl (by simp)
 ·exact .inr ⟨d,m,e,b,fun i x hi=>a i x (by
   rw[List.getElem?_take] at hi;split at hi
   ·exact hi
   ·cases hi)⟩
theorem pM{o:Nat}(c:w.cell? ⟨g,o,none⟩=some v):(loadVar 87 ⟨g,o,none⟩).run Tryz.prog w=.ok v w:=by go_simp
theorem qB{F:Fence}{Q:Exit->Act->World->Prop}{after:Array Edge}{a:Act}(hF:∀ f,F.fn f)(hu:a.eval (.tmp 14)=u)(hv:a.eval (.tmp 17)=v)(b:(Builtin.append_ #[87,87] 87 #[u,v]).run Tryz.prog w=.ok r w')(h:wpListIn F n Tryz.prog ops Q rest (a.put (some 18) r) w') :
  wpListIn F n Tryz.prog ops Q ({ dst:=some 18,op:=.call { callee:=.builtin .append,args:=#[.tmp 14,.tmp 17],argTypes:=#[87,87] },type:=87,pos:=pos,after:=after,guard:=none } :: rest) a w :=
 q8 rfl hF (Oper.semAt_eq _ _ _ (fun c h=>by cases h)) (j9 (x:=14) (y:=17) rfl rfl hu hv b) h
theorem nL(h:By w (.slice ao n c) l)(U:n≤1000000000) :
    Calls Tryz.prog 110 #[.slice ao n c] w fun e w'=>∃ v,e=.returned v∧OB w' (w.heap.size≤·) v (nxt l)∧Below w.heap.size w w':=by
  obtain⟨hl,hnc,hcm⟩:= By.lens h;have c1:=aE w [.slice ao n c] 87;have b1:=ae w (.cells #[.slice ao n c] 87)
  have s1:(w.alloc (.cells #[.slice ao n c] 87)).heap.size=w.heap.size+1:=by simp
  have c2:=aE (w.alloc (.cells #[.slice ao n c] 87)) [.slice none 0 0] 87;have b2:=ae (w.alloc (.cells #[.slice ao n c] 87)) (.cells #[.slice none 0 0] 87)
  have s2:((w.alloc (.cells #[.slice ao n c] 87)).alloc (.cells #[.slice none 0 0] 87)).heap.size=w.heap.size+2:=by simp
  rw[s1] at c2
  have R:=c1.keep b2;have X:=aB b1 b2;obtain⟨Wa,J⟩:∃ Wa,Hid ((w.alloc (.cells #[.slice ao n c] 87)).alloc (.cells #[.slice none 0 0] 87)=Wa):=⟨_,rfl⟩;rw[J.out] at R c2 s2 X;have HB:=aD h;clear h c1 b1 b2 s1;refine(callsIn_wide (n:=0)).1 ?_
  refine callsIn_of_wp_marks Tryz.func110 rfl trivial ?_ rfl;simp only[Tryz.ntmps110,List.size_toArray,List.length_cons,List.length_nil,Nat.reduceAdd,Nat.reduceSub,Array.replicate_succ,Array.replicate_zero,List.push_toArray,List.append_toArray,List.nil_append,List.cons_append];gi_wp2_with (refine⟨trivial,rfl,?_⟩;gi_at_call 122;rw[J.out];refine(callsIn_wide.2 nI).mono ?_;rintro e' z ⟨rfl,O,t⟩);rw[s2] at O;have k1:=R.keep t;have Y:=c2.keep t;have q:=aB X t;have hs2:=t.size;have IT:=kT (Tp:=fun _=>False) (bs:=w.heap.size+2) (c:=c) (ao:=ao) (Q:=l) (n:=n) (Rd:=fun V=>Below z.heap.size z V) hl U (fun V hv=>⟨(O.keep hv).cell (i:=0) rfl,fun j p D=>By.at ((HB.out.keep q).keep hv) D⟩);refine iK IT (by rfl) (enters_of Tryz.func171 (by kernel_rfl) rfl) (fun i args n V V' h _=>h) (fun i args n V h=>by obtain⟨p,j,_,_,rfl⟩:= h;rfl)
    (fun i V=>Below z.heap.size z V∧∀ j x,l[j]?=some x→n≤j+i→x=255)
    (fun c i V=>c=.ret∧∃ v,Blk V (w.heap.size+1) [v] 87∧OB V (w.heap.size≤·) v (nxt l)∧Below w.heap.size w V)
    (fun i A B hx T=>⟨dX hx.1 T (Nat.le_refl _) hx.1.size,hx.2⟩)
    (fun c i A B hx T=>⟨hx.1,by obtain⟨v,h1,h2,I⟩:= hx.2;exact⟨v,T.blk h1,OB.rcd h2 T,dX I T q.size I.size⟩⟩)
    (fun i V hv=>hv.1) ⟨Below.refl _ _,fun j x D hn=>by have:=(List.getElem?_eq_some_iff.1 D).1;omega⟩ ?_ ?_ ?_
  · rintro l2 i args V Wv hl2 hlV hrec hiN ⟨hBV,m⟩ hb ⟨p,j,D,hp,rfl⟩
    simp;gi_wp2;refine⟨Below.refl _ _,?_⟩;intro V2 W2 u f hb2 L K hsz3 hV2 r hrec2;have d:=u.trans (hb2.mono u.size);have kb:=(k1.keep d).cell (i:=0) rfl;have G:=Y.keep d
    have hpo:0≤p∧p < 256:=HB.out.oct p (List.mem_of_getElem? hp);clear m hb hBV K L;by_cases S:p=255
    · subst S
      gi_wp2;refine⟨bL.of (Below.refl _ _),d,fun j2 x hx hn=>?_⟩;by_cases e:j2=j
      · subst e;rw[hp] at hx;cases hx;rfl
      · exact f j2 x hx (by omega)
    · have hp6 : p < 255 := by omega
      have BY:=By.take ((HB.out.keep q).keep d) j (by omega)
      have H:(l.take j).length=j:=by rw[List.length_take];omega
      have hjn:(j:Int)≤c:=by omega
      have w9:IntKind.u8.wrap (p+1)=p+1:=by rw[IntKind.wrap_u8];omega
      have P:=aD G;have HW:=aD d
      have HNX:Hid (nxt l=l.take j ++ [p+1]):=uA hp S (fun i2 y hy hi=>f i2 y hy (by omega));clear G d f
      gi_wp2_with (first
        | (have gate:=s;clear gate;refine qB (fun _=>trivial) rfl rfl s ?_;clear s)
        | (refine⟨trivial,rfl,?_⟩;gi_at_call 69;refine(CallsIn.inRound l2 (callsIn_wide.2 (cZ BY (by omega)))).mono ?_;rintro e' w5 ⟨v5,rfl,O5,b5⟩;obtain⟨v6,F,s,O6,b6⟩:= eh (B:=W2.heap.size) (x:=p+1) O5 b5.size (by omega) (by omega);have C:=(P.out.keep b5).lQ b6 (P.out.lt);have kc:=C.cell (i:=0) rfl;have kfr:=C.free 0;obtain⟨a5,c5,rfl⟩:= OB.sh O5;obtain⟨a6,c6,rfl⟩:= OB.sh O6;rw[H] at s ⊢))
      have hlt:w.heap.size+1 < z.heap.size:=Y.lt;have hsW:=HW.out.size;have N:=b5.trans b6
      have O7:OB F (W2.heap.size≤·) (.slice a6 (j+1) c6) (l.take j ++ [p+1]):=by
        have W:=O6;rw[show (l.take j ++ [p+1]).length=j+1 by rw[List.length_append,H];rfl] at W;exact W
      have O8:OB (F.setCell ⟨w.heap.size+1,0,none⟩ (.slice a6 (j+1) c6)) (W2.heap.size≤·) (.slice a6 (j+1) c6) (l.take j ++ [p+1]):=O7.same (fun b _ hb=>Below.heap_setCell F _ _ b (by show b≠w.heap.size+1;omega))
      have B6:Below w.heap.size w F:=(q.trans (HW.out.mono q.size)).trans (N.mono (Nat.le_trans q.size hsW));refine⟨(bL.of N).trans ⟨?_,fun k o hk h0 _=>(Below.heap_setCell F _ _ k (by show k≠w.heap.size+1;omega)).trans h0⟩,rfl,_,C.setCell (i:=0) _,?_,B6.setCell (show w.heap.size≤w.heap.size+1 by omega) _⟩
      · exact((Chg.refl (fun x=>x=w.heap.size+1) F).cell (g:=w.heap.size+1) (i:=0) (.inl rfl) _).size
      · rw[HNX.out]
        exact O8.mono (fun b _ hb=>by have:=q.size;omega)
  · rintro D' Z hD hK ⟨d,m⟩
    have G:=Y.keep d;have kc:=G.cell (i:=0) rfl;have kf:=G.free 0
    have hlt:w.heap.size+1 < z.heap.size:=Y.lt
    have M:(Z.setCell ⟨w.heap.size+1,0,none⟩ (.slice none 0 0)).heap[D']?=some (.deferred (some [])):=(Below.heap_setCell Z _ _ D' (by show D'≠w.heap.size+1;omega)).trans hK;gi_wp2;refine⟨by simp,.inl ⟨_,_,rfl,run_takeDeferred M,?_⟩⟩;have E:=Rec.put (B:=z.heap.size) M rfl hD (.deferred none);have k3:=nW (G.setCell (i:=0) (.slice none 0 0)) E;refine⟨_,pG rfl rfl (pM (k3.cell (i:=0) rfl)),_,rfl,?_,?_⟩
    · rw[gm (fun x hx => by
        obtain⟨j,D⟩:= List.getElem?_of_mem hx
        exact m j x D (by omega))]
      exact qX _ _
    · have W:Below w.heap.size w (Z.setCell ⟨w.heap.size+1,0,none⟩ (.slice none 0 0)):=(q.trans (d.mono q.size)).setCell (show w.heap.size≤w.heap.size+1 by omega) _
      exact dX W E q.size W.size
  · rintro D' c i Z hD hK hiN ⟨rfl,v,h1,h2,I⟩
    gi_wp2;refine⟨by simp,.inl ⟨_,_,rfl,run_takeDeferred hK,?_⟩⟩;have E:=Rec.put (B:=z.heap.size) hK rfl hD (.deferred none);have k3:=nW h1 E;exact⟨_,pG rfl rfl (pM (k3.cell (i:=0) rfl)),_,rfl,OB.rcd h2 E,dX I E q.size I.size⟩
theorem de:Lt (x :: a) (y :: b)<->x < y\/(x=y/\Lt a b):=by
 unfold Lt;rw[dw];by_cases c:x < y
 ·simp[c]
 ·by_cases d:y < x
  ·rw[if_neg c,if_pos d];constructor
   ·intro h;exact absurd h (by decide)
   ·rintro(h | ⟨h,_⟩)<;>omega
  ·rw[if_neg c,if_neg d];have:x=y:=by omega
   simp[this]
theorem gq:Lt [] (y :: b):=by simp[Lt,dw]
theorem not_lt_nil:¬ Lt a []:=by cases a<;>simp[Lt,dw]
theorem fS(s:List Int):Lt (s ++ a) (s ++ b)<->Lt a b:=by
 induction s with
 | nil=>exact Iff.rfl
 | cons x s ih=>rw[List.cons_append,List.cons_append,de,ih];simp
theorem gQ:∀ l:List Int,(∀ x∈l,x=255)\/∃ A x B,l=A ++ x :: B/\x≠255/\∀ b∈B,b=255
 | []=>.inl (fun _ h=>by simp at h)
 | y :: t=>by
  rcases gQ t with h | ⟨A,x,B,rfl,hx,hB⟩
  ·by_cases hy:y=255
   ·exact .inl (fun x hx=>by
     rcases List.mem_cons.1 hx with rfl | hx
     ·exact hy
     ·exact h x hx)
   ·exact .inr ⟨[],y,t,rfl,hy,h⟩
  ·exact .inr ⟨y :: A,x,B,rfl,hx,hB⟩
theorem kL{A B:List Int}(hx:x≠255)(hB:∀ b∈B,b=255):nxt (A ++ x :: B)=A ++ [x+1]:=by
 unfold nxt;rw[zm A B hx hB];simp
theorem wC(h:nxt l=[]):∀ x∈l,x=255:=by
 rcases gQ l with h1 | ⟨A,x,B,rfl,hx,hB⟩
 ·exact h1
 ·rw[kL hx hB] at h;simp at h
theorem og{c:List Int}(h:nxt l≠[])(hc:l <+: c):Lt c (nxt l):=by
 rcases gQ l with a | ⟨A,x,B,rfl,hx,b⟩
 ·exact absurd (gm a) h
 ·obtain⟨t,rfl⟩:=hc;rw[kL hx b,List.append_assoc,fS,List.cons_append,de];exact .inl (by omega)
theorem ve:∀ {B t:List Int},(∀ b∈B,b=255)->Oct t->Lt t B\/B <+: t
 | [],_,_,_=>.inr (List.nil_prefix)
 | b :: B,[],_,_=>.inl gq
 | b :: B,z :: t,hB,ht=>by
  have hb:=hB b List.mem_cons_self;have c:=ht z List.mem_cons_self;subst hb;by_cases h:z=255
  ·subst h;rcases ve (fun b hb=>hB b (List.mem_cons_of_mem _ hb)) (fun y hy=>ht y (List.mem_cons_of_mem _ hy)) with a | a
   ·exact .inl (de.2 (.inr ⟨rfl,a⟩))
   ·exact .inr (List.cons_prefix_cons.2 ⟨rfl,a⟩)
  ·exact .inl (de.2 (.inl (by omega)))
theorem o5:∀ {A B c:List Int} {x:Int},(∀ b∈B,b=255)->Oct c->Lt c (A ++ [x+1])->Lt c (A ++ x :: B)\/(A ++ x :: B) <+: c
 | [],B,[],x,_,_,_=>.inl gq
 | [],B,y :: t,x,hB,hc,h=>by
  rw[List.nil_append,de] at h;rw[List.nil_append];rcases h with h | ⟨_,h⟩
  ·by_cases e:y=x
   ·subst e;rcases ve hB (fun z hz=>hc z (List.mem_cons_of_mem _ hz)) with h1 | h1
    ·exact .inl (de.2 (.inr ⟨rfl,h1⟩))
    ·exact .inr (List.cons_prefix_cons.2 ⟨rfl,h1⟩)
   ·exact .inl (de.2 (.inl (by omega)))
  ·exact absurd h not_lt_nil
 | a :: A,B,[],x,_,_,_=>.inl gq
 | a :: A,B,y :: t,x,hB,hc,h=>by
  rw[List.cons_append,de] at h;rw[List.cons_append];rcases h with h | ⟨h1,h2⟩
  ·exact .inl (de.2 (.inl h))
  ·subst h1;rcases o5 hB (fun z hz=>hc z (List.mem_cons_of_mem _ hz)) h2 with h3 | h3
   ·exact .inl (de.2 (.inr ⟨rfl,h3⟩))
   ·exact .inr (List.cons_prefix_cons.2 ⟨rfl,h3⟩)
theorem oy{c:List Int}(hc:Oct c)(f:¬ l <+: c)(d:¬ Lt c l):¬ Lt c (nxt l):=by
 rcases gQ l with e | ⟨A,x,B,rfl,hx,b⟩
 ·rw[gm e];exact not_lt_nil
 ·rw[kL hx b];intro h;rcases o5 b hc h with a | a
  ·exact d a
  ·exact f a
end
end Kv
end
section
namespace Kv
open Go.RowKit Go.Lib Pg
attribute [local go_sem] Oper.semAt_some
end Kv
end
section
namespace Kv
open Go.RowKit Go.Lib Pg
attribute [local go_sem] Oper.semAt_some
section
variable {w:World}{pg:Option Addr}{lb:Array Value}{K D:Nat->Prop}{W:List aI}{p:List Int}
theorem nP{k:Nat}:Calls Tryz.prog 109 #[.pointer pg,.func (.func k) #[] lb] w fun e w'=>e=.returned (.func (.func 164) #[] #[.pointer (some ⟨w.heap.size,0,none⟩),.pointer (some ⟨w.heap.size + 1,0,none⟩)])/\Blk w' w.heap.size [.pointer pg] 37/\Blk w' (w.heap.size + 1) [.func (.func k) #[] lb] 76/\Below w.heap.size w w':=by
 have c:=ae w (.cells #[.pointer pg] 37);have c1:=aE w [.pointer pg] 37;have b:=ae (w.alloc (.cells #[.pointer pg] 37)) (.cells #[.func (.func k) #[] lb] 76);have c2:=aE (w.alloc (.cells #[.pointer pg] 37)) [.func (.func k) #[] lb] 76
 have s1:(w.alloc (.cells #[.pointer pg] 37)).heap.size=w.heap.size+1:=by simp
 rw[s1] at c2;go_enter Tryz.func109,Tryz.ntmps109;go_wp2;go_ret;exact⟨rfl,c1.keep b,c2,aB c b⟩
theorem SA.oct{g n N:Nat}{E:aI}(h:SA w K D g E W n N):∀ x∈E,Oct x.1:=by
 obtain⟨F,V,m,Q,d,T,i,hX,rfl,f⟩:=h.open;obtain⟨L,rfl,A,O,S,k,r⟩:=hX.map.ex;intro x hx;rw[dI] at hx;obtain⟨e,he,rfl⟩:=List.mem_map.1 hx;obtain⟨es,b,a⟩:=List.mem_flatten.1 he;obtain⟨p,c,rfl⟩:=List.mem_map.1 b;exact((A.cI p c).1.dW e a).k.oct
theorem tQ{k:List Int}(h:p <+: k):¬ Lt k p:=by
 obtain⟨t,rfl⟩:=h;intro h;have:Lt (p ++ t) (p ++ []):=by simpa using h
 rw[fS] at this;exact not_lt_nil this
theorem zL{x:KV}(hx:Oct x.1):mM p (nxt p) x=decide (p <+: x.1):=by
 unfold mM;by_cases h:p <+: x.1
 ·have a:=tQ h;by_cases hn:nxt p=[]
  ·simp[h,a,hn]
  ·simp [h,a];exact .inr (og hn h)
 ·by_cases a:Lt x.1 p
  ·simp[h,a]
  ·have hn:nxt p≠[]:=fun e=>by
    rcases ve (wC e) hx with b | b
    ·exact a b
    ·exact h b
   simp[h,a,hn,oy hx h a]
end
end Kv
end
section
namespace Kv
open Go.RowKit Go.Lib Pg
section
variable {w:World}{K D:Nat->Prop}{v:Value}{l:List Int}{W:List aI}
structure ByU(w:World)(v:Value)(l:List Int):Prop where
 byt:By w v l
 u8:∀ b o n c,v=.slice (some ⟨b,o,none⟩) n c->∃ cs m,w.heap[b]?=some (.cells cs 5 m)
theorem ByU.chg{w':World}(h:ByU w v l)(hc:Chg K w w')(k:∀ b,K b->∃ cs t,Blk w b cs t/\t≠5):ByU w' v l:=by
 have hs:∀ b o n c,v=.slice (some ⟨b,o,none⟩) n c->w'.heap[b]? = w.heap[b]? := fun b o n c e=>by
  obtain⟨cs,m,hb⟩:=h.u8 b o n c e;refine hc.same b (lt_of_block hb) fun r=>?_
  obtain⟨z,t,hd,j⟩:=k b r;have:=hd.blk.symm.trans hb;simp at this;exact j this.2.1
 refine⟨?_,fun b o n c e=>by rw[hs b o n c e];exact h.u8 b o n c e⟩;obtain⟨p,c,f,g,u,q,s,y⟩:=h.byt.ex;refine⟨p,c,f,g,u,q,s,y.imp id ?_⟩;rintro⟨b,o,rfl,d,a⟩;exact⟨b,o,rfl,Nat.lt_of_lt_of_le d hc.size,fun i x hi=>by rw[World.cell?_of_block (w:=w) (hs b o _ _ f)];exact a i x hi⟩
theorem ByU.of(h:OB w D v l):ByU w v l:=by
 refine⟨h.by,fun b o n c e=>?_⟩;rcases h.ex with⟨rfl,_⟩ | ⟨b',c',rfl,_,hR⟩
 ·cases e
 ·cases e;obtain⟨cs,k⟩:=hR.kind;exact⟨_,_,k.blk⟩
theorem SA.kind{g n N:Nat}{E:aI}(h:SA w K D g E W n N):∀ b,K b->∃ cs t,Blk w b cs t/\t≠5:=by
 obtain⟨F,V,m,Q,jv,T,oj,_,_,_,_,_,_,_,O⟩:=h.ex;exact O.kind
end
end Kv
end
end Go.Proofs.YtjejmkcjflhoiaaGreatDoor
