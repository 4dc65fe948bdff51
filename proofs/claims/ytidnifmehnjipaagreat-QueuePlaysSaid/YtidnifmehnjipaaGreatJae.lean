import Derived.Test.YtidnifmehnjipaaGreatJad
set_option maxRecDepth 100000
set_option maxHeartbeats 8000000
namespace Go.Proofs.YtidnifmehnjipaaGreat
section
namespace Kv
open Go.RowKit Go.Lib Pg
attribute [local go_sem] Oper.semAt_some
section
variable {E:ay}{k:List Int}{w:World}{K D F V:Nat->Prop}{g n N m:Nat}{W:List ay}{kv jv:Value}{Q:List (List KV)}{T T0:List Jr}{oj:Option Nat}
theorem yX(h:cI E)(hn:(look E k).isSome=false):rem E k=E:=by
 obtain⟨X,Y,c,⟨rfl,e⟩ | ⟨x,rfl,e⟩⟩:=h.cut k
 ·exact c.xc
 ·rw[e] at hn;cases hn
theorem sget(h:SA w K D g E W n N)(d:BK w K kv k)(hn:n<=4000000000000000000)(I:N<=100000000) :
  Calls Tryz.prog 63 #[.pointer (some ⟨g,0,none⟩),kv] w fun e w'=>∃ v,e=.returned (.tuple #[v,.bool (look E k).isSome])/\OB w' (w.heap.size <= ·) v ((look E k).getD [])/\SA w' K D g E W (n+1) N/\Chg K w w':=by
 obtain⟨F,V,m,Q,C,T,J,l,rfl,y⟩:=h.open;obtain⟨A,c,rfl⟩:=d.shape;have u:=fZ l hn;have z:=ah l;have H:=ah y;have x:=ah d;clear l y d h;obtain⟨kn,j⟩:∃ kn,Hid (k.length=kn):=⟨_,rfl⟩
 rw[j.out] at x ⊢;have s:=fun w' (X:SX w' K D F V g m Q C T J (n+1) N) (d:By w' (.slice A kn c) k)=>mw X d I
 obtain⟨r,t⟩:∃ r,(look Q.flatten k).isSome=r:=⟨_,rfl⟩
 obtain⟨L,q⟩:∃ L,(look Q.flatten k).getD []=L:=⟨_,rfl⟩
 rw[t,q] at s ⊢;clear t q;go_enter Tryz.func63,Tryz.ntmps63;go_wp2_with first
  | (go_at_call 82;go_must (refine u.mono ?_);rintro e G ⟨rfl,o,p⟩;have c0:=o.blk.cell (i:=0) rfl)
  | (go_at_call 115;go_must (refine(s _ o (x.out _ (z.out.kg p))).mono ?_);rintro e R ⟨v,rfl,O,B⟩;obtain⟨f,c1,rfl⟩:∃ f c1,v=.slice f L.length c1:=(by obtain⟨f,c1,e,_⟩:=O.by.ex;exact⟨f,c1,e⟩);generalize L.length=P at *)
 go_ret2;exact⟨_,rfl,O.mono (fun b _ h=>by have:=p.size;have M:G.heap.size<=b:=h;show w.heap.size<=b;omega),(o.keep B).shut rfl H.out,fj (z.out.kg p) (Chg.of B)⟩
theorem D0(i:SX w K D F V g m Q jv T oj n N)(s:kH (T.reverse.map Jr.U) W Q.flatten)(j:BK w K kv k)(hn:n<=4000000000000000000)(v:N+2<=100000000)(p:(look Q.flatten k).isSome=false) :
  Calls Tryz.prog 107 #[.pointer (some ⟨g,0,none⟩),kv] w (Ends w K D g (rem Q.flatten k) W (n+1) (N+2) (.bool false)):=by
 obtain⟨B,c,rfl⟩:=j.shape;have u:=fZ i hn;have o:=ah i;have y:=ah s;have r:=ah j
 have x:N<=99999998:=by omega
 replace v:N<=100000000:=by omega
 clear i s j;obtain⟨kn,f⟩:∃ kn,Hid (k.length=kn):=⟨_,rfl⟩
 rw[f.out] at r ⊢;go_enter Tryz.func107,Tryz.ntmps107;go_wp2_with first
  | (go_at_call 82;go_must (refine u.mono ?_);rintro e A ⟨rfl,d,q⟩;have l:=tX d (r.out _ (o.out.kg q)) v;rw[p] at l)
  | (go_at_call 154;go_must (refine l.mono ?_);rintro e C ⟨rfl,t⟩;clear l;replace d:=d.keep t;have z:=fj (o.out.kg q) (Chg.of t))
 go_ret;have e:=yX o.out.map.ord.flat p;exact⟨rfl,K,((d.shut e.symm (by rw[e];exact y.out)).more (by omega)).mono (fun _ _ h=>.inl h),fun b h=>.inl h,z⟩
theorem zx(j:SX w K D F V g m Q jv [] oj n N)(z:kH ([].reverse.map Jr.U) W Q.flatten)(o:BK w K kv k)(hn:n<=4000000000000000000)(A:N+2<=100000000)(v:(look Q.flatten k).isSome=true) :
  Calls Tryz.prog 107 #[.pointer (some ⟨g,0,none⟩),kv] w (Ends w K D g (rem Q.flatten k) W (n+1) (N+2) (.bool true)):=by
 obtain⟨L,c,rfl⟩:=o.shape;have u:=fZ j hn;have B:=ah j;have H:=ah z;have p:=ah o
 have G:N<=99999998:=by omega
 replace A:N<=100000000:=by omega
 clear j z o;obtain⟨kn,f⟩:∃ kn,Hid (k.length=kn):=⟨_,rfl⟩
 rw[f.out] at p ⊢;go_enter Tryz.func107,Tryz.ntmps107;go_wp2_with first
  | (go_at_call 82;go_must (refine u.mono ?_);rintro e M ⟨rfl,d,x⟩;have l:=tX d (p.out _ (B.out.kg x)) A;rw[v] at l)
  | (go_at_call 154;go_must (refine l.mono ?_);rintro e P ⟨rfl,r⟩;clear l;replace d:=d.keep r;have q:=fj (B.out.kg x) (Chg.of r))
  | (go_at_call 83;go_must (refine(l5 d).mono ?_);rintro e y ⟨rfl,hy⟩;replace hy:=hy.symm;subst hy;have c0:=d.blk.cell (i:=0) rfl;have us:=mdel d.map (p.out _ q) (by omega);rw[jw d.map.ord,v] at us)
  | (go_at_call 155;go_must (refine us.mono ?_);rintro e J ⟨rfl,O,C,hF,s⟩)
 go_ret;have I:=d.mapped (N':=N) (by have:=d.tot;have:=gk (E:=Q.flatten) k;rw[il d.map.ord];omega) C hF (fun _ h=>h) s;refine⟨rfl,_,((I.shut (E:=rem Q.flatten k) (W:=W) (il d.map.ord k) (rS H.out)).more (by omega)).mono (fun b _ hb=>?_),fun b hb=>?_,?_⟩
 ·exact .inl hb
 ·rcases hb with⟨hb,_⟩ | hb
  ·exact .inl hb
  ·rcases hF b hb with t | t
   ·exact .inl (d.own.map b t)
   ·exact .inr (by have:=q.size;omega)
 ·exact fj q (s.mono (fun b _ h=>d.own.map b h))
theorem A8{j:Jr}(s:SX w K D F V g m Q jv (T0 ++ [j]) oj n N)(J:kH ((T0 ++ [j]).reverse.map Jr.U) W Q.flatten)(x:BK w K kv k)(hn:n<=4000000000000000000)(z:N+2<=100000000)(f:k.length<=1000000000)(H:(look Q.flatten k).isSome=true) :
  Calls Tryz.prog 107 #[.pointer (some ⟨g,0,none⟩),kv] w (Ends w K D g (rem Q.flatten k) W (n+1) (N+2) (.bool true)):=by
 obtain⟨Y,c,rfl⟩:=x.shape;have u:=fZ s hn;have A:=ah s;have P:=ah J;have q:=ah x;replace f:=ah f
 have O:N<=99999998:=by omega
 replace z:N<=100000000:=by omega
 clear s J x;obtain⟨kn,r⟩:∃ kn,Hid (k.length=kn):=⟨_,rfl⟩
 rw[r.out] at q ⊢;go_enter Tryz.func107,Tryz.ntmps107;go_wp2_with first
  | (go_at_call 82;go_must (refine u.mono ?_);rintro e w1 ⟨rfl,p,I⟩;have v:=tX p (q.out _ (A.out.kg I)) z;rw[H] at v)
  | (go_at_call 154;go_must (refine v.mono ?_);rintro e w2 ⟨rfl,B⟩;clear v;replace p:=p.keep B;have o:=fj (A.out.kg I) (Chg.of B))
  | (go_at_call 83;go_must (refine(oY p (q.out _ o) (by have:=f.out;omega) z).mono ?_);rintro e w3 ⟨rfl,X,Z,T,y,d,l,M⟩;have t:=fj o M;have c0:=d.blk.cell (i:=0) rfl;have us:=mdel d.map (q.out _ t) (by omega);rw[jw d.map.ord,H] at us)
  | (go_at_call 155;go_must (refine us.mono ?_);rintro e S ⟨rfl,F',L,hF,C⟩)
 go_ret;have R:=d.mapped (N':=N+1) (by have:=d.tot;have:=gk (E:=Q.flatten) k;rw[il d.map.ord];omega) L hF (fun _ h=>h) C;refine⟨rfl,_,((R.shut (E:=rem Q.flatten k) (W:=W) (il d.map.ord k) (oE P.out y (Ad A.out.map.ord.flat k))).more (by omega)).mono (fun b _ hb=>?_),fun b hb=>?_,?_⟩
 ·rcases hb with hb | hb
  ·exact .inl hb
  ·exact .inr (by have:=o.size;omega)
 ·rcases hb with⟨hb,_⟩ | hb
  ·exact(l b hb).imp id (fun h=>by have:=o.size;omega)
  ·rcases hF b hb with G | G
   ·exact(l b (d.own.map b G)).imp id (fun h=>by have:=o.size;omega)
   ·exact .inr (by have:=t.size;omega)
 ·exact t.trans C (fun b hb h=>(l b (d.own.map b h)).elim id (fun h=>by have:=o.size;omega))
theorem sdel(h:SA w K D g E W n N)(d:BK w K kv k)(c:k.length<=1000000000)(hn:n<=4000000000000000000)(e:N+2<=100000000) :
  Calls Tryz.prog 107 #[.pointer (some ⟨g,0,none⟩),kv] w (Ends w K D g (rem E k) W (n+1) (N+2) (.bool (look E k).isSome)):=by
 obtain⟨F,V,m,Q,f,T,l,a,rfl,b⟩:=h.open
 cases hr:(look Q.flatten k).isSome with
 | false=>exact D0 a b d hn e hr
 | true =>
  rcases List.eq_nil_or_concat T with rfl | ⟨i,j,rfl⟩
  ·exact zx a b d hn e hr
  ·rw[List.concat_eq_append] at a b;exact A8 a b d hn e c hr
end
theorem oV {fn:Func} {p:Tmp} {ty:TypeId} (h:fn.results=#[.cell p ty]) {tmps:Array Value} {w:World} {g:Nat} {v:Value} (b:tmps.getD p undef=.pointer (some ⟨g,0,none⟩)) (c:(loadVar ty ⟨g,0,none⟩).run Tryz.prog w=.ok v w):(results fn tmps).run Tryz.prog w=.ok v w:=by
 have a:tmps[p]?.getD undef=.pointer (some ⟨g,0,none⟩):=by simpa using b
 simp[results,h,a,asAddr,c]
section
variable {w w':World}{B:Nat}{xs:List Value}{K:Nat->Prop}
theorem Rw.rcd{E:TypeId}{k b n c:Nat}(h:Rw w E k b n c xs)(hr:Rec B w w'):Rw w' E k b n c xs:=by
 obtain⟨cs,hk⟩:=h.kind;exact h.same (by rw[(hr.blk hk).blk,hk.blk])
theorem vR{w1:World}(h:Chg K w w1)(c:Rec B w1 w')(f:w.heap.size<=B):Chg K w w' :=
 ⟨c.os.trans h.os,c.tape.trans h.tape,c.output.trans h.output,Nat.le_trans h.size c.size,fun b hb d=>by
  have e:=h.same b hb d;rw[<- e]
  have a:b < w1.heap.size:=Nat.lt_of_lt_of_le hb h.size;rw[Array.getElem?_eq_getElem a]
  exact c.same b _ (Array.getElem?_eq_getElem a) (.inl (by omega))⟩
end
section
variable {n g N:Nat}{ops:Array Oper}{rest:List Oper}{a:Act}{w w':World}{v jv:Value}{pos:String}{K D:Nat→Prop}{Q:List (List KV)}{T:List Jr}{oj:Option Nat}{X:Nat->Prop}{W:List ay}
theorem qY{F:Fence}{Q:Exit->Act->World->Prop}{o:Oper}(d:o.guard=none)(hF:∀ f,F.fn f)(c:o.semAt F.round a.eval=execOp a.eval o)(b:(execOp a.eval o).run Tryz.prog w=.ok (.value v) w')(h:wpListIn F n Tryz.prog ops Q rest (a.put o.dst v) w'):wpListIn F n Tryz.prog ops Q (o :: rest) a w :=
 wpListIn_plain d fun K e=>by
  unfold Oper.wpIn;rw[c,b,Oper.uponIn_value];exact⟨fun f _=>hF f,e _ _ h⟩
theorem EB{F:Fence}{x y d:Nat}{Q:Exit->Act->World->Prop}{after:Array Edge}{u r:Value}(hF:∀ f,F.fn f)(hu:a.eval (.tmp x)=u)(e:a.eval (.tmp y)=v)(b:(Builtin.append_ #[30,30] 30 #[u,v]).run Tryz.prog w=.ok r w')(h:wpListIn F n Tryz.prog ops Q rest (a.put (some d) r) w') :
  wpListIn F n Tryz.prog ops Q ({ dst:=some d,op:=.call { callee:=.builtin .append,args:=#[.tmp x,.tmp y],argTypes:=#[30,30] },type:=30,pos:=pos,after:=after,guard:=none } :: rest) a w :=
 qY rfl hF (Oper.semAt_eq _ _ _ (fun c h=>by cases h)) (fC (x:=x) (y:=y) rfl rfl hu e b) h
theorem SX.wm{K D F V:Nat->Prop}{m:Nat}(h:SX w K D F V g m Q jv T oj n N)(d:N<=100000000)(e:∀ b,X b->¬ F b)(a:∀ b,X b->∀ cs,¬ Blk w b cs 5)(c:∀ b,X b->b < w.heap.size) :
  ∃ L,Wm w X F D m L/\∀ f t,(wlk (ens L) f t).map En.kl2=Q.flatten.filter (iL f t):=by
 obtain⟨L,rfl,A,O,S,k,r⟩:=h.map.ex;exact⟨L,⟨A,O,fun es he=>(S.one es he).2,S.few k d,r,e,a,c⟩,fun f t=>zL O f t⟩
theorem yN(x:KV):iL [] [] x=true:=by
 simp[iL,Lt]
 cases x.1<;>simp[cA]
def TpD(t:TypeId):Prop:=t=96
theorem sdump{E:ay}(h:SA w K D g E W n N)(hN:N≤100000000) :
    Calls Tryz.prog 23 #[.pointer (some ⟨g,0,none⟩)] w fun e w'=>∃ v es,e=.returned v∧PrA w' w.heap.size v es∧es.map En.kl2=E∧Below w.heap.size w w':=by
  have hsm:=h.small;have hsz:=h.size;obtain⟨F,V,m,Q,jv,T,oj,hX,rfl,hB⟩:= h.open;have b1:=af w (.cells #[.slice none 0 0] 30);have c1:=aj w [.slice none 0 0] 30;have X1:=hX.keep b1
  obtain⟨L, K2, ax⟩:= X1.wm hN (X := (· = w.heap.size)) (fun b e hF => by have e' : b = w.heap.size := e; have := hX.map.lt hF; omega) (fun b e cs k => by
    have e':b=w.heap.size:=e;subst e'
    exact absurd (c1.eq k).2 (by decide)) (fun b e=>by have e':b=w.heap.size:=e;simp;omega)
  have q:(wlk (ens L) [] []).map En.kl2=Q.flatten:=by rw[ax,List.filter_eq_self.2 (fun x _=>yN x)]
  have tW:=nS (Tp:=TpD) K2 (By.nil _) (By.nil _) (by decide) (by decide) (by unfold TpD;decide) (by unfold TpD;decide);have g0:=X1.blk.cell (i:=0) rfl;obtain⟨M,hE⟩:∃ E,Hid (wlk (ens L) [] []=E):=⟨_,rfl⟩;rw[hE.out] at tW q;have hEQ:=ah q
  have hlen:M.length≤N:=by have:=congrArg List.length q;simp only[List.length_map] at this;omega
  have sz1:(w.alloc (.cells #[.slice none 0 0] 30)).heap.size=w.heap.size+1:=by simp
  have aq:=ah b1;have ae:=ah c1;clear h hX X1 K2 ax q hB;obtain⟨Wa,J⟩:∃ Wa,Hid (w.alloc (.cells #[.slice none 0 0] 30)=Wa):=⟨_,rfl⟩;rw[J.out] at tW g0 sz1 aq ae;have c1:=ae.out;refine(callsIn_wide (n:=0)).1 ?_
  refine callsIn_of_wp_marks Tryz.func23 rfl trivial ?_ rfl;simp only[Tryz.ntmps23,List.size_toArray,List.length_cons,List.length_nil,Nat.reduceAdd,Nat.reduceSub,Array.replicate_succ,Array.replicate_zero,List.push_toArray,List.append_toArray,List.nil_append,List.cons_append];rw[← J.out] at g0;gi_wp2_with (refine⟨trivial,rfl,?_⟩;gi_at_call 62;rw[J.out];refine(callsIn_wide.2 tW).mono ?_;rintro e' w1 ⟨bw,rfl,G,IT⟩);have cb:=c1.keep G;clear tW;have q1:=G.size;refine gY IT (by rfl) (enters_of Tryz.func158 (by kernel_rfl) rfl) (fun i args n V V' h hc=>h.cel hc) (fun i args n V h=>by obtain⟨e,kv,vv,s,_,rfl,_⟩:= h;rfl)
    (fun i V=>CF w1 V w.heap.size M i) (fun _ _ _=>False)
    (fun i A B hx hr=>hx.rcd hr) (fun _ _ _ _ hx _=>hx)
    (fun i V hv=>hv.chg) ⟨Chg.refl _ _,_,[],cb,⟨.inl ⟨rfl,rfl⟩,fun e he=>by cases he⟩,rfl⟩ ?_ ?_ ?_
  · rintro l2 i args V Wv hl hlV hrec hiN hG hb ⟨e0,kv,vv,s0,Z,rfl,al,az,_⟩
    obtain⟨U,nk,hk1⟩:= al.shape;obtain⟨S,nv,hv1⟩:= az.shape;subst hk1 hv1;simp;gi_wp2;refine⟨Below.refl _ _,?_⟩;intro V2 W2 t l an ag z au r hrec2;obtain⟨e1,kv1,vv1,t1,ac,u,ad,ap,ht1⟩:= an;obtain rfl:e1=e0:=by rw[Z] at ac;cases ac;rfl
    simp at u;obtain⟨rfl,rfl⟩:= u;obtain⟨ov,es,g1,Y,g3⟩:= t.out
    have p:es.length=i:=by have:=congrArg List.length g3;simp at this;omega
    obtain⟨ao0,cc0,rfl⟩:= Y.shape;have S0:=g1.keep l;have P0:=Y.keep l;have z1:=t.chg.size;have z2:=l.size;have f:=af W2 (.cells #[.slice U e1.kl.length nk,.slice S e1.vl.length nv] 96);have N4:=aj W2 [.slice U e1.kl.length nk,.slice S e1.vl.length nv] 96;have z5:=f.size
    have aw:EnA (W2.alloc (.cells #[.slice U e1.kl.length nk,.slice S e1.vl.length nv] 96)) (fun b=>w1.heap.size≤b) ⟨.slice U e1.kl.length nk,e1.kl,.slice S e1.vl.length nv,e1.vl⟩:= ⟨(ad.keep f).mono (fun b _ hb=>by omega),(ap.keep f).mono (fun b _ hb=>by omega)⟩;obtain⟨ov5,w5,P,P5,I⟩:= Bi (e:=⟨.slice U e1.kl.length nk,e1.kl,.slice S e1.vl.length nv,e1.vl⟩) (a:=⟨W2.heap.size,0,none⟩) 30 (P0.keep f) (by omega) aw (by omega) (N4.cell (i:=0) rfl) (N4.cell (i:=1) rfl);have S4:=S0.keep f;have S5:=I.blk S4 (by decide);have s0c:=S0.cell (i:=0) rfl;obtain⟨d,y⟩:∃ d,Hid (es ++ [(⟨.slice U e1.kl.length nk,e1.kl,.slice S e1.vl.length nv,e1.vl⟩:En)]=d):=⟨_,rfl⟩
    have aa:Hid (d.map En.kl2=(M.take (i+1)).map En.kl2):=by
      show _=_
      rw[← y.out,List.map_append,g3,List.take_add_one,Z,List.map_append];rfl
    simp only[y.out] at P5;obtain⟨H,O,rfl⟩:= P5.shape;have s5c:=S5.cell (i:=0) rfl;have s5f:=S5.free 0;have R:=ah P5;have am:=ah S5;have ab:=ah I;have ar:=ah f;have HG2:=ah t;have HB2:=ah l;have hsl:=S4.cell (i:=0) rfl;replace p:=ah p;replace z:=ah z;replace au:=ah au;clear hG al az hb ag P5 S5 I f N4 aw P0 S0 g1 Y g3 ad ap l t S4;gi_wp2_with (have gate:=P;clear gate;refine EB (fun _=>trivial) rfl rfl P ?_;clear P)
    have j:Chg (·=w.heap.size) w5 (w5.setCell ⟨w.heap.size,0,none⟩ (.slice H d.length O)):=(Chg.refl (fun x=>x=w.heap.size) w5).cell (.inl (by rfl)) _
    have C : ∀ b, b = w.heap.size → ∀ cs, ¬ Blk w5 b cs 5 := fun b hb cs k => by
      subst hb;have:=(k.eq am.out).2;revert this;decide
    have P6:PrA (w5.setCell ⟨w.heap.size,0,none⟩ (.slice H d.length O)) w1.heap.size (.slice H d.length O) d:=⟨R.out.ex.imp id (fun ⟨b,c,e,hl,hR⟩=>⟨b,c,e,hl,hR.chg j (by omega)⟩),fun e he=>⟨(R.out.bX e he).k.chg j C,(R.out.bX e he).v.chg j C⟩⟩;refine⟨((bH.of (Tp:=TpD) (B:=w1.heap.size) ar.out).trans (ab.out.keeps (Tp:=TpD) rfl)).trans ⟨j.size,fun k o hk h0 _=>(j.same k (lt_of_block h0) (by omega)).trans h0⟩,⟨?_,_,d,am.out.setCell (i:=0) _,P6,aa.out⟩⟩;exact(((HG2.out.chg.trans (Chg.of (F:=fun _=>False) (ai HB2.out ar.out)) (fun _ _ h=>h.elim)).trans ab.out.chg (fun b h1 h2=>by omega))).trans j (fun b _ h=>h)
  · rintro D' W' hD hK hG
    obtain⟨ov,es,g1,Y,g3⟩:= hG.out;obtain⟨ao,cc,rfl⟩:= Y.shape;have g1c:=g1.cell (i:=0) rfl;gi_wp2;refine⟨by simp,.inl ⟨_,_,rfl,run_takeDeferred hK,?_⟩⟩;refine⟨_,results_tmp rfl _ _ _,_,es,rfl,(Y.cel (Rec.put hK rfl hD _).cel).low (by omega),?_,?_⟩
    · rw[g3,List.take_length];exact hEQ.out
    · exact uk aq.out G ((hG.rcd (Rec.put hK rfl hD _)).chg) (Nat.le_refl _)
  · rintro D' c i W' hD hK hi hF
    exact hF.elim
end
section
variable {g x:Nat}{V W1:World}{E:List En}{args:Array Value}{X:Nat→Prop}
def tick(g:Nat)(V:World)(x:Nat):World:=V.setCell ⟨g,2,none⟩ (.int .i64 ((x:Int)+1))
def ItrC(Tp:TypeId->Prop)(g x0:Nat)(gf:Nat)(lb:Array Value)(N:Nat)(Ar:Nat->Array Value->Nat->World->Prop)(Rd:World->Prop):Prop :=
 ∀ (l:Nat) (J0:World->Prop) (J Jt Jx:Nat->World->Prop) (W:World),St W.heap.size J0->(∀ i,St W.heap.size (J i))->(∀ i,St W.heap.size (Jt i))->(∀ i,St W.heap.size (Jx i))->g < W.heap.size ->
  (∀ V,J0 V->V.cell? ⟨g,2,none⟩=some (.int .i64 x0)/\V.frozen? ⟨g,2,none⟩=false/\Rd V/\J 0 (tick g V x0)) ->
  (∀ i V,J i V->V.cell? ⟨g,2,none⟩=some (.int .i64 ((x0+1+i:Nat):Int))/\V.frozen? ⟨g,2,none⟩=false/\Rd V/\(i < N->Jt i (tick g V (x0+1+i)))) ->
  (∀ i args V V',i < N->Jt i V->W.heap.size<=V.heap.size->Below V.heap.size V V'->Ar i args V.heap.size V'->YieldAt Fence.wide 0 Tryz.prog l args V' fun e V''=>bH Tp W.heap.size V' V''/\((e=.returned (.bool true)/\J (i+1) V'')\/(e=.returned (.bool false)/\Jx (i+1) V''))) ->
  J0 W ->
  Calls Tryz.prog gf (#[.func (.yield l) #[] #[]] ++ lb) W fun e W'=>(∃ v,e=.returned v)/\W.heap.size<=W'.heap.size/\(J N W'\/∃ i,i < N/\Jx (i+1) W')
theorem ui{b:World}(hb:Below V.heap.size V b):Below (tick g V x).heap.size (tick g V x) (tick g b x):=by
 unfold tick;refine⟨hb.os,hb.tape,hb.output,by simpa[World.setCell] using hb.size,fun k c=>?_⟩
 have a:k < V.heap.size:=by simpa[World.setCell] using c
 by_cases e:k=g
 ·subst e;have d:=hb.block k a;simp only[World.setCell,Array.getElem?_modify,d]
 ·rw[Below.heap_setCell _ _ _ _ (by exact e),Below.heap_setCell _ _ _ _ (by exact e)];exact hb.block k a
theorem eP(g x:Nat)(V:World):(tick g V x).heap.size=V.heap.size:=by simp[tick,World.setCell]
theorem dR(g x:Nat)(V:World):Chg (·=g) V (tick g V x):=(Chg.refl (·=g) V).cell (.inl rfl) _
theorem zB{i n:Nat}(h:ArC E i args n V)(j:∃ cs,Blk V g cs 85):ArC E i args n (tick g V x):=by
 obtain⟨e,kv,vv,s,m,c,f,l,o⟩:=h
 have a:∀ b,b=g->∀ cs,¬ Blk V b cs 5:=fun b hb cs k=>by
  subst hb;obtain⟨d,p⟩:=j;exact absurd (k.eq p).2 (by decide)
 exact⟨e,kv,vv,s,m,c,f.chg (dR g x V) a,l.chg (dR g x V) a,o⟩
def RdC(X:Nat->Prop)(W1:World)(g bs1 bs2 bw:Nat)(V:World):Prop:=Chg X W1 V/\Blk V bs1 [.pointer (some ⟨g,0,none⟩)] 27/\Blk V bs2 [.func (.func 158) #[] #[.pointer (some ⟨bw,0,none⟩)]] 133/\∃ cs,Blk V g cs 85
theorem rK{Tp:TypeId→Prop}{bs1 bs2 bw x0:Nat}(IT:Itr Tp 158 #[.pointer (some ⟨bw,0,none⟩)] E.length (ArC E) (fun V=>Chg X W1 V))(hT:¬ Tp 131)(hx:x0+E.length≤3000000000000000000) :
    ItrC Tp g x0 173 #[.pointer (some ⟨bs1,0,none⟩),.pointer (some ⟨bs2,0,none⟩)] E.length (ArC E) (RdC X W1 g bs1 bs2 bw):=by
  intro l J0 J Jt Jx W hS0 F hSt T hgW G hJ hY Y;have B1:=af W (.cells #[.func (.yield l) #[] #[]] 131);have Y1:=aj W [.func (.yield l) #[] #[]] 131;have J1:=hS0 _ _ Y (Rec.of B1);obtain⟨q1,q2,⟨r1,r2,r3,r4⟩,q3⟩:= G _ J1
  have s1:(W.alloc (.cells #[.func (.yield l) #[] #[]] 131)).heap.size=W.heap.size+1:=by simp
  have cs:=r2.cell (i:=0) rfl;have uc:=kx (g:=g) q1 q2 (by omega) (by omega);have Yt:=Y1.chg (dR g x0 _) (by omega);have K:=(hJ 0 _ q3).2.2.1;have cw:=K.2.2.1.cell (i:=0) rfl;have HY:=ah hY;have HJ:=ah hJ;clear G hJ hY Y J1 B1 Y1 r1 r2 r3 r4 q1 q2;obtain⟨Z,H⟩:∃ Z,Hid (W.alloc (.cells #[.func (.yield l) #[] #[]] 131)=Z):=⟨_,rfl⟩;rw[H.out] at q3 s1 uc Yt K cw;refine(callsIn_wide (n:=0)).1 ?_
  refine callsIn_of_wp_marks Tryz.func173 rfl trivial ?_ rfl;simp only[Tryz.ntmps173,List.size_toArray,List.length_cons,List.length_nil,Nat.reduceAdd,Nat.reduceSub,Array.replicate_succ,Array.replicate_zero,List.push_toArray,List.append_toArray,List.nil_append,List.cons_append];have tsz:=eP g x0 Z;gi_wp2_with (refine⟨trivial,rfl,?_⟩;gi_at_call 82;rw[H.out];refine(callsIn_wide.2 uc).mono ?_;rintro e' w0 ⟨rfl,hw0⟩;obtain rfl:w0=tick g Z x0:=hw0;clear uc cs);generalize tick g Z x0=Wt at *
  have sT:Wt.heap.size=W.heap.size+1:=by omega
  refine gY IT (by rfl) (enters_of Tryz.func158 (by kernel_rfl) rfl) (fun i args n V V' h hc=>h.cel hc) (fun i args n V h=>by obtain⟨e,kv,vv,s,_,rfl,_⟩:= h;rfl)
    (fun i V=>J i V∧W.heap.size+1≤V.heap.size∧Blk V W.heap.size [.func (.yield l) #[] #[]] 131)
    (fun c i V=>c=.ret∧Jx i V∧W.heap.size+1≤V.heap.size)
    (fun i A B hx C=>⟨F i A B hx.1 (C.mono (by omega)),Nat.le_trans hx.2.1 C.size,jN hx.2.2 C⟩)
    (fun c i A B hx C=>⟨hx.1,T i A B hx.2.1 (C.mono (by omega)),Nat.le_trans hx.2.2 C.size⟩)
    (fun i V hv=>(HJ.out i V hv.1).2.2.1.1) ⟨q3,by omega,Yt⟩ ?_ ?_ ?_
  · rintro l2 i args V Wv hl hlV hrec f ⟨hJi,D,hY2⟩ hb ⟨e0,kv,vv,s0,he0,rfl,M,hv0,_⟩
    obtain⟨ak,nk,hk1⟩:= M.shape;obtain⟨av,nv,hv1⟩:= hv0.shape;subst hk1 hv1;simp;gi_wp2;refine⟨Below.refl _ _,?_⟩;intro V2 d L P y b j I m U r hrec2;obtain⟨p1,p2,⟨k1,k2,k3,k4⟩,p3⟩:= HJ.out i V2 L
    have glt:g < V2.heap.size:=by obtain⟨cs,k⟩:= k4;exact k.lt
    have c2:d.cell? ⟨g,2,none⟩=some (.int .i64 ((x0+1+i:Nat):Int)):=by rw[b.cell (p:=⟨g,2,none⟩) glt];exact p1
    have z:∃ cs,Blk d g cs 85:=by obtain⟨cs,k⟩:= k4;exact⟨cs,k.keep b⟩
    have f2:d.frozen? ⟨g,2,none⟩=false:=by obtain⟨cs,k⟩:= z;exact k.free 2
    have cs2:=(k2.keep b).cell (i:=0) rfl;have O:=kx (g:=g) c2 f2 (by omega) (by omega);have u:=(y.keep b).chg (dR g (x0+1+i) d) (by omega);have yb:=u.cell (i:=0) rfl;have v:=zB (x:=x0+1+i) j z;rw[← eP g (x0+1+i) V2] at v;have hYY:=HY.out i _ _ _ f (p3 f) (by rw[eP];omega) (ui (x:=x0+1+i) b) v;obtain⟨fn,tmps,assign,body,hy,hR⟩:= hYY
    have Q:RoundIn (Fence.wide.inRound l2) 0 Tryz.prog l fn tmps assign body (tick g d (x0+1+i)) _:=⟨hR.1,fun c cs _=>hR.2 c cs (fun _ h=>by cases h)⟩
    have N:bH Tp Wt.heap.size d (tick g d (x0+1+i)):=⟨by rw[eP];exact Nat.le_refl _,fun k o hk Y _=>((dR g (x0+1+i) d).same k (lt_of_block Y) (by omega)).trans Y⟩;have HK:=ah N;have HYW:=ah u;have HR:=ah Q;replace m:=ah m;replace U:=ah U
    have hWs:W.heap.size+1≤d.heap.size:=Nat.le_trans P b.size;have tsz2:=ah (eP g (x0+1+i) d);clear hJi M hv0 hb I j v hR Q N u p1 p2 p3 k1 k2 k3 k4 z c2 f2 y b L tsz;gi_wp2_with (refine⟨trivial,rfl,?_⟩;gi_at_call 82;refine(CallsIn.inRound l2 (callsIn_wide.2 O)).mono ?_;rintro e' w3 ⟨rfl,hw3⟩;obtain rfl:w3=tick g d (x0+1+i):=hw3;clear O cs2);refine⟨rfl,HR.out.mono ?_⟩;rintro e' w5 ⟨S,h5⟩;have hY5:=S.blk HYW.out (Nat.le_refl _) hT
    have t:bH Tp Wt.heap.size d w5:=HK.out.trans (S.mono (by omega))
    have q:W.heap.size+1≤w5.heap.size:=Nat.le_trans hWs t.size;rcases h5 with⟨rfl,hJ5⟩ | ⟨rfl,hJ5⟩
    · gi_wp2
      exact⟨t,hJ5,q,hY5⟩
    · gi_wp2
      exact⟨t,rfl,hJ5,q⟩
  · rintro D' W' hD hK ⟨hJn,D,y⟩
    gi_wp2;refine⟨by simp,.inl ⟨_,_,rfl,run_takeDeferred hK,?_⟩⟩;exact⟨_,results_none rfl _ _ _,⟨_,rfl⟩,by simp;omega,.inl (F _ _ _ hJn (Rec.put hK rfl (by omega) _))⟩
  · rintro D' c i W' hD hK f ⟨rfl,R,D⟩
    gi_wp2;refine⟨by simp,.inl ⟨_,_,rfl,run_takeDeferred hK,?_⟩⟩;exact⟨_,results_none rfl _ _ _,⟨_,rfl⟩,by simp;omega,.inr ⟨i,f,T (i+1) _ _ R (Rec.put hK rfl (by omega) _)⟩⟩
end
section
variable {I It:Nat->World->Prop}{Ix:Code->Nat->World->Prop}{W W' V w:World}{a:Act}{g:Operand}{lb:Array Value}{Ar:Nat→Array Value→Nat→World→Prop}{Rd:World→Prop}{ps:Array Tmp}
def pT(I It:Nat->World->Prop)(k:Nat):World->Prop:=if k % 2=0 then I (k / 2) else It (k / 2)
theorem jt(I It:Nat->World->Prop)(i:Nat):pT I It (2 * i+1)=It i:=by
 unfold pT;rw[if_neg (by omega),show (2 * i+1) / 2=i by omega]
theorem kN(I It:Nat->World->Prop)(i:Nat):pT I It (2 * i+1+1)=I (i+1):=by
 unfold pT;rw[if_pos (by omega),show (2 * i+1+1) / 2=i+1 by omega]
theorem oQ{Tp:TypeId->Prop}{B:Nat}{i:Nat}{e:Exit}(h:oX Tp B I Ix (i+1) W e a W'):oX Tp B (pT I It) (fun c k=>Ix c (k / 2)) (2 * i+1+1) W e a W':=by
 have e2:(2 * i+1+1) / 2=i+1:=by omega
 cases e<;>simp only[oX] at h ⊢
 ·exact⟨h.1,by rw[kN];exact h.2⟩
 ·exact⟨h.1,by rw[e2];exact h.2⟩
 ·exact⟨h.1,by rw[e2];exact h.2⟩
 ·exact⟨h.1,by rw[e2];exact h.2⟩
def BE(Tp:TypeId->Prop)(w:World)(N n:Nat)(ps:Array Tmp)(assign body:Code)(tmps:Array Value)(Ar:Nat->Array Value->Nat->World->Prop)(It I:Nat->World->Prop)(Ix:Code->Nat->World->Prop):Prop :=
 ∀ (l i:Nat) (args:Array Value) (V W:World),w.heap.size<=l->l < V.heap.size->(∃ r,V.heap[l]?=some (.loop r))->i < N->It i V->Below V.heap.size V W->Ar i args V.heap.size W ->
  assign.wpIn (Fence.wide.inRound l) n Tryz.prog (Exit.then (fun a1 W1=>Below W.heap.size W W1/\∀ V2 W2,It i V2->Below V2.heap.size V2 W2->Ar i args V2.heap.size W2->(∀ b,b≠l->W2.heap[b]?=W1.heap[b]?)->W2.heap.size=W1.heap.size->V2.heap.size=V.heap.size->(∃ r,W2.heap[l]?=some (.loop r))->body.wpIn (Fence.wide.inRound l) n Tryz.prog (oX Tp w.heap.size I Ix (i+1) W2) a1 W2) (fun _ _ _=>False)) { tmps:=(ps.zip args).foldl (fun t (p,v)=>t.setIfInBounds p v) tmps,defers:=[] } W
theorem eW{g x k:Nat}(h:k≠g):(tick g V x).heap[k]?=V.heap[k]?:=Below.heap_setCell _ _ _ _ h
theorem wZ{Tp:TypeId→Prop}{y N n g0 x0:Nat}(IT:ItrC Tp g0 x0 y lb N Ar Rd){assign body:Code}{Q:Exit→Act→World→Prop}(hg:a.eval g=.func (.func y) #[] lb)(eg:∀ args w,(callFunc y args).run Tryz.prog w=.ok (.enter y args) w)(G:∀ i args n V W,Ar i args n V→Cel V W→Ar i args n W)(hAn:∀ i args n V,Ar i args n V→args.size=ps.size)(K:World→Prop)(I It:Nat→World→Prop)(Ix:Code→Nat→World→Prop)(F:St w.heap.size K)(hI:∀ i,St w.heap.size (I i))(A:∀ i,St w.heap.size (It i))(o:∀ c i,St w.heap.size (Ix c i))(hgw:g0 < w.heap.size)(S:∀ V,K V→V.cell? ⟨g0,2,none⟩=some (.int .i64 x0)∧V.frozen? ⟨g0,2,none⟩=false∧Rd V∧I 0 (tick g0 V x0))(hx:∀ i V,I i V→V.cell? ⟨g0,2,none⟩=some (.int .i64 ((x0+1+i:Nat):Int))∧V.frozen? ⟨g0,2,none⟩=false∧Rd V∧(i < N→It i (tick g0 V (x0+1+i))))(h0:K w)(l:BE Tp w N n ps assign body a.tmps Ar It I Ix)(p:∀ D W,w.heap.size≤D→W.heap[D]?=some (.deferred (some []))→I N W→Q .normal { a with defers:={ target:=.collected D,args:=#[] } :: a.defers } W)(s:∀ D c i W,w.heap.size≤D→W.heap[D]?=some (.deferred (some []))→i < N→Ix c (i+1) W→c.wpIn Fence.wide n Tryz.prog Q { a with defers:={ target:=.collected D,args:=#[] } :: a.defers } W) :
    (Code.rangeFunc g ps assign body).wpIn Fence.wide n Tryz.prog Q a w:=by
  refine wpIn_rangeFunc ?_
  intro fn _;obtain⟨f,d⟩:∃ f,(w.alloc (.deferred (some []))).alloc (.loop (cY fn a.tmps ps assign body w.heap.size .ready none))=f:=⟨_,rfl⟩
  have M:Below w.heap.size w f:=by rw[← d];exact ai (af w _) (af _ _)
  have hs1:f.heap.size=w.heap.size+1+1:=by rw[← d];simp
  have U:f.heap[w.heap.size+1]?=some (.loop (cY fn a.tmps ps assign body w.heap.size .ready none)):=by
    rw[← d];have:=World.alloc_heap_new (w.alloc (.deferred (some []))) (.loop (cY fn a.tmps ps assign body w.heap.size .ready none));rwa [World.size_alloc] at this
  have T:f.heap[w.heap.size]?=some (.deferred (some [])):=by
    rw[← d];exact(Below.heap_alloc _ _ _ (by simp)).trans (World.alloc_heap_new w _)
  have t1:∀ V x,(tick g0 V x).heap[w.heap.size+1]?=V.heap[w.heap.size+1]?:=fun V x=>eW (by omega)
  have t2:∀ V x,(tick g0 V x).heap[w.heap.size]?=V.heap[w.heap.size]?:=fun V x=>eW (by omega)
  refine⟨w.heap.size + 1, [{ target := .collected w.heap.size, args := #[] }], f, { target := .fn (.func y) lb, args := #[.func (.yield (w.heap.size + 1)) #[] #[]] }, f, y,
    #[.func (.yield (w.heap.size+1)) #[] #[]] ++ lb,f,?_,?_,?_,?_,fun h=>(by cases h),?_⟩
  · rw[← d];exact run_enterLoop_outer _ _ _ _ _
  · simp only[resolve,hg]
    simp[go_sem]
  · intro f' _;trivial
  · simp[invoke,go_sem,eg]
  · refine callsIn_wide.2 ?_
    refine(IT (w.heap.size + 1)
      (fun W=>K W∧W.heap[w.heap.size+1]?=some (.loop (cY fn a.tmps ps assign body w.heap.size .ready none))∧W.heap[w.heap.size]?=some (.deferred (some [])))
      (fun i W=>I i W∧W.heap[w.heap.size+1]?=some (.loop (cY fn a.tmps ps assign body w.heap.size .ready none))∧W.heap[w.heap.size]?=some (.deferred (some [])))
      (fun i W=>It i W∧W.heap[w.heap.size+1]?=some (.loop (cY fn a.tmps ps assign body w.heap.size .ready none))∧W.heap[w.heap.size]?=some (.deferred (some [])))
      (fun i W=>∃ c,Ix c i W∧W.heap[w.heap.size+1]?=some (.loop (cY fn a.tmps ps assign body w.heap.size .done (some c)))∧W.heap[w.heap.size]?=some (.deferred (some [])))
      f (fun X Y hx b=>⟨F X Y hx.1 (b.mono (by omega)),b.same _ _ hx.2.1 (.inl (by omega)),b.same _ _ hx.2.2 (.inl (by omega))⟩)
      (fun i X Y hx b=>⟨hI i X Y hx.1 (b.mono (by omega)),b.same _ _ hx.2.1 (.inl (by omega)),b.same _ _ hx.2.2 (.inl (by omega))⟩)
      (fun i X Y hx b=>⟨A i X Y hx.1 (b.mono (by omega)),b.same _ _ hx.2.1 (.inl (by omega)),b.same _ _ hx.2.2 (.inl (by omega))⟩)
      (fun i X Y hx b=>by obtain⟨c,h1,L,R⟩:= hx;exact⟨c,o c i X Y h1 (b.mono (by omega)),b.same _ _ L (.inl (by omega)),b.same _ _ R (.inl (by omega))⟩)
      (by omega)
      (fun V r=>by obtain⟨z,H,t,J⟩:= S V r.1;exact⟨z,H,t,J,(t1 V x0).trans r.2.1,(t2 V x0).trans r.2.2⟩)
      (fun i V r=>by obtain⟨z,H,t,J⟩:= hx i V r.1;exact⟨z,H,t,fun hi=>⟨J hi,(t1 V _).trans r.2.1,(t2 V _).trans r.2.2⟩⟩)
      ?_ ⟨F _ _ h0 (Rec.of M),U,T⟩).mono ?_
    · rintro i args V V' q ⟨hi,m,u⟩ O hb Z
      have b:=l _ i args V V' (by omega) (lt_of_block m) ⟨_,m⟩ q hi hb Z;refine(iV (Tp:=Tp) (B:=w.heap.size) (i:=2 * i+1) (I:=pT I It) (Ix:=fun c k=>Ix c (k / 2)) (Ar:=fun k=>Ar (k / 2)) (fun j=>G (j / 2)) (fun j=>by unfold pT;split;exact hI _;exact A _) (fun c j=>o c _) (by omega) m (by rw[jt];exact hi) hb (by rw[show (2 * i+1) / 2=i by omega];exact Z) (hAn _ _ _ _ Z) (wpIn_mono b ?_)).mono ?_
      · intro e a1 f h
        cases e <;> first
          | (refine⟨h.1, fun V2 W2 z H t J q5 q6 q7 => ?_⟩
             rw[jt] at z;rw[show (2 * i+1) / 2=i by omega] at t
             exact wpIn_mono (h.2 V2 W2 z H t J q5 q6 q7) (fun e a W h=>oQ h))
          | exact h.elim
      · rintro e V'' ⟨C,h⟩
        have E:=C.same _ _ (Nat.le_refl _) (by omega) ((hb.block _ (lt_of_block u)).trans u) my;refine⟨C.from (by omega) (by omega),h.imp (fun h=>⟨h.1,by have:=h.2.1;rw[kN] at this;exact this,h.2.2,E⟩) (fun h=>?_)⟩;obtain⟨h1,c,L,R⟩:= h;rw[show (2 * i+1+1) / 2=i+1 by omega] at L;exact⟨h1,c,L,R,E⟩
    · rintro e W2 ⟨⟨v,rfl⟩,O,⟨hi,m,u⟩ | ⟨i,q,c,hi,m,u⟩⟩
      · exact⟨none,_,run_endLoop (P:=Tryz.prog) m (by simp[cY]),p _ _ (Nat.le_refl _) ((World.putObj_heap_other (by omega)).trans u) (hI _ _ _ hi (Rec.put m rfl (by omega) _))⟩
      · exact⟨some c,_,run_endLoop (P:=Tryz.prog) m (by simp[cY]),s _ c i _ (Nat.le_refl _) ((World.putObj_heap_other (by omega)).trans u) q (o c _ _ _ hi (Rec.put m rfl (by omega) _))⟩
end
section
variable {w w' A A':World}{B n c g:Nat}{v u r:Value}{l a Q b:List Int}{x y:Int}{D:Nat->Prop}{ao:Option Addr}{Rd:World->Prop}{cs:List Value}{ops:Array Oper}{rest:List Oper}{pos:String}
theorem uT{p:Nat}(h:OB w (B <= ·) v l)(d:B<=w.heap.size)(t:l.length<=1000000000)(hx:0<=x/\x < 256)(r:w.cell? ⟨p,0,none⟩=some (.int .u8 x)) :
  ∃ v' w',(Builtin.append_ #[36,36] 36 #[v,.slice (some ⟨p,0,none⟩) 1 1]).run Tryz.prog w=.ok v' w'/\OB w' (B <= ·) v' (l ++ [x])/\Below B w w':=by
 have o:Oct (l ++ [x]):=fun y hy=>by
  rcases List.mem_append.1 hy with hy | hy
  ·exact h.oct y hy
  ·simp at hy;subst hy;exact hx
 have a:∀ j u,[Value.int .u8 x][j]? = some u->w.cell? ((⟨p,0,none⟩:Addr).add j)=some u:=fun j u m=>by
  match j with
  | 0=>simp at m;subst m;exact r
  | j+1=>simp at m
 rcases h.ex with⟨rfl,rfl⟩ | ⟨b,c,rfl,hl2,n⟩
 ·obtain⟨f,w',i,n,hw⟩:=er (w:=w) KB 36 ⟨p,0,none⟩ 1 1 [.int .u8 x] rfl a (by decide) (by decide) (by decide);exact⟨_,w',i,⟨o,.inr ⟨_,f,rfl,d,n⟩⟩,hw.mono d⟩
 ·obtain⟨q,f,w',i,k,g,hw⟩:=dh (w:=w) KB 36 n ⟨p,0,none⟩ 1 1 [.int .u8 x] rfl a (by simp[Value.oneCell']) (by omega) (by omega);refine⟨_,w',i,⟨o,.inr ⟨q,f,by simp,?_,by rw[List.map_append,List.length_append]; exact g⟩⟩,hw.below (fun x e=>by have s:x=b:=e; omega) d⟩;rcases k with rfl | rfl
  ·exact hl2
  ·exact d
theorem cT(h:OB w (B <= ·) v l)(d:B<=w.heap.size)(t:l.length<=1000000000)(hx:0<=x/\x < 256) :
  ∃ v' w',(Builtin.append_ #[36,36] 36 #[v,.slice (some ⟨w.heap.size,0,none⟩) 1 1]).run Tryz.prog (w.alloc (.cells #[.int .u8 x] 5))=.ok v' w'/\OB w' (B <= ·) v' (l ++ [x])/\Below B w w':=by
 have hb:=af w (.cells #[.int .u8 x] 5);have r:=aj w [.int .u8 x] 5
 have o:Oct (l ++ [x]):=fun y hy=>by
  rcases List.mem_append.1 hy with hy | hy
  ·exact h.oct y hy
  ·simp at hy;subst hy;exact hx
 have a:∀ j u,[Value.int .u8 x][j]? = some u->(w.alloc (.cells #[.int .u8 x] 5)).cell? ((⟨w.heap.size,0,none⟩:Addr).add j)=some u:=fun j u p=>by
  match j with
  | 0=>exact r.cell (i:=0) p
  | j+1=>simp at p
 rcases h.ex with⟨rfl,rfl⟩ | ⟨b,c,rfl,hl2,n⟩
 ·obtain⟨f,w',k,n,hw⟩:=er (w:=w.alloc (.cells #[.int .u8 x] 5)) KB 36 ⟨w.heap.size,0,none⟩ 1 1 [.int .u8 x] rfl a (by decide) (by decide) (by decide);exact⟨_,w',k,⟨o,.inr ⟨_,f,rfl,Nat.le_trans d hb.size,n⟩⟩,(hb.mono d).trans (hw.mono (Nat.le_trans d hb.size))⟩
 ·obtain⟨q,f,w',k,m,g,hw⟩:=dh (w:=w.alloc (.cells #[.int .u8 x] 5)) KB 36 (n.keep hb) ⟨w.heap.size,0,none⟩ 1 1 [.int .u8 x] rfl a (by simp[Value.oneCell']) (by omega) (by omega);refine⟨_,w',k,⟨o,.inr ⟨q,f,by simp,?_,by rw[List.map_append,List.length_append]; exact g⟩⟩,(hb.mono d).trans (hw.below (fun x e=>by have s:x=b:=e; omega) (Nat.le_trans d hb.size))⟩;rcases m with rfl | rfl
  ·exact hl2
  ·exact Nat.le_trans d hb.size
theorem OB.sh(h:OB w D v l):∃ ao c,v=.slice ao l.length c:=by
 rcases h.ex with⟨rfl,rfl⟩ | ⟨b,c,rfl,_⟩
 ·exact⟨none,0,rfl⟩
 ·exact⟨_,c,rfl⟩
theorem By.lens(h:By w (.slice ao n c) l):l.length=n/\n<=c/\c<=9223372036854775807:=by
 obtain⟨ao',c',e,h2,h3,_⟩:=h.ex
 cases e;exact⟨rfl,h2,h3⟩
theorem jE{a:Act}{o:Oper}{x y:Nat}{T ty:TypeId}(b:o.type=ty)(c:o.op=.call { callee:=.builtin .append,args:=#[.tmp x,.tmp y],argTypes:=#[T,T] })(hx:a.eval (.tmp x)=u)(hy:a.eval (.tmp y)=v)(d:(Builtin.append_ #[T,T] ty #[u,v]).run Tryz.prog w=.ok r w') :
  (execOp a.eval o).run Tryz.prog w=.ok (.value r) w':=by
 subst b;unfold execOp;simp only[c,resolve,invoke,builtin,Sem.run_bind,Sem.run_pure,Result.andThen_ok,List.map_toArray,List.map_cons,List.map_nil,hx,hy,d]
theorem gp(w:World)(D:Nat->Prop):OB w D (.slice none 0 0) []:=⟨fun _ h=>by simp at h,.inl ⟨rfl,rfl⟩⟩
def ArBB(Q:List Int)(i:Nat)(args:Array Value)(_:Nat)(_:World):Prop:=∃ p j,j+1+i=Q.length/\Q[j]?=some p/\args=#[.int .i64 (j:Int),.int .u8 p]
theorem ko{Tp:TypeId->Prop}{bs:Nat}(hn:Q.length=n)(C:n<=1000000000)(hb:∀ V,Rd V->V.cell? ⟨bs,0,none⟩=some (.slice ao n c)/\∀ j p,Q[j]?=some p->∃ b o,ao=some ⟨b,o,none⟩/\V.cell? ⟨b,o+j,none⟩=some (.int .u8 p)) :
  Itr Tp 174 #[.pointer (some ⟨bs,0,none⟩)] n (ArBB Q) Rd:=by
 intro l J K W L F r E z;have A:=(hb W (r 0 W z)).1
 have hb:Hid _:=hb
 have hn:Hid _:=hn
 have P:IntKind.i64.wrap ((n:Int) - 1)=(n:Int) - 1:=by rw[IntKind.wrap_i64];omega
 refine(callsIn_wide (n:=0)).1 ?_
 refine callsIn_of_wp Tryz.func174 rfl trivial ?_ rfl;simp only[Tryz.ntmps174,List.size_toArray,List.length_cons,List.length_nil,Nat.reduceAdd,Nat.reduceSub,Array.replicate_succ,Array.replicate_zero,List.push_toArray,List.append_toArray,List.nil_append,List.cons_append];gi_wp2;gi_loopw [3] (fun y wr=>∃ i:Nat,i<=n/\y=.int .i64 ((n:Int) - 1 - (i:Int))/\W.heap.size<=wr.heap.size/\J i wr) (fun y _=>(intOf y+1).toNat)
 case atStart=>exact⟨0,Nat.zero_le _,by simp,Nat.le_refl _,z⟩
 case round =>
  clear A;obtain⟨i,hi,rfl,d,f⟩:=hrel;obtain⟨A,m⟩:=hb.out wr (r _ _ f);by_cases q:i < n
  ·obtain⟨j,v⟩:∃ j,j+1+i=n:=⟨n - 1 - i,by omega⟩
   obtain⟨p,B⟩:∃ p,Q[j]?=some p:=⟨Q[j]'(by have:=hn.out;omega),List.getElem?_eq_getElem _⟩
   obtain⟨b,o,rfl,I⟩:=m j p B
   have s:(n:Int) - 1 - (i:Int)=(j:Int):=by omega
   have H:Hid (j+1+i=n):=v;have x:=E i _ wr wr q f d (Below.refl _ _) ⟨p,j,by rw[hn.out];exact v,B,rfl⟩;obtain⟨fn,tmps,assign,body,hy,G⟩:=x;rw[s]
   have M:IntKind.i64.wrap ((j:Int) - 1)=(j:Int) - 1:=by rw[IntKind.wrap_i64];omega
   have z1:(j:Int) < n:=by omega
   clear m s v;gi_wp2;refine⟨rfl,G.mono ?_⟩;rintro N O ⟨u,⟨rfl,g⟩ | ⟨rfl,g⟩⟩
   ·gi_wp2;go_roundw
    case rel=>exact⟨i+1,by omega,by have:=H.out;congr 1;omega,Nat.le_trans d u.size,g⟩
    case measure=>simp[intOf]
   ·gi_wp2;refine bodyPost_ret (results_none rfl _ _ _) rfl ?_
    exact⟨⟨_,rfl⟩,Nat.le_trans d u.size,.inr ⟨i,q,g⟩⟩
  ·have t:i=n:=by omega
   have s:(n:Int) - 1 - (i:Int)=-1:=by omega
   rw[s]
   have D:Hid (J n wr):=by show J n wr;rw[<- t];exact f
   clear m s t f;gi_wp2;go_end0;exact⟨⟨_,rfl⟩,d,.inl D.out⟩
theorem mT:Calls Tryz.prog 123 #[.slice ao n c] w fun e w'=>e=.returned (.func (.func 174) #[] #[.pointer (some ⟨w.heap.size,0,none⟩)])/\Blk w' w.heap.size [.slice ao n c] 36/\Below w.heap.size w w':=by
 go_enter Tryz.func123,Tryz.ntmps123;go_wp2;go_ret;exact⟨rfl,aj w _ _,af w _⟩
def nxt(l:List Int):List Int:=match l.reverse.dropWhile (· == 255) with
 | []=>[]
 | x :: t=>t.reverse ++ [x+1]
theorem Ck:∀ {l:List Int},(∀ x∈l,x=255)->l.dropWhile (· == 255)=[]
 | [],_=>rfl
 | x :: l,h=>by
  have hx:=h x List.mem_cons_self;subst hx;rw[List.dropWhile_cons_of_pos (by decide)];exact Ck (fun y hy=>h y (List.mem_cons_of_mem _ hy))
theorem zg(A B:List Int)(hx:x≠255)(h:∀ b∈B,b=255):(A ++ x :: B).reverse.dropWhile (· == 255)=x :: A.reverse:=by
 rw[List.reverse_append,List.reverse_cons,List.append_assoc,List.dropWhile_append_of_pos (fun a c=>by simp[h a (List.mem_reverse.1 c)]),List.singleton_append,List.dropWhile_cons_of_neg (by simp[hx])]
theorem eO(h:∀ x∈l,x=255):nxt l=[]:=by
 have:l.reverse.dropWhile (· == 255)=[]:=by
  exact Ck (fun x hx=>h x (List.mem_reverse.1 hx))
 unfold nxt;rw[this]
theorem tD{j:Nat}(f:l[j]?=some x)(hx:x≠255)(h:∀ i y,l[i]?=some y->j < i->y=255):nxt l=l.take j ++ [x+1]:=by
 have b:j < l.length:=(List.getElem?_eq_some_iff.1 f).1
 have e:l=l.take j ++ x :: l.drop (j+1):=by
  have d:=(List.take_append_drop j l).symm
  have g:l.drop j=x :: l.drop (j+1):=by
   rw[List.drop_eq_getElem_cons b];congr 1
   exact(List.getElem?_eq_some_iff.1 f).2
  rw[g] at d;exact d
 have k:l.reverse.dropWhile (· == 255)=x :: (l.take j).reverse:=by
  have c:=zg (l.take j) (l.drop (j + 1)) hx (fun a m=>by
   obtain⟨i,hi⟩:=List.getElem?_of_mem m;rw[List.getElem?_drop] at hi
   exact h (j+1+i) a hi (by omega))
  rw[<- e] at c;exact c
 unfold nxt;rw[k];simp
theorem dB{b d:Nat}{B:World}(h:Below b w A)(a:Rec d A B)(f:b<=d)(hw:b<=A.heap.size):Below b w B :=
 ⟨a.os.trans h.os,a.tape.trans h.tape,a.output.trans h.output,Nat.le_trans h.size a.size,fun k e=>by
  obtain⟨o,c⟩:∃ o,A.heap[k]?=some o:=⟨A.heap[k]'(by omega),Array.getElem?_eq_getElem _⟩
  rw[a.same k o c (.inl (by omega)),<- c]
  exact h.block k e⟩
theorem nu{ty:TypeId}(h:Blk A g cs ty)(hr:Rec B A A'):Blk A' g cs ty:=hr.blk h
theorem OB.rcd(h:OB A D v l)(hr:Rec B A A'):OB A' D v l:=by
 refine⟨h.oct,h.ex.imp id ?_⟩;rintro⟨b,c,e,hd,hR⟩;obtain⟨cs,k⟩:=hR.kind;exact⟨b,c,e,hd,hR.same ((hr.blk k).blk.trans k.blk.symm)⟩
theorem By.take(h:By w (.slice ao n c) l)(j:Nat)(t:j<=n):By w (.slice ao j c) (l.take j):=by
 obtain⟨s,hc,hm⟩:=By.lens h;obtain⟨p,r,e,q,k,f,g,o⟩:=h.ex
 cases e
 have hlen:(l.take j).length=j:=by rw[List.length_take];omega
 refine⟨ao,c,by rw[hlen],by rw[hlen];omega,k,f,fun x hx=>g x (List.mem_of_mem_take hx),?_⟩;rcases o with rfl | ⟨d,m,e,b,a⟩
 ·exact .inl (by simp)
 ·exact .inr ⟨d,m,e,b,fun i x hi=>a i x (by
   rw[List.getElem?_take] at hi;split at hi
   ·exact hi
   ·cases hi)⟩
theorem sA{o:Nat}(c:w.cell? ⟨g,o,none⟩=some v):(loadVar 36 ⟨g,o,none⟩).run Tryz.prog w=.ok v w:=by go_simp
theorem qp{F:Fence}{Q:Exit->Act->World->Prop}{after:Array Edge}{a:Act}(hF:∀ f,F.fn f)(hu:a.eval (.tmp 14)=u)(d:a.eval (.tmp 17)=v)(b:(Builtin.append_ #[36,36] 36 #[u,v]).run Tryz.prog w=.ok r w')(h:wpListIn F n Tryz.prog ops Q rest (a.put (some 18) r) w') :
  wpListIn F n Tryz.prog ops Q ({ dst:=some 18,op:=.call { callee:=.builtin .append,args:=#[.tmp 14,.tmp 17],argTypes:=#[36,36] },type:=36,pos:=pos,after:=after,guard:=none } :: rest) a w :=
 qY rfl hF (Oper.semAt_eq _ _ _ (fun c h=>by cases h)) (jE (x:=14) (y:=17) rfl rfl hu d b) h
theorem mV(h:By w (.slice ao n c) l)(U:n≤1000000000) :
    Calls Tryz.prog 124 #[.slice ao n c] w fun e w'=>∃ v,e=.returned v∧OB w' (w.heap.size≤·) v (nxt l)∧Below w.heap.size w w':=by
  obtain⟨hl,hnc,hcm⟩:= By.lens h;have c1:=aj w [.slice ao n c] 36;have b1:=af w (.cells #[.slice ao n c] 36)
  have s1:(w.alloc (.cells #[.slice ao n c] 36)).heap.size=w.heap.size+1:=by simp
  have c2:=aj (w.alloc (.cells #[.slice ao n c] 36)) [.slice none 0 0] 36;have b2:=af (w.alloc (.cells #[.slice ao n c] 36)) (.cells #[.slice none 0 0] 36)
  have s2:((w.alloc (.cells #[.slice ao n c] 36)).alloc (.cells #[.slice none 0 0] 36)).heap.size=w.heap.size+2:=by simp
  rw[s1] at c2
  have R:=c1.keep b2;have X:=ai b1 b2;obtain⟨Wa,J⟩:∃ Wa,Hid ((w.alloc (.cells #[.slice ao n c] 36)).alloc (.cells #[.slice none 0 0] 36)=Wa):=⟨_,rfl⟩;rw[J.out] at R c2 s2 X;have HB:=ah h;clear h c1 b1 b2 s1;refine(callsIn_wide (n:=0)).1 ?_
  refine callsIn_of_wp_marks Tryz.func124 rfl trivial ?_ rfl;simp only[Tryz.ntmps124,List.size_toArray,List.length_cons,List.length_nil,Nat.reduceAdd,Nat.reduceSub,Array.replicate_succ,Array.replicate_zero,List.push_toArray,List.append_toArray,List.nil_append,List.cons_append];gi_wp2_with (refine⟨trivial,rfl,?_⟩;gi_at_call 123;rw[J.out];refine(callsIn_wide.2 mT).mono ?_;rintro e' z ⟨rfl,O,t⟩);rw[s2] at O;have k1:=R.keep t;have Y:=c2.keep t;have q:=ai X t;have hs2:=t.size;have IT:=ko (Tp:=fun _=>False) (bs:=w.heap.size+2) (c:=c) (ao:=ao) (Q:=l) (n:=n) (Rd:=fun V=>Below z.heap.size z V) hl U (fun V Z=>⟨(O.keep Z).cell (i:=0) rfl,fun j p D=>By.at ((HB.out.keep q).keep Z) D⟩);refine gY IT (by rfl) (enters_of Tryz.func174 (by kernel_rfl) rfl) (fun i args n V V' h _=>h) (fun i args n V h=>by obtain⟨p,j,_,_,rfl⟩:= h;rfl)
    (fun i V=>Below z.heap.size z V∧∀ j x,l[j]?=some x→n≤j+i→x=255)
    (fun c i V=>c=.ret∧∃ v,Blk V (w.heap.size+1) [v] 36∧OB V (w.heap.size≤·) v (nxt l)∧Below w.heap.size w V)
    (fun i A B hx T=>⟨dB hx.1 T (Nat.le_refl _) hx.1.size,hx.2⟩)
    (fun c i A B hx T=>⟨hx.1,by obtain⟨v,h1,h2,I⟩:= hx.2;exact⟨v,T.blk h1,OB.rcd h2 T,dB I T q.size I.size⟩⟩)
    (fun i V Z=>Z.1) ⟨Below.refl _ _,fun j x D hn=>by have:=(List.getElem?_eq_some_iff.1 D).1;omega⟩ ?_ ?_ ?_
  · rintro l2 i args V Wv hl2 hlV hrec hiN ⟨hBV,m⟩ hb ⟨p,j,D,hp,rfl⟩
    simp;gi_wp2;refine⟨Below.refl _ _,?_⟩;intro V2 W2 u f hb2 L K hsz3 hV2 r hrec2;have d:=u.trans (hb2.mono u.size);have kb:=(k1.keep d).cell (i:=0) rfl;have G:=Y.keep d
    have hpo:0≤p∧p < 256:=HB.out.oct p (List.mem_of_getElem? hp);clear m hb hBV K L;by_cases S:p=255
    · subst S
      gi_wp2;refine⟨bH.of (Below.refl _ _),d,fun j2 x hx hn=>?_⟩;by_cases e:j2=j
      · subst e;rw[hp] at hx;cases hx;rfl
      · exact f j2 x hx (by omega)
    · have hp6 : p < 255 := by omega
      have BY:=By.take ((HB.out.keep q).keep d) j (by omega)
      have H:(l.take j).length=j:=by rw[List.length_take];omega
      have hjn:(j:Int)≤c:=by omega
      have w9:IntKind.u8.wrap (p+1)=p+1:=by rw[IntKind.wrap_u8];omega
      have P:=ah G;have HW:=ah d
      have HNX:Hid (nxt l=l.take j ++ [p+1]):=tD hp S (fun i2 y hy hi=>f i2 y hy (by omega));clear G d f
      gi_wp2_with (first
        | (have gate:=s;clear gate;refine qp (fun _=>trivial) rfl rfl s ?_;clear s)
        | (refine⟨trivial,rfl,?_⟩;gi_at_call 114;refine(CallsIn.inRound l2 (callsIn_wide.2 (cH BY (by omega)))).mono ?_;rintro e' w5 ⟨v5,rfl,O5,b5⟩;obtain⟨v6,F,s,O6,b6⟩:= cT (B:=W2.heap.size) (x:=p+1) O5 b5.size (by omega) (by omega);have C:=(P.out.keep b5).eV b6 (P.out.lt);have kc:=C.cell (i:=0) rfl;have kfr:=C.free 0;obtain⟨a5,c5,rfl⟩:= OB.sh O5;obtain⟨a6,c6,rfl⟩:= OB.sh O6;rw[H] at s ⊢))
      have hlt:w.heap.size+1 < z.heap.size:=Y.lt;have hsW:=HW.out.size;have N:=b5.trans b6
      have O7:OB F (W2.heap.size≤·) (.slice a6 (j+1) c6) (l.take j ++ [p+1]):=by
        have W:=O6;rw[show (l.take j ++ [p+1]).length=j+1 by rw[List.length_append,H];rfl] at W;exact W
      have O8:OB (F.setCell ⟨w.heap.size+1,0,none⟩ (.slice a6 (j+1) c6)) (W2.heap.size≤·) (.slice a6 (j+1) c6) (l.take j ++ [p+1]):=O7.same (fun b _ hb=>Below.heap_setCell F _ _ b (by show b≠w.heap.size+1;omega))
      have B6:Below w.heap.size w F:=(q.trans (HW.out.mono q.size)).trans (N.mono (Nat.le_trans q.size hsW));refine⟨(bH.of N).trans ⟨?_,fun k o hk h0 _=>(Below.heap_setCell F _ _ k (by show k≠w.heap.size+1;omega)).trans h0⟩,rfl,_,C.setCell (i:=0) _,?_,B6.setCell (show w.heap.size≤w.heap.size+1 by omega) _⟩
      · exact((Chg.refl (fun x=>x=w.heap.size+1) F).cell (g:=w.heap.size+1) (i:=0) (.inl rfl) _).size
      · rw[HNX.out]
        exact O8.mono (fun b _ hb=>by have:=q.size;omega)
  · rintro D' W' hD hK ⟨d,m⟩
    have G:=Y.keep d;have kc:=G.cell (i:=0) rfl;have kf:=G.free 0
    have hlt:w.heap.size+1 < z.heap.size:=Y.lt
    have M:(W'.setCell ⟨w.heap.size+1,0,none⟩ (.slice none 0 0)).heap[D']?=some (.deferred (some [])):=(Below.heap_setCell W' _ _ D' (by show D'≠w.heap.size+1;omega)).trans hK;gi_wp2;refine⟨by simp,.inl ⟨_,_,rfl,run_takeDeferred M,?_⟩⟩;have E:=Rec.put (B:=z.heap.size) M rfl hD (.deferred none);have k3:=nu (G.setCell (i:=0) (.slice none 0 0)) E;refine⟨_,oV rfl rfl (sA (k3.cell (i:=0) rfl)),_,rfl,?_,?_⟩
    · rw[eO (fun x hx => by
        obtain⟨j,D⟩:= List.getElem?_of_mem hx
        exact m j x D (by omega))]
      exact gp _ _
    · have W:Below w.heap.size w (W'.setCell ⟨w.heap.size+1,0,none⟩ (.slice none 0 0)):=(q.trans (d.mono q.size)).setCell (show w.heap.size≤w.heap.size+1 by omega) _
      exact dB W E q.size W.size
  · rintro D' c i W' hD hK hiN ⟨rfl,v,h1,h2,I⟩
    gi_wp2;refine⟨by simp,.inl ⟨_,_,rfl,run_takeDeferred hK,?_⟩⟩;have E:=Rec.put (B:=z.heap.size) hK rfl hD (.deferred none);have k3:=nu h1 E;exact⟨_,oV rfl rfl (sA (k3.cell (i:=0) rfl)),_,rfl,OB.rcd h2 E,dB I E q.size I.size⟩
theorem cn:Lt (x :: a) (y :: b)<->x < y\/(x=y/\Lt a b):=by
 unfold Lt;rw[cA];by_cases c:x < y
 ·simp[c]
 ·by_cases d:y < x
  ·rw[if_neg c,if_pos d];constructor
   ·intro h;exact absurd h (by decide)
   ·rintro(h | ⟨h,_⟩)<;>omega
  ·rw[if_neg c,if_neg d];have:x=y:=by omega
   simp[this]
theorem fq:Lt [] (y :: b):=by simp[Lt,cA]
theorem not_lt_nil:¬ Lt a []:=by cases a<;>simp[Lt,cA]
theorem qh(s:List Int):Lt (s ++ a) (s ++ b)<->Lt a b:=by
 induction s with
 | nil=>exact Iff.rfl
 | cons x s ih=>rw[List.cons_append,List.cons_append,cn,ih];simp
theorem fi:∀ l:List Int,(∀ x∈l,x=255)\/∃ A x B,l=A ++ x :: B/\x≠255/\∀ b∈B,b=255
 | []=>.inl (fun _ h=>by simp at h)
 | y :: t=>by
  rcases fi t with h | ⟨A,x,B,rfl,hx,hB⟩
  ·by_cases hy:y=255
   ·exact .inl (fun x hx=>by
     rcases List.mem_cons.1 hx with rfl | hx
     ·exact hy
     ·exact h x hx)
   ·exact .inr ⟨[],y,t,rfl,hy,h⟩
  ·exact .inr ⟨y :: A,x,B,rfl,hx,hB⟩
theorem iH{A B:List Int}(hx:x≠255)(hB:∀ b∈B,b=255):nxt (A ++ x :: B)=A ++ [x+1]:=by
 unfold nxt;rw[zg A B hx hB];simp
theorem vS(h:nxt l=[]):∀ x∈l,x=255:=by
 rcases fi l with h1 | ⟨A,x,B,rfl,hx,hB⟩
 ·exact h1
 ·rw[iH hx hB] at h;simp at h
theorem nJ{c:List Int}(h:nxt l≠[])(hc:l <+: c):Lt c (nxt l):=by
 rcases fi l with a | ⟨A,x,B,rfl,hx,b⟩
 ·exact absurd (eO a) h
 ·obtain⟨t,rfl⟩:=hc;rw[iH hx b,List.append_assoc,qh,List.cons_append,cn];exact .inl (by omega)
theorem uq:∀ {B t:List Int},(∀ b∈B,b=255)->Oct t->Lt t B\/B <+: t
 | [],_,_,_=>.inr (List.nil_prefix)
 | b :: B,[],_,_=>.inl fq
 | b :: B,z :: t,hB,ht=>by
  have hb:=hB b List.mem_cons_self;have c:=ht z List.mem_cons_self;subst hb;by_cases h:z=255
  ·subst h;rcases uq (fun b hb=>hB b (List.mem_cons_of_mem _ hb)) (fun y hy=>ht y (List.mem_cons_of_mem _ hy)) with a | a
   ·exact .inl (cn.2 (.inr ⟨rfl,a⟩))
   ·exact .inr (List.cons_prefix_cons.2 ⟨rfl,a⟩)
  ·exact .inl (cn.2 (.inl (by omega)))
theorem oJ:∀ {A B c:List Int} {x:Int},(∀ b∈B,b=255)->Oct c->Lt c (A ++ [x+1])->Lt c (A ++ x :: B)\/(A ++ x :: B) <+: c
 | [],B,[],x,_,_,_=>.inl fq
 | [],B,y :: t,x,hB,hc,h=>by
  rw[List.nil_append,cn] at h;rw[List.nil_append];rcases h with h | ⟨_,h⟩
  ·by_cases e:y=x
   ·subst e;rcases uq hB (fun z hz=>hc z (List.mem_cons_of_mem _ hz)) with h1 | h1
    ·exact .inl (cn.2 (.inr ⟨rfl,h1⟩))
    ·exact .inr (List.cons_prefix_cons.2 ⟨rfl,h1⟩)
   ·exact .inl (cn.2 (.inl (by omega)))
  ·exact absurd h not_lt_nil
 | a :: A,B,[],x,_,_,_=>.inl fq
 | a :: A,B,y :: t,x,hB,hc,h=>by
  rw[List.cons_append,cn] at h;rw[List.cons_append];rcases h with h | ⟨h1,h2⟩
  ·exact .inl (cn.2 (.inl h))
  ·subst h1;rcases oJ hB (fun z hz=>hc z (List.mem_cons_of_mem _ hz)) h2 with h3 | h3
   ·exact .inl (cn.2 (.inr ⟨rfl,h3⟩))
   ·exact .inr (List.cons_prefix_cons.2 ⟨rfl,h3⟩)
theorem jd{c:List Int}(hc:Oct c)(f:¬ l <+: c)(d:¬ Lt c l):¬ Lt c (nxt l):=by
 rcases fi l with e | ⟨A,x,B,rfl,hx,b⟩
 ·rw[eO e];exact not_lt_nil
 ·rw[iH hx b];intro h;rcases oJ b hc h with a | a
  ·exact d a
  ·exact f a
end
section
variable {w:World}{pg:Option Addr}{lb:Array Value}{K D:Nat->Prop}{W:List ay}{p:List Int}
theorem np{k:Nat}:Calls Tryz.prog 122 #[.pointer pg,.func (.func k) #[] lb] w fun e w'=>e=.returned (.func (.func 173) #[] #[.pointer (some ⟨w.heap.size,0,none⟩),.pointer (some ⟨w.heap.size + 1,0,none⟩)])/\Blk w' w.heap.size [.pointer pg] 27/\Blk w' (w.heap.size + 1) [.func (.func k) #[] lb] 133/\Below w.heap.size w w':=by
 have c:=af w (.cells #[.pointer pg] 27);have c1:=aj w [.pointer pg] 27;have b:=af (w.alloc (.cells #[.pointer pg] 27)) (.cells #[.func (.func k) #[] lb] 133);have c2:=aj (w.alloc (.cells #[.pointer pg] 27)) [.func (.func k) #[] lb] 133
 have s1:(w.alloc (.cells #[.pointer pg] 27)).heap.size=w.heap.size+1:=by simp
 rw[s1] at c2;go_enter Tryz.func122,Tryz.ntmps122;go_wp2;go_ret;exact⟨rfl,c1.keep b,c2,ai c b⟩
theorem SA.oct{g n N:Nat}{E:ay}(h:SA w K D g E W n N):∀ x∈E,Oct x.1:=by
 obtain⟨F,V,m,Q,f,T,j,b,rfl,i⟩:=h.open;obtain⟨L,rfl,A,O,S,k,r⟩:=b.map.ex;intro x hx;rw[dn] at hx;obtain⟨e,he,rfl⟩:=List.mem_map.1 hx;obtain⟨es,c,a⟩:=List.mem_flatten.1 he;obtain⟨p,d,rfl⟩:=List.mem_map.1 c;exact((A.cp p d).1.bX e a).k.oct
theorem sK{k:List Int}(h:p <+: k):¬ Lt k p:=by
 obtain⟨t,rfl⟩:=h;intro h;have:Lt (p ++ t) (p ++ []):=by simpa using h
 rw[qh] at this;exact not_lt_nil this
theorem zy{x:KV}(hx:Oct x.1):iL p (nxt p) x=decide (p <+: x.1):=by
 unfold iL;by_cases h:p <+: x.1
 ·have a:=sK h;by_cases hn:nxt p=[]
  ·simp[h,a,hn]
  ·simp [h,a];exact .inr (nJ hn h)
 ·by_cases a:Lt x.1 p
  ·simp[h,a]
  ·have hn:nxt p≠[]:=fun e=>by
    rcases uq (vS e) hx with b | b
    ·exact a b
    ·exact h b
   simp[h,a,hn,jd hx h a]
end
end Kv
end
section
namespace Kv
open Go.RowKit Go.Lib Pg
section
variable {w:World}{K D:Nat->Prop}{v:Value}{l:List Int}{W:List ay}
structure ByU(w:World)(v:Value)(l:List Int):Prop where
 byt:By w v l
 u8:∀ b o n c,v=.slice (some ⟨b,o,none⟩) n c->∃ cs m,w.heap[b]?=some (.cells cs 5 m)
theorem ByU.chg{w':World}(h:ByU w v l)(hc:Chg K w w')(q:∀ b,K b->∃ cs t,Blk w b cs t/\t≠5):ByU w' v l:=by
 have g:∀ b o n c,v=.slice (some ⟨b,o,none⟩) n c->w'.heap[b]? = w.heap[b]? := fun b o n c e=>by
  obtain⟨cs,m,hb⟩:=h.u8 b o n c e;refine hc.same b (lt_of_block hb) fun u=>?_
  obtain⟨B,t,j,p⟩:=q b u;have:=j.blk.symm.trans hb;simp at this;exact p this.2.1
 refine⟨?_,fun b o n c e=>by rw[g b o n c e];exact h.u8 b o n c e⟩;obtain⟨r,c,f,k,z,s,y,A⟩:=h.byt.ex;refine⟨r,c,f,k,z,s,y,A.imp id ?_⟩;rintro⟨b,o,rfl,d,a⟩;exact⟨b,o,rfl,Nat.lt_of_lt_of_le d hc.size,fun i x hi=>by rw[World.cell?_of_block (w:=w) (g b o _ _ f)];exact a i x hi⟩
theorem ByU.of(h:OB w D v l):ByU w v l:=by
 refine⟨h.by,fun b o n c e=>?_⟩;rcases h.ex with⟨rfl,_⟩ | ⟨b',c',rfl,_,hR⟩
 ·cases e
 ·cases e;obtain⟨cs,k⟩:=hR.kind;exact⟨_,_,k.blk⟩
theorem SA.kind{g n N:Nat}{E:ay}(h:SA w K D g E W n N):∀ b,K b->∃ cs t,Blk w b cs t/\t≠5:=by
 obtain⟨F,V,m,Q,jv,T,oj,_,_,_,_,_,_,_,O⟩:=h.ex;exact O.kind
end
end Kv
end
end Go.Proofs.YtidnifmehnjipaaGreat
