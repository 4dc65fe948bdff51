import Derived.Test.YthfepflplbahkaaGreatDoorJah
set_option maxRecDepth 100000
set_option maxHeartbeats 8000000
namespace Go.Proofs.YthfepflplbahkaaGreatDoor
section
namespace Kv
open Go.RowKit Go.Lib Pg
attribute [local go_sem] Oper.semAt_some
section
variable {E:aD}{k:List Int}{w:World}{K D F V:Nat->Prop}{g n N m:Nat}{W:List aD}{kv jv:Value}{Q:List (List KV)}{T T0:List Jr}{oj:Option Nat}
theorem zy(h:eJ E)(hn:(look E k).isSome=false):rem E k=E:=by
 obtain⟨X,Y,c,⟨rfl,e⟩ | ⟨x,rfl,e⟩⟩:=h.cut k
 ·exact c.xQ
 ·rw[e] at hn;cases hn
theorem sget(h:SA w K D g E W n N)(d:BK w K kv k)(hn:n<=4000000000000000000)(C:N<=100000000) :
  Calls Tryz.prog 127 #[.pointer (some ⟨g,0,none⟩),kv] w fun e w'=>∃ v,e=.returned (.tuple #[v,.bool (look E k).isSome])/\OB w' (w.heap.size <= ·) v ((look E k).getD [])/\SA w' K D g E W (n+1) N/\Chg K w w':=by
 obtain⟨F,V,m,Q,G,T,y,hX,rfl,p⟩:=h.open;obtain⟨A,c,rfl⟩:=d.shape;have u:=fP hX hn;have q:=aB hX;have x:=aB p;have t:=aB d;clear hX p d h;obtain⟨kn,l⟩:∃ kn,Hid (k.length=kn):=⟨_,rfl⟩
 rw[l.out] at t ⊢;have o:=fun w' (X:SX w' K D F V g m Q G T y (n+1) N) (d:By w' (.slice A kn c) k)=>jO X d C
 obtain⟨r,s⟩:∃ r,(look Q.flatten k).isSome=r:=⟨_,rfl⟩
 obtain⟨L,hL⟩:∃ L,(look Q.flatten k).getD []=L:=⟨_,rfl⟩
 rw[s,hL] at o ⊢;clear s hL;go_enter Tryz.func127,Tryz.ntmps127;go_wp2_with first
  | (go_at_call 95;go_must (refine u.mono ?_);rintro e z ⟨rfl,j,f⟩;have c0:=j.blk.cell (i:=0) rfl)
  | (go_at_call 170;go_must (refine(o _ j (t.out _ (q.out.kg f))).mono ?_);rintro e J ⟨v,rfl,O,B⟩;obtain⟨a1,c1,rfl⟩:∃ a1 c1,v=.slice a1 L.length c1:=(by obtain⟨a1,c1,e,_⟩:=O.by.ex;exact⟨a1,c1,e⟩);generalize L.length=I at *)
 go_ret2;exact⟨_,rfl,O.mono (fun b _ h=>by have:=f.size;have H:z.heap.size<=b:=h;show w.heap.size<=b;omega),(j.keep B).shut rfl x.out,ff (q.out.kg f) (Chg.of B)⟩
theorem CY(hX:SX w K D F V g m Q jv T oj n N)(s:jV (T.reverse.map Jr.U) W Q.flatten)(i:BK w K kv k)(hn:n<=4000000000000000000)(r:N+2<=100000000)(t:(look Q.flatten k).isSome=false) :
  Calls Tryz.prog 75 #[.pointer (some ⟨g,0,none⟩),kv] w (Ends w K D g (rem Q.flatten k) W (n+1) (N+2) (.bool false)):=by
 obtain⟨z,c,rfl⟩:=i.shape;have u:=fP hX hn;have l:=aB hX;have v:=aB s;have p:=aB i
 have x:N<=99999998:=by omega
 replace r:N<=100000000:=by omega
 clear hX s i;obtain⟨kn,f⟩:∃ kn,Hid (k.length=kn):=⟨_,rfl⟩
 rw[f.out] at p ⊢;go_enter Tryz.func75,Tryz.ntmps75;go_wp2_with first
  | (go_at_call 95;go_must (refine u.mono ?_);rintro e A ⟨rfl,d,q⟩;have j:=uf d (p.out _ (l.out.kg q)) r;rw[t] at j)
  | (go_at_call 121;go_must (refine j.mono ?_);rintro e B ⟨rfl,o⟩;clear j;replace d:=d.keep o;have y:=ff (l.out.kg q) (Chg.of o))
 go_ret;have e:=zy l.out.map.ord.flat t;exact⟨rfl,K,((d.shut e.symm (by rw[e];exact v.out)).more (by omega)).mono (fun _ _ h=>.inl h),fun b h=>.inl h,y⟩
theorem zI(hX:SX w K D F V g m Q jv [] oj n N)(s:jV ([].reverse.map Jr.U) W Q.flatten)(f:BK w K kv k)(hn:n<=4000000000000000000)(z:N+2<=100000000)(v:(look Q.flatten k).isSome=true) :
  Calls Tryz.prog 75 #[.pointer (some ⟨g,0,none⟩),kv] w (Ends w K D g (rem Q.flatten k) W (n+1) (N+2) (.bool true)):=by
 obtain⟨I,c,rfl⟩:=f.shape;have u:=fP hX hn;have t:=aB hX;have A:=aB s;have l:=aB f
 have C:N<=99999998:=by omega
 replace z:N<=100000000:=by omega
 clear hX s f;obtain⟨kn,o⟩:∃ kn,Hid (k.length=kn):=⟨_,rfl⟩
 rw[o.out] at l ⊢;go_enter Tryz.func75,Tryz.ntmps75;go_wp2_with first
  | (go_at_call 95;go_must (refine u.mono ?_);rintro e H ⟨rfl,d,r⟩;have j:=uf d (l.out _ (t.out.kg r)) z;rw[v] at j)
  | (go_at_call 121;go_must (refine j.mono ?_);rintro e M ⟨rfl,q⟩;clear j;replace d:=d.keep q;have p:=ff (t.out.kg r) (Chg.of q))
  | (go_at_call 96;go_must (refine(l3 d).mono ?_);rintro e y ⟨rfl,hy⟩;replace hy:=hy.symm;subst hy;have c0:=d.blk.cell (i:=0) rfl;have us:=mdel d.map (l.out _ p) (by omega);rw[jL d.map.ord,v] at us)
  | (go_at_call 122;go_must (refine us.mono ?_);rintro e J ⟨rfl,L,B,hF,hC⟩)
 go_ret;have G:=d.mapped (N':=N) (by have:=d.tot;have:=vo (E:=Q.flatten) k;rw[iw d.map.ord];omega) B hF (fun _ h=>h) hC;refine⟨rfl,_,((G.shut (E:=rem Q.flatten k) (W:=W) (iw d.map.ord k) (ra A.out)).more (by omega)).mono (fun b _ hb=>?_),fun b hb=>?_,?_⟩
 ·exact .inl hb
 ·rcases hb with⟨hb,_⟩ | hb
  ·exact .inl hb
  ·rcases hF b hb with x | x
   ·exact .inl (d.own.map b x)
   ·exact .inr (by have:=p.size;omega)
 ·exact ff p (hC.mono (fun b _ h=>d.own.map b h))
theorem yr{j:Jr}(hX:SX w K D F V g m Q jv (T0 ++ [j]) oj n N)(C:jV ((T0 ++ [j]).reverse.map Jr.U) W Q.flatten)(s:BK w K kv k)(hn:n<=4000000000000000000)(z:N+2<=100000000)(f:k.length<=1000000000)(G:(look Q.flatten k).isSome=true) :
  Calls Tryz.prog 75 #[.pointer (some ⟨g,0,none⟩),kv] w (Ends w K D g (rem Q.flatten k) W (n+1) (N+2) (.bool true)):=by
 obtain⟨T,c,rfl⟩:=s.shape;have u:=fP hX hn;have v:=aB hX;have I:=aB C;have q:=aB s;replace f:=aB f
 have M:N<=99999998:=by omega
 replace z:N<=100000000:=by omega
 clear hX C s;obtain⟨kn,y⟩:∃ kn,Hid (k.length=kn):=⟨_,rfl⟩
 rw[y.out] at q ⊢;go_enter Tryz.func75,Tryz.ntmps75;go_wp2_with first
  | (go_at_call 95;go_must (refine u.mono ?_);rintro e P ⟨rfl,p,B⟩;have t:=uf p (q.out _ (v.out.kg B)) z;rw[G] at t)
  | (go_at_call 121;go_must (refine t.mono ?_);rintro e w2 ⟨rfl,A⟩;clear t;replace p:=p.keep A;have o:=ff (v.out.kg B) (Chg.of A))
  | (go_at_call 96;go_must (refine(oD p (q.out _ o) (by have:=f.out;omega) z).mono ?_);rintro e S ⟨rfl,X,V2,R,r,d,l,J⟩;have x:=ff o J;have c0:=d.blk.cell (i:=0) rfl;have us:=mdel d.map (q.out _ x) (by omega);rw[jL d.map.ord,G] at us)
  | (go_at_call 122;go_must (refine us.mono ?_);rintro e Y ⟨rfl,Z,L,hF,hC⟩)
 go_ret;have O:=d.mapped (N':=N+1) (by have:=d.tot;have:=vo (E:=Q.flatten) k;rw[iw d.map.ord];omega) L hF (fun _ h=>h) hC;refine⟨rfl,_,((O.shut (E:=rem Q.flatten k) (W:=W) (iw d.map.ord k) (oq I.out r (zP v.out.map.ord.flat k))).more (by omega)).mono (fun b _ hb=>?_),fun b hb=>?_,?_⟩
 ·rcases hb with hb | hb
  ·exact .inl hb
  ·exact .inr (by have:=o.size;omega)
 ·rcases hb with⟨hb,_⟩ | hb
  ·exact(l b hb).imp id (fun h=>by have:=o.size;omega)
  ·rcases hF b hb with H | H
   ·exact(l b (d.own.map b H)).imp id (fun h=>by have:=o.size;omega)
   ·exact .inr (by have:=x.size;omega)
 ·exact x.trans hC (fun b hb h=>(l b (d.own.map b h)).elim id (fun h=>by have:=o.size;omega))
theorem sdel(h:SA w K D g E W n N)(d:BK w K kv k)(c:k.length<=1000000000)(hn:n<=4000000000000000000)(b:N+2<=100000000) :
  Calls Tryz.prog 75 #[.pointer (some ⟨g,0,none⟩),kv] w (Ends w K D g (rem E k) W (n+1) (N+2) (.bool (look E k).isSome)):=by
 obtain⟨F,V,m,Q,i,T,e,hX,rfl,a⟩:=h.open
 cases hr:(look Q.flatten k).isSome with
 | false=>exact CY hX a d hn b hr
 | true =>
  rcases List.eq_nil_or_concat T with rfl | ⟨f,j,rfl⟩
  ·exact zI hX a d hn b hr
  ·rw[List.concat_eq_append] at hX a;exact yr hX a d hn b c hr
end
end Kv
end
section
namespace Kv
open Go.RowKit Go.Lib Pg
attribute [local go_sem] Oper.semAt_some
end Kv
end
section
namespace Kv
open Go.RowKit Go.Lib Pg
attribute [local go_sem] Oper.semAt_some
theorem oe {fn:Func} {p:Tmp} {ty:TypeId} (h:fn.results=#[.cell p ty]) {tmps:Array Value} {w:World} {g:Nat} {v:Value} (c:tmps.getD p undef=.pointer (some ⟨g,0,none⟩)) (b:(loadVar ty ⟨g,0,none⟩).run Tryz.prog w=.ok v w):(results fn tmps).run Tryz.prog w=.ok v w:=by
 have a:tmps[p]?.getD undef=.pointer (some ⟨g,0,none⟩):=by simpa using c
 simp[results,h,a,asAddr,b]
end Kv
end
section
namespace Kv
open Go.RowKit Go.Lib Pg
attribute [local go_sem] Oper.semAt_some
end Kv
end
section
namespace Kv
open Go.RowKit Go.Lib Pg
attribute [local go_sem] Oper.semAt_some
section
variable {w w':World}{B:Nat}{xs:List Value}{K:Nat->Prop}
theorem Rw.rcd{E:TypeId}{k b n c:Nat}(h:Rw w E k b n c xs)(hr:Rec B w w'):Rw w' E k b n c xs:=by
 obtain⟨cs,hk⟩:=h.kind;exact h.same (by rw[(hr.blk hk).blk,hk.blk])
theorem jE{w1:World}(h:Chg K w w1)(c:Rec B w1 w')(f:w.heap.size<=B):Chg K w w' :=
 ⟨c.os.trans h.os,c.tape.trans h.tape,c.output.trans h.output,Nat.le_trans h.size c.size,fun b hb d=>by
  have e:=h.same b hb d;rw[<- e]
  have a:b < w1.heap.size:=Nat.lt_of_lt_of_le hb h.size;rw[Array.getElem?_eq_getElem a]
  exact c.same b _ (Array.getElem?_eq_getElem a) (.inl (by omega))⟩
end
end Kv
end
section
namespace Kv
open Go.RowKit Go.Lib Pg
attribute [local go_sem] Oper.semAt_some
end Kv
end
section
namespace Kv
open Go.RowKit Go.Lib Pg
attribute [local go_sem] Oper.semAt_some
section
variable {n g N:Nat}{ops:Array Oper}{rest:List Oper}{a:Act}{w w':World}{v jv:Value}{pos:String}{K D:Nat→Prop}{Q:List (List KV)}{T:List Jr}{oj:Option Nat}{X:Nat->Prop}{W:List aD}
theorem jD{F:Fence}{Q:Exit->Act->World->Prop}{o:Oper}(d:o.guard=none)(hF:∀ f,F.fn f)(hs:o.semAt F.round a.eval=execOp a.eval o)(b:(execOp a.eval o).run Tryz.prog w=.ok (.value v) w')(h:wpListIn F n Tryz.prog ops Q rest (a.put o.dst v) w'):wpListIn F n Tryz.prog ops Q (o :: rest) a w :=
 wpListIn_plain d fun K c=>by
  unfold Oper.wpIn;rw[hs,b,Oper.uponIn_value];exact⟨fun f _=>hF f,c _ _ h⟩
theorem Dn{F:Fence}{x y d:Nat}{Q:Exit->Act->World->Prop}{after:Array Edge}{u r:Value}(hF:∀ f,F.fn f)(hu:a.eval (.tmp x)=u)(hv:a.eval (.tmp y)=v)(b:(Builtin.append_ #[46,46] 46 #[u,v]).run Tryz.prog w=.ok r w')(h:wpListIn F n Tryz.prog ops Q rest (a.put (some d) r) w') :
  wpListIn F n Tryz.prog ops Q ({ dst:=some d,op:=.call { callee:=.builtin .append,args:=#[.tmp x,.tmp y],argTypes:=#[46,46] },type:=46,pos:=pos,after:=after,guard:=none } :: rest) a w :=
 jD rfl hF (Oper.semAt_eq _ _ _ (fun c h=>by cases h)) (run_ap (x:=x) (y:=y) rfl rfl hu hv b) h
theorem SX.wm{K D F V:Nat->Prop}{m:Nat}(h:SX w K D F V g m Q jv T oj n N)(d:N<=100000000)(c:∀ b,X b->¬ F b)(a:∀ b,X b->∀ cs,¬ Blk w b cs 5)(e:∀ b,X b->b < w.heap.size) :
  ∃ L,Wm w X F D m L/\∀ f t,(wlk (ens L) f t).map En.kl2=Q.flatten.filter (lX f t):=by
 obtain⟨L,rfl,A,O,S,k,r⟩:=h.map.ex;exact⟨L,⟨A,O,fun es he=>(S.one es he).2,S.few k d,r,c,a,e⟩,fun f t=>AB O f t⟩
theorem Ax(x:KV):lX [] [] x=true:=by
 simp[lX,Lt]
 cases x.1<;>simp[de]
def TpD(t:TypeId):Prop:=t=98
theorem sdump{E:aD}(h:SA w K D g E W n N)(hN:N≤100000000) :
    Calls Tryz.prog 15 #[.pointer (some ⟨g,0,none⟩)] w fun e w'=>∃ v es,e=.returned v∧PrA w' w.heap.size v es∧es.map En.kl2=E∧Below w.heap.size w w':=by
  have hsm:=h.small;have hsz:=h.size;obtain⟨F,V,m,Q,jv,T,oj,hX,rfl,hB⟩:= h.open;have b1:=ae w (.cells #[.slice none 0 0] 46);have c1:=aC w [.slice none 0 0] 46;have X1:=hX.keep b1
  obtain⟨L, K2, hwl⟩:= X1.wm hN (X := (· = w.heap.size)) (fun b e hF => by have e' : b = w.heap.size := e; have := hX.map.lt hF; omega) (fun b e cs k => by
    have e':b=w.heap.size:=e;subst e'
    exact absurd (c1.eq k).2 (by decide)) (fun b e=>by have e':b=w.heap.size:=e;simp;omega)
  have t:(wlk (ens L) [] []).map En.kl2=Q.flatten:=by rw[hwl,List.filter_eq_self.2 (fun x _=>Ax x)]
  have tW:=lZ (Tp:=TpD) K2 (By.nil _) (By.nil _) (by decide) (by decide) (by unfold TpD;decide) (by unfold TpD;decide);have g0:=X1.blk.cell (i:=0) rfl;obtain⟨R,hE⟩:∃ E,Hid (wlk (ens L) [] []=E):=⟨_,rfl⟩;rw[hE.out] at tW t;have hEQ:=aB t
  have hlen:R.length≤N:=by have:=congrArg List.length t;simp only[List.length_map] at this;omega
  have sz1:(w.alloc (.cells #[.slice none 0 0] 46)).heap.size=w.heap.size+1:=by simp
  have af:=aB b1;have HC1:=aB c1;clear h hX X1 K2 hwl t hB;obtain⟨Wa,J⟩:∃ Wa,Hid (w.alloc (.cells #[.slice none 0 0] 46)=Wa):=⟨_,rfl⟩;rw[J.out] at tW g0 sz1 af HC1;have c1:=HC1.out;refine(callsIn_wide (n:=0)).1 ?_
  refine callsIn_of_wp_marks Tryz.func15 rfl trivial ?_ rfl;simp only[Tryz.ntmps15,List.size_toArray,List.length_cons,List.length_nil,Nat.reduceAdd,Nat.reduceSub,Array.replicate_succ,Array.replicate_zero,List.push_toArray,List.append_toArray,List.nil_append,List.cons_append];rw[← J.out] at g0;gi_wp2_with (refine⟨trivial,rfl,?_⟩;gi_at_call 42;rw[J.out];refine(callsIn_wide.2 tW).mono ?_;rintro e' w1 ⟨bw,rfl,H,IT⟩);have cb:=c1.keep H;clear tW;have q1:=H.size;refine gP IT (by rfl) (enters_of Tryz.func123 (by kernel_rfl) rfl) (fun i args n V V' h hc=>h.cel hc) (fun i args n V h=>by obtain⟨e,kv,vv,s,_,rfl,_⟩:= h;rfl)
    (fun i V=>BP w1 V w.heap.size R i) (fun _ _ _=>False)
    (fun i A B hx hr=>hx.rcd hr) (fun _ _ _ _ hx _=>hx)
    (fun i V hv=>hv.chg) ⟨Chg.refl _ _,_,[],cb,⟨.inl ⟨rfl,rfl⟩,fun e he=>by cases he⟩,rfl⟩ ?_ ?_ ?_
  · rintro l2 i args V Wv hl hlV hrec hiN hG hb ⟨e0,kv,vv,s0,Z,rfl,hk0,hv0,_⟩
    obtain⟨S,nk,hk1⟩:= hk0.shape;obtain⟨U,Y,hv1⟩:= hv0.shape;subst hk1 hv1;simp;gi_wp2;refine⟨Below.refl _ _,?_⟩;intro V2 W2 q l ah hoth y hV2 r hrec2;obtain⟨e1,kv1,vv1,t1,ac,u,ab,aa,ht1⟩:= ah;obtain rfl:e1=e0:=by rw[Z] at ac;cases ac;rfl
    simp at u;obtain⟨rfl,rfl⟩:= u;obtain⟨ov,es,g1,g2,g3⟩:= q.out
    have p:es.length=i:=by have:=congrArg List.length g3;simp at this;omega
    obtain⟨ao0,cc0,rfl⟩:= g2.shape;have S0:=g1.keep l;have P0:=g2.keep l;have z1:=q.chg.size;have z2:=l.size;have f:=ae W2 (.cells #[.slice S e1.kl.length nk,.slice U e1.vl.length Y] 98);have N4:=aC W2 [.slice S e1.kl.length nk,.slice U e1.vl.length Y] 98;have z5:=f.size
    have hE4:EnA (W2.alloc (.cells #[.slice S e1.kl.length nk,.slice U e1.vl.length Y] 98)) (fun b=>w1.heap.size≤b) ⟨.slice S e1.kl.length nk,e1.kl,.slice U e1.vl.length Y,e1.vl⟩:= ⟨(ab.keep f).mono (fun b _ hb=>by omega),(aa.keep f).mono (fun b _ hb=>by omega)⟩;obtain⟨ov5,w5,M,P5,I⟩:= zQ (e:=⟨.slice S e1.kl.length nk,e1.kl,.slice U e1.vl.length Y,e1.vl⟩) (a:=⟨W2.heap.size,0,none⟩) 46 (P0.keep f) (by omega) hE4 (by omega) (N4.cell (i:=0) rfl) (N4.cell (i:=1) rfl);have S4:=S0.keep f;have S5:=I.blk S4 (by decide);have s0c:=S0.cell (i:=0) rfl;obtain⟨d,z⟩:∃ d,Hid (es ++ [(⟨.slice S e1.kl.length nk,e1.kl,.slice U e1.vl.length Y,e1.vl⟩:En)]=d):=⟨_,rfl⟩
    have hes4:Hid (d.map En.kl2=(R.take (i+1)).map En.kl2):=by
      show _=_
      rw[← z.out,List.map_append,g3,List.take_add_one,Z,List.map_append];rfl
    simp only[z.out] at P5;obtain⟨O,G,rfl⟩:= P5.shape;have s5c:=S5.cell (i:=0) rfl;have s5f:=S5.free 0;have P:=aB P5;have ad:=aB S5;have HSp:=aB I;have ag:=aB f;have HG2:=aB q;have HB2:=aB l;have hsl:=S4.cell (i:=0) rfl;replace p:=aB p;replace y:=aB y;replace hV2:=aB hV2;clear hG hk0 hv0 hb hoth P5 S5 I f N4 hE4 P0 S0 g1 g2 g3 ab aa l q S4;gi_wp2_with (have gate:=M;clear gate;refine Dn (fun _=>trivial) rfl rfl M ?_;clear M)
    have j:Chg (·=w.heap.size) w5 (w5.setCell ⟨w.heap.size,0,none⟩ (.slice O d.length G)):=(Chg.refl (fun x=>x=w.heap.size) w5).cell (.inl (by rfl)) _
    have C : ∀ b, b = w.heap.size → ∀ cs, ¬ Blk w5 b cs 5 := fun b hb cs k => by
      subst hb;have:=(k.eq ad.out).2;revert this;decide
    have P6:PrA (w5.setCell ⟨w.heap.size,0,none⟩ (.slice O d.length G)) w1.heap.size (.slice O d.length G) d:=⟨P.out.ex.imp id (fun⟨b,c,e,hl,hR⟩=>⟨b,c,e,hl,hR.chg j (by omega)⟩),fun e he=>⟨(P.out.dM e he).k.chg j C,(P.out.dM e he).v.chg j C⟩⟩;refine⟨((bB.of (Tp:=TpD) (B:=w1.heap.size) ag.out).trans (HSp.out.keeps (Tp:=TpD) rfl)).trans ⟨j.size,fun k o hk h0 _=>(j.same k (lt_of_block h0) (by omega)).trans h0⟩,⟨?_,_,d,ad.out.setCell (i:=0) _,P6,hes4.out⟩⟩;exact(((HG2.out.chg.trans (Chg.of (F:=fun _=>False) (ax HB2.out ag.out)) (fun _ _ h=>h.elim)).trans HSp.out.chg (fun b h1 h2=>by omega))).trans j (fun b _ h=>h)
  · rintro D' W' hD hK hG
    obtain⟨ov,es,g1,g2,g3⟩:= hG.out;obtain⟨ao,cc,rfl⟩:= g2.shape;have g1c:=g1.cell (i:=0) rfl;gi_wp2;refine⟨by simp,.inl ⟨_,_,rfl,run_takeDeferred hK,?_⟩⟩;refine⟨_,results_tmp rfl _ _ _,_,es,rfl,(g2.cel (Rec.put hK rfl hD _).cel).low (by omega),?_,?_⟩
    · rw[g3,List.take_length];exact hEQ.out
    · exact uv af.out H ((hG.rcd (Rec.put hK rfl hD _)).chg) (Nat.le_refl _)
  · rintro D' c i W' hD hK hi hF
    exact hF.elim
end
end Kv
end
section
namespace Kv
open Go.RowKit Go.Lib Pg
attribute [local go_sem] Oper.semAt_some
section
variable {g x:Nat}{V:World}{E:List En}{args:Array Value}
def tick(g:Nat)(V:World)(x:Nat):World:=V.setCell ⟨g,2,none⟩ (.int .i64 ((x:Int)+1))
theorem sK{V':World}(hb:Below V.heap.size V V'):Below (tick g V x).heap.size (tick g V x) (tick g V' x):=by
 unfold tick;refine⟨hb.os,hb.tape,hb.output,by simpa[World.setCell] using hb.size,fun k b=>?_⟩
 have a:k < V.heap.size:=by simpa[World.setCell] using b
 by_cases e:k=g
 ·subst e;have c:=hb.block k a;simp only[World.setCell,Array.getElem?_modify,c]
 ·rw[Below.heap_setCell _ _ _ _ (by exact e),Below.heap_setCell _ _ _ _ (by exact e)];exact hb.block k a
theorem fo(g x:Nat)(V:World):(tick g V x).heap.size=V.heap.size:=by simp[tick,World.setCell]
theorem dW(g x:Nat)(V:World):Chg (·=g) V (tick g V x):=(Chg.refl (·=g) V).cell (.inl rfl) _
theorem zg{i n:Nat}(h:ArC E i args n V)(p:∃ cs,Blk V g cs 94):ArC E i args n (tick g V x):=by
 obtain⟨e,kv,vv,s,m,d,l,o,j⟩:=h
 have a:∀ b,b=g->∀ cs,¬ Blk V b cs 5:=fun b hb cs k=>by
  subst hb;obtain⟨c,f⟩:=p;exact absurd (k.eq f).2 (by decide)
 exact⟨e,kv,vv,s,m,d,l.chg (dW g x V) a,o.chg (dW g x V) a,j⟩
def RdC(X:Nat->Prop)(W1:World)(g bs1 bs2 bw:Nat)(V:World):Prop:=Chg X W1 V/\Blk V bs1 [.pointer (some ⟨g,0,none⟩)] 37/\Blk V bs2 [.func (.func 123) #[] #[.pointer (some ⟨bw,0,none⟩)]] 85/\∃ cs,Blk V g cs 94
end
end Kv
end
section
namespace Kv
open Go.RowKit Go.Lib Pg
attribute [local go_sem] Oper.semAt_some
section
variable {I It:Nat->World->Prop}{Ix:Code->Nat->World->Prop}{W W' V:World}
def oX(I It:Nat->World->Prop)(k:Nat):World->Prop:=if k % 2=0 then I (k / 2) else It (k / 2)
theorem ju(I It:Nat->World->Prop)(i:Nat):oX I It (2 * i+1)=It i:=by
 unfold oX;rw[if_neg (by omega),show (2 * i+1) / 2=i by omega]
theorem j1(I It:Nat->World->Prop)(i:Nat):oX I It (2 * i+1+1)=I (i+1):=by
 unfold oX;rw[if_pos (by omega),show (2 * i+1+1) / 2=i+1 by omega]
theorem oA{Tp:TypeId->Prop}{B:Nat}{i:Nat}{e:Exit}{a:Act}(h:nV Tp B I Ix (i+1) W e a W'):nV Tp B (oX I It) (fun c k=>Ix c (k / 2)) (2 * i+1+1) W e a W':=by
 have e2:(2 * i+1+1) / 2=i+1:=by omega
 cases e<;>simp only[nV] at h ⊢
 ·exact⟨h.1,by rw[j1];exact h.2⟩
 ·exact⟨h.1,by rw[e2];exact h.2⟩
 ·exact⟨h.1,by rw[e2];exact h.2⟩
 ·exact⟨h.1,by rw[e2];exact h.2⟩
def Ba(Tp:TypeId->Prop)(w:World)(N n:Nat)(ps:Array Tmp)(assign body:Code)(tmps:Array Value)(Ar:Nat->Array Value->Nat->World->Prop)(It I:Nat->World->Prop)(Ix:Code->Nat->World->Prop):Prop :=
 ∀ (l i:Nat) (args:Array Value) (V W:World),w.heap.size<=l->l < V.heap.size->(∃ r,V.heap[l]?=some (.loop r))->i < N->It i V->Below V.heap.size V W->Ar i args V.heap.size W ->
  assign.wpIn (Fence.wide.inRound l) n Tryz.prog (Exit.then (fun a1 W1=>Below W.heap.size W W1/\∀ V2 W2,It i V2->Below V2.heap.size V2 W2->Ar i args V2.heap.size W2->(∀ b,b≠l->W2.heap[b]?=W1.heap[b]?)->W2.heap.size=W1.heap.size->V2.heap.size=V.heap.size->(∃ r,W2.heap[l]?=some (.loop r))->body.wpIn (Fence.wide.inRound l) n Tryz.prog (nV Tp w.heap.size I Ix (i+1) W2) a1 W2) (fun _ _ _=>False)) { tmps:=(ps.zip args).foldl (fun t (p,v)=>t.setIfInBounds p v) tmps,defers:=[] } W
theorem fE{g x k:Nat}(h:k≠g):(tick g V x).heap[k]?=V.heap[k]?:=Below.heap_setCell _ _ _ _ h
end
end Kv
end
section
namespace Kv
open Go.RowKit Go.Lib Pg
attribute [local go_sem] Oper.semAt_some
section
variable {w w' A A':World}{B n c g:Nat}{v u r:Value}{l a Q b:List Int}{x y:Int}{D:Nat->Prop}{ao:Option Addr}{Rd:World->Prop}{cs:List Value}{ops:Array Oper}{rest:List Oper}{pos:String}
theorem um{p:Nat}(h:OB w (B <= ·) v l)(d:B<=w.heap.size)(t:l.length<=1000000000)(hx:0<=x/\x < 256)(r:w.cell? ⟨p,0,none⟩=some (.int .u8 x)) :
  ∃ v' w',(Builtin.append_ #[96,96] 96 #[v,.slice (some ⟨p,0,none⟩) 1 1]).run Tryz.prog w=.ok v' w'/\OB w' (B <= ·) v' (l ++ [x])/\Below B w w':=by
 have o:Oct (l ++ [x]):=fun y hy=>by
  rcases List.mem_append.1 hy with hy | hy
  ·exact h.oct y hy
  ·simp at hy;subst hy;exact hx
 have a:∀ j u,[Value.int .u8 x][j]? = some u->w.cell? ((⟨p,0,none⟩:Addr).add j)=some u:=fun j u i=>by
  match j with
  | 0=>simp at i;subst i;exact r
  | j+1=>simp at i
 rcases h.ex with⟨rfl,rfl⟩ | ⟨b,c,rfl,hl2,g⟩
 ·obtain⟨k,w',n,g,hw⟩:=e9 (w:=w) KB 96 ⟨p,0,none⟩ 1 1 [.int .u8 x] rfl a (by decide) (by decide) (by decide);exact⟨_,w',n,⟨o,.inr ⟨_,k,rfl,d,g⟩⟩,hw.mono d⟩
 ·obtain⟨q,k,w',n,f,m,hw⟩:=dB (w:=w) KB 96 g ⟨p,0,none⟩ 1 1 [.int .u8 x] rfl a (by simp[Value.oneCell']) (by omega) (by omega);refine⟨_,w',n,⟨o,.inr ⟨q,k,by simp,?_,by rw[List.map_append,List.length_append]; exact m⟩⟩,hw.below (fun x e=>by have s:x=b:=e; omega) d⟩;rcases f with rfl | rfl
  ·exact hl2
  ·exact d
theorem eM(h:OB w (B <= ·) v l)(d:B<=w.heap.size)(t:l.length<=1000000000)(hx:0<=x/\x < 256) :
  ∃ v' w',(Builtin.append_ #[96,96] 96 #[v,.slice (some ⟨w.heap.size,0,none⟩) 1 1]).run Tryz.prog (w.alloc (.cells #[.int .u8 x] 5))=.ok v' w'/\OB w' (B <= ·) v' (l ++ [x])/\Below B w w':=by
 have hb:=ae w (.cells #[.int .u8 x] 5);have r:=aC w [.int .u8 x] 5
 have o:Oct (l ++ [x]):=fun y hy=>by
  rcases List.mem_append.1 hy with hy | hy
  ·exact h.oct y hy
  ·simp at hy;subst hy;exact hx
 have a:∀ j u,[Value.int .u8 x][j]? = some u->(w.alloc (.cells #[.int .u8 x] 5)).cell? ((⟨w.heap.size,0,none⟩:Addr).add j)=some u:=fun j u p=>by
  match j with
  | 0=>exact r.cell (i:=0) p
  | j+1=>simp at p
 rcases h.ex with⟨rfl,rfl⟩ | ⟨b,c,rfl,hl2,g⟩
 ·obtain⟨k,w',n,g,hw⟩:=e9 (w:=w.alloc (.cells #[.int .u8 x] 5)) KB 96 ⟨w.heap.size,0,none⟩ 1 1 [.int .u8 x] rfl a (by decide) (by decide) (by decide);exact⟨_,w',n,⟨o,.inr ⟨_,k,rfl,Nat.le_trans d hb.size,g⟩⟩,(hb.mono d).trans (hw.mono (Nat.le_trans d hb.size))⟩
 ·obtain⟨q,k,w',n,f,m,hw⟩:=dB (w:=w.alloc (.cells #[.int .u8 x] 5)) KB 96 (g.keep hb) ⟨w.heap.size,0,none⟩ 1 1 [.int .u8 x] rfl a (by simp[Value.oneCell']) (by omega) (by omega);refine⟨_,w',n,⟨o,.inr ⟨q,k,by simp,?_,by rw[List.map_append,List.length_append]; exact m⟩⟩,(hb.mono d).trans (hw.below (fun x e=>by have s:x=b:=e; omega) (Nat.le_trans d hb.size))⟩;rcases f with rfl | rfl
  ·exact hl2
  ·exact Nat.le_trans d hb.size
theorem OB.sh(h:OB w D v l):∃ ao c,v=.slice ao l.length c:=by
 rcases h.ex with⟨rfl,rfl⟩ | ⟨b,c,rfl,_⟩
 ·exact⟨none,0,rfl⟩
 ·exact⟨_,c,rfl⟩
theorem By.lens(h:By w (.slice ao n c) l):l.length=n/\n<=c/\c<=9223372036854775807:=by
 obtain⟨ao',c',e,h2,h3,_⟩:=h.ex
 cases e;exact⟨rfl,h2,h3⟩
theorem iq{a:Act}{o:Oper}{x y:Nat}{T ty:TypeId}(b:o.type=ty)(c:o.op=.call { callee:=.builtin .append,args:=#[.tmp x,.tmp y],argTypes:=#[T,T] })(hx:a.eval (.tmp x)=u)(hy:a.eval (.tmp y)=v)(d:(Builtin.append_ #[T,T] ty #[u,v]).run Tryz.prog w=.ok r w') :
  (execOp a.eval o).run Tryz.prog w=.ok (.value r) w':=by
 subst b;unfold execOp;simp only[c,resolve,invoke,builtin,Sem.run_bind,Sem.run_pure,Result.andThen_ok,List.map_toArray,List.map_cons,List.map_nil,hx,hy,d]
theorem pV(w:World)(D:Nat->Prop):OB w D (.slice none 0 0) []:=⟨fun _ h=>by simp at h,.inl ⟨rfl,rfl⟩⟩
def ArBB(Q:List Int)(i:Nat)(args:Array Value)(_:Nat)(_:World):Prop:=∃ p j,j+1+i=Q.length/\Q[j]?=some p/\args=#[.int .i64 (j:Int),.int .u8 p]
theorem ke{Tp:TypeId->Prop}{bs:Nat}(hn:Q.length=n)(A:n<=1000000000)(hb:∀ V,Rd V->V.cell? ⟨bs,0,none⟩=some (.slice ao n c)/\∀ j p,Q[j]?=some p->∃ b o,ao=some ⟨b,o,none⟩/\V.cell? ⟨b,o+j,none⟩=some (.int .u8 p)) :
  Itr Tp 176 #[.pointer (some ⟨bs,0,none⟩)] n (ArBB Q) Rd:=by
 intro l J M W P H r E C;have B:=(hb W (r 0 W C)).1
 have hb:Hid _:=hb
 have hn:Hid _:=hn
 have K:IntKind.i64.wrap ((n:Int) - 1)=(n:Int) - 1:=by rw[IntKind.wrap_i64];omega
 refine(callsIn_wide (n:=0)).1 ?_
 refine callsIn_of_wp Tryz.func176 rfl trivial ?_ rfl;simp only[Tryz.ntmps176,List.size_toArray,List.length_cons,List.length_nil,Nat.reduceAdd,Nat.reduceSub,Array.replicate_succ,Array.replicate_zero,List.push_toArray,List.append_toArray,List.nil_append,List.cons_append];gi_wp2;gi_loopw [3] (fun y wr=>∃ i:Nat,i<=n/\y=.int .i64 ((n:Int) - 1 - (i:Int))/\W.heap.size<=wr.heap.size/\J i wr) (fun y _=>(intOf y+1).toNat)
 case atStart=>exact⟨0,Nat.zero_le _,by simp,Nat.le_refl _,C⟩
 case round =>
  clear B;obtain⟨i,hi,rfl,f,d⟩:=hrel;obtain⟨B,m⟩:=hb.out wr (r _ _ d);by_cases u:i < n
  ·obtain⟨j,v⟩:∃ j,j+1+i=n:=⟨n - 1 - i,by omega⟩
   obtain⟨p,z⟩:∃ p,Q[j]?=some p:=⟨Q[j]'(by have:=hn.out;omega),List.getElem?_eq_getElem _⟩
   obtain⟨b,o,rfl,O⟩:=m j p z
   have s:(n:Int) - 1 - (i:Int)=(j:Int):=by omega
   have F:Hid (j+1+i=n):=v;have x:=E i _ wr wr u d f (Below.refl _ _) ⟨p,j,by rw[hn.out];exact v,z,rfl⟩;obtain⟨fn,tmps,assign,body,hy,D⟩:=x;rw[s]
   have L:IntKind.i64.wrap ((j:Int) - 1)=(j:Int) - 1:=by rw[IntKind.wrap_i64];omega
   have z1:(j:Int) < n:=by omega
   clear m s v;gi_wp2;refine⟨rfl,D.mono ?_⟩;rintro I N ⟨t,⟨rfl,g⟩ | ⟨rfl,g⟩⟩
   ·gi_wp2;go_roundw
    case rel=>exact⟨i+1,by omega,by have:=F.out;congr 1;omega,Nat.le_trans f t.size,g⟩
    case measure=>simp[intOf]
   ·gi_wp2;refine bodyPost_ret (results_none rfl _ _ _) rfl ?_
    exact⟨⟨_,rfl⟩,Nat.le_trans f t.size,.inr ⟨i,u,g⟩⟩
  ·have q:i=n:=by omega
   have s:(n:Int) - 1 - (i:Int)=-1:=by omega
   rw[s]
   have G:Hid (J n wr):=by show J n wr;rw[<- q];exact d
   clear m s q d;gi_wp2;go_end0;exact⟨⟨_,rfl⟩,f,.inl G.out⟩
theorem mN:Calls Tryz.prog 131 #[.slice ao n c] w fun e w'=>e=.returned (.func (.func 176) #[] #[.pointer (some ⟨w.heap.size,0,none⟩)])/\Blk w' w.heap.size [.slice ao n c] 96/\Below w.heap.size w w':=by
 go_enter Tryz.func131,Tryz.ntmps131;go_wp2;go_ret;exact⟨rfl,aC w _ _,ae w _⟩
def nxt(l:List Int):List Int:=match l.reverse.dropWhile (· == 255) with
 | []=>[]
 | x :: t=>t.reverse ++ [x+1]
theorem nm:∀ {l:List Int},(∀ x∈l,x=255)->l.dropWhile (· == 255)=[]
 | [],_=>rfl
 | x :: l,h=>by
  have hx:=h x List.mem_cons_self;subst hx;rw[List.dropWhile_cons_of_pos (by decide)];exact nm (fun y hy=>h y (List.mem_cons_of_mem _ hy))
theorem mM(A B:List Int)(hx:x≠255)(h:∀ b∈B,b=255):(A ++ x :: B).reverse.dropWhile (· == 255)=x :: A.reverse:=by
 rw[List.reverse_append,List.reverse_cons,List.append_assoc,List.dropWhile_append_of_pos (fun a c=>by simp[h a (List.mem_reverse.1 c)]),List.singleton_append,List.dropWhile_cons_of_neg (by simp[hx])]
theorem fi(h:∀ x∈l,x=255):nxt l=[]:=by
 have:l.reverse.dropWhile (· == 255)=[]:=by
  exact nm (fun x hx=>h x (List.mem_reverse.1 hx))
 unfold nxt;rw[this]
theorem sR{j:Nat}(c:l[j]?=some x)(hx:x≠255)(h:∀ i y,l[i]?=some y->j < i->y=255):nxt l=l.take j ++ [x+1]:=by
 have b:j < l.length:=(List.getElem?_eq_some_iff.1 c).1
 have e:l=l.take j ++ x :: l.drop (j+1):=by
  have d:=(List.take_append_drop j l).symm
  have k:l.drop j=x :: l.drop (j+1):=by
   rw[List.drop_eq_getElem_cons b];congr 1
   exact(List.getElem?_eq_some_iff.1 c).2
  rw[k] at d;exact d
 have m:l.reverse.dropWhile (· == 255)=x :: (l.take j).reverse:=by
  have f:=mM (l.take j) (l.drop (j + 1)) hx (fun a g=>by
   obtain⟨i,hi⟩:=List.getElem?_of_mem g;rw[List.getElem?_drop] at hi
   exact h (j+1+i) a hi (by omega))
  rw[<- e] at f;exact f
 unfold nxt;rw[m];simp
theorem dL{b d:Nat}{B:World}(h:Below b w A)(a:Rec d A B)(f:b<=d)(hw:b<=A.heap.size):Below b w B :=
 ⟨a.os.trans h.os,a.tape.trans h.tape,a.output.trans h.output,Nat.le_trans h.size a.size,fun k e=>by
  obtain⟨o,c⟩:∃ o,A.heap[k]?=some o:=⟨A.heap[k]'(by omega),Array.getElem?_eq_getElem _⟩
  rw[a.same k o c (.inl (by omega)),<- c]
  exact h.block k e⟩
theorem mj{ty:TypeId}(h:Blk A g cs ty)(hr:Rec B A A'):Blk A' g cs ty:=hr.blk h
theorem OB.rcd(h:OB A D v l)(hr:Rec B A A'):OB A' D v l:=by
 refine⟨h.oct,h.ex.imp id ?_⟩;rintro⟨b,c,e,hd,hR⟩;obtain⟨cs,k⟩:=hR.kind;exact⟨b,c,e,hd,hR.same ((hr.blk k).blk.trans k.blk.symm)⟩
theorem By.take(h:By w (.slice ao n c) l)(j:Nat)(r:j<=n):By w (.slice ao j c) (l.take j):=by
 obtain⟨q,hc,hm⟩:=By.lens h;obtain⟨k,s,e,t,m,g,o,d⟩:=h.ex
 cases e
 have hlen:(l.take j).length=j:=by rw[List.length_take];omega
 refine⟨ao,c,by rw[hlen],by rw[hlen];omega,m,g,fun x hx=>o x (List.mem_of_mem_take hx),?_⟩;rcases d with rfl | ⟨f,p,e,b,a⟩
 ·exact .inl (by simp)
 ·exact .inr ⟨f,p,e,b,fun i x hi=>a i x (by
   rw[List.getElem?_take] at hi;split at hi
   ·exact hi
   ·cases hi)⟩
theorem oG{o:Nat}(c:w.cell? ⟨g,o,none⟩=some v):(loadVar 96 ⟨g,o,none⟩).run Tryz.prog w=.ok v w:=by go_simp
theorem o8{F:Fence}{Q:Exit->Act->World->Prop}{after:Array Edge}{a:Act}(hF:∀ f,F.fn f)(hu:a.eval (.tmp 14)=u)(hv:a.eval (.tmp 17)=v)(b:(Builtin.append_ #[96,96] 96 #[u,v]).run Tryz.prog w=.ok r w')(h:wpListIn F n Tryz.prog ops Q rest (a.put (some 18) r) w') :
  wpListIn F n Tryz.prog ops Q ({ dst:=some 18,op:=.call { callee:=.builtin .append,args:=#[.tmp 14,.tmp 17],argTypes:=#[96,96] },type:=96,pos:=pos,after:=after,guard:=none } :: rest) a w :=
 jD rfl hF (Oper.semAt_eq _ _ _ (fun c h=>by cases h)) (iq (x:=14) (y:=17) rfl rfl hu hv b) h
theorem mT(h:By w (.slice ao n c) l)(H:n≤1000000000) :
    Calls Tryz.prog 119 #[.slice ao n c] w fun e w'=>∃ v,e=.returned v∧OB w' (w.heap.size≤·) v (nxt l)∧Below w.heap.size w w':=by
  obtain⟨hl,hnc,hcm⟩:= By.lens h;have c1:=aC w [.slice ao n c] 96;have b1:=ae w (.cells #[.slice ao n c] 96)
  have s1:(w.alloc (.cells #[.slice ao n c] 96)).heap.size=w.heap.size+1:=by simp
  have c2:=aC (w.alloc (.cells #[.slice ao n c] 96)) [.slice none 0 0] 96;have b2:=ae (w.alloc (.cells #[.slice ao n c] 96)) (.cells #[.slice none 0 0] 96)
  have s2:((w.alloc (.cells #[.slice ao n c] 96)).alloc (.cells #[.slice none 0 0] 96)).heap.size=w.heap.size+2:=by simp
  rw[s1] at c2
  have I:=c1.keep b2;have K:=ax b1 b2;obtain⟨Wa,L⟩:∃ Wa,Hid ((w.alloc (.cells #[.slice ao n c] 96)).alloc (.cells #[.slice none 0 0] 96)=Wa):=⟨_,rfl⟩;rw[L.out] at I c2 s2 K;have HB:=aB h;clear h c1 b1 b2 s1;refine(callsIn_wide (n:=0)).1 ?_
  refine callsIn_of_wp_marks Tryz.func119 rfl trivial ?_ rfl;simp only[Tryz.ntmps119,List.size_toArray,List.length_cons,List.length_nil,Nat.reduceAdd,Nat.reduceSub,Array.replicate_succ,Array.replicate_zero,List.push_toArray,List.append_toArray,List.nil_append,List.cons_append];gi_wp2_with (refine⟨trivial,rfl,?_⟩;gi_at_call 131;rw[L.out];refine(callsIn_wide.2 mN).mono ?_;rintro e' z ⟨rfl,N,s⟩);rw[s2] at N;have k1:=I.keep s;have k2:=c2.keep s;have m:=ax K s;have hs2:=s.size;have IT:=ke (Tp:=fun _=>False) (bs:=w.heap.size+2) (c:=c) (ao:=ao) (Q:=l) (n:=n) (Rd:=fun V=>Below z.heap.size z V) hl H (fun V hv=>⟨(N.keep hv).cell (i:=0) rfl,fun j p D=>By.at ((HB.out.keep m).keep hv) D⟩);refine gP IT (by rfl) (enters_of Tryz.func176 (by kernel_rfl) rfl) (fun i args n V V' h _=>h) (fun i args n V h=>by obtain⟨p,j,_,_,rfl⟩:= h;rfl)
    (fun i V=>Below z.heap.size z V∧∀ j x,l[j]?=some x→n≤j+i→x=255)
    (fun c i V=>c=.ret∧∃ v,Blk V (w.heap.size+1) [v] 96∧OB V (w.heap.size≤·) v (nxt l)∧Below w.heap.size w V)
    (fun i A B hx T=>⟨dL hx.1 T (Nat.le_refl _) hx.1.size,hx.2⟩)
    (fun c i A B hx T=>⟨hx.1,by obtain⟨v,h1,h2,J⟩:= hx.2;exact⟨v,T.blk h1,OB.rcd h2 T,dL J T m.size J.size⟩⟩)
    (fun i V hv=>hv.1) ⟨Below.refl _ _,fun j x D hn=>by have:=(List.getElem?_eq_some_iff.1 D).1;omega⟩ ?_ ?_ ?_
  · rintro l2 i args V Wv hl2 hlV hrec hiN ⟨hBV,q⟩ hb ⟨p,j,D,hp,rfl⟩
    simp;gi_wp2;refine⟨Below.refl _ _,?_⟩;intro V2 W2 u f hb2 U X hsz3 hV2 r hrec2;have d:=u.trans (hb2.mono u.size);have kb:=(k1.keep d).cell (i:=0) rfl;have F:=k2.keep d
    have hpo:0≤p∧p < 256:=HB.out.oct p (List.mem_of_getElem? hp);clear q hb hBV X U;by_cases O:p=255
    · subst O
      gi_wp2;refine⟨bB.of (Below.refl _ _),d,fun j2 x hx hn=>?_⟩;by_cases e:j2=j
      · subst e;rw[hp] at hx;cases hx;rfl
      · exact f j2 x hx (by omega)
    · have hp6 : p < 255 := by omega
      have BY:=By.take ((HB.out.keep m).keep d) j (by omega)
      have P:(l.take j).length=j:=by rw[List.length_take];omega
      have hjn:(j:Int)≤c:=by omega
      have w9:IntKind.u8.wrap (p+1)=p+1:=by rw[IntKind.wrap_u8];omega
      have R:=aB F;have HW:=aB d
      have HNX:Hid (nxt l=l.take j ++ [p+1]):=sR hp O (fun i2 y hy hi=>f i2 y hy (by omega));clear F d f
      gi_wp2_with (first
        | (have gate:=t;clear gate;refine o8 (fun _=>trivial) rfl rfl t ?_;clear t)
        | (refine⟨trivial,rfl,?_⟩;gi_at_call 78;refine(CallsIn.inRound l2 (callsIn_wide.2 (cI BY (by omega)))).mono ?_;rintro e' w5 ⟨v5,rfl,O5,b5⟩;obtain⟨v6,G,t,O6,b6⟩:= eM (B:=W2.heap.size) (x:=p+1) O5 b5.size (by omega) (by omega);have C:=(R.out.keep b5).kU b6 (R.out.lt);have kc:=C.cell (i:=0) rfl;have kfr:=C.free 0;obtain⟨a5,c5,rfl⟩:= OB.sh O5;obtain⟨a6,c6,rfl⟩:= OB.sh O6;rw[P] at t ⊢))
      have hlt:w.heap.size+1 < z.heap.size:=k2.lt;have hsW:=HW.out.size;have M:=b5.trans b6
      have O7:OB G (W2.heap.size≤·) (.slice a6 (j+1) c6) (l.take j ++ [p+1]):=by
        have S:=O6;rw[show (l.take j ++ [p+1]).length=j+1 by rw[List.length_append,P];rfl] at S;exact S
      have O8:OB (G.setCell ⟨w.heap.size+1,0,none⟩ (.slice a6 (j+1) c6)) (W2.heap.size≤·) (.slice a6 (j+1) c6) (l.take j ++ [p+1]):=O7.same (fun b _ hb=>Below.heap_setCell G _ _ b (by show b≠w.heap.size+1;omega))
      have B6:Below w.heap.size w G:=(m.trans (HW.out.mono m.size)).trans (M.mono (Nat.le_trans m.size hsW));refine⟨(bB.of M).trans ⟨?_,fun k o hk h0 _=>(Below.heap_setCell G _ _ k (by show k≠w.heap.size+1;omega)).trans h0⟩,rfl,_,C.setCell (i:=0) _,?_,B6.setCell (show w.heap.size≤w.heap.size+1 by omega) _⟩
      · exact((Chg.refl (fun x=>x=w.heap.size+1) G).cell (g:=w.heap.size+1) (i:=0) (.inl rfl) _).size
      · rw[HNX.out]
        exact O8.mono (fun b _ hb=>by have:=m.size;omega)
  · rintro Z W' hD Y ⟨d,q⟩
    have F:=k2.keep d;have kc:=F.cell (i:=0) rfl;have kf:=F.free 0
    have hlt:w.heap.size+1 < z.heap.size:=k2.lt
    have W:(W'.setCell ⟨w.heap.size+1,0,none⟩ (.slice none 0 0)).heap[Z]?=some (.deferred (some [])):=(Below.heap_setCell W' _ _ Z (by show Z≠w.heap.size+1;omega)).trans Y;gi_wp2;refine⟨by simp,.inl ⟨_,_,rfl,run_takeDeferred W,?_⟩⟩;have E:=Rec.put (B:=z.heap.size) W rfl hD (.deferred none);have k3:=mj (F.setCell (i:=0) (.slice none 0 0)) E;refine⟨_,oe rfl rfl (oG (k3.cell (i:=0) rfl)),_,rfl,?_,?_⟩
    · rw[fi (fun x hx => by
        obtain⟨j,D⟩:= List.getElem?_of_mem hx
        exact q j x D (by omega))]
      exact pV _ _
    · have S:Below w.heap.size w (W'.setCell ⟨w.heap.size+1,0,none⟩ (.slice none 0 0)):=(m.trans (d.mono m.size)).setCell (show w.heap.size≤w.heap.size+1 by omega) _
      exact dL S E m.size S.size
  · rintro Z c i W' hD Y hiN ⟨rfl,v,h1,h2,J⟩
    gi_wp2;refine⟨by simp,.inl ⟨_,_,rfl,run_takeDeferred Y,?_⟩⟩;have E:=Rec.put (B:=z.heap.size) Y rfl hD (.deferred none);have k3:=mj h1 E;exact⟨_,oe rfl rfl (oG (k3.cell (i:=0) rfl)),_,rfl,OB.rcd h2 E,dL J E m.size J.size⟩
theorem bG:Lt (x :: a) (y :: b)<->x < y\/(x=y/\Lt a b):=by
 unfold Lt;rw[de];by_cases c:x < y
 ·simp[c]
 ·by_cases d:y < x
  ·rw[if_neg c,if_pos d];constructor
   ·intro h;exact absurd h (by decide)
   ·rintro(h | ⟨h,_⟩)<;>omega
  ·rw[if_neg c,if_neg d];have:x=y:=by omega
   simp[this]
theorem dK:Lt [] (y :: b):=by simp[Lt,de]
theorem not_lt_nil:¬ Lt a []:=by cases a<;>simp[Lt,de]
theorem fx(s:List Int):Lt (s ++ a) (s ++ b)<->Lt a b:=by
 induction s with
 | nil=>exact Iff.rfl
 | cons x s ih=>rw[List.cons_append,List.cons_append,bG,ih];simp
theorem ep:∀ l:List Int,(∀ x∈l,x=255)\/∃ A x B,l=A ++ x :: B/\x≠255/\∀ b∈B,b=255
 | []=>.inl (fun _ h=>by simp at h)
 | y :: t=>by
  rcases ep t with h | ⟨A,x,B,rfl,hx,hB⟩
  ·by_cases hy:y=255
   ·exact .inl (fun x hx=>by
     rcases List.mem_cons.1 hx with rfl | hx
     ·exact hy
     ·exact h x hx)
   ·exact .inr ⟨[],y,t,rfl,hy,h⟩
  ·exact .inr ⟨y :: A,x,B,rfl,hx,hB⟩
theorem gw{A B:List Int}(hx:x≠255)(hB:∀ b∈B,b=255):nxt (A ++ x :: B)=A ++ [x+1]:=by
 unfold nxt;rw[mM A B hx hB];simp
theorem o4(h:nxt l=[]):∀ x∈l,x=255:=by
 rcases ep l with h1 | ⟨A,x,B,rfl,hx,hB⟩
 ·exact h1
 ·rw[gw hx hB] at h;simp at h
theorem je{c:List Int}(h:nxt l≠[])(hc:l <+: c):Lt c (nxt l):=by
 rcases ep l with b | ⟨A,x,B,rfl,hx,a⟩
 ·exact absurd (fi b) h
 ·obtain⟨t,rfl⟩:=hc;rw[gw hx a,List.append_assoc,fx,List.cons_append,bG];exact .inl (by omega)
theorem kA:∀ {B t:List Int},(∀ b∈B,b=255)->Oct t->Lt t B\/B <+: t
 | [],_,_,_=>.inr (List.nil_prefix)
 | b :: B,[],_,_=>.inl dK
 | b :: B,z :: t,hB,ht=>by
  have hb:=hB b List.mem_cons_self;have c:=ht z List.mem_cons_self;subst hb;by_cases h:z=255
  ·subst h;rcases kA (fun b hb=>hB b (List.mem_cons_of_mem _ hb)) (fun y hy=>ht y (List.mem_cons_of_mem _ hy)) with a | a
   ·exact .inl (bG.2 (.inr ⟨rfl,a⟩))
   ·exact .inr (List.cons_prefix_cons.2 ⟨rfl,a⟩)
  ·exact .inl (bG.2 (.inl (by omega)))
theorem fV:∀ {A B c:List Int} {x:Int},(∀ b∈B,b=255)->Oct c->Lt c (A ++ [x+1])->Lt c (A ++ x :: B)\/(A ++ x :: B) <+: c
 | [],B,[],x,_,_,_=>.inl dK
 | [],B,y :: t,x,hB,hc,h=>by
  rw[List.nil_append,bG] at h;rw[List.nil_append];rcases h with h | ⟨_,h⟩
  ·by_cases e:y=x
   ·subst e;rcases kA hB (fun z hz=>hc z (List.mem_cons_of_mem _ hz)) with h1 | h1
    ·exact .inl (bG.2 (.inr ⟨rfl,h1⟩))
    ·exact .inr (List.cons_prefix_cons.2 ⟨rfl,h1⟩)
   ·exact .inl (bG.2 (.inl (by omega)))
  ·exact absurd h not_lt_nil
 | a :: A,B,[],x,_,_,_=>.inl dK
 | a :: A,B,y :: t,x,hB,hc,h=>by
  rw[List.cons_append,bG] at h;rw[List.cons_append];rcases h with h | ⟨h1,h2⟩
  ·exact .inl (bG.2 (.inl h))
  ·subst h1;rcases fV hB (fun z hz=>hc z (List.mem_cons_of_mem _ hz)) h2 with h3 | h3
   ·exact .inl (bG.2 (.inr ⟨rfl,h3⟩))
   ·exact .inr (List.cons_prefix_cons.2 ⟨rfl,h3⟩)
theorem iW{c:List Int}(hc:Oct c)(e:¬ l <+: c)(d:¬ Lt c l):¬ Lt c (nxt l):=by
 rcases ep l with f | ⟨A,x,B,rfl,hx,b⟩
 ·rw[fi f];exact not_lt_nil
 ·rw[gw hx b];intro h;rcases fV b hc h with a | a
  ·exact d a
  ·exact e a
end
end Kv
end
section
namespace Kv
open Go.RowKit Go.Lib Pg
attribute [local go_sem] Oper.semAt_some
end Kv
end
section
namespace Kv
open Go.RowKit Go.Lib Pg
attribute [local go_sem] Oper.semAt_some
section
variable {w:World}{pg:Option Addr}{lb:Array Value}{K D:Nat->Prop}{W:List aD}{p:List Int}
theorem mw{k:Nat}:Calls Tryz.prog 118 #[.pointer pg,.func (.func k) #[] lb] w fun e w'=>e=.returned (.func (.func 169) #[] #[.pointer (some ⟨w.heap.size,0,none⟩),.pointer (some ⟨w.heap.size + 1,0,none⟩)])/\Blk w' w.heap.size [.pointer pg] 37/\Blk w' (w.heap.size + 1) [.func (.func k) #[] lb] 85/\Below w.heap.size w w':=by
 have b1:=ae w (.cells #[.pointer pg] 37);have c1:=aC w [.pointer pg] 37;have b2:=ae (w.alloc (.cells #[.pointer pg] 37)) (.cells #[.func (.func k) #[] lb] 85);have c2:=aC (w.alloc (.cells #[.pointer pg] 37)) [.func (.func k) #[] lb] 85
 have s1:(w.alloc (.cells #[.pointer pg] 37)).heap.size=w.heap.size+1:=by simp
 rw[s1] at c2;go_enter Tryz.func118,Tryz.ntmps118;go_wp2;go_ret;exact⟨rfl,c1.keep b2,c2,ax b1 b2⟩
theorem SA.oct{g n N:Nat}{E:aD}(h:SA w K D g E W n N):∀ x∈E,Oct x.1:=by
 obtain⟨F,V,m,Q,f,T,d,hX,rfl,i⟩:=h.open;obtain⟨L,rfl,A,O,S,k,r⟩:=hX.map.ex;intro x hx;rw[du] at hx;obtain⟨e,he,rfl⟩:=List.mem_map.1 hx;obtain⟨es,a,c⟩:=List.mem_flatten.1 he;obtain⟨p,b,rfl⟩:=List.mem_map.1 a;exact((A.cy p b).1.dM e c).k.oct
theorem tu{k:List Int}(h:p <+: k):¬ Lt k p:=by
 obtain⟨t,rfl⟩:=h;intro h;have:Lt (p ++ t) (p ++ []):=by simpa using h
 rw[fx] at this;exact not_lt_nil this
theorem Af{x:KV}(hx:Oct x.1):lX p (nxt p) x=decide (p <+: x.1):=by
 unfold lX;by_cases h:p <+: x.1
 ·have a:=tu h;by_cases hn:nxt p=[]
  ·simp[h,a,hn]
  ·simp [h,a];exact .inr (je hn h)
 ·by_cases a:Lt x.1 p
  ·simp[h,a]
  ·have hn:nxt p≠[]:=fun e=>by
    rcases kA (o4 e) hx with b | b
    ·exact a b
    ·exact h b
   simp[h,a,hn,iW hx h a]
end
end Kv
end
section
namespace Kv
open Go.RowKit Go.Lib Pg
section
variable {w:World}{K D:Nat->Prop}{v:Value}{l:List Int}{W:List aD}
structure ByU(w:World)(v:Value)(l:List Int):Prop where
 byt:By w v l
 u8:∀ b o n c,v=.slice (some ⟨b,o,none⟩) n c->∃ cs m,w.heap[b]?=some (.cells cs 5 m)
theorem ByU.chg{w':World}(h:ByU w v l)(hc:Chg K w w')(r:∀ b,K b->∃ cs t,Blk w b cs t/\t≠5):ByU w' v l:=by
 have hs:∀ b o n c,v=.slice (some ⟨b,o,none⟩) n c->w'.heap[b]? = w.heap[b]? := fun b o n c e=>by
  obtain⟨cs,m,hb⟩:=h.u8 b o n c e;refine hc.same b (lt_of_block hb) fun u=>?_
  obtain⟨A,t,q,g⟩:=r b u;have:=q.blk.symm.trans hb;simp at this;exact g this.2.1
 refine⟨?_,fun b o n c e=>by rw[hs b o n c e];exact h.u8 b o n c e⟩;obtain⟨j,c,f,s,y,p,z,k⟩:=h.byt.ex;refine⟨j,c,f,s,y,p,z,k.imp id ?_⟩;rintro⟨b,o,rfl,d,a⟩;exact⟨b,o,rfl,Nat.lt_of_lt_of_le d hc.size,fun i x hi=>by rw[World.cell?_of_block (w:=w) (hs b o _ _ f)];exact a i x hi⟩
theorem ByU.of(h:OB w D v l):ByU w v l:=by
 refine⟨h.by,fun b o n c e=>?_⟩;rcases h.ex with⟨rfl,_⟩ | ⟨b',c',rfl,_,hR⟩
 ·cases e
 ·cases e;obtain⟨cs,k⟩:=hR.kind;exact⟨_,_,k.blk⟩
theorem SA.kind{g n N:Nat}{E:aD}(h:SA w K D g E W n N):∀ b,K b->∃ cs t,Blk w b cs t/\t≠5:=by
 obtain⟨F,V,m,Q,jv,T,oj,_,_,_,_,_,_,_,O⟩:=h.ex;exact O.kind
end
end Kv
end
end Go.Proofs.YthfepflplbahkaaGreatDoor
