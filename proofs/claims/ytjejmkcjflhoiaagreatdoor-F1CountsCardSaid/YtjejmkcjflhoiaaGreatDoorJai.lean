import Derived.Test.YtjejmkcjflhoiaaGreatDoorJah
import Derived.Test.YtjejmkcjflhoiaaGreatDoorJag
import Derived.Shelf.Abstract
import Derived.Shelf.RegionOpen
import Derived.OwnWalkIn
import Derived.TacticsInMore
import Derived.LoopNIn
import Derived.LoopIn
set_option maxRecDepth 100000
set_option maxHeartbeats 8000000
namespace Go.Proofs.YtjejmkcjflhoiaaGreatDoor
section
namespace Kv
open Go.RowKit Go.Lib Pg
attribute [local go_sem] Oper.semAt_some
section
variable {E:aE}{k:List Int}{w:World}{K D F V:Nat->Prop}{g n N m:Nat}{W:List aE}{kv jv:Value}{Q:List (List KV)}{T T0:List Jr}{oj:Option Nat}
theorem zE(h:e9 E)(hn:(look E k).isSome=false):rem E k=E:=by
 obtain⟨X,Y,c,⟨rfl,e⟩ | ⟨x,rfl,e⟩⟩:=h.cut k
 ·exact c.zB
 ·rw[e] at hn;cases hn
theorem sget(h:SA w K D g E W n N)(d:BK w K kv k)(hn:n<=4000000000000000000)(A:N<=100000000) :
  Calls Tryz.prog 120 #[.pointer (some ⟨g,0,none⟩),kv] w fun e w'=>∃ v,e=.returned (.tuple #[v,.bool (look E k).isSome])/\OB w' (w.heap.size <= ·) v ((look E k).getD [])/\SA w' K D g E W (n+1) N/\Chg K w w':=by
 obtain⟨F,V,m,Q,G,T,y,hX,rfl,q⟩:=h.open;obtain⟨z,c,rfl⟩:=d.shape;have u:=gu hX hn;have s:=aC hX;have C:=aC q;have p:=aC d;clear hX q d h;obtain⟨kn,l⟩:∃ kn,Hid (k.length=kn):=⟨_,rfl⟩
 rw[l.out] at p ⊢;have t:=fun w' (X:SX w' K D F V g m Q G T y (n+1) N) (d:By w' (.slice z kn c) k)=>kt X d A
 obtain⟨r,o⟩:∃ r,(look Q.flatten k).isSome=r:=⟨_,rfl⟩
 obtain⟨L,hL⟩:∃ L,(look Q.flatten k).getD []=L:=⟨_,rfl⟩
 rw[o,hL] at t ⊢;clear o hL;go_enter Tryz.func120,Tryz.ntmps120;go_wp2_with first
  | (go_at_call 95;go_must (refine u.mono ?_);rintro e x ⟨rfl,j,f⟩;have c0:=j.blk.cell (i:=0) rfl)
  | (go_at_call 165;go_must (refine(t _ j (p.out _ (s.out.kg f))).mono ?_);rintro e H ⟨v,rfl,O,B⟩;obtain⟨a1,c1,rfl⟩:∃ a1 c1,v=.slice a1 L.length c1:=(by obtain⟨a1,c1,e,_⟩:=O.by.ex;exact⟨a1,c1,e⟩);generalize L.length=I at *)
 go_ret2;exact⟨_,rfl,O.mono (fun b _ h=>by have:=f.size;have J:x.heap.size<=b:=h;show w.heap.size<=b;omega),(j.keep B).shut rfl C.out,fo (s.out.kg f) (Chg.of B)⟩
theorem DU(hX:SX w K D F V g m Q jv T oj n N)(o:kY (T.reverse.map Jr.U) W Q.flatten)(j:BK w K kv k)(hn:n<=4000000000000000000)(t:N+2<=100000000)(p:(look Q.flatten k).isSome=false) :
  Calls Tryz.prog 66 #[.pointer (some ⟨g,0,none⟩),kv] w (Ends w K D g (rem Q.flatten k) W (n+1) (N+2) (.bool false)):=by
 obtain⟨A,c,rfl⟩:=j.shape;have u:=gu hX hn;have f:=aC hX;have y:=aC o;have r:=aC j
 have x:N<=99999998:=by omega
 replace t:N<=100000000:=by omega
 clear hX o j;obtain⟨kn,l⟩:∃ kn,Hid (k.length=kn):=⟨_,rfl⟩
 rw[l.out] at r ⊢;go_enter Tryz.func66,Tryz.ntmps66;go_wp2_with first
  | (go_at_call 95;go_must (refine u.mono ?_);rintro e z ⟨rfl,d,q⟩;have i:=ue d (r.out _ (f.out.kg q)) t;rw[p] at i)
  | (go_at_call 112;go_must (refine i.mono ?_);rintro e B ⟨rfl,s⟩;clear i;replace d:=d.keep s;have v:=fo (f.out.kg q) (Chg.of s))
 go_ret;have e:=zE f.out.map.ord.flat p;exact⟨rfl,K,((d.shut e.symm (by rw[e];exact y.out)).more (by omega)).mono (fun _ _ h=>.inl h),fun b h=>.inl h,v⟩
theorem zo(hX:SX w K D F V g m Q jv [] oj n N)(t:kY ([].reverse.map Jr.U) W Q.flatten)(o:BK w K kv k)(hn:n<=4000000000000000000)(z:N+2<=100000000)(q:(look Q.flatten k).isSome=true) :
  Calls Tryz.prog 66 #[.pointer (some ⟨g,0,none⟩),kv] w (Ends w K D g (rem Q.flatten k) W (n+1) (N+2) (.bool true)):=by
 obtain⟨L,c,rfl⟩:=o.shape;have u:=gu hX hn;have v:=aC hX;have G:=aC t;have j:=aC o
 have B:N<=99999998:=by omega
 replace z:N<=100000000:=by omega
 clear hX t o;obtain⟨kn,p⟩:∃ kn,Hid (k.length=kn):=⟨_,rfl⟩
 rw[p.out] at j ⊢;go_enter Tryz.func66,Tryz.ntmps66;go_wp2_with first
  | (go_at_call 95;go_must (refine u.mono ?_);rintro e H ⟨rfl,d,s⟩;have f:=ue d (j.out _ (v.out.kg s)) z;rw[q] at f)
  | (go_at_call 112;go_must (refine f.mono ?_);rintro e I ⟨rfl,x⟩;clear f;replace d:=d.keep x;have l:=fo (v.out.kg s) (Chg.of x))
  | (go_at_call 96;go_must (refine(nC d).mono ?_);rintro e y ⟨rfl,hy⟩;replace hy:=hy.symm;subst hy;have c0:=d.blk.cell (i:=0) rfl;have us:=mdel d.map (j.out _ l) (by omega);rw[jN d.map.ord,q] at us)
  | (go_at_call 113;go_must (refine us.mono ?_);rintro e M ⟨rfl,J,A,hF,hC⟩)
 go_ret;have C:=d.mapped (N':=N) (by have:=d.tot;have:=vW (E:=Q.flatten) k;rw[iV d.map.ord];omega) A hF (fun _ h=>h) hC;refine⟨rfl,_,((C.shut (E:=rem Q.flatten k) (W:=W) (iV d.map.ord k) (rT G.out)).more (by omega)).mono (fun b _ hb=>?_),fun b hb=>?_,?_⟩
 ·exact .inl hb
 ·rcases hb with⟨hb,_⟩ | hb
  ·exact .inl hb
  ·rcases hF b hb with r | r
   ·exact .inl (d.own.map b r)
   ·exact .inr (by have:=l.size;omega)
 ·exact fo l (hC.mono (fun b _ h=>d.own.map b h))
theorem y9{j:Jr}(hX:SX w K D F V g m Q jv (T0 ++ [j]) oj n N)(G:kY ((T0 ++ [j]).reverse.map Jr.U) W Q.flatten)(x:BK w K kv k)(hn:n<=4000000000000000000)(y:N+2<=100000000)(l:k.length<=1000000000)(A:(look Q.flatten k).isSome=true) :
  Calls Tryz.prog 66 #[.pointer (some ⟨g,0,none⟩),kv] w (Ends w K D g (rem Q.flatten k) W (n+1) (N+2) (.bool true)):=by
 obtain⟨Z,c,rfl⟩:=x.shape;have u:=gu hX hn;have v:=aC hX;have O:=aC G;have p:=aC x;replace l:=aC l
 have J:N<=99999998:=by omega
 replace y:N<=100000000:=by omega
 clear hX G x;obtain⟨kn,z⟩:∃ kn,Hid (k.length=kn):=⟨_,rfl⟩
 rw[z.out] at p ⊢;go_enter Tryz.func66,Tryz.ntmps66;go_wp2_with first
  | (go_at_call 95;go_must (refine u.mono ?_);rintro e R ⟨rfl,q,C⟩;have r:=ue q (p.out _ (v.out.kg C)) y;rw[A] at r)
  | (go_at_call 112;go_must (refine r.mono ?_);rintro e T ⟨rfl,H⟩;clear r;replace q:=q.keep H;have o:=fo (v.out.kg C) (Chg.of H))
  | (go_at_call 96;go_must (refine(pF q (p.out _ o) (by have:=l.out;omega) y).mono ?_);rintro e X ⟨rfl,K2,P,S,s,d,f,M⟩;have t:=fo o M;have c0:=d.blk.cell (i:=0) rfl;have us:=mdel d.map (p.out _ t) (by omega);rw[jN d.map.ord,A] at us)
  | (go_at_call 113;go_must (refine us.mono ?_);rintro e w4 ⟨rfl,Y,I,hF,hC⟩)
 go_ret;have L:=d.mapped (N':=N+1) (by have:=d.tot;have:=vW (E:=Q.flatten) k;rw[iV d.map.ord];omega) I hF (fun _ h=>h) hC;refine⟨rfl,_,((L.shut (E:=rem Q.flatten k) (W:=W) (iV d.map.ord k) (o5 O.out s (zU v.out.map.ord.flat k))).more (by omega)).mono (fun b _ hb=>?_),fun b hb=>?_,?_⟩
 ·rcases hb with hb | hb
  ·exact .inl hb
  ·exact .inr (by have:=o.size;omega)
 ·rcases hb with⟨hb,_⟩ | hb
  ·exact(f b hb).imp id (fun h=>by have:=o.size;omega)
  ·rcases hF b hb with B | B
   ·exact(f b (d.own.map b B)).imp id (fun h=>by have:=o.size;omega)
   ·exact .inr (by have:=t.size;omega)
 ·exact t.trans hC (fun b hb h=>(f b (d.own.map b h)).elim id (fun h=>by have:=o.size;omega))
theorem sdel(h:SA w K D g E W n N)(c:BK w K kv k)(b:k.length<=1000000000)(hn:n<=4000000000000000000)(d:N+2<=100000000) :
  Calls Tryz.prog 66 #[.pointer (some ⟨g,0,none⟩),kv] w (Ends w K D g (rem E k) W (n+1) (N+2) (.bool (look E k).isSome)):=by
 obtain⟨F,V,m,Q,i,T,e,hX,rfl,a⟩:=h.open
 cases hr:(look Q.flatten k).isSome with
 | false=>exact DU hX a c hn d hr
 | true =>
  rcases List.eq_nil_or_concat T with rfl | ⟨f,j,rfl⟩
  ·exact zo hX a c hn d hr
  ·rw[List.concat_eq_append] at hX a;exact y9 hX a c hn d b hr
end
end Kv
end
section
namespace Kv
open Go.RowKit Go.Lib Pg
attribute [local go_sem] Oper.semAt_some
end Kv
end
section
namespace Kv
open Go.RowKit Go.Lib Pg
attribute [local go_sem] Oper.semAt_some
theorem lg {fn:Func} {p:Tmp} {ty:TypeId} (h:fn.results=#[.cell p ty]) {tmps:Array Value} {w:World} {g:Nat} {v:Value} (c:tmps.getD p undef=.pointer (some ⟨g,0,none⟩)) (b:(loadVar ty ⟨g,0,none⟩).run Tryz.prog w=.ok v w):(results fn tmps).run Tryz.prog w=.ok v w:=by
 have a:tmps[p]?.getD undef=.pointer (some ⟨g,0,none⟩):=by simpa using c
 simp[results,h,a,asAddr,b]
end Kv
end
section
namespace Kv
open Go.RowKit Go.Lib Pg
attribute [local go_sem] Oper.semAt_some
end Kv
end
section
namespace Kv
open Go.RowKit Go.Lib Pg
attribute [local go_sem] Oper.semAt_some
theorem Rw.rcd {w w':World} {B:Nat} {E:TypeId} {k b n c:Nat} {xs:List Value} (h:Rw w E k b n c xs) (d:Rec B w w'):Rw w' E k b n c xs:=by
 obtain⟨cs,a⟩:=h.kind;exact h.same (by rw[(d.blk a).blk,a.blk])
theorem jS {w w1 w':World} {B:Nat} {K:Nat->Prop} (h:Chg K w w1) (a:Rec B w1 w') (f:w.heap.size<=B):Chg K w w' :=
 ⟨a.os.trans h.os,a.tape.trans h.tape,a.output.trans h.output,Nat.le_trans h.size a.size,fun b hb d=>by
  have e:=h.same b hb d;rw[<- e]
  have c:b < w1.heap.size:=Nat.lt_of_lt_of_le hb h.size;rw[Array.getElem?_eq_getElem c]
  exact a.same b _ (Array.getElem?_eq_getElem c) (.inl (by omega))⟩
end Kv
end
section
namespace Kv
open Go.RowKit Go.Lib Pg
attribute [local go_sem] Oper.semAt_some
end Kv
end
section
namespace Kv
open Go.RowKit Go.Lib Pg
attribute [local go_sem] Oper.semAt_some
section
variable {n g N:Nat}{ops:Array Oper}{rest:List Oper}{pos:String}{w:World}{K D:Nat→Prop}{Q:List (List KV)}{jv:Value}{T:List Jr}{oj:Option Nat}{X:Nat->Prop}{W:List aE}
theorem jO{F:Fence}{n:Nat}{ops:Array Oper}{Q:Exit->Act->World->Prop}{rest:List Oper}{o:Oper}{a:Act}{w w':World}{v:Value}(c:o.guard=none)(hF:∀ f,F.fn f)(hs:o.semAt F.round a.eval=execOp a.eval o)(hrun:(execOp a.eval o).run Tryz.prog w=.ok (.value v) w')(h:wpListIn F n Tryz.prog ops Q rest (a.put o.dst v) w'):wpListIn F n Tryz.prog ops Q (o :: rest) a w :=
 wpListIn_plain c fun K b=>by
  unfold Oper.wpIn;rw[hs,hrun,Oper.uponIn_value];exact⟨fun f _=>hF f,b _ _ h⟩
theorem DG{F:Fence}{x y d:Nat}{Q:Exit->Act->World->Prop}{after:Array Edge}{a:Act}{w':World}{u v r:Value}(hF:∀ f,F.fn f)(hu:a.eval (.tmp x)=u)(hv:a.eval (.tmp y)=v)(b:(Builtin.append_ #[46,46] 46 #[u,v]).run Tryz.prog w=.ok r w')(h:wpListIn F n Tryz.prog ops Q rest (a.put (some d) r) w') :
  wpListIn F n Tryz.prog ops Q ({ dst:=some d,op:=.call { callee:=.builtin .append,args:=#[.tmp x,.tmp y],argTypes:=#[46,46] },type:=46,pos:=pos,after:=after,guard:=none } :: rest) a w :=
 jO rfl hF (Oper.semAt_eq _ _ _ (fun c h=>by cases h)) (vm (x:=x) (y:=y) rfl rfl hu hv b) h
theorem SX.wm{K D F V:Nat->Prop}{m:Nat}(h:SX w K D F V g m Q jv T oj n N)(a:N<=100000000)(e:∀ b,X b->¬ F b)(c:∀ b,X b->∀ cs,¬ Blk w b cs 5)(d:∀ b,X b->b < w.heap.size) :
  ∃ L,Wm w X F D m L/\∀ f t,(wlk (ens L) f t).map En.kl2=Q.flatten.filter (mQ f t):=by
 obtain⟨L,rfl,A,O,S,k,r⟩:=h.map.ex;exact⟨L,⟨A,O,fun es he=>(S.one es he).2,S.few k a,r,e,c,d⟩,fun f t=>yO O f t⟩
theorem Av(x:KV):mQ [] [] x=true:=by
 simp[mQ,Lt]
 cases x.1<;>simp[dm]
def TpD(t:TypeId):Prop:=t=89
theorem sdump{E:aE}(h:SA w K D g E W n N)(hN:N≤100000000) :
    Calls Tryz.prog 12 #[.pointer (some ⟨g,0,none⟩)] w fun e w'=>∃ v es,e=.returned v∧PrA w' w.heap.size v es∧es.map En.kl2=E∧Below w.heap.size w w':=by
  have hsm:=h.small;have hsz:=h.size;obtain⟨F,V,m,Q,jv,T,oj,hX,rfl,hB⟩:= h.open;have b1:=ae w (.cells #[.slice none 0 0] 46);have c1:=aD w [.slice none 0 0] 46;have X1:=hX.keep b1
  obtain⟨L, K2, hwl⟩:= X1.wm hN (X := (· = w.heap.size)) (fun b e hF => by have e' : b = w.heap.size := e; have := hX.map.lt hF; omega) (fun b e cs k => by
    have e':b=w.heap.size:=e;subst e'
    exact absurd (c1.eq k).2 (by decide)) (fun b e=>by have e':b=w.heap.size:=e;simp;omega)
  have q:(wlk (ens L) [] []).map En.kl2=Q.flatten:=by rw[hwl,List.filter_eq_self.2 (fun x _=>Av x)]
  have tW:=oe (Tp:=TpD) K2 (By.nil _) (By.nil _) (by decide) (by decide) (by unfold TpD;decide) (by unfold TpD;decide);have g0:=X1.blk.cell (i:=0) rfl;obtain⟨M,hE⟩:∃ E,Hid (wlk (ens L) [] []=E):=⟨_,rfl⟩;rw[hE.out] at tW q;have hEQ:=aC q
  have hlen:M.length≤N:=by have:=congrArg List.length q;simp only[List.length_map] at this;omega
  have sz1:(w.alloc (.cells #[.slice none 0 0] 46)).heap.size=w.heap.size+1:=by simp
  have ah:=aC b1;have HC1:=aC c1;clear h hX X1 K2 hwl q hB;obtain⟨Wa,J⟩:∃ Wa,Hid (w.alloc (.cells #[.slice none 0 0] 46)=Wa):=⟨_,rfl⟩;rw[J.out] at tW g0 sz1 ah HC1;have c1:=HC1.out;refine(callsIn_wide (n:=0)).1 ?_
  refine callsIn_of_wp_marks Tryz.func12 rfl trivial ?_ rfl;simp only[Tryz.ntmps12,List.size_toArray,List.length_cons,List.length_nil,Nat.reduceAdd,Nat.reduceSub,Array.replicate_succ,Array.replicate_zero,List.push_toArray,List.append_toArray,List.nil_append,List.cons_append];rw[← J.out] at g0;gi_wp2_with (refine⟨trivial,rfl,?_⟩;gi_at_call 33;rw[J.out];refine(callsIn_wide.2 tW).mono ?_;rintro e' w1 ⟨bw,rfl,G,IT⟩);have cb:=c1.keep G;clear tW;have q1:=G.size;refine iF IT (by rfl) (enters_of Tryz.func114 (by kernel_rfl) rfl) (fun i args n V V' h hc=>h.cel hc) (fun i args n V h=>by obtain⟨e,kv,vv,s,_,rfl,_⟩:= h;rfl)
    (fun i V=>DO w1 V w.heap.size M i) (fun _ _ _=>False)
    (fun i A B hx hr=>hx.rcd hr) (fun _ _ _ _ hx _=>hx)
    (fun i V hv=>hv.chg) ⟨Chg.refl _ _,_,[],cb,⟨.inl ⟨rfl,rfl⟩,fun e he=>by cases he⟩,rfl⟩ ?_ ?_ ?_
  · rintro l2 i args V Wv hl hlV hrec hiN hG hb ⟨e0,kv,vv,s0,aa,rfl,Z,aj,_⟩
    obtain⟨S,nk,hk1⟩:= Z.shape;obtain⟨U,nv,hv1⟩:= aj.shape;subst hk1 hv1;simp;gi_wp2;refine⟨Below.refl _ _,?_⟩;intro V2 W2 t l ab hoth C ag r hrec2;obtain⟨e1,kv1,vv1,t1,ac,z,hk2,ai,ht1⟩:= ab;obtain rfl:e1=e0:=by rw[aa] at ac;cases ac;rfl
    simp at z;obtain⟨rfl,rfl⟩:= z;obtain⟨ov,es,g1,g2,g3⟩:= t.out
    have p:es.length=i:=by have:=congrArg List.length g3;simp at this;omega
    obtain⟨ao0,cc0,rfl⟩:= g2.shape;have S0:=g1.keep l;have P0:=g2.keep l;have z1:=t.chg.size;have z2:=l.size;have f:=ae W2 (.cells #[.slice S e1.kl.length nk,.slice U e1.vl.length nv] 89);have N4:=aD W2 [.slice S e1.kl.length nk,.slice U e1.vl.length nv] 89;have z5:=f.size
    have Y:EnA (W2.alloc (.cells #[.slice S e1.kl.length nk,.slice U e1.vl.length nv] 89)) (fun b=>w1.heap.size≤b) ⟨.slice S e1.kl.length nk,e1.kl,.slice U e1.vl.length nv,e1.vl⟩:= ⟨(hk2.keep f).mono (fun b _ hb=>by omega),(ai.keep f).mono (fun b _ hb=>by omega)⟩;obtain⟨ov5,w5,O,P5,P⟩:= zM (e:=⟨.slice S e1.kl.length nk,e1.kl,.slice U e1.vl.length nv,e1.vl⟩) (a:=⟨W2.heap.size,0,none⟩) 46 (P0.keep f) (by omega) Y (by omega) (N4.cell (i:=0) rfl) (N4.cell (i:=1) rfl);have S4:=S0.keep f;have S5:=P.blk S4 (by decide);have s0c:=S0.cell (i:=0) rfl;obtain⟨d,y⟩:∃ d,Hid (es ++ [(⟨.slice S e1.kl.length nk,e1.kl,.slice U e1.vl.length nv,e1.vl⟩:En)]=d):=⟨_,rfl⟩
    have hes4:Hid (d.map En.kl2=(M.take (i+1)).map En.kl2):=by
      show _=_
      rw[← y.out,List.map_append,g3,List.take_add_one,aa,List.map_append];rfl
    simp only[y.out] at P5;obtain⟨I,R,rfl⟩:= P5.shape;have s5c:=S5.cell (i:=0) rfl;have s5f:=S5.free 0;have H:=aC P5;have ad:=aC S5;have af:=aC P;have HBa:=aC f;have HG2:=aC t;have HB2:=aC l;have hsl:=S4.cell (i:=0) rfl;replace p:=aC p;replace C:=aC C;replace ag:=aC ag;clear hG Z aj hb hoth P5 S5 P f N4 Y P0 S0 g1 g2 g3 hk2 ai l t S4;gi_wp2_with (have gate:=O;clear gate;refine DG (fun _=>trivial) rfl rfl O ?_;clear O)
    have j:Chg (·=w.heap.size) w5 (w5.setCell ⟨w.heap.size,0,none⟩ (.slice I d.length R)):=(Chg.refl (fun x=>x=w.heap.size) w5).cell (.inl (by rfl)) _
    have u : ∀ b, b = w.heap.size → ∀ cs, ¬ Blk w5 b cs 5 := fun b hb cs k => by
      subst hb;have:=(k.eq ad.out).2;revert this;decide
    have P6:PrA (w5.setCell ⟨w.heap.size,0,none⟩ (.slice I d.length R)) w1.heap.size (.slice I d.length R) d:=⟨H.out.ex.imp id (fun⟨b,c,e,hl,hR⟩=>⟨b,c,e,hl,hR.chg j (by omega)⟩),fun e he=>⟨(H.out.dP e he).k.chg j u,(H.out.dP e he).v.chg j u⟩⟩;refine⟨((bG.of (Tp:=TpD) (B:=w1.heap.size) HBa.out).trans (af.out.keeps (Tp:=TpD) rfl)).trans ⟨j.size,fun k o hk h0 _=>(j.same k (lt_of_block h0) (by omega)).trans h0⟩,⟨?_,_,d,ad.out.setCell (i:=0) _,P6,hes4.out⟩⟩;exact(((HG2.out.chg.trans (Chg.of (F:=fun _=>False) (aA HB2.out HBa.out)) (fun _ _ h=>h.elim)).trans af.out.chg (fun b h1 h2=>by omega))).trans j (fun b _ h=>h)
  · rintro D' W' hD hK hG
    obtain⟨ov,es,g1,g2,g3⟩:= hG.out;obtain⟨ao,cc,rfl⟩:= g2.shape;have g1c:=g1.cell (i:=0) rfl;gi_wp2;refine⟨by simp,.inl ⟨_,_,rfl,run_takeDeferred hK,?_⟩⟩;refine⟨_,results_tmp rfl _ _ _,_,es,rfl,(g2.cel (Rec.put hK rfl hD _).cel).low (by omega),?_,?_⟩
    · rw[g3,List.take_length];exact hEQ.out
    · exact vw ah.out G ((hG.rcd (Rec.put hK rfl hD _)).chg) (Nat.le_refl _)
  · rintro D' c i W' hD hK hi hF
    exact hF.elim
end
end Kv
end
section
namespace Kv
open Go.RowKit Go.Lib Pg
attribute [local go_sem] Oper.semAt_some
section
variable {g x:Nat}{V:World}{E:List En}{args:Array Value}
def tick(g:Nat)(V:World)(x:Nat):World:=V.setCell ⟨g,2,none⟩ (.int .i64 ((x:Int)+1))
theorem uF{V':World}(hb:Below V.heap.size V V'):Below (tick g V x).heap.size (tick g V x) (tick g V' x):=by
 unfold tick;refine⟨hb.os,hb.tape,hb.output,by simpa[World.setCell] using hb.size,fun k b=>?_⟩
 have a:k < V.heap.size:=by simpa[World.setCell] using b
 by_cases e:k=g
 ·subst e;have c:=hb.block k a;simp only[World.setCell,Array.getElem?_modify,c]
 ·rw[Below.heap_setCell _ _ _ _ (by exact e),Below.heap_setCell _ _ _ _ (by exact e)];exact hb.block k a
theorem fB(g x:Nat)(V:World):(tick g V x).heap.size=V.heap.size:=by simp[tick,World.setCell]
theorem ef(g x:Nat)(V:World):Chg (·=g) V (tick g V x):=(Chg.refl (·=g) V).cell (.inl rfl) _
theorem Az{i n:Nat}(h:ArC E i args n V)(m:∃ cs,Blk V g cs 85):ArC E i args n (tick g V x):=by
 obtain⟨e,kv,vv,s,l,d,f,p,o⟩:=h
 have a:∀ b,b=g->∀ cs,¬ Blk V b cs 5:=fun b hb cs k=>by
  subst hb;obtain⟨j,c⟩:=m;exact absurd (k.eq c).2 (by decide)
 exact⟨e,kv,vv,s,l,d,f.chg (ef g x V) a,p.chg (ef g x V) a,o⟩
def RdC(X:Nat->Prop)(W1:World)(g bs1 bs2 bw:Nat)(V:World):Prop:=Chg X W1 V/\Blk V bs1 [.pointer (some ⟨g,0,none⟩)] 37/\Blk V bs2 [.func (.func 114) #[] #[.pointer (some ⟨bw,0,none⟩)]] 76/\∃ cs,Blk V g cs 85
end
end Kv
end
section
namespace Kv
open Go.RowKit Go.Lib Pg
attribute [local go_sem] Oper.semAt_some
section
variable {I It:Nat->World->Prop}{Ix:Code->Nat->World->Prop}{W W' V:World}
def qN(I It:Nat->World->Prop)(k:Nat):World->Prop:=if k % 2=0 then I (k / 2) else It (k / 2)
theorem jF(I It:Nat->World->Prop)(i:Nat):qN I It (2 * i+1)=It i:=by
 unfold qN;rw[if_neg (by omega),show (2 * i+1) / 2=i by omega]
theorem kG(I It:Nat->World->Prop)(i:Nat):qN I It (2 * i+1+1)=I (i+1):=by
 unfold qN;rw[if_pos (by omega),show (2 * i+1+1) / 2=i+1 by omega]
theorem pD{Tp:TypeId->Prop}{B:Nat}{i:Nat}{e:Exit}{a:Act}(h:o8 Tp B I Ix (i+1) W e a W'):o8 Tp B (qN I It) (fun c k=>Ix c (k / 2)) (2 * i+1+1) W e a W':=by
 have e2:(2 * i+1+1) / 2=i+1:=by omega
 cases e<;>simp only[o8] at h ⊢
 ·exact⟨h.1,by rw[kG];exact h.2⟩
 ·exact⟨h.1,by rw[e2];exact h.2⟩
 ·exact⟨h.1,by rw[e2];exact h.2⟩
 ·exact⟨h.1,by rw[e2];exact h.2⟩
def Af(Tp:TypeId->Prop)(w:World)(N n:Nat)(ps:Array Tmp)(assign body:Code)(tmps:Array Value)(Ar:Nat->Array Value->Nat->World->Prop)(It I:Nat->World->Prop)(Ix:Code->Nat->World->Prop):Prop :=
 ∀ (l i:Nat) (args:Array Value) (V W:World),w.heap.size<=l->l < V.heap.size->(∃ r,V.heap[l]?=some (.loop r))->i < N->It i V->Below V.heap.size V W->Ar i args V.heap.size W ->
  assign.wpIn (Fence.wide.inRound l) n Tryz.prog (Exit.then (fun a1 W1=>Below W.heap.size W W1/\∀ V2 W2,It i V2->Below V2.heap.size V2 W2->Ar i args V2.heap.size W2->(∀ b,b≠l->W2.heap[b]?=W1.heap[b]?)->W2.heap.size=W1.heap.size->V2.heap.size=V.heap.size->(∃ r,W2.heap[l]?=some (.loop r))->body.wpIn (Fence.wide.inRound l) n Tryz.prog (o8 Tp w.heap.size I Ix (i+1) W2) a1 W2) (fun _ _ _=>False)) { tmps:=(ps.zip args).foldl (fun t (p,v)=>t.setIfInBounds p v) tmps,defers:=[] } W
theorem fJ{g x k:Nat}(h:k≠g):(tick g V x).heap[k]?=V.heap[k]?:=Below.heap_setCell _ _ _ _ h
end
end Kv
end
section
namespace Kv
open Go.RowKit Go.Lib Pg
attribute [local go_sem] Oper.semAt_some
section
variable {w:World}{ao:Option Addr}{l b a:List Int}
theorem pQ{w:World}{B p:Nat}{v:Value}{l:List Int}{x:Int}(h:OB w (B <= ·) v l)(d:B<=w.heap.size)(s:l.length<=1000000000)(hx:0<=x/\x < 256)(r:w.cell? ⟨p,0,none⟩=some (.int .u8 x)) :
  ∃ v' w',(Builtin.append_ #[87,87] 87 #[v,.slice (some ⟨p,0,none⟩) 1 1]).run Tryz.prog w=.ok v' w'/\OB w' (B <= ·) v' (l ++ [x])/\Below B w w':=by
 have o:Oct (l ++ [x]):=fun y hy=>by
  rcases List.mem_append.1 hy with hy | hy
  ·exact h.oct y hy
  ·simp at hy;subst hy;exact hx
 have a:∀ j u,[Value.int .u8 x][j]? = some u->w.cell? ((⟨p,0,none⟩:Addr).add j)=some u:=fun j u n=>by
  match j with
  | 0=>simp at n;subst n;exact r
  | j+1=>simp at n
 rcases h.ex with⟨rfl,rfl⟩ | ⟨b,c,rfl,hl2,k⟩
 ·obtain⟨m,w',g,k,hw⟩:=gX (w:=w) KB 87 ⟨p,0,none⟩ 1 1 [.int .u8 x] rfl a (by decide) (by decide) (by decide);exact⟨_,w',g,⟨o,.inr ⟨_,m,rfl,d,k⟩⟩,hw.mono d⟩
 ·obtain⟨q,m,w',g,i,f,hw⟩:=et (w:=w) KB 87 k ⟨p,0,none⟩ 1 1 [.int .u8 x] rfl a (by simp[Value.oneCell']) (by omega) (by omega);refine⟨_,w',g,⟨o,.inr ⟨q,m,by simp,?_,by rw[List.map_append,List.length_append]; exact f⟩⟩,hw.below (fun x e=>by have t:x=b:=e; omega) d⟩;rcases i with rfl | rfl
  ·exact hl2
  ·exact d
theorem eF{w:World}{B:Nat}{v:Value}{l:List Int}{x:Int}(h:OB w (B <= ·) v l)(d:B<=w.heap.size)(s:l.length<=1000000000)(hx:0<=x/\x < 256) :
  ∃ v' w',(Builtin.append_ #[87,87] 87 #[v,.slice (some ⟨w.heap.size,0,none⟩) 1 1]).run Tryz.prog (w.alloc (.cells #[.int .u8 x] 5))=.ok v' w'/\OB w' (B <= ·) v' (l ++ [x])/\Below B w w':=by
 have hb:=ae w (.cells #[.int .u8 x] 5);have q:=aD w [.int .u8 x] 5
 have o:Oct (l ++ [x]):=fun y hy=>by
  rcases List.mem_append.1 hy with hy | hy
  ·exact h.oct y hy
  ·simp at hy;subst hy;exact hx
 have a:∀ j u,[Value.int .u8 x][j]? = some u->(w.alloc (.cells #[.int .u8 x] 5)).cell? ((⟨w.heap.size,0,none⟩:Addr).add j)=some u:=fun j u p=>by
  match j with
  | 0=>exact q.cell (i:=0) p
  | j+1=>simp at p
 rcases h.ex with⟨rfl,rfl⟩ | ⟨b,c,rfl,hl2,m⟩
 ·obtain⟨n,w',g,m,hw⟩:=gX (w:=w.alloc (.cells #[.int .u8 x] 5)) KB 87 ⟨w.heap.size,0,none⟩ 1 1 [.int .u8 x] rfl a (by decide) (by decide) (by decide);exact⟨_,w',g,⟨o,.inr ⟨_,n,rfl,Nat.le_trans d hb.size,m⟩⟩,(hb.mono d).trans (hw.mono (Nat.le_trans d hb.size))⟩
 ·obtain⟨r,n,w',g,k,f,hw⟩:=et (w:=w.alloc (.cells #[.int .u8 x] 5)) KB 87 (m.keep hb) ⟨w.heap.size,0,none⟩ 1 1 [.int .u8 x] rfl a (by simp[Value.oneCell']) (by omega) (by omega);refine⟨_,w',g,⟨o,.inr ⟨r,n,by simp,?_,by rw[List.map_append,List.length_append]; exact f⟩⟩,(hb.mono d).trans (hw.below (fun x e=>by have t:x=b:=e; omega) (Nat.le_trans d hb.size))⟩;rcases k with rfl | rfl
  ·exact hl2
  ·exact Nat.le_trans d hb.size
def OB.sh:=@Pg.OB.shape
theorem By.lens{w:World}{ao:Option Addr}{n c:Nat}{l:List Int}(h:By w (.slice ao n c) l):l.length=n/\n<=c/\c<=9223372036854775807:=by
 obtain⟨ao',c',e,h2,h3,_⟩:=h.ex
 cases e;exact⟨rfl,h2,h3⟩
def jW:=@Pg.vm
theorem nU(w:World)(D:Nat->Prop):OB w D (.slice none 0 0) []:=⟨fun _ h=>by simp at h,.inl ⟨rfl,rfl⟩⟩
def ArBB(Q:List Int)(i:Nat)(args:Array Value)(_:Nat)(_:World):Prop:=∃ p j,j+1+i=Q.length/\Q[j]?=some p/\args=#[.int .i64 (j:Int),.int .u8 p]
theorem iT{Tp:TypeId->Prop}{bs n c:Nat}{ao:Option Addr}{Q:List Int}{Rd:World->Prop}(hn:Q.length=n)(B:n<=1000000000)(hb:∀ V,Rd V->V.cell? ⟨bs,0,none⟩=some (.slice ao n c)/\∀ j p,Q[j]?=some p->∃ b o,ao=some ⟨b,o,none⟩/\V.cell? ⟨b,o+j,none⟩=some (.int .u8 p)) :
  Itr Tp 171 #[.pointer (some ⟨bs,0,none⟩)] n (ArBB Q) Rd:=by
 intro l J M W O F s D z;have A:=(hb W (s 0 W z)).1
 have hb:Hid _:=hb
 have hn:Hid _:=hn
 have L:IntKind.i64.wrap ((n:Int) - 1)=(n:Int) - 1:=by rw[IntKind.wrap_i64];omega
 refine(callsIn_wide (n:=0)).1 ?_
 refine callsIn_of_wp Tryz.func171 rfl trivial ?_ rfl;simp only[Tryz.ntmps171,List.size_toArray,List.length_cons,List.length_nil,Nat.reduceAdd,Nat.reduceSub,Array.replicate_succ,Array.replicate_zero,List.push_toArray,List.append_toArray,List.nil_append,List.cons_append];gi_wp2;gi_loopw [3] (fun x wr=>∃ i:Nat,i<=n/\x=.int .i64 ((n:Int) - 1 - (i:Int))/\W.heap.size<=wr.heap.size/\J i wr) (fun x _=>(intOf x+1).toNat)
 case atStart=>exact⟨0,Nat.zero_le _,by simp,Nat.le_refl _,z⟩
 case round =>
  clear A;obtain⟨i,hi,rfl,d,f⟩:=hrel;obtain⟨A,g⟩:=hb.out wr (s _ _ f);by_cases u:i < n
  ·obtain⟨j,y⟩:∃ j,j+1+i=n:=⟨n - 1 - i,by omega⟩
   obtain⟨p,C⟩:∃ p,Q[j]?=some p:=⟨Q[j]'(by have:=hn.out;omega),List.getElem?_eq_getElem _⟩
   obtain⟨b,o,rfl,K⟩:=g j p C
   have t:(n:Int) - 1 - (i:Int)=(j:Int):=by omega
   have E:Hid (j+1+i=n):=y;have v:=D i _ wr wr u f d (Below.refl _ _) ⟨p,j,by rw[hn.out];exact y,C,rfl⟩;obtain⟨fn,tmps,assign,body,hy,G⟩:=v;rw[t]
   have I:IntKind.i64.wrap ((j:Int) - 1)=(j:Int) - 1:=by rw[IntKind.wrap_i64];omega
   have z1:(j:Int) < n:=by omega
   clear g t y;gi_wp2;refine⟨rfl,G.mono ?_⟩;rintro P N ⟨q,⟨rfl,m⟩ | ⟨rfl,m⟩⟩
   ·gi_wp2;go_roundw
    case rel=>exact⟨i+1,by omega,by have:=E.out;congr 1;omega,Nat.le_trans d q.size,m⟩
    case measure=>simp[intOf]
   ·gi_wp2;refine bodyPost_ret (results_none rfl _ _ _) rfl ?_
    exact⟨⟨_,rfl⟩,Nat.le_trans d q.size,.inr ⟨i,u,m⟩⟩
  ·have r:i=n:=by omega
   have t:(n:Int) - 1 - (i:Int)=-1:=by omega
   rw[t]
   have H:Hid (J n wr):=by show J n wr;rw[<- r];exact f
   clear g t r f;gi_wp2;go_end0;exact⟨⟨_,rfl⟩,d,.inl H.out⟩
theorem kB{w:World}{ao:Option Addr}{n c:Nat}:Calls Tryz.prog 122 #[.slice ao n c] w fun e w'=>e=.returned (.func (.func 171) #[] #[.pointer (some ⟨w.heap.size,0,none⟩)])/\Blk w' w.heap.size [.slice ao n c] 87/\Below w.heap.size w w':=by
 go_enter Tryz.func122,Tryz.ntmps122;go_wp2;go_ret;exact⟨rfl,aD w _ _,ae w _⟩
def nxt(l:List Int):List Int:=match l.reverse.dropWhile (· == 255) with
 | []=>[]
 | x :: t=>t.reverse ++ [x+1]
theorem qt:∀ {l:List Int},(∀ x∈l,x=255)->l.dropWhile (· == 255)=[]
 | [],_=>rfl
 | x :: l,h=>by
  have hx:=h x List.mem_cons_self;subst hx;rw[List.dropWhile_cons_of_pos (by decide)];exact qt (fun y hy=>h y (List.mem_cons_of_mem _ hy))
theorem qI(A B:List Int){x:Int}(hx:x≠255)(h:∀ b∈B,b=255):(A ++ x :: B).reverse.dropWhile (· == 255)=x :: A.reverse:=by
 rw[List.reverse_append,List.reverse_cons,List.append_assoc,List.dropWhile_append_of_pos (fun a c=>by simp[h a (List.mem_reverse.1 c)]),List.singleton_append,List.dropWhile_cons_of_neg (by simp[hx])]
theorem gl{l:List Int}(h:∀ x∈l,x=255):nxt l=[]:=by
 have:l.reverse.dropWhile (· == 255)=[]:=by
  exact qt (fun x hx=>h x (List.mem_reverse.1 hx))
 unfold nxt;rw[this]
theorem qh{l:List Int}{j:Nat}{x:Int}(d:l[j]?=some x)(hx:x≠255)(h:∀ i y,l[i]?=some y->j < i->y=255):nxt l=l.take j ++ [x+1]:=by
 have b:j < l.length:=(List.getElem?_eq_some_iff.1 d).1
 have e:l=l.take j ++ x :: l.drop (j+1):=by
  have c:=(List.take_append_drop j l).symm
  have k:l.drop j=x :: l.drop (j+1):=by
   rw[List.drop_eq_getElem_cons b];congr 1
   exact(List.getElem?_eq_some_iff.1 d).2
  rw[k] at c;exact c
 have g:l.reverse.dropWhile (· == 255)=x :: (l.take j).reverse:=by
  have f:=qI (l.take j) (l.drop (j + 1)) hx (fun a m=>by
   obtain⟨i,hi⟩:=List.getElem?_of_mem m;rw[List.getElem?_drop] at hi
   exact h (j+1+i) a hi (by omega))
  rw[<- e] at f;exact f
 unfold nxt;rw[g];simp
theorem dD{b d:Nat}{w A B:World}(h:Below b w A)(a:Rec d A B)(f:b<=d)(hw:b<=A.heap.size):Below b w B :=
 ⟨a.os.trans h.os,a.tape.trans h.tape,a.output.trans h.output,Nat.le_trans h.size a.size,fun k e=>by
  obtain⟨o,c⟩:∃ o,A.heap[k]?=some o:=⟨A.heap[k]'(by omega),Array.getElem?_eq_getElem _⟩
  rw[a.same k o c (.inl (by omega)),<- c]
  exact h.block k e⟩
theorem lF{B g:Nat}{A A':World}{cs:List Value}{ty:TypeId}(h:Blk A g cs ty)(hr:Rec B A A'):Blk A' g cs ty:=hr.blk h
theorem OB.rcd{B:Nat}{D:Nat->Prop}{A a:World}{v:Value}{l:List Int}(h:OB A D v l)(f:Rec B A a):OB a D v l:=by
 refine⟨h.oct,h.ex.imp id ?_⟩;rintro⟨b,c,e,hd,d⟩;obtain⟨cs,k⟩:=d.kind;exact⟨b,c,e,hd,d.same ((f.blk k).blk.trans k.blk.symm)⟩
theorem By.take{w:World}{ao:Option Addr}{n c:Nat}{l:List Int}(h:By w (.slice ao n c) l)(j:Nat)(s:j<=n):By w (.slice ao j c) (l.take j):=by
 obtain⟨r,hc,hm⟩:=By.lens h;obtain⟨f,q,e,t,g,p,k,d⟩:=h.ex
 cases e
 have hlen:(l.take j).length=j:=by rw[List.length_take];omega
 refine⟨ao,c,by rw[hlen],by rw[hlen];omega,g,p,fun x hx=>k x (List.mem_of_mem_take hx),?_⟩;rcases d with rfl | ⟨o,m,e,b,a⟩
 ·exact .inl (by simp)
 ·exact .inr ⟨o,m,e,b,fun i x hi=>a i x (by
   rw[List.getElem?_take] at hi;split at hi
   ·exact hi
   ·cases hi)⟩
def oV:=@Pg.BR
theorem me{F:Fence}{n:Nat}{ops:Array Oper}{Q:Exit->Act->World->Prop}{rest:List Oper}{pos:String}{after:Array Edge}{a:Act}{w w':World}{u v r:Value}(hF:∀ f,F.fn f)(hu:a.eval (.tmp 14)=u)(hv:a.eval (.tmp 17)=v)(b:(Builtin.append_ #[87,87] 87 #[u,v]).run Tryz.prog w=.ok r w')(h:wpListIn F n Tryz.prog ops Q rest (a.put (some 18) r) w') :
  wpListIn F n Tryz.prog ops Q ({ dst:=some 18,op:=.call { callee:=.builtin .append,args:=#[.tmp 14,.tmp 17],argTypes:=#[87,87] },type:=87,pos:=pos,after:=after,guard:=none } :: rest) a w :=
 jO rfl hF (Oper.semAt_eq _ _ _ (fun c h=>by cases h)) (jW (x:=14) (y:=17) rfl rfl hu hv b) h
theorem mM{n c:Nat}(h:By w (.slice ao n c) l)(U:n≤1000000000) :
    Calls Tryz.prog 110 #[.slice ao n c] w fun e w'=>∃ v,e=.returned v∧OB w' (w.heap.size≤·) v (nxt l)∧Below w.heap.size w w':=by
  obtain⟨hl,hnc,hcm⟩:= By.lens h;have c1:=aD w [.slice ao n c] 87;have b1:=ae w (.cells #[.slice ao n c] 87)
  have s1:(w.alloc (.cells #[.slice ao n c] 87)).heap.size=w.heap.size+1:=by simp
  have c2:=aD (w.alloc (.cells #[.slice ao n c] 87)) [.slice none 0 0] 87;have b2:=ae (w.alloc (.cells #[.slice ao n c] 87)) (.cells #[.slice none 0 0] 87)
  have s2:((w.alloc (.cells #[.slice ao n c] 87)).alloc (.cells #[.slice none 0 0] 87)).heap.size=w.heap.size+2:=by simp
  rw[s1] at c2
  have S:=c1.keep b2;have P:=aA b1 b2;obtain⟨Wa,K⟩:∃ Wa,Hid ((w.alloc (.cells #[.slice ao n c] 87)).alloc (.cells #[.slice none 0 0] 87)=Wa):=⟨_,rfl⟩;rw[K.out] at S c2 s2 P;have HB:=aC h;clear h c1 b1 b2 s1;refine(callsIn_wide (n:=0)).1 ?_
  refine callsIn_of_wp_marks Tryz.func110 rfl trivial ?_ rfl;simp only[Tryz.ntmps110,List.size_toArray,List.length_cons,List.length_nil,Nat.reduceAdd,Nat.reduceSub,Array.replicate_succ,Array.replicate_zero,List.push_toArray,List.append_toArray,List.nil_append,List.cons_append];gi_wp2_with (refine⟨trivial,rfl,?_⟩;gi_at_call 122;rw[K.out];refine(callsIn_wide.2 kB).mono ?_;rintro e' u ⟨rfl,N,s⟩);rw[s2] at N;have k1:=S.keep s;have k2:=c2.keep s;have q:=aA P s;have hs2:=s.size;have IT:=iT (Tp:=fun _=>False) (bs:=w.heap.size+2) (c:=c) (ao:=ao) (Q:=l) (n:=n) (Rd:=fun V=>Below u.heap.size u V) hl U (fun V hv=>⟨(N.keep hv).cell (i:=0) rfl,fun j p E=>By.at ((HB.out.keep q).keep hv) E⟩);refine iF IT (by rfl) (enters_of Tryz.func171 (by kernel_rfl) rfl) (fun i args n V V' h _=>h) (fun i args n V h=>by obtain⟨p,j,_,_,rfl⟩:= h;rfl)
    (fun i V=>Below u.heap.size u V∧∀ j x,l[j]?=some x→n≤j+i→x=255)
    (fun c i V=>c=.ret∧∃ v,Blk V (w.heap.size+1) [v] 87∧OB V (w.heap.size≤·) v (nxt l)∧Below w.heap.size w V)
    (fun i A B hx H=>⟨dD hx.1 H (Nat.le_refl _) hx.1.size,hx.2⟩)
    (fun c i A B hx H=>⟨hx.1,by obtain⟨v,h1,h2,J⟩:= hx.2;exact⟨v,H.blk h1,OB.rcd h2 H,dD J H q.size J.size⟩⟩)
    (fun i V hv=>hv.1) ⟨Below.refl _ _,fun j x E hn=>by have:=(List.getElem?_eq_some_iff.1 E).1;omega⟩ ?_ ?_ ?_
  · rintro l2 i args V Wv hl2 hlV hrec hiN ⟨hBV,m⟩ hb ⟨p,j,E,hp,rfl⟩
    simp;gi_wp2;refine⟨Below.refl _ _,?_⟩;intro V2 W2 z f hb2 M X hsz3 hV2 r hrec2;have d:=z.trans (hb2.mono z.size);have kb:=(k1.keep d).cell (i:=0) rfl;have G:=k2.keep d
    have hpo:0≤p∧p < 256:=HB.out.oct p (List.mem_of_getElem? hp);clear m hb hBV X M;by_cases L:p=255
    · subst L
      gi_wp2;refine⟨bG.of (Below.refl _ _),d,fun j2 x hx hn=>?_⟩;by_cases e:j2=j
      · subst e;rw[hp] at hx;cases hx;rfl
      · exact f j2 x hx (by omega)
    · have hp6 : p < 255 := by omega
      have BY:=By.take ((HB.out.keep q).keep d) j (by omega)
      have O:(l.take j).length=j:=by rw[List.length_take];omega
      have hjn:(j:Int)≤c:=by omega
      have w9:IntKind.u8.wrap (p+1)=p+1:=by rw[IntKind.wrap_u8];omega
      have R:=aC G;have HW:=aC d
      have HNX:Hid (nxt l=l.take j ++ [p+1]):=qh hp L (fun i2 y hy hi=>f i2 y hy (by omega));clear G d f
      gi_wp2_with (first
        | (have gate:=t;clear gate;refine me (fun _=>trivial) rfl rfl t ?_;clear t)
        | (refine⟨trivial,rfl,?_⟩;gi_at_call 69;refine(CallsIn.inRound l2 (callsIn_wide.2 (cQ BY (by omega)))).mono ?_;rintro e' w5 ⟨v5,rfl,O5,b5⟩;obtain⟨v6,F,t,O6,b6⟩:= eF (B:=W2.heap.size) (x:=p+1) O5 b5.size (by omega) (by omega);have C:=(R.out.keep b5).lQ b6 (R.out.lt);have kc:=C.cell (i:=0) rfl;have kfr:=C.free 0;obtain⟨a5,c5,rfl⟩:= OB.sh O5;obtain⟨a6,c6,rfl⟩:= OB.sh O6;rw[O] at t ⊢))
      have hlt:w.heap.size+1 < u.heap.size:=k2.lt;have hsW:=HW.out.size;have I:=b5.trans b6
      have O7:OB F (W2.heap.size≤·) (.slice a6 (j+1) c6) (l.take j ++ [p+1]):=by
        have T:=O6;rw[show (l.take j ++ [p+1]).length=j+1 by rw[List.length_append,O];rfl] at T;exact T
      have O8:OB (F.setCell ⟨w.heap.size+1,0,none⟩ (.slice a6 (j+1) c6)) (W2.heap.size≤·) (.slice a6 (j+1) c6) (l.take j ++ [p+1]):=O7.same (fun b _ hb=>Below.heap_setCell F _ _ b (by show b≠w.heap.size+1;omega))
      have B6:Below w.heap.size w F:=(q.trans (HW.out.mono q.size)).trans (I.mono (Nat.le_trans q.size hsW));refine⟨(bG.of I).trans ⟨?_,fun k o hk h0 _=>(Below.heap_setCell F _ _ k (by show k≠w.heap.size+1;omega)).trans h0⟩,rfl,_,C.setCell (i:=0) _,?_,B6.setCell (show w.heap.size≤w.heap.size+1 by omega) _⟩
      · exact((Chg.refl (fun x=>x=w.heap.size+1) F).cell (g:=w.heap.size+1) (i:=0) (.inl rfl) _).size
      · rw[HNX.out]
        exact O8.mono (fun b _ hb=>by have:=q.size;omega)
  · rintro Y Z hD hK ⟨d,m⟩
    have G:=k2.keep d;have kc:=G.cell (i:=0) rfl;have kf:=G.free 0
    have hlt:w.heap.size+1 < u.heap.size:=k2.lt
    have W:(Z.setCell ⟨w.heap.size+1,0,none⟩ (.slice none 0 0)).heap[Y]?=some (.deferred (some [])):=(Below.heap_setCell Z _ _ Y (by show Y≠w.heap.size+1;omega)).trans hK;gi_wp2;refine⟨by simp,.inl ⟨_,_,rfl,run_takeDeferred W,?_⟩⟩;have D:=Rec.put (B:=u.heap.size) W rfl hD (.deferred none);have k3:=lF (G.setCell (i:=0) (.slice none 0 0)) D;refine⟨_,lg rfl rfl (oV (k3.cell (i:=0) rfl)),_,rfl,?_,?_⟩
    · rw[gl (fun x hx => by
        obtain⟨j,E⟩:= List.getElem?_of_mem hx
        exact m j x E (by omega))]
      exact nU _ _
    · have T:Below w.heap.size w (Z.setCell ⟨w.heap.size+1,0,none⟩ (.slice none 0 0)):=(q.trans (d.mono q.size)).setCell (show w.heap.size≤w.heap.size+1 by omega) _
      exact dD T D q.size T.size
  · rintro Y c i Z hD hK hiN ⟨rfl,v,h1,h2,J⟩
    gi_wp2;refine⟨by simp,.inl ⟨_,_,rfl,run_takeDeferred hK,?_⟩⟩;have D:=Rec.put (B:=u.heap.size) hK rfl hD (.deferred none);have k3:=lF h1 D;exact⟨_,lg rfl rfl (oV (k3.cell (i:=0) rfl)),_,rfl,OB.rcd h2 D,dD J D q.size J.size⟩
theorem cM{x y:Int}{a b:List Int}:Lt (x :: a) (y :: b)<->x < y\/(x=y/\Lt a b):=by
 unfold Lt;rw[dm];by_cases c:x < y
 ·simp[c]
 ·by_cases d:y < x
  ·rw[if_neg c,if_pos d];constructor
   ·intro h;exact absurd h (by decide)
   ·rintro(h | ⟨h,_⟩)<;>omega
  ·rw[if_neg c,if_neg d];have:x=y:=by omega
   simp[this]
theorem gi{y:Int}:Lt [] (y :: b):=by simp[Lt,dm]
theorem not_lt_nil:¬ Lt a []:=by cases a<;>simp[Lt,dm]
theorem fU(s:List Int){a b:List Int}:Lt (s ++ a) (s ++ b)<->Lt a b:=by
 induction s with
 | nil=>exact Iff.rfl
 | cons x s ih=>rw[List.cons_append,List.cons_append,cM,ih];simp
theorem gj:∀ l:List Int,(∀ x∈l,x=255)\/∃ A x B,l=A ++ x :: B/\x≠255/\∀ b∈B,b=255
 | []=>.inl (fun _ h=>by simp at h)
 | y :: t=>by
  rcases gj t with h | ⟨A,x,B,rfl,hx,hB⟩
  ·by_cases hy:y=255
   ·exact .inl (fun x hx=>by
     rcases List.mem_cons.1 hx with rfl | hx
     ·exact hy
     ·exact h x hx)
   ·exact .inr ⟨[],y,t,rfl,hy,h⟩
  ·exact .inr ⟨y :: A,x,B,rfl,hx,hB⟩
theorem ju{A B:List Int}{x:Int}(hx:x≠255)(hB:∀ b∈B,b=255):nxt (A ++ x :: B)=A ++ [x+1]:=by
 unfold nxt;rw[qI A B hx hB];simp
theorem l9{l:List Int}(h:nxt l=[]):∀ x∈l,x=255:=by
 rcases gj l with h1 | ⟨A,x,B,rfl,hx,hB⟩
 ·exact h1
 ·rw[ju hx hB] at h;simp at h
theorem gT{l c:List Int}(h:nxt l≠[])(hc:l <+: c):Lt c (nxt l):=by
 rcases gj l with b | ⟨A,x,B,rfl,hx,a⟩
 ·exact absurd (gl b) h
 ·obtain⟨t,rfl⟩:=hc;rw[ju hx a,List.append_assoc,fU,List.cons_append,cM];exact .inl (by omega)
theorem mG:∀ {B t:List Int},(∀ b∈B,b=255)->Oct t->Lt t B\/B <+: t
 | [],_,_,_=>.inr (List.nil_prefix)
 | b :: B,[],_,_=>.inl gi
 | b :: B,z :: t,hB,ht=>by
  have hb:=hB b List.mem_cons_self;have c:=ht z List.mem_cons_self;subst hb;by_cases h:z=255
  ·subst h;rcases mG (fun b hb=>hB b (List.mem_cons_of_mem _ hb)) (fun y hy=>ht y (List.mem_cons_of_mem _ hy)) with a | a
   ·exact .inl (cM.2 (.inr ⟨rfl,a⟩))
   ·exact .inr (List.cons_prefix_cons.2 ⟨rfl,a⟩)
  ·exact .inl (cM.2 (.inl (by omega)))
theorem iJ:∀ {A B c:List Int} {x:Int},(∀ b∈B,b=255)->Oct c->Lt c (A ++ [x+1])->Lt c (A ++ x :: B)\/(A ++ x :: B) <+: c
 | [],B,[],x,_,_,_=>.inl gi
 | [],B,y :: t,x,hB,hc,h=>by
  rw[List.nil_append,cM] at h;rw[List.nil_append];rcases h with h | ⟨_,h⟩
  ·by_cases e:y=x
   ·subst e;rcases mG hB (fun z hz=>hc z (List.mem_cons_of_mem _ hz)) with h1 | h1
    ·exact .inl (cM.2 (.inr ⟨rfl,h1⟩))
    ·exact .inr (List.cons_prefix_cons.2 ⟨rfl,h1⟩)
   ·exact .inl (cM.2 (.inl (by omega)))
  ·exact absurd h not_lt_nil
 | a :: A,B,[],x,_,_,_=>.inl gi
 | a :: A,B,y :: t,x,hB,hc,h=>by
  rw[List.cons_append,cM] at h;rw[List.cons_append];rcases h with h | ⟨h1,h2⟩
  ·exact .inl (cM.2 (.inl h))
  ·subst h1;rcases iJ hB (fun z hz=>hc z (List.mem_cons_of_mem _ hz)) h2 with h3 | h3
   ·exact .inl (cM.2 (.inr ⟨rfl,h3⟩))
   ·exact .inr (List.cons_prefix_cons.2 ⟨rfl,h3⟩)
theorem gV{l c:List Int}(hc:Oct c)(f:¬ l <+: c)(d:¬ Lt c l):¬ Lt c (nxt l):=by
 rcases gj l with e | ⟨A,x,B,rfl,hx,b⟩
 ·rw[gl e];exact not_lt_nil
 ·rw[ju hx b];intro h;rcases iJ b hc h with a | a
  ·exact d a
  ·exact f a
end
end Kv
end
section
namespace Kv
open Go.RowKit Go.Lib Pg
attribute [local go_sem] Oper.semAt_some
end Kv
end
section
namespace Kv
open Go.RowKit Go.Lib Pg
attribute [local go_sem] Oper.semAt_some
section
variable {w:World}{pg:Option Addr}{lb:Array Value}{K D:Nat->Prop}{W:List aE}{p:List Int}
theorem nX{k:Nat}:Calls Tryz.prog 109 #[.pointer pg,.func (.func k) #[] lb] w fun e w'=>e=.returned (.func (.func 164) #[] #[.pointer (some ⟨w.heap.size,0,none⟩),.pointer (some ⟨w.heap.size + 1,0,none⟩)])/\Blk w' w.heap.size [.pointer pg] 37/\Blk w' (w.heap.size + 1) [.func (.func k) #[] lb] 76/\Below w.heap.size w w':=by
 have c:=ae w (.cells #[.pointer pg] 37);have c1:=aD w [.pointer pg] 37;have b:=ae (w.alloc (.cells #[.pointer pg] 37)) (.cells #[.func (.func k) #[] lb] 76);have c2:=aD (w.alloc (.cells #[.pointer pg] 37)) [.func (.func k) #[] lb] 76
 have s1:(w.alloc (.cells #[.pointer pg] 37)).heap.size=w.heap.size+1:=by simp
 rw[s1] at c2;go_enter Tryz.func109,Tryz.ntmps109;go_wp2;go_ret;exact⟨rfl,c1.keep b,c2,aA c b⟩
theorem SA.oct{g n N:Nat}{E:aE}(h:SA w K D g E W n N):∀ x∈E,Oct x.1:=by
 obtain⟨F,V,m,Q,i,T,f,hX,rfl,d⟩:=h.open;obtain⟨L,rfl,A,O,S,k,r⟩:=hX.map.ex;intro x hx;rw[dA] at hx;obtain⟨e,he,rfl⟩:=List.mem_map.1 hx;obtain⟨es,a,b⟩:=List.mem_flatten.1 he;obtain⟨p,c,rfl⟩:=List.mem_map.1 a;exact((A.cC p c).1.dP e b).k.oct
theorem vu{k:List Int}(h:p <+: k):¬ Lt k p:=by
 obtain⟨t,rfl⟩:=h;intro h;have:Lt (p ++ t) (p ++ []):=by simpa using h
 rw[fU] at this;exact not_lt_nil this
theorem BO{x:KV}(hx:Oct x.1):mQ p (nxt p) x=decide (p <+: x.1):=by
 unfold mQ;by_cases h:p <+: x.1
 ·have a:=vu h;by_cases hn:nxt p=[]
  ·simp[h,a,hn]
  ·simp[h,a,gT hn h]
 ·by_cases a:Lt x.1 p
  ·simp[h,a]
  ·have hn:nxt p≠[]:=fun e=>by
    rcases mG (l9 e) hx with b | b
    ·exact a b
    ·exact h b
   simp[h,a,hn,gV hx h a]
end
end Kv
end
section
namespace Kv
open Go.RowKit Go.Lib Pg
section
variable {w:World}{K D:Nat->Prop}{v:Value}{l:List Int}{W:List aE}
structure ByU(w:World)(v:Value)(l:List Int):Prop where
 byt:By w v l
 u8:∀ b o n c,v=.slice (some ⟨b,o,none⟩) n c->∃ cs m,w.heap[b]?=some (.cells cs 5 m)
theorem ByU.chg{w':World}(h:ByU w v l)(hc:Chg K w w')(q:∀ b,K b->∃ cs t,Blk w b cs t/\t≠5):ByU w' v l:=by
 have hs:∀ b o n c,v=.slice (some ⟨b,o,none⟩) n c->w'.heap[b]? = w.heap[b]? := fun b o n c e=>by
  obtain⟨cs,m,hb⟩:=h.u8 b o n c e;refine hc.same b (lt_of_block hb) fun j=>?_
  obtain⟨z,t,hd,u⟩:=q b j;have:=hd.blk.symm.trans hb;simp at this;exact u this.2.1
 refine⟨?_,fun b o n c e=>by rw[hs b o n c e];exact h.u8 b o n c e⟩;obtain⟨r,c,f,s,k,y,p,g⟩:=h.byt.ex;refine⟨r,c,f,s,k,y,p,g.imp id ?_⟩;rintro⟨b,o,rfl,d,a⟩;exact⟨b,o,rfl,Nat.lt_of_lt_of_le d hc.size,fun i x hi=>by rw[World.cell?_of_block (w:=w) (hs b o _ _ f)];exact a i x hi⟩
theorem ByU.of(h:OB w D v l):ByU w v l:=by
 refine⟨h.by,fun b o n c e=>?_⟩;rcases h.ex with⟨rfl,_⟩ | ⟨b',c',rfl,_,hR⟩
 ·cases e
 ·cases e;obtain⟨cs,k⟩:=hR.kind;exact⟨_,_,k.blk⟩
theorem SA.kind{g n N:Nat}{E:aE}(h:SA w K D g E W n N):∀ b,K b->∃ cs t,Blk w b cs t/\t≠5:=by
 obtain⟨F,V,m,Q,jv,T,oj,_,_,_,_,_,_,_,O⟩:=h.ex;exact O.kind
end
end Kv
end
end Go.Proofs.YtjejmkcjflhoiaaGreatDoor
