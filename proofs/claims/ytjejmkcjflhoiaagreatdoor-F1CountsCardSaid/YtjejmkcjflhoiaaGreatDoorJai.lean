import Derived.Test.YtjejmkcjflhoiaaGreatDoorJah
import Derived.Test.YtjejmkcjflhoiaaGreatDoorJag
import Derived.Shelf.Abstract
import Derived.Shelf.RegionOpen
import Derived.OwnWalkIn
import Derived.TacticsInMore
import Derived.LoopNIn
import Derived.LoopIn
set_option maxRecDepth 100000
set_option maxHeartbeats 8000000
namespace Go.Proofs.YtjejmkcjflhoiaaGreatDoor
section
namespace Kv
open Go.RowKit Go.Lib Pg
attribute [local go_sem] Oper.semAt_some
section
variable {E:aE}{k:List Int}{w:World}{K D F V:Nat->Prop}{g n N m:Nat}{W:List aE}{kv jv:Value}{Q:List (List KV)}{T T0:List Jr}{oj:Option Nat}
theorem BE(h:fj E)(hn:(look E k).isSome=false):rem E k=E:=by
 obtain⟨X,Y,c,⟨rfl,e⟩ | ⟨x,rfl,e⟩⟩:=h.cut k
 ·exact c.zN
 ·rw[e] at hn;cases hn
theorem sget(h:SA w K D g E W n N)(d:BK w K kv k)(hn:n<=4000000000000000000)(A:N<=100000000) :
  Calls Tryz.prog 120 #[.pointer (some ⟨g,0,none⟩),kv] w fun e w'=>∃ v,e=.returned (.tuple #[v,.bool (look E k).isSome])/\OB w' (w.heap.size <= ·) v ((look E k).getD [])/\SA w' K D g E W (n+1) N/\Chg K w w':=by
 obtain⟨F,V,m,Q,C,T,x,hX,rfl,t⟩:=h.open;obtain⟨G,c,rfl⟩:=d.shape;have u:=gu hX hn;have q:=aC hX;have y:=aC t;have s:=aC d;clear hX t d h;obtain⟨kn,j⟩:∃ kn,Hid (k.length=kn):=⟨_,rfl⟩
 rw[j.out] at s ⊢;have p:=fun w' (X:SX w' K D F V g m Q C T x (n+1) N) (d:By w' (.slice G kn c) k)=>jX X d A
 obtain⟨r,o⟩:∃ r,(look Q.flatten k).isSome=r:=⟨_,rfl⟩
 obtain⟨L,hL⟩:∃ L,(look Q.flatten k).getD []=L:=⟨_,rfl⟩
 rw[o,hL] at p ⊢;clear o hL;go_enter Tryz.func120,Tryz.ntmps120;go_wp2_with first
  | (go_at_call 95;go_must (refine u.mono ?_);rintro e z ⟨rfl,l,f⟩;have c0:=l.blk.cell (i:=0) rfl)
  | (go_at_call 165;go_must (refine(p _ l (s.out _ (q.out.kg f))).mono ?_);rintro e I ⟨v,rfl,O,B⟩;obtain⟨a1,c1,rfl⟩:∃ a1 c1,v=.slice a1 L.length c1:=(by obtain⟨a1,c1,e,_⟩:=O.by.ex;exact⟨a1,c1,e⟩);generalize L.length=J at *)
 go_ret2;exact⟨_,rfl,O.mono (fun b _ h=>by have:=f.size;have H:z.heap.size<=b:=h;show w.heap.size<=b;omega),(l.keep B).shut rfl y.out,fq (q.out.kg f) (Chg.of B)⟩
theorem DK(hX:SX w K D F V g m Q jv T oj n N)(t:ll (T.reverse.map Jr.U) W Q.flatten)(i:BK w K kv k)(hn:n<=4000000000000000000)(o:N+2<=100000000)(q:(look Q.flatten k).isSome=false) :
  Calls Tryz.prog 66 #[.pointer (some ⟨g,0,none⟩),kv] w (Ends w K D g (rem Q.flatten k) W (n+1) (N+2) (.bool false)):=by
 obtain⟨z,c,rfl⟩:=i.shape;have u:=gu hX hn;have f:=aC hX;have x:=aC t;have r:=aC i
 have v:N<=99999998:=by omega
 replace o:N<=100000000:=by omega
 clear hX t i;obtain⟨kn,l⟩:∃ kn,Hid (k.length=kn):=⟨_,rfl⟩
 rw[l.out] at r ⊢;go_enter Tryz.func66,Tryz.ntmps66;go_wp2_with first
  | (go_at_call 95;go_must (refine u.mono ?_);rintro e B ⟨rfl,d,p⟩;have j:=vz d (r.out _ (f.out.kg p)) o;rw[q] at j)
  | (go_at_call 112;go_must (refine j.mono ?_);rintro e A ⟨rfl,s⟩;clear j;replace d:=d.keep s;have y:=fq (f.out.kg p) (Chg.of s))
 go_ret;have e:=BE f.out.map.ord.flat q;exact⟨rfl,K,((d.shut e.symm (by rw[e];exact x.out)).more (by omega)).mono (fun _ _ h=>.inl h),fun b h=>.inl h,y⟩
theorem Bo(hX:SX w K D F V g m Q jv [] oj n N)(z:ll ([].reverse.map Jr.U) W Q.flatten)(j:BK w K kv k)(hn:n<=4000000000000000000)(v:N+2<=100000000)(r:(look Q.flatten k).isSome=true) :
  Calls Tryz.prog 66 #[.pointer (some ⟨g,0,none⟩),kv] w (Ends w K D g (rem Q.flatten k) W (n+1) (N+2) (.bool true)):=by
 obtain⟨L,c,rfl⟩:=j.shape;have u:=gu hX hn;have t:=aC hX;have C:=aC z;have o:=aC j
 have B:N<=99999998:=by omega
 replace v:N<=100000000:=by omega
 clear hX z j;obtain⟨kn,f⟩:∃ kn,Hid (k.length=kn):=⟨_,rfl⟩
 rw[f.out] at o ⊢;go_enter Tryz.func66,Tryz.ntmps66;go_wp2_with first
  | (go_at_call 95;go_must (refine u.mono ?_);rintro e J ⟨rfl,d,q⟩;have l:=vz d (o.out _ (t.out.kg q)) v;rw[r] at l)
  | (go_at_call 112;go_must (refine l.mono ?_);rintro e M ⟨rfl,x⟩;clear l;replace d:=d.keep x;have p:=fq (t.out.kg q) (Chg.of x))
  | (go_at_call 96;go_must (refine(mM d).mono ?_);rintro e y ⟨rfl,hy⟩;replace hy:=hy.symm;subst hy;have c0:=d.blk.cell (i:=0) rfl;have us:=mdel d.map (o.out _ p) (by omega);rw[jT d.map.ord,r] at us)
  | (go_at_call 113;go_must (refine us.mono ?_);rintro e H ⟨rfl,I,A,hF,hC⟩)
 go_ret;have G:=d.mapped (N':=N) (by have:=d.tot;have:=vN (E:=Q.flatten) k;rw[iK d.map.ord];omega) A hF (fun _ h=>h) hC;refine⟨rfl,_,((G.shut (E:=rem Q.flatten k) (W:=W) (iK d.map.ord k) (rG C.out)).more (by omega)).mono (fun b _ hb=>?_),fun b hb=>?_,?_⟩
 ·exact .inl hb
 ·rcases hb with⟨hb,_⟩ | hb
  ·exact .inl hb
  ·rcases hF b hb with s | s
   ·exact .inl (d.own.map b s)
   ·exact .inr (by have:=p.size;omega)
 ·exact fq p (hC.mono (fun b _ h=>d.own.map b h))
theorem Ch{j:Jr}(hX:SX w K D F V g m Q jv (T0 ++ [j]) oj n N)(H:ll ((T0 ++ [j]).reverse.map Jr.U) W Q.flatten)(x:BK w K kv k)(hn:n<=4000000000000000000)(v:N+2<=100000000)(l:k.length<=1000000000)(B:(look Q.flatten k).isSome=true) :
  Calls Tryz.prog 66 #[.pointer (some ⟨g,0,none⟩),kv] w (Ends w K D g (rem Q.flatten k) W (n+1) (N+2) (.bool true)):=by
 obtain⟨ao,c,rfl⟩:=x.shape;have u:=gu hX hn;have t:=aC hX;have L:=aC H;have q:=aC x;replace l:=aC l
 have J:N<=99999998:=by omega
 replace v:N<=100000000:=by omega
 clear hX H x;obtain⟨kn,r⟩:∃ kn,Hid (k.length=kn):=⟨_,rfl⟩
 rw[r.out] at q ⊢;go_enter Tryz.func66,Tryz.ntmps66;go_wp2_with first
  | (go_at_call 95;go_must (refine u.mono ?_);rintro e Y ⟨rfl,p,A⟩;have y:=vz p (q.out _ (t.out.kg A)) v;rw[B] at y)
  | (go_at_call 112;go_must (refine y.mono ?_);rintro e w2 ⟨rfl,G⟩;clear y;replace p:=p.keep G;have o:=fq (t.out.kg A) (Chg.of G))
  | (go_at_call 96;go_must (refine(oI p (q.out _ o) (by have:=l.out;omega) v).mono ?_);rintro e Z ⟨rfl,X,R,S,z,d,f,I⟩;have s:=fq o I;have c0:=d.blk.cell (i:=0) rfl;have us:=mdel d.map (q.out _ s) (by omega);rw[jT d.map.ord,B] at us)
  | (go_at_call 113;go_must (refine us.mono ?_);rintro e P ⟨rfl,T,O,hF,hC⟩)
 go_ret;have M:=d.mapped (N':=N+1) (by have:=d.tot;have:=vN (E:=Q.flatten) k;rw[iK d.map.ord];omega) O hF (fun _ h=>h) hC;refine⟨rfl,_,((M.shut (E:=rem Q.flatten k) (W:=W) (iK d.map.ord k) (o8 L.out z (yP t.out.map.ord.flat k))).more (by omega)).mono (fun b _ hb=>?_),fun b hb=>?_,?_⟩
 ·rcases hb with hb | hb
  ·exact .inl hb
  ·exact .inr (by have:=o.size;omega)
 ·rcases hb with⟨hb,_⟩ | hb
  ·exact(f b hb).imp id (fun h=>by have:=o.size;omega)
  ·rcases hF b hb with C | C
   ·exact(f b (d.own.map b C)).imp id (fun h=>by have:=o.size;omega)
   ·exact .inr (by have:=s.size;omega)
 ·exact s.trans hC (fun b hb h=>(f b (d.own.map b h)).elim id (fun h=>by have:=o.size;omega))
theorem sdel(h:SA w K D g E W n N)(c:BK w K kv k)(d:k.length<=1000000000)(hn:n<=4000000000000000000)(b:N+2<=100000000) :
  Calls Tryz.prog 66 #[.pointer (some ⟨g,0,none⟩),kv] w (Ends w K D g (rem E k) W (n+1) (N+2) (.bool (look E k).isSome)):=by
 obtain⟨F,V,m,Q,f,T,i,hX,rfl,a⟩:=h.open
 cases hr:(look Q.flatten k).isSome with
 | false=>exact DK hX a c hn b hr
 | true =>
  rcases List.eq_nil_or_concat T with rfl | ⟨e,j,rfl⟩
  ·exact Bo hX a c hn b hr
  ·rw[List.concat_eq_append] at hX a;exact Ch hX a c hn b d hr
end
end Kv
end
section
namespace Kv
open Go.RowKit Go.Lib Pg
attribute [local go_sem] Oper.semAt_some
end Kv
end
section
namespace Kv
open Go.RowKit Go.Lib Pg
attribute [local go_sem] Oper.semAt_some
theorem oO {fn:Func} {p:Tmp} {ty:TypeId} (h:fn.results=#[.cell p ty]) {tmps:Array Value} {w:World} {g:Nat} {v:Value} (c:tmps.getD p undef=.pointer (some ⟨g,0,none⟩)) (b:(loadVar ty ⟨g,0,none⟩).run Tryz.prog w=.ok v w):(results fn tmps).run Tryz.prog w=.ok v w:=by
 have a:tmps[p]?.getD undef=.pointer (some ⟨g,0,none⟩):=by simpa using c
 simp[results,h,a,asAddr,b]
end Kv
end
section
namespace Kv
open Go.RowKit Go.Lib Pg
attribute [local go_sem] Oper.semAt_some
end Kv
end
section
namespace Kv
open Go.RowKit Go.Lib Pg
attribute [local go_sem] Oper.semAt_some
section
variable {w w':World}{B:Nat}{xs:List Value}{K:Nat->Prop}
theorem Rw.rcd{E:TypeId}{k b n c:Nat}(h:Rw w E k b n c xs)(hr:Rec B w w'):Rw w' E k b n c xs:=by
 obtain⟨cs,hk⟩:=h.kind;exact h.same (by rw[(hr.blk hk).blk,hk.blk])
theorem jN{w1:World}(h:Chg K w w1)(a:Rec B w1 w')(f:w.heap.size<=B):Chg K w w' :=
 ⟨a.os.trans h.os,a.tape.trans h.tape,a.output.trans h.output,Nat.le_trans h.size a.size,fun b hb d=>by
  have e:=h.same b hb d;rw[<- e]
  have c:b < w1.heap.size:=Nat.lt_of_lt_of_le hb h.size;rw[Array.getElem?_eq_getElem c]
  exact a.same b _ (Array.getElem?_eq_getElem c) (.inl (by omega))⟩
end
end Kv
end
section
namespace Kv
open Go.RowKit Go.Lib Pg
attribute [local go_sem] Oper.semAt_some
end Kv
end
section
namespace Kv
open Go.RowKit Go.Lib Pg
attribute [local go_sem] Oper.semAt_some
section
variable {n g N:Nat}{ops:Array Oper}{rest:List Oper}{a:Act}{w w':World}{v jv:Value}{pos:String}{K D:Nat→Prop}{Q:List (List KV)}{T:List Jr}{oj:Option Nat}{X:Nat->Prop}{W:List aE}
theorem pI{F:Fence}{Q:Exit->Act->World->Prop}{o:Oper}(b:o.guard=none)(hF:∀ f,F.fn f)(hs:o.semAt F.round a.eval=execOp a.eval o)(hrun:(execOp a.eval o).run Tryz.prog w=.ok (.value v) w')(h:wpListIn F n Tryz.prog ops Q rest (a.put o.dst v) w'):wpListIn F n Tryz.prog ops Q (o :: rest) a w :=
 wpListIn_plain b fun K c=>by
  unfold Oper.wpIn;rw[hs,hrun,Oper.uponIn_value];exact⟨fun f _=>hF f,c _ _ h⟩
theorem Dz{F:Fence}{x y d:Nat}{Q:Exit->Act->World->Prop}{after:Array Edge}{u r:Value}(hF:∀ f,F.fn f)(hu:a.eval (.tmp x)=u)(hv:a.eval (.tmp y)=v)(b:(Builtin.append_ #[46,46] 46 #[u,v]).run Tryz.prog w=.ok r w')(h:wpListIn F n Tryz.prog ops Q rest (a.put (some d) r) w') :
  wpListIn F n Tryz.prog ops Q ({ dst:=some d,op:=.call { callee:=.builtin .append,args:=#[.tmp x,.tmp y],argTypes:=#[46,46] },type:=46,pos:=pos,after:=after,guard:=none } :: rest) a w :=
 pI rfl hF (Oper.semAt_eq _ _ _ (fun c h=>by cases h)) (run_ap (x:=x) (y:=y) rfl rfl hu hv b) h
theorem SX.wm{K D F V:Nat->Prop}{m:Nat}(h:SX w K D F V g m Q jv T oj n N)(d:N<=100000000)(a:∀ b,X b->¬ F b)(c:∀ b,X b->∀ cs,¬ Blk w b cs 5)(e:∀ b,X b->b < w.heap.size) :
  ∃ L,Wm w X F D m L/\∀ f t,(wlk (ens L) f t).map En.kl2=Q.flatten.filter (nT f t):=by
 obtain⟨L,rfl,A,O,S,k,r⟩:=h.map.ex;exact⟨L,⟨A,O,fun es he=>(S.one es he).2,S.few k d,r,a,c,e⟩,fun f t=>yA O f t⟩
theorem yN(x:KV):nT [] [] x=true:=by
 simp[nT,Lt]
 cases x.1<;>simp[dn]
def TpD(t:TypeId):Prop:=t=89
theorem sdump{E:aE}(h:SA w K D g E W n N)(hN:N≤100000000) :
    Calls Tryz.prog 12 #[.pointer (some ⟨g,0,none⟩)] w fun e w'=>∃ v es,e=.returned v∧PrA w' w.heap.size v es∧es.map En.kl2=E∧Below w.heap.size w w':=by
  have hsm:=h.small;have hsz:=h.size;obtain⟨F,V,m,Q,jv,T,oj,hX,rfl,hB⟩:= h.open;have b1:=ae w (.cells #[.slice none 0 0] 46);have c1:=aD w [.slice none 0 0] 46;have X1:=hX.keep b1
  obtain⟨L, K2, ad⟩:= X1.wm hN (X := (· = w.heap.size)) (fun b e hF => by have e' : b = w.heap.size := e; have := hX.map.lt hF; omega) (fun b e cs k => by
    have e':b=w.heap.size:=e;subst e'
    exact absurd (c1.eq k).2 (by decide)) (fun b e=>by have e':b=w.heap.size:=e;simp;omega)
  have t:(wlk (ens L) [] []).map En.kl2=Q.flatten:=by rw[ad,List.filter_eq_self.2 (fun x _=>yN x)]
  have tW:=mz (Tp:=TpD) K2 (By.nil _) (By.nil _) (by decide) (by decide) (by unfold TpD;decide) (by unfold TpD;decide);have g0:=X1.blk.cell (i:=0) rfl;obtain⟨P,hE⟩:∃ E,Hid (wlk (ens L) [] []=E):=⟨_,rfl⟩;rw[hE.out] at tW t;have hEQ:=aC t
  have hlen:P.length≤N:=by have:=congrArg List.length t;simp only[List.length_map] at this;omega
  have sz1:(w.alloc (.cells #[.slice none 0 0] 46)).heap.size=w.heap.size+1:=by simp
  have ab:=aC b1;have ac:=aC c1;clear h hX X1 K2 ad t hB;obtain⟨Wa,R⟩:∃ Wa,Hid (w.alloc (.cells #[.slice none 0 0] 46)=Wa):=⟨_,rfl⟩;rw[R.out] at tW g0 sz1 ab ac;have c1:=ac.out;refine(callsIn_wide (n:=0)).1 ?_
  refine callsIn_of_wp_marks Tryz.func12 rfl trivial ?_ rfl;simp only[Tryz.ntmps12,List.size_toArray,List.length_cons,List.length_nil,Nat.reduceAdd,Nat.reduceSub,Array.replicate_succ,Array.replicate_zero,List.push_toArray,List.append_toArray,List.nil_append,List.cons_append];rw[← R.out] at g0;gi_wp2_with (refine⟨trivial,rfl,?_⟩;gi_at_call 33;rw[R.out];refine(callsIn_wide.2 tW).mono ?_;rintro e' w1 ⟨bw,rfl,G,IT⟩);have cb:=c1.keep G;clear tW;have q1:=G.size;refine iC IT (by rfl) (enters_of Tryz.func114 (by kernel_rfl) rfl) (fun i args n V V' h hc=>h.cel hc) (fun i args n V h=>by obtain⟨e,kv,vv,s,_,rfl,_⟩:= h;rfl)
    (fun i V=>Ej w1 V w.heap.size P i) (fun _ _ _=>False)
    (fun i A B hx hr=>hx.rcd hr) (fun _ _ _ _ hx _=>hx)
    (fun i V hv=>hv.chg) ⟨Chg.refl _ _,_,[],cb,⟨.inl ⟨rfl,rfl⟩,fun e he=>by cases he⟩,rfl⟩ ?_ ?_ ?_
  · rintro l2 i args V Wv hl hlV hrec hiN hG hb ⟨e0,kv,vv,s0,he0,rfl,af,ag,_⟩
    obtain⟨U,nk,hk1⟩:= af.shape;obtain⟨S,nv,hv1⟩:= ag.shape;subst hk1 hv1;simp;gi_wp2;refine⟨Below.refl _ _,?_⟩;intro V2 W2 q l ah Z y hV2 r hrec2;obtain⟨e1,kv1,vv1,t1,he1,z,ai,hv2,ht1⟩:= ah;obtain rfl:e1=e0:=by rw[he0] at he1;cases he1;rfl
    simp at z;obtain⟨rfl,rfl⟩:= z;obtain⟨ov,es,g1,g2,g3⟩:= q.out
    have p:es.length=i:=by have:=congrArg List.length g3;simp at this;omega
    obtain⟨ao0,cc0,rfl⟩:= g2.shape;have S0:=g1.keep l;have P0:=g2.keep l;have z1:=q.chg.size;have z2:=l.size;have f:=ae W2 (.cells #[.slice U e1.kl.length nk,.slice S e1.vl.length nv] 89);have N4:=aD W2 [.slice U e1.kl.length nk,.slice S e1.vl.length nv] 89;have z5:=f.size
    have Y:EnA (W2.alloc (.cells #[.slice U e1.kl.length nk,.slice S e1.vl.length nv] 89)) (fun b=>w1.heap.size≤b) ⟨.slice U e1.kl.length nk,e1.kl,.slice S e1.vl.length nv,e1.vl⟩:= ⟨(ai.keep f).mono (fun b _ hb=>by omega),(hv2.keep f).mono (fun b _ hb=>by omega)⟩;obtain⟨ov5,w5,J,P5,H⟩:= zB (e:=⟨.slice U e1.kl.length nk,e1.kl,.slice S e1.vl.length nv,e1.vl⟩) (a:=⟨W2.heap.size,0,none⟩) 46 (P0.keep f) (by omega) Y (by omega) (N4.cell (i:=0) rfl) (N4.cell (i:=1) rfl);have S4:=S0.keep f;have S5:=H.blk S4 (by decide);have s0c:=S0.cell (i:=0) rfl;obtain⟨d,u⟩:∃ d,Hid (es ++ [(⟨.slice U e1.kl.length nk,e1.kl,.slice S e1.vl.length nv,e1.vl⟩:En)]=d):=⟨_,rfl⟩
    have aa:Hid (d.map En.kl2=(P.take (i+1)).map En.kl2):=by
      show _=_
      rw[← u.out,List.map_append,g3,List.take_add_one,he0,List.map_append];rfl
    simp only[u.out] at P5;obtain⟨O,I,rfl⟩:= P5.shape;have s5c:=S5.cell (i:=0) rfl;have s5f:=S5.free 0;have M:=aC P5;have HS5:=aC S5;have HSp:=aC H;have HBa:=aC f;have HG2:=aC q;have HB2:=aC l;have hsl:=S4.cell (i:=0) rfl;replace p:=aC p;replace y:=aC y;replace hV2:=aC hV2;clear hG af ag hb Z P5 S5 H f N4 Y P0 S0 g1 g2 g3 ai hv2 l q S4;gi_wp2_with (have gate:=J;clear gate;refine Dz (fun _=>trivial) rfl rfl J ?_;clear J)
    have j:Chg (·=w.heap.size) w5 (w5.setCell ⟨w.heap.size,0,none⟩ (.slice O d.length I)):=(Chg.refl (fun x=>x=w.heap.size) w5).cell (.inl (by rfl)) _
    have C : ∀ b, b = w.heap.size → ∀ cs, ¬ Blk w5 b cs 5 := fun b hb cs k => by
      subst hb;have:=(k.eq HS5.out).2;revert this;decide
    have P6:PrA (w5.setCell ⟨w.heap.size,0,none⟩ (.slice O d.length I)) w1.heap.size (.slice O d.length I) d:=⟨M.out.ex.imp id (fun⟨b,c,e,hl,hR⟩=>⟨b,c,e,hl,hR.chg j (by omega)⟩),fun e he=>⟨(M.out.dP e he).k.chg j C,(M.out.dP e he).v.chg j C⟩⟩;refine⟨((bF.of (Tp:=TpD) (B:=w1.heap.size) HBa.out).trans (HSp.out.keeps (Tp:=TpD) rfl)).trans ⟨j.size,fun k o hk h0 _=>(j.same k (lt_of_block h0) (by omega)).trans h0⟩,⟨?_,_,d,HS5.out.setCell (i:=0) _,P6,aa.out⟩⟩;exact(((HG2.out.chg.trans (Chg.of (F:=fun _=>False) (aA HB2.out HBa.out)) (fun _ _ h=>h.elim)).trans HSp.out.chg (fun b h1 h2=>by omega))).trans j (fun b _ h=>h)
  · rintro D' W' hD hK hG
    obtain⟨ov,es,g1,g2,g3⟩:= hG.out;obtain⟨ao,cc,rfl⟩:= g2.shape;have g1c:=g1.cell (i:=0) rfl;gi_wp2;refine⟨by simp,.inl ⟨_,_,rfl,run_takeDeferred hK,?_⟩⟩;refine⟨_,results_tmp rfl _ _ _,_,es,rfl,(g2.cel (Rec.put hK rfl hD _).cel).low (by omega),?_,?_⟩
    · rw[g3,List.take_length];exact hEQ.out
    · exact vh ab.out G ((hG.rcd (Rec.put hK rfl hD _)).chg) (Nat.le_refl _)
  · rintro D' c i W' hD hK hi hF
    exact hF.elim
end
end Kv
end
section
namespace Kv
open Go.RowKit Go.Lib Pg
attribute [local go_sem] Oper.semAt_some
section
variable {g x:Nat}{V:World}{E:List En}{args:Array Value}
def tick(g:Nat)(V:World)(x:Nat):World:=V.setCell ⟨g,2,none⟩ (.int .i64 ((x:Int)+1))
theorem vw{V':World}(hb:Below V.heap.size V V'):Below (tick g V x).heap.size (tick g V x) (tick g V' x):=by
 unfold tick;refine⟨hb.os,hb.tape,hb.output,by simpa[World.setCell] using hb.size,fun k c=>?_⟩
 have a:k < V.heap.size:=by simpa[World.setCell] using c
 by_cases e:k=g
 ·subst e;have b:=hb.block k a;simp only[World.setCell,Array.getElem?_modify,b]
 ·rw[Below.heap_setCell _ _ _ _ (by exact e),Below.heap_setCell _ _ _ _ (by exact e)];exact hb.block k a
theorem fH(g x:Nat)(V:World):(tick g V x).heap.size=V.heap.size:=by simp[tick,World.setCell]
theorem ef(g x:Nat)(V:World):Chg (·=g) V (tick g V x):=(Chg.refl (·=g) V).cell (.inl rfl) _
theorem Bb{i n:Nat}(h:ArC E i args n V)(l:∃ cs,Blk V g cs 85):ArC E i args n (tick g V x):=by
 obtain⟨e,kv,vv,s,c,f,o,m,d⟩:=h
 have a:∀ b,b=g->∀ cs,¬ Blk V b cs 5:=fun b hb cs k=>by
  subst hb;obtain⟨p,j⟩:=l;exact absurd (k.eq j).2 (by decide)
 exact⟨e,kv,vv,s,c,f,o.chg (ef g x V) a,m.chg (ef g x V) a,d⟩
def RdC(X:Nat->Prop)(W1:World)(g bs1 bs2 bw:Nat)(V:World):Prop:=Chg X W1 V/\Blk V bs1 [.pointer (some ⟨g,0,none⟩)] 37/\Blk V bs2 [.func (.func 114) #[] #[.pointer (some ⟨bw,0,none⟩)]] 76/\∃ cs,Blk V g cs 85
end
end Kv
end
section
namespace Kv
open Go.RowKit Go.Lib Pg
attribute [local go_sem] Oper.semAt_some
section
variable {I It:Nat->World->Prop}{Ix:Code->Nat->World->Prop}{W W' V:World}
def qo(I It:Nat->World->Prop)(k:Nat):World->Prop:=if k % 2=0 then I (k / 2) else It (k / 2)
theorem jW(I It:Nat->World->Prop)(i:Nat):qo I It (2 * i+1)=It i:=by
 unfold qo;rw[if_neg (by omega),show (2 * i+1) / 2=i by omega]
theorem kR(I It:Nat->World->Prop)(i:Nat):qo I It (2 * i+1+1)=I (i+1):=by
 unfold qo;rw[if_pos (by omega),show (2 * i+1+1) / 2=i+1 by omega]
theorem oX{Tp:TypeId->Prop}{B:Nat}{i:Nat}{e:Exit}{a:Act}(h:oY Tp B I Ix (i+1) W e a W'):oY Tp B (qo I It) (fun c k=>Ix c (k / 2)) (2 * i+1+1) W e a W':=by
 have e2:(2 * i+1+1) / 2=i+1:=by omega
 cases e<;>simp only[oY] at h ⊢
 ·exact⟨h.1,by rw[kR];exact h.2⟩
 ·exact⟨h.1,by rw[e2];exact h.2⟩
 ·exact⟨h.1,by rw[e2];exact h.2⟩
 ·exact⟨h.1,by rw[e2];exact h.2⟩
def BC(Tp:TypeId->Prop)(w:World)(N n:Nat)(ps:Array Tmp)(assign body:Code)(tmps:Array Value)(Ar:Nat->Array Value->Nat->World->Prop)(It I:Nat->World->Prop)(Ix:Code->Nat->World->Prop):Prop :=
 ∀ (l i:Nat) (args:Array Value) (V W:World),w.heap.size<=l->l < V.heap.size->(∃ r,V.heap[l]?=some (.loop r))->i < N->It i V->Below V.heap.size V W->Ar i args V.heap.size W ->
  assign.wpIn (Fence.wide.inRound l) n Tryz.prog (Exit.then (fun a1 W1=>Below W.heap.size W W1/\∀ V2 W2,It i V2->Below V2.heap.size V2 W2->Ar i args V2.heap.size W2->(∀ b,b≠l->W2.heap[b]?=W1.heap[b]?)->W2.heap.size=W1.heap.size->V2.heap.size=V.heap.size->(∃ r,W2.heap[l]?=some (.loop r))->body.wpIn (Fence.wide.inRound l) n Tryz.prog (oY Tp w.heap.size I Ix (i+1) W2) a1 W2) (fun _ _ _=>False)) { tmps:=(ps.zip args).foldl (fun t (p,v)=>t.setIfInBounds p v) tmps,defers:=[] } W
theorem fT{g x k:Nat}(h:k≠g):(tick g V x).heap[k]?=V.heap[k]?:=Below.heap_setCell _ _ _ _ h
end
end Kv
end
section
namespace Kv
open Go.RowKit Go.Lib Pg
attribute [local go_sem] Oper.semAt_some
section
variable {w w' A A':World}{B n c g:Nat}{v u r:Value}{l a Q b:List Int}{x y:Int}{D:Nat->Prop}{ao:Option Addr}{Rd:World->Prop}{cs:List Value}{ops:Array Oper}{rest:List Oper}{pos:String}
theorem vm{p:Nat}(h:OB w (B <= ·) v l)(d:B<=w.heap.size)(t:l.length<=1000000000)(hx:0<=x/\x < 256)(r:w.cell? ⟨p,0,none⟩=some (.int .u8 x)) :
  ∃ v' w',(Builtin.append_ #[87,87] 87 #[v,.slice (some ⟨p,0,none⟩) 1 1]).run Tryz.prog w=.ok v' w'/\OB w' (B <= ·) v' (l ++ [x])/\Below B w w':=by
 have o:Oct (l ++ [x]):=fun y hy=>by
  rcases List.mem_append.1 hy with hy | hy
  ·exact h.oct y hy
  ·simp at hy;subst hy;exact hx
 have a:∀ j u,[Value.int .u8 x][j]? = some u->w.cell? ((⟨p,0,none⟩:Addr).add j)=some u:=fun j u n=>by
  match j with
  | 0=>simp at n;subst n;exact r
  | j+1=>simp at n
 rcases h.ex with⟨rfl,rfl⟩ | ⟨b,c,rfl,hl2,g⟩
 ·obtain⟨m,w',k,g,hw⟩:=gQ (w:=w) KB 87 ⟨p,0,none⟩ 1 1 [.int .u8 x] rfl a (by decide) (by decide) (by decide);exact⟨_,w',k,⟨o,.inr ⟨_,m,rfl,d,g⟩⟩,hw.mono d⟩
 ·obtain⟨q,m,w',k,i,f,hw⟩:=eu (w:=w) KB 87 g ⟨p,0,none⟩ 1 1 [.int .u8 x] rfl a (by simp[Value.oneCell']) (by omega) (by omega);refine⟨_,w',k,⟨o,.inr ⟨q,m,by simp,?_,by rw[List.map_append,List.length_append]; exact f⟩⟩,hw.below (fun x e=>by have s:x=b:=e; omega) d⟩;rcases i with rfl | rfl
  ·exact hl2
  ·exact d
theorem ep(h:OB w (B <= ·) v l)(d:B<=w.heap.size)(t:l.length<=1000000000)(hx:0<=x/\x < 256) :
  ∃ v' w',(Builtin.append_ #[87,87] 87 #[v,.slice (some ⟨w.heap.size,0,none⟩) 1 1]).run Tryz.prog (w.alloc (.cells #[.int .u8 x] 5))=.ok v' w'/\OB w' (B <= ·) v' (l ++ [x])/\Below B w w':=by
 have hb:=ae w (.cells #[.int .u8 x] 5);have r:=aD w [.int .u8 x] 5
 have o:Oct (l ++ [x]):=fun y hy=>by
  rcases List.mem_append.1 hy with hy | hy
  ·exact h.oct y hy
  ·simp at hy;subst hy;exact hx
 have a:∀ j u,[Value.int .u8 x][j]? = some u->(w.alloc (.cells #[.int .u8 x] 5)).cell? ((⟨w.heap.size,0,none⟩:Addr).add j)=some u:=fun j u p=>by
  match j with
  | 0=>exact r.cell (i:=0) p
  | j+1=>simp at p
 rcases h.ex with⟨rfl,rfl⟩ | ⟨b,c,rfl,hl2,g⟩
 ·obtain⟨n,w',m,g,hw⟩:=gQ (w:=w.alloc (.cells #[.int .u8 x] 5)) KB 87 ⟨w.heap.size,0,none⟩ 1 1 [.int .u8 x] rfl a (by decide) (by decide) (by decide);exact⟨_,w',m,⟨o,.inr ⟨_,n,rfl,Nat.le_trans d hb.size,g⟩⟩,(hb.mono d).trans (hw.mono (Nat.le_trans d hb.size))⟩
 ·obtain⟨q,n,w',m,k,f,hw⟩:=eu (w:=w.alloc (.cells #[.int .u8 x] 5)) KB 87 (g.keep hb) ⟨w.heap.size,0,none⟩ 1 1 [.int .u8 x] rfl a (by simp[Value.oneCell']) (by omega) (by omega);refine⟨_,w',m,⟨o,.inr ⟨q,n,by simp,?_,by rw[List.map_append,List.length_append]; exact f⟩⟩,(hb.mono d).trans (hw.below (fun x e=>by have s:x=b:=e; omega) (Nat.le_trans d hb.size))⟩;rcases k with rfl | rfl
  ·exact hl2
  ·exact Nat.le_trans d hb.size
theorem OB.sh(h:OB w D v l):∃ ao c,v=.slice ao l.length c:=by
 rcases h.ex with⟨rfl,rfl⟩ | ⟨b,c,rfl,_⟩
 ·exact⟨none,0,rfl⟩
 ·exact⟨_,c,rfl⟩
theorem By.lens(h:By w (.slice ao n c) l):l.length=n/\n<=c/\c<=9223372036854775807:=by
 obtain⟨ao',c',e,h2,h3,_⟩:=h.ex
 cases e;exact⟨rfl,h2,h3⟩
theorem j0{a:Act}{o:Oper}{x y:Nat}{T ty:TypeId}(b:o.type=ty)(d:o.op=.call { callee:=.builtin .append,args:=#[.tmp x,.tmp y],argTypes:=#[T,T] })(hx:a.eval (.tmp x)=u)(hy:a.eval (.tmp y)=v)(c:(Builtin.append_ #[T,T] ty #[u,v]).run Tryz.prog w=.ok r w') :
  (execOp a.eval o).run Tryz.prog w=.ok (.value r) w':=by
 subst b;unfold execOp;simp only[d,resolve,invoke,builtin,Sem.run_bind,Sem.run_pure,Result.andThen_ok,List.map_toArray,List.map_cons,List.map_nil,hx,hy,c]
theorem q8(w:World)(D:Nat->Prop):OB w D (.slice none 0 0) []:=⟨fun _ h=>by simp at h,.inl ⟨rfl,rfl⟩⟩
def ArBB(Q:List Int)(i:Nat)(args:Array Value)(_:Nat)(_:World):Prop:=∃ p j,j+1+i=Q.length/\Q[j]?=some p/\args=#[.int .i64 (j:Int),.int .u8 p]
theorem lA{Tp:TypeId->Prop}{bs:Nat}(hn:Q.length=n)(z:n<=1000000000)(hb:∀ V,Rd V->V.cell? ⟨bs,0,none⟩=some (.slice ao n c)/\∀ j p,Q[j]?=some p->∃ b o,ao=some ⟨b,o,none⟩/\V.cell? ⟨b,o+j,none⟩=some (.int .u8 p)) :
  Itr Tp 171 #[.pointer (some ⟨bs,0,none⟩)] n (ArBB Q) Rd:=by
 intro l J O W N D s F A;have B:=(hb W (s 0 W A)).1
 have hb:Hid _:=hb
 have hn:Hid _:=hn
 have P:IntKind.i64.wrap ((n:Int) - 1)=(n:Int) - 1:=by rw[IntKind.wrap_i64];omega
 refine(callsIn_wide (n:=0)).1 ?_
 refine callsIn_of_wp Tryz.func171 rfl trivial ?_ rfl;simp only[Tryz.ntmps171,List.size_toArray,List.length_cons,List.length_nil,Nat.reduceAdd,Nat.reduceSub,Array.replicate_succ,Array.replicate_zero,List.push_toArray,List.append_toArray,List.nil_append,List.cons_append];gi_wp2;gi_loopw [3] (fun y wr=>∃ i:Nat,i<=n/\y=.int .i64 ((n:Int) - 1 - (i:Int))/\W.heap.size<=wr.heap.size/\J i wr) (fun y _=>(intOf y+1).toNat)
 case atStart=>exact⟨0,Nat.zero_le _,by simp,Nat.le_refl _,A⟩
 case round =>
  clear B;obtain⟨i,hi,rfl,f,d⟩:=hrel;obtain⟨B,g⟩:=hb.out wr (s _ _ d);by_cases r:i < n
  ·obtain⟨j,v⟩:∃ j,j+1+i=n:=⟨n - 1 - i,by omega⟩
   obtain⟨p,C⟩:∃ p,Q[j]?=some p:=⟨Q[j]'(by have:=hn.out;omega),List.getElem?_eq_getElem _⟩
   obtain⟨b,o,rfl,I⟩:=g j p C
   have q:(n:Int) - 1 - (i:Int)=(j:Int):=by omega
   have G:Hid (j+1+i=n):=v;have x:=F i _ wr wr r d f (Below.refl _ _) ⟨p,j,by rw[hn.out];exact v,C,rfl⟩;obtain⟨fn,tmps,assign,body,hy,E⟩:=x;rw[q]
   have L:IntKind.i64.wrap ((j:Int) - 1)=(j:Int) - 1:=by rw[IntKind.wrap_i64];omega
   have z1:(j:Int) < n:=by omega
   clear g q v;gi_wp2;refine⟨rfl,E.mono ?_⟩;rintro M K ⟨t,⟨rfl,m⟩ | ⟨rfl,m⟩⟩
   ·gi_wp2;go_roundw
    case rel=>exact⟨i+1,by omega,by have:=G.out;congr 1;omega,Nat.le_trans f t.size,m⟩
    case measure=>simp[intOf]
   ·gi_wp2;refine bodyPost_ret (results_none rfl _ _ _) rfl ?_
    exact⟨⟨_,rfl⟩,Nat.le_trans f t.size,.inr ⟨i,r,m⟩⟩
  ·have u:i=n:=by omega
   have q:(n:Int) - 1 - (i:Int)=-1:=by omega
   rw[q]
   have H:Hid (J n wr):=by show J n wr;rw[<- u];exact d
   clear g q u d;gi_wp2;go_end0;exact⟨⟨_,rfl⟩,f,.inl H.out⟩
theorem nA:Calls Tryz.prog 122 #[.slice ao n c] w fun e w'=>e=.returned (.func (.func 171) #[] #[.pointer (some ⟨w.heap.size,0,none⟩)])/\Blk w' w.heap.size [.slice ao n c] 87/\Below w.heap.size w w':=by
 go_enter Tryz.func122,Tryz.ntmps122;go_wp2;go_ret;exact⟨rfl,aD w _ _,ae w _⟩
def nxt(l:List Int):List Int:=match l.reverse.dropWhile (· == 255) with
 | []=>[]
 | x :: t=>t.reverse ++ [x+1]
theorem Bc:∀ {l:List Int},(∀ x∈l,x=255)->l.dropWhile (· == 255)=[]
 | [],_=>rfl
 | x :: l,h=>by
  have hx:=h x List.mem_cons_self;subst hx;rw[List.dropWhile_cons_of_pos (by decide)];exact Bc (fun y hy=>h y (List.mem_cons_of_mem _ hy))
theorem Bp(A B:List Int)(hx:x≠255)(h:∀ b∈B,b=255):(A ++ x :: B).reverse.dropWhile (· == 255)=x :: A.reverse:=by
 rw[List.reverse_append,List.reverse_cons,List.append_assoc,List.dropWhile_append_of_pos (fun a c=>by simp[h a (List.mem_reverse.1 c)]),List.singleton_append,List.dropWhile_cons_of_neg (by simp[hx])]
theorem gj(h:∀ x∈l,x=255):nxt l=[]:=by
 have:l.reverse.dropWhile (· == 255)=[]:=by
  exact Bc (fun x hx=>h x (List.mem_reverse.1 hx))
 unfold nxt;rw[this]
theorem vg{j:Nat}(f:l[j]?=some x)(hx:x≠255)(h:∀ i y,l[i]?=some y->j < i->y=255):nxt l=l.take j ++ [x+1]:=by
 have b:j < l.length:=(List.getElem?_eq_some_iff.1 f).1
 have e:l=l.take j ++ x :: l.drop (j+1):=by
  have c:=(List.take_append_drop j l).symm
  have k:l.drop j=x :: l.drop (j+1):=by
   rw[List.drop_eq_getElem_cons b];congr 1
   exact(List.getElem?_eq_some_iff.1 f).2
  rw[k] at c;exact c
 have m:l.reverse.dropWhile (· == 255)=x :: (l.take j).reverse:=by
  have d:=Bp (l.take j) (l.drop (j + 1)) hx (fun a g=>by
   obtain⟨i,hi⟩:=List.getElem?_of_mem g;rw[List.getElem?_drop] at hi
   exact h (j+1+i) a hi (by omega))
  rw[<- e] at d;exact d
 unfold nxt;rw[m];simp
theorem dO{b c:Nat}{B:World}(h:Below b w A)(a:Rec c A B)(f:b<=c)(hw:b<=A.heap.size):Below b w B :=
 ⟨a.os.trans h.os,a.tape.trans h.tape,a.output.trans h.output,Nat.le_trans h.size a.size,fun k e=>by
  obtain⟨o,d⟩:∃ o,A.heap[k]?=some o:=⟨A.heap[k]'(by omega),Array.getElem?_eq_getElem _⟩
  rw[a.same k o d (.inl (by omega)),<- d]
  exact h.block k e⟩
theorem mu{ty:TypeId}(h:Blk A g cs ty)(hr:Rec B A A'):Blk A' g cs ty:=hr.blk h
theorem OB.rcd(h:OB A D v l)(hr:Rec B A A'):OB A' D v l:=by
 refine⟨h.oct,h.ex.imp id ?_⟩;rintro⟨b,c,e,hd,hR⟩;obtain⟨cs,k⟩:=hR.kind;exact⟨b,c,e,hd,hR.same ((hr.blk k).blk.trans k.blk.symm)⟩
theorem By.take(h:By w (.slice ao n c) l)(j:Nat)(t:j<=n):By w (.slice ao j c) (l.take j):=by
 obtain⟨q,hc,hm⟩:=By.lens h;obtain⟨f,s,e,r,p,k,m,o⟩:=h.ex
 cases e
 have hlen:(l.take j).length=j:=by rw[List.length_take];omega
 refine⟨ao,c,by rw[hlen],by rw[hlen];omega,p,k,fun x hx=>m x (List.mem_of_mem_take hx),?_⟩;rcases o with rfl | ⟨d,g,e,b,a⟩
 ·exact .inl (by simp)
 ·exact .inr ⟨d,g,e,b,fun i x hi=>a i x (by
   rw[List.getElem?_take] at hi;split at hi
   ·exact hi
   ·cases hi)⟩
theorem o9{o:Nat}(c:w.cell? ⟨g,o,none⟩=some v):(loadVar 87 ⟨g,o,none⟩).run Tryz.prog w=.ok v w:=by go_simp
theorem pL{F:Fence}{Q:Exit->Act->World->Prop}{after:Array Edge}{a:Act}(hF:∀ f,F.fn f)(hu:a.eval (.tmp 14)=u)(hv:a.eval (.tmp 17)=v)(b:(Builtin.append_ #[87,87] 87 #[u,v]).run Tryz.prog w=.ok r w')(h:wpListIn F n Tryz.prog ops Q rest (a.put (some 18) r) w') :
  wpListIn F n Tryz.prog ops Q ({ dst:=some 18,op:=.call { callee:=.builtin .append,args:=#[.tmp 14,.tmp 17],argTypes:=#[87,87] },type:=87,pos:=pos,after:=after,guard:=none } :: rest) a w :=
 pI rfl hF (Oper.semAt_eq _ _ _ (fun c h=>by cases h)) (j0 (x:=14) (y:=17) rfl rfl hu hv b) h
theorem mO(h:By w (.slice ao n c) l)(N:n≤1000000000) :
    Calls Tryz.prog 110 #[.slice ao n c] w fun e w'=>∃ v,e=.returned v∧OB w' (w.heap.size≤·) v (nxt l)∧Below w.heap.size w w':=by
  obtain⟨hl,hnc,hcm⟩:= By.lens h;have c1:=aD w [.slice ao n c] 87;have b1:=ae w (.cells #[.slice ao n c] 87)
  have s1:(w.alloc (.cells #[.slice ao n c] 87)).heap.size=w.heap.size+1:=by simp
  have c2:=aD (w.alloc (.cells #[.slice ao n c] 87)) [.slice none 0 0] 87;have b2:=ae (w.alloc (.cells #[.slice ao n c] 87)) (.cells #[.slice none 0 0] 87)
  have s2:((w.alloc (.cells #[.slice ao n c] 87)).alloc (.cells #[.slice none 0 0] 87)).heap.size=w.heap.size+2:=by simp
  rw[s1] at c2
  have K:=c1.keep b2;have H:=aA b1 b2;obtain⟨Wa,X⟩:∃ Wa,Hid ((w.alloc (.cells #[.slice ao n c] 87)).alloc (.cells #[.slice none 0 0] 87)=Wa):=⟨_,rfl⟩;rw[X.out] at K c2 s2 H;have HB:=aC h;clear h c1 b1 b2 s1;refine(callsIn_wide (n:=0)).1 ?_
  refine callsIn_of_wp_marks Tryz.func110 rfl trivial ?_ rfl;simp only[Tryz.ntmps110,List.size_toArray,List.length_cons,List.length_nil,Nat.reduceAdd,Nat.reduceSub,Array.replicate_succ,Array.replicate_zero,List.push_toArray,List.append_toArray,List.nil_append,List.cons_append];gi_wp2_with (refine⟨trivial,rfl,?_⟩;gi_at_call 122;rw[X.out];refine(callsIn_wide.2 nA).mono ?_;rintro e' z ⟨rfl,L,s⟩);rw[s2] at L;have k1:=K.keep s;have k2:=c2.keep s;have q:=aA H s;have hs2:=s.size;have IT:=lA (Tp:=fun _=>False) (bs:=w.heap.size+2) (c:=c) (ao:=ao) (Q:=l) (n:=n) (Rd:=fun V=>Below z.heap.size z V) hl N (fun V hv=>⟨(L.keep hv).cell (i:=0) rfl,fun j p G=>By.at ((HB.out.keep q).keep hv) G⟩);refine iC IT (by rfl) (enters_of Tryz.func171 (by kernel_rfl) rfl) (fun i args n V V' h _=>h) (fun i args n V h=>by obtain⟨p,j,_,_,rfl⟩:= h;rfl)
    (fun i V=>Below z.heap.size z V∧∀ j x,l[j]?=some x→n≤j+i→x=255)
    (fun c i V=>c=.ret∧∃ v,Blk V (w.heap.size+1) [v] 87∧OB V (w.heap.size≤·) v (nxt l)∧Below w.heap.size w V)
    (fun i A B hx O=>⟨dO hx.1 O (Nat.le_refl _) hx.1.size,hx.2⟩)
    (fun c i A B hx O=>⟨hx.1,by obtain⟨v,h1,h2,S⟩:= hx.2;exact⟨v,O.blk h1,OB.rcd h2 O,dO S O q.size S.size⟩⟩)
    (fun i V hv=>hv.1) ⟨Below.refl _ _,fun j x G hn=>by have:=(List.getElem?_eq_some_iff.1 G).1;omega⟩ ?_ ?_ ?_
  · rintro l2 i args V Wv hl2 hlV hrec hiN ⟨hBV,m⟩ hb ⟨p,j,G,hp,rfl⟩
    simp;gi_wp2;refine⟨Below.refl _ _,?_⟩;intro V2 W2 u f hb2 M I hsz3 hV2 r hrec2;have d:=u.trans (hb2.mono u.size);have kb:=(k1.keep d).cell (i:=0) rfl;have D:=k2.keep d
    have hpo:0≤p∧p < 256:=HB.out.oct p (List.mem_of_getElem? hp);clear m hb hBV I M;by_cases T:p=255
    · subst T
      gi_wp2;refine⟨bF.of (Below.refl _ _),d,fun j2 x hx hn=>?_⟩;by_cases e:j2=j
      · subst e;rw[hp] at hx;cases hx;rfl
      · exact f j2 x hx (by omega)
    · have hp6 : p < 255 := by omega
      have BY:=By.take ((HB.out.keep q).keep d) j (by omega)
      have W:(l.take j).length=j:=by rw[List.length_take];omega
      have hjn:(j:Int)≤c:=by omega
      have w9:IntKind.u8.wrap (p+1)=p+1:=by rw[IntKind.wrap_u8];omega
      have R:=aC D;have HW:=aC d
      have HNX:Hid (nxt l=l.take j ++ [p+1]):=vg hp T (fun i2 y hy hi=>f i2 y hy (by omega));clear D d f
      gi_wp2_with (first
        | (have gate:=t;clear gate;refine pL (fun _=>trivial) rfl rfl t ?_;clear t)
        | (refine⟨trivial,rfl,?_⟩;gi_at_call 69;refine(CallsIn.inRound l2 (callsIn_wide.2 (cO BY (by omega)))).mono ?_;rintro e' w5 ⟨v5,rfl,O5,b5⟩;obtain⟨v6,F,t,O6,b6⟩:= ep (B:=W2.heap.size) (x:=p+1) O5 b5.size (by omega) (by omega);have C:=(R.out.keep b5).lH b6 (R.out.lt);have kc:=C.cell (i:=0) rfl;have kfr:=C.free 0;obtain⟨a5,c5,rfl⟩:= OB.sh O5;obtain⟨a6,c6,rfl⟩:= OB.sh O6;rw[W] at t ⊢))
      have hlt:w.heap.size+1 < z.heap.size:=k2.lt;have hsW:=HW.out.size;have U:=b5.trans b6
      have O7:OB F (W2.heap.size≤·) (.slice a6 (j+1) c6) (l.take j ++ [p+1]):=by
        have P:=O6;rw[show (l.take j ++ [p+1]).length=j+1 by rw[List.length_append,W];rfl] at P;exact P
      have O8:OB (F.setCell ⟨w.heap.size+1,0,none⟩ (.slice a6 (j+1) c6)) (W2.heap.size≤·) (.slice a6 (j+1) c6) (l.take j ++ [p+1]):=O7.same (fun b _ hb=>Below.heap_setCell F _ _ b (by show b≠w.heap.size+1;omega))
      have B6:Below w.heap.size w F:=(q.trans (HW.out.mono q.size)).trans (U.mono (Nat.le_trans q.size hsW));refine⟨(bF.of U).trans ⟨?_,fun k o hk h0 _=>(Below.heap_setCell F _ _ k (by show k≠w.heap.size+1;omega)).trans h0⟩,rfl,_,C.setCell (i:=0) _,?_,B6.setCell (show w.heap.size≤w.heap.size+1 by omega) _⟩
      · exact((Chg.refl (fun x=>x=w.heap.size+1) F).cell (g:=w.heap.size+1) (i:=0) (.inl rfl) _).size
      · rw[HNX.out]
        exact O8.mono (fun b _ hb=>by have:=q.size;omega)
  · rintro Z W' hD Y ⟨d,m⟩
    have D:=k2.keep d;have kc:=D.cell (i:=0) rfl;have kf:=D.free 0
    have hlt:w.heap.size+1 < z.heap.size:=k2.lt
    have J:(W'.setCell ⟨w.heap.size+1,0,none⟩ (.slice none 0 0)).heap[Z]?=some (.deferred (some [])):=(Below.heap_setCell W' _ _ Z (by show Z≠w.heap.size+1;omega)).trans Y;gi_wp2;refine⟨by simp,.inl ⟨_,_,rfl,run_takeDeferred J,?_⟩⟩;have E:=Rec.put (B:=z.heap.size) J rfl hD (.deferred none);have k3:=mu (D.setCell (i:=0) (.slice none 0 0)) E;refine⟨_,oO rfl rfl (o9 (k3.cell (i:=0) rfl)),_,rfl,?_,?_⟩
    · rw[gj (fun x hx => by
        obtain⟨j,G⟩:= List.getElem?_of_mem hx
        exact m j x G (by omega))]
      exact q8 _ _
    · have P:Below w.heap.size w (W'.setCell ⟨w.heap.size+1,0,none⟩ (.slice none 0 0)):=(q.trans (d.mono q.size)).setCell (show w.heap.size≤w.heap.size+1 by omega) _
      exact dO P E q.size P.size
  · rintro Z c i W' hD Y hiN ⟨rfl,v,h1,h2,S⟩
    gi_wp2;refine⟨by simp,.inl ⟨_,_,rfl,run_takeDeferred Y,?_⟩⟩;have E:=Rec.put (B:=z.heap.size) Y rfl hD (.deferred none);have k3:=mu h1 E;exact⟨_,oO rfl rfl (o9 (k3.cell (i:=0) rfl)),_,rfl,OB.rcd h2 E,dO S E q.size S.size⟩
theorem cV:Lt (x :: a) (y :: b)<->x < y\/(x=y/\Lt a b):=by
 unfold Lt;rw[dn];by_cases c:x < y
 ·simp[c]
 ·by_cases d:y < x
  ·rw[if_neg c,if_pos d];constructor
   ·intro h;exact absurd h (by decide)
   ·rintro(h | ⟨h,_⟩)<;>omega
  ·rw[if_neg c,if_neg d];have:x=y:=by omega
   simp[this]
theorem gi:Lt [] (y :: b):=by simp[Lt,dn]
theorem not_lt_nil:¬ Lt a []:=by cases a<;>simp[Lt,dn]
theorem fO(s:List Int):Lt (s ++ a) (s ++ b)<->Lt a b:=by
 induction s with
 | nil=>exact Iff.rfl
 | cons x s ih=>rw[List.cons_append,List.cons_append,cV,ih];simp
theorem gM:∀ l:List Int,(∀ x∈l,x=255)\/∃ A x B,l=A ++ x :: B/\x≠255/\∀ b∈B,b=255
 | []=>.inl (fun _ h=>by simp at h)
 | y :: t=>by
  rcases gM t with h | ⟨A,x,B,rfl,hx,hB⟩
  ·by_cases hy:y=255
   ·exact .inl (fun x hx=>by
     rcases List.mem_cons.1 hx with rfl | hx
     ·exact hy
     ·exact h x hx)
   ·exact .inr ⟨[],y,t,rfl,hy,h⟩
  ·exact .inr ⟨y :: A,x,B,rfl,hx,hB⟩
theorem kH{A B:List Int}(hx:x≠255)(hB:∀ b∈B,b=255):nxt (A ++ x :: B)=A ++ [x+1]:=by
 unfold nxt;rw[Bp A B hx hB];simp
theorem wy(h:nxt l=[]):∀ x∈l,x=255:=by
 rcases gM l with h1 | ⟨A,x,B,rfl,hx,hB⟩
 ·exact h1
 ·rw[kH hx hB] at h;simp at h
theorem mU{c:List Int}(h:nxt l≠[])(hc:l <+: c):Lt c (nxt l):=by
 rcases gM l with a | ⟨A,x,B,rfl,hx,b⟩
 ·exact absurd (gj a) h
 ·obtain⟨t,rfl⟩:=hc;rw[kH hx b,List.append_assoc,fO,List.cons_append,cV];exact .inl (by omega)
theorem tw:∀ {B t:List Int},(∀ b∈B,b=255)->Oct t->Lt t B\/B <+: t
 | [],_,_,_=>.inr (List.nil_prefix)
 | b :: B,[],_,_=>.inl gi
 | b :: B,z :: t,hB,ht=>by
  have hb:=hB b List.mem_cons_self;have c:=ht z List.mem_cons_self;subst hb;by_cases h:z=255
  ·subst h;rcases tw (fun b hb=>hB b (List.mem_cons_of_mem _ hb)) (fun y hy=>ht y (List.mem_cons_of_mem _ hy)) with a | a
   ·exact .inl (cV.2 (.inr ⟨rfl,a⟩))
   ·exact .inr (List.cons_prefix_cons.2 ⟨rfl,a⟩)
  ·exact .inl (cV.2 (.inl (by omega)))
theorem oR:∀ {A B c:List Int} {x:Int},(∀ b∈B,b=255)->Oct c->Lt c (A ++ [x+1])->Lt c (A ++ x :: B)\/(A ++ x :: B) <+: c
 | [],B,[],x,_,_,_=>.inl gi
 | [],B,y :: t,x,hB,hc,h=>by
  rw[List.nil_append,cV] at h;rw[List.nil_append];rcases h with h | ⟨_,h⟩
  ·by_cases e:y=x
   ·subst e;rcases tw hB (fun z hz=>hc z (List.mem_cons_of_mem _ hz)) with h1 | h1
    ·exact .inl (cV.2 (.inr ⟨rfl,h1⟩))
    ·exact .inr (List.cons_prefix_cons.2 ⟨rfl,h1⟩)
   ·exact .inl (cV.2 (.inl (by omega)))
  ·exact absurd h not_lt_nil
 | a :: A,B,[],x,_,_,_=>.inl gi
 | a :: A,B,y :: t,x,hB,hc,h=>by
  rw[List.cons_append,cV] at h;rw[List.cons_append];rcases h with h | ⟨h1,h2⟩
  ·exact .inl (cV.2 (.inl h))
  ·subst h1;rcases oR hB (fun z hz=>hc z (List.mem_cons_of_mem _ hz)) h2 with h3 | h3
   ·exact .inl (cV.2 (.inr ⟨rfl,h3⟩))
   ·exact .inr (List.cons_prefix_cons.2 ⟨rfl,h3⟩)
theorem nu{c:List Int}(hc:Oct c)(d:¬ l <+: c)(e:¬ Lt c l):¬ Lt c (nxt l):=by
 rcases gM l with f | ⟨A,x,B,rfl,hx,b⟩
 ·rw[gj f];exact not_lt_nil
 ·rw[kH hx b];intro h;rcases oR b hc h with a | a
  ·exact e a
  ·exact d a
end
end Kv
end
section
namespace Kv
open Go.RowKit Go.Lib Pg
attribute [local go_sem] Oper.semAt_some
end Kv
end
section
namespace Kv
open Go.RowKit Go.Lib Pg
attribute [local go_sem] Oper.semAt_some
section
variable {w:World}{pg:Option Addr}{lb:Array Value}{K D:Nat->Prop}{W:List aE}{p:List Int}
theorem nE{k:Nat}:Calls Tryz.prog 109 #[.pointer pg,.func (.func k) #[] lb] w fun e w'=>e=.returned (.func (.func 164) #[] #[.pointer (some ⟨w.heap.size,0,none⟩),.pointer (some ⟨w.heap.size + 1,0,none⟩)])/\Blk w' w.heap.size [.pointer pg] 37/\Blk w' (w.heap.size + 1) [.func (.func k) #[] lb] 76/\Below w.heap.size w w':=by
 have c:=ae w (.cells #[.pointer pg] 37);have c1:=aD w [.pointer pg] 37;have b:=ae (w.alloc (.cells #[.pointer pg] 37)) (.cells #[.func (.func k) #[] lb] 76);have c2:=aD (w.alloc (.cells #[.pointer pg] 37)) [.func (.func k) #[] lb] 76
 have s1:(w.alloc (.cells #[.pointer pg] 37)).heap.size=w.heap.size+1:=by simp
 rw[s1] at c2;go_enter Tryz.func109,Tryz.ntmps109;go_wp2;go_ret;exact⟨rfl,c1.keep b,c2,aA c b⟩
theorem SA.oct{g n N:Nat}{E:aE}(h:SA w K D g E W n N):∀ x∈E,Oct x.1:=by
 obtain⟨F,V,m,Q,d,T,f,hX,rfl,i⟩:=h.open;obtain⟨L,rfl,A,O,S,k,r⟩:=hX.map.ex;intro x hx;rw[dz] at hx;obtain⟨e,he,rfl⟩:=List.mem_map.1 hx;obtain⟨es,a,b⟩:=List.mem_flatten.1 he;obtain⟨p,c,rfl⟩:=List.mem_map.1 a;exact((A.cC p c).1.dP e b).k.oct
theorem vj{k:List Int}(h:p <+: k):¬ Lt k p:=by
 obtain⟨t,rfl⟩:=h;intro h;have:Lt (p ++ t) (p ++ []):=by simpa using h
 rw[fO] at this;exact not_lt_nil this
theorem yZ{x:KV}(hx:Oct x.1):nT p (nxt p) x=decide (p <+: x.1):=by
 unfold nT;by_cases h:p <+: x.1
 ·have a:=vj h;by_cases hn:nxt p=[]
  ·simp[h,a,hn]
  ·simp[h,a,mU hn h]
 ·by_cases a:Lt x.1 p
  ·simp[h,a]
  ·have hn:nxt p≠[]:=fun e=>by
    rcases tw (wy e) hx with b | b
    ·exact a b
    ·exact h b
   simp[h,a,hn,nu hx h a]
end
end Kv
end
section
namespace Kv
open Go.RowKit Go.Lib Pg
section
variable {w:World}{K D:Nat->Prop}{v:Value}{l:List Int}{W:List aE}
structure ByU(w:World)(v:Value)(l:List Int):Prop where
 byt:By w v l
 u8:∀ b o n c,v=.slice (some ⟨b,o,none⟩) n c->∃ cs m,w.heap[b]?=some (.cells cs 5 m)
theorem ByU.chg{w':World}(h:ByU w v l)(hc:Chg K w w')(j:∀ b,K b->∃ cs t,Blk w b cs t/\t≠5):ByU w' v l:=by
 have hs:∀ b o n c,v=.slice (some ⟨b,o,none⟩) n c->w'.heap[b]? = w.heap[b]? := fun b o n c e=>by
  obtain⟨cs,m,hb⟩:=h.u8 b o n c e;refine hc.same b (lt_of_block hb) fun k=>?_
  obtain⟨z,t,hd,p⟩:=j b k;have:=hd.blk.symm.trans hb;simp at this;exact p this.2.1
 refine⟨?_,fun b o n c e=>by rw[hs b o n c e];exact h.u8 b o n c e⟩;obtain⟨u,c,f,s,y,g,q,r⟩:=h.byt.ex;refine⟨u,c,f,s,y,g,q,r.imp id ?_⟩;rintro⟨b,o,rfl,d,a⟩;exact⟨b,o,rfl,Nat.lt_of_lt_of_le d hc.size,fun i x hi=>by rw[World.cell?_of_block (w:=w) (hs b o _ _ f)];exact a i x hi⟩
theorem ByU.of(h:OB w D v l):ByU w v l:=by
 refine⟨h.by,fun b o n c e=>?_⟩;rcases h.ex with⟨rfl,_⟩ | ⟨b',c',rfl,_,hR⟩
 ·cases e
 ·cases e;obtain⟨cs,k⟩:=hR.kind;exact⟨_,_,k.blk⟩
theorem SA.kind{g n N:Nat}{E:aE}(h:SA w K D g E W n N):∀ b,K b->∃ cs t,Blk w b cs t/\t≠5:=by
 obtain⟨F,V,m,Q,jv,T,oj,_,_,_,_,_,_,_,O⟩:=h.ex;exact O.kind
end
end Kv
end
end Go.Proofs.YtjejmkcjflhoiaaGreatDoor
