import Derived.Test.YtidnifmehnjipaaGreatJaq
import Derived.Laws.IdiomRangeMap
import Derived.MapKept
set_option maxRecDepth 100000
set_option maxHeartbeats 8000000
namespace Go.Proofs.YtidnifmehnjipaaGreat
section
namespace Qu
open Go.RowKit Go.Lib Pg Kv Bk Pw
theorem KN:Kd Tryz.prog 74 61 2 16 (.agg #[.int .u64 0,.int .i64 0]):=⟨by kernel_rfl,by kernel_rfl,rfl,by simp[Value.cells,Value.oneCell'],by decide⟩
def ecs (p:Int × Int):List Value:=[.int .u64 p.1,.int .i64 p.2]
def ecl (l:List (Int × Int)):List Value:=(l.map ecs).flatten
theorem vY (l:List (Int × Int)):(ecl l).length=l.length * 2:=by
 induction l with
 | nil=>rfl
 | cons a l ih=>simp only[ecl,List.map_cons,List.flatten_cons,List.length_append,List.length_cons] at *;rw[ih];simp[ecs];omega
structure EA (w:World) (B:Nat) (v:Value) (l:List (Int × Int)):Prop where
 ex:(v=.slice none 0 0/\l=[])\/∃ b c,v=.slice (some ⟨b,0,none⟩) l.length c/\B<=b/\Rw w 61 2 b l.length c (ecl l)
section
variable {w w':World} {B B':Nat} {v:Value} {l:List (Int × Int)}
theorem EA.shape (h:EA w B v l):∃ ao c,v=.slice ao l.length c:=by
 rcases h.ex with⟨rfl,rfl⟩ | ⟨b,c,rfl,_⟩
 ·exact⟨none,0,rfl⟩
 ·exact⟨_,c,rfl⟩
theorem EA.nil (w:World) (B:Nat):EA w B (.slice none 0 0) []:=⟨.inl ⟨rfl,rfl⟩⟩
theorem EA.keep (h:EA w B v l) (hb:Below w.heap.size w w'):EA w' B v l:=⟨h.ex.imp id (fun ⟨b,c,e,hl,hR⟩=>⟨b,c,e,hl,hR.keep hb⟩)⟩
theorem EA.chg {F:Nat->Prop} (h:EA w B v l) (hc:Chg F w w') (hF:∀ b,F b->b < B):EA w' B v l:=⟨h.ex.imp id (fun ⟨b,c,e,hl,hR⟩=>⟨b,c,e,hl,hR.chg hc (fun hf=>by have:=hF b hf;omega)⟩)⟩
theorem EA.low (h:EA w B v l) (hB:B'<=B):EA w B' v l:=⟨h.ex.imp id (fun ⟨b,c,e,hl,hR⟩=>⟨b,c,e,Nat.le_trans hB hl,hR⟩)⟩
theorem EA.rcd {C:Nat} (h:EA w B v l) (hr:Rec C w w'):EA w' B v l:=⟨h.ex.imp id (fun ⟨b,c,e,hl,hR⟩=>⟨b,c,e,hl,Kv.Rw.rcd hR hr⟩)⟩
theorem y8 {p:Int × Int} {a:Addr} (ty:TypeId) (h:EA w B v l) (t:B<=w.heap.size) (x:l.length<=2000000000) (c0:w.cell? (a.add 0)=some (.int .u64 p.1)) (c1:w.cell? (a.add 1)=some (.int .i64 p.2)) :
  ∃ v' w',(Builtin.append_ #[74,74] ty #[v,.slice (some a) 1 1]).run Tryz.prog w=.ok v' w'/\EA w' B v' (l ++ [p])/\Chg (fun b=>B<=b/\∃ cs,Blk w b cs 61) w w':=by
 have d:∀ j u,(ecs p)[j]? = some u->w.cell? (a.add j)=some u:=fun j u f=>by
  match j with
  | 0=>simp[ecs] at f;rw[<- f];exact c0
  | 1=>simp[ecs] at f;rw[<- f];exact c1
  | k+2=>simp[ecs] at f
 rcases h.ex with⟨rfl,rfl⟩ | ⟨b,c,rfl,hb,g⟩
 ·obtain⟨i,w',n,g,hw⟩:=er (w:=w) KN ty a 1 1 (ecs p) rfl d (by omega) (by omega) (by omega);exact⟨_,w',n,⟨.inr ⟨_,i,rfl,t,by simpa[ecl] using g⟩⟩,Chg.of hw⟩
 ·obtain⟨r,i,w',n,o,m,q⟩:=dh KN ty g a 1 1 (ecs p) rfl d (fun u hu=>by simp[ecs] at hu;rcases hu with rfl | rfl<;>rfl) (by omega) (by omega);refine⟨_,w',n,⟨.inr ⟨r,i,by simp,by rcases o with rfl | rfl<;>omega,?_⟩⟩,q.mono (fun y _ e=>?_)⟩
  ·simpa[ecl] using m
  ·have s:y=b:=e;subst s;exact⟨hb,g.kind⟩
end
end Qu
end
section
namespace Qu
open Go.RowKit Go.Lib Pg Kv Bk Pw
attribute [local go_sem] Oper.semAt_some
section
variable {w:World}{f:FuncId}{lb:Array Value}{X K D:Nat->Prop}{W:List ay}
theorem nI:Calls Tryz.prog 72 #[.func (.func f) #[] lb] w fun e w'=>∃ bm,e=.returned (.func (.func 120) #[] #[.pointer (some ⟨bm,0,none⟩)])/\w.heap.size<=bm/\Blk w' bm [.func (.func f) #[] lb] 133/\Below w.heap.size w w':=by
 have b:=af w (.cells #[.func (.func f) #[] lb] 133);have c1:=aj w [.func (.func f) #[] lb] 133;go_enter Tryz.func72,Tryz.ntmps72;go_wp2;go_ret;exact⟨_,rfl,Nat.le_refl _,c1,b⟩
theorem swalkG{Tp:TypeId->Prop}{g n N:Nat}{E:ay}{fv u:Value}{f t:List Int}(h:SA w K D g E W n N)(M:N<=100000000)(hf:By w fv f)(p:By w u t)(s:f.length<=1000000000)(r:t.length<=1000000000)(c:∀ b,X b->b=g\/¬ K b)(l:∀ b,X b->∀ cs,¬ Blk w b cs 5)(j:∀ b,X b->b < w.heap.size)(z:¬ Tp 131)(d:¬ Tp 211) :
  Calls Tryz.prog 73 #[.pointer (some ⟨g,0,none⟩),fv,u] w fun e w'=>∃ v EL,e=.returned v/\BR Tp X w.heap.size w' g EL v/\EL.map En.kl2=E.filter (iL f t)/\Below w.heap.size w w':=by
 obtain⟨F,V,m,Q,R,T,oj,o,rfl,J⟩:=h.open;obtain⟨L,q,hw⟩:=xwmG o M c l j;have A:=nS (Tp:=Tp) q hf p s r z d;have c0:=o.blk.cell (i:=0) rfl;obtain⟨Y,P,rfl,-⟩:=id hf.ex;obtain⟨ta,tc,rfl,-⟩:=id p.ex;generalize hfn:f.length=fn at *;generalize htn:t.length=tn at *;have O:=ah o;have H:=ah q;have I:=ah hw;clear o q hw h J hf p hfn htn c l j z d;go_enter Tryz.func73,Tryz.ntmps73;go_wp2_with first
  | (go_at_call 62;go_must (refine A.mono ?_);rintro e U ⟨S,rfl,x,G⟩;clear A)
  | (go_at_call 122;go_must (refine np.mono ?_);rintro e Z ⟨rfl,C,B,y⟩)
 go_ret;exact⟨_,_,rfl,si O.out.blk H.out x G C B y (Nat.le_refl _),I.out f t,ai x y⟩
def bX(l:List (List Int × List Int)):List (Int × Int):=l.map (fun x=>(Ky.rdB x.1,bE x.2))
end
section
variable {Wn:List ay}{EL:List En}
def TpQ(t:TypeId):Prop:=t=61
def ArN(EL:List En)(i:Nat)(args:Array Value)(_:Nat)(_:World):Prop:=∃ e,EL[i]?=some e/\args=#[.agg #[.int .u64 (Ky.rdB e.kl),.int .i64 (wrap64 (bE e.vl))]]
theorem sd{W0 W1:World}{K D X XI:Nat→Prop}{g bm bs1 bs2 bw x0 N r:Nat}{E:ay}(IT:Itr TpQ 158 #[.pointer (some ⟨bw,0,none⟩)] EL.length (ArC EL) (fun V=>Chg XI W1 V))(hXX:∀ b,b < W1.heap.size→X b→XI b)(t:RdC XI W1 g bs1 bs2 bw W0)(hbm:Blk W0 bm [.func (.func 173) #[] #[.pointer (some ⟨bs1,0,none⟩),.pointer (some ⟨bs2,0,none⟩)]] 133)(hXm:¬ X bm)(hXs:¬ X bs1)(hXt:¬ X bs2)(M:∀ e ∈ EL,e.kl.length≤1000000000∧e.vl.length≤1000000000)(j:r < 18)(hr0:0 < r)(O:∀ e ∈ EL,Ky.frm r=Ky.fIn e.kl)(hle:EL.length≤N)(hx:x0+N≤2000000000000000000) :
    ItrE W0 TpQ g x0 120 #[.pointer (some ⟨bm,0,none⟩)] EL.length (ArN EL) (RdS W0 X K D g E Wn N):=by
  intro l J0 J Jt Jx W hNB hW0 U L hSt hSx hgW y hJ hY h0;obtain⟨_,_,⟨c0,u0,xx,s0⟩,_⟩:= y _ h0;have B1:=af W (.cells #[.func (.yield l) #[] #[]] 195);have Y1:=aj W [.func (.yield l) #[] #[]] 195
  have s1:(W.alloc (.cells #[.func (.yield l) #[] #[]] 195)).heap.size=W.heap.size+1:=by simp
  have cK:(W.alloc (.cells #[.func (.yield l) #[] #[]] 195)).cell? ⟨bm,0,none⟩=some (.func (.func 173) #[] #[.pointer (some ⟨bs1,0,none⟩),.pointer (some ⟨bs2,0,none⟩)]):=((hbm.chg c0 hXm).keep B1).cell (i:=0) rfl;obtain⟨d,P⟩:∃ Wa,Hid (W.alloc (.cells #[.func (.yield l) #[] #[]] 195)=Wa):=⟨_,rfl⟩;rw[P.out] at B1 Y1 s1;have HY:=ah hY;have HJ:=ah hJ;have HJ0:=ah y;have J2:=U _ _ h0 (Rec.of B1)
  have E2:Ext W.heap.size d d:=⟨fun _ _ _=>rfl,Nat.le_refl _⟩
  have hw2:W.heap.size+1≤d.heap.size:=by omega
  have ITC:=rK (g:=g) (bs1:=bs1) (bs2:=bs2) (x0:=x0) IT (by unfold TpQ;decide) (by omega)
  have Q : Hid (∀ V, RdS W0 X K D g E Wn N V → RdC XI W1 g bs1 bs2 bw V) := ah (fun V hR => by
    obtain⟨c1,_,x,s1⟩:= hR
    exact⟨t.1.trans c1 hXX,t.2.1.chg c1 hXs,t.2.2.1.chg c1 hXt,s1.kv⟩)
  have I:=ah M;have HRK:=ah O;have HYB:=ah Y1;clear y hJ hY h0 s0 c0 Y1 hNB u0 M O t IT;refine(callsIn_wide (n:=0)).1 ?_
  refine callsIn_of_wp_marks Tryz.func120 rfl trivial ?_ rfl;simp only[Tryz.ntmps120,List.size_toArray,List.length_cons,List.length_nil,Nat.reduceAdd,Nat.reduceSub,Array.replicate_succ,Array.replicate_zero,List.push_toArray,List.append_toArray,List.nil_append,List.cons_append];gi_wp2;rw[P.out];refine wZ ITC (by rfl) (enters_of Tryz.func173 (by kernel_rfl) rfl) (fun i args n V V' h hc=>h.cel hc) (fun i args n V h=>by obtain⟨e,kv,vv,s,_,rfl,_⟩:= h;rfl)
    (fun V=>J0 V∧Ext W.heap.size d V)
    (fun i V=>J d i V∧Ext W.heap.size d V)
    (fun i V=>Jt d i V∧Ext W.heap.size d V)
    (fun c i V=>c=.ret∧Jx d i V∧d.heap.size≤V.heap.size)
    (fun A B hx j=>⟨U A B hx.1 (j.mono (by omega)),hx.2.rcd j⟩)
    (fun i A B hx j=>⟨L d i A B hx.1 (j.mono (by omega)),hx.2.rcd j⟩)
    (fun i A B hx j=>⟨hSt d i A B hx.1 (j.mono (by omega)),hx.2.rcd j⟩)
    (fun c i A B hx j=>⟨hx.1,hSx d i A B hx.2.1 (j.mono (by omega)),Nat.le_trans hx.2.2 j.size⟩)
    (by omega)
    (fun V G=>by obtain⟨q1,q2,q3,q4⟩:= HJ0.out V G.1;exact⟨q1,q2,Q.out V q3,q4 d (by omega) (fe.of G.2),G.2.tick hgW⟩)
    (fun i V G=>by obtain⟨q1,q2,q3,q5,q4⟩:= HJ.out d i V G.1;exact⟨q1,q2,Q.out V q3,fun hi=>⟨q4 (by omega),G.2.tick hgW⟩⟩)
    ⟨J2,E2⟩ ?_ ?_ ?_
  · rintro l2 i args V Wv hl hlV hrec hiN ⟨hJi,H⟩ hb ⟨e0,kv,vv,s0,o,rfl,T,hv0,_⟩
    obtain⟨ak0,nk,hk1⟩:= T.shape;obtain⟨av,nv,hv1⟩:= hv0.shape;subst hk1 hv1;simp;gi_wp2;refine⟨Below.refl _ _,?_⟩;intro V2 W2 S f p ac R hsz3 hV2 rl hrec2;obtain⟨e1,kv1,vv1,t1,z,u,m,hv2,ht1⟩:= ac;obtain rfl:e1=e0:=by rw[o] at z;cases z;rfl
    simp at u;obtain⟨rfl,rfl⟩:= u;have q:=List.mem_of_getElem? o;have tA:=Ky.BQ m.by (I.out e1 q).1 j hr0 (HRK.out e1 q)
    have hN2:=ah (fun w3 (B3:Below W2.heap.size W2 w3)=>ph (ByU.of (hv2.keep B3)) (I.out e1 q).2)
    have aa:EL[i]?=some e1:=o;have yB:=f.blk HYB.out (Nat.le_refl _);have HE2:=ah f;have HYY:=ah (HY.out d i #[.agg #[.int .u64 (Ky.rdB e1.kl),.int .i64 (wrap64 (bE e1.vl))]] V2);have HJT:=ah S;have C:=ah p
    have hs2:d.heap.size≤V2.heap.size:=f.2
    have hs3:V2.heap.size≤W2.heap.size:=p.size;have HYV:=ah (yB.keep p)
    have Y:Hid (∃ e,EL[i]?=some e∧(#[.agg #[.int .u64 (Ky.rdB e1.kl),.int .i64 (wrap64 (bE e1.vl))]]:Array Value)=#[.agg #[.int .u64 (Ky.rdB e.kl),.int .i64 (wrap64 (bE e.vl))]]):=ah ⟨e1,aa,rfl⟩;clear hJi H hb T hv0 m hv2 R f S p yB z o ht1 aa q;obtain⟨cc,hcc⟩:∃ cc,Hid (Ky.rdA r e1.kl=cc):=⟨_,rfl⟩;obtain⟨F,Z⟩:∃ F,Hid (Ky.rdB e1.kl=F):=⟨_,rfl⟩;obtain⟨nn,hnn⟩:∃ nn,Hid (bE e1.vl=nn):=⟨_,rfl⟩;obtain⟨oo,hoo⟩:∃ oo,Hid (Rc.aV (Rc.bM e1.vl)=oo):=⟨_,rfl⟩;simp only[hcc.out,Z.out] at tA
    have HA2:Hid (∃ e,EL[i]?=some e∧(#[.agg #[.int .u64 F,.int .i64 (wrap64 nn)]]:Array Value)=#[.agg #[.int .u64 (Ky.rdB e.kl),.int .i64 (wrap64 (bE e.vl))]]):=by
      rw[← Z.out,← hnn.out];exact Y
    have HY2:=ah (HY.out d i #[.agg #[.int .u64 F,.int .i64 (wrap64 nn)]] V2);clear HYY Y;gi_wp2_with first
      | (refine⟨trivial,rfl,?_⟩;gi_at_call 121;refine(CallsIn.inRound l2 (callsIn_wide.2 tA)).mono ?_;rintro e' w3 ⟨rfl,B3⟩;clear tA;have B4:=af w3 (.cells #[.int .i64 (r:Int),.int .u64 cc,.int .u64 F] 90);have k4:=aj w3 [.int .i64 (r:Int),.int .u64 cc,.int .u64 F] 90;have tN:=hN2.out _ (ai B3 B4);rw[hnn.out,hoo.out] at tN)
      | (refine⟨trivial,rfl,?_⟩;gi_at_call 65;refine(CallsIn.inRound l2 (callsIn_wide.2 tN)).mono ?_;rintro e' w5 ⟨rfl,B5⟩;clear tN;have B6:=ai (ai B3 B4) B5;have kC:=(k4.keep B5).cell (i:=2) rfl;have yC:=(HYV.out.keep B6).cell (i:=0) rfl;have hYY:=HY2.out _ (by omega) (by omega) HJT.out (by omega) (ai C.out B6) HA2.out;obtain⟨fn,tmps,assign,body,hy,hR⟩:= hYY;have ab:RoundIn (Fence.wide.inRound l2) 0 Tryz.prog l fn tmps assign body w5 _:=⟨hR.1,fun c cs _=>hR.2 c cs (fun _ h=>by cases h)⟩;have HR:=ah ab;have HK:=ah B6;clear hR ab B3 B4 B5 B6 k4)
    refine⟨rfl,HR.out.mono ?_⟩;rintro e' w7 ⟨hk5,h5⟩
    have v:bH TpQ W.heap.size W2 w7:=(bH.of HK.out).trans hk5
    have m:bH TpQ d.heap.size W2 w7:=v.mono (by omega);rcases h5 with⟨rfl,hJ5⟩ | ⟨rfl,hJ5⟩
    · gi_wp2
      exact⟨m,hJ5,Ext.mix (HE2.out.keep C.out) v (HJ.out d (i+1) w7 hJ5).2.2.2.1⟩
    · gi_wp2
      exact⟨m,rfl,hJ5,Nat.le_trans (HE2.out.keep C.out).2 v.size⟩
  · rintro D' W' hD hK ⟨hJn,hE⟩
    gi_wp2;refine⟨by simp,.inl ⟨_,_,rfl,run_takeDeferred hK,?_⟩⟩;have:=hE.2;exact⟨_,results_none rfl _ _ _,⟨_,rfl⟩,by simp;omega,d,by omega,.inl (L d _ _ _ hJn (Rec.put hK rfl (by omega) _))⟩
  · rintro D' c i W' hD hK hiN ⟨rfl,hJx',hsz⟩
    gi_wp2;refine⟨by simp,.inl ⟨_,_,rfl,run_takeDeferred hK,?_⟩⟩;exact⟨_,results_none rfl _ _ _,⟨_,rfl⟩,by simp;omega,d,by omega,.inr ⟨i,by omega,hSx d (i+1) _ _ hJx' (Rec.put hK rfl (by omega) _)⟩⟩
end
section
variable {ops:Array Oper}{rest:List Oper}{pos:String}
def dr(e:En):Int × Int:=(Ky.rdB e.kl,wrap64 (bE e.vl))
theorem AN{F:Fence}{n:Nat}{Q:Exit->Act->World->Prop}{after:Array Edge}{a:Act}{w w':World}{u v r:Value}(hF:∀ f,F.fn f)(hu:a.eval (.tmp 8)=u)(d:a.eval (.tmp 10)=v)(b:(Builtin.append_ #[74,74] 74 #[u,v]).run Tryz.prog w=.ok r w')(h:wpListIn F n Tryz.prog ops Q rest (a.put (some 11) r) w') :
  wpListIn F n Tryz.prog ops Q ({ dst:=some 11,op:=.call { callee:=.builtin .append,args:=#[.tmp 8,.tmp 10],argTypes:=#[74,74] },type:=74,pos:=pos,after:=after,guard:=none } :: rest) a w :=
 Kv.qY rfl hF (Oper.semAt_eq _ _ _ (fun c h=>by cases h)) (Kv.jE (x:=8) (y:=10) rfl rfl hu d b) h
structure TqI(Wb:World)(a t:Nat)(R:World)(K D:Nat->Prop)(g:Nat)(E:ay)(Wn:List ay)(N x:Nat)(l:List (Int × Int))(V:World):Prop where
 chg:Chg (fun b=>b=g\/b=t) Wb V
 sa:SA V K D g E Wn x N
 out:∃ v,Blk V t [v] 74/\EA V R.heap.size v l
 ext:fe a R V
structure TqO(Wb:World)(t:Nat)(K D:Nat->Prop)(g:Nat)(E:ay)(Wn:List ay)(N x:Nat)(V:World):Prop where
 chg:Chg (fun b=>b=g\/b=t) Wb V
 sa:SA V K D g E Wn x N
 out:Blk V t [.slice none 0 0] 74
end
section
variable {Wb V V' R:World} {a t g x N:Nat} {K D:Nat->Prop} {E:ay} {Wn:List ay} {l:List (Int × Int)}
section
variable {v:Value}
theorem EU(h:SA V K D g E Wn x N)(h1:Blk V t [v] 74):t≠g:=fun e=>by
 obtain⟨cs,k⟩:=h.kv;subst e;exact absurd (h1.eq k).2 (by decide)
theorem TqI.rcd(h:TqI Wb a t R K D g E Wn N x l V)(b:Rec Wb.heap.size V V'):TqI Wb a t R K D g E Wn N x l V':=by
 obtain⟨v,d,c⟩:=h.out;exact⟨vR h.chg b (Nat.le_refl _),zJ h.sa b,⟨v,jN d b,c.rcd b⟩,h.ext.rcd b⟩
theorem TqO.rcd(h:TqO Wb t K D g E Wn N x V)(hr:Rec Wb.heap.size V V'):TqO Wb t K D g E Wn N x V':=⟨vR h.chg hr (Nat.le_refl _),zJ h.sa hr,jN h.out hr⟩
theorem TqI.tick(h:TqI Wb a t R K D g E Wn N x l V)(f:g < a)(i:a<=R.heap.size):TqI Wb a t R K D g E Wn N (x+1) l (tick g V x):=by
 obtain⟨v,c,d⟩:=h.out;have hc:=dR g x V;exact⟨h.chg.trans hc (fun b _ e=>.inl e),h.sa.tick,⟨v,c.chg hc (EU h.sa c),d.chg hc (fun b e=>by have j:b=g:=e;omega)⟩,h.ext.tick f⟩
theorem TqO.tick(h:TqO Wb t K D g E Wn N x V)(d:g < a)(c:fe a R V):TqI Wb a t R K D g E Wn N (x+1) [] (tick g V x):=by
 have hc:=dR g x V;exact⟨h.chg.trans hc (fun b _ e=>.inl e),h.sa.tick,⟨_,h.out.chg hc (EU h.sa h.out),EA.nil _ _⟩,c.tick d⟩
theorem EZ(hc:Chg (fun b=>b=g\/b=t) Wb V)(a:SA V K D g E Wn x N)(d:Blk V t [v] 74):RdS Wb (fun b=>b=g\/b=t) K D g E Wn N V:=by
 refine⟨hc,fun b hb cs k=>?_,_,a⟩;rcases hb with rfl | rfl
 ·obtain⟨c,e⟩:=a.kv;exact absurd (k.eq e).2 (by decide)
 ·exact absurd (k.eq d).2 (by decide)
end
end
section
variable {K D:Nat→Prop}{Wn:List ay}{EL:List En}
theorem oz{w W1:World}{g x0 N bm bs1 bs2 bw r:Nat}{E:ay}(hS:SA w K D g E Wn x0 N)(IT0:Itr TpQ 158 #[.pointer (some ⟨bw,0,none⟩)] EL.length (ArC EL) (fun V=>Chg (·=g) W1 V))(d:RdC (·=g) W1 g bs1 bs2 bw w)(J:Blk w bm [.func (.func 173) #[] #[.pointer (some ⟨bs1,0,none⟩),.pointer (some ⟨bs2,0,none⟩)]] 133)(ac:∀ e ∈ EL,e.kl.length≤1000000000∧e.vl.length≤1000000000)(P:r < 18)(hr0:0 < r)(ag:∀ e ∈ EL,Ky.frm r=Ky.fIn e.kl)(hle:EL.length≤N)(hN:N≤100000000)(hx:x0+N≤2000000000000000000) :
    Calls Tryz.prog 119 #[.slice none 0 0,.func (.func 120) #[] #[.pointer (some ⟨bm,0,none⟩)]] w fun e w'=>∃ v j,e=.returned v∧EA w' w.heap.size v (EL.map dr)∧j=EL.length∧SA w' K D g E Wn (x0+1+j) N∧Chg (·=g) w w':=by
  have hglt:g < w.heap.size:=hS.lt hS.top;have l:=af w (.cells #[.slice none 0 0] 74);have c2:=aj w [.slice none 0 0] 74
  have s2:(w.alloc (.cells #[.slice none 0 0] 74)).heap.size=w.heap.size+1:=by simp
  obtain⟨m,aa⟩:∃ m,Hid (w.alloc (.cells #[.slice none 0 0] 74)=m):=⟨_,rfl⟩;rw[aa.out] at c2 s2 l;have HS:=ah hS;clear hS;refine(callsIn_wide (n:=0)).1 ?_
  refine callsIn_of_wp_marks Tryz.func119 rfl trivial ?_ rfl;simp only[Tryz.ntmps119,List.size_toArray,List.length_cons,List.length_nil,Nat.reduceAdd,Nat.reduceSub,Array.replicate_succ,Array.replicate_zero,List.push_toArray,List.append_toArray,List.nil_append,List.cons_append];gi_wp2;rw[aa.out];have SB:=HS.out.keep l
  have hKt:∀ b,K b→b < w.heap.size:=fun b hb=>HS.out.lt hb
  have zW1:=d.1.size
  have n1:bs1≠g:=fun e=>by obtain⟨cs,k⟩:= d.2.2.2;subst e;exact absurd (k.eq d.2.1).2 (by decide)
  have n2:bs2≠g:=fun e=>by obtain⟨cs,k⟩:= d.2.2.2;subst e;exact absurd (k.eq d.2.2.1).2 (by decide)
  have n3:bm≠g:=fun e=>by obtain⟨cs,k⟩:= d.2.2.2;subst e;exact absurd (k.eq J).2 (by decide)
  have m1:=d.2.1.lt;have m2:=d.2.2.1.lt;have m3:=J.lt;have IT:=sd (K:=K) (D:=D) (E:=E) (Wn:=Wn) (X:=fun b=>b=g∨b=w.heap.size) IT0 (fun b hb h=>h.elim id (fun e=>by omega)) ⟨d.1.trans (Chg.of (F:=fun _=>False) l) (fun _ _ h=>h.elim),d.2.1.keep l,d.2.2.1.keep l,by obtain⟨cs,k⟩:= d.2.2.2;exact⟨cs,k.keep l⟩⟩ (J.keep l) (fun h=>by rcases h with h | h <;> omega) (fun h=>by rcases h with h | h <;> omega) (fun h=>by rcases h with h | h <;> omega) ac P hr0 ag hle hx;have T1:=c2
  have zb:w.heap.size+1≤m.heap.size:=by omega
  have I0:TqO m (w.heap.size) K D g E Wn N x0 m:=⟨Chg.refl _ _,SB,T1⟩;have HB:=ah l
  have hlen:(EL.map dr).length=EL.length:=(by simp);clear SB IT0 d J ac ag;refine xG IT (by rfl) (enters_of Tryz.func120 (by kernel_rfl) rfl) (fun i args n V V' h hc=>h) (fun i args n V h=>by obtain⟨c,_,rfl⟩:= h;rfl)
    (fun V=>TqO m (w.heap.size) K D g E Wn N x0 V)
    (fun R i V=>m.heap.size+2≤R.heap.size∧TqI m (m.heap.size+2) (w.heap.size) R K D g E Wn N (x0+1+i) ((EL.map dr).take i) V)
    (fun R i V=>m.heap.size+2≤R.heap.size∧TqI m (m.heap.size+2) (w.heap.size) R K D g E Wn N (x0+1+i+1) ((EL.map dr).take i) V)
    (fun R c i V=>False)
    (fun A B hx P=>hx.rcd P) (fun R i A B hx P=>⟨hx.1,hx.2.rcd P⟩) (fun R i A B hx P=>⟨hx.1,hx.2.rcd P⟩) (fun R c i A B hx P=>hx) (by omega)
    (fun V H=>by have q:=H.sa.cnt;exact⟨q.1,q.2,EZ H.chg H.sa H.out,fun R hR hE=>⟨hR,by simpa using H.tick (by omega) hE⟩⟩)
    (fun R i V H=>by have z:=H.2;have q:=z.sa.cnt;obtain⟨v,O,G⟩:= z.out;exact⟨q.1,q.2,EZ z.chg z.sa O,z.ext,fun _=>⟨H.1,z.tick (by omega) H.1⟩⟩)
    I0 ?_ ?_ ?_
  · rintro R hR l2 i args V Wv hl hlV hrec hiN ⟨-,z⟩ hb ⟨c,hc,rfl⟩
    have T:(EL.map dr)[i]?=some (dr c):=by rw[List.getElem?_map,hc];rfl
    simp;gi_wp2;refine⟨af _ _,?_⟩;intro V2 Y _ s t hAr2 M hsz3 hV2 r hrec2;obtain⟨v,O,G⟩:= s.out
    have hlt:i < (EL.map dr).length:=(List.getElem?_eq_some_iff.1 T).1
    have I:((EL.map dr).take i).length=i:=by rw[List.length_take];omega
    obtain⟨ao,cc,rfl⟩:= G.shape;rw[I] at O G;have zV:=hb.size;have z2:=t.size;have zT:=s.chg.size;have zE:=s.ext.size
    have U:Blk Y Wv.heap.size [.int .u64 (dr c).1,.int .i64 (dr c).2] 61:=⟨(M _ (by omega)).trans (aj Wv [.int .u64 (dr c).1,.int .i64 (dr c).2] 61).blk⟩;have P0:=O.keep t;have Q0:=G.keep t;have f:=af Y (.cells #[.int .u64 (dr c).1,.int .i64 (dr c).2] 61);have N4:=aj Y [.int .u64 (dr c).1,.int .i64 (dr c).2] 61;obtain⟨W4,S⟩:∃ W4,Hid (Y.alloc (.cells #[.int .u64 (dr c).1,.int .i64 (dr c).2] 61)=W4):=⟨_,rfl⟩;rw[S.out] at f N4;have z4:=f.size;obtain⟨v5,Z,y,U5,Q⟩:= y8 (p:=dr c) (a:=⟨Y.heap.size,0,none⟩) 74 (Q0.keep f) (by omega) (by rw[I];omega) (N4.cell (i:=0) rfl) (N4.cell (i:=1) rfl)
    have hl5:((EL.map dr).take i ++ [dr c]).length=i+1:=by rw[List.length_append,I];rfl
    obtain⟨a5,c5,rfl⟩:= U5.shape;rw[hl5] at U5 y
    have he5:(EL.map dr).take (i+1)=(EL.map dr).take i ++ [dr c]:=by rw[List.take_add_one,T];rfl
    have S5:=(P0.keep f).chg Q (fun h=>by obtain⟨_,cs,k⟩:= h;exact absurd (k.eq (P0.keep f)).2 (by decide));obtain⟨L,C⟩:∃ L,Hid (i+1=L):=⟨_,rfl⟩;rw[C.out] at U5 y
    have u:Chg (·=w.heap.size) Z (Z.setCell ⟨w.heap.size,0,none⟩ (.slice a5 L c5)):=(Chg.refl (fun x=>x=w.heap.size) Z).cell (.inl (by rfl)) _;have S6:=S5.setCell (i:=0) (.slice a5 L c5)
    have hK5 : bH TpQ m.heap.size W4 Z := ⟨Q.size, fun k o _ W hs => (Q.same k (lt_of_block W) (fun h => by
      obtain⟨_,cs,kb⟩:= h;rw[kb.blk] at W
      cases W
      exact hs _ _ _ rfl rfl)).trans W⟩
    have ae:bH TpQ m.heap.size Y (Z.setCell ⟨w.heap.size,0,none⟩ (.slice a5 L c5)):=((bH.of f).trans hK5).trans ⟨u.size,fun k o hk W _=>(u.same k (lt_of_block W) (fun e=>by have e':k=w.heap.size:=e;have:=T1.lt;omega)).trans W⟩
    have ab:TqI m (m.heap.size+2) (w.heap.size) R K D g E Wn N (x0+1+L) ((EL.map dr).take L) (Z.setCell ⟨w.heap.size,0,none⟩ (.slice a5 L c5)):=by
      have hTl:=T1.lt;refine⟨?_,?_,⟨_,S6,?_⟩,?_⟩
      · exact((s.chg.trans (Chg.of (F:=fun _=>False) (ai t f)) (fun _ _ h=>h.elim)).trans Q (fun b h1 h2=>by omega)).trans u (fun b _ h=>.inr h)
      · have q := ((s.sa.keep (ai t f)).chg Q (fun b h1 hk => by have := hKt b hk; omega) (fun b h1 cs U => by obtain⟨_, cs', k'⟩:= h1; exact absurd (U.eq k').2 (by decide))).chg u (fun b e hk => by have e' : b = w.heap.size := e; have := hKt b hk; omega) (fun b e cs U => by
          have e':b=w.heap.size:=e;subst e'
          exact absurd (U.eq S5).2 (by decide))
        rw[show x0+1+L=x0+1+i+1 by have:=C.out;omega];exact q
      · rw[← C.out,he5]
        have q:=U5.chg u (fun b e=>by have e':b=w.heap.size:=e;omega);rw[← C.out] at q;exact q
      · exact(((s.ext.keep t).keep f).chg Q (fun b h=>.inr h.1)).chg u (fun b e=>.inl (by have e':b=w.heap.size:=e;omega))
    have p0c:=P0.cell (i:=0) rfl;have kc:=U.cell (i:=0) rfl;have kd:=U.cell (i:=1) rfl;have s5c:=S5.cell (i:=0) rfl;have s5f:=S5.free 0;have HKE:=ah ae;have HTI:=ah ab;clear z M hAr2 hb s t P0 Q0 N4 f U5 Q S5 u S6 hK5 ae ab O G U I hl5 he5 T hlt zV z2 zT zE z4 hc hsz3 hV2;rw[← S.out] at y;clear S;gi_wp2_with (first | (have gate:=y;clear gate;(with_reducible refine AN ?_ ?_ ?_ y ?_);(exact fun _=>trivial);rfl;rfl;clear y));exact⟨HKE.out,hR,C.out ▸ HTI.out⟩
  · rintro R D' W' hR hD hK ⟨-,z⟩
    obtain⟨v,O,G⟩:= z.out;obtain⟨ao,cc,rfl⟩:= G.shape;obtain⟨ln,hln⟩:∃ ln,Hid (((EL.map dr).take EL.length).length=ln):=⟨_,rfl⟩;rw[hln.out] at O G;have h1c:=O.cell (i:=0) rfl;have R3:=Rec.put hK rfl hD (.deferred none);have ad:=z.rcd R3;have HH2:=ah G;have zW:=HB.out.size;clear G;gi_wp2;refine⟨by simp,.inl ⟨_,_,rfl,run_takeDeferred hK,?_⟩⟩;refine⟨_,results_tmp rfl _ _ _,_,_,rfl,?_,?_,ad.sa,?_⟩
    · have q:=(HH2.out.rcd R3).low (B':=w.heap.size) (by omega)
      rw[List.take_of_length_le (by rw[hlen];omega)] at q;exact q
    · rfl
    · exact(Chg.of (F:=(·=g)) HB.out).trans ad.chg (fun b hl e=>e.elim id (fun e=>by omega))
  · rintro R D' c i W' hR hD hK hiN h
    exact h.elim
end
end Qu
end
section
namespace Qu
open Go.RowKit Go.Lib Pg Lim Gl Kv Bk Pw
attribute [local go_sem] Oper.semAt_some
set_option linter.unusedVariables false
set_option linter.unusedSimpArgs false
section
variable {w W1:World}{K D:Nat→Prop}{g x0 N bs1 bs2 bw:Nat}{E:ay}{Wn:List ay}{EL:List En}{X:Nat->Prop}{v:Int}
theorem kW{bm r:Nat}(hS:SA w K D g E Wn x0 N)(f:Itr TpQ 158 #[.pointer (some ⟨bw,0,none⟩)] EL.length (ArC EL) (fun V=>Chg (·=g) W1 V))(a:RdC (·=g) W1 g bs1 bs2 bw w)(b:Blk w bm [.func (.func 173) #[] #[.pointer (some ⟨bs1,0,none⟩),.pointer (some ⟨bs2,0,none⟩)]] 133)(d:∀ e ∈ EL,e.kl.length≤1000000000∧e.vl.length≤1000000000)(k:r < 18)(c:0 < r)(h:∀ e ∈ EL,Ky.frm r=Ky.fIn e.kl)(hle:EL.length≤N)(l:N≤100000000)(hx:x0+N≤2000000000000000000) :
    Calls Tryz.prog 71 #[.func (.func 120) #[] #[.pointer (some ⟨bm,0,none⟩)]] w fun e w'=>∃ v j,e=.returned v∧EA w' w.heap.size v (EL.map dr)∧j=EL.length∧SA w' K D g E Wn (x0+1+j) N∧Chg (·=g) w w':=by
  refine aC (n:=5) Tryz.func71 rfl ?_
  refine ab (ag (t 2 (.slice none 0 0) (ae (aa (ab (ag (t 3 (.func (.func 120) #[] #[.pointer (some ⟨bm,0,none⟩)]) (tc 4 119 #[.slice none 0 0,.func (.func 120) #[] #[.pointer (some ⟨bm,0,none⟩)]] (oz hS f a b d k c h hle l hx) ?_))))))));rintro _ v1 ⟨v,j,rfl,i⟩;refine⟨_,rfl,?_⟩;refine t 2 (v) (ae (aa (aF (aE (v) (rs1 2 (by kernel_rfl) (by kernel_rfl)) ?_))));exact⟨v,j,rfl,i⟩
theorem rB{V V':World}(h:RdC X W1 g bs1 bs2 bw V)(b:Below V.heap.size V V'):RdC X W1 g bs1 bs2 bw V':=⟨h.1.trans (Chg.of (F:=fun _=>False) b) (fun _ _ h=>h.elim),h.2.1.keep b,h.2.2.1.keep b,h.2.2.2.imp fun _ k=>k.keep b⟩
def under(E:ay)(p:List Int):List (Int × Int):=(E.filter (fun x=>decide (p <+: x.1))).map (fun x=>(Ky.rdB x.1,wrap64 (bE x.2)))
theorem und15(a:0<=v/\v < 18446744073709551616):Calls Tryz.prog 70 #[.int .i64 15,.int .u64 v] w fun e w'=>∃ u,e=.returned (.tuple #[u,.int .i64 0])/\OB w' (w.heap.size <= ·) u (Ky.mkb (Ky.frm 15) (Ky.tn 15 v))/\Below w.heap.size w w':=Ky.oM (k:=15) a.1 a.2
theorem Dg{K D:Nat->Prop}(hS:SA w K D g E Wn x0 N)(Q:0<=v/\v < 18446744073709551616)(A:(Ky.mkb (Ky.frm 15) (Ky.tn 15 v)).length<=100)(s:∀ x∈E,(Ky.mkb (Ky.frm 15) (Ky.tn 15 v)) <+: x.1->Ky.frm (15:Nat)=Ky.fIn x.1)(H:N<=100000000)(hx:x0+N<=2000000000000000000) :
  Calls Tryz.prog 30 #[pg g,.int .u64 v] w fun e w'=>∃ u j,e=.returned u/\EA w' w.heap.size u (under E (Ky.mkb (Ky.frm 15) (Ky.tn 15 v)))/\j=(under E (Ky.mkb (Ky.frm 15) (Ky.tn 15 v))).length/\SA w' K D g E Wn (x0+1+j) N/\Chg (·=g) w w':=by
 have a:=Below.refl w.heap.size w;refine aC (n:=17) Tryz.func30 rfl ?_
 refine ab (ag (t 4 (.slice none 0 0) (ae (aa (ab (ag (t 8 (iU v) (tc 9 70 #[iI 15,iU v] (und15 Q) ?_))))))));rintro _ v1 ⟨u,rfl,O,B⟩;refine⟨_,rfl,?_⟩;replace a:=ai a B;replace hS:=hS.keep B;refine t 7 (.tuple #[u,iI 0]) (t 10 (u) (t 11 (iI 0) (t 5 (u) (t 6 (iI 0) (ae (aa (ab (ag (t 12 (pg g) (t 13 (u) (tc 14 75 #[pg g,u] (Cf (Tp:=TpQ) (X:=(·=g)) hS H O.by (by have:(Ky.mkb (Ky.frm 15) (Ky.tn 15 v)).length<=100:=A;omega) (fun b e=>.inl e) (fun b e cs k=>by have C:b=g:=e;subst C;obtain⟨M,J⟩:=hS.kv;exact absurd (k.eq J).2 (by decide)) (fun b e=>by have C:b=g:=e;subst C;exact hS.lt hS.top) (by unfold TpQ;decide) (by unfold TpQ;decide)) ?_)))))))))));rintro _ v2 ⟨pv,l,rfl,q,c,B⟩;refine⟨_,rfl,?_⟩;obtain⟨o,m,Y,W1,rfl,T,d,V,U⟩:=q.ex;have p:=q.small;clear q;replace a:=ai a B;replace hS:=hS.keep B;replace O:=O.keep B;clear O;refine tc 15 72 #[.func (.func 173) #[] #[.pointer (some ⟨o,0,none⟩),.pointer (some ⟨m,0,none⟩)]] (nI) ?_
 rintro _ Z ⟨L,rfl,W,z,B⟩;refine⟨_,rfl,?_⟩;replace a:=ai a B;replace hS:=hS.keep B;replace d:=rB d B
 have hle:l.length<=N:=by
  have h1:=hS.size
  have I:(l.map En.kl2).length<=E.length:=by rw[c];exact List.length_filter_le _ _
  rw[List.length_map] at I;omega
 have f:∀ e∈l,Ky.frm (15:Nat)=Ky.fIn e.kl:=fun e he=>by
  have hm:e.kl2∈E.filter (fun x=>decide ((Ky.mkb (Ky.frm 15) (Ky.tn 15 v)) <+: x.1)):=by rw[<- c];exact List.mem_map.2 ⟨e,he,rfl⟩
  exact s _ (List.mem_filter.1 hm).1 (of_decide_eq_true (List.mem_filter.1 hm).2)
 refine tc 16 71 #[.func (.func 120) #[] #[.pointer (some ⟨L,0,none⟩)]] (kW (r:=15) hS T d z p (by decide) (by decide) f hle H hx) ?_
 rintro _ v4 ⟨vv,j,rfl,i,P,y,R⟩;refine⟨_,rfl,?_⟩;refine t 4 (vv) (ae (aa (aG [(4,vv)] (aF (aE (vv) (rs1 4 (by kernel_rfl) (by kernel_rfl)) ?_)))))
 have G:l.map dr=under E (Ky.mkb (Ky.frm 15) (Ky.tn 15 v)):=by unfold under;rw[<- c,List.map_map];rfl
 rw[G] at i;have S:=a.size;exact⟨_,j,rfl,i.low S,(by rw[P,<- G,List.length_map]),y,(Chg.of (F:=(·=g)) a).trans R (fun _ _ h=>h)⟩
end
end Qu
end
section
namespace Qu
open Go.RowKit Go.Lib Pg Lim Gl Kv Bk Pw
attribute [local go_sem] Oper.semAt_some
set_option linter.unusedVariables false
set_option linter.unusedSimpArgs false
section
variable {w:World}{v:Int}{l:List Int}{K D:Nat->Prop}{Wn:List ay}
theorem und14(a:0<=v/\v < 18446744073709551616):Calls Tryz.prog 70 #[.int .i64 14,.int .u64 v] w fun e w'=>∃ u,e=.returned (.tuple #[u,.int .i64 0])/\OB w' (w.heap.size <= ·) u (Ky.mkb (Ky.frm 14) (Ky.tn 14 v))/\Below w.heap.size w w':=Ky.oM (k:=14) a.1 a.2
theorem of14(w:World):Calls Tryz.prog 69 #[.int .i64 14] w fun e w'=>∃ v,e=.returned (.tuple #[v,.int .i64 0])/\OB w' (w.heap.size <= ·) v [113]/\Below w.heap.size w w':=Ky.of_any (k:=14)
theorem nextQ{v:Value}(h:By w v l)(a:l.length<=1000000000):Calls Tryz.prog 74 #[v] w fun e w'=>∃ u,e=.returned u/\OB w' (w.heap.size <= ·) u (Kv.nxt l)/\Below w.heap.size w w':=by
 obtain⟨b,c,rfl,_⟩:=id h.ex;exact Ky.mV h a
theorem C8(p:List Int):(Kv.nxt p).length<=p.length:=by
 rcases Kv.fi p with h1 | ⟨A,x,B,rfl,hx,hB⟩
 ·rw[Kv.eO h1];simp
 ·rw[Kv.iH hx hB];simp
def upto(E:ay)(p:List Int):List (Int × Int):=(E.filter (iL [113] (Kv.nxt p))).map (fun x=>(Ky.rdB x.1,wrap64 (bE x.2)))
theorem due_sa{g x0 N:Nat}{E:ay}(hS:SA w K D g E Wn x0 N)(T:0<=v/\v < 18446744073709551616)(i:(Ky.mkb (Ky.frm 14) (Ky.tn 14 v)).length<=100)(z:∀ x∈E,iL [113] (Kv.nxt (Ky.mkb (Ky.frm 14) (Ky.tn 14 v))) x=true->Ky.frm (14:Nat)=Ky.fIn x.1)(I:N<=100000000)(hx:x0+N<=2000000000000000000) :
  Calls Tryz.prog 29 #[pg g,.int .u64 v] w fun e w'=>∃ u j,e=.returned u/\EA w' w.heap.size u (upto E (Ky.mkb (Ky.frm 14) (Ky.tn 14 v)))/\j=(upto E (Ky.mkb (Ky.frm 14) (Ky.tn 14 v))).length/\SA w' K D g E Wn (x0+1+j) N/\Chg (·=g) w w':=by
 have a:=Below.refl w.heap.size w;refine aC (n:=25) Tryz.func29 rfl ?_
 refine ab (ag (t 4 (.slice none 0 0) (ae (aa (ab (ag (tc 10 69 #[iI 14] (of14 _) ?_)))))));rintro _ v1 ⟨f,rfl,P,B⟩;refine⟨_,rfl,?_⟩;replace a:=ai a B;replace hS:=hS.keep B;refine t 9 (.tuple #[f,iI 0]) (t 11 (f) (t 12 (iI 0) (t 5 (f) (t 6 (iI 0) (ae (aa (ab (ag (t 14 (iU v) (tc 15 70 #[iI 14,iU v] (und14 T) ?_))))))))));rintro _ v2 ⟨u,rfl,O,B⟩;refine⟨_,rfl,?_⟩;replace a:=ai a B;replace hS:=hS.keep B;replace P:=P.keep B;refine t 13 (.tuple #[u,iI 0]) (t 16 (u) (t 17 (iI 0) (t 7 (u) (t 8 (iI 0) (ae (aa (aG [(0,pg g),(4,.slice none 0 0),(5,f),(7,u)] (ab (ag (t 18 (pg g) (t 19 (f) (t 20 (u) (tc 21 74 #[u] (nextQ O.by (Nat.le_trans i (by decide))) ?_)))))))))))));rintro _ v3 ⟨nx,rfl,Q,B⟩;refine⟨_,rfl,?_⟩;replace a:=ai a B;replace hS:=hS.keep B;replace P:=P.keep B;replace O:=O.keep B;clear O;refine tc 22 73 #[pg g,f,nx] (swalkG (Tp:=TpQ) (X:=(·=g)) hS I P.by Q.by (by decide) (Nat.le_trans (C8 _) (Nat.le_trans i (by decide))) (fun b e=>.inl e) (fun b e cs k=>by have G:b=g:=e;subst G;obtain⟨R,L⟩:=hS.kv;exact absurd (k.eq L).2 (by decide)) (fun b e=>by have G:b=g:=e;subst G;exact hS.lt hS.top) (by unfold TpQ;decide) (by unfold TpQ;decide)) ?_
 rintro _ v4 ⟨pv,o,rfl,y,c,B⟩;refine⟨_,rfl,?_⟩;obtain⟨q,p,bw,W1,rfl,W,d,Z,Y⟩:=y.ex;have s:=y.small;clear y;replace a:=ai a B;replace hS:=hS.keep B;replace P:=P.keep B;replace Q:=Q.keep B;clear P;clear Q;refine tc 23 72 #[.func (.func 173) #[] #[.pointer (some ⟨q,0,none⟩),.pointer (some ⟨p,0,none⟩)]] (nI) ?_
 rintro _ v5 ⟨M,rfl,ac,C,B⟩;refine⟨_,rfl,?_⟩;replace a:=ai a B;replace hS:=hS.keep B;replace d:=rB d B
 have hle:o.length<=N:=by
  have h1:=hS.size
  have J:(o.map En.kl2).length<=E.length:=by rw[c];exact List.length_filter_le _ _
  rw[List.length_map] at J;omega
 have l:∀ e∈o,Ky.frm (14:Nat)=Ky.fIn e.kl:=fun e he=>by
  have hm:e.kl2∈E.filter (iL [113] (Kv.nxt (Ky.mkb (Ky.frm 14) (Ky.tn 14 v)))):=by rw[<- c];exact List.mem_map.2 ⟨e,he,rfl⟩
  exact z _ (List.mem_filter.1 hm).1 (List.mem_filter.1 hm).2
 refine tc 24 71 #[.func (.func 120) #[] #[.pointer (some ⟨M,0,none⟩)]] (kW (r:=14) hS W d C s (by decide) (by decide) l hle I hx) ?_
 rintro _ v6 ⟨vv,j,rfl,m,S,A,U⟩;refine⟨_,rfl,?_⟩;refine t 4 (vv) (ae (aa (aF (aE (vv) (rs1 4 (by kernel_rfl) (by kernel_rfl)) ?_))))
 have H:o.map dr=upto E (Ky.mkb (Ky.frm 14) (Ky.tn 14 v)):=by unfold upto;rw[<- c,List.map_map];rfl
 rw[H] at m;have V:=a.size;exact⟨_,j,rfl,m.low V,(by rw[S,<- H,List.length_map]),A,(Chg.of (F:=(·=g)) a).trans U (fun _ _ h=>h)⟩
end
end Qu
end
section
namespace Pw
open Go.RowKit Go.Lib Pg Kv Bk Gl
attribute [local go_sem] Oper.semAt_some
section
variable {w:World} {bm clock:Nat} {es:Array MapEntry} {k:Int}
end
section
variable {P:Program} {n:Nat} {ds:List Deferred} {ops:Array Oper} {Q:Exit->Act->World->Prop} {rest:List Oper} {o:Oper} {l:Fr} {w:World}
end
section
variable {n:Nat} {ds:List Deferred} {ops:Array Oper} {Q:Exit->Act->World->Prop} {rest:List Oper} {o:Oper} {l:Fr} {w:World}
end
set_option linter.unusedVariables false
section
variable {w w':World} {g B:Nat} {o:Obj} {v:Value} {l:List Int}
end
end Pw
end
section
namespace Pw
open Go.RowKit Go.Lib Pg Lim Gl Kv Bk
attribute [local go_sem] Oper.semAt_some
set_option linter.unusedVariables false
theorem gB {w W:World} {b o:Nat} {v:Value} (B:Below w.heap.size w W) (h:w.cell? ⟨b,o,none⟩=some v):W.cell? ⟨b,o,none⟩=some v:=by
 rw[World.cell?_of_block (w:=w) (B.block b (aH h))];exact h
theorem ik {P:Program} {ρ:Operand->Value} {o:Oper} {w:World} {ao:Option Addr} (a b off n c k:Nat) (f:k < n) (d:0 < n->ao=some ⟨b,off,none⟩) (e:∃ T x y,o.op=.indexAddr T x y/\slT P T a=true/\ρ x=.slice ao n c/\ρ y=.int .i64 (k:Int):=by exact⟨_,_,_,rfl,by kernel_rfl,by kernel_rfl,by kernel_rfl⟩):(execOp ρ o).run P w=.ok (.value (.pointer (some ⟨b,off+k * a,none⟩))) w:=by
 rw[d (by omega)] at e;exact Eo a b off n c k f e
structure Zp (K:Nat->Prop) (n0:Nat) (wz V:World):Prop where
 ext:Ext n0 wz V
 off:∀ b,n0<=b->b < wz.heap.size->¬ K b
section
variable {K K':Nat->Prop} {n0:Nat} {wz V V':World}
theorem Zp.keep (h:Zp K n0 wz V) (hb:Below V.heap.size V V'):Zp K n0 wz V':=⟨h.ext.keep hb,h.off⟩
theorem zp_new (hk:∀ b,K b->b < V.heap.size):Zp K V.heap.size V' V':=⟨⟨fun _ _ _=>rfl,Nat.le_refl _⟩,fun b h1 _ hb2=>by have:=hk b hb2;omega⟩
theorem Zp.prs {v:Value} {es:List En} (h:Zp K n0 wz V) (a:PrA wz n0 v es):PrA V n0 v es :=
 ⟨a.ex.imp id (fun ⟨b,c,e,d,f⟩=>⟨b,c,e,d,f.same (h.ext.1 b d f.lt)⟩),fun e he=>(a.bX e he).same fun b i g=>h.ext.1 b g i⟩
end
theorem br {w V V':World} {K:Nat->Prop} (h:Below w.heap.size w V) (a:Chg K V V') (c:∀ b,K b->w.heap.size<=b):Below w.heap.size w V' :=
 ((Chg.of (F:=fun _=>False) h).trans a (fun b d hb=>by have:=c b hb;omega)).nothing
theorem Fi {w:World} (a:Nat) (hb:a=w.heap.size):Calls Tryz.prog 6 #[] w fun e w'=>∃ g K,e=.returned (pg g)/\Sx a w' K g [] [] 0 0/\(∀ b,K b->a<=b)/\Below w.heap.size w w':=by
 subst hb;refine snew.mono ?_
 rintro e w' ⟨g,K,rfl,S,c,B⟩;exact⟨g,K,rfl,⟨S.mono (fun _ _ h=>h.elim),B.size,c⟩,c,B⟩
end Pw
end
end Go.Proofs.YtidnifmehnjipaaGreat
