import Derived.Test.YtidnifmehnjipaaGreatJab
import Derived.Shelf.Abstract
import Derived.Shelf.RegionOpen
import Derived.OwnWalkIn
import Derived.TacticsInMore
import Derived.LoopNIn
import Derived.LoopIn
set_option maxRecDepth 100000
set_option maxHeartbeats 8000000
namespace Go.Proofs.YtidnifmehnjipaaGreat
section
namespace Pg
open Go.RowKit Go.Lib
attribute [local go_sem] Oper.semAt_some
section
variable {D X F:Nat->Prop}{v fv tv:Value}{l f t:List Int}{g bm bf bt:Nat}{L:List Pg}{W0:World}
theorem OB.chg{w w':World}(h:OB w D v l)(hc:Chg X w w')(f:∀ b,X b->∀ cs,¬ Blk w b cs 5):OB w' D v l:=by
 refine⟨h.oct,h.ex.imp id ?_⟩;rintro⟨b,c,e,d,a⟩;obtain⟨cs,k⟩:=a.kind;exact⟨b,c,e,d,a.chg hc fun x=>f b x cs k⟩
structure Wk(W:World)(X F D:Nat->Prop)(g:Nat)(L:List Pg)(bm bf bt:Nat)(fv tv:Value)(f t:List Int):Prop where
 map:bO W F D g L
 ord:Ord (ens L)
 few:∀ es∈ens L,es.length<=32
 big:L.length<=100000000
 xF:∀ b,X b->¬ F b
 xU:∀ b,X b->∀ cs,¬ Blk W b cs 5
 boxm:Blk W bm [.pointer (some ⟨g,0,none⟩)] 76/\¬ X bm
 boxf:Blk W bf [fv] 36/\¬ X bf
 boxt:Blk W bt [tv] 36/\¬ X bt
 byf:∃ Df,OB W Df fv f
 byt:∃ Dt,OB W Dt tv t
theorem Wk.at{W V:World}(h:Wk W X F D g L bm bf bt fv tv f t)(hc:Chg X W V):bO V F D g L/\By V fv f/\By V tv t/\V.cell? ⟨bm,0,none⟩=some (.pointer (some ⟨g,0,none⟩))/\V.cell? ⟨bf,0,none⟩=some fv/\V.cell? ⟨bt,0,none⟩=some tv:=by
 obtain⟨b,hf⟩:=h.byf;obtain⟨c,a⟩:=h.byt;exact⟨h.map.chg hc h.xF h.xU,(hf.chg hc h.xU).by,(a.chg hc h.xU).by,(h.boxm.1.chg hc h.boxm.2).cell (i:=0) rfl,(h.boxf.1.chg hc h.boxf.2).cell (i:=0) rfl,(h.boxt.1.chg hc h.boxt.2).cell (i:=0) rfl⟩
theorem lM{α:Type}{l:List α}{a b:Nat}{x:α}(h:x∈cut l a b):x∈l:=List.mem_of_mem_drop (List.mem_of_mem_take h)
theorem jL{α β:Type}(l:List α)(f:α->List β)(k:Nat)(x:α)(h:l[k]?=some x):(l.take (k+1)).flatMap f=(l.take k).flatMap f ++ f x:=by
 rw[List.take_add_one,h];simp
theorem s8{α β:Type}(l:List α)(f:α->List β)(k j:Nat)(x:α)(y:β)(h:l[k]?=some x)(a:(f x)[j]?=some y):(l.flatMap f)[((l.take k).flatMap f).length+j]?=some y:=by
 have b:=(List.getElem?_eq_some_iff.1 h).1
 have e:l.flatMap f=(l.take k).flatMap f ++ (f x ++ (l.drop (k+1)).flatMap f):=by
  conv=>lhs;rw[<- List.take_append_drop (k+1) l,List.flatMap_append,jL l f k x h]
  rw[List.append_assoc]
 rw[e,List.getElem?_append_right (by omega),Nat.add_sub_cancel_left,List.getElem?_append_left (List.getElem?_eq_some_iff.1 a).1];exact a
theorem sS{Tp:TypeId->Prop}(K:Wk W0 X F D g L bm bf bt fv tv f t) :
  Itr Tp 159 #[.pointer (some ⟨bm,0,none⟩),.pointer (some ⟨bf,0,none⟩),.pointer (some ⟨bt,0,none⟩)] (wlk (ens L) f t).length (fun i args _ _=>∃ e,(wlk (ens L) f t)[i]?=some e/\args=#[.agg #[e.kv,e.vv]]) (fun V=>Chg X W0 V):=by
 intro l J Jx W hJ hJx q hY h0;obtain⟨Am,hf,ht,cm,cf,ct⟩:=K.at (q 0 W h0);have tS:=zO Am K.ord hf ht K.big;obtain⟨Q,hQ⟩:∃ Q,Hid (cut L (pgi (ens L) f) (eJ (ens L) t)=Q):=⟨_,rfl⟩
 rw[hQ.out] at tS
 have hQe:Hid (wlk (ens L) f t=(ens Q).flatMap fun es=>wth es f t):=by
  show _=_
  rw[<- hQ.out];unfold wlk cut ens;rw[List.map_take,List.map_drop]
 have hQm:∀ p∈Q,p∈L:=fun p hp=>by rw[<- hQ.out] at hp;exact List.mem_of_mem_drop (List.mem_of_mem_take hp)
 obtain⟨E,hE⟩:∃ E,Hid (wlk (ens L) f t=E):=⟨_,rfl⟩
 rw[hE.out] at hY ⊢
 have C:Hid (E=(ens Q).flatMap fun es=>wth es f t):=by show _=_;rw[<- hE.out];exact hQe.out
 refine(callsIn_wide (n:=0)).1 ?_
 refine callsIn_of_wp Tryz.func159 rfl trivial ?_ rfl;simp only[Tryz.ntmps159,List.size_toArray,List.length_cons,List.length_nil,Nat.reduceAdd,Nat.reduceSub,Array.replicate_succ,Array.replicate_zero,List.push_toArray,List.append_toArray,List.nil_append,List.cons_append];gi_wp2_with (refine⟨trivial,rfl,?_⟩;gi_at_call 160;refine(callsIn_wide.2 tS).mono ?_;rintro e' w1 ⟨v1,rfl,hSp,hB1⟩;obtain⟨ao,cc,rfl,hc1,hc2,aa⟩:=hSp.ex);have J1:=hJ 0 _ _ h0 (Rec.of hB1);clear tS h0 cm cf ct hf ht hSp
 have aa:Hid _:=aa
 have hWl:W.heap.size<=w1.heap.size:=hB1.size
 have hCw:Hid (Chg X W0 w1):=q 0 _ J1;obtain⟨n,hnn⟩:∃ n,Hid (Q.length=n):=⟨_,rfl⟩
 rw[hnn.out] at hc1 ⊢
 have H:∀ b,F b->b < W0.heap.size/\¬ X b:=fun b hb=>⟨K.map.lt hb,fun x=>K.xF b x hb⟩
 have P:Hid (∀ j p,Q[j]? = some p->∀ V,Chg X W0 V->∃ b o,ao=some ⟨b,o,none⟩/\V.cell? ⟨b,o + j,none⟩=some p.v):=fun j p hj V hV=>by
  obtain⟨b,o,e,hF,hc⟩:=aa.out j p hj;obtain⟨I,h2⟩:=H b hF;refine⟨b,o,e,?_⟩;rw[World.cell?_of_block (w:=W0) (a:=⟨b,o+j,none⟩) (hV.same b I h2),<- World.cell?_of_block (w:=W0) (w':=w1) (a:=⟨b,o+j,none⟩) (hCw.out.same b I h2)];exact hc
 gi_loopw [14] (fun S wr=>∃ a:Nat,a<=n/\S=.int .i64 a/\W.heap.size<=wr.heap.size/\J ((((ens Q).take a).flatMap fun es=>wth es f t).length) wr) (fun S _=>n - (intOf S).toNat)
 case atStart=>exact⟨0,Nat.zero_le _,rfl,hWl,J1⟩
 case round =>
  clear J1 hWl;obtain⟨a,ha,rfl,hsz,s⟩:=hrel;by_cases hlt:a < n
  ·obtain⟨p,hp⟩:∃ p,Q[a]?=some p:=⟨Q[a]'(by have:=hnn.out;omega),List.getElem?_eq_getElem _⟩
   obtain⟨b,o,rfl,cP⟩:=P.out a p hp wr (q _ _ s);obtain⟨Ap,hf,ht,cm,cf,ct⟩:=K.at (q _ _ s);have y:=hQm p (List.mem_of_getElem? hp)
   have hpL:p.es∈ens L:=List.mem_map.2 ⟨p,y,rfl⟩;have hps:=K.few _ hpL;obtain⟨pj,hpj⟩:=List.getElem?_of_mem hpL;have tW:=vd (Ap.cp p y).1 (K.ord.page hpj) hf ht (by omega)
   have z1:(a:Int) < n:=by omega
   simp only[Pg.v] at cP tW;gi_wp2_with (refine⟨trivial,rfl,?_⟩;gi_at_call 161;refine(callsIn_wide.2 tW).mono ?_;rintro e' w2 ⟨v2,rfl,hEs,R⟩;obtain⟨ao2,cc2,rfl,hd1,hd2,d⟩:=hEs.ex);have J2:=hJ _ _ _ s (Rec.of R)
   have G:W.heap.size<=w2.heap.size:=Nat.le_trans hsz R.size
   have d:Hid _:=d
   have hCw2:Hid (Chg X W0 w2):=q _ _ J2;have hpF:=(K.map.cp p y).2;obtain⟨es,B⟩:∃ es,Hid (wth p.es f t=es):=⟨_,rfl⟩
   rw[B.out] at hd1 d ⊢;obtain⟨m,Z⟩:∃ m,Hid (es.length=m):=⟨_,rfl⟩
   rw[Z.out] at hd1 ⊢;obtain⟨bs,M⟩:∃ bs,Hid ((((ens Q).take a).flatMap fun es=>wth es f t).length=bs):=⟨_,rfl⟩
   rw[M.out] at J2
   have A:Hid (∀ j e,es[j]? = some e->∀ V,Chg X W0 V->∃ o,ao2=some ⟨p.b,o,none⟩/\V.cell? ⟨p.b,o + j * 2,none⟩=some e.kv/\V.cell? ⟨p.b,o + j * 2 + 1,none⟩=some e.vv):=fun j e hj V hV=>by
    obtain⟨o,e',hk,hv⟩:=d.out j e hj;obtain⟨I,h2⟩:=H p.b hpF
    have e1:V.heap[p.b]?=w2.heap[p.b]?:=(hV.same p.b I h2).trans (hCw2.out.same p.b I h2).symm;exact⟨o,e',by rw[World.cell?_of_block (w:=w2) (a:=⟨p.b,o+j * 2,none⟩) e1];exact hk,by rw[World.cell?_of_block (w:=w2) (a:=⟨p.b,o+j * 2+1,none⟩) e1];exact hv⟩
   have hEat:Hid (∀ j e,es[j]? = some e->E[bs + j]? = some e):=fun j e hj=>by
    rw[C.out,<- M.out];exact s8 (ens Q) (fun es=>wth es f t) a j p.es e (rp hp) (by rw[B.out];exact hj)
   clear hEs cm cf ct hf ht tW d R cP;gi_loopw [23] (fun S z=>∃ c:Nat,c<=m/\S=.int .i64 c/\W.heap.size<=z.heap.size/\J (bs+c) z) (fun S _=>m - (intOf S).toNat)
   case atStart=>exact⟨0,Nat.zero_le _,rfl,G,J2⟩
   case round =>
    clear J2 G;rename World=>z
    obtain⟨c,hc,rfl,r,u⟩:=hrel;by_cases hltc:c < m
    ·obtain⟨e,he⟩:∃ e,es[c]?=some e:=⟨es[c]'(by have:=Z.out;omega),List.getElem?_eq_getElem _⟩
     obtain⟨o2,rfl,ck,cv⟩:=A.out c e he z (q _ _ u)
     have z2:(c:Int) < m:=by omega
     have hem:e∈p.es:=by
      have I:=List.mem_of_getElem? he;rw[<- B.out] at I;exact lM I
     have N:=((K.at (q _ _ u)).1.cp p y).1.bX e hem;have hEi:=hEat.out c e he
     have hbE:bs+c < E.length:=(List.getElem?_eq_some_iff.1 hEi).1;obtain⟨ekv,O,evv,ab⟩:=e;obtain⟨ak,nk,hk1⟩:=N.k.shape;obtain⟨av,nv,hv1⟩:=N.v.shape;simp only at hk1 hv1;subst hk1 hv1;have B3:=aj z [.slice ak O.length nk,.slice av ab.length nv] 211;have T:=af z (.cells #[.slice ak O.length nk,.slice av ab.length nv] 211);have k3:=B3.cell (i:=0) rfl;have v3:=B3.cell (i:=1) rfl;obtain⟨fn,tmps,assign,body,hy,hR⟩:=hY (bs+c) #[.agg #[.slice ak O.length nk,.slice av ab.length nv]] z _ hbE u r T ⟨_,hEi,rfl⟩;have hs3:=T.size;clear N B3 T he hem hEi;gi_wp2;refine⟨rfl,hR.mono ?_⟩;rintro e' W4 ⟨hk4,⟨rfl,Y⟩ | ⟨rfl,Y⟩⟩
     ·gi_wp2;go_roundw
      case rel=>exact⟨c+1,by omega,by go_num,Nat.le_trans (Nat.le_trans r hs3) hk4.size,Y⟩
      case measure=>simp[intOf];omega
     ·gi_wp2;refine bodyPost_ret (results_none rfl _ _ _) rfl ?_
      exact⟨⟨_,rfl⟩,Nat.le_trans (Nat.le_trans r hs3) hk4.size,.inr ⟨bs+c,hbE,Y⟩⟩
    ·have U:c=m:=by omega
     have HJ:Hid (J ((((ens Q).take (a+1)).flatMap fun es=>wth es f t).length) z):=by
      show J _ z
      rw[jL (ens Q) (fun es=>wth es f t) a p.es (rp hp),List.length_append,M.out,B.out,Z.out,<- U];exact u
     have z2:¬ ((c:Int) < m):=by omega
     have HC:Hid _:=U;clear U u;gi_wp2;go_roundw
     case rel=>exact⟨a+1,by omega,by go_num,r,HJ.out⟩
     case measure=>simp[intOf];omega
  ·have han:a=n:=by omega
   have HJ:Hid (J E.length wr):=by
    show J _ wr
    have:(ens Q).take a=ens Q:=List.take_of_length_le (by simp[ens];have:=hnn.out;omega);rw[this,<- C.out] at s;exact s
   have z1:¬ ((a:Int) < n):=by omega
   have HA:Hid _:=han;clear han s;gi_wp2;go_end0;exact⟨⟨_,rfl⟩,hsz,.inl HJ.out⟩
end
end Pg
end
section
namespace Pg
open Go.RowKit Go.Lib
section
variable {F:Fence} {n:Nat} {P:Program} {ops:Array Oper} {Q:Exit->Act->World->Prop} {md:Region.Mode} {S:World->Prop}
section
variable {j i:Nat}{o oi:Oper}{v:Value}{a:Act}{K:Act->World->Prop}{w:World}
def inH(F:Fence)(n:Nat)(P:Program)(md:Region.Mode)(ops:Array Oper)(Q:Exit->Act->World->Prop)(S:World->Prop):Nat->Array Bool->Act->World->Prop
 | 0,listed,a,w=>Region.ready md ops listed=[]/\Q .normal a w
 | fuel + 1,listed,a,w =>
  (Region.ready md ops listed=[]->Q .normal a w) /\
  ∀ i∈Region.ready md ops listed,wpOpIn F n P ops Q i (fun a' w'=>S w'/\inH F n P md ops Q S fuel (listed.setIfInBounds i true) a' w') a w
theorem nP:∀ (fuel:Nat) (listed:Array Bool) (a:Act) (w:World),inH F n P md ops Q S fuel listed a w->wpAnyIn F n P md ops Q fuel listed a w
 | 0,_,_,_,h=>h
 | fuel+1,_,_,_,h=>⟨h.1,fun i hi=>wpOpIn_mono (fun a' w' h'=>nP fuel _ a' w' h'.2) (h.2 i hi)⟩
def qQ(ops:Array Oper):Bool:=ops.all fun o=>match o.op with | .defer _=>false | .select ..=>false | _=>true
theorem jx(h:qQ ops=true)(d:ops[j]?=some o):(∀ c,o.op≠.defer c)/\(∀ cs b,o.op≠.select cs b):=by
 unfold qQ at h;rw[Array.all_eq_true] at h;obtain⟨a,rfl⟩:=Array.getElem?_eq_some_iff.1 d;have:=h j a;refine⟨fun c e=>?_,fun cs b e=>?_⟩
 ·rw[e] at this;simp at this
 ·rw[e] at this;simp at this
theorem pr(hF:∀ f,F.fn f)(b:qQ ops=true)(hi:ops[i]?=some o)(hy:YieldsIf P ops S o v a)(hS:S w)(h:K (a.put o.dst v) w):wpOpIn F n P ops Q i K a w:=by
 unfold wpOpIn;simp only[hi];rcases hy with⟨hw,hv⟩ | ⟨hw,rfl⟩
 ·simp only[hw,if_true,Oper.wpIn,Oper.semAt_eq F.round a.eval o (jx b hi).1,hv w hS,Oper.uponIn];exact⟨fun f _=>hF f,h⟩
 ·simp only[hw,Bool.false_eq_true,if_false];exact⟨fun f _=>hF f,h⟩
theorem put_in{g:Oper}(hF:∀ f,F.fn f)(B:qQ ops=true)(y:ops[j]?=some g)(o:oi.apart ops g=true)(p:∀ cs b,oi.op≠.select cs b)(q:∀ c a w,Q (.panic c) (a.put oi.dst v) w->Q (.panic c) a w)(hy:YieldsIf P ops S oi v a)(h:wpOpIn F n P ops Q j K (a.put oi.dst v) w) :
  wpOpIn F n P ops Q j (fun a' w'=>YieldsIf P ops S oi v a'/\K (a'.put oi.dst v) w') a w:=by
 obtain⟨A,i,t⟩:=Oper.apart_spec o;obtain⟨z,s⟩:=jx B y
 have keep:∀ (a:Act),YieldsIf P ops S oi v a->∀ u,YieldsIf P ops S oi v (a.put g.dst u):=fun a hy u =>
  hy.of_same (execOp_put oi p a g.dst u t) (wanted_put oi a g.dst u t)
 have k:∀ d,YieldsIf P ops S oi v { a with defers:=d :: a.defers }:=fun d=>hy.of_same rfl rfl
 unfold wpOpIn at *;simp only[y] at *;rw[wanted_put g a oi.dst v A] at h;split
 ·rename_i hw;simp only[hw,if_true] at h;unfold Oper.wpIn at *;refine⟨fun f _=>hF f,?_⟩;have h:=h.2;rw[Oper.semAt_eq _ _ _ z,execOp_put g s a oi.dst v A] at h;rw[Oper.semAt_eq _ _ _ z];generalize (execOp a.eval g).run P w=r at *
  cases r with
  | ok x w' =>
   cases x<;>simp only[Oper.uponIn] at h ⊢
   case value u=>exact⟨keep a hy u,by rw[<- Act.put_comm a v u i];exact h⟩
   case skip=>exact⟨keep a hy _,by rw[<- Act.put_comm a v undef i];exact h⟩
   case defer d =>
    refine⟨keep _ (k d) _,?_⟩;rw[<- Act.put_comm _ v undef i,<- Act.put_defers];exact h
   case enter f args =>
    refine⟨h.1,CallsIn.mono h.2 fun e m he=>?_⟩
    cases e with
    | returned u=>exact⟨keep a hy u,by rw[<- Act.put_comm a v u i];exact he⟩
    | panicked c=>exact q _ _ _ he
    | outgrown=>exact he
   case row row args=>exact⟨h.1,RowsIn.mono h.2 fun u m he=>⟨keep a hy u,by rw[<- Act.put_comm a v u i];exact he⟩⟩
   case round l f tmps assign body =>
    refine⟨h.1,RoundIn.mono h.2 fun e m he=>?_⟩
    cases e with
    | returned u=>exact⟨keep a hy u,by rw[<- Act.put_comm a v u i];exact he⟩
    | panicked c=>exact q _ _ _ he
    | outgrown=>exact he
  | halt x w' =>
   cases x<;>simp only[Oper.uponIn] at h ⊢
   case panic u=>exact q _ _ _ h
 ·rename_i hw;simp only[hw] at h;exact⟨fun f _=>hF f,keep a hy _,by rw[<- Act.put_comm a v undef i];exact h.2⟩
theorem xQ(hF:∀ f,F.fn f)(u:qQ ops=true)(hi:ops[i]?=some oi)(I:∀ c a w,Q (.panic c) (a.put oi.dst v) w->Q (.panic c) a w) :
  ∀ (fuel:Nat) (listed:Array Bool) (a:Act) (w:World),
   (∀ j oj,ops[j]?=some oj->j≠i->listed.getD j true=false->(∀ e∈oj.after,Region.binds md e=true->e.on≠i)->oi.apart ops oj=true) ->
   i∈Region.ready md ops listed->YieldsIf P ops S oi v a->S w ->
   inH F n P md ops Q S fuel (listed.setIfInBounds i true) (a.put oi.dst v) w->inH F n P md ops Q S (fuel+1) listed a w:=by
 intro fuel
 induction fuel with
 | zero =>
  intro listed a w _ o hy hS H;refine⟨fun h=>(by rw[h] at o;cases o),fun j y=>?_⟩;by_cases b:j=i
  ·subst b;exact pr hF u hi hy hS ⟨hS,H⟩
  ·have:=ready_mono y b;rw[H.1] at this
   cases this
 | succ fuel ih =>
  intro listed a w d o hy hS H;refine⟨fun h=>(by rw[h] at o;cases o),fun j y=>?_⟩;by_cases b:j=i
  ·subst b;exact pr hF u hi hy hS ⟨hS,H⟩
  ·have m:=H.2 j (ready_mono y b);obtain⟨l,oj,r,t⟩:=mem_ready.1 y
   have p:∀ e∈oj.after,Region.binds md e=true->e.on≠i:=fun e he hb heq=>by
    have m:=t e he hb;have C:=(mem_ready.1 o).1;rw[heq] at m;rcases Nat.lt_or_ge i listed.size with z | z
    ·simp[z] at C m;rw[C] at m;cases m
    ·simp[Array.getElem?_eq_none z] at m
   have D:=put_in hF u r (d j oj r b l p) (jx u hi).2 I hy m
   have g:∀ k ok,ops[k]?=some ok->k≠i->(listed.setIfInBounds j true).getD k true=false ->
     (∀ e∈ok.after,Region.binds md e=true->e.on≠i)->oi.apart ops ok=true:=fun k ok J B s A=>by
    refine d k ok J B ?_ A;by_cases q:j=k
    ·subst q;exact l
    ·rw[getD_set_ne true q] at s;exact s
   refine wpOpIn_mono (fun E G x=>⟨x.2.1,ih (listed.setIfInBounds j true) E G g (ready_mono o (Ne.symm b)) x.1 x.2.1 ?_⟩) D;rw[Array.setIfInBounds_comm _ _ b];exact x.2.2
end
end
section
variable {ops:Array Oper} {Q:Exit->Act->World->Prop} {S:World->Prop} {fuel:Nat} {listed:Array Bool} {a:Act} {w:World} {l n:Nat}
section
variable {Qc R:Ending->World->Prop}
theorem Ak{id:Nat}(hm:Tryz.prog.follows .mixedOrders=true)(h:inH (Fence.wide.inRound l) n Tryz.prog .any ops Q S ops.size (Array.replicate ops.size false) a w.drew):(Code.region id ops true).wpIn (Fence.wide.inRound l) n Tryz.prog Q a w :=
 wpIn_region_any hm (nP _ _ _ _ h)
theorem jr(i:Nat)(d:Option Tmp)(v:Value)(f:qQ ops=true)(hc:lu ops listed a i d=true)(hy:∀ w',S w'->(execOp a.eval (ops.getD i default)).run Tryz.prog w'=.ok (.value v) w')(g:∀ c a w,Q (.panic c) (a.put d v) w->Q (.panic c) a w)(hS:S w)(h:inH (Fence.wide.inRound l) n Tryz.prog .any ops Q S fuel (listed.setIfInBounds i true) (a.put d v) w):inH (Fence.wide.inRound l) n Tryz.prog .any ops Q S (fuel+1) listed a w:=by
 simp only[lu,Bool.and_eq_true,decide_eq_true_eq] at hc;obtain⟨⟨⟨⟨⟨_,e⟩,k⟩,b⟩,j⟩,m⟩:=hc;subst m;exact xQ (fun _=>trivial) f (cC b) g fuel listed a w (Region.free_spec (cC b) e) (by simpa using k) (.inl ⟨j,hy⟩) hS h
theorem rq(i:Nat)(d:Option Tmp)(v:Value)(T:TypeId)(k g o:Nat)(m:qQ ops=true)(hc:lu ops listed a i d=true)(f:(ops.getD i default).op=.load T (.tmp k))(e:a.eval (.tmp k)=.pointer (some ⟨g,o,none⟩))(j:∀ w',S w'->(loadVar T ⟨g,o,none⟩).run Tryz.prog w'=.ok v w')(p:∀ c a w,Q (.panic c) (a.put d v) w->Q (.panic c) a w)(hS:S w)(h:inH (Fence.wide.inRound l) n Tryz.prog .any ops Q S fuel (listed.setIfInBounds i true) (a.put d v) w):inH (Fence.wide.inRound l) n Tryz.prog .any ops Q S (fuel+1) listed a w :=
 jr i d v m hc (fun w' b=>dQ k f e (j w' b)) p hS h
theorem wI(i:Nat)(d:Option Tmp)(f:FuncId)(args:Array Value)(q:qQ ops=true)(hc:kK ops listed a i d=true)(c:(execOp a.eval (ops.getD i default)).run Tryz.prog w=.ok (.enter f args) w)(b:Calls Tryz.prog f args w Qc)(r:∀ e w',Qc e w'->∃ v,e=.returned v/\S w'/\inH (Fence.wide.inRound l) n Tryz.prog .any ops Q S fuel (listed.setIfInBounds i true) (a.put d v) w') :
  inH (Fence.wide.inRound l) n Tryz.prog .any ops Q S (fuel+1) listed a w:=by
 simp only[kK,Bool.and_eq_true,decide_eq_true_eq] at hc;obtain⟨⟨⟨m,k⟩,s⟩,t⟩:=hc;subst t;refine⟨fun p=>absurd (m▸p) (by simp),fun j o=>?_⟩;rw[m] at o;obtain rfl:j=i:=by simpa using o
 unfold wpOpIn;rw[cC k];simp only[s,if_true,Oper.wpIn];refine⟨fun _ _=>trivial,?_⟩;rw[Oper.semAt_eq _ _ _ (jx q (cC k)).1,c];refine⟨fun h=>(by cases h),CallsIn.inRound l (callsIn_wide.2 (b.mono fun e w' he=>?_))⟩;obtain⟨v,rfl,g,hw⟩:=r e w' he;exact⟨g,hw⟩
theorem zD(i:Nat)(d:Option Tmp)(g:Nat)(args:Array Value)(s:qQ ops=true)(hc:kK ops listed a i d=true)(b:(execOp a.eval (ops.getD i default)).run Tryz.prog w=(Instr.yield g args).run Tryz.prog w)(hy:YieldAt Fence.wide 0 Tryz.prog g args w R)(t:∀ e w',R e w'->∃ v,e=.returned v/\S w'/\inH (Fence.wide.inRound l) n Tryz.prog .any ops Q S fuel (listed.setIfInBounds i true) (a.put d v) w') :
  inH (Fence.wide.inRound l) n Tryz.prog .any ops Q S (fuel+1) listed a w:=by
 simp only[kK,Bool.and_eq_true,decide_eq_true_eq] at hc;obtain⟨⟨⟨o,m⟩,u⟩,x⟩:=hc;subst x;obtain⟨fn,tmps,assign,body,hy,q⟩:=hy;refine⟨fun r=>absurd (o▸r) (by simp),fun j p=>?_⟩;rw[o] at p;obtain rfl:j=i:=by simpa using p
 unfold wpOpIn;rw[cC m];simp only[u,if_true,Oper.wpIn];refine⟨fun _ _=>trivial,?_⟩;rw[Oper.semAt_eq _ _ _ (jx s (cC m)).1,b,hy]
 have k:RoundIn (Fence.wide.inRound l) (n - 1) Tryz.prog g fn tmps assign body w R:=⟨q.1,fun c cs _=>q.2 c cs (fun _ h=>by cases h)⟩
 refine⟨fun h=>(by cases h),k.mono fun e w' he=>?_⟩;obtain⟨v,rfl,f,hw⟩:=t e w' he;exact⟨f,hw⟩
theorem vM(b:Region.ready .any ops listed=[])(h:Q .normal a w):inH (Fence.wide.inRound l) n Tryz.prog .any ops Q S fuel listed a w:=by
 cases fuel with
 | zero=>exact⟨b,h⟩
 | succ k=>exact⟨fun _=>h,by rw[b];simp⟩
end
end
end Pg
end
section
namespace Pg
open Go.RowKit Go.Lib
attribute [local go_sem] Oper.semAt_some
section
variable {W W' w:World}{D:Nat->Prop}{v:Value}{l:List Int}{E:List En}{args lb:Array Value}{g:Nat}{cs:List Value}{Rd:World→Prop}
def ArC(E:List En)(i:Nat)(args:Array Value)(n:Nat)(V:World):Prop :=
 ∃ e kv vv s,E[i]?=some e/\args=#[kv,vv]/\OB V (fun b=>n<=b/\b < s) kv e.kl/\OB V (s <= ·) vv e.vl/\n<=s
def ArE(E:List En)(i:Nat)(args:Array Value)(_:Nat)(_:World):Prop:=∃ e,E[i]?=some e/\args=#[.agg #[e.kv,e.vv]]
theorem OB.cel(h:OB W D v l)(hc:Cel W W'):OB W' D v l:=by
 refine⟨h.oct,h.ex.imp id ?_⟩;rintro⟨b,c,e,hd,hR⟩;obtain⟨cs,k⟩:=hR.kind;exact⟨b,c,e,hd,hR.same ((hc.same b _ k.blk rfl).trans k.blk.symm)⟩
theorem ArC.cel{i:Nat}{n:Nat}{V:World}(h:ArC E i args n V)(hc:Cel V W):ArC E i args n W:=by
 obtain⟨e,kv,vv,s,h1,h2,h3,h4,h5⟩:=h;exact⟨e,kv,vv,s,h1,h2,h3.cel hc,h4.cel hc,h5⟩
theorem oq(c:Blk w g [v] 131):(loadVar 131 ⟨g,0,none⟩).run Tryz.prog w=.ok v w:=by
 have c:=c.cell (i:=0) rfl;go_simp
theorem yl{o:Nat}(c:w.cell? ⟨g,o,none⟩=some v):(loadVar 36 ⟨g,o,none⟩).run Tryz.prog w=.ok v w:=by go_simp
theorem OB.lt'(h:OB w D v l):OB w (fun b=>D b/\b < w.heap.size) v l:=by
 refine⟨h.oct,h.ex.imp id ?_⟩;rintro⟨b,c,e,hd,hR⟩;exact⟨b,c,e,⟨hd,hR.lt⟩,hR⟩
theorem Ey{a:Act}{o:Oper}{f x y l:Nat}{t1 t2:TypeId}{u:Value}(d:o.op=.call { callee:=.value (.tmp f),args:=#[.tmp x,.tmp y],argTypes:=#[t1,t2] })(hf:a.eval (.tmp f)=.func (.yield l) #[] #[])(hx:a.eval (.tmp x)=u)(hy:a.eval (.tmp y)=v) :
  (execOp a.eval o).run Tryz.prog w=(Instr.yield l #[u,v]).run Tryz.prog w:=by
 have b:a.tmps[x]?.getD undef=u:=by simpa[Act.eval] using hx
 have c:a.tmps[y]?.getD undef=v:=by simpa[Act.eval] using hy
 simp only[execOp,d,resolve,hf];simp[go_sem,b,c,invoke]
theorem jN{B:Nat}{b:Nat}{t:TypeId}(h:Blk W b cs t)(hr:Rec B W W'):Blk W' b cs t:=⟨hr.same b _ h.blk (.inr rfl)⟩
theorem uD{Tp:TypeId→Prop}{gf bw N:Nat}{D:Nat→Prop}(IT:Itr Tp gf lb N (ArE E) Rd)(eg:∀ args w,(callFunc gf args).run Tryz.prog w=.ok (.enter gf args) w)(hT:¬ Tp 131)(hTe:¬ Tp 211)(ab:∀ V,Rd V→V.cell? ⟨bw,0,none⟩=some (.func (.func gf) #[] lb))(P:∀ V,Rd V→∀ e ∈ E,EnA V D e)(hbig:∀ e ∈ E,e.kl.length≤1000000000∧e.vl.length≤1000000000) :
    Itr Tp 158 #[.pointer (some ⟨bw,0,none⟩)] N (ArC E) Rd:=by
  intro l J Jx W hJ hJx p hY h0;have cw:=ab _ (p 0 W h0);have J1:=hJ 0 _ _ h0 (Rec.of (af W (.cells #[.func (.yield l) #[] #[]] 131)));have cw1:=ab _ (p 0 _ J1);have Y1:=aj W [.func (.yield l) #[] #[]] 131;refine(callsIn_wide (n:=0)).1 ?_
  refine callsIn_of_wp_marks Tryz.func158 rfl trivial ?_ rfl;simp only[Tryz.ntmps158,List.size_toArray,List.length_cons,List.length_nil,Nat.reduceAdd,Nat.reduceSub,Array.replicate_succ,Array.replicate_zero,List.push_toArray,List.append_toArray,List.nil_append,List.cons_append];gi_wp2
  have hs1:(W.alloc (.cells #[.func (.yield l) #[] #[]] 131)).heap.size=W.heap.size+1:=by simp
  generalize W.alloc (.cells #[.func (.yield l) #[] #[]] 131)=W1 at *;refine gY IT (by rfl) eg (fun i args n V V' h _=>h) (fun i args n V h=>by obtain⟨e,_,rfl⟩:= h;rfl)
    (fun i V=>J i V∧W1.heap.size≤V.heap.size∧Blk V W.heap.size [.func (.yield l) #[] #[]] 131)
    (fun c i V=>c=.ret∧Jx i V∧W1.heap.size≤V.heap.size)
    (fun i X Y hx O=>⟨hJ i X Y hx.1 (O.mono (by omega)),Nat.le_trans hx.2.1 O.size,jN hx.2.2 O⟩)
    (fun c i X Y hx O=>⟨hx.1,hJx i X Y hx.2.1 (O.mono (by omega)),Nat.le_trans hx.2.2 O.size⟩)
    (fun i V hv=>p i V hv.1) ⟨J1,Nat.le_refl _,Y1⟩ ?_ ?_ ?_
  · rintro l2 i args V A hl hlV hrec H ⟨hJi,Q,hY2⟩ hb ⟨e,he,rfl⟩
    have F:=List.mem_of_getElem? he;have z:=P V (p i V hJi) e F;obtain⟨hkb,hvb⟩:= hbig e F;obtain⟨ekv,m,evv,q⟩:= e;obtain⟨ak,nk,hk1⟩:= z.k.shape;obtain⟨Z,nv,R⟩:= z.v.shape;simp only at hk1 R;subst hk1 R;simp;gi_wp2;refine⟨af A _,?_⟩;intro M K U hsz2 hYb j _ T hsz3 hV2 r hrec2;have t:=(P M (p i M U) _ F).keep (ai j (cy K))
    have hEb:Blk K A.heap.size [.slice ak m.length nk,.slice Z q.length nv] 211:=(aj A [.slice ak m.length nk,.slice Z q.length nv] 211).same (T _ (by have:=hb.size;omega));have hYW:=hYb.keep j;gi_wp2;refine Ak (S:=fun w'=>Blk w' W.heap.size [.func (.yield l) #[] #[]] 131∧Blk w' A.heap.size [.slice ak m.length nk,.slice Z q.length nv] 211) (by kernel_rfl) ?_
    have hS:=(show _∧_ from⟨hYW.drew,hEb.drew⟩);have q1:=hb.size;have q2:=j.size;refine rq 0 (some 6) (.func (.yield l) #[] #[]) 131 2 W.heap.size 0 (by kernel_rfl) (by kernel_rfl) (by kernel_rfl) (by kernel_rfl) (fun w' h=>oq h.1) (fun _ _ _ h=>h) hS ?_
    refine jr 1 (some 7) (.pointer (some ⟨A.heap.size,0,none⟩)) (by kernel_rfl) (by kernel_rfl) (fun _ _=>by kernel_rfl) (fun _ _ _ h=>h) hS ?_
    refine rq 2 (some 8) (.slice ak m.length nk) 36 7 A.heap.size 0 (by kernel_rfl) (by kernel_rfl) (by kernel_rfl) (by kernel_rfl) (fun w' h=>yl (h.2.cell (i:=0) rfl)) (fun _ _ _ h=>h) hS ?_
    refine jr 4 (some 10) (.pointer (some ⟨A.heap.size,1,none⟩)) (by kernel_rfl) (by kernel_rfl) (fun _ _=>by kernel_rfl) (fun _ _ _ h=>h) hS ?_
    refine rq 5 (some 11) (.slice Z q.length nv) 36 10 A.heap.size 1 (by kernel_rfl) (by kernel_rfl) (by kernel_rfl) (by kernel_rfl) (fun w' h=>yl (h.2.cell (i:=1) rfl)) (fun _ _ _ h=>h) hS ?_
    refine wI 3 (some 9) 114 #[.slice ak m.length nk] (by kernel_rfl) (by kernel_rfl) (by kernel_rfl) (cH t.k.by hkb) ?_
    rintro e' w3 ⟨G,rfl,hO3,d⟩;refine⟨_,rfl,⟨hS.1.keep d,hS.2.keep d⟩,?_⟩;replace hS:=(show _∧_ from⟨hS.1.keep d,hS.2.keep d⟩);refine wI 6 (some 12) 114 #[.slice Z q.length nv] (by kernel_rfl) (by kernel_rfl) (by kernel_rfl) (cH (t.v.keep d).by hvb) ?_
    rintro e' w4 ⟨L,rfl,hO4,g⟩;refine⟨_,rfl,⟨hS.1.keep g,hS.2.keep g⟩,?_⟩;replace hS:=(show _∧_ from⟨hS.1.keep g,hS.2.keep g⟩)
    have hBV:Below M.heap.size M w4:=ai (ai (ai j (cy K)) d) g
    have hBW:Below K.heap.size K w4:=ai (ai (cy K) d) g
    have hAr:ArC E i #[G,L] M.heap.size w4:=⟨_,G,L,w3.heap.size,he,rfl,(hO3.lt'.keep g).mono (fun b _ hb=>⟨Nat.le_trans j.size hb.1,hb.2⟩),hO4,Nat.le_trans j.size d.size⟩;refine zD 7 (some 13) l #[G,L] (by kernel_rfl) (by kernel_rfl) (Ey (t1:=36) (t2:=36) (f:=6) (x:=9) (y:=12) (by kernel_rfl) (by kernel_rfl) (by kernel_rfl) (by kernel_rfl)) (hY i _ M w4 H U (by omega) hBV hAr) ?_
    rintro e' w5 ⟨I,h5⟩;have o:=I.blk hS.1 (Nat.le_refl _) hT;have s:=I.blk hS.2 (by omega) hTe
    have C:bH Tp (W.heap.size+1) K w5:=(bH.of (B:=W.heap.size+1) hBW).trans (I.mono (by omega))
    have u:W.heap.size+1≤w5.heap.size:=by have:=C.size;omega
    rcases h5 with⟨rfl,hJ5⟩ | ⟨rfl,hJ5⟩
    · refine⟨_,rfl,⟨o,s⟩,?_⟩
      have hS:=(show _∧_ from⟨o,s⟩);refine jr 8 (some 14) (.bool false) (by kernel_rfl) (by kernel_rfl) (fun _ _=>by kernel_rfl) (fun _ _ _ h=>h) hS ?_
      refine vM (by kernel_rfl) ?_
      simp only[Act.put,List.setIfInBounds_toArray,List.set_cons_zero,List.set_cons_succ];gi_wp2;exact⟨C,hJ5,u,o⟩
    · refine⟨_,rfl,⟨o,s⟩,?_⟩
      have hS:=(show _∧_ from⟨o,s⟩);refine jr 8 (some 14) (.bool true) (by kernel_rfl) (by kernel_rfl) (fun _ _=>by kernel_rfl) (fun _ _ _ h=>h) hS ?_
      refine vM (by kernel_rfl) ?_
      simp only[Act.put,List.setIfInBounds_toArray,List.set_cons_zero,List.set_cons_succ];gi_wp2;exact⟨C,rfl,hJ5,u⟩
  · rintro D' W' hD hK ⟨hJn,Q,hYb⟩
    gi_wp2;refine⟨by simp,.inl ⟨_,_,rfl,run_takeDeferred hK,?_⟩⟩;exact⟨_,results_none rfl _ _ _,⟨_,rfl⟩,by simp;omega,.inl (hJ N _ _ hJn (Rec.put hK rfl (by omega) _))⟩
  · rintro D' c i W' hD hK H ⟨rfl,aa,Q⟩
    gi_wp2;refine⟨by simp,.inl ⟨_,_,rfl,run_takeDeferred hK,?_⟩⟩;exact⟨_,results_none rfl _ _ _,⟨_,rfl⟩,by simp;omega,.inr ⟨i,H,hJx (i+1) _ _ aa (Rec.put hK rfl (by omega) _)⟩⟩
end
section
variable {w W W1:World}{lb:Array Value}{P:List (List En)}{f t:List Int}{X F D Df Dt:Nat->Prop}{g:Nat}{L:List Pg}{E:List En}{fv tv:Value}
theorem xZ{pm d pt:Option Addr}{b c f g:Nat}:Calls Tryz.prog 113 #[.pointer pm,.slice d b c,.slice pt f g] w fun e w'=>e=.returned (.func (.func 159) #[] #[.pointer (some ⟨w.heap.size,0,none⟩),.pointer (some ⟨w.heap.size + 1,0,none⟩),.pointer (some ⟨w.heap.size + 2,0,none⟩)])/\Blk w' w.heap.size [.pointer pm] 76/\Blk w' (w.heap.size + 1) [.slice d b c] 36/\Blk w' (w.heap.size + 2) [.slice pt f g] 36/\Below w.heap.size w w':=by
 have m:=af w (.cells #[.pointer pm] 76);have l:=af (w.alloc (.cells #[.pointer pm] 76)) (.cells #[.slice d b c] 36);have i:=af ((w.alloc (.cells #[.pointer pm] 76)).alloc (.cells #[.slice d b c] 36)) (.cells #[.slice pt f g] 36);have c1:=((aj w [.pointer pm] 76).keep l).keep i;have c2:=(aj (w.alloc (.cells #[.pointer pm] 76)) [.slice d b c] 36).keep i;have j:=aj ((w.alloc (.cells #[.pointer pm] 76)).alloc (.cells #[.slice d b c] 36)) [.slice pt f g] 36
 have s1:(w.alloc (.cells #[.pointer pm] 76)).heap.size=w.heap.size+1:=by simp
 have s2:((w.alloc (.cells #[.pointer pm] 76)).alloc (.cells #[.slice d b c] 36)).heap.size=w.heap.size+2:=by simp
 rw[s1] at c2;rw[s2] at j;clear s1 s2;go_enter Tryz.func113,Tryz.ntmps113;go_wp2;go_ret;exact⟨by simp,c1,c2,j,ai (ai m l) i⟩
theorem xH{k:Nat}:Calls Tryz.prog 112 #[.func (.func k) #[] lb] w fun e w'=>e=.returned (.func (.func 158) #[] #[.pointer (some ⟨w.heap.size,0,none⟩)])/\Blk w' w.heap.size [.func (.func k) #[] lb] 187/\Below w.heap.size w w':=by
 go_enter Tryz.func112,Tryz.ntmps112;go_wp2;go_ret;exact⟨rfl,aj w _ _,af w _⟩
theorem wJ{e:En}(h:e∈wlk P f t):∃ es∈P,e∈es:=by
 unfold wlk at h;obtain⟨es,h1,h2⟩:=List.mem_flatMap.1 h;exact⟨es,lM h1,lM h2⟩
structure Wm(W:World)(X F D:Nat->Prop)(g:Nat)(L:List Pg):Prop where
 map:bO W F D g L
 ord:Ord (ens L)
 few:∀ es∈ens L,es.length<=32
 big:L.length<=100000000
 small:∀ es∈ens L,∀ e∈es,e.kl.length<=1000000000/\e.vl.length<=1000000000
 xF:∀ b,X b->¬ F b
 xU:∀ b,X b->∀ cs,¬ Blk W b cs 5
 xl:∀ b,X b->b < W.heap.size
theorem Wm.copies{Tp:TypeId→Prop}{X F D:Nat→Prop}{a bw N:Nat}(K:Wm W X F D g L)(l:Below W.heap.size W W1)(q:Itr Tp a lb N (ArE E) (fun V=>Chg X W1 V))(o:∀ args w,(callFunc a args).run Tryz.prog w=.ok (.enter a args) w)(n:¬ Tp 131)(f:¬ Tp 211)(hw:Blk W1 bw [.func (.func a) #[] lb] 187)(m:W.heap.size≤bw)(j:∀ e ∈ E,∃ es ∈ ens L,e ∈ es):Itr Tp 158 #[.pointer (some ⟨bw,0,none⟩)] N (ArC E) (fun V=>Chg X W1 V):=by
  refine uD (D:=D) q o n f (fun V h=>(hw.chg h (fun x=>by have:=K.xl _ x;omega)).cell (i:=0) rfl) (fun V h e he=>?_) (fun e he=>?_)
  · obtain⟨es,d,c⟩:= j e he
    obtain⟨p,r,rfl⟩:= List.mem_map.1 d;have A:=(K.map.keep l).chg h K.xF (fun b hb cs k=>K.xU b hb cs (k.same (l.block b (K.xl b hb)).symm));exact(A.cp p r).1.bX e c
  · obtain⟨es,d,c⟩:= j e he
    exact K.small es d e c
theorem Wm.wk{bm bf bt:Nat}(K:Wm W X F D g L)(a:Below W.heap.size W W1)(hm:Blk W1 bm [.pointer (some ⟨g,0,none⟩)] 76)(hf:Blk W1 bf [fv] 36)(c:Blk W1 bt [tv] 36)(lm:W.heap.size<=bm)(e:W.heap.size<=bf)(lt:W.heap.size<=bt)(of:OB W1 Df fv f)(d:OB W1 Dt tv t):Wk W1 X F D g L bm bf bt fv tv f t :=
 ⟨K.map.keep a,K.ord,K.few,K.big,K.xF,fun b hb cs k=>K.xU b hb cs (k.same (a.block b (K.xl b hb)).symm),⟨hm,fun x=>by have:=K.xl _ x;omega⟩,⟨hf,fun x=>by have:=K.xl _ x;omega⟩,⟨c,fun x=>by have:=K.xl _ x;omega⟩,⟨_,of⟩,⟨_,d⟩⟩
theorem nS{Tp:TypeId->Prop}(K:Wm W X F D g L)(hf:By W fv f)(v:By W tv t)(n:f.length<=1000000000)(l:t.length<=1000000000)(x:¬ Tp 131)(m:¬ Tp 211) :
  Calls Tryz.prog 62 #[.pointer (some ⟨g,0,none⟩),fv,tv] W fun e W'=>∃ bw,e=.returned (.func (.func 158) #[] #[.pointer (some ⟨bw,0,none⟩)])/\Below W.heap.size W W'/\Itr Tp 158 #[.pointer (some ⟨bw,0,none⟩)] (wlk (ens L) f t).length (ArC (wlk (ens L) f t)) (fun V=>Chg X W' V):=by
 have t1:=cH hf n;go_enter Tryz.func62,Tryz.ntmps62;go_wp2_with (go_at_call 114;refine t1.mono ?_;rintro e A ⟨v1,rfl,r,q⟩;obtain⟨C,d1,rfl⟩:=r.shape);have t2:=cH (v.keep q) l
 go_wp2_with (first
  | (go_at_call 114;refine t2.mono ?_;rintro e G ⟨v2,rfl,o,s⟩;obtain⟨E,d2,rfl⟩:=o.shape)
  | (go_at_call 113;refine xZ.mono ?_;rintro e B ⟨rfl,m3,f3,t3,p⟩)
  | (go_at_call 112;refine xH.mono ?_;rintro e z ⟨rfl,y,j⟩))
 go_ret;have i:=ai q s;have d:=ai i p;have b:=ai d j;have s2:=i.size;have s3:=d.size;have c:=ai p j;have u:=K.wk b (m3.keep j) (f3.keep j) (t3.keep j) (by omega) (by omega) (by omega) ((r.keep s).keep c) (o.keep c);exact⟨_,rfl,b,K.copies b (sS u) (enters_of Tryz.func159 (by kernel_rfl) rfl) x m y (by omega) (fun e he=>wJ he)⟩
end
end Pg
end
section
namespace Pg
open Go.RowKit Go.Lib
section
variable {F:Fence} {n:Nat} {P:Program} {ops:Array Oper} {Q:Exit->Act->World->Prop} {md:Region.Mode} {S:World->Prop} {z:Nat}
def waits (md:Region.Mode) (ops:Array Oper) (z i:Nat):Bool:=decide (z≠i) && (ops.getD z default).after.any fun e=>Region.binds md e && decide (e.on=i)
end
section
variable {ops:Array Oper} {Q:Exit->Act->World->Prop} {S:World->Prop} {z fuel:Nat} {listed:Array Bool} {a:Act} {w:World} {l n:Nat}
end
end Pg
end
section
namespace Pg
open Go.RowKit Go.Lib
attribute [local go_sem] Oper.semAt_some
section
variable {w w':World}{B:Nat}{v ov:Value}{es:List En}{D:Nat->Prop}{l:List Int}{cs:List Value}
theorem KQ:Kd Tryz.prog 30 96 2 48 (.agg #[.slice none 0 0,.slice none 0 0]):=⟨by kernel_rfl,by kernel_rfl,rfl,by simp[Value.cells,Value.oneCell'],by decide⟩
structure PrA(w:World)(B:Nat)(v:Value)(es:List En):Prop where
 ex:(v=.slice none 0 0/\es=[])\/∃ b c,v=.slice (some ⟨b,0,none⟩) es.length c/\B<=b/\Rw w 96 2 b es.length c (flat es)
 bX:∀ e∈es,EnA w (B <= ·) e
theorem PrA.shape(h:PrA w B v es):∃ ao c,v=.slice ao es.length c:=by
 rcases h.ex with⟨rfl,rfl⟩ | ⟨b,c,rfl,_⟩
 ·exact⟨none,0,rfl⟩
 ·exact⟨_,c,rfl⟩
theorem PrA.keep(h:PrA w B v es)(hb:Below w.heap.size w w'):PrA w' B v es :=
 ⟨h.ex.imp id (fun ⟨b,c,e,hl,hR⟩=>⟨b,c,e,hl,hR.keep hb⟩),fun e he=>(h.bX e he).keep hb⟩
structure Spr(B:Nat)(w w':World):Prop where
 chg:Chg (fun b=>B<=b/\∃ cs,Blk w b cs 96) w w'
theorem Spr.keeps{B':Nat}(h:Spr B w w'){Tp:TypeId->Prop}(c:Tp 96):bH Tp B' w w' :=
 ⟨h.chg.size,fun k o _ a b=>(h.chg.same k (lt_of_block a) (fun ⟨_,cs,hb⟩=>by
  have e:=hb.blk;rw[a] at e
  cases e
  exact b _ _ _ rfl c)).trans a⟩
theorem Spr.ob(h:Spr B w w')(hv:OB w D v l):OB w' D v l :=
 hv.chg h.chg (fun b ⟨_,cs,k⟩ ds k'=>by
  have:=(k.eq k').2;revert this
  decide)
theorem Spr.blk(h:Spr B w w'){b:Nat}{t:TypeId}(hb:Blk w b cs t)(ht:t≠96):Blk w' b cs t :=
 hb.chg h.chg (fun ⟨_,_,k⟩=>ht (hb.eq k).2)
theorem Spr.of(h:Below w.heap.size w w'):Spr B w w':=⟨Chg.of h⟩
theorem Bi{e:En}{a:Addr}(ty:TypeId)(h:PrA w B ov es)(t:B<=w.heap.size)(he:EnA w (B <= ·) e)(y:es.length<=2000000000)(c0:w.cell? (a.add 0)=some e.kv)(c1:w.cell? (a.add 1)=some e.vv) :
  ∃ ov' w',(Builtin.append_ #[30,30] ty #[ov,.slice (some a) 1 1]).run Tryz.prog w=.ok ov' w'/\PrA w' B ov' (es ++ [e])/\Spr B w w':=by
 have d:∀ j u,[e.kv,e.vv][j]? = some u->w.cell? (a.add j)=some u:=fun j u g=>by
  match j with
  | 0=>simp at g;rw[<- g];exact c0
  | 1=>simp at g;rw[<- g];exact c1
  | k+2=>simp at g
 rcases h.ex with⟨rfl,rfl⟩ | ⟨b,c,rfl,hb,i⟩
 ·obtain⟨o,w',q,i,hw⟩:=er (w:=w) KQ ty a 1 1 [e.kv,e.vv] rfl d (by omega) (by omega) (by omega);refine⟨_,w',q,⟨.inr ⟨_,o,rfl,t,i⟩,fun x hx=>?_⟩,Spr.of hw⟩;simp at hx;subst hx;exact he.keep hw
 ·obtain⟨z,nk,n⟩:=he.k.shape;obtain⟨A,nv,p⟩:=he.v.shape;obtain⟨s,o,w',q,r,l,hw⟩:=dh (w:=w) KQ ty i a 1 1 [e.kv,e.vv] rfl d (by rw[n,p];simp[Value.oneCell']) (by omega) (by omega);obtain⟨m,k0⟩:=i.kind
  have hS:Spr B w w':=⟨hw.mono (fun x _ ex=>⟨ex▸hb,m,ex▸k0⟩)⟩
  refine⟨_,w',q,⟨.inr ⟨s,o,by simp,by rcases r with rfl | rfl<;>assumption,by rw[df,List.length_append];exact l⟩,fun x hx=>?_⟩,hS⟩
  have f:EnA w (B <= ·) x:=by
   rcases List.mem_append.1 hx with hx | hx
   ·exact h.bX x hx
   ·simp at hx;rw[hx];exact he
  exact⟨hS.ob f.k,hS.ob f.v⟩
theorem fC{a:Act}{o:Oper}{x y:Nat}{T ty:TypeId}{u r:Value}(b:o.type=ty)(c:o.op=.call { callee:=.builtin .append,args:=#[.tmp x,.tmp y],argTypes:=#[T,T] })(hx:a.eval (.tmp x)=u)(hy:a.eval (.tmp y)=v)(d:(Builtin.append_ #[T,T] ty #[u,v]).run Tryz.prog w=.ok r w') :
  (execOp a.eval o).run Tryz.prog w=.ok (.value r) w':=by
 subst b;unfold execOp;simp only[c,resolve,invoke,builtin,Sem.run_bind,Sem.run_pure,Result.andThen_ok,List.map_toArray,List.map_cons,List.map_nil,hx,hy,d]
end
section
variable {X:Nat->Prop}{W V V' w:World}{B bo:Nat}{v:Value}
theorem Chg.rcd(h:Chg X W V)(a:Rec W.heap.size V V'):Chg X W V':=by
 refine⟨a.os.trans h.os,a.tape.trans h.tape,a.output.trans h.output,Nat.le_trans h.size a.size,fun b hb hx=>?_⟩;have e:=h.same b hb hx;rw[<- e]
 have c:b < V.heap.size:=Nat.lt_of_lt_of_le hb h.size;rw[Array.getElem?_eq_getElem c] at e ⊢;exact a.same b _ (Array.getElem?_eq_getElem c) (.inl hb)
theorem PrA.cel{w':World}{es:List En}(h:PrA w B v es)(hc:Cel w w'):PrA w' B v es:=by
 refine⟨h.ex.imp id ?_,fun e he=>⟨(h.bX e he).k.cel hc,(h.bX e he).v.cel hc⟩⟩;rintro⟨b,c,e,d,a⟩;obtain⟨cs,k⟩:=a.kind;exact⟨b,c,e,d,a.same ((hc.same b _ k.blk rfl).trans k.blk.symm)⟩
def En.kl2(e:En):List Int × List Int:=(e.kl,e.vl)
structure CF(W V:World)(bo:Nat)(E:List En)(i:Nat):Prop where
 chg:Chg (·=bo) W V
 out:∃ ov es,Blk V bo [ov] 30/\PrA V W.heap.size ov es/\es.map En.kl2=(E.take i).map En.kl2
theorem CF.rcd{E:List En}{i:Nat}(h:CF W V bo E i)(hr:Rec W.heap.size V V'):CF W V' bo E i:=by
 obtain⟨ov,es,h1,h2,h3⟩:=h.out;exact⟨h.chg.rcd hr,ov,es,jN h1 hr,h2.cel hr.cel,h3⟩
theorem PrA.low{B':Nat}{es:List En}(h:PrA w B v es)(hB:B'<=B):PrA w B' v es :=
 ⟨h.ex.imp id (fun ⟨b,c,e,hl,hR⟩=>⟨b,c,e,by omega,hR⟩),fun e he=>(h.bX e he).mono (fun b _ hb=>by omega)⟩
theorem uk{c w1 W':World}(g:Below W.heap.size W c)(d:Below c.heap.size c w1)(f:Chg (·=bo) w1 W')(hb:W.heap.size<=bo):Below W.heap.size W W':=by
 have a:=ai g d;exact a.trans (f.below (fun b e=>by omega) a.size)
end
section
variable {w:World}{ao:Option Addr}{l a b:List Int}{x:Int}{u v:Value}{k:Nat}
theorem By.at{n c:Nat}(h:By w (.slice ao n c) l){i:Nat}(hi:l[i]?=some x):∃ b o,ao=some ⟨b,o,none⟩/\w.cell? ⟨b,o+i,none⟩=some (.int .u8 x):=by
 obtain⟨d,f,e,_,_,_,_,a⟩:=h.ex
 cases e;rcases a with rfl | ⟨b,o,e,_,hc⟩
 ·simp at hi
 ·exact⟨b,o,e,hc i x hi⟩
theorem eF{w':World}(h:Below w.heap.size w w'):∀ k,Below w.heap.size w (w'.drewN k):=fun _=>⟨h.os,h.tape,h.output,h.size,h.block⟩
theorem ec(l:By w u a)(hb:By w v b)(t:a.length<=1000000000)(C:b.length<=1000000000) :
  Calls Tryz.prog 61 #[u,v] w fun e w'=>e=.returned (.bool (decide (a=b)))/\Below w.heap.size w w':=by
 obtain⟨I,c,rfl,-⟩:=id l.ex;obtain⟨K,d,rfl,-⟩:=id hb.ex;obtain⟨r,o⟩:∃ r,Hid (decide (a=b)=r):=⟨_,rfl⟩
 obtain⟨n,hn⟩:∃ n,Hid (a.length=n):=⟨_,rfl⟩
 obtain⟨m,hm⟩:∃ m,Hid (b.length=m):=⟨_,rfl⟩
 rw[o.out];rw[hn.out] at t l ⊢;rw[hm.out] at C hb ⊢
 have D:Hid _:=l
 have H:Hid _:=hb;clear l hb;by_cases g:n=m
 ·subst g;go_enter Tryz.func61,Tryz.ntmps61;go_wp2_with fail;go_loopw [5] (fun B wr=>∃ k:Nat,k<=n/\B=.int .i64 k/\Hid (a.take k=b.take k)/\Below w.heap.size w wr) (fun B _=>n - (intOf B).toNat)
  case atStart=>exact⟨0,Nat.zero_le _,rfl,by show _=_;simp,Below.refl _ _⟩
  case round =>
   obtain⟨k,N,rfl,j,f⟩:=hrel;by_cases G:k < n
   ·obtain⟨x,hx⟩:∃ x,a[k]?=some x:=⟨a[k]'(by have:=hn.out;omega),List.getElem?_eq_getElem _⟩
    obtain⟨y,hy⟩:∃ y,b[k]?=some y:=⟨b[k]'(by have:=hm.out;omega),List.getElem?_eq_getElem _⟩
    obtain⟨p,q,rfl,c1⟩:=(D.out.keep f).at hx;obtain⟨O,L,rfl,c2⟩:=(H.out.keep f).at hy
    have A:(k:Int) < n:=by omega
    by_cases z:x=y
    ·subst z
     have E:Hid (a.take (k+1)=b.take (k+1)):=by
      show _=_
      rw[List.take_add_one,List.take_add_one,j.out,hx,hy]
     clear hx hy j;go_wp2_with fail;go_quiet (fail);go_wp2;go_roundw
     case rel=>exact⟨k+1,by omega,by go_num,E.out,eF f _⟩
     case measure=>simp[intOf];omega
    ·have i:Hid (r=false):=by
      show _=_
      rw[<- o.out,decide_eq_false];intro e;rw[e,hy] at hx
      cases hx;exact z rfl
     have F:(x != y)=true:=by rw[bne_iff_ne];exact z
     clear hx hy j;go_wp2_with fail;go_quiet (fail);go_wp2;go_ret;exact⟨by rw[i.out];rfl,eF f _⟩
   ·have s:k=n:=by omega
    have i:Hid (r=true):=by
     show _=_
     have e:=j.out;rw[List.take_of_length_le (by have:=hn.out;omega),List.take_of_length_le (by have:=hm.out;omega)] at e;rw[<- o.out,decide_eq_true e]
    have A:¬ ((k:Int) < n):=by omega
    clear s;go_wp2;go_ret;exact⟨by rw[i.out];rfl,f⟩
 ·have i:Hid (r=false):=by
   show _=_
   rw[<- o.out,decide_eq_false];intro e;exact g (by rw[<- hn.out,<- hm.out,e])
  have M:¬ ((n:Int)=m):=by omega
  have J:Hid _:=g;clear g;go_enter Tryz.func61,Tryz.ntmps61;go_wp2;go_ret;exact⟨by rw[i.out];rfl,Below.refl _ _⟩
theorem kG:∀ {k:Nat} {a b:List Int},a.take k=b.take k->k<=a.length->k<=b.length->cA a b=cA (a.drop k) (b.drop k)
 | 0,_,_,_,_,_=>rfl
 | k+1,[],_,_,h,_=>by simp at h
 | k+1,_ :: _,[],_,_,h=>by simp at h
 | k + 1,x :: a,y :: b,h,h1,h2=>by
  simp at h h1 h2;obtain⟨rfl,h⟩:=h;rw[List.drop_succ_cons,List.drop_succ_cons,<- kG h h1 h2];simp[cA]
theorem lt_at{y:Int}(h:a.take k=b.take k)(hx:a[k]?=some x)(hy:b[k]?=some y)(d:x≠y):Lt a b<->x < y:=by
 obtain⟨f,e1⟩:=List.getElem?_eq_some_iff.1 hx;obtain⟨e,e2⟩:=List.getElem?_eq_some_iff.1 hy;unfold Lt;rw[kG h (by omega) (by omega),List.drop_eq_getElem_cons f,List.drop_eq_getElem_cons e,e1,e2];simp only[cA];by_cases c:x < y
 ·simp[c]
 ·simp[c,show y < x by omega]
theorem lt_end(h:a.take k=b.take k)(f:k<=a.length)(c:k<=b.length)(d:k=a.length\/k=b.length):Lt a b<->a.length < b.length:=by
 unfold Lt;rw[kG h f c];rcases d with e | e
 ·rw[List.drop_of_length_le (l:=a) (by omega)]
  cases hb:b.drop k with
  | nil =>
   have:=congrArg List.length hb;simp at this;simp[cA];omega
  | cons y l =>
   have:=congrArg List.length hb;simp at this;simp[cA];omega
 ·rw[List.drop_of_length_le (l:=b) (by omega)]
  cases ha:a.drop k with
  | nil =>
   have:=congrArg List.length ha;simp at this;simp[cA];omega
  | cons y l =>
   have:=congrArg List.length ha;simp at this;simp[cA];omega
theorem ES(j:By w u a)(hb:By w v b)(o:a.length<=1000000000) :
  Calls Tryz.prog 87 #[u,v] w fun e w'=>e=.returned (.bool (decide (Lt a b)))/\Below w.heap.size w w':=by
 obtain⟨K,c,rfl,-⟩:=id j.ex;obtain⟨L,d,rfl,-⟩:=id hb.ex;obtain⟨r,A⟩:∃ r,Hid (decide (Lt a b)=r):=⟨_,rfl⟩
 obtain⟨n,hn⟩:∃ n,Hid (a.length=n):=⟨_,rfl⟩
 obtain⟨m,hm⟩:∃ m,Hid (b.length=m):=⟨_,rfl⟩
 rw[A.out];rw[hn.out] at o j ⊢;rw[hm.out] at hb ⊢
 have D:Hid _:=j
 have J:Hid _:=hb;clear j hb;go_enter Tryz.func87,Tryz.ntmps87;go_wp2_with fail;go_loopw [5] (fun B wr=>∃ k:Nat,k<=n/\k<=m/\B=.int .i64 k/\Hid (a.take k=b.take k)/\Below w.heap.size w wr) (fun B _=>n - (intOf B).toNat)
 case atStart=>exact⟨0,Nat.zero_le _,Nat.zero_le _,rfl,by show _=_;simp,Below.refl _ _⟩
 case round =>
  obtain⟨k,N,I,rfl,i,f⟩:=hrel;by_cases g:k < n/\k < m
  ·obtain⟨G,C⟩:=g;obtain⟨x,hx⟩:∃ x,a[k]?=some x:=⟨a[k]'(by have:=hn.out;omega),List.getElem?_eq_getElem _⟩
   obtain⟨y,hy⟩:∃ y,b[k]?=some y:=⟨b[k]'(by have:=hm.out;omega),List.getElem?_eq_getElem _⟩
   obtain⟨p,q,rfl,c1⟩:=(D.out.keep f).at hx;obtain⟨O,M,rfl,c2⟩:=(J.out.keep f).at hy
   have z:(k:Int) < n:=by omega
   have t:(k:Int) < m:=by omega
   by_cases s:x=y
   ·subst s
    have E:Hid (a.take (k+1)=b.take (k+1)):=by
     show _=_
     rw[List.take_add_one,List.take_add_one,i.out,hx,hy]
    clear hx hy i;go_wp2_with fail;go_quiet (fail);go_wp2;go_roundw
    case rel=>exact⟨k+1,by omega,by omega,by go_num,E.out,eF f _⟩
    case measure=>simp[intOf];omega
   ·have l:Hid (r=decide (x < y)):=by
     show _=_
     rw[<- A.out];exact decide_eq_decide.2 (lt_at i.out hx hy s)
    have H:(x != y)=true:=by rw[bne_iff_ne];exact s
    clear hx hy i;go_wp2_with fail;go_quiet (fail);go_wp2_with fail;go_quiet (fail);go_wp2;go_ret;exact⟨by rw[l.out];rfl,eF (eF f _) _⟩
  ·have l:Hid (r=decide (n < m)):=by
    show _=_
    rw[<- A.out];refine decide_eq_decide.2 ((lt_end i.out (by have:=hn.out;omega) (by have:=hm.out;omega) (by have:=hn.out;have:=hm.out;omega)).trans ?_);have:=hn.out;have:=hm.out;omega
   by_cases z:(k:Int) < n
   ·have t:¬ ((k:Int) < m):=by omega
    have F:Hid _:=g;clear g i;go_wp2;go_ret;exact⟨by rw[l.out];rfl,f⟩
   ·have F:Hid _:=g;clear g i;go_wp2;go_ret;exact⟨by rw[l.out];rfl,f⟩
end
end Pg
end
section
namespace Pg
section
variable {P:List (List En)}{i j:Nat}{a es:List En}{e:En}{k:List Int}
theorem Ord.pair(h:Ord P):(∀ es∈P,es.Pairwise fun x y=>Lt x.kl y.kl)/\P.Pairwise fun a b=>∀ x∈a,∀ y∈b,Lt x.kl y.kl:=by
 have:=h.dA;simp only[Srt,kys,List.pairwise_map,List.pairwise_flatten] at this;exact this
theorem Ord.of(h0:∀ es∈P,es≠[])(h:P.flatten.Pairwise fun x y=>Lt x.kl y.kl):Ord P:=⟨h0,by simpa only [Srt,kys,List.pairwise_map] using h⟩
theorem Ord.two(h:Ord P){b:List En}{x y:En}(c:i < j)(e:P[i]?=some a)(hb:P[j]?=some b)(hx:x∈a)(hy:y∈b):Lt x.kl y.kl:=by
 obtain⟨f,rfl⟩:=List.getElem?_eq_some_iff.1 e;obtain⟨d,rfl⟩:=List.getElem?_eq_some_iff.1 hb;exact List.pairwise_iff_getElem.1 h.pair.2 i j f d c x hx y hy
theorem Ord.head(h:Ord P)(b:P[i]?=some a):∃ e,e∈a/\(fks P)[i]?=some e.kl/\∀ x∈a,¬ Lt x.kl e.kl:=by
 have hm:=List.mem_of_getElem? b;obtain⟨e,l,rfl,he⟩:=jR (h.full a hm);refine⟨e,List.mem_cons_self,by rw[fks,List.getElem?_map,b];simp[kys],fun x hx=>?_⟩;rcases List.mem_cons.1 hx with rfl | hx
 ·exact lt_irrefl _
 ·exact((List.pairwise_cons.1 (h.pair.1 _ hm)).1 x hx).not
theorem uY(h:es[j]?=some e):(kys es)[j]?=some e.kl:=by
 rw[kys,List.getElem?_map,h];rfl
theorem Ord.parts(O:Ord P)(w:P≠[])(k:List Int):∃ A es B,P=A ++ es :: B/\A.length=pgi P k/\P.getD (pgi P k) []=es /\
  (∀ e∈A.flatten ++ es.take (plc (kys es) k),Lt e.kl k)/\(∀ e∈es.drop (plc (kys es) k),¬ Lt e.kl k)/\(∀ e∈B.flatten,Lt k e.kl):=by
 have hi:pgi P k < P.length:=by
  have:=pC (fks P) k;have:(fks P).length=P.length:=by simp[fks]
  have:P.length≠0:=fun e=>w (List.eq_nil_of_length_eq_zero e)
  unfold pgi;omega
 obtain⟨i,c⟩:∃ i,pgi P k=i:=⟨_,rfl⟩
 rw[c] at hi ⊢
 have t:P[i]?=some P[i]:=List.getElem?_eq_getElem hi;refine⟨P.take i,P[i],P.drop (i+1),?_,by rw[List.length_take];omega,by rw[List.getD_eq_getElem?_getD,t];rfl,fun e he=>?_,fun e he=>?_,fun e he=>?_⟩
 ·conv=>lhs;rw[<- List.take_append_drop i P,List.drop_eq_getElem_cons hi]
 ·rcases List.mem_append.1 he with he | he
  ·obtain⟨a,p,d⟩:=List.mem_flatten.1 he;obtain⟨j,b⟩:=List.getElem?_of_mem p
   have o:j < i:=by have:=(List.getElem?_eq_some_iff.1 b).1;rw[List.length_take] at this;omega
   rw[List.getElem?_take_of_lt o] at b
   have n:P[j+1]?=some P[j+1]:=List.getElem?_eq_getElem (by omega);obtain⟨h,u,g,r⟩:=O.head n;have q:=O.two (Nat.lt_succ_self j) b n d u;exact q.of_le (BS (by unfold pgi at c;omega) g)
  ·obtain⟨j,b⟩:=List.getElem?_of_mem he
   have m:j < plc (kys P[i]) k:=by have:=(List.getElem?_eq_some_iff.1 b).1;rw[List.length_take] at this;omega
   rw[List.getElem?_take_of_lt m] at b;exact AR m (by rw[kys,List.getElem?_map,b];rfl)
 ·obtain⟨j,b⟩:=List.getElem?_of_mem he;rw[List.getElem?_drop] at b
  have f:plc (kys P[i]) k < P[i].length:=by have:=(List.getElem?_eq_some_iff.1 b).1;omega
  have s:=Ch (l:=kys P[i]) (k:=k) (x:=(P[i][plc (kys P[i]) k]).kl) (uY (List.getElem?_eq_getElem f))
  cases j with
  | zero =>
   rw[Nat.add_zero,List.getElem?_eq_getElem f] at b
   cases b;exact s
  | succ j =>
   intro v;have:=(O.page t).get (i:=plc (kys P[i]) k) (j:=plc (kys P[i]) k+(j+1)) (x:=(P[i][plc (kys P[i]) k]).kl) (y:=e.kl) (by omega) (uY (List.getElem?_eq_getElem f)) (uY b);exact s (this.trans v)
 ·obtain⟨a,p,d⟩:=List.mem_flatten.1 he;obtain⟨j,b⟩:=List.getElem?_of_mem p;rw[List.getElem?_drop] at b;obtain⟨h,u,g,r⟩:=O.head b
  have z:Lt k h.kl:=by
   have f:plq (fks P) k < (fks P).length:=by
    have:=(List.getElem?_eq_some_iff.1 g).1;unfold pgi at c;omega
   have g0:=Aq (l:=fks P) (k:=k) (x:=(fks P)[plq (fks P) k]) (List.getElem?_eq_getElem f);by_cases e:plq (fks P) k=i+1+j
   ·have g1:(fks P)[plq (fks P) k]? = some h.kl:=by rw[e]; exact g
    rw[List.getElem?_eq_getElem f] at g1;rw[<- Option.some.inj g1];exact g0
   ·exact g0.trans (O.yM.get (by unfold pgi at c;omega) (List.getElem?_eq_getElem f) g)
  exact z.of_le (r e d)
theorem xh(A B:List (List En))(es:List En)(q:Nat)(e:En):rQ (A ++ es :: B) A.length q e =
  if 32 < es.length+1 then A ++ (es.take q ++ [e] ++ es.drop q).take 16 :: (es.take q ++ [e] ++ es.drop q).drop 16 :: B else A ++ (es.take q ++ [e] ++ es.drop q) :: B:=by
 have e1:(A ++ es :: B).getD A.length []=es:=by simp
 have e2:(es.take q ++ [e] ++ es.drop q).length=es.length+1:=by
  simp only[List.length_append,List.length_take,List.length_drop,List.length_cons,List.length_nil];omega
 unfold rQ;simp only[e1,e2];split
 ·simp
 ·simp
theorem Bc{X Y:List En}(h:(X ++ Y).Pairwise fun x y=>Lt x.kl y.kl)(b:∀ x∈X,Lt x.kl e.kl)(a:∀ y∈Y,Lt e.kl y.kl):(X ++ e :: Y).Pairwise fun x y=>Lt x.kl y.kl:=by
 rw[List.pairwise_append] at h ⊢;refine⟨h.1,List.pairwise_cons.2 ⟨a,h.2.1⟩,fun x hx y hy=>?_⟩;rcases List.mem_cons.1 hy with rfl | hy
 ·exact b x hx
 ·exact h.2.2 x hx y hy
theorem Ord.flat(O:Ord P):P.flatten.Pairwise fun x y=>Lt x.kl y.kl:=by
 simpa only [Srt,kys,List.pairwise_map] using O.dA
theorem above(b:Srt (kys es))(h:∀ e∈es.drop (plc (kys es) k),¬ Lt e.kl k)(hn:thr (kys es) k=false):∀ e∈es.drop (plc (kys es) k),Lt k e.kl:=fun e he=>by
 rcases qk k e.kl with a | a | a
 ·exact a
 ·exfalso;have:k∈kys es:=List.mem_map.2 ⟨e,List.mem_of_mem_drop he,a.symm⟩;rw[(Dl b).2 this] at hn
  cases hn
 ·exact absurd a (h e he)
theorem qV(hP:P≠[])(k:List Int):has P k=thr (kys (P.getD (pgi P k) [])) k:=by
 have e4:P.isEmpty=false:=by simpa using hP
 unfold has;rw[e4,Bool.not_false,Bool.true_and]
theorem qe(O:Ord P)(b:P≠[])(hn:has P e.kl=false):∃ A es B X Y,P=A ++ es :: B/\es=X ++ Y/\eU P e=(if 32 < es.length+1 then A ++ (X ++ e :: Y).take 16 :: (X ++ e :: Y).drop 16 :: B else A ++ (X ++ e :: Y) :: B) /\
  (∀ x∈A.flatten ++ X,Lt x.kl e.kl)/\(∀ x∈Y ++ B.flatten,Lt e.kl x.kl):=by
 obtain⟨A,es,B,e1,e2,e3,f,c,d⟩:=O.parts b e.kl
 have a:es∈P:=by rw[e1];simp
 obtain⟨i,hi⟩:=List.getElem?_of_mem a;rw[qV b,e3] at hn;have g:=above (O.page hi) c hn;refine⟨A,es,B,es.take (plc (kys es) e.kl),es.drop (plc (kys es) e.kl),e1,(List.take_append_drop _ _).symm,?_,f,fun x hx=>(List.mem_append.1 hx).elim (g x) (d x)⟩;unfold eU;rw[if_neg b];simp only[e3,hn,Bool.false_eq_true,if_false];rw[<- e2]
 conv=>lhs;rw[e1]
 rw[xh];simp only[List.append_assoc,List.cons_append,List.nil_append]
theorem Ord.ins(O:Ord P)(hn:has P e.kl=false):Ord (eU P e):=by
 by_cases f:P=[]
 ·subst f;exact⟨fun es h=>by simp[eU] at h;simp[h],by simp[eU,Srt,kys]⟩
 obtain⟨A,es,B,X,Y,e1,e2,e3,i,g⟩:=qe O f hn
 have d:(A.flatten ++ X ++ e :: (Y ++ B.flatten)).Pairwise fun x y=>Lt x.kl y.kl:=by
  refine Bc ?_ i g;have:=O.flat;rw[e1,e2,List.flatten_append,List.flatten_cons] at this;simpa only [List.append_assoc] using this
 have c:(X ++ e :: Y).length=es.length+1:=by rw[e2];simp;omega
 rw[e3];split
 ·rename_i j;refine Ord.of (fun a b=>?_) ?_
  ·rcases List.mem_append.1 b with b | b
   ·exact O.full a (by rw[e1];exact List.mem_append_left _ b)
   ·rcases List.mem_cons.1 b with rfl | b
    ·exact fun h=>by have:=congrArg List.length h;rw[List.length_take,c] at this;simp at this
    ·rcases List.mem_cons.1 b with rfl | b
     ·exact fun h=>by have:=congrArg List.length h;rw[List.length_drop,c] at this;simp at this;omega
     ·exact O.full a (by rw[e1];exact List.mem_append_right _ (List.mem_cons_of_mem _ b))
  ·rw[List.flatten_append,List.flatten_cons,List.flatten_cons,<- List.append_assoc (List.take 16 _),List.take_append_drop];simpa only [List.append_assoc,List.cons_append] using d
 ·refine Ord.of (fun a b=>?_) ?_
  ·rcases List.mem_append.1 b with b | b
   ·exact O.full a (by rw[e1];exact List.mem_append_left _ b)
   ·rcases List.mem_cons.1 b with rfl | b
    ·simp
    ·exact O.full a (by rw[e1];exact List.mem_append_right _ (List.mem_cons_of_mem _ b))
  ·rw[List.flatten_append,List.flatten_cons];simpa only [List.append_assoc,List.cons_append] using d
theorem Ord.at(O:Ord P)(c:has P k=true):∃ A es B X x Y,P=A ++ es :: B/\es=X ++ x :: Y/\x.kl=k/\A.length=pgi P k/\P.getD (pgi P k) []=es/\X.length=plc (kys es) k /\
  (∀ y∈A.flatten ++ X,Lt y.kl k)/\(∀ y∈Y ++ B.flatten,Lt k y.kl):=by
 have f:P≠[]:=fun e=>by subst e;simp[has] at c
 obtain⟨A,es,B,e1,e2,e3,j,l,h⟩:=O.parts f k
 have b:es∈P:=by rw[e1];simp
 obtain⟨i,hi⟩:=List.getElem?_of_mem b;rw[qV f,e3] at c;obtain⟨x,hx,a⟩:=lK c;have g:=(List.getElem?_eq_some_iff.1 hx).1
 have d:es=es.take (plc (kys es) k) ++ x :: es.drop (plc (kys es) k+1):=by
  conv=>lhs;rw[<- List.take_append_drop (plc (kys es) k) es,List.drop_eq_getElem_cons g]
  rw[(List.getElem?_eq_some_iff.1 hx).2]
 refine⟨A,es,B,_,x,_,e1,d,a,e2,e3,by rw[List.length_take];omega,j,fun y hy=>?_⟩;rcases List.mem_append.1 hy with hy | hy
 ·have:=O.pair.1 es b;rw[d,List.pairwise_append,List.pairwise_cons] at this;rw[<- a];exact this.2.1.1 y hy
 ·exact h y hy
theorem nw{α:Type}(f:α->α):∀ (X Y:List α) (x:α),(X ++ x :: Y).modify X.length f=X ++ f x :: Y
 | [],_,_=>rfl
 | a :: X,Y,x=>by
  show (a :: (X ++ x :: Y)).modify (X.length+1) f=_
  rw[List.modify_succ_cons,nw f X Y x];rfl
theorem pU(O:Ord P)(a:has P e.kl=true):∃ A es B X x Y,P=A ++ es :: B/\es=X ++ x :: Y/\x.kl=e.kl/\eU P e=A ++ (X ++ { x with vv:=e.vv,vl:=e.vl } :: Y) :: B:=by
 have c:P≠[]:=fun h=>by subst h;simp[has] at a
 obtain⟨A,es,B,X,x,Y,e1,e2,e3,f,b,d,_⟩:=O.at a;refine⟨A,es,B,X,x,Y,e1,e2,e3,?_⟩;rw[qV c,b] at a;unfold eU;rw[if_neg c];simp only[b,a,if_true];rw[<- d,<- f]
 conv=>lhs;rw[e1]
 rw[List.set_append_right _ _ (Nat.le_refl _),Nat.sub_self,List.set_cons_zero,e2,nw]
theorem Ord.upd(O:Ord P)(d:has P e.kl=true):Ord (eU P e):=by
 obtain⟨A,es,B,X,x,Y,e1,e2,e3,f⟩:=pU O d;rw[f];have c:=O.dA;rw[e1,e2] at c;refine⟨fun a b=>?_,by simpa[kys,Srt] using c⟩;rcases List.mem_append.1 b with b | b
 ·exact O.full a (by rw[e1];exact List.mem_append_left _ b)
 ·rcases List.mem_cons.1 b with rfl | b
  ·simp
  ·exact O.full a (by rw[e1];exact List.mem_append_right _ (List.mem_cons_of_mem _ b))
theorem Ord.set(O:Ord P)(e:En):Ord (eU P e):=by
 cases h:has P e.kl
 ·exact O.ins h
 ·exact O.upd h
end
section
variable {A B:List Nat}{x x' y:Nat}{P:List (List En)}
def Nb:List Nat->Prop
 | []=>True
 | [_]=>True
 | x :: y :: l=>17<=x+y/\Nb (y :: l)
theorem dp:∀ {A:List Nat} {x:Nat} {B:List Nat},Nb (A ++ x :: B)<->Nb (A ++ [x])/\Nb (x :: B)
 | [],x,B=>by simp[Nb]
 | [a],x,B=>by simp[Nb]
 | a :: b :: A,x,B=>by
  have:=dp (A:=b :: A) (x:=x) (B:=B);simp only[List.cons_append,Nb] at this ⊢;rw[this,and_assoc]
theorem Nb.front(h:Nb (A ++ [x]))(hx:x<=x'):Nb (A ++ [x']):=by
 induction A with
 | nil=>trivial
 | cons a A ih =>
  cases A with
  | nil=>simp only[List.cons_append,List.nil_append,Nb] at h ⊢;exact⟨by omega,trivial⟩
  | cons b A=>simp only[List.cons_append,Nb] at h ih ⊢;exact⟨h.1,ih h.2⟩
theorem Nb.back(h:Nb (x :: B))(hx:x<=x'):Nb (x' :: B):=by
 cases B with
 | nil=>trivial
 | cons b B=>simp only[Nb] at h ⊢;exact⟨by omega,h.2⟩
theorem Nb.qG(h:Nb (A ++ [x]))(c:∀ a∈A,1<=a)(hy:16<=y):Nb (A ++ [y]):=by
 induction A with
 | nil=>trivial
 | cons a A ih =>
  cases A with
  | nil =>
   have:=c a List.mem_cons_self;simp only[List.cons_append,List.nil_append,Nb];exact⟨by omega,trivial⟩
  | cons b A=>simp only[List.cons_append,Nb] at h ih ⊢;exact⟨h.1,ih h.2 (fun a h=>c a (List.mem_cons_of_mem _ h))⟩
theorem Nb.uV(h:Nb (x :: B))(hb:∀ b∈B,1<=b)(hy:16<=y):Nb (y :: B):=by
 cases B with
 | nil=>trivial
 | cons b B =>
  have:=hb b List.mem_cons_self;simp only[Nb] at h ⊢;exact⟨by omega,h.2⟩
structure Shq(P:List (List En)):Prop where
 one:∀ es∈P,1<=es.length/\es.length<=32
 two:Nb (P.map List.length)
theorem Shq.nil:Shq []:=⟨fun _ h=>by simp at h,trivial⟩
theorem Shq.set(h:Shq P)(O:Ord P)(e:En):Shq (eU P e):=by
 by_cases i:P=[]
 ·subst i;exact⟨fun es h=>by simp[eU] at h;simp[h],by simp[eU,Nb]⟩
 cases hk:has P e.kl
 ·obtain⟨A,es,B,X,Y,e1,e2,e3,_⟩:=qe O i hk
  have f:(X ++ e :: Y).length=es.length+1:=by rw[e2];simp;omega
  have d:=h.two;rw[e1,List.map_append,List.map_cons,dp] at d;have l:=h.one es (by rw[e1];simp);rw[e3];split
  ·refine⟨fun a c=>?_,?_⟩
   ·rcases List.mem_append.1 c with c | c
    ·exact h.one a (by rw[e1];exact List.mem_append_left _ c)
    ·rcases List.mem_cons.1 c with rfl | c
     ·rw[List.length_take,f];omega
     ·rcases List.mem_cons.1 c with rfl | c
      ·rw[List.length_drop,f];omega
      ·exact h.one a (by rw[e1];exact List.mem_append_right _ (List.mem_cons_of_mem _ c))
   ·rw[List.map_append,List.map_cons,List.map_cons,List.length_take,List.length_drop,f,show min 16 (es.length+1)=16 by omega,dp];refine⟨d.1.qG (fun a c=>?_) (Nat.le_refl _),⟨by omega,d.2.uV (fun b hb=>?_) (by omega)⟩⟩
    ·obtain⟨k,g,rfl⟩:=List.mem_map.1 c;exact(h.one k (by rw[e1];exact List.mem_append_left _ g)).1
    ·obtain⟨j,g,rfl⟩:=List.mem_map.1 hb;exact(h.one j (by rw[e1];exact List.mem_append_right _ (List.mem_cons_of_mem _ g))).1
  ·refine⟨fun a c=>?_,?_⟩
   ·rcases List.mem_append.1 c with c | c
    ·exact h.one a (by rw[e1];exact List.mem_append_left _ c)
    ·rcases List.mem_cons.1 c with rfl | c
     ·rw[f];omega
     ·exact h.one a (by rw[e1];exact List.mem_append_right _ (List.mem_cons_of_mem _ c))
   ·rw[List.map_append,List.map_cons,f,dp];exact⟨d.1.front (by omega),d.2.back (by omega)⟩
 ·obtain⟨A,es,B,X,x,Y,e1,e2,e3,m⟩:=pU O hk
  have f:(X ++ { x with vv:=e.vv,vl:=e.vl } :: Y).length=es.length:=by rw[e2];simp
  rw[m];refine⟨fun a c=>?_,?_⟩
  ·rcases List.mem_append.1 c with c | c
   ·exact h.one a (by rw[e1];exact List.mem_append_left _ c)
   ·rcases List.mem_cons.1 c with rfl | c
    ·rw[f];exact h.one es (by rw[e1];simp)
    ·exact h.one a (by rw[e1];exact List.mem_append_right _ (List.mem_cons_of_mem _ c))
  ·have d:=h.two;rw[e1,List.map_append,List.map_cons] at d;rw[List.map_append,List.map_cons,f];exact d
end
section
variable {P:List (List En)}{i:Nat}{A B:List Nat}{k:List Int}
theorem jm(h:jnb P i=true):∃ A a b B,P=A ++ a :: b :: B/\A.length=i/\jnQ P i=A ++ (a ++ b) :: B/\a.length+b.length<=16:=by
 unfold jnb at h;rw[Bool.and_eq_true,decide_eq_true_eq,decide_eq_true_eq] at h;obtain⟨e,c⟩:=h
 have g1:P.getD i []=P[i]:=by rw[List.getD_eq_getElem?_getD,List.getElem?_eq_getElem (by omega)];rfl
 have d:P.getD (i+1) []=P[i+1]:=by rw[List.getD_eq_getElem?_getD,List.getElem?_eq_getElem e];rfl
 rw[g1,d] at c;refine⟨P.take i,P[i],P[i+1],P.drop (i+2),?_,by rw[List.length_take];omega,?_,c⟩
 ·conv=>lhs;rw[<- List.take_append_drop i P,List.drop_eq_getElem_cons (show i < P.length by omega),List.drop_eq_getElem_cons e]
 ·unfold jnQ;rw[g1,d];simp
theorem Fh{A B:List (List En)}{a b:List En}(h:jnb (A ++ a :: b :: B) A.length=false):17<=a.length+b.length:=by
 unfold jnb at h;simp at h;omega
theorem kh(O:Ord P)(a:has P k=true):∃ A es B X x Y,P=A ++ es :: B/\es=X ++ x :: Y/\x.kl=k/\gK P k=(if X ++ Y=[] then A ++ B else if jnb (A ++ (X ++ Y) :: B) A.length then jnQ (A ++ (X ++ Y) :: B) A.length else if 1<=A.length/\jnb (A ++ (X ++ Y) :: B) (A.length - 1) then jnQ (A ++ (X ++ Y) :: B) (A.length - 1) else A ++ (X ++ Y) :: B) /\
  (∀ y∈A.flatten ++ X,Lt y.kl k)/\(∀ y∈Y ++ B.flatten,Lt k y.kl):=by
 obtain⟨A,es,B,X,x,Y,e1,e2,e3,g,b,e,f,c⟩:=O.at a;refine⟨A,es,B,X,x,Y,e1,e2,e3,?_,f,c⟩;unfold gK rmQ;rw[if_pos a];simp only[b];rw[<- e,<- g]
 have g1:es.take X.length ++ es.drop (X.length+1)=X ++ Y:=by rw[e2];simp
 have d:P.set A.length (X ++ Y)=A ++ (X ++ Y) :: B:=by rw[e1];simp
 have h:P.take A.length ++ P.drop (A.length+1)=A ++ B:=by rw[e1];simp
 simp only[g1,d,h]
theorem Ord.join(O:Ord P)(h:jnb P i=true):Ord (jnQ P i):=by
 obtain⟨A,a,b,B,e1,e2,e3,_⟩:=jm h;rw[e3];have d:=O.flat;rw[e1] at d;refine Ord.of (fun c hc=>?_) (by simpa using d);rcases List.mem_append.1 hc with hc | hc
 ·exact O.full c (by rw[e1];exact List.mem_append_left _ hc)
 ·rcases List.mem_cons.1 hc with rfl | hc
  ·intro h;exact O.full a (by rw[e1];simp) (List.append_eq_nil_iff.1 h).1
  ·exact O.full c (by rw[e1];simp[hc])
theorem Ord.del(O:Ord P)(k:List Int):Ord (gK P k):=by
 cases hk:has P k
 ·unfold gK;rw[hk];exact O
 obtain⟨A,es,B,X,x,Y,e1,e2,e3,f,_⟩:=kh O hk;have e:=O.flat;rw[e1,e2] at e
 have a:(A.flatten ++ (X ++ Y) ++ B.flatten).Pairwise fun x y=>Lt x.kl y.kl:=by
  refine e.sublist ?_
  simp only[List.flatten_append,List.flatten_cons,List.append_assoc,List.cons_append];exact(List.Sublist.refl _).append ((List.Sublist.refl _).append (List.sublist_cons_self _ _))
 rw[f];split
 ·rename_i he;rw[he,List.append_nil] at a;refine Ord.of (fun c hc=>O.full c ?_) (by rw[List.flatten_append];exact a);rw[e1];rcases List.mem_append.1 hc with hc | hc<;>simp[hc]
 ·rename_i he
  have d:Ord (A ++ (X ++ Y) :: B):=Ord.of (fun c hc=>by
   rcases List.mem_append.1 hc with hc | hc
   ·exact O.full c (by rw[e1];simp[hc])
   ·rcases List.mem_cons.1 hc with rfl | hc
    ·exact he
    ·exact O.full c (by rw[e1];simp[hc])) (by rw[List.flatten_append,List.flatten_cons,<- List.append_assoc];exact a)
  split
  ·rename_i b;exact d.join b
  ·split
   ·rename_i b;exact d.join b.2
   ·exact d
theorem wh:∀ {A:List Nat} {x:Nat},Nb (A ++ [x])->Nb A
 | [],_,_=>trivial
 | [_],_,_=>trivial
 | a :: b :: A,x,h=>by
  simp only[List.cons_append,Nb] at h ⊢;exact⟨h.1,wh (A:=b :: A) h.2⟩
theorem BA{x y:Nat}:Nb (A ++ x :: y :: B)<->Nb (A ++ [x])/\17<=x+y/\Nb (y :: B):=by
 rw[dp];simp only[Nb]
theorem Shq.del(h:Shq P)(O:Ord P)(k:List Int):Shq (gK P k):=by
  cases hk:has P k
  · unfold gK;rw[hk];exact h
  obtain⟨A,es,B,X,x,Y,e1,e2,e3,F,_⟩:= kh O hk
  have u:(X ++ Y).length+1=es.length:=by rw[e2];simp;omega
  have e:=h.two;rw[e1,List.map_append,List.map_cons,dp] at e;have E:=h.one es (by rw[e1];simp)
  have hA:∀ a ∈ A,1≤a.length∧a.length≤32:=fun a o=>h.one a (by rw[e1];simp[o])
  have i:∀ b ∈ B,1≤b.length∧b.length≤32:=fun b hb=>h.one b (by rw[e1];simp[hb])
  rw[F];generalize X ++ Y=Z at u ⊢;split
  · rename_i q
    subst q;simp at u;refine⟨fun c hc=>(List.mem_append.1 hc).elim (hA c) (i c),?_⟩;rw[List.map_append]
    cases B with
    | nil =>
      rw[List.map_nil,List.append_nil];exact wh e.1
    | cons b B =>
      have f:=e.2;simp only[List.map_cons,Nb] at f;rw[List.map_cons,dp];exact⟨e.1.front (by omega),f.2⟩
  · rename_i q
    have G : 1 ≤ Z.length := by cases Z with
      | nil=>exact absurd rfl q
      | cons=>simp
    split
    · rename_i j
      obtain⟨p,a,b,v,g1,w,t,D⟩:= jm j;obtain⟨rfl,n⟩:= List.append_inj g1 w.symm;injection n with n l
      subst n l;rw[t];have f:=e.2;simp only[List.map_cons,Nb] at f;have hb:=i b List.mem_cons_self;refine⟨fun c hc=>?_,?_⟩
      · rcases List.mem_append.1 hc with hc | hc
        · exact hA c hc
        · rcases List.mem_cons.1 hc with rfl | hc
          · rw[List.length_append];omega
          · exact i c (List.mem_cons_of_mem _ hc)
      · rw[List.map_append,List.map_cons,List.length_append,dp]
        refine⟨e.1.qG (fun a o=>?_) (by omega),f.2.uV (fun c hc=>?_) (by omega)⟩
        · obtain⟨z,d,rfl⟩:= List.mem_map.1 o;exact(hA z d).1
        · obtain⟨m,d,rfl⟩:= List.mem_map.1 hc;exact(i m (List.mem_cons_of_mem _ d)).1
    · rename_i r
      split
      · rename_i j
        obtain⟨y,j⟩:= j;obtain⟨p,a,b,v,g1,w,t,D⟩:= jm j
        have n:A ++ Z :: B=(p ++ [a]) ++ b :: v:=by rw[g1];simp
        obtain⟨rfl,l⟩:= List.append_inj n (by simp;omega);injection l with l C
        subst l C;rw[t];have d:=e.1;rw[List.map_append,List.append_assoc,List.map_cons,List.map_nil,List.cons_append,List.nil_append,BA] at d;have o:=hA a (by simp);refine⟨fun c hc=>?_,?_⟩
        · rcases List.mem_append.1 hc with hc | hc
          · exact hA c (List.mem_append_left _ hc)
          · rcases List.mem_cons.1 hc with rfl | hc
            · rw[List.length_append];omega
            · exact i c hc
        · rw[List.map_append,List.map_cons,List.length_append,dp]
          refine⟨d.1.qG (fun c hc=>?_) (by omega),e.2.uV (fun c hc=>?_) (by omega)⟩
          · obtain⟨m,d,rfl⟩:= List.mem_map.1 hc;exact(hA m (List.mem_append_left _ d)).1
          · obtain⟨m,d,rfl⟩:= List.mem_map.1 hc;exact(i m d).1
      · rename_i s
        refine⟨fun c hc=>?_,?_⟩
        · rcases List.mem_append.1 hc with hc | hc
          · exact hA c hc
          · rcases List.mem_cons.1 hc with rfl | hc
            · omega
            · exact i c hc
        · rw[List.map_append,List.map_cons,dp]
          constructor
          · rcases List.eq_nil_or_concat A with rfl | ⟨p, a, rfl⟩
            · trivial
            · have g:17≤a.length+Z.length:=by
                refine Fh (A:=p) (B:=B) (Bool.eq_false_iff.2 fun g=>s ⟨by simp,?_⟩);simpa using g
              have d:=e.1;simp only[List.concat_eq_append,List.map_append,List.append_assoc,List.map_cons,List.map_nil,List.cons_append,List.nil_append] at d ⊢;rw[BA] at d ⊢;exact⟨d.1,g,trivial⟩
          · cases B with
            | nil=>trivial
            | cons b B =>
              have g:17≤Z.length+b.length:=Fh (A:=A) (B:=B) (Bool.eq_false_iff.2 fun g=>r g);have f:=e.2;simp only[List.map_cons,Nb] at f ⊢;exact⟨g,f.2⟩
end
section
variable {es:List En}{P:List (List En)}{f g:List En->List En}
def btw(f t:List Int)(e:En):Bool:=!decide (Lt e.kl f) && (decide (t=[]) || decide (Lt e.kl t))
theorem sy:∀ (l:List (List Int)) (k:List Int) (b:Nat),plc (l.take b) k=min (plc l k) b
 | [],k,b=>by simp[plc]
 | x :: l,k,0=>by simp[plc]
 | x :: l,k,b + 1=>by
  rw[List.take_succ_cons,plc,plc];split
  ·rw[sy l k b];omega
  ·simp
theorem r9 : ∀ {es : List En} (_ : es.Pairwise fun x y => Lt x.kl y.kl) (k : List Int), es.take (plc (kys es) k) = es.filter fun e => decide (Lt e.kl k)
  | [],_,_=>by simp
  | x :: es, h, k => by
    have h':=List.pairwise_cons.1 h;rw[show kys (x :: es)=x.kl :: kys es from rfl,plc];by_cases hx:Lt x.kl k
    · rw[if_pos hx,List.take_succ_cons,r9 h'.2 k,List.filter_cons_of_pos (by simpa using hx)]
    · rw[if_neg hx,List.take_zero,List.filter_cons_of_neg (by simpa using hx)]
      symm
      rw[List.filter_eq_nil_iff];intro e he a;exact hx ((h'.1 e he).trans (by simpa using a))
theorem mW : ∀ {es : List En} (_ : es.Pairwise fun x y => Lt x.kl y.kl) (k : List Int), es.drop (plc (kys es) k) = es.filter fun e => !decide (Lt e.kl k)
  | [],_,_=>by simp
  | x :: es, h, k => by
    have h':=List.pairwise_cons.1 h;rw[show kys (x :: es)=x.kl :: kys es from rfl,plc];by_cases hx:Lt x.kl k
    · rw[if_pos hx,List.drop_succ_cons,mW h'.2 k,List.filter_cons_of_neg (by simpa using hx)]
    · rw[if_neg hx,List.drop_zero]
      symm
      rw[List.filter_eq_self];intro e he;rcases List.mem_cons.1 he with rfl | he
      · simpa using hx
      · have:=h'.1 e he
        simp only[Bool.not_eq_true',decide_eq_false_iff_not];exact fun a=>hx (this.trans a)
theorem DK(h:es.Pairwise fun x y=>Lt x.kl y.kl)(f t:List Int):wth es f t=es.filter (btw f t):=by
 unfold wth uf cut;by_cases a:t=[]
 ·rw[if_pos a,List.take_of_length_le (by rw[List.length_drop];omega),mW h];congr 1
  funext e
  simp[btw,a]
 ·rw[if_neg a]
  have e1:max (plc (kys es) f) (plc (kys es) t) - plc (kys es) f=plc (kys es) t - plc (kys es) f:=by omega
  have e2:es.filter (btw f t)=(es.filter fun e=>decide (Lt e.kl t)).filter fun e => !decide (Lt e.kl f):=by
   rw[List.filter_filter];congr 1
   funext e
   simp[btw,a]
  have b:kys (es.take (plc (kys es) t))=(kys es).take (plc (kys es) t):=by simp[kys,List.map_take]
  rw[e1,<- List.drop_take,e2,<- r9 h,<- mW (h.sublist (List.take_sublist _ _)),b,sy];by_cases hb:plc (kys es) f<=plc (kys es) t
  ·rw[Nat.min_eq_left hb]
  ·rw[List.drop_of_length_le (by rw[List.length_take];omega),List.drop_of_length_le (by rw[List.length_take];omega)]
theorem sw(p:En->Bool):P.flatMap (fun es=>es.filter p)=P.flatten.filter p:=by
 induction P with
 | nil=>rfl
 | cons a P ih=>rw[List.flatMap_cons,ih,List.flatten_cons,List.filter_append]
theorem qn(h:∀ es∈P,f es=g es):P.flatMap f=P.flatMap g:=by
 induction P with
 | nil=>rfl
 | cons a P ih=>rw[List.flatMap_cons,List.flatMap_cons,h a List.mem_cons_self,ih fun es he=>h es (List.mem_cons_of_mem _ he)]
theorem DA(O:Ord P)(f t:List Int):wlk P f t=P.flatten.filter (btw f t):=by
 by_cases k:P=[]
 ·subst k;simp[wlk,cut]
 obtain⟨A,es,B,e1,e2,e3,q,v,w⟩:=O.parts k f
 have hA:(P.take (pgi P f)).flatten.filter (btw f t)=[]:=by
  rw[<- e2];have:P.take A.length=A:=by rw[e1];simp
  rw[this,List.filter_eq_nil_iff];intro e he hb;have:=q e (List.mem_append_left _ he);simp[btw,this] at hb
 have u:(P.drop (max (pgi P f) (eJ P t))).flatten.filter (btw f t)=[]:=by
  rw[List.filter_eq_nil_iff];intro e he hb;unfold eJ at he;by_cases d:t=[]
  ·rw[if_pos d,List.drop_of_length_le (by omega)] at he;simp at he
  ·rw[if_neg d] at he;obtain⟨z,r,n,g1,o,C,y,x,p⟩:=O.parts k t
   have s:P.drop (pgi P t+1)=n:=by
    rw[<- o]
    conv=>lhs;rw[g1]
    simp
   have c:e∈n.flatten:=by
    obtain⟨a,l,h⟩:=List.mem_flatten.1 he;refine List.mem_flatten.2 ⟨a,?_,h⟩;rw[<- s]
    have hlen:pgi P t+1<=P.length:=by rw[<- o,g1];simp
    rw[Nat.min_eq_left hlen] at l;obtain⟨j,m⟩:=List.getElem?_of_mem l;rw[List.getElem?_drop] at m;refine List.mem_of_getElem? (i:=max (pgi P f) (pgi P t+1)+j - (pgi P t+1)) ?_
    rw[List.getElem?_drop,show pgi P t+1+(max (pgi P f) (pgi P t+1)+j - (pgi P t+1))=max (pgi P f) (pgi P t+1)+j by omega];exact m
   have:=p e c;simp[btw,d,this.not] at hb
 have b:P=P.take (pgi P f) ++ (cut P (pgi P f) (eJ P t) ++ P.drop (max (pgi P f) (eJ P t))):=by
  unfold cut
  conv=>lhs;rw[<- List.take_append_drop (pgi P f) P,<- List.take_append_drop (max (pgi P f) (eJ P t) - pgi P f) (P.drop (pgi P f))]
  rw[List.drop_drop,show pgi P f+(max (pgi P f) (eJ P t) - pgi P f)=max (pgi P f) (eJ P t) by omega]
 unfold wlk;rw[qn (g:=fun es=>es.filter (btw f t)) (fun es he=>DK (O.pair.1 es (lM he)) f t),sw]
 conv=>rhs;rw[b]
 rw[List.flatten_append,List.flatten_append,List.filter_append,List.filter_append,hA,u,List.nil_append,List.append_nil]
end
end Pg
end
section
namespace Pg
open Go.RowKit Go.Lib
attribute [local go_sem] Oper.semAt_some
section
variable {w:World}{k n c p B:Nat}{es:List En}
theorem pB{a:Act}{op:Oper}{x y b:Nat}(j:op.op=.indexAddr 30 (.tmp x) (.tmp y))(hx:a.eval (.tmp x)=.slice (some ⟨b,0,none⟩) n c){z:Int}(hy:a.eval (.tmp y)=.int .i64 z)(g:z=(k:Int))(m:k < n):(execOp a.eval op).run Tryz.prog w=.ok (.value (.pointer (some ⟨b,k * 2,none⟩))) w:=by
 subst g
 have o:(k:Int) < n:=by omega
 have l:¬ ((k:Int) < 0):=by omega
 obtain⟨i0,hi,d,f,i⟩:=info_parts (P:=Tryz.prog) KQ.inf;simp only[execOp,j,hx,hy];go_simp
theorem zA{w':World}{e i j i2 f:Nat}{a b c d:Value}(h:w.cell? ⟨p,i,none⟩=some a/\w.cell? ⟨p,j,none⟩=some b/\w.cell? ⟨e,i2,none⟩=some c/\w.cell? ⟨e,f,none⟩=some d)(k:p < w.heap.size)(g:e < w.heap.size)(hb:Below w.heap.size w w') :
  w'.cell? ⟨p,i,none⟩=some a/\w'.cell? ⟨p,j,none⟩=some b/\w'.cell? ⟨e,i2,none⟩=some c/\w'.cell? ⟨e,f,none⟩=some d:=by
 refine⟨?_,?_,?_,?_⟩
 ·rw[hb.cell (p:=⟨p,i,none⟩) k];exact h.1
 ·rw[hb.cell (p:=⟨p,j,none⟩) k];exact h.2.1
 ·rw[hb.cell (p:=⟨e,i2,none⟩) g];exact h.2.2.1
 ·rw[hb.cell (p:=⟨e,f,none⟩) g];exact h.2.2.2
theorem qz:∀ {es:List En} {k:Nat} {e:En},es[k]?=some e->(flat es)[k * 2]?=some e.kv/\(flat es)[k * 2+1]?=some e.vv
 | [],k,e,h=>by simp at h
 | a :: es,0,e,h=>by simp at h;subst h;exact⟨rfl,rfl⟩
 | a :: es,k + 1,e,h=>by
  have:=qz (es:=es) (k:=k) (e:=e) (by simpa using h);rw[show (k+1) * 2=k * 2+1+1 by omega];simpa[flat] using this
theorem PrA.cells(h:PrA w B (.slice (some ⟨p,0,none⟩) n c) es){e:En}(a:es[k]?=some e):w.cell? ⟨p,k * 2,none⟩=some e.kv/\w.cell? ⟨p,k * 2+1,none⟩=some e.vv/\p < w.heap.size:=by
 rcases h.ex with⟨e1,rfl⟩ | ⟨b,c',e1,hl,hR⟩
 ·simp at a
 ·cases e1;obtain⟨f,d⟩:=qz a;exact⟨hR.cell f,hR.cell d,hR.lt⟩
theorem sZ{B':Nat}{u v:Value}{a b:List En}(I:PrA w B u a)(hb:PrA w B' v b)(C:a.map En.kl2=b.map En.kl2)(r:∀ e∈a,e.kl.length<=1000000000/\e.vl.length<=1000000000)(hn:a.length<=1000000000) :
  Calls Tryz.prog 22 #[u,v] w fun e w'=>e=.returned (.bool true)/\Below w.heap.size w w':=by
 obtain⟨ao,c,rfl⟩:=I.shape;obtain⟨bo,d,rfl⟩:=hb.shape
 have P:b.length=a.length:=by have:=congrArg List.length C;simpa using this.symm
 rw[P] at hb ⊢;obtain⟨n,D⟩:∃ n,Hid (a.length=n):=⟨_,rfl⟩
 rw[D.out] at I hb hn ⊢
 have U:Hid _:=I
 have HB:Hid _:=hb
 have HQ:Hid _:=C
 have HG:Hid _:=r
 have HL:Hid (b.length=n):=by show _=_;rw[P];exact D.out
 clear I hb C r P;go_enter Tryz.func22,Tryz.ntmps22;go_wp2_with fail;go_loopw [5] (fun L wr=>∃ k:Nat,k<=n/\L=.int .i64 k/\Below w.heap.size w wr) (fun L _=>n - (intOf L).toNat)
 case atStart=>exact⟨0,Nat.zero_le _,rfl,Below.refl _ _⟩
 case round =>
  obtain⟨k,hk,rfl,E⟩:=hrel;by_cases g:k < n
  ·obtain⟨x,hx⟩:∃ x,a[k]?=some x:=⟨a[k]'(by have:=D.out;omega),List.getElem?_eq_getElem _⟩
   obtain⟨y,hy⟩:∃ y,b[k]?=some y:=⟨b[k]'(by have:=HL.out;omega),List.getElem?_eq_getElem _⟩
   obtain⟨p,e1⟩:∃ p,ao=some ⟨p,0,none⟩:=by
    rcases U.out.ex with⟨_,e⟩ | ⟨p,c',e,_⟩
    ·subst e;simp at hx
    ·cases e;exact⟨p,rfl⟩
   obtain⟨m,e2⟩:∃ p,bo=some ⟨p,0,none⟩:=by
    rcases HB.out.ex with⟨_,e⟩ | ⟨p,c',e,_⟩
    ·subst e;simp at hy
    ·cases e;exact⟨p,rfl⟩
   subst e1 e2;have o:=ai E (cy wr);have Q:=U.out.keep o;have K:=HB.out.keep o;have X:=Q.bX x (List.mem_of_getElem? hx);have Y:=K.bX y (List.mem_of_getElem? hy);obtain⟨Z,V,H⟩:=Q.cells hx;obtain⟨W,y2,q⟩:=K.cells hy
   have z:x.kl2=y.kl2:=by
    have e:=congrArg (fun l=>l[k]?) HQ.out;simp only[List.getElem?_map,hx,hy] at e;exact Option.some.inj e
   have i:x.kl=y.kl:=congrArg Prod.fst z
   have j:x.vl=y.vl:=congrArg Prod.snd z;obtain⟨F,G⟩:=HG.out x (List.mem_of_getElem? hx)
   have T:y.kl.length<=1000000000:=by rw[<- i];exact F
   have M:y.vl.length<=1000000000:=by rw[<- j];exact G
   have J:(k:Int) < n:=by omega
   have O:Hid _:=i
   have N:Hid _:=j
   have HX:Hid _:=X
   have HY:Hid _:=Y
   have HC:Hid (wr.drew.cell? ⟨p,k * 2,none⟩=some x.kv/\wr.drew.cell? ⟨p,k * 2+1,none⟩=some x.vv/\wr.drew.cell? ⟨m,k * 2,none⟩=some y.kv/\wr.drew.cell? ⟨m,k * 2+1,none⟩=some y.vv):=⟨Z,V,W,y2⟩
   clear i j X Y Q K z hx hy Z V W y2;go_wp2_with fail;have X:=HX.out;have Y:=HY.out;have i:=O.out;have j:=N.out;have hS:=HC.out;refine bJ (S:=fun w'=>w'.cell? ⟨p,k * 2,none⟩=some x.kv/\w'.cell? ⟨p,k * 2+1,none⟩=some x.vv/\w'.cell? ⟨m,k * 2,none⟩=some y.kv/\w'.cell? ⟨m,k * 2+1,none⟩=some y.vv) (by kernel_rfl) hS ?_
   refine ax 0 17 (.slice (some ⟨p,0,none⟩) n c) (by kernel_rfl) (fun _ _=>by kernel_rfl) i3 hS ?_
   refine ax 1 18 (.int .i64 k) (by kernel_rfl) (fun _ _=>by kernel_rfl) i3 hS ?_
   refine ax 2 19 (.pointer (some ⟨p,k * 2,none⟩)) (by kernel_rfl) (fun _ _=>pB (x:=17) (y:=18) (k:=k) (n:=n) (c:=c) (by kernel_rfl) (by kernel_rfl) (by kernel_rfl) rfl g) i3 hS ?_
   refine ax 3 20 (.pointer (some ⟨p,k * 2,none⟩)) (by kernel_rfl) (fun _ _=>by kernel_rfl) i3 hS ?_
   refine aN 4 (some 21) (x.kv) 36 20 (p) (k * 2) (by kernel_rfl) (by kernel_rfl) (by kernel_rfl) (fun w' h=>yl h.1) i3 hS ?_
   refine ax 5 22 (.slice (some ⟨m,0,none⟩) n d) (by kernel_rfl) (fun _ _=>by kernel_rfl) i3 hS ?_
   refine ax 6 23 (.int .i64 k) (by kernel_rfl) (fun _ _=>by kernel_rfl) i3 hS ?_
   refine ax 7 24 (.pointer (some ⟨m,k * 2,none⟩)) (by kernel_rfl) (fun _ _=>pB (x:=22) (y:=23) (k:=k) (n:=n) (c:=d) (by kernel_rfl) (by kernel_rfl) (by kernel_rfl) rfl g) i3 hS ?_
   refine ax 8 25 (.pointer (some ⟨m,k * 2,none⟩)) (by kernel_rfl) (fun _ _=>by kernel_rfl) i3 hS ?_
   refine aN 9 (some 26) (y.kv) 36 25 (m) (k * 2) (by kernel_rfl) (by kernel_rfl) (by kernel_rfl) (fun w' h=>yl h.2.2.1) i3 hS ?_
   refine bQ 10 (some 27) 61 #[x.kv,y.kv] (by kernel_rfl) (by kernel_rfl) (ec X.k.by Y.k.by F T) ?_
   rintro e' w2 ⟨rfl,f⟩;rw[decide_eq_true i];have A:=zA hS H q f;refine⟨_,rfl,A,?_⟩;clear hS;have hS:=A;refine ax 11 28 (.bool false) (by kernel_rfl) (fun _ _=>by kernel_rfl) i3 hS ?_
   refine ax 12 29 (.bool false) (by kernel_rfl) (fun _ _=>by kernel_rfl) i3 hS ?_
   refine ax 13 30 (.slice (some ⟨p,0,none⟩) n c) (by kernel_rfl) (fun _ _=>by kernel_rfl) i3 hS ?_
   refine ax 14 31 (.int .i64 k) (by kernel_rfl) (fun _ _=>by kernel_rfl) i3 hS ?_
   refine ax 15 32 (.pointer (some ⟨p,k * 2,none⟩)) (by kernel_rfl) (fun _ _=>pB (x:=30) (y:=31) (k:=k) (n:=n) (c:=c) (by kernel_rfl) (by kernel_rfl) (by kernel_rfl) rfl g) i3 hS ?_
   refine ax 16 33 (.pointer (some ⟨p,k * 2+1,none⟩)) (by kernel_rfl) (fun _ _=>by kernel_rfl) i3 hS ?_
   refine aN 17 (some 34) (x.vv) 36 33 (p) (k * 2+1) (by kernel_rfl) (by kernel_rfl) (by kernel_rfl) (fun w' h=>yl h.2.1) i3 hS ?_
   refine ax 18 35 (.slice (some ⟨m,0,none⟩) n d) (by kernel_rfl) (fun _ _=>by kernel_rfl) i3 hS ?_
   refine ax 19 36 (.int .i64 k) (by kernel_rfl) (fun _ _=>by kernel_rfl) i3 hS ?_
   refine ax 20 37 (.pointer (some ⟨m,k * 2,none⟩)) (by kernel_rfl) (fun _ _=>pB (x:=35) (y:=36) (k:=k) (n:=n) (c:=d) (by kernel_rfl) (by kernel_rfl) (by kernel_rfl) rfl g) i3 hS ?_
   refine ax 21 38 (.pointer (some ⟨m,k * 2+1,none⟩)) (by kernel_rfl) (fun _ _=>by kernel_rfl) i3 hS ?_
   refine aN 22 (some 39) (y.vv) 36 38 (m) (k * 2+1) (by kernel_rfl) (by kernel_rfl) (by kernel_rfl) (fun w' h=>yl h.2.2.2) i3 hS ?_
   refine bQ 23 (some 40) 61 #[x.vv,y.vv] (by kernel_rfl) (by kernel_rfl) (ec (X.v.keep f).by (Y.v.keep f).by G M) ?_
   rintro e' w3 ⟨rfl,t⟩;rw[decide_eq_true j];have s:=zA hS (Nat.lt_of_lt_of_le H f.size) (Nat.lt_of_lt_of_le q f.size) t;refine⟨_,rfl,s,?_⟩;clear hS A;have hS:=s;refine ax 24 41 (.bool false) (by kernel_rfl) (fun _ _=>by kernel_rfl) i3 hS ?_
   refine ax 25 42 (.bool false) (by kernel_rfl) (fun _ _=>by kernel_rfl) i3 hS ?_
   refine bh (by kernel_rfl) ?_
   simp only[Act.put,List.setIfInBounds_toArray,List.set_cons_zero,List.set_cons_succ]
   have R:Hid _:=ai (ai o f) t;clear X Y i j hS s f t o E;go_wp2;go_roundw
   case rel=>exact⟨k+1,by omega,by go_num,R.out⟩
   case measure=>simp[intOf];omega
  ·have J:¬ ((k:Int) < n):=by omega
   have HK:Hid _:=g;clear g;go_wp2;go_ret;exact⟨rfl,E⟩
end
end Pg
end
section
namespace Pg
section
variable {P:List (List En)}{e:En}{k:List Int}
theorem fT(O:Ord P)(hn:has P e.kl=false):∃ X Y,P.flatten=X ++ Y/\(eU P e).flatten=X ++ e :: Y/\(∀ x∈X,Lt x.kl e.kl)/\(∀ y∈Y,Lt e.kl y.kl):=by
 by_cases a:P=[]
 ·subst a;exact⟨[],[],rfl,by simp[eU],by simp,by simp⟩
 obtain⟨A,es,B,X,Y,e1,e2,e3,c,b⟩:=qe O a hn;refine⟨A.flatten ++ X,Y ++ B.flatten,by rw[e1,e2];simp,?_,c,b⟩;rw[e3];split
 ·rw[List.flatten_append,List.flatten_cons,List.flatten_cons,<- List.append_assoc (List.take 16 _),List.take_append_drop];simp
 ·simp
theorem gi(O:Ord P)(a:has P e.kl=true):∃ X x Y,P.flatten=X ++ x :: Y/\x.kl=e.kl/\(eU P e).flatten=X ++ { x with vv:=e.vv,vl:=e.vl } :: Y:=by
 obtain⟨A,es,B,X,x,Y,e1,e2,e3,b⟩:=pU O a;refine⟨A.flatten ++ X,x,Y ++ B.flatten,by rw[e1,e2];simp,e3,by rw[b];simp⟩
theorem mY{i:Nat}(h:jnb P i=true):(jnQ P i).flatten=P.flatten:=by
 obtain⟨A,a,b,B,e1,e2,e3,_⟩:=jm h;rw[e3,e1];simp
theorem nR(O:Ord P)(a:has P k=true):∃ X x Y,P.flatten=X ++ x :: Y/\x.kl=k/\(gK P k).flatten=X ++ Y:=by
 obtain⟨A,es,B,X,x,Y,e1,e2,e3,b,_⟩:=kh O a;refine⟨A.flatten ++ X,x,Y ++ B.flatten,by rw[e1,e2];simp,e3,?_⟩
 have g:(A ++ (X ++ Y) :: B).flatten=A.flatten ++ X ++ (Y ++ B.flatten):=by simp
 rw[b,<- g];split
 ·rename_i h;rw[h];simp
 ·split
  ·rename_i h;exact mY h
  ·split
   ·rename_i h;exact mY h.2
   ·rfl
theorem sn(hk:has P k=false):gK P k=P:=by unfold gK;rw[hk];rfl
theorem DJ(O:Ord P)(e:En):(eU P e).flatten.length=P.flatten.length + if has P e.kl then 0 else 1:=by
 cases h:has P e.kl
 ·obtain⟨X,Y,e1,e2,_⟩:=fT O h;rw[e1,e2];simp;omega
 ·obtain⟨X,x,Y,e1,_,e2⟩:=gi O h;rw[e1,e2];simp
end
section
variable {P:List (List En)}{k:List Int}
abbrev KV:=List Int × List Int
def abs(P:List (List En)):List (List KV):=P.map fun es=>es.map En.kl2
def apl(Q:List (List KV))(k:List Int):Nat:=plq (Q.map fun es=>(es.map Prod.fst).headD []) k - 1
def gl(Q:List (List KV))(k:List Int):Bool:=!Q.isEmpty && thr ((Q.getD (apl Q k) []).map Prod.fst) k
def xP(Q:List (List KV))(k:List Int):List Int:=((Q.getD (apl Q k) [])[plc ((Q.getD (apl Q k) []).map Prod.fst) k]?.map Prod.snd).getD []
def ains(Q:List (List KV))(i q:Nat)(x:KV):List (List KV) :=
 let es:=(Q.getD i []).take q ++ [x] ++ (Q.getD i []).drop q
 if 32 < es.length then Q.take i ++ [es.take 16,es.drop 16] ++ Q.drop (i+1) else Q.set i es
def xL(Q:List (List KV))(k v:List Int):List (List KV) :=
 if Q=[] then [[(k,v)]]
 else
  let i:=apl Q k
  let es:=Q.getD i []
  let q:=plc (es.map Prod.fst) k
  if thr (es.map Prod.fst) k then Q.set i (es.modify q fun x=>(x.1,v)) else ains Q i q (k,v)
def CZ(Q:List (List KV))(i:Nat):Bool:=decide (i+1 < Q.length) && decide ((Q.getD i []).length+(Q.getD (i+1) []).length<=16)
def ajn(Q:List (List KV))(i:Nat):List (List KV):=Q.take i ++ [Q.getD i [] ++ Q.getD (i+1) []] ++ Q.drop (i+2)
def arm(Q:List (List KV))(i q:Nat):List (List KV) :=
 let es:=(Q.getD i []).take q ++ (Q.getD i []).drop (q+1)
 if es=[] then Q.take i ++ Q.drop (i+1)
 else
  let Q1:=Q.set i es
  if CZ Q1 i then ajn Q1 i else if 1<=i/\CZ Q1 (i - 1) then ajn Q1 (i - 1) else Q1
def tJ(Q:List (List KV))(k:List Int):List (List KV) :=
 if gl Q k then arm Q (apl Q k) (plc ((Q.getD (apl Q k) []).map Prod.fst) k) else Q
def iL(f t:List Int)(x:KV):Bool:=!decide (Lt x.1 f) && (decide (t=[]) || decide (Lt x.1 t))
theorem jq(es:List En):(es.map En.kl2).map Prod.fst=kys es:=by rw[List.map_map];rfl
theorem dJ(P:List (List En))(i:Nat):(abs P).getD i []=(P.getD i []).map En.kl2:=by
 simp only[abs,List.getD_eq_getElem?_getD,List.getElem?_map]
 cases P[i]? <;> rfl
theorem lW(P:List (List En))(k:List Int):apl (abs P) k=pgi P k:=by
 unfold apl pgi abs fks;rw[List.map_map];congr 2
 apply List.map_congr_left;intro es _;simp only[Function.comp_apply,jq]
theorem fS(P:List (List En))(k:List Int):gl (abs P) k=has P k:=by
 unfold gl has;rw[lW,dJ,jq]
 cases P<;>rfl
theorem Dj(P:List (List En))(k:List Int):xP (abs P) k=got P k:=by
 unfold xP got;rw[lW,dJ,jq,List.getElem?_map,Option.map_map];rfl
theorem nQ{α β:Type}{f:α->α}{g:α->β}{f':β->β}(h:∀ x,g (f x)=f' (g x)):∀ (l:List α) (q:Nat),(l.modify q f).map g=(l.map g).modify q f'
 | [],q=>by cases q<;>rfl
 | a :: l,0=>by simp[h]
 | a :: l,q+1=>by simp[nQ h l q]
theorem DC:abs P=[]<->P=[]:=by simp[abs]
theorem iY(P:List (List En))(i:Nat)(es:List En):abs (P.set i es)=(abs P).set i (es.map En.kl2):=by simp[abs,List.map_set]
theorem EK(P:List (List En)):(abs P).length=P.length:=by simp[abs]
theorem Dn(P:List (List En))(i q:Nat)(e:En):abs (rQ P i q e)=ains (abs P) i q (e.kl,e.vl):=by
 have h:(((abs P).getD i []).take q ++ [(e.kl,e.vl)] ++ ((abs P).getD i []).drop q)=((P.getD i []).take q ++ [e] ++ (P.getD i []).drop q).map En.kl2:=by
  rw[dJ];simp[List.map_take,List.map_drop,En.kl2]
 unfold ains rQ;simp only;rw[h];simp only[List.length_map];split
 ·simp[abs,List.map_take,List.map_drop]
 ·rw[iY]
theorem rn(P:List (List En))(e:En):abs (eU P e)=xL (abs P) e.kl e.vl:=by
 unfold eU xL;by_cases h:P=[]
 ·subst h;rfl
 rw[if_neg h,if_neg (fun e=>h (DC.1 e))];simp only;rw[lW,dJ,jq];split
 ·rw[iY,nQ (f':=fun x=>(x.1,e.vl)) (fun x=>rfl)]
 ·rw[Dn]
theorem vy(P:List (List En))(i:Nat):CZ (abs P) i=jnb P i:=by
 unfold CZ jnb;rw[dJ,dJ,EK,List.length_map,List.length_map]
theorem BH(P:List (List En))(i:Nat):ajn (abs P) i=abs (jnQ P i):=by
 unfold ajn jnQ;rw[dJ,dJ];simp[abs,List.map_take,List.map_drop]
theorem vF(P:List (List En))(k:List Int):abs (gK P k)=tJ (abs P) k:=by
 unfold gK tJ;rw[fS];split
 ·rw[lW,dJ,jq];unfold rmQ arm;simp only;rw[dJ]
  have h:∀ q,(((P.getD (pgi P k) []).map En.kl2).take q ++ ((P.getD (pgi P k) []).map En.kl2).drop (q + 1))=((P.getD (pgi P k) []).take q ++ (P.getD (pgi P k) []).drop (q + 1)).map En.kl2:=fun q=>by
   simp[List.map_take,List.map_drop]
  rw[h,<- iY,vy,vy,BH,BH];simp only[List.map_eq_nil_iff];split
  ·simp[abs,List.map_take,List.map_drop]
  ·split
   ·rfl
   ·split<;>rfl
 ·rfl
theorem dn(P:List (List En)):(abs P).flatten=P.flatten.map En.kl2:=by
 unfold abs;rw[List.map_flatten]
theorem zL(O:Ord P)(f t:List Int):(wlk P f t).map En.kl2=(abs P).flatten.filter (iL f t):=by
 rw[DA O,dn,List.filter_map];rfl
def j0(Q:List (List KV)):Prop:=∃ P,abs P=Q/\Ord P
theorem j0.flat{Q:List (List KV)}(h:j0 Q):Q.flatten.Pairwise fun x y=>Lt x.1 y.1:=by
 obtain⟨P,rfl,O⟩:=h;rw[dn,List.pairwise_map];exact O.flat
theorem j0.iw{Q:List (List KV)}(h:j0 Q)(v:List Int)(hn:gl Q k=false):∃ X Y,Q.flatten=X ++ Y/\(xL Q k v).flatten=X ++ (k,v) :: Y/\(∀ x∈X,Lt x.1 k)/\(∀ y∈Y,Lt k y.1):=by
 obtain⟨P,rfl,O⟩:=h;rw[fS] at hn;obtain⟨X,Y,e1,e2,b,a⟩:=fT O (e:=⟨undef,k,undef,v⟩) hn;refine⟨X.map En.kl2,Y.map En.kl2,by rw[dn,e1,List.map_append],?_,?_,?_⟩
 ·rw[<- rn P ⟨undef,k,undef,v⟩,dn,e2];simp[En.kl2]
 ·intro x hx;obtain⟨e,he,rfl⟩:=List.mem_map.1 hx;exact b e he
 ·intro x hx;obtain⟨e,he,rfl⟩:=List.mem_map.1 hx;exact a e he
theorem j0.vZ{Q:List (List KV)}(h:j0 Q)(v:List Int)(hn:gl Q k=true):∃ X x Y,Q.flatten=X ++ (k,x) :: Y/\(xL Q k v).flatten=X ++ (k,v) :: Y:=by
 obtain⟨P,rfl,O⟩:=h;rw[fS] at hn;obtain⟨X,x,Y,e1,hx,e2⟩:=gi O (e:=⟨undef,k,undef,v⟩) hn;refine⟨X.map En.kl2,x.vl,Y.map En.kl2,?_,?_⟩
 ·rw[dn,e1];simp[En.kl2,hx]
 ·rw[<- rn P ⟨undef,k,undef,v⟩,dn,e2];simp[En.kl2,hx]
theorem j0.Et{Q:List (List KV)}(h:j0 Q)(hn:gl Q k=true):∃ X x Y,Q.flatten=X ++ (k,x) :: Y/\(tJ Q k).flatten=X ++ Y:=by
 obtain⟨P,rfl,O⟩:=h;rw[fS] at hn;obtain⟨X,x,Y,e1,hx,e2⟩:=nR O hn;refine⟨X.map En.kl2,x.vl,Y.map En.kl2,?_,?_⟩
 ·rw[dn,e1];simp[En.kl2,hx]
 ·rw[<- vF P k,dn,e2];simp
theorem xC{Q:List (List KV)}(hn:gl Q k=false):tJ Q k=Q:=by
 unfold tJ;rw[hn];rfl
end
end Pg
end
end Go.Proofs.YtidnifmehnjipaaGreat
